/- keelsonlaw2.VersionEpochs: called with any arguments that can be read it returns true, and its arguments read as before. Condition: the library variables that the row lists hold what the program text lays in them, which the card ties to that text. -/
import Derived.Test.YtklkefmbmagplaaDoorVerShown
import Derived.Test.YtklkefmbmagplaaDoorOrderP
import Derived.Test.YtklkefmbmagplaaDoorDoor
import Derived.WalkKit
import Derived.ProofKit
import Derived.OpenShut
import Derived.SevenTiedAt
import Derived.Outline
set_option maxRecDepth 100000
set_option linter.unusedVariables false
set_option linter.unusedSimpArgs false
namespace Go.Proofs.YtklkefmbmagplaaDoor.versionEpochs
open Go.ChangeShapes Go.WideShapes Go.ChangeAt Go.RowKit

theorem cmpV_lt {m n : Int} (h : m < n) {u1 r1 u2 r2 : List Nat} : cmpV m u1 r1 n u2 r2 = -1 := by unfold cmpV; rw [if_pos (by omega), if_pos h]
theorem cmpV_gt {m n : Int} (h : m < n) {u1 r1 u2 r2 : List Nat} : cmpV n u1 r1 m u2 r2 = 1 := by unfold cmpV; rw [if_pos (by omega), if_neg (by omega)]
theorem cmpV_self {m : Int} {u r s : List Nat} : cmpV m u r m u s = cmpS r s := by unfold cmpV; rw [if_neg (by simp), if_neg (by rw [cmpS_self]; simp)]
theorem keep_al {w : World} {o : Obj} {b : Nat} {x y z : Value} (h0 : w.cell? ⟨b, 0, none⟩ = some x) (h1 : w.cell? ⟨b, 1, none⟩ = some y) (h2 : w.cell? ⟨b, 2, none⟩ = some z) :
    (w.alloc o).cell? ⟨b, 0, none⟩ = some x ∧ (w.alloc o).cell? ⟨b, 1, none⟩ = some y ∧ (w.alloc o).cell? ⟨b, 2, none⟩ = some z := ⟨cell_old' h0, cell_old' h1, cell_old' h2⟩
set_option maxHeartbeats 4000000 in
theorem walk (e1 : Int) (u1 r1 : ByteArray) (e2 : Int) (u2 r2 : ByteArray) (m n : Int) (w : World) (_ : (Lit.int .i64 e1).wf = true) (hu1 : u1.size ≤ maxLen) (hr1 : r1.size ≤ maxLen) (_ : (Lit.int .i64 e2).wf = true) (hu2 : u2.size ≤ maxLen) (hr2 : r2.size ≤ maxLen) (wm : (Lit.int .i64 m).wf = true) (wn : (Lit.int .i64 n).wf = true) (E : Env w) :
    Calls Tryd.prog 8 #[.agg #[.int .i64 e1, .string u1, .string r1], .agg #[.int .i64 e2, .string u2, .string r2], .int .i64 m, .int .i64 n] w fun e w' => e = .returned (.bool true) ∧ Below w.heap.size w w' := by
  have HE := Lib.hid E
  have S := Lib.hid (fun w E => shown_any w E)
  clear E
  go_enter Tryd.func8, Tryd.ntmps8
  go_wp2_with fail
  refine (S.out _ ((HE.out.alloc _).alloc _)).mono ?_
  rintro e' w1 ⟨rfl, hb1⟩
  obtain ⟨⟨c0, c1, c2⟩, ⟨f0, f1, f2⟩, ⟨d0, d1, d2⟩, ⟨j0, j1, j2⟩, hB⟩ := str_cells rfl hb1
  have hz : w.heap.size + 2 ≤ w1.heap.size := by have := hb1.size; simpa using this
  have HB := Lib.hid hB
  clear hb1 hB
  by_cases g0 : (100 : Int) < (u1.size : Int)
  · go_wp2
    go_ret
    exact ⟨rfl, HB.out⟩
  by_cases g1 : (100 : Int) < (r1.size : Int)
  · go_wp2
    go_ret
    exact ⟨rfl, HB.out⟩
  by_cases g2 : (100 : Int) < (u2.size : Int)
  · go_wp2
    go_ret
    exact ⟨rfl, HB.out⟩
  by_cases g3 : (100 : Int) < (r2.size : Int)
  · go_wp2
    go_ret
    exact ⟨rfl, HB.out⟩
  have K1 := Lib.hid (fun w => vcmp_any u1 u2 w (by omega) (by omega))
  have K2 := Lib.hid (fun w => vcmp_any r1 r2 w (by omega) (by omega))
  have K3 := Lib.hid (fun w => vcompare_any m n u1 r1 u2 r2 w (by omega) (by omega) (by omega) (by omega))
  have K4 := Lib.hid (fun w => vcompare_any n m u2 r2 u1 r1 w (by omega) (by omega) (by omega) (by omega))
  have K5 := Lib.hid (fun w => vcompare_any m m u1 r1 u1 { data := #[] } w (by omega) (by omega) (by omega) (by decide))
  have K6 := Lib.hid (fun w => vcmp_any r1 { data := #[] } w (by omega) (by decide))
  clear f1 f2 j1 j2
  by_cases hx : cmpS (B u1) (B u2) = 0
  · have VEQ := Lib.hid (show ∀ m, cmpV m (B u1) (B r1) m (B u2) (B r2) = cmpS (B r1) (B r2) from fun m => by unfold cmpV; rw [if_neg (by simp), if_neg (by simp [hx])])
    rw [hx] at K1
    clear hx
    generalize hy : cmpS (B r1) (B r2) = y at *
    clear hy
    go_wp2_with fail
    refine (K1.out _).mono ?_
    rintro e' w2 ⟨rfl, hb⟩
    have hz2 : w.heap.size + 2 ≤ w2.heap.size := by have := hb.size; omega
    obtain ⟨c0, c1, c2⟩ := cell3 hb ⟨c0, c1, c2⟩
    obtain ⟨d0, d1, d2⟩ := cell3 hb ⟨d0, d1, d2⟩
    replace f0 := (hb.frozen (p := ⟨w.heap.size, 0, none⟩) (by simp only; omega)).trans f0
    replace j0 := (hb.frozen (p := ⟨w.heap.size + 1, 0, none⟩) (by simp only; omega)).trans j0
    have HB2 := Lib.hid (bel_2 HB.out hb)
    clear hb hz
    go_wp2_with fail
    refine (K2.out _).mono ?_
    rintro e' w3 ⟨rfl, hb⟩
    have hz3 : w.heap.size + 2 ≤ w3.heap.size := by have := hb.size; omega
    obtain ⟨c0, c1, c2⟩ := cell3 hb ⟨c0, c1, c2⟩
    obtain ⟨d0, d1, d2⟩ := cell3 hb ⟨d0, d1, d2⟩
    replace f0 := (hb.frozen (p := ⟨w.heap.size, 0, none⟩) (by simp only; omega)).trans f0
    replace j0 := (hb.frozen (p := ⟨w.heap.size + 1, 0, none⟩) (by simp only; omega)).trans j0
    have HB3 := Lib.hid (bel_2 HB2.out hb)
    clear hb hz2
    go_wp2_with fail
    obtain ⟨V, hV⟩ : ∃ V, V = (w3.setCell ⟨w.heap.size, 0, none⟩ (.int .i64 m)).setCell ⟨w.heap.size + 1, 0, none⟩ (.int .i64 n) := ⟨_, rfl⟩
    have k0 : V.cell? ⟨w.heap.size, 0, none⟩ = some (.int .i64 m) := by rw [hV]; simp [go_sem, c0]
    have k1 : V.cell? ⟨w.heap.size, 1, none⟩ = some (.string u1) := by rw [hV]; simp [go_sem, c1]
    have k2 : V.cell? ⟨w.heap.size, 2, none⟩ = some (.string r1) := by rw [hV]; simp [go_sem, c2]
    have l0 : V.cell? ⟨w.heap.size + 1, 0, none⟩ = some (.int .i64 n) := by rw [hV]; simp [go_sem, d0]
    have l1 : V.cell? ⟨w.heap.size + 1, 1, none⟩ = some (.string u2) := by rw [hV]; simp [go_sem, d1]
    have l2 : V.cell? ⟨w.heap.size + 1, 2, none⟩ = some (.string r2) := by rw [hV]; simp [go_sem, d2]
    have hzV : w.heap.size + 2 ≤ V.heap.size := by rw [hV]; simpa using hz3
    have HV := Lib.hid (show Below w.heap.size w V by rw [hV]; exact (HB3.out.setCell (by simp) _).setCell (by simp) _)
    rw [← hV]
    clear hV c0 c1 c2 d0 d1 d2 f0 j0 hz3
    rcases Int.lt_trichotomy m n with hmn | hmn | hmn
    · have t1 : (m != n) = true := by rw [bne_iff_ne]; omega
      rw [cmpV_lt hmn] at K3
      rw [cmpV_gt hmn] at K4
      go_wp2_with fail
      refine (K3.out _).mono ?_
      rintro e' w7 ⟨rfl, hb⟩
      have hz7 : w.heap.size + 2 ≤ w7.heap.size := by have := hb.size; omega
      obtain ⟨k0, k1, k2⟩ := cell3 hb ⟨k0, k1, k2⟩
      obtain ⟨l0, l1, l2⟩ := cell3 hb ⟨l0, l1, l2⟩
      have HB7 := Lib.hid (bel_2 HV.out hb)
      clear hb
      go_wp2_with fail
      refine (K4.out _).mono ?_
      rintro e' w8 ⟨rfl, hb⟩
      have HB8 := Lib.hid (bel_2 HB7.out hb)
      clear hb
      go_wp2
      go_ret
      first | exact ⟨rfl, HB8.out⟩ | exact ⟨by show Ending.returned (.bool (!decide (m < n))) = _; rw [decide_eq_false (by omega)]; rfl, HB8.out⟩
    · subst hmn
      have t1 : (m != m) = false := by simp
      rw [VEQ.out m] at K3
      rw [cmpV_self] at K5
      generalize cmpS (B r1) (B { data := #[] }) = z at *
      go_wp2_with fail
      refine (K3.out _).mono ?_
      rintro e' w7 ⟨rfl, hb⟩
      have hz7 : w.heap.size + 2 ≤ w7.heap.size := by have := hb.size; omega
      obtain ⟨k0, k1, k2⟩ := cell3 hb ⟨k0, k1, k2⟩
      obtain ⟨l0, l1, l2⟩ := cell3 hb ⟨l0, l1, l2⟩
      have HB7 := Lib.hid (bel_2 HV.out hb)
      clear hb
      obtain ⟨q0, q1, q2⟩ := keep_al (w := w7) (o := .cells #[.int .i64 m, .string u1, .string { data := #[] }] 23) k0 k1 k2
      go_wp2_with fail
      refine (K5.out _).mono ?_
      rintro e' w8 ⟨rfl, hb⟩
      have HA := Lib.hid (show Below w.heap.size w (w7.alloc (.cells #[.int .i64 m, .string u1, .string { data := #[] }] 23)) from HB7.out.alloc (by omega) _)
      have g2 : w8.cell? ⟨w.heap.size, 2, none⟩ = some (.string r1) := keep_cell hb q2
      have HB8 := Lib.hid (bel_2 HA.out hb)
      clear hb q0 q1 q2 k0 k1 k2
      go_wp2_with fail
      refine (K6.out _).mono ?_
      rintro e' w9 ⟨rfl, hb⟩
      have HB9 := Lib.hid (bel_2 HB8.out hb)
      clear hb
      go_wp2
      go_ret
      exact ⟨rfl, HB9.out⟩
    · have t1 : (m != n) = true := by rw [bne_iff_ne]; omega
      have t2 : ¬ m < n := by omega
      rw [cmpV_gt hmn] at K3
      rw [cmpV_lt hmn] at K4
      go_wp2_with fail
      refine (K3.out _).mono ?_
      rintro e' w7 ⟨rfl, hb⟩
      have hz7 : w.heap.size + 2 ≤ w7.heap.size := by have := hb.size; omega
      obtain ⟨k0, k1, k2⟩ := cell3 hb ⟨k0, k1, k2⟩
      obtain ⟨l0, l1, l2⟩ := cell3 hb ⟨l0, l1, l2⟩
      have HB7 := Lib.hid (bel_2 HV.out hb)
      clear hb
      go_wp2_with fail
      refine (K4.out _).mono ?_
      rintro e' w8 ⟨rfl, hb⟩
      have HB8 := Lib.hid (bel_2 HB7.out hb)
      clear hb
      go_wp2
      go_ret
      first | exact ⟨rfl, HB8.out⟩ | exact ⟨by show Ending.returned (.bool (!decide (m < n))) = _; rw [decide_eq_false (by omega)]; rfl, HB8.out⟩
  · have VEQ := Lib.hid (show ∀ m, cmpV m (B u1) (B r1) m (B u2) (B r2) = cmpS (B u1) (B u2) from fun m => by unfold cmpV; rw [if_neg (by simp), if_pos hx])
    have t0 : (cmpS (B u1) (B u2) == 0) = false := by rw [beq_eq_false_iff_ne]; exact hx
    clear hx
    generalize hy : cmpS (B u1) (B u2) = y at *
    clear hy
    go_wp2_with fail
    refine (K1.out _).mono ?_
    rintro e' w2 ⟨rfl, hb⟩
    have hz2 : w.heap.size + 2 ≤ w2.heap.size := by have := hb.size; omega
    obtain ⟨c0, c1, c2⟩ := cell3 hb ⟨c0, c1, c2⟩
    obtain ⟨d0, d1, d2⟩ := cell3 hb ⟨d0, d1, d2⟩
    replace f0 := (hb.frozen (p := ⟨w.heap.size, 0, none⟩) (by simp only; omega)).trans f0
    replace j0 := (hb.frozen (p := ⟨w.heap.size + 1, 0, none⟩) (by simp only; omega)).trans j0
    have HB2 := Lib.hid (bel_2 HB.out hb)
    clear hb hz
    go_wp2_with fail
    obtain ⟨V, hV⟩ : ∃ V, V = (w2.setCell ⟨w.heap.size, 0, none⟩ (.int .i64 m)).setCell ⟨w.heap.size + 1, 0, none⟩ (.int .i64 n) := ⟨_, rfl⟩
    have k0 : V.cell? ⟨w.heap.size, 0, none⟩ = some (.int .i64 m) := by rw [hV]; simp [go_sem, c0]
    have k1 : V.cell? ⟨w.heap.size, 1, none⟩ = some (.string u1) := by rw [hV]; simp [go_sem, c1]
    have k2 : V.cell? ⟨w.heap.size, 2, none⟩ = some (.string r1) := by rw [hV]; simp [go_sem, c2]
    have l0 : V.cell? ⟨w.heap.size + 1, 0, none⟩ = some (.int .i64 n) := by rw [hV]; simp [go_sem, d0]
    have l1 : V.cell? ⟨w.heap.size + 1, 1, none⟩ = some (.string u2) := by rw [hV]; simp [go_sem, d1]
    have l2 : V.cell? ⟨w.heap.size + 1, 2, none⟩ = some (.string r2) := by rw [hV]; simp [go_sem, d2]
    have hzV : w.heap.size + 2 ≤ V.heap.size := by rw [hV]; simpa using hz2
    have HV := Lib.hid (show Below w.heap.size w V by rw [hV]; exact (HB2.out.setCell (by simp) _).setCell (by simp) _)
    rw [← hV]
    clear hV c0 c1 c2 d0 d1 d2 f0 j0 hz2
    rcases Int.lt_trichotomy m n with hmn | hmn | hmn
    · have t1 : (m != n) = true := by rw [bne_iff_ne]; omega
      rw [cmpV_lt hmn] at K3
      rw [cmpV_gt hmn] at K4
      go_wp2_with fail
      refine (K3.out _).mono ?_
      rintro e' w7 ⟨rfl, hb⟩
      have hz7 : w.heap.size + 2 ≤ w7.heap.size := by have := hb.size; omega
      obtain ⟨k0, k1, k2⟩ := cell3 hb ⟨k0, k1, k2⟩
      obtain ⟨l0, l1, l2⟩ := cell3 hb ⟨l0, l1, l2⟩
      have HB7 := Lib.hid (bel_2 HV.out hb)
      clear hb
      go_wp2_with fail
      refine (K4.out _).mono ?_
      rintro e' w8 ⟨rfl, hb⟩
      have HB8 := Lib.hid (bel_2 HB7.out hb)
      clear hb
      go_wp2
      go_ret
      first | exact ⟨rfl, HB8.out⟩ | exact ⟨by show Ending.returned (.bool (!decide (m < n))) = _; rw [decide_eq_false (by omega)]; rfl, HB8.out⟩
    · subst hmn
      have t1 : (m != m) = false := by simp
      rw [VEQ.out m] at K3
      rw [cmpV_self] at K5
      generalize cmpS (B r1) (B { data := #[] }) = z at *
      go_wp2_with fail
      refine (K3.out _).mono ?_
      rintro e' w7 ⟨rfl, hb⟩
      have hz7 : w.heap.size + 2 ≤ w7.heap.size := by have := hb.size; omega
      obtain ⟨k0, k1, k2⟩ := cell3 hb ⟨k0, k1, k2⟩
      obtain ⟨l0, l1, l2⟩ := cell3 hb ⟨l0, l1, l2⟩
      have HB7 := Lib.hid (bel_2 HV.out hb)
      clear hb
      obtain ⟨q0, q1, q2⟩ := keep_al (w := w7) (o := .cells #[.int .i64 m, .string u1, .string { data := #[] }] 23) k0 k1 k2
      go_wp2_with fail
      refine (K5.out _).mono ?_
      rintro e' w8 ⟨rfl, hb⟩
      have HA := Lib.hid (show Below w.heap.size w (w7.alloc (.cells #[.int .i64 m, .string u1, .string { data := #[] }] 23)) from HB7.out.alloc (by omega) _)
      have g2 : w8.cell? ⟨w.heap.size, 2, none⟩ = some (.string r1) := keep_cell hb q2
      have HB8 := Lib.hid (bel_2 HA.out hb)
      clear hb q0 q1 q2 k0 k1 k2
      go_wp2_with fail
      refine (K6.out _).mono ?_
      rintro e' w9 ⟨rfl, hb⟩
      have HB9 := Lib.hid (bel_2 HB8.out hb)
      clear hb
      go_wp2
      go_ret
      exact ⟨rfl, HB9.out⟩
    · have t1 : (m != n) = true := by rw [bne_iff_ne]; omega
      have t2 : ¬ m < n := by omega
      rw [cmpV_gt hmn] at K3
      rw [cmpV_lt hmn] at K4
      go_wp2_with fail
      refine (K3.out _).mono ?_
      rintro e' w7 ⟨rfl, hb⟩
      have hz7 : w.heap.size + 2 ≤ w7.heap.size := by have := hb.size; omega
      obtain ⟨k0, k1, k2⟩ := cell3 hb ⟨k0, k1, k2⟩
      obtain ⟨l0, l1, l2⟩ := cell3 hb ⟨l0, l1, l2⟩
      have HB7 := Lib.hid (bel_2 HV.out hb)
      clear hb
      go_wp2_with fail
      refine (K4.out _).mono ?_
      rintro e' w8 ⟨rfl, hb⟩
      have HB8 := Lib.hid (bel_2 HB7.out hb)
      clear hb
      go_wp2
      go_ret
      first | exact ⟨rfl, HB8.out⟩ | exact ⟨by show Ending.returned (.bool (!decide (m < n))) = _; rw [decide_eq_false (by omega)]; rfl, HB8.out⟩

theorem contract (H : Type) (enc : TypeId × Value → H) (W : World) (base : Nat) (args : Array Value) (ds gs : List (DataW H)) (before : List MemPlace)
    (hval : ∀ (j : Nat) t v, Tryd.f8.params[j]? = some t → args[j]? = some v → Value.okWide Tryd.prog W .any base t v)
    (hW : DataW.Whole enc Tryd.prog Tryd.f8.params.toList Rows.versionEpochsSpec.vars false W args.toList ds gs before) (E : Env W) :
    Calls Tryd.prog 8 args W fun e W' => ∃ v, e = .returned v ∧ Rows.versionEpochsSpec.post enc Tryd.prog Tryd.f8 false true false false W args v W' := by
  have hW' := hW
  obtain ⟨p, q, hA0, _, _, _, _⟩ := hW
  have hA : DataW.TrodAll enc Tryd.prog W 0 (fun _ => true) true Tryd.f8.params.toList args.toList ds p := hA0
  rw [Tryd.params8] at hA hval
  obtain ⟨v0, vs0, d0, ds0, p0, q0, hargs, rfl, rfl, h0, r0⟩ := trodAll_cons hA
  obtain ⟨v1, vs1, d1, ds1, p1, q1, rfl, rfl, rfl, h1, r1⟩ := trodAll_cons r0
  obtain ⟨v2, vs2, d2, ds2, p2, q2, rfl, rfl, rfl, h2, r2⟩ := trodAll_cons r1
  obtain ⟨v3, vs3, d3, ds3, p3, q3, rfl, rfl, rfl, h3, r3⟩ := trodAll_cons r2
  obtain ⟨rfl, rfl, rfl⟩ := trodAll_nil r3
  obtain rfl : args = #[v0, v1, v2, v3] := by cases args; simp_all
  obtain ⟨e0, u0, r0', rfl, w0, wu0, wr0⟩ := open_version_arg (hval 0 23 v0 rfl rfl) h0
  obtain ⟨e1, u1, r1', rfl, w1, wu1, wr1⟩ := open_version_arg (hval 1 23 v1 rfl rfl) h1
  obtain ⟨a2, rfl, _, _, w2⟩ := open_int Tryd.underlying3 (hval 2 3 v2 rfl rfl) h2
  obtain ⟨a3, rfl, _, _, w3⟩ := open_int Tryd.underlying3 (hval 3 3 v3 rfl rfl) h3
  refine (walk e0 u0 r0' e1 u1 r1' a2 a3 W w0 wu0 wr0 w1 wu1 wr1 w2 w3 E).mono fun e W' ⟨he, hb⟩ => ?_
  subst he
  refine ⟨_, rfl, law_post hW' rfl rfl rfl rfl rfl Tryd.underlying4 laid_out ?_ hb⟩
  rw [Tryd.params8]
  intro t ht
  simp at ht
  rcases ht with rfl | rfl | rfl | rfl <;> exact ⟨by kernel_rfl, of_decide_eq_true (by kernel_rfl)⟩

theorem reads (os : Os) {H : Type} (enc : TypeId × Value → H) : ∃ x, DataW.whole enc Tryd.prog ((World.laidAll Tryd.prog os laidL).forCall (fun _ _ => 0) ⟨#[], #[.agg #[.int .i64 0, .string ⟨#[]⟩, .string ⟨#[]⟩], .agg #[.int .i64 0, .string ⟨#[]⟩, .string ⟨#[]⟩], .int .i64 0, .int .i64 0], []⟩).memory Tryd.f8.params.toList Rows.versionEpochsSpec.vars false ((#[.agg #[.int .i64 0, .string ⟨#[]⟩, .string ⟨#[]⟩], .agg #[.int .i64 0, .string ⟨#[]⟩, .string ⟨#[]⟩], .int .i64 0, .int .i64 0] : Array Value)).toList 8 = some x :=
  Option.isSome_iff_exists.1 (by kernel_rfl)
theorem readsSized (os : Os) {H : Type} (enc : TypeId × Value → H) : (OpenSpec.ofChange Rows.versionEpochsSpec).bare.sizedB enc Tryd.prog Tryd.f8 false ((World.laidAll Tryd.prog os laidL).forCall (fun _ _ => 0) ⟨#[], #[.agg #[.int .i64 0, .string ⟨#[]⟩, .string ⟨#[]⟩], .agg #[.int .i64 0, .string ⟨#[]⟩, .string ⟨#[]⟩], .int .i64 0, .int .i64 0], []⟩).memory #[.agg #[.int .i64 0, .string ⟨#[]⟩, .string ⟨#[]⟩], .agg #[.int .i64 0, .string ⟨#[]⟩, .string ⟨#[]⟩], .int .i64 0, .int .i64 0] 8 = true := by kernel_rfl
theorem okWit (os : Os) : Input.okWideB Tryd.prog ((World.laidAll Tryd.prog os laidL).forCall (fun _ _ => 0) ⟨#[], #[.agg #[.int .i64 0, .string ⟨#[]⟩, .string ⟨#[]⟩], .agg #[.int .i64 0, .string ⟨#[]⟩, .string ⟨#[]⟩], .int .i64 0, .int .i64 0], []⟩) 8 ⟨#[], #[.agg #[.int .i64 0, .string ⟨#[]⟩, .string ⟨#[]⟩], .agg #[.int .i64 0, .string ⟨#[]⟩, .string ⟨#[]⟩], .int .i64 0, .int .i64 0], []⟩ = true := by kernel_rfl
theorem lifted (os : Os) (started : os.Started) (H : Type) (enc : TypeId × Value → H) (F : Stop.Interp) :
    ReturnsInHanded {} Tryd.checked os 8 .any ((OpenSpec.ofChange Rows.versionEpochsSpec).preRow enc Tryd.prog Tryd.f8 Rows.versionEpochsRow.domain false Rows.versionEpochsRow.laid) (((OpenSpec.ofChange Rows.versionEpochsSpec).at F).post enc Tryd.prog Tryd.f8 false true false false) := by
  obtain ⟨x, hx⟩ := reads os enc
  have hz := readsSized os enc
  refine returnsInHanded_of_row (C := Tryd.checked) (s := OpenSpec.ofChange Rows.versionEpochsSpec) own' started (by kernel_rfl) Tryd.func8
    ⟨World.laidAll Tryd.prog os laidL, fun _ _ => 0, ⟨#[], #[.agg #[.int .i64 0, .string ⟨#[]⟩, .string ⟨#[]⟩], .agg #[.int .i64 0, .string ⟨#[]⟩, .string ⟨#[]⟩], .int .i64 0, .int .i64 0], []⟩, door_os os, door_shaped os _, (Input.okWide_of_okWideB (base := 0) (okWit os)).1, (Input.okWide_of_okWideB (okWit os)).2,
      OpenSpec.preRow_of_cond 8 hx rfl (fun k hk => by cases hk) hz (door_met os _), by
        simp only [Assume.holds]
        exact ⟨by simp, by simp, fun _ => Modest.zero, by simp, by simp⟩⟩ ?_
  intro W base args ds gs before hval hW _ _ _ hL hsh _
  exact contract H enc W base args ds gs before hval hW (env_of hL hsh)

theorem said : Rows.VersionEpochsSaid :=
  OpenClaim.holds_of_cond 8 Tryd.f8 rfl rfl rfl rfl rfl rfl rfl ⟨rfl, rfl, rfl, rfl, rfl⟩ rfl rfl rfl rfl rfl (by kernel_rfl) Tryd.func8 (by kernel_rfl)
    (of_decide_eq_true (by kernel_rfl)) (by unfold Func.isWrapper; first | (rw [if_pos (by decide +kernel)]; kernel_rfl) | (rw [if_neg (by decide +kernel)]; exact ⟨rfl, rfl⟩))
    (fun os started H enc _ F => by rw [OpenClaim.pre_eq_preRow]; exact lifted os started H enc F)

theorem proved : Rows.VersionEpochsCardSaid :=
  Claim7.holds_tied_plain_at .later [] _ _ _ _ said (fun _ h => by cases h) (by kernel_rfl) (fun _ h => by cases h) versionEpochs_row_tie rfl ⟨rfl, rfl⟩ (by kernel_rfl) rfl
    (fun f fn hf hfn => by
      obtain rfl : f = 8 := Option.some.inj ((show Tryd.prog.funcNamed "keelson/keelsonlaw2.VersionEpochs" = some 8 by kernel_rfl).symm.trans hf) |>.symm
      obtain rfl : fn = Tryd.f8 := (Option.some.inj (Tryd.func8.symm.trans hfn)).symm
      exact ⟨by kernel_rfl, fun j t ht => by
        rw [Tryd.params8] at ht
        have hm : t ∈ [23, 3] := by have := Array.mem_of_getElem? ht; simp at this; simp [this]
        have hall : ([23, 3].all fun u => !Tryd.prog.wantsStandIn u) = true := by kernel_rfl
        exact (show Tryd.prog.wantsStandIn t = false by simpa using List.all_eq_true.1 hall t hm)⟩)
    (by kernel_rfl)
#print axioms proved
end Go.Proofs.YtklkefmbmagplaaDoor.versionEpochs
