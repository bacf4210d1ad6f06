/- keelsonlaw1.SumTurns: called with any two ints it returns true, and its arguments read as before. No condition. -/
import Derived.Test.YtobamjjonkhcfaaShown
import Derived.Test.YtobamjjonkhcfaaRef
import Derived.Test.YtobamjjonkhcfaaPost
import Derived.OpenShut
namespace Go.Proofs.Ytobamjjonkhcfaa.sumTurns
open Go.ChangeShapes Go.WideShapes Go.ChangeAt Go.RowKit

theorem mulV_comm (a b : Int) : mulV a b = mulV b a := by unfold mulV; rw [Int.mul_comm]
theorem mulE_comm (a b : Int) : mulE a b = mulE b a := by unfold mulE; rw [Int.mul_comm]
theorem walk_in (a b : Int) (w : World) (ha : InR a) (hb : InR b) (h : InR (a + b)) :
    Calls Try.prog 6 #[.int .i64 a, .int .i64 b] w fun e w' => e = .returned (.bool true) ∧ Below w.heap.size w w' := by
  have h1 := Lib.hid h
  have hba : InR (b + a) ↔ InR (a + b) := by rw [Int.add_comm]
  have c1 : ∀ W, Calls Try.prog 10 #[.int .i64 a, .int .i64 b] W fun e w' => e = .returned (.tuple #[.int .i64 (a + b), .int .i64 0]) ∧ Below W.heap.size W w' := by
    intro W
    have := Add_any a b W ha hb
    rwa [(addV_in h).1, (addV_in h).2] at this
  have c2 : ∀ W, Calls Try.prog 10 #[.int .i64 b, .int .i64 a] W fun e w' => e = .returned (.tuple #[.int .i64 (a + b), .int .i64 0]) ∧ Below W.heap.size W w' := by
    intro W
    have := Add_any b a W hb ha
    rwa [(addV_in (hba.2 h)).1, (addV_in (hba.2 h)).2, Int.add_comm b a] at this
  have c3 := fun W => Mul_any a b W ha hb
  have c4 : ∀ W, Calls Try.prog 12 #[.int .i64 b, .int .i64 a] W fun e w' => e = .returned (.tuple #[.int .i64 (mulV a b), .int .i64 (mulE a b)]) ∧ Below W.heap.size W w' := by
    intro W
    have := Mul_any b a W hb ha
    rwa [mulV_comm b a, mulE_comm b a] at this
  have c5 : ∀ W, Calls Try.prog 10 #[.int .i64 a, .int .i64 0] W fun e w' => e = .returned (.tuple #[.int .i64 a, .int .i64 0]) ∧ Below W.heap.size W w' := by
    intro W
    have := Add_any a 0 W ha (by decide)
    have hz : InR (a + 0) := by simpa using ha
    rwa [(addV_in hz).1, (addV_in hz).2, Int.add_zero] at this
  have c6 : ∀ W, Calls Try.prog 12 #[.int .i64 1, .int .i64 a] W fun e w' => e = .returned (.tuple #[.int .i64 a, .int .i64 0]) ∧ Below W.heap.size W w' := by
    intro W
    have := Mul_any 1 a W (by decide) ha
    have hz : InR (1 * a) := by simpa using ha
    rwa [(mulV_in hz).1, (mulV_in hz).2, Int.one_mul] at this
  have C1 := Lib.hid c1; have C2 := Lib.hid c2; have C3 := Lib.hid c3; have C4 := Lib.hid c4; have C5 := Lib.hid c5; have C6 := Lib.hid c6
  obtain ⟨ha1, ha2⟩ := ha
  obtain ⟨hb1, hb2⟩ := hb
  clear c1 c2 c3 c4 c5 c6 hba h
  obtain ⟨hs1, hs2⟩ := h1.out
  clear h1
  have t1 : (a + b - a == b) = true := by rw [beq_iff_eq]; omega
  have t2 : (a + b - b == a) = true := by rw [beq_iff_eq]; omega
  go_enter Try.func6, Try.ntmps6
  go_wp2_with fail
  refine (shown_any _).mono ?_
  rintro e w1 ⟨rfl, hw1⟩
  go_wp2_with fail
  refine (C1.out _).mono ?_
  rintro e w2 ⟨rfl, hw2⟩
  go_wp2_with fail
  refine (C2.out _).mono ?_
  rintro e w3 ⟨rfl, hw3⟩
  go_wp2_with fail
  refine (C3.out _).mono ?_
  rintro e w4 ⟨rfl, hw4⟩
  go_wp2_with fail
  refine (C4.out _).mono ?_
  rintro e w5 ⟨rfl, hw5⟩
  go_wp2_with fail
  refine (C5.out _).mono ?_
  rintro e w6 ⟨rfl, hw6⟩
  go_wp2_with fail
  refine (C6.out _).mono ?_
  rintro e w7 ⟨rfl, hw7⟩
  go_wp2
  go_ret
  have s1 := hw1.size
  have s2 := hw2.size
  have s3 := hw3.size
  have s4 := hw4.size
  have s5 := hw5.size
  have s6 := hw6.size
  exact ⟨rfl, (((((hw1.trans (hw2.mono (by omega))).trans (hw3.mono (by omega))).trans (hw4.mono (by omega))).trans (hw5.mono (by omega))).trans (hw6.mono (by omega))).trans (hw7.mono (by omega))⟩
theorem walk_out (a b : Int) (w : World) (ha : InR a) (hb : InR b) (h : ¬ InR (a + b)) :
    Calls Try.prog 6 #[.int .i64 a, .int .i64 b] w fun e w' => e = .returned (.bool true) ∧ Below w.heap.size w w' := by
  have h1 := Lib.hid h
  have hba : InR (b + a) ↔ InR (a + b) := by rw [Int.add_comm]
  have c1 : ∀ W, Calls Try.prog 10 #[.int .i64 a, .int .i64 b] W fun e w' => e = .returned (.tuple #[.int .i64 0, .int .i64 2]) ∧ Below W.heap.size W w' := by
    intro W
    have := Add_any a b W ha hb
    rwa [(addV_out h).1, (addV_out h).2] at this
  have c2 : ∀ W, Calls Try.prog 10 #[.int .i64 b, .int .i64 a] W fun e w' => e = .returned (.tuple #[.int .i64 0, .int .i64 2]) ∧ Below W.heap.size W w' := by
    intro W
    have := Add_any b a W hb ha
    rwa [(addV_out (fun x => h (hba.1 x))).1, (addV_out (fun x => h (hba.1 x))).2] at this
  have c3 := fun W => Mul_any a b W ha hb
  have c4 : ∀ W, Calls Try.prog 12 #[.int .i64 b, .int .i64 a] W fun e w' => e = .returned (.tuple #[.int .i64 (mulV a b), .int .i64 (mulE a b)]) ∧ Below W.heap.size W w' := by
    intro W
    have := Mul_any b a W hb ha
    rwa [mulV_comm b a, mulE_comm b a] at this
  have c5 : ∀ W, Calls Try.prog 10 #[.int .i64 a, .int .i64 0] W fun e w' => e = .returned (.tuple #[.int .i64 a, .int .i64 0]) ∧ Below W.heap.size W w' := by
    intro W
    have := Add_any a 0 W ha (by decide)
    have hz : InR (a + 0) := by simpa using ha
    rwa [(addV_in hz).1, (addV_in hz).2, Int.add_zero] at this
  have c6 : ∀ W, Calls Try.prog 12 #[.int .i64 1, .int .i64 a] W fun e w' => e = .returned (.tuple #[.int .i64 a, .int .i64 0]) ∧ Below W.heap.size W w' := by
    intro W
    have := Mul_any 1 a W (by decide) ha
    have hz : InR (1 * a) := by simpa using ha
    rwa [(mulV_in hz).1, (mulV_in hz).2, Int.one_mul] at this
  have C1 := Lib.hid c1; have C2 := Lib.hid c2; have C3 := Lib.hid c3; have C4 := Lib.hid c4; have C5 := Lib.hid c5; have C6 := Lib.hid c6
  obtain ⟨ha1, ha2⟩ := ha
  obtain ⟨hb1, hb2⟩ := hb
  clear c1 c2 c3 c4 c5 c6 hba h
  
  clear h1
  
  
  go_enter Try.func6, Try.ntmps6
  go_wp2_with fail
  refine (shown_any _).mono ?_
  rintro e w1 ⟨rfl, hw1⟩
  go_wp2_with fail
  refine (C1.out _).mono ?_
  rintro e w2 ⟨rfl, hw2⟩
  go_wp2_with fail
  refine (C2.out _).mono ?_
  rintro e w3 ⟨rfl, hw3⟩
  go_wp2_with fail
  refine (C3.out _).mono ?_
  rintro e w4 ⟨rfl, hw4⟩
  go_wp2_with fail
  refine (C4.out _).mono ?_
  rintro e w5 ⟨rfl, hw5⟩
  go_wp2_with fail
  refine (C5.out _).mono ?_
  rintro e w6 ⟨rfl, hw6⟩
  go_wp2_with fail
  refine (C6.out _).mono ?_
  rintro e w7 ⟨rfl, hw7⟩
  go_wp2
  go_ret
  have s1 := hw1.size
  have s2 := hw2.size
  have s3 := hw3.size
  have s4 := hw4.size
  have s5 := hw5.size
  have s6 := hw6.size
  exact ⟨rfl, (((((hw1.trans (hw2.mono (by omega))).trans (hw3.mono (by omega))).trans (hw4.mono (by omega))).trans (hw5.mono (by omega))).trans (hw6.mono (by omega))).trans (hw7.mono (by omega))⟩
theorem walk (a b : Int) (w : World) (ha : InR a) (hb : InR b) :
    Calls Try.prog 6 #[.int .i64 a, .int .i64 b] w fun e w' => e = .returned (.bool true) ∧ Below w.heap.size w w' := by
  by_cases h : InR (a + b)
  · exact walk_in a b w ha hb h
  · exact walk_out a b w ha hb h

set_option maxRecDepth 100000 in
theorem lifted (os : Os) (started : os.Started) (H : Type) (enc : TypeId × Value → H) :
    ReturnsInHanded {} Try.checked os 6 .any (Rows.sumTurnsSpec.pre6 enc Try.prog Try.f6 Rows.sumTurnsRow.domain false) (Rows.sumTurnsSpec.post enc Try.prog Try.f6 false true false false) := by
  refine returnsInHanded_of_change (C := Try.checked) own_none started (by kernel_rfl) Try.func6
    (ChangeSpec.witness6 (enc := enc) (C := Try.checked) false ⟨#[], #[.int .i64 0, .int .i64 0], []⟩ 8 (by kernel_rfl) (by kernel_rfl) (by kernel_rfl) (by kernel_rfl)) ?_
  intro W base args ds gs before hval0 hW hcnd _
  have hval : ∀ (j : Nat) t v, Try.f6.params[j]? = some t → args[j]? = some v → Value.okWide Try.prog W .any base t v := hval0
  have hW' := hW
  obtain ⟨p, q, hA0, hV, rfl, hfz, hnd⟩ := hW
  have hA : DataW.TrodAll enc Try.prog W 0 (fun _ => true) true Try.f6.params.toList args.toList ds p := hA0
  rw [Try.params6] at hA hval
  obtain ⟨v0, vs0, d0, ds0, p0, q0, hargs, rfl, rfl, h0, r0⟩ := trodAll_cons hA
  obtain ⟨v1, vs1, d1, ds1, p1, q1, rfl, rfl, rfl, h1, r1⟩ := trodAll_cons r0
  obtain ⟨rfl, rfl, rfl⟩ := trodAll_nil r1
  obtain rfl : args = #[v0, v1] := by cases args; simp_all
  obtain ⟨rfl, rfl⟩ := trodVars_none hV
  obtain ⟨a0, rfl, rfl, rfl, w0⟩ := open_int Try.underlying3 (hval 0 3 v0 rfl rfl) h0
  obtain ⟨a1, rfl, rfl, rfl, w1⟩ := open_int Try.underlying3 (hval 1 3 v1 rfl rfl) h1
  clear hA0 hval0
  simp only [List.append_nil] at hW'
  refine (walk a0 a1 W (inR_of_wf w0) (inR_of_wf w1)).mono fun e W' ⟨he, hb⟩ => ?_
  subst he
  exact ⟨_, rfl, post_of_below (pa := []) (pv := []) hW' (fun _ _ _ => (trodAll_cons_mk (shut_bool Try.underlying4 _) trodAll_mk0)) (fun sp _ => (trodAll_cons_mk (shut_int Try.underlying3 w0) (trodAll_cons_mk (shut_int Try.underlying3 w1) trodAll_mk0))) (fun _ _ => rfl) rfl
    hb (ok_one (by kernel_rfl) rfl (okWide_bool_mk Try.underlying4 _))⟩

theorem over : Rows.sumTurnsRow.holds Try.pinned (OpenSpec.ofChange Rows.sumTurnsSpec) :=
  OpenClaim.holds_of_wide 6 Try.f6 rfl rfl rfl rfl rfl rfl rfl ⟨rfl, rfl, rfl, rfl, rfl⟩ rfl rfl rfl rfl rfl (by kernel_rfl) Try.func6 (by kernel_rfl)
    (of_decide_eq_true (by kernel_rfl)) (by unfold Func.isWrapper; first | (rw [if_pos (by decide +kernel)]; kernel_rfl) | (rw [if_neg (by decide +kernel)]; exact ⟨rfl, rfl⟩))
    (fun os started H enc _ => lifted os started H enc)

theorem proved : Rows.SumTurnsSaid := over
#print axioms proved
end Go.Proofs.Ytobamjjonkhcfaa.sumTurns
