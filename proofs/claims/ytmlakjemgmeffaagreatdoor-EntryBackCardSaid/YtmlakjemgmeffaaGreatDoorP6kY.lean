/- The contract of the program's Read of entries: the walk. Conditions: what the library's variables hold; no field's value is longer than 65536 bytes. -/
import Derived.Test.YtmlakjemgmeffaaGreatDoorNX
set_option maxRecDepth 100000
set_option linter.unusedVariables false
set_option linter.unusedSimpArgs false
namespace Go.Proofs.YtmlakjemgmeffaaGreatDoor
open Go.RowKit
theorem fin6 {W : World} {rb N : Nat} {w : World} {a0 a1 a2 a3 a4 a5 x0 x1 x2 x3 x4 x5 : Value} (hb : Below N w W) (hN : N ≤ rb) (h0 : W.cell? ⟨rb, 0, none⟩ = some a0) (h1 : W.cell? ⟨rb, 1, none⟩ = some a1) (h2 : W.cell? ⟨rb, 2, none⟩ = some a2) (h3 : W.cell? ⟨rb, 3, none⟩ = some a3) (h4 : W.cell? ⟨rb, 4, none⟩ = some a4) (h5 : W.cell? ⟨rb, 5, none⟩ = some a5) :
    ((((((W.setCell ⟨rb, 0, none⟩ x0).setCell ⟨rb, 1, none⟩ x1).setCell ⟨rb, 2, none⟩ x2).setCell ⟨rb, 3, none⟩ x3).setCell ⟨rb, 4, none⟩ x4).setCell ⟨rb, 5, none⟩ x5).cell? ⟨rb, 0, none⟩ = some x0 ∧ ((((((W.setCell ⟨rb, 0, none⟩ x0).setCell ⟨rb, 1, none⟩ x1).setCell ⟨rb, 2, none⟩ x2).setCell ⟨rb, 3, none⟩ x3).setCell ⟨rb, 4, none⟩ x4).setCell ⟨rb, 5, none⟩ x5).cell? ⟨rb, 1, none⟩ = some x1 ∧ ((((((W.setCell ⟨rb, 0, none⟩ x0).setCell ⟨rb, 1, none⟩ x1).setCell ⟨rb, 2, none⟩ x2).setCell ⟨rb, 3, none⟩ x3).setCell ⟨rb, 4, none⟩ x4).setCell ⟨rb, 5, none⟩ x5).cell? ⟨rb, 2, none⟩ = some x2 ∧ ((((((W.setCell ⟨rb, 0, none⟩ x0).setCell ⟨rb, 1, none⟩ x1).setCell ⟨rb, 2, none⟩ x2).setCell ⟨rb, 3, none⟩ x3).setCell ⟨rb, 4, none⟩ x4).setCell ⟨rb, 5, none⟩ x5).cell? ⟨rb, 3, none⟩ = some x3 ∧ ((((((W.setCell ⟨rb, 0, none⟩ x0).setCell ⟨rb, 1, none⟩ x1).setCell ⟨rb, 2, none⟩ x2).setCell ⟨rb, 3, none⟩ x3).setCell ⟨rb, 4, none⟩ x4).setCell ⟨rb, 5, none⟩ x5).cell? ⟨rb, 4, none⟩ = some x4 ∧ ((((((W.setCell ⟨rb, 0, none⟩ x0).setCell ⟨rb, 1, none⟩ x1).setCell ⟨rb, 2, none⟩ x2).setCell ⟨rb, 3, none⟩ x3).setCell ⟨rb, 4, none⟩ x4).setCell ⟨rb, 5, none⟩ x5).cell? ⟨rb, 5, none⟩ = some x5 ∧
      Below N w ((((((W.setCell ⟨rb, 0, none⟩ x0).setCell ⟨rb, 1, none⟩ x1).setCell ⟨rb, 2, none⟩ x2).setCell ⟨rb, 3, none⟩ x3).setCell ⟨rb, 4, none⟩ x4).setCell ⟨rb, 5, none⟩ x5) ∧ (∀ b, b ≠ rb → ((((((W.setCell ⟨rb, 0, none⟩ x0).setCell ⟨rb, 1, none⟩ x1).setCell ⟨rb, 2, none⟩ x2).setCell ⟨rb, 3, none⟩ x3).setCell ⟨rb, 4, none⟩ x4).setCell ⟨rb, 5, none⟩ x5).heap[b]? = W.heap[b]?) ∧ ((((((W.setCell ⟨rb, 0, none⟩ x0).setCell ⟨rb, 1, none⟩ x1).setCell ⟨rb, 2, none⟩ x2).setCell ⟨rb, 3, none⟩ x3).setCell ⟨rb, 4, none⟩ x4).setCell ⟨rb, 5, none⟩ x5).heap.size = W.heap.size := by
  refine ⟨by simp [go_sem, h0], by simp [go_sem, h1], by simp [go_sem, h2], by simp [go_sem, h3], by simp [go_sem, h4], by simp [go_sem, h5], (((((hb.setCell hN _).setCell hN _).setCell hN _).setCell hN _).setCell hN _).setCell hN _, fun b h => ?_, by simp⟩
  rw [heap_setCell_other _ _ _ _ h, heap_setCell_other _ _ _ _ h, heap_setCell_other _ _ _ _ h, heap_setCell_other _ _ _ _ h, heap_setCell_other _ _ _ _ h, heap_setCell_other _ _ _ _ h]
theorem zv_all {w : World} {rb : Nat} (h0 : w.cell? ⟨rb, 0, none⟩ = some (.string { data := #[] })) (h1 : w.cell? ⟨rb, 1, none⟩ = some (.string { data := #[] })) (h2 : w.cell? ⟨rb, 2, none⟩ = some (.slice none 0 0)) (h3 : w.cell? ⟨rb, 3, none⟩ = some (.slice none 0 0)) (h4 : w.cell? ⟨rb, 4, none⟩ = some (.slice none 0 0)) (h5 : w.cell? ⟨rb, 5, none⟩ = some (.slice none 0 0)) : ∀ o, o < 6 → w.cell? ⟨rb, o, none⟩ = some (zv o)
  | 0, _ => h0
  | 1, _ => h1
  | 2, _ => h2
  | 3, _ => h3
  | 4, _ => h4
  | 5, _ => h5
  | _ + 6, h => absurd h (by omega)
theorem emp_c (W : World) (S : Nat → Prop) : EntC W S emp zv := ⟨rfl, rfl, rdRow_nil _ _, rdRow_nil _ _, rdRow_nil _ _, rdRow_nil _ _⟩
theorem emp_v (W : World) (S : Nat → Prop) : EntV W S emp none 0 none 0 none 0 none 0 := ⟨rdRow_nil _ _, rdRow_nil _ _, rdRow_nil _ _, rdRow_nil _ _⟩
def RdR6 (w : World) (s : Int × Ent) (e : Ending) (w' : World) : Prop := (∃ A1 c1 A2 c2 A3 c3 A4 c4, e = .returned (.tuple #[s.2.val A1 c1 A2 c2 A3 c3 A4 c4, .int .i64 s.1]) ∧ EntV w' (fun b => w.heap.size ≤ b ∧ b < w'.heap.size) s.2 A1 c1 A2 c2 A3 c3 A4 c4) ∧ Below w.heap.size w w'
theorem rdR6_none {w w' : World} (er : Int) (hb : Below w.heap.size w w') : RdR6 w (er, emp) (.returned (.tuple #[.agg #[.string { data := #[] }, .string { data := #[] }, .slice none 0 0, .slice none 0 0, .slice none 0 0, .slice none 0 0], .int .i64 er])) w' := ⟨⟨none, 0, none, 0, none, 0, none, 0, rfl, emp_v _ _⟩, hb⟩
set_option maxHeartbeats 16000000 in
theorem eread_any (A : Option Addr) (n c : Nat) (st : List Fd) (w : World) (h : rdFds w (lt_ w.heap.size) st [.slice A n c]) (hz : ∀ nm, (fstV st nm).size ≤ 65536) (E : EnvR w) :
    Calls Tryz.prog 17 #[.slice A n c] w fun e w' => RdR6 w (rdP st) e w' := by
  have hcf : ∀ (args : Array Value) (w : World), (callFunc 47 args).run Tryz.prog w = .ok (.enter 47 args) w := fun _ _ => by kernel_rfl
  have hmf : ∀ (fn : Fn) (first cap : Array Value) (w : World), (Instr.makeFunc fn first cap).run Tryz.prog w = .ok (.func fn first cap) w := fun _ _ _ _ => rfl
  have H := Lib.hid h
  have HZ := Lib.hid hz
  have HE := Lib.hid E
  have KG := Lib.hid (fun (nm : ByteArray) (W : World) (hb : Below w.heap.size w W) => get5_any A n c st nm W (rdFds_good.up (rdFds_good.below h hb) hb.size))
  have XP := Lib.hid (show rdP st = if getV st nPk = false ∨ getV st nVe = false then (6, emp) else if (rdS st).1 = 0 then rdS st else ((rdS st).1, emp) from rfl)
  obtain ⟨rfl, hnc, hcm, -⟩ := rdFds_at h
  have hcm' : c ≤ 9223372036854775807 := hcm
  clear h hz E hcm
  obtain ⟨W1, hW1⟩ : ∃ W, W = ((w.alloc (.cells #[.slice A st.length c] 32)).alloc (.cells #[.string { data := #[] }, .string { data := #[] }, .slice none 0 0, .slice none 0 0, .slice none 0 0, .slice none 0 0] 25)) := ⟨_, rfl⟩
  have B1 := Lib.hid (show Below w.heap.size w W1 by rw [hW1]; exact ((Below.refl _ w).alloc (Nat.le_refl _) _).alloc (by simp) _)
  have Q1 := Lib.hid (show W1.heap.size = w.heap.size + 2 by rw [hW1, World.size_alloc, World.size_alloc])
  have P1 := Lib.hid (show W1.cell? ⟨w.heap.size, 0, none⟩ = some (.slice A st.length c) ∧ (∀ o, o < 6 → W1.cell? ⟨w.heap.size + 1, o, none⟩ = some (zv o)) ∧ (∀ o, W1.frozen? ⟨w.heap.size + 1, o, none⟩ = false) from by
    rw [hW1]
    exact ⟨by simp [go_sem], zv_all (by simp [go_sem]) (by simp [go_sem]) (by simp [go_sem]) (by simp [go_sem]) (by simp [go_sem]) (by simp [go_sem]), fun o => by simp [go_sem]⟩)
  have q0 := P1.out.1
  go_enter Tryz.func17, Tryz.ntmps17
  go_wp2_with fail
  rw [← hW1]
  clear hW1
  refine (KG.out nPk _ B1.out).mono ?_
  rintro e w2 ⟨rfl, hb⟩
  have V2 := Lib.hid hb
  have B2 := Lib.hid (B1.out.trans (hb.mono B1.out.size))
  replace q0 := keep6 hb q0
  clear hb
  go_wp2_with fail
  refine (KG.out nVe _ B2.out).mono ?_
  rintro e w3 ⟨rfl, hb⟩
  have V3 := Lib.hid (V2.out.trans (hb.mono V2.out.size))
  have B3 := Lib.hid (B2.out.trans (hb.mono B2.out.size))
  clear hb q0
  have R3 := Lib.hid (show (∀ o, o < 6 → w3.cell? ⟨w.heap.size + 1, o, none⟩ = some (zv o)) ∧ (∀ o, w3.frozen? ⟨w.heap.size + 1, o, none⟩ = false) ∧ w3.cell? ⟨w.heap.size, 0, none⟩ = some (.slice A st.length c) ∧ w.heap.size + 2 ≤ w3.heap.size from ⟨fun o ho => keep6 V3.out (P1.out.2.1 o ho), fun o => (V3.out.frozen (p := ⟨w.heap.size + 1, o, none⟩) (by show w.heap.size + 1 < W1.heap.size; rw [Q1.out]; omega)).trans (P1.out.2.2 o), keep6 V3.out P1.out.1, by rw [← Q1.out]; exact V3.out.size⟩)
  by_cases hg : getV st nPk = false ∨ getV st nVe = false
  · have X := Lib.hid (show rdP st = (6, emp) from XP.out.trans (if_pos hg))
    have r0 := R3.out.1 0 (by decide)
    have r1 := R3.out.1 1 (by decide)
    have r2 := R3.out.1 2 (by decide)
    have r3 := R3.out.1 3 (by decide)
    have r4 := R3.out.1 4 (by decide)
    have r5 := R3.out.1 5 (by decide)
    have f0 := R3.out.2.1 0
    have f1 := R3.out.2.1 1
    have f2 := R3.out.2.1 2
    have f3 := R3.out.2.1 3
    have f4 := R3.out.2.1 4
    have f5 := R3.out.2.1 5
    obtain ⟨k0, k1, k2, k3, k4, k5, bW, -, -⟩ := fin6 (x0 := .string { data := #[] }) (x1 := .string { data := #[] }) (x2 := .slice none 0 0) (x3 := .slice none 0 0) (x4 := .slice none 0 0) (x5 := .slice none 0 0) B3.out (by omega) r0 r1 r2 r3 r4 r5
    have KK := Lib.hid (And.intro k0 (And.intro k1 (And.intro k2 (And.intro k3 (And.intro k4 (And.intro k5 bW))))))
    clear k0 k1 k2 k3 k4 k5 bW
    generalize getV st nPk = g1 at *
    generalize getV st nVe = g2 at *
    cases g1
    · clear hg
      go_wp2
      obtain ⟨k0, k1, k2, k3, k4, k5, bW⟩ := KK.out
      exact bodyPost_ret (v := .tuple #[.agg #[.string { data := #[] }, .string { data := #[] }, .slice none 0 0, .slice none 0 0, .slice none 0 0, .slice none 0 0], .int .i64 6]) (by simp [results, Tryz.results17, go_sem, k0, k1, k2, k3, k4, k5]) rfl (by rw [X.out]; exact rdR6_none 6 bW)
    · obtain rfl : g2 = false := hg.elim (fun h => absurd h (by decide)) id
      clear hg
      go_wp2
      obtain ⟨k0, k1, k2, k3, k4, k5, bW⟩ := KK.out
      exact bodyPost_ret (v := .tuple #[.agg #[.string { data := #[] }, .string { data := #[] }, .slice none 0 0, .slice none 0 0, .slice none 0 0, .slice none 0 0], .int .i64 6]) (by simp [results, Tryz.results17, go_sem, k0, k1, k2, k3, k4, k5]) rfl (by rw [X.out]; exact rdR6_none 6 bW)
  have XP2 := Lib.hid (show rdP st = if (rdS st).1 = 0 then rdS st else ((rdS st).1, emp) from XP.out.trans (if_neg hg))
  have g1 : getV st nPk = true := by cases h : getV st nPk <;> first | rfl | exact absurd (Or.inl h) hg
  have g2 : getV st nVe = true := by cases h : getV st nVe <;> first | rfl | exact absurd (Or.inr h) hg
  clear hg XP KG P1 Q1 V2 V3 B1 B2
  obtain ⟨W5, hW5⟩ : ∃ W, W = ((w3.alloc (.cells #[.string { data := #[] }, .string { data := #[] }, .slice none 0 0, .slice none 0 0, .slice none 0 0, .slice none 0 0] 25)).alloc (.cells #[.int .i64 0] 37)) := ⟨_, rfl⟩
  have hb5 : Below w3.heap.size w3 W5 := by rw [hW5]; exact ((Below.refl _ w3).alloc (Nat.le_refl _) _).alloc (by simp) _
  have R5 := Lib.hid (show RdS w w.heap.size (w.heap.size + 1) w3.heap.size (w3.heap.size + 1) (.slice A st.length c) W5 (0, emp) zv from
    ⟨⟨Nat.le_refl _, by omega, by have := R3.out.2.2.2; omega, by omega, by rw [hW5, World.size_alloc, World.size_alloc]; omega⟩, B3.out.trans (hb5.mono B3.out.size), keep6 hb5 R3.out.2.2.1, by rw [hW5]; simp [go_sem], by rw [hW5]; simp [go_sem],
      by rw [hW5]; exact zv_all (by simp [go_sem]) (by simp [go_sem]) (by simp [go_sem]) (by simp [go_sem]) (by simp [go_sem]) (by simp [go_sem]), fun o _ => by rw [hW5]; simp [go_sem], fun o ho => keep6 hb5 (R3.out.1 o ho),
      fun o ho => (hb5.frozen (p := ⟨w.heap.size + 1, o, none⟩) (by show w.heap.size + 1 < w3.heap.size; have := R3.out.2.2.2; omega)).trans (R3.out.2.1 o), emp_c _ _⟩)
  have SX := Lib.hid (show fP st (fC st (fR st (fD st (fV st (fN st (0, emp)))))) = rdS st from rfl)
  clear hb5 B3 R3
  go_wp2_with fail
  rw [← hW5]
  clear hW5
  refine (intoS_any 49 _ _ _).mono ?_
  rintro e w' ⟨rfl, rfl⟩
  go_wp2_with fail
  refine (stN_any R5.out H.out HE.out).mono ?_
  rintro e U0 ⟨rfl, cv0, hR⟩
  have Y0 := Lib.hid hR
  clear hR R5
  generalize fN st (0, emp) = s1 at *
  go_wp2_with fail
  refine (intoS_any 50 _ _ _).mono ?_
  rintro e w' ⟨rfl, rfl⟩
  go_wp2_with fail
  refine (stV_any Y0.out H.out HE.out).mono ?_
  rintro e U1 ⟨rfl, cv1, hR⟩
  have Y1 := Lib.hid hR
  clear hR Y0
  generalize fV st s1 = s2 at *
  go_wp2_with fail
  refine (intoG_any 52 _ _ _).mono ?_
  rintro e w' ⟨rfl, rfl⟩
  go_wp2_with fail
  refine (stD_any Y1.out H.out HE.out (HZ.out _)).mono ?_
  rintro e U2 ⟨rfl, cv2, hR⟩
  have Y2 := Lib.hid hR
  clear hR Y1
  generalize fD st s2 = s3 at *
  go_wp2_with fail
  refine (intoG_any 52 _ _ _).mono ?_
  rintro e w' ⟨rfl, rfl⟩
  go_wp2_with fail
  refine (stR_any Y2.out H.out HE.out (HZ.out _)).mono ?_
  rintro e U3 ⟨rfl, cv3, hR⟩
  have Y3 := Lib.hid hR
  clear hR Y2
  generalize fR st s3 = s4 at *
  go_wp2_with fail
  refine (intoA_any 54 _ _ _).mono ?_
  rintro e w' ⟨rfl, rfl⟩
  go_wp2_with fail
  refine (stC_any Y3.out H.out HE.out (HZ.out _)).mono ?_
  rintro e U4 ⟨rfl, cv4, hR⟩
  have Y4 := Lib.hid hR
  clear hR Y3
  generalize fC st s4 = s5 at *
  go_wp2_with fail
  refine (intoA_any 55 _ _ _).mono ?_
  rintro e w' ⟨rfl, rfl⟩
  go_wp2_with fail
  refine (stP_any Y4.out H.out HE.out (HZ.out _)).mono ?_
  rintro e U5 ⟨rfl, cv5, hR⟩
  have Y5 := Lib.hid hR
  clear hR Y4
  generalize fP st s5 = s6 at *
  have SX6 := Lib.hid SX.out.symm
  clear SX
  have q0 := Y5.out.cf
  by_cases h0 : s6.1 = 0
  · have X := Lib.hid (show rdP st = s6 by rw [XP2.out, SX6.out, if_pos h0])
    have hR := Y5.out.rd
    obtain ⟨e0, e1, e2, e3, e4, e5⟩ := id hR
    obtain ⟨A1, d1, v1, _⟩ := id e2
    obtain ⟨A2, d2, v2, _⟩ := id e3
    obtain ⟨A3, d3, v3, _⟩ := id e4
    obtain ⟨A4, d4, v4, _⟩ := id e5
    simp only [List.cons.injEq, and_true] at v1 v2 v3 v4
    have HV := Lib.hid (show EntV U5 (inS w.heap.size w3.heap.size (w3.heap.size + 1) (w.heap.size + 1) U5) s6.2 A1 d1 A2 d2 A3 d3 A4 d4 from ⟨by rw [← v1]; exact e2, by rw [← v2]; exact e3, by rw [← v3]; exact e4, by rw [← v4]; exact e5⟩)
    have c0 := (Y5.out.ce 0 (by decide)).trans (congrArg some e0)
    have c1 := (Y5.out.ce 1 (by decide)).trans (congrArg some e1)
    have c2 := (Y5.out.ce 2 (by decide)).trans (congrArg some v1)
    have c3 := (Y5.out.ce 3 (by decide)).trans (congrArg some v2)
    have c4 := (Y5.out.ce 4 (by decide)).trans (congrArg some v3)
    have c5 := (Y5.out.ce 5 (by decide)).trans (congrArg some v4)
    have r0 := Y5.out.cr 0 (by decide)
    have r1 := Y5.out.cr 1 (by decide)
    have r2 := Y5.out.cr 2 (by decide)
    have r3 := Y5.out.cr 3 (by decide)
    have r4 := Y5.out.cr 4 (by decide)
    have r5 := Y5.out.cr 5 (by decide)
    have f0 := Y5.out.fr 0 (by decide)
    have f1 := Y5.out.fr 1 (by decide)
    have f2 := Y5.out.fr 2 (by decide)
    have f3 := Y5.out.fr 3 (by decide)
    have f4 := Y5.out.fr 4 (by decide)
    have f5 := Y5.out.fr 5 (by decide)
    obtain ⟨k0, k1, k2, k3, k4, k5, bW, hk, hs⟩ := fin6 (x0 := .string s6.2.n) (x1 := .string s6.2.v) (x2 := .slice A1 s6.2.d.length d1) (x3 := .slice A2 s6.2.r.length d2) (x4 := .slice A3 s6.2.c.length d3) (x5 := .slice A4 s6.2.p.length d4) Y5.out.bel (by omega) r0 r1 r2 r3 r4 r5
    have KK := Lib.hid (And.intro k0 (And.intro k1 (And.intro k2 (And.intro k3 (And.intro k4 (And.intro k5 (And.intro bW (And.intro hk hs))))))))
    clear hR e0 e1 e2 e3 e4 e5 v1 v2 v3 v4 k0 k1 k2 k3 k4 k5 bW hk hs
    have H0 := Lib.hid h0
    rw [h0] at q0
    clear h0
    go_wp2
    obtain ⟨k0, k1, k2, k3, k4, k5, bW, hk, hs⟩ := KK.out
    obtain ⟨WF, hWF⟩ : ∃ WF, WF = ((((((U5.setCell ⟨w.heap.size + 1, 0, none⟩ (.string s6.2.n)).setCell ⟨w.heap.size + 1, 1, none⟩ (.string s6.2.v)).setCell ⟨w.heap.size + 1, 2, none⟩ (.slice A1 s6.2.d.length d1)).setCell ⟨w.heap.size + 1, 3, none⟩ (.slice A2 s6.2.r.length d2)).setCell ⟨w.heap.size + 1, 4, none⟩ (.slice A3 s6.2.c.length d3)).setCell ⟨w.heap.size + 1, 5, none⟩ (.slice A4 s6.2.p.length d4)) := ⟨_, rfl⟩
    rw [← hWF] at k0 k1 k2 k3 k4 k5 bW hk hs ⊢
    clear hWF
    refine bodyPost_ret (v := .tuple #[.agg #[.string s6.2.n, .string s6.2.v, .slice A1 s6.2.d.length d1, .slice A2 s6.2.r.length d2, .slice A3 s6.2.c.length d3, .slice A4 s6.2.p.length d4], .int .i64 0]) (by clear H HZ HE XP2 SX6 Y5 HV KK X H0 hcf hmf; simp [results, Tryz.results17, go_sem, k0, k1, k2, k3, k4, k5]) rfl ?_
    rw [X.out]
    refine ⟨⟨A1, d1, A2, d2, A3, d3, A4, d4, by rw [H0.out], ?_⟩, bW⟩
    exact ⟨rdGrps_good.both HV.out.d (fun b h => hk b h.2.2.2.2) fun b h => ⟨h.1, by rw [hs]; exact h.2.1⟩, rdGrps_good.both HV.out.r (fun b h => hk b h.2.2.2.2) fun b h => ⟨h.1, by rw [hs]; exact h.2.1⟩,
      rdAtms_good.both HV.out.c (fun b h => hk b h.2.2.2.2) fun b h => ⟨h.1, by rw [hs]; exact h.2.1⟩, rdAtms_good.both HV.out.p (fun b h => hk b h.2.2.2.2) fun b h => ⟨h.1, by rw [hs]; exact h.2.1⟩⟩
  · have X := Lib.hid (show rdP st = (s6.1, emp) by rw [XP2.out, SX6.out, if_neg h0])
    have t0 : (s6.1 != 0) = true := by rw [bne_iff_ne]; exact h0
    have r0 := Y5.out.cr 0 (by decide)
    have r1 := Y5.out.cr 1 (by decide)
    have r2 := Y5.out.cr 2 (by decide)
    have r3 := Y5.out.cr 3 (by decide)
    have r4 := Y5.out.cr 4 (by decide)
    have r5 := Y5.out.cr 5 (by decide)
    have f0 := Y5.out.fr 0 (by decide)
    have f1 := Y5.out.fr 1 (by decide)
    have f2 := Y5.out.fr 2 (by decide)
    have f3 := Y5.out.fr 3 (by decide)
    have f4 := Y5.out.fr 4 (by decide)
    have f5 := Y5.out.fr 5 (by decide)
    obtain ⟨k0, k1, k2, k3, k4, k5, bW, -, -⟩ := fin6 (x0 := .string { data := #[] }) (x1 := .string { data := #[] }) (x2 := .slice none 0 0) (x3 := .slice none 0 0) (x4 := .slice none 0 0) (x5 := .slice none 0 0) Y5.out.bel (by omega) r0 r1 r2 r3 r4 r5
    have KK := Lib.hid (And.intro k0 (And.intro k1 (And.intro k2 (And.intro k3 (And.intro k4 (And.intro k5 bW))))))
    have qs : ((((((U5.setCell ⟨w.heap.size + 1, 0, none⟩ (.string { data := #[] })).setCell ⟨w.heap.size + 1, 1, none⟩ (.string { data := #[] })).setCell ⟨w.heap.size + 1, 2, none⟩ (.slice none 0 0)).setCell ⟨w.heap.size + 1, 3, none⟩ (.slice none 0 0)).setCell ⟨w.heap.size + 1, 4, none⟩ (.slice none 0 0)).setCell ⟨w.heap.size + 1, 5, none⟩ (.slice none 0 0)).cell? ⟨w3.heap.size + 1, 0, none⟩ = some (.int .i64 s6.1) := by
      have hne := Y5.out.ord
      exact set_ne (set_ne (set_ne (set_ne (set_ne (set_ne q0 (blk_ne (by omega))) (blk_ne (by omega))) (blk_ne (by omega))) (blk_ne (by omega))) (blk_ne (by omega))) (blk_ne (by omega))
    clear k0 k1 k2 k3 k4 k5 bW h0
    go_wp2_with fail
    go_region
    go_wp2
    obtain ⟨k0, k1, k2, k3, k4, k5, bW⟩ := KK.out
    obtain ⟨WF, hWF⟩ : ∃ WF, WF = ((((((U5.setCell ⟨w.heap.size + 1, 0, none⟩ (.string { data := #[] })).setCell ⟨w.heap.size + 1, 1, none⟩ (.string { data := #[] })).setCell ⟨w.heap.size + 1, 2, none⟩ (.slice none 0 0)).setCell ⟨w.heap.size + 1, 3, none⟩ (.slice none 0 0)).setCell ⟨w.heap.size + 1, 4, none⟩ (.slice none 0 0)).setCell ⟨w.heap.size + 1, 5, none⟩ (.slice none 0 0)) := ⟨_, rfl⟩
    rw [← hWF] at k0 k1 k2 k3 k4 k5 bW ⊢
    clear hWF
    exact bodyPost_ret (v := .tuple #[.agg #[.string { data := #[] }, .string { data := #[] }, .slice none 0 0, .slice none 0 0, .slice none 0 0, .slice none 0 0], .int .i64 s6.1]) (by clear H HZ HE XP2 SX6 Y5 KK hcf hmf; simp [results, Tryz.results17, go_sem, k0, k1, k2, k3, k4, k5]) rfl (by rw [X.out]; exact rdR6_none _ (belD bW 1))
end Go.Proofs.YtmlakjemgmeffaaGreatDoor
