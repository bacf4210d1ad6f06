/- Chapter 4's examples: true. -/
import Derived.Test.YtfpbeenaploaiaaGreatDoorD4rZ
set_option maxRecDepth 100000
set_option linter.unusedVariables false
set_option linter.unusedSimpArgs false
namespace Go.Proofs.YtfpbeenaploaiaaGreatDoor
open Go.RowKit
theorem two_cells {w : World} {S : Nat → Prop} (a b : Atm) : ∀ k (hk : k < [a, b].length), ∃ cs, [a.cells, b.cells][k]? = some cs ∧ rdAtm w S [a, b][k] cs
  | 0, _ => ⟨_, rfl, rfl⟩
  | 1, _ => ⟨_, rfl, rfl⟩
  | k + 2, hk => absurd hk (by simp)
theorem one_cells {w : World} {S : Nat → Prop} (a : Atm) : ∀ k (hk : k < [a].length), ∃ cs, [a.cells][k]? = some cs ∧ rdAtm w S [a][k] cs
  | 0, _ => ⟨_, rfl, rfl⟩
  | k + 1, hk => absurd hk (by simp)
theorem one_intc {w : World} {S : Nat → Prop} (a : Int) : ∀ k (hk : k < [a].length), ∃ cs, [[Value.int .i64 a]][k]? = some cs ∧ rdInt w S [a][k] cs
  | 0, _ => ⟨_, rfl, rfl⟩
  | k + 1, hk => absurd hk (by simp)
theorem two_rows {w : World} {S : Nat → Prop} {l m : List Atm} {x y : Value} (h1 : rdAtms w S l [x]) (h2 : rdAtms w S m [y]) : ∀ k (hk : k < [l, m].length), ∃ cs, [[x], [y]][k]? = some cs ∧ rdAtms w S [l, m][k] cs
  | 0, _ => ⟨_, rfl, h1⟩
  | 1, _ => ⟨_, rfl, h2⟩
  | k + 2, hk => absurd hk (by simp)
set_option maxHeartbeats 4000000 in
theorem shown4_any (w : World) (E : EnvR w) : Calls Tryz.prog 4 #[] w fun e' w' => e' = .returned (.bool true) ∧ Below w.heap.size w w' := by
  have P1 := Lib.hid (fun w E => parse4_is ex1 ex2 (by decide) w E)
  have P2 := Lib.hid (fun w E => parse4_is ex3 (depL_bad (by rw [ex3]; decide)) (by decide) w E)
  have P3 := Lib.hid (fun w E => parse4_is ex4 ex5 (by decide) w E)
  have P4 := Lib.hid (fun w E => atoms4_is ex6 ex7 (by decide) w E)
  have P5 := Lib.hid (fun w E => atoms4_is ex8 (show atL _ = [] by unfold atL; rw [if_neg (by rw [ex8]; decide)]) (by decide) w E)
  have KP := Lib.hid (fun A n c w h E => print4_any A n c [[aAB, aCD], [aEF]] w h E)
  rw [ex9] at KP
  have HE := Lib.hid E
  clear E
  have B0 := Lib.hid (Below.refl w.heap.size w)
  go_enter Tryz.func4, Tryz.ntmps4
  have C1 := Lib.hid ((B0.out).alloc (B0.out).size (.cells #[.string { data := #[97, 98] }, .int .i64 4, .string { data := #[49] }] 25))
  go_wp2_with fail
  refine (P1.out _ (HE.out.below C1.out)).mono ?_
  rintro e' w1 ⟨⟨A1, c1, rfl, hr1⟩, hb⟩
  have C2 := Lib.hid (bel2 C1.out hb (Nat.le_refl _))
  obtain ⟨a0, a1, a2⟩ := keep3 hb (new3 w (.string { data := #[97, 98] }) (.int .i64 4) (.string { data := #[49] }) 25)
  have R1 := Lib.hid hr1
  clear hb hr1
  have D1 := Lib.hid (Below.refl w1.heap.size w1)
  go_wp2_with fail
  refine (P2.out _ (HE.out.below C2.out)).mono ?_
  rintro e' w2 ⟨⟨A2, c2, rfl, hr2⟩, hb⟩
  have C3 := Lib.hid (bel2 C2.out hb (Nat.le_refl _))
  have C4 := Lib.hid (bel2 D1.out hb (Nat.le_refl _))
  clear hr2
  obtain ⟨a0, a1, a2⟩ := keep3 hb ⟨a0, a1, a2⟩
  clear hb
  go_wp2_with fail
  refine (P3.out _ (HE.out.below C3.out)).mono ?_
  rintro e' w3 ⟨⟨A3, c3, rfl, hr3⟩, hb⟩
  have C5 := Lib.hid (bel2 C3.out hb (Nat.le_refl _))
  have C6 := Lib.hid (bel2 C4.out hb (Nat.le_refl _))
  clear hr3
  obtain ⟨a0, a1, a2⟩ := keep3 hb ⟨a0, a1, a2⟩
  clear hb
  go_wp2_with fail
  refine (P4.out _ (HE.out.below C5.out)).mono ?_
  rintro e' w4 ⟨⟨A4, c4, rfl, hr4⟩, hb⟩
  have C7 := Lib.hid (bel2 C5.out hb (Nat.le_refl _))
  have C8 := Lib.hid (bel2 C6.out hb (Nat.le_refl _))
  have R4 := Lib.hid hr4
  clear hr4
  obtain ⟨a0, a1, a2⟩ := keep3 hb ⟨a0, a1, a2⟩
  clear hb
  have D4 := Lib.hid (Below.refl w4.heap.size w4)
  go_wp2_with fail
  refine (P5.out _ (HE.out.below C7.out)).mono ?_
  rintro e' w5 ⟨⟨A5, c5, rfl, hr5⟩, hb⟩
  have C9 := Lib.hid (bel2 C7.out hb (Nat.le_refl _))
  have C10 := Lib.hid (bel2 C8.out hb (Nat.le_refl _))
  have C11 := Lib.hid (bel2 D4.out hb (Nat.le_refl _))
  clear hr5
  obtain ⟨a0, a1, a2⟩ := keep3 hb ⟨a0, a1, a2⟩
  clear hb
  have C12 := Lib.hid ((C9.out).alloc (C9.out).size (.cells #[.string { data := #[97, 98] }, .int .i64 4, .string { data := #[49] }, .string { data := #[99, 100] }, .int .i64 0, .string { data := #[] }] 25))
  have C13 := Lib.hid ((C10.out).alloc (C10.out).size (.cells #[.string { data := #[97, 98] }, .int .i64 4, .string { data := #[49] }, .string { data := #[99, 100] }, .int .i64 0, .string { data := #[] }] 25))
  have C14 := Lib.hid ((C11.out).alloc (C11.out).size (.cells #[.string { data := #[97, 98] }, .int .i64 4, .string { data := #[49] }, .string { data := #[99, 100] }, .int .i64 0, .string { data := #[] }] 25))
  have C15 := Lib.hid ((C12.out).alloc (C12.out).size (.cells #[.string { data := #[101, 102] }, .int .i64 0, .string { data := #[] }] 25))
  have C16 := Lib.hid ((C13.out).alloc (C13.out).size (.cells #[.string { data := #[101, 102] }, .int .i64 0, .string { data := #[] }] 25))
  have C17 := Lib.hid ((C14.out).alloc (C14.out).size (.cells #[.string { data := #[101, 102] }, .int .i64 0, .string { data := #[] }] 25))
  have C18 := Lib.hid ((C15.out).alloc (C15.out).size (.cells #[.slice (some ⟨w5.heap.size, 0, none⟩) 2 2, .slice (some ⟨w5.heap.size + 1, 0, none⟩) 1 1] 39))
  have C19 := Lib.hid ((C16.out).alloc (C16.out).size (.cells #[.slice (some ⟨w5.heap.size, 0, none⟩) 2 2, .slice (some ⟨w5.heap.size + 1, 0, none⟩) 1 1] 39))
  have C20 := Lib.hid ((C17.out).alloc (C17.out).size (.cells #[.slice (some ⟨w5.heap.size, 0, none⟩) 2 2, .slice (some ⟨w5.heap.size + 1, 0, none⟩) 1 1] 39))
  have hs3 : (((w5.alloc (.cells #[.string { data := #[97, 98] }, .int .i64 4, .string { data := #[49] }, .string { data := #[99, 100] }, .int .i64 0, .string { data := #[] }] 25)).alloc (.cells #[.string { data := #[101, 102] }, .int .i64 0, .string { data := #[] }] 25)).alloc (.cells #[.slice (some ⟨w5.heap.size, 0, none⟩) 2 2, .slice (some ⟨w5.heap.size + 1, 0, none⟩) 1 1] 39)).heap.size = w5.heap.size + 3 := by rw [World.size_alloc, World.size_alloc, World.size_alloc]
  have g0 := old_heap (.cells #[.slice (some ⟨w5.heap.size, 0, none⟩) 2 2, .slice (some ⟨w5.heap.size + 1, 0, none⟩) 1 1] 39) (old_heap (.cells #[.string { data := #[101, 102] }, .int .i64 0, .string { data := #[] }] 25) (new_heap w5 (.cells #[.string { data := #[97, 98] }, .int .i64 4, .string { data := #[49] }, .string { data := #[99, 100] }, .int .i64 0, .string { data := #[] }] 25)))
  have g1 := old_heap (.cells #[.slice (some ⟨w5.heap.size, 0, none⟩) 2 2, .slice (some ⟨w5.heap.size + 1, 0, none⟩) 1 1] 39) (new_heap (w5.alloc (.cells #[.string { data := #[97, 98] }, .int .i64 4, .string { data := #[49] }, .string { data := #[99, 100] }, .int .i64 0, .string { data := #[] }] 25)) (.cells #[.string { data := #[101, 102] }, .int .i64 0, .string { data := #[] }] 25))
  have g2 := new_heap ((w5.alloc (.cells #[.string { data := #[97, 98] }, .int .i64 4, .string { data := #[49] }, .string { data := #[99, 100] }, .int .i64 0, .string { data := #[] }] 25)).alloc (.cells #[.string { data := #[101, 102] }, .int .i64 0, .string { data := #[] }] 25)) (.cells #[.slice (some ⟨w5.heap.size, 0, none⟩) 2 2, .slice (some ⟨w5.heap.size + 1, 0, none⟩) 1 1] 39)
  rw [World.size_alloc] at g1
  rw [World.size_alloc, World.size_alloc] at g2
  have q0 := rd_block rdAtm_good (S := lt_ (((w5.alloc (.cells #[.string { data := #[97, 98] }, .int .i64 4, .string { data := #[49] }, .string { data := #[99, 100] }, .int .i64 0, .string { data := #[] }] 25)).alloc (.cells #[.string { data := #[101, 102] }, .int .i64 0, .string { data := #[] }] 25)).alloc (.cells #[.slice (some ⟨w5.heap.size, 0, none⟩) 2 2, .slice (some ⟨w5.heap.size + 1, 0, none⟩) 1 1] 39)).heap.size) (l := [aAB, aCD]) (css := [aAB.cells, aCD.cells]) g0 (by unfold lt_; omega) rfl rfl (two_cells aAB aCD) (by decide)
  have q1 := rd_block rdAtm_good (S := lt_ (((w5.alloc (.cells #[.string { data := #[97, 98] }, .int .i64 4, .string { data := #[49] }, .string { data := #[99, 100] }, .int .i64 0, .string { data := #[] }] 25)).alloc (.cells #[.string { data := #[101, 102] }, .int .i64 0, .string { data := #[] }] 25)).alloc (.cells #[.slice (some ⟨w5.heap.size, 0, none⟩) 2 2, .slice (some ⟨w5.heap.size + 1, 0, none⟩) 1 1] 39)).heap.size) (l := [aEF]) (css := [aEF.cells]) g1 (by unfold lt_; omega) rfl rfl (one_cells aEF) (by decide)
  have q2 := rd_block rdAtms_good (S := lt_ (((w5.alloc (.cells #[.string { data := #[97, 98] }, .int .i64 4, .string { data := #[49] }, .string { data := #[99, 100] }, .int .i64 0, .string { data := #[] }] 25)).alloc (.cells #[.string { data := #[101, 102] }, .int .i64 0, .string { data := #[] }] 25)).alloc (.cells #[.slice (some ⟨w5.heap.size, 0, none⟩) 2 2, .slice (some ⟨w5.heap.size + 1, 0, none⟩) 1 1] 39)).heap.size) (l := [[aAB, aCD], [aEF]]) (css := [[.slice (some ⟨w5.heap.size, 0, none⟩) 2 2], [.slice (some ⟨w5.heap.size + 1, 0, none⟩) 1 1]]) g2 (by unfold lt_; omega) rfl rfl (two_rows q0 q1) (by decide)
  have KS := Lib.hid (same_any _ _ _ _ _ _ [[aAB, aCD], [aEF]] [[aAB, aCD], [aEF]] (((w5.alloc (.cells #[.string { data := #[97, 98] }, .int .i64 4, .string { data := #[49] }, .string { data := #[99, 100] }, .int .i64 0, .string { data := #[] }] 25)).alloc (.cells #[.string { data := #[101, 102] }, .int .i64 0, .string { data := #[] }] 25)).alloc (.cells #[.slice (some ⟨w5.heap.size, 0, none⟩) 2 2, .slice (some ⟨w5.heap.size + 1, 0, none⟩) 1 1] 39)) (rdGrps_good.up (rdGrps_good.below R1.out C19.out) C19.out.size) q2)
  rw [decide_eq_true rfl] at KS
  clear hs3 g0 g1 g2 q0 q1 q2
  go_wp2_with fail
  refine KS.out.mono ?_
  rintro e' w6 ⟨rfl, hdr⟩
  have hb := hdr.below (((w5.alloc (.cells #[.string { data := #[97, 98] }, .int .i64 4, .string { data := #[49] }, .string { data := #[99, 100] }, .int .i64 0, .string { data := #[] }] 25)).alloc (.cells #[.string { data := #[101, 102] }, .int .i64 0, .string { data := #[] }] 25)).alloc (.cells #[.slice (some ⟨w5.heap.size, 0, none⟩) 2 2, .slice (some ⟨w5.heap.size + 1, 0, none⟩) 1 1] 39)).heap.size
  clear hdr
  have C21 := Lib.hid (bel2 C18.out hb (Nat.le_refl _))
  have C22 := Lib.hid (bel2 C19.out hb (Nat.le_refl _))
  have C23 := Lib.hid (bel2 C20.out hb (Nat.le_refl _))
  clear hb
  go_wp2_with fail
  refine ((KP.out _ _ _ _ (rdGrps_good.up (rdGrps_good.below R1.out C22.out) C22.out.size) (HE.out.below C21.out))).mono ?_
  rintro e' w7 ⟨rfl, hb⟩
  have C24 := Lib.hid (bel2 C21.out hb (Nat.le_refl _))
  have C25 := Lib.hid (bel2 C22.out hb (Nat.le_refl _))
  have C26 := Lib.hid (bel2 C23.out hb (Nat.le_refl _))
  clear hb
  have C27 := Lib.hid ((C24.out).alloc (C24.out).size (.cells #[.string { data := #[97, 98] }, .int .i64 0, .string { data := #[] }, .string { data := #[99, 100] }, .int .i64 3, .string { data := #[49] }] 25))
  have C28 := Lib.hid ((C25.out).alloc (C25.out).size (.cells #[.string { data := #[97, 98] }, .int .i64 0, .string { data := #[] }, .string { data := #[99, 100] }, .int .i64 3, .string { data := #[49] }] 25))
  have C29 := Lib.hid ((C26.out).alloc (C26.out).size (.cells #[.string { data := #[97, 98] }, .int .i64 0, .string { data := #[] }, .string { data := #[99, 100] }, .int .i64 3, .string { data := #[49] }] 25))
  have hs4 : (w7.alloc (.cells #[.string { data := #[97, 98] }, .int .i64 0, .string { data := #[] }, .string { data := #[99, 100] }, .int .i64 3, .string { data := #[49] }] 25)).heap.size = w7.heap.size + 1 := by rw [World.size_alloc]
  have g3 := new_heap w7 (.cells #[.string { data := #[97, 98] }, .int .i64 0, .string { data := #[] }, .string { data := #[99, 100] }, .int .i64 3, .string { data := #[49] }] 25)
  have q3 := rd_block rdAtm_good (S := lt_ (w7.alloc (.cells #[.string { data := #[97, 98] }, .int .i64 0, .string { data := #[] }, .string { data := #[99, 100] }, .int .i64 3, .string { data := #[49] }] 25)).heap.size) (l := [aAB0, aCD1]) (css := [aAB0.cells, aCD1.cells]) g3 (by unfold lt_; omega) rfl rfl (two_cells aAB0 aCD1) (by decide)
  have KA := Lib.hid (sameAtoms_any _ _ _ _ _ _ [aAB0, aCD1] [aAB0, aCD1] (w7.alloc (.cells #[.string { data := #[97, 98] }, .int .i64 0, .string { data := #[] }, .string { data := #[99, 100] }, .int .i64 3, .string { data := #[49] }] 25)) (rdAtms_good.up (rdAtms_good.below R4.out C29.out) C29.out.size) q3)
  rw [decide_eq_true rfl] at KA
  clear hs4 g3 q3
  go_wp2_with fail
  refine KA.out.mono ?_
  rintro e' w8 ⟨rfl, hdr⟩
  have hb := hdr.below (w7.alloc (.cells #[.string { data := #[97, 98] }, .int .i64 0, .string { data := #[] }, .string { data := #[99, 100] }, .int .i64 3, .string { data := #[49] }] 25)).heap.size
  clear hdr
  have C30 := Lib.hid (bel2 C27.out hb (Nat.le_refl _))
  have C31 := Lib.hid (bel2 C28.out hb (Nat.le_refl _))
  have C32 := Lib.hid (bel2 C29.out hb (Nat.le_refl _))
  clear hb
  have C33 := Lib.hid ((C30.out).alloc (C30.out).size (.cells #[.string { data := #[99, 100] }, .int .i64 0, .string { data := #[] }] 25))
  have C34 := Lib.hid ((C31.out).alloc (C31.out).size (.cells #[.string { data := #[99, 100] }, .int .i64 0, .string { data := #[] }] 25))
  have C35 := Lib.hid ((C32.out).alloc (C32.out).size (.cells #[.string { data := #[99, 100] }, .int .i64 0, .string { data := #[] }] 25))
  have hs5 : (w8.alloc (.cells #[.string { data := #[99, 100] }, .int .i64 0, .string { data := #[] }] 25)).heap.size = w8.heap.size + 1 := by rw [World.size_alloc]
  have g4 := new_heap w8 (.cells #[.string { data := #[99, 100] }, .int .i64 0, .string { data := #[] }] 25)
  have q4 := rd_block rdAtm_good (S := lt_ (w8.alloc (.cells #[.string { data := #[99, 100] }, .int .i64 0, .string { data := #[] }] 25)).heap.size) (l := [aCD]) (css := [aCD.cells]) g4 (by unfold lt_; omega) rfl rfl (one_cells aCD) (by decide)
  have KO := Lib.hid (open_any _ _ _ _ _ _ [[aAB, aCD], [aEF]] [aCD] (w8.alloc (.cells #[.string { data := #[99, 100] }, .int .i64 0, .string { data := #[] }] 25)) (rdGrps_good.up (rdGrps_good.below R1.out C34.out) C34.out.size) q4 (by decide) (HE.out.below C33.out))
  rw [ex10] at KO
  clear hs5 g4 q4
  go_wp2_with fail
  refine (KO.out).mono ?_
  rintro e' w9 ⟨⟨A9, c9, rfl, hr9⟩, hb⟩
  have C36 := Lib.hid (bel2 C33.out hb (Nat.le_refl _))
  have C37 := Lib.hid (bel2 C34.out hb (Nat.le_refl _))
  have C38 := Lib.hid (bel2 C35.out hb (Nat.le_refl _))
  clear hb
  have C39 := Lib.hid ((C36.out).alloc (C36.out).size (.cells #[.int .i64 1] 3))
  have C40 := Lib.hid ((C37.out).alloc (C37.out).size (.cells #[.int .i64 1] 3))
  have C41 := Lib.hid ((C38.out).alloc (C38.out).size (.cells #[.int .i64 1] 3))
  have hs6 : (w9.alloc (.cells #[.int .i64 1] 3)).heap.size = w9.heap.size + 1 := by rw [World.size_alloc]
  have g5 := new_heap w9 (.cells #[.int .i64 1] 3)
  have q5 := rd_block rdInt_good (S := lt_ (w9.alloc (.cells #[.int .i64 1] 3)).heap.size) (l := [1]) (css := [[.int .i64 1]]) g5 (by unfold lt_; omega) rfl rfl (one_intc 1) (by decide)
  have KI := Lib.hid (sameInts_any _ _ _ _ _ _ [1] [1] (w9.alloc (.cells #[.int .i64 1] 3)) (rdInts_good.up (rdInts_good.below hr9 ((Below.refl w9.heap.size w9).alloc (Nat.le_refl _) (.cells #[.int .i64 1] 3))) (by rw [World.size_alloc]; omega)) q5)
  rw [decide_eq_true rfl] at KI
  clear hs6 g5 q5 hr9
  go_wp2_with fail
  refine KI.out.mono ?_
  rintro e' w10 ⟨rfl, hdr⟩
  have hb := hdr.below (w9.alloc (.cells #[.int .i64 1] 3)).heap.size
  clear hdr
  have Z := Lib.hid (bel2 C39.out hb (Nat.le_refl _))
  clear hb
  go_wp2
  go_ret
  exact ⟨rfl, Z.out⟩
end Go.Proofs.YtfpbeenaploaiaaGreatDoor
