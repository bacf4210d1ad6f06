/- Chapter 5's examples: true. Condition: the library's MaxLen holds a number. -/
import Derived.Test.YtjfenheplkoajaaDoorS5y
import Derived.Test.YtjfenheplkoajaaDoorS5s
set_option maxRecDepth 100000
set_option linter.unusedVariables false
set_option linter.unusedSimpArgs false
namespace Go.Proofs.YtjfenheplkoajaaDoor
open Go.RowKit
def ex5L : List (List Fd) := [[⟨{ data := #[65] }, { data := #[120, 10, 121] }⟩], [⟨{ data := #[66] }, { data := #[] }⟩]]
theorem ex51 : stE (B { data := #[65, 58, 32, 120, 10, 32, 121, 10, 10, 66, 58] }) = 0 := by kernel_rfl
theorem ex52 : stN (B { data := #[65, 58, 32, 120, 10, 32, 121, 10, 10, 66, 58] }) = 0 := by kernel_rfl
theorem ex53 : stL (B { data := #[65, 58, 32, 120, 10, 32, 121, 10, 10, 66, 58] }) = ex5L := by kernel_rfl
theorem ex54 : stE (B { data := #[65, 58, 32, 49, 10, 65, 58, 32, 50] }) = 7 := by kernel_rfl
theorem ex55 : stN (B { data := #[65, 58, 32, 49, 10, 65, 58, 32, 50] }) = 2 := by kernel_rfl
theorem ex56 : stE (B { data := #[32, 120] }) = 5 := by kernel_rfl
theorem ex57 : stN (B { data := #[32, 120] }) = 1 := by kernel_rfl
theorem ex58 : stE (B { data := #[65] }) = 5 := by kernel_rfl
theorem ex59 : stN (B { data := #[65] }) = 1 := by kernel_rfl
theorem stL_bad {l : List Nat} {e : Int} (h : stE l = e) (he : e ≠ 0) : stL l = [] := by unfold stL; rw [if_neg (by rw [h]; exact he)]
theorem parse5_is {s : ByteArray} {e : Int} {k : Nat} {L : List (List Fd)} (h1 : stE (B s) = e) (h2 : stN (B s) = k) (h3 : stL (B s) = L) (w : World) (E : Env5 w) : Calls Tryd.prog 10 #[.string s] w fun e' w' => (∃ A c, e' = .returned (.tuple #[.slice A L.length c, .int .i64 k, .int .i64 e]) ∧ rdStzs w' (lt_ w'.heap.size) L [.slice A L.length c]) ∧ Below w.heap.size w w' := by
  have := parse5_any s w E
  rw [h1, h2, h3] at this
  refine this.mono ?_
  rintro e' w' ⟨⟨A, n, c, rfl, hrd⟩, hb⟩
  obtain ⟨rfl, _⟩ := rdStzs_at hrd
  exact ⟨⟨A, c, rfl, hrd⟩, hb⟩
theorem two_fds {w : World} {S : Nat → Prop} {l m : List Fd} {x y : Value} (h1 : rdFds w S l [x]) (h2 : rdFds w S m [y]) : ∀ k (hk : k < [l, m].length), ∃ cs, [[x], [y]][k]? = some cs ∧ rdFds w S [l, m][k] cs
  | 0, _ => ⟨_, rfl, h1⟩
  | 1, _ => ⟨_, rfl, h2⟩
  | k + 2, hk => absurd hk (by simp)
set_option maxHeartbeats 4000000 in
theorem shown5_any (w : World) (E : Env5 w) : Calls Tryd.prog 9 #[] w fun e' w' => e' = .returned (.bool true) ∧ Below w.heap.size w w' := by
  have P1 := Lib.hid (fun w E => parse5_is ex51 ex52 ex53 w E)
  have P2 := Lib.hid (fun w E => parse5_is ex54 ex55 (stL_bad ex54 (by decide)) w E)
  have P3 := Lib.hid (fun w E => parse5_is ex56 ex57 (stL_bad ex56 (by decide)) w E)
  have P4 := Lib.hid (fun w E => parse5_is ex58 ex59 (stL_bad ex58 (by decide)) w E)
  have HE := Lib.hid E
  clear E
  have B0 := Lib.hid (Below.refl w.heap.size w)
  go_enter Tryd.func9, Tryd.ntmps9
  go_wp2_with fail
  refine (P1.out _ (HE.out.below B0.out HE.out.pos)).mono ?_
  rintro e' w1 ⟨⟨A1, c1, rfl, hr1⟩, hb⟩
  have R1 := Lib.hid hr1
  clear hr1
  have C1 := Lib.hid (bel2 B0.out hb (Nat.le_refl _))
  clear hb
  have D1 := Lib.hid (Below.refl w1.heap.size w1)
  go_wp2_with fail
  refine (P2.out _ (HE.out.below C1.out HE.out.pos)).mono ?_
  rintro e' w2 ⟨⟨A2, c2, rfl, hr2⟩, hb⟩
  clear hr2
  have C2 := Lib.hid (bel2 C1.out hb (Nat.le_refl _))
  have C3 := Lib.hid (bel2 D1.out hb (Nat.le_refl _))
  clear hb
  go_wp2_with fail
  refine (P3.out _ (HE.out.below C2.out HE.out.pos)).mono ?_
  rintro e' w3 ⟨⟨A3, c3, rfl, hr3⟩, hb⟩
  clear hr3
  have C4 := Lib.hid (bel2 C2.out hb (Nat.le_refl _))
  have C5 := Lib.hid (bel2 C3.out hb (Nat.le_refl _))
  clear hb
  go_wp2_with fail
  refine (P4.out _ (HE.out.below C4.out HE.out.pos)).mono ?_
  rintro e' w4 ⟨⟨A4, c4, rfl, hr4⟩, hb⟩
  clear hr4
  have C6 := Lib.hid (bel2 C4.out hb (Nat.le_refl _))
  have C7 := Lib.hid (bel2 C5.out hb (Nat.le_refl _))
  clear hb
  go_wp2_with fail
  refine (as5_any A1 2 c1 ex5L w4 (rdStzs_good.up (rdStzs_good.below R1.out C7.out) C7.out.size) (by decide)).mono ?_
  rintro e' w5 ⟨⟨A5, n5, c5, rfl, hr5⟩, hb⟩
  have R5 := Lib.hid hr5
  obtain ⟨rfl, _⟩ := rdStzs_at hr5
  clear hr5
  have C8 := Lib.hid (bel2 C6.out hb (Nat.le_refl _))
  have C9 := Lib.hid (bel2 C7.out hb (Nat.le_refl _))
  clear hb
  have D5 := Lib.hid (Below.refl w5.heap.size w5)
  have C10 := Lib.hid ((C8.out).alloc (C8.out).size (.cells #[.string { data := #[65] }, .string { data := #[120, 10, 121] }] 54))
  have C11 := Lib.hid ((C9.out).alloc (C9.out).size (.cells #[.string { data := #[65] }, .string { data := #[120, 10, 121] }] 54))
  have C12 := Lib.hid ((D5.out).alloc (D5.out).size (.cells #[.string { data := #[65] }, .string { data := #[120, 10, 121] }] 54))
  have C13 := Lib.hid ((C10.out).alloc (C10.out).size (.cells #[.string { data := #[66] }, .string { data := #[] }] 54))
  have C14 := Lib.hid ((C11.out).alloc (C11.out).size (.cells #[.string { data := #[66] }, .string { data := #[] }] 54))
  have C15 := Lib.hid ((C12.out).alloc (C12.out).size (.cells #[.string { data := #[66] }, .string { data := #[] }] 54))
  have C16 := Lib.hid ((C13.out).alloc (C13.out).size (.cells #[.slice (some ⟨w5.heap.size, 0, none⟩) 1 1, .slice (some ⟨w5.heap.size + 1, 0, none⟩) 1 1] 38))
  have C17 := Lib.hid ((C14.out).alloc (C14.out).size (.cells #[.slice (some ⟨w5.heap.size, 0, none⟩) 1 1, .slice (some ⟨w5.heap.size + 1, 0, none⟩) 1 1] 38))
  have C18 := Lib.hid ((C15.out).alloc (C15.out).size (.cells #[.slice (some ⟨w5.heap.size, 0, none⟩) 1 1, .slice (some ⟨w5.heap.size + 1, 0, none⟩) 1 1] 38))
  have hs3 : (((w5.alloc (.cells #[.string { data := #[65] }, .string { data := #[120, 10, 121] }] 54)).alloc (.cells #[.string { data := #[66] }, .string { data := #[] }] 54)).alloc (.cells #[.slice (some ⟨w5.heap.size, 0, none⟩) 1 1, .slice (some ⟨w5.heap.size + 1, 0, none⟩) 1 1] 38)).heap.size = w5.heap.size + 3 := by rw [World.size_alloc, World.size_alloc, World.size_alloc]
  have g0 := old_heap (.cells #[.slice (some ⟨w5.heap.size, 0, none⟩) 1 1, .slice (some ⟨w5.heap.size + 1, 0, none⟩) 1 1] 38) (old_heap (.cells #[.string { data := #[66] }, .string { data := #[] }] 54) (new_heap w5 (.cells #[.string { data := #[65] }, .string { data := #[120, 10, 121] }] 54)))
  have g1 := old_heap (.cells #[.slice (some ⟨w5.heap.size, 0, none⟩) 1 1, .slice (some ⟨w5.heap.size + 1, 0, none⟩) 1 1] 38) (new_heap (w5.alloc (.cells #[.string { data := #[65] }, .string { data := #[120, 10, 121] }] 54)) (.cells #[.string { data := #[66] }, .string { data := #[] }] 54))
  have g2 := new_heap ((w5.alloc (.cells #[.string { data := #[65] }, .string { data := #[120, 10, 121] }] 54)).alloc (.cells #[.string { data := #[66] }, .string { data := #[] }] 54)) (.cells #[.slice (some ⟨w5.heap.size, 0, none⟩) 1 1, .slice (some ⟨w5.heap.size + 1, 0, none⟩) 1 1] 38)
  rw [World.size_alloc] at g1
  rw [World.size_alloc, World.size_alloc] at g2
  have q0 := one_fd (S := lt_ (((w5.alloc (.cells #[.string { data := #[65] }, .string { data := #[120, 10, 121] }] 54)).alloc (.cells #[.string { data := #[66] }, .string { data := #[] }] 54)).alloc (.cells #[.slice (some ⟨w5.heap.size, 0, none⟩) 1 1, .slice (some ⟨w5.heap.size + 1, 0, none⟩) 1 1] 38)).heap.size) g0 (by unfold lt_; omega)
  have q1 := one_fd (S := lt_ (((w5.alloc (.cells #[.string { data := #[65] }, .string { data := #[120, 10, 121] }] 54)).alloc (.cells #[.string { data := #[66] }, .string { data := #[] }] 54)).alloc (.cells #[.slice (some ⟨w5.heap.size, 0, none⟩) 1 1, .slice (some ⟨w5.heap.size + 1, 0, none⟩) 1 1] 38)).heap.size) g1 (by unfold lt_; omega)
  have q2 := rd_block rdFds_good (S := lt_ (((w5.alloc (.cells #[.string { data := #[65] }, .string { data := #[120, 10, 121] }] 54)).alloc (.cells #[.string { data := #[66] }, .string { data := #[] }] 54)).alloc (.cells #[.slice (some ⟨w5.heap.size, 0, none⟩) 1 1, .slice (some ⟨w5.heap.size + 1, 0, none⟩) 1 1] 38)).heap.size) (l := ex5L) (css := [[.slice (some ⟨w5.heap.size, 0, none⟩) 1 1], [.slice (some ⟨w5.heap.size + 1, 0, none⟩) 1 1]]) g2 (by unfold lt_; omega) rfl rfl (two_fds q0 q1) (by decide)
  have KS := Lib.hid (same5_any A5 _ ex5L.length c5 _ _ ex5L ex5L (((w5.alloc (.cells #[.string { data := #[65] }, .string { data := #[120, 10, 121] }] 54)).alloc (.cells #[.string { data := #[66] }, .string { data := #[] }] 54)).alloc (.cells #[.slice (some ⟨w5.heap.size, 0, none⟩) 1 1, .slice (some ⟨w5.heap.size + 1, 0, none⟩) 1 1] 38)) (rdStzs_good.up (rdStzs_good.below R5.out C18.out) C18.out.size) q2)
  rw [decide_eq_true rfl] at KS
  clear hs3 g0 g1 g2 q0 q1 q2
  go_wp2_with fail
  refine KS.out.mono ?_
  rintro e' w6 ⟨rfl, hdr⟩
  have hb := hdr.below (((w5.alloc (.cells #[.string { data := #[65] }, .string { data := #[120, 10, 121] }] 54)).alloc (.cells #[.string { data := #[66] }, .string { data := #[] }] 54)).alloc (.cells #[.slice (some ⟨w5.heap.size, 0, none⟩) 1 1, .slice (some ⟨w5.heap.size + 1, 0, none⟩) 1 1] 38)).heap.size
  clear hdr
  have C19 := Lib.hid (bel2 C16.out hb (Nat.le_refl _))
  have C20 := Lib.hid (bel2 C17.out hb (Nat.le_refl _))
  have C21 := Lib.hid (bel2 C18.out hb (Nat.le_refl _))
  clear hb
  go_wp2
  go_ret
  exact ⟨rfl, C19.out⟩
end Go.Proofs.YtjfenheplkoajaaDoor
