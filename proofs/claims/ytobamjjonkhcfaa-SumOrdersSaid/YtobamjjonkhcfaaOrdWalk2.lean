/- The walk of the law SumOrders where place 2 is the best of the three: it returns true. -/
import Derived.Test.YtobamjjonkhcfaaOrdBase
import Derived.Deep.RegionHeld3
namespace Go.Proofs.Ytobamjjonkhcfaa
open Go.RowKit

set_option maxHeartbeats 8000000 in
theorem walk_2 (a0 a1 a2 a3 a4 : Int) (b0 b1 b2 b3 b4 : Int) (c0 c1 c2 c3 c4 : Int) (w : World) (x y z : Int) (hv : 1 ≤ x ∨ (x ≤ 0 ∧ 1 ≤ y) ∨ (x ≤ 0 ∧ y ≤ 0 ∧ z ≤ 0)) (hk : bestN [[a0, a1, a2, a3, a4], [b0, b1, b2, b3, b4], [c0, c1, c2, c3, c4]] 3 = ((2 : Nat) : Int)) (hx1 : -1 ≤ x) (hx2 : x ≤ 1) (hy1 : -1 ≤ y) (hy2 : y ≤ 1) (hz1 : -1 ≤ z) (hz2 : z ≤ 1)
    (heq : ∀ W, (Op.equalIn 10000 32 (.agg #[.int .i64 a0, .int .i64 a1, .int .i64 a2, .int .i64 a3, .int .i64 a4]) (.agg #[.int .i64 b0, .int .i64 b1, .int .i64 b2, .int .i64 b3, .int .i64 b4])).run Try.prog W = .ok (x == 0) W)
    (r0 : cmpL [c0, c1, c2, c3, c4] [a0, a1, a2, a3, a4] ≤ 0) (r1 : cmpL [c0, c1, c2, c3, c4] [b0, b1, b2, b3, b4] ≤ 0) (r2 : cmpL [c0, c1, c2, c3, c4] [c0, c1, c2, c3, c4] ≤ 0)
    (CAB : ∀ W, Calls Try.prog 20 #[.agg #[.int .i64 a0, .int .i64 a1, .int .i64 a2, .int .i64 a3, .int .i64 a4], .agg #[.int .i64 b0, .int .i64 b1, .int .i64 b2, .int .i64 b3, .int .i64 b4]] W fun e w' => e = .returned (.int .i64 x) ∧ Below W.heap.size W w') (CBC : ∀ W, Calls Try.prog 20 #[.agg #[.int .i64 b0, .int .i64 b1, .int .i64 b2, .int .i64 b3, .int .i64 b4], .agg #[.int .i64 c0, .int .i64 c1, .int .i64 c2, .int .i64 c3, .int .i64 c4]] W fun e w' => e = .returned (.int .i64 y) ∧ Below W.heap.size W w') (CAC : ∀ W, Calls Try.prog 20 #[.agg #[.int .i64 a0, .int .i64 a1, .int .i64 a2, .int .i64 a3, .int .i64 a4], .agg #[.int .i64 c0, .int .i64 c1, .int .i64 c2, .int .i64 c3, .int .i64 c4]] W fun e w' => e = .returned (.int .i64 z) ∧ Below W.heap.size W w') (CBA : ∀ W, Calls Try.prog 20 #[.agg #[.int .i64 b0, .int .i64 b1, .int .i64 b2, .int .i64 b3, .int .i64 b4], .agg #[.int .i64 a0, .int .i64 a1, .int .i64 a2, .int .i64 a3, .int .i64 a4]] W fun e w' => e = .returned (.int .i64 (-x)) ∧ Below W.heap.size W w') :
    Calls Try.prog 7 #[.agg #[.int .i64 a0, .int .i64 a1, .int .i64 a2, .int .i64 a3, .int .i64 a4], .agg #[.int .i64 b0, .int .i64 b1, .int .i64 b2, .int .i64 b3, .int .i64 b4], .agg #[.int .i64 c0, .int .i64 c1, .int .i64 c2, .int .i64 c3, .int .i64 c4]] w fun e w' => e = .returned (.bool true) ∧ Below w.heap.size w w' := by
  have HAB := Lib.hid CAB; have HBC := Lib.hid CBC; have HAC := Lib.hid CAC; have HBA := Lib.hid CBA
  have HK := Lib.hid hk
  clear CAB CBC CAC CBA hk
  go_enter Try.func7, Try.ntmps7
  go_wp2_with fail
  refine (shown_any _).mono ?_
  rintro e w1 ⟨rfl, h1⟩
  have bw1 : Below (w.heap.size + 3) (((w.alloc (.cells #[.int .i64 a0, .int .i64 a1, .int .i64 a2, .int .i64 a3, .int .i64 a4] 32)).alloc (.cells #[.int .i64 b0, .int .i64 b1, .int .i64 b2, .int .i64 b3, .int .i64 b4] 32)).alloc (.cells #[.int .i64 c0, .int .i64 c1, .int .i64 c2, .int .i64 c3, .int .i64 c4] 32)) w1 := h1.mono (by simp)
  have s1 : w.heap.size + 3 ≤ w1.heap.size := by have := bw1.size; simp at this; omega
  clear h1
  obtain ⟨fa0, fa1, fa2, fa3, fa4, fb0, fb1, fb2, fb3, fb4, fc0, fc1, fc2, fc3, fc4⟩ := boxes a0 a1 a2 a3 a4 b0 b1 b2 b3 b4 c0 c1 c2 c3 c4 w w1 bw1
  go_wp2_with fail
  refine (HAB.out w1).mono ?_
  rintro e w2 ⟨rfl, h2⟩
  have bw2 : Below (w.heap.size + 3) (((w.alloc (.cells #[.int .i64 a0, .int .i64 a1, .int .i64 a2, .int .i64 a3, .int .i64 a4] 32)).alloc (.cells #[.int .i64 b0, .int .i64 b1, .int .i64 b2, .int .i64 b3, .int .i64 b4] 32)).alloc (.cells #[.int .i64 c0, .int .i64 c1, .int .i64 c2, .int .i64 c3, .int .i64 c4] 32)) w2 := bw1.trans (h2.mono s1)
  have s2 : w.heap.size + 3 ≤ w2.heap.size := by have := bw2.size; simp at this; omega
  clear fa0 fa1 fa2 fa3 fa4 fb0 fb1 fb2 fb3 fb4 fc0 fc1 fc2 fc3 fc4
  clear h2
  obtain ⟨fa0, fa1, fa2, fa3, fa4, fb0, fb1, fb2, fb3, fb4, fc0, fc1, fc2, fc3, fc4⟩ := boxes a0 a1 a2 a3 a4 b0 b1 b2 b3 b4 c0 c1 c2 c3 c4 w w2 bw2
  go_wp2_with fail
  refine (HBC.out w2).mono ?_
  rintro e w3 ⟨rfl, h3⟩
  have bw3 : Below (w.heap.size + 3) (((w.alloc (.cells #[.int .i64 a0, .int .i64 a1, .int .i64 a2, .int .i64 a3, .int .i64 a4] 32)).alloc (.cells #[.int .i64 b0, .int .i64 b1, .int .i64 b2, .int .i64 b3, .int .i64 b4] 32)).alloc (.cells #[.int .i64 c0, .int .i64 c1, .int .i64 c2, .int .i64 c3, .int .i64 c4] 32)) w3 := bw2.trans (h3.mono s2)
  have s3 : w.heap.size + 3 ≤ w3.heap.size := by have := bw3.size; simp at this; omega
  clear fa0 fa1 fa2 fa3 fa4 fb0 fb1 fb2 fb3 fb4 fc0 fc1 fc2 fc3 fc4
  clear h3
  obtain ⟨fa0, fa1, fa2, fa3, fa4, fb0, fb1, fb2, fb3, fb4, fc0, fc1, fc2, fc3, fc4⟩ := boxes a0 a1 a2 a3 a4 b0 b1 b2 b3 b4 c0 c1 c2 c3 c4 w w3 bw3
  go_wp2_with fail
  refine (HAC.out w3).mono ?_
  rintro e w4 ⟨rfl, h4⟩
  have bw4 : Below (w.heap.size + 3) (((w.alloc (.cells #[.int .i64 a0, .int .i64 a1, .int .i64 a2, .int .i64 a3, .int .i64 a4] 32)).alloc (.cells #[.int .i64 b0, .int .i64 b1, .int .i64 b2, .int .i64 b3, .int .i64 b4] 32)).alloc (.cells #[.int .i64 c0, .int .i64 c1, .int .i64 c2, .int .i64 c3, .int .i64 c4] 32)) w4 := bw3.trans (h4.mono s3)
  have s4 : w.heap.size + 3 ≤ w4.heap.size := by have := bw4.size; simp at this; omega
  clear fa0 fa1 fa2 fa3 fa4 fb0 fb1 fb2 fb3 fb4 fc0 fc1 fc2 fc3 fc4
  clear h4
  obtain ⟨fa0, fa1, fa2, fa3, fa4, fb0, fb1, fb2, fb3, fb4, fc0, fc1, fc2, fc3, fc4⟩ := boxes a0 a1 a2 a3 a4 b0 b1 b2 b3 b4 c0 c1 c2 c3 c4 w w4 bw4
  go_wp2_with fail
  refine (best3 a0 a1 a2 a3 a4 b0 b1 b2 b3 b4 c0 c1 c2 c3 c4 w4 32 2 HK.out).mono ?_
  rintro e w5 ⟨rfl, h5⟩
  have bw5 : Below (w.heap.size + 3) (((w.alloc (.cells #[.int .i64 a0, .int .i64 a1, .int .i64 a2, .int .i64 a3, .int .i64 a4] 32)).alloc (.cells #[.int .i64 b0, .int .i64 b1, .int .i64 b2, .int .i64 b3, .int .i64 b4] 32)).alloc (.cells #[.int .i64 c0, .int .i64 c1, .int .i64 c2, .int .i64 c3, .int .i64 c4] 32)) w5 := (bw4.alloc s4 _).trans (h5.mono (by omega))
  have s5 : w.heap.size + 3 ≤ w5.heap.size := by have := bw5.size; simp at this; omega
  clear fa0 fa1 fa2 fa3 fa4 fb0 fb1 fb2 fb3 fb4 fc0 fc1 fc2 fc3 fc4
  clear h5
  obtain ⟨fa0, fa1, fa2, fa3, fa4, fb0, fb1, fb2, fb3, fb4, fc0, fc1, fc2, fc3, fc4⟩ := boxes a0 a1 a2 a3 a4 b0 b1 b2 b3 b4 c0 c1 c2 c3 c4 w w5 bw5
  go_wp2_with fail
  refine (HBA.out w5).mono ?_
  rintro e w6 ⟨rfl, h6⟩
  have bw6 : Below (w.heap.size + 3) (((w.alloc (.cells #[.int .i64 a0, .int .i64 a1, .int .i64 a2, .int .i64 a3, .int .i64 a4] 32)).alloc (.cells #[.int .i64 b0, .int .i64 b1, .int .i64 b2, .int .i64 b3, .int .i64 b4] 32)).alloc (.cells #[.int .i64 c0, .int .i64 c1, .int .i64 c2, .int .i64 c3, .int .i64 c4] 32)) w6 := bw5.trans (h6.mono s5)
  have s6 : w.heap.size + 3 ≤ w6.heap.size := by have := bw6.size; simp at this; omega
  clear fa0 fa1 fa2 fa3 fa4 fb0 fb1 fb2 fb3 fb4 fc0 fc1 fc2 fc3 fc4
  clear h6
  obtain ⟨fa0, fa1, fa2, fa3, fa4, fb0, fb1, fb2, fb3, fb4, fc0, fc1, fc2, fc3, fc4⟩ := boxes a0 a1 a2 a3 a4 b0 b1 b2 b3 b4 c0 c1 c2 c3 c4 w w6 bw6
  rcases hv with hv | ⟨hv, hv2⟩ | ⟨hv, hv2, hv3⟩
  · go_wp2_with fail
    obtain ⟨W7, hW7⟩ : ∃ W7, W7 = w6.alloc (.cells #[.int .i64 a0, .int .i64 a1, .int .i64 a2, .int .i64 a3, .int .i64 a4, .int .i64 b0, .int .i64 b1, .int .i64 b2, .int .i64 b3, .int .i64 b4, .int .i64 c0, .int .i64 c1, .int .i64 c2, .int .i64 c3, .int .i64 c4] 32) := ⟨_, rfl⟩
    have ga0 : W7.cell? ⟨w.heap.size, 0, none⟩ = some (.int .i64 a0) := by rw [hW7]; exact cell_old fa0 _
    have ga1 : W7.cell? ⟨w.heap.size, 1, none⟩ = some (.int .i64 a1) := by rw [hW7]; exact cell_old fa1 _
    have ga2 : W7.cell? ⟨w.heap.size, 2, none⟩ = some (.int .i64 a2) := by rw [hW7]; exact cell_old fa2 _
    have ga3 : W7.cell? ⟨w.heap.size, 3, none⟩ = some (.int .i64 a3) := by rw [hW7]; exact cell_old fa3 _
    have ga4 : W7.cell? ⟨w.heap.size, 4, none⟩ = some (.int .i64 a4) := by rw [hW7]; exact cell_old fa4 _
    have gb0 : W7.cell? ⟨w.heap.size + 1, 0, none⟩ = some (.int .i64 b0) := by rw [hW7]; exact cell_old fb0 _
    have gb1 : W7.cell? ⟨w.heap.size + 1, 1, none⟩ = some (.int .i64 b1) := by rw [hW7]; exact cell_old fb1 _
    have gb2 : W7.cell? ⟨w.heap.size + 1, 2, none⟩ = some (.int .i64 b2) := by rw [hW7]; exact cell_old fb2 _
    have gb3 : W7.cell? ⟨w.heap.size + 1, 3, none⟩ = some (.int .i64 b3) := by rw [hW7]; exact cell_old fb3 _
    have gb4 : W7.cell? ⟨w.heap.size + 1, 4, none⟩ = some (.int .i64 b4) := by rw [hW7]; exact cell_old fb4 _
    have gc0 : W7.cell? ⟨w.heap.size + 1 + 1, 0, none⟩ = some (.int .i64 c0) := by rw [hW7]; exact cell_old fc0 _
    have gc1 : W7.cell? ⟨w.heap.size + 1 + 1, 1, none⟩ = some (.int .i64 c1) := by rw [hW7]; exact cell_old fc1 _
    have gc2 : W7.cell? ⟨w.heap.size + 1 + 1, 2, none⟩ = some (.int .i64 c2) := by rw [hW7]; exact cell_old fc2 _
    have gc3 : W7.cell? ⟨w.heap.size + 1 + 1, 3, none⟩ = some (.int .i64 c3) := by rw [hW7]; exact cell_old fc3 _
    have gc4 : W7.cell? ⟨w.heap.size + 1 + 1, 4, none⟩ = some (.int .i64 c4) := by rw [hW7]; exact cell_old fc4 _
    have e0 : W7.cell? ⟨w6.heap.size, 10, none⟩ = some (.int .i64 c0) := by rw [hW7]; simp [go_sem]
    have e1 : W7.cell? ⟨w6.heap.size, 11, none⟩ = some (.int .i64 c1) := by rw [hW7]; simp [go_sem]
    have e2 : W7.cell? ⟨w6.heap.size, 12, none⟩ = some (.int .i64 c2) := by rw [hW7]; simp [go_sem]
    have e3 : W7.cell? ⟨w6.heap.size, 13, none⟩ = some (.int .i64 c3) := by rw [hW7]; simp [go_sem]
    have e4 : W7.cell? ⟨w6.heap.size, 14, none⟩ = some (.int .i64 c4) := by rw [hW7]; simp [go_sem]
    have bw7 : Below (w.heap.size + 3) (((w.alloc (.cells #[.int .i64 a0, .int .i64 a1, .int .i64 a2, .int .i64 a3, .int .i64 a4] 32)).alloc (.cells #[.int .i64 b0, .int .i64 b1, .int .i64 b2, .int .i64 b3, .int .i64 b4] 32)).alloc (.cells #[.int .i64 c0, .int .i64 c1, .int .i64 c2, .int .i64 c3, .int .i64 c4] 32)) W7 := by rw [hW7]; exact bw6.alloc s6 _
    have bb := (Below.refl W7.heap.size W7).drew
    rw [← hW7]
    have s7 : w.heap.size ≤ W7.heap.size := by have := bw7.size; simp at this; omega
    clear hW7 bw1 bw2 bw3 bw4 bw5 bw6 s1 s2 s3 s4 s5 s6
    clear fa0 fa1 fa2 fa3 fa4 fb0 fb1 fb2 fb3 fb4 fc0 fc1 fc2 fc3 fc4
    go_region_held3 (fun W => W.cell? ⟨w.heap.size, 0, none⟩ = some (.int .i64 a0) ∧ W.cell? ⟨w.heap.size, 1, none⟩ = some (.int .i64 a1) ∧ W.cell? ⟨w.heap.size, 2, none⟩ = some (.int .i64 a2) ∧ W.cell? ⟨w.heap.size, 3, none⟩ = some (.int .i64 a3) ∧ W.cell? ⟨w.heap.size, 4, none⟩ = some (.int .i64 a4) ∧ W.cell? ⟨w.heap.size + 1, 0, none⟩ = some (.int .i64 b0) ∧ W.cell? ⟨w.heap.size + 1, 1, none⟩ = some (.int .i64 b1) ∧ W.cell? ⟨w.heap.size + 1, 2, none⟩ = some (.int .i64 b2) ∧ W.cell? ⟨w.heap.size + 1, 3, none⟩ = some (.int .i64 b3) ∧ W.cell? ⟨w.heap.size + 1, 4, none⟩ = some (.int .i64 b4) ∧ W.cell? ⟨w.heap.size + 1 + 1, 0, none⟩ = some (.int .i64 c0) ∧ W.cell? ⟨w.heap.size + 1 + 1, 1, none⟩ = some (.int .i64 c1) ∧ W.cell? ⟨w.heap.size + 1 + 1, 2, none⟩ = some (.int .i64 c2) ∧ W.cell? ⟨w.heap.size + 1 + 1, 3, none⟩ = some (.int .i64 c3) ∧ W.cell? ⟨w.heap.size + 1 + 1, 4, none⟩ = some (.int .i64 c4) ∧ W.cell? ⟨w6.heap.size, 10, none⟩ = some (.int .i64 c0) ∧ W.cell? ⟨w6.heap.size, 11, none⟩ = some (.int .i64 c1) ∧ W.cell? ⟨w6.heap.size, 12, none⟩ = some (.int .i64 c2) ∧ W.cell? ⟨w6.heap.size, 13, none⟩ = some (.int .i64 c3) ∧ W.cell? ⟨w6.heap.size, 14, none⟩ = some (.int .i64 c4) ∧ Below W7.heap.size W7 W) (first | go_keep | (go_split_ands; refine ⟨?_, ?_, ?_, ?_, ?_, ?_, ?_, ?_, ?_, ?_, ?_, ?_, ?_, ?_, ?_, ?_, ?_, ?_, ?_, ?_, ?_⟩ <;> first | exact keep_cell hbx (by assumption) | exact Below.trans (by assumption) (hbx.mono (Below.size (by assumption))))) ((go_at_call 20; refine (compare_five _ _ _ _ _ _ _ _ _ _ _).mono ?_; rintro e wx ⟨rfl, hbx⟩))
    go_wp2
    go_ret
    have hfin : Below W7.heap.size W7 wx := by go_split_ands; assumption
    exact ⟨rfl, (((((Below.refl _ w).alloc (Nat.le_refl _) _).alloc (by simp) _).alloc (by simp; omega) _).trans (bw7.mono (by omega))).trans (hfin.mono s7)⟩
  · go_wp2_with fail
    obtain ⟨W7, hW7⟩ : ∃ W7, W7 = w6.alloc (.cells #[.int .i64 a0, .int .i64 a1, .int .i64 a2, .int .i64 a3, .int .i64 a4, .int .i64 b0, .int .i64 b1, .int .i64 b2, .int .i64 b3, .int .i64 b4, .int .i64 c0, .int .i64 c1, .int .i64 c2, .int .i64 c3, .int .i64 c4] 32) := ⟨_, rfl⟩
    have ga0 : W7.cell? ⟨w.heap.size, 0, none⟩ = some (.int .i64 a0) := by rw [hW7]; exact cell_old fa0 _
    have ga1 : W7.cell? ⟨w.heap.size, 1, none⟩ = some (.int .i64 a1) := by rw [hW7]; exact cell_old fa1 _
    have ga2 : W7.cell? ⟨w.heap.size, 2, none⟩ = some (.int .i64 a2) := by rw [hW7]; exact cell_old fa2 _
    have ga3 : W7.cell? ⟨w.heap.size, 3, none⟩ = some (.int .i64 a3) := by rw [hW7]; exact cell_old fa3 _
    have ga4 : W7.cell? ⟨w.heap.size, 4, none⟩ = some (.int .i64 a4) := by rw [hW7]; exact cell_old fa4 _
    have gb0 : W7.cell? ⟨w.heap.size + 1, 0, none⟩ = some (.int .i64 b0) := by rw [hW7]; exact cell_old fb0 _
    have gb1 : W7.cell? ⟨w.heap.size + 1, 1, none⟩ = some (.int .i64 b1) := by rw [hW7]; exact cell_old fb1 _
    have gb2 : W7.cell? ⟨w.heap.size + 1, 2, none⟩ = some (.int .i64 b2) := by rw [hW7]; exact cell_old fb2 _
    have gb3 : W7.cell? ⟨w.heap.size + 1, 3, none⟩ = some (.int .i64 b3) := by rw [hW7]; exact cell_old fb3 _
    have gb4 : W7.cell? ⟨w.heap.size + 1, 4, none⟩ = some (.int .i64 b4) := by rw [hW7]; exact cell_old fb4 _
    have gc0 : W7.cell? ⟨w.heap.size + 1 + 1, 0, none⟩ = some (.int .i64 c0) := by rw [hW7]; exact cell_old fc0 _
    have gc1 : W7.cell? ⟨w.heap.size + 1 + 1, 1, none⟩ = some (.int .i64 c1) := by rw [hW7]; exact cell_old fc1 _
    have gc2 : W7.cell? ⟨w.heap.size + 1 + 1, 2, none⟩ = some (.int .i64 c2) := by rw [hW7]; exact cell_old fc2 _
    have gc3 : W7.cell? ⟨w.heap.size + 1 + 1, 3, none⟩ = some (.int .i64 c3) := by rw [hW7]; exact cell_old fc3 _
    have gc4 : W7.cell? ⟨w.heap.size + 1 + 1, 4, none⟩ = some (.int .i64 c4) := by rw [hW7]; exact cell_old fc4 _
    have e0 : W7.cell? ⟨w6.heap.size, 10, none⟩ = some (.int .i64 c0) := by rw [hW7]; simp [go_sem]
    have e1 : W7.cell? ⟨w6.heap.size, 11, none⟩ = some (.int .i64 c1) := by rw [hW7]; simp [go_sem]
    have e2 : W7.cell? ⟨w6.heap.size, 12, none⟩ = some (.int .i64 c2) := by rw [hW7]; simp [go_sem]
    have e3 : W7.cell? ⟨w6.heap.size, 13, none⟩ = some (.int .i64 c3) := by rw [hW7]; simp [go_sem]
    have e4 : W7.cell? ⟨w6.heap.size, 14, none⟩ = some (.int .i64 c4) := by rw [hW7]; simp [go_sem]
    have bw7 : Below (w.heap.size + 3) (((w.alloc (.cells #[.int .i64 a0, .int .i64 a1, .int .i64 a2, .int .i64 a3, .int .i64 a4] 32)).alloc (.cells #[.int .i64 b0, .int .i64 b1, .int .i64 b2, .int .i64 b3, .int .i64 b4] 32)).alloc (.cells #[.int .i64 c0, .int .i64 c1, .int .i64 c2, .int .i64 c3, .int .i64 c4] 32)) W7 := by rw [hW7]; exact bw6.alloc s6 _
    have bb := (Below.refl W7.heap.size W7).drew
    rw [← hW7]
    have s7 : w.heap.size ≤ W7.heap.size := by have := bw7.size; simp at this; omega
    clear hW7 bw1 bw2 bw3 bw4 bw5 bw6 s1 s2 s3 s4 s5 s6
    clear fa0 fa1 fa2 fa3 fa4 fb0 fb1 fb2 fb3 fb4 fc0 fc1 fc2 fc3 fc4
    go_region_held3 (fun W => W.cell? ⟨w.heap.size, 0, none⟩ = some (.int .i64 a0) ∧ W.cell? ⟨w.heap.size, 1, none⟩ = some (.int .i64 a1) ∧ W.cell? ⟨w.heap.size, 2, none⟩ = some (.int .i64 a2) ∧ W.cell? ⟨w.heap.size, 3, none⟩ = some (.int .i64 a3) ∧ W.cell? ⟨w.heap.size, 4, none⟩ = some (.int .i64 a4) ∧ W.cell? ⟨w.heap.size + 1, 0, none⟩ = some (.int .i64 b0) ∧ W.cell? ⟨w.heap.size + 1, 1, none⟩ = some (.int .i64 b1) ∧ W.cell? ⟨w.heap.size + 1, 2, none⟩ = some (.int .i64 b2) ∧ W.cell? ⟨w.heap.size + 1, 3, none⟩ = some (.int .i64 b3) ∧ W.cell? ⟨w.heap.size + 1, 4, none⟩ = some (.int .i64 b4) ∧ W.cell? ⟨w.heap.size + 1 + 1, 0, none⟩ = some (.int .i64 c0) ∧ W.cell? ⟨w.heap.size + 1 + 1, 1, none⟩ = some (.int .i64 c1) ∧ W.cell? ⟨w.heap.size + 1 + 1, 2, none⟩ = some (.int .i64 c2) ∧ W.cell? ⟨w.heap.size + 1 + 1, 3, none⟩ = some (.int .i64 c3) ∧ W.cell? ⟨w.heap.size + 1 + 1, 4, none⟩ = some (.int .i64 c4) ∧ W.cell? ⟨w6.heap.size, 10, none⟩ = some (.int .i64 c0) ∧ W.cell? ⟨w6.heap.size, 11, none⟩ = some (.int .i64 c1) ∧ W.cell? ⟨w6.heap.size, 12, none⟩ = some (.int .i64 c2) ∧ W.cell? ⟨w6.heap.size, 13, none⟩ = some (.int .i64 c3) ∧ W.cell? ⟨w6.heap.size, 14, none⟩ = some (.int .i64 c4) ∧ Below W7.heap.size W7 W) (first | go_keep | (go_split_ands; refine ⟨?_, ?_, ?_, ?_, ?_, ?_, ?_, ?_, ?_, ?_, ?_, ?_, ?_, ?_, ?_, ?_, ?_, ?_, ?_, ?_, ?_⟩ <;> first | exact keep_cell hbx (by assumption) | exact Below.trans (by assumption) (hbx.mono (Below.size (by assumption))))) ((go_at_call 20; refine (compare_five _ _ _ _ _ _ _ _ _ _ _).mono ?_; rintro e wx ⟨rfl, hbx⟩))
    go_wp2
    go_ret
    have hfin : Below W7.heap.size W7 wx := by go_split_ands; assumption
    exact ⟨rfl, (((((Below.refl _ w).alloc (Nat.le_refl _) _).alloc (by simp) _).alloc (by simp; omega) _).trans (bw7.mono (by omega))).trans (hfin.mono s7)⟩
  · go_wp2_with fail
    obtain ⟨W7, hW7⟩ : ∃ W7, W7 = w6.alloc (.cells #[.int .i64 a0, .int .i64 a1, .int .i64 a2, .int .i64 a3, .int .i64 a4, .int .i64 b0, .int .i64 b1, .int .i64 b2, .int .i64 b3, .int .i64 b4, .int .i64 c0, .int .i64 c1, .int .i64 c2, .int .i64 c3, .int .i64 c4] 32) := ⟨_, rfl⟩
    have ga0 : W7.cell? ⟨w.heap.size, 0, none⟩ = some (.int .i64 a0) := by rw [hW7]; exact cell_old fa0 _
    have ga1 : W7.cell? ⟨w.heap.size, 1, none⟩ = some (.int .i64 a1) := by rw [hW7]; exact cell_old fa1 _
    have ga2 : W7.cell? ⟨w.heap.size, 2, none⟩ = some (.int .i64 a2) := by rw [hW7]; exact cell_old fa2 _
    have ga3 : W7.cell? ⟨w.heap.size, 3, none⟩ = some (.int .i64 a3) := by rw [hW7]; exact cell_old fa3 _
    have ga4 : W7.cell? ⟨w.heap.size, 4, none⟩ = some (.int .i64 a4) := by rw [hW7]; exact cell_old fa4 _
    have gb0 : W7.cell? ⟨w.heap.size + 1, 0, none⟩ = some (.int .i64 b0) := by rw [hW7]; exact cell_old fb0 _
    have gb1 : W7.cell? ⟨w.heap.size + 1, 1, none⟩ = some (.int .i64 b1) := by rw [hW7]; exact cell_old fb1 _
    have gb2 : W7.cell? ⟨w.heap.size + 1, 2, none⟩ = some (.int .i64 b2) := by rw [hW7]; exact cell_old fb2 _
    have gb3 : W7.cell? ⟨w.heap.size + 1, 3, none⟩ = some (.int .i64 b3) := by rw [hW7]; exact cell_old fb3 _
    have gb4 : W7.cell? ⟨w.heap.size + 1, 4, none⟩ = some (.int .i64 b4) := by rw [hW7]; exact cell_old fb4 _
    have gc0 : W7.cell? ⟨w.heap.size + 1 + 1, 0, none⟩ = some (.int .i64 c0) := by rw [hW7]; exact cell_old fc0 _
    have gc1 : W7.cell? ⟨w.heap.size + 1 + 1, 1, none⟩ = some (.int .i64 c1) := by rw [hW7]; exact cell_old fc1 _
    have gc2 : W7.cell? ⟨w.heap.size + 1 + 1, 2, none⟩ = some (.int .i64 c2) := by rw [hW7]; exact cell_old fc2 _
    have gc3 : W7.cell? ⟨w.heap.size + 1 + 1, 3, none⟩ = some (.int .i64 c3) := by rw [hW7]; exact cell_old fc3 _
    have gc4 : W7.cell? ⟨w.heap.size + 1 + 1, 4, none⟩ = some (.int .i64 c4) := by rw [hW7]; exact cell_old fc4 _
    have e0 : W7.cell? ⟨w6.heap.size, 10, none⟩ = some (.int .i64 c0) := by rw [hW7]; simp [go_sem]
    have e1 : W7.cell? ⟨w6.heap.size, 11, none⟩ = some (.int .i64 c1) := by rw [hW7]; simp [go_sem]
    have e2 : W7.cell? ⟨w6.heap.size, 12, none⟩ = some (.int .i64 c2) := by rw [hW7]; simp [go_sem]
    have e3 : W7.cell? ⟨w6.heap.size, 13, none⟩ = some (.int .i64 c3) := by rw [hW7]; simp [go_sem]
    have e4 : W7.cell? ⟨w6.heap.size, 14, none⟩ = some (.int .i64 c4) := by rw [hW7]; simp [go_sem]
    have bw7 : Below (w.heap.size + 3) (((w.alloc (.cells #[.int .i64 a0, .int .i64 a1, .int .i64 a2, .int .i64 a3, .int .i64 a4] 32)).alloc (.cells #[.int .i64 b0, .int .i64 b1, .int .i64 b2, .int .i64 b3, .int .i64 b4] 32)).alloc (.cells #[.int .i64 c0, .int .i64 c1, .int .i64 c2, .int .i64 c3, .int .i64 c4] 32)) W7 := by rw [hW7]; exact bw6.alloc s6 _
    have bb := (Below.refl W7.heap.size W7).drew
    rw [← hW7]
    have s7 : w.heap.size ≤ W7.heap.size := by have := bw7.size; simp at this; omega
    clear hW7 bw1 bw2 bw3 bw4 bw5 bw6 s1 s2 s3 s4 s5 s6
    clear fa0 fa1 fa2 fa3 fa4 fb0 fb1 fb2 fb3 fb4 fc0 fc1 fc2 fc3 fc4
    go_region_held3 (fun W => W.cell? ⟨w.heap.size, 0, none⟩ = some (.int .i64 a0) ∧ W.cell? ⟨w.heap.size, 1, none⟩ = some (.int .i64 a1) ∧ W.cell? ⟨w.heap.size, 2, none⟩ = some (.int .i64 a2) ∧ W.cell? ⟨w.heap.size, 3, none⟩ = some (.int .i64 a3) ∧ W.cell? ⟨w.heap.size, 4, none⟩ = some (.int .i64 a4) ∧ W.cell? ⟨w.heap.size + 1, 0, none⟩ = some (.int .i64 b0) ∧ W.cell? ⟨w.heap.size + 1, 1, none⟩ = some (.int .i64 b1) ∧ W.cell? ⟨w.heap.size + 1, 2, none⟩ = some (.int .i64 b2) ∧ W.cell? ⟨w.heap.size + 1, 3, none⟩ = some (.int .i64 b3) ∧ W.cell? ⟨w.heap.size + 1, 4, none⟩ = some (.int .i64 b4) ∧ W.cell? ⟨w.heap.size + 1 + 1, 0, none⟩ = some (.int .i64 c0) ∧ W.cell? ⟨w.heap.size + 1 + 1, 1, none⟩ = some (.int .i64 c1) ∧ W.cell? ⟨w.heap.size + 1 + 1, 2, none⟩ = some (.int .i64 c2) ∧ W.cell? ⟨w.heap.size + 1 + 1, 3, none⟩ = some (.int .i64 c3) ∧ W.cell? ⟨w.heap.size + 1 + 1, 4, none⟩ = some (.int .i64 c4) ∧ W.cell? ⟨w6.heap.size, 10, none⟩ = some (.int .i64 c0) ∧ W.cell? ⟨w6.heap.size, 11, none⟩ = some (.int .i64 c1) ∧ W.cell? ⟨w6.heap.size, 12, none⟩ = some (.int .i64 c2) ∧ W.cell? ⟨w6.heap.size, 13, none⟩ = some (.int .i64 c3) ∧ W.cell? ⟨w6.heap.size, 14, none⟩ = some (.int .i64 c4) ∧ Below W7.heap.size W7 W) (first | go_keep | (go_split_ands; refine ⟨?_, ?_, ?_, ?_, ?_, ?_, ?_, ?_, ?_, ?_, ?_, ?_, ?_, ?_, ?_, ?_, ?_, ?_, ?_, ?_, ?_⟩ <;> first | exact keep_cell hbx (by assumption) | exact Below.trans (by assumption) (hbx.mono (Below.size (by assumption))))) ((go_at_call 20; refine (compare_five _ _ _ _ _ _ _ _ _ _ _).mono ?_; rintro e wx ⟨rfl, hbx⟩))
    go_wp2
    go_ret
    have hfin : Below W7.heap.size W7 wx := by go_split_ands; assumption
    exact ⟨rfl, (((((Below.refl _ w).alloc (Nat.le_refl _) _).alloc (by simp) _).alloc (by simp; omega) _).trans (bw7.mono (by omega))).trans (hfin.mono s7)⟩
end Go.Proofs.Ytobamjjonkhcfaa
