/- The order of costs, and what the law SumOrders finds in memory. -/
import Derived.Test.YtobamjjonkhcfaaShown
import Derived.Test.YtobamjjonkhcfaaBest
import Derived.Test.YtobamjjonkhcfaaEq5
import Derived.Deep.RegionHeld3
namespace Go.Proofs.Ytobamjjonkhcfaa
open Go.RowKit

/-! ### The order of costs -/
theorem cmpL_range : ∀ (a b : List Int), -1 ≤ cmpL a b ∧ cmpL a b ≤ 1
  | [], [] => by simp [cmpL]
  | [], _ :: _ => by simp [cmpL]
  | _ :: _, [] => by simp [cmpL]
  | x :: a, y :: b => by
    have := cmpL_range a b
    simp only [cmpL]
    split
    · omega
    · split <;> omega
theorem cmpL_neg : ∀ (a b : List Int), cmpL b a = -cmpL a b
  | [], [] => by simp [cmpL]
  | [], _ :: _ => by simp [cmpL]
  | _ :: _, [] => by simp [cmpL]
  | x :: a, y :: b => by
    have := cmpL_neg a b
    simp only [cmpL]
    by_cases h1 : x < y
    · rw [if_pos h1, if_neg (by omega), if_pos h1]; rfl
    · by_cases h2 : y < x
      · rw [if_pos h2, if_neg h1, if_pos h2]
      · rw [if_neg h2, if_neg h1, if_neg h1, if_neg h2, this]
theorem cmpL_zero : ∀ (a b : List Int), a.length = b.length → (cmpL a b = 0 ↔ a = b)
  | [], [], _ => by simp [cmpL]
  | [], _ :: _, h => by simp at h
  | _ :: _, [], h => by simp at h
  | x :: a, y :: b, h => by
    have ih := cmpL_zero a b (by simpa using h)
    simp only [cmpL, List.cons.injEq]
    by_cases h1 : x < y
    · rw [if_pos h1]; constructor
      · intro hh; omega
      · rintro ⟨rfl, _⟩; omega
    · by_cases h2 : y < x
      · rw [if_neg h1, if_pos h2]; constructor
        · intro hh; omega
        · rintro ⟨rfl, _⟩; omega
      · rw [if_neg h1, if_neg h2, ih]; constructor
        · intro hh; exact ⟨by omega, hh⟩
        · exact fun hh => hh.2
theorem cmpL_trans : ∀ (a b c : List Int), a.length = b.length → b.length = c.length → cmpL a b ≤ 0 → cmpL b c ≤ 0 → cmpL a c ≤ 0
  | [], [], [], _, _, _, _ => by simp [cmpL]
  | x :: a, y :: b, z :: c, h1, h2, h3, h4 => by
    have ih := cmpL_trans a b c (by simpa using h1) (by simpa using h2)
    simp only [cmpL] at h3 h4 ⊢
    by_cases e1 : x < z
    · rw [if_pos e1]; omega
    · rw [if_neg e1]
      by_cases p1 : x < y
      · rw [if_pos p1] at h3
        by_cases p2 : y < z
        · omega
        · rw [if_neg p2] at h4
          by_cases p3 : z < y
          · rw [if_pos p3] at h4; omega
          · omega
      · rw [if_neg p1] at h3
        by_cases p4 : y < x
        · rw [if_pos p4] at h3; omega
        · rw [if_neg p4] at h3
          have exy : x = y := by omega
          subst exy
          rw [if_neg e1] at h4
          by_cases p5 : z < x
          · rw [if_pos p5] at h4; omega
          · rw [if_neg p5] at h4 ⊢
            exact ih h3 h4
  | [], [], _ :: _, _, h, _, _ => by simp at h
  | [], _ :: _, _, h, _, _, _ => by simp at h
  | _ :: _, [], _, h, _, _, _ => by simp at h
  | _ :: _, _ :: _, [], _, h, _, _ => by simp at h
theorem best_three (a b c : List Int) (h1 : a.length = b.length) (h2 : b.length = c.length) :
    (bestN [a, b, c] 3 = ((0 : Nat) : Int) ∧ cmpL a a ≤ 0 ∧ cmpL a b ≤ 0 ∧ cmpL a c ≤ 0) ∨ (bestN [a, b, c] 3 = ((1 : Nat) : Int) ∧ cmpL b a ≤ 0 ∧ cmpL b b ≤ 0 ∧ cmpL b c ≤ 0) ∨ (bestN [a, b, c] 3 = ((2 : Nat) : Int) ∧ cmpL c a ≤ 0 ∧ cmpL c b ≤ 0 ∧ cmpL c c ≤ 0) := by
  have sa := (cmpL_zero a a rfl).2 rfl
  have sb := (cmpL_zero b b rfl).2 rfl
  have sc := (cmpL_zero c c rfl).2 rfl
  have e1 : bestN [a, b, c] 1 = 0 := by simp [bestN, bestStep]
  by_cases hba : cmpL b a < 0
  · have e2 : bestN [a, b, c] 2 = 1 := by
      rw [show bestN [a, b, c] 2 = bestStep [a, b, c] (bestN [a, b, c] 1) 1 from rfl, e1]
      unfold bestStep
      rw [if_pos (.inr (by simpa using hba))]; rfl
    have hst : bestN [a, b, c] 3 = if cmpL c b < 0 then 2 else 1 := by
      rw [show bestN [a, b, c] 3 = bestStep [a, b, c] (bestN [a, b, c] 2) 2 from rfl, e2]
      unfold bestStep
      simp
    by_cases hcb : cmpL c b < 0
    · rw [if_pos hcb] at hst
      exact .inr (.inr ⟨by rw [hst]; rfl, cmpL_trans c b a h2.symm h1.symm (by omega) (by omega), by omega, by omega⟩)
    · rw [if_neg hcb] at hst
      have := cmpL_neg c b
      exact .inr (.inl ⟨by rw [hst]; rfl, by omega, by omega, by omega⟩)
  · have e2 : bestN [a, b, c] 2 = 0 := by
      rw [show bestN [a, b, c] 2 = bestStep [a, b, c] (bestN [a, b, c] 1) 1 from rfl, e1]
      unfold bestStep
      rw [if_neg (by simpa using hba)]
    have hst : bestN [a, b, c] 3 = if cmpL c a < 0 then 2 else 0 := by
      rw [show bestN [a, b, c] 3 = bestStep [a, b, c] (bestN [a, b, c] 2) 2 from rfl, e2]
      unfold bestStep
      simp
    have hab := cmpL_neg b a
    by_cases hca : cmpL c a < 0
    · rw [if_pos hca] at hst
      exact .inr (.inr ⟨by rw [hst]; rfl, by omega, cmpL_trans c a b (by omega) h1 (by omega) (by omega), by omega⟩)
    · rw [if_neg hca] at hst
      have := cmpL_neg c a
      exact .inl ⟨by rw [hst]; rfl, by omega, by omega, by omega⟩

theorem boxes (a0 a1 a2 a3 a4 b0 b1 b2 b3 b4 c0 c1 c2 c3 c4 : Int) (w W : World) (hb : Below (w.heap.size + 3) (((w.alloc (.cells #[.int .i64 a0, .int .i64 a1, .int .i64 a2, .int .i64 a3, .int .i64 a4] 32)).alloc (.cells #[.int .i64 b0, .int .i64 b1, .int .i64 b2, .int .i64 b3, .int .i64 b4] 32)).alloc (.cells #[.int .i64 c0, .int .i64 c1, .int .i64 c2, .int .i64 c3, .int .i64 c4] 32)) W) : W.cell? ⟨w.heap.size, 0, none⟩ = some (.int .i64 a0) ∧ W.cell? ⟨w.heap.size, 1, none⟩ = some (.int .i64 a1) ∧ W.cell? ⟨w.heap.size, 2, none⟩ = some (.int .i64 a2) ∧ W.cell? ⟨w.heap.size, 3, none⟩ = some (.int .i64 a3) ∧ W.cell? ⟨w.heap.size, 4, none⟩ = some (.int .i64 a4) ∧ W.cell? ⟨w.heap.size + 1, 0, none⟩ = some (.int .i64 b0) ∧ W.cell? ⟨w.heap.size + 1, 1, none⟩ = some (.int .i64 b1) ∧ W.cell? ⟨w.heap.size + 1, 2, none⟩ = some (.int .i64 b2) ∧ W.cell? ⟨w.heap.size + 1, 3, none⟩ = some (.int .i64 b3) ∧ W.cell? ⟨w.heap.size + 1, 4, none⟩ = some (.int .i64 b4) ∧ W.cell? ⟨w.heap.size + 1 + 1, 0, none⟩ = some (.int .i64 c0) ∧ W.cell? ⟨w.heap.size + 1 + 1, 1, none⟩ = some (.int .i64 c1) ∧ W.cell? ⟨w.heap.size + 1 + 1, 2, none⟩ = some (.int .i64 c2) ∧ W.cell? ⟨w.heap.size + 1 + 1, 3, none⟩ = some (.int .i64 c3) ∧ W.cell? ⟨w.heap.size + 1 + 1, 4, none⟩ = some (.int .i64 c4) := by
  have h : ∀ b o, b < w.heap.size + 3 → W.cell? ⟨b, o, none⟩ = (((w.alloc (.cells #[.int .i64 a0, .int .i64 a1, .int .i64 a2, .int .i64 a3, .int .i64 a4] 32)).alloc (.cells #[.int .i64 b0, .int .i64 b1, .int .i64 b2, .int .i64 b3, .int .i64 b4] 32)).alloc (.cells #[.int .i64 c0, .int .i64 c1, .int .i64 c2, .int .i64 c3, .int .i64 c4] 32)).cell? ⟨b, o, none⟩ := fun b o hl => hb.cell (p := ⟨b, o, none⟩) hl
  refine ⟨?_, ?_, ?_, ?_, ?_, ?_, ?_, ?_, ?_, ?_, ?_, ?_, ?_, ?_, ?_⟩ <;> (rw [h _ _ (by omega)]; simp [go_sem])
theorem best3 (a0 a1 a2 a3 a4 b0 b1 b2 b3 b4 c0 c1 c2 c3 c4 : Int) (W : World) (t : TypeId) (k : Nat) (hk : bestN [[a0, a1, a2, a3, a4], [b0, b1, b2, b3, b4], [c0, c1, c2, c3, c4]] 3 = (k : Int)) :
    Calls Try.prog 22 #[.slice (some ⟨W.heap.size, 0, none⟩) 3 3] (W.alloc (.cells #[.int .i64 a0, .int .i64 a1, .int .i64 a2, .int .i64 a3, .int .i64 a4, .int .i64 b0, .int .i64 b1, .int .i64 b2, .int .i64 b3, .int .i64 b4, .int .i64 c0, .int .i64 c1, .int .i64 c2, .int .i64 c3, .int .i64 c4] t)) fun e w' => e = .returned (.int .i64 (k : Int)) ∧ Below (W.heap.size + 1) (W.alloc (.cells #[.int .i64 a0, .int .i64 a1, .int .i64 a2, .int .i64 a3, .int .i64 a4, .int .i64 b0, .int .i64 b1, .int .i64 b2, .int .i64 b3, .int .i64 b4, .int .i64 c0, .int .i64 c1, .int .i64 c2, .int .i64 c3, .int .i64 c4] t)) w' := by
  have hr : ReadsC (W.alloc (.cells #[.int .i64 a0, .int .i64 a1, .int .i64 a2, .int .i64 a3, .int .i64 a4, .int .i64 b0, .int .i64 b1, .int .i64 b2, .int .i64 b3, .int .i64 b4, .int .i64 c0, .int .i64 c1, .int .i64 c2, .int .i64 c3, .int .i64 c4] t)) (W.alloc (.cells #[.int .i64 a0, .int .i64 a1, .int .i64 a2, .int .i64 a3, .int .i64 a4, .int .i64 b0, .int .i64 b1, .int .i64 b2, .int .i64 b3, .int .i64 b4, .int .i64 c0, .int .i64 c1, .int .i64 c2, .int .i64 c3, .int .i64 c4] t)).heap.size (some ⟨W.heap.size, 0, none⟩) 3 [[a0, a1, a2, a3, a4], [b0, b1, b2, b3, b4], [c0, c1, c2, c3, c4]] := by
    refine ⟨rfl, fun j hj => ?_⟩
    rcases (by simp at hj; omega : j = 0 ∨ j = 1 ∨ j = 2) with rfl | rfl | rfl
    · exact ⟨⟨W.heap.size, 0, none⟩, a0, a1, a2, a3, a4, rfl, by simp, rfl, by simp [go_sem, Addr.add], by simp [go_sem, Addr.add], by simp [go_sem, Addr.add], by simp [go_sem, Addr.add], by simp [go_sem, Addr.add]⟩
    · exact ⟨⟨W.heap.size, 0, none⟩, b0, b1, b2, b3, b4, rfl, by simp, rfl, by simp [go_sem, Addr.add], by simp [go_sem, Addr.add], by simp [go_sem, Addr.add], by simp [go_sem, Addr.add], by simp [go_sem, Addr.add]⟩
    · exact ⟨⟨W.heap.size, 0, none⟩, c0, c1, c2, c3, c4, rfl, by simp, rfl, by simp [go_sem, Addr.add], by simp [go_sem, Addr.add], by simp [go_sem, Addr.add], by simp [go_sem, Addr.add], by simp [go_sem, Addr.add]⟩
  have := Best_any (some ⟨W.heap.size, 0, none⟩) 3 3 _ _ hr (by omega)
  rw [hk] at this
  simpa using this
theorem keep_cell {W W' : World} {p : Addr} {v : Value} (hb : Below W.heap.size W W') (h : W.cell? p = some v) : W'.cell? p = some v := (hb.cell (cell_lt h)).trans h
end Go.Proofs.Ytobamjjonkhcfaa
