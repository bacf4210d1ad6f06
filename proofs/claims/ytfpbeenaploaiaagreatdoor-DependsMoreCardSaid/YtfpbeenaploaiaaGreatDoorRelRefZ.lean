/- The contracts of the document's own functions of layer 3: the same plain functions as the program's. -/
import Derived.Test.YtfpbeenaploaiaaGreatDoorRel6Z
import Derived.Test.YtfpbeenaploaiaaGreatDoorM1
set_option maxRecDepth 100000
set_option linter.unusedVariables false
set_option linter.unusedSimpArgs false
namespace Go.Proofs.YtfpbeenaploaiaaGreatDoor
open Go.RowKit
/-- What the document's Name asks of the byte at a place. -/
def okAt (l : List Nat) (j : Nat) : Bool := plnB (l.getD j 0) || (decide (0 < j) && nmcB (l.getD j 0))
theorem okAt_no {s : ByteArray} {k : Nat} (hk : k < s.size) (h : okAt (B s) k = false) : nameB (B s) = false := by
  unfold okAt at h
  rw [B_getD s k hk] at h
  rw [Bool.or_eq_false_iff] at h
  rcases Nat.eq_zero_or_pos k with rfl | h0
  · unfold nameB
    rw [B_getD s 0 hk, h.1, Bool.and_false, Bool.false_and]
  · have h2 := h.2
    rw [decide_eq_true h0, Bool.true_and] at h2
    unfold nameB
    rw [nm_not hk h2, Bool.and_false]
theorem okAt_yes {s : ByteArray} (h : ∀ j, j < s.size → okAt (B s) j = true) : nameB (B s) = (decide (2 ≤ s.size) && decide (s.size ≤ 40)) := by
  unfold nameB
  rw [B_len]
  by_cases h2 : 2 ≤ s.size
  · have h0 := h 0 (by omega)
    unfold okAt at h0
    rw [decide_eq_false (Nat.lt_irrefl 0), Bool.false_and, Bool.or_false] at h0
    have ha : (B s).all nmcB = true := nm_yes fun j hj => by
      have := h j hj
      unfold okAt at this
      rw [Bool.or_eq_true] at this
      rcases this with h1 | h1
      · unfold nmcB; rw [h1]; rfl
      · rw [Bool.and_eq_true] at h1; exact h1.2
    rw [h0, ha, Bool.and_true, Bool.and_true]
  · rw [decide_eq_false h2, Bool.false_and, Bool.false_and]; rfl
theorem sEqR (s : ByteArray) (m : List UInt8) (l : List Nat) (e : m = l.map UInt8.ofNat) (hl : ∀ c ∈ l, c < 256) : (m == s.toList) = decide (B s = l) := by
  have := sEqL s m l e hl
  rw [Bool.eq_iff_iff] at this ⊢
  simp only [beq_iff_eq] at this ⊢
  exact ⟨fun h => this.1 h.symm, fun h => (this.2 h).symm⟩
theorem cut_found {s : ByteArray} {k : Nat} (hk : k < s.size) (hc : s[k].toNat = 32) (hno : ∀ j, j < k → (B s).getD j 0 ≠ 32) : s.extract 0 k = mk (cutN (B s)) ∧ s.extract (k + 1) s.size = mk (cutR (B s)) ∧ cutH (B s) = true := by
  have hl : B s = (B s).take k ++ 32 :: (B s).drop (k + 1) := by
    have h2 := B_drop s k hk
    rw [hc] at h2
    rw [← h2, List.take_append_drop]
  have hn : ∀ c ∈ (B s).take k, c ≠ 32 := by
    intro c hc2
    obtain ⟨j, hj, e⟩ := List.getElem_of_mem hc2
    rw [List.length_take, B_len] at hj
    have := hno j (by omega)
    rw [List.getElem_take] at e
    rwa [List.getD_eq_getElem?_getD, List.getElem?_eq_getElem (by rw [B_len]; omega), Option.getD_some, e] at this
  obtain ⟨a, b, c⟩ := cut_at (r := (B s).drop (k + 1)) hn
  rw [← hl] at a b c
  exact ⟨by rw [a]; exact ext_take, by rw [b]; exact ext_drop, c⟩
theorem cut_none3 {s : ByteArray} (hno : ∀ j, j < s.size → (B s).getD j 0 ≠ 32) : mk (cutN (B s)) = s ∧ mk (cutR (B s)) = { data := #[] } ∧ cutH (B s) = false := by
  have hn : ∀ c ∈ B s, c ≠ 32 := by
    intro c hc2
    obtain ⟨j, hj, e⟩ := List.getElem_of_mem hc2
    rw [B_len] at hj
    have := hno j hj
    rwa [List.getD_eq_getElem?_getD, List.getElem?_eq_getElem (by rw [B_len]; omega), Option.getD_some, e] at this
  obtain ⟨a, b, c⟩ := cut_no hn
  exact ⟨by rw [a, mk_B], by rw [b]; rfl, c⟩
end Go.Proofs.YtfpbeenaploaiaaGreatDoor
