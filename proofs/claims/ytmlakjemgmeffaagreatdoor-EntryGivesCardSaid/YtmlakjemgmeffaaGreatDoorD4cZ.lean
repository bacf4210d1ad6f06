/- Strings as data; the contracts of the document's own pieces and Trim. -/
import Derived.Test.YtmlakjemgmeffaaGreatDoorMP
import Derived.Test.YtmlakjemgmeffaaGreatDoorMD
import Derived.WalkSpells
import Derived.RegionTactic
set_option maxRecDepth 100000
set_option linter.unusedVariables false
set_option linter.unusedSimpArgs false
namespace Go.Proofs.YtmlakjemgmeffaaGreatDoor
open Go.RowKit
/-- Blanks counted off at the left; then at the right. -/
theorem trim_done {l : List Nat} {i k : Nat} (hik : i ≤ k) (hk : k ≤ l.length) (h1 : ∀ j, j < i → l.getD j 0 = 32) (h2 : ∀ j, k ≤ j → j < l.length → l.getD j 0 = 32)
    (h3 : i < k → l.getD i 0 ≠ 32) (h4 : i < k → l.getD (k - 1) 0 ≠ 32) : (l.drop i).take (k - i) = trm l := by
  have e : l = l.take i ++ ((l.drop i).take (k - i) ++ l.drop k) := by
    rw [show l.drop k = (l.drop i).drop (k - i) by rw [List.drop_drop]; congr 1; omega, List.take_append_drop, List.take_append_drop]
  have gd : ∀ j (hj : j < l.length), l.getD j 0 = l[j] := fun j hj => by rw [List.getD_eq_getElem?_getD, List.getElem?_eq_getElem hj]; rfl
  conv => rhs; rw [e]
  refine (trm_unique ?_ ?_ ?_ ?_).symm
  · intro x hx
    obtain ⟨j, hj, rfl⟩ := List.getElem_of_mem hx
    rw [List.length_take] at hj
    rw [List.getElem_take, ← gd j (by omega)]; exact h1 j (by omega)
  · intro x hx
    obtain ⟨j, hj, rfl⟩ := List.getElem_of_mem hx
    rw [List.length_drop] at hj
    rw [List.getElem_drop, ← gd (k + j) (by omega)]; exact h2 _ (by omega) (by omega)
  · intro x r hx
    have hl := congrArg List.length hx
    rw [List.length_take, List.length_drop, List.length_cons] at hl
    have h0 := congrArg (·[0]?) hx
    simp only [List.getElem?_cons_zero] at h0
    rw [List.getElem?_take_of_lt (by omega), List.getElem?_drop, Nat.add_zero, List.getElem?_eq_getElem (by omega)] at h0
    injection h0 with h0
    rw [← h0, ← gd i (by omega)]; exact h3 (by omega)
  · intro x r hx
    have hl := congrArg List.length hx
    rw [List.length_take, List.length_drop, List.length_append, List.length_singleton] at hl
    have h0 := congrArg (·[r.length]?) hx
    simp only [List.getElem?_append_right (Nat.le_refl _), Nat.sub_self, List.getElem?_cons_zero] at h0
    rw [List.getElem?_take_of_lt (by omega), List.getElem?_drop, List.getElem?_eq_getElem (by omega)] at h0
    injection h0 with h0
    rw [← h0, ← gd (i + r.length) (by omega), show i + r.length = k - 1 by omega]; exact h4 (by omega)
end Go.Proofs.YtmlakjemgmeffaaGreatDoor
