/- What more that is given does to the open groups; the open groups of groups one behind the other. Pure. -/
import Derived.Test.YtfpbeenaploaiaaGreatDoorD4oZ
set_option linter.unusedVariables false
namespace Go.Proofs.YtfpbeenaploaiaaGreatDoor
open Go.RowKit
theorem metB_more (g hv : List Atm) (y : Atm) (h : metB g hv = true) : metB g (hv ++ [y]) = true := by
  unfold metB at h ⊢
  rw [List.any_eq_true] at h ⊢
  obtain ⟨a, ha, h⟩ := h
  refine ⟨a, ha, ?_⟩
  rw [List.any_append, h]; rfl
theorem openF_more (hv : List Atm) (y : Atm) : ∀ (i : Nat) (L : List (List Atm)), (openF (hv ++ [y]) i L).Sublist (openF hv i L)
  | i, [] => by simp [openF]
  | i, g :: r => by
    have ih := openF_more hv y (i + 1) r
    simp only [openF]
    by_cases h : metB g hv = true
    · rw [if_pos h, if_pos (metB_more g hv y h)]; exact ih
    · rw [if_neg h]
      split
      · exact ih.cons _
      · exact ih.cons_cons _
theorem openF_shift (hv : List Atm) : ∀ (i : Nat) (L : List (List Atm)), openF hv i L = (openF hv 0 L).map fun p => p + (i : Int)
  | i, [] => by simp [openF]
  | i, g :: r => by
    have h1 := openF_shift hv (i + 1) r
    have h2 := openF_shift hv 1 r
    simp only [openF, Nat.zero_add]
    have e : openF hv (i + 1) r = (openF hv 1 r).map fun p => p + (i : Int) := by
      rw [h1, h2, List.map_map]
      refine List.map_congr_left fun p _ => ?_
      simp only [Function.comp_apply]
      omega
    rw [e]
    split
    · rfl
    · rw [List.map_cons]
      congr 1
      omega
theorem openF_both (hv : List Atm) (L M : List (List Atm)) : openF hv 0 (L ++ M) = openF hv 0 L ++ (openF hv 0 M).map fun p => p + (L.length : Int) := by
  rw [openF_app, Nat.zero_add, openF_shift hv L.length M]
/-- One place further where the head is another. -/
theorem sub_skip {a b : List Int} {i j : Nat} (hi : i < a.length) (hj : j < b.length) (h : (a.drop i).Sublist (b.drop j)) (hne : b[j] ≠ a[i]) : (a.drop i).Sublist (b.drop (j + 1)) := by
  rw [List.drop_eq_getElem_cons hi] at h ⊢
  rw [List.drop_eq_getElem_cons hj] at h
  rcases List.sublist_cons_iff.1 h with h | ⟨r, h1, h2⟩
  · exact h
  · injection h1 with h1 _
    exact absurd h1.symm hne
theorem sub_next {a b : List Int} {i j : Nat} (hi : i < a.length) (h : (a.drop i).Sublist (b.drop j)) : (a.drop (i + 1)).Sublist (b.drop j) := by
  rw [List.drop_eq_getElem_cons hi] at h
  exact (List.sublist_cons_self _ _).trans h
theorem sub_has {a b : List Int} {i j : Nat} (hi : i < a.length) (h : (a.drop i).Sublist (b.drop j)) : j < b.length := by
  have := h.length_le
  rw [List.length_drop, List.length_drop] at this
  omega
end Go.Proofs.YtfpbeenaploaiaaGreatDoor
