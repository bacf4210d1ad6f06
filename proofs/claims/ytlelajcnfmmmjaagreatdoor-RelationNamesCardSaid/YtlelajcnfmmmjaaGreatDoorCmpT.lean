/- The order of texts on lists of numbers: the weights of what is no digit, then numbers, by turns. -/
import Derived.Test.YtlelajcnfmmmjaaGreatDoorRef2b
namespace Go.Proofs.YtlelajcnfmmmjaaGreatDoor
open Go.RowKit
def nonD : List Nat → Bool
  | [] => false
  | c :: _ => !digB c
def cmpT : Nat → List Nat → List Nat → Int
  | 0, _, _ => 0
  | f + 1, a, b =>
    if a = [] ∧ b = [] then 0
    else if (nonD a || nonD b) = true then if sgn (wt a - wt b) ≠ 0 then sgn (wt a - wt b) else cmpT f (a.drop 1) (b.drop 1)
    else if numC (digs a) (digs b) ≠ 0 then numC (digs a) (digs b) else cmpT f (a.drop (numD a)) (b.drop (numD b))
def cmpS (a b : List Nat) : Int := cmpT (a.length + b.length + 1) a b
theorem wt_non {l : List Nat} (h : nonD l = true) : wt l ≠ 0 := by
  cases l with
  | nil => simp [nonD] at h
  | cons c l =>
    simp only [nonD, Bool.not_eq_true'] at h
    simp only [wt, h]
    by_cases h1 : c = 126
    · simp [h1]
    · by_cases h2 : letB c = true
      · simp [h1, h2]
        rintro rfl
        simp [letB] at h2
      · simp [h1, h2]; omega
theorem wt_end {l : List Nat} (h : nonD l = false) : wt l = 0 := by
  cases l with
  | nil => rfl
  | cons c l =>
    simp only [nonD, Bool.not_eq_false'] at h
    simp [wt, h]
theorem sgn_zero {n : Int} : sgn n = 0 ↔ n = 0 := by unfold sgn; split <;> (try split) <;> omega
/-- Where neither weight is the greater one, both texts go on with what is no digit. -/
theorem both_non {a b : List Nat} (h : (nonD a || nonD b) = true) (h0 : ¬ sgn (wt a - wt b) ≠ 0) : nonD a = true ∧ nonD b = true := by
  have h1 : wt a = wt b := by have := sgn_zero.1 (Classical.not_not.1 h0); omega
  cases ha : nonD a <;> cases hb : nonD b
  · simp [ha, hb] at h
  · have := wt_end ha; have := wt_non hb; omega
  · have := wt_non ha; have := wt_end hb; omega
  · exact ⟨rfl, rfl⟩
theorem non_len {l : List Nat} (h : nonD l = true) : 1 ≤ l.length := by
  cases l with
  | nil => simp [nonD] at h
  | cons c l => simp
theorem num_len {l : List Nat} (h : nonD l = false) (hl : l ≠ []) : 1 ≤ numD l := by
  cases l with
  | nil => exact absurd rfl hl
  | cons c l =>
    simp only [nonD, Bool.not_eq_false'] at h
    simp [numD, h]
theorem numD_le (l : List Nat) : numD l ≤ l.length := by unfold numD; exact (List.takeWhile_prefix digB).length_le
theorem cmpT_fuel : ∀ (f g : Nat) (a b : List Nat), a.length + b.length < f → a.length + b.length < g → cmpT f a b = cmpT g a b
  | 0, _, _, _, h, _ => by omega
  | _ + 1, 0, _, _, _, h => by omega
  | f + 1, g + 1, a, b, hf, hg => by
    simp only [cmpT]
    by_cases h0 : a = [] ∧ b = []
    · rw [if_pos h0, if_pos h0]
    · rw [if_neg h0, if_neg h0]
      by_cases h1 : (nonD a || nonD b) = true
      · rw [if_pos h1, if_pos h1]
        by_cases h2 : sgn (wt a - wt b) ≠ 0
        · rw [if_pos h2, if_pos h2]
        · rw [if_neg h2, if_neg h2]
          obtain ⟨ha, hb⟩ := both_non h1 h2
          have := non_len ha
          have := non_len hb
          exact cmpT_fuel f g _ _ (by simp; omega) (by simp; omega)
      · rw [if_neg h1, if_neg h1]
        by_cases h2 : numC (digs a) (digs b) ≠ 0
        · rw [if_pos h2, if_pos h2]
        · rw [if_neg h2, if_neg h2]
          have hna : nonD a = false := by cases h : nonD a <;> simp_all
          have hnb : nonD b = false := by cases h : nonD b <;> simp_all
          have la := numD_le a
          have lb := numD_le b
          have hs : 1 ≤ numD a + numD b := by
            by_cases ha : a = []
            · have := num_len hnb (fun hb => h0 ⟨ha, hb⟩); omega
            · have := num_len hna ha; omega
          exact cmpT_fuel f g _ _ (by simp; omega) (by simp; omega)
theorem cmpS_nil : cmpS [] [] = 0 := rfl
theorem cmpS_wt {a b : List Nat} (h1 : (nonD a || nonD b) = true) : cmpS a b = if sgn (wt a - wt b) ≠ 0 then sgn (wt a - wt b) else cmpS (a.drop 1) (b.drop 1) := by
  have h0 : ¬ (a = [] ∧ b = []) := by rintro ⟨rfl, rfl⟩; simp [nonD] at h1
  unfold cmpS
  rw [cmpT, if_neg h0, if_pos h1]
  by_cases h2 : sgn (wt a - wt b) ≠ 0
  · rw [if_pos h2, if_pos h2]
  · rw [if_neg h2, if_neg h2]
    obtain ⟨ha, hb⟩ := both_non h1 h2
    have := non_len ha
    have := non_len hb
    exact cmpT_fuel _ _ _ _ (by simp; omega) (by omega)
theorem cmpS_num {a b : List Nat} (h0 : ¬ (a = [] ∧ b = [])) (h1 : (nonD a || nonD b) = false) : cmpS a b = if numC (digs a) (digs b) ≠ 0 then numC (digs a) (digs b) else cmpS (a.drop (numD a)) (b.drop (numD b)) := by
  unfold cmpS
  rw [cmpT, if_neg h0, if_neg (by simp [h1])]
  by_cases h2 : numC (digs a) (digs b) ≠ 0
  · rw [if_pos h2, if_pos h2]
  · rw [if_neg h2, if_neg h2]
    have hna : nonD a = false := by cases h : nonD a <;> simp_all
    have hnb : nonD b = false := by cases h : nonD b <;> simp_all
    have la := numD_le a
    have lb := numD_le b
    have hs : 1 ≤ numD a + numD b := by
      by_cases ha : a = []
      · have := num_len hnb (fun hb => h0 ⟨ha, hb⟩); omega
      · have := num_len hna ha; omega
    exact cmpT_fuel _ _ _ _ (by simp; omega) (by omega)
end Go.Proofs.YtlelajcnfmmmjaaGreatDoor
