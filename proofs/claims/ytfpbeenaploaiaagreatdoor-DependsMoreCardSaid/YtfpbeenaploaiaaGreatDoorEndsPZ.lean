/- Texts with one head: how their tails stand; noughts ahead of a number: pure. -/
import Derived.Test.YtfpbeenaploaiaaGreatDoorCmpPZ
import Derived.Test.YtfpbeenaploaiaaGreatDoorM1
set_option linter.unusedSimpArgs false
namespace Go.Proofs.YtfpbeenaploaiaaGreatDoor
open Go.RowKit
theorem tw_app {p : Nat → Bool} : ∀ (a x : List Nat), x.takeWhile p = [] → (a ++ x).takeWhile p = a.takeWhile p
  | [], _, h => h
  | c :: a, x, h => by simp only [List.cons_append, List.takeWhile_cons]; rw [tw_app a x h]
theorem wt_app {a : List Nat} (h : a ≠ []) (x : List Nat) : wt (a ++ x) = wt a := by
  cases a with
  | nil => exact absurd rfl h
  | cons c a => rfl
theorem numC_self (a : List Nat) : numC a a = 0 := by have := numC_neg a a; omega
theorem cmpS_prefix : ∀ (n : Nat) (a x y : List Nat), a.length ≤ n → x.takeWhile digB = [] → y.takeWhile digB = [] → cmpS (a ++ x) (a ++ y) = cmpS x y
  | n, a, x, y, hn, hx, hy => by
    by_cases ha : a = []
    · subst ha; rfl
    · have wx := wt_app ha x
      have wy := wt_app ha y
      by_cases h0 : wt a = 0
      · rw [cmpS_no (a := a ++ x) (b := a ++ y) (by omega) (by omega)]
        have d1 : digs (a ++ x) = digs a := by unfold digs; rw [tw_app a x hx]
        have d2 : digs (a ++ y) = digs a := by unfold digs; rw [tw_app a y hy]
        have n1 : numD (a ++ x) = numD a := by unfold numD; rw [tw_app a x hx]
        have n2 : numD (a ++ y) = numD a := by unfold numD; rw [tw_app a y hy]
        have l1 := dropN_lt h0 ha
        rw [d1, d2, n1, n2, if_neg (by rw [numC_self]; simp), List.drop_append_of_le_length (numD_le a), List.drop_append_of_le_length (numD_le a)]
        match n with
        | 0 => omega
        | n + 1 => exact cmpS_prefix n _ x y (by omega) hx hy
      · rw [cmpS_eq (a := a ++ x) (b := a ++ y) (by omega) (by omega)]
        have l1 := drop1_len h0
        have hl : 1 ≤ a.length := by cases a with | nil => exact absurd rfl ha | cons c a => simp
        rw [List.drop_append_of_le_length hl, List.drop_append_of_le_length hl]
        match n with
        | 0 => omega
        | n + 1 => exact cmpS_prefix n _ x y (by omega) hx hy
theorem cmpS_tilde (a b : List Nat) : cmpS (a ++ 126 :: b) a = -1 := by
  have h := cmpS_prefix _ a (126 :: b) [] (Nat.le_refl _) (by simp [digB]) (by simp)
  rw [List.append_nil] at h
  have hw : wt (126 :: b) = -1 := by simp [wt, digB]
  rw [h, cmpS_ne (by rw [hw]; simp [wt]), hw]; rfl
theorem wt_letter {c : Nat} (hc : letB c = true) (b : List Nat) : wt (c :: b) = c ∧ 65 ≤ c := by
  have hd : digB c = false := by simp only [letB, decide_eq_true_eq] at hc; simp only [digB, decide_eq_false_iff_not]; omega
  have h1 : c ≠ 126 := by simp only [letB, decide_eq_true_eq] at hc; omega
  exact ⟨by simp [wt, hd, h1, hc], by simp only [letB, decide_eq_true_eq] at hc; omega⟩
theorem letter_tw {c : Nat} (hc : letB c = true) (b : List Nat) : (c :: b).takeWhile digB = [] := by
  have hd : digB c = false := by simp only [letB, decide_eq_true_eq] at hc; simp only [digB, decide_eq_false_iff_not]; omega
  simp [hd]
theorem cmpS_letter (a b : List Nat) {c : Nat} (hc : letB c = true) : cmpS (a ++ c :: b) a = 1 := by
  have h := cmpS_prefix _ a (c :: b) [] (Nat.le_refl _) (letter_tw hc b) (by simp)
  rw [List.append_nil] at h
  obtain ⟨hw, h65⟩ := wt_letter hc b
  have e : wt [] = 0 := rfl
  have := sgn_is (wt (c :: b) - wt [])
  rw [h, cmpS_ne (by rw [hw, e]; omega)]; omega
theorem cmpS_tilde_letter (a b : List Nat) {c : Nat} (hc : letB c = true) : cmpS (a ++ 126 :: b) (a ++ [c]) = -1 := by
  have h := cmpS_prefix _ a (126 :: b) [c] (Nat.le_refl _) (by simp [digB]) (letter_tw hc [])
  obtain ⟨hw, h65⟩ := wt_letter hc []
  have hv : wt (126 :: b) = -1 := by simp [wt, digB]
  have := sgn_is (wt (126 :: b) - wt [c])
  rw [h, cmpS_ne (by rw [hw, hv]; omega)]; omega
theorem decF_dig : ∀ (f n : Nat) (l : List Nat), (∀ c ∈ l, digB c = true) → ∀ c ∈ decF f n l, digB c = true
  | 0, _, _, h => h
  | f + 1, n, l, h => by
    simp only [decF]
    split
    · intro c hc
      rcases List.mem_cons.1 hc with rfl | hc
      · simp only [digB, decide_eq_true_eq]; omega
      · exact h c hc
    · refine decF_dig f _ _ (fun c hc => ?_)
      rcases List.mem_cons.1 hc with rfl | hc
      · simp only [digB, decide_eq_true_eq]; omega
      · exact h c hc
theorem decL_dig (n : Nat) : ∀ c ∈ decL n, digB c = true := decF_dig _ _ _ (by simp)
theorem decF_ne : ∀ (f n : Nat) (l : List Nat), l ≠ [] → decF f n l ≠ []
  | 0, _, _, h => h
  | f + 1, n, l, h => by
    simp only [decF]
    split
    · simp
    · exact decF_ne f _ _ (by simp)
theorem decL_ne (n : Nat) : decL n ≠ [] := by
  unfold decL
  simp only [decF]
  split
  · simp
  · exact decF_ne _ _ _ (by simp)
theorem tw_all {p : Nat → Bool} : ∀ (z x : List Nat), (∀ c ∈ z, p c = true) → (z ++ x).takeWhile p = z ++ x.takeWhile p
  | [], _, _ => rfl
  | c :: z, x, h => by simp only [List.cons_append, List.takeWhile_cons, h c (by simp), if_true]; rw [tw_all z x (fun d hd => h d (by simp [hd]))]
theorem dw_all {p : Nat → Bool} : ∀ (z x : List Nat), (∀ c ∈ z, p c = true) → (z ++ x).dropWhile p = x.dropWhile p
  | [], _, _ => rfl
  | c :: z, x, h => by simp only [List.cons_append, List.dropWhile_cons, h c (by simp), if_true]; exact dw_all z x (fun d hd => h d (by simp [hd]))
theorem wt_dig {z : List Nat} (h : ∀ c ∈ z, digB c = true) (hz : z ≠ []) (x : List Nat) : wt (z ++ x) = 0 := by
  cases z with
  | nil => exact absurd rfl hz
  | cons c z => simp [wt, h c (by simp)]
theorem cmpS_noughts (a b d z : List Nat) (hd : ∀ c ∈ d, digB c = true) (hn : d ≠ []) (hz : ∀ c ∈ z, c = 48) : cmpS (a ++ 46 :: (d ++ b)) (a ++ 46 :: (z ++ (d ++ b))) = 0 := by
  have h := cmpS_prefix _ a (46 :: (d ++ b)) (46 :: (z ++ (d ++ b))) (Nat.le_refl _) (by simp [digB]) (by simp [digB])
  have hw : ∀ l, wt (46 :: l) = 1046 := fun l => by simp [wt, digB, letB]
  rw [h, cmpS_eq (by rw [hw, hw]) (by rw [hw]; decide), List.drop_succ_cons, List.drop_succ_cons, List.drop_zero, List.drop_zero]
  have hzd : ∀ c ∈ z, digB c = true := fun c hc => by rw [hz c hc]; rfl
  have w1 := wt_dig hd hn b
  have w2 : wt (z ++ (d ++ b)) = 0 := by
    by_cases he : z = []
    · subst he; exact w1
    · exact wt_dig hzd he _
  have e1 : (z ++ (d ++ b)).takeWhile digB = z ++ (d ++ b).takeWhile digB := tw_all z _ hzd
  have e2 : digs (z ++ (d ++ b)) = digs (d ++ b) := by
    unfold digs
    rw [e1, dw_all z _ (fun c hc => by rw [hz c hc]; rfl)]
  have e3 : numD (z ++ (d ++ b)) = z.length + numD (d ++ b) := by unfold numD; rw [e1, List.length_append]
  rw [cmpS_no w1 w2, e2, e3, if_neg (by rw [numC_self]; simp), List.drop_length_add_append]
  exact cmpS_self _
end Go.Proofs.YtfpbeenaploaiaaGreatDoor
