/- The order of texts is an order of classes: pure. -/
import Derived.Test.YtfpbeenaploaiaaGreatDoorM1
namespace Go.Proofs.YtfpbeenaploaiaaGreatDoor
open Go.RowKit
theorem sgn_neg (n : Int) : sgn (-n) = -sgn n := by unfold sgn; split <;> split <;> (try split) <;> (try split) <;> omega
theorem sgn_is (n : Int) : (n < 0 ∧ sgn n = -1) ∨ (n = 0 ∧ sgn n = 0) ∨ (0 < n ∧ sgn n = 1) := by unfold sgn; split <;> (try split) <;> omega
theorem lexL_is : ∀ a b, lexL a b = -1 ∨ lexL a b = 0 ∨ lexL a b = 1
  | [], [] => by simp [lexL]
  | [], _ :: _ => by simp [lexL]
  | _ :: _, [] => by simp [lexL]
  | x :: a, y :: b => by have := lexL_is a b; simp only [lexL]; split <;> (try split) <;> omega
theorem lexL_neg : ∀ a b, lexL b a = -lexL a b
  | [], [] => by simp [lexL]
  | [], _ :: _ => by simp [lexL]
  | _ :: _, [] => by simp [lexL]
  | x :: a, y :: b => by have := lexL_neg a b; simp only [lexL]; split <;> split <;> (try split) <;> (try split) <;> omega
theorem lexL_tr : ∀ a b c, lexL a b ≤ 0 → lexL b c ≤ 0 → lexL a c ≤ 0 ∧ (lexL a b < 0 ∨ lexL b c < 0 → lexL a c < 0)
  | [], [], [] => by simp [lexL]
  | [], [], _ :: _ => by simp [lexL]
  | [], _ :: _, [] => by simp [lexL]
  | [], _ :: _, _ :: _ => by simp [lexL]
  | _ :: _, [], _ => by simp [lexL]
  | _ :: _, _ :: _, [] => by simp [lexL]
  | x :: a, y :: b, z :: c => by
    have h := lexL_tr a b c
    simp only [lexL]
    by_cases h1 : x < y
    · by_cases h3 : y < z
      · rw [if_pos h1, if_pos h3, if_pos (by omega)]; intro _ _; omega
      · by_cases h4 : z < y
        · rw [if_neg h3, if_pos h4]; intro _ hh; omega
        · rw [if_pos h1, if_pos (show x < z by omega)]; intro _ _; omega
    · by_cases h2 : y < x
      · rw [if_neg h1, if_pos h2]; intro hh; omega
      · by_cases h3 : y < z
        · rw [if_pos h3, if_pos (show x < z by omega)]; intro _ _; omega
        · by_cases h4 : z < y
          · rw [if_neg h3, if_pos h4]; intro _ hh; omega
          · rw [if_neg h1, if_neg h2, if_neg h3, if_neg h4, if_neg (by omega), if_neg (by omega)]; exact h
theorem numC_is (a b : List Nat) : numC a b = -1 ∨ numC a b = 0 ∨ numC a b = 1 := by
  have h := lexL_is a b
  have h2 := sgn_is ((a.length : Int) - b.length)
  unfold numC; split <;> omega
theorem numC_neg (a b : List Nat) : numC b a = -numC a b := by
  have h := lexL_neg a b
  have h2 := sgn_neg ((a.length : Int) - b.length)
  have e : -((a.length : Int) - b.length) = (b.length : Int) - a.length := by omega
  rw [e] at h2
  unfold numC
  by_cases hl : a.length = b.length
  · rw [if_neg (by omega), if_neg (by omega)]; exact h
  · rw [if_pos (by omega), if_pos hl]; exact h2
theorem numC_tr (a b c : List Nat) : numC a b ≤ 0 → numC b c ≤ 0 → numC a c ≤ 0 ∧ (numC a b < 0 ∨ numC b c < 0 → numC a c < 0) := by
  have h := lexL_tr a b c
  have h1 := sgn_is ((a.length : Int) - b.length)
  have h2 := sgn_is ((b.length : Int) - c.length)
  have h3 := sgn_is ((a.length : Int) - c.length)
  unfold numC
  by_cases e1 : a.length = b.length
  · by_cases e2 : b.length = c.length
    · rw [if_neg (by omega), if_neg (by omega), if_neg (by omega)]; exact h
    · rw [if_neg (by omega), if_pos (by omega), if_pos (by omega)]; intro _ _; omega
  · by_cases e2 : b.length = c.length
    · rw [if_pos (by omega), if_neg (by omega), if_pos (by omega)]; intro _ _; omega
    · rw [if_pos e1, if_pos e2]
      intro q1 q2
      rw [if_pos (by omega)]; omega
theorem wt_nonD {l : List Nat} : wt l = 0 ↔ nonD l = false := by
  constructor
  · intro h
    cases hn : nonD l
    · rfl
    · exact absurd h (wt_non hn)
  · exact wt_end
/-- The order as the first weights, or the first numbers, tell it. -/
theorem cmpS_ne {a b : List Nat} (h : wt a ≠ wt b) : cmpS a b = sgn (wt a - wt b) := by
  have hn : (nonD a || nonD b) = true := by
    cases ha : nonD a <;> cases hb : nonD b <;> first | rfl | skip
    exact absurd ((wt_end ha).trans (wt_end hb).symm) h
  rw [cmpS_wt hn, if_pos (by rw [Ne, sgn_zero]; omega)]
theorem cmpS_eq {a b : List Nat} (h : wt a = wt b) (h0 : wt a ≠ 0) : cmpS a b = cmpS (a.drop 1) (b.drop 1) := by
  have hn : (nonD a || nonD b) = true := by
    cases ha : nonD a
    · exact absurd (wt_end ha) h0
    · rfl
  rw [cmpS_wt hn, if_neg (by rw [Ne, sgn_zero]; omega)]
theorem cmpS_no {a b : List Nat} (h1 : wt a = 0) (h2 : wt b = 0) : cmpS a b = if numC (digs a) (digs b) ≠ 0 then numC (digs a) (digs b) else cmpS (a.drop (numD a)) (b.drop (numD b)) := by
  by_cases h : a = [] ∧ b = []
  · obtain ⟨rfl, rfl⟩ := h; rfl
  · exact cmpS_num h (by rw [wt_nonD.1 h1, wt_nonD.1 h2]; rfl)
theorem drop1_len {l : List Nat} (h : wt l ≠ 0) : (l.drop 1).length < l.length := by
  cases l with
  | nil => exact absurd rfl h
  | cons c l => simp
theorem dropN_len (l : List Nat) : (l.drop (numD l)).length ≤ l.length := by rw [List.length_drop]; omega
theorem dropN_lt {l : List Nat} (h : wt l = 0) (hl : l ≠ []) : (l.drop (numD l)).length < l.length := by
  have h1 := num_len (wt_nonD.1 h) hl
  have h2 := numD_le l
  rw [List.length_drop]; omega
theorem cmpS_both : ∀ (n : Nat) (a b : List Nat), a.length + b.length ≤ n → (cmpS a b = -1 ∨ cmpS a b = 0 ∨ cmpS a b = 1) ∧ cmpS b a = -cmpS a b
  | n, a, b, hn => by
    by_cases hw : wt a = wt b
    · by_cases h0 : wt a = 0
      · rw [cmpS_no h0 (hw ▸ h0), cmpS_no (hw ▸ h0) h0, numC_neg (digs a) (digs b)]
        have hi := numC_is (digs a) (digs b)
        by_cases hc : numC (digs a) (digs b) = 0
        · rw [if_neg (by omega), if_neg (by omega)]
          by_cases he : a = [] ∧ b = []
          · obtain ⟨rfl, rfl⟩ := he; exact ⟨.inr (.inl rfl), rfl⟩
          · have l1 := dropN_len a
            have l2 := dropN_len b
            have l3 : (a.drop (numD a)).length + (b.drop (numD b)).length < a.length + b.length := by
              by_cases ha : a = []
              · have := dropN_lt (hw ▸ h0) (fun hb => he ⟨ha, hb⟩); omega
              · have := dropN_lt h0 ha; omega
            match n with
            | 0 => omega
            | n + 1 => exact cmpS_both n _ _ (by omega)
        · rw [if_pos (by omega), if_pos (by omega)]; exact ⟨hi, rfl⟩
      · rw [cmpS_eq hw h0, cmpS_eq hw.symm (hw ▸ h0)]
        have l1 := drop1_len h0
        have l2 := drop1_len (hw ▸ h0 : wt b ≠ 0)
        match n with
        | 0 => omega
        | n + 1 => exact cmpS_both n _ _ (by omega)
    · rw [cmpS_ne hw, cmpS_ne (Ne.symm hw)]
      have h1 := sgn_is (wt a - wt b)
      have h2 := sgn_neg (wt a - wt b)
      have e : -(wt a - wt b) = wt b - wt a := by omega
      rw [e] at h2
      exact ⟨by omega, h2⟩
theorem cmpS_is (a b : List Nat) : cmpS a b = -1 ∨ cmpS a b = 0 ∨ cmpS a b = 1 := (cmpS_both _ a b (Nat.le_refl _)).1
theorem cmpS_neg (a b : List Nat) : cmpS b a = -cmpS a b := (cmpS_both _ a b (Nat.le_refl _)).2
theorem cmpS_self (a : List Nat) : cmpS a a = 0 := by have := cmpS_neg a a; omega
theorem cmpS_trN : ∀ (n : Nat) (a b c : List Nat), a.length + b.length + c.length ≤ n → cmpS a b ≤ 0 → cmpS b c ≤ 0 → cmpS a c ≤ 0 ∧ (cmpS a b < 0 ∨ cmpS b c < 0 → cmpS a c < 0)
  | n, a, b, c, hn => by
    have s1 := sgn_is (wt a - wt b)
    have s2 := sgn_is (wt b - wt c)
    have s3 := sgn_is (wt a - wt c)
    by_cases h1 : wt a = wt b
    · by_cases h2 : wt b = wt c
      · by_cases h0 : wt a = 0
        · rw [cmpS_no (a := a) (b := b) h0 (by omega), cmpS_no (a := b) (b := c) (by omega) (by omega), cmpS_no (a := a) (b := c) h0 (by omega)]
          have hi := numC_tr (digs a) (digs b) (digs c)
          have hj := numC_tr (digs c) (digs b) (digs a)
          rw [numC_neg (digs b) (digs c), numC_neg (digs a) (digs b), numC_neg (digs a) (digs c)] at hj
          by_cases e1 : numC (digs a) (digs b) = 0
          · by_cases e2 : numC (digs b) (digs c) = 0
            · have e3 : numC (digs a) (digs c) = 0 := by omega
              rw [if_neg (by omega), if_neg (by omega), if_neg (by omega)]
              by_cases he : a = [] ∧ b = [] ∧ c = []
              · obtain ⟨rfl, rfl, rfl⟩ := he; intro _ _; exact ⟨by decide, fun h => by rcases h with h | h <;> exact absurd h (by decide)⟩
              · have l1 := dropN_len a
                have l2 := dropN_len b
                have l3 := dropN_len c
                have l4 : (a.drop (numD a)).length + (b.drop (numD b)).length + (c.drop (numD c)).length < a.length + b.length + c.length := by
                  by_cases ha : a = []
                  · by_cases hb : b = []
                    · have := dropN_lt (by omega : wt c = 0) (fun hc => he ⟨ha, hb, hc⟩); omega
                    · have := dropN_lt (by omega : wt b = 0) hb; omega
                  · have := dropN_lt h0 ha; omega
                match n with
                | 0 => omega
                | n + 1 => exact cmpS_trN n _ _ _ (by omega)
            · rw [if_neg (by omega), if_pos e2]
              intro _ q
              rw [if_pos (by omega)]; omega
          · rw [if_pos e1]
            intro q1
            by_cases e2 : numC (digs b) (digs c) = 0
            · rw [if_neg (by omega)]
              intro q2
              rw [if_pos (by omega)]; omega
            · rw [if_pos e2]
              intro q2
              rw [if_pos (by omega)]; omega
        · rw [cmpS_eq (a := a) (b := b) h1 h0, cmpS_eq (a := b) (b := c) h2 (by omega), cmpS_eq (a := a) (b := c) (h1.trans h2) h0]
          have l1 := drop1_len h0
          have l2 := drop1_len (by omega : wt b ≠ 0)
          have l3 := drop1_len (by omega : wt c ≠ 0)
          match n with
          | 0 => omega
          | n + 1 => exact cmpS_trN n _ _ _ (by omega)
      · rw [cmpS_ne h2, cmpS_ne (a := a) (b := c) (by omega)]
        intro _ _; omega
    · rw [cmpS_ne h1]
      intro q1
      by_cases h2 : wt b = wt c
      · rw [cmpS_ne (a := a) (b := c) (by omega)]
        intro _; omega
      · rw [cmpS_ne h2]
        intro q2
        rw [cmpS_ne (a := a) (b := c) (by omega)]; omega
theorem cmpS_tr (a b c : List Nat) : cmpS a b ≤ 0 → cmpS b c ≤ 0 → cmpS a c ≤ 0 ∧ (cmpS a b < 0 ∨ cmpS b c < 0 → cmpS a c < 0) := cmpS_trN _ a b c (Nat.le_refl _)
end Go.Proofs.YtfpbeenaploaiaaGreatDoor
