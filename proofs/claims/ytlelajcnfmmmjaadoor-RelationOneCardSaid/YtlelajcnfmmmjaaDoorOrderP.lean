/- Versions, and texts as versions, stand in an order of classes; the newest of some: pure. -/
import Derived.Test.YtlelajcnfmmmjaaDoorCmpP
import Derived.Test.YtlelajcnfmmmjaaDoorRefOrder
set_option linter.unusedSimpArgs false
namespace Go.Proofs.YtlelajcnfmmmjaaDoor
open Go.RowKit
theorem cmpV_is (e1 : Int) (u1 r1 : List Nat) (e2 : Int) (u2 r2 : List Nat) : cmpV e1 u1 r1 e2 u2 r2 = -1 ∨ cmpV e1 u1 r1 e2 u2 r2 = 0 ∨ cmpV e1 u1 r1 e2 u2 r2 = 1 := by
  have h1 := cmpS_is u1 u2
  have h2 := cmpS_is r1 r2
  unfold cmpV
  split
  · split <;> omega
  · split <;> omega
theorem cmpV_neg (e1 : Int) (u1 r1 : List Nat) (e2 : Int) (u2 r2 : List Nat) : cmpV e2 u2 r2 e1 u1 r1 = -cmpV e1 u1 r1 e2 u2 r2 := by
  have h1 := cmpS_neg u1 u2
  have h2 := cmpS_neg r1 r2
  unfold cmpV
  by_cases he : e1 = e2
  · subst he
    rw [if_neg (show ¬ e1 ≠ e1 by omega), if_neg (show ¬ e1 ≠ e1 by omega)]
    by_cases hu : cmpS u1 u2 = 0
    · rw [if_neg (show ¬ cmpS u2 u1 ≠ 0 by omega), if_neg (show ¬ cmpS u1 u2 ≠ 0 by omega)]; exact h2
    · rw [if_pos (show cmpS u2 u1 ≠ 0 by omega), if_pos (show cmpS u1 u2 ≠ 0 by omega)]; exact h1
  · rw [if_pos (show e2 ≠ e1 by omega), if_pos (show e1 ≠ e2 by omega)]
    by_cases hl : e1 < e2
    · rw [if_neg (show ¬ e2 < e1 by omega), if_pos hl]; decide
    · rw [if_pos (show e2 < e1 by omega), if_neg hl]
theorem cmpV_tr (e1 : Int) (u1 r1 : List Nat) (e2 : Int) (u2 r2 : List Nat) (e3 : Int) (u3 r3 : List Nat) :
    cmpV e1 u1 r1 e2 u2 r2 ≤ 0 → cmpV e2 u2 r2 e3 u3 r3 ≤ 0 → cmpV e1 u1 r1 e3 u3 r3 ≤ 0 ∧ (cmpV e1 u1 r1 e2 u2 r2 < 0 ∨ cmpV e2 u2 r2 e3 u3 r3 < 0 → cmpV e1 u1 r1 e3 u3 r3 < 0) := by
  have hu := cmpS_tr u1 u2 u3
  have hu' := cmpS_tr u3 u2 u1
  rw [cmpS_neg u2 u3, cmpS_neg u1 u2, cmpS_neg u1 u3] at hu'
  have hr := cmpS_tr r1 r2 r3
  unfold cmpV
  by_cases h1 : e1 = e2
  · by_cases h2 : e2 = e3
    · rw [if_neg (show ¬ e1 ≠ e2 by omega), if_neg (show ¬ e2 ≠ e3 by omega), if_neg (show ¬ e1 ≠ e3 by omega)]
      by_cases q1 : cmpS u1 u2 = 0
      · by_cases q2 : cmpS u2 u3 = 0
        · have q3 : cmpS u1 u3 = 0 := by omega
          rw [if_neg (by omega), if_neg (by omega), if_neg (by omega)]; exact hr
        · rw [if_neg (show ¬ cmpS u1 u2 ≠ 0 by omega), if_pos (show cmpS u2 u3 ≠ 0 by omega)]
          intro _ p2
          rw [if_pos (by omega)]; omega
      · rw [if_pos (show cmpS u1 u2 ≠ 0 by omega)]
        intro p1
        by_cases q2 : cmpS u2 u3 = 0
        · rw [if_neg (show ¬ cmpS u2 u3 ≠ 0 by omega)]
          intro p2
          rw [if_pos (by omega)]; omega
        · rw [if_pos (show cmpS u2 u3 ≠ 0 by omega)]
          intro p2
          rw [if_pos (by omega)]; omega
    · rw [if_neg (show ¬ e1 ≠ e2 by omega), if_pos (show e2 ≠ e3 by omega), if_pos (show e1 ≠ e3 by omega)]
      by_cases h3 : e2 < e3
      · rw [if_pos h3, if_pos (show e1 < e3 by omega)]; intro _ _; omega
      · rw [if_neg h3]; intro _ p; omega
  · rw [if_pos (show e1 ≠ e2 by omega)]
    by_cases h3 : e1 < e2
    · rw [if_pos h3]
      intro _
      by_cases h2 : e2 = e3
      · rw [if_neg (show ¬ e2 ≠ e3 by omega), if_pos (show e1 ≠ e3 by omega), if_pos (show e1 < e3 by omega)]; intro _; omega
      · rw [if_pos (show e2 ≠ e3 by omega)]
        by_cases h4 : e2 < e3
        · rw [if_pos h4, if_pos (show e1 ≠ e3 by omega), if_pos (show e1 < e3 by omega)]; intro _; omega
        · rw [if_neg h4]; intro p; omega
    · rw [if_neg h3]; intro p; omega
theorem orderV_is (a b : List Nat) : orderV a b = -1 ∨ orderV a b = 0 ∨ orderV a b = 1 := by
  have h := cmpV_is (parse1 a) (parse2 a) (parse3 a) (parse1 b) (parse2 b) (parse3 b)
  unfold orderV
  split <;> split <;> omega
theorem orderV_neg (a b : List Nat) : orderV b a = -orderV a b := by
  have h := cmpV_neg (parse1 a) (parse2 a) (parse3 a) (parse1 b) (parse2 b) (parse3 b)
  unfold orderV
  by_cases h1 : parseE a = 0
  · by_cases h2 : parseE b = 0
    · simp only [h1, h2, ne_eq, not_true, if_false]; exact h
    · simp only [h1, h2, ne_eq, not_true, not_false_iff, if_false, if_true]
  · by_cases h2 : parseE b = 0
    · simp only [h1, h2, ne_eq, not_true, not_false_iff, if_false, if_true]; decide
    · simp only [h1, h2, ne_eq, not_true, not_false_iff, if_false, if_true]; decide
theorem orderV_self (a : List Nat) : orderV a a = 0 := by have := orderV_neg a a; omega
theorem orderV_tr (a b c : List Nat) : orderV a b ≤ 0 → orderV b c ≤ 0 → orderV a c ≤ 0 ∧ (orderV a b < 0 ∨ orderV b c < 0 → orderV a c < 0) := by
  have h := cmpV_tr (parse1 a) (parse2 a) (parse3 a) (parse1 b) (parse2 b) (parse3 b) (parse1 c) (parse2 c) (parse3 c)
  unfold orderV
  by_cases h1 : parseE a = 0
  · by_cases h2 : parseE b = 0
    · by_cases h3 : parseE c = 0
      · simp only [h1, h2, h3, ne_eq, not_true, if_false]; exact h
      · simp only [h1, h2, h3, ne_eq, not_true, not_false_iff, if_false, if_true]; intro _ p; omega
    · by_cases h3 : parseE c = 0
      · simp only [h1, h2, h3, ne_eq, not_true, not_false_iff, if_false, if_true]; intro p; omega
      · simp only [h1, h2, h3, ne_eq, not_true, not_false_iff, if_false, if_true]; intro p; omega
  · by_cases h2 : parseE b = 0
    · by_cases h3 : parseE c = 0
      · simp only [h1, h2, h3, ne_eq, not_true, not_false_iff, if_false, if_true]; intro _ _; omega
      · simp only [h1, h2, h3, ne_eq, not_true, not_false_iff, if_false, if_true]; intro _ p; omega
    · by_cases h3 : parseE c = 0
      · simp only [h1, h2, h3, ne_eq, not_true, not_false_iff, if_false, if_true]; intro _ _; omega
      · simp only [h1, h2, h3, ne_eq, not_true, not_false_iff, if_false, if_true]; intro _ _; omega
end Go.Proofs.YtlelajcnfmmmjaaDoor
