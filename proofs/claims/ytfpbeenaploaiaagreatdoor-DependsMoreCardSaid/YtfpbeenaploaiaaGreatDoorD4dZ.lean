/- The contract of the document's own Right of groups. -/
import Derived.Test.YtfpbeenaploaiaaGreatDoorD4cZ
import Derived.Test.YtfpbeenaploaiaaGreatDoorDepP2Z
import Derived.Test.YtfpbeenaploaiaaGreatDoorRelRef2Z
set_option maxRecDepth 100000
set_option linter.unusedVariables false
set_option linter.unusedSimpArgs false
namespace Go.Proofs.YtfpbeenaploaiaaGreatDoor
open Go.RowKit
theorem right_no_many {L : List (List Atm)} (h : ¬ L.length ≤ 12) : rightG L = false := by unfold rightG; rw [decide_eq_false h]; rfl
theorem right_stop {L : List (List Atm)} {k : Nat} (hk : k < L.length) (h : rgtOne L[k] = false) : rightG L = false := by unfold rightG; rw [all_stopL hk h]; simp
theorem right_all {L : List (List Atm)} (h : (L.take L.length).all rgtOne = true) : rightG L = decide (L.length ≤ 12) := by rw [List.take_length] at h; unfold rightG; rw [h]; simp
theorem rgtOne_stop {g : List Atm} {k : Nat} (hk : k < g.length) (h : rgt g[k] = false) : rgtOne g = false := by unfold rgtOne; rw [all_stopL hk h]; simp
theorem rgtOne_len {g : List Atm} (h : ¬ (1 ≤ g.length ∧ g.length ≤ 6)) : rgtOne g = false := by
  unfold rgtOne
  rw [Bool.and_eq_false_iff, Bool.and_eq_false_iff, decide_eq_false_iff_not, decide_eq_false_iff_not]; omega
theorem rgtOne_yes {g : List Atm} (h1 : 1 ≤ g.length) (h2 : g.length ≤ 6) (h : (g.take g.length).all rgt = true) : rgtOne g = true := by
  rw [List.take_length] at h; unfold rgtOne; rw [decide_eq_true h1, decide_eq_true h2, h]; rfl
end Go.Proofs.YtfpbeenaploaiaaGreatDoor
