/- The contract of the document's own Parse of an atom: the program's. -/
import Derived.Test.YtfpbeenaploaiaaGreatDoorRelRefZ
set_option maxRecDepth 100000
set_option linter.unusedVariables false
set_option linter.unusedSimpArgs false
namespace Go.Proofs.YtfpbeenaploaiaaGreatDoor
open Go.RowKit
theorem form_of {r : ByteArray} (h : 2 ≤ r.size) (h0 : r[0].toNat = 40) (h1 : (r[r.size - 1]'(by omega)).toNat = 41) :
    formB (B r) = (cutH (inL (B r)) && decide (opI (cutN (inL (B r))) ≠ 0)) ∧ B (r.extract 1 (r.size - 1)) = inL (B r) := by
  have hl : 2 ≤ (B r).length := by rw [B_len]; exact h
  have g0 : (B r).getD 0 0 = 40 := by rw [B_getD r 0 (by omega)]; exact h0
  have g1 : (B r).getD ((B r).length - 1) 0 = 41 := by rw [B_len, B_getD r (r.size - 1) (by omega)]; exact h1
  refine ⟨?_, ?_⟩
  · unfold formB; rw [decide_eq_true hl, decide_eq_true g0, decide_eq_true g1]; rfl
  · have hf := form_is hl g0 g1
    have hz := congrArg List.length hf
    rw [B_len] at hz
    simp only [List.length_cons, List.length_append, List.length_nil] at hz
    rw [B_extract, show r.size - 1 - 1 = (inL (B r)).length by omega]
    conv => lhs; rw [hf]
    simp only [List.drop_succ_cons, List.drop_zero, inL_of]
    simp
end Go.Proofs.YtfpbeenaploaiaaGreatDoor
