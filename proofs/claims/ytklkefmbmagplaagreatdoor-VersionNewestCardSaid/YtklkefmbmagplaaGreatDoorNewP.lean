/- The newest of some is not less than any: pure. -/
import Derived.Test.YtklkefmbmagplaaGreatDoorOrderP
import Derived.Test.YtklkefmbmagplaaGreatDoorNewT
set_option linter.unusedSimpArgs false
namespace Go.Proofs.YtklkefmbmagplaaGreatDoor
open Go.RowKit
/-- The newest of some is not less than any, and greater than those ahead of it. -/
theorem newN_max (cl : List ByteArray) : ∀ k, 0 < k → 0 ≤ newN cl k ∧ ∀ i, i < k → orderV (B (cl.getD i ByteArray.empty)) (B (cl.getD (newN cl k).toNat ByteArray.empty)) ≤ 0 ∧ ((i : Int) < newN cl k → orderV (B (cl.getD i ByteArray.empty)) (B (cl.getD (newN cl k).toNat ByteArray.empty)) < 0)
  | 0, h => by omega
  | k + 1, _ => by
    have hl := newN_lt cl k
    by_cases hk : k = 0
    · subst hk
      have e : newN cl 1 = 0 := by
        show newStep cl (newN cl 0) 0 = 0
        unfold newStep
        rw [if_pos (Or.inl (show newN cl 0 < 0 by show (-1 : Int) < 0; decide))]; rfl
      rw [e]
      refine ⟨by decide, fun i hi => ?_⟩
      obtain rfl : i = 0 := by omega
      exact ⟨by show orderV _ _ ≤ 0; have := orderV_self (B (cl.getD 0 ByteArray.empty)); rw [show ((0 : Int).toNat) = 0 from rfl]; omega, fun h => absurd h (by decide)⟩
    · obtain ⟨h0, hall⟩ := newN_max cl k (by omega)
      by_cases hx : 0 < orderV (B (cl.getD k ByteArray.empty)) (B (cl.getD (newN cl k).toNat ByteArray.empty))
      · have e : newN cl (k + 1) = k := by
          show newStep cl (newN cl k) k = k
          unfold newStep
          rw [if_pos (Or.inr hx)]
        rw [e, Int.toNat_natCast]
        refine ⟨by omega, fun i hi => ?_⟩
        by_cases hik : i = k
        · subst hik; have := orderV_self (B (cl.getD i ByteArray.empty)); exact ⟨by omega, fun h => by omega⟩
        · have h1 := (hall i (by omega)).1
          have h2 := orderV_neg (B (cl.getD k ByteArray.empty)) (B (cl.getD (newN cl k).toNat ByteArray.empty))
          have h3 := orderV_tr _ _ (B (cl.getD k ByteArray.empty)) h1 (by omega)
          have h4 := h3.2 (.inr (by omega))
          exact ⟨h3.1, fun _ => h4⟩
      · have e : newN cl (k + 1) = newN cl k := by
          show newStep cl (newN cl k) k = newN cl k
          unfold newStep
          rw [if_neg (by omega)]
        rw [e]
        refine ⟨h0, fun i hi => ?_⟩
        by_cases hik : i = k
        · subst hik; exact ⟨by omega, fun h => by omega⟩
        · exact hall i (by omega)
end Go.Proofs.YtklkefmbmagplaaGreatDoor
