/- The contracts of the document's own small functions on bytes: digits, letters, signs, weights; memory is as it was. -/
import Derived.Test.YtlelajcnfmmmjaaDoorChecked
import Derived.Test.YtlelajcnfmmmjaaDoorStr
import Derived.WalkKit
import Derived.WalkLawsBesides
import Derived.WalkSpells
namespace Go.Proofs.YtlelajcnfmmmjaaDoor
open Go.RowKit
def hasB (l : List Nat) (c : Nat) : Bool := l.contains c
theorem hasB_take {l : List Nat} {c k : Nat} (h : ∀ j, j < k → l.getD j 256 ≠ c) (hk : l.length ≤ k) : hasB l c = false := by
  unfold hasB
  rw [Bool.eq_false_iff]
  intro hc
  obtain ⟨j, hj, e⟩ := List.getElem_of_mem (List.contains_iff_mem.1 hc)
  exact h j (by omega) (by rw [List.getD_eq_getElem?_getD, List.getElem?_eq_getElem hj]; exact e)
end Go.Proofs.YtlelajcnfmmmjaaDoor
