/- What the laws rest on: E8r. -/
import Derived.WalkKit
import Derived.Lib.Hide
set_option maxRecDepth 100000
set_option linter.unusedVariables false
set_option linter.unusedSimpArgs false
namespace Go.Proofs.YtbljkpbaceiaiaaGreatDoor
theorem any_step {α:Type} (p:α→Bool) (l:List α) {k:Nat} (hk:k < l.length):(l.take (k+1)).any p=((l.take k).any p||p l[k]):=by
 rw [List.take_succ_eq_append_getElem hk,List.any_append]
 simp
end Go.Proofs.YtbljkpbaceiaiaaGreatDoor
