/- What the laws rest on: Deep. -/
import Derived.Test.YtbljkpbaceiaiaaGreatDoorQAAZA
set_option maxRecDepth 100000
set_option linter.unusedVariables false
set_option linter.unusedSimpArgs false
namespace Go.Proofs.YtbljkpbaceiaiaaGreatDoor
open Go.RowKit
section
variable {α:Type} {E:Rd α} {sz:Nat}
theorem Grow.alloc (g:Good E sz) {T:Nat→Prop} {w:World} {base:Nat} {e:TypeId} {v:Value} {l:List α} (h:Grow E sz T w base e v l) (o:Obj):Grow E sz T (w.alloc o) base e v l:=
 h.below g ((Below.refl _ w).alloc (Nat.le_refl _) o)
end
end Go.Proofs.YtbljkpbaceiaiaaGreatDoor
