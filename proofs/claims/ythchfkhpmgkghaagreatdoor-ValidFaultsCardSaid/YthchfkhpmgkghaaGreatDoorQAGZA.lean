/- What the laws rest on: E6e. -/
import Derived.WalkKit
import Derived.Lib.Hide
import Derived.Test.YthchfkhpmgkghaaGreatDoorProg
import Derived.Maps.AppendAt
import Derived.OwnWalk
import Derived.Below
import Derived.OneCell
import Derived.BigQuiet
import Derived.RangeFuncOwn
import Derived.OwnWalkIn
import Derived.Lib.Join
import Derived.Laws.IdiomStrings
import Derived.StillTailTactics
import Derived.Deep.QuietTactic
import Derived.Test.YthchfkhpmgkghaaGreatDoorChecked
import Derived.WalkLawsBesides
import Derived.WalkSpells
import Derived.Deep.RegionHeld3
set_option maxRecDepth 100000
set_option linter.unusedVariables false
set_option linter.unusedSimpArgs false
namespace Go.Proofs.YthchfkhpmgkghaaGreatDoor
open Go.RowKit
theorem none_step6 {α:Type} {f:α→Bool} {l:List α} {k:Nat} (h:k < l.length) (ha:(l.take k).any f=false) (hf:f l[k]=false):(l.take (k+1)).any f=false:=by
 rw [List.take_succ_eq_append_getElem h,List.any_append,ha];simp [hf]
end Go.Proofs.YthchfkhpmgkghaaGreatDoor
