/- What the laws rest on: E10b. -/
import Derived.WalkKit
import Derived.Lib.Hide
import Derived.Test.YthchfkhpmgkghaaGreatDoorProg
import Derived.Maps.AppendAt
import Derived.OwnWalk
import Derived.Below
import Derived.OneCell
import Derived.BigQuiet
import Derived.RangeFuncOwn
import Derived.OwnWalkIn
import Derived.Lib.Join
import Derived.Laws.IdiomStrings
import Derived.StillTailTactics
import Derived.Deep.QuietTactic
import Derived.Test.YthchfkhpmgkghaaGreatDoorChecked
import Derived.WalkLawsBesides
import Derived.WalkSpells
import Derived.Deep.RegionHeld3
import Derived.RegionTactic
import Derived.Laws.OwnMore
set_option maxRecDepth 100000
set_option linter.unusedVariables false
set_option linter.unusedSimpArgs false
namespace Go.Proofs.YthchfkhpmgkghaaGreatDoor
open Go.RowKit
theorem nil_iff {α:Type} {l:List α}:l=[]↔∀x,x ∉ l:=List.eq_nil_iff_forall_not_mem
end Go.Proofs.YthchfkhpmgkghaaGreatDoor
