/- What the laws rest on: E6d. -/
import Derived.WalkKit
import Derived.Lib.Hide
import Derived.Test.YtbljkpbaceiaiaaGreatDoorProg
import Derived.Maps.AppendAt
import Derived.OwnWalk
import Derived.Below
import Derived.OneCell
import Derived.BigQuiet
import Derived.RangeFuncOwn
import Derived.OwnWalkIn
import Derived.Lib.Join
import Derived.Laws.IdiomStrings
import Derived.StillTailTactics
import Derived.Deep.QuietTactic
import Derived.Test.YtbljkpbaceiaiaaGreatDoorChecked
import Derived.WalkLawsBesides
import Derived.WalkSpells
import Derived.Deep.RegionHeld3
set_option maxRecDepth 100000
set_option linter.unusedVariables false
set_option linter.unusedSimpArgs false
namespace Go.Proofs.YtbljkpbaceiaiaaGreatDoor
open Go.RowKit
theorem keep6 {w w1:World} (h:Below w.heap.size w w1) {a:Addr} {v:Value} (hc:w.cell? a=some v):w1.cell? a=some v:=by
 rw [h.cell (World.block_lt_of_cell? _ _ hc)];exact hc
end Go.Proofs.YtbljkpbaceiaiaaGreatDoor
