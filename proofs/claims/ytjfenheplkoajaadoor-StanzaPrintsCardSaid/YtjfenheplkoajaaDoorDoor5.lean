/- What the rows' list gives (Env5), and a world in which it is met. -/
import Derived.Test.YtjfenheplkoajaaDoorS5y
import Derived.Test.YtjfenheplkoajaaDoorPost2
import Derived.Test.YtjfenheplkoajaaDoorOpenF
import Derived.Test.YtjfenheplkoajaaDoorTie
import Derived.Test.YtjfenheplkoajaaDoorCards
import Derived.LaidMore
import Derived.Lay
import Derived.Stop.Joined
import Derived.Stop.LaidErr
import Derived.Deep.DeepHandedRow
import Derived.Lib.LaidTab
set_option maxRecDepth 100000
set_option linter.unusedVariables false
namespace Go.Proofs.YtjfenheplkoajaaDoor
open Go.RowKit Go.ChangeShapes Go.WideShapes Go.ChangeAt
def laidL : List (String × DataW Unit) := [("unicode/utf8.acceptRanges", Rows.laid_unicode_utf8_acceptRanges), ("unicode/utf8.first", Rows.laid_unicode_utf8_first)]
theorem env5_of {W : World} (h0 : laidMetH Tryd.prog laidL W) (hsh : W.ShapedOpen Tryd.prog) : Env5 W := Tryd.laysM143.s1_3 W hsh
theorem own' : ownKnob Tryd.prog.godebug = none := by kernel_rfl
theorem door_os (os : Os) : (World.laidAll Tryd.prog os laidL).os = os := World.laidAll_os _ _ _
theorem door_shaped (os : Os) (args : Array Value) : ((World.laidAll Tryd.prog os laidL).forCall (fun _ _ => 0) ⟨#[], args, []⟩).Shaped Tryd.prog := World.shaped_of_ZipB (by kernel_rfl) (by kernel_rfl)
theorem door_met (os : Os) (args : Array Value) : laidMetH Tryd.prog laidL ((World.laidAll Tryd.prog os laidL).forCall (fun _ _ => 0) ⟨#[], args, []⟩).memory := by
  rw [MakeChecks.laidMetH_plain _ _ _ (by kernel_rfl)]
  exact laidMet_laidAll _ (by kernel_rfl) (by kernel_rfl)
end Go.Proofs.YtjfenheplkoajaaDoor
