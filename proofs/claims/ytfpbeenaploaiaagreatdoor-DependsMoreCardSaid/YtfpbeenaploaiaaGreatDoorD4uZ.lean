/- Two slices of the same atoms are the same. -/
import Derived.Test.YtfpbeenaploaiaaGreatDoorD4tZ
set_option linter.unusedVariables false
namespace Go.Proofs.YtfpbeenaploaiaaGreatDoor
open Go.RowKit
theorem sameAtoms_self (A A' : Option Addr) (c c' : Nat) (l : List Atm) (w : World) (h : rdAtms w (lt_ w.heap.size) l [.slice A l.length c]) (h' : rdAtms w (lt_ w.heap.size) l [.slice A' l.length c']) :
    Calls Tryz.prog 13 #[.slice A l.length c, .slice A' l.length c'] w fun e w' => e = .returned (.bool true) ∧ Dr w w' := by
  have := sameAtoms_any A A' l.length c l.length c' l l w h h'
  rwa [decide_eq_true rfl] at this
end Go.Proofs.YtfpbeenaploaiaaGreatDoor
