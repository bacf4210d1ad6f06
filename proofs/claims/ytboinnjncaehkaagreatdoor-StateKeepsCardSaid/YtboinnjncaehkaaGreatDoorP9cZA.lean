/- What the laws rest on: P9c. -/
import Derived.Test.YtboinnjncaehkaaGreatDoorE7yZA
import Derived.Test.YtboinnjncaehkaaGreatDoorQBYZA
set_option maxRecDepth 100000
set_option linter.unusedVariables false
set_option linter.unusedSimpArgs false
namespace Go.Proofs.YtboinnjncaehkaaGreatDoor
open Go.RowKit
theorem keeps7 (A:Option Addr) (n c:Nat) (l:List Hr) (x:Hr) (A1:Option Addr) (c1:Nat) (A2:Option Addr) (c2:Nat) (A3:Option Addr) (c3:Nat) (A4:Option Addr) (c4:Nat) (nm ot:ByteArray) (w:World) (h:rdHrs w (lt_ w.heap.size) l [.slice A n c]) (hx:EntV w (lt_ w.heap.size) x.e A1 c1 A2 c2 A3 c3 A4 c4) (E:EnvR w) :
  Calls Tryz.prog 7 #[.slice A n c,x.val A1 c1 A2 c2 A3 c3 A4 c4,.string nm,.string ot] w fun e w'=>e=.returned (.bool true)∧Below w.heap.size w w':=
 walk7_keeps con7 shown7 A n c l x A1 c1 A2 c2 A3 c3 A4 c4 nm ot w h hx E
end Go.Proofs.YtboinnjncaehkaaGreatDoor
