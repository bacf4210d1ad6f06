/- What the laws rest on: P9b. -/
import Derived.Test.YtboinnjncaehkaaGreatDoorE7xZA
import Derived.Test.YtboinnjncaehkaaGreatDoorQBYZA
set_option maxRecDepth 100000
set_option linter.unusedVariables false
set_option linter.unusedSimpArgs false
namespace Go.Proofs.YtboinnjncaehkaaGreatDoor
open Go.RowKit
theorem turns7 (A:Option Addr) (n c:Nat) (l:List Hr) (A':Option Addr) (n' c':Nat) (m:List Hr) (x:Hr) (A1:Option Addr) (c1:Nat) (A2:Option Addr) (c2:Nat) (A3:Option Addr) (c3:Nat) (A4:Option Addr) (c4:Nat) (nm:ByteArray) (au ho:Bool) (w:World) (h:rdHrs w (lt_ w.heap.size) l [.slice A n c]) (h':rdHrs w (lt_ w.heap.size) m [.slice A' n' c']) (hx:EntV w (lt_ w.heap.size) x.e A1 c1 A2 c2 A3 c3 A4 c4) (E:EnvR w) :
  Calls Tryz.prog 5 #[.slice A n c,.slice A' n' c',x.val A1 c1 A2 c2 A3 c3 A4 c4,.string nm,.bool au,.bool ho] w fun e w'=>e=.returned (.bool true)∧Below w.heap.size w w':=
 walk7_turns con7 shown7 A n c l A' n' c' m x A1 c1 A2 c2 A3 c3 A4 c4 nm au ho w h h' hx E
end Go.Proofs.YtboinnjncaehkaaGreatDoor
