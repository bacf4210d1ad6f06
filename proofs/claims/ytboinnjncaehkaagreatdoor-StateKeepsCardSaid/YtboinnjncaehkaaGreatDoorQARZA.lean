/- What the laws rest on: E7c. -/
import Derived.Test.YtboinnjncaehkaaGreatDoorQAPZA
set_option maxRecDepth 100000
set_option linter.unusedVariables false
set_option linter.unusedSimpArgs false
namespace Go.Proofs.YtboinnjncaehkaaGreatDoor
open Go.RowKit
theorem wo_ne {l:List Hr} {n:ByteArray}:∀x ∈ woH l n,x.e.n≠n:=fun x hx=>by simpa using (List.mem_filter.1 hx).2
end Go.Proofs.YtboinnjncaehkaaGreatDoor
