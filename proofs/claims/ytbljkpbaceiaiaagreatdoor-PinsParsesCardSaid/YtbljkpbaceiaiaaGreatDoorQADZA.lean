/- What the laws rest on: StzP, S5c. -/
import Derived.Test.YtbljkpbaceiaiaaGreatDoorQAJZA
set_option maxRecDepth 100000
set_option linter.unusedVariables false
set_option linter.unusedSimpArgs false
namespace Go.Proofs.YtbljkpbaceiaiaaGreatDoor
open Go.RowKit
theorem fin_fin (s:PS):s.fin.fin=s.fin:=fin_of (fin_closed s)
theorem any_cl (op:List Opn) (n:ByteArray):getV (op.map clF) n=op.any fun f=>decide (f.1=n):=by
 unfold getV
 rw [List.any_map];rfl
theorem fstV_cons (f:Fd) (r:List Fd) (n:ByteArray):fstV (f::r) n=if f.n=n then f.v else fstV r n:=rfl
end Go.Proofs.YtbljkpbaceiaiaaGreatDoor
