/- What the laws rest on: E7c. -/
import Derived.Test.YtboinnjncaehkaaGreatDoorQAKZA
import Derived.Test.YtboinnjncaehkaaGreatDoorQARZA
set_option maxRecDepth 100000
set_option linter.unusedVariables false
set_option linter.unusedSimpArgs false
namespace Go.Proofs.YtboinnjncaehkaaGreatDoor
open Go.RowKit
theorem right_wo {l:List Hr} (h:RightP l) (n:ByteArray):RightP (woH l n):=by
 refine ⟨fun x hx=>h.1 x (List.mem_filter.1 hx).1,?_,Nat.le_trans (List.length_filter_le _ _) h.2.2⟩
 exact List.Pairwise.sublist ((List.filter_sublist (l:=l)).map _) h.2.1
theorem right_wi {l:List Hr} {h:Hr} (r:RightP l) (k:rgtE h.e=true):rightH (wiH l h)=decide ((wiH l h).length≤64):=by
 have q:=right_wo r h.e.n
 by_cases c:(wiH l h).length≤64
 ·rw [decide_eq_true c]
  refine (rightH_iff _).2 ⟨fun x hx=>?_,right_in wo_ne q.2.1,c⟩
  rcases mem_inH.1 hx with rfl|hx
  ·exact k
  ·exact q.1 x hx
 ·rw [decide_eq_false c,Bool.eq_false_iff]
  exact fun e=>c ((rightH_iff _).1 e).2.2
end Go.Proofs.YtboinnjncaehkaaGreatDoor
