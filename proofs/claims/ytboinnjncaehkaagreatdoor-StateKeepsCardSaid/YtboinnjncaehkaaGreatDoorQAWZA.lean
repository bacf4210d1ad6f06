/- What the laws rest on: E7h. -/
import Derived.WalkKit
import Derived.Lib.Hide
import Derived.Test.YtboinnjncaehkaaGreatDoorProg
import Derived.Maps.AppendAt
import Derived.OwnWalk
import Derived.Below
import Derived.OneCell
import Derived.BigQuiet
import Derived.RangeFuncOwn
import Derived.OwnWalkIn
import Derived.Lib.Join
import Derived.Laws.IdiomStrings
import Derived.StillTailTactics
import Derived.Deep.QuietTactic
import Derived.Test.YtboinnjncaehkaaGreatDoorChecked
import Derived.WalkLawsBesides
import Derived.WalkSpells
import Derived.Deep.RegionHeld3
import Derived.RegionTactic
import Derived.Laws.OwnMore
import Derived.OrdersHeld
import Derived.Deep.RegionHeld
set_option maxRecDepth 100000
set_option linter.unusedVariables false
set_option linter.unusedSimpArgs false
namespace Go.Proofs.YtboinnjncaehkaaGreatDoor
open Go.RowKit
theorem tw_step {α:Type} {p:α→Bool} {m:List α} {k:Nat} (hk:k < m.length) (h:m.takeWhile p=m.take k++(m.drop k).takeWhile p) (hp:p m[k]=true):m.takeWhile p=m.take (k+1)++(m.drop (k+1)).takeWhile p:=by
 rw [h,List.drop_eq_getElem_cons hk,List.takeWhile_cons_of_pos hp,List.take_succ_eq_append_getElem hk,List.append_assoc,List.singleton_append]
theorem tw_stop {α:Type} {p:α→Bool} {m:List α} {k:Nat} (hk:k≤m.length) (h:m.takeWhile p=m.take k++(m.drop k).takeWhile p) (hp:∀h:k < m.length,p m[k]=false):m.takeWhile p=m.take k∧m.dropWhile p=m.drop k:=by
 have e:(m.drop k).takeWhile p=[]:=by
  by_cases q:k < m.length
  ·rw [List.drop_eq_getElem_cons q,List.takeWhile_cons_of_neg (by rw [hp q];decide)]
  ·rw [List.drop_eq_nil_of_le (by omega)];rfl
 rw [e,List.append_nil] at h
 refine ⟨h,?_⟩
 have q:=List.takeWhile_append_dropWhile (p:=p) (l:=m)
 rw [h] at q
 exact List.append_cancel_left (q.trans (List.take_append_drop k m).symm)
end Go.Proofs.YtboinnjncaehkaaGreatDoor
