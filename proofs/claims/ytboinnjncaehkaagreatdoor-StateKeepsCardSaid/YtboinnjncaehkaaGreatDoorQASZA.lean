/- What the laws rest on: E7c. -/
import Derived.Test.YtboinnjncaehkaaGreatDoorQARZA
set_option maxRecDepth 100000
set_option linter.unusedVariables false
set_option linter.unusedSimpArgs false
namespace Go.Proofs.YtboinnjncaehkaaGreatDoor
open Go.RowKit
theorem fd_wo (l:List Hr) (n m:ByteArray):fdH (woH l n) m=if m=n then none else fdH l m:=by
 induction l with
 | nil=>unfold woH fdH;simp
 | cons x r ih=>
  unfold woH fdH at ih ⊢
  by_cases h:x.e.n=n
  ·rw [List.filter_cons_of_neg (by simp [h]),ih]
   by_cases q:m=n
   ·rw [if_pos q,if_pos q]
   ·rw [if_neg q,if_neg q,List.find?_cons_of_neg (by rw [h];simpa using fun e:n=m=>q e.symm)]
  ·rw [List.filter_cons_of_pos (by simp [h])]
   by_cases q:x.e.n=m
   ·rw [List.find?_cons_of_pos (by simp [q]),List.find?_cons_of_pos (by simp [q]),if_neg (by rintro rfl;exact h q)]
   ·rw [List.find?_cons_of_neg (by simp [q]),List.find?_cons_of_neg (by simp [q]),ih]
theorem fd_in {m:List Hr} {h:Hr} (hm:∀x ∈ m,x.e.n≠h.e.n) (k:ByteArray):fdH (inH m h) k=if k=h.e.n then some h else fdH m k:=by
 have e:=List.takeWhile_append_dropWhile (p:=leH h.e.n) (l:=m)
 unfold inH fdH
 rw [List.find?_append]
 by_cases q:k=h.e.n
 ·rw [if_pos q,List.find?_eq_none.2 (fun x hx=>by rw [q];simpa using hm x (mem_tw hx).2),Option.none_or,List.find?_cons_of_pos (by simp [q])]
 ·rw [if_neg q,List.find?_cons_of_neg (by simpa using fun e:h.e.n=k=>q e.symm),←List.find?_append,e]
theorem fd_wi (l:List Hr) (h:Hr) (k:ByteArray):fdH (wiH l h) k=if k=h.e.n then some h else fdH l k:=by
 unfold wiH
 rw [fd_in wo_ne,fd_wo]
 by_cases q:k=h.e.n
 ·rw [if_pos q,if_pos q]
 ·rw [if_neg q,if_neg q,if_neg q]
end Go.Proofs.YtboinnjncaehkaaGreatDoor
