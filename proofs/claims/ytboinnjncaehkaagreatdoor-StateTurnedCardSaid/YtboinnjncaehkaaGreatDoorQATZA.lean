/- What the laws rest on: E7c. -/
import Derived.Test.YtboinnjncaehkaaGreatDoorQASZA
set_option maxRecDepth 100000
set_option linter.unusedVariables false
set_option linter.unusedSimpArgs false
namespace Go.Proofs.YtboinnjncaehkaaGreatDoor
open Go.RowKit
theorem tu_self (l:List Hr):tuH l l=[]:=List.eq_nil_iff_forall_not_mem.2 fun x hx=>tu_mem.1 hx rfl
theorem tu_comm (a b:List Hr):tuH a b=tuH b a:=ris_ext (tu_ris a b) (tu_ris b a) fun x=>by rw [tu_mem,tu_mem];exact ⟨fun h=>h.symm,fun h=>h.symm⟩
theorem tu_wi (l:List Hr) (h:Hr):tuH l (wiH l h)=if fdH l h.e.n=some h then [] else [h.e.n]:=by
 split
 ·rename_i q
  refine (tu_is List.Pairwise.nil fun x=>?_).symm
  rw [fd_wi]
  refine ⟨fun h=>(List.not_mem_nil h).elim,fun hne=>(hne ?_).elim⟩
  split
  ·rename_i e;rw [e];exact q
  ·rfl
 ·rename_i q
  refine (tu_is (List.pairwise_singleton _ _) fun x=>?_).symm
  rw [fd_wi,List.mem_singleton]
  split
  ·rename_i e;rw [e];exact ⟨fun _=>q,fun _=>rfl⟩
  ·rename_i e;exact ⟨fun h=>absurd h e,fun h=>absurd rfl h⟩
end Go.Proofs.YtboinnjncaehkaaGreatDoor
