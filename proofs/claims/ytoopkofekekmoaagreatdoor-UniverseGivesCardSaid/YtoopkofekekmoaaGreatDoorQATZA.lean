/- What the laws rest on: E9r. -/
import Derived.Test.YtoopkofekekmoaaGreatDoorQAMZA
set_option maxRecDepth 100000
set_option linter.unusedVariables false
set_option linter.unusedSimpArgs false
namespace Go.Proofs.YtoopkofekekmoaaGreatDoor
open Go.RowKit
theorem pv_less {a g:Atm} (v:ByteArray) (h:pvB a g=true):pvB ⟨a.n,0,v⟩ g=true:=by
 unfold pvB provB at h ⊢
 rw [Bool.and_eq_true] at h
 rw [h.1];rfl
theorem gvA_less {a:Atm} {x:Ent} (v:ByteArray) (h:gvA a x=true):gvA ⟨a.n,0,v⟩ x=true:=by
 unfold gvA at h ⊢
 obtain ⟨g,hg,k⟩:=List.any_eq_true.1 h
 exact List.any_eq_true.2 ⟨g,hg,pv_less v k⟩
theorem gvA_own {x:Ent} (h:parseE (B x.v)=0):gvA ⟨x.n,3,x.v⟩ x=true:=by
 unfold gvA gvs
 refine List.any_eq_true.2 ⟨⟨x.n,3,x.v⟩,List.mem_cons_self ..,?_⟩
 unfold pvB provB holdB
 simp only [decide_eq_true rfl,h,Bool.true_and,Bool.and_true]
 rw [orderV_self];rfl
end Go.Proofs.YtoopkofekekmoaaGreatDoor
