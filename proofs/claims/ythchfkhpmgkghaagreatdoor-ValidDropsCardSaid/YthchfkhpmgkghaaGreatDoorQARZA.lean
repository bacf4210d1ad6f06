/- What the laws rest on: E10b. -/
import Derived.Test.YthchfkhpmgkghaaGreatDoorQAIZA
import Derived.Test.YthchfkhpmgkghaaGreatDoorQAKZA
import Derived.Test.YthchfkhpmgkghaaGreatDoorQANZA
set_option maxRecDepth 100000
set_option linter.unusedVariables false
set_option linter.unusedSimpArgs false
namespace Go.Proofs.YthchfkhpmgkghaaGreatDoor
open Go.RowKit
theorem opnS_nil {U:List Ent} {l m:List Int}:opnS U l m=[]↔∀p ∈ m,∀g ∈ (entA U p).d,metS U l g=true:=by
 rw [nil_iff]
 constructor
 ·intro h p hp g hg
  obtain ⟨j,hj,rfl⟩:=List.getElem_of_mem hg
  cases e:metS U l (entA U p).d[j]
  ·exact absurd (mem_opnS.2 ⟨p,hp,j,hj,e,rfl⟩) (h _)
  ·rfl
 ·intro h x hx
  obtain ⟨p,hp,j,hj,e,_⟩:=mem_opnS.1 hx
  rw [h p hp _ (List.getElem_mem hj)] at e;cases e
theorem pairP_nil {f:Ent→Ent→Bool} {k:Int} {U:List Ent} {l:List Int} (hl:l.Pairwise (· < ·)):pairP f k U l=[]↔∀p ∈ l,∀q ∈ l,p < q→f (entA U p) (entA U q)=false:=by
 rw [nil_iff]
 constructor
 ·intro h p hp q hq hpq
  cases e:f (entA U p) (entA U q)
  ·rfl
  ·exact absurd ((mem_pairP hl).2 ⟨p,hp,q,hq,hpq,e,rfl⟩) (h _)
 ·intro h x hx
  obtain ⟨p,hp,q,hq,hpq,e,_⟩:=(mem_pairP hl).1 hx
  rw [h p hp q hq hpq] at e;cases e
theorem insS_nil {U:List Ent} {l:List Int} (hl:l.Pairwise (· < ·)):insS U l=[]↔(∀p ∈ l,∀q ∈ l,p < q→(entA U p).n≠(entA U q).n)∧(∀p ∈ l,∀q ∈ l,p < q→fgt (entA U p) (entA U q)=false)∧∀p ∈ l,∀g ∈ (entA U p).d,metS U l g=true:=by
 unfold insS
 rw [List.append_eq_nil_iff,List.append_eq_nil_iff,pairP_nil hl,pairP_nil hl,opnS_nil,and_assoc]
 have e:(∀p ∈ l,∀q ∈ l,p < q→smN (entA U p) (entA U q)=false)↔∀p ∈ l,∀q ∈ l,p < q→(entA U p).n≠(entA U q).n:=by
  unfold smN
  simp only [decide_eq_false_iff_not,ne_eq]
 rw [e]
end Go.Proofs.YthchfkhpmgkghaaGreatDoor
