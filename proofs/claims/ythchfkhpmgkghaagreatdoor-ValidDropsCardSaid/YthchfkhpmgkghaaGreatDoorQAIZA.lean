/- What the laws rest on: E10a. -/
import Derived.Test.YthchfkhpmgkghaaGreatDoorQAHZA
set_option maxRecDepth 100000
set_option linter.unusedVariables false
set_option linter.unusedSimpArgs false
namespace Go.Proofs.YthchfkhpmgkghaaGreatDoor
open Go.RowKit
theorem mem_opnP {U:List Ent} {l:List Int} {p:Int} {x:Ft}:∀{d:List (List Atm)} {i:Nat},x ∈ opnP U l p d i↔∃j,∃h:j < d.length,metS U l d[j]=false∧x=⟨3,p,((i+j:Nat):Int)⟩
 | [],i=>by simp [opnP]
 | g::r,i=>by
  have ih:=mem_opnP (U:=U) (l:=l) (p:=p) (x:=x) (d:=r) (i:=i+1)
  have hs:(∃j,∃h:j < (g::r).length,metS U l (g::r)[j]=false∧x=⟨3,p,((i+j:Nat):Int)⟩)↔(metS U l g=false∧x=⟨3,p,(i:Int)⟩)∨∃j,∃h:j < r.length,metS U l r[j]=false∧x=⟨3,p,((i+1+j:Nat):Int)⟩:=by
   constructor
   ·rintro ⟨j,h,e,q⟩
    cases j with
    | zero=>exact .inl ⟨e,q⟩
    | succ j=>exact .inr ⟨j,by simpa using h,e,by rw [q];congr 2;omega⟩
   ·rintro (⟨e,q⟩|⟨j,h,e,q⟩)
    ·exact ⟨0,by simp,e,q⟩
    ·exact ⟨j+1,by simpa using h,e,by rw [q];congr 2;omega⟩
  rw [hs]
  unfold opnP
  split
  ·rename_i h
   rw [ih]
   exact ⟨.inr,fun q=>q.elim (fun e=>by rw [h] at e;cases e.1) id⟩
  ·rename_i h
   rw [List.mem_cons,ih]
   exact ⟨fun q=>q.elim (fun e=>.inl ⟨Bool.eq_false_iff.2 h,e⟩) .inr,fun q=>q.elim (fun e=>.inl e.2) .inr⟩
theorem mem_opnS {U:List Ent} {l:List Int} {x:Ft}:∀{m:List Int},x ∈ opnS U l m↔∃p ∈ m,∃j,∃h:j < (entA U p).d.length,metS U l (entA U p).d[j]=false∧x=⟨3,p,(j:Int)⟩
 | []=>by simp [opnS]
 | p::r=>by
  have ih:=mem_opnS (U:=U) (l:=l) (x:=x) (m:=r)
  unfold opnS
  rw [List.mem_append,mem_opnP,ih]
  constructor
  ·rintro (⟨j,h,e,q⟩|⟨y,hy,j,h,e,q⟩)
   ·exact ⟨p,List.mem_cons_self ..,j,h,e,by rw [q,Nat.zero_add]⟩
   ·exact ⟨y,List.mem_cons_of_mem _ hy,j,h,e,q⟩
  ·rintro ⟨y,hy,j,h,e,q⟩
   rcases List.mem_cons.1 hy with rfl|hy
   ·exact .inl ⟨j,h,e,by rw [q,Nat.zero_add]⟩
   ·exact .inr ⟨y,hy,j,h,e,q⟩
end Go.Proofs.YthchfkhpmgkghaaGreatDoor
