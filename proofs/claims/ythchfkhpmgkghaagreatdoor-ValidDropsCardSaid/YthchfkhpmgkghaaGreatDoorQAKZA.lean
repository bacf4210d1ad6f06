/- What the laws rest on: E10a. -/
import Derived.Test.YthchfkhpmgkghaaGreatDoorQAHZA
set_option maxRecDepth 100000
set_option linter.unusedVariables false
set_option linter.unusedSimpArgs false
namespace Go.Proofs.YthchfkhpmgkghaaGreatDoor
open Go.RowKit
theorem mem_pairP {f:Ent→Ent→Bool} {k:Int} {U:List Ent} {x:Ft}:∀{l:List Int},l.Pairwise (· < ·)→(x ∈ pairP f k U l↔∃p ∈ l,∃q ∈ l,p < q∧f (entA U p) (entA U q)=true∧x=⟨k,p,q⟩)
 | [],_=>by simp [pairP]
 | a::r,h=>by
  obtain ⟨h1,h2⟩:=List.pairwise_cons.1 h
  have ih:=mem_pairP (f:=f) (k:=k) (U:=U) (x:=x) h2
  unfold pairP
  rw [List.mem_append,mem_rowP,ih]
  constructor
  ·rintro (⟨q,hq,hf,e⟩|⟨p,hp,q,hq,hl,hf,e⟩)
   ·exact ⟨a,List.mem_cons_self ..,q,List.mem_cons_of_mem _ hq,h1 q hq,hf,e⟩
   ·exact ⟨p,List.mem_cons_of_mem _ hp,q,List.mem_cons_of_mem _ hq,hl,hf,e⟩
  ·rintro ⟨p,hp,q,hq,hl,hf,e⟩
   rcases List.mem_cons.1 hp with rfl|hp2
   ·rcases List.mem_cons.1 hq with rfl|hq2
    ·omega
    ·exact .inl ⟨q,hq2,hf,e⟩
   ·rcases List.mem_cons.1 hq with rfl|hq2
    ·have:=h1 p hp2;omega
    ·exact .inr ⟨p,hp2,q,hq2,hl,hf,e⟩
end Go.Proofs.YthchfkhpmgkghaaGreatDoor
