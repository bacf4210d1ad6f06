/- What the laws rest on: E10a. -/
import Derived.Test.YthchfkhpmgkghaaGreatDoorQACZA
set_option maxRecDepth 100000
set_option linter.unusedVariables false
set_option linter.unusedSimpArgs false
namespace Go.Proofs.YthchfkhpmgkghaaGreatDoor
open Go.RowKit
theorem mem_rowP {f:Ent→Ent→Bool} {k:Int} {U:List Ent} {p:Int} {x:Ft}:∀{r:List Int},x ∈ rowP f k U p r↔∃q ∈ r,f (entA U p) (entA U q)=true∧x=⟨k,p,q⟩
 | []=>by simp [rowP]
 | q::r=>by
  have ih:=mem_rowP (f:=f) (k:=k) (U:=U) (p:=p) (x:=x) (r:=r)
  unfold rowP
  split
  ·rename_i h
   rw [List.mem_cons,ih]
   constructor
   ·rintro (h'|⟨y,h1,h2,h3⟩)
    ·exact ⟨q,List.mem_cons_self ..,h,h'⟩
    ·exact ⟨y,List.mem_cons_of_mem _ h1,h2,h3⟩
   ·rintro ⟨y,h1,h2,h3⟩
    rcases List.mem_cons.1 h1 with rfl|h1
    ·exact .inl h3
    ·exact .inr ⟨y,h1,h2,h3⟩
  ·rename_i h
   rw [ih]
   constructor
   ·rintro ⟨y,h1,h2,h3⟩;exact ⟨y,List.mem_cons_of_mem _ h1,h2,h3⟩
   ·rintro ⟨y,h1,h2,h3⟩
    rcases List.mem_cons.1 h1 with rfl|h1
    ·exact absurd h2 h
    ·exact ⟨y,h1,h2,h3⟩
end Go.Proofs.YthchfkhpmgkghaaGreatDoor
