/- What the laws rest on: E10b. -/
import Derived.Test.YthchfkhpmgkghaaGreatDoorQAHZA
set_option maxRecDepth 100000
set_option linter.unusedVariables false
set_option linter.unusedSimpArgs false
namespace Go.Proofs.YthchfkhpmgkghaaGreatDoor
open Go.RowKit
theorem rowP_k {f:Ent→Ent→Bool} {k:Int} {U:List Ent} {p:Int} {r:List Int}:∀x ∈ rowP f k U p r,x.k=k:=fun x hx=>by
 obtain ⟨q,_,_,rfl⟩:=mem_rowP.1 hx;rfl
theorem pairP_k {f:Ent→Ent→Bool} {k:Int} {U:List Ent}:∀{l:List Int},∀x ∈ pairP f k U l,x.k=k
 | [],x,hx=>by cases hx
 | p::r,x,hx=>by
  unfold pairP at hx
  rcases List.mem_append.1 hx with h|h
  ·exact rowP_k x h
  ·exact pairP_k x h
end Go.Proofs.YthchfkhpmgkghaaGreatDoor
