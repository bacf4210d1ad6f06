/- What the laws rest on: E10b. -/
import Derived.Test.YthchfkhpmgkghaaGreatDoorQATZA
set_option maxRecDepth 100000
set_option linter.unusedVariables false
set_option linter.unusedSimpArgs false
namespace Go.Proofs.YthchfkhpmgkghaaGreatDoor
open Go.RowKit
theorem both_one {s:List Int} (hs:s.Pairwise (· < ·)) {h:Int}:(bothL s [h]).length=1↔h ∈ s:=by
 rw [both_filter (List.pairwise_singleton ..)]
 induction s with
 | nil=>simp
 | cons x r ih=>
  obtain ⟨h1,h2⟩:=List.pairwise_cons.1 hs
  rw [List.filter_cons]
  by_cases e:x=h
  ·subst e
   have hn:r.filter (fun y=>decide (y ∈ [x]))=[]:=by
    rw [List.filter_eq_nil_iff]
    intro y hy
    have:=h1 y hy
    simp;omega
   have hn':∀y ∈ r,¬y=x:=fun y hy=>by have:=h1 y hy;omega
   rw [if_pos (by simp),hn]
   simp
  ·have e':¬h=x:=fun q=>e q.symm
   simp only [List.mem_singleton,e,decide_false,Bool.false_eq_true,if_false,List.mem_cons,e',false_or]
   simpa using ih h2
end Go.Proofs.YthchfkhpmgkghaaGreatDoor
