/- What the laws rest on: E6j, E7t. -/
import Derived.Test.YtboinnjncaehkaaGreatDoorQBXZA
set_option maxRecDepth 100000
set_option linter.unusedVariables false
set_option linter.unusedSimpArgs false
namespace Go.Proofs.YtboinnjncaehkaaGreatDoor
open Go.RowKit Go.WideShapes Go.ChangeShapes Go.ChangeAt Go.WideMaps Go.WideElems Go.Joins Go.Deep
section
variable {H:Type} {enc:TypeId × Value→H} {W:World}
theorem ent_val {x:Ent} {S:Nat→Prop} {cs:List Value} (h:rdEnt W S x cs):∃A1 c1 A2 c2 A3 c3 A4 c4,cs=(x.val A1 c1 A2 c2 A3 c3 A4 c4).cells.toList∧EntV W S x A1 c1 A2 c2 A3 c3 A4 c4:=by
 obtain ⟨dv,rv,cv,pv,rfl,g1,g2,g3,g4⟩:=h
 obtain ⟨A1,c1,e1,_⟩:=id g1
 obtain ⟨A2,c2,e2,_⟩:=id g2
 obtain ⟨A3,c3,e3,_⟩:=id g3
 obtain ⟨A4,c4,e4,_⟩:=id g4
 simp only [List.cons.injEq,and_true] at e1 e2 e3 e4
 subst e1
 subst e2
 subst e3
 subst e4
 exact ⟨A1,c1,A2,c2,A3,c3,A4,c4,rfl,⟨g1,g2,g3,g4⟩⟩
end
section
variable {H:Type} {enc:TypeId × Value→H} {W:World}
theorem open_here_arg {v:Value} {d:DataW H} {p:List MemPlace} {base:Nat} (hv:Value.okWide Tryz.prog W .any base 36 v) (h:DataW.Trod enc Tryz.prog W 0 (fun _=>true) true 36 v d p) :
  ∃(x:Hr),∃A1 c1 A2 c2 A3 c3 A4 c4,v=x.val A1 c1 A2 c2 A3 c3 A4 c4∧EntV W (lt_ W.heap.size) x.e A1 c1 A2 c2 A3 c3 A4 c4∧HrOk x:=by
 obtain ⟨cs,rfl,hsz⟩:=okWide_struct Tryz.underlying36 hv
 obtain ⟨fuel,hf⟩:=h
 obtain ⟨x,⟨es,hes,hx⟩,ok⟩:=trod_here hf
 obtain ⟨A1,c1,A2,c2,A3,c3,A4,c4,hcs,hE⟩:=ent_val hx
 refine ⟨x,A1,c1,A2,c2,A3,c3,A4,c4,?_,hE,ok⟩
 rw [hcs] at hes
 simp [Value.cells] at hes
 obtain ⟨cl⟩:=cs
 have hcl:cl=_:=hes
 rw [hcl]
end
end Go.Proofs.YtboinnjncaehkaaGreatDoor
