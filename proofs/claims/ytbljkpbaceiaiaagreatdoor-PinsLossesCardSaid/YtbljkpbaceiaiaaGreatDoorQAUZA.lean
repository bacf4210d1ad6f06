/- What the laws rest on: E8q. -/
import Derived.Test.YtbljkpbaceiaiaaGreatDoorQASZA
set_option maxRecDepth 100000
set_option linter.unusedVariables false
set_option linter.unusedSimpArgs false
namespace Go.Proofs.YtbljkpbaceiaiaaGreatDoor
open Go.RowKit
theorem maxF_own {f:ByteArray→Int} {all:List ByteArray} {v w:ByteArray} (hv:v ∈ all) (hw:w ∈ all):maxF f (f v) all=maxF f (f w) all:=by
 have a:=maxF_ge f all (f v)
 have b:=maxF_ge f all (f w)
 have h1:maxF f (f v) all≤maxF f (f w) all:=by
  rcases maxF_is f all (f v) with h|⟨u,hu,h⟩
  ·rw [h];exact b.2 v hv
  ·rw [h];exact b.2 u hu
 have h2:maxF f (f w) all≤maxF f (f v) all:=by
  rcases maxF_is f all (f w) with h|⟨u,hu,h⟩
  ·rw [h];exact a.2 w hw
  ·rw [h];exact a.2 u hu
 omega
theorem loss_zero {l:List Pn} {nm:ByteArray} {all:List ByteArray} (h:all≠[]):∃v ∈ all,lossN l nm all v=0:=by
 cases all with
 | nil=>exact absurd rfl h
 | cons a r=>
  have ha:a ∈ a::r:=List.mem_cons_self ..
  rcases maxF_is (prioN l nm) (a::r) (prioN l nm a) with h|⟨v,hv,h⟩
  ·exact ⟨a,ha,by unfold lossN;omega⟩
  ·exact ⟨v,hv,by unfold lossN;rw [maxF_own hv ha];omega⟩
theorem loss_ge (l:List Pn) (nm:ByteArray) (all:List ByteArray) (v:ByteArray):0≤lossN l nm all v:=by
 have:=(maxF_ge (prioN l nm) all (prioN l nm v)).1
 unfold lossN;omega
theorem loss_is {l:List Pn} {nm:ByteArray} {all:List ByteArray} {v w:ByteArray} (hv:v ∈ all) (hw:w ∈ all):lossN l nm all v=maxF (prioN l nm) (prioN l nm w) all - prioN l nm v:=by
 unfold lossN;rw [maxF_own hv hw]
end Go.Proofs.YtbljkpbaceiaiaaGreatDoor
