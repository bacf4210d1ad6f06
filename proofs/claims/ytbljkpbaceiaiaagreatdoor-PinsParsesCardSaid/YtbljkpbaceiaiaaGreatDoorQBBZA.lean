/- What the laws rest on: Open2. -/
import Derived.Test.YtbljkpbaceiaiaaGreatDoorChecked
import Derived.ProofKit
import Derived.OpenShut
import Derived.ChangeMaps5
import Derived.SliceStrings
import Derived.Lib.SmallJoins
set_option maxRecDepth 100000
set_option linter.unusedVariables false
set_option linter.unusedSimpArgs false
namespace Go.Proofs.YtbljkpbaceiaiaaGreatDoor
open Go.RowKit Go.WideShapes Go.ChangeShapes Go.ChangeAt Go.WideMaps Go.WideElems Go.Joins
section
variable {H:Type} {enc:TypeId × Value→H} {W:World}
theorem open_str_arg {v:Value} {d:DataW H} {p:List MemPlace} {base:Nat} (hv:Value.okWide Tryz.prog W .any base 9 v) (h:DataW.Trod enc Tryz.prog W 0 (fun _=>true) true 9 v d p) :
  ∃s:ByteArray,v=.string s∧s.size≤maxLen:=by
 obtain ⟨s,rfl⟩:=okWide_string Tryz.underlying9 hv
 obtain ⟨fuel,hf⟩:=h
 obtain ⟨s',h0,_,h2⟩:=DataW.trod_string Tryz.underlying9 hf
 simp [Value.cells] at h0
 exact ⟨s,rfl,by rw [h0];exact h2⟩
end
end Go.Proofs.YtbljkpbaceiaiaaGreatDoor
