/- What the laws rest on: E10b. -/
import Derived.Test.YthchfkhpmgkghaaGreatDoorQACZA
set_option maxRecDepth 100000
set_option linter.unusedVariables false
set_option linter.unusedSimpArgs false
namespace Go.Proofs.YthchfkhpmgkghaaGreatDoor
open Go.RowKit
theorem givS_up {U:List Ent} {s t:List Int} {a:Atm} (h:∀p ∈ s,p ∈ t) (k:givS U s a=true):givS U t a=true:=by
 unfold givS at *
 obtain ⟨p,hp,e⟩:=List.any_eq_true.1 k
 exact List.any_eq_true.2 ⟨p,h p hp,e⟩
end Go.Proofs.YthchfkhpmgkghaaGreatDoor
