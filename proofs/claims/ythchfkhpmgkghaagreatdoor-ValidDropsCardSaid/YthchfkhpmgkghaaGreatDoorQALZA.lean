/- What the laws rest on: E10a. -/
import Derived.Test.YthchfkhpmgkghaaGreatDoorQACZA
set_option maxRecDepth 100000
set_option linter.unusedVariables false
set_option linter.unusedSimpArgs false
namespace Go.Proofs.YthchfkhpmgkghaaGreatDoor
open Go.RowKit
theorem mem_fltS {U:List Ent} {held:List Int} {ri rm:List Atm} {l:List Int} {x:Ft}:x ∈ fltS U held ri rm l↔x ∈ pairP smN 1 U l∨x ∈ pairP fgt 2 U l∨x ∈ opnS U l l∨x ∈ awyS held l 0 U.length∨x ∈ misS U l ri 0∨x ∈ preS U l rm 0:=by
 unfold fltS insS outS
 simp only [List.mem_append]
 constructor
 ·rintro (((h|h)|h)|(h|h)|h)<;>simp [h]
 ·rintro (h|h|h|h|h|h)<;>simp [h]
end Go.Proofs.YthchfkhpmgkghaaGreatDoor
