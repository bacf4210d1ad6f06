/- What the laws rest on: N10m. -/
import Derived.Test.YthchfkhpmgkghaaGreatDoorQBDZA
import Derived.Test.YthchfkhpmgkghaaGreatDoorQBYZA
set_option maxRecDepth 100000
set_option linter.unusedVariables false
set_option linter.unusedSimpArgs false
namespace Go.Proofs.YthchfkhpmgkghaaGreatDoor
open Go.RowKit
theorem flt_bound {U:List Ent} {held:List Int} {i r:List Atm} {l:List Int} (hd:∀x ∈ U,x.d.length≤15) (hl:l.length≤200) (hU:U.length≤64) (hi:i.length≤100) (hr:r.length≤100):(fltS U held i r l).length≤1000000:=by
 unfold fltS outS
 rw [List.length_append,List.length_append,List.length_append]
 have h1:=ins_bound (l:=l) hd hl
 have h2:=awyS_len (held:=held) (l:=l) U.length 0
 have h3:=misS_len (U:=U) (l:=l) i 0
 have h4:=preS_len (U:=U) (l:=l) r 0
 have h5:r.length*l.length≤100*200:=Nat.mul_le_mul hr hl
 omega
end Go.Proofs.YthchfkhpmgkghaaGreatDoor
