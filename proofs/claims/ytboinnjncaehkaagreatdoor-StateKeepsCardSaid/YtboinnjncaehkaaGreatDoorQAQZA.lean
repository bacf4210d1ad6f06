/- What the laws rest on: E7c. -/
import Derived.Test.YtboinnjncaehkaaGreatDoorQAPZA
set_option maxRecDepth 100000
set_option linter.unusedVariables false
set_option linter.unusedSimpArgs false
namespace Go.Proofs.YtboinnjncaehkaaGreatDoor
open Go.RowKit
theorem wi_len (l:List Hr) (h:Hr):(wiH l h).length≤l.length+1:=by
 unfold wiH inH
 have e:=congrArg List.length (List.takeWhile_append_dropWhile (p:=leH h.e.n) (l:=woH l h.e.n))
 rw [List.length_append] at e
 have:=List.length_filter_le (fun x:Hr=>!decide (x.e.n=h.e.n)) l
 unfold woH at e
 rw [List.length_append,List.length_cons]
 unfold woH
 omega
end Go.Proofs.YtboinnjncaehkaaGreatDoor
