/- What the laws rest on: N9j. -/
import Derived.Test.YtoopkofekekmoaaGreatDoorQAOZA
set_option maxRecDepth 100000
set_option linter.unusedVariables false
set_option linter.unusedSimpArgs false
namespace Go.Proofs.YtoopkofekekmoaaGreatDoor
open Go.RowKit
set_option maxHeartbeats 2000000 in
theorem len9_any (b:Nat) (L:List Ent) (m:List Hr) (w:World) (h:UP w b L m) :
  Calls Tryz.prog 16 #[.pointer (some ⟨b,0,none⟩)] w fun e w'=>e=.returned (.int .i64 (L.length:Int))∧w=w':=by
 obtain ⟨A,c,A',c',bm,h1,-,-,h4,-⟩:=h
 obtain ⟨-,hnc,hcm,-⟩:=rdEnts_at h4
 have hcm':c≤9223372036854775807:=hcm
 clear h4
 go_enter Tryz.func16,Tryz.ntmps16
 go_wp2
 go_ret
 exact ⟨rfl,rfl⟩
end Go.Proofs.YtoopkofekekmoaaGreatDoor
