/- What the laws rest on: N9j. -/
import Derived.Test.YthchfkhpmgkghaaGreatDoorQBJZA
import Derived.Test.YthchfkhpmgkghaaGreatDoorQBRZA
set_option maxRecDepth 100000
set_option linter.unusedVariables false
set_option linter.unusedSimpArgs false
namespace Go.Proofs.YthchfkhpmgkghaaGreatDoor
open Go.RowKit
set_option maxHeartbeats 2000000 in
theorem entries9_any (b:Nat) (L:List Ent) (m:List Hr) (w:World) (h:UP w b L m) (hl:L.length≤200) :
  Calls Tryz.prog 31 #[.pointer (some ⟨b,0,none⟩)] w fun e w'=>(∃A c,e=.returned (.slice A L.length c)∧rdEnts w' (lt_ w'.heap.size) L [.slice A L.length c])∧Below w.heap.size w w':=by
 obtain ⟨A,c,A',c',bm,h1,h2,-,h4,h5,-⟩:=h
 have K:=Lib.hid (cloneE9_any A L.length c L w h4 hl)
 clear h4 h5
 go_enter Tryz.func31,Tryz.ntmps31
 go_wp2_with fail
 refine K.out.mono ?_
 rintro e w1 ⟨⟨v,rfl,hG⟩,hb⟩
 obtain ⟨Av,cv,hv,-,-⟩:=hG.own
 have R:=Lib.hid (hG.read rdEnt_good)
 rw [hv] at R
 subst hv
 clear hG h1 h2
 go_wp2
 go_ret
 exact ⟨⟨Av,cv,rfl,R.out⟩,hb⟩
end Go.Proofs.YthchfkhpmgkghaaGreatDoor
