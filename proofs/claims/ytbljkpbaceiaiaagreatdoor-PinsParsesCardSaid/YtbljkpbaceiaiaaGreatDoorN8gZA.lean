/- What the laws rest on: N8g. -/
import Derived.Test.YtbljkpbaceiaiaaGreatDoorQAWZA
import Derived.Test.YtbljkpbaceiaiaaGreatDoorQBAZA
set_option maxRecDepth 100000
set_option linter.unusedVariables false
set_option linter.unusedSimpArgs false
namespace Go.Proofs.YtbljkpbaceiaiaaGreatDoor
open Go.RowKit
set_option maxHeartbeats 2000000 in
theorem parses8 (s:ByteArray) (w:World) (hs:s.size≤maxLen) (E:Env w):Calls Tryz.prog 3 #[.string s] w fun e w'=>e=.returned (.bool true)∧Below w.heap.size w w':=by
 have HE:=Lib.hid E
 have KH:=Lib.hid (shown8_any w E)
 have hs':s.size≤9223372036854775807:=hs
 have HS:=Lib.hid hs
 have KP:=Lib.hid (fun W E=>parse8_any s W E)
 have KQ:=Lib.hid (fun W=>q8parse_any s W hs)
 clear E hs
 by_cases h4:(4000:Int) < (s.size:Int)
 ·go_enter Tryz.func3,Tryz.ntmps3
  go_wp2_with fail
  refine KH.out.mono ?_
  rintro e w1 ⟨rfl,hb⟩
  have B1:=Lib.hid hb
  clear hb
  go_wp2
  go_ret
  exact ⟨rfl,B1.out⟩
 obtain ⟨⟨R1,R2,R3⟩,hR⟩:∃R,R=paN (B s):=⟨_,rfl⟩
 rw [←hR] at KP KQ
 clear hR
 go_enter Tryz.func3,Tryz.ntmps3
 go_wp2_with fail
 refine KH.out.mono ?_
 rintro e w1 ⟨rfl,hb⟩
 have B1:=Lib.hid hb
 clear hb
 go_wp2_with fail
 refine (KP.out _ (HE.out.below B1.out)).mono ?_
 rintro e w2 ⟨⟨A,n,c,rfl,hr⟩,hb⟩
 obtain ⟨rfl,-,-,-⟩:=rdPns_at hr
 have HR:=Lib.hid hr
 have B2:=Lib.hid (bel_2 B1.out hb)
 clear hr hb
 go_wp2_with fail
 refine (KQ.out _).mono ?_
 rintro e w3 ⟨⟨A',n',c',rfl,hr⟩,hb⟩
 obtain ⟨rfl,-,-,-⟩:=rdPns_at hr
 have B3:=Lib.hid (bel_2 B2.out hb)
 have KS:=Lib.hid (same8_any A A' _ c _ c' R1 R1 w3 (rdPns_good.up (rdPns_good.below HR.out hb) hb.size) hr)
 rw [decide_eq_true rfl] at KS
 clear hr hb
 go_wp2_with fail
 refine KS.out.mono ?_
 rintro e w4 ⟨rfl,hb⟩
 have B4:=Lib.hid (bel_2 B3.out hb)
 clear hb
 go_wp2
 go_ret
 exact ⟨by simp,B4.out⟩
end Go.Proofs.YtbljkpbaceiaiaaGreatDoor
