/- What the laws rest on: N12s. -/
import Derived.Test.YtgjlgdpbmhdnbaaDoorQAHZA
import Derived.Test.YtgjlgdpbmhdnbaaDoorQAIZA
set_option maxRecDepth 100000
set_option linter.unusedVariables false
set_option linter.unusedSimpArgs false
namespace Go.Proofs.YtgjlgdpbmhdnbaaDoor
open Go.RowKit
set_option maxHeartbeats 16000000 in
theorem wunits12 (n:Int) (A:Option Addr) (nl cl:Nat) (l:List (List Int)) (Ag:Option Addr) (ng cg:Nat) (g:List Int) (w:World) (h:rdIss w (lt_ w.heap.size) l [.slice A nl cl]) (hg:rdInts w (lt_ w.heap.size) g [.slice Ag ng cg]) (E:Pow w) :
  Calls Tryd.prog 3 #[.int .i64 n,.slice A nl cl,.slice Ag ng cg] w fun e w'=>e=.returned (.bool true)∧Below w.heap.size w w':=by
 have SH:=Lib.hid (shown12_any w E)
 have SM:=Lib.hid (fun (W:World) (hb:Below w.heap.size w W)=>small12_any A nl cl l _ W (rdIss_good.below h hb))
 have U1:=Lib.hid (fun (W:World) (hb:Below w.heap.size w W)=>units12_any n A Ag nl cl ng cg l g W (rdIss_good.up (rdIss_good.below h hb) hb.size) (ints_up hg hb))
 have U2:=Lib.hid (fun (W:World) (hb:Below w.heap.size w W)=>q12units_any n A Ag nl cl ng cg l g W (rdIss_good.up (rdIss_good.below h hb) hb.size) (ints_up hg hb))
 obtain ⟨rfl,hgc,hgm,_⟩:=rdInts_at hg
 obtain ⟨rfl,hlc,hlm,_⟩:=rdIss_at h
 have hgm':cg≤9223372036854775807:=hgm
 have hlm':cl≤9223372036854775807:=hlm
 have SI:=Lib.hid sints12_any
 clear h hg E hgm hlm
 go_enter Tryd.func3,Tryd.ntmps3
 go_wp2_with fail
 refine SH.out.mono ?_
 rintro e w1 ⟨rfl,hb1⟩
 have B1:=Lib.hid hb1
 have S1:=Lib.hid (SM.out w1 B1.out)
 clear hb1 SH SM
 cases hs:sm12 l
 ·rw [hs] at S1
  clear hs
  go_wp2_with (go_at_call 8;refine S1.out.mono ?_;rintro e w' ⟨rfl,rfl⟩)
  go_ret
  exact ⟨rfl,B1.out⟩
 rw [hs] at S1
 clear hs
 by_cases h1:g.length > 100
 ·have d1:decide (100 < (g.length:Int))=true:=decide_eq_true (by omega)
  have z1:(100:Int) < (g.length:Int):=by omega
  go_wp2_with (go_at_call 8;refine S1.out.mono ?_;rintro e w' ⟨rfl,rfl⟩)
  go_ret
  exact ⟨rfl,B1.out⟩
 have d1:decide (100 < (g.length:Int))=false:=decide_eq_false (by omega)
 have z1:¬(100:Int) < (g.length:Int):=by omega
 by_cases h2:n > 4100
 ·have d2:decide (4100 < n)=true:=decide_eq_true h2
  go_wp2_with (go_at_call 8;refine S1.out.mono ?_;rintro e w' ⟨rfl,rfl⟩)
  go_ret
  exact ⟨rfl,B1.out⟩
 have d2:decide (4100 < n)=false:=decide_eq_false h2
 have V1:=Lib.hid (U1.out w1 B1.out)
 go_wp2_with (first|(go_at_call 8;refine S1.out.mono ?_;rintro e w' ⟨rfl,rfl⟩)|fail)
 refine V1.out.mono ?_
 rintro e w2 ⟨⟨r,ok,A1,c1,rfl,hu1,q2,q3⟩,-⟩
 have R1:=Lib.hid q2
 have B2:=Lib.hid (bel12 B1.out q3)
 have V2:=Lib.hid (U2.out w2 B2.out)
 clear q2 q3 V1 U1 U2 S1
 go_wp2_with fail
 refine V2.out.mono ?_
 rintro e w3 ⟨⟨r',ok',A2,c2,rfl,hu2,q2,q3⟩,-⟩
 obtain ⟨e1,e2⟩:=unA_one hu1 hu2
 subst e1
 subst e2
 have B3:=Lib.hid (bel12 B2.out q3)
 have KS:=Lib.hid (SI.out _ _ _ _ _ _ r r w3 (ints_up R1.out q3) q2)
 rw [decide_eq_true (rfl:r=r)] at KS
 clear q2 q3 V2 hu1 hu2 SI R1
 go_wp2_with fail
 refine KS.out.mono ?_
 rintro e w4 ⟨rfl,q3⟩
 have B4:=Lib.hid (bel12 B3.out (q3.below _))
 clear q3 KS
 have eo:(ok==ok)=true:=by simp
 go_wp2
 go_ret
 exact ⟨by try rfl,B4.out⟩
end Go.Proofs.YtgjlgdpbmhdnbaaDoor
