/- What the laws rest on: N8j. -/
import Derived.Test.YtbljkpbaceiaiaaGreatDoorQAEZA
import Derived.Test.YtbljkpbaceiaiaaGreatDoorQAGZA
import Derived.Test.YtbljkpbaceiaiaaGreatDoorQAZZA
set_option maxRecDepth 100000
set_option linter.unusedVariables false
set_option linter.unusedSimpArgs false
namespace Go.Proofs.YtbljkpbaceiaiaaGreatDoor
open Go.RowKit
theorem emp8 (s:ByteArray):s.toList.isEmpty=decide (s={ data:=#[] }):=by
 have e:({ data:=#[] }:ByteArray).toList=[]:=by kernel_rfl
 rw [←str_eq,e]
 cases s.toList<;>rfl
set_option maxHeartbeats 8000000 in
theorem back8 (A:Option Addr) (n c:Nat) (l:List Pn) (s:ByteArray) (w:World) (h:rdPns w (lt_ w.heap.size) l [.slice A n c]) (E:Env w) :
  Calls Tryz.prog 6 #[.slice A n c,.string s] w fun e w'=>e=.returned (.bool true)∧Below w.heap.size w w':=by
 obtain ⟨rfl,hnc0,hcm0,-⟩:=rdPns_at h
 have hcm':c≤9223372036854775807:=hcm0
 have HR:=Lib.hid (fun (W:World) (hb:Below w.heap.size w W)=>rdPns_good.up (rdPns_good.below h hb) hb.size)
 have HE:=Lib.hid (fun (W:World) (hb:Below w.heap.size w W)=>E.below hb)
 have S:=Lib.hid (shown8_any w E)
 have K0:=Lib.hid (fun (W:World) (hb:Below w.heap.size w W)=>small8_any A l.length c l W (HR.out W hb))
 have K1:=Lib.hid (fun (W:World) (hb:Below w.heap.size w W)=>pprint_any A l.length c l W (HR.out W hb) (HE.out W hb))
 have K2:=Lib.hid (fun (ht:prN prP l≠{ data:=#[] }) (W:World) (hb:Below w.heap.size w W)=>by have:=parse8_any (prN prP l) W (HE.out W hb);rw [print_back8 ht] at this;exact this)
 have K3:=Lib.hid (fun (W:World) (hb:Below w.heap.size w W)=>parse8_any s W (HE.out W hb))
 have Q2:=Lib.hid (parse_back8 (t:=B s))
 have Q3:=Lib.hid (paN_err (t:=B s))
 clear h E hnc0 hcm0
 generalize prN prP l=T at *
 generalize hR:paN (B s)=R at *
 clear hR
 obtain ⟨a,na,ea⟩:=R
 have eT:=emp8 T
 go_enter Tryz.func6,Tryz.ntmps6
 go_wp2_with fail
 refine S.out.mono ?_
 rintro e w1 ⟨rfl,hb⟩
 have B1:=Lib.hid hb
 clear hb S
 go_wp2_with fail
 refine (K0.out _ B1.out).mono ?_
 rintro e w2 ⟨⟨b1,rfl,-⟩,rfl⟩
 clear K0
 cases b1
 ·go_wp2
  go_ret
  exact ⟨rfl,B1.out⟩
 by_cases hs:(4000:Int) < (s.size:Int)
 ·go_wp2
  go_ret
  exact ⟨rfl,B1.out⟩
 go_wp2_with fail
 refine (K1.out _ B1.out).mono ?_
 rintro e w3 ⟨rfl,hb⟩
 have B3:=Lib.hid (bel_2 B1.out hb)
 clear hb K1
 by_cases hT:T={ data:=#[] }
 ·rw [decide_eq_true hT] at eT
  clear hT
  go_wp2_with fail
  refine (K3.out _ B3.out).mono ?_
  rintro e w6 ⟨⟨A6,n6,c6,rfl,hr6⟩,hb⟩
  have hr6:rdPns w6 (lt_ w6.heap.size) a [.slice A6 n6 c6]:=hr6
  obtain ⟨hn6,hnc6,hcm6,-⟩:=rdPns_at hr6
  have hcm6':c6≤9223372036854775807:=hcm6
  have B6:=Lib.hid (bel_2 B3.out hb)
  have H6:=Lib.hid hr6
  clear hb hr6 hcm6
  have KP:=Lib.hid (pprint_any A6 n6 c6 a w6 H6.out (HE.out w6 B6.out))
  by_cases he:ea≠0
  ·have X:=Lib.hid (Q3.out he)
   have t0:(ea != 0)=true:=by rw [bne_iff_ne];exact he
   have hn0:n6=0:=by rw [hn6,show a=[] from X.out];rfl
   subst hn0
   clear he hn6 hnc6
   go_wp2_with fail
   refine KP.out.mono ?_
   rintro e w7 ⟨rfl,hb⟩
   have B7:=Lib.hid (bel_2 B6.out hb)
   clear hb KP
   have KP:=Lib.hid (parse8_any (prN prP a) w7 (HE.out w7 B7.out))
   generalize prN prP a=T2 at *
   generalize paN (B T2)=R2 at *
   obtain ⟨u1,u2,u3⟩:=R2
   go_wp2_with fail
   refine KP.out.mono ?_
   rintro e w8 ⟨⟨A8,n8,c8,rfl,hr8⟩,hb⟩
   have B8:=Lib.hid (bel_2 B7.out hb)
   clear hb hr8 KP
   go_wp2
   go_ret
   exact ⟨rfl,B8.out⟩
  have X:=Lib.hid (Q2.out (Decidable.not_not.1 he))
  obtain rfl:ea=0:=Decidable.not_not.1 he
  clear he hn6
  have X1:na=0:=X.out.1
  subst X1
  go_wp2_with fail
  refine KP.out.mono ?_
  rintro e w7 ⟨rfl,hb⟩
  have B7:=Lib.hid (bel_2 B6.out hb)
  have H7:=Lib.hid (rdPns_good.up (rdPns_good.below H6.out hb) hb.size)
  clear hb KP
  have KP:=Lib.hid (by have:=parse8_any (prN prP a) w7 (HE.out w7 B7.out);rw [show paN (B (prN prP a))=(a,0,0) from X.out.2.2] at this;exact this)
  generalize prN prP a=T2 at *
  go_wp2_with fail
  refine KP.out.mono ?_
  rintro e w8 ⟨⟨A8,n8,c8,rfl,hr8⟩,hb⟩
  have B8:=Lib.hid (bel_2 B7.out hb)
  have H8:=Lib.hid (rdPns_good.up (rdPns_good.below H7.out hb) hb.size)
  have G8:=Lib.hid (show rdPns w8 (lt_ w8.heap.size) a [.slice A8 n8 c8] from hr8)
  clear hb hr8 KP
  have KS:=Lib.hid (by have:=same8_any A6 A8 n6 c6 n8 c8 a a w8 H8.out G8.out;rw [decide_eq_true rfl] at this;exact this)
  go_wp2_with fail
  refine KS.out.mono ?_
  rintro e w9 ⟨rfl,hb⟩
  have B9:=Lib.hid (bel_2 B8.out hb)
  clear hb KS
  go_wp2
  go_ret
  exact ⟨rfl,B9.out⟩
 ·rw [decide_eq_false hT] at eT
  have K2:=Lib.hid (K2.out hT w3 B3.out)
  clear hT
  go_wp2_with fail
  refine K2.out.mono ?_
  rintro e w4 ⟨⟨A4,n4,c4,rfl,hr4⟩,hb⟩
  have B4:=Lib.hid (bel_2 B3.out hb)
  have KS:=Lib.hid (by have:=same8_any A4 A n4 c4 l.length c l l w4 hr4 (HR.out w4 B4.out);rw [decide_eq_true rfl] at this;exact this)
  clear hb hr4 K2
  go_wp2_with fail
  refine KS.out.mono ?_
  rintro e w5 ⟨rfl,hb⟩
  have B5:=Lib.hid (bel_2 B4.out hb)
  clear hb KS
  go_wp2_with fail
  refine (K3.out _ B5.out).mono ?_
  rintro e w6 ⟨⟨A6,n6,c6,rfl,hr6⟩,hb⟩
  have hr6:rdPns w6 (lt_ w6.heap.size) a [.slice A6 n6 c6]:=hr6
  obtain ⟨hn6,hnc6,hcm6,-⟩:=rdPns_at hr6
  have hcm6':c6≤9223372036854775807:=hcm6
  have B6:=Lib.hid (bel_2 B5.out hb)
  have H6:=Lib.hid hr6
  clear hb hr6 hcm6
  have KP:=Lib.hid (pprint_any A6 n6 c6 a w6 H6.out (HE.out w6 B6.out))
  by_cases he:ea≠0
  ·have X:=Lib.hid (Q3.out he)
   have t0:(ea != 0)=true:=by rw [bne_iff_ne];exact he
   have hn0:n6=0:=by rw [hn6,show a=[] from X.out];rfl
   subst hn0
   clear he hn6 hnc6
   go_wp2_with fail
   refine KP.out.mono ?_
   rintro e w7 ⟨rfl,hb⟩
   have B7:=Lib.hid (bel_2 B6.out hb)
   clear hb KP
   have KP:=Lib.hid (parse8_any (prN prP a) w7 (HE.out w7 B7.out))
   generalize prN prP a=T2 at *
   generalize paN (B T2)=R2 at *
   obtain ⟨u1,u2,u3⟩:=R2
   go_wp2_with fail
   refine KP.out.mono ?_
   rintro e w8 ⟨⟨A8,n8,c8,rfl,hr8⟩,hb⟩
   have B8:=Lib.hid (bel_2 B7.out hb)
   clear hb hr8 KP
   go_wp2
   go_ret
   exact ⟨rfl,B8.out⟩
  have X:=Lib.hid (Q2.out (Decidable.not_not.1 he))
  obtain rfl:ea=0:=Decidable.not_not.1 he
  clear he hn6
  have X1:na=0:=X.out.1
  subst X1
  go_wp2_with fail
  refine KP.out.mono ?_
  rintro e w7 ⟨rfl,hb⟩
  have B7:=Lib.hid (bel_2 B6.out hb)
  have H7:=Lib.hid (rdPns_good.up (rdPns_good.below H6.out hb) hb.size)
  clear hb KP
  have KP:=Lib.hid (by have:=parse8_any (prN prP a) w7 (HE.out w7 B7.out);rw [show paN (B (prN prP a))=(a,0,0) from X.out.2.2] at this;exact this)
  generalize prN prP a=T2 at *
  go_wp2_with fail
  refine KP.out.mono ?_
  rintro e w8 ⟨⟨A8,n8,c8,rfl,hr8⟩,hb⟩
  have B8:=Lib.hid (bel_2 B7.out hb)
  have H8:=Lib.hid (rdPns_good.up (rdPns_good.below H7.out hb) hb.size)
  have G8:=Lib.hid (show rdPns w8 (lt_ w8.heap.size) a [.slice A8 n8 c8] from hr8)
  clear hb hr8 KP
  have KS:=Lib.hid (by have:=same8_any A6 A8 n6 c6 n8 c8 a a w8 H8.out G8.out;rw [decide_eq_true rfl] at this;exact this)
  go_wp2_with fail
  refine KS.out.mono ?_
  rintro e w9 ⟨rfl,hb⟩
  have B9:=Lib.hid (bel_2 B8.out hb)
  clear hb KS
  go_wp2
  go_ret
  exact ⟨rfl,B9.out⟩
end Go.Proofs.YtbljkpbaceiaiaaGreatDoor
