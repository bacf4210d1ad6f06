/- What the laws rest on: E7z. -/
import Derived.Test.YtboinnjncaehkaaGreatDoorE7x0ZA
import Derived.Test.YtboinnjncaehkaaGreatDoorQAQZA
import Derived.Test.YtboinnjncaehkaaGreatDoorQATZA
import Derived.Test.YtboinnjncaehkaaGreatDoorQAYZA
set_option maxRecDepth 100000
set_option linter.unusedVariables false
set_option linter.unusedSimpArgs false
namespace Go.Proofs.YtboinnjncaehkaaGreatDoor
open Go.RowKit
set_option maxHeartbeats 16000000 in
theorem walk7_turned {Ev:World→Prop} {RD:List Fd→Int × Ent} {PR:List (List Fd)→ByteArray} (C:Con7 Ev RD PR) (SH:∀w,Ev w→Calls Tryz.prog 9 #[] w fun e w'=>e=.returned (.bool true)∧Below w.heap.size w w')
  (A:Option Addr) (n c:Nat) (l:List Hr) (A':Option Addr) (n' c':Nat) (m:List Hr) (x:Hr) (A1:Option Addr) (c1:Nat) (A2:Option Addr) (c2:Nat) (A3:Option Addr) (c3:Nat) (A4:Option Addr) (c4:Nat) (w:World) (h:rdHrs w (lt_ w.heap.size) l [.slice A n c]) (h':rdHrs w (lt_ w.heap.size) m [.slice A' n' c']) (hx:EntV w (lt_ w.heap.size) x.e A1 c1 A2 c2 A3 c3 A4 c4) (E:Ev w) :
  Calls Tryz.prog 8 #[.slice A n c,.slice A' n' c',x.val A1 c1 A2 c2 A3 c3 A4 c4] w fun e w'=>e=.returned (.bool true)∧Below w.heap.size w w':=by
 have HC:=Lib.hid C
 have S:=Lib.hid (fun (W:World) (hb:Below w.heap.size w W)=>SH W (C.below E hb))
 have HE:=Lib.hid (fun (W:World) (hb:Below w.heap.size w W)=>C.below E hb)
 have B:=Lib.hid (Below.refl w.heap.size w)
 have R:=Lib.hid h
 have X:=Lib.hid hx
 have KS0:=Lib.hid (fun (A:Option Addr) (n c:Nat) (W:World) (hr:rdHrs W (lt_ W.heap.size) l [.slice A n c])=>small7_any A n c l W hr)
 have KSM:=Lib.hid (fun (A:Option Addr) (n c:Nat) (W:World) (hr:rdHrs W (lt_ W.heap.size) m [.slice A n c])=>small7_any A n c m W hr)
 have KS1:=Lib.hid (fun (A:Option Addr) (n c:Nat) (W:World) (hr:rdHrs W (lt_ W.heap.size) [x] [.slice A n c])=>small7_any A n c [x] W hr)
 have KT:=Lib.hid (fun (hl:l.length≤70) (hm:m.length≤70) (W:World) (hb:Below w.heap.size w W) (hr:rdHrs W (lt_ W.heap.size) l [.slice A n c]) (hr':rdHrs W (lt_ W.heap.size) m [.slice A' n' c'])=>HC.out.turned A n c l A' n' c' m W hr hr' (HE.out W hb) (by omega) (by omega))
 have KT2:=Lib.hid (fun (hl:l.length≤70) (hm:m.length≤70) (W:World) (hb:Below w.heap.size w W) (hr:rdHrs W (lt_ W.heap.size) l [.slice A n c]) (hr':rdHrs W (lt_ W.heap.size) m [.slice A' n' c'])=>by have:=HC.out.turned A' n' c' m A n c l W hr' hr (HE.out W hb) (by omega) (by omega);rw [tu_comm] at this;exact this)
 have KT3:=Lib.hid (fun (hl:l.length≤70) (W:World) (hb:Below w.heap.size w W) (hr:rdHrs W (lt_ W.heap.size) l [.slice A n c])=>by have:=HC.out.turned A n c l A n c l W hr hr (HE.out W hb) (by omega) (by omega);rw [tu_self] at this;exact this)
 have KT4:=Lib.hid (fun (Ai:Option Addr) (ni ci:Nat) (hl:l.length≤70) (W:World) (hb:Below w.heap.size w W) (hr:rdHrs W (lt_ W.heap.size) l [.slice A n c]) (hr':rdHrs W (lt_ W.heap.size) (wiH l x) [.slice Ai ni ci])=>HC.out.turned A n c l Ai ni ci (wiH l x) W hr hr' (HE.out W hb) (by omega) (by have:=wi_len l x;omega))
 have KF:=Lib.hid (fun (W:World) (hb:Below w.heap.size w W) (hr:rdHrs W (lt_ W.heap.size) l [.slice A n c])=>HC.out.find A n c l x.e.n W hr (HE.out W hb))
 have KI:=Lib.hid (fun (hl:l.length≤70) (W:World) (hb:Below w.heap.size w W) (hr:rdHrs W (lt_ W.heap.size) l [.slice A n c]) (hx:EntV W (lt_ W.heap.size) x.e A1 c1 A2 c2 A3 c3 A4 c4)=>HC.out.wi A n c l x A1 c1 A2 c2 A3 c3 A4 c4 W hr hx (HE.out W hb) (by omega))
 have W1:=Lib.hid (tu_wi l x)
 have W2:=Lib.hid (fun (i:Nat) (hi:i+1 < (tuH l m).length)=>ris_adj (tu_ris l m) hi)
 have F1:=Lib.hid (show Fw7 l→l.length≤70 from fun h=>h.1)
 have F2:=Lib.hid (show Fw7 m→m.length≤70 from fun h=>h.1)
 generalize tuH l m=ta at *
 generalize tuH l (wiH l x)=tb at *
 generalize wiH l x=li at *
 generalize Fw7 l=f1 at *
 generalize Fw7 m=f2 at *
 generalize Fw7 [x]=f3 at *
 unfold FdW at KF
 unfold LsW at KI
 unfold NmW at KT KT2 KT3 KT4
 generalize fdH l x.e.n=o at *
 have HO:=Lib.hid (show ∀s d,o.isSome=s→decide (o.getD nil7=x)=d→(o=some x↔s=true∧d=true) from fun s d hs hd=>by subst hs hd;cases o<;>simp)
 generalize hy:o.getD nil7=y at *
 generalize hs:o.isSome=s at *
 obtain ⟨d,hd⟩:∃d,decide (y=x)=d:=⟨_,rfl⟩
 have HO:=Lib.hid (HO.out s d rfl hd)
 have HD1:=Lib.hid hd
 clear hd hy hs
 have RM:=Lib.hid h'
 clear h'
 clear C SH h hx E
 show Calls Tryz.prog 8 #[.slice A n c,.slice A' n' c',.agg #[.string x.e.n,.string x.e.v,.slice A1 x.e.d.length c1,.slice A2 x.e.r.length c2,.slice A3 x.e.c.length c3,.slice A4 x.e.p.length c4,.bool x.a,.bool x.h]] w _
 obtain ⟨w1,hw⟩:∃W,W=w.alloc (.cells #[.string x.e.n,.string x.e.v,.slice A1 x.e.d.length c1,.slice A2 x.e.r.length c2,.slice A3 x.e.c.length c3,.slice A4 x.e.p.length c4,.bool x.a,.bool x.h] 36):=⟨_,rfl⟩
 have hb:Below w.heap.size w w1:=by rw [hw];exact (Below.refl _ _).alloc (Nat.le_refl _) _
 replace B:=Lib.hid (bel_in B.out hb)
 replace R:=Lib.hid (rdHrs_good.up (rdHrs_good.below R.out hb) hb.size)
 replace X:=Lib.hid (X.out.on hb)
 replace RM:=Lib.hid (rdHrs_good.up (rdHrs_good.below RM.out hb) hb.size)
 have KB:=Lib.hid (show Cl8x w1 w.heap.size x A1 c1 A2 c2 A3 c3 A4 c4 by rw [hw];exact cl8xnew A1 c1 A2 c2 A3 c3 A4 c4)
 have SX:=Lib.hid hw
 clear hb hw
 go_enter Tryz.func8,Tryz.ntmps8
 have K:=Lib.hid (S.out w1 B.out)
 go_wp2_with fail
 rw [←SX.out]
 clear SX
 refine K.out.mono ?_
 rintro e w2 ⟨rfl,hb⟩
 replace B:=Lib.hid (bel_in B.out hb)
 replace R:=Lib.hid (rdHrs_good.up (rdHrs_good.below R.out hb) hb.size)
 replace X:=Lib.hid (X.out.on hb)
 replace RM:=Lib.hid (rdHrs_good.up (rdHrs_good.below RM.out hb) hb.size)
 replace KB:=Lib.hid (KB.out.keep hb)
 clear hb K
 have K:=Lib.hid (KS0.out A n c w2 R.out)
 go_wp2_with fail
 refine K.out.mono ?_
 rintro e w3 ⟨⟨b1,rfl,hs1⟩,hb⟩
 replace B:=Lib.hid (bel_in B.out hb)
 replace R:=Lib.hid (rdHrs_good.up (rdHrs_good.below R.out hb) hb.size)
 replace X:=Lib.hid (X.out.on hb)
 replace RM:=Lib.hid (rdHrs_good.up (rdHrs_good.below RM.out hb) hb.size)
 replace KB:=Lib.hid (KB.out.keep hb)
 have hs1:=Lib.hid hs1
 clear hb K
 have K:=Lib.hid (KSM.out A' n' c' w3 RM.out)
 go_wp2_with fail
 refine K.out.mono ?_
 rintro e w4 ⟨⟨b2,rfl,hs2⟩,hb⟩
 replace B:=Lib.hid (bel_in B.out hb)
 replace R:=Lib.hid (rdHrs_good.up (rdHrs_good.below R.out hb) hb.size)
 replace X:=Lib.hid (X.out.on hb)
 replace RM:=Lib.hid (rdHrs_good.up (rdHrs_good.below RM.out hb) hb.size)
 replace KB:=Lib.hid (KB.out.keep hb)
 have hs2:=Lib.hid hs2
 clear hb K
 obtain ⟨k0,k1,k2,k3,k4,k5,k6,k7⟩:=KB.out
 have KS:=Lib.hid (rd_oneZ X.out)
 obtain ⟨w5,hw⟩:∃W,W=w4.alloc (.cells #[.string x.e.n,.string x.e.v,.slice A1 x.e.d.length c1,.slice A2 x.e.r.length c2,.slice A3 x.e.c.length c3,.slice A4 x.e.p.length c4,.bool x.a,.bool x.h] 36):=⟨_,rfl⟩
 have hb:Below w4.heap.size w4 w5:=by rw [hw];exact (Below.refl _ _).alloc (Nat.le_refl _) _
 replace B:=Lib.hid (bel_in B.out hb)
 replace R:=Lib.hid (rdHrs_good.up (rdHrs_good.below R.out hb) hb.size)
 replace X:=Lib.hid (X.out.on hb)
 replace RM:=Lib.hid (rdHrs_good.up (rdHrs_good.below RM.out hb) hb.size)
 replace KB:=Lib.hid (KB.out.keep hb)
 rw [←hw] at KS
 have SX:=Lib.hid hw
 clear hb hw
 have K:=Lib.hid (KS1.out (some ⟨w4.heap.size,0,none⟩) 1 1 w5 KS.out)
 go_wp2_with fail
 rw [←SX.out]
 clear SX
 refine K.out.mono ?_
 rintro e w6 ⟨⟨b3,rfl,-⟩,hb⟩
 replace B:=Lib.hid (bel_in B.out hb)
 replace R:=Lib.hid (rdHrs_good.up (rdHrs_good.below R.out hb) hb.size)
 replace X:=Lib.hid (X.out.on hb)
 replace RM:=Lib.hid (rdHrs_good.up (rdHrs_good.below RM.out hb) hb.size)
 replace KB:=Lib.hid (KB.out.keep hb)
 clear KS
 clear k0 k1 k2 k3 k4 k5 k6 k7
 clear hb K
 cases b1
 ·go_wp2
  go_ret
  exact ⟨rfl,B.out⟩
 cases b2
 ·go_wp2
  go_ret
  exact ⟨rfl,B.out⟩
 cases b3
 ·go_wp2
  go_ret
  exact ⟨rfl,B.out⟩
 have G1:=Lib.hid (F1.out (hs1.out rfl))
 have G2:=Lib.hid (F2.out (hs2.out rfl))
 clear hs1 hs2
 have K:=Lib.hid (KT.out G1.out G2.out w6 B.out R.out RM.out)
 go_wp2_with fail
 refine K.out.mono ?_
 rintro e w7 ⟨⟨Aa,na,ca,rfl,hr⟩,hb⟩
 replace B:=Lib.hid (bel_in B.out hb)
 replace R:=Lib.hid (rdHrs_good.up (rdHrs_good.below R.out hb) hb.size)
 replace X:=Lib.hid (X.out.on hb)
 replace RM:=Lib.hid (rdHrs_good.up (rdHrs_good.below RM.out hb) hb.size)
 replace KB:=Lib.hid (KB.out.keep hb)
 have RA:=Lib.hid hr
 clear hr
 clear hb K
 have K:=Lib.hid (KT3.out G1.out w7 B.out R.out)
 go_wp2_with fail
 refine K.out.mono ?_
 rintro e w8 ⟨⟨As,ns,cs,rfl,hr⟩,hb⟩
 replace B:=Lib.hid (bel_in B.out hb)
 replace R:=Lib.hid (rdHrs_good.up (rdHrs_good.below R.out hb) hb.size)
 replace X:=Lib.hid (X.out.on hb)
 replace RM:=Lib.hid (rdHrs_good.up (rdHrs_good.below RM.out hb) hb.size)
 replace KB:=Lib.hid (KB.out.keep hb)
 replace RA:=Lib.hid (rdNms_good.up (rdNms_good.below RA.out hb) hb.size)
 obtain ⟨hns,-,hcmz,-⟩:=rdNms_at hr
 obtain rfl:ns=0:=hns
 have hcms:cs≤9223372036854775807:=hcmz
 clear hr hcmz
 clear hb K
 have K:=Lib.hid (KT2.out G1.out G2.out w8 B.out R.out RM.out)
 go_wp2_with fail
 refine K.out.mono ?_
 rintro e w9 ⟨⟨A2a,n2a,c2a,rfl,hr⟩,hb⟩
 replace B:=Lib.hid (bel_in B.out hb)
 replace R:=Lib.hid (rdHrs_good.up (rdHrs_good.below R.out hb) hb.size)
 replace X:=Lib.hid (X.out.on hb)
 replace RM:=Lib.hid (rdHrs_good.up (rdHrs_good.below RM.out hb) hb.size)
 replace KB:=Lib.hid (KB.out.keep hb)
 replace RA:=Lib.hid (rdNms_good.up (rdNms_good.below RA.out hb) hb.size)
 have RA2:=Lib.hid hr
 clear hr
 clear hb K
 have K:=Lib.hid (by have:=sameTexts7_any Aa A2a na ca n2a c2a ta ta w9 RA.out RA2.out;rw [decide_eq_true rfl] at this;exact this)
 go_wp2_with fail
 refine K.out.mono ?_
 rintro e w10 ⟨rfl,hb⟩
 have hb:=hb.below w9.heap.size
 replace B:=Lib.hid (bel_in B.out hb)
 replace R:=Lib.hid (rdHrs_good.up (rdHrs_good.below R.out hb) hb.size)
 replace X:=Lib.hid (X.out.on hb)
 replace RM:=Lib.hid (rdHrs_good.up (rdHrs_good.below RM.out hb) hb.size)
 replace KB:=Lib.hid (KB.out.keep hb)
 replace RA:=Lib.hid (rdNms_good.up (rdNms_good.below RA.out hb) hb.size)
 replace RA2:=Lib.hid (rdNms_good.up (rdNms_good.below RA2.out hb) hb.size)
 clear hb K
 clear RA2
 obtain ⟨rfl,hnca,hcma,hat⟩:=rdNms_at RA.out
 have hcma:ca≤9223372036854775807:=hcma
 have HAT:=Lib.hid hat
 clear hat
 go_wp2
 go_loopw [12] (fun i wr=>∃k:Nat,1≤k∧(k≤ta.length∨k=1)∧i=.int .i64 k∧Dr w10 wr) (fun i _=>ta.length+1 - (intOf i).toNat)
 case atStart=>exact ⟨1,Nat.le_refl _,.inr rfl,rfl,Dr.refl _⟩
 case round=>
  obtain ⟨k,hk1,hk,rfl,hdr⟩:=hrel
  have HD:=Lib.hid hdr
  clear hdr
  by_cases hlt:k < ta.length
  ·obtain ⟨j,rfl⟩:∃j,k=j+1:=⟨k - 1,by omega⟩
   obtain ⟨ad,rfl,had,h0⟩:=HAT.out j (by omega)
   obtain ⟨ad',e',had',h1⟩:=HAT.out (j+1) hlt
   obtain rfl:=Option.some.inj e'
   have g0:=keep6 (HD.out.below _) h0
   have g1:=keep6 (HD.out.below _) h1
   have i0:(0:Int)≤(j:Int):=by omega
   have i1:(j:Int) < (ta.length:Int):=by omega
   have i2:(0:Int)≤(j:Int)+1:=by omega
   have i3:(j:Int)+1 < (ta.length:Int):=by omega
   have wj:IntKind.i64.wrap (j:Int)=(j:Int):=by rw [IntKind.wrap_i64];omega
   have g2:wr.cell? ⟨ad.block,ad.off+(j+1),none⟩=some (.string ta[j+1]):=by rw [show ad.add (j+1)=⟨ad.block,ad.off+(j+1),none⟩ by unfold Addr.add;rw [if_neg (by omega)]] at g1;exact g1
   have LT:=Lib.hid (W2.out j hlt)
   have hlt':Op.bytesLess ta[j].toList ta[j+1].toList=true:=LT.out
   clear h0 h1 had had' e'
   generalize ta[j]=s1 at *
   generalize ta[j+1]=s2 at *
   go_wp2_with fail
   go_quiet (fail)
   go_wp2
   go_roundw
   case rel=>exact ⟨j+2,by omega,.inl (by omega),by go_num,HD.out.more _⟩
   case measure=>simp [intOf];omega
  ·have hlt':¬(k:Int) < (ta.length:Int):=by omega
   have hbd:=Lib.hid (HD.out.below w10.heap.size)
   clear hlt hk1 hk
   replace B:=Lib.hid (bel_in B.out hbd.out)
   replace R:=Lib.hid (rdHrs_good.up (rdHrs_good.below R.out hbd.out) hbd.out.size)
   replace X:=Lib.hid (X.out.on hbd.out)
   replace RM:=Lib.hid (rdHrs_good.up (rdHrs_good.below RM.out hbd.out) hbd.out.size)
   replace KB:=Lib.hid (KB.out.keep hbd.out)
   replace RA:=Lib.hid (rdNms_good.up (rdNms_good.below RA.out hbd.out) hbd.out.size)
   clear HD hbd HAT
   obtain ⟨k0,k1,k2,k3,k4,k5,k6,k7⟩:=KB.out
   have K:=Lib.hid (KF.out wr B.out R.out)
   go_wp2_with fail
   refine K.out.mono ?_
   rintro e w12 ⟨⟨P1,p1,P2,p2,P3,p3,P4,p4,rfl,hy⟩,hb⟩
   replace B:=Lib.hid (bel_in B.out hb)
   replace R:=Lib.hid (rdHrs_good.up (rdHrs_good.below R.out hb) hb.size)
   replace X:=Lib.hid (X.out.on hb)
   replace RM:=Lib.hid (rdHrs_good.up (rdHrs_good.below RM.out hb) hb.size)
   replace KB:=Lib.hid (KB.out.keep hb)
   replace RA:=Lib.hid (rdNms_good.up (rdNms_good.below RA.out hb) hb.size)
   have Y:=Lib.hid hy
   clear hy
   clear k0 k1 k2 k3 k4 k5 k6 k7
   clear hb K
   obtain ⟨w13,hw⟩:∃W,W=w12.alloc (.cells #[.string y.e.n,.string y.e.v,.slice P1 y.e.d.length p1,.slice P2 y.e.r.length p2,.slice P3 y.e.c.length p3,.slice P4 y.e.p.length p4,.bool y.a,.bool y.h] 36):=⟨_,rfl⟩
   have hb:Below w12.heap.size w12 w13:=by rw [hw];exact (Below.refl _ _).alloc (Nat.le_refl _) _
   replace B:=Lib.hid (bel_in B.out hb)
   replace R:=Lib.hid (rdHrs_good.up (rdHrs_good.below R.out hb) hb.size)
   replace X:=Lib.hid (X.out.on hb)
   replace RM:=Lib.hid (rdHrs_good.up (rdHrs_good.below RM.out hb) hb.size)
   replace KB:=Lib.hid (KB.out.keep hb)
   replace RA:=Lib.hid (rdNms_good.up (rdNms_good.below RA.out hb) hb.size)
   replace Y:=Lib.hid (Y.out.on hb)
   have KY:=Lib.hid (show Cl8x w13 w12.heap.size y P1 p1 P2 p2 P3 p3 P4 p4 by rw [hw];exact cl8xnew P1 p1 P2 p2 P3 p3 P4 p4)
   have SX:=Lib.hid hw
   clear hb hw
   go_upto_region 16 with fail
   rw [←SX.out]
   clear SX
   obtain ⟨k0,k1,k2,k3,k4,k5,k6,k7⟩:=KB.out
   have K:=Lib.hid (KI.out G1.out w13 B.out R.out X.out)
   go_wp2_with fail
   refine K.out.mono ?_
   rintro e w14 ⟨⟨Ai,ni,ci,rfl,hr⟩,hb⟩
   replace B:=Lib.hid (bel_in B.out hb)
   replace R:=Lib.hid (rdHrs_good.up (rdHrs_good.below R.out hb) hb.size)
   replace X:=Lib.hid (X.out.on hb)
   replace RM:=Lib.hid (rdHrs_good.up (rdHrs_good.below RM.out hb) hb.size)
   replace KB:=Lib.hid (KB.out.keep hb)
   replace RA:=Lib.hid (rdNms_good.up (rdNms_good.below RA.out hb) hb.size)
   replace Y:=Lib.hid (Y.out.on hb)
   replace KY:=Lib.hid (KY.out.keep hb)
   have RI:=Lib.hid hr
   clear hr
   clear k0 k1 k2 k3 k4 k5 k6 k7
   clear hb K
   have K:=Lib.hid (KT4.out Ai ni ci G1.out w14 B.out R.out RI.out)
   go_wp2_with fail
   refine K.out.mono ?_
   rintro e w15 ⟨⟨Ab,nb,cb,rfl,hr⟩,hb⟩
   replace B:=Lib.hid (bel_in B.out hb)
   replace R:=Lib.hid (rdHrs_good.up (rdHrs_good.below R.out hb) hb.size)
   replace X:=Lib.hid (X.out.on hb)
   replace RM:=Lib.hid (rdHrs_good.up (rdHrs_good.below RM.out hb) hb.size)
   replace KB:=Lib.hid (KB.out.keep hb)
   replace RA:=Lib.hid (rdNms_good.up (rdNms_good.below RA.out hb) hb.size)
   replace Y:=Lib.hid (Y.out.on hb)
   replace KY:=Lib.hid (KY.out.keep hb)
   replace RI:=Lib.hid (rdHrs_good.up (rdHrs_good.below RI.out hb) hb.size)
   have RB:=Lib.hid hr
   clear hr
   clear hb K
   clear RI
   obtain ⟨k0,k1,k2,k3,k4,k5,k6,k7⟩:=KB.out
   obtain ⟨u0,u1,u2,u3,u4,u5,u6,u7⟩:=KY.out
   have K:=Lib.hid (by have:=same7_any y x P1 p1 P2 p2 P3 p3 P4 p4 A1 c1 A2 c2 A3 c3 A4 c4 w15 Y.out X.out;rw [HD1.out] at this;exact this)
   go_wp2_with fail
   refine K.out.mono ?_
   rintro e w16 ⟨rfl,hb⟩
   replace B:=Lib.hid (bel_in B.out hb)
   replace R:=Lib.hid (rdHrs_good.up (rdHrs_good.below R.out hb) hb.size)
   replace X:=Lib.hid (X.out.on hb)
   replace RM:=Lib.hid (rdHrs_good.up (rdHrs_good.below RM.out hb) hb.size)
   replace KB:=Lib.hid (KB.out.keep hb)
   replace RA:=Lib.hid (rdNms_good.up (rdNms_good.below RA.out hb) hb.size)
   replace Y:=Lib.hid (Y.out.on hb)
   replace KY:=Lib.hid (KY.out.keep hb)
   replace RB:=Lib.hid (rdNms_good.up (rdNms_good.below RB.out hb) hb.size)
   clear k0 k1 k2 k3 k4 k5 k6 k7
   clear u0 u1 u2 u3 u4 u5 u6 u7
   clear hb K
   clear Y
   clear KY
   obtain ⟨hnb,hncb,hcmb,-⟩:=rdNms_at RB.out
   have hcmb:cb≤9223372036854775807:=hcmb
   cases s
   ·obtain ⟨k0,k1,k2,k3,k4,k5,k6,k7⟩:=KB.out
    have W1:=Lib.hid (show tb=[x.e.n] by rw [W1.out,if_neg (fun h=>by have:=HO.out.1 h;simp at this)])
    have RB:=Lib.hid (by have:=RB.out;rw [W1.out] at this;exact this)
    clear hnb
    obtain ⟨w17,hw⟩:∃W,W=w16.alloc (.cells #[.string x.e.n] 9):=⟨_,rfl⟩
    have hb:Below w16.heap.size w16 w17:=by rw [hw];exact (Below.refl _ _).alloc (Nat.le_refl _) _
    replace B:=Lib.hid (bel_in B.out hb)
    replace R:=Lib.hid (rdHrs_good.up (rdHrs_good.below R.out hb) hb.size)
    replace X:=Lib.hid (X.out.on hb)
    replace RM:=Lib.hid (rdHrs_good.up (rdHrs_good.below RM.out hb) hb.size)
    replace KB:=Lib.hid (KB.out.keep hb)
    replace RA:=Lib.hid (rdNms_good.up (rdNms_good.below RA.out hb) hb.size)
    replace RB:=Lib.hid (rdNms_good.up (rdNms_good.below RB.out hb) hb.size)
    have RN:=Lib.hid (show rdNms w17 (lt_ w17.heap.size) [x.e.n] [.slice (some ⟨w16.heap.size,0,none⟩) 1 1] by rw [hw];exact one_rd (ty:=9) rdNm_good (heap_alloc_new w16 _) rfl (by unfold lt_;rw [World.size_alloc];omega))
    have SX:=Lib.hid hw
    clear hb hw
    have K:=Lib.hid (by have:=sameTexts7_any Ab (some ⟨w16.heap.size,0,none⟩) nb cb 1 1 [x.e.n] [x.e.n] w17 RB.out RN.out;rw [decide_eq_true rfl] at this;exact this)
    go_wp2_with fail
    rw [←SX.out]
    clear SX
    refine K.out.mono ?_
    rintro e w18 ⟨rfl,hb⟩
    have hb:=hb.below w17.heap.size
    replace B:=Lib.hid (bel_in B.out hb)
    replace R:=Lib.hid (rdHrs_good.up (rdHrs_good.below R.out hb) hb.size)
    replace X:=Lib.hid (X.out.on hb)
    replace RM:=Lib.hid (rdHrs_good.up (rdHrs_good.below RM.out hb) hb.size)
    replace KB:=Lib.hid (KB.out.keep hb)
    replace RA:=Lib.hid (rdNms_good.up (rdNms_good.below RA.out hb) hb.size)
    replace RB:=Lib.hid (rdNms_good.up (rdNms_good.below RB.out hb) hb.size)
    clear k0 k1 k2 k3 k4 k5 k6 k7
    clear hb K
    go_wp2
    go_ret
    exact ⟨rfl,B.out⟩
   cases d
   ·obtain ⟨k0,k1,k2,k3,k4,k5,k6,k7⟩:=KB.out
    have W1:=Lib.hid (show tb=[x.e.n] by rw [W1.out,if_neg (fun h=>by have:=HO.out.1 h;simp at this)])
    have RB:=Lib.hid (by have:=RB.out;rw [W1.out] at this;exact this)
    clear hnb
    obtain ⟨w17,hw⟩:∃W,W=w16.alloc (.cells #[.string x.e.n] 9):=⟨_,rfl⟩
    have hb:Below w16.heap.size w16 w17:=by rw [hw];exact (Below.refl _ _).alloc (Nat.le_refl _) _
    replace B:=Lib.hid (bel_in B.out hb)
    replace R:=Lib.hid (rdHrs_good.up (rdHrs_good.below R.out hb) hb.size)
    replace X:=Lib.hid (X.out.on hb)
    replace RM:=Lib.hid (rdHrs_good.up (rdHrs_good.below RM.out hb) hb.size)
    replace KB:=Lib.hid (KB.out.keep hb)
    replace RA:=Lib.hid (rdNms_good.up (rdNms_good.below RA.out hb) hb.size)
    replace RB:=Lib.hid (rdNms_good.up (rdNms_good.below RB.out hb) hb.size)
    have RN:=Lib.hid (show rdNms w17 (lt_ w17.heap.size) [x.e.n] [.slice (some ⟨w16.heap.size,0,none⟩) 1 1] by rw [hw];exact one_rd (ty:=9) rdNm_good (heap_alloc_new w16 _) rfl (by unfold lt_;rw [World.size_alloc];omega))
    have SX:=Lib.hid hw
    clear hb hw
    have K:=Lib.hid (by have:=sameTexts7_any Ab (some ⟨w16.heap.size,0,none⟩) nb cb 1 1 [x.e.n] [x.e.n] w17 RB.out RN.out;rw [decide_eq_true rfl] at this;exact this)
    go_wp2_with fail
    rw [←SX.out]
    clear SX
    refine K.out.mono ?_
    rintro e w18 ⟨rfl,hb⟩
    have hb:=hb.below w17.heap.size
    replace B:=Lib.hid (bel_in B.out hb)
    replace R:=Lib.hid (rdHrs_good.up (rdHrs_good.below R.out hb) hb.size)
    replace X:=Lib.hid (X.out.on hb)
    replace RM:=Lib.hid (rdHrs_good.up (rdHrs_good.below RM.out hb) hb.size)
    replace KB:=Lib.hid (KB.out.keep hb)
    replace RA:=Lib.hid (rdNms_good.up (rdNms_good.below RA.out hb) hb.size)
    replace RB:=Lib.hid (rdNms_good.up (rdNms_good.below RB.out hb) hb.size)
    clear k0 k1 k2 k3 k4 k5 k6 k7
    clear hb K
    go_wp2
    go_ret
    exact ⟨rfl,B.out⟩
   have htb:tb=[]:=by rw [W1.out,if_pos (by first|exact HO.out.2 ⟨by trivial,by trivial⟩|exact HO.out)]
   have h0:nb=0:=by rw [hnb,htb];rfl
   clear W1 RB HO htb KT4 hnb hncb
   subst h0
   go_wp2
   go_ret
   exact ⟨rfl,B.out⟩
end Go.Proofs.YtboinnjncaehkaaGreatDoor
