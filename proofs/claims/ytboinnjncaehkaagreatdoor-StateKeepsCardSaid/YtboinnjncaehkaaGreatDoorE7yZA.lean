/- What the laws rest on: E7y. -/
import Derived.Test.YtboinnjncaehkaaGreatDoorE7x0ZA
import Derived.Test.YtboinnjncaehkaaGreatDoorQAQZA
import Derived.Test.YtboinnjncaehkaaGreatDoorQASZA
import Derived.Test.YtboinnjncaehkaaGreatDoorQAUZA
import Derived.Test.YtboinnjncaehkaaGreatDoorQAYZA
set_option maxRecDepth 100000
set_option linter.unusedVariables false
set_option linter.unusedSimpArgs false
namespace Go.Proofs.YtboinnjncaehkaaGreatDoor
open Go.RowKit
set_option maxHeartbeats 16000000 in
theorem walk7_keeps {Ev:World→Prop} {RD:List Fd→Int × Ent} {PR:List (List Fd)→ByteArray} (C:Con7 Ev RD PR) (SH:∀w,Ev w→Calls Tryz.prog 9 #[] w fun e w'=>e=.returned (.bool true)∧Below w.heap.size w w')
  (A:Option Addr) (n c:Nat) (l:List Hr) (x:Hr) (A1:Option Addr) (c1:Nat) (A2:Option Addr) (c2:Nat) (A3:Option Addr) (c3:Nat) (A4:Option Addr) (c4:Nat) (nm ot:ByteArray) (w:World) (h:rdHrs w (lt_ w.heap.size) l [.slice A n c]) (hx:EntV w (lt_ w.heap.size) x.e A1 c1 A2 c2 A3 c3 A4 c4) (E:Ev w) :
  Calls Tryz.prog 7 #[.slice A n c,x.val A1 c1 A2 c2 A3 c3 A4 c4,.string nm,.string ot] w fun e w'=>e=.returned (.bool true)∧Below w.heap.size w w':=by
 have HC:=Lib.hid C
 have S:=Lib.hid (fun (W:World) (hb:Below w.heap.size w W)=>SH W (C.below E hb))
 have HE:=Lib.hid (fun (W:World) (hb:Below w.heap.size w W)=>C.below E hb)
 have B:=Lib.hid (Below.refl w.heap.size w)
 have R:=Lib.hid h
 have X:=Lib.hid hx
 have W1:=Lib.hid (show fdH (wiH l x) x.e.n=some x by rw [fd_wi,if_pos rfl])
 have W2:=Lib.hid (show fdH (woH l nm) nm=none by rw [fd_wo,if_pos rfl])
 have W3:=Lib.hid (show rightH l=true→rightH [x]=true→rightH (wiH l x)=decide ((wiH l x).length≤64)∧rightH (woH l nm)=true from fun a b=>⟨right_wi ((rightH_iff l).1 a) (right_oneZ b),(rightH_iff _).2 (right_wo ((rightH_iff l).1 a) nm)⟩)
 have W4:=Lib.hid (fd_wi l x ot)
 have W5:=Lib.hid (fd_wo l nm ot)
 have W6:=Lib.hid (wi_len l x)
 have KI:=Lib.hid (fun (A:Option Addr) (n c:Nat) (W:World) (hb:Below w.heap.size w W) (hl:l.length≤70) (hr:rdHrs W (lt_ W.heap.size) l [.slice A n c]) (hx:EntV W (lt_ W.heap.size) x.e A1 c1 A2 c2 A3 c3 A4 c4)=>HC.out.wi A n c l x A1 c1 A2 c2 A3 c3 A4 c4 W hr hx (HE.out W hb) (by omega))
 have KO:=Lib.hid (fun (A:Option Addr) (n c:Nat) (W:World) (hb:Below w.heap.size w W) (hl:l.length≤70) (hr:rdHrs W (lt_ W.heap.size) l [.slice A n c])=>HC.out.wo A n c l nm W hr (HE.out W hb) (by omega))
 have KR:=Lib.hid (fun (A:Option Addr) (n c:Nat) (W:World) (hb:Below w.heap.size w W) (hr:rdHrs W (lt_ W.heap.size) l [.slice A n c])=>HC.out.right A n c l W hr (HE.out W hb))
 have KR1:=Lib.hid (fun (A:Option Addr) (n c:Nat) (W:World) (hb:Below w.heap.size w W) (hr:rdHrs W (lt_ W.heap.size) [x] [.slice A n c])=>HC.out.right A n c [x] W hr (HE.out W hb))
 have KRI:=Lib.hid (fun (A:Option Addr) (n c:Nat) (W:World) (hb:Below w.heap.size w W) (hr:rdHrs W (lt_ W.heap.size) (wiH l x) [.slice A n c])=>HC.out.right A n c (wiH l x) W hr (HE.out W hb))
 have KRO:=Lib.hid (fun (A:Option Addr) (n c:Nat) (W:World) (hb:Below w.heap.size w W) (hr:rdHrs W (lt_ W.heap.size) (woH l nm) [.slice A n c])=>HC.out.right A n c (woH l nm) W hr (HE.out W hb))
 have KS0:=Lib.hid (fun (A:Option Addr) (n c:Nat) (W:World) (hr:rdHrs W (lt_ W.heap.size) l [.slice A n c])=>small7_any A n c l W hr)
 have KS1:=Lib.hid (fun (A:Option Addr) (n c:Nat) (W:World) (hr:rdHrs W (lt_ W.heap.size) [x] [.slice A n c])=>small7_any A n c [x] W hr)
 have KFL:=Lib.hid (fun (A:Option Addr) (n c:Nat) (W:World) (hb:Below w.heap.size w W) (hr:rdHrs W (lt_ W.heap.size) l [.slice A n c])=>HC.out.find A n c l ot W hr (HE.out W hb))
 have KFI:=Lib.hid (fun (A:Option Addr) (n c:Nat) (W:World) (hb:Below w.heap.size w W) (hr:rdHrs W (lt_ W.heap.size) (wiH l x) [.slice A n c])=>HC.out.find A n c (wiH l x) ot W hr (HE.out W hb))
 have KFO:=Lib.hid (fun (A:Option Addr) (n c:Nat) (W:World) (hb:Below w.heap.size w W) (hr:rdHrs W (lt_ W.heap.size) (woH l nm) [.slice A n c])=>HC.out.find A n c (woH l nm) ot W hr (HE.out W hb))
 have KF1:=Lib.hid (fun (A:Option Addr) (n c:Nat) (W:World) (hb:Below w.heap.size w W) (hr:rdHrs W (lt_ W.heap.size) (wiH l x) [.slice A n c])=>by have:=HC.out.find A n c (wiH l x) x.e.n W hr (HE.out W hb);rw [W1.out] at this;exact this)
 have KF2:=Lib.hid (fun (A:Option Addr) (n c:Nat) (W:World) (hb:Below w.heap.size w W) (hr:rdHrs W (lt_ W.heap.size) (woH l nm) [.slice A n c])=>HC.out.find A n c (woH l nm) nm W hr (HE.out W hb))
 have W2:=Lib.hid (show (fdH (woH l nm) nm).isSome=false by rw [W2.out];rfl)
 have F1:=Lib.hid (show Fw7 l→l.length≤70 from fun h=>h.1)
 generalize wiH l x=li at *
 generalize woH l nm=lo at *
 generalize Fw7 l=f1 at *
 generalize rightH l=q1 at *
 generalize rightH [x]=q2 at *
 generalize rightH li=q3 at *
 generalize rightH lo=q4 at *
 generalize fdH l ot=o at *
 generalize fdH li ot=oi at *
 generalize fdH lo ot=oo at *
 unfold FdW at KF1 KF2
 unfold LsW at KI KO
 simp only [Option.getD_some,Option.isSome_some] at KF1
 clear W1
 generalize fdH lo nm=o2 at *
 generalize o2.getD nil7=y2 at *
 generalize o2.isSome=s2 at *
 obtain rfl:s2=false:=W2.out
 clear W2
 clear C SH h hx E
 show Calls Tryz.prog 7 #[.slice A n c,.agg #[.string x.e.n,.string x.e.v,.slice A1 x.e.d.length c1,.slice A2 x.e.r.length c2,.slice A3 x.e.c.length c3,.slice A4 x.e.p.length c4,.bool x.a,.bool x.h],.string nm,.string ot] w _
 obtain ⟨w1,hw⟩:∃W,W=w.alloc (.cells #[.string x.e.n,.string x.e.v,.slice A1 x.e.d.length c1,.slice A2 x.e.r.length c2,.slice A3 x.e.c.length c3,.slice A4 x.e.p.length c4,.bool x.a,.bool x.h] 36):=⟨_,rfl⟩
 have hb:Below w.heap.size w w1:=by rw [hw];exact (Below.refl _ _).alloc (Nat.le_refl _) _
 replace B:=Lib.hid (bel_in B.out hb)
 replace R:=Lib.hid (rdHrs_good.up (rdHrs_good.below R.out hb) hb.size)
 replace X:=Lib.hid (X.out.on hb)
 have KB:=Lib.hid (show Cl8x w1 w.heap.size x A1 c1 A2 c2 A3 c3 A4 c4 by rw [hw];exact cl8xnew A1 c1 A2 c2 A3 c3 A4 c4)
 have SX:=Lib.hid hw
 clear hb hw
 go_enter Tryz.func7,Tryz.ntmps7
 have K:=Lib.hid (S.out w1 B.out)
 go_wp2_with fail
 rw [←SX.out]
 clear SX
 refine K.out.mono ?_
 rintro e w2 ⟨rfl,hb⟩
 replace B:=Lib.hid (bel_in B.out hb)
 replace R:=Lib.hid (rdHrs_good.up (rdHrs_good.below R.out hb) hb.size)
 replace X:=Lib.hid (X.out.on hb)
 replace KB:=Lib.hid (KB.out.keep hb)
 clear hb K
 have K:=Lib.hid (KS0.out A n c w2 R.out)
 go_wp2_with fail
 refine K.out.mono ?_
 rintro e w3 ⟨⟨b1,rfl,hs1⟩,hb⟩
 replace B:=Lib.hid (bel_in B.out hb)
 replace R:=Lib.hid (rdHrs_good.up (rdHrs_good.below R.out hb) hb.size)
 replace X:=Lib.hid (X.out.on hb)
 replace KB:=Lib.hid (KB.out.keep hb)
 have hs1:=Lib.hid hs1
 clear hb K
 obtain ⟨k0,k1,k2,k3,k4,k5,k6,k7⟩:=KB.out
 have KS:=Lib.hid (rd_oneZ X.out)
 obtain ⟨w4,hw⟩:∃W,W=w3.alloc (.cells #[.string x.e.n,.string x.e.v,.slice A1 x.e.d.length c1,.slice A2 x.e.r.length c2,.slice A3 x.e.c.length c3,.slice A4 x.e.p.length c4,.bool x.a,.bool x.h] 36):=⟨_,rfl⟩
 have hb:Below w3.heap.size w3 w4:=by rw [hw];exact (Below.refl _ _).alloc (Nat.le_refl _) _
 replace B:=Lib.hid (bel_in B.out hb)
 replace R:=Lib.hid (rdHrs_good.up (rdHrs_good.below R.out hb) hb.size)
 replace X:=Lib.hid (X.out.on hb)
 replace KB:=Lib.hid (KB.out.keep hb)
 rw [←hw] at KS
 have SX:=Lib.hid hw
 clear hb hw
 have K:=Lib.hid (KS1.out (some ⟨w3.heap.size,0,none⟩) 1 1 w4 KS.out)
 go_wp2_with fail
 rw [←SX.out]
 clear SX
 refine K.out.mono ?_
 rintro e w5 ⟨⟨b2,rfl,-⟩,hb⟩
 replace B:=Lib.hid (bel_in B.out hb)
 replace R:=Lib.hid (rdHrs_good.up (rdHrs_good.below R.out hb) hb.size)
 replace X:=Lib.hid (X.out.on hb)
 replace KB:=Lib.hid (KB.out.keep hb)
 clear KS
 clear k0 k1 k2 k3 k4 k5 k6 k7
 clear hb K
 cases b1
 ·go_wp2
  go_ret
  exact ⟨rfl,B.out⟩
 cases b2
 ·go_wp2
  go_ret
  exact ⟨rfl,B.out⟩
 have G1:=Lib.hid (F1.out (hs1.out rfl))
 clear hs1
 have K:=Lib.hid (KR.out A n c w5 B.out R.out)
 go_wp2_with fail
 refine K.out.mono ?_
 rintro e w6 ⟨rfl,hb⟩
 replace B:=Lib.hid (bel_in B.out hb)
 replace R:=Lib.hid (rdHrs_good.up (rdHrs_good.below R.out hb) hb.size)
 replace X:=Lib.hid (X.out.on hb)
 replace KB:=Lib.hid (KB.out.keep hb)
 clear hb K
 cases q1
 ·go_wp2
  go_ret
  exact ⟨rfl,B.out⟩
 obtain ⟨k0,k1,k2,k3,k4,k5,k6,k7⟩:=KB.out
 have KS:=Lib.hid (rd_oneZ X.out)
 obtain ⟨w7,hw⟩:∃W,W=w6.alloc (.cells #[.string x.e.n,.string x.e.v,.slice A1 x.e.d.length c1,.slice A2 x.e.r.length c2,.slice A3 x.e.c.length c3,.slice A4 x.e.p.length c4,.bool x.a,.bool x.h] 36):=⟨_,rfl⟩
 have hb:Below w6.heap.size w6 w7:=by rw [hw];exact (Below.refl _ _).alloc (Nat.le_refl _) _
 replace B:=Lib.hid (bel_in B.out hb)
 replace R:=Lib.hid (rdHrs_good.up (rdHrs_good.below R.out hb) hb.size)
 replace X:=Lib.hid (X.out.on hb)
 replace KB:=Lib.hid (KB.out.keep hb)
 rw [←hw] at KS
 have SX:=Lib.hid hw
 clear hb hw
 have K:=Lib.hid (KR1.out (some ⟨w6.heap.size,0,none⟩) 1 1 w7 B.out KS.out)
 go_wp2_with fail
 rw [←SX.out]
 clear SX
 refine K.out.mono ?_
 rintro e w8 ⟨rfl,hb⟩
 replace B:=Lib.hid (bel_in B.out hb)
 replace R:=Lib.hid (rdHrs_good.up (rdHrs_good.below R.out hb) hb.size)
 replace X:=Lib.hid (X.out.on hb)
 replace KB:=Lib.hid (KB.out.keep hb)
 clear KS
 clear k0 k1 k2 k3 k4 k5 k6 k7
 clear hb K
 cases q2
 ·go_wp2
  go_ret
  exact ⟨rfl,B.out⟩
 have W3:=Lib.hid (W3.out (by trivial) (by trivial))
 obtain rfl:q4=true:=W3.out.2
 have hle:decide ((li.length:Int)≤64)=q3:=by rw [W3.out.1];exact decide_eq_decide.2 (by omega)
 have hqq:(q3 != q3)=false:=by cases q3<;>rfl
 have hle:=Lib.hid hle
 obtain ⟨k0,k1,k2,k3,k4,k5,k6,k7⟩:=KB.out
 have K:=Lib.hid (KI.out A n c w8 B.out G1.out R.out X.out)
 go_wp2_with fail
 refine K.out.mono ?_
 rintro e w9 ⟨⟨Ai,ni,ci,rfl,hr⟩,hb⟩
 replace B:=Lib.hid (bel_in B.out hb)
 replace R:=Lib.hid (rdHrs_good.up (rdHrs_good.below R.out hb) hb.size)
 replace X:=Lib.hid (X.out.on hb)
 replace KB:=Lib.hid (KB.out.keep hb)
 have RI:=Lib.hid hr
 clear hr
 clear k0 k1 k2 k3 k4 k5 k6 k7
 clear hb K
 have K:=Lib.hid (KO.out A n c w9 B.out G1.out R.out)
 go_wp2_with fail
 refine K.out.mono ?_
 rintro e w10 ⟨⟨Ao,no,co,rfl,hr⟩,hb⟩
 replace B:=Lib.hid (bel_in B.out hb)
 replace R:=Lib.hid (rdHrs_good.up (rdHrs_good.below R.out hb) hb.size)
 replace X:=Lib.hid (X.out.on hb)
 replace KB:=Lib.hid (KB.out.keep hb)
 replace RI:=Lib.hid (rdHrs_good.up (rdHrs_good.below RI.out hb) hb.size)
 have RO:=Lib.hid hr
 clear hr
 clear hb K
 obtain ⟨rfl,hnci,hcmi,-⟩:=rdHrs_at RI.out
 have hcmi:ci≤9223372036854775807:=hcmi
 obtain ⟨k0,k1,k2,k3,k4,k5,k6,k7⟩:=KB.out
 have K:=Lib.hid (KF1.out Ai li.length ci w10 B.out RI.out)
 go_wp2_with fail
 refine K.out.mono ?_
 rintro e w11 ⟨⟨P1,p1,P2,p2,P3,p3,P4,p4,rfl,hy⟩,hb⟩
 replace B:=Lib.hid (bel_in B.out hb)
 replace R:=Lib.hid (rdHrs_good.up (rdHrs_good.below R.out hb) hb.size)
 replace X:=Lib.hid (X.out.on hb)
 replace KB:=Lib.hid (KB.out.keep hb)
 replace RI:=Lib.hid (rdHrs_good.up (rdHrs_good.below RI.out hb) hb.size)
 replace RO:=Lib.hid (rdHrs_good.up (rdHrs_good.below RO.out hb) hb.size)
 have Y:=Lib.hid hy
 clear hy
 clear k0 k1 k2 k3 k4 k5 k6 k7
 clear hb K
 obtain ⟨w12,hw⟩:∃W,W=w11.alloc (.cells #[.string x.e.n,.string x.e.v,.slice P1 x.e.d.length p1,.slice P2 x.e.r.length p2,.slice P3 x.e.c.length p3,.slice P4 x.e.p.length p4,.bool x.a,.bool x.h] 36):=⟨_,rfl⟩
 have hb:Below w11.heap.size w11 w12:=by rw [hw];exact (Below.refl _ _).alloc (Nat.le_refl _) _
 replace B:=Lib.hid (bel_in B.out hb)
 replace R:=Lib.hid (rdHrs_good.up (rdHrs_good.below R.out hb) hb.size)
 replace X:=Lib.hid (X.out.on hb)
 replace KB:=Lib.hid (KB.out.keep hb)
 replace RI:=Lib.hid (rdHrs_good.up (rdHrs_good.below RI.out hb) hb.size)
 replace RO:=Lib.hid (rdHrs_good.up (rdHrs_good.below RO.out hb) hb.size)
 replace Y:=Lib.hid (Y.out.on hb)
 have KY:=Lib.hid (show Cl8x w12 w11.heap.size x P1 p1 P2 p2 P3 p3 P4 p4 by rw [hw];exact cl8xnew P1 p1 P2 p2 P3 p3 P4 p4)
 have SX:=Lib.hid hw
 clear hb hw
 have K:=Lib.hid (KF2.out Ao no co w12 B.out RO.out)
 go_wp2_with fail
 rw [←SX.out]
 clear SX
 refine K.out.mono ?_
 rintro e w13 ⟨⟨Q1,q1,Q2,q2,Q3,q3x,Q4,q4,rfl,-⟩,hb⟩
 replace B:=Lib.hid (bel_in B.out hb)
 replace R:=Lib.hid (rdHrs_good.up (rdHrs_good.below R.out hb) hb.size)
 replace X:=Lib.hid (X.out.on hb)
 replace KB:=Lib.hid (KB.out.keep hb)
 replace RI:=Lib.hid (rdHrs_good.up (rdHrs_good.below RI.out hb) hb.size)
 replace RO:=Lib.hid (rdHrs_good.up (rdHrs_good.below RO.out hb) hb.size)
 replace Y:=Lib.hid (Y.out.on hb)
 replace KY:=Lib.hid (KY.out.keep hb)
 clear hb K
 obtain ⟨w14,hw⟩:∃W,W=w13.alloc (.cells #[.string y2.e.n,.string y2.e.v,.slice Q1 y2.e.d.length q1,.slice Q2 y2.e.r.length q2,.slice Q3 y2.e.c.length q3x,.slice Q4 y2.e.p.length q4,.bool y2.a,.bool y2.h] 36):=⟨_,rfl⟩
 have hb:Below w13.heap.size w13 w14:=by rw [hw];exact (Below.refl _ _).alloc (Nat.le_refl _) _
 replace B:=Lib.hid (bel_in B.out hb)
 replace R:=Lib.hid (rdHrs_good.up (rdHrs_good.below R.out hb) hb.size)
 replace X:=Lib.hid (X.out.on hb)
 replace KB:=Lib.hid (KB.out.keep hb)
 replace RI:=Lib.hid (rdHrs_good.up (rdHrs_good.below RI.out hb) hb.size)
 replace RO:=Lib.hid (rdHrs_good.up (rdHrs_good.below RO.out hb) hb.size)
 replace Y:=Lib.hid (Y.out.on hb)
 replace KY:=Lib.hid (KY.out.keep hb)
 have SX:=Lib.hid hw
 clear hb hw
 go_upto_region 10 with fail
 rw [←SX.out]
 clear SX
 obtain ⟨k0,k1,k2,k3,k4,k5,k6,k7⟩:=KB.out
 obtain ⟨u0,u1,u2,u3,u4,u5,u6,u7⟩:=KY.out
 have K:=Lib.hid (by have:=same7_any x x P1 p1 P2 p2 P3 p3 P4 p4 A1 c1 A2 c2 A3 c3 A4 c4 w14 Y.out X.out;rw [decide_eq_true rfl] at this;exact this)
 go_wp2_with fail
 refine K.out.mono ?_
 rintro e w15 ⟨rfl,hb⟩
 replace B:=Lib.hid (bel_in B.out hb)
 replace R:=Lib.hid (rdHrs_good.up (rdHrs_good.below R.out hb) hb.size)
 replace X:=Lib.hid (X.out.on hb)
 replace KB:=Lib.hid (KB.out.keep hb)
 replace RI:=Lib.hid (rdHrs_good.up (rdHrs_good.below RI.out hb) hb.size)
 replace RO:=Lib.hid (rdHrs_good.up (rdHrs_good.below RO.out hb) hb.size)
 replace Y:=Lib.hid (Y.out.on hb)
 replace KY:=Lib.hid (KY.out.keep hb)
 clear k0 k1 k2 k3 k4 k5 k6 k7
 clear u0 u1 u2 u3 u4 u5 u6 u7
 clear hb K
 clear KY
 clear Y
 have K:=Lib.hid (KRI.out Ai li.length ci w15 B.out RI.out)
 go_wp2_with fail
 refine K.out.mono ?_
 rintro e w16 ⟨rfl,hb⟩
 replace B:=Lib.hid (bel_in B.out hb)
 replace R:=Lib.hid (rdHrs_good.up (rdHrs_good.below R.out hb) hb.size)
 replace X:=Lib.hid (X.out.on hb)
 replace KB:=Lib.hid (KB.out.keep hb)
 replace RI:=Lib.hid (rdHrs_good.up (rdHrs_good.below RI.out hb) hb.size)
 replace RO:=Lib.hid (rdHrs_good.up (rdHrs_good.below RO.out hb) hb.size)
 clear hb K
 have hle:=hle.out
 have K:=Lib.hid (KRO.out Ao no co w16 B.out RO.out)
 go_wp2_with fail
 refine K.out.mono ?_
 rintro e w17 ⟨rfl,hb⟩
 replace B:=Lib.hid (bel_in B.out hb)
 replace R:=Lib.hid (rdHrs_good.up (rdHrs_good.below R.out hb) hb.size)
 replace X:=Lib.hid (X.out.on hb)
 replace KB:=Lib.hid (KB.out.keep hb)
 replace RI:=Lib.hid (rdHrs_good.up (rdHrs_good.below RI.out hb) hb.size)
 replace RO:=Lib.hid (rdHrs_good.up (rdHrs_good.below RO.out hb) hb.size)
 clear hb K
 clear hle hqq
 have KFL:=KFL.out
 have KFI:=KFI.out
 have KFO:=KFO.out
 unfold FdW at KFL KFI KFO
 have H1:decide (ot=x.e.n)=true∨decide (ot=x.e.n)=false∧oi.isSome=o.isSome∧decide (o.getD nil7=oi.getD nil7)=true:=by
  have:=W4.out
  by_cases e:ot=x.e.n
  ·exact .inl (decide_eq_true e)
  ·rw [if_neg e] at this;rw [this];exact .inr ⟨decide_eq_false e,rfl,decide_eq_true rfl⟩
 have H2:decide (ot=nm)=true∨decide (ot=nm)=false∧oo.isSome=o.isSome∧decide (o.getD nil7=oo.getD nil7)=true:=by
  have:=W5.out
  by_cases e:ot=nm
  ·exact .inl (decide_eq_true e)
  ·rw [if_neg e] at this;rw [this];exact .inr ⟨decide_eq_false e,rfl,decide_eq_true rfl⟩
 have t1:=str_eq ot x.e.n
 have t2:=str_eq ot nm
 clear W4 W5
 generalize decide (ot=x.e.n)=b1 at *
 generalize decide (ot=nm)=b2 at *
 generalize o.getD nil7=y at *
 generalize oi.getD nil7=yi at *
 generalize oo.getD nil7=yo at *
 generalize o.isSome=s at *
 generalize oi.isSome=si at *
 generalize oo.isSome=so at *
 obtain ⟨d1,hd1⟩:∃d,decide (y=yi)=d:=⟨_,rfl⟩
 obtain ⟨d2,hd2⟩:∃d,decide (y=yo)=d:=⟨_,rfl⟩
 have HD1:=Lib.hid hd1
 have HD2:=Lib.hid hd2
 rw [hd1] at H1
 rw [hd2] at H2
 have H1:=Lib.hid H1
 have H2:=Lib.hid H2
 have KFL:=Lib.hid KFL
 have KFI:=Lib.hid KFI
 have KFO:=Lib.hid KFO
 have hss:(s==s)=true:=by cases s<;>rfl
 clear hd1 hd2
 have K:=Lib.hid (KFL.out A n c w17 B.out R.out)
 go_wp2_with fail
 refine K.out.mono ?_
 rintro e w18 ⟨⟨P1,p1,P2,p2,P3,p3,P4,p4,rfl,hy⟩,hb⟩
 replace B:=Lib.hid (bel_in B.out hb)
 replace R:=Lib.hid (rdHrs_good.up (rdHrs_good.below R.out hb) hb.size)
 replace X:=Lib.hid (X.out.on hb)
 replace KB:=Lib.hid (KB.out.keep hb)
 replace RI:=Lib.hid (rdHrs_good.up (rdHrs_good.below RI.out hb) hb.size)
 replace RO:=Lib.hid (rdHrs_good.up (rdHrs_good.below RO.out hb) hb.size)
 have Y:=Lib.hid hy
 clear hy
 clear hb K
 obtain ⟨w19,hw⟩:∃W,W=w18.alloc (.cells #[.string y.e.n,.string y.e.v,.slice P1 y.e.d.length p1,.slice P2 y.e.r.length p2,.slice P3 y.e.c.length p3,.slice P4 y.e.p.length p4,.bool y.a,.bool y.h] 36):=⟨_,rfl⟩
 have hb:Below w18.heap.size w18 w19:=by rw [hw];exact (Below.refl _ _).alloc (Nat.le_refl _) _
 replace B:=Lib.hid (bel_in B.out hb)
 replace R:=Lib.hid (rdHrs_good.up (rdHrs_good.below R.out hb) hb.size)
 replace X:=Lib.hid (X.out.on hb)
 replace KB:=Lib.hid (KB.out.keep hb)
 replace RI:=Lib.hid (rdHrs_good.up (rdHrs_good.below RI.out hb) hb.size)
 replace RO:=Lib.hid (rdHrs_good.up (rdHrs_good.below RO.out hb) hb.size)
 replace Y:=Lib.hid (Y.out.on hb)
 have KY:=Lib.hid (show Cl8x w19 w18.heap.size y P1 p1 P2 p2 P3 p3 P4 p4 by rw [hw];exact cl8xnew P1 p1 P2 p2 P3 p3 P4 p4)
 have SX:=Lib.hid hw
 clear hb hw
 have K:=Lib.hid (KFI.out Ai li.length ci w19 B.out RI.out)
 go_wp2_with fail
 rw [←SX.out]
 clear SX
 refine K.out.mono ?_
 rintro e w20 ⟨⟨Q1,q1,Q2,q2,Q3,q3x,Q4,q4,rfl,hy⟩,hb⟩
 replace B:=Lib.hid (bel_in B.out hb)
 replace R:=Lib.hid (rdHrs_good.up (rdHrs_good.below R.out hb) hb.size)
 replace X:=Lib.hid (X.out.on hb)
 replace KB:=Lib.hid (KB.out.keep hb)
 replace RI:=Lib.hid (rdHrs_good.up (rdHrs_good.below RI.out hb) hb.size)
 replace RO:=Lib.hid (rdHrs_good.up (rdHrs_good.below RO.out hb) hb.size)
 replace Y:=Lib.hid (Y.out.on hb)
 replace KY:=Lib.hid (KY.out.keep hb)
 have Z:=Lib.hid hy
 clear hy
 clear hb K
 obtain ⟨w21,hw⟩:∃W,W=w20.alloc (.cells #[.string yi.e.n,.string yi.e.v,.slice Q1 yi.e.d.length q1,.slice Q2 yi.e.r.length q2,.slice Q3 yi.e.c.length q3x,.slice Q4 yi.e.p.length q4,.bool yi.a,.bool yi.h] 36):=⟨_,rfl⟩
 have hb:Below w20.heap.size w20 w21:=by rw [hw];exact (Below.refl _ _).alloc (Nat.le_refl _) _
 replace B:=Lib.hid (bel_in B.out hb)
 replace R:=Lib.hid (rdHrs_good.up (rdHrs_good.below R.out hb) hb.size)
 replace X:=Lib.hid (X.out.on hb)
 replace KB:=Lib.hid (KB.out.keep hb)
 replace RI:=Lib.hid (rdHrs_good.up (rdHrs_good.below RI.out hb) hb.size)
 replace RO:=Lib.hid (rdHrs_good.up (rdHrs_good.below RO.out hb) hb.size)
 replace Y:=Lib.hid (Y.out.on hb)
 replace KY:=Lib.hid (KY.out.keep hb)
 replace Z:=Lib.hid (Z.out.on hb)
 have KZ:=Lib.hid (show Cl8x w21 w20.heap.size yi Q1 q1 Q2 q2 Q3 q3x Q4 q4 by rw [hw];exact cl8xnew Q1 q1 Q2 q2 Q3 q3x Q4 q4)
 have SX:=Lib.hid hw
 clear hb hw
 have K:=Lib.hid (KFO.out Ao no co w21 B.out RO.out)
 go_wp2_with fail
 rw [←SX.out]
 clear SX
 refine K.out.mono ?_
 rintro e w22 ⟨⟨V1,v1,V2,v2,V3,v3,V4,v4,rfl,hy⟩,hb⟩
 replace B:=Lib.hid (bel_in B.out hb)
 replace R:=Lib.hid (rdHrs_good.up (rdHrs_good.below R.out hb) hb.size)
 replace X:=Lib.hid (X.out.on hb)
 replace KB:=Lib.hid (KB.out.keep hb)
 replace RI:=Lib.hid (rdHrs_good.up (rdHrs_good.below RI.out hb) hb.size)
 replace RO:=Lib.hid (rdHrs_good.up (rdHrs_good.below RO.out hb) hb.size)
 replace Y:=Lib.hid (Y.out.on hb)
 replace KY:=Lib.hid (KY.out.keep hb)
 replace Z:=Lib.hid (Z.out.on hb)
 replace KZ:=Lib.hid (KZ.out.keep hb)
 have V:=Lib.hid hy
 clear hy
 clear hb K
 obtain ⟨w23,hw⟩:∃W,W=w22.alloc (.cells #[.string yo.e.n,.string yo.e.v,.slice V1 yo.e.d.length v1,.slice V2 yo.e.r.length v2,.slice V3 yo.e.c.length v3,.slice V4 yo.e.p.length v4,.bool yo.a,.bool yo.h] 36):=⟨_,rfl⟩
 have hb:Below w22.heap.size w22 w23:=by rw [hw];exact (Below.refl _ _).alloc (Nat.le_refl _) _
 replace B:=Lib.hid (bel_in B.out hb)
 replace R:=Lib.hid (rdHrs_good.up (rdHrs_good.below R.out hb) hb.size)
 replace X:=Lib.hid (X.out.on hb)
 replace KB:=Lib.hid (KB.out.keep hb)
 replace RI:=Lib.hid (rdHrs_good.up (rdHrs_good.below RI.out hb) hb.size)
 replace RO:=Lib.hid (rdHrs_good.up (rdHrs_good.below RO.out hb) hb.size)
 replace Y:=Lib.hid (Y.out.on hb)
 replace KY:=Lib.hid (KY.out.keep hb)
 replace Z:=Lib.hid (Z.out.on hb)
 replace KZ:=Lib.hid (KZ.out.keep hb)
 replace V:=Lib.hid (V.out.on hb)
 have KV:=Lib.hid (show Cl8x w23 w22.heap.size yo V1 v1 V2 v2 V3 v3 V4 v4 by rw [hw];exact cl8xnew V1 v1 V2 v2 V3 v3 V4 v4)
 have SX:=Lib.hid hw
 clear hb hw
 go_upto_region 16 with fail
 rw [←SX.out]
 clear SX
 obtain ⟨u0,u1,u2,u3,u4,u5,u6,u7⟩:=KY.out
 obtain ⟨z0,z1,z2,z3,z4,z5,z6,z7⟩:=KZ.out
 have K:=Lib.hid (by have:=same7_any y yi P1 p1 P2 p2 P3 p3 P4 p4 Q1 q1 Q2 q2 Q3 q3x Q4 q4 w23 Y.out Z.out;rw [HD1.out] at this;exact this)
 go_wp2_with fail
 refine K.out.mono ?_
 rintro e w24 ⟨rfl,hb⟩
 replace B:=Lib.hid (bel_in B.out hb)
 replace R:=Lib.hid (rdHrs_good.up (rdHrs_good.below R.out hb) hb.size)
 replace X:=Lib.hid (X.out.on hb)
 replace KB:=Lib.hid (KB.out.keep hb)
 replace RI:=Lib.hid (rdHrs_good.up (rdHrs_good.below RI.out hb) hb.size)
 replace RO:=Lib.hid (rdHrs_good.up (rdHrs_good.below RO.out hb) hb.size)
 replace Y:=Lib.hid (Y.out.on hb)
 replace KY:=Lib.hid (KY.out.keep hb)
 replace Z:=Lib.hid (Z.out.on hb)
 replace KZ:=Lib.hid (KZ.out.keep hb)
 replace V:=Lib.hid (V.out.on hb)
 replace KV:=Lib.hid (KV.out.keep hb)
 clear u0 u1 u2 u3 u4 u5 u6 u7
 clear z0 z1 z2 z3 z4 z5 z6 z7
 clear hb K
 clear Z
 clear KZ
 obtain ⟨u0,u1,u2,u3,u4,u5,u6,u7⟩:=KY.out
 obtain ⟨z0,z1,z2,z3,z4,z5,z6,z7⟩:=KV.out
 have K:=Lib.hid (by have:=same7_any y yo P1 p1 P2 p2 P3 p3 P4 p4 V1 v1 V2 v2 V3 v3 V4 v4 w24 Y.out V.out;rw [HD2.out] at this;exact this)
 go_wp2_with fail
 refine K.out.mono ?_
 rintro e w25 ⟨rfl,hb⟩
 replace B:=Lib.hid (bel_in B.out hb)
 replace R:=Lib.hid (rdHrs_good.up (rdHrs_good.below R.out hb) hb.size)
 replace X:=Lib.hid (X.out.on hb)
 replace KB:=Lib.hid (KB.out.keep hb)
 replace RI:=Lib.hid (rdHrs_good.up (rdHrs_good.below RI.out hb) hb.size)
 replace RO:=Lib.hid (rdHrs_good.up (rdHrs_good.below RO.out hb) hb.size)
 replace Y:=Lib.hid (Y.out.on hb)
 replace KY:=Lib.hid (KY.out.keep hb)
 replace V:=Lib.hid (V.out.on hb)
 replace KV:=Lib.hid (KV.out.keep hb)
 clear u0 u1 u2 u3 u4 u5 u6 u7
 clear z0 z1 z2 z3 z4 z5 z6 z7
 clear hb K
 clear Y
 clear V
 clear KY
 clear KV
 have k0:=KB.out.n
 clear HD1 HD2
 rcases H1.out with rfl|⟨rfl,rfl,rfl⟩<;>rcases H2.out with rfl|⟨rfl,rfl,rfl⟩
 all_goals
  go_wp2
  go_ret
  exact ⟨rfl,B.out⟩
end Go.Proofs.YtboinnjncaehkaaGreatDoor
