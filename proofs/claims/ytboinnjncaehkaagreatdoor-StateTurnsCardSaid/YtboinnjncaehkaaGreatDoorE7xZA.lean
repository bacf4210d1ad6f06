/- What the laws rest on: E7x. -/
import Derived.Test.YtboinnjncaehkaaGreatDoorE7x0ZA
import Derived.Test.YtboinnjncaehkaaGreatDoorQAXZA
import Derived.Test.YtboinnjncaehkaaGreatDoorQAYZA
import Derived.Test.YtboinnjncaehkaaGreatDoorQBAZA
set_option maxRecDepth 100000
set_option linter.unusedVariables false
set_option linter.unusedSimpArgs false
namespace Go.Proofs.YtboinnjncaehkaaGreatDoor
open Go.RowKit
set_option maxHeartbeats 16000000 in
theorem walk7_turns {Ev:World→Prop} {RD:List Fd→Int × Ent} {PR:List (List Fd)→ByteArray} (C:Con7 Ev RD PR) (SH:∀w,Ev w→Calls Tryz.prog 9 #[] w fun e w'=>e=.returned (.bool true)∧Below w.heap.size w w')
  (A:Option Addr) (n c:Nat) (l:List Hr) (A':Option Addr) (n' c':Nat) (m:List Hr) (x:Hr) (A1:Option Addr) (c1:Nat) (A2:Option Addr) (c2:Nat) (A3:Option Addr) (c3:Nat) (A4:Option Addr) (c4:Nat) (nm:ByteArray) (au ho:Bool) (w:World) (h:rdHrs w (lt_ w.heap.size) l [.slice A n c]) (h':rdHrs w (lt_ w.heap.size) m [.slice A' n' c']) (hx:EntV w (lt_ w.heap.size) x.e A1 c1 A2 c2 A3 c3 A4 c4) (E:Ev w) :
  Calls Tryz.prog 5 #[.slice A n c,.slice A' n' c',x.val A1 c1 A2 c2 A3 c3 A4 c4,.string nm,.bool au,.bool ho] w fun e w'=>e=.returned (.bool true)∧Below w.heap.size w w':=by
 have hcm:c≤maxLen:=(rdHrs_at h).2.2.1
 have HR:=Lib.hid (fun (W:World) (hb:Below w.heap.size w W)=>rdHrs_good.up (rdHrs_good.below h hb) hb.size)
 have HM:=Lib.hid (fun (W:World) (hb:Below w.heap.size w W)=>rdHrs_good.up (rdHrs_good.below h' hb) hb.size)
 have HX:=Lib.hid (fun (W:World) (hb:Below w.heap.size w W)=>hx.on hb)
 have HE:=Lib.hid (fun (W:World) (hb:Below w.heap.size w W)=>C.below E hb)
 have S:=Lib.hid (fun (W:World) (hb:Below w.heap.size w W)=>SH W (C.below E hb))
 have B:=Lib.hid (Below.refl w.heap.size w)
 have F0:=Lib.hid (fun (W:World) (hb:Below w.heap.size w W)=>small7_any A n c l W (HR.out W hb))
 have F1:=Lib.hid (fun (W:World) (hb:Below w.heap.size w W)=>small7_any A' n' c' m W (HM.out W hb))
 have F2:=Lib.hid (fun (W:World) (hb:Below w.heap.size w W)=>small7_any (some ⟨W.heap.size,0,none⟩) 1 1 [x] _ (rd_oneZ (HX.out W hb)))
 have K1:=Lib.hid (fun (W:World) (hb:Below w.heap.size w W)=>C.find A n c l nm W (HR.out W hb) (HE.out W hb))
 have K2:=Lib.hid (fun (W:World) (hb:Below w.heap.size w W)=>q7find_any A n c l nm W (HR.out W hb))
 have K3:=Lib.hid (fun (hs:l.length≤70) (W:World) (hb:Below w.heap.size w W)=>C.mark A n c l nm au ho W (HR.out W hb) (HE.out W hb) (by omega))
 have K4:=Lib.hid (fun (hs:l.length≤70) (W:World) (hb:Below w.heap.size w W)=>q7mark_any A n c l nm au ho W (HR.out W hb) (by omega))
 have K5:=Lib.hid (fun (hs:l.length≤70) (W:World) (hb:Below w.heap.size w W)=>C.wi A n c l x A1 c1 A2 c2 A3 c3 A4 c4 W (HR.out W hb) (HX.out W hb) (HE.out W hb) (by omega))
 have K6:=Lib.hid (fun (hs:l.length≤70) (W:World) (hb:Below w.heap.size w W)=>q7with_any A n c l x A1 c1 A2 c2 A3 c3 A4 c4 W (HR.out W hb) (HX.out W hb) (by omega))
 have K7:=Lib.hid (fun (hs:l.length≤70) (W:World) (hb:Below w.heap.size w W)=>C.wo A n c l nm W (HR.out W hb) (HE.out W hb) (by omega))
 have K8:=Lib.hid (fun (hs:l.length≤70) (W:World) (hb:Below w.heap.size w W)=>q7without_any A n c l nm W (HR.out W hb) (by omega))
 have K9:=Lib.hid (fun (hs:l.length≤70) (hs':m.length≤70) (W:World) (hb:Below w.heap.size w W)=>C.turned A n c l A' n' c' m W (HR.out W hb) (HM.out W hb) (HE.out W hb) (by omega) (by omega))
 have K10:=Lib.hid (fun (hs:l.length≤70) (hs':m.length≤70) (W:World) (hb:Below w.heap.size w W)=>q7turned_any A n c l A' n' c' m W (HR.out W hb) (HM.out W hb) (by omega) (by omega))
 have L1:=Lib.hid (show Fw7 l→l.length≤70 from fun h=>h.1)
 have L2:=Lib.hid (show Fw7 m→m.length≤70 from fun h=>h.1)
 clear C SH h h' hx E hcm HR HM HX HE
 show Calls Tryz.prog 5 #[.slice A n c,.slice A' n' c',.agg #[.string x.e.n,.string x.e.v,.slice A1 x.e.d.length c1,.slice A2 x.e.r.length c2,.slice A3 x.e.c.length c3,.slice A4 x.e.p.length c4,.bool x.a,.bool x.h],.string nm,.bool au,.bool ho] w _
 unfold FdW at K1
 unfold FdR at K2
 unfold MkW at K3
 unfold LsW at K5 K7
 unfold NmW at K9
 generalize tuH l m=tu at *
 generalize woH l nm=lo at *
 generalize wiH l x=li at *
 generalize mkL nm au ho l=lm at *
 generalize mkE nm au ho l=er at *
 generalize fdH l nm=o at *
 generalize Fw7 l=f1 at *
 generalize Fw7 m=f2 at *
 generalize Fw7 [x]=f3 at *
 generalize o.getD nil7=y at *
 generalize o.isSome=s at *
 have hss:(s==s)=true:=by cases s<;>rfl
 have her:(er==er)=true:=beq_self_eq_true er
 obtain ⟨w1,hw⟩:∃W,W=w.alloc (.cells #[.string x.e.n,.string x.e.v,.slice A1 x.e.d.length c1,.slice A2 x.e.r.length c2,.slice A3 x.e.c.length c3,.slice A4 x.e.p.length c4,.bool x.a,.bool x.h] 36):=⟨_,rfl⟩
 have hb:Below w.heap.size w w1:=by rw [hw];exact (Below.refl _ _).alloc (Nat.le_refl _) _
 replace B:=Lib.hid (bel_in B.out hb)
 have KB:=Lib.hid (show Cl8x w1 w.heap.size x A1 c1 A2 c2 A3 c3 A4 c4 by rw [hw];exact cl8xnew A1 c1 A2 c2 A3 c3 A4 c4)
 have SX:=Lib.hid hw
 clear hb hw
 go_enter Tryz.func5,Tryz.ntmps5
 have K:=Lib.hid (S.out w1 B.out)
 go_wp2_with fail
 rw [←SX.out]
 clear SX
 refine K.out.mono ?_
 rintro e w2 ⟨rfl,hb⟩
 replace B:=Lib.hid (bel_in B.out hb)
 replace KB:=Lib.hid (KB.out.keep hb)
 clear hb K
 have K:=Lib.hid (F0.out w2 B.out)
 go_wp2_with fail
 refine K.out.mono ?_
 rintro e w3 ⟨⟨b1,rfl,hs1⟩,hb⟩
 replace B:=Lib.hid (bel_in B.out hb)
 replace KB:=Lib.hid (KB.out.keep hb)
 have hs1:=Lib.hid hs1
 clear hb K
 have K:=Lib.hid (F1.out w3 B.out)
 go_wp2_with fail
 refine K.out.mono ?_
 rintro e w4 ⟨⟨b2,rfl,hs2⟩,hb⟩
 replace B:=Lib.hid (bel_in B.out hb)
 replace KB:=Lib.hid (KB.out.keep hb)
 have hs2:=Lib.hid hs2
 clear hb K
 have KS:=Lib.hid (F2.out w4 B.out)
 obtain ⟨k0,k1,k2,k3,k4,k5,k6,k7⟩:=KB.out
 obtain ⟨w5,hw⟩:∃W,W=w4.alloc (.cells #[.string x.e.n,.string x.e.v,.slice A1 x.e.d.length c1,.slice A2 x.e.r.length c2,.slice A3 x.e.c.length c3,.slice A4 x.e.p.length c4,.bool x.a,.bool x.h] 36):=⟨_,rfl⟩
 have hb:Below w4.heap.size w4 w5:=by rw [hw];exact (Below.refl _ _).alloc (Nat.le_refl _) _
 replace B:=Lib.hid (bel_in B.out hb)
 replace KB:=Lib.hid (KB.out.keep hb)
 rw [←hw] at KS
 have SX:=Lib.hid hw
 clear hb hw
 have K:=Lib.hid (KS.out)
 go_wp2_with fail
 rw [←SX.out]
 clear SX
 refine K.out.mono ?_
 rintro e w6 ⟨⟨b3,rfl,-⟩,hb⟩
 replace B:=Lib.hid (bel_in B.out hb)
 replace KB:=Lib.hid (KB.out.keep hb)
 clear KS
 clear k0 k1 k2 k3 k4 k5 k6 k7
 clear hb K
 cases b1
 ·go_wp2
  go_ret
  exact ⟨rfl,B.out⟩
 cases b2
 ·go_wp2
  go_ret
  exact ⟨rfl,B.out⟩
 cases b3
 ·go_wp2
  go_ret
  exact ⟨rfl,B.out⟩
 have G1:=Lib.hid (L1.out (hs1.out rfl))
 have G2:=Lib.hid (L2.out (hs2.out rfl))
 clear hs1 hs2
 by_cases q:(100:Int) < (nm.size:Int)
 ·go_wp2
  go_ret
  exact ⟨rfl,B.out⟩
 have K:=Lib.hid (K1.out w6 B.out)
 go_wp2_with fail
 refine K.out.mono ?_
 rintro e w7 ⟨⟨P1,p1,P2,p2,P3,p3,P4,p4,rfl,hy⟩,hb⟩
 replace B:=Lib.hid (bel_in B.out hb)
 replace KB:=Lib.hid (KB.out.keep hb)
 have Y:=Lib.hid hy
 clear hy
 clear hb K
 obtain ⟨w8,hw⟩:∃W,W=w7.alloc (.cells #[.string y.e.n,.string y.e.v,.slice P1 y.e.d.length p1,.slice P2 y.e.r.length p2,.slice P3 y.e.c.length p3,.slice P4 y.e.p.length p4,.bool y.a,.bool y.h] 36):=⟨_,rfl⟩
 have hb:Below w7.heap.size w7 w8:=by rw [hw];exact (Below.refl _ _).alloc (Nat.le_refl _) _
 replace B:=Lib.hid (bel_in B.out hb)
 replace KB:=Lib.hid (KB.out.keep hb)
 replace Y:=Lib.hid (Y.out.on hb)
 have KY:=Lib.hid (show Cl8x w8 w7.heap.size y P1 p1 P2 p2 P3 p3 P4 p4 by rw [hw];exact cl8xnew P1 p1 P2 p2 P3 p3 P4 p4)
 have SX:=Lib.hid hw
 clear hb hw
 have K:=Lib.hid (K2.out w8 B.out)
 go_wp2_with fail
 rw [←SX.out]
 clear SX
 refine K.out.mono ?_
 rintro e w9 ⟨⟨Q1,q1,Q2,q2,Q3,q3,Q4,q4,rfl,hz⟩,hb⟩
 replace B:=Lib.hid (bel_in B.out hb)
 replace KB:=Lib.hid (KB.out.keep hb)
 replace Y:=Lib.hid (Y.out.on hb)
 replace KY:=Lib.hid (KY.out.keep hb)
 have Z:=Lib.hid (hz.up hb.size)
 clear hz
 clear hb K
 obtain ⟨w10,hw⟩:∃W,W=w9.alloc (.cells #[.string y.e.n,.string y.e.v,.slice Q1 y.e.d.length q1,.slice Q2 y.e.r.length q2,.slice Q3 y.e.c.length q3,.slice Q4 y.e.p.length q4,.bool y.a,.bool y.h] 36):=⟨_,rfl⟩
 have hb:Below w9.heap.size w9 w10:=by rw [hw];exact (Below.refl _ _).alloc (Nat.le_refl _) _
 replace B:=Lib.hid (bel_in B.out hb)
 replace KB:=Lib.hid (KB.out.keep hb)
 replace Y:=Lib.hid (Y.out.on hb)
 replace KY:=Lib.hid (KY.out.keep hb)
 replace Z:=Lib.hid (Z.out.on hb)
 have KZ:=Lib.hid (show Cl8x w10 w9.heap.size y Q1 q1 Q2 q2 Q3 q3 Q4 q4 by rw [hw];exact cl8xnew Q1 q1 Q2 q2 Q3 q3 Q4 q4)
 have SX:=Lib.hid hw
 clear hb hw
 have K:=Lib.hid (K3.out G1.out w10 B.out)
 go_wp2_with fail
 rw [←SX.out]
 clear SX
 refine K.out.mono ?_
 rintro e w11 ⟨⟨M1,m1,n1,rfl,hr⟩,hb⟩
 replace B:=Lib.hid (bel_in B.out hb)
 replace KB:=Lib.hid (KB.out.keep hb)
 replace Y:=Lib.hid (Y.out.on hb)
 replace KY:=Lib.hid (KY.out.keep hb)
 replace Z:=Lib.hid (Z.out.on hb)
 replace KZ:=Lib.hid (KZ.out.keep hb)
 have X1:=Lib.hid hr
 clear hr
 clear hb K
 have K:=Lib.hid (K4.out G1.out w11 B.out)
 go_wp2_with fail
 refine K.out.mono ?_
 rintro e w12 ⟨⟨M2,m2,n2,rfl,hr⟩,hb⟩
 replace B:=Lib.hid (bel_in B.out hb)
 replace KB:=Lib.hid (KB.out.keep hb)
 replace Y:=Lib.hid (Y.out.on hb)
 replace KY:=Lib.hid (KY.out.keep hb)
 replace Z:=Lib.hid (Z.out.on hb)
 replace KZ:=Lib.hid (KZ.out.keep hb)
 replace X1:=Lib.hid (rdHrs_good.up (rdHrs_good.below X1.out hb) hb.size)
 have X2:=Lib.hid hr
 clear hr
 clear hb K
 obtain ⟨u0,u1,u2,u3,u4,u5,u6,u7⟩:=KY.out
 obtain ⟨v0,v1,v2,v3,v4,v5,v6,v7⟩:=KZ.out
 have K:=Lib.hid (by have:=same7_any y y P1 p1 P2 p2 P3 p3 P4 p4 Q1 q1 Q2 q2 Q3 q3 Q4 q4 w12 Y.out Z.out;rw [decide_eq_true rfl] at this;exact this)
 go_wp2_with fail
 refine K.out.mono ?_
 rintro e w13 ⟨rfl,hb⟩
 replace B:=Lib.hid (bel_in B.out hb)
 replace KB:=Lib.hid (KB.out.keep hb)
 replace Y:=Lib.hid (Y.out.on hb)
 replace KY:=Lib.hid (KY.out.keep hb)
 replace Z:=Lib.hid (Z.out.on hb)
 replace KZ:=Lib.hid (KZ.out.keep hb)
 replace X1:=Lib.hid (rdHrs_good.up (rdHrs_good.below X1.out hb) hb.size)
 replace X2:=Lib.hid (rdHrs_good.up (rdHrs_good.below X2.out hb) hb.size)
 clear u0 u1 u2 u3 u4 u5 u6 u7
 clear v0 v1 v2 v3 v4 v5 v6 v7
 clear hb K
 clear Y
 clear Z
 clear KY
 clear KZ
 go_wp2_with fail
 obtain ⟨V,hV⟩:∃V,V=w13.drew:=⟨_,rfl⟩
 have hb:Below w13.heap.size w13 V:=by rw [hV];exact belD (Below.refl _ _) 1
 replace B:=Lib.hid (bel_in B.out hb)
 replace KB:=Lib.hid (KB.out.keep hb)
 replace X1:=Lib.hid (rdHrs_good.up (rdHrs_good.below X1.out hb) hb.size)
 replace X2:=Lib.hid (rdHrs_good.up (rdHrs_good.below X2.out hb) hb.size)
 have KS:=Lib.hid (fun (W:World) (hb:Below V.heap.size V W)=>(show W.cell? ⟨w.heap.size,0,none⟩=some (.string x.e.n)∧W.cell? ⟨w.heap.size,1,none⟩=some (.string x.e.v)∧W.cell? ⟨w.heap.size,2,none⟩=some (.slice A1 x.e.d.length c1)∧W.cell? ⟨w.heap.size,3,none⟩=some (.slice A2 x.e.r.length c2)∧W.cell? ⟨w.heap.size,4,none⟩=some (.slice A3 x.e.c.length c3)∧W.cell? ⟨w.heap.size,5,none⟩=some (.slice A4 x.e.p.length c4)∧W.cell? ⟨w.heap.size,6,none⟩=some (.bool x.a)∧W.cell? ⟨w.heap.size,7,none⟩=some (.bool x.h) from by
  have k:=KB.out.keep hb
  exact ⟨k.n,k.v,k.d,k.r,k.c,k.p,k.a,k.h⟩))
 clear hb
 refine wp_region_noPanic ?_
 refine wp_region_L (fun W=>W.cell? ⟨w.heap.size,0,none⟩=some (.string x.e.n)∧W.cell? ⟨w.heap.size,1,none⟩=some (.string x.e.v)∧W.cell? ⟨w.heap.size,2,none⟩=some (.slice A1 x.e.d.length c1)∧W.cell? ⟨w.heap.size,3,none⟩=some (.slice A2 x.e.r.length c2)∧W.cell? ⟨w.heap.size,4,none⟩=some (.slice A3 x.e.c.length c3)∧W.cell? ⟨w.heap.size,5,none⟩=some (.slice A4 x.e.p.length c4)∧W.cell? ⟨w.heap.size,6,none⟩=some (.bool x.a)∧W.cell? ⟨w.heap.size,7,none⟩=some (.bool x.h)) 43 (by kernel_rfl) (by rw [←hV];exact KS.out V (Below.refl _ _)) (fun hHeld=>?_)
 rw [←hV] at hHeld ⊢
 clear hV
 have BV:=Lib.hid (Below.refl V.heap.size V)
 refine wpAnyL_one (i:=0) (by kernel_rfl) rfl (fun K hK=>?_)
 go_simp
 refine hK.out _ _ (KS.out _ (Below.refl _ _)) (fun hHeld=>?_)
 clear hK K
 try simp only [Act.put,List.setIfInBounds_toArray,List.set_cons_zero,List.set_cons_succ]
 refine wpAnyL_one (i:=1) (by kernel_rfl) rfl (fun K hK=>?_)
 go_simp
 refine hK.out _ _ (KS.out _ (Below.refl _ _)) (fun hHeld=>?_)
 clear hK K
 try simp only [Act.put,List.setIfInBounds_toArray,List.set_cons_zero,List.set_cons_succ]
 refine wpAnyL_take (i:=2) (v:=?_) [42,34,33,25,24,16,15,11,10,6,5,4] rfl (by kernel_rfl) (by kernel_rfl) (by kernel_rfl) (fun _ _ _ h=>h) (by kernel_rfl) (by kernel_rfl) (by kernel_rfl) (Or.inl ⟨by rfl,?_⟩) (by assumption) ?_
 rotate_left
 ·intro w hSw
  try dsimp only at hSw
  go_simp
  first|done|with_reducible rfl
 try simp only [Act.put,List.setIfInBounds_toArray,List.set_cons_zero,List.set_cons_succ]
 refine wpAnyL_take (i:=3) (v:=?_) [42,34,33,25,24,16,15,11,10,6,5,4] rfl (by kernel_rfl) (by kernel_rfl) (by kernel_rfl) (fun _ _ _ h=>h) (by kernel_rfl) (by kernel_rfl) (by kernel_rfl) (Or.inl ⟨by rfl,?_⟩) (by assumption) ?_
 rotate_left
 ·intro w hSw
  try dsimp only at hSw
  go_simp
  first|done|with_reducible rfl
 try simp only [Act.put,List.setIfInBounds_toArray,List.set_cons_zero,List.set_cons_succ]
 refine wpAnyL_one (i:=4) (by kernel_rfl) rfl (fun K hK=>?_)
 go_simp
 refine hK.out _ _ (KS.out _ (Below.refl _ _)) (fun hHeld=>?_)
 clear hK K
 try simp only [Act.put,List.setIfInBounds_toArray,List.set_cons_zero,List.set_cons_succ]
 refine wpAnyL_one (i:=5) (by kernel_rfl) rfl (fun K hK=>?_)
 go_simp
 refine hK.out _ _ (KS.out _ (Below.refl _ _)) (fun hHeld=>?_)
 clear hK K
 try simp only [Act.put,List.setIfInBounds_toArray,List.set_cons_zero,List.set_cons_succ]
 refine wpAnyL_one (i:=6) (by kernel_rfl) rfl (fun K hK=>?_)
 go_simp
 refine hK.out _ _ (KS.out _ (Below.refl _ _)) (fun hHeld=>?_)
 clear hK K
 try simp only [Act.put,List.setIfInBounds_toArray,List.set_cons_zero,List.set_cons_succ]
 refine wpAnyL_take (i:=7) (v:=?_) [42,34,33,25,24,16,15,11,10,9] rfl (by kernel_rfl) (by kernel_rfl) (by kernel_rfl) (fun _ _ _ h=>h) (by kernel_rfl) (by kernel_rfl) (by kernel_rfl) (Or.inl ⟨by rfl,?_⟩) (by assumption) ?_
 rotate_left
 ·intro w hSw
  try dsimp only at hSw
  go_simp
  first|done|with_reducible rfl
 try simp only [Act.put,List.setIfInBounds_toArray,List.set_cons_zero,List.set_cons_succ]
 refine wpAnyL_take (i:=8) (v:=?_) [42,34,33,25,24,16,15,11,10,9] rfl (by kernel_rfl) (by kernel_rfl) (by kernel_rfl) (fun _ _ _ h=>h) (by kernel_rfl) (by kernel_rfl) (by kernel_rfl) (Or.inl ⟨by rfl,?_⟩) (by assumption) ?_
 rotate_left
 ·intro w hSw
  try dsimp only at hSw
  go_simp
  first|done|with_reducible rfl
 try simp only [Act.put,List.setIfInBounds_toArray,List.set_cons_zero,List.set_cons_succ]
 have K0:=Lib.hid (by have:=sameAll7_any M1 M2 m1 n1 m2 n2 lm lm V X1.out X2.out;rw [decide_eq_true rfl] at this;exact this)
 refine wpAnyL_one (i:=9) (by kernel_rfl) rfl (fun K hK=>?_)
 go_simp
 refine K0.out.mono ?_
 rintro e w14 ⟨rfl,hb⟩
 replace B:=Lib.hid (bel_in B.out hb)
 replace KB:=Lib.hid (KB.out.keep hb)
 replace X1:=Lib.hid (rdHrs_good.up (rdHrs_good.below X1.out hb) hb.size)
 replace X2:=Lib.hid (rdHrs_good.up (rdHrs_good.below X2.out hb) hb.size)
 replace BV:=Lib.hid (bel_in BV.out hb)
 clear hb K0
 go_wp2_with fail
 refine hK.out _ _ (KS.out _ BV.out) (fun hHeld=>?_)
 clear hK K
 try simp only [Act.put,List.setIfInBounds_toArray,List.set_cons_zero,List.set_cons_succ]
 clear X1
 clear X2
 refine wpAnyL_one (i:=10) (by kernel_rfl) rfl (fun K hK=>?_)
 go_simp
 refine hK.out _ _ (KS.out _ BV.out) (fun hHeld=>?_)
 clear hK K
 try simp only [Act.put,List.setIfInBounds_toArray,List.set_cons_zero,List.set_cons_succ]
 refine wpAnyL_one (i:=11) (by kernel_rfl) rfl (fun K hK=>?_)
 go_simp
 refine hK.out _ _ (KS.out _ BV.out) (fun hHeld=>?_)
 clear hK K
 try simp only [Act.put,List.setIfInBounds_toArray,List.set_cons_zero,List.set_cons_succ]
 refine wpAnyL_take (i:=12) (v:=?_) [42,34,33,25,24,16,15,14] rfl (by kernel_rfl) (by kernel_rfl) (by kernel_rfl) (fun _ _ _ h=>h) (by kernel_rfl) (by kernel_rfl) (by kernel_rfl) (Or.inl ⟨by rfl,?_⟩) (by assumption) ?_
 rotate_left
 ·intro w hSw
  try dsimp only at hSw
  go_simp
  first|done|with_reducible rfl
 try simp only [Act.put,List.setIfInBounds_toArray,List.set_cons_zero,List.set_cons_succ]
 refine wpAnyL_take (i:=13) (v:=?_) [42,34,33,25,24,16,15,14] rfl (by kernel_rfl) (by kernel_rfl) (by kernel_rfl) (fun _ _ _ h=>h) (by kernel_rfl) (by kernel_rfl) (by kernel_rfl) (Or.inl ⟨by rfl,?_⟩) (by assumption) ?_
 rotate_left
 ·intro w hSw
  try dsimp only at hSw
  go_simp
  first|done|with_reducible rfl
 try simp only [Act.put,List.setIfInBounds_toArray,List.set_cons_zero,List.set_cons_succ]
 refine wpAnyL_one (i:=14) (by kernel_rfl) rfl (fun K hK=>?_)
 go_simp
 refine hK.out _ _ (KS.out _ BV.out) (fun hHeld=>?_)
 clear hK K
 try simp only [Act.put,List.setIfInBounds_toArray,List.set_cons_zero,List.set_cons_succ]
 refine wpAnyL_one (i:=15) (by kernel_rfl) rfl (fun K hK=>?_)
 go_simp
 refine hK.out _ _ (KS.out _ BV.out) (fun hHeld=>?_)
 clear hK K
 try simp only [Act.put,List.setIfInBounds_toArray,List.set_cons_zero,List.set_cons_succ]
 refine wpAnyL_one (i:=16) (by kernel_rfl) rfl (fun K hK=>?_)
 go_simp
 refine hK.out _ _ (KS.out _ BV.out) (fun hHeld=>?_)
 clear hK K
 try simp only [Act.put,List.setIfInBounds_toArray,List.set_cons_zero,List.set_cons_succ]
 refine wpAnyL_take (i:=17) (v:=?_) [42,34,33,25,24,23,19] rfl (by kernel_rfl) (by kernel_rfl) (by kernel_rfl) (fun _ _ _ h=>h) (by kernel_rfl) (by kernel_rfl) (by kernel_rfl) (Or.inl ⟨by rfl,?_⟩) (by assumption) ?_
 rotate_left
 ·intro w hSw
  try dsimp only at hSw
  go_simp
  first|done|with_reducible rfl
 try simp only [Act.put,List.setIfInBounds_toArray,List.set_cons_zero,List.set_cons_succ]
 refine wpAnyL_take (i:=18) (v:=?_) [42,34,33,25,24,23,19] rfl (by kernel_rfl) (by kernel_rfl) (by kernel_rfl) (fun _ _ _ h=>h) (by kernel_rfl) (by kernel_rfl) (by kernel_rfl) (Or.inl ⟨by rfl,?_⟩) (by assumption) ?_
 rotate_left
 ·intro w hSw
  try dsimp only at hSw
  go_simp
  first|done|with_reducible rfl
 try simp only [Act.put,List.setIfInBounds_toArray,List.set_cons_zero,List.set_cons_succ]
 refine wpAnyL_take (i:=20) (v:=?_) [42,34,33,25,24,23,22] rfl (by kernel_rfl) (by kernel_rfl) (by kernel_rfl) (fun _ _ _ h=>h) (by kernel_rfl) (by kernel_rfl) (by kernel_rfl) (Or.inl ⟨by rfl,?_⟩) (by assumption) ?_
 rotate_left
 ·intro w hSw
  try dsimp only at hSw
  go_simp
  first|done|with_reducible rfl
 try simp only [Act.put,List.setIfInBounds_toArray,List.set_cons_zero,List.set_cons_succ]
 refine wpAnyL_take (i:=21) (v:=?_) [42,34,33,25,24,23,22] rfl (by kernel_rfl) (by kernel_rfl) (by kernel_rfl) (fun _ _ _ h=>h) (by kernel_rfl) (by kernel_rfl) (by kernel_rfl) (Or.inl ⟨by rfl,?_⟩) (by assumption) ?_
 rotate_left
 ·intro w hSw
  try dsimp only at hSw
  go_simp
  first|done|with_reducible rfl
 try simp only [Act.put,List.setIfInBounds_toArray,List.set_cons_zero,List.set_cons_succ]
 have K0:=Lib.hid (K5.out G1.out w14 B.out)
 refine wpAnyL_one (i:=19) (by kernel_rfl) rfl (fun K hK=>?_)
 go_simp
 refine K0.out.mono ?_
 rintro e w15 ⟨⟨M1,m1,n1,rfl,hr⟩,hb⟩
 replace B:=Lib.hid (bel_in B.out hb)
 replace KB:=Lib.hid (KB.out.keep hb)
 replace BV:=Lib.hid (bel_in BV.out hb)
 have X1:=Lib.hid hr
 clear hr
 clear hb K0
 go_wp2_with fail
 refine hK.out _ _ (KS.out _ BV.out) (fun hHeld=>?_)
 clear hK K
 try simp only [Act.put,List.setIfInBounds_toArray,List.set_cons_zero,List.set_cons_succ]
 have K0:=Lib.hid (K6.out G1.out w15 B.out)
 refine wpAnyL_one (i:=22) (by kernel_rfl) rfl (fun K hK=>?_)
 go_simp
 refine K0.out.mono ?_
 rintro e w16 ⟨⟨M2,n2,rfl,hr⟩,hb⟩
 replace B:=Lib.hid (bel_in B.out hb)
 replace KB:=Lib.hid (KB.out.keep hb)
 replace BV:=Lib.hid (bel_in BV.out hb)
 replace X1:=Lib.hid (rdHrs_good.up (rdHrs_good.below X1.out hb) hb.size)
 have X2:=Lib.hid hr
 clear hr
 clear hb K0
 go_wp2_with fail
 refine hK.out _ _ (KS.out _ BV.out) (fun hHeld=>?_)
 clear hK K
 try simp only [Act.put,List.setIfInBounds_toArray,List.set_cons_zero,List.set_cons_succ]
 have K0:=Lib.hid (by have:=sameAll7_any M1 M2 m1 n1 _ n2 li li w16 X1.out X2.out;rw [decide_eq_true rfl] at this;exact this)
 refine wpAnyL_one (i:=23) (by kernel_rfl) rfl (fun K hK=>?_)
 go_simp
 refine K0.out.mono ?_
 rintro e w17 ⟨rfl,hb⟩
 replace B:=Lib.hid (bel_in B.out hb)
 replace KB:=Lib.hid (KB.out.keep hb)
 replace BV:=Lib.hid (bel_in BV.out hb)
 replace X1:=Lib.hid (rdHrs_good.up (rdHrs_good.below X1.out hb) hb.size)
 replace X2:=Lib.hid (rdHrs_good.up (rdHrs_good.below X2.out hb) hb.size)
 clear hb K0
 go_wp2_with fail
 refine hK.out _ _ (KS.out _ BV.out) (fun hHeld=>?_)
 clear hK K
 try simp only [Act.put,List.setIfInBounds_toArray,List.set_cons_zero,List.set_cons_succ]
 clear X1
 clear X2
 refine wpAnyL_one (i:=24) (by kernel_rfl) rfl (fun K hK=>?_)
 go_simp
 refine hK.out _ _ (KS.out _ BV.out) (fun hHeld=>?_)
 clear hK K
 try simp only [Act.put,List.setIfInBounds_toArray,List.set_cons_zero,List.set_cons_succ]
 refine wpAnyL_one (i:=25) (by kernel_rfl) rfl (fun K hK=>?_)
 go_simp
 refine hK.out _ _ (KS.out _ BV.out) (fun hHeld=>?_)
 clear hK K
 try simp only [Act.put,List.setIfInBounds_toArray,List.set_cons_zero,List.set_cons_succ]
 refine wpAnyL_take (i:=26) (v:=?_) [42,34,33,32,28] rfl (by kernel_rfl) (by kernel_rfl) (by kernel_rfl) (fun _ _ _ h=>h) (by kernel_rfl) (by kernel_rfl) (by kernel_rfl) (Or.inl ⟨by rfl,?_⟩) (by assumption) ?_
 rotate_left
 ·intro w hSw
  try dsimp only at hSw
  go_simp
  first|done|with_reducible rfl
 try simp only [Act.put,List.setIfInBounds_toArray,List.set_cons_zero,List.set_cons_succ]
 refine wpAnyL_take (i:=27) (v:=?_) [42,34,33,32,28] rfl (by kernel_rfl) (by kernel_rfl) (by kernel_rfl) (fun _ _ _ h=>h) (by kernel_rfl) (by kernel_rfl) (by kernel_rfl) (Or.inl ⟨by rfl,?_⟩) (by assumption) ?_
 rotate_left
 ·intro w hSw
  try dsimp only at hSw
  go_simp
  first|done|with_reducible rfl
 try simp only [Act.put,List.setIfInBounds_toArray,List.set_cons_zero,List.set_cons_succ]
 refine wpAnyL_take (i:=29) (v:=?_) [42,34,33,32,31] rfl (by kernel_rfl) (by kernel_rfl) (by kernel_rfl) (fun _ _ _ h=>h) (by kernel_rfl) (by kernel_rfl) (by kernel_rfl) (Or.inl ⟨by rfl,?_⟩) (by assumption) ?_
 rotate_left
 ·intro w hSw
  try dsimp only at hSw
  go_simp
  first|done|with_reducible rfl
 try simp only [Act.put,List.setIfInBounds_toArray,List.set_cons_zero,List.set_cons_succ]
 refine wpAnyL_take (i:=30) (v:=?_) [42,34,33,32,31] rfl (by kernel_rfl) (by kernel_rfl) (by kernel_rfl) (fun _ _ _ h=>h) (by kernel_rfl) (by kernel_rfl) (by kernel_rfl) (Or.inl ⟨by rfl,?_⟩) (by assumption) ?_
 rotate_left
 ·intro w hSw
  try dsimp only at hSw
  go_simp
  first|done|with_reducible rfl
 try simp only [Act.put,List.setIfInBounds_toArray,List.set_cons_zero,List.set_cons_succ]
 have K0:=Lib.hid (K7.out G1.out w17 B.out)
 refine wpAnyL_one (i:=28) (by kernel_rfl) rfl (fun K hK=>?_)
 go_simp
 refine K0.out.mono ?_
 rintro e w18 ⟨⟨M1,m1,n1,rfl,hr⟩,hb⟩
 replace B:=Lib.hid (bel_in B.out hb)
 replace KB:=Lib.hid (KB.out.keep hb)
 replace BV:=Lib.hid (bel_in BV.out hb)
 have X1:=Lib.hid hr
 clear hr
 clear hb K0
 go_wp2_with fail
 refine hK.out _ _ (KS.out _ BV.out) (fun hHeld=>?_)
 clear hK K
 try simp only [Act.put,List.setIfInBounds_toArray,List.set_cons_zero,List.set_cons_succ]
 have K0:=Lib.hid (K8.out G1.out w18 B.out)
 refine wpAnyL_one (i:=31) (by kernel_rfl) rfl (fun K hK=>?_)
 go_simp
 refine K0.out.mono ?_
 rintro e w19 ⟨⟨M2,n2,rfl,hr⟩,hb⟩
 replace B:=Lib.hid (bel_in B.out hb)
 replace KB:=Lib.hid (KB.out.keep hb)
 replace BV:=Lib.hid (bel_in BV.out hb)
 replace X1:=Lib.hid (rdHrs_good.up (rdHrs_good.below X1.out hb) hb.size)
 have X2:=Lib.hid hr
 clear hr
 clear hb K0
 go_wp2_with fail
 refine hK.out _ _ (KS.out _ BV.out) (fun hHeld=>?_)
 clear hK K
 try simp only [Act.put,List.setIfInBounds_toArray,List.set_cons_zero,List.set_cons_succ]
 have K0:=Lib.hid (by have:=sameAll7_any M1 M2 m1 n1 _ n2 lo lo w19 X1.out X2.out;rw [decide_eq_true rfl] at this;exact this)
 refine wpAnyL_one (i:=32) (by kernel_rfl) rfl (fun K hK=>?_)
 go_simp
 refine K0.out.mono ?_
 rintro e w20 ⟨rfl,hb⟩
 replace B:=Lib.hid (bel_in B.out hb)
 replace KB:=Lib.hid (KB.out.keep hb)
 replace BV:=Lib.hid (bel_in BV.out hb)
 replace X1:=Lib.hid (rdHrs_good.up (rdHrs_good.below X1.out hb) hb.size)
 replace X2:=Lib.hid (rdHrs_good.up (rdHrs_good.below X2.out hb) hb.size)
 clear hb K0
 go_wp2_with fail
 refine hK.out _ _ (KS.out _ BV.out) (fun hHeld=>?_)
 clear hK K
 try simp only [Act.put,List.setIfInBounds_toArray,List.set_cons_zero,List.set_cons_succ]
 clear X1
 clear X2
 refine wpAnyL_one (i:=33) (by kernel_rfl) rfl (fun K hK=>?_)
 go_simp
 refine hK.out _ _ (KS.out _ BV.out) (fun hHeld=>?_)
 clear hK K
 try simp only [Act.put,List.setIfInBounds_toArray,List.set_cons_zero,List.set_cons_succ]
 refine wpAnyL_one (i:=34) (by kernel_rfl) rfl (fun K hK=>?_)
 go_simp
 refine hK.out _ _ (KS.out _ BV.out) (fun hHeld=>?_)
 clear hK K
 try simp only [Act.put,List.setIfInBounds_toArray,List.set_cons_zero,List.set_cons_succ]
 refine wpAnyL_take (i:=35) (v:=?_) [42,41,37] rfl (by kernel_rfl) (by kernel_rfl) (by kernel_rfl) (fun _ _ _ h=>h) (by kernel_rfl) (by kernel_rfl) (by kernel_rfl) (Or.inl ⟨by rfl,?_⟩) (by assumption) ?_
 rotate_left
 ·intro w hSw
  try dsimp only at hSw
  go_simp
  first|done|with_reducible rfl
 try simp only [Act.put,List.setIfInBounds_toArray,List.set_cons_zero,List.set_cons_succ]
 refine wpAnyL_take (i:=36) (v:=?_) [42,41,37] rfl (by kernel_rfl) (by kernel_rfl) (by kernel_rfl) (fun _ _ _ h=>h) (by kernel_rfl) (by kernel_rfl) (by kernel_rfl) (Or.inl ⟨by rfl,?_⟩) (by assumption) ?_
 rotate_left
 ·intro w hSw
  try dsimp only at hSw
  go_simp
  first|done|with_reducible rfl
 try simp only [Act.put,List.setIfInBounds_toArray,List.set_cons_zero,List.set_cons_succ]
 refine wpAnyL_take (i:=38) (v:=?_) [42,41,40] rfl (by kernel_rfl) (by kernel_rfl) (by kernel_rfl) (fun _ _ _ h=>h) (by kernel_rfl) (by kernel_rfl) (by kernel_rfl) (Or.inl ⟨by rfl,?_⟩) (by assumption) ?_
 rotate_left
 ·intro w hSw
  try dsimp only at hSw
  go_simp
  first|done|with_reducible rfl
 try simp only [Act.put,List.setIfInBounds_toArray,List.set_cons_zero,List.set_cons_succ]
 refine wpAnyL_take (i:=39) (v:=?_) [42,41,40] rfl (by kernel_rfl) (by kernel_rfl) (by kernel_rfl) (fun _ _ _ h=>h) (by kernel_rfl) (by kernel_rfl) (by kernel_rfl) (Or.inl ⟨by rfl,?_⟩) (by assumption) ?_
 rotate_left
 ·intro w hSw
  try dsimp only at hSw
  go_simp
  first|done|with_reducible rfl
 try simp only [Act.put,List.setIfInBounds_toArray,List.set_cons_zero,List.set_cons_succ]
 have K0:=Lib.hid (K9.out G1.out G2.out w20 B.out)
 refine wpAnyL_one (i:=37) (by kernel_rfl) rfl (fun K hK=>?_)
 go_simp
 refine K0.out.mono ?_
 rintro e w21 ⟨⟨M1,m1,n1,rfl,hr⟩,hb⟩
 replace B:=Lib.hid (bel_in B.out hb)
 replace KB:=Lib.hid (KB.out.keep hb)
 replace BV:=Lib.hid (bel_in BV.out hb)
 have X1:=Lib.hid hr
 clear hr
 clear hb K0
 go_wp2_with fail
 refine hK.out _ _ (KS.out _ BV.out) (fun hHeld=>?_)
 clear hK K
 try simp only [Act.put,List.setIfInBounds_toArray,List.set_cons_zero,List.set_cons_succ]
 have K0:=Lib.hid (K10.out G1.out G2.out w21 B.out)
 refine wpAnyL_one (i:=40) (by kernel_rfl) rfl (fun K hK=>?_)
 go_simp
 refine K0.out.mono ?_
 rintro e w22 ⟨⟨M2,m2,n2,rfl,hr⟩,hb⟩
 replace B:=Lib.hid (bel_in B.out hb)
 replace KB:=Lib.hid (KB.out.keep hb)
 replace BV:=Lib.hid (bel_in BV.out hb)
 replace X1:=Lib.hid (rdNms_good.up (rdNms_good.below X1.out hb) hb.size)
 have X2:=Lib.hid hr
 clear hr
 clear hb K0
 go_wp2_with fail
 refine hK.out _ _ (KS.out _ BV.out) (fun hHeld=>?_)
 clear hK K
 try simp only [Act.put,List.setIfInBounds_toArray,List.set_cons_zero,List.set_cons_succ]
 have K0:=Lib.hid (by have:=sameTexts7_any M1 M2 m1 n1 m2 n2 tu tu w22 X1.out X2.out;rw [decide_eq_true rfl] at this;exact this)
 refine wpAnyL_one (i:=41) (by kernel_rfl) rfl (fun K hK=>?_)
 go_simp
 refine K0.out.mono ?_
 rintro e w23 ⟨rfl,hb⟩
 have hb:=hb.below w22.heap.size
 replace B:=Lib.hid (bel_in B.out hb)
 replace KB:=Lib.hid (KB.out.keep hb)
 replace BV:=Lib.hid (bel_in BV.out hb)
 replace X1:=Lib.hid (rdNms_good.up (rdNms_good.below X1.out hb) hb.size)
 replace X2:=Lib.hid (rdNms_good.up (rdNms_good.below X2.out hb) hb.size)
 clear hb K0
 go_wp2_with fail
 refine hK.out _ _ (KS.out _ BV.out) (fun hHeld=>?_)
 clear hK K
 try simp only [Act.put,List.setIfInBounds_toArray,List.set_cons_zero,List.set_cons_succ]
 clear X1
 clear X2
 refine wpAnyL_one (i:=42) (by kernel_rfl) rfl (fun K hK=>?_)
 go_simp
 refine hK.out _ _ (KS.out _ BV.out) (fun hHeld=>?_)
 clear hK K
 try simp only [Act.put,List.setIfInBounds_toArray,List.set_cons_zero,List.set_cons_succ]
 refine wpAnyL_last (by kernel_rfl) rfl (by kernel_rfl) (fun K hK=>?_)
 go_simp
 refine hK.out _ _ ?_
 clear hK K
 refine NoPanic.normal ?_
 go_wp2
 go_ret
 exact ⟨rfl,B.out⟩
end Go.Proofs.YtboinnjncaehkaaGreatDoor
