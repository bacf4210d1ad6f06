/- What the laws rest on: N11k. -/
import Derived.Test.YtpilmhoakopcaaaGreatDoorQBBZA
import Derived.Test.YtpilmhoakopcaaaGreatDoorQBFZA
import Derived.Test.YtpilmhoakopcaaaGreatDoorQBGZA
import Derived.Test.YtpilmhoakopcaaaGreatDoorQBIZA
import Derived.Test.YtpilmhoakopcaaaGreatDoorQBJZA
import Derived.Test.YtpilmhoakopcaaaGreatDoorQBNZA
set_option maxRecDepth 100000
set_option linter.unusedVariables false
set_option linter.unusedSimpArgs false
namespace Go.Proofs.YtpilmhoakopcaaaGreatDoor
open Go.RowKit
set_option maxHeartbeats 32000000 in
theorem reckons11 (A:Option Addr) (n0 c:Nat) (L:List Ent) (A':Option Addr) (n1 c':Nat) (m:List Hr) (Apn:Option Addr) (np cp:Nat) (pn:List Pn) (up:Bool) (Al:Option Addr) (nl cl:Nat) (l:List Int) (tn:Int) (w:World) (h:rdEnts w (lt_ w.heap.size) L [.slice A n0 c]) (h':rdHrs w (lt_ w.heap.size) m [.slice A' n1 c']) (hpn:rdPns w (lt_ w.heap.size) pn [.slice Apn np cp]) (hl:rdInts w (lt_ w.heap.size) l [.slice Al nl cl]) (ht:(Lit.int .i64 tn).wf=true) (E:EnvR w) :
  Calls Tryz.prog 3 #[.slice A n0 c,.slice A' n1 c',.slice Apn np cp,.bool up,.slice Al nl cl,.int .i64 tn] w fun e w'=>e=.returned (.bool true)∧Below w.heap.size w w':=by
 obtain ⟨rfl,hnc,hcm,-⟩:=rdEnts_at h
 obtain ⟨rfl,hnc',hcm',-⟩:=rdHrs_at h'
 have hcx:c≤9223372036854775807:=hcm
 have hcy:c'≤9223372036854775807:=hcm'
 have HE:=Lib.hid E
 have H:=Lib.hid (fun (W:World) (hb:Below w.heap.size w W)=>(rdEnts_good.up (rdEnts_good.below h hb) hb.size:rdEnts W (lt_ W.heap.size) L [.slice A L.length c]))
 have H':=Lib.hid (fun (W:World) (hb:Below w.heap.size w W)=>(rdHrs_good.up (rdHrs_good.below h' hb) hb.size:rdHrs W (lt_ W.heap.size) m [.slice A' m.length c']))
 obtain ⟨rfl,hpnc,hpnm,-⟩:=rdPns_at hpn
 have hpnx:cp≤9223372036854775807:=hpnm
 have HP:=Lib.hid (fun (W:World) (hb:Below w.heap.size w W)=>(rdPns_good.up (rdPns_good.below hpn hb) hb.size:rdPns W (lt_ W.heap.size) pn [.slice Apn pn.length cp]))
 obtain ⟨rfl,hlc,hlm,-⟩:=rdInts_at hl
 have hlx:cl≤9223372036854775807:=hlm
 have Hl:=Lib.hid (fun (W:World) (hb:Below w.heap.size w W)=>(rdInts_good.up (rdInts_good.below hl hb) hb.size:rdInts W (lt_ W.heap.size) l [.slice Al l.length cl]))
 clear h h' hcm hcm' E hpn hpnm hl hlm
 go_enter Tryz.func3,Tryz.ntmps3
 go_wp2_with fail
 refine (shown11_any w HE.out).mono ?_
 rintro e w1 ⟨rfl,hb⟩
 have B2:=Lib.hid hb
 clear hb
 go_wp2_with fail
 refine (small11_any A L.length c L A' m.length c' m w1 (H.out w1 B2.out) (H'.out w1 B2.out)).mono ?_
 rintro e w3 ⟨⟨ok,rfl,hfw⟩,hb⟩
 have B4:=Lib.hid (bel_in B2.out hb)
 clear hb
 go_wp2_with fail
 refine (wishes11_any Apn pn.length cp pn w3 (HP.out w3 B4.out)).mono ?_
 rintro e w2 ⟨⟨ok2,rfl,hask⟩,rfl⟩
 cases ok
 ·go_wp2
  go_ret
  exact ⟨rfl,B4.out⟩
 have FW:=Lib.hid (hfw rfl)
 clear hfw
 cases ok2
 ·go_wp2
  go_ret
  exact ⟨rfl,B4.out⟩
 have PK:=Lib.hid (hask rfl)
 clear hask
 by_cases hln:(100:Int) < (l.length:Int)
 ·have hln':100 < l.length:=by omega
  go_wp2
  go_ret
  exact ⟨rfl,B4.out⟩
 have hln':¬100 < l.length:=by omega
 have KN:=Lib.hid (new9_any A L.length c L A' m.length c' m w3 (H.out w3 B4.out) (H'.out w3 B4.out) (fun x hx=>(FW.out.1.2 x hx).sz) (fun y hy=>(FW.out.2.2 y hy).sz) (HE.out.below B4.out))
 go_wp2_with fail
 refine KN.out.mono ?_
 rintro e w4 ⟨hnr,hb⟩
 have B5:=Lib.hid (bel_in B4.out hb)
 clear hb KN
 have KM:=Lib.hid (q9new_any A L.length c L A' m.length c' m w4 (H.out w4 B5.out) (H'.out w4 B5.out) (fun x hx=>(FW.out.1.2 x hx).sz) (fun y hy=>(FW.out.2.2 y hy).sz) (by have:=FW.out.1.1;omega) (by have:=FW.out.2.1;omega))
 by_cases hboth:L.all rgtE=true∧rightH m=true
 rotate_left
 ·obtain rfl:=hnr.1 hboth
  clear hnr
  go_wp2_with fail
  refine KM.out.mono ?_
  rintro e w5 ⟨hnu,hb⟩
  obtain rfl:=hnu.1 hboth
  have BX:=Lib.hid (bel_in B5.out hb)
  clear hb hboth hnu KM
  go_wp2
  go_ret
  exact ⟨rfl,BX.out⟩
 by_cases hmany:64 < (entU L (m.map fun y=>y.e)).length
 ·obtain rfl:=hnr.2.1 hboth hmany
  clear hnr
  go_wp2_with fail
  refine KM.out.mono ?_
  rintro e w5 ⟨hnu,hb⟩
  obtain rfl:=hnu.2.1 hboth hmany
  have BX:=Lib.hid (bel_in B5.out hb)
  clear hb hboth hnu KM hmany
  go_wp2
  go_ret
  exact ⟨rfl,BX.out⟩
 obtain ⟨b,rfl,hup⟩:=hnr.2.2 hboth hmany
 have UFF:=Lib.hid (uk_of hboth FW.out hmany)
 have KM2:=Lib.hid (fun (e:Ending) (W:World) (h:NewU W L m e)=>h.2.2 hboth hmany)
 have HUP:=Lib.hid hup
 clear hnr hboth hmany hup
 go_wp2_with fail
 refine KM.out.mono ?_
 rintro e w5 ⟨hnu,hb⟩
 obtain ⟨b2,rfl,hur⟩:=KM2.out _ _ hnu
 have B6:=Lib.hid (bel_in B5.out hb)
 generalize entU L (m.map fun y=>y.e)=U at *
 have HU:=Lib.hid (fun (W:World) (hx:Below w5.heap.size w5 W)=>(UFF.out.uf.uq (HUP.out.below (bel_in hb hx)):UQ W b U m))
 have HV:=Lib.hid (fun (W:World) (hx:Below w5.heap.size w5 W)=>(hur.below hx:UR W b2 U m))
 have HEU:=Lib.hid (fun (W:World) (hx:Below w5.heap.size w5 W)=>HE.out.below (bel_in B6.out hx))
 have HLL:=Lib.hid (fun (W:World) (hx:Below w5.heap.size w5 W)=>Hl.out W (bel_in B6.out hx))
 have HPP:=Lib.hid (fun (W:World) (hx:Below w5.heap.size w5 W)=>HP.out W (bel_in B6.out hx))
 clear hb hnu hur KM KM2 HUP
 have PZ:=Lib.hid (show ∀x ∈ pn,x.n.size≤65536∧x.x.size≤maxLen from fun x hx=>by have:=PK.out.2 x hx;unfold maxLen;omega)
 have PX:=Lib.hid (show ∀x ∈ pn,x.x.size≤maxLen from fun x hx=>(PZ.out x hx).2)
 have UL:=Lib.hid UFF.out.uf.len
 have U2:=Lib.hid (show U.length≤200 by have:=UL.out;omega)
 have KOP:=Lib.hid (fun (Aq:Option Addr) (cq:Nat) (q:List Int) (hq:q.length≤1000) (W:World) (hb:Below w5.heap.size w5 W) hrq=>cof_any b U m Apn pn.length cp pn up Aq q.length cq q W (HU.out W hb) UFF.out (HPP.out W hb) hrq hq (HEU.out W hb))
 have KOD:=Lib.hid (fun (Aq:Option Addr) (cq:Nat) (q:List Int) (hq:q.length≤1000) (W:World) (hb:Below w5.heap.size w5 W) hrq=>q11of_any b2 U m Apn pn.length cp pn up Aq q.length cq q W (HV.out W hb) (HPP.out W hb) hrq hq UFF.out.uf.hm U2.out UFF.out.ins (fun x hx=>UFF.out.vz x hx) UFF.out.uf.pr UFF.out.rc PZ.out)
 have KWP:=Lib.hid (fun (W:World) (hb:Below w5.heap.size w5 W)=>cwgt_any b U m Apn pn.length cp pn up W (HU.out W hb) (HPP.out W hb) UFF.out.ins UFF.out.one UFF.out.uf.nm)
 have KWD:=Lib.hid (fun (W:World) (hb:Below w5.heap.size w5 W)=>q11wgt_any b2 U m Apn pn.length cp pn up W (HV.out W hb) (HPP.out W hb) UFF.out.uf.hm U2.out UFF.out.ins (fun x hx=>UFF.out.vz x hx) PZ.out)
 have KTP:=Lib.hid (fun (Aq:Option Addr) (cq:Nat) (q:List Int) (hq:q.length≤1000) (W:World) (hb:Below w5.heap.size w5 W) hrq=>cwant_any b U m Aq q.length cq q W (HU.out W hb) hrq hq UFF.out.rc UFF.out.rz (HEU.out W hb))
 have KTD:=Lib.hid (fun (Aq:Option Addr) (cq:Nat) (q:List Int) (hq:q.length≤1000) (W:World) (hb:Below w5.heap.size w5 W) hrq=>q11want_any b2 U m Aq q.length cq q W (HV.out W hb) hrq hq UFF.out.uf.pr UFF.out.rc)
 have KBP:=Lib.hid (fun (W:World) (hb:Below w5.heap.size w5 W)=>cbehind_any b U m Apn pn.length cp pn tn W (HU.out W hb) (HPP.out W hb) UFF.out.uf.nm)
 have KBD:=Lib.hid (fun (W:World) (hb:Below w5.heap.size w5 W)=>q11behind_any b2 U m Apn pn.length cp pn tn W (HV.out W hb) (HPP.out W hb) UFF.out.uf.hm U2.out (fun x hx=>UFF.out.vz x hx) PX.out)
 have KAP:=Lib.hid (fun (W:World) (hb:Below w5.heap.size w5 W)=>callow_any b U m Apn pn.length cp pn W (HU.out W hb) (HPP.out W hb))
 have KAD:=Lib.hid (fun (W:World) (hb:Below w5.heap.size w5 W)=>q11allow_any b2 U m Apn pn.length cp pn W (HV.out W hb) (HPP.out W hb) UFF.out.uf.hm U2.out (fun x hx=>UFF.out.vz x hx) PX.out)
 go_wp2_with fail
 refine (len9_any b U m w5 (HU.out w5 (Below.refl _ _)).up).mono ?_
 rintro e w6 ⟨rfl,rfl⟩
 go_wp2_with fail
 refine (set11_any Al l.length cl l U.length w5 (HLL.out w5 (Below.refl _ _)) (by have:=UL.out;omega)).mono ?_
 rintro e w6 ⟨⟨As,cs,rfl,hrs⟩,hb⟩
 have C6:=Lib.hid hb
 have RS:=Lib.hid (fun (W:World) (hx:Below w6.heap.size w6 W)=>(rdInts_good.up (rdInts_good.below hrs hx) hx.size:rdInts W (lt_ W.heap.size) (setL l U.length) [.slice As (setL l U.length).length cs]))
 have SL:=Lib.hid (show (setL l U.length).length≤1000 from Nat.le_trans (setL_len10 l U.length) (by have:=UL.out;omega))
 have hl1000:l.length≤1000:=by omega
 clear hb hrs
 generalize setL l U.length=s at *
 have KP1:=Lib.hid (fun (W:World) (hx:Below w6.heap.size w6 W)=>KOP.out As cs s SL.out W (bel_in C6.out hx) (RS.out W hx))
 have KD1:=Lib.hid (fun (W:World) (hx:Below w6.heap.size w6 W)=>KOD.out As cs s SL.out W (bel_in C6.out hx) (RS.out W hx))
 have KP2:=Lib.hid (fun (W:World) (hx:Below w6.heap.size w6 W)=>KOP.out Al cl l hl1000 W (bel_in C6.out hx) (HLL.out W (bel_in C6.out hx)))
 have KD2:=Lib.hid (fun (W:World) (hx:Below w6.heap.size w6 W)=>KOD.out Al cl l hl1000 W (bel_in C6.out hx) (HLL.out W (bel_in C6.out hx)))
 have KT1:=Lib.hid (fun (W:World) (hx:Below w6.heap.size w6 W)=>KTP.out As cs s SL.out W (bel_in C6.out hx) (RS.out W hx))
 have KT2:=Lib.hid (fun (W:World) (hx:Below w6.heap.size w6 W)=>KTD.out As cs s SL.out W (bel_in C6.out hx) (RS.out W hx))
 have KT3:=Lib.hid (fun (W:World) (hx:Below w6.heap.size w6 W)=>KTP.out Al cl l hl1000 W (bel_in C6.out hx) (HLL.out W (bel_in C6.out hx)))
 have KT4:=Lib.hid (fun (W:World) (hx:Below w6.heap.size w6 W)=>KTD.out Al cl l hl1000 W (bel_in C6.out hx) (HLL.out W (bel_in C6.out hx)))
 clear KOP KOD KTP KTD RS
 generalize ofA U (insU U m) pn up s=x1 at *
 generalize ofA U (insU U m) pn up l=x2 at *
 generalize ofE U pn s=e1 at *
 generalize ofE U pn l=e2 at *
 generalize wgA U (insU U m) pn up=wg at *
 generalize wgE pn=we at *
 generalize wnt U s=t1 at *
 generalize wnt U l=t2 at *
 generalize bhd U (insU U m) pn tn=bh at *
 generalize alw U (insU U m) pn=may at *
 obtain ⟨x1a,x1b,x1c,x1d,x1e⟩:=x1
 obtain ⟨x2a,x2b,x2c,x2d,x2e⟩:=x2
 simp only [C5.val] at KP1 KD1 KP2 KD2
 go_wp2_with fail
 refine (KP1.out w6 (Below.refl _ _)).mono ?_
 rintro e y1 ⟨rfl,hb⟩
 obtain ⟨V1,hV1⟩:∃V,V=y1.alloc (.cells #[.int .i64 x1a,.int .i64 x1b,.int .i64 x1c,.int .i64 x1d,.int .i64 x1e] 39):=⟨_,rfl⟩
 have bv1:Below y1.heap.size y1 V1:=by rw [hV1];exact (Below.refl _ y1).alloc (Nat.le_refl _) _
 have D1:=Lib.hid (bel_in (Below.refl _ _) (bel_in hb bv1))
 have F1:=Lib.hid (bel_in hb bv1)
 have c1:V1.cell? ⟨y1.heap.size,0,none⟩=some (.int .i64 x1a)∧V1.cell? ⟨y1.heap.size,1,none⟩=some (.int .i64 x1b)∧V1.cell? ⟨y1.heap.size,2,none⟩=some (.int .i64 x1c)∧V1.cell? ⟨y1.heap.size,3,none⟩=some (.int .i64 x1d)∧V1.cell? ⟨y1.heap.size,4,none⟩=some (.int .i64 x1e):=by
  rw [hV1];refine ⟨?_,?_,?_,?_,?_⟩<;>simp [go_sem]
 have KX1:=Lib.hid (fun (W:World) (hx:Below V1.heap.size V1 W)=>(show W.cell? ⟨y1.heap.size,0,none⟩=some (.int .i64 x1a)∧W.cell? ⟨y1.heap.size,1,none⟩=some (.int .i64 x1b)∧W.cell? ⟨y1.heap.size,2,none⟩=some (.int .i64 x1c)∧W.cell? ⟨y1.heap.size,3,none⟩=some (.int .i64 x1d)∧W.cell? ⟨y1.heap.size,4,none⟩=some (.int .i64 x1e) from ⟨keep6 hx c1.1,keep6 hx c1.2.1,keep6 hx c1.2.2.1,keep6 hx c1.2.2.2.1,keep6 hx c1.2.2.2.2⟩))
 go_upto_region 12 with fail
 rw [←hV1]
 clear hV1 hb bv1 c1
 generalize y1.heap.size=p1 at *
 go_wp2_with fail
 refine (KD1.out V1 D1.out).mono ?_
 rintro e y2 ⟨rfl,hb⟩
 obtain ⟨V2,hV2⟩:∃V,V=y2.alloc (.cells #[.int .i64 x1a,.int .i64 x1b,.int .i64 x1c,.int .i64 x1d,.int .i64 x1e] 39):=⟨_,rfl⟩
 have bv2:Below y2.heap.size y2 V2:=by rw [hV2];exact (Below.refl _ y2).alloc (Nat.le_refl _) _
 have D2:=Lib.hid (bel_in D1.out (bel_in hb bv2))
 have F2:=Lib.hid (bel_in hb bv2)
 have c2:V2.cell? ⟨y2.heap.size,0,none⟩=some (.int .i64 x1a)∧V2.cell? ⟨y2.heap.size,1,none⟩=some (.int .i64 x1b)∧V2.cell? ⟨y2.heap.size,2,none⟩=some (.int .i64 x1c)∧V2.cell? ⟨y2.heap.size,3,none⟩=some (.int .i64 x1d)∧V2.cell? ⟨y2.heap.size,4,none⟩=some (.int .i64 x1e):=by
  rw [hV2];refine ⟨?_,?_,?_,?_,?_⟩<;>simp [go_sem]
 have KX2:=Lib.hid (fun (W:World) (hx:Below V2.heap.size V2 W)=>(show W.cell? ⟨y2.heap.size,0,none⟩=some (.int .i64 x1a)∧W.cell? ⟨y2.heap.size,1,none⟩=some (.int .i64 x1b)∧W.cell? ⟨y2.heap.size,2,none⟩=some (.int .i64 x1c)∧W.cell? ⟨y2.heap.size,3,none⟩=some (.int .i64 x1d)∧W.cell? ⟨y2.heap.size,4,none⟩=some (.int .i64 x1e) from ⟨keep6 hx c2.1,keep6 hx c2.2.1,keep6 hx c2.2.2.1,keep6 hx c2.2.2.2.1,keep6 hx c2.2.2.2.2⟩))
 go_upto_region 13 with fail
 rw [←hV2]
 clear hV2 hb bv2 c2
 generalize y2.heap.size=p2 at *
 go_wp2_with fail
 refine (KP2.out V2 D2.out).mono ?_
 rintro e y3 ⟨rfl,hb⟩
 obtain ⟨V3,hV3⟩:∃V,V=y3.alloc (.cells #[.int .i64 x2a,.int .i64 x2b,.int .i64 x2c,.int .i64 x2d,.int .i64 x2e] 39):=⟨_,rfl⟩
 have bv3:Below y3.heap.size y3 V3:=by rw [hV3];exact (Below.refl _ y3).alloc (Nat.le_refl _) _
 have D3:=Lib.hid (bel_in D2.out (bel_in hb bv3))
 have F3:=Lib.hid (bel_in hb bv3)
 have c3:V3.cell? ⟨y3.heap.size,0,none⟩=some (.int .i64 x2a)∧V3.cell? ⟨y3.heap.size,1,none⟩=some (.int .i64 x2b)∧V3.cell? ⟨y3.heap.size,2,none⟩=some (.int .i64 x2c)∧V3.cell? ⟨y3.heap.size,3,none⟩=some (.int .i64 x2d)∧V3.cell? ⟨y3.heap.size,4,none⟩=some (.int .i64 x2e):=by
  rw [hV3];refine ⟨?_,?_,?_,?_,?_⟩<;>simp [go_sem]
 have KX3:=Lib.hid (fun (W:World) (hx:Below V3.heap.size V3 W)=>(show W.cell? ⟨y3.heap.size,0,none⟩=some (.int .i64 x2a)∧W.cell? ⟨y3.heap.size,1,none⟩=some (.int .i64 x2b)∧W.cell? ⟨y3.heap.size,2,none⟩=some (.int .i64 x2c)∧W.cell? ⟨y3.heap.size,3,none⟩=some (.int .i64 x2d)∧W.cell? ⟨y3.heap.size,4,none⟩=some (.int .i64 x2e) from ⟨keep6 hx c3.1,keep6 hx c3.2.1,keep6 hx c3.2.2.1,keep6 hx c3.2.2.2.1,keep6 hx c3.2.2.2.2⟩))
 go_upto_region 14 with fail
 rw [←hV3]
 clear hV3 hb bv3 c3
 generalize y3.heap.size=p3 at *
 go_wp2_with fail
 refine (KD2.out V3 D3.out).mono ?_
 rintro e y4 ⟨rfl,hb⟩
 obtain ⟨V4,hV4⟩:∃V,V=y4.alloc (.cells #[.int .i64 x2a,.int .i64 x2b,.int .i64 x2c,.int .i64 x2d,.int .i64 x2e] 39):=⟨_,rfl⟩
 have bv4:Below y4.heap.size y4 V4:=by rw [hV4];exact (Below.refl _ y4).alloc (Nat.le_refl _) _
 have D4:=Lib.hid (bel_in D3.out (bel_in hb bv4))
 have F4:=Lib.hid (bel_in hb bv4)
 have c4:V4.cell? ⟨y4.heap.size,0,none⟩=some (.int .i64 x2a)∧V4.cell? ⟨y4.heap.size,1,none⟩=some (.int .i64 x2b)∧V4.cell? ⟨y4.heap.size,2,none⟩=some (.int .i64 x2c)∧V4.cell? ⟨y4.heap.size,3,none⟩=some (.int .i64 x2d)∧V4.cell? ⟨y4.heap.size,4,none⟩=some (.int .i64 x2e):=by
  rw [hV4];refine ⟨?_,?_,?_,?_,?_⟩<;>simp [go_sem]
 have KX4:=Lib.hid (fun (W:World) (hx:Below V4.heap.size V4 W)=>(show W.cell? ⟨y4.heap.size,0,none⟩=some (.int .i64 x2a)∧W.cell? ⟨y4.heap.size,1,none⟩=some (.int .i64 x2b)∧W.cell? ⟨y4.heap.size,2,none⟩=some (.int .i64 x2c)∧W.cell? ⟨y4.heap.size,3,none⟩=some (.int .i64 x2d)∧W.cell? ⟨y4.heap.size,4,none⟩=some (.int .i64 x2e) from ⟨keep6 hx c4.1,keep6 hx c4.2.1,keep6 hx c4.2.2.1,keep6 hx c4.2.2.2.1,keep6 hx c4.2.2.2.2⟩))
 go_upto_region 15 with fail
 rw [←hV4]
 clear hV4 hb bv4 c4
 generalize y4.heap.size=p4 at *
 go_wp2_with fail
 refine (KWP.out V4 (bel_in C6.out D4.out)).mono ?_
 rintro e w7 ⟨⟨Aw,cw,rfl,hrw⟩,hb⟩
 have D7:=Lib.hid (bel_in D4.out hb)
 have G7:=Lib.hid hb
 have RW:=Lib.hid (fun (W:World) (hx:Below w7.heap.size w7 W)=>(rdCs_good.up (rdCs_good.below hrw hx) hx.size:rdCs W (lt_ W.heap.size) wg [.slice Aw wg.length cw]))
 clear hb hrw
 go_wp2_with fail
 refine (KWD.out w7 (bel_in C6.out D7.out)).mono ?_
 rintro e w8 ⟨⟨Ax,cx,rfl,hrx⟩,hb⟩
 have D8:=Lib.hid (bel_in D7.out hb)
 have G8:=Lib.hid (bel_in G7.out hb)
 have KSC:=Lib.hid (sameCosts11_any Aw Ax wg.length cw wg.length cx wg wg w8 (RW.out w8 hb) hrx)
 rw [decide_eq_true rfl] at KSC
 clear hb hrx RW KWP KWD
 have heq1:∀W,(Op.equalIn 10000 39 (.agg #[.int .i64 x1a,.int .i64 x1b,.int .i64 x1c,.int .i64 x1d,.int .i64 x1e]) (.agg #[.int .i64 x1a,.int .i64 x1b,.int .i64 x1c,.int .i64 x1d,.int .i64 x1e])).run Tryz.prog W=.ok true W:=fun W=>by have:=eqC_any ⟨x1a,x1b,x1c,x1d,x1e⟩ ⟨x1a,x1b,x1c,x1d,x1e⟩ W;rwa [decide_eq_true rfl] at this
 have heq2:∀W,(Op.equalIn 10000 39 (.agg #[.int .i64 x2a,.int .i64 x2b,.int .i64 x2c,.int .i64 x2d,.int .i64 x2e]) (.agg #[.int .i64 x2a,.int .i64 x2b,.int .i64 x2c,.int .i64 x2d,.int .i64 x2e])).run Tryz.prog W=.ok true W:=fun W=>by have:=eqC_any ⟨x2a,x2b,x2c,x2d,x2e⟩ ⟨x2a,x2b,x2c,x2d,x2e⟩ W;rwa [decide_eq_true rfl] at this
 obtain ⟨a0,a1,a2,a3,a4⟩:=KX1.out w8 (bel_in F2.out (bel_in F3.out (bel_in F4.out G8.out)))
 obtain ⟨b0,b1,b2',b3,b4⟩:=KX2.out w8 (bel_in F3.out (bel_in F4.out G8.out))
 obtain ⟨d0,d1,d2,d3,d4⟩:=KX3.out w8 (bel_in F4.out G8.out)
 obtain ⟨f0,f1,f2,f3,f4⟩:=KX4.out w8 G8.out
 have te1:(e1 != e1)=false:=by simp
 have te2:(e2 != e2)=false:=by simp
 have tew:(we != we)=false:=by simp
 go_wp2_with fail
 refine KSC.out.mono ?_
 rintro e w9 ⟨rfl,hb⟩
 have D9:=Lib.hid (bel_in D8.out hb)
 clear hb KSC a0 a1 a2 a3 a4 b0 b1 b2' b3 b4 d0 d1 d2 d3 d4 f0 f1 f2 f3 f4
 go_wp2_with fail
 refine (KT1.out w9 D9.out).mono ?_
 rintro e wa ⟨rfl,hb⟩
 have Da:=Lib.hid (bel_in D9.out hb)
 clear hb
 go_wp2_with fail
 refine (KT2.out wa Da.out).mono ?_
 rintro e wb ⟨rfl,hb⟩
 have Db:=Lib.hid (bel_in Da.out hb)
 clear hb
 have tt1:(t1==t1)=true:=beq_self_eq_true _
 have tt2:(t2==t2)=true:=beq_self_eq_true _
 have ttb:(bh==bh)=true:=beq_self_eq_true _
 go_wp2_with fail
 refine (KT3.out wb Db.out).mono ?_
 rintro e wc ⟨rfl,hb⟩
 have Dc:=Lib.hid (bel_in Db.out hb)
 clear hb
 go_wp2_with fail
 refine (KT4.out wc Dc.out).mono ?_
 rintro e wd ⟨rfl,hb⟩
 have Dd:=Lib.hid (bel_in Dc.out hb)
 clear hb
 go_wp2_with fail
 refine (KBP.out wd (bel_in C6.out Dd.out)).mono ?_
 rintro e we1 ⟨rfl,hb⟩
 have De:=Lib.hid (bel_in Dd.out hb)
 clear hb
 go_wp2_with fail
 refine (KBD.out we1 (bel_in C6.out De.out)).mono ?_
 rintro e wf ⟨rfl,hb⟩
 have Df:=Lib.hid (bel_in De.out hb)
 clear hb
 go_wp2_with fail
 refine (KAP.out wf (bel_in C6.out Df.out)).mono ?_
 rintro e wg1 ⟨⟨Am,cm,rfl,hrm⟩,hb⟩
 have Dg:=Lib.hid (bel_in Df.out hb)
 have RM:=Lib.hid (fun (W:World) (hx:Below wg1.heap.size wg1 W)=>(rdInts_good.up (rdInts_good.below hrm hx) hx.size:rdInts W (lt_ W.heap.size) may [.slice Am may.length cm]))
 clear hb hrm
 go_wp2_with fail
 refine (KAD.out wg1 (bel_in C6.out Dg.out)).mono ?_
 rintro e wh ⟨⟨An,cn,rfl,hrn⟩,hb⟩
 have Dh:=Lib.hid (bel_in Dg.out hb)
 have KSI:=Lib.hid (sameInts11_any Am An may.length cm may.length cn may may wh (RM.out wh hb) hrn)
 rw [decide_eq_true rfl] at KSI
 clear hb hrn RM
 go_wp2_with fail
 refine KSI.out.mono ?_
 rintro e wi ⟨rfl,hd⟩
 have FIN:=Lib.hid (bel_in B6.out (bel_in C6.out (bel_in Dh.out (hd.below _))))
 clear hd KSI
 go_wp2
 go_ret
 exact ⟨by first|rfl|simp,FIN.out⟩
end Go.Proofs.YtpilmhoakopcaaaGreatDoor
