/- What the laws rest on: N11h. -/
import Derived.Test.YtpilmhoakopcaaaGreatDoorQAPZA
import Derived.Test.YtpilmhoakopcaaaGreatDoorQBIZA
import Derived.Test.YtpilmhoakopcaaaGreatDoorQBJZA
set_option maxRecDepth 100000
set_option linter.unusedVariables false
set_option linter.unusedSimpArgs false
namespace Go.Proofs.YtpilmhoakopcaaaGreatDoor
open Go.RowKit
theorem of_no {U:List Ent} {here:List Int} {pn:List Pn} {up:Bool} {l:List Int} (h:pn.all rgtN=false):ofE U pn l=1:=by
 unfold ofE;rw [if_neg fun c=>by rw [h] at c;exact absurd c.2 (by decide)]
theorem of_yes {U:List Ent} {here:List Int} {pn:List Pn} {up:Bool} {l:List Int} (h:pn.all rgtN=true) (hs:setB U.length l=true):ofE U pn l=0∧ofA U here pn up l=ofC U here pn up l:=by
 unfold ofE ofA;rw [if_pos ⟨hs,h⟩,if_pos ⟨hs,h⟩];exact ⟨rfl,rfl⟩
theorem stays_of {U:List Ent} {here:List Int} (hs:SetP U.length here) (pn:List Pn):ofC U here pn false here=⟨0,c1S U pn here,0,(wnS U here here:Int),0⟩∧ofC U here pn true here=⟨0,c1S U pn here,(here.map (bhd U here pn)).sum,(wnS U here here:Int),0⟩∧ofC U here pn false []=⟨(here.length:Int),0,0,0,0⟩:=by
 obtain ⟨h0,h2,h4⟩:=stays hs
 refine ⟨?_,?_,?_⟩
 ·unfold ofC;rw [h0,h2 pn,h4]
 ·unfold ofC;rw [h0,h4];rfl
 ·have:=none_costs (U:=U) (here:=here) (pn:=pn)
  unfold ofS at this
  simp only [List.cons.injEq,and_true] at this
  obtain ⟨q0,q1,q2,q3,q4⟩:=this
  unfold ofC
  rw [q0,q1,q2,q3,q4]
theorem set_nil (n:Nat):setB n []=true:=decide_eq_true ⟨fun p hp=>absurd hp List.not_mem_nil,List.Pairwise.nil⟩
set_option maxHeartbeats 32000000 in
theorem stays11 (A:Option Addr) (n0 c:Nat) (L:List Ent) (A':Option Addr) (n1 c':Nat) (m:List Hr) (Apn:Option Addr) (np cp:Nat) (pn:List Pn) (w:World) (h:rdEnts w (lt_ w.heap.size) L [.slice A n0 c]) (h':rdHrs w (lt_ w.heap.size) m [.slice A' n1 c']) (hpn:rdPns w (lt_ w.heap.size) pn [.slice Apn np cp]) (E:EnvR w) :
  Calls Tryz.prog 5 #[.slice A n0 c,.slice A' n1 c',.slice Apn np cp] w fun e w'=>e=.returned (.bool true)∧Below w.heap.size w w':=by
 obtain ⟨rfl,hnc,hcm,-⟩:=rdEnts_at h
 obtain ⟨rfl,hnc',hcm',-⟩:=rdHrs_at h'
 have hcx:c≤9223372036854775807:=hcm
 have hcy:c'≤9223372036854775807:=hcm'
 have HE:=Lib.hid E
 have H:=Lib.hid (fun (W:World) (hb:Below w.heap.size w W)=>(rdEnts_good.up (rdEnts_good.below h hb) hb.size:rdEnts W (lt_ W.heap.size) L [.slice A L.length c]))
 have H':=Lib.hid (fun (W:World) (hb:Below w.heap.size w W)=>(rdHrs_good.up (rdHrs_good.below h' hb) hb.size:rdHrs W (lt_ W.heap.size) m [.slice A' m.length c']))
 obtain ⟨rfl,hpnc,hpnm,-⟩:=rdPns_at hpn
 have hpnx:cp≤9223372036854775807:=hpnm
 have HP:=Lib.hid (fun (W:World) (hb:Below w.heap.size w W)=>(rdPns_good.up (rdPns_good.below hpn hb) hb.size:rdPns W (lt_ W.heap.size) pn [.slice Apn pn.length cp]))
 clear h h' hcm hcm' E hpn hpnm
 go_enter Tryz.func5,Tryz.ntmps5
 go_wp2_with fail
 refine (shown11_any w HE.out).mono ?_
 rintro e w1 ⟨rfl,hb⟩
 have B2:=Lib.hid hb
 clear hb
 go_wp2_with fail
 refine (small11_any A L.length c L A' m.length c' m w1 (H.out w1 B2.out) (H'.out w1 B2.out)).mono ?_
 rintro e w3 ⟨⟨ok,rfl,hfw⟩,hb⟩
 have B4:=Lib.hid (bel_in B2.out hb)
 clear hb
 go_wp2_with fail
 refine (wishes11_any Apn pn.length cp pn w3 (HP.out w3 B4.out)).mono ?_
 rintro e w2 ⟨⟨ok2,rfl,hask⟩,rfl⟩
 cases ok
 ·go_wp2
  go_ret
  exact ⟨rfl,B4.out⟩
 have FW:=Lib.hid (hfw rfl)
 clear hfw
 cases ok2
 ·go_wp2
  go_ret
  exact ⟨rfl,B4.out⟩
 have PK:=Lib.hid (hask rfl)
 clear hask
 have KN:=Lib.hid (new9_any A L.length c L A' m.length c' m w3 (H.out w3 B4.out) (H'.out w3 B4.out) (fun x hx=>(FW.out.1.2 x hx).sz) (fun y hy=>(FW.out.2.2 y hy).sz) (HE.out.below B4.out))
 go_wp2_with fail
 refine KN.out.mono ?_
 rintro e w4 ⟨hnr,hb⟩
 have B5:=Lib.hid (bel_in B4.out hb)
 clear hb KN
 by_cases hboth:L.all rgtE=true∧rightH m=true
 rotate_left
 ·obtain rfl:=hnr.1 hboth
  clear hboth hnr
  go_wp2
  go_ret
  exact ⟨rfl,B5.out⟩
 by_cases hmany:64 < (entU L (m.map fun y=>y.e)).length
 ·obtain rfl:=hnr.2.1 hboth hmany
  clear hboth hnr hmany
  go_wp2
  go_ret
  exact ⟨rfl,B5.out⟩
 obtain ⟨b,rfl,hup⟩:=hnr.2.2 hboth hmany
 have UFF:=Lib.hid (uk_of hboth FW.out hmany)
 generalize entU L (m.map fun y=>y.e)=U at *
 have HU:=Lib.hid (fun (W:World) (hb:Below w4.heap.size w4 W)=>(UFF.out.uf.uq hup).below hb)
 have HEU:=Lib.hid (fun (W:World) (hb:Below w4.heap.size w4 W)=>HE.out.below (bel_in B5.out hb))
 clear hnr hboth hmany hup
 have SI:=UFF.out.ins
 have SB:=Lib.hid (show setB U.length (insU U m)=true from decide_eq_true SI)
 have SO:=Lib.hid (stays_of SI pn)
 have HLN:=Lib.hid (show (insU U m).length≤30 by unfold insU;rw [List.length_map];exact FW.out.2.1)
 have UL:=Lib.hid UFF.out.uf.len
 have HPN:=Lib.hid (fun (W:World) (hb:Below w4.heap.size w4 W)=>HP.out W (bel_in B5.out hb))
 have KI:=Lib.hid (inst9_any b U m w4 (HU.out w4 (Below.refl _ _)).up (HU.out w4 (Below.refl _ _)).hm (HU.out w4 (Below.refl _ _)).hz)
 have KO:=Lib.hid (fun (up:Bool) (Aq:Option Addr) (cq:Nat) (q:List Int) (hq:q.length≤1000) (W:World) (hb:Below w4.heap.size w4 W) hrq=>cof_any b U m Apn pn.length cp pn up Aq q.length cq q W (HU.out W hb) UFF.out (HPN.out W hb) hrq hq (HEU.out W hb))
 have KB:=Lib.hid (fun (p:Int) (W:World) (hb:Below w4.heap.size w4 W)=>cbehind_any b U m Apn pn.length cp pn p W (HU.out W hb) (HPN.out W hb) UFF.out.uf.nm)
 have BSM:=Lib.hid (fun (k:Nat)=>show 0≤(((insU U m).take k).map (bhd U (insU U m) pn)).sum∧(((insU U m).take k).map (bhd U (insU U m) pn)).sum≤100000 from by
  have:=sum_up (f:=bhd U (insU U m) pn) (M:=64) (l:=(insU U m).take k) fun x _=>⟨bhd_ge U (insU U m) pn x,by have:=bhd_le (U:=U) (here:=insU U m) (pn:=pn) x;have:=UL.out;omega⟩
  have h2:((insU U m).take k).length≤(insU U m).length:=by rw [List.length_take];omega
  have h4:=HLN.out
  have h3:((insU U m).take k).length*64≤30*64:=Nat.mul_le_mul_right _ (by omega)
  omega)
 have EN:=Lib.hid (fun (up:Bool) (l:List Int)=>of_no (U:=U) (here:=insU U m) (pn:=pn) (up:=up) (l:=l))
 have EY:=Lib.hid (fun (up:Bool) (l:List Int)=>of_yes (U:=U) (here:=insU U m) (pn:=pn) (up:=up) (l:=l))
 have BST:=Lib.hid (fun (k:Nat) (hk:k < (insU U m).length)=>sum_take (f:=bhd U (insU U m) pn) hk)
 generalize hhere:insU U m=here at *
 clear hhere SI
 go_wp2_with fail
 refine KI.out.mono ?_
 rintro e w5 ⟨⟨Ai,ci,rfl,hri⟩,hb⟩
 have CC5:=Lib.hid hb
 obtain ⟨-,hic,him,-⟩:=rdInts_at hri
 have him':ci≤9223372036854775807:=him
 have HI:=Lib.hid (fun (W:World) (hx:Below w5.heap.size w5 W)=>(rdInts_good.up (rdInts_good.below hri hx) hx.size:rdInts W (lt_ W.heap.size) here [.slice Ai here.length ci]))
 clear hb hri him KI
 go_wp2_with fail
 refine (KO.out false Ai ci here (by have:=HLN.out;omega) w5 (bel_in CC5.out (Below.refl _ _)) (HI.out w5 (Below.refl _ _))).mono ?_
 rintro e y1 ⟨rfl,hb⟩
 obtain ⟨x1,hx1⟩:∃x:C5,x=ofA U here pn false here:=⟨_,rfl⟩
 rw [←hx1]
 have X1:=Lib.hid hx1
 clear hx1
 obtain ⟨V1,hV1⟩:∃V,V=y1.alloc (.cells #[.int .i64 x1.a,.int .i64 x1.b,.int .i64 x1.c,.int .i64 x1.d,.int .i64 x1.e] 39):=⟨_,rfl⟩
 have bv1:Below y1.heap.size y1 V1:=by rw [hV1];exact (Below.refl _ y1).alloc (Nat.le_refl _) _
 have D1:=Lib.hid (bel_in (Below.refl _ _) (bel_in hb bv1))
 have F1:=Lib.hid (bel_in hb bv1)
 have c1:V1.cell? ⟨y1.heap.size,0,none⟩=some (.int .i64 x1.a)∧V1.cell? ⟨y1.heap.size,1,none⟩=some (.int .i64 x1.b)∧V1.cell? ⟨y1.heap.size,2,none⟩=some (.int .i64 x1.c)∧V1.cell? ⟨y1.heap.size,3,none⟩=some (.int .i64 x1.d)∧V1.cell? ⟨y1.heap.size,4,none⟩=some (.int .i64 x1.e):=by
  rw [hV1];refine ⟨?_,?_,?_,?_,?_⟩<;>simp [go_sem]
 have KX1:=Lib.hid (fun (W:World) (hx:Below V1.heap.size V1 W)=>(show W.cell? ⟨y1.heap.size,0,none⟩=some (.int .i64 x1.a)∧W.cell? ⟨y1.heap.size,1,none⟩=some (.int .i64 x1.b)∧W.cell? ⟨y1.heap.size,2,none⟩=some (.int .i64 x1.c)∧W.cell? ⟨y1.heap.size,3,none⟩=some (.int .i64 x1.d)∧W.cell? ⟨y1.heap.size,4,none⟩=some (.int .i64 x1.e) from ⟨keep6 hx c1.1,keep6 hx c1.2.1,keep6 hx c1.2.2.1,keep6 hx c1.2.2.2.1,keep6 hx c1.2.2.2.2⟩))
 go_upto_region 11 with fail
 rw [←hV1]
 clear hV1 hb bv1 c1
 generalize y1.heap.size=p1 at *
 go_wp2_with fail
 refine (KO.out true Ai ci here (by have:=HLN.out;omega) V1 (bel_in CC5.out D1.out) (HI.out V1 D1.out)).mono ?_
 rintro e y2 ⟨rfl,hb⟩
 obtain ⟨x2,hx2⟩:∃x:C5,x=ofA U here pn true here:=⟨_,rfl⟩
 rw [←hx2]
 have X2:=Lib.hid hx2
 clear hx2
 obtain ⟨V2,hV2⟩:∃V,V=y2.alloc (.cells #[.int .i64 x2.a,.int .i64 x2.b,.int .i64 x2.c,.int .i64 x2.d,.int .i64 x2.e] 39):=⟨_,rfl⟩
 have bv2:Below y2.heap.size y2 V2:=by rw [hV2];exact (Below.refl _ y2).alloc (Nat.le_refl _) _
 have D2:=Lib.hid (bel_in D1.out (bel_in hb bv2))
 have F2:=Lib.hid (bel_in hb bv2)
 have c2:V2.cell? ⟨y2.heap.size,0,none⟩=some (.int .i64 x2.a)∧V2.cell? ⟨y2.heap.size,1,none⟩=some (.int .i64 x2.b)∧V2.cell? ⟨y2.heap.size,2,none⟩=some (.int .i64 x2.c)∧V2.cell? ⟨y2.heap.size,3,none⟩=some (.int .i64 x2.d)∧V2.cell? ⟨y2.heap.size,4,none⟩=some (.int .i64 x2.e):=by
  rw [hV2];refine ⟨?_,?_,?_,?_,?_⟩<;>simp [go_sem]
 have KX2:=Lib.hid (fun (W:World) (hx:Below V2.heap.size V2 W)=>(show W.cell? ⟨y2.heap.size,0,none⟩=some (.int .i64 x2.a)∧W.cell? ⟨y2.heap.size,1,none⟩=some (.int .i64 x2.b)∧W.cell? ⟨y2.heap.size,2,none⟩=some (.int .i64 x2.c)∧W.cell? ⟨y2.heap.size,3,none⟩=some (.int .i64 x2.d)∧W.cell? ⟨y2.heap.size,4,none⟩=some (.int .i64 x2.e) from ⟨keep6 hx c2.1,keep6 hx c2.2.1,keep6 hx c2.2.2.1,keep6 hx c2.2.2.2.1,keep6 hx c2.2.2.2.2⟩))
 go_upto_region 12 with fail
 rw [←hV2]
 clear hV2 hb bv2 c2
 generalize y2.heap.size=p2 at *
 go_wp2_with fail
 refine (KO.out false none 0 [] (by simp) V2 (bel_in CC5.out D2.out) (rdRow_nil _ _)).mono ?_
 rintro e y3 ⟨rfl,hb⟩
 obtain ⟨x3,hx3⟩:∃x:C5,x=ofA U here pn false []:=⟨_,rfl⟩
 rw [←hx3]
 have X3:=Lib.hid hx3
 clear hx3
 obtain ⟨V3,hV3⟩:∃V,V=y3.alloc (.cells #[.int .i64 x3.a,.int .i64 x3.b,.int .i64 x3.c,.int .i64 x3.d,.int .i64 x3.e] 39):=⟨_,rfl⟩
 have bv3:Below y3.heap.size y3 V3:=by rw [hV3];exact (Below.refl _ y3).alloc (Nat.le_refl _) _
 have D3:=Lib.hid (bel_in D2.out (bel_in hb bv3))
 have F3:=Lib.hid (bel_in hb bv3)
 have c3:V3.cell? ⟨y3.heap.size,0,none⟩=some (.int .i64 x3.a)∧V3.cell? ⟨y3.heap.size,1,none⟩=some (.int .i64 x3.b)∧V3.cell? ⟨y3.heap.size,2,none⟩=some (.int .i64 x3.c)∧V3.cell? ⟨y3.heap.size,3,none⟩=some (.int .i64 x3.d)∧V3.cell? ⟨y3.heap.size,4,none⟩=some (.int .i64 x3.e):=by
  rw [hV3];refine ⟨?_,?_,?_,?_,?_⟩<;>simp [go_sem]
 have KX3:=Lib.hid (fun (W:World) (hx:Below V3.heap.size V3 W)=>(show W.cell? ⟨y3.heap.size,0,none⟩=some (.int .i64 x3.a)∧W.cell? ⟨y3.heap.size,1,none⟩=some (.int .i64 x3.b)∧W.cell? ⟨y3.heap.size,2,none⟩=some (.int .i64 x3.c)∧W.cell? ⟨y3.heap.size,3,none⟩=some (.int .i64 x3.d)∧W.cell? ⟨y3.heap.size,4,none⟩=some (.int .i64 x3.e) from ⟨keep6 hx c3.1,keep6 hx c3.2.1,keep6 hx c3.2.2.1,keep6 hx c3.2.2.2.1,keep6 hx c3.2.2.2.2⟩))
 go_upto_region 13 with fail
 rw [←hV3]
 clear hV3 hb bv3 c3
 generalize y3.heap.size=p3 at *
 cases hrt:pn.all rgtN
 ·rw [EN.out false here hrt,EN.out false [] hrt]
  go_wp2
  go_ret
  exact ⟨rfl,bel_in B5.out (bel_in CC5.out D3.out)⟩
 obtain ⟨z1,z1'⟩:=EY.out false here hrt SB.out
 obtain ⟨z2,z2'⟩:=EY.out true here hrt SB.out
 obtain ⟨z3,z3'⟩:=EY.out false [] hrt (set_nil _)
 rw [z1,z3]
 obtain ⟨o1,o2,o3⟩:=SO.out
 have Y1:=Lib.hid (X1.out.trans (z1'.trans o1))
 have Y2:=Lib.hid (X2.out.trans (z2'.trans o2))
 have Y3:=Lib.hid (X3.out.trans (z3'.trans o3))
 clear z1 z2 z3 z1' z2' z3' o1 o2 o3 X1 X2 X3 hrt SO EN EY
 have F13:=Lib.hid (bel_in F2.out F3.out)
 generalize c1S U pn here=A1 at *
 generalize ((wnS U here here:Nat):Int)=WN at *
 have ZS:=Lib.hid (show ((here.take 0).map (bhd U here pn)).sum=0 from rfl)
 have ALL:=Lib.hid (show (here.map (bhd U here pn)).sum=((here.take here.length).map (bhd U here pn)).sum by rw [List.take_length])
 generalize (here.map (bhd U here pn)).sum=SBH at *
 go_wp2
 go_loopw [19,20] (fun v i wr=>∃k:Nat,k≤here.length∧i=.int .i64 k∧v=.int .i64 ((here.take k).map (bhd U here pn)).sum∧Below V3.heap.size V3 wr) (fun _ i _=>here.length - (intOf i).toNat)
 case atStart=>exact ⟨0,Nat.zero_le _,rfl,by rw [ZS.out],Below.refl _ _⟩
 case round=>
  obtain ⟨k,hk,rfl,rfl,hbel⟩:=hrel
  have HB:=Lib.hid hbel
  have HBW:=Lib.hid (bel_in D3.out hbel)
  clear hbel
  obtain ⟨s1,s2⟩:=BSM.out k
  by_cases hlt:k < here.length
  ·obtain ⟨ad,rfl,-,c0⟩:=(rdInts_at (HI.out wr HBW.out)).2.2.2 k hlt
   have i0:(0:Int)≤(k:Int):=by omega
   have i1:(k:Int) < (here.length:Int):=by omega
   have T:=Lib.hid (BST.out k hlt)
   obtain ⟨g1,g2⟩:=BSM.out (k+1)
   have KBk:=Lib.hid (KB.out here[k] wr (bel_in CC5.out HBW.out))
   generalize hn:((here.take (k+1)).map (bhd U here pn)).sum=n1 at *
   have GN:=Lib.hid hn
   clear hn
   generalize ((here.take k).map (bhd U here pn)).sum=m1 at *
   generalize here[k]=p at *
   generalize bhd U here pn p=bh at *
   have t1:m1+bh=n1:=T.out.symm
   go_wp2_with fail
   refine KBk.out.mono ?_
   rintro e w8 ⟨rfl,hb⟩
   have H8:=Lib.hid (bel_in HB.out hb)
   clear hb c0 KBk
   go_wp2
   go_roundw
   case rel=>exact ⟨k+1,by omega,by go_num,by rw [GN.out],H8.out⟩
   case measure=>simp [intOf];omega
  ·obtain rfl:k=here.length:=by omega
   have j0:¬(here.length:Int) < (here.length:Int):=by omega
   rw [←ALL.out] at *
   obtain ⟨a0,a1,a2,a3,a4⟩:=KX1.out wr (bel_in F13.out HB.out)
   obtain ⟨b0,b1,b2,b3,b4⟩:=KX2.out wr (bel_in F3.out HB.out)
   obtain ⟨d0,d1,d2,d3,d4⟩:=KX3.out wr HB.out
   have FIN:=Lib.hid (bel_in B5.out (bel_in CC5.out HBW.out))
   rw [Y1.out] at a0 a1 a2 a3 a4
   rw [Y2.out] at b0 b1 b2 b3 b4
   rw [Y3.out] at d0 d1 d2 d3 d4
   simp only at a0 a1 a2 a3 a4 b0 b1 b2 b3 b4 d0 d1 d2 d3 d4
   have heq:∀W,(Op.equalIn 10000 39 (.agg #[.int .i64 (here.length:Int),.int .i64 0,.int .i64 0,.int .i64 0,.int .i64 0]) (.agg #[.int .i64 (here.length:Int),.int .i64 0,.int .i64 0,.int .i64 0,.int .i64 0])).run Tryz.prog W=.ok true W:=fun W=>by have:=eqC_any ⟨(here.length:Int),0,0,0,0⟩ ⟨(here.length:Int),0,0,0,0⟩ W;rwa [decide_eq_true rfl] at this
   go_wp2
   go_ret
   exact ⟨by first|rfl|simp,FIN.out⟩
end Go.Proofs.YtpilmhoakopcaaaGreatDoor
