/- What the laws rest on: N11j. -/
import Derived.Test.YtpilmhoakopcaaaGreatDoorQAVZB
set_option maxRecDepth 100000
set_option linter.unusedVariables false
set_option linter.unusedSimpArgs false
namespace Go.Proofs.YtpilmhoakopcaaaGreatDoor
open Go.RowKit Go.Sort
theorem ofC_ge {U:List Ent} {here:List Int} {pn:List Pn} {up:Bool} {l:List Int}:0≤(ofC U here pn up l).a∧0≤(ofC U here pn up l).b∧0≤(ofC U here pn up l).c∧0≤(ofC U here pn up l).d∧0≤(ofC U here pn up l).e:=by
 have h:=ofS_ge (U:=U) (here:=here) (pn:=pn) (up:=up) (l:=l)
 refine ⟨h _ ?_,h _ ?_,h _ ?_,h _ ?_,h _ ?_⟩<;>simp [ofS,ofC]
theorem sums_eq {U:List Ent} {here:List Int} {pn:List Pn} {up:Bool} {s:List Int} (hU:Srt9 U) (hh:SetP U.length here) (hhn:NmB U here) (hs:SetP U.length s) (hadj:∀i (hi:i+1 < s.length),(entA U s[i+1]).n≠(entA U s[i]).n):b1K U pn s s.length=(ofC U here pn up s).b∧s2K U here pn up s s.length=(ofC U here pn up s).c∧s4K U here s s.length=(ofC U here pn up s).e:=by
 have nb:=nm_adj hU hs hadj
 refine ⟨?_,?_,?_⟩
 ·unfold b1K;rw [List.take_length];rfl
 ·unfold s2K;rw [List.take_length];exact w2_sum hU hh hhn hs nb
 ·unfold s4K;rw [List.take_length];exact w4_sum
set_option maxHeartbeats 32000000 in
theorem sums11 (A:Option Addr) (n0 c:Nat) (L:List Ent) (A':Option Addr) (n1 c':Nat) (m:List Hr) (Apn:Option Addr) (np cp:Nat) (pn:List Pn) (up:Bool) (Al:Option Addr) (nl cl:Nat) (l:List Int) (w:World) (h:rdEnts w (lt_ w.heap.size) L [.slice A n0 c]) (h':rdHrs w (lt_ w.heap.size) m [.slice A' n1 c']) (hpn:rdPns w (lt_ w.heap.size) pn [.slice Apn np cp]) (hl:rdInts w (lt_ w.heap.size) l [.slice Al nl cl]) (E:EnvR w) :
  Calls Tryz.prog 4 #[.slice A n0 c,.slice A' n1 c',.slice Apn np cp,.bool up,.slice Al nl cl] w fun e w'=>e=.returned (.bool true)∧Below w.heap.size w w':=by
 obtain ⟨rfl,hnc,hcm,-⟩:=rdEnts_at h
 obtain ⟨rfl,hnc',hcm',-⟩:=rdHrs_at h'
 have hcx:c≤9223372036854775807:=hcm
 have hcy:c'≤9223372036854775807:=hcm'
 have HE:=Lib.hid E
 have H:=Lib.hid (fun (W:World) (hb:Below w.heap.size w W)=>(rdEnts_good.up (rdEnts_good.below h hb) hb.size:rdEnts W (lt_ W.heap.size) L [.slice A L.length c]))
 have H':=Lib.hid (fun (W:World) (hb:Below w.heap.size w W)=>(rdHrs_good.up (rdHrs_good.below h' hb) hb.size:rdHrs W (lt_ W.heap.size) m [.slice A' m.length c']))
 obtain ⟨rfl,hpnc,hpnm,-⟩:=rdPns_at hpn
 have hpnx:cp≤9223372036854775807:=hpnm
 have HP:=Lib.hid (fun (W:World) (hb:Below w.heap.size w W)=>(rdPns_good.up (rdPns_good.below hpn hb) hb.size:rdPns W (lt_ W.heap.size) pn [.slice Apn pn.length cp]))
 obtain ⟨rfl,hlc,hlm,-⟩:=rdInts_at hl
 have hlx:cl≤9223372036854775807:=hlm
 have Hl:=Lib.hid (fun (W:World) (hb:Below w.heap.size w W)=>(rdInts_good.up (rdInts_good.below hl hb) hb.size:rdInts W (lt_ W.heap.size) l [.slice Al l.length cl]))
 clear h h' hcm hcm' E hpn hpnm hl hlm
 go_enter Tryz.func4,Tryz.ntmps4
 go_wp2_with fail
 refine (shown11_any w HE.out).mono ?_
 rintro e w1 ⟨rfl,hb⟩
 have B2:=Lib.hid hb
 clear hb
 go_wp2_with fail
 refine (small11_any A L.length c L A' m.length c' m w1 (H.out w1 B2.out) (H'.out w1 B2.out)).mono ?_
 rintro e w3 ⟨⟨ok,rfl,hfw⟩,hb⟩
 have B4:=Lib.hid (bel_in B2.out hb)
 clear hb
 go_wp2_with fail
 refine (wishes11_any Apn pn.length cp pn w3 (HP.out w3 B4.out)).mono ?_
 rintro e w2 ⟨⟨ok2,rfl,hask⟩,rfl⟩
 cases ok
 ·go_wp2
  go_ret
  exact ⟨rfl,B4.out⟩
 have FW:=Lib.hid (hfw rfl)
 clear hfw
 cases ok2
 ·go_wp2
  go_ret
  exact ⟨rfl,B4.out⟩
 have PK:=Lib.hid (hask rfl)
 clear hask
 by_cases hln:(100:Int) < (l.length:Int)
 ·have hln':100 < l.length:=by omega
  go_wp2
  go_ret
  exact ⟨rfl,B4.out⟩
 have hln':¬100 < l.length:=by omega
 have KN:=Lib.hid (new9_any A L.length c L A' m.length c' m w3 (H.out w3 B4.out) (H'.out w3 B4.out) (fun x hx=>(FW.out.1.2 x hx).sz) (fun y hy=>(FW.out.2.2 y hy).sz) (HE.out.below B4.out))
 go_wp2_with fail
 refine KN.out.mono ?_
 rintro e w4 ⟨hnr,hb⟩
 have B5:=Lib.hid (bel_in B4.out hb)
 clear hb KN
 by_cases hboth:L.all rgtE=true∧rightH m=true
 rotate_left
 ·obtain rfl:=hnr.1 hboth
  clear hboth hnr
  go_wp2
  go_ret
  exact ⟨rfl,B5.out⟩
 by_cases hmany:64 < (entU L (m.map fun y=>y.e)).length
 ·obtain rfl:=hnr.2.1 hboth hmany
  clear hboth hnr hmany
  go_wp2
  go_ret
  exact ⟨rfl,B5.out⟩
 obtain ⟨b,rfl,hup⟩:=hnr.2.2 hboth hmany
 have UFF:=Lib.hid (uk_of hboth FW.out hmany)
 generalize entU L (m.map fun y=>y.e)=U at *
 have HU:=Lib.hid (fun (W:World) (hb:Below w4.heap.size w4 W)=>(UFF.out.uf.uq hup).below hb)
 have HEU:=Lib.hid (fun (W:World) (hb:Below w4.heap.size w4 W)=>HE.out.below (bel_in B5.out hb))
 clear hnr hboth hmany hup
 have HPN:=Lib.hid (fun (W:World) (hb:Below w4.heap.size w4 W)=>HP.out W (bel_in B5.out hb))
 have UL:=Lib.hid UFF.out.uf.len
 have LE9:=Lib.hid (fun (W:World) (hb:Below w4.heap.size w4 W)=>len9_any b U m W (HU.out W hb).up)
 have KE:=Lib.hid (fun (W:World) (hb:Below w4.heap.size w4 W)=>entries9_any b U m W (HU.out W hb).up (by have:=UL.out;omega))
 have KO:=Lib.hid (fun (Aq:Option Addr) (cq:Nat) (q:List Int) (hq:q.length≤1000) (W:World) (hb:Below w4.heap.size w4 W) hrq=>cof_any b U m Apn pn.length cp pn up Aq q.length cq q W (HU.out W hb) UFF.out (HPN.out W hb) hrq hq (HEU.out W hb))
 have KW:=Lib.hid (fun (W:World) (hb:Below w4.heap.size w4 W)=>cwgt_any b U m Apn pn.length cp pn up W (HU.out W hb) (HPN.out W hb) UFF.out.ins UFF.out.one UFF.out.uf.nm)
 go_wp2_with fail
 refine (LE9.out w4 (Below.refl _ _)).mono ?_
 rintro e w5 ⟨rfl,rfl⟩
 go_wp2_with fail
 refine (set11_any Al l.length cl l U.length w4 (Hl.out w4 B5.out) (by have:=UL.out;omega)).mono ?_
 rintro e w6 ⟨⟨As,cs,rfl,hrs⟩,hb⟩
 have C6:=Lib.hid hb
 have RS:=Lib.hid (fun (W:World) (hx:Below w6.heap.size w6 W)=>(rdInts_good.up (rdInts_good.below hrs hx) hx.size:rdInts W (lt_ W.heap.size) (setL l U.length) [.slice As (setL l U.length).length cs]))
 obtain ⟨-,hsc,hsm,-⟩:=rdInts_at hrs
 have hsm':cs≤9223372036854775807:=hsm
 have SL:=Lib.hid (show (setL l U.length).length≤1000 from Nat.le_trans (setL_len10 l U.length) (by have:=UL.out;omega))
 have SS1:=Lib.hid (setL_set l U.length)
 clear hb hrs hsm
 generalize setL l U.length=s at *
 have KOs:=Lib.hid (KO.out As cs s SL.out w6 C6.out (RS.out w6 (Below.refl _ _)))
 have SB:=Lib.hid (show setB U.length s=true from decide_eq_true SS1.out)
 go_wp2_with fail
 refine KOs.out.mono ?_
 rintro e y1 ⟨rfl,hb⟩
 clear KOs KO
 have EE:=Lib.hid (show ofE U pn s=wgE pn from by
  unfold ofE wgE
  by_cases h:pn.all rgtN=true
  ·rw [if_pos ⟨SB.out,h⟩,if_pos h]
  ·rw [if_neg fun q=>h q.2,if_neg h])
 obtain ⟨x,hx⟩:∃x:C5,x=ofA U (insU U m) pn up s:=⟨_,rfl⟩
 rw [←hx,EE.out]
 have HXX:=Lib.hid hx
 clear hx
 obtain ⟨V1,hV1⟩:∃V,V=y1.alloc (.cells #[.int .i64 x.a,.int .i64 x.b,.int .i64 x.c,.int .i64 x.d,.int .i64 x.e] 39):=⟨_,rfl⟩
 have bv1:Below y1.heap.size y1 V1:=by rw [hV1];exact (Below.refl _ y1).alloc (Nat.le_refl _) _
 have D1:=Lib.hid (bel_in hb bv1)
 have c1:V1.cell? ⟨y1.heap.size,0,none⟩=some (.int .i64 x.a)∧V1.cell? ⟨y1.heap.size,1,none⟩=some (.int .i64 x.b)∧V1.cell? ⟨y1.heap.size,2,none⟩=some (.int .i64 x.c)∧V1.cell? ⟨y1.heap.size,3,none⟩=some (.int .i64 x.d)∧V1.cell? ⟨y1.heap.size,4,none⟩=some (.int .i64 x.e):=by
  rw [hV1];refine ⟨?_,?_,?_,?_,?_⟩<;>simp [go_sem]
 have KX:=Lib.hid (fun (W:World) (hx:Below V1.heap.size V1 W)=>(show W.cell? ⟨y1.heap.size,0,none⟩=some (.int .i64 x.a)∧W.cell? ⟨y1.heap.size,1,none⟩=some (.int .i64 x.b)∧W.cell? ⟨y1.heap.size,2,none⟩=some (.int .i64 x.c)∧W.cell? ⟨y1.heap.size,3,none⟩=some (.int .i64 x.d)∧W.cell? ⟨y1.heap.size,4,none⟩=some (.int .i64 x.e) from ⟨keep6 hx c1.1,keep6 hx c1.2.1,keep6 hx c1.2.2.1,keep6 hx c1.2.2.2.1,keep6 hx c1.2.2.2.2⟩))
 go_upto_region 11 with fail
 rw [←hV1]
 clear hV1 hb bv1 c1
 generalize y1.heap.size=p1 at *
 go_wp2_with fail
 refine (KW.out V1 (bel_in C6.out D1.out)).mono ?_
 rintro e w7 ⟨⟨Aw,cw,rfl,hrw⟩,hb⟩
 have D7:=Lib.hid (bel_in D1.out hb)
 have G7:=Lib.hid hb
 obtain ⟨-,hwc,hwm,-⟩:=rdCs_at hrw
 have hwm':cw≤9223372036854775807:=hwm
 have RW:=Lib.hid (fun (W:World) (hx:Below w7.heap.size w7 W)=>(rdCs_good.up (rdCs_good.below hrw hx) hx.size:rdCs W (lt_ W.heap.size) (wgA U (insU U m) pn up) [.slice Aw (wgA U (insU U m) pn up).length cw]))
 clear hb hrw hwm KW
 have twe:(wgE pn != wgE pn)=false:=by simp
 cases hrt:pn.all rgtN
 ·have X0:=Lib.hid (show x=zC by rw [HXX.out];unfold ofA;rw [if_neg fun q=>by rw [hrt] at q;exact absurd q.2 (by decide)])
  have WN:=Lib.hid (show wgA U (insU U m) pn up=[] by unfold wgA;rw [hrt];rfl)
  have WE:=Lib.hid (show wgE pn=1 by unfold wgE;rw [hrt];rfl)
  rw [WE.out,WN.out]
  obtain ⟨a0,a1,a2,a3,a4⟩:=KX.out w7 G7.out
  rw [X0.out] at a0 a1 a2 a3 a4
  simp only [zC] at a0 a1 a2 a3 a4
  have heq:∀W,(Op.equalIn 10000 39 (.agg #[.int .i64 0,.int .i64 0,.int .i64 0,.int .i64 0,.int .i64 0]) (.agg #[.int .i64 0,.int .i64 0,.int .i64 0,.int .i64 0,.int .i64 0])).run Tryz.prog W=.ok true W:=fun W=>by have:=eqC_any ⟨0,0,0,0,0⟩ ⟨0,0,0,0,0⟩ W;rwa [decide_eq_true rfl] at this
  go_wp2_with fail
  refine (LE9.out w7 (bel_in C6.out D7.out)).mono ?_
  rintro e w8 ⟨rfl,rfl⟩
  by_cases hU0:U.length=0
  ·have tu0:((0:Int) != (U.length:Int))=false:=by rw [hU0];rfl
   go_wp2
   go_ret
   exact ⟨by first|rfl|simp,bel_in B5.out (bel_in C6.out D7.out)⟩
  ·have tu0:((0:Int) != (U.length:Int))=true:=by rw [bne_iff_ne];omega
   go_wp2
   go_ret
   exact ⟨by first|rfl|simp,bel_in B5.out (bel_in C6.out D7.out)⟩
 have X0:=Lib.hid (show x=ofC U (insU U m) pn up s by rw [HXX.out];unfold ofA;rw [if_pos ⟨SB.out,hrt⟩])
 have WN:=Lib.hid (show wgA U (insU U m) pn up=wgCs U (insU U m) pn up by unfold wgA;rw [hrt];rfl)
 have WE:=Lib.hid (show wgE pn=0 by unfold wgE;rw [hrt];rfl)
 have WLC:=wgCs_len U (insU U m) pn up
 have rb1:=(rgt_bd hrt).1
 have L1:=Lib.hid (fun k=>b1K_le (U:=U) rb1 (l:=s) SL.out k)
 have L2:=Lib.hid (fun k=>s2K_le (U:=U) (here:=insU U m) (pn:=pn) (up:=up) (by have:=UL.out;omega) SL.out k)
 have L4:=Lib.hid (fun k=>s4K_le (U:=U) (here:=insU U m) (l:=s) SL.out k)
 have GE:=Lib.hid (ofC_ge (U:=U) (here:=insU U m) (pn:=pn) (up:=up) (l:=s))
 have EQS:=Lib.hid (fun hadj=>sums_eq (pn:=pn) (up:=up) UFF.out.uf.srt UFF.out.ins UFF.out.one SS1.out hadj)
 rw [←X0.out] at GE EQS
 rw [WE.out,WN.out,WLC]
 rw [WN.out,WLC] at RW hwc
 have tul:((U.length:Int) != (U.length:Int))=false:=by simp
 have hWA:=Lib.hid (fun (W:World) (hx:Below w7.heap.size w7 W)=>(rdCs_at (RW.out W hx)).2.2.2)
 generalize insU U m=here at *
 clear rb1 hrt HXX X0 EE twe RW
 go_wp2_with fail
 refine (LE9.out w7 (bel_in C6.out D7.out)).mono ?_
 rintro e w8 ⟨rfl,rfl⟩
 go_wp2_with fail
 refine (KE.out w7 (bel_in C6.out D7.out)).mono ?_
 rintro e w8 ⟨⟨Ae,ce,rfl,hre⟩,hb⟩
 have D8:=Lib.hid (bel_in D7.out hb)
 have G8:=Lib.hid hb
 have K8:=Lib.hid (bel_in G7.out hb)
 obtain ⟨-,hec,hem,-⟩:=rdEnts_at hre
 have hem':ce≤9223372036854775807:=hem
 have HEE:=Lib.hid (fun (W:World) (hx:Below w8.heap.size w8 W)=>(rdEnts_at (rdEnts_good.up (rdEnts_good.below hre hx) hx.size)).2.2.2)
 clear hb hre hem KE
 obtain ⟨W5,hW5⟩:∃W,W=w8.alloc (.cells #[.int .i64 0,.int .i64 0,.int .i64 0,.int .i64 0,.int .i64 0] 39):=⟨_,rfl⟩
 have b5:Below w8.heap.size w8 W5:=by rw [hW5];exact (Below.refl _ w8).alloc (Nat.le_refl _) _
 have BX5:=Lib.hid (show Bx W5 w8.heap.size W5 ⟨0,b1K U pn s 0,s2K U here pn up s 0,0,s4K U here s 0⟩ from ⟨Pst.refl _ _,by rw [hW5];exact heap_alloc_new w8 _⟩)
 have HB8:=Lib.hid (fun (W:World) (y:C5) (hx:Bx W5 w8.heap.size W y)=>hx.base b5 (Nat.le_refl _))
 clear b5
 go_upto_region 18 with fail
 rw [←hW5]
 clear hW5
 generalize hcb:w8.heap.size=cb at BX5 HB8
 have HB8:=Lib.hid (fun (W:World) (y:C5) (hx:Bx W5 cb W y)=>show Below w8.heap.size w8 W from by have:=HB8.out W y hx;rw [hcb];exact this)
 go_wp2
 go_loopw [23] (fun i wr=>∃k:Nat,k≤s.length∧i=.int .i64 k∧Hid (∀i (hi:i+1 < s.length),i+1 < k→(entA U s[i+1]).n≠(entA U s[i]).n)∧Bx W5 cb wr ⟨0,b1K U pn s k,s2K U here pn up s k,0,s4K U here s k⟩) (fun i _=>s.length - (intOf i).toNat)
 case atStart=>exact ⟨0,Nat.zero_le _,rfl,Lib.hid (fun i hi h=>absurd h (Nat.not_lt_zero _)),BX5.out⟩
 case round=>
  clear BX5
  obtain ⟨k,hk,rfl,HAD,hbx⟩:=hrel
  have HX:=Lib.hid hbx
  have HW8:=Lib.hid (HB8.out _ _ hbx)
  clear hbx
  obtain ⟨l1,l1'⟩:=L1.out k
  obtain ⟨l2,l2'⟩:=L2.out k
  obtain ⟨l4,l4'⟩:=L4.out k
  by_cases hlt:k < s.length
  ·obtain ⟨ads,rfl,-,c0⟩:=(rdInts_at (RS.out wr (bel_in D8.out HW8.out))).2.2.2 k hlt
   obtain ⟨t0,t1⟩:=SS1.out.1 _ (List.getElem_mem hlt)
   have i0:(0:Int)≤(k:Int):=by omega
   have i1:(k:Int) < (s.length:Int):=by omega
   have T1:=Lib.hid (b1K_step (U:=U) (pn:=pn) hlt)
   have T2:=Lib.hid (s2K_step (U:=U) (here:=here) (pn:=pn) (up:=up) hlt)
   have T4:=Lib.hid (s4K_step (U:=U) (here:=here) hlt)
   obtain ⟨g1,g1'⟩:=L1.out (k+1)
   obtain ⟨g2,g2'⟩:=L2.out (k+1)
   obtain ⟨g4,g4'⟩:=L4.out (k+1)
   obtain ⟨j,hj⟩:=Int.eq_ofNat_of_zero_le t0
   have HSK:=Lib.hid hj
   rw [hj] at c0 t1 T1 T2 T4
   have hjl:j < U.length:=by omega
   have p0:(0:Int)≤(j:Int):=by omega
   have p1:(j:Int) < (U.length:Int):=by omega
   have hjw:j < (wgCs U here pn up).length:=by rw [WLC];exact hjl
   obtain ⟨adw,rfl,-,v0,v1,v2,v3,v4⟩:=hWA.out wr (bel_in G8.out HW8.out) j hjw
   rw [wgCs_at hjw] at v0 v1 v2 v3 v4
   simp only [wgC] at v0 v1 v2 v3 v4
   have lo0:=los_ge U pn (j:Int)
   have w20:=w2_le U here pn up (j:Int)
   have w40:=w4_le U here (j:Int)
   obtain ⟨ade,A1,c1,A2,c2,A3,c3,A4,c4,rfl,-,-,u0,-⟩:=HEE.out wr HW8.out j hjl
   have b5':=True.intro
   generalize hh1:b1K U pn s (k+1)=n1 at *
   generalize hh2:s2K U here pn up s (k+1)=n2 at *
   generalize hh4:s4K U here s (k+1)=n4 at *
   have H1:=Lib.hid hh1
   have H2:=Lib.hid hh2
   have H4:=Lib.hid hh4
   generalize b1K U pn s k=m1 at *
   generalize s2K U here pn up s k=m2 at *
   generalize s4K U here s k=m4 at *
   generalize los U pn (j:Int)=lo at *
   generalize w2P U here pn up (j:Int)=wp2 at *
   generalize w4P U here (j:Int)=wp4 at *
   have t1:=T1.out
   have t2:=T2.out
   have t4:=T4.out
   have KJ:=Lib.hid (fun (W:World)=>show Calls Tryz.prog 28 #[.agg #[.int .i64 0,.int .i64 m1,.int .i64 m2,.int .i64 0,.int .i64 m4],.agg #[.int .i64 0,.int .i64 lo,.int .i64 wp2,.int .i64 0,.int .i64 wp4]] W fun e w'=>e=.returned (.tuple #[.agg #[.int .i64 0,.int .i64 n1,.int .i64 n2,.int .i64 0,.int .i64 n4],.int .i64 0])∧Below W.heap.size W w' from by
    have h1:InR 0:=inR_small (by omega) (by omega)
    have hj:=Join_any 0 m1 m2 0 m4 0 lo wp2 0 wp4 W h1 h1 (inR_small (by omega) (by omega)) (inR_small (by omega) (by omega)) (inR_small (by omega) (by omega)) (inR_small (by omega) (by omega)) h1 h1 (inR_small (by omega) (by omega)) (inR_small (by omega) (by omega))
    have hc:InR (0+0)∧InR (m1+lo)∧InR (m2+wp2)∧InR (0+0)∧InR (m4+wp4):=⟨h1,inR_small (by omega) (by omega),inR_small (by omega) (by omega),h1,inR_small (by omega) (by omega)⟩
    unfold joinV joinE at hj
    rw [if_pos hc,if_pos hc,←t1,←t2,←t4] at hj
    exact hj)
   clear hh1 hh2 hh4 hj t0 t1 t2 t4 T1 T2 T4 b5'
   have CROW:=Lib.hid (fun (W:World) (hx:Below wr.heap.size wr W)=>(show W.cell? (ads.add k)=some (.int .i64 (j:Int))∧W.cell? (adw.add (j*5))=some (.int .i64 0)∧W.cell? ⟨(adw.add (j*5)).block,(adw.add (j*5)).off+1,none⟩=some (.int .i64 lo)∧W.cell? ⟨(adw.add (j*5)).block,(adw.add (j*5)).off+2,none⟩=some (.int .i64 wp2)∧W.cell? ⟨(adw.add (j*5)).block,(adw.add (j*5)).off+3,none⟩=some (.int .i64 0)∧W.cell? ⟨(adw.add (j*5)).block,(adw.add (j*5)).off+4,none⟩=some (.int .i64 wp4) from ⟨keep6 hx c0,keep6 hx v0,keep6 hx v1,keep6 hx v2,keep6 hx v3,keep6 hx v4⟩))
   clear v0 v1 v2 v3 v4
   have mixed:Tryz.prog.follows .mixedOrders=true:=by kernel_rfl
   have K23:=Lib.hid (fun (V:World) (hx:Bx W5 cb V ⟨0,m1,m2,0,m4⟩) (hr:Below wr.heap.size wr V)=>(show (V.cell? ⟨cb,0,none⟩=some (.int .i64 0)∧V.cell? ⟨cb,1,none⟩=some (.int .i64 m1)∧V.cell? ⟨cb,2,none⟩=some (.int .i64 m2)∧V.cell? ⟨cb,3,none⟩=some (.int .i64 0)∧V.cell? ⟨cb,4,none⟩=some (.int .i64 m4))∧(V.cell? (ads.add k)=some (.int .i64 (j:Int))∧V.cell? (adw.add (j*5))=some (.int .i64 0)∧V.cell? ⟨(adw.add (j*5)).block,(adw.add (j*5)).off+1,none⟩=some (.int .i64 lo)∧V.cell? ⟨(adw.add (j*5)).block,(adw.add (j*5)).off+2,none⟩=some (.int .i64 wp2)∧V.cell? ⟨(adw.add (j*5)).block,(adw.add (j*5)).off+3,none⟩=some (.int .i64 0)∧V.cell? ⟨(adw.add (j*5)).block,(adw.add (j*5)).off+4,none⟩=some (.int .i64 wp4)) from ⟨hx.cells,CROW.out V hr⟩))
   clear CROW
   have BD:=Lib.hid (fun dd os=>below_regrown wr dd os)
   have zc:=fun dd os=>cell_regrown (w:=wr) c0 dd os
   have ve:=fun dd os=>cell_regrown (w:=wr) u0 dd os
   rcases k with _|k
   ·skip
    go_wp2_with fail
    refine wp_region_quiet_below mixed (by kernel_rfl) ?_
    repeat (go_big_quiet_step (fail))
    refine wpQuiet_nil ?_
    intro W3 hw3
    have BX:=Lib.hid (show Below wr.heap.size wr W3 from by obtain ⟨pp,e⟩:=hw3;rw [e];exact BD.out pp.d pp.os)
    clear hw3 BD zc ve c0 u0
    have HX3:=Lib.hid (HX.out.call BX.out)
    have K23:=Lib.hid (fun (V:World) (hx:Bx W5 cb V ⟨0,m1,m2,0,m4⟩) (hr:Below wr.heap.size wr V)=>(show (V.cell? ⟨cb,0,none⟩=some (.int .i64 0)∧V.cell? ⟨cb,1,none⟩=some (.int .i64 m1)∧V.cell? ⟨cb,2,none⟩=some (.int .i64 m2)∧V.cell? ⟨cb,3,none⟩=some (.int .i64 0)∧V.cell? ⟨cb,4,none⟩=some (.int .i64 m4))∧(V.cell? ads=some (.int .i64 (j:Int))∧V.cell? (adw.add (j*5))=some (.int .i64 0)∧V.cell? ⟨(adw.add (j*5)).block,(adw.add (j*5)).off+1,none⟩=some (.int .i64 lo)∧V.cell? ⟨(adw.add (j*5)).block,(adw.add (j*5)).off+2,none⟩=some (.int .i64 wp2)∧V.cell? ⟨(adw.add (j*5)).block,(adw.add (j*5)).off+3,none⟩=some (.int .i64 0)∧V.cell? ⟨(adw.add (j*5)).block,(adw.add (j*5)).off+4,none⟩=some (.int .i64 wp4)) from K23.out V hx hr))
    have RX3:=Lib.hid BX.out
    clear BX HX
    go_upto_region 23 with fail
    refine wp_region_noPanic ?_
    refine wp_region_D (fun V=>(V.cell? ⟨cb,0,none⟩=some (.int .i64 0)∧V.cell? ⟨cb,1,none⟩=some (.int .i64 m1)∧V.cell? ⟨cb,2,none⟩=some (.int .i64 m2)∧V.cell? ⟨cb,3,none⟩=some (.int .i64 0)∧V.cell? ⟨cb,4,none⟩=some (.int .i64 m4))∧(V.cell? ads=some (.int .i64 (j:Int))∧V.cell? (adw.add (j*5))=some (.int .i64 0)∧V.cell? ⟨(adw.add (j*5)).block,(adw.add (j*5)).off+1,none⟩=some (.int .i64 lo)∧V.cell? ⟨(adw.add (j*5)).block,(adw.add (j*5)).off+2,none⟩=some (.int .i64 wp2)∧V.cell? ⟨(adw.add (j*5)).block,(adw.add (j*5)).off+3,none⟩=some (.int .i64 0)∧V.cell? ⟨(adw.add (j*5)).block,(adw.add (j*5)).off+4,none⟩=some (.int .i64 wp4))) 14 (by kernel_rfl) (w0:=W3) (Dr.refl _) (fun V hV=>K23.out V (HX3.out.call (hV.below _)) (bel_in RX3.out (hV.below _))) (fun V hV hHeld=>?_)
    have BV:=Lib.hid (HX3.out.call (hV.below _))
    have RV:=Lib.hid (bel_in RX3.out (hV.below _))
    clear hV HX3 RX3
    refine wpAnyL_take (i:=0) (v:=?_) [] rfl (by kernel_rfl) (by kernel_rfl) (by kernel_rfl) (fun _ _ _ h=>h) (by kernel_rfl) (by kernel_rfl) (by kernel_rfl) (Or.inl ⟨by rfl,?_⟩) (by assumption) ?_
    rotate_left
    ·intro w hSw
     try dsimp only at hSw
     go_simp
     first|done|with_reducible rfl
    try simp only [Act.put,List.setIfInBounds_toArray,List.set_cons_zero,List.set_cons_succ]
    refine wpAnyL_take (i:=1) (v:=?_) [] rfl (by kernel_rfl) (by kernel_rfl) (by kernel_rfl) (fun _ _ _ h=>h) (by kernel_rfl) (by kernel_rfl) (by kernel_rfl) (Or.inl ⟨by rfl,?_⟩) (by assumption) ?_
    rotate_left
    ·intro w hSw
     try dsimp only at hSw
     go_simp
     first|done|with_reducible rfl
    try simp only [Act.put,List.setIfInBounds_toArray,List.set_cons_zero,List.set_cons_succ]
    refine wpAnyL_take (i:=2) (v:=?_) [] rfl (by kernel_rfl) (by kernel_rfl) (by kernel_rfl) (fun _ _ _ h=>h) (by kernel_rfl) (by kernel_rfl) (by kernel_rfl) (Or.inl ⟨by rfl,?_⟩) (by assumption) ?_
    rotate_left
    ·intro w hSw
     try dsimp only at hSw
     go_simp
     first|done|with_reducible rfl
    try simp only [Act.put,List.setIfInBounds_toArray,List.set_cons_zero,List.set_cons_succ]
    refine wpAnyL_take (i:=3) (v:=?_) [] rfl (by kernel_rfl) (by kernel_rfl) (by kernel_rfl) (fun _ _ _ h=>h) (by kernel_rfl) (by kernel_rfl) (by kernel_rfl) (Or.inl ⟨by rfl,?_⟩) (by assumption) ?_
    rotate_left
    ·intro w hSw
     try dsimp only at hSw
     go_simp
     first|done|with_reducible rfl
    try simp only [Act.put,List.setIfInBounds_toArray,List.set_cons_zero,List.set_cons_succ]
    refine wpAnyL_take (i:=4) (v:=?_) [] rfl (by kernel_rfl) (by kernel_rfl) (by kernel_rfl) (fun _ _ _ h=>h) (by kernel_rfl) (by kernel_rfl) (by kernel_rfl) (Or.inl ⟨by rfl,?_⟩) (by assumption) ?_
    rotate_left
    ·intro w hSw
     try dsimp only at hSw
     go_simp
     first|done|with_reducible rfl
    try simp only [Act.put,List.setIfInBounds_toArray,List.set_cons_zero,List.set_cons_succ]
    refine wpAnyL_take (i:=5) (v:=?_) [] rfl (by kernel_rfl) (by kernel_rfl) (by kernel_rfl) (fun _ _ _ h=>h) (by kernel_rfl) (by kernel_rfl) (by kernel_rfl) (Or.inl ⟨by rfl,?_⟩) (by assumption) ?_
    rotate_left
    ·intro w hSw
     try dsimp only at hSw
     go_simp
     first|done|with_reducible rfl
    try simp only [Act.put,List.setIfInBounds_toArray,List.set_cons_zero,List.set_cons_succ]
    refine wpAnyL_take (i:=6) (v:=?_) [] rfl (by kernel_rfl) (by kernel_rfl) (by kernel_rfl) (fun _ _ _ h=>h) (by kernel_rfl) (by kernel_rfl) (by kernel_rfl) (Or.inl ⟨by rfl,?_⟩) (by assumption) ?_
    rotate_left
    ·intro w hSw
     try dsimp only at hSw
     go_simp
     first|done|with_reducible rfl
    try simp only [Act.put,List.setIfInBounds_toArray,List.set_cons_zero,List.set_cons_succ]
    refine wpAnyL_take (i:=7) (v:=?_) [] rfl (by kernel_rfl) (by kernel_rfl) (by kernel_rfl) (fun _ _ _ h=>h) (by kernel_rfl) (by kernel_rfl) (by kernel_rfl) (Or.inl ⟨by rfl,?_⟩) (by assumption) ?_
    rotate_left
    ·intro w hSw
     try dsimp only at hSw
     go_simp
     first|done|with_reducible rfl
    try simp only [Act.put,List.setIfInBounds_toArray,List.set_cons_zero,List.set_cons_succ]
    refine wpAnyL_two (i:=8) (k:=12) (by kernel_rfl) rfl rfl (fun K hK=>?_) (fun K hK=>?_)
    ·skip
     go_simp
     refine (KJ.out V).mono ?_
     rintro e V2 ⟨rfl,hb⟩
     have HB2:=Lib.hid hb
     clear hb
     go_wp2_with fail
     refine hK.out _ _ (K23.out _ (BV.out.call HB2.out) (bel_in RV.out HB2.out)) (fun hHeld=>?_)
     clear hK K
     try simp only [Act.put,List.setIfInBounds_toArray,List.set_cons_zero,List.set_cons_succ]
     refine wpAnyL_take (i:=9) (v:=?_) [] rfl (by kernel_rfl) (by kernel_rfl) (by kernel_rfl) (fun _ _ _ h=>h) (by kernel_rfl) (by kernel_rfl) (by kernel_rfl) (Or.inl ⟨by rfl,?_⟩) (by assumption) ?_
     rotate_left
     ·intro w hSw
      try dsimp only at hSw
      go_simp
      first|done|with_reducible rfl
     try simp only [Act.put,List.setIfInBounds_toArray,List.set_cons_zero,List.set_cons_succ]
     refine wpAnyL_take (i:=10) (v:=?_) [] rfl (by kernel_rfl) (by kernel_rfl) (by kernel_rfl) (fun _ _ _ h=>h) (by kernel_rfl) (by kernel_rfl) (by kernel_rfl) (Or.inl ⟨by rfl,?_⟩) (by assumption) ?_
     rotate_left
     ·intro w hSw
      try dsimp only at hSw
      go_simp
      first|done|with_reducible rfl
     try simp only [Act.put,List.setIfInBounds_toArray,List.set_cons_zero,List.set_cons_succ]
     refine wpAnyL_take (i:=11) (v:=?_) [] rfl (by kernel_rfl) (by kernel_rfl) (by kernel_rfl) (fun _ _ _ h=>h) (by kernel_rfl) (by kernel_rfl) (by kernel_rfl) (Or.inl ⟨by rfl,?_⟩) (by assumption) ?_
     rotate_left
     ·intro w hSw
      try dsimp only at hSw
      go_simp
      first|done|with_reducible rfl
     try simp only [Act.put,List.setIfInBounds_toArray,List.set_cons_zero,List.set_cons_succ]
     have bA:Below V2.heap.size V2 (V2.alloc (.cells #[.int .i64 0,.int .i64 0,.int .i64 0,.int .i64 0,.int .i64 0] 39)):=(Below.refl _ V2).alloc (Nat.le_refl _) _
     refine wpAnyL_one (i:=12) (by kernel_rfl) rfl (fun K hK=>?_)
     go_simp
     refine hK.out _ _ (K23.out _ (BV.out.call (bel_in HB2.out bA)) (bel_in RV.out (bel_in HB2.out bA))) (fun hHeld=>?_)
     clear hK K
     try simp only [Act.put,List.setIfInBounds_toArray,List.set_cons_zero,List.set_cons_succ]
     obtain ⟨V3,hV3⟩:∃X,X=V2.alloc (.cells #[.int .i64 0,.int .i64 0,.int .i64 0,.int .i64 0,.int .i64 0] 39):=⟨_,rfl⟩
     rw [←hV3]
     rw [←hV3] at bA hHeld
     have hz0:V3.heap[V2.heap.size]?=some (.cells #[.int .i64 0,.int .i64 0,.int .i64 0,.int .i64 0,.int .i64 0] 39 (0,0)):=by rw [hV3];exact heap_alloc_new V2 _
     clear hV3
     have r0:=blk5_cell hz0 0
     have r1:=blk5_cell hz0 1
     have r2:=blk5_cell hz0 2
     have r3:=blk5_cell hz0 3
     have r4:=blk5_cell hz0 4
     have fr0:=blk5_frozen hz0 0
     have fr1:=blk5_frozen hz0 1
     have fr2:=blk5_frozen hz0 2
     have fr3:=blk5_frozen hz0 3
     have fr4:=blk5_frozen hz0 4
     simp at r0 r1 r2 r3 r4
     have bS:Below V2.heap.size V2 (((((V3.setCell ⟨V2.heap.size,0,none⟩ (.int .i64 0)).setCell ⟨V2.heap.size,1,none⟩ (.int .i64 n1)).setCell ⟨V2.heap.size,2,none⟩ (.int .i64 n2)).setCell ⟨V2.heap.size,3,none⟩ (.int .i64 0)).setCell ⟨V2.heap.size,4,none⟩ (.int .i64 n4)):=((((bA.setCell (Nat.le_refl _) _).setCell (Nat.le_refl _) _).setCell (Nat.le_refl _) _).setCell (Nat.le_refl _) _).setCell (Nat.le_refl _) _
     clear hHeld
     refine wpAnyL_one (i:=13) (by kernel_rfl) rfl (fun K hK=>?_)
     go_simp
     refine hK.out _ _ (K23.out _ (BV.out.call (bel_in HB2.out bS)) (bel_in RV.out (bel_in HB2.out bS))) (fun hHeld=>?_)
     clear hK K
     try simp only [Act.put,List.setIfInBounds_toArray,List.set_cons_zero,List.set_cons_succ]
     clear r0 r1 r2 r3 r4 fr0 fr1 fr2 fr3 fr4
     refine wpAnyL_last (by kernel_rfl) rfl (by kernel_rfl) (fun K hK=>?_)
     go_simp
     refine hK.out _ _ ?_
     clear hK K
     refine NoPanic.normal ?_
     obtain ⟨VF,hVF⟩:∃X,X=(((((V3.setCell ⟨V2.heap.size,0,none⟩ (.int .i64 0)).setCell ⟨V2.heap.size,1,none⟩ (.int .i64 n1)).setCell ⟨V2.heap.size,2,none⟩ (.int .i64 n2)).setCell ⟨V2.heap.size,3,none⟩ (.int .i64 0)).setCell ⟨V2.heap.size,4,none⟩ (.int .i64 n4)):=⟨_,rfl⟩
     rw [←hVF]
     have BF:=Lib.hid (show Bx W5 cb VF ⟨0,m1,m2,0,m4⟩ from by rw [hVF];exact BV.out.call (bel_in HB2.out bS))
     have ZF:=Lib.hid (show VF.heap[V2.heap.size]?=some (.cells #[.int .i64 0,.int .i64 n1,.int .i64 n2,.int .i64 0,.int .i64 n4] 39 (0,0)) from by rw [hVF];exact blk5_set (blk5_set (blk5_set (blk5_set (blk5_set hz0 0 _) 1 _) 2 _) 3 _) 4 _)
     clear hVF hz0 hHeld
     generalize V2.heap.size=qb at ZF ⊢
     have z0:=blk5_cell ZF.out 0
     have z1:=blk5_cell ZF.out 1
     have z2:=blk5_cell ZF.out 2
     have z3:=blk5_cell ZF.out 3
     have z4:=blk5_cell ZF.out 4
     simp at z0 z1 z2 z3 z4
     obtain ⟨y0,y1,y2,y3,y4⟩:=BF.out.cells
     simp only at y0 y1 y2 y3 y4
     have yf0:=BF.out.free 0
     have yf1:=BF.out.free 1
     have yf2:=BF.out.free 2
     have yf3:=BF.out.free 3
     have yf4:=BF.out.free 4
     have FIN:=Lib.hid (BF.out.set5 ⟨0,n1,n2,0,n4⟩)
     clear BV BF ZF
     go_wp2
     go_roundw
     case rel=>exact ⟨0+1,by omega,by go_num,Lib.hid (fun i hi h=>absurd h (by omega)),by rw [H1.out,H2.out,H4.out];exact FIN.out⟩
     case measure=>simp [intOf];omega
    ·skip
     have bA:Below V.heap.size V (V.alloc (.cells #[.int .i64 0,.int .i64 0,.int .i64 0,.int .i64 0,.int .i64 0] 39)):=(Below.refl _ V).alloc (Nat.le_refl _) _
     go_simp
     refine hK.out _ _ (K23.out _ (BV.out.call bA) (bel_in RV.out bA)) (fun hHeld=>?_)
     clear hK K
     try simp only [Act.put,List.setIfInBounds_toArray,List.set_cons_zero,List.set_cons_succ]
     refine wpAnyL_one (i:=8) (by kernel_rfl) rfl (fun K hK=>?_)
     go_simp
     refine (KJ.out (V.alloc (.cells #[.int .i64 0,.int .i64 0,.int .i64 0,.int .i64 0,.int .i64 0] 39))).mono ?_
     rintro e V2 ⟨rfl,hb⟩
     have HB2:=Lib.hid (bel_in bA hb)
     have hz0:V2.heap[V.heap.size]?=some (.cells #[.int .i64 0,.int .i64 0,.int .i64 0,.int .i64 0,.int .i64 0] 39 (0,0)):=(hb.block _ (lt_of_heap (heap_alloc_new V (.cells #[.int .i64 0,.int .i64 0,.int .i64 0,.int .i64 0,.int .i64 0] 39)))).trans (heap_alloc_new V _)
     clear hb
     go_wp2_with fail
     refine hK.out _ _ (K23.out _ (BV.out.call HB2.out) (bel_in RV.out HB2.out)) (fun hHeld=>?_)
     clear hK K
     try simp only [Act.put,List.setIfInBounds_toArray,List.set_cons_zero,List.set_cons_succ]
     refine wpAnyL_take (i:=9) (v:=?_) [] rfl (by kernel_rfl) (by kernel_rfl) (by kernel_rfl) (fun _ _ _ h=>h) (by kernel_rfl) (by kernel_rfl) (by kernel_rfl) (Or.inl ⟨by rfl,?_⟩) (by assumption) ?_
     rotate_left
     ·intro w hSw
      try dsimp only at hSw
      go_simp
      first|done|with_reducible rfl
     try simp only [Act.put,List.setIfInBounds_toArray,List.set_cons_zero,List.set_cons_succ]
     refine wpAnyL_take (i:=10) (v:=?_) [] rfl (by kernel_rfl) (by kernel_rfl) (by kernel_rfl) (fun _ _ _ h=>h) (by kernel_rfl) (by kernel_rfl) (by kernel_rfl) (Or.inl ⟨by rfl,?_⟩) (by assumption) ?_
     rotate_left
     ·intro w hSw
      try dsimp only at hSw
      go_simp
      first|done|with_reducible rfl
     try simp only [Act.put,List.setIfInBounds_toArray,List.set_cons_zero,List.set_cons_succ]
     refine wpAnyL_take (i:=11) (v:=?_) [] rfl (by kernel_rfl) (by kernel_rfl) (by kernel_rfl) (fun _ _ _ h=>h) (by kernel_rfl) (by kernel_rfl) (by kernel_rfl) (Or.inl ⟨by rfl,?_⟩) (by assumption) ?_
     rotate_left
     ·intro w hSw
      try dsimp only at hSw
      go_simp
      first|done|with_reducible rfl
     try simp only [Act.put,List.setIfInBounds_toArray,List.set_cons_zero,List.set_cons_succ]
     have r0:=blk5_cell hz0 0
     have r1:=blk5_cell hz0 1
     have r2:=blk5_cell hz0 2
     have r3:=blk5_cell hz0 3
     have r4:=blk5_cell hz0 4
     have fr0:=blk5_frozen hz0 0
     have fr1:=blk5_frozen hz0 1
     have fr2:=blk5_frozen hz0 2
     have fr3:=blk5_frozen hz0 3
     have fr4:=blk5_frozen hz0 4
     simp at r0 r1 r2 r3 r4
     have bS:Below V.heap.size V (((((V2.setCell ⟨V.heap.size,0,none⟩ (.int .i64 0)).setCell ⟨V.heap.size,1,none⟩ (.int .i64 n1)).setCell ⟨V.heap.size,2,none⟩ (.int .i64 n2)).setCell ⟨V.heap.size,3,none⟩ (.int .i64 0)).setCell ⟨V.heap.size,4,none⟩ (.int .i64 n4)):=((((HB2.out.setCell (Nat.le_refl _) _).setCell (Nat.le_refl _) _).setCell (Nat.le_refl _) _).setCell (Nat.le_refl _) _).setCell (Nat.le_refl _) _
     refine wpAnyL_one (i:=13) (by kernel_rfl) rfl (fun K hK=>?_)
     go_simp
     refine hK.out _ _ (K23.out _ (BV.out.call bS) (bel_in RV.out bS)) (fun hHeld=>?_)
     clear hK K
     try simp only [Act.put,List.setIfInBounds_toArray,List.set_cons_zero,List.set_cons_succ]
     clear r0 r1 r2 r3 r4 fr0 fr1 fr2 fr3 fr4
     refine wpAnyL_last (by kernel_rfl) rfl (by kernel_rfl) (fun K hK=>?_)
     go_simp
     refine hK.out _ _ ?_
     clear hK K
     refine NoPanic.normal ?_
     obtain ⟨VF,hVF⟩:∃X,X=(((((V2.setCell ⟨V.heap.size,0,none⟩ (.int .i64 0)).setCell ⟨V.heap.size,1,none⟩ (.int .i64 n1)).setCell ⟨V.heap.size,2,none⟩ (.int .i64 n2)).setCell ⟨V.heap.size,3,none⟩ (.int .i64 0)).setCell ⟨V.heap.size,4,none⟩ (.int .i64 n4)):=⟨_,rfl⟩
     rw [←hVF]
     have BF:=Lib.hid (show Bx W5 cb VF ⟨0,m1,m2,0,m4⟩ from by rw [hVF];exact BV.out.call (bS))
     have ZF:=Lib.hid (show VF.heap[V.heap.size]?=some (.cells #[.int .i64 0,.int .i64 n1,.int .i64 n2,.int .i64 0,.int .i64 n4] 39 (0,0)) from by rw [hVF];exact blk5_set (blk5_set (blk5_set (blk5_set (blk5_set hz0 0 _) 1 _) 2 _) 3 _) 4 _)
     clear hVF hz0 hHeld
     generalize V.heap.size=qb at ZF ⊢
     have z0:=blk5_cell ZF.out 0
     have z1:=blk5_cell ZF.out 1
     have z2:=blk5_cell ZF.out 2
     have z3:=blk5_cell ZF.out 3
     have z4:=blk5_cell ZF.out 4
     simp at z0 z1 z2 z3 z4
     obtain ⟨y0,y1,y2,y3,y4⟩:=BF.out.cells
     simp only at y0 y1 y2 y3 y4
     have yf0:=BF.out.free 0
     have yf1:=BF.out.free 1
     have yf2:=BF.out.free 2
     have yf3:=BF.out.free 3
     have yf4:=BF.out.free 4
     have FIN:=Lib.hid (BF.out.set5 ⟨0,n1,n2,0,n4⟩)
     clear BV BF ZF
     go_wp2
     go_roundw
     case rel=>exact ⟨0+1,by omega,by go_num,Lib.hid (fun i hi h=>absurd h (by omega)),by rw [H1.out,H2.out,H4.out];exact FIN.out⟩
     case measure=>simp [intOf];omega
   ·skip
    obtain ⟨ad',ea,-,c0'⟩:=(rdInts_at (RS.out wr (bel_in D8.out HW8.out))).2.2.2 k (by omega)
    obtain rfl:ads=ad':=Option.some.inj ea
    obtain ⟨t0',t1'⟩:=SS1.out.1 _ (List.getElem_mem (show k < s.length by omega))
    obtain ⟨j',hj'⟩:=Int.eq_ofNat_of_zero_le t0'
    have HSK':=Lib.hid hj'
    rw [hj'] at c0' t1'
    have hjl':j' < U.length:=by omega
    obtain ⟨ade',E1,e1,E2,e2,E3,e3,E4,e4,ea2,-,-,u0',-⟩:=HEE.out wr HW8.out j' hjl'
    obtain rfl:ade=ade':=Option.some.inj ea2
    have i2:(0:Int)≤(k:Int):=by omega
    have i3:(k:Int) < (s.length:Int):=by omega
    have i4:(0:Int) < (k:Int)+1:=by omega
    have i5:IntKind.i64.wrap (k:Int)=(k:Int):=IntWalk.i64_in _ (by omega)
    have i6:(0:Int)≤(k:Int)+1:=by omega
    have i7:(k:Int)+1 < (s.length:Int):=by omega
    have p2:(0:Int)≤(j':Int):=by omega
    have p3:(j':Int) < (U.length:Int):=by omega
    have zp:=fun dd os=>cell_regrown (w:=wr) c0' dd os
    have vq:=fun dd os=>cell_regrown (w:=wr) u0' dd os
    have zl:=fun dd os=>cell_regrown (w:=wr) (show wr.cell? ⟨ads.block,ads.off+(k+1),none⟩=some (.int .i64 (j:Int)) from c0) dd os
    have en:=str_eq U[j].n U[j'].n
    have NX:=Lib.hid (fun hne:U[j].n≠U[j'].n=>show ∀i (hi:i+1 < s.length),i+1 < k+1+1→(entA U s[i+1]).n≠(entA U s[i]).n from fun i hi h=>by
     by_cases q:i=k
     ·subst q
      rw [HSK.out,HSK'.out,entA_at hjl,entA_at hjl'];exact hne
     ·exact HAD.out i hi (by omega))
    clear ea ea2 hj' t0' u0'
    generalize U[j].n=nj at *
    generalize U[j'].n=nj' at *
    by_cases he:nj=nj'
    ·rw [decide_eq_true he] at en
     clear he NX
     go_wp2_with fail
     refine wp_region_quiet_below mixed (by kernel_rfl) ?_
     repeat (go_big_quiet_step (fail))
     refine wpQuiet_nil ?_
     intro W3 hw3
     have BX:=Lib.hid (show Below wr.heap.size wr W3 from by obtain ⟨pp,e⟩:=hw3;rw [e];exact BD.out pp.d pp.os)
     have W83:=Lib.hid (bel_in HW8.out BX.out)
     obtain ⟨a0,a1,a2,a3,a4⟩:=KX.out W3 (bel_in K8.out W83.out)
     obtain ⟨ge0,ge1,ge2,ge3,ge4⟩:=GE.out
     clear hw3 BD zc ve c0 u0 zp vq zl c0'
     go_wp2
     go_ret
     exact ⟨by first|rfl|simp,bel_in B5.out (bel_in C6.out (bel_in D8.out W83.out))⟩
    ·rw [decide_eq_false he] at en
     have NA:=Lib.hid (NX.out he)
     clear he NX
     go_wp2_with fail
     refine wp_region_quiet_below mixed (by kernel_rfl) ?_
     repeat (go_big_quiet_step (fail))
     refine wpQuiet_nil ?_
     intro W3 hw3
     have BX:=Lib.hid (show Below wr.heap.size wr W3 from by obtain ⟨pp,e⟩:=hw3;rw [e];exact BD.out pp.d pp.os)
     clear hw3 BD zc ve c0 u0 zp vq zl c0'
     have HX3:=Lib.hid (HX.out.call BX.out)
     have K23:=Lib.hid (fun (V:World) (hx:Bx W5 cb V ⟨0,m1,m2,0,m4⟩) (hr:Below wr.heap.size wr V)=>(show (V.cell? ⟨cb,0,none⟩=some (.int .i64 0)∧V.cell? ⟨cb,1,none⟩=some (.int .i64 m1)∧V.cell? ⟨cb,2,none⟩=some (.int .i64 m2)∧V.cell? ⟨cb,3,none⟩=some (.int .i64 0)∧V.cell? ⟨cb,4,none⟩=some (.int .i64 m4))∧(V.cell? ⟨ads.block,ads.off+(k+1),none⟩=some (.int .i64 (j:Int))∧V.cell? (adw.add (j*5))=some (.int .i64 0)∧V.cell? ⟨(adw.add (j*5)).block,(adw.add (j*5)).off+1,none⟩=some (.int .i64 lo)∧V.cell? ⟨(adw.add (j*5)).block,(adw.add (j*5)).off+2,none⟩=some (.int .i64 wp2)∧V.cell? ⟨(adw.add (j*5)).block,(adw.add (j*5)).off+3,none⟩=some (.int .i64 0)∧V.cell? ⟨(adw.add (j*5)).block,(adw.add (j*5)).off+4,none⟩=some (.int .i64 wp4)) from K23.out V hx hr))
     have RX3:=Lib.hid BX.out
     clear BX HX
     go_upto_region 23 with fail
     refine wp_region_noPanic ?_
     refine wp_region_D (fun V=>(V.cell? ⟨cb,0,none⟩=some (.int .i64 0)∧V.cell? ⟨cb,1,none⟩=some (.int .i64 m1)∧V.cell? ⟨cb,2,none⟩=some (.int .i64 m2)∧V.cell? ⟨cb,3,none⟩=some (.int .i64 0)∧V.cell? ⟨cb,4,none⟩=some (.int .i64 m4))∧(V.cell? ⟨ads.block,ads.off+(k+1),none⟩=some (.int .i64 (j:Int))∧V.cell? (adw.add (j*5))=some (.int .i64 0)∧V.cell? ⟨(adw.add (j*5)).block,(adw.add (j*5)).off+1,none⟩=some (.int .i64 lo)∧V.cell? ⟨(adw.add (j*5)).block,(adw.add (j*5)).off+2,none⟩=some (.int .i64 wp2)∧V.cell? ⟨(adw.add (j*5)).block,(adw.add (j*5)).off+3,none⟩=some (.int .i64 0)∧V.cell? ⟨(adw.add (j*5)).block,(adw.add (j*5)).off+4,none⟩=some (.int .i64 wp4))) 14 (by kernel_rfl) (w0:=W3) (Dr.refl _) (fun V hV=>K23.out V (HX3.out.call (hV.below _)) (bel_in RX3.out (hV.below _))) (fun V hV hHeld=>?_)
     have BV:=Lib.hid (HX3.out.call (hV.below _))
     have RV:=Lib.hid (bel_in RX3.out (hV.below _))
     clear hV HX3 RX3
     refine wpAnyL_take (i:=0) (v:=?_) [] rfl (by kernel_rfl) (by kernel_rfl) (by kernel_rfl) (fun _ _ _ h=>h) (by kernel_rfl) (by kernel_rfl) (by kernel_rfl) (Or.inl ⟨by rfl,?_⟩) (by assumption) ?_
     rotate_left
     ·intro w hSw
      try dsimp only at hSw
      go_simp
      first|done|with_reducible rfl
     try simp only [Act.put,List.setIfInBounds_toArray,List.set_cons_zero,List.set_cons_succ]
     refine wpAnyL_take (i:=1) (v:=?_) [] rfl (by kernel_rfl) (by kernel_rfl) (by kernel_rfl) (fun _ _ _ h=>h) (by kernel_rfl) (by kernel_rfl) (by kernel_rfl) (Or.inl ⟨by rfl,?_⟩) (by assumption) ?_
     rotate_left
     ·intro w hSw
      try dsimp only at hSw
      go_simp
      first|done|with_reducible rfl
     try simp only [Act.put,List.setIfInBounds_toArray,List.set_cons_zero,List.set_cons_succ]
     refine wpAnyL_take (i:=2) (v:=?_) [] rfl (by kernel_rfl) (by kernel_rfl) (by kernel_rfl) (fun _ _ _ h=>h) (by kernel_rfl) (by kernel_rfl) (by kernel_rfl) (Or.inl ⟨by rfl,?_⟩) (by assumption) ?_
     rotate_left
     ·intro w hSw
      try dsimp only at hSw
      go_simp
      first|done|with_reducible rfl
     try simp only [Act.put,List.setIfInBounds_toArray,List.set_cons_zero,List.set_cons_succ]
     refine wpAnyL_take (i:=3) (v:=?_) [] rfl (by kernel_rfl) (by kernel_rfl) (by kernel_rfl) (fun _ _ _ h=>h) (by kernel_rfl) (by kernel_rfl) (by kernel_rfl) (Or.inl ⟨by rfl,?_⟩) (by assumption) ?_
     rotate_left
     ·intro w hSw
      try dsimp only at hSw
      go_simp
      first|done|with_reducible rfl
     try simp only [Act.put,List.setIfInBounds_toArray,List.set_cons_zero,List.set_cons_succ]
     refine wpAnyL_take (i:=4) (v:=?_) [] rfl (by kernel_rfl) (by kernel_rfl) (by kernel_rfl) (fun _ _ _ h=>h) (by kernel_rfl) (by kernel_rfl) (by kernel_rfl) (Or.inl ⟨by rfl,?_⟩) (by assumption) ?_
     rotate_left
     ·intro w hSw
      try dsimp only at hSw
      go_simp
      first|done|with_reducible rfl
     try simp only [Act.put,List.setIfInBounds_toArray,List.set_cons_zero,List.set_cons_succ]
     refine wpAnyL_take (i:=5) (v:=?_) [] rfl (by kernel_rfl) (by kernel_rfl) (by kernel_rfl) (fun _ _ _ h=>h) (by kernel_rfl) (by kernel_rfl) (by kernel_rfl) (Or.inl ⟨by rfl,?_⟩) (by assumption) ?_
     rotate_left
     ·intro w hSw
      try dsimp only at hSw
      go_simp
      first|done|with_reducible rfl
     try simp only [Act.put,List.setIfInBounds_toArray,List.set_cons_zero,List.set_cons_succ]
     refine wpAnyL_take (i:=6) (v:=?_) [] rfl (by kernel_rfl) (by kernel_rfl) (by kernel_rfl) (fun _ _ _ h=>h) (by kernel_rfl) (by kernel_rfl) (by kernel_rfl) (Or.inl ⟨by rfl,?_⟩) (by assumption) ?_
     rotate_left
     ·intro w hSw
      try dsimp only at hSw
      go_simp
      first|done|with_reducible rfl
     try simp only [Act.put,List.setIfInBounds_toArray,List.set_cons_zero,List.set_cons_succ]
     refine wpAnyL_take (i:=7) (v:=?_) [] rfl (by kernel_rfl) (by kernel_rfl) (by kernel_rfl) (fun _ _ _ h=>h) (by kernel_rfl) (by kernel_rfl) (by kernel_rfl) (Or.inl ⟨by rfl,?_⟩) (by assumption) ?_
     rotate_left
     ·intro w hSw
      try dsimp only at hSw
      go_simp
      first|done|with_reducible rfl
     try simp only [Act.put,List.setIfInBounds_toArray,List.set_cons_zero,List.set_cons_succ]
     refine wpAnyL_two (i:=8) (k:=12) (by kernel_rfl) rfl rfl (fun K hK=>?_) (fun K hK=>?_)
     ·skip
      go_simp
      refine (KJ.out V).mono ?_
      rintro e V2 ⟨rfl,hb⟩
      have HB2:=Lib.hid hb
      clear hb
      go_wp2_with fail
      refine hK.out _ _ (K23.out _ (BV.out.call HB2.out) (bel_in RV.out HB2.out)) (fun hHeld=>?_)
      clear hK K
      try simp only [Act.put,List.setIfInBounds_toArray,List.set_cons_zero,List.set_cons_succ]
      refine wpAnyL_take (i:=9) (v:=?_) [] rfl (by kernel_rfl) (by kernel_rfl) (by kernel_rfl) (fun _ _ _ h=>h) (by kernel_rfl) (by kernel_rfl) (by kernel_rfl) (Or.inl ⟨by rfl,?_⟩) (by assumption) ?_
      rotate_left
      ·intro w hSw
       try dsimp only at hSw
       go_simp
       first|done|with_reducible rfl
      try simp only [Act.put,List.setIfInBounds_toArray,List.set_cons_zero,List.set_cons_succ]
      refine wpAnyL_take (i:=10) (v:=?_) [] rfl (by kernel_rfl) (by kernel_rfl) (by kernel_rfl) (fun _ _ _ h=>h) (by kernel_rfl) (by kernel_rfl) (by kernel_rfl) (Or.inl ⟨by rfl,?_⟩) (by assumption) ?_
      rotate_left
      ·intro w hSw
       try dsimp only at hSw
       go_simp
       first|done|with_reducible rfl
      try simp only [Act.put,List.setIfInBounds_toArray,List.set_cons_zero,List.set_cons_succ]
      refine wpAnyL_take (i:=11) (v:=?_) [] rfl (by kernel_rfl) (by kernel_rfl) (by kernel_rfl) (fun _ _ _ h=>h) (by kernel_rfl) (by kernel_rfl) (by kernel_rfl) (Or.inl ⟨by rfl,?_⟩) (by assumption) ?_
      rotate_left
      ·intro w hSw
       try dsimp only at hSw
       go_simp
       first|done|with_reducible rfl
      try simp only [Act.put,List.setIfInBounds_toArray,List.set_cons_zero,List.set_cons_succ]
      have bA:Below V2.heap.size V2 (V2.alloc (.cells #[.int .i64 0,.int .i64 0,.int .i64 0,.int .i64 0,.int .i64 0] 39)):=(Below.refl _ V2).alloc (Nat.le_refl _) _
      refine wpAnyL_one (i:=12) (by kernel_rfl) rfl (fun K hK=>?_)
      go_simp
      refine hK.out _ _ (K23.out _ (BV.out.call (bel_in HB2.out bA)) (bel_in RV.out (bel_in HB2.out bA))) (fun hHeld=>?_)
      clear hK K
      try simp only [Act.put,List.setIfInBounds_toArray,List.set_cons_zero,List.set_cons_succ]
      obtain ⟨V3,hV3⟩:∃X,X=V2.alloc (.cells #[.int .i64 0,.int .i64 0,.int .i64 0,.int .i64 0,.int .i64 0] 39):=⟨_,rfl⟩
      rw [←hV3]
      rw [←hV3] at bA hHeld
      have hz0:V3.heap[V2.heap.size]?=some (.cells #[.int .i64 0,.int .i64 0,.int .i64 0,.int .i64 0,.int .i64 0] 39 (0,0)):=by rw [hV3];exact heap_alloc_new V2 _
      clear hV3
      have r0:=blk5_cell hz0 0
      have r1:=blk5_cell hz0 1
      have r2:=blk5_cell hz0 2
      have r3:=blk5_cell hz0 3
      have r4:=blk5_cell hz0 4
      have fr0:=blk5_frozen hz0 0
      have fr1:=blk5_frozen hz0 1
      have fr2:=blk5_frozen hz0 2
      have fr3:=blk5_frozen hz0 3
      have fr4:=blk5_frozen hz0 4
      simp at r0 r1 r2 r3 r4
      have bS:Below V2.heap.size V2 (((((V3.setCell ⟨V2.heap.size,0,none⟩ (.int .i64 0)).setCell ⟨V2.heap.size,1,none⟩ (.int .i64 n1)).setCell ⟨V2.heap.size,2,none⟩ (.int .i64 n2)).setCell ⟨V2.heap.size,3,none⟩ (.int .i64 0)).setCell ⟨V2.heap.size,4,none⟩ (.int .i64 n4)):=((((bA.setCell (Nat.le_refl _) _).setCell (Nat.le_refl _) _).setCell (Nat.le_refl _) _).setCell (Nat.le_refl _) _).setCell (Nat.le_refl _) _
      clear hHeld
      refine wpAnyL_one (i:=13) (by kernel_rfl) rfl (fun K hK=>?_)
      go_simp
      refine hK.out _ _ (K23.out _ (BV.out.call (bel_in HB2.out bS)) (bel_in RV.out (bel_in HB2.out bS))) (fun hHeld=>?_)
      clear hK K
      try simp only [Act.put,List.setIfInBounds_toArray,List.set_cons_zero,List.set_cons_succ]
      clear r0 r1 r2 r3 r4 fr0 fr1 fr2 fr3 fr4
      refine wpAnyL_last (by kernel_rfl) rfl (by kernel_rfl) (fun K hK=>?_)
      go_simp
      refine hK.out _ _ ?_
      clear hK K
      refine NoPanic.normal ?_
      obtain ⟨VF,hVF⟩:∃X,X=(((((V3.setCell ⟨V2.heap.size,0,none⟩ (.int .i64 0)).setCell ⟨V2.heap.size,1,none⟩ (.int .i64 n1)).setCell ⟨V2.heap.size,2,none⟩ (.int .i64 n2)).setCell ⟨V2.heap.size,3,none⟩ (.int .i64 0)).setCell ⟨V2.heap.size,4,none⟩ (.int .i64 n4)):=⟨_,rfl⟩
      rw [←hVF]
      have BF:=Lib.hid (show Bx W5 cb VF ⟨0,m1,m2,0,m4⟩ from by rw [hVF];exact BV.out.call (bel_in HB2.out bS))
      have ZF:=Lib.hid (show VF.heap[V2.heap.size]?=some (.cells #[.int .i64 0,.int .i64 n1,.int .i64 n2,.int .i64 0,.int .i64 n4] 39 (0,0)) from by rw [hVF];exact blk5_set (blk5_set (blk5_set (blk5_set (blk5_set hz0 0 _) 1 _) 2 _) 3 _) 4 _)
      clear hVF hz0 hHeld
      generalize V2.heap.size=qb at ZF ⊢
      have z0:=blk5_cell ZF.out 0
      have z1:=blk5_cell ZF.out 1
      have z2:=blk5_cell ZF.out 2
      have z3:=blk5_cell ZF.out 3
      have z4:=blk5_cell ZF.out 4
      simp at z0 z1 z2 z3 z4
      obtain ⟨y0,y1,y2,y3,y4⟩:=BF.out.cells
      simp only at y0 y1 y2 y3 y4
      have yf0:=BF.out.free 0
      have yf1:=BF.out.free 1
      have yf2:=BF.out.free 2
      have yf3:=BF.out.free 3
      have yf4:=BF.out.free 4
      have FIN:=Lib.hid (BF.out.set5 ⟨0,n1,n2,0,n4⟩)
      clear BV BF ZF
      go_wp2
      go_roundw
      case rel=>exact ⟨k+1+1,by omega,by go_num,NA,by rw [H1.out,H2.out,H4.out];exact FIN.out⟩
      case measure=>simp [intOf];omega
     ·skip
      have bA:Below V.heap.size V (V.alloc (.cells #[.int .i64 0,.int .i64 0,.int .i64 0,.int .i64 0,.int .i64 0] 39)):=(Below.refl _ V).alloc (Nat.le_refl _) _
      go_simp
      refine hK.out _ _ (K23.out _ (BV.out.call bA) (bel_in RV.out bA)) (fun hHeld=>?_)
      clear hK K
      try simp only [Act.put,List.setIfInBounds_toArray,List.set_cons_zero,List.set_cons_succ]
      refine wpAnyL_one (i:=8) (by kernel_rfl) rfl (fun K hK=>?_)
      go_simp
      refine (KJ.out (V.alloc (.cells #[.int .i64 0,.int .i64 0,.int .i64 0,.int .i64 0,.int .i64 0] 39))).mono ?_
      rintro e V2 ⟨rfl,hb⟩
      have HB2:=Lib.hid (bel_in bA hb)
      have hz0:V2.heap[V.heap.size]?=some (.cells #[.int .i64 0,.int .i64 0,.int .i64 0,.int .i64 0,.int .i64 0] 39 (0,0)):=(hb.block _ (lt_of_heap (heap_alloc_new V (.cells #[.int .i64 0,.int .i64 0,.int .i64 0,.int .i64 0,.int .i64 0] 39)))).trans (heap_alloc_new V _)
      clear hb
      go_wp2_with fail
      refine hK.out _ _ (K23.out _ (BV.out.call HB2.out) (bel_in RV.out HB2.out)) (fun hHeld=>?_)
      clear hK K
      try simp only [Act.put,List.setIfInBounds_toArray,List.set_cons_zero,List.set_cons_succ]
      refine wpAnyL_take (i:=9) (v:=?_) [] rfl (by kernel_rfl) (by kernel_rfl) (by kernel_rfl) (fun _ _ _ h=>h) (by kernel_rfl) (by kernel_rfl) (by kernel_rfl) (Or.inl ⟨by rfl,?_⟩) (by assumption) ?_
      rotate_left
      ·intro w hSw
       try dsimp only at hSw
       go_simp
       first|done|with_reducible rfl
      try simp only [Act.put,List.setIfInBounds_toArray,List.set_cons_zero,List.set_cons_succ]
      refine wpAnyL_take (i:=10) (v:=?_) [] rfl (by kernel_rfl) (by kernel_rfl) (by kernel_rfl) (fun _ _ _ h=>h) (by kernel_rfl) (by kernel_rfl) (by kernel_rfl) (Or.inl ⟨by rfl,?_⟩) (by assumption) ?_
      rotate_left
      ·intro w hSw
       try dsimp only at hSw
       go_simp
       first|done|with_reducible rfl
      try simp only [Act.put,List.setIfInBounds_toArray,List.set_cons_zero,List.set_cons_succ]
      refine wpAnyL_take (i:=11) (v:=?_) [] rfl (by kernel_rfl) (by kernel_rfl) (by kernel_rfl) (fun _ _ _ h=>h) (by kernel_rfl) (by kernel_rfl) (by kernel_rfl) (Or.inl ⟨by rfl,?_⟩) (by assumption) ?_
      rotate_left
      ·intro w hSw
       try dsimp only at hSw
       go_simp
       first|done|with_reducible rfl
      try simp only [Act.put,List.setIfInBounds_toArray,List.set_cons_zero,List.set_cons_succ]
      have r0:=blk5_cell hz0 0
      have r1:=blk5_cell hz0 1
      have r2:=blk5_cell hz0 2
      have r3:=blk5_cell hz0 3
      have r4:=blk5_cell hz0 4
      have fr0:=blk5_frozen hz0 0
      have fr1:=blk5_frozen hz0 1
      have fr2:=blk5_frozen hz0 2
      have fr3:=blk5_frozen hz0 3
      have fr4:=blk5_frozen hz0 4
      simp at r0 r1 r2 r3 r4
      have bS:Below V.heap.size V (((((V2.setCell ⟨V.heap.size,0,none⟩ (.int .i64 0)).setCell ⟨V.heap.size,1,none⟩ (.int .i64 n1)).setCell ⟨V.heap.size,2,none⟩ (.int .i64 n2)).setCell ⟨V.heap.size,3,none⟩ (.int .i64 0)).setCell ⟨V.heap.size,4,none⟩ (.int .i64 n4)):=((((HB2.out.setCell (Nat.le_refl _) _).setCell (Nat.le_refl _) _).setCell (Nat.le_refl _) _).setCell (Nat.le_refl _) _).setCell (Nat.le_refl _) _
      refine wpAnyL_one (i:=13) (by kernel_rfl) rfl (fun K hK=>?_)
      go_simp
      refine hK.out _ _ (K23.out _ (BV.out.call bS) (bel_in RV.out bS)) (fun hHeld=>?_)
      clear hK K
      try simp only [Act.put,List.setIfInBounds_toArray,List.set_cons_zero,List.set_cons_succ]
      clear r0 r1 r2 r3 r4 fr0 fr1 fr2 fr3 fr4
      refine wpAnyL_last (by kernel_rfl) rfl (by kernel_rfl) (fun K hK=>?_)
      go_simp
      refine hK.out _ _ ?_
      clear hK K
      refine NoPanic.normal ?_
      obtain ⟨VF,hVF⟩:∃X,X=(((((V2.setCell ⟨V.heap.size,0,none⟩ (.int .i64 0)).setCell ⟨V.heap.size,1,none⟩ (.int .i64 n1)).setCell ⟨V.heap.size,2,none⟩ (.int .i64 n2)).setCell ⟨V.heap.size,3,none⟩ (.int .i64 0)).setCell ⟨V.heap.size,4,none⟩ (.int .i64 n4)):=⟨_,rfl⟩
      rw [←hVF]
      have BF:=Lib.hid (show Bx W5 cb VF ⟨0,m1,m2,0,m4⟩ from by rw [hVF];exact BV.out.call (bS))
      have ZF:=Lib.hid (show VF.heap[V.heap.size]?=some (.cells #[.int .i64 0,.int .i64 n1,.int .i64 n2,.int .i64 0,.int .i64 n4] 39 (0,0)) from by rw [hVF];exact blk5_set (blk5_set (blk5_set (blk5_set (blk5_set hz0 0 _) 1 _) 2 _) 3 _) 4 _)
      clear hVF hz0 hHeld
      generalize V.heap.size=qb at ZF ⊢
      have z0:=blk5_cell ZF.out 0
      have z1:=blk5_cell ZF.out 1
      have z2:=blk5_cell ZF.out 2
      have z3:=blk5_cell ZF.out 3
      have z4:=blk5_cell ZF.out 4
      simp at z0 z1 z2 z3 z4
      obtain ⟨y0,y1,y2,y3,y4⟩:=BF.out.cells
      simp only at y0 y1 y2 y3 y4
      have yf0:=BF.out.free 0
      have yf1:=BF.out.free 1
      have yf2:=BF.out.free 2
      have yf3:=BF.out.free 3
      have yf4:=BF.out.free 4
      have FIN:=Lib.hid (BF.out.set5 ⟨0,n1,n2,0,n4⟩)
      clear BV BF ZF
      go_wp2
      go_roundw
      case rel=>exact ⟨k+1+1,by omega,by go_num,NA,by rw [H1.out,H2.out,H4.out];exact FIN.out⟩
      case measure=>simp [intOf];omega
  ·obtain rfl:k=s.length:=by omega
   have j1:¬(s.length:Int) < (s.length:Int):=by omega
   obtain ⟨r1,r2,r4⟩:=EQS.out (fun i hi=>HAD.out i hi hi)
   rw [r1,r2,r4] at HX
   obtain ⟨y0,y1,y2,y3,y4⟩:=HX.out.cells
   simp only at y0 y1 y2 y3 y4
   obtain ⟨a0,a1,a2,a3,a4⟩:=KX.out wr (bel_in K8.out HW8.out)
   obtain ⟨ge0,ge1,ge2,ge3,ge4⟩:=GE.out
   have FIN:=Lib.hid (bel_in B5.out (bel_in C6.out (bel_in D8.out HW8.out)))
   clear r1 r2 r4
   go_wp2
   go_ret
   exact ⟨by first|rfl|simp,FIN.out⟩
end Go.Proofs.YtpilmhoakopcaaaGreatDoor
