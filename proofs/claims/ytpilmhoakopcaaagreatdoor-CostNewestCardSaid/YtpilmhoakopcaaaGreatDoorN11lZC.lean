/- What the laws rest on: N11l. -/
import Derived.Test.YtpilmhoakopcaaaGreatDoorQAVZC
set_option maxRecDepth 100000
set_option linter.unusedVariables false
set_option linter.unusedSimpArgs false
namespace Go.Proofs.YtpilmhoakopcaaaGreatDoor
open Go.RowKit Go.Sort
theorem bhd_len {U:List Ent} {here:List Int} {pn:List Pn} {i:Nat} (hi:i < (alw U here pn).length):bhd U here pn (alw U here pn)[i]=((bhdL U (alw U here pn) (alw U here pn)[i]).length:Int):=by
 unfold bhd
 rw [if_pos ((alw_set U here pn).1 _ (List.getElem_mem hi))]
theorem newest_at {U:List Ent} {here:List Int} {pn:List Pn} (hU:Srt9 U) {i:Nat} (hi:i < (alw U here pn).length):(∀h:i+1 < (alw U here pn).length,(entA U (alw U here pn)[i+1]).n=(entA U (alw U here pn)[i]).n→bhd U here pn (alw U here pn)[i]=bhd U here pn (alw U here pn)[i+1]+1)∧((¬∃h:i+1 < (alw U here pn).length,(entA U (alw U here pn)[i+1]).n=(entA U (alw U here pn)[i]).n)→bhd U here pn (alw U here pn)[i]=0):=by
 obtain ⟨h1,h2⟩:=bhd_next hU (alw_set U here pn) hi
 refine ⟨fun h e=>?_,fun h=>?_⟩
 ·rw [bhd_len hi,bhd_len h,h1 h e];omega
 ·rw [bhd_len hi,h2 h];rfl
set_option maxHeartbeats 32000000 in
theorem newest11 (A:Option Addr) (n0 c:Nat) (L:List Ent) (A':Option Addr) (n1 c':Nat) (m:List Hr) (Apn:Option Addr) (np cp:Nat) (pn:List Pn) (w:World) (h:rdEnts w (lt_ w.heap.size) L [.slice A n0 c]) (h':rdHrs w (lt_ w.heap.size) m [.slice A' n1 c']) (hpn:rdPns w (lt_ w.heap.size) pn [.slice Apn np cp]) (E:EnvR w) :
  Calls Tryz.prog 6 #[.slice A n0 c,.slice A' n1 c',.slice Apn np cp] w fun e w'=>e=.returned (.bool true)∧Below w.heap.size w w':=by
 obtain ⟨rfl,hnc,hcm,-⟩:=rdEnts_at h
 obtain ⟨rfl,hnc',hcm',-⟩:=rdHrs_at h'
 have hcx:c≤9223372036854775807:=hcm
 have hcy:c'≤9223372036854775807:=hcm'
 have HE:=Lib.hid E
 have H:=Lib.hid (fun (W:World) (hb:Below w.heap.size w W)=>(rdEnts_good.up (rdEnts_good.below h hb) hb.size:rdEnts W (lt_ W.heap.size) L [.slice A L.length c]))
 have H':=Lib.hid (fun (W:World) (hb:Below w.heap.size w W)=>(rdHrs_good.up (rdHrs_good.below h' hb) hb.size:rdHrs W (lt_ W.heap.size) m [.slice A' m.length c']))
 obtain ⟨rfl,hpnc,hpnm,-⟩:=rdPns_at hpn
 have hpnx:cp≤9223372036854775807:=hpnm
 have HP:=Lib.hid (fun (W:World) (hb:Below w.heap.size w W)=>(rdPns_good.up (rdPns_good.below hpn hb) hb.size:rdPns W (lt_ W.heap.size) pn [.slice Apn pn.length cp]))
 clear h h' hcm hcm' E hpn hpnm
 go_enter Tryz.func6,Tryz.ntmps6
 go_wp2_with fail
 refine (shown11_any w HE.out).mono ?_
 rintro e w1 ⟨rfl,hb⟩
 have B2:=Lib.hid hb
 clear hb
 go_wp2_with fail
 refine (small11_any A L.length c L A' m.length c' m w1 (H.out w1 B2.out) (H'.out w1 B2.out)).mono ?_
 rintro e w3 ⟨⟨ok,rfl,hfw⟩,hb⟩
 have B4:=Lib.hid (bel_in B2.out hb)
 clear hb
 go_wp2_with fail
 refine (wishes11_any Apn pn.length cp pn w3 (HP.out w3 B4.out)).mono ?_
 rintro e w2 ⟨⟨ok2,rfl,hask⟩,rfl⟩
 cases ok
 ·go_wp2
  go_ret
  exact ⟨rfl,B4.out⟩
 have FW:=Lib.hid (hfw rfl)
 clear hfw
 cases ok2
 ·go_wp2
  go_ret
  exact ⟨rfl,B4.out⟩
 have PK:=Lib.hid (hask rfl)
 clear hask
 have KN:=Lib.hid (new9_any A L.length c L A' m.length c' m w3 (H.out w3 B4.out) (H'.out w3 B4.out) (fun x hx=>(FW.out.1.2 x hx).sz) (fun y hy=>(FW.out.2.2 y hy).sz) (HE.out.below B4.out))
 go_wp2_with fail
 refine KN.out.mono ?_
 rintro e w4 ⟨hnr,hb⟩
 have B5:=Lib.hid (bel_in B4.out hb)
 clear hb KN
 by_cases hboth:L.all rgtE=true∧rightH m=true
 rotate_left
 ·obtain rfl:=hnr.1 hboth
  clear hboth hnr
  go_wp2
  go_ret
  exact ⟨rfl,B5.out⟩
 by_cases hmany:64 < (entU L (m.map fun y=>y.e)).length
 ·obtain rfl:=hnr.2.1 hboth hmany
  clear hboth hnr hmany
  go_wp2
  go_ret
  exact ⟨rfl,B5.out⟩
 obtain ⟨b,rfl,hup⟩:=hnr.2.2 hboth hmany
 have UFF:=Lib.hid (uk_of hboth FW.out hmany)
 generalize entU L (m.map fun y=>y.e)=U at *
 have HU:=Lib.hid (fun (W:World) (hb:Below w4.heap.size w4 W)=>(UFF.out.uf.uq hup).below hb)
 have HEU:=Lib.hid (fun (W:World) (hb:Below w4.heap.size w4 W)=>HE.out.below (bel_in B5.out hb))
 clear hnr hboth hmany hup
 have SI:=UFF.out.ins
 have UL:=Lib.hid UFF.out.uf.len
 have HPN:=Lib.hid (fun (W:World) (hb:Below w4.heap.size w4 W)=>HP.out W (bel_in B5.out hb))
 have KA:=Lib.hid (callow_any b U m Apn pn.length cp pn w4 (HU.out w4 (Below.refl _ _)) (HPN.out w4 (Below.refl _ _)))
 have KE:=Lib.hid (fun (W:World) (hb:Below w4.heap.size w4 W)=>entries9_any b U m W (HU.out W hb).up (by have:=UL.out;omega))
 have KI:=Lib.hid (fun (W:World) (hb:Below w4.heap.size w4 W)=>inst9_any b U m W (HU.out W hb).up (HU.out W hb).hm (HU.out W hb).hz)
 have LE9:=Lib.hid (fun (W:World) (hb:Below w4.heap.size w4 W)=>len9_any b U m W (HU.out W hb).up)
 have KB:=Lib.hid (fun (p:Int) (W:World) (hb:Below w4.heap.size w4 W)=>cbehind_any b U m Apn pn.length cp pn p W (HU.out W hb) (HPN.out W hb) UFF.out.uf.nm)
 have NA:=Lib.hid (fun (i:Nat) hi=>newest_at (pn:=pn) (here:=insU U m) UFF.out.uf.srt (i:=i) hi)
 have AS:=Lib.hid (alw_set U (insU U m) pn)
 have AL:=Lib.hid (show (alw U (insU U m) pn).length≤200 from Nat.le_trans (ran_len _ _) (by have:=UL.out;omega))
 have AH:=Lib.hid (fun (p:Int) (hp:p ∈ insU U m)=>alw_here (pn:=pn) SI hp)
 have HS:=Lib.hid SI.1
 have BE:=Lib.hid (fun (p:Int)=>show 0≤bhd U (insU U m) pn p∧bhd U (insU U m) pn p≤64 from ⟨bhd_ge _ _ _ _,by have:=bhd_le (U:=U) (here:=insU U m) (pn:=pn) p;have:=UL.out;omega⟩)
 have BO:=Lib.hid (show bhd U (insU U m) pn (-1)=0∧bhd U (insU U m) pn (U.length:Int)=0 from ⟨bhd_out (by omega),bhd_out (by omega)⟩)
 generalize insU U m=here at *
 generalize hmay:alw U here pn=may at *
 clear SI hmay
 go_wp2_with fail
 refine KA.out.mono ?_
 rintro e w5 ⟨⟨Am,cm,rfl,hrm⟩,hb⟩
 have D5:=Lib.hid hb
 obtain ⟨-,hmc,hmm,-⟩:=rdInts_at hrm
 have hmm':cm≤9223372036854775807:=hmm
 have HM:=Lib.hid (fun (W:World) (hx:Below w5.heap.size w5 W)=>(rdInts_good.up (rdInts_good.below hrm hx) hx.size:rdInts W (lt_ W.heap.size) may [.slice Am may.length cm]))
 clear hb hrm hmm KA
 go_wp2_with fail
 refine (KE.out w5 D5.out).mono ?_
 rintro e w6 ⟨⟨Ae,ce,rfl,hre⟩,hb⟩
 have D6:=Lib.hid (bel_in D5.out hb)
 have G6:=Lib.hid hb
 obtain ⟨-,hec,hem,-⟩:=rdEnts_at hre
 have hem':ce≤9223372036854775807:=hem
 have HEE:=Lib.hid (fun (W:World) (hx:Below w6.heap.size w6 W)=>(rdEnts_at (rdEnts_good.up (rdEnts_good.below hre hx) hx.size)).2.2.2)
 have mixed:Tryz.prog.follows .mixedOrders=true:=by kernel_rfl
 clear hb hre hem KE
 go_wp2
 go_loopw [14] (fun i wr=>∃k:Nat,k≤may.length∧i=.int .i64 k∧Below w6.heap.size w6 wr) (fun i _=>may.length - (intOf i).toNat)
 case atStart=>exact ⟨0,Nat.zero_le _,rfl,Below.refl _ _⟩
 case round=>
  obtain ⟨k,hk,rfl,hbel⟩:=hrel
  have HB:=Lib.hid hbel
  clear hbel
  by_cases hlt:k < may.length
  ·have HMR:=Lib.hid (fun (W:World) (hx:Below w6.heap.size w6 W)=>(rdInts_at (HM.out W (bel_in G6.out hx))).2.2.2)
   obtain ⟨ads,ea,-,c0⟩:=HMR.out wr HB.out k hlt
   obtain ⟨t0,t1⟩:=AS.out.1 _ (List.getElem_mem hlt)
   have i0:(0:Int)≤(k:Int):=by omega
   have i1:(k:Int) < (may.length:Int):=by omega
   have al:=AL.out
   have iw:IntKind.i64.wrap ((k:Int)+1)=(k:Int)+1:=IntWalk.i64_in _ (by omega)
   obtain ⟨N1,N2⟩:=NA.out k hlt
   obtain ⟨j,hj⟩:=Int.eq_ofNat_of_zero_le t0
   have HJK:=Lib.hid hj
   rw [hj] at c0 t1 N1 N2
   have hjl:j < U.length:=by omega
   rw [entA_at hjl] at N1 N2
   have p0:(0:Int)≤(j:Int):=by omega
   have p1:(j:Int) < (U.length:Int):=by omega
   obtain ⟨ade,A1,c1,A2,c2,A3,c3,A4,c4,eb,-,-,u0,-⟩:=HEE.out wr HB.out j hjl
   subst ea eb
   have KBj:=Lib.hid (fun (W:World) (hx:Below w6.heap.size w6 W)=>KB.out (j:Int) W (bel_in D6.out hx))
   have HN1:=Lib.hid N1
   have HN2:=Lib.hid N2
   obtain ⟨be0,be1⟩:=BE.out (j:Int)
   have CK:=Lib.hid (fun (W:World) (hx:Below w6.heap.size w6 W)=>show W.cell? (ads.add k)=some (.int .i64 (j:Int)) from by
    obtain ⟨ad',ea,-,c0⟩:=HMR.out W hx k hlt
    obtain rfl:ads=ad':=Option.some.inj ea
    rw [←HJK.out];exact c0)
   have ASC:=Lib.hid (fun (k':Nat) (hkk:k=k'+1)=>show ∃i':Int,may[k']'(by omega)=i'∧i' < (j:Int) from ⟨_,rfl,by
    have:=(List.pairwise_iff_getElem.1 AS.out.2) k' k (by omega) hlt (by omega)
    rw [HJK.out] at this;exact this⟩)
   have CP:=Lib.hid (fun (W:World) (hx:Below w6.heap.size w6 W) (k':Nat) (hkk:k=k'+1)=>show W.cell? (ads.add k')=some (.int .i64 (may[k']'(by omega))) from by
    obtain ⟨ad',ea,-,c0⟩:=HMR.out W hx k' (by omega)
    obtain rfl:ads=ad':=Option.some.inj ea
    exact c0)
   have BD:=Lib.hid (fun dd os=>below_regrown wr dd os)
   have zc:=fun dd os=>cell_regrown (w:=wr) c0 dd os
   have ve:=fun dd os=>cell_regrown (w:=wr) u0 dd os
   clear N1 N2 hj t0
   by_cases hn:k+1 < may.length
   ·obtain ⟨ad',ea,-,d0⟩:=HMR.out wr HB.out (k+1) hn
    obtain rfl:ads=ad':=Option.some.inj ea
    obtain ⟨t0',t1'⟩:=AS.out.1 _ (List.getElem_mem hn)
    obtain ⟨j',hj'⟩:=Int.eq_ofNat_of_zero_le t0'
    have EQN:=Lib.hid (fun (e:(entA U may[k+1]).n=U[j].n)=>HN1.out hn e)
    have NEN:=Lib.hid (fun (e:(entA U may[k+1]).n≠U[j].n)=>HN2.out (fun ⟨_,q⟩=>e q))
    rw [hj'] at d0 t1' EQN NEN
    have hjl':j' < U.length:=by omega
    rw [entA_at hjl'] at EQN NEN
    obtain ⟨ade',E1,e1,E2,e2,E3,e3,E4,e4,ea2,-,-,v0,-⟩:=HEE.out wr HB.out j' hjl'
    obtain rfl:ade=ade':=Option.some.inj ea2
    have p2:(0:Int)≤(j':Int):=by omega
    have p3:(j':Int) < (U.length:Int):=by omega
    have m0:(0:Int)≤(k:Int)+1:=by omega
    have m1:(k:Int)+1 < (may.length:Int):=by omega
    have HJ2:=Lib.hid hj'
    have CK1:=Lib.hid (fun (W:World) (hx:Below w6.heap.size w6 W)=>show W.cell? ⟨ads.block,ads.off+(k+1),none⟩=some (.int .i64 (j':Int)) from by
     obtain ⟨ad',ea,-,c0⟩:=HMR.out W hx (k+1) hn
     obtain rfl:ads=ad':=Option.some.inj ea
     rw [HJ2.out] at c0;exact c0)
    have zd:=fun dd os=>cell_regrown (w:=wr) (show wr.cell? ⟨ads.block,ads.off+(k+1),none⟩=some (.int .i64 (j':Int)) from d0) dd os
    have vd:=fun dd os=>cell_regrown (w:=wr) v0 dd os
    have KB2:=Lib.hid (fun (W:World) (hx:Below w6.heap.size w6 W)=>KB.out (j':Int) W (bel_in D6.out hx))
    obtain ⟨bf0,bf1⟩:=BE.out (j':Int)
    have en:=str_eq U[j'].n U[j].n
    clear ea ea2 hj' t0' d0 v0
    generalize U[j'].n=nj' at *
    generalize U[j].n=nj at *
    by_cases he:nj'=nj
    ·rw [decide_eq_true he] at en
     have EE:=Lib.hid (EQN.out he)
     clear he EQN NEN
     go_wp2_with fail
     refine wp_region_quiet_below mixed (by kernel_rfl) ?_
     repeat (go_big_quiet_step (fail))
     refine wpQuiet_nil ?_
     intro W3 hw3
     have BX:=Lib.hid (show Below wr.heap.size wr W3 from by obtain ⟨pp,e⟩:=hw3;rw [e];exact BD.out pp.d pp.os)
     have B3:=Lib.hid (bel_in HB.out BX.out)
     have q1:=CK1.out W3 B3.out
     clear hw3 BD zc ve zd vd c0 u0
     go_wp2_with fail
     refine (KB2.out W3 B3.out).mono ?_
     rintro e w8 ⟨rfl,hb⟩
     have B8:=Lib.hid (bel_in B3.out hb)
     clear hb q1
     go_upto_region 17 with fail
     have EV:=Lib.hid (show bhd U here pn (j:Int)=bhd U here pn (j':Int)+1 from EE.out)
     have K17:=Lib.hid (KBj.out)
     simp only [EV.out] at K17
     have q0:=CK.out w8 B8.out
     have P1:=Lib.hid (fun dd os=>K17.out _ (bel_in B8.out (below_regrown w8 dd os)))
     have BD7:=Lib.hid (fun dd os=>below_regrown w8 dd os)
     rcases k with _|k
     ·have zq:=fun dd os=>cell_regrown (w:=w8) q0 dd os
      have zq':=fun dd os=>cell_regrown (w:=w8) (show w8.cell? ads=some (.int .i64 (j:Int)) from q0) dd os
      go_wp2_with fail
      refine wp_region_quiet_below mixed (by kernel_rfl) ?_
      repeat (go_big_quiet_step (first|(go_at_call 22;refine Calls.regrown_of (P1.out _ _))))
      refine wpQuiet_nil ?_
      intro W7 hw7
      have BX7:=Lib.hid (show Below w8.heap.size w8 W7 from by obtain ⟨pp,e⟩:=hw7;rw [e];exact BD7.out pp.d pp.os)
      have BN:=Lib.hid (bel_in B8.out BX7.out)
      clear hw7 BD7 zq zq' P1
      go_wp2
      go_roundw
      case rel=>exact ⟨0+1,by omega,by go_num,BN.out⟩
      case measure=>simp [intOf];omega
     ·have cp:=CP.out w8 B8.out k rfl
      obtain ⟨i',hi',hij⟩:=ASC.out k rfl
      rw [hi'] at cp
      have zq:=fun dd os=>cell_regrown (w:=w8) (show w8.cell? ⟨ads.block,ads.off+(k+1),none⟩=some (.int .i64 (j:Int)) from q0) dd os
      have zp:=fun dd os=>cell_regrown (w:=w8) cp dd os
      have k2:(0:Int)≤(k:Int):=by omega
      have k3:(k:Int) < (may.length:Int):=by omega
      have k4:(0:Int) < (k:Int)+1:=by omega
      have k5:IntKind.i64.wrap (k:Int)=(k:Int):=IntWalk.i64_in _ (by omega)
      have k6:(0:Int)≤(k:Int)+1:=by omega
      have k7:(k:Int)+1 < (may.length:Int):=by omega
      have hij2:¬(j:Int)≤i':=by omega
      have hij3:decide ((j:Int)≤i')=false:=decide_eq_false hij2
      go_wp2_with fail
      refine wp_region_quiet_below mixed (by kernel_rfl) ?_
      repeat (go_big_quiet_step (first|(go_at_call 22;refine Calls.regrown_of (P1.out _ _))))
      refine wpQuiet_nil ?_
      intro W7 hw7
      have BX7:=Lib.hid (show Below w8.heap.size w8 W7 from by obtain ⟨pp,e⟩:=hw7;rw [e];exact BD7.out pp.d pp.os)
      have BN:=Lib.hid (bel_in B8.out BX7.out)
      clear hw7 BD7 zq zp P1
      go_wp2
      go_roundw
      case rel=>exact ⟨k+1+1,by omega,by go_num,BN.out⟩
      case measure=>simp [intOf];omega
    ·rw [decide_eq_false he] at en
     have EE:=Lib.hid (NEN.out he)
     clear he EQN NEN
     go_wp2_with fail
     refine wp_region_quiet_below mixed (by kernel_rfl) ?_
     repeat (go_big_quiet_step (fail))
     refine wpQuiet_nil ?_
     intro W3 hw3
     have BX:=Lib.hid (show Below wr.heap.size wr W3 from by obtain ⟨pp,e⟩:=hw3;rw [e];exact BD.out pp.d pp.os)
     have B3:=Lib.hid (bel_in HB.out BX.out)
     clear hw3 BD zc ve zd vd c0 u0
     go_upto_region 17 with fail
     have EV:=Lib.hid (show bhd U here pn (j:Int)=0 from EE.out)
     have K17:=Lib.hid (KBj.out)
     simp only [EV.out] at K17
     have q0:=CK.out W3 B3.out
     have P1:=Lib.hid (fun dd os=>K17.out _ (bel_in B3.out (below_regrown W3 dd os)))
     have BD7:=Lib.hid (fun dd os=>below_regrown W3 dd os)
     rcases k with _|k
     ·have zq:=fun dd os=>cell_regrown (w:=W3) q0 dd os
      have zq':=fun dd os=>cell_regrown (w:=W3) (show W3.cell? ads=some (.int .i64 (j:Int)) from q0) dd os
      go_wp2_with fail
      refine wp_region_quiet_below mixed (by kernel_rfl) ?_
      repeat (go_big_quiet_step (first|(go_at_call 22;refine Calls.regrown_of (P1.out _ _))))
      refine wpQuiet_nil ?_
      intro W7 hw7
      have BX7:=Lib.hid (show Below W3.heap.size W3 W7 from by obtain ⟨pp,e⟩:=hw7;rw [e];exact BD7.out pp.d pp.os)
      have BN:=Lib.hid (bel_in B3.out BX7.out)
      clear hw7 BD7 zq zq' P1
      go_wp2
      go_roundw
      case rel=>exact ⟨0+1,by omega,by go_num,BN.out⟩
      case measure=>simp [intOf];omega
     ·have cp:=CP.out W3 B3.out k rfl
      obtain ⟨i',hi',hij⟩:=ASC.out k rfl
      rw [hi'] at cp
      have zq:=fun dd os=>cell_regrown (w:=W3) (show W3.cell? ⟨ads.block,ads.off+(k+1),none⟩=some (.int .i64 (j:Int)) from q0) dd os
      have zp:=fun dd os=>cell_regrown (w:=W3) cp dd os
      have k2:(0:Int)≤(k:Int):=by omega
      have k3:(k:Int) < (may.length:Int):=by omega
      have k4:(0:Int) < (k:Int)+1:=by omega
      have k5:IntKind.i64.wrap (k:Int)=(k:Int):=IntWalk.i64_in _ (by omega)
      have k6:(0:Int)≤(k:Int)+1:=by omega
      have k7:(k:Int)+1 < (may.length:Int):=by omega
      have hij2:¬(j:Int)≤i':=by omega
      have hij3:decide ((j:Int)≤i')=false:=decide_eq_false hij2
      go_wp2_with fail
      refine wp_region_quiet_below mixed (by kernel_rfl) ?_
      repeat (go_big_quiet_step (first|(go_at_call 22;refine Calls.regrown_of (P1.out _ _))))
      refine wpQuiet_nil ?_
      intro W7 hw7
      have BX7:=Lib.hid (show Below W3.heap.size W3 W7 from by obtain ⟨pp,e⟩:=hw7;rw [e];exact BD7.out pp.d pp.os)
      have BN:=Lib.hid (bel_in B3.out BX7.out)
      clear hw7 BD7 zq zp P1
      go_wp2
      go_roundw
      case rel=>exact ⟨k+1+1,by omega,by go_num,BN.out⟩
      case measure=>simp [intOf];omega
   ·have hd:decide ((k:Int)+1 < (may.length:Int))=false:=decide_eq_false (by omega)
    have hdn:decide (k+1 < may.length)=false:=decide_eq_false hn
    have EE:=Lib.hid (HN2.out (fun ⟨q,_⟩=>hn q))
    go_wp2_with fail
    refine wp_region_quiet_below mixed (by kernel_rfl) ?_
    repeat (go_big_quiet_step (fail))
    refine wpQuiet_nil ?_
    intro W3 hw3
    have BX:=Lib.hid (show Below wr.heap.size wr W3 from by obtain ⟨pp,e⟩:=hw3;rw [e];exact BD.out pp.d pp.os)
    have B3:=Lib.hid (bel_in HB.out BX.out)
    clear hw3 BD zc ve c0 u0 hd hdn
    go_upto_region 17 with fail
    have EV:=Lib.hid (show bhd U here pn (j:Int)=0 from EE.out)
    have K17:=Lib.hid (KBj.out)
    simp only [EV.out] at K17
    have q0:=CK.out W3 B3.out
    have P1:=Lib.hid (fun dd os=>K17.out _ (bel_in B3.out (below_regrown W3 dd os)))
    have BD7:=Lib.hid (fun dd os=>below_regrown W3 dd os)
    rcases k with _|k
    ·have zq:=fun dd os=>cell_regrown (w:=W3) q0 dd os
     have zq':=fun dd os=>cell_regrown (w:=W3) (show W3.cell? ads=some (.int .i64 (j:Int)) from q0) dd os
     go_wp2_with fail
     refine wp_region_quiet_below mixed (by kernel_rfl) ?_
     repeat (go_big_quiet_step (first|(go_at_call 22;refine Calls.regrown_of (P1.out _ _))))
     refine wpQuiet_nil ?_
     intro W7 hw7
     have BX7:=Lib.hid (show Below W3.heap.size W3 W7 from by obtain ⟨pp,e⟩:=hw7;rw [e];exact BD7.out pp.d pp.os)
     have BN:=Lib.hid (bel_in B3.out BX7.out)
     clear hw7 BD7 zq zq' P1
     go_wp2
     go_roundw
     case rel=>exact ⟨0+1,by omega,by go_num,BN.out⟩
     case measure=>simp [intOf];omega
    ·have cp:=CP.out W3 B3.out k rfl
     obtain ⟨i',hi',hij⟩:=ASC.out k rfl
     rw [hi'] at cp
     have zq:=fun dd os=>cell_regrown (w:=W3) (show W3.cell? ⟨ads.block,ads.off+(k+1),none⟩=some (.int .i64 (j:Int)) from q0) dd os
     have zp:=fun dd os=>cell_regrown (w:=W3) cp dd os
     have k2:(0:Int)≤(k:Int):=by omega
     have k3:(k:Int) < (may.length:Int):=by omega
     have k4:(0:Int) < (k:Int)+1:=by omega
     have k5:IntKind.i64.wrap (k:Int)=(k:Int):=IntWalk.i64_in _ (by omega)
     have k6:(0:Int)≤(k:Int)+1:=by omega
     have k7:(k:Int)+1 < (may.length:Int):=by omega
     have hij2:¬(j:Int)≤i':=by omega
     have hij3:decide ((j:Int)≤i')=false:=decide_eq_false hij2
     go_wp2_with fail
     refine wp_region_quiet_below mixed (by kernel_rfl) ?_
     repeat (go_big_quiet_step (first|(go_at_call 22;refine Calls.regrown_of (P1.out _ _))))
     refine wpQuiet_nil ?_
     intro W7 hw7
     have BX7:=Lib.hid (show Below W3.heap.size W3 W7 from by obtain ⟨pp,e⟩:=hw7;rw [e];exact BD7.out pp.d pp.os)
     have BN:=Lib.hid (bel_in B3.out BX7.out)
     clear hw7 BD7 zq zp P1
     go_wp2
     go_roundw
     case rel=>exact ⟨k+1+1,by omega,by go_num,BN.out⟩
     case measure=>simp [intOf];omega
  ·obtain rfl:k=may.length:=by omega
   have j1:¬(may.length:Int) < (may.length:Int):=by omega
   go_wp2_with fail
   refine (KI.out wr (bel_in D6.out HB.out)).mono ?_
   rintro e w9 ⟨⟨Ai,ci,rfl,hri⟩,hb⟩
   have B9:=Lib.hid (bel_in HB.out hb)
   obtain ⟨-,hic,him,-⟩:=rdInts_at hri
   have him':ci≤9223372036854775807:=him
   have HI:=Lib.hid (fun (W:World) (hx:Below w9.heap.size w9 W)=>(rdInts_at (rdInts_good.up (rdInts_good.below hri hx) hx.size)).2.2.2)
   clear hb hri him KI HB
   go_wp2
   go_loopw [17] (fun i wq=>∃k:Nat,k≤here.length∧i=.int .i64 k∧Below w9.heap.size w9 wq) (fun i _=>here.length - (intOf i).toNat)
   case atStart=>exact ⟨0,Nat.zero_le _,rfl,Below.refl _ _⟩
   case round=>
    obtain ⟨k,hk,rfl,hbel⟩:=hrel
    have HB:=Lib.hid hbel
    have HB6:=Lib.hid (bel_in B9.out hbel)
    clear hbel
    by_cases hlt:k < here.length
    ·obtain ⟨adi,rfl,-,c0⟩:=HI.out wr HB.out k hlt
     obtain ⟨t0,t1⟩:=HS.out _ (List.getElem_mem hlt)
     have hmem:=AH.out _ (List.getElem_mem hlt)
     have i0:(0:Int)≤(k:Int):=by omega
     have i1:(k:Int) < (here.length:Int):=by omega
     obtain ⟨j,hj⟩:=Int.eq_ofNat_of_zero_le t0
     have HJK:=Lib.hid hj
     rw [hj] at c0 t1 hmem
     have hjl:j < U.length:=by omega
     have ul:=UL.out
     obtain ⟨r,hr⟩:=setL_last (l:=may) (p:=(j:Int)) (by omega) hmem
     rw [Int.toNat_natCast] at hr
     have CI:=Lib.hid (fun (W:World) (hx:Below wr.heap.size wr W)=>show W.cell? (adi.add k)=some (.int .i64 (j:Int)) from keep6 hx c0)
     have KSET:=Lib.hid (fun (V:World) (hx:Below w6.heap.size w6 V)=>show Calls Tryz.prog 13 #[.slice Am may.length cm,.int .i64 ((j:Int)+1)] V fun e w'=>(∃A' c',e=.returned (.slice (some A') (r.length+1) c')∧w'.cell? (A'.add r.length)=some (.int .i64 (j:Int)))∧Below V.heap.size V w' from by
      have h:=set11_any Am may.length cm may (j+1) V (HM.out V (bel_in G6.out hx)) (by omega)
      rw [hr,List.length_append,List.length_singleton,show (((j+1:Nat)):Int)=(j:Int)+1 by omega] at h
      refine h.mono ?_
      rintro e w' ⟨⟨A',c',he,hrr⟩,hb⟩
      obtain ⟨ad,ha,-,hc⟩:=(rdInts_at hrr).2.2.2 r.length (by rw [List.length_append,List.length_singleton];omega)
      subst ha
      exact ⟨⟨ad,c',he,by rw [hc,List.getElem_append_right (Nat.le_refl _)];simp⟩,hb⟩)
     have rl200:r.length≤1000:=by
      have:=setL_len10 may (j+1)
      rw [hr,List.length_append,List.length_singleton] at this;omega
     generalize r.length=rl at *
     have iw:IntKind.i64.wrap ((j:Int)+1)=(j:Int)+1:=IntWalk.i64_in _ (by omega)
     have iw2:IntKind.i64.wrap (rl:Int)=(rl:Int):=IntWalk.i64_in _ (by omega)
     have iz1:((rl:Int)+1==0)=false:=by rw [beq_eq_false_iff_ne];omega
     have iz2:¬((rl:Int)+1=0):=by omega
     have iz3:(0:Int)≤(rl:Int):=by omega
     have iz4:(rl:Int) < (rl:Int)+1:=by omega
     have tj:((j:Int) != (j:Int))=false:=by simp
     clear hj t0 hmem hr c0
     go_upto_region 23 with fail
     refine wp_region_noPanic ?_
     refine wp_region_D (fun V=>V.cell? (adi.add k)=some (.int .i64 (j:Int))) 33 (by kernel_rfl) (w0:=wr) (Dr.refl _) (fun V hV=>CI.out V (hV.below _)) (fun V hV hHeld=>?_)
     have RV:=Lib.hid (hV.below wr.heap.size)
     clear hV
     refine wpAnyL_take (i:=0) (v:=?_) [9,8,7,6] rfl (by kernel_rfl) (by kernel_rfl) (by kernel_rfl) (fun _ _ _ h=>h) (by kernel_rfl) (by kernel_rfl) (by kernel_rfl) (Or.inl ⟨by rfl,?_⟩) (by assumption) ?_
     rotate_left
     ·intro w hSw
      try dsimp only at hSw
      go_simp
      first|done|with_reducible rfl
     try simp only [Act.put,List.setIfInBounds_toArray,List.set_cons_zero,List.set_cons_succ,List.getElem_toArray,List.getElem_cons_zero,List.getElem_cons_succ]
     refine wpAnyL_take (i:=1) (v:=?_) [9,8,7,6,5,4,3] rfl (by kernel_rfl) (by kernel_rfl) (by kernel_rfl) (fun _ _ _ h=>h) (by kernel_rfl) (by kernel_rfl) (by kernel_rfl) (Or.inl ⟨by rfl,?_⟩) (by assumption) ?_
     rotate_left
     ·intro w hSw
      try dsimp only at hSw
      go_simp
      first|done|with_reducible rfl
     try simp only [Act.put,List.setIfInBounds_toArray,List.set_cons_zero,List.set_cons_succ,List.getElem_toArray,List.getElem_cons_zero,List.getElem_cons_succ]
     refine wpAnyL_take (i:=2) (v:=?_) [9,8,7,6,5,4,3] rfl (by kernel_rfl) (by kernel_rfl) (by kernel_rfl) (fun _ _ _ h=>h) (by kernel_rfl) (by kernel_rfl) (by kernel_rfl) (Or.inl ⟨by rfl,?_⟩) (by assumption) ?_
     rotate_left
     ·intro w hSw
      try dsimp only at hSw
      go_simp
      first|done|with_reducible rfl
     try simp only [Act.put,List.setIfInBounds_toArray,List.set_cons_zero,List.set_cons_succ,List.getElem_toArray,List.getElem_cons_zero,List.getElem_cons_succ]
     refine wpAnyL_take (i:=3) (v:=?_) [9,8,7,6,5,4] rfl (by kernel_rfl) (by kernel_rfl) (by kernel_rfl) (fun _ _ _ h=>h) (by kernel_rfl) (by kernel_rfl) (by kernel_rfl) (Or.inl ⟨by rfl,?_⟩) (by assumption) ?_
     rotate_left
     ·intro w hSw
      try dsimp only at hSw
      go_simp
      first|done|with_reducible rfl
     try simp only [Act.put,List.setIfInBounds_toArray,List.set_cons_zero,List.set_cons_succ,List.getElem_toArray,List.getElem_cons_zero,List.getElem_cons_succ]
     refine wpAnyL_take (i:=4) (v:=?_) [9,8,7,6,5] rfl (by kernel_rfl) (by kernel_rfl) (by kernel_rfl) (fun _ _ _ h=>h) (by kernel_rfl) (by kernel_rfl) (by kernel_rfl) (Or.inl ⟨by rfl,?_⟩) (by assumption) ?_
     rotate_left
     ·intro w hSw
      try dsimp only at hSw
      go_simp
      first|done|with_reducible rfl
     try simp only [Act.put,List.setIfInBounds_toArray,List.set_cons_zero,List.set_cons_succ,List.getElem_toArray,List.getElem_cons_zero,List.getElem_cons_succ]
     refine wpAnyL_take (i:=5) (v:=?_) [9,8,7,6] rfl (by kernel_rfl) (by kernel_rfl) (by kernel_rfl) (fun _ _ _ h=>h) (by kernel_rfl) (by kernel_rfl) (by kernel_rfl) (Or.inl ⟨by rfl,?_⟩) (by assumption) ?_
     rotate_left
     ·intro w hSw
      try dsimp only at hSw
      go_simp
      first|done|with_reducible rfl
     try simp only [Act.put,List.setIfInBounds_toArray,List.set_cons_zero,List.set_cons_succ,List.getElem_toArray,List.getElem_cons_zero,List.getElem_cons_succ]
     refine wpAnyL_one (i:=6) (by kernel_rfl) rfl (fun K hK=>?_)
     go_simp
     refine (KSET.out V (bel_in HB6.out RV.out)).mono ?_
     rintro e V2 ⟨⟨aa,ca,rfl,xaa⟩,hb⟩
     have R2:=Lib.hid (bel_in RV.out hb)
     clear hb
     go_wp2_with fail
     refine hK.out _ _ (CI.out _ R2.out) (fun hHeld=>?_)
     clear hK K
     try simp only [Act.put,List.setIfInBounds_toArray,List.set_cons_zero,List.set_cons_succ,List.getElem_toArray,List.getElem_cons_zero,List.getElem_cons_succ]
     refine wpAnyL_one (i:=7) (by kernel_rfl) rfl (fun K hK=>?_)
     go_simp
     refine hK.out _ _ (CI.out _ R2.out) (fun hHeld=>?_)
     clear hK K
     try simp only [Act.put,List.setIfInBounds_toArray,List.set_cons_zero,List.set_cons_succ,List.getElem_toArray,List.getElem_cons_zero,List.getElem_cons_succ]
     refine wpAnyL_one (i:=8) (by kernel_rfl) rfl (fun K hK=>?_)
     go_simp
     refine hK.out _ _ (CI.out _ R2.out) (fun hHeld=>?_)
     clear hK K
     try simp only [Act.put,List.setIfInBounds_toArray,List.set_cons_zero,List.set_cons_succ,List.getElem_toArray,List.getElem_cons_zero,List.getElem_cons_succ]
     refine wpAnyL_one (i:=9) (by kernel_rfl) rfl (fun K hK=>?_)
     go_simp
     refine hK.out _ _ (CI.out _ R2.out) (fun hHeld=>?_)
     clear hK K
     try simp only [Act.put,List.setIfInBounds_toArray,List.set_cons_zero,List.set_cons_succ,List.getElem_toArray,List.getElem_cons_zero,List.getElem_cons_succ]
     refine wpAnyL_take (i:=10) (v:=?_) [32,27,26,16] rfl (by kernel_rfl) (by kernel_rfl) (by kernel_rfl) (fun _ _ _ h=>h) (by kernel_rfl) (by kernel_rfl) (by kernel_rfl) (Or.inl ⟨by rfl,?_⟩) (by assumption) ?_
     rotate_left
     ·intro w hSw
      try dsimp only at hSw
      go_simp
      first|done|with_reducible rfl
     try simp only [Act.put,List.setIfInBounds_toArray,List.set_cons_zero,List.set_cons_succ,List.getElem_toArray,List.getElem_cons_zero,List.getElem_cons_succ]
     refine wpAnyL_take (i:=11) (v:=?_) [32,27,26,16,15,14,13] rfl (by kernel_rfl) (by kernel_rfl) (by kernel_rfl) (fun _ _ _ h=>h) (by kernel_rfl) (by kernel_rfl) (by kernel_rfl) (Or.inl ⟨by rfl,?_⟩) (by assumption) ?_
     rotate_left
     ·intro w hSw
      try dsimp only at hSw
      go_simp
      first|done|with_reducible rfl
     try simp only [Act.put,List.setIfInBounds_toArray,List.set_cons_zero,List.set_cons_succ,List.getElem_toArray,List.getElem_cons_zero,List.getElem_cons_succ]
     refine wpAnyL_take (i:=12) (v:=?_) [32,27,26,16,15,14,13] rfl (by kernel_rfl) (by kernel_rfl) (by kernel_rfl) (fun _ _ _ h=>h) (by kernel_rfl) (by kernel_rfl) (by kernel_rfl) (Or.inl ⟨by rfl,?_⟩) (by assumption) ?_
     rotate_left
     ·intro w hSw
      try dsimp only at hSw
      go_simp
      first|done|with_reducible rfl
     try simp only [Act.put,List.setIfInBounds_toArray,List.set_cons_zero,List.set_cons_succ,List.getElem_toArray,List.getElem_cons_zero,List.getElem_cons_succ]
     refine wpAnyL_take (i:=13) (v:=?_) [32,27,26,16,15,14] rfl (by kernel_rfl) (by kernel_rfl) (by kernel_rfl) (fun _ _ _ h=>h) (by kernel_rfl) (by kernel_rfl) (by kernel_rfl) (Or.inl ⟨by rfl,?_⟩) (by assumption) ?_
     rotate_left
     ·intro w hSw
      try dsimp only at hSw
      go_simp
      first|done|with_reducible rfl
     try simp only [Act.put,List.setIfInBounds_toArray,List.set_cons_zero,List.set_cons_succ,List.getElem_toArray,List.getElem_cons_zero,List.getElem_cons_succ]
     refine wpAnyL_take (i:=14) (v:=?_) [32,27,26,16,15] rfl (by kernel_rfl) (by kernel_rfl) (by kernel_rfl) (fun _ _ _ h=>h) (by kernel_rfl) (by kernel_rfl) (by kernel_rfl) (Or.inl ⟨by rfl,?_⟩) (by assumption) ?_
     rotate_left
     ·intro w hSw
      try dsimp only at hSw
      go_simp
      first|done|with_reducible rfl
     try simp only [Act.put,List.setIfInBounds_toArray,List.set_cons_zero,List.set_cons_succ,List.getElem_toArray,List.getElem_cons_zero,List.getElem_cons_succ]
     refine wpAnyL_take (i:=15) (v:=?_) [32,27,26,16] rfl (by kernel_rfl) (by kernel_rfl) (by kernel_rfl) (fun _ _ _ h=>h) (by kernel_rfl) (by kernel_rfl) (by kernel_rfl) (Or.inl ⟨by rfl,?_⟩) (by assumption) ?_
     rotate_left
     ·intro w hSw
      try dsimp only at hSw
      go_simp
      first|done|with_reducible rfl
     try simp only [Act.put,List.setIfInBounds_toArray,List.set_cons_zero,List.set_cons_succ,List.getElem_toArray,List.getElem_cons_zero,List.getElem_cons_succ]
     refine wpAnyL_take (i:=17) (v:=?_) [32,27,26,25,24,23] rfl (by kernel_rfl) (by kernel_rfl) (by kernel_rfl) (fun _ _ _ h=>h) (by kernel_rfl) (by kernel_rfl) (by kernel_rfl) (Or.inl ⟨by rfl,?_⟩) (by assumption) ?_
     rotate_left
     ·intro w hSw
      try dsimp only at hSw
      go_simp
      first|done|with_reducible rfl
     try simp only [Act.put,List.setIfInBounds_toArray,List.set_cons_zero,List.set_cons_succ,List.getElem_toArray,List.getElem_cons_zero,List.getElem_cons_succ]
     refine wpAnyL_take (i:=18) (v:=?_) [32,27,26,25,24,23,22,21,20] rfl (by kernel_rfl) (by kernel_rfl) (by kernel_rfl) (fun _ _ _ h=>h) (by kernel_rfl) (by kernel_rfl) (by kernel_rfl) (Or.inl ⟨by rfl,?_⟩) (by assumption) ?_
     rotate_left
     ·intro w hSw
      try dsimp only at hSw
      go_simp
      first|done|with_reducible rfl
     try simp only [Act.put,List.setIfInBounds_toArray,List.set_cons_zero,List.set_cons_succ,List.getElem_toArray,List.getElem_cons_zero,List.getElem_cons_succ]
     refine wpAnyL_take (i:=19) (v:=?_) [32,27,26,25,24,23,22,21,20] rfl (by kernel_rfl) (by kernel_rfl) (by kernel_rfl) (fun _ _ _ h=>h) (by kernel_rfl) (by kernel_rfl) (by kernel_rfl) (Or.inl ⟨by rfl,?_⟩) (by assumption) ?_
     rotate_left
     ·intro w hSw
      try dsimp only at hSw
      go_simp
      first|done|with_reducible rfl
     try simp only [Act.put,List.setIfInBounds_toArray,List.set_cons_zero,List.set_cons_succ,List.getElem_toArray,List.getElem_cons_zero,List.getElem_cons_succ]
     refine wpAnyL_take (i:=20) (v:=?_) [32,27,26,25,24,23,22,21] rfl (by kernel_rfl) (by kernel_rfl) (by kernel_rfl) (fun _ _ _ h=>h) (by kernel_rfl) (by kernel_rfl) (by kernel_rfl) (Or.inl ⟨by rfl,?_⟩) (by assumption) ?_
     rotate_left
     ·intro w hSw
      try dsimp only at hSw
      go_simp
      first|done|with_reducible rfl
     try simp only [Act.put,List.setIfInBounds_toArray,List.set_cons_zero,List.set_cons_succ,List.getElem_toArray,List.getElem_cons_zero,List.getElem_cons_succ]
     refine wpAnyL_take (i:=21) (v:=?_) [32,27,26,25,24,23,22] rfl (by kernel_rfl) (by kernel_rfl) (by kernel_rfl) (fun _ _ _ h=>h) (by kernel_rfl) (by kernel_rfl) (by kernel_rfl) (Or.inl ⟨by rfl,?_⟩) (by assumption) ?_
     rotate_left
     ·intro w hSw
      try dsimp only at hSw
      go_simp
      first|done|with_reducible rfl
     try simp only [Act.put,List.setIfInBounds_toArray,List.set_cons_zero,List.set_cons_succ,List.getElem_toArray,List.getElem_cons_zero,List.getElem_cons_succ]
     refine wpAnyL_take (i:=22) (v:=?_) [32,27,26,25,24,23] rfl (by kernel_rfl) (by kernel_rfl) (by kernel_rfl) (fun _ _ _ h=>h) (by kernel_rfl) (by kernel_rfl) (by kernel_rfl) (Or.inl ⟨by rfl,?_⟩) (by assumption) ?_
     rotate_left
     ·intro w hSw
      try dsimp only at hSw
      go_simp
      first|done|with_reducible rfl
     try simp only [Act.put,List.setIfInBounds_toArray,List.set_cons_zero,List.set_cons_succ,List.getElem_toArray,List.getElem_cons_zero,List.getElem_cons_succ]
     refine wpAnyL_take (i:=28) (v:=?_) [32,31,30] rfl (by kernel_rfl) (by kernel_rfl) (by kernel_rfl) (fun _ _ _ h=>h) (by kernel_rfl) (by kernel_rfl) (by kernel_rfl) (Or.inl ⟨by rfl,?_⟩) (by assumption) ?_
     rotate_left
     ·intro w hSw
      try dsimp only at hSw
      go_simp
      first|done|with_reducible rfl
     try simp only [Act.put,List.setIfInBounds_toArray,List.set_cons_zero,List.set_cons_succ,List.getElem_toArray,List.getElem_cons_zero,List.getElem_cons_succ]
     refine wpAnyL_take (i:=29) (v:=?_) [32,31,30] rfl (by kernel_rfl) (by kernel_rfl) (by kernel_rfl) (fun _ _ _ h=>h) (by kernel_rfl) (by kernel_rfl) (by kernel_rfl) (Or.inl ⟨by rfl,?_⟩) (by assumption) ?_
     rotate_left
     ·intro w hSw
      try dsimp only at hSw
      go_simp
      first|done|with_reducible rfl
     try simp only [Act.put,List.setIfInBounds_toArray,List.set_cons_zero,List.set_cons_succ,List.getElem_toArray,List.getElem_cons_zero,List.getElem_cons_succ]
     refine wpAnyL_take (i:=30) (v:=?_) [32,31] rfl (by kernel_rfl) (by kernel_rfl) (by kernel_rfl) (fun _ _ _ h=>h) (by kernel_rfl) (by kernel_rfl) (by kernel_rfl) (Or.inl ⟨by rfl,?_⟩) (by assumption) ?_
     rotate_left
     ·intro w hSw
      try dsimp only at hSw
      go_simp
      first|done|with_reducible rfl
     try simp only [Act.put,List.setIfInBounds_toArray,List.set_cons_zero,List.set_cons_succ,List.getElem_toArray,List.getElem_cons_zero,List.getElem_cons_succ]
     refine wpAnyL_take (i:=31) (v:=?_) [32] rfl (by kernel_rfl) (by kernel_rfl) (by kernel_rfl) (fun _ _ _ h=>h) (by kernel_rfl) (by kernel_rfl) (by kernel_rfl) (Or.inl ⟨by rfl,?_⟩) (by assumption) ?_
     rotate_left
     ·intro w hSw
      try dsimp only at hSw
      go_simp
      first|done|with_reducible rfl
     try simp only [Act.put,List.setIfInBounds_toArray,List.set_cons_zero,List.set_cons_succ,List.getElem_toArray,List.getElem_cons_zero,List.getElem_cons_succ]
     refine wpAnyL_one (i:=16) (by kernel_rfl) rfl (fun K hK=>?_)
     go_simp
     refine (KSET.out V2 (bel_in HB6.out R2.out)).mono ?_
     rintro e V3 ⟨⟨ab,cb,rfl,xab⟩,hb⟩
     have R3:=Lib.hid (bel_in R2.out hb)
     clear hb
     go_wp2_with fail
     refine hK.out _ _ (CI.out _ R3.out) (fun hHeld=>?_)
     clear hK K
     try simp only [Act.put,List.setIfInBounds_toArray,List.set_cons_zero,List.set_cons_succ,List.getElem_toArray,List.getElem_cons_zero,List.getElem_cons_succ]
     refine wpAnyL_one (i:=23) (by kernel_rfl) rfl (fun K hK=>?_)
     go_simp
     refine (KSET.out V3 (bel_in HB6.out R3.out)).mono ?_
     rintro e V4 ⟨⟨ac,cc,rfl,xac⟩,hb⟩
     have R4:=Lib.hid (bel_in R3.out hb)
     have yab:=keep6 hb xab
     clear hb
     go_wp2_with fail
     refine hK.out _ _ (CI.out _ R4.out) (fun hHeld=>?_)
     clear hK K
     try simp only [Act.put,List.setIfInBounds_toArray,List.set_cons_zero,List.set_cons_succ,List.getElem_toArray,List.getElem_cons_zero,List.getElem_cons_succ]
     refine wpAnyL_one (i:=24) (by kernel_rfl) rfl (fun K hK=>?_)
     go_simp
     refine hK.out _ _ (CI.out _ R4.out) (fun hHeld=>?_)
     clear hK K
     try simp only [Act.put,List.setIfInBounds_toArray,List.set_cons_zero,List.set_cons_succ,List.getElem_toArray,List.getElem_cons_zero,List.getElem_cons_succ]
     refine wpAnyL_one (i:=25) (by kernel_rfl) rfl (fun K hK=>?_)
     go_simp
     refine hK.out _ _ (CI.out _ R4.out) (fun hHeld=>?_)
     clear hK K
     try simp only [Act.put,List.setIfInBounds_toArray,List.set_cons_zero,List.set_cons_succ,List.getElem_toArray,List.getElem_cons_zero,List.getElem_cons_succ]
     refine wpAnyL_one (i:=26) (by kernel_rfl) rfl (fun K hK=>?_)
     go_simp
     refine hK.out _ _ (CI.out _ R4.out) (fun hHeld=>?_)
     clear hK K
     try simp only [Act.put,List.setIfInBounds_toArray,List.set_cons_zero,List.set_cons_succ,List.getElem_toArray,List.getElem_cons_zero,List.getElem_cons_succ]
     refine wpAnyL_one (i:=27) (by kernel_rfl) rfl (fun K hK=>?_)
     go_simp
     refine hK.out _ _ (CI.out _ R4.out) (fun hHeld=>?_)
     clear hK K
     try simp only [Act.put,List.setIfInBounds_toArray,List.set_cons_zero,List.set_cons_succ,List.getElem_toArray,List.getElem_cons_zero,List.getElem_cons_succ]
     refine wpAnyL_one (i:=32) (by kernel_rfl) rfl (fun K hK=>?_)
     go_simp
     refine hK.out _ _ (CI.out _ R4.out) (fun hHeld=>?_)
     clear hK K
     try simp only [Act.put,List.setIfInBounds_toArray,List.set_cons_zero,List.set_cons_succ,List.getElem_toArray,List.getElem_cons_zero,List.getElem_cons_succ]
     refine wpAnyL_last (by kernel_rfl) rfl (by kernel_rfl) (fun K hK=>?_)
     go_simp
     refine hK.out _ _ ?_
     clear hK K
     refine NoPanic.normal ?_
     have FB:=Lib.hid (bel_in HB.out R4.out)
     clear RV R2 R3 R4 xaa xab xac yab
     go_wp2
     go_roundw
     case rel=>exact ⟨k+1,by omega,by go_num,FB.out⟩
     case measure=>simp [intOf];omega
    ·obtain rfl:k=here.length:=by omega
     have j2:¬(here.length:Int) < (here.length:Int):=by omega
     obtain ⟨o1,o2⟩:=BO.out
     have KB1:=Lib.hid (KB.out (-1) wr (bel_in D6.out HB6.out))
     rw [o1] at KB1
     have KB3:=Lib.hid (fun (W:World) (hx:Below w6.heap.size w6 W)=>KB.out (U.length:Int) W (bel_in D6.out hx))
     rw [o2] at KB3
     go_wp2_with fail
     refine KB1.out.mono ?_
     rintro e wa ⟨rfl,hb⟩
     have Ba:=Lib.hid (bel_in HB6.out hb)
     clear hb KB1
     go_wp2_with fail
     refine (LE9.out wa (bel_in D6.out Ba.out)).mono ?_
     rintro e wb ⟨rfl,rfl⟩
     go_wp2_with fail
     refine (KB3.out wa Ba.out).mono ?_
     rintro e wc ⟨rfl,hb⟩
     have FIN:=Lib.hid (bel_in B5.out (bel_in D6.out (bel_in Ba.out hb)))
     clear hb KB3
     go_wp2
     go_ret
     exact ⟨by first|rfl|simp,FIN.out⟩
end Go.Proofs.YtpilmhoakopcaaaGreatDoor
