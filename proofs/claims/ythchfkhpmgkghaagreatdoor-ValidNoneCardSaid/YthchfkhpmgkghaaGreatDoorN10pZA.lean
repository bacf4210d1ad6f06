/- What the laws rest on: N10p. -/
import Derived.Test.YthchfkhpmgkghaaGreatDoorQAYZA
import Derived.Test.YthchfkhpmgkghaaGreatDoorQCDZA
import Derived.Test.YthchfkhpmgkghaaGreatDoorQCEZA
import Derived.Test.YthchfkhpmgkghaaGreatDoorQCFZA
import Derived.Test.YthchfkhpmgkghaaGreatDoorQCHZA
import Derived.Test.YthchfkhpmgkghaaGreatDoorQCIZA
set_option maxRecDepth 100000
set_option linter.unusedVariables false
set_option linter.unusedSimpArgs false
namespace Go.Proofs.YthchfkhpmgkghaaGreatDoor
open Go.RowKit Go.Sort
theorem kinds_at {T:List Ft} (h:(T.map fun x=>x.k).Pairwise (·≤·)) {j k:Nat} (hj:j < T.length) (hk:k < T.length) (hjk:j < k):T[j].k≤T[k].k:=by
 have:=List.pairwise_iff_getElem.1 h j k (by simpa using hj) (by simpa using hk) hjk
 simpa using this
set_option maxHeartbeats 32000000 in
theorem none10 (A:Option Addr) (n0 c:Nat) (L:List Ent) (A':Option Addr) (n1 c':Nat) (m:List Hr) (A1:Option Addr) (c1:Nat) (A2:Option Addr) (c2:Nat) (i r:List Atm) (up:Bool) (Al:Option Addr) (nl cl:Nat) (l:List Int) (w:World) (h:rdEnts w (lt_ w.heap.size) L [.slice A n0 c]) (h':rdHrs w (lt_ w.heap.size) m [.slice A' n1 c']) (hi:rdAtms w (lt_ w.heap.size) i [.slice A1 i.length c1]) (hr:rdAtms w (lt_ w.heap.size) r [.slice A2 r.length c2]) (hl:rdInts w (lt_ w.heap.size) l [.slice Al nl cl]) (E:EnvR w) :
  Calls Tryz.prog 7 #[.slice A n0 c,.slice A' n1 c',.agg #[.slice A1 i.length c1,.slice A2 r.length c2,.bool up],.slice Al nl cl] w fun e w'=>e=.returned (.bool true)∧Below w.heap.size w w':=by
 obtain ⟨rfl,hnc,hcm,-⟩:=rdEnts_at h
 obtain ⟨rfl,hnc',hcm',-⟩:=rdHrs_at h'
 have hcx:c≤9223372036854775807:=hcm
 have hcy:c'≤9223372036854775807:=hcm'
 have HE:=Lib.hid E
 have H:=Lib.hid (fun (W:World) (hb:Below w.heap.size w W)=>(rdEnts_good.up (rdEnts_good.below h hb) hb.size:rdEnts W (lt_ W.heap.size) L [.slice A L.length c]))
 have H':=Lib.hid (fun (W:World) (hb:Below w.heap.size w W)=>(rdHrs_good.up (rdHrs_good.below h' hb) hb.size:rdHrs W (lt_ W.heap.size) m [.slice A' m.length c']))
 obtain ⟨rfl,hlc,hlm,-⟩:=rdInts_at hl
 have hlx:cl≤9223372036854775807:=hlm
 have Hl:=Lib.hid (fun (W:World) (hb:Below w.heap.size w W)=>(rdInts_good.up (rdInts_good.below hl hb) hb.size:rdInts W (lt_ W.heap.size) l [.slice Al l.length cl]))
 have HI:=Lib.hid (fun (W:World) (hb:Below w.heap.size w W)=>(rdAtms_good.up (rdAtms_good.below hi hb) hb.size:rdAtms W (lt_ W.heap.size) i [.slice A1 i.length c1]))
 have HR:=Lib.hid (fun (W:World) (hb:Below w.heap.size w W)=>(rdAtms_good.up (rdAtms_good.below hr hb) hb.size:rdAtms W (lt_ W.heap.size) r [.slice A2 r.length c2]))
 obtain ⟨W1,hW1⟩:∃W,W=w.alloc (.cells #[.slice A1 i.length c1,.slice A2 r.length c2,.bool up] 26):=⟨_,rfl⟩
 have b1:Below w.heap.size w W1:=by rw [hW1];exact (Below.refl _ w).alloc (Nat.le_refl _) _
 have B1:=Lib.hid b1
 have KX:=Lib.hid (fun (W:World) (hb:Below W1.heap.size W1 W)=>(show W.cell? ⟨w.heap.size,0,none⟩=some (.slice A1 i.length c1)∧W.cell? ⟨w.heap.size,1,none⟩=some (.slice A2 r.length c2)∧W.cell? ⟨w.heap.size,2,none⟩=some (.bool up) from by
  refine ⟨?_,?_,?_⟩<;>exact keep6 hb (by rw [hW1];simp [go_sem])))
 clear h h' hcm hcm' E hl hlm hi hr b1
 go_enter Tryz.func7,Tryz.ntmps7
 go_upto_region 1 with fail
 rw [←hW1]
 clear hW1
 go_wp2_with fail
 refine (shown10_any W1 (HE.out.below B1.out)).mono ?_
 rintro e w1 ⟨rfl,hb⟩
 have Q1:=Lib.hid hb
 have B2:=Lib.hid (bel_in B1.out hb)
 clear hb
 go_wp2_with fail
 refine (small10_any A L.length c L A' m.length c' m w1 (H.out w1 B2.out) (H'.out w1 B2.out)).mono ?_
 rintro e w2 ⟨⟨ok,rfl,hfw⟩,hb⟩
 have Q2:=Lib.hid (bel_in Q1.out hb)
 have B3:=Lib.hid (bel_in B2.out hb)
 clear hb Q1
 obtain ⟨x0,x1,x2⟩:=KX.out w2 Q2.out
 go_wp2_with fail
 refine (asks10_any A1 c1 A2 c2 i r up w2 (HI.out w2 B3.out) (HR.out w2 B3.out)).mono ?_
 rintro e w3 ⟨⟨ok2,rfl,hask⟩,hb⟩
 have Q3:=Lib.hid (bel_in Q2.out hb)
 have B4:=Lib.hid (bel_in B3.out hb)
 clear hb x0 x1 x2
 cases ok
 ·go_wp2
  go_ret
  exact ⟨rfl,B4.out⟩
 have FW:=Lib.hid (hfw rfl)
 clear hfw
 cases ok2
 ·go_wp2
  go_ret
  exact ⟨rfl,B4.out⟩
 have AK:=Lib.hid (hask rfl)
 clear hask
 by_cases hln:(100:Int) < (l.length:Int)
 ·have hln':100 < l.length:=by omega
  go_wp2
  go_ret
  exact ⟨rfl,B4.out⟩
 have hln':¬100 < l.length:=by omega
 have KN:=Lib.hid (new9_any A L.length c L A' m.length c' m w3 (H.out w3 B4.out) (H'.out w3 B4.out) (fun x hx=>(FW.out.1.2 x hx).sz) (fun y hy=>(FW.out.2.2 y hy).sz) (HE.out.below B4.out))
 go_wp2_with fail
 refine KN.out.mono ?_
 rintro e w4 ⟨hnr,hb⟩
 have Q4:=Lib.hid (bel_in Q3.out hb)
 have B5:=Lib.hid (bel_in B4.out hb)
 clear hb KN
 by_cases hboth:L.all rgtE=true∧rightH m=true
 rotate_left
 ·obtain rfl:=hnr.1 hboth
  clear hboth hnr
  go_wp2
  go_ret
  exact ⟨rfl,B5.out⟩
 by_cases hmany:64 < (entU L (m.map fun y=>y.e)).length
 ·obtain rfl:=hnr.2.1 hboth hmany
  clear hboth hnr hmany
  go_wp2
  go_ret
  exact ⟨rfl,B5.out⟩
 obtain ⟨b,rfl,hup⟩:=hnr.2.2 hboth hmany
 have UFF:=Lib.hid (uf_of hboth FW.out hmany)
 generalize entU L (m.map fun y=>y.e)=U at *
 have HU:=Lib.hid (fun (W:World) (hb:Below w4.heap.size w4 W)=>(UFF.out.uq hup).below hb)
 have HEU:=Lib.hid (fun (W:World) (hb:Below w4.heap.size w4 W)=>HE.out.below (bel_in B5.out hb))
 clear hnr hboth hmany hup
 have KF:=Lib.hid (fun (W:World) (hb:Below w4.heap.size w4 W)=>vfaults_any b U m A1 c1 i A2 c2 r up Al l.length cl l W (HU.out W hb) (Hl.out W (bel_in B5.out hb)) (HI.out W (bel_in B5.out hb)) (HR.out W (bel_in B5.out hb)) (fun a ha=>by have:=(AK.out.1.2 a ha).1;omega) (fun a ha=>by have:=(AK.out.2.2 a ha).1;omega) (HEU.out W hb) (by omega) (flt_bound UFF.out.dep (by omega) UFF.out.len (by have:=AK.out.1.1;omega) (by have:=AK.out.2.1;omega)))
 have KT:=Lib.hid (fltS_kind (U:=U) (held:=heldU U m) (ri:=i) (rm:=r) (l:=l))
 generalize (rqB i r&&setB U.length l)=ok at KF
 generalize fltS U (heldU U m) i r l=T at KF KT
 obtain ⟨x0,x1,x2⟩:=KX.out w4 Q4.out
 go_wp2_with fail
 refine (KF.out _ (Below.refl _ _)).mono ?_
 rintro e w5 ⟨hf1,hb⟩
 have B45:=Lib.hid hb
 have Q5:=Lib.hid (bel_in Q4.out hb)
 clear hb x0 x1 x2
 cases ok
 ·obtain rfl:=hf1.1 rfl
  clear hf1
  obtain ⟨x0,x1,x2⟩:=KX.out w5 Q5.out
  go_wp2_with fail
  refine (KF.out _ B45.out).mono ?_
  rintro e w6 ⟨hf2,hb⟩
  obtain rfl:=hf2.1 rfl
  have B46:=Lib.hid (bel_in B45.out hb)
  clear hb x0 x1 x2 hf2 KF KT
  go_wp2_with fail
  go_loopw [18] (fun ix wr=>ix=.int .i64 0∧w6=wr) (fun _ _=>0)
  case atStart=>exact ⟨rfl,rfl⟩
  case round=>
   obtain ⟨rfl,rfl⟩:=hrel
   have BQ:=Lib.hid (show Below w4.heap.size w4 w6 from B46.out)
   have KC:=Lib.hid (vclosed_any b U m none 0 0 [] w6 (HU.out _ BQ.out) (rdRow_nil _ _) (HEU.out _ BQ.out) (Nat.le_trans (ins_bound UFF.out.dep (by decide)) (by decide)))
   rw [show clB U []=true from by unfold clB;rw [(fltS_none UFF.out.held.1).1,setB_true.2 ⟨fun p hp=>absurd hp List.not_mem_nil,List.Pairwise.nil⟩];rfl] at KC
   have KM:=Lib.hid (fun (W:World) (hb:Below w4.heap.size w4 W)=>vmeet_any b U m none 0 [] none 0 [] false none 0 0 [] W (HU.out W hb) (rdRow_nil _ _) (rdRow_nil _ _) (rdRow_nil _ _) (fun a ha=>absurd ha List.not_mem_nil) (fun a ha=>absurd ha List.not_mem_nil) (HEU.out W hb) (by decide) (flt_bound UFF.out.dep (by decide) UFF.out.len (by decide) (by decide)))
   have KH:=Lib.hid (fun (W:World) (hb:Below w4.heap.size w4 W)=>held10_any b U m W (HU.out W hb).up UFF.out.hm UFF.out.hz)
   have MX:=Lib.hid (show ((rqB [] []&&setB U.length [])&&(fltS U (heldU U m) [] [] []).isEmpty)=decide ((heldU U m).length=0) from by
    rw [show (rqB [] []&&setB U.length [])=true from by rw [setB_true.2 ⟨fun p hp=>absurd hp List.not_mem_nil,List.Pairwise.nil⟩];rfl,Bool.true_and]
    have q:=(fltS_none UFF.out.held.1).2
    rw [Bool.eq_iff_iff,List.isEmpty_iff,q,decide_eq_true_iff,List.length_eq_zero_iff])
   rw [MX.out] at KM
   generalize hdd:heldU U m=hd at *
   clear hdd
   obtain ⟨me,hme⟩:∃b,b=decide (hd.length=0):=⟨_,rfl⟩
   rw [←hme] at KM
   have HM:=Lib.hid hme
   clear hme
   go_wp2_with fail
   refine KC.out.mono ?_
   rintro e v1 ⟨rfl,hb⟩
   have BV1:=Lib.hid (bel_in BQ.out hb)
   clear hb KC
   go_wp2_with fail
   refine (KM.out _ BV1.out).mono ?_
   rintro e v2 ⟨rfl,hb⟩
   have BV2:=Lib.hid (bel_in BV1.out hb)
   clear hb KM
   go_wp2_with fail
   refine (KH.out _ BV2.out).mono ?_
   rintro e v3 ⟨⟨Ah,ch,rfl,hrh⟩,hb⟩
   have BV3:=Lib.hid (bel_in B5.out (bel_in BV2.out hb))
   clear hb KH hrh MX
   by_cases h0:hd.length=0
   ·have t0:((hd.length:Int)==0)=true:=by rw [h0];rfl
    obtain rfl:me=true:=HM.out.trans (decide_eq_true h0)
    clear h0 HM
    go_wp2
    go_ret
    exact ⟨by first|rfl|simp,BV3.out⟩
   ·have t0:((hd.length:Int)==0)=false:=by rw [beq_eq_false_iff_ne];omega
    obtain rfl:me=false:=HM.out.trans (decide_eq_false h0)
    clear h0 HM
    go_wp2
    go_ret
    exact ⟨by first|rfl|simp,BV3.out⟩
 obtain ⟨Aa,ca,rfl,hra⟩:=hf1.2 rfl
 have RA:=Lib.hid (fun (W:World) (hb:Below w5.heap.size w5 W)=>(rdFts_at (rdFts_good.up (rdFts_good.below (rdFts_good.more hra fun k hk=>hk.2:rdFts w5 (lt_ w5.heap.size) T [.slice Aa T.length ca]) hb) hb.size)).2.2.2)
 obtain ⟨-,hac,ham,-⟩:=rdFts_at hra
 have ham':ca≤9223372036854775807:=ham
 clear hf1 hra ham
 obtain ⟨x0,x1,x2⟩:=KX.out w5 Q5.out
 go_wp2_with fail
 refine (KF.out _ B45.out).mono ?_
 rintro e w6 ⟨hf2,hb⟩
 obtain ⟨Ab,cb,rfl,hrb⟩:=hf2.2 rfl
 have RB:=Lib.hid (fun (W:World) (hb:Below w6.heap.size w6 W)=>(rdFts_at (rdFts_good.up (rdFts_good.below (rdFts_good.more hrb fun k hk=>hk.2:rdFts w6 (lt_ w6.heap.size) T [.slice Ab T.length cb]) hb) hb.size)).2.2.2)
 obtain ⟨-,hbc,hbm,-⟩:=rdFts_at hrb
 have hbm':cb≤9223372036854775807:=hbm
 have B56:=Lib.hid hb
 have B46:=Lib.hid (bel_in B45.out hb)
 clear hf2 hrb hbm hb x0 x1 x2 KF
 have tt:((T.length:Int)==(T.length:Int))=true:=beq_self_eq_true _
 have mixed:Tryz.prog.follows .mixedOrders=true:=by kernel_rfl
 have LT:=Lib.hid (show T.length≤9223372036854775807 from Nat.le_trans hac ham')
 go_wp2_with fail
 go_loopw [18] (fun ix wr=>∃k:Nat,k≤T.length∧ix=.int .i64 k∧Below w6.heap.size w6 wr) (fun ix _=>T.length - (intOf ix).toNat)
 case atStart=>exact ⟨0,Nat.zero_le _,rfl,Below.refl _ _⟩
 case round=>
  obtain ⟨k,hk,rfl,hbel⟩:=hrel
  have HB:=Lib.hid hbel
  clear hbel
  by_cases hlt:k < T.length
  ·obtain ⟨ad,rfl,-,f0,f1,f2⟩:=RA.out wr (bel_in B56.out HB.out) k hlt
   obtain ⟨ad',rfl,-,g0,g1,g2⟩:=RB.out wr HB.out k hlt
   have i0:(0:Int)≤(k:Int):=by omega
   have i1:(k:Int) < (T.length:Int):=by omega
   have k1:IntKind.i64.wrap ((k:Int)+1)=(k:Int)+1:=IntWalk.i64_in _ (by have:=LT.out;omega)
   have K1:=Lib.hid (KT.out.1 _ (List.getElem_mem hlt))
   have BD:=Lib.hid (fun dd os=>below_regrown wr dd os)
   have KP:=Lib.hid (fun (j:Nat) (hj:j < T.length) (h:j < k)=>kinds_at KT.out.2 hj hlt h)
   generalize hx:T[k]=x at f0 f1 f2 g0 g1 g2 K1 KP
   clear hx
   obtain ⟨xk,xa,xb⟩:=x
   simp only at f0 f1 f2 g0 g1 g2 K1 KP
   have t1:¬xk < 1:=by have:=K1.out.1;omega
   have t1':decide (xk < 1)=false:=decide_eq_false t1
   have t6:¬6 < xk:=by have:=K1.out.2;omega
   have t6':decide (6 < xk)=false:=decide_eq_false t6
   have heq:=fun W=>(eq_vft xk xa xb xk xa xb W).trans (congrArg (fun b=>Result.ok b W) (show (xk==xk&&(xa==xa&&xb==xb))=true by simp))
   have z0:=fun dd os=>cell_regrown (w:=wr) f0 dd os
   have z1:=fun dd os=>cell_regrown (w:=wr) f1 dd os
   have z2:=fun dd os=>cell_regrown (w:=wr) f2 dd os
   have v0:=fun dd os=>cell_regrown (w:=wr) g0 dd os
   have v1:=fun dd os=>cell_regrown (w:=wr) g1 dd os
   have v2:=fun dd os=>cell_regrown (w:=wr) g2 dd os
   by_cases h0:0 < k
   ·obtain ⟨j,hj⟩:∃j,j+1=k:=⟨k - 1,by omega⟩
    obtain ⟨ad2,ea,-,p0,-,-⟩:=RA.out wr (bel_in B56.out HB.out) j (by omega)
    obtain rfl:ad=ad2:=Option.some.inj ea
    have hyk:=KP.out j (by omega) (by omega)
    generalize hy:T[j].k=y at p0 hyk
    clear hy ea
    have q0:=fun dd os=>cell_regrown (w:=wr) p0 dd os
    have j0:(0:Int)≤(j:Int):=by omega
    have j1:(j:Int) < (T.length:Int):=by omega
    have j2:(0:Int) < (k:Int):=by omega
    have j3:IntKind.i64.wrap ((k:Int) - 1)=(j:Int):=by rw [IntWalk.i64_in _ (by have:=LT.out;omega)];omega
    have t7:¬xk < y:=by omega
    have t7':decide (xk < y)=false:=decide_eq_false t7
    clear hj hyk
    go_wp2_with fail
    refine wp_region_quiet_below mixed (by kernel_rfl) ?_
    repeat (go_big_quiet_step (fail))
    refine wpQuiet_nil ?_
    intro W3 hw3
    have BX:=Lib.hid (bel_in HB.out (show Below wr.heap.size wr W3 from by obtain ⟨pp,e⟩:=hw3;rw [e];exact BD.out pp.d pp.os))
    clear hw3 BD z0 z1 z2 v0 v1 v2 q0 f0 f1 f2 g0 g1 g2 p0 heq
    go_wp2
    go_roundw
    case rel=>exact ⟨k+1,by omega,by go_num,BX.out⟩
    case measure=>simp [intOf];omega
   ·have j2:¬(0:Int) < (k:Int):=by omega
    go_wp2_with fail
    refine wp_region_quiet_below mixed (by kernel_rfl) ?_
    repeat (go_big_quiet_step (fail))
    refine wpQuiet_nil ?_
    intro W3 hw3
    have BX:=Lib.hid (bel_in HB.out (show Below wr.heap.size wr W3 from by obtain ⟨pp,e⟩:=hw3;rw [e];exact BD.out pp.d pp.os))
    clear hw3 BD z0 z1 z2 v0 v1 v2 f0 f1 f2 g0 g1 g2 heq
    go_wp2
    go_roundw
    case rel=>exact ⟨k+1,by omega,by go_num,BX.out⟩
    case measure=>simp [intOf];omega
  ·obtain rfl:k=T.length:=by omega
   have BQ:=Lib.hid (show Below w4.heap.size w4 wr from (bel_in B46.out HB.out))
   have KC:=Lib.hid (vclosed_any b U m none 0 0 [] wr (HU.out _ BQ.out) (rdRow_nil _ _) (HEU.out _ BQ.out) (Nat.le_trans (ins_bound UFF.out.dep (by decide)) (by decide)))
   rw [show clB U []=true from by unfold clB;rw [(fltS_none UFF.out.held.1).1,setB_true.2 ⟨fun p hp=>absurd hp List.not_mem_nil,List.Pairwise.nil⟩];rfl] at KC
   have KM:=Lib.hid (fun (W:World) (hb:Below w4.heap.size w4 W)=>vmeet_any b U m none 0 [] none 0 [] false none 0 0 [] W (HU.out W hb) (rdRow_nil _ _) (rdRow_nil _ _) (rdRow_nil _ _) (fun a ha=>absurd ha List.not_mem_nil) (fun a ha=>absurd ha List.not_mem_nil) (HEU.out W hb) (by decide) (flt_bound UFF.out.dep (by decide) UFF.out.len (by decide) (by decide)))
   have KH:=Lib.hid (fun (W:World) (hb:Below w4.heap.size w4 W)=>held10_any b U m W (HU.out W hb).up UFF.out.hm UFF.out.hz)
   have MX:=Lib.hid (show ((rqB [] []&&setB U.length [])&&(fltS U (heldU U m) [] [] []).isEmpty)=decide ((heldU U m).length=0) from by
    rw [show (rqB [] []&&setB U.length [])=true from by rw [setB_true.2 ⟨fun p hp=>absurd hp List.not_mem_nil,List.Pairwise.nil⟩];rfl,Bool.true_and]
    have q:=(fltS_none UFF.out.held.1).2
    rw [Bool.eq_iff_iff,List.isEmpty_iff,q,decide_eq_true_iff,List.length_eq_zero_iff])
   rw [MX.out] at KM
   generalize hdd:heldU U m=hd at *
   clear hdd
   obtain ⟨me,hme⟩:∃b,b=decide (hd.length=0):=⟨_,rfl⟩
   rw [←hme] at KM
   have HM:=Lib.hid hme
   clear hme
   go_wp2_with fail
   refine KC.out.mono ?_
   rintro e v1 ⟨rfl,hb⟩
   have BV1:=Lib.hid (bel_in BQ.out hb)
   clear hb KC
   go_wp2_with fail
   refine (KM.out _ BV1.out).mono ?_
   rintro e v2 ⟨rfl,hb⟩
   have BV2:=Lib.hid (bel_in BV1.out hb)
   clear hb KM
   go_wp2_with fail
   refine (KH.out _ BV2.out).mono ?_
   rintro e v3 ⟨⟨Ah,ch,rfl,hrh⟩,hb⟩
   have BV3:=Lib.hid (bel_in B5.out (bel_in BV2.out hb))
   clear hb KH hrh MX
   by_cases h0:hd.length=0
   ·have t0:((hd.length:Int)==0)=true:=by rw [h0];rfl
    obtain rfl:me=true:=HM.out.trans (decide_eq_true h0)
    clear h0 HM
    go_wp2
    go_ret
    exact ⟨by first|rfl|simp,BV3.out⟩
   ·have t0:((hd.length:Int)==0)=false:=by rw [beq_eq_false_iff_ne];omega
    obtain rfl:me=false:=HM.out.trans (decide_eq_false h0)
    clear h0 HM
    go_wp2
    go_ret
    exact ⟨by first|rfl|simp,BV3.out⟩
end Go.Proofs.YthchfkhpmgkghaaGreatDoor
