/- What the laws rest on: N10q. -/
import Derived.Test.YthchfkhpmgkghaaGreatDoorQAOZA
import Derived.Test.YthchfkhpmgkghaaGreatDoorQASZA
import Derived.Test.YthchfkhpmgkghaaGreatDoorQAXZA
import Derived.Test.YthchfkhpmgkghaaGreatDoorQCEZA
import Derived.Test.YthchfkhpmgkghaaGreatDoorQCFZA
import Derived.Test.YthchfkhpmgkghaaGreatDoorQCGZA
import Derived.Test.YthchfkhpmgkghaaGreatDoorQCHZA
import Derived.Test.YthchfkhpmgkghaaGreatDoorQCIZA
import Derived.Test.YthchfkhpmgkghaaGreatDoorQCLZA
import Derived.Test.YthchfkhpmgkghaaGreatDoorQCMZA
set_option maxRecDepth 100000
set_option linter.unusedVariables false
set_option linter.unusedSimpArgs false
namespace Go.Proofs.YthchfkhpmgkghaaGreatDoor
open Go.RowKit
theorem meets_good {U:List Ent} {s held:List Int} {i r:List Atm} (hs:SetP U.length s) (hh:SetP U.length held) (hr:rqB i r=true) :
  ((rqB i r&&setB U.length s)&&(fltS U held i r s).isEmpty)=(((clB U s&&held.all fun h=>decide (h ∈ s))&&i.all (givS U s))&&r.all fun a=>!givS U s a):=by
 rw [hr,setB_true.2 hs,Bool.true_and,Bool.true_and,clB_set hs,Bool.eq_iff_iff,List.isEmpty_iff,fltS_nil hh.1]
 simp only [Bool.and_eq_true,List.isEmpty_iff,List.all_eq_true,decide_eq_true_eq,Bool.not_eq_true',and_assoc]
set_option maxHeartbeats 32000000 in
theorem meets10 (A:Option Addr) (n0 c:Nat) (L:List Ent) (A':Option Addr) (n1 c':Nat) (m:List Hr) (A1:Option Addr) (c1:Nat) (A2:Option Addr) (c2:Nat) (i r:List Atm) (up:Bool) (Al:Option Addr) (nl cl:Nat) (l:List Int) (w:World) (h:rdEnts w (lt_ w.heap.size) L [.slice A n0 c]) (h':rdHrs w (lt_ w.heap.size) m [.slice A' n1 c']) (hi:rdAtms w (lt_ w.heap.size) i [.slice A1 i.length c1]) (hr:rdAtms w (lt_ w.heap.size) r [.slice A2 r.length c2]) (hl:rdInts w (lt_ w.heap.size) l [.slice Al nl cl]) (E:EnvR w) :
  Calls Tryz.prog 5 #[.slice A n0 c,.slice A' n1 c',.agg #[.slice A1 i.length c1,.slice A2 r.length c2,.bool up],.slice Al nl cl] w fun e w'=>e=.returned (.bool true)∧Below w.heap.size w w':=by
 obtain ⟨rfl,hnc,hcm,-⟩:=rdEnts_at h
 obtain ⟨rfl,hnc',hcm',-⟩:=rdHrs_at h'
 have hcx:c≤9223372036854775807:=hcm
 have hcy:c'≤9223372036854775807:=hcm'
 have HE:=Lib.hid E
 have H:=Lib.hid (fun (W:World) (hb:Below w.heap.size w W)=>(rdEnts_good.up (rdEnts_good.below h hb) hb.size:rdEnts W (lt_ W.heap.size) L [.slice A L.length c]))
 have H':=Lib.hid (fun (W:World) (hb:Below w.heap.size w W)=>(rdHrs_good.up (rdHrs_good.below h' hb) hb.size:rdHrs W (lt_ W.heap.size) m [.slice A' m.length c']))
 obtain ⟨rfl,hlc,hlm,-⟩:=rdInts_at hl
 have hlx:cl≤9223372036854775807:=hlm
 have Hl:=Lib.hid (fun (W:World) (hb:Below w.heap.size w W)=>(rdInts_good.up (rdInts_good.below hl hb) hb.size:rdInts W (lt_ W.heap.size) l [.slice Al l.length cl]))
 have HI:=Lib.hid (fun (W:World) (hb:Below w.heap.size w W)=>(rdAtms_good.up (rdAtms_good.below hi hb) hb.size:rdAtms W (lt_ W.heap.size) i [.slice A1 i.length c1]))
 have HR:=Lib.hid (fun (W:World) (hb:Below w.heap.size w W)=>(rdAtms_good.up (rdAtms_good.below hr hb) hb.size:rdAtms W (lt_ W.heap.size) r [.slice A2 r.length c2]))
 obtain ⟨W1,hW1⟩:∃W,W=w.alloc (.cells #[.slice A1 i.length c1,.slice A2 r.length c2,.bool up] 26):=⟨_,rfl⟩
 have b1:Below w.heap.size w W1:=by rw [hW1];exact (Below.refl _ w).alloc (Nat.le_refl _) _
 have B1:=Lib.hid b1
 have KX:=Lib.hid (fun (W:World) (hb:Below W1.heap.size W1 W)=>(show W.cell? ⟨w.heap.size,0,none⟩=some (.slice A1 i.length c1)∧W.cell? ⟨w.heap.size,1,none⟩=some (.slice A2 r.length c2)∧W.cell? ⟨w.heap.size,2,none⟩=some (.bool up) from by
  refine ⟨?_,?_,?_⟩<;>exact keep6 hb (by rw [hW1];simp [go_sem])))
 clear h h' hcm hcm' E hl hlm hi hr b1
 go_enter Tryz.func5,Tryz.ntmps5
 go_upto_region 1 with fail
 rw [←hW1]
 clear hW1
 go_wp2_with fail
 refine (shown10_any W1 (HE.out.below B1.out)).mono ?_
 rintro e w1 ⟨rfl,hb⟩
 have Q1:=Lib.hid hb
 have B2:=Lib.hid (bel_in B1.out hb)
 clear hb
 go_wp2_with fail
 refine (small10_any A L.length c L A' m.length c' m w1 (H.out w1 B2.out) (H'.out w1 B2.out)).mono ?_
 rintro e w2 ⟨⟨ok,rfl,hfw⟩,hb⟩
 have Q2:=Lib.hid (bel_in Q1.out hb)
 have B3:=Lib.hid (bel_in B2.out hb)
 clear hb Q1
 obtain ⟨x0,x1,x2⟩:=KX.out w2 Q2.out
 go_wp2_with fail
 refine (asks10_any A1 c1 A2 c2 i r up w2 (HI.out w2 B3.out) (HR.out w2 B3.out)).mono ?_
 rintro e w3 ⟨⟨ok2,rfl,hask⟩,hb⟩
 have Q3:=Lib.hid (bel_in Q2.out hb)
 have B4:=Lib.hid (bel_in B3.out hb)
 clear hb x0 x1 x2
 cases ok
 ·go_wp2
  go_ret
  exact ⟨rfl,B4.out⟩
 have FW:=Lib.hid (hfw rfl)
 clear hfw
 cases ok2
 ·go_wp2
  go_ret
  exact ⟨rfl,B4.out⟩
 have AK:=Lib.hid (hask rfl)
 clear hask
 by_cases hln:(100:Int) < (l.length:Int)
 ·have hln':100 < l.length:=by omega
  go_wp2
  go_ret
  exact ⟨rfl,B4.out⟩
 have hln':¬100 < l.length:=by omega
 have KN:=Lib.hid (new9_any A L.length c L A' m.length c' m w3 (H.out w3 B4.out) (H'.out w3 B4.out) (fun x hx=>(FW.out.1.2 x hx).sz) (fun y hy=>(FW.out.2.2 y hy).sz) (HE.out.below B4.out))
 go_wp2_with fail
 refine KN.out.mono ?_
 rintro e w4 ⟨hnr,hb⟩
 have Q4:=Lib.hid (bel_in Q3.out hb)
 have B5:=Lib.hid (bel_in B4.out hb)
 clear hb KN
 by_cases hboth:L.all rgtE=true∧rightH m=true
 rotate_left
 ·obtain rfl:=hnr.1 hboth
  clear hboth hnr
  go_wp2
  go_ret
  exact ⟨rfl,B5.out⟩
 by_cases hmany:64 < (entU L (m.map fun y=>y.e)).length
 ·obtain rfl:=hnr.2.1 hboth hmany
  clear hboth hnr hmany
  go_wp2
  go_ret
  exact ⟨rfl,B5.out⟩
 obtain ⟨b,rfl,hup⟩:=hnr.2.2 hboth hmany
 have UFF:=Lib.hid (uf_of hboth FW.out hmany)
 generalize entU L (m.map fun y=>y.e)=U at *
 have HU:=Lib.hid (fun (W:World) (hb:Below w4.heap.size w4 W)=>(UFF.out.uq hup).below hb)
 have HEU:=Lib.hid (fun (W:World) (hb:Below w4.heap.size w4 W)=>HE.out.below (bel_in B5.out hb))
 clear hnr hboth hmany hup
 have AZ:=Lib.hid (show (∀a ∈ i,a.n.size≤1000000)∧(∀a ∈ r,a.n.size≤1000000)∧i.length≤100∧r.length≤100 from ⟨fun a ha=>by have:=(AK.out.1.2 a ha).1;omega,fun a ha=>by have:=(AK.out.2.2 a ha).1;omega,by have:=AK.out.1.1;omega,by have:=AK.out.2.1;omega⟩)
 obtain ⟨x0,x1,x2⟩:=KX.out w4 Q4.out
 go_wp2_with fail
 refine (vright10_any A1 c1 A2 c2 i r up w4 (HI.out w4 B5.out) (HR.out w4 B5.out) (HEU.out w4 (Below.refl _ _))).mono ?_
 rintro e w5 ⟨rfl,hb⟩
 have B45:=Lib.hid hb
 clear hb x0 x1 x2
 cases hrq:rqB i r
 ·go_wp2
  go_ret
  exact ⟨rfl,bel_in B5.out B45.out⟩
 have RQ:=Lib.hid hrq
 clear hrq
 go_wp2_with fail
 refine (len9_any b U m w5 (HU.out w5 B45.out).up).mono ?_
 rintro e w6 ⟨rfl,rfl⟩
 go_wp2_with fail
 refine (set10_any Al l.length cl l U.length w5 (Hl.out w5 (bel_in B5.out B45.out)) (by have:=UFF.out.len;omega)).mono ?_
 rintro e w6 ⟨⟨As,cs,rfl,hrs⟩,hb⟩
 have B46:=Lib.hid (bel_in B45.out hb)
 have SP:=Lib.hid (setL_set l U.length)
 have SL:=Lib.hid (Nat.le_trans (setL_len10 l U.length) UFF.out.len)
 generalize hss:setL l U.length=s at *
 have RS:=Lib.hid (fun (W:World) (hx:Below w6.heap.size w6 W)=>(rdInts_good.up (rdInts_good.below hrs hx) hx.size:rdInts W (lt_ W.heap.size) s [.slice As s.length cs]))
 obtain ⟨-,hsc,hsm,-⟩:=rdInts_at hrs
 have hsm':cs≤9223372036854775807:=hsm
 clear hb hrs hss hsm
 have HW:=Lib.hid (fun (W:World) (hx:Below w6.heap.size w6 W)=>And.intro (HU.out W (bel_in B46.out hx)) (HEU.out W (bel_in B46.out hx)))
 have KM:=Lib.hid (fun (W:World) (hx:Below w6.heap.size w6 W)=>vmeet_any b U m A1 c1 i A2 c2 r up As s.length cs s W (HW.out W hx).1 (RS.out W hx) (HI.out W (bel_in B5.out (bel_in B46.out hx))) (HR.out W (bel_in B5.out (bel_in B46.out hx))) AZ.out.1 AZ.out.2.1 (HW.out W hx).2 (by have:=SL.out;omega) (flt_bound UFF.out.dep (by have:=SL.out;omega) UFF.out.len AZ.out.2.2.1 AZ.out.2.2.2))
 have KC:=Lib.hid (vclosed_any b U m As s.length cs s w6 (HW.out w6 (Below.refl _ _)).1 (RS.out w6 (Below.refl _ _)) (HW.out w6 (Below.refl _ _)).2 (Nat.le_trans (ins_bound UFF.out.dep (by have:=SL.out;omega)) (by decide)))
 have MG:=Lib.hid (meets_good (i:=i) (r:=r) SP.out UFF.out.held RQ.out)
 obtain ⟨G0,hG0⟩:∃g,g=clB U s:=⟨_,rfl⟩
 obtain ⟨M0,hM0⟩:∃g,g=((rqB i r&&setB U.length s)&&(fltS U (heldU U m) i r s).isEmpty):=⟨_,rfl⟩
 rw [←hG0] at KC MG
 rw [←hM0] at KM MG
 have KH:=Lib.hid (fun (W:World) (hx:Below w6.heap.size w6 W)=>held10_any b U m W (HW.out W hx).1.up UFF.out.hm UFF.out.hz)
 have HDL:=Lib.hid (show (heldU U m).length≤1000 from by unfold heldU insU;rw [List.length_map];exact Nat.le_trans (List.length_filter_le _ _) (by have:=UFF.out.hm;omega))
 generalize heldU U m=hd at *
 clear hG0 hM0
 go_wp2_with fail
 refine KC.out.mono ?_
 rintro e w7 ⟨rfl,hb⟩
 have B67:=Lib.hid hb
 clear hb KC
 go_wp2_with fail
 refine (KH.out _ B67.out).mono ?_
 rintro e w8 ⟨⟨Ah,ch,rfl,hrh⟩,hb⟩
 have B68:=Lib.hid (bel_in B67.out hb)
 have RH:=Lib.hid (fun (W:World) (hx:Below w8.heap.size w8 W)=>(rdInts_at (rdInts_good.up (rdInts_good.below (rdInts_good.more hrh fun k hk=>hk.2:rdInts w8 (lt_ w8.heap.size) hd [.slice Ah hd.length ch]) hx) hx.size)).2.2.2)
 obtain ⟨-,hhc,hhm,-⟩:=rdInts_at hrh
 have hhm':ch≤9223372036854775807:=hhm
 clear hb KH hrh hhm
 go_wp2_with fail
 go_loopw [15,17] (fun gv ix wr=>∃k:Nat,k≤hd.length∧ix=.int .i64 k∧(∃gg:Bool,gv=.bool gg∧Hid (gg=(G0&&(hd.take k).all fun h=>decide (h ∈ s))))∧Below w8.heap.size w8 wr) (fun _ ix _=>hd.length - (intOf ix).toNat)
 case atStart=>exact ⟨0,Nat.zero_le _,rfl,⟨G0,rfl,Lib.hid (by simp)⟩,Below.refl _ _⟩
 case round=>
  obtain ⟨k,hk,rfl,⟨gg,rfl,HG⟩,hbel⟩:=hrel
  have HB:=Lib.hid hbel
  clear hbel
  by_cases hlt:k < hd.length
  ·obtain ⟨ad,rfl,-,e0⟩:=RH.out wr HB.out k hlt
   have i0:(0:Int)≤(k:Int):=by omega
   have i1:(k:Int) < (hd.length:Int):=by omega
   have k1:IntKind.i64.wrap ((k:Int)+1)=(k:Int)+1:=IntWalk.i64_in _ (by have:=HDL.out;omega)
   have ST:=Lib.hid (all_take10 (p:=fun h=>decide (h ∈ s)) hlt)
   generalize hd[k]=x at *
   cases gg
   ·have NX:=Lib.hid (show Hid (false=(G0&&(hd.take (k+1)).all fun h=>decide (h ∈ s))) from Lib.hid (by rw [ST.out,←Bool.and_assoc,←HG.out];rfl))
    clear ST
    go_wp2
    go_roundw
    case rel=>exact ⟨k+1,by omega,by go_num,⟨false,rfl,NX.out⟩,HB.out⟩
    case measure=>simp [intOf];omega
   obtain ⟨WI,hWI⟩:∃W,W=wr.alloc (.cells #[.int .i64 x] 3):=⟨_,rfl⟩
   have bi:Below wr.heap.size wr WI:=by rw [hWI];exact (Below.refl _ wr).alloc (Nat.le_refl _) _
   have ri:rdInts WI (lt_ WI.heap.size) [x] [.slice (some ⟨wr.heap.size,0,none⟩) 1 1]:=rd_ints9 (l:=[x]) (by rw [hWI];exact heap_alloc_new wr _) rfl (by rw [hWI];unfold lt_;simp) (by simp)
   have BI:=Lib.hid (bel_in HB.out bi)
   have KB:=Lib.hid (both10_any As (some ⟨wr.heap.size,0,none⟩) s.length cs 1 1 s [x] WI (RS.out WI (bel_in B68.out BI.out)) ri (by have:=SL.out;simp;omega))
   have BO:=Lib.hid (both_one SP.out.2 (h:=x))
   generalize hnn:(bothL s [x]).length=nn at KB BO
   clear bi ri hnn
   go_wp2_with fail
   rw [←hWI]
   clear hWI
   refine KB.out.mono ?_
   rintro e w9 ⟨⟨Ao,co,rfl,-⟩,hb⟩
   have B9:=Lib.hid (bel_in BI.out hb)
   clear hb KB e0
   by_cases h1:nn=1
   ·have t0:((nn:Int)==1)=true:=by rw [h1];rfl
    have NX:=Lib.hid (show Hid (true=(G0&&(hd.take (k+1)).all fun h=>decide (h ∈ s))) from Lib.hid (by rw [ST.out,←Bool.and_assoc,←HG.out,decide_eq_true (BO.out.1 h1)];rfl))
    clear ST BO h1
    go_wp2
    go_roundw
    case rel=>exact ⟨k+1,by omega,by go_num,⟨true,rfl,NX.out⟩,B9.out⟩
    case measure=>simp [intOf];omega
   ·have t0:((nn:Int)==1)=false:=by rw [beq_eq_false_iff_ne];omega
    have NX:=Lib.hid (show Hid (false=(G0&&(hd.take (k+1)).all fun h=>decide (h ∈ s))) from Lib.hid (by rw [ST.out,←Bool.and_assoc,←HG.out,decide_eq_false (fun q=>h1 (BO.out.2 q))];rfl))
    clear ST BO h1
    go_wp2
    go_roundw
    case rel=>exact ⟨k+1,by omega,by go_num,⟨false,rfl,NX.out⟩,B9.out⟩
    case measure=>simp [intOf];omega
  ·obtain rfl:k=hd.length:=by omega
   obtain ⟨G1,hG1⟩:∃g,g=(G0&&hd.all fun h=>decide (h ∈ s)):=⟨_,rfl⟩
   have E1:=Lib.hid (show gg=G1 from by rw [hG1,HG.out,List.take_length])
   have MG1:=Lib.hid (MG.out)
   rw [←hG1] at MG1
   have BA:=Lib.hid (bel_in B68.out HB.out)
   clear HG hG1
   have HA2:=Lib.hid (fun (W:World) (hx:Below w6.heap.size w6 W)=>(rdAtms_at (HI.out W (bel_in B5.out (bel_in B46.out hx)))).2.2.2)
   obtain ⟨x0,-,-⟩:=KX.out wr (bel_in Q4.out (bel_in B46.out BA.out))
   obtain ⟨-,hq2c,hq2m,-⟩:=rdAtms_at (HI.out w (Below.refl _ _))
   have hq2m':c1≤9223372036854775807:=hq2m
   clear hq2m
   go_wp2_with fail
   go_loopw [15,18] (fun gv ix wr=>∃k:Nat,k≤i.length∧ix=.int .i64 k∧(∃gg:Bool,gv=.bool gg∧Hid (gg=(G1&&(i.take k).all (givS U s))))∧Below w6.heap.size w6 wr) (fun _ ix _=>i.length - (intOf ix).toNat)
   case atStart=>exact ⟨0,Nat.zero_le _,rfl,⟨gg,rfl,Lib.hid (by rw [E1.out];simp)⟩,BA.out⟩
   case round=>
    obtain ⟨k,hk,rfl,⟨gg,rfl,HG⟩,hbel⟩:=hrel
    have HB:=Lib.hid hbel
    clear hbel x0
    obtain ⟨x0,-,-⟩:=KX.out wr (bel_in Q4.out (bel_in B46.out HB.out))
    by_cases hlt:k < i.length
    ·obtain ⟨ad,rfl,-,e0,e1,e2⟩:=HA2.out wr HB.out k hlt
     have i0:(0:Int)≤(k:Int):=by omega
     have i1:(k:Int) < (i.length:Int):=by omega
     have k1:IntKind.i64.wrap ((k:Int)+1)=(k:Int)+1:=IntWalk.i64_in _ (by have:=AZ.out.2.2;omega)
     have ST:=Lib.hid (all_take10 (p:=(givS U s)) hlt)
     have KG:=Lib.hid (givers9_any b U m i[k] wr (HW.out wr HB.out).1.up (UFF.out.big _) (AZ.out.1 _ (List.getElem_mem hlt)) (HW.out wr HB.out).2)
     have BO:=Lib.hid (givS_both SP.out (a:=i[k]))
     have GL:=Lib.hid (Nat.le_trans (ixU_len10 (gvA i[k]) U 0) UFF.out.len)
     generalize hxx:i[k]=x at e0 e1 e2 KG BO GL ST
     clear hxx
     cases gg
     ·have NX:=Lib.hid (show Hid (false=(G1&&(i.take (k+1)).all (givS U s))) from Lib.hid (by rw [ST.out,←Bool.and_assoc,←HG.out];rfl))
      clear ST KG BO
      go_wp2
      go_roundw
      case rel=>exact ⟨k+1,by omega,by go_num,⟨false,rfl,NX.out⟩,HB.out⟩
      case measure=>simp [intOf];omega
     generalize ixU (gvA x) U 0=gs at KG BO GL
     go_wp2_with fail
     refine KG.out.mono ?_
     rintro e w9 ⟨⟨Ag,cg,rfl,hrg⟩,hb⟩
     have B9:=Lib.hid (bel_in HB.out hb)
     have KB:=Lib.hid (both10_any As Ag s.length cs gs.length cg s gs w9 (RS.out w9 B9.out) hrg (by have:=Nat.mul_le_mul SL.out GL.out;omega))
     generalize hnn:(bothL s gs).length=nn at KB BO
     clear hb KG e0 e1 e2 hrg hnn
     go_wp2_with fail
     refine KB.out.mono ?_
     rintro e w10 ⟨⟨Ao,co,rfl,-⟩,hb⟩
     have B10:=Lib.hid (bel_in B9.out hb)
     clear hb KB
     by_cases h1:0 < nn
     ·have t0:(0:Int) < (nn:Int):=by omega
      have t0':decide ((0:Int) < (nn:Int))=true:=decide_eq_true t0
      have NX:=Lib.hid (show Hid (true=(G1&&(i.take (k+1)).all (givS U s))) from Lib.hid (by rw [ST.out,←Bool.and_assoc,←HG.out,BO.out.1 h1];rfl))
      clear ST BO
      go_wp2
      go_roundw
      case rel=>exact ⟨k+1,by omega,by go_num,⟨true,rfl,NX.out⟩,B10.out⟩
      case measure=>simp [intOf];omega
     ·have t0:¬(0:Int) < (nn:Int):=by omega
      have t0':decide ((0:Int) < (nn:Int))=false:=decide_eq_false t0
      have t1:nn=0:=by omega
      have NX:=Lib.hid (show Hid (false=(G1&&(i.take (k+1)).all (givS U s))) from Lib.hid (by rw [ST.out,←Bool.and_assoc,←HG.out,Bool.eq_false_iff.2 (fun q=>h1 (BO.out.2 q))];rfl))
      clear ST BO
      go_wp2
      go_roundw
      case rel=>exact ⟨k+1,by omega,by go_num,⟨false,rfl,NX.out⟩,B10.out⟩
      case measure=>simp [intOf];omega
    ·obtain rfl:k=i.length:=by omega
     obtain ⟨G2,hG2⟩:∃g,g=(G1&&i.all (givS U s)):=⟨_,rfl⟩
     have E2:=Lib.hid (show gg=G2 from by rw [hG2,HG.out,List.take_length])
     have MG2:=Lib.hid (MG1.out)
     rw [←hG2] at MG2
     have BA2:=HB
     clear HG hG2
     have HA3:=Lib.hid (fun (W:World) (hx:Below w6.heap.size w6 W)=>(rdAtms_at (HR.out W (bel_in B5.out (bel_in B46.out hx)))).2.2.2)
     obtain ⟨-,x1,-⟩:=KX.out wr (bel_in Q4.out (bel_in B46.out BA2.out))
     obtain ⟨-,hq3c,hq3m,-⟩:=rdAtms_at (HR.out w (Below.refl _ _))
     have hq3m':c2≤9223372036854775807:=hq3m
     clear hq3m
     go_wp2_with fail
     go_loopw [15,19] (fun gv ix wr=>∃k:Nat,k≤r.length∧ix=.int .i64 k∧(∃gg:Bool,gv=.bool gg∧Hid (gg=(G2&&(r.take k).all (fun a=>!givS U s a))))∧Below w6.heap.size w6 wr) (fun _ ix _=>r.length - (intOf ix).toNat)
     case atStart=>exact ⟨0,Nat.zero_le _,rfl,⟨gg,rfl,Lib.hid (by rw [E2.out];simp)⟩,BA2.out⟩
     case round=>
      obtain ⟨k,hk,rfl,⟨gg,rfl,HG⟩,hbel⟩:=hrel
      have HB:=Lib.hid hbel
      clear hbel x1
      obtain ⟨-,x1,-⟩:=KX.out wr (bel_in Q4.out (bel_in B46.out HB.out))
      by_cases hlt:k < r.length
      ·obtain ⟨ad,rfl,-,e0,e1,e2⟩:=HA3.out wr HB.out k hlt
       have i0:(0:Int)≤(k:Int):=by omega
       have i1:(k:Int) < (r.length:Int):=by omega
       have k1:IntKind.i64.wrap ((k:Int)+1)=(k:Int)+1:=IntWalk.i64_in _ (by have:=AZ.out.2.2;omega)
       have ST:=Lib.hid (all_take10 (p:=(fun a=>!givS U s a)) hlt)
       have KG:=Lib.hid (givers9_any b U m r[k] wr (HW.out wr HB.out).1.up (UFF.out.big _) (AZ.out.2.1 _ (List.getElem_mem hlt)) (HW.out wr HB.out).2)
       have BO:=Lib.hid (givS_both SP.out (a:=r[k]))
       have GL:=Lib.hid (Nat.le_trans (ixU_len10 (gvA r[k]) U 0) UFF.out.len)
       generalize hxx:r[k]=x at e0 e1 e2 KG BO GL ST
       clear hxx
       cases gg
       ·have NX:=Lib.hid (show Hid (false=(G2&&(r.take (k+1)).all (fun a=>!givS U s a))) from Lib.hid (by rw [ST.out,←Bool.and_assoc,←HG.out];rfl))
        clear ST KG BO
        go_wp2
        go_roundw
        case rel=>exact ⟨k+1,by omega,by go_num,⟨false,rfl,NX.out⟩,HB.out⟩
        case measure=>simp [intOf];omega
       generalize ixU (gvA x) U 0=gs at KG BO GL
       go_wp2_with fail
       refine KG.out.mono ?_
       rintro e w9 ⟨⟨Ag,cg,rfl,hrg⟩,hb⟩
       have B9:=Lib.hid (bel_in HB.out hb)
       have KB:=Lib.hid (both10_any As Ag s.length cs gs.length cg s gs w9 (RS.out w9 B9.out) hrg (by have:=Nat.mul_le_mul SL.out GL.out;omega))
       generalize hnn:(bothL s gs).length=nn at KB BO
       clear hb KG e0 e1 e2 hrg hnn
       go_wp2_with fail
       refine KB.out.mono ?_
       rintro e w10 ⟨⟨Ao,co,rfl,-⟩,hb⟩
       have B10:=Lib.hid (bel_in B9.out hb)
       clear hb KB
       by_cases h1:0 < nn
       ·have t0:((nn:Int)==0)=false:=by rw [beq_eq_false_iff_ne];omega
        have t1:¬nn=0:=by omega
        have NX:=Lib.hid (show Hid (false=(G2&&(r.take (k+1)).all (fun a=>!givS U s a))) from Lib.hid (by rw [ST.out,←Bool.and_assoc,←HG.out,BO.out.1 h1];rfl))
        clear ST BO
        go_wp2
        go_roundw
        case rel=>exact ⟨k+1,by omega,by go_num,⟨false,rfl,NX.out⟩,B10.out⟩
        case measure=>simp [intOf];omega
       ·have t0:((nn:Int)==0)=true:=by rw [show nn=0 by omega];rfl
        have t1:nn=0:=by omega
        have NX:=Lib.hid (show Hid (true=(G2&&(r.take (k+1)).all (fun a=>!givS U s a))) from Lib.hid (by rw [ST.out,←Bool.and_assoc,←HG.out,Bool.eq_false_iff.2 (fun q=>h1 (BO.out.2 q))];rfl))
        clear ST BO
        go_wp2
        go_roundw
        case rel=>exact ⟨k+1,by omega,by go_num,⟨true,rfl,NX.out⟩,B10.out⟩
        case measure=>simp [intOf];omega
      ·obtain rfl:k=r.length:=by omega
       obtain ⟨G3,hG3⟩:∃g,g=(G2&&r.all (fun a=>!givS U s a)):=⟨_,rfl⟩
       have E3:=Lib.hid (show gg=G3 from by rw [hG3,HG.out,List.take_length])
       have MG3:=Lib.hid (MG2.out)
       rw [←hG3] at MG3
       have BA3:=HB
       clear HG hG3
       have ME:=Lib.hid (show M0=gg from MG3.out.trans E3.out.symm)
       obtain ⟨x0,x1,x2⟩:=KX.out wr (bel_in Q4.out (bel_in B46.out BA3.out))
       have KMM:=Lib.hid (KM.out wr BA3.out)
       rw [ME.out] at KMM
       clear ME KM MG MG1 MG2 MG3 E1 E2 E3
       go_wp2_with fail
       refine KMM.out.mono ?_
       rintro e w20 ⟨rfl,hb⟩
       have FIN:=Lib.hid (bel_in B5.out (bel_in B46.out (bel_in BA3.out hb)))
       clear hb KMM x0 x1 x2
       cases gg
       ·go_wp2
        go_ret
        exact ⟨by first|rfl|simp,FIN.out⟩
       ·go_wp2
        go_ret
        exact ⟨by first|rfl|simp,FIN.out⟩
end Go.Proofs.YthchfkhpmgkghaaGreatDoor
