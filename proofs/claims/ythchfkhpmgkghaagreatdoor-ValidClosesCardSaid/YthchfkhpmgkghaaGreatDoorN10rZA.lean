/- What the laws rest on: N10r. -/
import Derived.Deep.CutRange
import Derived.Test.YthchfkhpmgkghaaGreatDoorQAOZA
import Derived.Test.YthchfkhpmgkghaaGreatDoorQAZZA
import Derived.Test.YthchfkhpmgkghaaGreatDoorQBTZA
import Derived.Test.YthchfkhpmgkghaaGreatDoorQBUZA
import Derived.Test.YthchfkhpmgkghaaGreatDoorQCEZA
import Derived.Test.YthchfkhpmgkghaaGreatDoorQCGZA
import Derived.Test.YthchfkhpmgkghaaGreatDoorQCHZA
import Derived.Test.YthchfkhpmgkghaaGreatDoorQCLZA
import Derived.Test.YthchfkhpmgkghaaGreatDoorQCMZA
set_option maxRecDepth 100000
set_option linter.unusedVariables false
set_option linter.unusedSimpArgs false
namespace Go.Proofs.YthchfkhpmgkghaaGreatDoor
open Go.RowKit Go.Sort
def mA10 (U:List Ent) (s:List Int) (a:Atm):Bool:=decide (0 < (bothL s (ixU (gvA a) U 0)).length)
def mG10 (U:List Ent) (s:List Int) (g:List Atm):Bool:=g.any (mA10 U s)
def p110 (U:List Ent) (s:List Int) (p:Int):Bool:=decide ((bothL s (ixU (isN (entA U p).n) U 0)).length=1)&&(entA U p).d.all (mG10 U s)
def p210 (s:List Int) (z:Int × Int):Bool:=decide ((bothL s [z.1,z.2]).length < 2)
theorem closes_good {U:List Ent} {s:List Int} (hs:SetP U.length s):clB U s=(s.all (p110 U s)&&(fgU U 0).all (p210 s)):=by
 rw [clB_set hs,Bool.eq_iff_iff,List.isEmpty_iff,closes_iff hs,Bool.and_eq_true,List.all_eq_true,List.all_eq_true]
 unfold p110 p210 mG10 mA10
 constructor
 ·rintro ⟨h1,h2,h3⟩
  exact ⟨fun p hp=>by rw [decide_eq_true (h1 p hp),Bool.true_and,List.all_eq_true];exact h2 p hp,fun z hz=>decide_eq_true (h3 z hz)⟩
 ·rintro ⟨h1,h2⟩
  refine ⟨fun p hp=>?_,fun p hp g hg=>?_,fun z hz=>of_decide_eq_true (h2 z hz)⟩
  ·have:=h1 p hp;rw [Bool.and_eq_true] at this;exact of_decide_eq_true this.1
  ·have:=h1 p hp;rw [Bool.and_eq_true,List.all_eq_true] at this;exact this.2 g hg
theorem any_take10r {α:Type} {p:α→Bool} {l:List α} {k:Nat} (h:k < l.length):(l.take (k+1)).any p=((l.take k).any p||p l[k]):=by
 rw [List.take_succ_eq_append_getElem h,List.any_append];simp
set_option maxHeartbeats 32000000 in
theorem closes10 (A:Option Addr) (n0 c:Nat) (L:List Ent) (A':Option Addr) (n1 c':Nat) (m:List Hr) (Al:Option Addr) (nl cl:Nat) (l:List Int) (w:World) (h:rdEnts w (lt_ w.heap.size) L [.slice A n0 c]) (h':rdHrs w (lt_ w.heap.size) m [.slice A' n1 c']) (hl:rdInts w (lt_ w.heap.size) l [.slice Al nl cl]) (E:EnvR w) :
  Calls Tryz.prog 6 #[.slice A n0 c,.slice A' n1 c',.slice Al nl cl] w fun e w'=>e=.returned (.bool true)∧Below w.heap.size w w':=by
 obtain ⟨rfl,hnc,hcm,-⟩:=rdEnts_at h
 obtain ⟨rfl,hnc',hcm',-⟩:=rdHrs_at h'
 have hcx:c≤9223372036854775807:=hcm
 have hcy:c'≤9223372036854775807:=hcm'
 have HE:=Lib.hid E
 have H:=Lib.hid (fun (W:World) (hb:Below w.heap.size w W)=>(rdEnts_good.up (rdEnts_good.below h hb) hb.size:rdEnts W (lt_ W.heap.size) L [.slice A L.length c]))
 have H':=Lib.hid (fun (W:World) (hb:Below w.heap.size w W)=>(rdHrs_good.up (rdHrs_good.below h' hb) hb.size:rdHrs W (lt_ W.heap.size) m [.slice A' m.length c']))
 obtain ⟨rfl,hlc,hlm,-⟩:=rdInts_at hl
 have hlx:cl≤9223372036854775807:=hlm
 have Hl:=Lib.hid (fun (W:World) (hb:Below w.heap.size w W)=>(rdInts_good.up (rdInts_good.below hl hb) hb.size:rdInts W (lt_ W.heap.size) l [.slice Al l.length cl]))
 clear h h' hcm hcm' E hl hlm
 go_enter Tryz.func6,Tryz.ntmps6
 go_wp2_with fail
 refine (shown10_any w (HE.out.below (Below.refl _ _))).mono ?_
 rintro e w1 ⟨rfl,hb⟩
 have Q1:=Lib.hid hb
 have B2:=Lib.hid (bel_in (Below.refl _ _) hb)
 clear hb
 go_wp2_with fail
 refine (small10_any A L.length c L A' m.length c' m w1 (H.out w1 B2.out) (H'.out w1 B2.out)).mono ?_
 rintro e w3 ⟨⟨ok,rfl,hfw⟩,hb⟩
 have Q3:=Lib.hid (bel_in Q1.out hb)
 have B4:=Lib.hid (bel_in B2.out hb)
 clear hb Q1
 cases ok
 ·go_wp2
  go_ret
  exact ⟨rfl,B4.out⟩
 have FW:=Lib.hid (hfw rfl)
 clear hfw
 by_cases hln:(100:Int) < (l.length:Int)
 ·have hln':100 < l.length:=by omega
  go_wp2
  go_ret
  exact ⟨rfl,B4.out⟩
 have hln':¬100 < l.length:=by omega
 have KN:=Lib.hid (new9_any A L.length c L A' m.length c' m w3 (H.out w3 B4.out) (H'.out w3 B4.out) (fun x hx=>(FW.out.1.2 x hx).sz) (fun y hy=>(FW.out.2.2 y hy).sz) (HE.out.below B4.out))
 go_wp2_with fail
 refine KN.out.mono ?_
 rintro e w4 ⟨hnr,hb⟩
 have Q4:=Lib.hid (bel_in Q3.out hb)
 have B5:=Lib.hid (bel_in B4.out hb)
 clear hb KN
 by_cases hboth:L.all rgtE=true∧rightH m=true
 rotate_left
 ·obtain rfl:=hnr.1 hboth
  clear hboth hnr
  go_wp2
  go_ret
  exact ⟨rfl,B5.out⟩
 by_cases hmany:64 < (entU L (m.map fun y=>y.e)).length
 ·obtain rfl:=hnr.2.1 hboth hmany
  clear hboth hnr hmany
  go_wp2
  go_ret
  exact ⟨rfl,B5.out⟩
 obtain ⟨b,rfl,hup⟩:=hnr.2.2 hboth hmany
 have UFF:=Lib.hid (uf_of hboth FW.out hmany)
 generalize entU L (m.map fun y=>y.e)=U at *
 have HU:=Lib.hid (fun (W:World) (hb:Below w4.heap.size w4 W)=>(UFF.out.uq hup).below hb)
 have HEU:=Lib.hid (fun (W:World) (hb:Below w4.heap.size w4 W)=>HE.out.below (bel_in B5.out hb))
 clear hnr hboth hmany hup
 have mixed:Tryz.prog.follows .mixedOrders=true:=by kernel_rfl
 go_wp2_with fail
 refine (len9_any b U m w4 (HU.out w4 (Below.refl _ _)).up).mono ?_
 rintro e w5 ⟨rfl,rfl⟩
 go_wp2_with fail
 refine (set10_any Al l.length cl l U.length w4 (Hl.out w4 B5.out) (by have:=UFF.out.len;omega)).mono ?_
 rintro e w6 ⟨⟨As,cs,rfl,hrs⟩,hb⟩
 have B46:=Lib.hid hb
 have SP:=Lib.hid (setL_set l U.length)
 have SL:=Lib.hid (Nat.le_trans (setL_len10 l U.length) UFF.out.len)
 generalize hss:setL l U.length=s at *
 have RS:=Lib.hid (fun (W:World) (hx:Below w6.heap.size w6 W)=>(rdInts_good.up (rdInts_good.below hrs hx) hx.size:rdInts W (lt_ W.heap.size) s [.slice As s.length cs]))
 obtain ⟨-,hsc,hsm,-⟩:=rdInts_at hrs
 have hsm':cs≤9223372036854775807:=hsm
 clear hb hrs hss hsm
 have HW:=Lib.hid (fun (W:World) (hx:Below w6.heap.size w6 W)=>And.intro (HU.out W (bel_in B46.out hx)) (HEU.out W (bel_in B46.out hx)))
 have KC:=Lib.hid (fun (W:World) (hx:Below w6.heap.size w6 W)=>vclosed_any b U m As s.length cs s W (HW.out W hx).1 (RS.out W hx) (HW.out W hx).2 (Nat.le_trans (ins_bound UFF.out.dep (by have:=SL.out;omega)) (by decide)))
 have CG:=Lib.hid (closes_good SP.out)
 obtain ⟨C0,hC0⟩:∃g,g=clB U s:=⟨_,rfl⟩
 rw [←hC0] at KC CG
 clear hC0
 go_wp2_with fail
 refine (entries9_any b U m w6 (HW.out w6 (Below.refl _ _)).1.up (by have:=UFF.out.len;omega)).mono ?_
 rintro e w8 ⟨⟨Ae,ce,rfl,hre⟩,hb⟩
 have B68:=Lib.hid hb
 have RE:=Lib.hid (rdEnts_at hre).2.2.2
 obtain ⟨-,hec,hem,-⟩:=rdEnts_at hre
 have hem':ce≤9223372036854775807:=hem
 clear hb hre hem
 go_wp2_with fail
 go_loopw [13,14] (fun gv ix wr=>∃k:Nat,k≤s.length∧ix=.int .i64 k∧(∃gg:Bool,gv=.bool gg∧Hid (gg=(s.take k).all (p110 U s)))∧Below w8.heap.size w8 wr) (fun _ ix _=>s.length - (intOf ix).toNat)
 case atStart=>exact ⟨0,Nat.zero_le _,rfl,⟨true,rfl,Lib.hid (by simp)⟩,Below.refl _ _⟩
 case round=>
  obtain ⟨k,hk,rfl,⟨gg,rfl,HG⟩,hbel⟩:=hrel
  have HB:=Lib.hid hbel
  clear hbel
  by_cases hlt:k < s.length
  ·have HB6:=Lib.hid (bel_in B68.out HB.out)
   obtain ⟨-,-,-,hat⟩:=rdInts_at (RS.out wr HB6.out)
   obtain ⟨ad,rfl,-,e0⟩:=hat k hlt
   have i0:(0:Int)≤(k:Int):=by omega
   have i1:(k:Int) < (s.length:Int):=by omega
   have k1:IntKind.i64.wrap ((k:Int)+1)=(k:Int)+1:=IntWalk.i64_in _ (by have:=SL.out;omega)
   have PK:=Lib.hid (SP.out.1 _ (List.getElem_mem hlt))
   obtain ⟨ja,hja,epa,ea⟩:=ent_at10 PK.out.1 PK.out.2
   have ST:=Lib.hid (show (s.take (k+1)).all (p110 U s)=((s.take k).all (p110 U s)&&(decide ((bothL s (ixU (isN U[ja].n) U 0)).length=1)&&U[ja].d.all (mG10 U s))) from by
    rw [all_take10 hlt];unfold p110;rw [ea])
   rw [epa] at e0
   obtain ⟨adE,A1,c1,A2,c2,A3,c3,A4,c4,rfl,-,hv,f0,-,f2,-⟩:=RE.out ja hja
   have a0:(0:Int)≤(ja:Int):=by omega
   have a1:(ja:Int) < (U.length:Int):=by omega
   have q0:=keep6 HB.out f0
   have q2:=keep6 HB.out f2
   have KO:=Lib.hid (of9_any b U m U[ja].n wr (HW.out wr HB6.out).1.up UFF.out.len (UFF.out.nm _ (List.getElem_mem hja)))
   have LG:=Lib.hid (Nat.le_trans (ixU_len10 (isN U[ja].n) U 0) UFF.out.len)
   have QD:=Lib.hid (fun (W:World) (hx:Below w8.heap.size w8 W)=>keep6 hx f2)
   have GRP:=Lib.hid (rdGrps_at hv.d).2.2.2
   have EPA:=Lib.hid epa
   have DZ:=Lib.hid (UFF.out.sz _ (List.getElem_mem hja))
   have DL:=Lib.hid (UFF.out.dep _ (List.getElem_mem hja))
   obtain ⟨-,hdc,hdm,-⟩:=rdGrps_at hv.d
   have hdm':c1≤9223372036854775807:=hdm
   clear hat epa ea hv f0 f2 hdm
   generalize hdd:U[ja].d=D at *
   generalize hnn:U[ja].n=nm at q0 KO LG ST
   clear hdd hnn
   generalize ixU (isN nm) U 0=og at KO LG ST
   go_upto_region 14 with fail
   go_cut [13] from 57 to 73 (fun v wx=>∃gb:Bool,v=.bool gb∧Hid (gb=((s.take k).all (p110 U s)&&decide ((bothL s og).length=1)))∧Below w8.heap.size w8 wx)
   case first=>
    cases gg
    ·have NX:=Lib.hid (show Hid (false=((s.take k).all (p110 U s)&&decide ((bothL s og).length=1))) from Lib.hid (by rw [←HG.out];rfl))
     go_wp2_with fail
     go_meet
     exact ⟨false,rfl,NX.out,HB.out⟩
    have KB:=Lib.hid (fun (Ag:Option Addr) (cg:Nat) (W:World) (hx:Below wr.heap.size wr W) hrg=>both10_any (some ad) Ag s.length cs og.length cg s og W (RS.out W (bel_in HB6.out hx)) hrg (by have:=Nat.mul_le_mul SL.out LG.out;omega))
    have EN:=Lib.hid (show Hid (decide ((bothL s og).length=1)=((s.take k).all (p110 U s)&&decide ((bothL s og).length=1))) from Lib.hid (by rw [←HG.out];rfl))
    go_wp2_with fail
    refine KO.out.mono ?_
    rintro e w9 ⟨⟨Ag,cg,rfl,hrg⟩,hb⟩
    have B9:=Lib.hid hb
    have KB:=Lib.hid (KB.out Ag cg w9 hb hrg)
    obtain ⟨nn,hnn⟩:∃n,n=(bothL s og).length:=⟨_,rfl⟩
    rw [←hnn] at KB
    have HN:=Lib.hid hnn
    clear hb KO e0 hrg hnn q0 q2
    go_wp2_with fail
    refine KB.out.mono ?_
    rintro e w10 ⟨⟨Ao,co,rfl,-⟩,hb⟩
    have B10:=Lib.hid (bel_in HB.out (bel_in B9.out hb))
    clear hb KB
    by_cases h1:nn=1
    ·have t0:((nn:Int)==1)=true:=by rw [h1];rfl
     have NX:=Lib.hid (show Hid (true=((s.take k).all (p110 U s)&&decide ((bothL s og).length=1))) from Lib.hid (by rw [←EN.out.out,←HN.out,h1];rfl))
     clear h1 HN EN
     go_wp2_with fail
     go_meet
     exact ⟨true,rfl,NX.out,B10.out⟩
    ·have t0:((nn:Int)==1)=false:=by rw [beq_eq_false_iff_ne];omega
     have NX:=Lib.hid (show Hid (false=((s.take k).all (p110 U s)&&decide ((bothL s og).length=1))) from Lib.hid (by rw [←EN.out.out,←HN.out,decide_eq_false h1]))
     clear h1 HN EN
     go_wp2_with fail
     go_meet
     exact ⟨false,rfl,NX.out,B10.out⟩
   case rest=>
    obtain ⟨gb,rfl,HGB,hbx⟩:=hcut
    obtain ⟨wx,rfl⟩:∃W:World,W=wc:=⟨_,rfl⟩
    have HX:=Lib.hid hbx
    clear hbx KO LG e0 q0 q2
    obtain ⟨-,-,-,hat⟩:=rdInts_at (RS.out wx (bel_in B68.out HX.out))
    obtain ⟨adx,eax,-,e0⟩:=hat k hlt
    obtain rfl:ad=adx:=Option.some.inj eax
    rw [EPA.out] at e0
    have q2:=QD.out wx HX.out
    clear hat eax
    go_wp2_with fail
    go_loopw [13,16] (fun gv ix wr=>∃n:Nat,n≤D.length∧ix=.int .i64 n∧(∃gx:Bool,gv=.bool gx∧Hid (gx=(gb&&(D.take n).all (mG10 U s))))∧Below w8.heap.size w8 wr) (fun _ ix _=>D.length - (intOf ix).toNat)
    case atStart=>exact ⟨0,Nat.zero_le _,rfl,⟨gb,rfl,Lib.hid (by simp)⟩,HX.out⟩
    case round=>
     obtain ⟨n,hn,rfl,⟨gx,rfl,HGX⟩,hbel⟩:=hrel
     have HBN:=Lib.hid hbel
     clear hbel e0 q2
     by_cases hnl:n < D.length
     ·have n0:(0:Int)≤(n:Int):=by omega
      have n1:(n:Int) < (D.length:Int):=by omega
      have n2:IntKind.i64.wrap ((n:Int)+1)=(n:Int)+1:=IntWalk.i64_in _ (by have:=DL.out;omega)
      have STN:=Lib.hid (all_take10 (p:=mG10 U s) hnl)
      have DZN:=Lib.hid (DZ.out _ (List.getElem_mem hnl))
      obtain ⟨adG,Ag,cg,rfl,-,h0,hg⟩:=GRP.out n hnl
      have HGQ:=Lib.hid (fun (W:World) (hx:Below w8.heap.size w8 W)=>And.intro (keep6 hx h0) ((rdAtms_at (rdAtms_good.up (rdAtms_good.below hg hx) hx.size)).2.2.2))
      obtain ⟨-,hgc,hgm,-⟩:=rdAtms_at hg
      have hgm':cg≤9223372036854775807:=hgm
      generalize hgp:D[n]=gp at *
      clear h0 hg hgm hgp
      go_wp2_with fail
      go_loopw [17,18] (fun mv ix wr=>∃j:Nat,j≤gp.length∧ix=.int .i64 j∧(∃mm:Bool,mv=.bool mm∧Hid (mm=(gp.take j).any (mA10 U s)))∧Below w8.heap.size w8 wr) (fun _ ix _=>gp.length - (intOf ix).toNat)
      case atStart=>exact ⟨0,Nat.zero_le _,rfl,⟨false,rfl,Lib.hid (by simp)⟩,HBN.out⟩
      case round=>
       obtain ⟨j,hj,rfl,⟨mm,rfl,HM⟩,hbel⟩:=hrel
       have HBJ:=Lib.hid hbel
       clear hbel
       obtain ⟨h0,hga⟩:=HGQ.out wr HBJ.out
       by_cases hjl:j < gp.length
       ·obtain ⟨adA,rfl,-,b0,b1,b2⟩:=hga j hjl
        have j0:(0:Int)≤(j:Int):=by omega
        have j1:(j:Int) < (gp.length:Int):=by omega
        have j2:IntKind.i64.wrap ((j:Int)+1)=(j:Int)+1:=IntWalk.i64_in _ (by omega)
        have STJ:=Lib.hid (any_take10r (p:=mA10 U s) hjl)
        have HBJ6:=Lib.hid (bel_in B68.out HBJ.out)
        have KG:=Lib.hid (givers9_any b U m gp[j] wr (HW.out wr HBJ6.out).1.up (UFF.out.big _) (DZN.out _ (List.getElem_mem hjl)) (HW.out wr HBJ6.out).2)
        have GL:=Lib.hid (Nat.le_trans (ixU_len10 (gvA gp[j]) U 0) UFF.out.len)
        have EM:=Lib.hid (show mA10 U s gp[j]=decide (0 < (bothL s (ixU (gvA gp[j]) U 0)).length) from rfl)
        generalize hxx:gp[j]=x at b0 b1 b2 KG GL STJ EM
        clear hga hxx
        cases mm
        ·generalize ixU (gvA x) U 0=gs at KG GL EM
         go_wp2_with fail
         refine KG.out.mono ?_
         rintro e w9 ⟨⟨Aw,cw,rfl,hrg⟩,hb⟩
         have B9:=Lib.hid (bel_in HBJ6.out hb)
         have B98:=Lib.hid (bel_in HBJ.out hb)
         have KB:=Lib.hid (both10_any (some ad) Aw s.length cs gs.length cw s gs w9 (RS.out w9 B9.out) hrg (by have:=Nat.mul_le_mul SL.out GL.out;omega))
         generalize hnn:(bothL s gs).length=nn at KB EM
         clear hb KG b0 b1 b2 hrg hnn h0
         go_wp2_with fail
         refine KB.out.mono ?_
         rintro e w10 ⟨⟨Ao,co,rfl,-⟩,hb⟩
         have B10:=Lib.hid (bel_in B98.out hb)
         clear hb KB
         by_cases h1:0 < nn
         ·have t0:(0:Int) < (nn:Int):=by omega
          have t0':decide ((0:Int) < (nn:Int))=true:=decide_eq_true t0
          have NX:=Lib.hid (show Hid (true=(gp.take (j+1)).any (mA10 U s)) from Lib.hid (by rw [STJ.out,←HM.out,EM.out,decide_eq_true h1];rfl))
          clear STJ EM
          go_wp2
          go_roundw
          case rel=>exact ⟨j+1,by omega,by go_num,⟨true,rfl,NX.out⟩,B10.out⟩
          case measure=>simp [intOf];omega
         ·have t0:¬(0:Int) < (nn:Int):=by omega
          have t0':decide ((0:Int) < (nn:Int))=false:=decide_eq_false t0
          have t1:nn=0:=by omega
          have NX:=Lib.hid (show Hid (false=(gp.take (j+1)).any (mA10 U s)) from Lib.hid (by rw [STJ.out,←HM.out,EM.out,decide_eq_false h1];rfl))
          clear STJ EM
          go_wp2
          go_roundw
          case rel=>exact ⟨j+1,by omega,by go_num,⟨false,rfl,NX.out⟩,B10.out⟩
          case measure=>simp [intOf];omega
        ·have NX:=Lib.hid (show Hid (true=(gp.take (j+1)).any (mA10 U s)) from Lib.hid (by rw [STJ.out,←HM.out];rfl))
         clear STJ EM KG
         go_wp2
         go_roundw
         case rel=>exact ⟨j+1,by omega,by go_num,⟨true,rfl,NX.out⟩,HBJ.out⟩
         case measure=>simp [intOf];omega
       ·obtain rfl:j=gp.length:=by omega
        have NX:=Lib.hid (show Hid ((gx&&mm)=(gb&&(D.take (n+1)).all (mG10 U s))) from Lib.hid (by
         rw [STN.out,←Bool.and_assoc,←HGX.out,HM.out,List.take_length];rfl))
        clear hga HM HGX
        cases gx
        ·go_wp2
         go_roundw
         case rel=>exact ⟨n+1,by omega,by go_num,⟨false,rfl,NX.out⟩,HBJ.out⟩
         case measure=>simp [intOf];omega
        ·go_wp2
         go_roundw
         case rel=>exact ⟨n+1,by omega,by go_num,⟨mm,rfl,NX.out⟩,HBJ.out⟩
         case measure=>simp [intOf];omega
     ·obtain rfl:n=D.length:=by omega
      have NX:=Lib.hid (show Hid (gx=(s.take (k+1)).all (p110 U s)) from Lib.hid (by
       rw [ST.out,←Bool.and_assoc,←HGB.out,HGX.out,List.take_length]))
      go_wp2
      go_roundw
      case rel=>exact ⟨k+1,by omega,by go_num,⟨gx,rfl,NX.out⟩,HBN.out⟩
      case measure=>simp [intOf];omega
  ·obtain rfl:k=s.length:=by omega
   have HG1:=Lib.hid (show gg=s.all (p110 U s) from by rw [HG.out,List.take_length])
   have HB6:=Lib.hid (bel_in B68.out HB.out)
   clear HG
   go_wp2_with fail
   refine (fights9_any b U m wr (HW.out wr HB6.out).1.up (by have:=UFF.out.len;omega) UFF.out.pr (HW.out wr HB6.out).2).mono ?_
   rintro e wf ⟨⟨Af,cf,rfl,hrf⟩,hb⟩
   have BF:=Lib.hid (bel_in HB.out hb)
   have BF6:=Lib.hid (bel_in B68.out BF.out)
   have FL:=Lib.hid (show (fgU U 0).length≤64*64 from Nat.le_trans (fgU_len U 0) (Nat.mul_le_mul UFF.out.len UFF.out.len))
   generalize fgU U 0=fl at *
   have RF:=Lib.hid (fun (W:World) (hx:Below wf.heap.size wf W)=>(rdPrs_at (rdPrs_good.up (rdPrs_good.below hrf hx) hx.size)).2.2.2)
   obtain ⟨-,hfc,hfm,-⟩:=rdPrs_at hrf
   have hfm':cf≤9223372036854775807:=hfm
   clear hb hrf hfm
   go_wp2_with fail
   go_loopw [13,20] (fun gv ix wr=>∃k:Nat,k≤fl.length∧ix=.int .i64 k∧(∃gx:Bool,gv=.bool gx∧Hid (gx=(gg&&(fl.take k).all (p210 s))))∧Below wf.heap.size wf wr) (fun _ ix _=>fl.length - (intOf ix).toNat)
   case atStart=>exact ⟨0,Nat.zero_le _,rfl,⟨gg,rfl,Lib.hid (by simp)⟩,Below.refl _ _⟩
   case round=>
    obtain ⟨k,hk,rfl,⟨gx,rfl,HGX⟩,hbel⟩:=hrel
    have HB:=Lib.hid hbel
    clear hbel
    by_cases hlt:k < fl.length
    ·obtain ⟨adF,rfl,-,f0,f1⟩:=RF.out wr HB.out k hlt
     have i0:(0:Int)≤(k:Int):=by omega
     have i1:(k:Int) < (fl.length:Int):=by omega
     have k1:IntKind.i64.wrap ((k:Int)+1)=(k:Int)+1:=IntWalk.i64_in _ (by have:=FL.out;omega)
     have ST:=Lib.hid (all_take10 (p:=p210 s) hlt)
     have EP:=Lib.hid (show p210 s fl[k]=decide ((bothL s [fl[k].1,fl[k].2]).length < 2) from rfl)
     have KS:=Lib.hid (fun (W:World) (hx:Below wf.heap.size wf W)=>(show W.cell? (adF.add (k*2))=some (.int .i64 fl[k].1)∧W.cell? ⟨(adF.add (k*2)).block,(adF.add (k*2)).off+1,none⟩=some (.int .i64 fl[k].2) from by
      obtain ⟨ad2,ee,-,q0,q1⟩:=RF.out W hx k hlt
      obtain rfl:adF=ad2:=Option.some.inj ee
      exact ⟨q0,q1⟩))
     generalize hzz:fl[k]=z at f0 f1 ST EP KS
     clear hzz
     obtain ⟨z1,z2⟩:=z
     simp only at f0 f1 EP KS
     cases gx
     ·have BD:=Lib.hid (fun dd os=>below_regrown wr dd os)
      have NX:=Lib.hid (show Hid (false=(gg&&(fl.take (k+1)).all (p210 s))) from Lib.hid (by rw [ST.out,←Bool.and_assoc,←HGX.out];rfl))
      clear ST EP
      go_wp2_with fail
      refine wp_region_quiet_below mixed (by kernel_rfl) ?_
      repeat (go_big_quiet_step (fail))
      refine wpQuiet_nil ?_
      intro W3 hw3
      have BX:=Lib.hid (bel_in HB.out (show Below wr.heap.size wr W3 from by obtain ⟨pp,e⟩:=hw3;rw [e];exact BD.out pp.d pp.os))
      clear hw3 BD f0 f1
      go_wp2
      go_roundw
      case rel=>exact ⟨k+1,by omega,by go_num,⟨false,rfl,NX.out⟩,BX.out⟩
      case measure=>simp [intOf];omega
     go_wp2_with fail
     clear f0 f1
     refine wp_region_noPanic ?_
     refine wp_region_D (fun W=>W.cell? (adF.add (k*2))=some (.int .i64 z1)∧W.cell? ⟨(adF.add (k*2)).block,(adF.add (k*2)).off+1,none⟩=some (.int .i64 z2)) 18 (by kernel_rfl) (w0:=wr) (Dr.refl _) (fun V hV=>KS.out V (bel_in HB.out (hV.below wr.heap.size))) (fun V hV hHeld=>?_)
     have BV:=Lib.hid (bel_in HB.out (hV.below wr.heap.size))
     clear hV
     refine wpAnyL_take (i:=0) (v:=?_) [17,1] rfl (by kernel_rfl) (by kernel_rfl) (by kernel_rfl) (fun _ _ _ h=>h) (by kernel_rfl) (by kernel_rfl) (by kernel_rfl) (Or.inl ⟨by rfl,?_⟩) (by assumption) ?_
     rotate_left
     ·intro w hSw
      try dsimp only at hSw
      go_simp
      first|done|with_reducible rfl
     try simp only [Act.put,List.getElem_toArray,List.getElem_cons_zero,List.getElem_cons_succ,List.setIfInBounds_toArray,List.set_cons_zero,List.set_cons_succ]
     refine wpAnyL_take (i:=1) (v:=?_) [17] rfl (by kernel_rfl) (by kernel_rfl) (by kernel_rfl) (fun _ _ _ h=>h) (by kernel_rfl) (by kernel_rfl) (by kernel_rfl) (Or.inl ⟨by rfl,?_⟩) (by assumption) ?_
     rotate_left
     ·intro w hSw
      try dsimp only at hSw
      go_simp
      first|done|with_reducible rfl
     try simp only [Act.put,List.getElem_toArray,List.getElem_cons_zero,List.getElem_cons_succ,List.setIfInBounds_toArray,List.set_cons_zero,List.set_cons_succ]
     refine wpAnyL_take (i:=2) (v:=?_) [17,16,15,14] rfl (by kernel_rfl) (by kernel_rfl) (by kernel_rfl) (fun _ _ _ h=>h) (by kernel_rfl) (by kernel_rfl) (by kernel_rfl) (Or.inl ⟨by rfl,?_⟩) (by assumption) ?_
     rotate_left
     ·intro w hSw
      try dsimp only at hSw
      go_simp
      first|done|with_reducible rfl
     try simp only [Act.put,List.getElem_toArray,List.getElem_cons_zero,List.getElem_cons_succ,List.setIfInBounds_toArray,List.set_cons_zero,List.set_cons_succ]
     refine wpAnyL_take (i:=3) (v:=?_) [17,16,15,14,13,7,6,5] rfl (by kernel_rfl) (by kernel_rfl) (by kernel_rfl) (fun _ _ _ h=>h) (by kernel_rfl) (by kernel_rfl) (by kernel_rfl) (Or.inl ⟨by rfl,?_⟩) (by assumption) ?_
     rotate_left
     ·intro w hSw
      try dsimp only at hSw
      go_simp
      first|done|with_reducible rfl
     try simp only [Act.put,List.getElem_toArray,List.getElem_cons_zero,List.getElem_cons_succ,List.setIfInBounds_toArray,List.set_cons_zero,List.set_cons_succ]
     refine wpAnyL_take (i:=4) (v:=?_) [17,16,15,14,13,7,6,5] rfl (by kernel_rfl) (by kernel_rfl) (by kernel_rfl) (fun _ _ _ h=>h) (by kernel_rfl) (by kernel_rfl) (by kernel_rfl) (Or.inl ⟨by rfl,?_⟩) (by assumption) ?_
     rotate_left
     ·intro w hSw
      try dsimp only at hSw
      go_simp
      first|done|with_reducible rfl
     try simp only [Act.put,List.getElem_toArray,List.getElem_cons_zero,List.getElem_cons_succ,List.setIfInBounds_toArray,List.set_cons_zero,List.set_cons_succ]
     refine wpAnyL_take (i:=5) (v:=?_) [17,16,15,14,13,7,6] rfl (by kernel_rfl) (by kernel_rfl) (by kernel_rfl) (fun _ _ _ h=>h) (by kernel_rfl) (by kernel_rfl) (by kernel_rfl) (Or.inl ⟨by rfl,?_⟩) (by assumption) ?_
     rotate_left
     ·intro w hSw
      try dsimp only at hSw
      go_simp
      first|done|with_reducible rfl
     try simp only [Act.put,List.getElem_toArray,List.getElem_cons_zero,List.getElem_cons_succ,List.setIfInBounds_toArray,List.set_cons_zero,List.set_cons_succ]
     refine wpAnyL_take (i:=6) (v:=?_) [17,16,15,14,13,7] rfl (by kernel_rfl) (by kernel_rfl) (by kernel_rfl) (fun _ _ _ h=>h) (by kernel_rfl) (by kernel_rfl) (by kernel_rfl) (Or.inl ⟨by rfl,?_⟩) (by assumption) ?_
     rotate_left
     ·intro w hSw
      try dsimp only at hSw
      go_simp
      first|done|with_reducible rfl
     try simp only [Act.put,List.getElem_toArray,List.getElem_cons_zero,List.getElem_cons_succ,List.setIfInBounds_toArray,List.set_cons_zero,List.set_cons_succ]
     refine wpAnyL_take (i:=7) (v:=?_) [17,16,15,14,13] rfl (by kernel_rfl) (by kernel_rfl) (by kernel_rfl) (fun _ _ _ h=>h) (by kernel_rfl) (by kernel_rfl) (by kernel_rfl) (Or.inl ⟨by rfl,?_⟩) (by assumption) ?_
     rotate_left
     ·intro w hSw
      try dsimp only at hSw
      go_simp
      first|done|with_reducible rfl
     try simp only [Act.put,List.getElem_toArray,List.getElem_cons_zero,List.getElem_cons_succ,List.setIfInBounds_toArray,List.set_cons_zero,List.set_cons_succ]
     refine wpAnyL_take (i:=8) (v:=?_) [17,16,15,14,13,12,11,10] rfl (by kernel_rfl) (by kernel_rfl) (by kernel_rfl) (fun _ _ _ h=>h) (by kernel_rfl) (by kernel_rfl) (by kernel_rfl) (Or.inl ⟨by rfl,?_⟩) (by assumption) ?_
     rotate_left
     ·intro w hSw
      try dsimp only at hSw
      go_simp
      first|done|with_reducible rfl
     try simp only [Act.put,List.getElem_toArray,List.getElem_cons_zero,List.getElem_cons_succ,List.setIfInBounds_toArray,List.set_cons_zero,List.set_cons_succ]
     refine wpAnyL_take (i:=9) (v:=?_) [17,16,15,14,13,12,11,10] rfl (by kernel_rfl) (by kernel_rfl) (by kernel_rfl) (fun _ _ _ h=>h) (by kernel_rfl) (by kernel_rfl) (by kernel_rfl) (Or.inl ⟨by rfl,?_⟩) (by assumption) ?_
     rotate_left
     ·intro w hSw
      try dsimp only at hSw
      go_simp
      first|done|with_reducible rfl
     try simp only [Act.put,List.getElem_toArray,List.getElem_cons_zero,List.getElem_cons_succ,List.setIfInBounds_toArray,List.set_cons_zero,List.set_cons_succ]
     refine wpAnyL_take (i:=10) (v:=?_) [17,16,15,14,13,12,11] rfl (by kernel_rfl) (by kernel_rfl) (by kernel_rfl) (fun _ _ _ h=>h) (by kernel_rfl) (by kernel_rfl) (by kernel_rfl) (Or.inl ⟨by rfl,?_⟩) (by assumption) ?_
     rotate_left
     ·intro w hSw
      try dsimp only at hSw
      go_simp
      first|done|with_reducible rfl
     try simp only [Act.put,List.getElem_toArray,List.getElem_cons_zero,List.getElem_cons_succ,List.setIfInBounds_toArray,List.set_cons_zero,List.set_cons_succ]
     refine wpAnyL_take (i:=11) (v:=?_) [17,16,15,14,13,12] rfl (by kernel_rfl) (by kernel_rfl) (by kernel_rfl) (fun _ _ _ h=>h) (by kernel_rfl) (by kernel_rfl) (by kernel_rfl) (Or.inl ⟨by rfl,?_⟩) (by assumption) ?_
     rotate_left
     ·intro w hSw
      try dsimp only at hSw
      go_simp
      first|done|with_reducible rfl
     try simp only [Act.put,List.getElem_toArray,List.getElem_cons_zero,List.getElem_cons_succ,List.setIfInBounds_toArray,List.set_cons_zero,List.set_cons_succ]
     refine wpAnyL_take (i:=12) (v:=?_) [17,16,15,14,13] rfl (by kernel_rfl) (by kernel_rfl) (by kernel_rfl) (fun _ _ _ h=>h) (by kernel_rfl) (by kernel_rfl) (by kernel_rfl) (Or.inl ⟨by rfl,?_⟩) (by assumption) ?_
     rotate_left
     ·intro w hSw
      try dsimp only at hSw
      go_simp
      first|done|with_reducible rfl
     try simp only [Act.put,List.getElem_toArray,List.getElem_cons_zero,List.getElem_cons_succ,List.setIfInBounds_toArray,List.set_cons_zero,List.set_cons_succ]
     obtain ⟨WI,hWI⟩:∃W,W=V.alloc (.cells #[.int .i64 z1,.int .i64 z2] 3):=⟨_,rfl⟩
     have bi:Below V.heap.size V WI:=by rw [hWI];exact (Below.refl _ V).alloc (Nat.le_refl _) _
     have ri:rdInts WI (lt_ WI.heap.size) [z1,z2] [.slice (some ⟨V.heap.size,0,none⟩) 2 2]:=rd_ints9 (l:=[z1,z2]) (by rw [hWI];exact heap_alloc_new V _) rfl (by rw [hWI];unfold lt_;simp) (by simp)
     have BI:=Lib.hid (bel_in BV.out bi)
     have KB:=Lib.hid (both10_any As (some ⟨V.heap.size,0,none⟩) s.length cs 2 2 s [z1,z2] WI (RS.out WI (bel_in BF6.out BI.out)) ri (by have:=SL.out;simp;omega))
     obtain ⟨nn,hnn⟩:∃n,n=(bothL s [z1,z2]).length:=⟨_,rfl⟩
     rw [←hnn] at KB EP
     clear bi ri hnn
     refine wpAnyL_one (i:=13) (by kernel_rfl) rfl (fun K hK=>?_)
     go_simp
     rw [←hWI]
     refine hK.out _ _ (KS.out _ BI.out) (fun hHeld=>?_)
     clear hK K
     try simp only [Act.put,List.getElem_toArray,List.getElem_cons_zero,List.getElem_cons_succ,List.setIfInBounds_toArray,List.set_cons_zero,List.set_cons_succ]
     clear hWI
     refine wpAnyL_one (i:=14) (by kernel_rfl) rfl (fun K hK=>?_)
     go_simp
     refine KB.out.mono ?_
     rintro e V2 ⟨⟨Ao,co,rfl,-⟩,hb⟩
     have BV2:=Lib.hid (bel_in BI.out hb)
     clear hb KB
     go_wp2_with fail
     refine hK.out _ _ (KS.out _ BV2.out) (fun hHeld=>?_)
     clear hK K
     try simp only [Act.put,List.getElem_toArray,List.getElem_cons_zero,List.getElem_cons_succ,List.setIfInBounds_toArray,List.set_cons_zero,List.set_cons_succ]
     refine wpAnyL_take (i:=15) (v:=?_) [17,16] rfl (by kernel_rfl) (by kernel_rfl) (by kernel_rfl) (fun _ _ _ h=>h) (by kernel_rfl) (by kernel_rfl) (by kernel_rfl) (Or.inl ⟨by rfl,?_⟩) (by assumption) ?_
     rotate_left
     ·intro w hSw
      try dsimp only at hSw
      go_simp
      first|done|with_reducible rfl
     try simp only [Act.put,List.getElem_toArray,List.getElem_cons_zero,List.getElem_cons_succ,List.setIfInBounds_toArray,List.set_cons_zero,List.set_cons_succ]
     refine wpAnyL_take (i:=16) (v:=?_) [17] rfl (by kernel_rfl) (by kernel_rfl) (by kernel_rfl) (fun _ _ _ h=>h) (by kernel_rfl) (by kernel_rfl) (by kernel_rfl) (Or.inl ⟨by rfl,?_⟩) (by assumption) ?_
     rotate_left
     ·intro w hSw
      try dsimp only at hSw
      go_simp
      first|done|with_reducible rfl
     try simp only [Act.put,List.getElem_toArray,List.getElem_cons_zero,List.getElem_cons_succ,List.setIfInBounds_toArray,List.set_cons_zero,List.set_cons_succ]
     refine wpAnyL_take (i:=17) (v:=?_) [] rfl (by kernel_rfl) (by kernel_rfl) (by kernel_rfl) (fun _ _ _ h=>h) (by kernel_rfl) (by kernel_rfl) (by kernel_rfl) (Or.inl ⟨by rfl,?_⟩) (by assumption) ?_
     rotate_left
     ·intro w hSw
      try dsimp only at hSw
      go_simp
      first|done|with_reducible rfl
     try simp only [Act.put,List.getElem_toArray,List.getElem_cons_zero,List.getElem_cons_succ,List.setIfInBounds_toArray,List.set_cons_zero,List.set_cons_succ]
     refine wpAnyL_last (by kernel_rfl) rfl (by kernel_rfl) (fun K hK=>?_)
     go_simp
     refine hK.out _ _ ?_
     clear hK K
     refine NoPanic.normal ?_
     have NX:=Lib.hid (show Hid (decide ((nn:Int) < 2)=(gg&&(fl.take (k+1)).all (p210 s))) from Lib.hid (by
      rw [ST.out,←Bool.and_assoc,←HGX.out,EP.out,Bool.true_and]
      exact decide_eq_decide.2 (by omega)))
     clear ST EP
     go_wp2
     go_roundw
     case rel=>exact ⟨k+1,by omega,by go_num,⟨_,rfl,NX.out⟩,BV2.out⟩
     case measure=>simp [intOf];omega
    ·obtain rfl:k=fl.length:=by omega
     have ME:=Lib.hid (show C0=gx from by rw [CG.out,←HG1.out,HGX.out,List.take_length])
     have KCC:=Lib.hid (KC.out wr (bel_in BF6.out HB.out))
     rw [ME.out] at KCC
     clear ME KC CG HGX HG1
     go_wp2_with fail
     refine KCC.out.mono ?_
     rintro e w20 ⟨rfl,hb⟩
     have FIN:=Lib.hid (bel_in B5.out (bel_in B46.out (bel_in BF6.out (bel_in HB.out hb))))
     clear hb KCC
     cases gx
     ·go_wp2
      go_ret
      exact ⟨by first|rfl|simp,FIN.out⟩
     ·go_wp2
      go_ret
      exact ⟨by first|rfl|simp,FIN.out⟩
end Go.Proofs.YthchfkhpmgkghaaGreatDoor
