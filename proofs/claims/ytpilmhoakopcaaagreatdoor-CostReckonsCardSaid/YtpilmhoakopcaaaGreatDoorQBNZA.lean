/- What the laws rest on: E9h. -/
import Derived.Test.YtpilmhoakopcaaaGreatDoorQAOZA
import Derived.Test.YtpilmhoakopcaaaGreatDoorQBLZA
import Derived.Test.YtpilmhoakopcaaaGreatDoorQBMZA
set_option maxRecDepth 100000
set_option linter.unusedVariables false
set_option linter.unusedSimpArgs false
namespace Go.Proofs.YtpilmhoakopcaaaGreatDoor
open Go.RowKit Go.Sort
def NewU (w':World) (L:List Ent) (m:List Hr) (e:Ending):Prop:=
 (¬(L.all rgtE=true∧rightH m=true)→e=.returned (.tuple #[.pointer none,.int .i64 1]))∧
 ((L.all rgtE=true∧rightH m=true)→64 < (entU L (m.map fun y=>y.e)).length→e=.returned (.tuple #[.pointer none,.int .i64 8]))∧
 ((L.all rgtE=true∧rightH m=true)→¬64 < (entU L (m.map fun y=>y.e)).length→∃b,e=.returned (.tuple #[.pointer (some ⟨b,0,none⟩),.int .i64 0])∧UR w' b (entU L (m.map fun y=>y.e)) m)
def URF (w:World) (b:Nat) (l:List Ent) (m:List Hr):Prop:=UR w b l m∧w.frozen? ⟨b,0,none⟩=false
theorem URF.below {w w':World} {b:Nat} {l:List Ent} {m:List Hr} (h:URF w b l m) (hB:Below w.heap.size w w'):URF w' b l m:=by
 obtain ⟨h1,h2⟩:=h
 refine ⟨h1.below hB,?_⟩
 obtain ⟨A,c,A',c',h0,-⟩:=h1
 exact (World.frozen?_of_block (hB.block b (block_lt_of_cell h0))).trans h2
set_option maxHeartbeats 16000000 in
theorem q9new_any (A:Option Addr) (n0 c:Nat) (L:List Ent) (A':Option Addr) (n1 c':Nat) (m:List Hr) (w:World) (h:rdEnts w (lt_ w.heap.size) L [.slice A n0 c]) (h':rdHrs w (lt_ w.heap.size) m [.slice A' n1 c']) (hz:∀x ∈ L,Sz x) (hz':∀y ∈ m,Sz y.e) (hl:L.length≤90) (hm:m.length≤90) :
  Calls Tryz.prog 12 #[.slice A n0 c,.slice A' n1 c'] w fun e w'=>NewU w' L m e∧Below w.heap.size w w':=by
 have mixed:Tryz.prog.follows .mixedOrders=true:=by kernel_rfl
 obtain ⟨rfl,hnc,hcm,-⟩:=rdEnts_at h
 obtain ⟨rfl,hnc',hcm',-⟩:=rdHrs_at h'
 have hcx:c≤9223372036854775807:=hcm
 have hcy:c'≤9223372036854775807:=hcm'
 have KR:=Lib.hid (fun (x:Ent) (A1:Option Addr) (c1:Nat) (A2:Option Addr) (c2:Nat) (A3:Option Addr) (c3:Nat) (A4:Option Addr) (c4:Nat) (W:World) hx hz=>q6right_any q3name_any q4r_atom q4right_any x A1 c1 A2 c2 A3 c3 A4 c4 W hx hz)
 have K7:=Lib.hid (q7right_any KR.out A' m.length c' m w h' hz')
 have HH:=Lib.hid (fun (W:World) (hb:Below w.heap.size w W)=>(rdEnts_at (rdEnts_good.below h hb)).2.2.2)
 have HM:=Lib.hid (fun (W:World) (hb:Below w.heap.size w W)=>(rdHrs_at (rdHrs_good.below h' hb)).2.2.2)
 have HZ:=Lib.hid hz
 have H':=Lib.hid h'
 have HLN:=Lib.hid hl
 have HMN:=Lib.hid hm
 clear h h' hcm hcm' hz hz' hl hm
 go_enter Tryz.func12,Tryz.ntmps12
 go_wp2_with fail
 refine K7.out.mono ?_
 rintro e w1 ⟨rfl,hb⟩
 have B1:=Lib.hid hb
 clear hb K7
 cases hR:rightH m
 ·have X:=Lib.hid (show ¬(L.all rgtE=true∧rightH m=true) by rw [hR];exact fun q=>by cases q.2)
  clear hR
  go_wp2
  go_ret2
  exact ⟨⟨fun _=>rfl,fun q=>absurd q X.out,fun q=>absurd q X.out⟩,B1.out⟩
 have HR:=Lib.hid hR
 clear hR
 obtain ⟨w2,hw2⟩:∃W,W=w1.alloc (.cells #[.slice none 0 0,.slice A' m.length c'] 83):=⟨_,rfl⟩
 have hb2:Below w1.heap.size w1 w2:=by rw [hw2];exact (Below.refl _ w1).alloc (Nat.le_refl _) _
 have hf2:w2.frozen? ⟨w1.heap.size,0,none⟩=false:=by rw [hw2];simp [go_sem]
 have hc0:w2.cell? ⟨w1.heap.size,0,none⟩=some (.slice none 0 0):=by rw [hw2];simp [go_sem]
 have hc1:w2.cell? ⟨w1.heap.size,1,none⟩=some (.slice A' m.length c'):=by rw [hw2];simp [go_sem]
 have U0:=Lib.hid (show URF w2 w1.heap.size [] m from ⟨⟨none,0,A',c',hc0,hc1,rdRow_nil _ _,rdHrs_good.both H'.out (fun k hk=>(bel_in B1.out hb2).block k hk) (fun k hk=>⟨Nat.lt_of_lt_of_le hk (bel_in B1.out hb2).size,fun e=>by have:=B1.out.size;unfold lt_ at hk;omega⟩)⟩,hf2⟩)
 have B2:=Lib.hid hb2
 have SW:=Lib.hid (show w1.heap.size≤w2.heap.size by have:=hb2.size;omega)
 clear hb2 hf2 hc0 hc1
 go_wp2_with fail
 rw [←hw2]
 clear hw2
 obtain ⟨b,hbb⟩:∃b,b=w1.heap.size:=⟨_,rfl⟩
 rw [←hbb] at U0 SW
 rw [←hbb]
 have HBB:=Lib.hid hbb
 clear hbb
 go_wp2
 go_loopw [8] (fun i wr=>∃k:Nat,k≤m.length∧i=.int .i64 k∧URF wr b (((m.map fun y=>y.e).take k).foldl putU []) m∧Below w1.heap.size w1 wr∧b≤wr.heap.size) (fun i _=>m.length - (intOf i).toNat)
 case atStart=>exact ⟨0,Nat.zero_le _,rfl,U0.out,B2.out,SW.out⟩
 case round=>
  obtain ⟨k,hk,rfl,hu,hb,hs⟩:=hrel
  have HB:=Lib.hid hb
  have HU:=Lib.hid hu
  have HS:=Lib.hid hs
  clear hu hb hs
  by_cases hlt:k < m.length
  ·obtain ⟨ad,A1,c1,A2,c2,A3,c3,A4,c4,rfl,had,hv,g0,g1,g2,g3,g4,g5,-,-⟩:=HM.out wr (B1.out.trans (HB.out.mono B1.out.size)) k hlt
   have i0:(0:Int)≤(k:Int):=by omega
   have i1:(k:Int) < (m.length:Int):=by omega
   have ST:=Lib.hid (show ((m.map fun y=>y.e).take (k+1)).foldl putU []=putU (((m.map fun y=>y.e).take k).foldl putU []) m[k].e from by rw [fold_take (by rw [List.length_map];exact hlt),List.getElem_map])
   have HV:=Lib.hid (show EntV wr (fun j=>j < wr.heap.size∧j≠b) m[k].e A1 c1 A2 c2 A3 c3 A4 c4 from hv.to (fun j hj=>rfl) (fun j hj=>⟨Nat.lt_of_lt_of_le hj (bel_in B1.out HB.out).size,fun e=>by have:=B1.out.size;have:=HBB.out;unfold lt_ at hj;omega⟩))
   have LN:=Lib.hid (show (((m.map fun y=>y.e).take k).foldl putU []).length≤200 by rw [fold_put_len,List.length_take,List.length_map];have:=HMN.out;simp only [List.length_nil];omega)
   clear had hv
   generalize ((m.map fun y=>y.e).take k).foldl putU []=gl at *
   have KP:=Lib.hid (q9put_any b gl m m[k].e A1 c1 A2 c2 A3 c3 A4 c4 wr HU.out.1 HU.out.2 HV.out LN.out)
   generalize m[k].e=x at *
   go_wp2_with fail
   refine KP.out.mono ?_
   rintro e w3 ⟨rfl,hur,hg,hf⟩
   have N1:=Lib.hid (show URF w3 b (((m.map fun y=>y.e).take (k+1)).foldl putU []) m from by rw [ST.out];exact ⟨hur,hf⟩)
   have N2:=Lib.hid (show Below w1.heap.size w1 w3 from HB.out.grown hg HB.out.size (fun j hj=>by cases hj;rw [HBB.out];exact Nat.le_refl _))
   have N3:=Lib.hid (show b≤w3.heap.size from Nat.le_trans HS.out hg.size)
   clear hur hg hf KP
   go_wp2
   go_roundw
   case rel=>exact ⟨k+1,by omega,by go_num,N1.out,N2.out,N3.out⟩
   case measure=>simp [intOf];omega
  ·obtain rfl:k=m.length:=by omega
   have i0:¬(m.length:Int) < (m.length:Int):=by omega
   have HU0:=Lib.hid (show URF wr b ((m.map fun y=>y.e).foldl putU []) m from by
    have:=HU.out
    rwa [List.take_of_length_le (by rw [List.length_map];exact Nat.le_refl _)] at this)
   have LN0:=Lib.hid (show ((m.map fun y=>y.e).foldl putU []).length≤90 by rw [fold_put_len,List.length_map];have:=HMN.out;simp only [List.length_nil];omega)
   have EN0:=Lib.hid (show entU L (m.map fun y=>y.e)=L.foldl addU ((m.map fun y=>y.e).foldl putU []) from rfl)
   clear HU HM U0
   generalize (m.map fun y=>y.e).foldl putU []=HE at *
   obtain ⟨wa,hwa⟩:∃W,W=wr:=⟨_,rfl⟩
   rw [←hwa] at HB HU0 HS ⊢
   clear hwa
   go_wp2
   go_loopw [9] (fun i wr=>∃k:Nat,k≤L.length∧i=.int .i64 k∧Hid ((L.take k).all rgtE=true)∧URF wr b HE m∧Below w1.heap.size w1 wr∧b≤wr.heap.size) (fun i _=>L.length - (intOf i).toNat)
   case atStart=>exact ⟨0,Nat.zero_le _,rfl,Lib.hid rfl,HU0.out,HB.out,HS.out⟩
   case round=>
    obtain ⟨k,hk,rfl,HA,hu,hb,hs⟩:=hrel
    have HB:=Lib.hid hb
    have HU:=Lib.hid hu
    have HS:=Lib.hid hs
    clear hu hb hs
    by_cases hlt:k < L.length
    ·obtain ⟨ad,A1,c1,A2,c2,A3,c3,A4,c4,rfl,had,hv,g0,g1,g2,g3,g4,g5⟩:=HH.out wr (B1.out.trans (HB.out.mono B1.out.size)) k hlt
     have i0:(0:Int)≤(k:Int):=by omega
     have i1:(k:Int) < (L.length:Int):=by omega
     have SP:=Lib.hid (fun hf=>all_stop6 (f:=rgtE) hlt hf)
     have ST:=Lib.hid (fun hf=>all_step6 (f:=rgtE) hlt HA.out hf)
     have K:=Lib.hid (KR.out L[k] A1 c1 A2 c2 A3 c3 A4 c4 wr (hv.up (bel_in B1.out HB.out).size) (HZ.out _ (List.getElem_mem hlt)))
     clear had hv HA
     generalize hrb:rgtE L[k]=rb at *
     generalize L[k]=x at *
     go_wp2_with fail
     refine K.out.mono ?_
     rintro e w3 ⟨rfl,hb⟩
     have N1:=Lib.hid (HU.out.below (hb.mono (Nat.le_refl _)))
     have N2:=Lib.hid (HB.out.trans (hb.mono HB.out.size))
     have N3:=Lib.hid (show b≤w3.heap.size from Nat.le_trans HS.out hb.size)
     clear hb K hrb
     cases rb
     ·have X:=Lib.hid (show ¬(L.all rgtE=true∧rightH m=true) from fun q=>by rw [SP.out rfl] at q;cases q.1)
      clear SP ST
      go_wp2
      go_ret2
      exact ⟨⟨fun _=>rfl,fun q=>absurd q X.out,fun q=>absurd q X.out⟩,B1.out.trans (N2.out.mono B1.out.size)⟩
     ·have NX:=Lib.hid (ST.out rfl)
      clear SP ST
      go_wp2
      go_roundw
      case rel=>exact ⟨k+1,by omega,by go_num,NX,N1.out,N2.out,N3.out⟩
      case measure=>simp [intOf];omega
    ·obtain rfl:k=L.length:=by omega
     have i0:¬(L.length:Int) < (L.length:Int):=by omega
     have HOK:=Lib.hid (show L.all rgtE=true∧rightH m=true from ⟨by have:=HA.out;rwa [List.take_length] at this,HR.out⟩)
     clear HU0 HA KR HZ
     obtain ⟨wb,hwb⟩:∃W,W=wr:=⟨_,rfl⟩
     rw [←hwb] at HB HU HS ⊢
     clear hwb
     go_wp2
     go_loopw [11] (fun i wr=>∃k:Nat,k≤L.length∧i=.int .i64 k∧URF wr b ((L.take k).foldl addU HE) m∧Below w1.heap.size w1 wr∧b≤wr.heap.size) (fun i _=>L.length - (intOf i).toNat)
     case atStart=>exact ⟨0,Nat.zero_le _,rfl,HU.out,HB.out,HS.out⟩
     case round=>
      obtain ⟨k,hk,rfl,hu,hb,hs⟩:=hrel
      have HB:=Lib.hid hb
      have HU:=Lib.hid hu
      have HS:=Lib.hid hs
      clear hu hb hs
      by_cases hlt:k < L.length
      ·obtain ⟨ad,A1,c1,A2,c2,A3,c3,A4,c4,rfl,had,hv,g0,g1,g2,g3,g4,g5⟩:=HH.out wr (B1.out.trans (HB.out.mono B1.out.size)) k hlt
       have i0:(0:Int)≤(k:Int):=by omega
       have i1:(k:Int) < (L.length:Int):=by omega
       have ST:=Lib.hid (show (L.take (k+1)).foldl addU HE=addU ((L.take k).foldl addU HE) L[k] from fold_take hlt)
       have HV:=Lib.hid (show EntV wr (fun j=>j < wr.heap.size∧j≠b) L[k] A1 c1 A2 c2 A3 c3 A4 c4 from hv.to (fun j hj=>rfl) (fun j hj=>⟨Nat.lt_of_lt_of_le hj (bel_in B1.out HB.out).size,fun e=>by have:=B1.out.size;have:=HBB.out;unfold lt_ at hj;omega⟩))
       have LN:=Lib.hid (show ((L.take k).foldl addU HE).length≤200 from Nat.le_trans (fold_addU_len _ _) (by rw [List.length_take];have:=HLN.out;have:=LN0.out;omega))
       have AP:=Lib.hid (add9_place (L:=(L.take k).foldl addU HE) (e:=L[k]))
       have KQ:=Lib.hid (fun (W:World) (hb:Below wr.heap.size wr W)=>q9place_any b ((L.take k).foldl addU HE) m L[k].n L[k].v W (HU.out.below hb).1)
       generalize (L.take k).foldl addU HE=gl at *
       generalize hpl:plU L[k].n L[k].v gl 0=pl at *
       have KP:=Lib.hid (fun (W:World) (hb:Below wr.heap.size wr W)=>q9put_any b gl m L[k] A1 c1 A2 c2 A3 c3 A4 c4 W (HU.out.below hb).1 (HU.out.below hb).2 (HV.out.to (fun j hj=>hb.block j hj.1) (fun j hj=>⟨Nat.lt_of_lt_of_le hj.1 hb.size,hj.2⟩)) LN.out)
       have y0:=fun dd os=>cell_regrown (w:=wr) g0 dd os
       have y1:=fun dd os=>cell_regrown (w:=wr) g1 dd os
       have YK:=Lib.hid (fun (W:World) (hb:Below wr.heap.size wr W)=>And.intro (keep6 hb g0) (And.intro (keep6 hb g1) (And.intro (keep6 hb g2) (And.intro (keep6 hb g3) (And.intro (keep6 hb g4) (keep6 hb g5))))))
       have K1:=Lib.hid (fun dd os=>(KQ.out (grow (redrawn wr dd) os) (below_regrown wr dd os)).mono (fun e w' hh=>And.intro hh.1 (hh.2.below (grow (redrawn wr dd) os).heap.size)))
       have BD:=Lib.hid (fun dd os=>below_regrown wr dd os)
       clear had hv hpl HV LN KQ g0 g1 g2 g3 g4 g5
       generalize L[k]=x at *
       by_cases hp:pl < 0
       ·go_wp2_with fail
        refine wp_region_quiet_below mixed (by kernel_rfl) ?_
        repeat (go_big_quiet_step (first|(go_at_call 41;refine Calls.regrown_of (K1.out _ _))))
        refine wpQuiet_nil ?_
        intro W3 hw3
        have BW3:=Lib.hid (show Below wr.heap.size wr W3 from by obtain ⟨pp,e⟩:=hw3;rw [e];exact BD.out pp.d pp.os)
        clear hw3 BD y0 y1 K1
        obtain ⟨g0,g1,g2,g3,g4,g5⟩:=YK.out W3 BW3.out
        go_wp2_with fail
        refine (KP.out W3 BW3.out).mono ?_
        rintro e w3 ⟨rfl,hur,hg,hf⟩
        have N1:=Lib.hid (show URF w3 b ((L.take (k+1)).foldl addU HE) m from by rw [ST.out,AP.out.1 hp];exact ⟨hur,hf⟩)
        have N2:=Lib.hid (show Below w1.heap.size w1 w3 from (HB.out.trans (BW3.out.mono HB.out.size)).grown hg (Nat.le_trans HB.out.size BW3.out.size) (fun j hj=>by cases hj;rw [HBB.out];exact Nat.le_refl _))
        have N3:=Lib.hid (show b≤w3.heap.size from Nat.le_trans (Nat.le_trans HS.out BW3.out.size) hg.size)
        clear hur hg hf KP g0 g1 g2 g3 g4 g5
        go_wp2
        go_roundw
        case rel=>exact ⟨k+1,by omega,by go_num,N1.out,N2.out,N3.out⟩
        case measure=>simp [intOf];omega
       ·go_wp2_with fail
        refine wp_region_quiet_below mixed (by kernel_rfl) ?_
        repeat (go_big_quiet_step (first|(go_at_call 41;refine Calls.regrown_of (K1.out _ _))))
        refine wpQuiet_nil ?_
        intro W3 hw3
        have BW3:=Lib.hid (show Below wr.heap.size wr W3 from by obtain ⟨pp,e⟩:=hw3;rw [e];exact BD.out pp.d pp.os)
        have N1:=Lib.hid (show URF W3 b ((L.take (k+1)).foldl addU HE) m from by rw [ST.out,AP.out.2 hp];exact HU.out.below BW3.out)
        have N2:=Lib.hid (show Below w1.heap.size w1 W3 from HB.out.trans (BW3.out.mono HB.out.size))
        have N3:=Lib.hid (show b≤W3.heap.size from Nat.le_trans HS.out BW3.out.size)
        clear hw3 BD y0 y1 K1 KP
        go_wp2
        go_roundw
        case rel=>exact ⟨k+1,by omega,by go_num,N1.out,N2.out,N3.out⟩
        case measure=>simp [intOf];omega
      ·obtain rfl:k=L.length:=by omega
       have i0:¬(L.length:Int) < (L.length:Int):=by omega
       have UE:=Lib.hid (show UR wr b (entU L (m.map fun y=>y.e)) m from by
        have:=HU.out.1
        rw [List.take_length] at this
        rw [EN0.out];exact this)
       clear HU HH
       obtain ⟨U,hU⟩:∃U,U=entU L (m.map fun y=>y.e):=⟨_,rfl⟩
       rw [←hU] at UE
       have EU:=Lib.hid hU
       clear hU
       obtain ⟨Au,cu,Av,cv,u0,-⟩:=id UE.out
       by_cases hn:64 < U.length
       ·have hn':(64:Int) < (U.length:Int):=by omega
        have HN:=Lib.hid hn
        clear hn
        go_wp2
        go_ret2
        exact ⟨⟨fun q=>absurd HOK.out q,fun _ _=>rfl,fun _ q=>absurd (by rw [←EU.out];exact HN.out) q⟩,B1.out.trans (HB.out.mono B1.out.size)⟩
       ·have hn':¬(64:Int) < (U.length:Int):=by omega
        have HN:=Lib.hid hn
        clear hn
        go_wp2
        go_ret2
        exact ⟨⟨fun q=>absurd HOK.out q,fun _ q=>absurd q (by rw [←EU.out];exact HN.out),fun _ _=>⟨b,rfl,by rw [←EU.out];exact UE.out⟩⟩,B1.out.trans (HB.out.mono B1.out.size)⟩
end Go.Proofs.YtpilmhoakopcaaaGreatDoor
