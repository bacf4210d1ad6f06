/- What the laws rest on: N10o. -/
import Derived.Test.YthchfkhpmgkghaaGreatDoorQAPZA
import Derived.Test.YthchfkhpmgkghaaGreatDoorQAVZA
import Derived.Test.YthchfkhpmgkghaaGreatDoorQBTZA
import Derived.Test.YthchfkhpmgkghaaGreatDoorQCEZA
import Derived.Test.YthchfkhpmgkghaaGreatDoorQCLZA
set_option maxRecDepth 100000
set_option linter.unusedVariables false
set_option linter.unusedSimpArgs false
namespace Go.Proofs.YthchfkhpmgkghaaGreatDoor
open Go.RowKit
theorem drop_yes {gs:List Int} {k:Int}:0 < (bothL gs [k]).length↔k ∈ gs:=by
 rw [both_pos]
 exact ⟨fun ⟨x,h1,h2⟩=>by rw [List.mem_singleton.1 h2] at h1;exact h1,fun h=>⟨k,h,List.mem_singleton.2 rfl⟩⟩
def NeedP (U:List Ent) (kk:Int) (l:List Int):Prop:=∀p ∈ l,p≠kk→∀g ∈ (entA U p).d,∀a ∈ g,gvA a (entA U kk)=false
theorem NeedP.step {U:List Ent} {kk:Int} {l:List Int} {k:Nat} (hk:k < l.length) (h:NeedP U kk (l.take k)) (h2:l[k]≠kk→∀g ∈ (entA U l[k]).d,∀a ∈ g,gvA a (entA U kk)=false):NeedP U kk (l.take (k+1)):=by
 intro p hp hne
 rw [List.take_succ_eq_append_getElem hk] at hp
 rcases List.mem_append.1 hp with q|q
 ·exact h p q hne
 ·obtain rfl:=List.mem_singleton.1 q;exact h2 hne
def Need2 (U:List Ent) (kk:Int) (l:List (List Atm)):Prop:=∀g ∈ l,∀a ∈ g,gvA a (entA U kk)=false
theorem Need2.step {U:List Ent} {kk:Int} {l:List (List Atm)} {k:Nat} (hk:k < l.length) (h:Need2 U kk (l.take k)) (h2:∀a ∈ l[k],gvA a (entA U kk)=false):Need2 U kk (l.take (k+1)):=by
 intro g hg
 rw [List.take_succ_eq_append_getElem hk] at hg
 rcases List.mem_append.1 hg with q|q
 ·exact h g q
 ·obtain rfl:=List.mem_singleton.1 q;exact h2
def Need3 (U:List Ent) (kk:Int) (l:List Atm):Prop:=∀a ∈ l,gvA a (entA U kk)=false
theorem Need3.step {U:List Ent} {kk:Int} {l:List Atm} {k:Nat} (hk:k < l.length) (h:Need3 U kk (l.take k)) (h2:gvA l[k] (entA U kk)=false):Need3 U kk (l.take (k+1)):=by
 intro g hg
 rw [List.take_succ_eq_append_getElem hk] at hg
 rcases List.mem_append.1 hg with q|q
 ·exact h g q
 ·obtain rfl:=List.mem_singleton.1 q;exact h2
set_option maxHeartbeats 32000000 in
theorem drops10_any (b:Nat) (U:List Ent) (m:List Hr) (As:Option Addr) (ns cs:Nat) (s:List Int) (tw:Int) (w:World) (hu:UP w b U m) (hf:UF U m) (hr:rdInts w (lt_ w.heap.size) s [.slice As ns cs]) (hs:SetP U.length s) (hsl:s.length≤64) (hins:insS U s=[]) (h0:-9223372036854775808≤tw) (h1:tw≤9223372036854775807) (E:EnvR w) :
  Calls Tryz.prog 34 #[.pointer (some ⟨b,0,none⟩),.slice As ns cs,.int .i64 tw] w fun e w'=>e=.returned (.bool true)∧Below w.heap.size w w':=by
 obtain ⟨fi,hi0,hz0,hz1,hz2⟩:=info_parts int10_info
 obtain ⟨rfl,hsc,hsm,-⟩:=rdInts_at hr
 have hsm':cs≤9223372036854775807:=hsm
 have HW:=Lib.hid (fun (W:World) (hx:Below w.heap.size w W)=>And.intro (hu.below hx) (E.below hx))
 have RS:=Lib.hid (fun (W:World) (hx:Below w.heap.size w W)=>(rdInts_good.up (rdInts_good.below hr hx) hx.size:rdInts W (lt_ W.heap.size) s [.slice As s.length cs]))
 have UFF:=Lib.hid hf
 have SP:=Lib.hid hs
 have INS:=Lib.hid hins
 have KPK:=Lib.hid (fun (hN:0 < s.length)=>pick10_any tw s.length w h0 h1 hN (by omega))
 have SL:=Lib.hid hsl
 clear hu hf hr hs hins h0 h1 E hsm hsl
 by_cases hz:s.length=0
 ·have t0:((s.length:Int)==0)=true:=by rw [hz];rfl
  go_enter Tryz.func34,Tryz.ntmps34
  go_wp2
  go_ret
  exact ⟨rfl,Below.refl _ _⟩
 have t0:((s.length:Int)==0)=false:=by rw [beq_eq_false_iff_ne];omega
 have KPK:=Lib.hid (KPK.out (by omega))
 obtain ⟨-,-,-,hat⟩:=rdInts_at (RS.out w (Below.refl _ _))
 have HAT:=Lib.hid hat
 clear hz hat
 go_enter Tryz.func34,Tryz.ntmps34
 go_wp2_with fail
 refine KPK.out.mono ?_
 rintro e w2 ⟨⟨jk,hjk,rfl⟩,rfl⟩
 obtain ⟨ad,rfl,-,e0⟩:=HAT.out jk hjk
 have i0:(0:Int)≤(jk:Int):=by omega
 have i1:(jk:Int) < (s.length:Int):=by omega
 have PKK:=Lib.hid (SP.out.1 _ (List.getElem_mem hjk))
 generalize hkk:s[jk]=kk at e0 PKK
 clear KPK HAT hkk
 go_wp2_with fail
 refine (entries9_any b U m w (HW.out w (Below.refl _ _)).1 (by have:=UFF.out.len;omega)).mono ?_
 rintro e w5 ⟨⟨Ae,ce,rfl,hre⟩,hb⟩
 have B5:=Lib.hid hb
 have RE:=Lib.hid (rdEnts_at hre).2.2.2
 obtain ⟨-,hec,hem,-⟩:=rdEnts_at hre
 have hem':ce≤9223372036854775807:=hem
 clear hb hre hem e0
 go_wp2_with fail
 go_loopw [9,10] (fun v ix wr=>∃k:Nat,k≤s.length∧ix=.int .i64 k∧Grow rdInt 1 (fun _=>True) wr w5.heap.size 3 v ((s.take k).filter fun p=>!decide (p=kk))∧Hid (NeedP U kk (s.take k))∧Below w5.heap.size w5 wr) (fun _ ix _=>s.length - (intOf ix).toNat)
 case atStart=>exact ⟨0,Nat.zero_le _,rfl,Grow.nil _ _ _ _,Lib.hid (fun p hp=>absurd hp List.not_mem_nil),Below.refl _ _⟩
 case round=>
  obtain ⟨k,hk,rfl,hG,HN,hbel⟩:=hrel
  have HB:=Lib.hid hbel
  have GG:=Lib.hid hG
  clear hbel hG
  by_cases hlt:k < s.length
  ·obtain ⟨-,-,-,hat⟩:=rdInts_at (RS.out wr (bel_in B5.out HB.out))
   obtain ⟨adx,eax,-,e0⟩:=hat k hlt
   obtain rfl:ad=adx:=Option.some.inj eax
   have i0:(0:Int)≤(k:Int):=by omega
   have i1:(k:Int) < (s.length:Int):=by omega
   have k1:IntKind.i64.wrap ((k:Int)+1)=(k:Int)+1:=IntWalk.i64_in _ (by omega)
   have PK:=Lib.hid (SP.out.1 _ (List.getElem_mem hlt))
   obtain ⟨ja,hja,epa,ea⟩:=ent_at10 PK.out.1 PK.out.2
   have SF:=Lib.hid (fil_take10 (p:=fun p=>!decide (p=kk)) hlt)
   have NS:=Lib.hid (fun h2=>NeedP.step hlt HN.out h2)
   clear hat eax
   by_cases hek:s[k]=kk
   ·have t1:(s[k]==kk)=true:=by rw [hek];exact beq_self_eq_true _
    have NX:=Lib.hid (show Grow rdInt 1 (fun _=>True) wr w5.heap.size 3 u9 ((s.take (k+1)).filter fun p=>!decide (p=kk)) from by
     rw [SF.out.2 (by rw [hek];simp)];exact GG.out)
    have NN:=Lib.hid (show Hid (NeedP U kk (s.take (k+1))) from Lib.hid (NS.out fun h=>absurd hek h))
    rw [hek] at e0
    clear SF NS ea epa PK hek t1
    have t1:(kk==kk)=true:=beq_self_eq_true _
    go_wp2
    go_roundw
    case rel=>exact ⟨k+1,by omega,by go_num,NX.out,NN.out,HB.out⟩
    case measure=>simp [intOf];omega
   have hln:((s.take k).filter fun p=>!decide (p=kk)).length≤64:=by have:=List.length_filter_le (fun p=>!decide (p=kk)) (s.take k);rw [List.length_take] at this;have:=SL.out;omega
   have SFN:=Lib.hid (SF.out.1 (by simp [hek]))
   have NS:=Lib.hid (fun (h2:Need2 U kk U[ja].d)=>NS.out fun _=>by rw [ea];exact h2)
   have t1:((ja:Int)==kk)=false:=by rw [←epa,beq_eq_false_iff_ne];exact hek
   rw [epa] at e0 SFN
   generalize hgl:(s.take k).filter (fun p=>!decide (p=kk))=gl at GG SFN hln
   have hn1:gl.length+1≤maxLen:=by unfold maxLen;omega
   have hn2:(gl.length+1)*8≤140737488355328:=by omega
   have hbs:w5.heap.size≤wr.heap.size:=HB.out.size
   have hG3:=GG.out
   obtain ⟨adE,A1,c1,A2,c2,A3,c3,A4,c4,rfl,-,hv,-,-,f2,-⟩:=RE.out ja hja
   have a0:(0:Int)≤(ja:Int):=by omega
   have a1:(ja:Int) < (U.length:Int):=by omega
   have QD:=Lib.hid (fun (W:World) (hx:Below w5.heap.size w5 W)=>keep6 hx f2)
   have GRP:=Lib.hid (rdGrps_at hv.d).2.2.2
   have DZ:=Lib.hid (UFF.out.sz _ (List.getElem_mem hja))
   have DL:=Lib.hid (UFF.out.dep _ (List.getElem_mem hja))
   obtain ⟨-,hdc,hdm,-⟩:=rdGrps_at hv.d
   have hdm':c1≤9223372036854775807:=hdm
   have RSK:=Lib.hid (fun (W:World) (hx:Below w5.heap.size w5 W)=>(show W.cell? (ad.add k)=some (.int .i64 (ja:Int)) from by
    obtain ⟨-,-,-,hat⟩:=rdInts_at (RS.out W (bel_in B5.out hx))
    obtain ⟨ad2,ee,-,h⟩:=hat k hlt
    obtain rfl:ad=ad2:=Option.some.inj ee
    rw [epa] at h;exact h))
   clear SF ea hv f2 hdm hgl hek PK
   generalize hdd:U[ja].d=D at *
   clear hdd
   go_wp2_with (at_builtin;refine wpList_grow1 wr rfl _ _ 27 rfl rdInt_good (by decide) (fun _=>True) w5.heap.size 3 fi _ 8 Tryz.underlying27 hi0 hz0 hz1 hz2 rfl u9 gl rfl hG3 (ja:Int) _ 3 rfl _ rfl rfl hn1 hn2 hbs ?_)
   intro v1 w6 hG6 hg6
   have B6:=Lib.hid (grow_below hG3 hg6 HB.out (Nat.le_refl _) hbs)
   have G6:=Lib.hid (fun (W:World) (hx:Below w6.heap.size w6 W)=>(show Grow rdInt 1 (fun _=>True) W w5.heap.size 3 v1 ((s.take (k+1)).filter fun p=>!decide (p=kk)) from by rw [SFN.out];exact hG6.below rdInt_good hx))
   have e0:=RSK.out w6 B6.out
   have q2:=QD.out w6 B6.out
   clear hG3 hG6 hg6 hn1 hn2 hbs GG SFN t1 epa
   go_wp2_with fail
   go_loopw [12] (fun ix wr=>∃n:Nat,n≤D.length∧ix=.int .i64 n∧Hid (Need2 U kk (D.take n))∧Below w6.heap.size w6 wr) (fun ix _=>D.length - (intOf ix).toNat)
   case atStart=>exact ⟨0,Nat.zero_le _,rfl,Lib.hid (fun p hp=>absurd hp List.not_mem_nil),Below.refl _ _⟩
   case round=>
    obtain ⟨n,hn,rfl,HN2,hbel⟩:=hrel
    have HBN:=Lib.hid hbel
    clear hbel e0 q2
    by_cases hnl:n < D.length
    ·have n0:(0:Int)≤(n:Int):=by omega
     have n1:(n:Int) < (D.length:Int):=by omega
     have n2:IntKind.i64.wrap ((n:Int)+1)=(n:Int)+1:=IntWalk.i64_in _ (by have:=DL.out;omega)
     have NS2:=Lib.hid (fun h2=>Need2.step hnl HN2.out h2)
     have DZN:=Lib.hid (DZ.out _ (List.getElem_mem hnl))
     obtain ⟨adG,Ag,cg,rfl,-,h0,hg⟩:=GRP.out n hnl
     have HGQ:=Lib.hid (fun (W:World) (hx:Below w5.heap.size w5 W)=>And.intro (keep6 hx h0) ((rdAtms_at (rdAtms_good.up (rdAtms_good.below hg hx) hx.size)).2.2.2))
     obtain ⟨-,hgc,hgm,-⟩:=rdAtms_at hg
     have hgm':cg≤9223372036854775807:=hgm
     generalize hgp:D[n]=gp at *
     clear h0 hg hgm hgp
     go_wp2_with fail
     go_loopw [13] (fun ix wr=>∃j:Nat,j≤gp.length∧ix=.int .i64 j∧Hid (Need3 U kk (gp.take j))∧Below w6.heap.size w6 wr) (fun ix _=>gp.length - (intOf ix).toNat)
     case atStart=>exact ⟨0,Nat.zero_le _,rfl,Lib.hid (fun p hp=>absurd hp List.not_mem_nil),HBN.out⟩
     case round=>
      obtain ⟨j,hj,rfl,HN3,hbel⟩:=hrel
      have HBJ:=Lib.hid hbel
      have HBJ5:=Lib.hid (bel_in B6.out hbel)
      have HBJw:=Lib.hid (bel_in B5.out HBJ5.out)
      clear hbel
      obtain ⟨h0,hga⟩:=HGQ.out wr HBJ5.out
      by_cases hjl:j < gp.length
      ·obtain ⟨adA,rfl,-,b0,b1,b2⟩:=hga j hjl
       have j0:(0:Int)≤(j:Int):=by omega
       have j1:(j:Int) < (gp.length:Int):=by omega
       have j2:IntKind.i64.wrap ((j:Int)+1)=(j:Int)+1:=IntWalk.i64_in _ (by omega)
       have NS3:=Lib.hid (fun h2=>Need3.step hjl HN3.out h2)
       have KG:=Lib.hid (givers9_any b U m gp[j] wr (HW.out wr HBJw.out).1 (UFF.out.big _) (DZN.out _ (List.getElem_mem hjl)) (HW.out wr HBJw.out).2)
       have GL:=Lib.hid (Nat.le_trans (ixU_len10 (gvA gp[j]) U 0) UFF.out.len)
       have EM:=Lib.hid (show kk ∈ ixU (gvA gp[j]) U 0↔gvA gp[j] (entA U kk)=true from ixU_nat PKK.out.1 PKK.out.2)
       generalize hxx:gp[j]=x at b0 b1 b2 KG GL NS3 EM
       generalize ixU (gvA x) U 0=gs at KG GL EM
       clear hga hxx
       go_wp2_with fail
       refine KG.out.mono ?_
       rintro e w9 ⟨⟨Aw,cw,rfl,hrg⟩,hb⟩
       obtain ⟨WI,hWI⟩:∃W,W=w9.alloc (.cells #[.int .i64 kk] 3):=⟨_,rfl⟩
       have bi:Below w9.heap.size w9 WI:=by rw [hWI];exact (Below.refl _ w9).alloc (Nat.le_refl _) _
       have ri:rdInts WI (lt_ WI.heap.size) [kk] [.slice (some ⟨w9.heap.size,0,none⟩) 1 1]:=rd_ints9 (l:=[kk]) (by rw [hWI];exact heap_alloc_new w9 _) rfl (by rw [hWI];unfold lt_;simp) (by simp)
       have BI:=Lib.hid (bel_in HBJ.out (bel_in hb bi))
       have KB:=Lib.hid (both10_any Aw (some ⟨w9.heap.size,0,none⟩) gs.length cw 1 1 gs [kk] WI (rdInts_good.up (rdInts_good.below hrg bi) bi.size) ri (by have:=GL.out;simp;omega))
       have DY:=Lib.hid (drop_yes (gs:=gs) (k:=kk))
       generalize hnn:(bothL gs [kk]).length=nn at KB DY
       clear hb KG b0 b1 b2 hrg hnn h0 bi ri
       go_wp2_with fail
       rw [←hWI]
       clear hWI
       refine KB.out.mono ?_
       rintro e w10 ⟨⟨Ao,co,rfl,-⟩,hb⟩
       have B10:=Lib.hid (bel_in BI.out hb)
       clear hb KB
       by_cases h1:0 < nn
       ·have t0:(0:Int) < (nn:Int):=by omega
        have t0':decide ((0:Int) < (nn:Int))=true:=decide_eq_true t0
        have FIN:=Lib.hid (bel_in B5.out (bel_in B6.out B10.out))
        clear NS3 EM DY
        go_wp2
        go_ret
        exact ⟨rfl,FIN.out⟩
       ·have t0:¬(0:Int) < (nn:Int):=by omega
        have t0':decide ((0:Int) < (nn:Int))=false:=decide_eq_false t0
        have t1:nn=0:=by omega
        have NX:=Lib.hid (show Hid (Need3 U kk (gp.take (j+1))) from Lib.hid (NS3.out (Bool.eq_false_iff.2 fun q=>h1 (DY.out.2 (EM.out.2 q)))))
        clear NS3 EM DY
        go_wp2
        go_roundw
        case rel=>exact ⟨j+1,by omega,by go_num,NX.out,B10.out⟩
        case measure=>simp [intOf];omega
      ·obtain rfl:j=gp.length:=by omega
       have NX:=Lib.hid (show Hid (Need2 U kk (D.take (n+1))) from Lib.hid (NS2.out (by have:=HN3.out;rwa [List.take_length] at this)))
       clear hga HN3
       go_wp2
       go_roundw
       case rel=>exact ⟨n+1,by omega,by go_num,NX.out,HBJ.out⟩
       case measure=>simp [intOf];omega
    ·obtain rfl:n=D.length:=by omega
     have NX:=Lib.hid (show Hid (NeedP U kk (s.take (k+1))) from Lib.hid (NS.out (by have:=HN2.out;rwa [List.take_length] at this)))
     have BX:=Lib.hid (bel_in B6.out HBN.out)
     have GX:=Lib.hid (G6.out wr HBN.out)
     go_wp2
     go_roundw
     case rel=>exact ⟨k+1,by omega,by go_num,GX.out,NX.out,BX.out⟩
     case measure=>simp [intOf];omega
  ·obtain rfl:k=s.length:=by omega
   have RL:=Lib.hid (show rdInts wr (lt_ wr.heap.size) (s.filter fun p=>!decide (p=kk)) [u9] from by
    have:=GG.out.read rdInt_good
    rwa [List.take_length] at this)
   have IN0:=Lib.hid (show clB U (s.filter fun p=>!decide (p=kk))=true from by
    have q:SetP U.length (s.filter fun p=>!decide (p=kk)):=⟨fun p hp=>SP.out.1 p (List.mem_filter.1 hp).1,List.Pairwise.filter _ SP.out.2⟩
    rw [clB_set q,insS_drop SP.out.2 INS.out (by have:=HN.out;rwa [List.take_length] at this)];rfl)
   have LF:=Lib.hid (show (s.filter fun p=>!decide (p=kk)).length≤200 from Nat.le_trans (List.length_filter_le _ _) (by have:=SL.out;omega))
   generalize s.filter (fun p=>!decide (p=kk))=lf at RL IN0 LF
   obtain ⟨Av,cv,hv,_⟩:=id RL.out
   simp only [List.cons.injEq,and_true] at hv
   subst hv
   have Bw:=Lib.hid (bel_in B5.out HB.out)
   have KC:=Lib.hid (vclosed_any b U m Av lf.length cv lf wr (UFF.out.uq (HW.out wr Bw.out).1) RL.out (HW.out wr Bw.out).2 (Nat.le_trans (ins_bound UFF.out.dep LF.out) (by decide)))
   rw [IN0.out] at KC
   clear GG HN RL
   go_wp2_with fail
   refine KC.out.mono ?_
   rintro e w20 ⟨rfl,hb⟩
   have FIN:=Lib.hid (bel_in Bw.out hb)
   clear hb KC
   go_wp2
   go_ret
   exact ⟨rfl,FIN.out⟩
end Go.Proofs.YthchfkhpmgkghaaGreatDoor
