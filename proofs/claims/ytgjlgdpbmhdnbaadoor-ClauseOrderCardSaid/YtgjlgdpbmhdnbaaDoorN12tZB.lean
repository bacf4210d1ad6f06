/- What the laws rest on: N12t. -/
import Derived.Test.YtgjlgdpbmhdnbaaDoorQAHZB
set_option maxRecDepth 100000
set_option linter.unusedVariables false
set_option linter.unusedSimpArgs false
namespace Go.Proofs.YtgjlgdpbmhdnbaaDoor
open Go.RowKit
theorem iss12_info:(Tryd.prog.info? 23).map (fun i=>(i.zero,i.size,i.bytes))=some (some (.slice none 0 0),1,24):=by kernel_rfl
theorem rev_go {c:List Int} {t q:Nat} (hq:q+1+t=c.length):c.reverse.take (t+1)=c.reverse.take t++[c[q]!]:=by
 have ht:t < c.reverse.length:=by rw [List.length_reverse];omega
 rw [List.take_succ_eq_append_getElem ht,List.getElem_reverse,getElem!_pos c q (by omega)]
 congr 2
 congr 1
 omega
theorem allT_le (a:List Int) (k:Nat):(allT a k).length≤k:=by
 unfold allT
 rw [List.length_map]
 have:=List.length_filter_le (fun i=>a[i]! != 0) (List.range k)
 rw [List.length_range] at this
 exact this
set_option maxHeartbeats 32000000 in
theorem worder12 (n:Int) (A:Option Addr) (nl cl:Nat) (l:List (List Int)) (Ag:Option Addr) (ng cg:Nat) (g:List Int) (tn:Int) (w:World) (h:rdIss w (lt_ w.heap.size) l [.slice A nl cl]) (hg:rdInts w (lt_ w.heap.size) g [.slice Ag ng cg]) (htn:(Lit.int .i64 tn).wf=true) (E:Pow w) :
  Calls Tryd.prog 5 #[.int .i64 n,.slice A nl cl,.slice Ag ng cg,.int .i64 tn] w fun e w'=>e=.returned (.bool true)∧Below w.heap.size w w':=by
 obtain ⟨fi,hi,hz0,hz1,hz2⟩:=info_parts int12_info
 obtain ⟨gi,gh,gz0,gz1,gz2⟩:=info_parts iss12_info
 have SH:=Lib.hid (shown12_any w E)
 have SM:=Lib.hid (fun (W:World) (hb:Below w.heap.size w W)=>small12_any A nl cl l _ W (rdIss_good.below h hb))
 have U1:=Lib.hid (fun (W:World) (hb:Below w.heap.size w W)=>units12_any n A Ag nl cl ng cg l g W (rdIss_good.up (rdIss_good.below h hb) hb.size) (ints_up hg hb))
 have U2:=Lib.hid (fun (W:World) (hb:Below w.heap.size w W) (l':List (List Int)) (A':Option Addr) (n' c':Nat) (h':rdIss W (lt_ W.heap.size) l' [.slice A' n' c'])=>units12_any n A' Ag n' c' ng cg l' g W h' (ints_up hg hb))
 have U3:=Lib.hid (fun (W:World) (hb:Below w.heap.size w W) (g':List Int) (A':Option Addr) (n' c':Nat) (h':rdInts W (lt_ W.heap.size) g' [.slice A' n' c'])=>units12_any n A A' nl cl n' c' l g' W (rdIss_good.up (rdIss_good.below h hb) hb.size) h')
 obtain ⟨rfl,hgc,hgm,_⟩:=rdInts_at hg
 obtain ⟨rfl,hlc,hlm,_⟩:=rdIss_at h
 have hgm':cg≤9223372036854775807:=hgm
 have hlm':cl≤9223372036854775807:=hlm
 have HA:=Lib.hid (fun (W:World) (hb:Below w.heap.size w W)=>(rdIss_at (rdIss_good.below h hb)).2.2.2)
 have SI:=Lib.hid sints12_any
 clear h hg E hgm hlm htn
 go_enter Tryd.func5,Tryd.ntmps5
 go_wp2_with fail
 refine SH.out.mono ?_
 rintro e w1 ⟨rfl,hb1⟩
 have B1:=Lib.hid hb1
 have S1:=Lib.hid (SM.out w1 B1.out)
 clear hb1 SH SM
 cases hs:sm12 l
 ·rw [hs] at S1
  clear hs
  go_wp2_with (go_at_call 8;refine S1.out.mono ?_;rintro e w' ⟨rfl,rfl⟩)
  go_ret
  exact ⟨rfl,B1.out⟩
 have SL:=Lib.hid (sm12_le hs)
 rw [hs] at S1
 clear hs
 by_cases h1:g.length > 100
 ·have d1:decide (100 < (g.length:Int))=true:=decide_eq_true (by omega)
  have z1:(100:Int) < (g.length:Int):=by omega
  go_wp2_with (go_at_call 8;refine S1.out.mono ?_;rintro e w' ⟨rfl,rfl⟩)
  go_ret
  exact ⟨rfl,B1.out⟩
 have d1:decide (100 < (g.length:Int))=false:=decide_eq_false (by omega)
 have z1:¬(100:Int) < (g.length:Int):=by omega
 by_cases h2:n > 1000
 ·have d2:decide (1000 < n)=true:=decide_eq_true h2
  go_wp2_with (go_at_call 8;refine S1.out.mono ?_;rintro e w' ⟨rfl,rfl⟩)
  go_ret
  exact ⟨rfl,B1.out⟩
 have d2:decide (1000 < n)=false:=decide_eq_false h2
 by_cases h3:l.length=0
 ·have d3:((l.length:Int)==0)=true:=by rw [beq_iff_eq];omega
  have H3:=Lib.hid h3
  clear h3
  go_wp2_with (go_at_call 8;refine S1.out.mono ?_;rintro e w' ⟨rfl,rfl⟩)
  go_ret
  exact ⟨rfl,B1.out⟩
 have d3:((l.length:Int)==0)=false:=by rw [beq_eq_false_iff_ne];omega
 have z3:¬(l.length:Int)=0:=by omega
 go_upto_region 5 with (first|(go_at_call 8;refine S1.out.mono ?_;rintro e w' ⟨rfl,rfl⟩))
 obtain ⟨r,hr⟩:∃r,r=tn.tmod (l.length:Int):=⟨_,rfl⟩
 have hra:r.natAbs < l.length:=by
  rw [hr,Int.natAbs_tmod]
  exact Nat.mod_lt _ (by omega)
 have hrr:tn.tmod (l.length:Int)=r:=hr.symm
 clear hr S1
 obtain ⟨k,hk,hkr⟩:∃k:Nat,k < l.length∧((r < 0∧-r=(k:Int))∨(¬r < 0∧r=(k:Int))):=by
  by_cases q:r < 0
  ·exact ⟨r.natAbs,hra,Or.inl ⟨q,by omega⟩⟩
  ·exact ⟨r.natAbs,hra,Or.inr ⟨q,by omega⟩⟩
 have h0l:0 < l.length:=by omega
 have OT:=Lib.hid (fun (r r':List Int) (ok ok':Bool) (a:UnA n l g r ok) (b:UnA n (othL l k l.length) g r' ok')=>unA_oth h0l hk a b)
 have ST:=Lib.hid (fun (m:Nat)=>othL_go l k m)
 have LN:=Lib.hid (fun (m:Nat)=>othL_len l k m)
 have RM:∀m:Nat,((m:Int)+(k:Int)).tmod (l.length:Int)=(((m+k) % l.length:Nat):Int):=fun m=>by
  rw [Int.tmod_eq_emod_of_nonneg (by omega)];push_cast;rfl
 have RML:∀m:Nat,(m+k) % l.length < l.length:=fun m=>Nat.mod_lt _ h0l
 have WK:∀m:Nat,m < l.length→IntKind.i64.wrap ((m:Int)+(k:Int))=(m:Int)+(k:Int):=fun m hm=>by have:=SL.out.1;rw [IntKind.wrap_i64];omega
 have START:=Lib.hid (Grow.nil (E:=rdInts) (sz:=1) (fun b=>w.heap.size≤b) w1 w.heap.size 23)
 rcases hkr with ⟨hr0,hr1⟩|⟨hr0,hr1⟩
 ·have d4:decide (r < 0)=true:=decide_eq_true hr0
  have hw:IntKind.i64.wrap (-r)=(k:Int):=by rw [hr1,IntKind.wrap_i64];omega
  clear hra
  go_wp2
  go_loopw [12,13] (fun v i wr=>∃m:Nat,m≤l.length∧i=.int .i64 m∧Grow rdInts 1 (fun b=>w.heap.size≤b) wr w.heap.size 23 v (othL l k m)∧Below w.heap.size w wr) (fun _ i _=>l.length - (intOf i).toNat)
  case atStart=>exact ⟨0,Nat.zero_le _,rfl,START.out,B1.out⟩
  case round=>
   clear START B1
   obtain ⟨m,hm,rfl,hG,hbel⟩:=hrel
   have HB:=Lib.hid hbel
   have HG:=Lib.hid hG
   clear hbel hG
   by_cases hlt:m < l.length
   ·have i0:(0:Int)≤(m:Int):=by omega
    have i1:(m:Int) < (l.length:Int):=by omega
    have wk:=WK m hlt
    have rm:=RM m
    have rm2:((m:Int)+(k:Int)) % (l.length:Int)=(((m+k) % l.length:Nat):Int):=by push_cast;rfl
    have rml:=RML m
    have STm:=Lib.hid (ST.out m)
    have LNm:=LN.out m
    have RT:=Lib.hid (show rotL l k m=(l[(m+k) % l.length]!).reverse from rfl)
    rw [getElem!_pos l _ rml] at RT
    obtain ⟨ad,rfl,had,A2,c2,g0,g1⟩:=HA.out wr HB.out ((m+k) % l.length) rml
    have SCc:=(SL.out.2 _ (List.getElem_mem rml))
    obtain ⟨-,hc2,hm2,-⟩:=rdInts_at g1
    have hm2':c2≤9223372036854775807:=hm2
    have HI:=Lib.hid (fun (W:World) (hW:Below wr.heap.size wr W)=>(rdInts_at (rdInts_good.below g1 (hW.mono HB.out.size))).2.2.2)
    have g0H:=Lib.hid g0
    generalize rotL l k m=rot at *
    generalize l[(m+k) % l.length]=c at *
    have j0:(0:Int)≤(((m+k) % l.length:Nat):Int):=by omega
    have j1:(((m+k) % l.length:Nat):Int) < (l.length:Int):=by omega
    generalize (m+k) % l.length=jx at *
    have wl:IntKind.i64.wrap ((c.length:Int) - 1)=(c.length:Int) - 1:=by rw [IntKind.wrap_i64];omega
    clear had g1 hm2 g0H
    obtain ⟨jl,hjl⟩:∃jl,jl=(c.length:Int) - 1:=⟨_,rfl⟩
    have HJ:=Lib.hid hjl
    have wl2:IntKind.i64.wrap ((c.length:Int) - 1)=jl:=by rw [wl,hjl]
    have wl3:(c.length:Int) - 1=jl:=hjl.symm
    have wl4:IntKind.i64.wrap jl=jl:=by rw [←wl3];exact wl
    clear wl hjl
    have NIL:=Lib.hid (Grow.nil (E:=rdInt) (sz:=1) (fun _=>False) wr wr.heap.size 3)
    obtain ⟨wo,hwo⟩:∃W,W=wr:=⟨_,rfl⟩
    subst hwo
    go_wp2
    clear wl2 wl3 wl4 g0 j0 j1 rm rm2 wk
    go_loopw [15,16] (fun v i wr=>∃(t:Nat) (jj:Int),i=.int .i64 jj∧-1≤jj∧jj+1+(t:Int)=(c.length:Int)∧Grow rdInt 1 (fun _=>False) wr wo.heap.size 3 v (c.reverse.take t)∧Below wo.heap.size wo wr) (fun _ i _=>(intOf i+1).toNat)
    case atStart=>exact ⟨0,jl,rfl,by have:=HJ.out;omega,by have:=HJ.out;omega,NIL.out,Below.refl _ _⟩
    case round=>
     clear NIL
     obtain ⟨t,jj,rfl,hj1,hj2,hG,hbel⟩:=hrel
     by_cases hz:0≤jj
     ·obtain ⟨q,rfl⟩:∃q:Nat,jj=(q:Int):=⟨jj.toNat,by omega⟩
      have hq:q < c.length:=by omega
      have dz:decide ((q:Int)≥0)=true:=decide_eq_true hz
      obtain ⟨ad2,rfl,had2,hcell⟩:=HI.out wr hbel q hq
      have RV:=Lib.hid (rev_go (c:=c) (t:=t) (q:=q) (by omega))
      rw [getElem!_pos c q hq] at RV
      have q0:(0:Int)≤(q:Int):=by omega
      have q1:(q:Int) < (c.length:Int):=by omega
      have wq:IntKind.i64.wrap ((q:Int) - 1)=(q:Int) - 1:=by rw [IntKind.wrap_i64];omega
      have hE:=(show rdInt wr (fun b=>False∧b < wr.heap.size∧u15.ownBlock≠some b) c[q] (#[Value.int .i64 c[q]]:Array Value).toList from rfl)
      generalize c[q]=x at *
      have hl2:(c.reverse.take t).length≤310:=by rw [List.length_take,List.length_reverse];omega
      have hn1:(c.reverse.take t).length+1≤maxLen:=by unfold maxLen;omega
      have hn2:((c.reverse.take t).length+1)*8≤140737488355328:=by omega
      have hbs:=hbel.size
      have HBi:=Lib.hid hbel
      have HJ2:=Lib.hid hj2
      clear hbel hl2 hj2 had2
      go_wp2_with (at_builtin;refine wpList_grow1 wr rfl _ _ 23 rfl rdInt_good (by decide) (fun _=>False) wo.heap.size 3 fi _ 8 Tryd.underlying23 hi hz0 hz1 hz2 rfl u15 _ rfl hG _ _ 3 hE _ rfl rfl hn1 hn2 hbs ?_)
      intro v' w' hG' hgr
      have HB':=Lib.hid (grow_below hG hgr HBi.out (Nat.le_refl _) hbs)
      clear hG hgr hE
      go_wp2
      go_roundw
      case rel=>exact ⟨t+1,(q:Int) - 1,rfl,by omega,by have:=HJ2.out;omega,by rw [RV.out];exact hG',HB'.out⟩
      case measure=>simp [intOf]<;>omega
     ·have dz:decide (jj≥0)=false:=decide_eq_false (by omega)
      obtain rfl:t=c.length:=by omega
      have hG2:=HG.out.below rdInts_good hbel
      have HBw:=Lib.hid (bel2 HB.out hbel (Nat.le_refl _))
      rw [show c.reverse.take c.length=rot by rw [RT.out,←List.length_reverse,List.take_length]] at hG
      have hR:=hG.reads rdInt_good
      obtain ⟨A3,cp3,rfl,_,_⟩:=hG.own
      have hE:rdInts wr (fun b=>w.heap.size≤b∧b < wr.heap.size∧u12.ownBlock≠some b) rot (#[Value.slice A3 rot.length cp3]:Array Value).toList:=rdInts_good.more hR (fun b hb=>by
       have hz1:wo.heap.size≤b:=by rcases hb.2 with q|q;exact q;exact q.elim
       exact ⟨Nat.le_trans HB.out.size hz1,hb.1,fun q=>absurd (HG.out.lt b q).2 (Nat.not_lt.2 hz1)⟩)
      have hl2:(othL l k m).length=m:=LN.out m
      have hn1:(othL l k m).length+1≤maxLen:=by rw [hl2];have:=SL.out.1;unfold maxLen;omega
      have hn2:((othL l k m).length+1)*24≤140737488355328:=by rw [hl2];have:=SL.out.1;omega
      have hbs:=HBw.out.size
      have wm:IntKind.i64.wrap ((m:Int)+1)=(m:Int)+1:=by have:=SL.out.1;rw [IntKind.wrap_i64];omega
      clear hbel hj2 hG hR hl2 LNm
      go_wp2_with (at_builtin;refine wpList_grow1 wr rfl _ _ 22 rfl rdInts_good (by decide) (fun b=>w.heap.size≤b) w.heap.size 23 gi _ 24 Tryd.underlying22 gh gz0 gz1 gz2 rfl u12 _ rfl hG2 rot _ 23 hE _ rfl rfl hn1 hn2 hbs ?_)
      intro v' w' hG' hgr
      have HB':=Lib.hid (grow_below hG2 hgr HBw.out (Nat.le_refl _) hbs)
      clear hG2 hgr hE
      go_wp2
      go_roundw
      case rel=>exact ⟨m+1,by omega,by go_num,by rw [STm.out];exact hG',HB'.out⟩
      case measure=>simp [intOf]<;>omega
   ·obtain rfl:m=l.length:=by omega
    have hR:=HG.out.read rdInts_good
    obtain ⟨A3,cp3,rfl,_,_⟩:=HG.out.own
    have V1:=Lib.hid (U1.out wr HB.out)
    have hU2:=Lib.hid (fun (W:World) (hb:Below wr.heap.size wr W)=>U2.out W (bel12 HB.out hb) _ _ _ _ (rdIss_good.up (rdIss_good.below hR hb) hb.size))
    rw [LN.out l.length] at hU2
    have lo:=LN.out l.length
    clear hR U1 U2 HG
    go_wp2_with fail
    refine V1.out.mono ?_
    rintro e w2 ⟨⟨r,ok,A1,c1,rfl,hu1,q2,q3⟩,-⟩
    have R1:=Lib.hid q2
    have B2:=Lib.hid (bel12 HB.out q3)
    have V2:=Lib.hid (hU2.out w2 q3)
    clear q2 q3 V1 hU2
    go_wp2_with fail
    refine V2.out.mono ?_
    rintro e w3 ⟨⟨r',ok',A2,c2,rfl,hu2,q2,q3⟩,-⟩
    obtain ⟨e1,e2⟩:=OT.out r r' ok ok' hu1 hu2
    subst e1
    subst e2
    have B3:=Lib.hid (bel12 B2.out q3)
    have R3:=Lib.hid (ints_up R1.out q3)
    have KS:=Lib.hid (SI.out _ _ _ _ _ _ r r w3 R3.out q2)
    rw [decide_eq_true (rfl:r=r)] at KS
    clear q2 q3 V2 hu2 R1
    go_wp2_with fail
    refine KS.out.mono ?_
    rintro e w4 ⟨rfl,q3⟩
    have B4:=Lib.hid (bel12 B3.out (q3.below _))
    have R4:=Lib.hid (ints_up R3.out (q3.below _))
    clear q3 KS R3
    have eo:(ok==ok)=true:=by simp
    have NIL:=Lib.hid (Grow.nil (E:=rdInt) (sz:=1) (fun _=>False) w4 w4.heap.size 3)
    have TH:=Lib.hid (unA_three hu1)
    have LE:=unA_len hu1
    obtain ⟨-,hc1,hm1,-⟩:=rdInts_at R4.out
    have hm1':c1≤9223372036854775807:=hm1
    have HI:=Lib.hid (fun (W:World) (hW:Below w4.heap.size w4 W)=>(rdInts_at (rdInts_good.below R4.out hW)).2.2.2)
    have U1H:=Lib.hid hu1
    clear hu1 hm1
    go_wp2
    go_loopw [21,22] (fun v i wr=>∃t:Nat,t≤r.length∧i=.int .i64 t∧Grow rdInt 1 (fun _=>False) wr w4.heap.size 3 v (allT r t)∧Below w4.heap.size w4 wr) (fun _ i _=>r.length - (intOf i).toNat)
    case atStart=>exact ⟨0,Nat.zero_le _,rfl,NIL.out,Below.refl _ _⟩
    case round=>
     clear NIL
     obtain ⟨t,ht,rfl,hG,hbel⟩:=hrel
     by_cases hlt:t < r.length
     ·have i0:(0:Int)≤(t:Int):=by omega
      have i1:(t:Int) < (r.length:Int):=by omega
      have wt:IntKind.i64.wrap ((t:Int)+1)=(t:Int)+1:=by rw [IntKind.wrap_i64];omega
      obtain ⟨ad2,rfl,had2,hcell⟩:=HI.out wr hbel t hlt
      have TG:=Lib.hid (allT_go r t)
      have TR:=TH.out t hlt
      rw [getElem!_pos r t hlt] at TG TR
      have wx:IntKind.i64.wrap (((t:Int)+1)*r[t])=((t:Int)+1)*r[t]:=by
       have hb:-30000≤((t:Int)+1)*r[t]∧((t:Int)+1)*r[t]≤30000:=by
        rcases TR with q|q|q
        ·rw [q,Int.mul_one];omega
        ·rw [q,show ((t:Int)+1)*-1=-((t:Int)+1) by omega];omega
        ·rw [q,Int.mul_zero];omega
       revert hb
       generalize ((t:Int)+1)*r[t]=p
       intro hb
       rw [IntKind.wrap_i64]
       omega
      have TRH:=Lib.hid TR
      clear TR
      generalize r[t]=x at *
      have HBi:=Lib.hid hbel
      by_cases hx:x=0
      ·have dx:(x==0)=true:=by simp [hx]
       rw [show (x != 0)=false by simp [hx]] at TG
       clear hbel had2
       go_wp2
       go_roundw
       case rel=>exact ⟨t+1,by omega,by go_num,by rw [TG.out];simpa using hG,HBi.out⟩
       case measure=>simp [intOf]<;>omega
      ·have dx:(x==0)=false:=by simp [hx]
       rw [show (x != 0)=true by simp [hx],if_pos rfl] at TG
       have hE:=(show rdInt wr (fun b=>False∧b < wr.heap.size∧u21.ownBlock≠some b) (((t:Int)+1)*x) (#[Value.int .i64 (((t:Int)+1)*x)]:Array Value).toList from rfl)
       have hl2:=allT_le r t
       have hn1:(allT r t).length+1≤maxLen:=by unfold maxLen;omega
       have hn2:((allT r t).length+1)*8≤140737488355328:=by omega
       have hbs:=hbel.size
       clear hbel had2 hl2
       go_wp2_with (at_builtin;refine wpList_grow1 wr rfl _ _ 23 rfl rdInt_good (by decide) (fun _=>False) w4.heap.size 3 fi _ 8 Tryd.underlying23 hi hz0 hz1 hz2 rfl u21 _ rfl hG _ _ 3 hE _ rfl rfl hn1 hn2 hbs ?_)
       intro v' w' hG' hgr
       have HB':=Lib.hid (grow_below hG hgr HBi.out (Nat.le_refl _) hbs)
       clear hG hgr hE
       go_wp2
       go_roundw
       case rel=>exact ⟨t+1,by omega,by go_num,by rw [TG.out];exact hG',HB'.out⟩
       case measure=>simp [intOf]<;>omega
     ·obtain rfl:t=r.length:=by omega
      have hR:=hG.read rdInt_good
      obtain ⟨A5,cp5,rfl,_,_⟩:=hG.own
      have B5:=Lib.hid (bel12 B4.out hbel)
      have R5:=Lib.hid (ints_up R4.out hbel)
      have V3:=Lib.hid (U3.out wr B5.out _ _ _ _ hR)
      clear hR U3 hG hbel HI R4
      go_wp2_with fail
      refine V3.out.mono ?_
      rintro e w6 ⟨⟨r3,ok3,A6,c6,rfl,hu3,q2,q3⟩,-⟩
      have B6:=Lib.hid (bel12 B5.out q3)
      have R6:=Lib.hid q2
      have R7:=Lib.hid (ints_up R5.out q3)
      clear q2 q3 V3
      cases ok
      ·go_wp2
       go_ret
       exact ⟨by try rfl,B6.out⟩
      ·obtain ⟨e1,e2⟩:=unA_one (unA_again U1H.out) hu3
       subst e1
       subst e2
       have KS:=Lib.hid (SI.out _ _ _ _ _ _ r r w6 R7.out R6.out)
       rw [decide_eq_true (rfl:r=r)] at KS
       clear hu3
       go_wp2_with (first|(go_at_call 11;refine KS.out.mono ?_;rintro e w7 ⟨rfl,q3⟩;have B7:=Lib.hid (bel12 B6.out (q3.below _));clear q3))
       go_ret
       exact ⟨by try rfl,B7.out⟩
 ·subst hr1
  have d4:decide ((k:Int) < 0)=false:=decide_eq_false hr0
  clear hra
  go_wp2
  go_loopw [12,13] (fun v i wr=>∃m:Nat,m≤l.length∧i=.int .i64 m∧Grow rdInts 1 (fun b=>w.heap.size≤b) wr w.heap.size 23 v (othL l k m)∧Below w.heap.size w wr) (fun _ i _=>l.length - (intOf i).toNat)
  case atStart=>exact ⟨0,Nat.zero_le _,rfl,START.out,B1.out⟩
  case round=>
   clear START B1
   obtain ⟨m,hm,rfl,hG,hbel⟩:=hrel
   have HB:=Lib.hid hbel
   have HG:=Lib.hid hG
   clear hbel hG
   by_cases hlt:m < l.length
   ·have i0:(0:Int)≤(m:Int):=by omega
    have i1:(m:Int) < (l.length:Int):=by omega
    have wk:=WK m hlt
    have rm:=RM m
    have rm2:((m:Int)+(k:Int)) % (l.length:Int)=(((m+k) % l.length:Nat):Int):=by push_cast;rfl
    have rml:=RML m
    have STm:=Lib.hid (ST.out m)
    have LNm:=LN.out m
    have RT:=Lib.hid (show rotL l k m=(l[(m+k) % l.length]!).reverse from rfl)
    rw [getElem!_pos l _ rml] at RT
    obtain ⟨ad,rfl,had,A2,c2,g0,g1⟩:=HA.out wr HB.out ((m+k) % l.length) rml
    have SCc:=(SL.out.2 _ (List.getElem_mem rml))
    obtain ⟨-,hc2,hm2,-⟩:=rdInts_at g1
    have hm2':c2≤9223372036854775807:=hm2
    have HI:=Lib.hid (fun (W:World) (hW:Below wr.heap.size wr W)=>(rdInts_at (rdInts_good.below g1 (hW.mono HB.out.size))).2.2.2)
    have g0H:=Lib.hid g0
    generalize rotL l k m=rot at *
    generalize l[(m+k) % l.length]=c at *
    have j0:(0:Int)≤(((m+k) % l.length:Nat):Int):=by omega
    have j1:(((m+k) % l.length:Nat):Int) < (l.length:Int):=by omega
    generalize (m+k) % l.length=jx at *
    have wl:IntKind.i64.wrap ((c.length:Int) - 1)=(c.length:Int) - 1:=by rw [IntKind.wrap_i64];omega
    clear had g1 hm2 g0H
    obtain ⟨jl,hjl⟩:∃jl,jl=(c.length:Int) - 1:=⟨_,rfl⟩
    have HJ:=Lib.hid hjl
    have wl2:IntKind.i64.wrap ((c.length:Int) - 1)=jl:=by rw [wl,hjl]
    have wl3:(c.length:Int) - 1=jl:=hjl.symm
    have wl4:IntKind.i64.wrap jl=jl:=by rw [←wl3];exact wl
    clear wl hjl
    have NIL:=Lib.hid (Grow.nil (E:=rdInt) (sz:=1) (fun _=>False) wr wr.heap.size 3)
    obtain ⟨wo,hwo⟩:∃W,W=wr:=⟨_,rfl⟩
    subst hwo
    go_wp2
    clear wl2 wl3 wl4 g0 j0 j1 rm rm2 wk
    go_loopw [15,16] (fun v i wr=>∃(t:Nat) (jj:Int),i=.int .i64 jj∧-1≤jj∧jj+1+(t:Int)=(c.length:Int)∧Grow rdInt 1 (fun _=>False) wr wo.heap.size 3 v (c.reverse.take t)∧Below wo.heap.size wo wr) (fun _ i _=>(intOf i+1).toNat)
    case atStart=>exact ⟨0,jl,rfl,by have:=HJ.out;omega,by have:=HJ.out;omega,NIL.out,Below.refl _ _⟩
    case round=>
     clear NIL
     obtain ⟨t,jj,rfl,hj1,hj2,hG,hbel⟩:=hrel
     by_cases hz:0≤jj
     ·obtain ⟨q,rfl⟩:∃q:Nat,jj=(q:Int):=⟨jj.toNat,by omega⟩
      have hq:q < c.length:=by omega
      have dz:decide ((q:Int)≥0)=true:=decide_eq_true hz
      obtain ⟨ad2,rfl,had2,hcell⟩:=HI.out wr hbel q hq
      have RV:=Lib.hid (rev_go (c:=c) (t:=t) (q:=q) (by omega))
      rw [getElem!_pos c q hq] at RV
      have q0:(0:Int)≤(q:Int):=by omega
      have q1:(q:Int) < (c.length:Int):=by omega
      have wq:IntKind.i64.wrap ((q:Int) - 1)=(q:Int) - 1:=by rw [IntKind.wrap_i64];omega
      have hE:=(show rdInt wr (fun b=>False∧b < wr.heap.size∧u15.ownBlock≠some b) c[q] (#[Value.int .i64 c[q]]:Array Value).toList from rfl)
      generalize c[q]=x at *
      have hl2:(c.reverse.take t).length≤310:=by rw [List.length_take,List.length_reverse];omega
      have hn1:(c.reverse.take t).length+1≤maxLen:=by unfold maxLen;omega
      have hn2:((c.reverse.take t).length+1)*8≤140737488355328:=by omega
      have hbs:=hbel.size
      have HBi:=Lib.hid hbel
      have HJ2:=Lib.hid hj2
      clear hbel hl2 hj2 had2
      go_wp2_with (at_builtin;refine wpList_grow1 wr rfl _ _ 23 rfl rdInt_good (by decide) (fun _=>False) wo.heap.size 3 fi _ 8 Tryd.underlying23 hi hz0 hz1 hz2 rfl u15 _ rfl hG _ _ 3 hE _ rfl rfl hn1 hn2 hbs ?_)
      intro v' w' hG' hgr
      have HB':=Lib.hid (grow_below hG hgr HBi.out (Nat.le_refl _) hbs)
      clear hG hgr hE
      go_wp2
      go_roundw
      case rel=>exact ⟨t+1,(q:Int) - 1,rfl,by omega,by have:=HJ2.out;omega,by rw [RV.out];exact hG',HB'.out⟩
      case measure=>simp [intOf]<;>omega
     ·have dz:decide (jj≥0)=false:=decide_eq_false (by omega)
      obtain rfl:t=c.length:=by omega
      have hG2:=HG.out.below rdInts_good hbel
      have HBw:=Lib.hid (bel2 HB.out hbel (Nat.le_refl _))
      rw [show c.reverse.take c.length=rot by rw [RT.out,←List.length_reverse,List.take_length]] at hG
      have hR:=hG.reads rdInt_good
      obtain ⟨A3,cp3,rfl,_,_⟩:=hG.own
      have hE:rdInts wr (fun b=>w.heap.size≤b∧b < wr.heap.size∧u12.ownBlock≠some b) rot (#[Value.slice A3 rot.length cp3]:Array Value).toList:=rdInts_good.more hR (fun b hb=>by
       have hz1:wo.heap.size≤b:=by rcases hb.2 with q|q;exact q;exact q.elim
       exact ⟨Nat.le_trans HB.out.size hz1,hb.1,fun q=>absurd (HG.out.lt b q).2 (Nat.not_lt.2 hz1)⟩)
      have hl2:(othL l k m).length=m:=LN.out m
      have hn1:(othL l k m).length+1≤maxLen:=by rw [hl2];have:=SL.out.1;unfold maxLen;omega
      have hn2:((othL l k m).length+1)*24≤140737488355328:=by rw [hl2];have:=SL.out.1;omega
      have hbs:=HBw.out.size
      have wm:IntKind.i64.wrap ((m:Int)+1)=(m:Int)+1:=by have:=SL.out.1;rw [IntKind.wrap_i64];omega
      clear hbel hj2 hG hR hl2 LNm
      go_wp2_with (at_builtin;refine wpList_grow1 wr rfl _ _ 22 rfl rdInts_good (by decide) (fun b=>w.heap.size≤b) w.heap.size 23 gi _ 24 Tryd.underlying22 gh gz0 gz1 gz2 rfl u12 _ rfl hG2 rot _ 23 hE _ rfl rfl hn1 hn2 hbs ?_)
      intro v' w' hG' hgr
      have HB':=Lib.hid (grow_below hG2 hgr HBw.out (Nat.le_refl _) hbs)
      clear hG2 hgr hE
      go_wp2
      go_roundw
      case rel=>exact ⟨m+1,by omega,by go_num,by rw [STm.out];exact hG',HB'.out⟩
      case measure=>simp [intOf]<;>omega
   ·obtain rfl:m=l.length:=by omega
    have hR:=HG.out.read rdInts_good
    obtain ⟨A3,cp3,rfl,_,_⟩:=HG.out.own
    have V1:=Lib.hid (U1.out wr HB.out)
    have hU2:=Lib.hid (fun (W:World) (hb:Below wr.heap.size wr W)=>U2.out W (bel12 HB.out hb) _ _ _ _ (rdIss_good.up (rdIss_good.below hR hb) hb.size))
    rw [LN.out l.length] at hU2
    have lo:=LN.out l.length
    clear hR U1 U2 HG
    go_wp2_with fail
    refine V1.out.mono ?_
    rintro e w2 ⟨⟨r,ok,A1,c1,rfl,hu1,q2,q3⟩,-⟩
    have R1:=Lib.hid q2
    have B2:=Lib.hid (bel12 HB.out q3)
    have V2:=Lib.hid (hU2.out w2 q3)
    clear q2 q3 V1 hU2
    go_wp2_with fail
    refine V2.out.mono ?_
    rintro e w3 ⟨⟨r',ok',A2,c2,rfl,hu2,q2,q3⟩,-⟩
    obtain ⟨e1,e2⟩:=OT.out r r' ok ok' hu1 hu2
    subst e1
    subst e2
    have B3:=Lib.hid (bel12 B2.out q3)
    have R3:=Lib.hid (ints_up R1.out q3)
    have KS:=Lib.hid (SI.out _ _ _ _ _ _ r r w3 R3.out q2)
    rw [decide_eq_true (rfl:r=r)] at KS
    clear q2 q3 V2 hu2 R1
    go_wp2_with fail
    refine KS.out.mono ?_
    rintro e w4 ⟨rfl,q3⟩
    have B4:=Lib.hid (bel12 B3.out (q3.below _))
    have R4:=Lib.hid (ints_up R3.out (q3.below _))
    clear q3 KS R3
    have eo:(ok==ok)=true:=by simp
    have NIL:=Lib.hid (Grow.nil (E:=rdInt) (sz:=1) (fun _=>False) w4 w4.heap.size 3)
    have TH:=Lib.hid (unA_three hu1)
    have LE:=unA_len hu1
    obtain ⟨-,hc1,hm1,-⟩:=rdInts_at R4.out
    have hm1':c1≤9223372036854775807:=hm1
    have HI:=Lib.hid (fun (W:World) (hW:Below w4.heap.size w4 W)=>(rdInts_at (rdInts_good.below R4.out hW)).2.2.2)
    have U1H:=Lib.hid hu1
    clear hu1 hm1
    go_wp2
    go_loopw [21,22] (fun v i wr=>∃t:Nat,t≤r.length∧i=.int .i64 t∧Grow rdInt 1 (fun _=>False) wr w4.heap.size 3 v (allT r t)∧Below w4.heap.size w4 wr) (fun _ i _=>r.length - (intOf i).toNat)
    case atStart=>exact ⟨0,Nat.zero_le _,rfl,NIL.out,Below.refl _ _⟩
    case round=>
     clear NIL
     obtain ⟨t,ht,rfl,hG,hbel⟩:=hrel
     by_cases hlt:t < r.length
     ·have i0:(0:Int)≤(t:Int):=by omega
      have i1:(t:Int) < (r.length:Int):=by omega
      have wt:IntKind.i64.wrap ((t:Int)+1)=(t:Int)+1:=by rw [IntKind.wrap_i64];omega
      obtain ⟨ad2,rfl,had2,hcell⟩:=HI.out wr hbel t hlt
      have TG:=Lib.hid (allT_go r t)
      have TR:=TH.out t hlt
      rw [getElem!_pos r t hlt] at TG TR
      have wx:IntKind.i64.wrap (((t:Int)+1)*r[t])=((t:Int)+1)*r[t]:=by
       have hb:-30000≤((t:Int)+1)*r[t]∧((t:Int)+1)*r[t]≤30000:=by
        rcases TR with q|q|q
        ·rw [q,Int.mul_one];omega
        ·rw [q,show ((t:Int)+1)*-1=-((t:Int)+1) by omega];omega
        ·rw [q,Int.mul_zero];omega
       revert hb
       generalize ((t:Int)+1)*r[t]=p
       intro hb
       rw [IntKind.wrap_i64]
       omega
      have TRH:=Lib.hid TR
      clear TR
      generalize r[t]=x at *
      have HBi:=Lib.hid hbel
      by_cases hx:x=0
      ·have dx:(x==0)=true:=by simp [hx]
       rw [show (x != 0)=false by simp [hx]] at TG
       clear hbel had2
       go_wp2
       go_roundw
       case rel=>exact ⟨t+1,by omega,by go_num,by rw [TG.out];simpa using hG,HBi.out⟩
       case measure=>simp [intOf]<;>omega
      ·have dx:(x==0)=false:=by simp [hx]
       rw [show (x != 0)=true by simp [hx],if_pos rfl] at TG
       have hE:=(show rdInt wr (fun b=>False∧b < wr.heap.size∧u21.ownBlock≠some b) (((t:Int)+1)*x) (#[Value.int .i64 (((t:Int)+1)*x)]:Array Value).toList from rfl)
       have hl2:=allT_le r t
       have hn1:(allT r t).length+1≤maxLen:=by unfold maxLen;omega
       have hn2:((allT r t).length+1)*8≤140737488355328:=by omega
       have hbs:=hbel.size
       clear hbel had2 hl2
       go_wp2_with (at_builtin;refine wpList_grow1 wr rfl _ _ 23 rfl rdInt_good (by decide) (fun _=>False) w4.heap.size 3 fi _ 8 Tryd.underlying23 hi hz0 hz1 hz2 rfl u21 _ rfl hG _ _ 3 hE _ rfl rfl hn1 hn2 hbs ?_)
       intro v' w' hG' hgr
       have HB':=Lib.hid (grow_below hG hgr HBi.out (Nat.le_refl _) hbs)
       clear hG hgr hE
       go_wp2
       go_roundw
       case rel=>exact ⟨t+1,by omega,by go_num,by rw [TG.out];exact hG',HB'.out⟩
       case measure=>simp [intOf]<;>omega
     ·obtain rfl:t=r.length:=by omega
      have hR:=hG.read rdInt_good
      obtain ⟨A5,cp5,rfl,_,_⟩:=hG.own
      have B5:=Lib.hid (bel12 B4.out hbel)
      have R5:=Lib.hid (ints_up R4.out hbel)
      have V3:=Lib.hid (U3.out wr B5.out _ _ _ _ hR)
      clear hR U3 hG hbel HI R4
      go_wp2_with fail
      refine V3.out.mono ?_
      rintro e w6 ⟨⟨r3,ok3,A6,c6,rfl,hu3,q2,q3⟩,-⟩
      have B6:=Lib.hid (bel12 B5.out q3)
      have R6:=Lib.hid q2
      have R7:=Lib.hid (ints_up R5.out q3)
      clear q2 q3 V3
      cases ok
      ·go_wp2
       go_ret
       exact ⟨by try rfl,B6.out⟩
      ·obtain ⟨e1,e2⟩:=unA_one (unA_again U1H.out) hu3
       subst e1
       subst e2
       have KS:=Lib.hid (SI.out _ _ _ _ _ _ r r w6 R7.out R6.out)
       rw [decide_eq_true (rfl:r=r)] at KS
       clear hu3
       go_wp2_with (first|(go_at_call 11;refine KS.out.mono ?_;rintro e w7 ⟨rfl,q3⟩;have B7:=Lib.hid (bel12 B6.out (q3.below _));clear q3))
       go_ret
       exact ⟨by try rfl,B7.out⟩
end Go.Proofs.YtgjlgdpbmhdnbaaDoor
