/- What the laws rest on: N9q. -/
import Derived.Test.YtoopkofekekmoaaGreatDoorQASZB
set_option maxRecDepth 100000
set_option linter.unusedVariables false
set_option linter.unusedSimpArgs false
namespace Go.Proofs.YtoopkofekekmoaaGreatDoor
open Go.RowKit
theorem pair9_nil (L:List Ent):∀a (ha:a < L.length) c (hc:c < L.length),c < a→a < 0→¬(L[a].n=L[c].n∧L[a].v=L[c].v):=fun a _ _ _ _ h=>absurd h (Nat.not_lt_zero _)
theorem pair9_all {L:List Ent} (h:∀a (ha:a < L.length) c (hc:c < L.length),c < a→a < L.length→¬(L[a].n=L[c].n∧L[a].v=L[c].v)):Once9 L:=
 List.pairwise_iff_getElem.2 fun i j hi hj hij hh=>h j hj i hi hij hj ⟨hh.1.symm,hh.2.symm⟩
theorem pair9_step {L:List Ent} {k:Nat} (hk:k < L.length) (h:∀a (ha:a < L.length) c (hc:c < L.length),c < a→a < k→¬(L[a].n=L[c].n∧L[a].v=L[c].v)) (h2:∀c (hc:c < L.length),c < k→¬(L[k].n=L[c].n∧L[k].v=L[c].v)) :
  ∀a (ha:a < L.length) c (hc:c < L.length),c < a→a < k+1→¬(L[a].n=L[c].n∧L[a].v=L[c].v):=by
 intro a ha c hc hca hak
 by_cases e:a=k
 ·subst e;exact h2 c hc hca
 ·exact h a ha c hc hca (by omega)
set_option maxHeartbeats 32000000 in
theorem twice9 (A:Option Addr) (n0 c:Nat) (L:List Ent) (A':Option Addr) (n1 c':Nat) (m:List Hr) (tn:Int) (w:World) (h:rdEnts w (lt_ w.heap.size) L [.slice A n0 c]) (h':rdHrs w (lt_ w.heap.size) m [.slice A' n1 c']) (ht:(Lit.int .i64 tn).wf=true) (E:EnvR w) :
  Calls Tryz.prog 6 #[.slice A n0 c,.slice A' n1 c',.int .i64 tn] w fun e w'=>e=.returned (.bool true)∧Below w.heap.size w w':=by
 obtain ⟨rfl,hnc,hcm,-⟩:=rdEnts_at h
 obtain ⟨rfl,hnc',hcm',-⟩:=rdHrs_at h'
 have hcx:c≤9223372036854775807:=hcm
 have hcy:c'≤9223372036854775807:=hcm'
 have HE:=Lib.hid E
 have H:=Lib.hid (fun (W:World) (hb:Below w.heap.size w W)=>(rdEnts_good.up (rdEnts_good.below h hb) hb.size:rdEnts W (lt_ W.heap.size) L [.slice A L.length c]))
 have H':=Lib.hid (fun (W:World) (hb:Below w.heap.size w W)=>(rdHrs_good.up (rdHrs_good.below h' hb) hb.size:rdHrs W (lt_ W.heap.size) m [.slice A' m.length c']))
 clear h h' hcm hcm' E
 obtain ⟨fi,hi,hz0,hz1,hz2⟩:=info_parts ent9_info
 have HT:=Lib.hid (show -9223372036854775808≤tn∧tn≤9223372036854775807 by
  unfold Lit.wf at ht
  rw [Bool.and_eq_true,decide_eq_true_eq,decide_eq_true_eq] at ht
  exact ⟨ht.1,ht.2⟩)
 clear ht
 go_enter Tryz.func6,Tryz.ntmps6
 go_wp2_with fail
 refine (shown9_any w (HE.out.below (Below.refl _ _))).mono ?_
 rintro e w1 ⟨rfl,hb⟩
 have B1:=Lib.hid (hb)
 clear hb
 go_wp2_with fail
 refine (small9_any A L.length c L A' m.length c' m w1 (H.out w1 B1.out) (H'.out w1 B1.out)).mono ?_
 rintro e w2 ⟨⟨ok,rfl,hfw⟩,hb⟩
 have B2:=Lib.hid (bel_in B1.out hb)
 clear hb
 cases ok
 ·go_wp2
  go_ret
  exact ⟨rfl,B2.out⟩
 have FW:=Lib.hid (hfw rfl)
 clear hfw
 by_cases h0:L.length=0
 ·have h00:(L.length:Int)=0:=by omega
  go_wp2
  go_ret
  exact ⟨rfl,B2.out⟩
 have h00:¬((L.length:Int)=0):=by omega
 have t00:((L.length:Int)==0)=false:=by rw [beq_eq_false_iff_ne];exact h00
 have hne:¬(L=[]):=fun e=>h0 (by rw [e];rfl)
 by_cases h30:(30:Int) < (L.length:Int)
 ·have h30':30 < L.length:=by omega
  go_wp2
  go_ret
  exact ⟨rfl,B2.out⟩
 have h30':¬(30 < L.length):=by omega
 have KN:=Lib.hid (new9_any A L.length c L A' m.length c' m w2 (H.out w2 B2.out) (H'.out w2 B2.out) (fun x hx=>(FW.out.1.2 x hx).sz) (fun y hy=>(FW.out.2.2 y hy).sz) (HE.out.below B2.out))
 go_wp2_with fail
 refine KN.out.mono ?_
 rintro e w3 ⟨hnr,hb⟩
 have B3:=Lib.hid (bel_in B2.out hb)
 clear hb KN
 by_cases hboth:L.all rgtE=true∧rightH m=true
 rotate_left
 ·obtain rfl:=hnr.1 hboth
  clear hboth hnr
  go_wp2
  go_ret
  exact ⟨rfl,B3.out⟩
 by_cases hmany:64 < (entU L (m.map fun y=>y.e)).length
 ·obtain rfl:=hnr.2.1 hboth hmany
  clear hboth hnr hmany
  go_wp2
  go_ret
  exact ⟨rfl,B3.out⟩
 obtain ⟨b,rfl,hup⟩:=hnr.2.2 hboth hmany
 have HRP:=Lib.hid ((rightH_iff m).1 hboth.2)
 have SR:=Lib.hid (entU_srt (ix:=L) (once_right HRP.out.2.1))
 have HLU:=Lib.hid (Nat.le_of_not_lt hmany)
 have HU:=Lib.hid (fun (W:World) (hb:Below w3.heap.size w3 W)=>hup.below hb)
 have BOTH:=Lib.hid hboth
 clear hnr hboth hmany hup
 have hL30:L.length≤30:=by omega
 have hm70:m.length≤70:=FW.out.2.1
 have SZm:=Lib.hid (fun y (hy:y ∈ m)=>(FW.out.2.2 y hy).sz)
 have SZL:=Lib.hid (fun x (hx:x ∈ L)=>(FW.out.1.2 x hx).sz)
 have RL:=Lib.hid (show ∀x ∈ L,rgtE x=true from List.all_eq_true.1 BOTH.out.1)
 have RM:=Lib.hid HRP.out.1
 have OM:=Lib.hid (once_right HRP.out.2.1)
 have TW:=Lib.hid (entU_twice (ix:=L) OM.out)
 have TU:=Lib.hid (fun (n:Nat) (ho:Once9 L)=>(entU_turn (ix:=L) (iy:=L.drop n++L.take n) OM.out ho (once9_rot ho n) (fun x=>rot_mem x)).symm)
 have RB:=Lib.hid BOTH.out.2
 clear FW HRP BOTH SR
 generalize hU:entU L (m.map fun y=>y.e)=U at *
 have KN:=Lib.hid (fun (X:List Ent) (Av:Option Addr) (cv:Nat) (W:World) (hb:Below w3.heap.size w3 W) (hr:rdEnts W (lt_ W.heap.size) X [.slice Av X.length cv]) (hz:∀x ∈ X,Sz x) (ha:∀x ∈ X,rgtE x=true) (hu:entU X (m.map fun y=>y.e)=U)=>
  (show Calls Tryz.prog 10 #[.slice Av X.length cv,.slice A' m.length c'] W fun e w'=>(∃b',e=.returned (.tuple #[.pointer (some ⟨b',0,none⟩),.int .i64 0])∧UP w' b' U m)∧Below W.heap.size W w' from
   (new9_any Av X.length cv X A' m.length c' m W hr (H'.out W (bel_in B3.out hb)) hz SZm.out (HE.out.below (bel_in B3.out hb))).mono (fun e w' ⟨hn,hb'⟩=>⟨by
    obtain ⟨b',e1,e2⟩:=hn.2.2 ⟨List.all_eq_true.2 ha,RB.out⟩ (by rw [hu];exact Nat.not_lt.2 HLU.out)
    exact ⟨b',e1,by rw [hu] at e2;exact e2⟩,hb'⟩)))
 have KE:=Lib.hid (fun (b':Nat) (W:World) (hu:UP W b' U m)=>entries9_any b' U m W hu (by have:=HLU.out;omega))
 have KS:=Lib.hid (fun (A1:Option Addr) (c1:Nat) (A2:Option Addr) (c2:Nat) (W:World) (h1:rdEnts W (lt_ W.heap.size) U [.slice A1 U.length c1]) (h2:rdEnts W (lt_ W.heap.size) U [.slice A2 U.length c2])=>
  (show Calls Tryz.prog 12 #[.slice A1 U.length c1,.slice A2 U.length c2] W fun e w'=>e=.returned (.bool true)∧Below W.heap.size W w' from
   (sameEnts9_any A1 A2 U.length c1 U.length c2 U U W h1 h2).mono (fun e w' ⟨h,hb'⟩=>⟨by rw [h,decide_eq_true rfl],hb'⟩)))
 have H3:=Lib.hid (H.out w3 B3.out)
 have H3':=Lib.hid (H'.out w3 B3.out)
 have hm1:([]:List Ent).length+L.length≤maxLen:=by simp only [List.length_nil];unfold maxLen;omega
 have hm2:(([]:List Ent).length+L.length)*128≤140737488355328:=by simp only [List.length_nil];omega
 have hm3:L.length+L.length≤maxLen:=by unfold maxLen;omega
 have hm4:(L.length+L.length)*128≤140737488355328:=by omega
 have BE:=Lib.hid ((Below.refl w3.heap.size w3).alloc (Nat.le_refl _) (.cells #[] 53))
 have GE:=Lib.hid (Grow.empty (E:=rdEnt) (sz:=6) (lt_ w3.heap.size) (W:=w3.alloc (.cells #[] 53)) (base:=w3.heap.size) (heap_alloc_new w3 _) (Nat.le_refl _))
 have XE:=Lib.hid (rdEnts_good.below H3.out BE.out)
 have SE:=Lib.hid (show ∀b,lt_ w3.heap.size b→lt_ w3.heap.size b∧b < (w3.alloc (.cells #[] 53)).heap.size∧(Value.slice (some ⟨w3.heap.size,0,none⟩) 0 0).ownBlock≠some b from fun b hb=>⟨hb,by rw [World.size_alloc];unfold lt_ at hb;omega,fun hh=>by simp only [Value.ownBlock,Option.some.injEq] at hh;unfold lt_ at hb;omega⟩)
 have hs1:w3.heap.size≤(w3.alloc (.cells #[] 53)).heap.size:=BE.out.size
 clear hU
 go_wp2_with (at_builtin;refine wpList_growN _ rfl _ _ 22 22 rfl rdEnt_good (by decide) (lt_ w3.heap.size) w3.heap.size 53 53 fi (.agg #[.string { data:=#[] },.string { data:=#[] },.slice none 0 0,.slice none 0 0,.slice none 0 0,.slice none 0 0]) 128 Tryz.underlying22 Tryz.underlying22 hi hz0 hz1 hz2 rfl _ _ rfl GE.out L _ A L.length c rfl XE.out SE.out hm1 hm2 hs1 ?_)
 intro v4 w4 hG4 hg4
 have B34:=Lib.hid (grow_below GE.out hg4 BE.out (Nat.le_refl _) hs1)
 have G4:=Lib.hid (show Grow rdEnt 6 (lt_ w3.heap.size) w4 w3.heap.size 53 v4 L from hG4)
 have X4:=Lib.hid (rdEnts_good.below H3.out B34.out)
 have S4:=Lib.hid (show ∀b,lt_ w3.heap.size b→lt_ w3.heap.size b∧b < w4.heap.size∧v4.ownBlock≠some b from fun b hb=>⟨hb,by have:=B34.out.size;unfold lt_ at hb;omega,fun hh=>by have:=(G4.out.lt b hh).1;unfold lt_ at hb;omega⟩)
 have hs4:w3.heap.size≤w4.heap.size:=B34.out.size
 clear hG4 hg4 hs1 XE SE GE BE
 go_wp2_with (at_builtin;refine wpList_growN _ rfl _ _ 22 22 rfl rdEnt_good (by decide) (lt_ w3.heap.size) w3.heap.size 53 53 fi (.agg #[.string { data:=#[] },.string { data:=#[] },.slice none 0 0,.slice none 0 0,.slice none 0 0,.slice none 0 0]) 128 Tryz.underlying22 Tryz.underlying22 hi hz0 hz1 hz2 rfl _ _ rfl G4.out L _ A L.length c rfl X4.out S4.out hm3 hm4 hs4 ?_)
 intro v5 w5 hG5 hg5
 have B35:=Lib.hid (grow_below G4.out hg5 B34.out (Nat.le_refl _) hs4)
 have G5:=Lib.hid hG5
 clear hG5 hg5 hs4 X4 S4 G4 B34 hm1 hm2 hm3 hm4
 have hll:(L++L).length≤60:=by rw [List.length_append];omega
 have LLZ:=Lib.hid (show ∀x ∈ L++L,Sz x from fun x hx=>(List.mem_append.1 hx).elim (SZL.out x) (SZL.out x))
 have LLR:=Lib.hid (show ∀x ∈ L++L,rgtE x=true from fun x hx=>(List.mem_append.1 hx).elim (RL.out x) (RL.out x))
 generalize hLL:L++L=LL at *
 clear hLL
 go_wp2
 go_loopw [11,12] (fun v i wr=>∃k:Nat,k≤m.length∧i=.int .i64 k∧Grow rdEnt 6 (lt_ w3.heap.size) wr w3.heap.size 53 v (LL++(m.take k).map fun y=>y.e)∧Below w3.heap.size w3 wr) (fun _ i _=>m.length - (intOf i).toNat)
 case atStart=>exact ⟨0,Nat.zero_le _,rfl,by simpa using G5.out,B35.out⟩
 case round=>
  obtain ⟨k,hk,rfl,hG,hbel⟩:=hrel
  have HB:=Lib.hid hbel
  have HG:=Lib.hid hG
  clear hG
  by_cases hlt:k < m.length
  ·obtain ⟨-,-,-,hat⟩:=rdHrs_at (rdHrs_good.below H3'.out hbel)
   obtain ⟨ad,A1,c1,A2,c2,A3,c3,A4,c4,rfl,had,hv,h0,h1,h2,h3,h4,h5,h6,h7⟩:=hat k hlt
   have i0:(0:Int)≤(k:Int):=by omega
   have i1:(k:Int) < (m.length:Int):=by omega
   have ST:=Lib.hid (show LL++(m.take (k+1)).map (fun y=>y.e)=(LL++(m.take k).map fun y=>y.e)++[m[k].e] by rw [List.take_succ_eq_append_getElem hlt,List.map_append,List.append_assoc];rfl)
   have hln:(LL++(m.take k).map fun y:Hr=>y.e).length≤130:=by rw [List.length_append,List.length_map,List.length_take];omega
   have HV:=Lib.hid hv
   clear had hat hv hbel h6 h7
   generalize hgl:(LL++(m.take k).map fun y=>y.e)=gl at HG ST hln
   clear hgl
   generalize m[k]=y at *
   obtain ⟨⟨n,v,d,r,cc,p⟩,ha,hh⟩:=y
   simp only at h0 h1 h2 h3 h4 h5 HV
   obtain ⟨Av,cv,hv6,-,-⟩:=HG.out.own
   have GG:=Lib.hid HG.out
   rw [hv6] at GG
   obtain ⟨nv,hnv⟩:∃q,q=gl.length:=⟨_,rfl⟩
   rw [←hnv] at hv6 GG
   subst hv6
   have rge:∀q,(Value.slice Av nv cv).ownBlock=some q→w3.heap.size≤q:=fun q hq=>(GG.out.lt q hq).1
   have hE:rdEnt wr (fun b=>lt_ w3.heap.size b∧b < wr.heap.size∧(Value.slice Av nv cv).ownBlock≠some b) ⟨n,v,d,r,cc,p⟩ #[.string n,.string v,.slice A1 d.length c1,.slice A2 r.length c2,.slice A3 cc.length c3,.slice A4 p.length c4].toList:=
    rdEnt_good.more HV.out.six (fun b hb=>⟨hb,by have hb:b < w3.heap.size:=hb;have:=HB.out.size;omega,fun hq=>by have:=rge b hq;have hb:b < w3.heap.size:=hb;omega⟩)
   have hn1:gl.length+1≤maxLen:=by unfold maxLen;omega
   have hn2:(gl.length+1)*128≤140737488355328:=by omega
   have hbs:w3.heap.size≤wr.heap.size:=HB.out.size
   clear rge hnv HG
   go_wp2_with (at_builtin;refine wpList_grow1_at wr rfl _ _ 22 rfl rdEnt_good (by decide) (lt_ w3.heap.size) w3.heap.size 53 fi _ 128 Tryz.underlying22 hi hz0 hz1 hz2 rfl (.slice Av nv cv) gl rfl GG.out ⟨n,v,d,r,cc,p⟩ _ 53 hE wr.heap.size rfl rfl hn1 hn2 hbs ?_)
   intro v1 w9 hG9 hg9 _
   have B9:=Lib.hid (grow_below GG.out hg9 HB.out (Nat.le_refl _) hbs)
   have G9:=Lib.hid hG9
   clear hG9 hg9 hE h0 h1 h2 h3 h4 h5 HV
   go_wp2
   go_roundw
   case rel=>exact ⟨k+1,by omega,by go_num,by rw [ST.out];exact G9.out,B9.out⟩
   case measure=>simp [intOf];omega
  ·obtain rfl:k=m.length:=by omega
   rw [List.take_length] at HG
   have FZ:=Lib.hid (show ∀x ∈ LL++m.map fun y=>y.e,Sz x∧rgtE x=true from fun x hx=>(List.mem_append.1 hx).elim (fun h=>⟨LLZ.out x h,LLR.out x h⟩) (fun hx=>by obtain ⟨y,hy,rfl⟩:=List.mem_map.1 hx;exact ⟨SZm.out y hy,RM.out y hy⟩))
   have TWc:=TW.out
   generalize (LL++m.map fun y=>y.e)=TT at HG FZ TWc
   obtain ⟨Av,cv,hv,-,-⟩:=HG.out.own
   have RT:=Lib.hid (HG.out.read rdEnt_good)
   rw [hv] at RT
   subst hv
   have KN2:=Lib.hid (KN.out TT Av cv wr HB.out RT.out (fun x hx=>(FZ.out x hx).1) (fun x hx=>(FZ.out x hx).2) TWc)
   clear TWc FZ
   clear hbel HG RT LLZ LLR G5 B35
   go_wp2_with fail
   refine KN2.out.mono ?_
   rintro e w6 ⟨⟨b2,rfl,hup2⟩,hb⟩
   have B36:=Lib.hid (bel_in HB.out hb)
   have U2:=Lib.hid hup2
   clear hb hup2 KN2
   go_wp2_with fail
   refine (KE.out b w6 (HU.out w6 B36.out)).mono ?_
   rintro e w7 ⟨⟨Ax,cx9,rfl,hrx⟩,hb⟩
   have B37:=Lib.hid (bel_in B36.out hb)
   have U27:=Lib.hid (U2.out.below hb)
   have RX:=Lib.hid hrx
   clear hb hrx
   go_wp2_with fail
   refine (KE.out b2 w7 U27.out).mono ?_
   rintro e w8 ⟨⟨Ay,cy9,rfl,hry⟩,hb⟩
   have B38:=Lib.hid (bel_in B37.out hb)
   have KSX:=Lib.hid (KS.out Ax cx9 Ay cy9 w8 (rdEnts_good.up (rdEnts_good.below RX.out hb) hb.size) hry)
   clear hb hry RX
   go_wp2_with fail
   refine KSX.out.mono ?_
   rintro e w9 ⟨rfl,hb⟩
   have B39:=Lib.hid (bel_in B38.out hb)
   clear hb KSX U2 U27 B36 B37 B38
   go_wp2
   go_loopw [15] (fun i wr=>∃k:Nat,k≤L.length∧i=.int .i64 k∧Hid (∀a (ha:a < L.length) c (hc:c < L.length),c < a→a < k→¬(L[a].n=L[c].n∧L[a].v=L[c].v))∧Below w3.heap.size w3 wr) (fun i _=>L.length - (intOf i).toNat)
   case atStart=>exact ⟨0,Nat.zero_le _,rfl,Lib.hid (pair9_nil L),B39.out⟩
   case round=>
    clear HB B39
    obtain ⟨k,hk,rfl,HX,hbel⟩:=hrel
    have HB:=Lib.hid hbel
    clear hbel
    by_cases hlt:k < L.length
    ·have NXT:=Lib.hid (fun h2=>pair9_step hlt HX.out h2)
     obtain ⟨wo,rfl⟩:∃W,W=wr:=⟨_,rfl⟩
     go_wp2
     go_loopw [16] (fun j wr=>∃q:Nat,q≤k∧j=.int .i64 q∧Hid (∀c (hc:c < L.length),c < q→¬(L[k].n=L[c].n∧L[k].v=L[c].v))∧Below w3.heap.size w3 wr) (fun j _=>k - (intOf j).toNat)
     case atStart=>exact ⟨0,Nat.zero_le _,rfl,Lib.hid (fun c _ h=>absurd h (Nat.not_lt_zero _)),HB.out⟩
     case round=>
      clear HB
      obtain ⟨q,hq,rfl,HQ,hbel⟩:=hrel
      have HB:=Lib.hid hbel
      clear hbel
      by_cases hqk:q < k
      ·obtain ⟨-,-,-,hat⟩:=rdEnts_at (rdEnts_good.below H3.out HB.out)
       obtain ⟨ad,D1,d1,D2,d2,D3,d3,D4,d4,rfl,-,-,y0,y1,-⟩:=hat k hlt
       obtain ⟨ad',F1,f1,F2,f2,F3,f3,F4,f4,had',-,-,x0,x1,-⟩:=hat q (by omega)
       obtain rfl:ad=ad':=Option.some.inj had'
       have i0:(0:Int)≤(k:Int):=by omega
       have i1:(k:Int) < (L.length:Int):=by omega
       have j0:(0:Int)≤(q:Int):=by omega
       have j1:(q:Int) < (L.length:Int):=by omega
       have jk:(q:Int) < (k:Int):=by omega
       have hql:q < L.length:=by omega
       have NX:=Lib.hid (fun (hn:¬(L[k].n=L[q].n∧L[k].v=L[q].v))=>(show Hid (∀c (hc:c < L.length),c < q+1→¬(L[k].n=L[c].n∧L[k].v=L[c].v)) from Lib.hid (fun c hc h=>by
        by_cases e:c=q
        ·subst e;exact hn
        ·exact HQ.out c hc (by omega))))
       clear hat had'
       by_cases e1:L[k].n=L[q].n
       ·by_cases e2:L[k].v=L[q].v
        ·rw [←e1] at x0
         rw [←e2] at x1
         generalize L[k].n=a1 at x0 y0
         generalize L[k].v=a2 at x1 y1
         have s1:(a1.toList==a1.toList)=true:=by rw [str_eq];exact decide_eq_true rfl
         have s2:(a2.toList==a2.toList)=true:=by rw [str_eq];exact decide_eq_true rfl
         clear NX e1 e2
         go_wp2_with fail
         go_quiet (fail)
         have BR:=Lib.hid (bel_in B3.out (belD HB.out nq))
         go_wp2
         go_ret
         exact ⟨rfl,BR.out⟩
        ·have NX2:=NX.out (fun h=>e2 h.2)
         rw [←e1] at x0
         have t2:(L[k].v.toList==L[q].v.toList)=false:=by rw [str_eq];exact decide_eq_false e2
         have s1:(L[k].n.toList==L[k].n.toList)=true:=by rw [str_eq];exact decide_eq_true rfl
         clear NX e1
         go_wp2_with fail
         go_quiet (fail)
         go_wp2
         go_roundw
         case rel=>exact ⟨q+1,by omega,by go_num,NX2,belD HB.out _⟩
         case measure=>simp [intOf];omega
       ·have NX2:=NX.out (fun h=>e1 h.1)
        have t1:(L[k].n.toList==L[q].n.toList)=false:=by rw [str_eq];exact decide_eq_false e1
        clear NX
        go_wp2_with fail
        go_quiet (fail)
        go_wp2
        go_roundw
        case rel=>exact ⟨q+1,by omega,by go_num,NX2,belD HB.out _⟩
        case measure=>simp [intOf];omega
      ·obtain rfl:q=k:=by omega
       have NX3:=NXT.out HQ.out
       go_wp2
       go_roundw
       case rel=>exact ⟨q+1,by omega,by go_num,Lib.hid NX3,HB.out⟩
       case measure=>simp [intOf];omega
    ·obtain rfl:k=L.length:=by omega
     have O9:=Lib.hid (pair9_all HX.out)
     clear HX
     have hpos:(0:Int) < (L.length:Int):=by omega
     obtain ⟨r,hr⟩:∃r,r=tn.tmod (L.length:Int):=⟨_,rfl⟩
     obtain ⟨N,hN,hrN⟩:∃N:Nat,N < L.length∧(r=(N:Int)∨r=-(N:Int)∧0 < N):=by
      by_cases hs:0≤tn
      ·have e:tn.tmod (L.length:Int)=tn % (L.length:Int):=Int.tmod_eq_emod_of_nonneg hs
       have a1:=Int.emod_nonneg tn h00
       have a2:=Int.emod_lt_of_pos tn hpos
       exact ⟨(tn % (L.length:Int)).toNat,by omega,.inl (by rw [hr,e];omega)⟩
      ·have e:-(tn.tmod (L.length:Int))=(-tn) % (L.length:Int):=by rw [←Int.neg_tmod,Int.tmod_eq_emod_of_nonneg (by omega)]
       have a1:=Int.emod_nonneg (-tn) h00
       have a2:=Int.emod_lt_of_pos (-tn) hpos
       by_cases hz:(-tn) % (L.length:Int)=0
       ·exact ⟨0,by omega,.inl (by rw [hr];omega)⟩
       ·exact ⟨((-tn) % (L.length:Int)).toNat,by omega,.inr ⟨by rw [hr];omega,by omega⟩⟩
     have hr':tn.tmod (L.length:Int)=r:=hr.symm
     obtain ⟨-,-,-,hat⟩:=rdEnts_at H3.out
     obtain ⟨ad,F1,f1,F2,f2,F3,f3,F4,f4,rfl,-⟩:=hat 0 (by omega)
     clear hat
     have hwr:IntKind.i64.wrap r=r:=IntWalk.i64_in _ (by omega)
     have hNl:(N:Int)≤(L.length:Int):=by omega
     have hN0:(0:Int)≤(N:Int):=by omega
     have hNL:N≤L.length:=by omega
     have hNc:N≤c:=by omega
     have hcN:¬(c=N):=by omega
     clear hr
     rcases hrN with rfl|⟨rfl,hNp⟩
     ·have hneg:¬((N:Int) < 0):=by omega
      go_wp2_with fail
      refine wp_region_noPanic ?_
      refine wp_region_D (fun _=>True) 15 (by kernel_rfl) (w0:=wr) (Dr.refl _) (fun V hV=>trivial) (fun V hV hHeld=>?_)
      have BV:=Lib.hid (HB.out.trans ((hV.below wr.heap.size).mono HB.out.size))
      clear hV
      refine wpAnyL_take (i:=1) (v:=?_) [] rfl (by kernel_rfl) (by kernel_rfl) (by kernel_rfl) (fun _ _ _ h=>h) (by kernel_rfl) (by kernel_rfl) (by kernel_rfl) (Or.inl ⟨by rfl,?_⟩) (by assumption) ?_
      rotate_left
      ·intro w hSw
       try dsimp only at hSw
       go_simp
       first|done|with_reducible rfl
      try simp only [Act.put,List.setIfInBounds_toArray,List.set_cons_zero,List.set_cons_succ]
      refine wpAnyL_take (i:=2) (v:=?_) [] rfl (by kernel_rfl) (by kernel_rfl) (by kernel_rfl) (fun _ _ _ h=>h) (by kernel_rfl) (by kernel_rfl) (by kernel_rfl) (Or.inl ⟨by rfl,?_⟩) (by assumption) ?_
      rotate_left
      ·intro w hSw
       try dsimp only at hSw
       go_simp
       first|done|with_reducible rfl
      try simp only [Act.put,List.setIfInBounds_toArray,List.set_cons_zero,List.set_cons_succ]
      refine wpAnyL_take (i:=3) (v:=?_) [] rfl (by kernel_rfl) (by kernel_rfl) (by kernel_rfl) (fun _ _ _ h=>h) (by kernel_rfl) (by kernel_rfl) (by kernel_rfl) (Or.inl ⟨by rfl,?_⟩) (by assumption) ?_
      rotate_left
      ·intro w hSw
       try dsimp only at hSw
       go_simp
       first|done|with_reducible rfl
      try simp only [Act.put,List.setIfInBounds_toArray,List.set_cons_zero,List.set_cons_succ]
      refine wpAnyL_take (i:=5) (v:=?_) [] rfl (by kernel_rfl) (by kernel_rfl) (by kernel_rfl) (fun _ _ _ h=>h) (by kernel_rfl) (by kernel_rfl) (by kernel_rfl) (Or.inl ⟨by rfl,?_⟩) (by assumption) ?_
      rotate_left
      ·intro w hSw
       try dsimp only at hSw
       go_simp
       first|done|with_reducible rfl
      try simp only [Act.put,List.setIfInBounds_toArray,List.set_cons_zero,List.set_cons_succ]
      refine wpAnyL_take (i:=6) (v:=?_) [] rfl (by kernel_rfl) (by kernel_rfl) (by kernel_rfl) (fun _ _ _ h=>h) (by kernel_rfl) (by kernel_rfl) (by kernel_rfl) (Or.inl ⟨by rfl,?_⟩) (by assumption) ?_
      rotate_left
      ·intro w hSw
       try dsimp only at hSw
       go_simp
       first|done|with_reducible rfl
      try simp only [Act.put,List.setIfInBounds_toArray,List.set_cons_zero,List.set_cons_succ]
      refine wpAnyL_take (i:=7) (v:=?_) [] rfl (by kernel_rfl) (by kernel_rfl) (by kernel_rfl) (fun _ _ _ h=>h) (by kernel_rfl) (by kernel_rfl) (by kernel_rfl) (Or.inl ⟨by rfl,?_⟩) (by assumption) ?_
      rotate_left
      ·intro w hSw
       try dsimp only at hSw
       go_simp
       first|done|with_reducible rfl
      try simp only [Act.put,List.setIfInBounds_toArray,List.set_cons_zero,List.set_cons_succ]
      refine wpAnyL_take (i:=9) (v:=?_) [] rfl (by kernel_rfl) (by kernel_rfl) (by kernel_rfl) (fun _ _ _ h=>h) (by kernel_rfl) (by kernel_rfl) (by kernel_rfl) (Or.inl ⟨by rfl,?_⟩) (by assumption) ?_
      rotate_left
      ·intro w hSw
       try dsimp only at hSw
       go_simp
       first|done|with_reducible rfl
      try simp only [Act.put,List.setIfInBounds_toArray,List.set_cons_zero,List.set_cons_succ]
      have BE:=Lib.hid (BV.out.alloc BV.out.size (.cells #[] 53))
      have GE:=Lib.hid (Grow.empty (E:=rdEnt) (sz:=6) (lt_ w3.heap.size) (W:=V.alloc (.cells #[] 53)) (base:=w3.heap.size) (heap_alloc_new V _) BV.out.size)
      have XE:=Lib.hid (show rdEnts (V.alloc (.cells #[] 53)) (lt_ w3.heap.size) (L.drop N) [.slice (some (ad.add (N*6))) (L.length - N) (c - N)] from by
       have:=rdRow_drop (k:=N) (rdEnts_good.below H3.out BE.out) hNL
       rw [if_neg hcN] at this
       exact this)
      have SE:=Lib.hid (show ∀b,lt_ w3.heap.size b→lt_ w3.heap.size b∧b < (V.alloc (.cells #[] 53)).heap.size∧(Value.slice (some ⟨V.heap.size,0,none⟩) 0 0).ownBlock≠some b from fun b hb=>⟨hb,by rw [World.size_alloc];have:=BV.out.size;unfold lt_ at hb;omega,fun hh=>by simp only [Value.ownBlock,Option.some.injEq] at hh;have:=BV.out.size;unfold lt_ at hb;omega⟩)
      refine wpAnyL_one (i:=0) (by kernel_rfl) rfl (fun K hK=>?_)
      go_simp
      refine hK.out _ _ trivial (fun hHeld=>?_)
      clear hK K
      try simp only [Act.put,List.setIfInBounds_toArray,List.set_cons_zero,List.set_cons_succ]
      refine wpAnyL_one (i:=4) (by kernel_rfl) rfl (fun K hK=>?_)
      refine step_growN _ (by rfl) _ _ 22 22 (by rfl) rdEnt_good (by decide) (lt_ w3.heap.size) w3.heap.size 53 53 fi _ 128 Tryz.underlying22 Tryz.underlying22 hi hz0 hz1 hz2 rfl _ _ (by rfl) GE.out (L.drop N) _ _ _ _ (by rfl) XE.out SE.out (by rw [List.length_nil,List.length_drop];unfold maxLen;omega) (by rw [List.length_nil,List.length_drop];omega) BE.out.size ?_
      intro v1 V1 hG1 hg1 _
      have C1:=Lib.hid (grow_below GE.out hg1 BE.out (Nat.le_refl _) BE.out.size)
      have G1:=Lib.hid (show Grow rdEnt 6 (lt_ w3.heap.size) V1 w3.heap.size 53 v1 (L.drop N) from hG1)
      have X1:=Lib.hid (rdRow_take (k:=N) (rdEnts_good.below H3.out C1.out) hNL)
      have S1:=Lib.hid (show ∀b,lt_ w3.heap.size b→lt_ w3.heap.size b∧b < V1.heap.size∧v1.ownBlock≠some b from fun b hb=>⟨hb,by have:=C1.out.size;unfold lt_ at hb;omega,fun hh=>by have:=(G1.out.lt b hh).1;unfold lt_ at hb;omega⟩)
      clear hG1 hg1 GE XE SE BE
      refine hK.out _ _ trivial (fun hHeld=>?_)
      clear hK K
      try simp only [Act.put,List.setIfInBounds_toArray,List.set_cons_zero,List.set_cons_succ]
      refine wpAnyL_one (i:=8) (by kernel_rfl) rfl (fun K hK=>?_)
      refine step_growN _ (by rfl) _ _ 22 22 (by rfl) rdEnt_good (by decide) (lt_ w3.heap.size) w3.heap.size 53 53 fi _ 128 Tryz.underlying22 Tryz.underlying22 hi hz0 hz1 hz2 rfl _ _ (by rfl) G1.out (L.take N) _ _ _ _ (by rfl) X1.out S1.out (by rw [List.length_drop,List.length_take];unfold maxLen;omega) (by rw [List.length_drop,List.length_take];omega) C1.out.size ?_
      intro v2 V2 hG2 hg2 _
      have C2:=Lib.hid (grow_below G1.out hg2 C1.out (Nat.le_refl _) C1.out.size)
      have TUN:=TU.out N O9.out
      have FZ:=Lib.hid (show ∀x ∈ L.drop N++L.take N,Sz x∧rgtE x=true from fun x hx=>(List.mem_append.1 hx).elim (fun h=>⟨SZL.out x (List.mem_of_mem_drop h),RL.out x (List.mem_of_mem_drop h)⟩) (fun h=>⟨SZL.out x (List.mem_of_mem_take h),RL.out x (List.mem_of_mem_take h)⟩))
      generalize L.drop N++L.take N=RT at hG2 TUN FZ
      obtain ⟨Av2,cv2,hv2,-,-⟩:=hG2.own
      have hR2:=hG2.read rdEnt_good
      rw [hv2] at hR2
      have KN3:=Lib.hid (KN.out RT Av2 cv2 V2 C2.out hR2 (fun x hx=>(FZ.out x hx).1) (fun x hx=>(FZ.out x hx).2) TUN)
      subst hv2
      clear hG2 hg2 TUN FZ hR2 G1 X1 S1 C1
      refine hK.out _ _ trivial (fun hHeld=>?_)
      clear hK K
      try simp only [Act.put,List.setIfInBounds_toArray,List.set_cons_zero,List.set_cons_succ]
      refine wpAnyL_one (i:=10) (by kernel_rfl) rfl (fun K hK=>?_)
      go_simp
      refine KN3.out.mono ?_
      rintro e V3 ⟨⟨b3,rfl,hup3⟩,hb⟩
      have C3:=Lib.hid (bel_in C2.out hb)
      have U3:=Lib.hid hup3
      clear hb hup3 KN3
      go_wp2_with fail
      refine hK.out _ _ trivial (fun hHeld=>?_)
      clear hK K
      try simp only [Act.put,List.setIfInBounds_toArray,List.set_cons_zero,List.set_cons_succ]
      refine wpAnyL_take (i:=11) (v:=?_) [] rfl (by kernel_rfl) (by kernel_rfl) (by kernel_rfl) (fun _ _ _ h=>h) (by kernel_rfl) (by kernel_rfl) (by kernel_rfl) (Or.inl ⟨by rfl,?_⟩) (by assumption) ?_
      rotate_left
      ·intro w hSw
       try dsimp only at hSw
       go_simp
       first|done|with_reducible rfl
      try simp only [Act.put,List.setIfInBounds_toArray,List.set_cons_zero,List.set_cons_succ]
      refine wpAnyL_take (i:=12) (v:=?_) [] rfl (by kernel_rfl) (by kernel_rfl) (by kernel_rfl) (fun _ _ _ h=>h) (by kernel_rfl) (by kernel_rfl) (by kernel_rfl) (Or.inl ⟨by rfl,?_⟩) (by assumption) ?_
      rotate_left
      ·intro w hSw
       try dsimp only at hSw
       go_simp
       first|done|with_reducible rfl
      try simp only [Act.put,List.setIfInBounds_toArray,List.set_cons_zero,List.set_cons_succ]
      refine wpAnyL_take (i:=13) (v:=?_) [] rfl (by kernel_rfl) (by kernel_rfl) (by kernel_rfl) (fun _ _ _ h=>h) (by kernel_rfl) (by kernel_rfl) (by kernel_rfl) (Or.inl ⟨by rfl,?_⟩) (by assumption) ?_
      rotate_left
      ·intro w hSw
       try dsimp only at hSw
       go_simp
       first|done|with_reducible rfl
      try simp only [Act.put,List.setIfInBounds_toArray,List.set_cons_zero,List.set_cons_succ]
      refine wpAnyL_one (i:=14) (by kernel_rfl) rfl (fun K hK=>?_)
      go_simp
      refine hK.out _ _ trivial (fun hHeld=>?_)
      clear hK K
      try simp only [Act.put,List.setIfInBounds_toArray,List.set_cons_zero,List.set_cons_succ]
      refine wpAnyL_last (by kernel_rfl) rfl (by kernel_rfl) (fun K hK=>?_)
      go_simp
      refine hK.out _ _ ?_
      clear hK K
      refine NoPanic.normal ?_
      go_wp2_with fail
      refine (KE.out b V3 (HU.out V3 C3.out)).mono ?_
      rintro e V4 ⟨⟨Ax,cx9,rfl,hrx⟩,hb⟩
      have C4:=Lib.hid (bel_in C3.out hb)
      have U4:=Lib.hid (U3.out.below hb)
      have RX:=Lib.hid hrx
      clear hb hrx
      go_wp2_with fail
      refine (KE.out b3 V4 U4.out).mono ?_
      rintro e V5 ⟨⟨Ay,cy9,rfl,hry⟩,hb⟩
      have C5:=Lib.hid (bel_in C4.out hb)
      have KSX:=Lib.hid (KS.out Ax cx9 Ay cy9 V5 (rdEnts_good.up (rdEnts_good.below RX.out hb) hb.size) hry)
      clear hb hry RX
      go_wp2_with fail
      refine KSX.out.mono ?_
      rintro e V6 ⟨rfl,hb⟩
      have C6:=Lib.hid (bel_in B3.out (bel_in C5.out hb))
      clear hb KSX
      go_wp2
      go_ret
      exact ⟨rfl,C6.out⟩
     ·have hneg:(-(N:Int)) < 0:=by omega
      have hneg':(0:Int) < (N:Int):=by omega
      have hwn:IntKind.i64.wrap (-(-(N:Int)))=(N:Int):=by rw [Int.neg_neg];exact IntWalk.i64_in _ (by omega)
      have hwp:IntKind.i64.wrap (N:Int)=(N:Int):=IntWalk.i64_in _ (by omega)
      go_wp2_with fail
      refine wp_region_noPanic ?_
      refine wp_region_D (fun _=>True) 15 (by kernel_rfl) (w0:=wr) (Dr.refl _) (fun V hV=>trivial) (fun V hV hHeld=>?_)
      have BV:=Lib.hid (HB.out.trans ((hV.below wr.heap.size).mono HB.out.size))
      clear hV
      refine wpAnyL_take (i:=1) (v:=?_) [] rfl (by kernel_rfl) (by kernel_rfl) (by kernel_rfl) (fun _ _ _ h=>h) (by kernel_rfl) (by kernel_rfl) (by kernel_rfl) (Or.inl ⟨by rfl,?_⟩) (by assumption) ?_
      rotate_left
      ·intro w hSw
       try dsimp only at hSw
       go_simp
       first|done|with_reducible rfl
      try simp only [Act.put,List.setIfInBounds_toArray,List.set_cons_zero,List.set_cons_succ]
      refine wpAnyL_take (i:=2) (v:=?_) [] rfl (by kernel_rfl) (by kernel_rfl) (by kernel_rfl) (fun _ _ _ h=>h) (by kernel_rfl) (by kernel_rfl) (by kernel_rfl) (Or.inl ⟨by rfl,?_⟩) (by assumption) ?_
      rotate_left
      ·intro w hSw
       try dsimp only at hSw
       go_simp
       first|done|with_reducible rfl
      try simp only [Act.put,List.setIfInBounds_toArray,List.set_cons_zero,List.set_cons_succ]
      refine wpAnyL_take (i:=3) (v:=?_) [] rfl (by kernel_rfl) (by kernel_rfl) (by kernel_rfl) (fun _ _ _ h=>h) (by kernel_rfl) (by kernel_rfl) (by kernel_rfl) (Or.inl ⟨by rfl,?_⟩) (by assumption) ?_
      rotate_left
      ·intro w hSw
       try dsimp only at hSw
       go_simp
       first|done|with_reducible rfl
      try simp only [Act.put,List.setIfInBounds_toArray,List.set_cons_zero,List.set_cons_succ]
      refine wpAnyL_take (i:=5) (v:=?_) [] rfl (by kernel_rfl) (by kernel_rfl) (by kernel_rfl) (fun _ _ _ h=>h) (by kernel_rfl) (by kernel_rfl) (by kernel_rfl) (Or.inl ⟨by rfl,?_⟩) (by assumption) ?_
      rotate_left
      ·intro w hSw
       try dsimp only at hSw
       go_simp
       first|done|with_reducible rfl
      try simp only [Act.put,List.setIfInBounds_toArray,List.set_cons_zero,List.set_cons_succ]
      refine wpAnyL_take (i:=6) (v:=?_) [] rfl (by kernel_rfl) (by kernel_rfl) (by kernel_rfl) (fun _ _ _ h=>h) (by kernel_rfl) (by kernel_rfl) (by kernel_rfl) (Or.inl ⟨by rfl,?_⟩) (by assumption) ?_
      rotate_left
      ·intro w hSw
       try dsimp only at hSw
       go_simp
       first|done|with_reducible rfl
      try simp only [Act.put,List.setIfInBounds_toArray,List.set_cons_zero,List.set_cons_succ]
      refine wpAnyL_take (i:=7) (v:=?_) [] rfl (by kernel_rfl) (by kernel_rfl) (by kernel_rfl) (fun _ _ _ h=>h) (by kernel_rfl) (by kernel_rfl) (by kernel_rfl) (Or.inl ⟨by rfl,?_⟩) (by assumption) ?_
      rotate_left
      ·intro w hSw
       try dsimp only at hSw
       go_simp
       first|done|with_reducible rfl
      try simp only [Act.put,List.setIfInBounds_toArray,List.set_cons_zero,List.set_cons_succ]
      refine wpAnyL_take (i:=9) (v:=?_) [] rfl (by kernel_rfl) (by kernel_rfl) (by kernel_rfl) (fun _ _ _ h=>h) (by kernel_rfl) (by kernel_rfl) (by kernel_rfl) (Or.inl ⟨by rfl,?_⟩) (by assumption) ?_
      rotate_left
      ·intro w hSw
       try dsimp only at hSw
       go_simp
       first|done|with_reducible rfl
      try simp only [Act.put,List.setIfInBounds_toArray,List.set_cons_zero,List.set_cons_succ]
      have BE:=Lib.hid (BV.out.alloc BV.out.size (.cells #[] 53))
      have GE:=Lib.hid (Grow.empty (E:=rdEnt) (sz:=6) (lt_ w3.heap.size) (W:=V.alloc (.cells #[] 53)) (base:=w3.heap.size) (heap_alloc_new V _) BV.out.size)
      have XE:=Lib.hid (show rdEnts (V.alloc (.cells #[] 53)) (lt_ w3.heap.size) (L.drop N) [.slice (some (ad.add (N*6))) (L.length - N) (c - N)] from by
       have:=rdRow_drop (k:=N) (rdEnts_good.below H3.out BE.out) hNL
       rw [if_neg hcN] at this
       exact this)
      have SE:=Lib.hid (show ∀b,lt_ w3.heap.size b→lt_ w3.heap.size b∧b < (V.alloc (.cells #[] 53)).heap.size∧(Value.slice (some ⟨V.heap.size,0,none⟩) 0 0).ownBlock≠some b from fun b hb=>⟨hb,by rw [World.size_alloc];have:=BV.out.size;unfold lt_ at hb;omega,fun hh=>by simp only [Value.ownBlock,Option.some.injEq] at hh;have:=BV.out.size;unfold lt_ at hb;omega⟩)
      refine wpAnyL_one (i:=0) (by kernel_rfl) rfl (fun K hK=>?_)
      go_simp
      refine hK.out _ _ trivial (fun hHeld=>?_)
      clear hK K
      try simp only [Act.put,List.setIfInBounds_toArray,List.set_cons_zero,List.set_cons_succ]
      refine wpAnyL_one (i:=4) (by kernel_rfl) rfl (fun K hK=>?_)
      refine step_growN _ (by rfl) _ _ 22 22 (by rfl) rdEnt_good (by decide) (lt_ w3.heap.size) w3.heap.size 53 53 fi _ 128 Tryz.underlying22 Tryz.underlying22 hi hz0 hz1 hz2 rfl _ _ (by rfl) GE.out (L.drop N) _ _ _ _ (by rfl) XE.out SE.out (by rw [List.length_nil,List.length_drop];unfold maxLen;omega) (by rw [List.length_nil,List.length_drop];omega) BE.out.size ?_
      intro v1 V1 hG1 hg1 _
      have C1:=Lib.hid (grow_below GE.out hg1 BE.out (Nat.le_refl _) BE.out.size)
      have G1:=Lib.hid (show Grow rdEnt 6 (lt_ w3.heap.size) V1 w3.heap.size 53 v1 (L.drop N) from hG1)
      have X1:=Lib.hid (rdRow_take (k:=N) (rdEnts_good.below H3.out C1.out) hNL)
      have S1:=Lib.hid (show ∀b,lt_ w3.heap.size b→lt_ w3.heap.size b∧b < V1.heap.size∧v1.ownBlock≠some b from fun b hb=>⟨hb,by have:=C1.out.size;unfold lt_ at hb;omega,fun hh=>by have:=(G1.out.lt b hh).1;unfold lt_ at hb;omega⟩)
      clear hG1 hg1 GE XE SE BE
      refine hK.out _ _ trivial (fun hHeld=>?_)
      clear hK K
      try simp only [Act.put,List.setIfInBounds_toArray,List.set_cons_zero,List.set_cons_succ]
      refine wpAnyL_one (i:=8) (by kernel_rfl) rfl (fun K hK=>?_)
      refine step_growN _ (by rfl) _ _ 22 22 (by rfl) rdEnt_good (by decide) (lt_ w3.heap.size) w3.heap.size 53 53 fi _ 128 Tryz.underlying22 Tryz.underlying22 hi hz0 hz1 hz2 rfl _ _ (by rfl) G1.out (L.take N) _ _ _ _ (by rfl) X1.out S1.out (by rw [List.length_drop,List.length_take];unfold maxLen;omega) (by rw [List.length_drop,List.length_take];omega) C1.out.size ?_
      intro v2 V2 hG2 hg2 _
      have C2:=Lib.hid (grow_below G1.out hg2 C1.out (Nat.le_refl _) C1.out.size)
      have TUN:=TU.out N O9.out
      have FZ:=Lib.hid (show ∀x ∈ L.drop N++L.take N,Sz x∧rgtE x=true from fun x hx=>(List.mem_append.1 hx).elim (fun h=>⟨SZL.out x (List.mem_of_mem_drop h),RL.out x (List.mem_of_mem_drop h)⟩) (fun h=>⟨SZL.out x (List.mem_of_mem_take h),RL.out x (List.mem_of_mem_take h)⟩))
      generalize L.drop N++L.take N=RT at hG2 TUN FZ
      obtain ⟨Av2,cv2,hv2,-,-⟩:=hG2.own
      have hR2:=hG2.read rdEnt_good
      rw [hv2] at hR2
      have KN3:=Lib.hid (KN.out RT Av2 cv2 V2 C2.out hR2 (fun x hx=>(FZ.out x hx).1) (fun x hx=>(FZ.out x hx).2) TUN)
      subst hv2
      clear hG2 hg2 TUN FZ hR2 G1 X1 S1 C1
      refine hK.out _ _ trivial (fun hHeld=>?_)
      clear hK K
      try simp only [Act.put,List.setIfInBounds_toArray,List.set_cons_zero,List.set_cons_succ]
      refine wpAnyL_one (i:=10) (by kernel_rfl) rfl (fun K hK=>?_)
      go_simp
      refine KN3.out.mono ?_
      rintro e V3 ⟨⟨b3,rfl,hup3⟩,hb⟩
      have C3:=Lib.hid (bel_in C2.out hb)
      have U3:=Lib.hid hup3
      clear hb hup3 KN3
      go_wp2_with fail
      refine hK.out _ _ trivial (fun hHeld=>?_)
      clear hK K
      try simp only [Act.put,List.setIfInBounds_toArray,List.set_cons_zero,List.set_cons_succ]
      refine wpAnyL_take (i:=11) (v:=?_) [] rfl (by kernel_rfl) (by kernel_rfl) (by kernel_rfl) (fun _ _ _ h=>h) (by kernel_rfl) (by kernel_rfl) (by kernel_rfl) (Or.inl ⟨by rfl,?_⟩) (by assumption) ?_
      rotate_left
      ·intro w hSw
       try dsimp only at hSw
       go_simp
       first|done|with_reducible rfl
      try simp only [Act.put,List.setIfInBounds_toArray,List.set_cons_zero,List.set_cons_succ]
      refine wpAnyL_take (i:=12) (v:=?_) [] rfl (by kernel_rfl) (by kernel_rfl) (by kernel_rfl) (fun _ _ _ h=>h) (by kernel_rfl) (by kernel_rfl) (by kernel_rfl) (Or.inl ⟨by rfl,?_⟩) (by assumption) ?_
      rotate_left
      ·intro w hSw
       try dsimp only at hSw
       go_simp
       first|done|with_reducible rfl
      try simp only [Act.put,List.setIfInBounds_toArray,List.set_cons_zero,List.set_cons_succ]
      refine wpAnyL_take (i:=13) (v:=?_) [] rfl (by kernel_rfl) (by kernel_rfl) (by kernel_rfl) (fun _ _ _ h=>h) (by kernel_rfl) (by kernel_rfl) (by kernel_rfl) (Or.inl ⟨by rfl,?_⟩) (by assumption) ?_
      rotate_left
      ·intro w hSw
       try dsimp only at hSw
       go_simp
       first|done|with_reducible rfl
      try simp only [Act.put,List.setIfInBounds_toArray,List.set_cons_zero,List.set_cons_succ]
      refine wpAnyL_one (i:=14) (by kernel_rfl) rfl (fun K hK=>?_)
      go_simp
      refine hK.out _ _ trivial (fun hHeld=>?_)
      clear hK K
      try simp only [Act.put,List.setIfInBounds_toArray,List.set_cons_zero,List.set_cons_succ]
      refine wpAnyL_last (by kernel_rfl) rfl (by kernel_rfl) (fun K hK=>?_)
      go_simp
      refine hK.out _ _ ?_
      clear hK K
      refine NoPanic.normal ?_
      go_wp2_with fail
      refine (KE.out b V3 (HU.out V3 C3.out)).mono ?_
      rintro e V4 ⟨⟨Ax,cx9,rfl,hrx⟩,hb⟩
      have C4:=Lib.hid (bel_in C3.out hb)
      have U4:=Lib.hid (U3.out.below hb)
      have RX:=Lib.hid hrx
      clear hb hrx
      go_wp2_with fail
      refine (KE.out b3 V4 U4.out).mono ?_
      rintro e V5 ⟨⟨Ay,cy9,rfl,hry⟩,hb⟩
      have C5:=Lib.hid (bel_in C4.out hb)
      have KSX:=Lib.hid (KS.out Ax cx9 Ay cy9 V5 (rdEnts_good.up (rdEnts_good.below RX.out hb) hb.size) hry)
      clear hb hry RX
      go_wp2_with fail
      refine KSX.out.mono ?_
      rintro e V6 ⟨rfl,hb⟩
      have C6:=Lib.hid (bel_in B3.out (bel_in C5.out hb))
      clear hb KSX
      go_wp2
      go_ret
      exact ⟨rfl,C6.out⟩
end Go.Proofs.YtoopkofekekmoaaGreatDoor
