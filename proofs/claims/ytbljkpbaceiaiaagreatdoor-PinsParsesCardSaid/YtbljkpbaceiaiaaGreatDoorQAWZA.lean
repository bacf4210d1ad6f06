/- What the laws rest on: S5f, S5g, E8h. -/
import Derived.Test.YtbljkpbaceiaiaaGreatDoorQAVZA
set_option maxRecDepth 100000
set_option linter.unusedVariables false
set_option linter.unusedSimpArgs false
namespace Go.Proofs.YtbljkpbaceiaiaaGreatDoor
open Go.RowKit
theorem lnER_low {t:RS} {l:List Nat} (h:lowB l=true):lnER t l=5:=by unfold lnER;rw [if_pos h]
theorem lnER_go {t:RS} {r:List Nat} (h:lowB (32::r)=false):lnER t (32::r)=if (!t.o||decide (r=[]))=true then 5 else 0:=by
 unfold lnER
 rw [if_neg (by rw [h];decide)];rfl
theorem lnER_beg {t:RS} {c:Nat} {r:List Nat} (h:lowB (c::r)=false) (hc:c≠32):lnER t (c::r)=begER t (c::r):=by
 unfold lnER
 rw [if_neg (by rw [h];decide)]
 simp only
 rw [if_neg hc]
theorem lnSR_beg {t:RS} {c:Nat} {r:List Nat} (hc:c≠32):lnSR t (c::r)=begSR t (c::r):=by
 unfold lnSR begSR
 simp only
 rw [if_neg hc]
theorem lnSR_go (t:RS) (r:List Nat):lnSR t (32::r)=⟨setLast t.l (setLast (lastD t.l) (addV ((lastD t.l).getLastD ⟨mk [],mk []⟩) r)),t.o⟩:=rfl
theorem RdR.shut {w:World} {N r:Nat} {t:RS} (hR:RdR w N r t) (hr:r < N):RdR (w.setCell ⟨r,1,none⟩ (.bool false)) N r ⟨t.l,false⟩:=by
 obtain ⟨v,c0,hG⟩:=hR.g
 exact ⟨by rw [World.frozen?_setCell];exact hR.f0,by rw [World.frozen?_setCell];exact hR.f1,World.cell?_setCell_same' _ _ _ (by rw [hR.c1];rfl),v,by rw [World.cell?_setCell_other _ _ _ _ (by simp)];exact c0,
  hG.setCell rdFds_good (p:=⟨r,1,none⟩) hr (by simp only;omega) (.bool false)⟩
set_option maxHeartbeats 4000000 in
theorem q5line_any (s:ByteArray) (t:RS) (N r:Nat) (w:World) (hs:s.size≤65536) (hR:RdR w N r t) (hr:r < N) (hN:N≤w.heap.size) (hne:t.o=true→t.l≠[]∧lastD t.l≠[]) (hl:t.l.length≤200) (hll:(lastD t.l).length≤40) (hv:∀f ∈ lastD t.l,f.v.size≤200000) :
  Calls Tryz.prog 49 #[.pointer (some ⟨r,0,none⟩),.string s] w fun e w'=>e=.returned (.int .i64 (lnER t (B s)))∧(lnER t (B s)=0→RdR w' N r (lnSR t (B s)))∧Fr N r w w':=by
 have hlen:=B_len s
 have KC:=Lib.hid (fun w=>q5clean_any s w (by unfold maxLen;omega))
 have KB:=Lib.hid (q5begins_any s t N r w hs hR hr hN (fun h=>(hne h).1) hl hll)
 have HR:=Lib.hid hR
 have HNE:=Lib.hid hne
 have HV:=Lib.hid hv
 clear hR hne hv
 cases hlow:lowB (B s)
 ·rw [hlow] at KC
  have em:=emp_eq s
  by_cases h0:B s=[]
  ·rw [decide_eq_true h0] at em
   have X:=Lib.hid (show lnER t (B s)=0 by rw [h0];rfl)
   have X2:=Lib.hid (show lnSR t (B s)=⟨t.l,false⟩ by rw [h0];rfl)
   obtain ⟨f0,f1,c1,v,c0,hG⟩:=HR.out
   have RR:=Lib.hid (HR.out.shut hr)
   have FF:=Lib.hid ((Fr.refl N r w).set (p:=⟨r,1,none⟩) (.inl rfl) (Nat.le_of_lt hr) (.bool false))
   clear h0 hlow hG
   go_enter Tryz.func49,Tryz.ntmps49
   go_wp2_with (go_at_call 71;(with_reducible refine (KC.out _).mono ?_);rintro e w' ⟨rfl,rfl⟩)
   go_ret
   exact ⟨by rw [X.out];try rfl,fun _=>by rw [X2.out];exact RR.out,FF.out⟩
  ·rw [decide_eq_false h0] at em
   have hs0:0 < s.size:=by
    rcases Nat.eq_zero_or_pos s.size with h|h
    ·exact absurd (List.eq_nil_of_length_eq_zero (by rw [B_len];exact h)) h0
    ·exact h
   have hBc:=B_drop s 0 hs0
   rw [List.drop_zero] at hBc
   have hb:=byte_le s 0 hs0
   by_cases h32:s[0].toNat=32
   ·have p1:((s[0].toNat:Int) != 32)=false:=by rw [h32];rfl
    rw [h32] at hBc
    have X:=Lib.hid (show lnER t (B s)=if (!t.o||decide ((B s).drop (0+1)=[]))=true then 5 else 0 by
     conv=>lhs;rw [hBc]
     exact lnER_go (by rw [←hBc];exact hlow))
    have X2:=Lib.hid (show lnSR t (B s)=⟨setLast t.l (setLast (lastD t.l) (addV ((lastD t.l).getLastD ⟨mk [],mk []⟩) ((B s).drop (0+1)))),t.o⟩ by
     conv=>lhs;rw [hBc]
     exact lnSR_go _ _)
    clear h32 hBc h0 hlow
    skip
    cases ho:t.o
    ·have X3:=Lib.hid (show lnER t (B s)=5 by rw [X.out,ho];rfl)
     obtain ⟨f0,f1,c1,v,c0,hG⟩:=HR.out
     rw [ho] at c1
     clear ho hG c0
     go_enter Tryz.func49,Tryz.ntmps49
     go_wp2_with (go_at_call 71;(with_reducible refine (KC.out _).mono ?_);rintro e w' ⟨rfl,rfl⟩)
     go_ret
     exact ⟨by rw [X3.out];try rfl,fun h=>absurd h (by rw [X3.out];decide),Fr.refl _ _ _⟩
    ·have hne:=HNE.out ho
     obtain ⟨f0,f1,c1,v,c0,hG⟩:=HR.out
     rw [ho] at c1
     by_cases h1:s.size=1
     ·have X3:=Lib.hid (show lnER t (B s)=5 by
       rw [X.out,ho,List.drop_eq_nil_of_le (by rw [hlen];omega)];rfl)
      have q1:((s.size:Int)==1)=true:=by rw [h1];rfl
      clear ho hG c0 h1 hne
      go_enter Tryz.func49,Tryz.ntmps49
      go_wp2_with (go_at_call 71;(with_reducible refine (KC.out _).mono ?_);rintro e w' ⟨rfl,rfl⟩)
      go_ret
      exact ⟨by rw [X3.out];try rfl,fun h=>absurd h (by rw [X3.out];decide),Fr.refl _ _ _⟩
     ·have X3:=Lib.hid (show lnER t (B s)=0 by
       rw [X.out,ho,decide_eq_false (fun e=>by have:=congrArg List.length e;rw [List.length_drop,hlen] at this;simp only [List.length_nil] at this;omega)];rfl)
      have q1:((s.size:Int)==1)=false:=by rw [beq_eq_false_iff_ne];omega
      obtain ⟨fi,hi,hz0,hz1,hz2⟩:=info_parts fd_info
      obtain ⟨m,hmt⟩:∃m,t.l.length=m+1:=⟨t.l.length - 1,by have:=List.length_pos_iff.2 hne.1;omega⟩
      obtain ⟨p,hpt⟩:∃p,(lastD t.l).length=p+1:=⟨(lastD t.l).length - 1,by have:=List.length_pos_iff.2 hne.2;omega⟩
      obtain ⟨A,cp,rfl,hnc,hcm⟩:=hG.own
      have hcm':cp≤9223372036854775807:=hcm
      have hml:m < t.l.length:=by omega
      obtain ⟨ad,A',c',hA,had,cm,hrl⟩:=(rdStzs_at (hG.read rdFds_good)).2.2.2 m hml
      subst hA
      have hla:=lastD_at hmt
      rw [←hla] at cm hrl
      have hcl:=(rdFds_at hrl).2.1
      have hcm2:c'≤9223372036854775807:=(rdFds_at hrl).2.2.1
      have w1m:IntKind.i64.wrap ((t.l.length:Int) - 1)=(m:Int):=by rw [hmt];rw [IntWalk.i64_in _ (by omega)];omega
      have i2:(0:Int)≤(m:Int):=by omega
      have i3:(m:Int) < (t.l.length:Int):=by omega
      have w1p:IntKind.i64.wrap (((lastD t.l).length:Int) - 1)=(p:Int):=by rw [hpt];rw [IntWalk.i64_in _ (by omega)];omega
      have j2:(0:Int)≤(p:Int):=by omega
      have j3:(p:Int) < ((lastD t.l).length:Int):=by omega
      have hpl:p < (lastD t.l).length:=by omega
      have LG:=Lib.hid (show (lastD t.l).getLastD ⟨mk [],mk []⟩=(lastD t.l)[p] by
       rw [List.getLastD_eq_getLast?,List.getLast?_eq_getElem?,show (lastD t.l).length - 1=p by omega,List.getElem?_eq_getElem hpl];rfl)
      have SL:=Lib.hid (fun y=>(setLast_at (l:=lastD t.l) hpt y))
      have HVP:=Lib.hid (HV.out _ (List.getElem_mem hpl))
      have CM:=Lib.hid (And.intro cm (And.intro (hG.frz m) (hG.spot).2.2.1))
      have HMT:=Lib.hid hmt
      have AA:=Lib.hid (apA hrl)
      have hm1:([]:List Fd).length+(lastD t.l).length≤maxLen:=by simp only [List.length_nil];unfold maxLen;omega
      have hm2:(([]:List Fd).length+(lastD t.l).length)*32≤140737488355328:=by simp only [List.length_nil];omega
      have KS:=Lib.hid (fun (W:World) (hb:Below w.heap.size w W)=>(show W.cell? ⟨r,0,none⟩=some (.slice (some ad) t.l.length cp)∧W.cell? (ad.add m)=some (.slice A' (lastD t.l).length c') from
       ⟨(blk_of (hb.block r (by omega)) 0).1.trans c0,(World.cell?_of_block (w:=w) (w':=W) (a:=ad.add m) (by rw [blk_add];exact hb.block _ CM.out.2.2)).trans cm⟩))
      have BL:=Lib.hid hlen
      clear ho hG h1 hne hla hrl hmt hpt had hcm
      generalize hlast:lastD t.l=last at *
      have HLAST:=Lib.hid hlast
      clear hlast
      go_enter Tryz.func49,Tryz.ntmps49
      go_wp2_with (go_at_call 71;(with_reducible refine (KC.out _).mono ?_);rintro e w' ⟨rfl,rfl⟩)
      first|(go_region_held3 (fun W=>W.cell? ⟨r,0,none⟩=some (.slice (some ad) t.l.length cp)∧W.cell? (ad.add m)=some (.slice A' last.length c')) (first|go_keep|exact KS.out _ B3.out|exact KS.out _ AA.out.bel) ((refine step_growN _ rfl _ _ 47 47 rfl rdFd_good (by decide) (fun _=>True) w.heap.size 58 58 fi (.agg #[.string { data:=#[] },.string { data:=#[] }]) 32 Tryz.underlying47 Tryz.underlying47 hi hz0 hz1 hz2 rfl _ _ rfl AA.out.g _ _ _ _ _ rfl AA.out.x AA.out.s hm1 hm2 AA.out.bs ?_;intro v3 w3 hG3 hg3 hm3;have B3:=Lib.hid (ap_next AA.out hG3 hg3).2;have G3:=Lib.hid hG3;clear hG3 hg3 hm3)))|fail
      have G3':Grow rdFd 2 (fun _=>True) w3 w.heap.size 58 v3 last:=G3.out
      obtain ⟨A3,c3,rfl,hnc3,hcm3⟩:=G3'.own
      have hcm3':c3≤9223372036854775807:=hcm3
      obtain ⟨ad3,hA3,had3,x0,x1⟩:=(rdFds_at (G3'.read rdFd_good)).2.2.2 p hpl
      subst hA3
      obtain ⟨e0,hba,hbb,_,hfz⟩:=G3'.spot
      have fz:w3.frozen? ⟨(ad3.add (p*2)).block,(ad3.add (p*2)).off+1,none⟩=false:=by rw [blk_add];exact hfz _
      obtain ⟨y1,a1,q1',z1⟩:=add_out last[p].v { data:=#[10] } 200000 1 HVP.out (by decide)
      obtain ⟨y2,a2,q2',z2⟩:=add_out y1 (s.extract 1 s.size) 200001 65536 z1 (by rw [ByteArray.size_extract];omega)
      have hy:addV last[p] ((B s).drop (0+1))=⟨last[p].n,y2⟩:=by
       unfold addV
       congr 1
       refine (eq_mk ?_).symm
       rw [q2',q1',B_append,B_append,B_extract,List.take_of_length_le (by rw [List.length_drop,hlen];exact Nat.le_refl _),List.append_assoc];rfl
      have Y2:=Lib.hid hy
      obtain ⟨S1,S2⟩:=G3'.set rdFd_good hpl (j:=1) (by decide) (.string y2) ⟨last[p].n,y2⟩ (fun cs hcs=>by rw [show cs=last[p].cells from hcs];rfl)
      rw [←off2_add ad3 (p*2) 1 (by omega),SL.out] at S1
      have S1':=Lib.hid S1
      have B4:=Lib.hid (B3.out.setCell (p:=⟨(ad3.add (p*2)).block,(ad3.add (p*2)).off+1,none⟩) (by rw [blk_add];exact hba) (.string y2))
      have i4:(1:Int)≤(s.size:Int):=by omega
      have KS3:=KS.out _ B3.out
      obtain ⟨k0,k1⟩:=KS3
      clear hy q1' q2' S1 S2 e0 hfz G3'
      go_wp2
      go_still_tail 17,(by kernel_rfl)
      go_wp2
      obtain ⟨W5,hW5⟩:∃W5,W5=(w3.setCell ⟨(ad3.add (p*2)).block,(ad3.add (p*2)).off+1,none⟩ (.string y2)).drew:=⟨_,rfl⟩
      have hB5:Below w.heap.size w W5:=by rw [hW5];exact belD B4.out 1
      have hG5:Grow rdFd 2 (fun _=>True) W5 w.heap.size 58 (.slice (some ad3) last.length c3) (setLast last ⟨last[p].n,y2⟩):=by rw [hW5];exact S1'.out.below rdFd_good (belD (Below.refl _ _) 1)
      rw [←hW5]
      clear hW5 x0 x1 fz k0 k1 a1 a2
      obtain ⟨k0,k1⟩:=KS.out _ hB5
      have kf:=(World.frozen?_of_block (w:=w) (w':=W5) (a:=ad.add m) (by rw [blk_add];exact hB5.block _ CM.out.2.2)).trans CM.out.2.1
      have hrd:rdFds W5 (fun b=>w.heap.size≤b∧b < W5.heap.size) (setLast last ⟨last[p].n,y2⟩) [.slice (some ad3) last.length c3]:=by
       have h2:Grow rdFd 2 (fun _=>False) W5 w.heap.size 58 (.slice (some ad3) last.length c3) (setLast last ⟨last[p].n,y2⟩):=hG5.flat fun _ _ _ _ _ h=>h
       exact rdFds_good.more (h2.reads rdFd_good) fun b hb=>⟨hb.2.resolve_right id,hb.1⟩
      have FIN:=Lib.hid (RdR.setlast HR.out hr hN c0 HMT.out hB5 hrd)
      clear hG5 hrd
      go_wp2
      go_still_tail 12,(by kernel_rfl)
      go_wp2
      go_ret
      exact ⟨by rw [X3.out];try rfl,fun _=>by rw [X2.out,LG.out,Y2.out];exact FIN.out.1.below (belD (Below.refl _ _) 1) (by have:=hB5.size;simp;omega),FIN.out.2.drewN 1⟩
   ·have p1:((s[0].toNat:Int) != 32)=true:=by rw [bne_iff_ne];omega
    have X:=Lib.hid (show lnER t (B s)=begER t (B s) by rw [hBc];exact lnER_beg (by rw [←hBc];exact hlow) h32)
    have X2:=Lib.hid (show lnSR t (B s)=begSR t (B s) by rw [hBc];exact lnSR_beg h32)
    clear h32 hBc h0 hlow
    generalize begER t (B s)=eb at *
    go_enter Tryz.func49,Tryz.ntmps49
    go_wp2_with (first|(go_at_call 71;(with_reducible refine (KC.out _).mono ?_);rintro e w' ⟨rfl,rfl⟩)|(go_at_call 72;(with_reducible refine KB.out.mono ?_);rintro e w' ⟨rfl,hz,hfr⟩))
    go_ret
    exact ⟨by rw [X.out];try rfl,fun h=>by rw [X2.out];exact hz (by rw [←X.out];exact h),hfr⟩
 ·rw [hlow] at KC
  have X:=Lib.hid (lnER_low (t:=t) hlow)
  clear hlow
  go_enter Tryz.func49,Tryz.ntmps49
  go_wp2_with (go_at_call 71;(with_reducible refine (KC.out _).mono ?_);rintro e w' ⟨rfl,rfl⟩)
  go_ret
  exact ⟨by rw [X.out];try rfl,fun h=>absurd h (by rw [X.out];decide),Fr.refl _ _ _⟩
theorem mk_size5 (l:List Nat):(mk l).size=l.length:=by unfold mk ByteArray.size;simp
def SzR (t:RS) (c:Nat):Prop:=∀st ∈ t.l,st.length≤40∧∀f ∈ st,f.v.size≤c
theorem lastD_mem {l:List (List Fd)} (h:l≠[]):lastD l ∈ l:=by
 rcases List.eq_nil_or_concat l with rfl|⟨i,z,rfl⟩
 ·exact absurd rfl h
 ·rw [List.concat_eq_append];unfold lastD;simp
theorem mem_setLast {α:Type} {l:List α} {x y:α} (h:y ∈ setLast l x):y ∈ l∨y=x:=by
 unfold setLast at h
 rw [List.mem_append,List.mem_singleton] at h
 exact h.imp (fun h=>List.dropLast_subset _ h) id
theorem len_setLast {α:Type} {l:List α} (h:l≠[]) (x:α):(setLast l x).length=l.length:=by
 unfold setLast
 have:=List.length_pos_iff.2 h
 simp;omega
theorem sz_fd (l:List Nat):(fdOf l).v.size≤l.length:=by
 show (mk (vlOf l)).size≤_
 rw [mk_size5]
 unfold vlOf
 refine Nat.le_trans (List.dropWhile_sublist _).length_le ?_
 rw [List.length_drop];omega
theorem sz_line {t:RS} {l:List Nat} {c:Nat} (h:SzR t c) (ho:t.o=true→t.l≠[]∧lastD t.l≠[]) (h0:lnER t l=0):SzR (lnSR t l) (c+(l.length+1)):=by
 have up:∀st ∈ t.l,st.length≤40∧∀f ∈ st,f.v.size≤c+(l.length+1):=fun st hst=>⟨(h st hst).1,fun f hf=>Nat.le_trans ((h st hst).2 f hf) (by omega)⟩
 cases l with
 | nil=>exact up
 | cons b r=>
  unfold lnER at h0
  split at h0
  ·cases h0
  ·unfold lnSR
   simp only at h0 ⊢
   split at h0
   ·rename_i hc
    rw [if_pos hc]
    split at h0
    ·cases h0
    ·rename_i hg
     simp only [Bool.or_eq_true,Bool.not_eq_true',decide_eq_true_eq] at hg
     have hto:t.o=true:=by
      cases hh:t.o
      ·exact absurd (.inl hh) hg
      ·rfl
     obtain ⟨h1,h2⟩:=ho hto
     intro st hst
     rcases mem_setLast hst with hst|rfl
     ·exact up st hst
     ·obtain ⟨u1,u2⟩:=up _ (lastD_mem h1)
      refine ⟨by rw [len_setLast h2];exact u1,fun f hf=>?_⟩
      rcases mem_setLast hf with hf|rfl
      ·exact u2 f hf
      ·have hm:(lastD t.l).getLastD ⟨mk [],mk []⟩ ∈ lastD t.l:=by
        rcases List.eq_nil_or_concat (lastD t.l) with e|⟨i,z,e⟩
        ·exact absurd e h2
        ·rw [e,List.concat_eq_append];simp
       have:=(h _ (lastD_mem h1)).2 _ hm
       show (mk _).size≤_
       rw [mk_size5,List.length_append,B_len,List.length_cons]
       simp only [List.length_cons]
       omega
   ·rename_i hc
    rw [if_neg hc]
    have hf:=sz_fd (b::r)
    by_cases hto:t.o=true
    ·rw [if_pos hto]
     obtain ⟨h1,h2⟩:=ho hto
     have h40:(lastD t.l).length < 40:=by
      unfold begER at h0
      split at h0
      ·split at h0
       ·cases h0
       ·split at h0
        ·cases h0
        ·omega
      ·cases h0
     intro st hst
     rcases mem_setLast hst with hst|rfl
     ·exact up st hst
     ·refine ⟨by simp;omega,fun f hff=>?_⟩
      rw [List.mem_append,List.mem_singleton] at hff
      rcases hff with hff|rfl
      ·exact (up _ (lastD_mem h1)).2 f hff
      ·omega
    ·rw [if_neg hto]
     intro st hst
     simp only [List.mem_append,List.mem_singleton] at hst
     rcases hst with hst|rfl
     ·exact up st hst
     ·exact ⟨by simp,fun f hff=>by rw [List.mem_singleton.1 hff];omega⟩
def sumL (L:List (List Nat)):Nat:=(L.map fun l=>l.length+1).sum
theorem sumL_cons (l:List Nat) (r:List (List Nat)):sumL (l::r)=(l.length+1)+sumL r:=by unfold sumL;simp
theorem sumL_cut (c:Nat):∀l:List Nat,sumL (cutBy c l)=l.length+1
 | []=>rfl
 | x::l=>by
  have ih:=sumL_cut c l
  unfold cutBy
  split
  ·rw [sumL_cons,ih,List.length_cons,show ([]:List Nat).length=0 from rfl];omega
  ·cases hL:cutBy c l with
   | nil=>exact absurd hL (cutBy_ne _ _)
   | cons q r=>
    rw [hL,sumL_cons] at ih
    show sumL (([x]++q)::r)=_
    rw [sumL_cons]
    rw [List.length_append,List.length_cons,List.length_cons,show ([]:List Nat).length=0 from rfl]
    omega
theorem twin_open {p:PS} {t:RS} (hF:Fit p) (hT:Twin p t):t.l.length≤200∧(t.o=true→t.l≠[]∧lastD t.l≠[]):=by
 obtain ⟨h1,h2⟩:=hT
 refine ⟨by rw [h1];exact fin_len p hF,fun ho=>?_⟩
 rw [h2] at ho
 have hne:p.op≠[]:=by simpa using ho
 have e:p.fin.dn=p.dn++[p.op.map clF]:=by unfold PS.fin;rw [if_neg hne]
 rw [h1,e]
 refine ⟨by simp,?_⟩
 unfold lastD
 simp [hne]
theorem rnER_ok {s:RS} {l:List Nat} (h0:lnER s l=0) (r:List (List Nat)):rnER s (l::r)=rnER (lnSR s l) r:=by
 show (if lnER s l=0 then rnER (lnSR s l) r else lnER s l)=_
 rw [if_pos h0]
theorem rnER_no {s:RS} {l:List Nat} (h0:lnER s l≠0) (r:List (List Nat)):rnER s (l::r)=lnER s l:=by
 show (if lnER s l=0 then rnER (lnSR s l) r else lnER s l)=_
 rw [if_neg h0]
theorem rnNR_ok {s:RS} {l:List Nat} (h0:lnER s l=0) (k:Nat) (r:List (List Nat)):rnNR s k (l::r)=rnNR (lnSR s l) (k+1) r:=by
 show (if lnER s l=0 then rnNR (lnSR s l) (k+1) r else k+1)=_
 rw [if_pos h0]
theorem rnNR_no {s:RS} {l:List Nat} (h0:lnER s l≠0) (k:Nat) (r:List (List Nat)):rnNR s k (l::r)=k+1:=by
 show (if lnER s l=0 then rnNR (lnSR s l) (k+1) r else k+1)=_
 rw [if_neg h0]
set_option maxHeartbeats 4000000 in
theorem q5parse_any (s:ByteArray) (w:World) (hs:s.size≤maxLen) :
  Calls Tryz.prog 28 #[.string s] w fun e w'=>(∃v,e=.returned (.tuple #[v,.int .i64 (stN (B s)),.int .i64 (stE (B s))])∧rdStzs w' (lt_ w'.heap.size) (stL (B s)) [v])∧Below w.heap.size w w':=by
 unfold maxLen at hs
 have hlen:=B_len s
 by_cases hbig:60000 < s.size
 ·have p0:(60000:Int) < (s.size:Int):=by omega
  have X1:=Lib.hid (show stE (B s)=9 by unfold stE;rw [if_pos (by rw [hlen];exact hbig)])
  have X2:=Lib.hid (show stN (B s)=0 by unfold stN;rw [if_pos (by rw [hlen];exact hbig)])
  have X3:=Lib.hid (show stL (B s)=[] by unfold stL;rw [if_neg (by rw [X1.out];decide)])
  clear hbig
  go_enter Tryz.func28,Tryz.ntmps28
  go_wp2
  go_ret3
  exact ⟨⟨_,by rw [X1.out,X2.out];rfl,by rw [X3.out];exact rdRow_nil _ _⟩,Below.refl _ _⟩
 ·have p0:¬(60000:Int) < (s.size:Int):=by omega
  have XE:=Lib.hid (show stE (B s)=rnE ps0 (cutBy 10 (B s)) by unfold stE;rw [if_neg (by rw [hlen];exact hbig)])
  have XN:=Lib.hid (show stN (B s)=rnN ps0 0 (cutBy 10 (B s)) by unfold stN;rw [if_neg (by rw [hlen];exact hbig)])
  obtain ⟨tw1,tw2,tw3⟩:=twin_run (cutBy 10 (B s)) ps0 ⟨[],false⟩ 0 (fun l hl c hc=>B_lt s c (cutBy_mem hl c hc).1) fit0 twin0
  have XL:=Lib.hid (show stE (B s)=0→stL (B s)=(rnSR ⟨[],false⟩ (cutBy 10 (B s))).l from fun h=>by
   unfold stL;rw [if_pos h,tw3 (by rw [←XE.out];exact h)])
  have XL0:=Lib.hid (show stE (B s)≠0→stL (B s)=[] from fun h=>by unfold stL;rw [if_neg h])
  have hsum:=sumL_cut 10 (B s)
  have hb256:=Lib.hid (fun l (hl:l ∈ cutBy 10 (B s)) c hc=>B_lt s c (cutBy_mem hl c hc).1)
  rw [←tw1] at XE
  rw [←tw2] at XN
  rw [hlen] at hsum
  have KL:=Lib.hid (fun w=>q5lines_any s w (by omega))
  clear tw1 tw2 tw3 hbig
  generalize stE (B s)=ee at *
  generalize stN (B s)=nn at *
  generalize stL (B s)=ll at *
  generalize cutBy 10 (B s)=L at *
  go_enter Tryz.func28,Tryz.ntmps28
  go_wp2_with fail
  refine (KL.out _).mono ?_
  rintro e w2 ⟨⟨A,n,cp,rfl,hrd⟩,hb2⟩
  obtain ⟨rfl,hnc,hcm,_⟩:=rdStrs_at hrd
  have hcm':cp≤9223372036854775807:=hcm
  have hz2:=hb2.size
  rw [World.size_alloc] at hz2
  have HB2:=Lib.hid (((Below.refl w.heap.size w).alloc (Nat.le_refl _) (Obj.cells #[Value.slice none 0 0,Value.bool false] 79)).trans (hb2.mono (by simp)))
  have hRR:RdR w2 w2.heap.size w.heap.size ⟨[],false⟩:=by
   obtain ⟨a0,a1⟩:=blk_of (hb2.block w.heap.size (by simp)) 0
   obtain ⟨a2,a3⟩:=blk_of (hb2.block w.heap.size (by simp)) 1
   exact ⟨a1.trans (by simp [go_sem]),a3.trans (by simp [go_sem]),a2.trans (by simp [go_sem]),_,a0.trans (by simp [go_sem]),Grow.nil _ _ _ _⟩
  have HRD:=Lib.hid (rdStrs_good.more hrd (S':=fun b=>w.heap.size < b∧b < w2.heap.size) fun b hb=>⟨by have:=hb.1;rw [World.size_alloc] at this;omega,hb.2⟩)
  have HR0:=Lib.hid hRR
  clear hrd hb2 hRR hcm
  go_wp2
  go_loopw [7,8] (fun i _ wr=>∃(k c:Nat) (p:PS) (t:RS),k≤L.length∧i=.int .i64 k∧Fit p∧Twin p t∧SzR t c∧c+sumL (L.drop k)≤60001∧rnER ⟨[],false⟩ L=rnER t (L.drop k)∧rnNR ⟨[],false⟩ 0 L=rnNR t k (L.drop k)∧rnSR ⟨[],false⟩ L=rnSR t (L.drop k)∧
   RdR wr w2.heap.size w.heap.size t∧Fr w2.heap.size w.heap.size w2 wr) (fun i _ _=>L.length - (intOf i).toNat)
  case atStart=>exact ⟨0,0,ps0,⟨[],false⟩,Nat.zero_le _,rfl,fit0,twin0,fun st hst=>by simp at hst,by rw [List.drop_zero];omega,rfl,rfl,rfl,HR0.out,Fr.refl _ _ _⟩
  case round=>
   obtain ⟨k,c,p,t,hk,rfl,hF,hT,hZ,hc,h1,h2,h3,hR,hfr⟩:=hrel
   have hzr:=hfr.bel.size
   have H1:=Lib.hid h1
   have H2:=Lib.hid h2
   have H3:=Lib.hid h3
   have HF:=Lib.hid hF
   have HT:=Lib.hid hT
   have HZ:=Lib.hid hZ
   have HR:=Lib.hid hR
   have HFR:=Lib.hid hfr
   obtain ⟨o1,o2⟩:=twin_open hF hT
   have O2:=Lib.hid o2
   clear h1 h2 h3 hF hT hZ hR hfr o2
   by_cases hlt:k < L.length
   ·have hst:=rdStrs_good.keep HRD.out (w':=wr) (fun b hb=>HFR.out.mid b hb.1 hb.2)
    obtain ⟨_,_,_,hat⟩:=rdStrs_at hst
    obtain ⟨ad,x,rfl,had,hcx,hBx⟩:=hat k hlt
    have hdr:=List.drop_eq_getElem_cons hlt
    have DR:=Lib.hid hdr
    rw [hdr,sumL_cons] at hc
    have hxs:x.size≤65536:=by rw [←B_len,hBx];omega
    have KX:=Lib.hid (q5line_any x t w2.heap.size w.heap.size wr hxs HR.out (by omega) hzr (fun h=>O2.out h) o1 (by
      by_cases hn:t.l=[]
      ·rw [hn];simp [lastD]
      ·exact (HZ.out _ (lastD_mem hn)).1) (by
      by_cases hn:t.l=[]
      ·rw [hn];simp [lastD]
      ·exact fun f hf=>Nat.le_trans ((HZ.out _ (lastD_mem hn)).2 f hf) (by omega)))
    rw [hBx] at KX
    have HX:=Lib.hid hBx
    have HTE:=Lib.hid (twin_err HF.out HT.out L[k])
    have hmem:=List.getElem_mem hlt
    have HMM:=Lib.hid hmem
    clear hst hat hdr hBx hmem
    by_cases h0:lnER t L[k]=0
    ·have q0:(lnER t L[k] != 0)=false:=by rw [h0];rfl
     have E0:=Lib.hid h0
     have F2:=Lib.hid (fit_line HF.out (by rw [←HTE.out];exact h0))
     have T2:=Lib.hid (twin_line (hb256.out _ HMM.out) HF.out HT.out (by rw [←HTE.out];exact h0))
     have Z2:=Lib.hid (sz_line HZ.out (fun h=>O2.out h) h0)
     have S1:=Lib.hid (show rnER ⟨[],false⟩ L=rnER (lnSR t L[k]) (L.drop (k+1)) by rw [H1.out,DR.out,rnER_ok h0])
     have S2:=Lib.hid (show rnNR ⟨[],false⟩ 0 L=rnNR (lnSR t L[k]) (k+1) (L.drop (k+1)) by rw [H2.out,DR.out,rnNR_ok h0])
     have S3:=Lib.hid (show rnSR ⟨[],false⟩ L=rnSR (lnSR t L[k]) (L.drop (k+1)) by rw [H3.out,DR.out];rfl)
     have LL:=Lib.hid (show L[k].length=L[k].length from rfl)
     clear h0
     generalize hle:lnER t L[k]=le at *
     have HLE:=Lib.hid hle
     clear hle
     go_wp2_with (go_at_call 49;(with_reducible refine KX.out.mono ?_);rintro e w3 ⟨rfl,hz,hfr⟩)
     go_roundw
     case rel=>exact ⟨k+1,c+(L[k].length+1),_,_,by omega,by go_num,F2.out,T2.out,Z2.out,by omega,S1.out,S2.out,S3.out,hz E0.out,HFR.out.trans hfr⟩
     case measure=>simp [intOf];omega
    ·have q0:(lnER t L[k] != 0)=true:=by rw [bne_iff_ne];exact h0
     have S1:=Lib.hid (show ee=lnER t L[k] by rw [XE.out,H1.out,DR.out,rnER_no h0])
     have S2:=Lib.hid (show nn=k+1 by rw [XN.out,H2.out,DR.out,rnNR_no h0])
     have S3:=Lib.hid (show ll=[] from XL0.out (by rw [S1.out];exact h0))
     clear h0
     generalize lnER t L[k]=le at *
     go_wp2_with (go_at_call 49;(with_reducible refine KX.out.mono ?_);rintro e w3 ⟨rfl,hz,hfr⟩)
     go_ret3
     exact ⟨⟨_,by rw [S1.out,S2.out];rfl,by rw [S3.out];exact rdRow_nil _ _⟩,HB2.out.trans (HFR.out.trans hfr).bel⟩
   ·obtain rfl:k=L.length:=by omega
    have S1:=Lib.hid (show ee=0 by rw [XE.out,H1.out,List.drop_length];rfl)
    have S2:=Lib.hid (show nn=0 by rw [XN.out,H2.out,List.drop_length];rfl)
    have S3:=Lib.hid (show ll=t.l by rw [XL.out S1.out,H3.out,List.drop_length];rfl)
    obtain ⟨v,c0,hG⟩:=HR.out.g
    have GR:=Lib.hid (hG.read rdFds_good)
    clear hG
    go_wp2
    go_ret3
    exact ⟨⟨_,by rw [S1.out,S2.out];rfl,by rw [S3.out];exact GR.out⟩,HB2.out.trans HFR.out.bel⟩
theorem q5parse_sl (s:ByteArray) (w:World) (hs:s.size≤maxLen) :
  Calls Tryz.prog 28 #[.string s] w fun e w'=>(∃A n c,e=.returned (.tuple #[.slice A n c,.int .i64 (stN (B s)),.int .i64 (stE (B s))])∧rdStzs w' (lt_ w'.heap.size) (stL (B s)) [.slice A n c])∧Below w.heap.size w w':=
 (q5parse_any s w hs).mono fun e w' ⟨⟨v,h1,h2⟩,hb⟩=>by
  obtain ⟨A,c,hv,h3⟩:=id h2
  rw [List.cons.injEq] at hv
  obtain ⟨rfl,-⟩:=hv
  exact ⟨⟨_,_,_,h1,h2⟩,hb⟩
set_option maxHeartbeats 4000000 in
theorem q8parse_any (s:ByteArray) (w:World) (hs:s.size≤maxLen):Calls Tryz.prog 11 #[.string s] w (PaP w (paN (B s))):=by
 have KP:=Lib.hid (q5parse_sl s w hs)
 clear hs
 have X:=Lib.hid (show paN (B s)=if stE (B s)≠0 then (([]:List Pn),((stN (B s):Nat):Int),stE (B s)) else if 64 < (stL (B s)).length then (([]:List Pn),(0:Int),(8:Int)) else goN (stL (B s)) 0 [] from rfl)
 have HV:=Lib.hid (fun (h:stE (B s)=0) st (hs:st ∈ stL (B s)) nm=>(show (fstV st nm).size≤65536 from fst_size6 nm fun f hf=>Nat.le_trans (val_dW hs hf) (Nat.le_trans (stL_W _) (Nat.le_trans (stE_len h) (by decide)))))
 obtain ⟨fi,hi,hz0,hz1,hz2⟩:=info_parts pn_info
 generalize paN (B s)=R at *
 generalize stE (B s)=er at *
 generalize stN (B s)=ln at *
 generalize stL (B s)=L at *
 by_cases h0:er≠0
 ·have X1:=Lib.hid (show R=([],(ln:Int),er) from X.out.trans (if_pos h0))
  have t0:(er != 0)=true:=by rw [bne_iff_ne];exact h0
  clear h0 X
  go_enter Tryz.func11,Tryz.ntmps11
  go_wp2_with fail
  refine KP.out.mono ?_
  rintro e w1 ⟨⟨A,n,c,rfl,hr⟩,hb⟩
  have HB:=Lib.hid hb
  clear hr hb
  go_wp2
  go_ret3
  exact ⟨⟨none,0,0,by rw [X1.out];try rfl,by rw [X1.out];exact rdRow_nil _ _⟩,HB.out⟩
 have t0:(er != 0)=false:=by rw [bne_eq_false_iff_eq];exact Decidable.not_not.1 h0
 have HV:=Lib.hid (HV.out (Decidable.not_not.1 h0))
 have X:=Lib.hid (X.out.trans (if_neg h0))
 by_cases h64:64 < L.length
 ·have X1:=Lib.hid (show R=([],0,8) from X.out.trans (if_pos h64))
  have i8:(64:Int) < (L.length:Int):=by omega
  clear h0 h64 X
  go_enter Tryz.func11,Tryz.ntmps11
  go_wp2_with fail
  refine KP.out.mono ?_
  rintro e w1 ⟨⟨A,n,c,rfl,hr⟩,hb⟩
  obtain ⟨rfl,-,hcm,-⟩:=rdStzs_at hr
  have HB:=Lib.hid hb
  clear hr hb hcm
  go_wp2
  go_ret3
  exact ⟨⟨none,0,0,by rw [X1.out];try rfl,by rw [X1.out];exact rdRow_nil _ _⟩,HB.out⟩
 have X:=Lib.hid (X.out.trans (if_neg h64))
 have i8:¬(64:Int) < (L.length:Int):=by omega
 have H64:=Lib.hid (show L.length≤64 by omega)
 clear h0 h64
 go_enter Tryz.func11,Tryz.ntmps11
 go_wp2_with fail
 refine KP.out.mono ?_
 rintro e w1 ⟨⟨A,n,c,rfl,hr⟩,hb⟩
 obtain ⟨rfl,hnc,hcm,-⟩:=rdStzs_at hr
 have hcm':c≤9223372036854775807:=hcm
 have B1:=Lib.hid hb
 have HL:=Lib.hid hr
 clear hr hb hcm KP
 go_wp2
 go_loopg [8,9] L.length (fun kx u8 u28 wr=>∃(k:Nat) (out:List Pn),u28=.int .i64 k∧k≤L.length∧L.length - k≤kx∧Hid (out.length=k)∧Hid (R=goN (L.drop k) k out)∧Hid (Grow rdPn 3 (fun _=>True) wr w1.heap.size 30 u8 out)∧Hid (Below w1.heap.size w1 wr))
 case atStart=>exact ⟨0,[],rfl,Nat.zero_le _,Nat.le_refl _,Lib.hid rfl,Lib.hid X.out,Lib.hid (Grow.nil _ _ _ _),Lib.hid (Below.refl _ _)⟩
 case round=>
  obtain ⟨k,out,rfl,hk,hkx,HO,HR,HG,HB1⟩:=hrel
  have HB:=Lib.hid (B1.out.trans (HB1.out.mono B1.out.size))
  by_cases hlt:k < L.length
  ·obtain ⟨-,-,-,hat⟩:=rdStzs_at (rdStzs_good.up (rdStzs_good.below HL.out HB1.out) HB1.out.size)
   obtain ⟨ad,A',c',rfl,-,h0,h1⟩:=hat k hlt
   have i0:(0:Int)≤(k:Int):=by omega
   have i1:(k:Int) < (L.length:Int):=by omega
   have hk64:=H64.out
   have i2:(k:Int)≤64:=by omega
   have GA:=Lib.hid (HR.out.trans (goN_at hlt out))
   have KR:=Lib.hid (q8pin_any A' L[k].length c' L[k] wr h1 (HV.out _ (List.getElem_mem hlt)))
   clear hat h1
   generalize L[k]=st at *
   generalize hsx:rdN st=sx at *
   obtain ⟨er2,⟨xn,xx,xp⟩⟩:=sx
   clear hsx
   simp only [Pn.val] at GA KR
   go_wp2_with fail
   refine KR.out.mono ?_
   rintro e w2 ⟨rfl,hb⟩
   have V2:=Lib.hid hb
   clear hb h0 KR
   have U2:=Lib.hid (show Below wr.heap.size wr (w2.alloc (.cells #[.string xn,.string xx,.int .i64 xp] 30)) from V2.out.alloc V2.out.size _)
   by_cases hz:er2≠0
   ·have X1:=Lib.hid (show R=([],(k:Int)+1,er2) from GA.out.trans (if_pos hz))
    have t1:(er2==0)=false:=by rw [beq_eq_false_iff_ne];exact hz
    have t2:(er2 != 0)=true:=by rw [bne_iff_ne];exact hz
    have HB:=Lib.hid (HB.out.trans (U2.out.mono HB.out.size))
    clear hz GA
    go_wp2
    go_ret3
    exact ⟨⟨none,0,0,by rw [X1.out];try rfl,by rw [X1.out];exact rdRow_nil _ _⟩,HB.out⟩
   have NX:=Lib.hid (GA.out.trans (if_neg hz))
   obtain rfl:er2=0:=Decidable.not_not.1 hz
   clear hz GA
   obtain ⟨U,hU⟩:∃U,U=w2.alloc (.cells #[.string xn,.string xx,.int .i64 xp] 30):=⟨_,rfl⟩
   have c0:U.cell? ⟨w2.heap.size,0,none⟩=some (.string xn):=by rw [hU];simp [go_sem]
   have c1:U.cell? ⟨w2.heap.size,1,none⟩=some (.string xx):=by rw [hU];simp [go_sem]
   have c2:U.cell? ⟨w2.heap.size,2,none⟩=some (.int .i64 xp):=by rw [hU];simp [go_sem]
   rw [←hU] at U2
   have HU:=Lib.hid hU
   clear hU
   have W4:=Lib.hid (show Below w1.heap.size w1 U from HB1.out.trans (U2.out.mono HB1.out.size))
   have G4:=Lib.hid (HG.out.below rdPn_good U2.out)
   have hE:=(show rdPn U (fun b=>True∧b < U.heap.size∧u8.ownBlock≠some b) ⟨xn,xx,xp⟩ (#[.string xn,.string xx,.int .i64 xp]:Array Value).toList from rfl)
   have hn1:out.length+1≤maxLen:=by rw [HO.out];unfold maxLen;omega
   have hn2:(out.length+1)*40≤140737488355328:=by rw [HO.out];omega
   have hs4:w1.heap.size≤U.heap.size:=W4.out.size
   have LN:=Lib.hid (show (out++[(⟨xn,xx,xp⟩:Pn)]).length=k+1 by rw [List.length_append,HO.out];rfl)
   go_upto_region 13 with (fail)
   rw [←HU.out]
   go_wp2_with (at_builtin;refine wpList_grow1 U rfl _ _ 23 rfl rdPn_good (by decide) (fun _=>True) w1.heap.size 30 fi _ 40 Tryz.underlying23 hi hz0 hz1 hz2 rfl u8 _ rfl G4.out ⟨xn,xx,xp⟩ _ 30 hE _ rfl rfl hn1 hn2 hs4 ?_)
   intro v7 w7 hG7 hg7
   have HB7:=Lib.hid (grow_below G4.out hg7 W4.out (Nat.le_refl _) hs4)
   have G7:=Lib.hid hG7
   clear hG7 hg7 hE hn1 hn2 hs4 c0 c1 c2
   go_wp2
   go_roundg (L.length - (k+1))
   case measure=>omega
   case rel=>exact ⟨k+1,_,by go_num,by omega,Nat.le_refl _,LN,NX,G7,HB7⟩
  ·obtain rfl:k=L.length:=by omega
   have X1:=Lib.hid (show R=(out,0,0) from HR.out.trans (by rw [List.drop_length];rfl))
   clear HR
   obtain ⟨Au,cu,rfl,-,-⟩:=HG.out.own
   have RDD:=Lib.hid (HG.out.read rdPn_good)
   clear HG
   go_wp2
   go_ret3
   exact ⟨⟨_,_,_,by rw [X1.out];try rfl,by rw [X1.out];exact RDD.out⟩,HB.out⟩
end Go.Proofs.YtbljkpbaceiaiaaGreatDoor
