/- What the laws rest on: N9f, P6f, E8a, E8b, E8d, N8b, N8a, E8e. -/
import Derived.Test.YtpilmhoakopcaaaGreatDoorQAHZC
set_option maxRecDepth 100000
set_option linter.unusedVariables false
set_option linter.unusedSimpArgs false
namespace Go.Proofs.YtpilmhoakopcaaaGreatDoor
open Go.RowKit
abbrev zz9:Value:=.agg #[.slice none 0 0,.slice none 0 0]
abbrev MapN (w:World) (b n:Nat) (F:ByteArray→Value × Value):Prop:=MapF Tryz.prog 9 zz9 w b n (nmv F)
theorem bel_mid {N:Nat} {a b c:World} (h:Below N a b) (k:Below N a c) (hs:b.heap.size≤c.heap.size):Below N b c:=⟨k.os.trans h.os.symm,k.tape.trans h.tape.symm,k.output.trans h.output.symm,hs,fun q hq=>(k.block q hq).trans (h.block q hq).symm⟩
theorem MapN.look {w:World} {b n:Nat} {F:ByteArray→Value × Value} (h:MapN w b n F) (s:ByteArray) (hs:s.size≤1000000) {pv gv:Value} (hp:(F s).1=pv) (hg:(F s).2=gv) :
  (Instr.lookup 78 (.map (some b)) (.string s) false).run Tryz.prog w=.ok (.agg #[pv,gv]) w:=by
 rw [MapF.look h lawStr9 Tryz.underlying9 Tryz.underlying78 (zeroNm9 w) s (by unfold maxLen;omega)]
 unfold nmv
 rw [hp,hg]
set_option maxHeartbeats 16000000 in
theorem byName9_any (A:Option Addr) (n0 c:Nat) (L:List Ent) (w:World) (h:rdEnts w (lt_ w.heap.size) L [.slice A n0 c]) (hl:L.length≤64) (hp:∀x ∈ L,x.p.length≤1000∧x.n.size≤65536∧∀a ∈ gvs x,a.n.size≤65536) :
  Calls Tryz.prog 37 #[.slice A n0 c] w fun e w'=>e=.returned (.map (some w.heap.size))∧(∃F n,MapN w' w.heap.size n F∧NmS w' (w.heap.size+1) F (fun s=>ixU (isN s) L 0) (fun s=>gfU s L 0))∧Below w.heap.size w w':=by
 have hmm:=@run_makeMap Tryz.prog
 obtain ⟨rfl,hnc,hcm,-⟩:=rdEnts_at h
 have hcm':c≤9223372036854775807:=hcm
 obtain ⟨fi,hi,hz0,hz1,hz2⟩:=info_parts int9_info
 obtain ⟨fg,hj,hy0,hy1,hy2⟩:=info_parts gift_info
 have H:=Lib.hid h
 have HP:=Lib.hid hp
 clear h hcm hp
 go_enter Tryz.func37,Tryz.ntmps37
 go_wp2
 go_loopw [13] (fun i wr=>∃k:Nat,k≤L.length∧i=.int .i64 k∧(∃F n,n≤k*2000∧MapN wr w.heap.size n F∧NmS wr (w.heap.size+1) F (fun s=>ixU (isN s) (L.take k) 0) (fun s=>gfU s (L.take k) 0))∧Below w.heap.size w wr∧w.heap.size+1≤wr.heap.size) (fun i _=>L.length - (intOf i).toNat)
 case atStart=>exact ⟨0,Nat.zero_le _,rfl,⟨fun _=>(.slice none 0 0,.slice none 0 0),0,Nat.zero_le _,MapF.made w _ _ _,NmS.nil _ _⟩,(Below.refl _ _).alloc (Nat.le_refl _) _,by rw [World.size_alloc];exact Nat.le_refl _⟩
 case round=>
  obtain ⟨k,hk,rfl,⟨F,nn,hnn,hM,hN⟩,hbel,hsw⟩:=hrel
  have HB:=Lib.hid hbel
  by_cases hlt:k < L.length
  ·obtain ⟨-,-,-,hat⟩:=rdEnts_at (rdEnts_good.below H.out hbel)
   obtain ⟨ad,A1,c1,A2,c2,A3,c3,A4,c4,rfl,had,hv,h0,h1,h2,h3,h4,h5⟩:=hat k hlt
   have i0:(0:Int)≤(k:Int):=by omega
   have i1:(k:Int) < (L.length:Int):=by omega
   have HX:=Lib.hid hv
   have PX:=Lib.hid (HP.out L[k] (List.getElem_mem hlt))
   have STP:=Lib.hid (fun s=>ixU_take (n:=s) hlt)
   have STG:=Lib.hid (fun s=>gfU_take (n:=s) hlt)
   have LNP:=Lib.hid (fun s=>Nat.le_trans (ixU_len (p:=isN s) (L:=L.take k) (i:=0)) (List.length_take_le _ _))
   have LNG:=Lib.hid (fun s=>gfU_len (n:=s) (L:=L.take k) (i:=0) (m:=1000) (fun x hx=>(HP.out x (List.mem_of_mem_take hx)).1))
   have HK:=Lib.hid (show k≤63 by omega)
   clear had hat hv hbel
   generalize L[k]=x at *
   obtain ⟨n,v,d,r,c',p⟩:=x
   simp only at h0 h1 h2 h3 h4 h5
   have hns:n.size≤1000000:=by have:=PX.out.2.1;simp only at this;omega
   have hnm:n.size≤maxLen:=by unfold maxLen;omega
   obtain ⟨Axp,cp,hpv,-,-⟩:=(hN.p n).own
   obtain ⟨Axg,cg,hgv,-,-⟩:=(hN.g n).own
   have GP:=Lib.hid (hN.p n)
   rw [hpv] at GP
   obtain ⟨np,hnp⟩:∃m,m=(ixU (isN n) (L.take k) 0).length:=⟨_,rfl⟩
   obtain ⟨ng,hng⟩:∃m,m=(gfU n (L.take k) 0).length:=⟨_,rfl⟩
   rw [←hnp] at hpv GP
   rw [←hng] at hgv
   have hlp:(ixU (isN n) (L.take k) 0).length+1≤65:=by have:=LNP.out n;have:=HK.out;omega
   have HPL:=Lib.hid (STP.out n)
   generalize hplx:ixU (isN n) (L.take k) 0=lp at GP hlp HPL
   have HPX:=Lib.hid hplx
   clear hplx
   have hlk:=MapN.look (F:=F) (hM.kept (World.grownBy_alloc wr (.cells #[.string n,.string v,.slice A1 d.length c1,.slice A2 r.length c2,.slice A3 c'.length c3,.slice A4 p.length c4] 60) none) (by simp)) n hns hpv hgv
   have HPV:=Lib.hid hpv
   have HGV:=Lib.hid hgv
   have HNN:=Lib.hid hnn
   clear hpv hgv hnp hng hnn
   obtain ⟨W2,hW2⟩:∃W,W=(wr.alloc (.cells #[.string n,.string v,.slice A1 d.length c1,.slice A2 r.length c2,.slice A3 c'.length c3,.slice A4 p.length c4] 60)).alloc (.cells #[.slice Axp np cp,.slice Axg ng cg] 121):=⟨_,rfl⟩
   have b2:Below wr.heap.size wr W2:=by rw [hW2];exact ((Below.refl _ wr).alloc (Nat.le_refl _) _).alloc (by simp) _
   have s2:W2.heap.size=wr.heap.size+2:=by rw [hW2];simp
   have x0:W2.cell? ⟨wr.heap.size,0,none⟩=some (.string n):=by rw [hW2];simp [go_sem]
   have x1:W2.cell? ⟨wr.heap.size,1,none⟩=some (.string v):=by rw [hW2];simp [go_sem]
   have x2:W2.cell? ⟨wr.heap.size,2,none⟩=some (.slice A1 d.length c1):=by rw [hW2];simp [go_sem]
   have x3:W2.cell? ⟨wr.heap.size,3,none⟩=some (.slice A2 r.length c2):=by rw [hW2];simp [go_sem]
   have x4:W2.cell? ⟨wr.heap.size,4,none⟩=some (.slice A3 c'.length c3):=by rw [hW2];simp [go_sem]
   have x5:W2.cell? ⟨wr.heap.size,5,none⟩=some (.slice A4 p.length c4):=by rw [hW2];simp [go_sem]
   have y0:W2.cell? ⟨wr.heap.size+1,0,none⟩=some (.slice Axp np cp):=by rw [hW2];simp [go_sem]
   have y1:W2.cell? ⟨wr.heap.size+1,1,none⟩=some (.slice Axg ng cg):=by rw [hW2];simp [go_sem]
   have f0:W2.frozen? ⟨wr.heap.size+1,0,none⟩=false:=by rw [hW2];simp [go_sem]
   have HB2:=Lib.hid b2
   have HS2:=Lib.hid s2
   have GP2:=Lib.hid (GP.out.below rdInt_good b2)
   have HM:=Lib.hid (hM.kept (w':=W2) (row:=none) ⟨b2.os,b2.tape,b2.output,b2.size,fun q hq _=>b2.block q hq⟩ (by simp))
   have HN:=Lib.hid hN
   clear hM hN GP
   have hn1:lp.length+1≤maxLen:=by unfold maxLen;omega
   have hn2:(lp.length+1)*8≤140737488355328:=by omega
   have hbs:w.heap.size+1≤W2.heap.size:=by omega
   have HSW:=Lib.hid hsw
   clear hsw b2 s2
   go_wp2_with (at_builtin;rw [←hW2];refine wpList_grow1_at W2 rfl _ _ 25 rfl rdInt_good (by decide) (fun _=>True) (w.heap.size+1) 3 fi _ 8 Tryz.underlying25 hi hz0 hz1 hz2 rfl (.slice Axp np cp) lp rfl GP2.out (k:Int) _ 3 rfl (wr.heap.size+2) HS2.out.symm rfl hn1 hn2 hbs ?_)
   intro v1 w4 hG4 hg4 hm4
   rw [←hW2] at hg4 hm4
   obtain ⟨Axq,cq,hv1,-,-⟩:=hG4.own
   obtain ⟨nq,hnq⟩:∃m,m=(lp++[(k:Int)]).length:=⟨_,rfl⟩
   rw [←hnq] at hv1
   subst hv1
   have rowne:∀q,wr.heap.size≤q→(Value.slice Axp np cp).ownBlock≠some q:=fun q hq hh=>by
    have:=((HN.out.p n).lt q (by rw [HPV.out];exact hh)).2
    omega
   have rowge:∀q,(Value.slice Axp np cp).ownBlock=some q→w.heap.size+1≤q:=fun q hh=>((HN.out.p n).lt q (by rw [HPV.out];exact hh)).1
   have hsz4:wr.heap.size+2≤w4.heap.size:=by have:=hg4.size;have:=HS2.out;omega
   replace x0:=far9 hg4 (by have:=HS2.out;omega) (rowne _ (Nat.le_refl _)) x0
   replace x1:=far9 hg4 (by have:=HS2.out;omega) (rowne _ (Nat.le_refl _)) x1
   replace x2:=far9 hg4 (by have:=HS2.out;omega) (rowne _ (Nat.le_refl _)) x2
   replace x3:=far9 hg4 (by have:=HS2.out;omega) (rowne _ (Nat.le_refl _)) x3
   replace x4:=far9 hg4 (by have:=HS2.out;omega) (rowne _ (Nat.le_refl _)) x4
   replace x5:=far9 hg4 (by have:=HS2.out;omega) (rowne _ (Nat.le_refl _)) x5
   replace y0:=far9 (b:=wr.heap.size+1) hg4 (by have:=HS2.out;omega) (rowne (wr.heap.size+1) (Nat.le_succ _)) y0
   replace y1:=far9 (b:=wr.heap.size+1) hg4 (by have:=HS2.out;omega) (rowne (wr.heap.size+1) (Nat.le_succ _)) y1
   replace f0:=frz9 (b:=wr.heap.size+1) hg4 (by have:=HS2.out;omega) (rowne (wr.heap.size+1) (Nat.le_succ _)) f0
   obtain ⟨V,hV⟩:∃V,V=w4.setCell ⟨wr.heap.size+1,0,none⟩ (.slice Axq nq cq):=⟨_,rfl⟩
   have z0:V.cell? ⟨wr.heap.size,0,none⟩=some (.string n):=by rw [hV];simp [go_sem,x0]
   have z1:V.cell? ⟨wr.heap.size,1,none⟩=some (.string v):=by rw [hV];simp [go_sem,x1]
   have z2:V.cell? ⟨wr.heap.size,2,none⟩=some (.slice A1 d.length c1):=by rw [hV];simp [go_sem,x2]
   have z3:V.cell? ⟨wr.heap.size,3,none⟩=some (.slice A2 r.length c2):=by rw [hV];simp [go_sem,x3]
   have z4:V.cell? ⟨wr.heap.size,4,none⟩=some (.slice A3 c'.length c3):=by rw [hV];simp [go_sem,x4]
   have z5:V.cell? ⟨wr.heap.size,5,none⟩=some (.slice A4 p.length c4):=by rw [hV];simp [go_sem,x5]
   have t0:V.cell? ⟨wr.heap.size+1,0,none⟩=some (.slice Axq nq cq):=by rw [hV];simp [go_sem,y0,f0]
   have t1:V.cell? ⟨wr.heap.size+1,1,none⟩=some (.slice Axg ng cg):=by rw [hV];simp [go_sem,y1]
   have HMV:=Lib.hid (show MapN V w.heap.size nn F from by
    rw [hV]
    exact (HM.out.kept hg4 (fun e=>by have:=rowge _ e.symm;omega)).kept (grown_set w4 _ _) (fun e=>by injection e with e;have:=HSW.out;simp only at e;omega))
   have hVs:V.heap.size=w4.heap.size:=by rw [hV];simp
   have HG4:=Lib.hid hG4
   have Hg4:=Lib.hid hg4
   have Hm4:=Lib.hid hm4
   have ROW:=Lib.hid (And.intro rowne rowge)
   have hn4:nn < maxLen:=by have:=HNN.out;have:=HK.out;unfold maxLen;omega
   have HV:=Lib.hid hV
   clear x1 x2 x3 x4 x5 hG4 hg4 hm4 rowne rowge hnq hlk hW2
   go_wp2_with (at_mapUpdate;rw [←hV];refine wpList_mapUpdate_fn rfl _ _ _ rfl lawStr9 Tryz.underlying9 Tryz.underlying78 HMV.out rfl hn4 n (.agg #[.slice Axq nq cq,.slice Axg ng cg]) rfl rfl hnm ?_)
   intro w6 hM6 hg6
   rw [←hV] at hg6
   clear hV x0 y0 y1 f0 t0 t1
   have HM6:=Lib.hid (show MapN w6 w.heap.size (nn+1) (upd9 F n (.slice Axq nq cq,(F n).2)) from by
    show MapF Tryz.prog 9 zz9 w6 w.heap.size (nn+1) (nmv (upd9 F n (.slice Axq nq cq,(F n).2)))
    rw [nmv_upd]
    simp only
    rw [HGV.out]
    exact hM6)
   have HN6:=Lib.hid ((HN.out.stepP HB2.out HS2.out n HG4.out (by rw [HPV.out];exact Hg4.out) (by rw [HPV.out];exact Hm4.out) (Nat.lt_succ_self w.heap.size) (by rw [←HV.out];exact hg6)).cast (pl':=fun s=>ixU (isN s) (L.take (k+1)) 0) (gl':=fun s=>gfU s (L.take k) 0) (fun s=>by
    by_cases e:s=n
    ·subst e
     rw [upd9_same,STP.out,HPX.out]
     exact (if_pos rfl).symm
    ·rw [upd9_ne _ _ e,STP.out]
     exact (if_neg (fun q=>e q.symm)).symm) (fun s=>rfl))
   have BM6:=Lib.hid (step_below HB.out HB2.out Hg4.out (fun q hq=>Nat.le_of_succ_le (ROW.out.2 q hq)) (show (w4.setCell ⟨wr.heap.size+1,0,none⟩ (.slice Axq nq cq)).grownBy w6 (some w.heap.size) by rw [←HV.out];exact hg6) (Nat.le_refl _))
   have hs6:wr.heap.size+2≤w6.heap.size:=by have:=hg6.size;omega
   replace z0:=far9 hg6 (by omega) (fun e=>by injection e with e;have:=HSW.out;omega) z0
   replace z1:=far9 hg6 (by omega) (fun e=>by injection e with e;have:=HSW.out;omega) z1
   replace z2:=far9 hg6 (by omega) (fun e=>by injection e with e;have:=HSW.out;omega) z2
   replace z3:=far9 hg6 (by omega) (fun e=>by injection e with e;have:=HSW.out;omega) z3
   replace z4:=far9 hg6 (by omega) (fun e=>by injection e with e;have:=HSW.out;omega) z4
   replace z5:=far9 hg6 (by omega) (fun e=>by injection e with e;have:=HSW.out;omega) z5
   have KG:=Lib.hid (gives6_any ⟨n,v,d,r,c',p⟩ A1 c1 A2 c2 A3 c3 A4 c4 w6 ((HX.out.below (bel_mid HB.out BM6.out (by omega))).up BM6.out.size) PX.out.1)
   have SN6:=Lib.hid hs6
   clear hM6 hg6 HMV hVs HG4 Hg4 Hm4 ROW HV HM HN GP2 HB2 HS2 HPV HGV hn4 hsz4 hn1 hn2 hbs HPL HPX STP HX h0 h1 h2 h3 h4 h5 hlp LNP
   generalize hgx:gvs ⟨n,v,d,r,c',p⟩=g at *
   have HGX:=Lib.hid hgx
   clear hgx
   go_wp2_with fail
   refine KG.out.mono ?_
   rintro e w7 ⟨⟨Ah,ch,rfl,hr7⟩,hb7⟩
   obtain ⟨-,hnc7,hcm7,-⟩:=rdAtms_at hr7
   have hcm7':ch≤9223372036854775807:=hcm7
   have HR7:=Lib.hid hr7
   have HB7:=Lib.hid hb7
   clear hr7 hb7 hcm7 KG z0 z1 z2 z3 z4 z5
   obtain ⟨wo,rfl⟩:∃W,W=wr:=⟨_,rfl⟩
   go_wp2
   go_loopw [35] (fun i wr=>∃j:Nat,j≤g.length∧i=.int .i64 j∧(∃F' n',n'≤k*2000+1+j∧MapN wr w.heap.size n' F'∧NmS wr (w.heap.size+1) F' (fun s=>ixU (isN s) (L.take (k+1)) 0) (fun s=>gfU s (L.take k) 0++gfs1 s k (g.take j))∧Gap9 w6.heap.size w7.heap.size F')∧(∀q,w6.heap.size≤q→q < w7.heap.size→wr.heap[q]?=w7.heap[q]?)∧w7.heap.size≤wr.heap.size∧Below w.heap.size w wr) (fun i _=>g.length - (intOf i).toNat)
   case atStart=>exact ⟨0,Nat.zero_le _,rfl,⟨_,nn+1,by have:=HNN.out;omega,HM6.out.below HM6.out.lt HB7.out,(HN6.out.below HB7.out).cast (fun _=>rfl) (fun s=>(List.append_nil _).symm),HN6.out.gap _⟩,fun _ _ _=>rfl,Nat.le_refl _,BM6.out.trans (HB7.out.mono BM6.out.size)⟩
   case round=>
    clear HM6 HN6 BM6
    obtain ⟨j,hjl,rfl,⟨F',n',hn',hM',hN',hG'⟩,hmid,hsz7,hbi⟩:=hrel
    have HBI:=Lib.hid hbi
    have HMID:=Lib.hid hmid
    have HS7:=Lib.hid hsz7
    have HGP:=Lib.hid hG'
    have HN':=Lib.hid hn'
    have S67:=Lib.hid (show w6.heap.size≤w7.heap.size∧wo.heap.size+2≤w6.heap.size∧w.heap.size+1≤wo.heap.size from ⟨HB7.out.size,SN6.out,HSW.out⟩)
    clear hmid hG' hn' hbi
    by_cases hlt2:j < g.length
    ·obtain ⟨-,-,-,hat⟩:=rdAtms_at (rdAtms_good.keep HR7.out (fun b hb=>HMID.out b hb.1 hb.2))
     obtain ⟨ad2,rfl,had2,a0,a1,a2⟩:=hat j hlt2
     have i0:(0:Int)≤(j:Int):=by omega
     have i1:(j:Int) < (g.length:Int):=by omega
     have NS2:=Lib.hid (PX.out.2.2 g[j] (List.getElem_mem hlt2))
     have STJ:=Lib.hid (fun s=>gfs1_take (n:=s) (i:=k) hlt2)
     have LNJ:=Lib.hid (fun s=>show (gfs1 s k (g.take j)).length≤j from by unfold gfs1;rw [List.length_map];exact Nat.le_trans (List.length_filter_le _ _) (List.length_take_le _ _))
     have HJ:=Lib.hid (show j≤1000 by
      have e1:g.length=p.length+1:=by rw [←HGX.out];rfl
      have:=PX.out.1
      try simp only at this
      omega)
     clear had2 hat
     generalize g[j]=a at *
     obtain ⟨an,ao,av⟩:=a
     try simp only at a0 a1 a2
     have hns2:an.size≤1000000:=by have:=NS2.out;simp only at this;omega
     have hnm2:an.size≤maxLen:=by unfold maxLen;omega
     obtain ⟨Bp,dp,hpv,-,-⟩:=(hN'.p an).own
     obtain ⟨Bg,dg,hgv,-,-⟩:=(hN'.g an).own
     have GG:=Lib.hid (hN'.g an)
     rw [hgv] at GG
     have hlg:(gfU an (L.take k) 0++gfs1 an k (g.take j)).length≤200000:=by
      rw [List.length_append]
      have q1:=LNG.out an
      have q2:=LNJ.out an
      have q3:=HJ.out
      have q4:=HK.out
      have q5:(L.take k).length≤k:=List.length_take_le _ _
      have q6:(L.take k).length*(1000+1)≤63*1001:=Nat.mul_le_mul (Nat.le_trans q5 q4) (Nat.le_refl _)
      omega
     obtain ⟨mp,hmp⟩:∃m,m=(ixU (isN an) (L.take (k+1)) 0).length:=⟨_,rfl⟩
     obtain ⟨mg,hmg⟩:∃m,m=(gfU an (L.take k) 0++gfs1 an k (g.take j)).length:=⟨_,rfl⟩
     rw [←hmp] at hpv
     rw [←hmg] at hgv GG
     have hlk:=MapN.look (F:=F') (hM'.kept (World.grownBy_alloc wr (.cells #[.string an,.int .i64 ao,.string av] 100) none) (by simp)) an hns2 hpv hgv
     generalize hglx:gfU an (L.take k) 0++gfs1 an k (g.take j)=lg at GG hlg
     have HGL:=Lib.hid hglx
     have HPV:=Lib.hid hpv
     have HGV:=Lib.hid hgv
     clear hpv hgv hmp hmg hglx
     obtain ⟨W2,hW2⟩:∃W,W=(wr.alloc (.cells #[.string an,.int .i64 ao,.string av] 100)).alloc (.cells #[.slice Bp mp dp,.slice Bg mg dg] 121):=⟨_,rfl⟩
     have b2:Below wr.heap.size wr W2:=by rw [hW2];exact ((Below.refl _ wr).alloc (Nat.le_refl _) _).alloc (by simp) _
     have s2:W2.heap.size=wr.heap.size+2:=by rw [hW2];simp
     have x0:W2.cell? ⟨wr.heap.size,0,none⟩=some (.string an):=by rw [hW2];simp [go_sem]
     have x1:W2.cell? ⟨wr.heap.size,1,none⟩=some (.int .i64 ao):=by rw [hW2];simp [go_sem]
     have x2:W2.cell? ⟨wr.heap.size,2,none⟩=some (.string av):=by rw [hW2];simp [go_sem]
     have y0:W2.cell? ⟨wr.heap.size+1,0,none⟩=some (.slice Bp mp dp):=by rw [hW2];simp [go_sem]
     have y1:W2.cell? ⟨wr.heap.size+1,1,none⟩=some (.slice Bg mg dg):=by rw [hW2];simp [go_sem]
     have f0:W2.frozen? ⟨wr.heap.size+1,1,none⟩=false:=by rw [hW2];simp [go_sem]
     have HB2:=Lib.hid b2
     have HS2:=Lib.hid s2
     have GG2:=Lib.hid (GG.out.below rdGf_good b2)
     have HM:=Lib.hid (hM'.kept (w':=W2) (row:=none) ⟨b2.os,b2.tape,b2.output,b2.size,fun q hq _=>b2.block q hq⟩ (by simp))
     have HNI:=Lib.hid hN'
     clear hM' hN' GG
     have hn1:lg.length+1≤maxLen:=by unfold maxLen;omega
     have hn2:(lg.length+1)*48≤140737488355328:=by omega
     have hbs:w.heap.size+1≤W2.heap.size:=by have:=S67.out;omega
     clear b2 s2
     go_wp2_with (at_builtin;rw [←hW2];refine wpList_grow1_at W2 rfl _ _ 119 rfl rdGf_good (by decide) (fun _=>True) (w.heap.size+1) 124 fg _ 48 Tryz.underlying119 hj hy0 hy1 hy2 rfl (.slice Bg mg dg) lg rfl GG2.out ⟨(k:Int),⟨an,ao,av⟩⟩ _ 124 rfl (wr.heap.size+2) HS2.out.symm rfl hn1 hn2 hbs ?_)
     intro v1 w8 hG4 hg4 hm4
     rw [←hW2] at hg4 hm4
     obtain ⟨Bq,dq,hv1,-,-⟩:=hG4.own
     obtain ⟨mq,hmq⟩:∃m,m=(lg++[(⟨(k:Int),⟨an,ao,av⟩⟩:Gf)]).length:=⟨_,rfl⟩
     rw [←hmq] at hv1
     subst hv1
     have rowne:∀q,wr.heap.size≤q→(Value.slice Bg mg dg).ownBlock≠some q:=fun q hq hh=>by
      have:=((HNI.out.g an).lt q (by rw [HGV.out];exact hh)).2
      omega
     have rowge:∀q,(Value.slice Bg mg dg).ownBlock=some q→w.heap.size+1≤q:=fun q hh=>((HNI.out.g an).lt q (by rw [HGV.out];exact hh)).1
     have rowgap:∀q,w6.heap.size≤q→q < w7.heap.size→(Value.slice Bg mg dg).ownBlock≠some q:=fun q h1 h2 hh=>by
      have:=HGP.out an q (.inr (by rw [HGV.out];exact hh))
      omega
     have hsz4:wr.heap.size+2≤w8.heap.size:=by have:=hg4.size;have:=HS2.out;omega
     replace x0:=far9 hg4 (by have:=HS2.out;omega) (rowne _ (Nat.le_refl _)) x0
     replace x1:=far9 hg4 (by have:=HS2.out;omega) (rowne _ (Nat.le_refl _)) x1
     replace x2:=far9 hg4 (by have:=HS2.out;omega) (rowne _ (Nat.le_refl _)) x2
     replace y0:=far9 (b:=wr.heap.size+1) hg4 (by have:=HS2.out;omega) (rowne (wr.heap.size+1) (Nat.le_succ _)) y0
     replace y1:=far9 (b:=wr.heap.size+1) hg4 (by have:=HS2.out;omega) (rowne (wr.heap.size+1) (Nat.le_succ _)) y1
     replace f0:=frz9 (b:=wr.heap.size+1) hg4 (by have:=HS2.out;omega) (rowne (wr.heap.size+1) (Nat.le_succ _)) f0
     obtain ⟨V,hV⟩:∃V,V=w8.setCell ⟨wr.heap.size+1,1,none⟩ (.slice Bq mq dq):=⟨_,rfl⟩
     have HMV:=Lib.hid (show MapN V w.heap.size n' F' from by
      rw [hV]
      exact (HM.out.kept hg4 (fun e=>by have:=rowge _ e.symm;omega)).kept (grown_set w8 _ _) (fun e=>by injection e with e;have:=S67.out;simp only at e;omega))
     have hVs:V.heap.size=w8.heap.size:=by rw [hV];simp
     have HG4:=Lib.hid hG4
     have Hg4:=Lib.hid hg4
     have Hm4:=Lib.hid hm4
     have ROW:=Lib.hid (And.intro rowgap rowge)
     have hn4:n' < maxLen:=by have:=HN'.out;have:=HK.out;have:=HJ.out;unfold maxLen;omega
     have HV:=Lib.hid hV
     clear x1 x2 hG4 hg4 hm4 rowne rowge rowgap hmq hlk hW2
     go_wp2_with (at_mapUpdate;rw [←hV];refine wpList_mapUpdate_fn rfl _ _ _ rfl lawStr9 Tryz.underlying9 Tryz.underlying78 HMV.out rfl hn4 an (.agg #[.slice Bp mp dp,.slice Bq mq dq]) rfl rfl hnm2 ?_)
     intro w9 hM9 hg9
     rw [←hV] at hg9
     clear hV x0 y0 y1 f0
     have HM9:=Lib.hid (show MapN w9 w.heap.size (n'+1) (upd9 F' an ((F' an).1,.slice Bq mq dq)) from by
      show MapF Tryz.prog 9 zz9 w9 w.heap.size (n'+1) (nmv (upd9 F' an ((F' an).1,.slice Bq mq dq)))
      rw [nmv_upd]
      simp only
      rw [HPV.out]
      exact hM9)
     have HN9:=Lib.hid ((HNI.out.stepG HB2.out HS2.out an HG4.out (by rw [HGV.out];exact Hg4.out) (by rw [HGV.out];exact Hm4.out) (Nat.lt_succ_self w.heap.size) (by rw [←HV.out];exact hg9)).cast (pl':=fun s=>ixU (isN s) (L.take (k+1)) 0) (gl':=fun s=>gfU s (L.take k) 0++gfs1 s k (g.take (j+1))) (fun s=>rfl) (fun s=>by
      by_cases e:s=an
      ·subst e
       rw [upd9_same,STJ.out,←HGL.out,List.append_assoc]
       exact congrArg _ (if_pos rfl).symm
      ·rw [upd9_ne _ _ e,STJ.out]
       exact congrArg _ (if_neg (fun q=>e q.symm)).symm))
     have HP9:=Lib.hid (HGP.out.addG (W:=W2) (s:=an) (v':=.slice Bq mq dq) (by rw [HGV.out];exact Hm4.out) (by have:=HS2.out;have:=HS7.out;omega))
     have hg9':(w8.setCell ⟨wr.heap.size+1,1,none⟩ (.slice Bq mq dq)).grownBy w9 (some w.heap.size):=by rw [←HV.out];exact hg9
     have HMD:=Lib.hid (fun q (h1:w6.heap.size≤q) (h2:q < w7.heap.size)=>(step_mid HB2.out Hg4.out hg9' (by have:=HS7.out;omega) (ROW.out.1 q h1 h2) (by have:=S67.out;omega)).trans (HMID.out q h1 h2))
     have BM9:=Lib.hid (step_below HBI.out HB2.out Hg4.out (fun q hq=>Nat.le_of_succ_le (ROW.out.2 q hq)) hg9' (Nat.le_refl _))
     have HS9:=Lib.hid (show w7.heap.size≤w9.heap.size by have:=hg9.size;have:=HS7.out;omega)
     clear hM9 hg9 hg9' HMV hVs HG4 Hg4 Hm4 ROW HV HM HNI GG2 HB2 HS2 HPV HGV hn4 hsz4 hn1 hn2 hbs HGL STJ a0 a1 a2 HBI HMID HGP HS7
     go_wp2
     go_roundw
     case rel=>exact ⟨j+1,by omega,by go_num,⟨_,n'+1,by have:=HN'.out;omega,HM9.out,HN9.out,HP9.out⟩,HMD.out,HS9.out,BM9.out⟩
     case measure=>simp [intOf];omega
    ·obtain rfl:j=g.length:=by omega
     have HJ:=Lib.hid (show g.length≤1001 by
      have e1:g.length=p.length+1:=by rw [←HGX.out];rfl
      have:=PX.out.1
      try simp only at this
      omega)
     have HMI:=Lib.hid hM'
     have HNI:=Lib.hid (hN'.cast (pl':=fun s=>ixU (isN s) (L.take (k+1)) 0) (gl':=fun s=>gfU s (L.take (k+1)) 0) (fun _=>rfl) (fun s=>by rw [STG.out,List.take_length]))
     clear hM' hN' hsz7
     go_wp2
     go_roundw
     case rel=>exact ⟨k+1,by omega,by go_num,⟨F',n',by have:=HN'.out;have:=HJ.out;omega,HMI.out,HNI.out⟩,HBI.out,by have:=S67.out;have:=HS7.out;omega⟩
     case measure=>simp [intOf];omega
  ·obtain rfl:k=L.length:=by omega
   have HMI:=Lib.hid hM
   have HNI:=Lib.hid (hN.cast (pl':=fun s=>ixU (isN s) L 0) (gl':=fun s=>gfU s L 0) (fun s=>by rw [List.take_length]) (fun s=>by rw [List.take_length]))
   clear hM hN hbel
   go_wp2
   go_ret
   exact ⟨rfl,⟨F,nn,HMI.out,HNI.out⟩,HB.out⟩
def cmpB6 (a b:ByteArray):Int:=if Op.bytesLess a.toList b.toList=true then -1 else if Op.bytesLess b.toList a.toList=true then 1 else 0
theorem isNaN_any (a:ByteArray) (w:World):Calls Tryz.prog 146 #[.string a] w fun e w'=>e=.returned (.bool false)∧w=w':=by
 go_enter Tryz.func146,Tryz.ntmps146
 go_wp2
 go_ret
 exact ⟨by first|rfl|simp,rfl⟩
theorem cmpB6_is (a b:ByteArray):(a=b∧cmpB6 a b=0)∨(a≠b∧Op.bytesLess a.toList b.toList=true∧cmpB6 a b=-1)∨(a≠b∧Op.bytesLess a.toList b.toList=false∧cmpB6 a b=1):=by
 rcases blt_tot a b with h|h|h
 ·refine .inr (.inl ⟨fun e=>?_,h,if_pos h⟩)
  subst e;exact blt_self _ h
 ·have h':¬Op.bytesLess a.toList b.toList=true:=fun k=>blt_asym h k
  refine .inr (.inr ⟨fun e=>?_,Bool.eq_false_iff.2 h',by unfold cmpB6;rw [if_neg h',if_pos (show Op.bytesLess b.toList a.toList=true from h)]⟩)
  subst e;exact blt_self _ h
 ·subst h
  refine .inl ⟨rfl,?_⟩
  have h':¬Op.bytesLess a.toList a.toList=true:=fun k=>blt_self a k
  unfold cmpB6;rw [if_neg h',if_neg h']
set_option maxHeartbeats 2000000 in
theorem cmpB6_any (a b:ByteArray) (w:World):Calls Tryz.prog 120 #[.string a,.string b] w fun e w'=>e=.returned (.int .i64 (cmpB6 a b))∧w=w':=by
 have he:=str_eq a b
 rcases cmpB6_is a b with ⟨h,e⟩|⟨h,h1,e⟩|⟨h,h1,e⟩<;>rw [e]
 ·have h1:Op.bytesLess a.toList b.toList=false:=by rw [h];exact Bool.eq_false_iff.2 (blt_self _)
  rw [decide_eq_true h] at he
  clear h e
  go_enter Tryz.func120,Tryz.ntmps120
  go_wp2_with (go_at_call 146;(with_reducible refine (isNaN_any _ _).mono ?_);rintro e w' ⟨rfl,rfl⟩)
  go_ret
  exact ⟨rfl,rfl⟩
 ·rw [decide_eq_false h] at he
  clear h e
  go_enter Tryz.func120,Tryz.ntmps120
  go_wp2_with (go_at_call 146;(with_reducible refine (isNaN_any _ _).mono ?_);rintro e w' ⟨rfl,rfl⟩)
  go_ret
  exact ⟨rfl,rfl⟩
 ·rw [decide_eq_false h] at he
  clear h e
  go_enter Tryz.func120,Tryz.ntmps120
  go_wp2_with (go_at_call 146;(with_reducible refine (isNaN_any _ _).mono ?_);rintro e w' ⟨rfl,rfl⟩)
  go_ret
  exact ⟨rfl,rfl⟩
theorem lesB_or (x y:Ent):decide (orL [cmpB6 x.n y.n,orderV (B x.v) (B y.v),cmpB6 x.v y.v] < 0)=lesB x y:=by
 unfold lesB
 generalize orderV (B x.v) (B y.v)=o
 rcases cmpB6_is x.n y.n with ⟨h,e⟩|⟨h,b,e⟩|⟨h,b,e⟩
 ·rw [if_pos h,e]
  rcases Int.lt_trichotomy o 0 with ho|ho|ho
  ·have:orL [0,o,cmpB6 x.v y.v]=o:=by unfold orL;rw [if_neg (by decide)];unfold orL;rw [if_pos (by omega)]
   rw [this,decide_eq_true ho];rfl
  ·subst ho
   have:orL [0,0,cmpB6 x.v y.v]=cmpB6 x.v y.v:=by
    unfold orL;rw [if_neg (by decide)];unfold orL;rw [if_neg (by decide)];unfold orL
    split
    ·rfl
    ·rename_i h;simp only [ne_eq,Decidable.not_not] at h;rw [h];rfl
   rw [this]
   rcases cmpB6_is x.v y.v with ⟨h,e⟩|⟨h,b,e⟩|⟨h,b,e⟩
   ·rw [e]
    have:Op.bytesLess x.v.toList y.v.toList=false:=by rw [h];exact Bool.eq_false_iff.2 (blt_self _)
    rw [this];rfl
   ·rw [e,b];rfl
   ·rw [e,b];rfl
  ·have:orL [0,o,cmpB6 x.v y.v]=o:=by unfold orL;rw [if_neg (by decide)];unfold orL;rw [if_pos (by omega)]
   rw [this,decide_eq_false (by omega)]
   rw [beq_eq_false_iff_ne.2 (by omega)];rfl
 ·rw [if_neg h,e,b];rfl
 ·rw [if_neg h,e,b];rfl
abbrev Pn.val (a:Pn):Value:=.agg #[.string a.n,.string a.x,.int .i64 a.p]
def Pn.cells (a:Pn):List Value:=[.string a.n,.string a.x,.int .i64 a.p]
def rdPn:Rd Pn:=fun _ _ a cs=>cs=a.cells
theorem rdPn_good:Good rdPn 3:=⟨fun h _=>h,fun h _=>h,fun h _ _=>h,fun h=>by rw [h];rfl,fun h u hu=>by rw [h] at hu;simp [Pn.cells] at hu;rcases hu with rfl|rfl|rfl<;>rfl⟩
abbrev rdPns:Rd (List Pn):=rdRow 3 rdPn
theorem rdPns_good:Good rdPns 1:=rdRow_good rdPn_good
theorem rdPns_at {w:World} {S:Nat→Prop} {l:List Pn} {A:Option Addr} {n c:Nat} (h:rdPns w S l [.slice A n c]):n=l.length∧n≤c∧c≤maxLen∧∀k (hk:k < l.length),∃ad,A=some ad∧S ad.block∧
  w.cell? (ad.add (k*3))=some (.string l[k].n)∧w.cell? ⟨(ad.add (k*3)).block,(ad.add (k*3)).off+1,none⟩=some (.string l[k].x)∧w.cell? ⟨(ad.add (k*3)).block,(ad.add (k*3)).off+2,none⟩=some (.int .i64 l[k].p):=by
 obtain ⟨A',c',e,h1,h2,h⟩:=h
 simp only [List.cons.injEq,Value.slice.injEq,and_true] at e
 obtain ⟨rfl,rfl,rfl⟩:=e
 refine ⟨rfl,h1,h2,fun k hk=>?_⟩
 obtain ⟨ad,es,e,hS,hE,hl,hc⟩:=h k hk
 rw [show es=l[k].cells from hE] at hc
 exact ⟨ad,e,hS,hc 0 _ rfl,by rw [off_add ad (k*3) 1 (by omega)];exact hc 1 _ rfl,by rw [off_add ad (k*3) 2 (by omega)];exact hc 2 _ rfl⟩
def Bd8 (l:List Pn):Prop:=∀x ∈ l,-1099511627776≤x.p∧x.p≤1099511627776
theorem byt_no {p:Nat→Bool} {s:ByteArray} {k:Nat} (hk:k < s.size) (h:p s[k].toNat=false):(B s).all p=false:=by
 rw [Bool.eq_false_iff]
 intro ha
 have:=List.all_eq_true.1 ha s[k].toNat (List.mem_of_getElem? (B_at s k hk))
 rw [h] at this;cases this
theorem byt_yes {p:Nat→Bool} {s:ByteArray} (h:∀j,j < s.size→p ((B s).getD j 0)=true):(B s).all p=true:=by
 rw [List.all_eq_true]
 intro c hc
 obtain ⟨j,hj,e⟩:=List.getElem_of_mem hc
 rw [B_len] at hj
 have:=h j hj
 rwa [List.getD_eq_getElem?_getD,List.getElem?_eq_getElem (by rw [B_len];exact hj),e] at this
theorem star_eq (n:ByteArray):(n.toList==[42])=decide (n=star8):=by
 rw [sEqL n [42] [42] rfl (by decide),Bool.eq_iff_iff,decide_eq_true_iff,decide_eq_true_iff]
 exact ⟨fun h=>by rw [eq_mk h];rfl,fun h=>by rw [h];exact star_lt⟩
theorem vis_low {c:Nat} (h:c≤32):visB c=false:=by unfold visB;rw [decide_eq_false (by omega)];rfl
theorem vis_high {c:Nat} (h:127≤c):visB c=false:=by unfold visB;rw [decide_eq_false (p:=c < 127) (by omega),Bool.false_and,Bool.and_false]
theorem vis_star {c:Nat} (h:c=42):visB c=false:=by subst h;rfl
theorem vis_ok {c:Nat} (h1:¬c≤32) (h2:¬127≤c) (h3:¬c=42):visB c=true:=by unfold visB;rw [decide_eq_true (p:=32 < c) (by omega),decide_eq_true (p:=c < 127) (by omega),decide_eq_false h3];rfl
theorem mat_no {x:Pn} {nm v:ByteArray} (h1:¬x.n=nm) (h2:¬x.n=star8):matN x nm v=false:=by unfold matN;rw [decide_eq_false h1,decide_eq_false h2];rfl
theorem mat_yes {x:Pn} {nm v:ByteArray} (h:x.n=nm∨x.n=star8):matN x nm v=pfx8 x.x v:=by
 unfold matN
 rcases h with h|h
 ·rw [decide_eq_true h];rfl
 ·rw [decide_eq_true h,Bool.or_true];rfl
theorem map_inj8 {a b:List UInt8}:a.map UInt8.toNat=b.map UInt8.toNat↔a=b:=⟨fun h=>(List.map_inj_right (fun x y e=>UInt8.toNat_inj.1 e)).1 h,fun h=>by rw [h]⟩
theorem pfx_is (x v:ByteArray):Lib.hasPrefix v.data.toList x.data.toList=pfx8 x v:=by
 unfold Lib.hasPrefix pfx8 B
 rw [Bool.eq_iff_iff,decide_eq_true_iff,List.isPrefixOf_iff_prefix,List.prefix_iff_eq_take,List.length_map,←List.map_take,map_inj8]
 exact ⟨Eq.symm,Eq.symm⟩
theorem pfx_any (x v:ByteArray) (w:World):Calls Tryz.prog 155 #[.string v,.string x] w fun e w'=>e=.returned (.bool (pfx8 x v))∧w=w':=by
 refine (Tryz.strings_HasPrefix v x w).mono ?_
 rintro e w' ⟨rfl,rfl⟩
 exact ⟨by rw [←pfx_is],rfl⟩
set_option maxHeartbeats 2000000 in
theorem pmatch_any (x:Pn) (nm v:ByteArray) (w:World):Calls Tryz.prog 133 #[x.val,.string nm,.string v] w fun e w'=>e=.returned (.bool (matN x nm v))∧Below w.heap.size w w':=by
 obtain ⟨n,y,p⟩:=x
 have B1:=Lib.hid (bel_box w (.cells #[.string n,.string y,.int .i64 p] 70))
 have hst:=star_eq n
 have hnm:=str_eq n nm
 have NO:=Lib.hid (mat_no (x:=⟨n,y,p⟩) (nm:=nm) (v:=v))
 have YES:=Lib.hid (mat_yes (x:=⟨n,y,p⟩) (nm:=nm) (v:=v))
 have KH:=Lib.hid (fun W=>pfx_any y v W)
 generalize matN ⟨n,y,p⟩ nm v=R at *
 by_cases h1:n=nm
 ·have X:=Lib.hid (YES.out (.inl h1))
  rw [decide_eq_true h1] at hnm
  clear h1 hst
  simp only at X
  generalize pfx8 y v=q at *
  go_enter Tryz.func133,Tryz.ntmps133
  go_wp2_with fail
  refine (KH.out _).mono ?_
  rintro e w' ⟨rfl,rfl⟩
  go_wp2
  go_ret
  exact ⟨by rw [X.out];try rfl,B1.out⟩
 rw [decide_eq_false h1] at hnm
 by_cases h2:n=star8
 ·have X:=Lib.hid (YES.out (.inr h2))
  rw [decide_eq_true h2] at hst
  clear h1 h2
  simp only at X
  generalize pfx8 y v=q at *
  go_enter Tryz.func133,Tryz.ntmps133
  go_wp2_with fail
  refine (KH.out _).mono ?_
  rintro e w' ⟨rfl,rfl⟩
  go_wp2
  go_ret
  exact ⟨by rw [X.out];try rfl,B1.out⟩
 ·have X:=Lib.hid (NO.out h1 h2)
  rw [decide_eq_false h2] at hst
  clear h1 h2
  go_enter Tryz.func133,Tryz.ntmps133
  go_wp2
  go_ret
  exact ⟨by rw [X.out];try rfl,B1.out⟩
theorem ofName_any (x:Pn) (nm v:ByteArray) (w:World):Calls Tryz.prog 96 #[x.val,.string nm,.string v] w fun e w'=>e=.returned (.bool (hitN x nm v))∧Below w.heap.size w w':=by
 have KM:=Lib.hid (fun W=>pmatch_any x nm v W)
 have HX:=Lib.hid (hit_mat (x:=x) (nm:=nm) (v:=v))
 obtain ⟨n,y,p⟩:=x
 have B1:=Lib.hid (bel_box w (.cells #[.string n,.string y,.int .i64 p] 139))
 have hnm:=str_eq n nm
 simp only [Pn.val] at KM HX
 generalize matN ⟨n,y,p⟩ nm v=q at *
 generalize hitN ⟨n,y,p⟩ nm v=R at *
 by_cases h1:n=nm
 ·have X:=Lib.hid (show R=q by rw [←HX.out,decide_eq_true h1,Bool.true_and])
  rw [decide_eq_true h1] at hnm
  clear h1
  go_enter Tryz.func96,Tryz.ntmps96
  go_wp2_with fail
  refine (KM.out _).mono ?_
  rintro e w2 ⟨rfl,hb⟩
  have B2:=Lib.hid (bel_boxed hb)
  clear hb
  go_wp2
  go_ret
  exact ⟨by rw [X.out];try rfl,B2.out⟩
 ·have X:=Lib.hid (show R=false by rw [←HX.out,decide_eq_false h1,Bool.false_and])
  rw [decide_eq_false h1] at hnm
  clear h1
  go_enter Tryz.func96,Tryz.ntmps96
  go_wp2
  go_ret
  exact ⟨by rw [X.out];try rfl,B1.out⟩
theorem ofEvery_any (x:Pn) (nm v:ByteArray) (w:World):Calls Tryz.prog 97 #[x.val,.string nm,.string v] w fun e w'=>e=.returned (.bool (hitN x star8 v))∧Below w.heap.size w w':=by
 have KM:=Lib.hid (fun W=>pmatch_any x nm v W)
 have HX:=Lib.hid (hit_star (x:=x) (nm:=nm) (v:=v))
 obtain ⟨n,y,p⟩:=x
 have B1:=Lib.hid (bel_box w (.cells #[.string n,.string y,.int .i64 p] 139))
 have hst:=star_eq n
 simp only [Pn.val] at KM HX
 generalize matN ⟨n,y,p⟩ nm v=q at *
 generalize hitN ⟨n,y,p⟩ star8 v=R at *
 by_cases h1:n=star8
 ·have X:=Lib.hid (show R=q by rw [←HX.out,decide_eq_true h1,Bool.true_and])
  rw [decide_eq_true h1] at hst
  clear h1
  go_enter Tryz.func97,Tryz.ntmps97
  go_wp2_with fail
  refine (KM.out _).mono ?_
  rintro e w2 ⟨rfl,hb⟩
  have B2:=Lib.hid (bel_boxed hb)
  clear hb
  go_wp2
  go_ret
  exact ⟨by rw [X.out];try rfl,B2.out⟩
 ·have X:=Lib.hid (show R=false by rw [←HX.out,decide_eq_false h1,Bool.false_and])
  rw [decide_eq_false h1] at hst
  clear h1
  go_enter Tryz.func97,Tryz.ntmps97
  go_wp2
  go_ret
  exact ⟨by rw [X.out];try rfl,B1.out⟩
theorem must_any (g:Nat) (p:Pn→Bool) (nm v:ByteArray) (hcf:∀(args:Array Value) (w:World),(callFunc g args).run Tryz.prog w=.ok (.enter g args) w) (KG:∀(x:Pn) (W:World),Calls Tryz.prog g #[x.val,.string nm,.string v] W fun e w'=>e=.returned (.bool (p x))∧Below W.heap.size W w')
  (x:Pn) (q1 q2 q3:Addr) (w:World) (b1:q1.block < w.heap.size) (b2:q2.block < w.heap.size) (b3:q3.block < w.heap.size) (c1:w.cell? q1=some (.func (.func g) #[] #[])) (c2:w.cell? q2=some (.string nm)) (c3:w.cell? q3=some (.string v)) :
  Calls Tryz.prog 132 #[x.val,.pointer (some q1),.pointer (some q2),.pointer (some q3)] w fun e w'=>e=.returned (.bool (p x))∧Below w.heap.size w w':=by
 have K:=Lib.hid (KG x)
 obtain ⟨n,y,pr⟩:=x
 have B1:=bel_box w (.cells #[.string n,.string y,.int .i64 pr] 70)
 have d1:=(B1.cell b1).trans c1
 have d2:=(B1.cell b2).trans c2
 have d3:=(B1.cell b3).trans c3
 have HB:=Lib.hid B1
 simp only [Pn.val] at K
 generalize p ⟨n,y,pr⟩=R at *
 clear KG B1 b1 b2 b3 c1 c2 c3
 go_enter Tryz.func132,Tryz.ntmps132
 go_wp2_with fail
 refine (K.out _).mono ?_
 rintro e w2 ⟨rfl,hb⟩
 have B2:=Lib.hid (bel_boxed hb)
 clear hb
 go_wp2
 go_ret
 exact ⟨rfl,B2.out⟩
def ixQ {α:Type} (p:α→Bool):List α→Nat→Int
 | [],_=>-1
 | x::r,i=>if p x=true then i else ixQ p r (i+1)
theorem ixQ_at {α:Type} {p:α→Bool} {l:List α} {k:Nat} (hk:k < l.length):(p l[k]=true→ixQ p (l.drop k) k=k)∧(p l[k]=false→ixQ p (l.drop k) k=ixQ p (l.drop (k+1)) (k+1)):=by
 rw [List.drop_eq_getElem_cons hk]
 exact ⟨fun h=>if_pos h,fun h=>if_neg (by rw [h];simp)⟩
theorem ixQ_find {α:Type} {p:α→Bool}:∀(l:List α) (i:Nat),(l.find? p=none∧ixQ p l i=-1)∨∃k,∃hk:k < l.length,l.find? p=some l[k]∧ixQ p l i=((i+k:Nat):Int)
 | [],_=>.inl ⟨rfl,rfl⟩
 | x::r,i=>by
  by_cases h:p x=true
  ·exact .inr ⟨0,by simp,List.find?_cons_of_pos h,if_pos h⟩
  ·rw [List.find?_cons_of_neg h]
   rcases ixQ_find (p:=p) r (i+1) with ⟨a,b⟩|⟨k,hk,a,b⟩
   ·exact .inl ⟨a,(if_neg h).trans b⟩
   ·exact .inr ⟨k+1,by simp only [List.length_cons];omega,a,(if_neg h).trans (by rw [b];congr 1;omega)⟩
set_option maxHeartbeats 4000000 in
theorem ixPn_any (g:Nat) (cap:Array Value) (p:Pn→Bool) (A:Option Addr) (n c:Nat) (l:List Pn) (w:World) (hcf:∀(args:Array Value) (w:World),(callFunc g args).run Tryz.prog w=.ok (.enter g args) w) (h:rdPns w (lt_ w.heap.size) l [.slice A n c])
  (KP:∀(x:Pn) (W:World),Below w.heap.size w W→Calls Tryz.prog g (#[x.val]++cap) W fun e w'=>e=.returned (.bool (p x))∧Below W.heap.size W w') :
  Calls Tryz.prog 131 #[.slice A n c,.func (.func g) #[] cap] w fun e w'=>e=.returned (.int .i64 (ixQ p l 0))∧Below w.heap.size w w':=by
 obtain ⟨rfl,hnc,hcm,_⟩:=rdPns_at h
 have hcm':c≤9223372036854775807:=hcm
 have H:=Lib.hid h
 have HK:=Lib.hid KP
 clear h hcm KP
 go_enter Tryz.func131,Tryz.ntmps131
 go_wp2
 go_loopw [8] (fun i wr=>∃k:Nat,k≤l.length∧i=.int .i64 k∧ixQ p l 0=ixQ p (l.drop k) k∧Below w.heap.size w wr) (fun i _=>l.length - (intOf i).toNat)
 case atStart=>exact ⟨0,Nat.zero_le _,rfl,rfl,Below.refl _ _⟩
 case round=>
  obtain ⟨k,hk,rfl,h1,hbel⟩:=hrel
  have H1:=Lib.hid h1
  have HB:=Lib.hid hbel
  clear h1
  by_cases hlt:k < l.length
  ·obtain ⟨_,_,_,ha⟩:=rdPns_at (rdPns_good.below H.out hbel)
   obtain ⟨ad,rfl,had,g0,g1,g2⟩:=ha k hlt
   have CL:=Lib.hid (HK.out l[k] wr hbel)
   have PA:=Lib.hid (ixQ_at (p:=p) hlt)
   have i0:(0:Int)≤(k:Int):=by omega
   have i1:(k:Int) < (l.length:Int):=by omega
   clear ha hbel had
   generalize l[k]=x at *
   obtain ⟨xn,xx,xp⟩:=x
   simp only [Pn.val] at CL g0 g1 g2
   cases he:p ⟨xn,xx,xp⟩
   ·have X:=Lib.hid (PA.out.2 he)
    rw [he] at CL
    clear he
    go_wp2_with fail
    refine CL.out.mono ?_
    rintro e w' ⟨rfl,hb2⟩
    have HB2:=Lib.hid (bel2 HB.out hb2 (Nat.le_refl _))
    clear hb2
    go_wp2
    go_roundw
    case rel=>exact ⟨k+1,by omega,by go_num,by rw [H1.out,X.out],HB2.out⟩
    case measure=>simp [intOf];omega
   ·have X:=Lib.hid (PA.out.1 he)
    rw [he] at CL
    clear he
    go_wp2_with fail
    refine CL.out.mono ?_
    rintro e w' ⟨rfl,hb2⟩
    have HB2:=Lib.hid (bel2 HB.out hb2 (Nat.le_refl _))
    clear hb2
    go_wp2
    go_ret
    exact ⟨by rw [H1.out,X.out];try rfl,HB2.out⟩
  ·have X:=Lib.hid (show ixQ p l 0=-1 by rw [H1.out,List.drop_eq_nil_of_le (by omega)];rfl)
   go_wp2
   go_ret
   exact ⟨by rw [X.out];try rfl,HB.out⟩
set_option maxHeartbeats 2000000 in
theorem pfirst_any (g:Nat) (p:Pn→Bool) (nm v:ByteArray) (hcf:∀(args:Array Value) (w:World),(callFunc g args).run Tryz.prog w=.ok (.enter g args) w) (KG:∀(x:Pn) (W:World),Calls Tryz.prog g #[x.val,.string nm,.string v] W fun e w'=>e=.returned (.bool (p x))∧Below W.heap.size W w')
  (A:Option Addr) (n c:Nat) (l:List Pn) (w:World) (h:rdPns w (lt_ w.heap.size) l [.slice A n c]) :
  Calls Tryz.prog 95 #[.slice A n c,.func (.func g) #[] #[],.string nm,.string v] w fun e w'=>e=.returned (.int .i64 (ixQ p l 0))∧Below w.heap.size w w':=by
 obtain ⟨V,hV⟩:∃V,V=((w.alloc (.cells #[.func (.func g) #[] #[]] 137)).alloc (.cells #[.string nm] 9)).alloc (.cells #[.string v] 9):=⟨_,rfl⟩
 have b1:Below w.heap.size w V:=by rw [hV];exact (((Below.refl _ w).alloc (Nat.le_refl _) _).alloc (by simp) _).alloc (by simp;omega) _
 have z1:V.heap.size=w.heap.size+3:=by rw [hV,World.size_alloc,World.size_alloc,World.size_alloc]
 have d1:V.cell? ⟨w.heap.size,0,none⟩=some (.func (.func g) #[] #[]):=by rw [hV];simp [go_sem]
 have d2:V.cell? ⟨w.heap.size+1,0,none⟩=some (.string nm):=by rw [hV];simp [go_sem]
 have d3:V.cell? ⟨w.heap.size+2,0,none⟩=some (.string v):=by rw [hV];simp [go_sem]
 have C:=Lib.hid (ixPn_any 132 #[.pointer (some ⟨w.heap.size,0,none⟩),.pointer (some ⟨w.heap.size+1,0,none⟩),.pointer (some ⟨w.heap.size+2,0,none⟩)] p A n c l V (fun _ _=>by kernel_rfl) (rdPns_good.up (rdPns_good.below h b1) b1.size)
  (fun x W hb=>must_any g p nm v hcf KG x ⟨w.heap.size,0,none⟩ ⟨w.heap.size+1,0,none⟩ ⟨w.heap.size+2,0,none⟩ W (by have:=hb.size;show w.heap.size < _;omega) (by have:=hb.size;show w.heap.size+1 < _;omega) (by have:=hb.size;show w.heap.size+2 < _;omega)
   ((hb.cell (by show w.heap.size < _;omega)).trans d1) ((hb.cell (by show w.heap.size+1 < _;omega)).trans d2) ((hb.cell (by show w.heap.size+2 < _;omega)).trans d3)))
 have HB:=Lib.hid b1
 have HV:=Lib.hid hV
 have hmf:∀(fn:Fn) (first cap:Array Value) (w:World),(Instr.makeFunc fn first cap).run Tryz.prog w=.ok (.func fn first cap) w:=fun _ _ _ _=>rfl
 clear h b1 z1 d1 d2 d3 hV hcf KG
 go_enter Tryz.func95,Tryz.ntmps95
 go_wp2_with fail
 rw [←HV.out]
 refine C.out.mono ?_
 rintro e w' ⟨rfl,hb2⟩
 have HB2:=Lib.hid (bel_2 HB.out hb2)
 clear hb2
 go_wp2
 go_ret
 exact ⟨rfl,HB2.out⟩
set_option maxHeartbeats 4000000 in
theorem pprio_any (A:Option Addr) (n c:Nat) (l:List Pn) (nm v:ByteArray) (w:World) (h:rdPns w (lt_ w.heap.size) l [.slice A n c]) :
  Calls Tryz.prog 62 #[.slice A n c,.string nm,.string v] w fun e w'=>e=.returned (.int .i64 (prioN l nm v))∧Below w.heap.size w w':=by
 obtain ⟨rfl,hnc,hcm,-⟩:=rdPns_at h
 have hcm':c≤9223372036854775807:=hcm
 have H:=Lib.hid h
 have K1:=Lib.hid (fun W hW=>pfirst_any 96 (fun x=>hitN x nm v) nm v (fun _ _=>by kernel_rfl) (fun x W=>ofName_any x nm v W) A l.length c l W hW)
 have K2:=Lib.hid (fun W hW=>pfirst_any 97 (fun x=>hitN x star8 v) nm v (fun _ _=>by kernel_rfl) (fun x W=>ofEvery_any x nm v W) A l.length c l W hW)
 clear h hcm
 rcases ixQ_find (p:=fun x=>hitN x nm v) l 0 with ⟨e1,e2⟩|⟨k,hk,e1,e2⟩
 ·rw [e2] at K1
  rcases ixQ_find (p:=fun x=>hitN x star8 v) l 0 with ⟨e3,e4⟩|⟨k,hk,e3,e4⟩
  ·have X:=Lib.hid (show prioN l nm v=500 by unfold prioN;rw [e1];simp only;rw [e3])
   rw [e4] at K2
   clear e1 e2 e3 e4
   go_enter Tryz.func62,Tryz.ntmps62
   go_wp2_with fail
   refine (K1.out _ H.out).mono ?_
   rintro e w1 ⟨rfl,hb⟩
   have B1:=Lib.hid hb
   clear hb
   go_wp2_with fail
   refine (K2.out _ (rdPns_good.up (rdPns_good.below H.out B1.out) B1.out.size)).mono ?_
   rintro e w2 ⟨rfl,hb⟩
   have B2:=Lib.hid (bel_2 B1.out hb)
   clear hb
   go_wp2
   go_ret
   exact ⟨by rw [X.out];try rfl,B2.out⟩
  ·have X:=Lib.hid (show prioN l nm v=l[k].p by unfold prioN;rw [e1];simp only;rw [e3])
   rw [e4,Nat.zero_add] at K2
   have t0:¬((k:Int) < 0):=by omega
   have i0:(0:Int)≤(k:Int):=by omega
   have i1:(k:Int) < (l.length:Int):=by omega
   clear e1 e2 e3 e4
   go_enter Tryz.func62,Tryz.ntmps62
   go_wp2_with fail
   refine (K1.out _ H.out).mono ?_
   rintro e w1 ⟨rfl,hb⟩
   have B1:=Lib.hid hb
   clear hb
   go_wp2_with fail
   refine (K2.out _ (rdPns_good.up (rdPns_good.below H.out B1.out) B1.out.size)).mono ?_
   rintro e w2 ⟨rfl,hb⟩
   have B2:=Lib.hid (bel_2 B1.out hb)
   clear hb
   obtain ⟨_,_,_,ha⟩:=rdPns_at (rdPns_good.below H.out B2.out)
   obtain ⟨ad,rfl,had,c0,c1,c2⟩:=ha k hk
   clear ha had c0 c1
   go_wp2
   go_ret
   exact ⟨by rw [X.out];try rfl,B2.out⟩
 ·have X:=Lib.hid (show prioN l nm v=l[k].p by unfold prioN;rw [e1])
  rw [e2,Nat.zero_add] at K1
  have t0:¬((k:Int) < 0):=by omega
  have i0:(0:Int)≤(k:Int):=by omega
  have i1:(k:Int) < (l.length:Int):=by omega
  clear e1 e2 K2
  go_enter Tryz.func62,Tryz.ntmps62
  go_wp2_with fail
  refine (K1.out _ H.out).mono ?_
  rintro e w1 ⟨rfl,hb⟩
  have B1:=Lib.hid hb
  clear hb
  obtain ⟨_,_,_,ha⟩:=rdPns_at (rdPns_good.below H.out B1.out)
  obtain ⟨ad,rfl,had,c0,c1,c2⟩:=ha k hk
  clear ha had c0 c1
  go_wp2
  go_ret
  exact ⟨by rw [X.out];try rfl,B1.out⟩
def rpreB (s:ByteArray):Bool:=decide (s.size≤60)&&(B s).all visB
theorem rpre_any (s:ByteArray) (w:World):Calls Tryz.prog 127 #[.string s] w fun e w'=>e=.returned (.bool (rpreB s))∧Below w.heap.size w w':=by
 by_cases h60:(60:Int) < (s.size:Int)
 ·have X:=Lib.hid (show rpreB s=false by unfold rpreB;rw [decide_eq_false (by omega),Bool.false_and])
  go_enter Tryz.func127,Tryz.ntmps127
  go_wp2
  go_ret
  exact ⟨by rw [X.out];try rfl,Below.refl _ _⟩
 ·have X:=Lib.hid (show rpreB s=(B s).all visB by unfold rpreB;rw [decide_eq_true (show s.size≤60 by omega),Bool.true_and])
  obtain ⟨cap,w1,hcv,hb,hcells⟩:=bytes_cells w s
  have HB:=Lib.hid hb
  have HC:=Lib.hid hcells
  have hlen:s.size≤60:=by omega
  clear hb hcells
  go_enter Tryz.func127,Tryz.ntmps127
  go_wp2
  clear hcv
  go_loop [11] (fun x=>∃k:Nat,k≤s.size∧x=.int .i64 k∧∀j,j < k→visB ((B s).getD j 0)=true) (fun x=>s.size - (intOf x).toNat)
  case atStart=>exact ⟨0,Nat.zero_le _,rfl,fun j hj=>absurd hj (Nat.not_lt_zero _)⟩
  case round=>
   obtain ⟨k,hk,rfl,hno⟩:=hrel
   have HN:=Lib.hid hno
   clear hno
   by_cases hlt:k < s.size
   ·have hcell:=HC.out k hlt
    have HD:=Lib.hid (B_getD s k hlt)
    have AN:=Lib.hid (byt_no (p:=visB) hlt)
    generalize s[k].toNat=c at *
    by_cases q1:(c:Int)≤32
    ·have Y:=Lib.hid (AN.out (vis_low (by omega)))
     go_wp2
     go_ret
     exact ⟨by rw [X.out,Y.out];try rfl,HB.out⟩
    by_cases q2:(127:Int)≤(c:Int)
    ·have Y:=Lib.hid (AN.out (vis_high (by omega)))
     go_wp2
     go_ret
     exact ⟨by rw [X.out,Y.out];try rfl,HB.out⟩
    by_cases q3:c=42
    ·have Y:=Lib.hid (AN.out (vis_star q3))
     have t3:((c:Int)==42)=true:=by rw [beq_iff_eq];omega
     clear q3
     go_wp2
     go_ret
     exact ⟨by rw [X.out,Y.out];try rfl,HB.out⟩
    ·have Y:=Lib.hid (show visB ((B s).getD k 0)=true by rw [HD.out];exact vis_ok (by omega) (by omega) q3)
     have t3:((c:Int)==42)=false:=by rw [beq_eq_false_iff_ne];omega
     clear q3
     go_wp2
     go_round
     case rel=>exact ⟨k+1,by omega,by go_num,fun j hj=>by rcases (by omega:j < k∨j=k) with h|rfl;exact HN.out j h;exact Y.out⟩
     case measure=>simp [intOf];omega
   ·have Y:=Lib.hid (byt_yes (p:=visB) (s:=s) (fun j hj=>HN.out j (by omega)))
    go_wp2
    go_ret
    exact ⟨by rw [X.out,Y.out];try rfl,HB.out⟩
set_option maxHeartbeats 2000000 in
theorem pright_any (x:Pn) (w:World):Calls Tryz.prog 85 #[x.val] w fun e w'=>e=.returned (.bool (rgtN x))∧Below w.heap.size w w':=by
 obtain ⟨n,v,p⟩:=x
 have B0:=Lib.hid (bel_box w (.cells #[.string n,.string v,.int .i64 p] 70))
 have KN:=Lib.hid (fun W=>rname_any n W)
 have KP:=Lib.hid (fun W=>rpre_any v W)
 have HX:=Lib.hid (show rgtN ⟨n,v,p⟩=((nameB (B n)||decide (n=star8))&&(rpreB v&&(decide (-1000≤p)&&decide (p≤1000)))) from by unfold rgtN rpreB;simp only [Bool.and_assoc])
 have hst:=star_eq n
 generalize rgtN ⟨n,v,p⟩=R at *
 by_cases hs:n=star8
 ·rw [decide_eq_true hs] at hst
  have HY:=Lib.hid (show R=(rpreB v&&(decide (-1000≤p)&&decide (p≤1000))) by rw [HX.out,decide_eq_true hs,Bool.or_true,Bool.true_and])
  clear hs HX
  cases hq:rpreB v
  ·have X:=Lib.hid (show R=false by rw [HY.out,hq,Bool.false_and])
   rw [hq] at KP
   clear hq
   go_enter Tryz.func85,Tryz.ntmps85
   go_wp2_with fail
   refine (KP.out _).mono ?_
   rintro e w5 ⟨rfl,hb⟩
   have B5:=Lib.hid (bel_boxed hb)
   obtain ⟨c0,c1,c2,-⟩:=box_cells hb
   clear hb
   go_wp2
   go_ret
   exact ⟨by rw [X.out];try rfl,B5.out⟩
  ·rw [hq] at KP HY
   clear hq
   by_cases p1:-1000≤p
   ·have X:=Lib.hid (show R=decide (p≤1000) by rw [HY.out,decide_eq_true p1];rfl)
    go_enter Tryz.func85,Tryz.ntmps85
    go_wp2_with fail
    refine (KP.out _).mono ?_
    rintro e w5 ⟨rfl,hb⟩
    have B5:=Lib.hid (bel_boxed hb)
    obtain ⟨c0,c1,c2,-⟩:=box_cells hb
    clear hb
    go_wp2
    go_ret
    exact ⟨by rw [X.out];try rfl,B5.out⟩
   ·have X:=Lib.hid (show R=false by rw [HY.out,decide_eq_false p1];rfl)
    go_enter Tryz.func85,Tryz.ntmps85
    go_wp2_with fail
    refine (KP.out _).mono ?_
    rintro e w5 ⟨rfl,hb⟩
    have B5:=Lib.hid (bel_boxed hb)
    obtain ⟨c0,c1,c2,-⟩:=box_cells hb
    clear hb
    go_wp2
    go_ret
    exact ⟨by rw [X.out];try rfl,B5.out⟩
 rw [decide_eq_false hs] at hst
 cases hn:nameB (B n)
 ·have X:=Lib.hid (show R=false by rw [HX.out,decide_eq_false hs,hn];rfl)
  rw [hn] at KN
  clear hs hn HX
  go_enter Tryz.func85,Tryz.ntmps85
  go_wp2_with fail
  refine (KN.out _).mono ?_
  rintro e w4 ⟨rfl,hb⟩
  have B1:=Lib.hid (bel_boxed hb)
  obtain ⟨c0,c1,c2,-⟩:=box_cells hb
  clear hb
  go_wp2
  go_ret
  exact ⟨by rw [X.out];try rfl,B1.out⟩
 ·have HY:=Lib.hid (show R=(rpreB v&&(decide (-1000≤p)&&decide (p≤1000))) by rw [HX.out,hn,Bool.true_or,Bool.true_and])
  rw [hn] at KN
  clear hs hn HX
  go_enter Tryz.func85,Tryz.ntmps85
  go_wp2_with fail
  refine (KN.out _).mono ?_
  rintro e w4 ⟨rfl,hb⟩
  have B1:=Lib.hid (bel_boxed hb)
  obtain ⟨c0,c1,c2,-⟩:=box_cells hb
  clear hb
  cases hq:rpreB v
  ·have X:=Lib.hid (show R=false by rw [HY.out,hq,Bool.false_and])
   rw [hq] at KP
   clear hq
   go_wp2_with fail
   refine (KP.out _).mono ?_
   rintro e w5 ⟨rfl,hb⟩
   have B5:=Lib.hid (bel_2 B1.out hb)
   replace c0:=keep_cell hb c0
   replace c1:=keep_cell hb c1
   replace c2:=keep_cell hb c2
   clear hb
   go_wp2
   go_ret
   exact ⟨by rw [X.out];try rfl,B5.out⟩
  ·rw [hq] at KP HY
   clear hq
   by_cases p1:-1000≤p
   ·have X:=Lib.hid (show R=decide (p≤1000) by rw [HY.out,decide_eq_true p1];rfl)
    go_wp2_with fail
    refine (KP.out _).mono ?_
    rintro e w5 ⟨rfl,hb⟩
    have B5:=Lib.hid (bel_2 B1.out hb)
    replace c0:=keep_cell hb c0
    replace c1:=keep_cell hb c1
    replace c2:=keep_cell hb c2
    clear hb
    go_wp2
    go_ret
    exact ⟨by rw [X.out];try rfl,B5.out⟩
   ·have X:=Lib.hid (show R=false by rw [HY.out,decide_eq_false p1];rfl)
    go_wp2_with fail
    refine (KP.out _).mono ?_
    rintro e w5 ⟨rfl,hb⟩
    have B5:=Lib.hid (bel_2 B1.out hb)
    replace c0:=keep_cell hb c0
    replace c1:=keep_cell hb c1
    replace c2:=keep_cell hb c2
    clear hb
    go_wp2
    go_ret
    exact ⟨by rw [X.out];try rfl,B5.out⟩
def rdBa:Rd ByteArray:=fun _ _ s cs=>cs=[.string s]
theorem rdBa_good:Good rdBa 1:=⟨fun h _=>h,fun h _=>h,fun h _ _=>h,fun h=>by rw [h];rfl,fun h u hu=>by rw [h] at hu;rw [List.mem_singleton.1 hu];rfl⟩
abbrev rdBas:Rd (List ByteArray):=rdRow 1 rdBa
theorem rdBas_good:Good rdBas 1:=rdRow_good rdBa_good
theorem rdBas_at {w:World} {S:Nat→Prop} {l:List ByteArray} {A:Option Addr} {n c:Nat} (h:rdBas w S l [.slice A n c]):n=l.length∧n≤c∧c≤maxLen∧∀k (hk:k < l.length),∃ad,A=some ad∧S ad.block∧w.cell? (ad.add k)=some (.string l[k]):=by
 obtain ⟨A',c',e,h1,h2,h⟩:=h
 simp only [List.cons.injEq,Value.slice.injEq,and_true] at e
 obtain ⟨rfl,rfl,rfl⟩:=e
 refine ⟨rfl,h1,h2,fun k hk=>?_⟩
 obtain ⟨ad,es,e,hS,hE,hl,hc⟩:=h k hk
 rw [show es=[.string l[k]] from hE] at hc
 have:=hc 0 _ rfl
 rw [Nat.mul_one] at this
 exact ⟨ad,e,hS,this⟩
theorem maxF_step (f:ByteArray→Int) (b:Int) (all:List ByteArray) {k:Nat} (hk:k < all.length):maxF f b (all.take (k+1))=max (maxF f b (all.take k)) (f all[k]):=by
 rw [List.take_succ_eq_append_getElem hk,maxF_snoc]
end Go.Proofs.YtpilmhoakopcaaaGreatDoor
