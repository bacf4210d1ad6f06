/- What the laws rest on: N9f, P6f, Door. -/
import Derived.Test.YthchfkhpmgkghaaGreatDoorTie
import Derived.Test.YthchfkhpmgkghaaGreatDoorCards
import Derived.LaidMore
import Derived.Lay
import Derived.Stop.Joined
import Derived.Stop.LaidErr
import Derived.Deep.DeepHandedRow
import Derived.Test.YthchfkhpmgkghaaGreatDoorQBOZA
import Derived.Test.YthchfkhpmgkghaaGreatDoorQCCZA
set_option maxRecDepth 100000
set_option linter.unusedVariables false
set_option linter.unusedSimpArgs false
namespace Go.Proofs.YthchfkhpmgkghaaGreatDoor
open Go.RowKit
abbrev zz9:Value:=.agg #[.slice none 0 0,.slice none 0 0]
abbrev MapN (w:World) (b n:Nat) (F:ByteArray→Value × Value):Prop:=MapF Tryz.prog 9 zz9 w b n (nmv F)
theorem bel_mid {N:Nat} {a b c:World} (h:Below N a b) (k:Below N a c) (hs:b.heap.size≤c.heap.size):Below N b c:=⟨k.os.trans h.os.symm,k.tape.trans h.tape.symm,k.output.trans h.output.symm,hs,fun q hq=>(k.block q hq).trans (h.block q hq).symm⟩
theorem MapN.look {w:World} {b n:Nat} {F:ByteArray→Value × Value} (h:MapN w b n F) (s:ByteArray) (hs:s.size≤1000000) {pv gv:Value} (hp:(F s).1=pv) (hg:(F s).2=gv) :
  (Instr.lookup 87 (.map (some b)) (.string s) false).run Tryz.prog w=.ok (.agg #[pv,gv]) w:=by
 rw [MapF.look h lawStr9 Tryz.underlying9 Tryz.underlying87 (zeroNm9 w) s (by unfold maxLen;omega)]
 unfold nmv
 rw [hp,hg]
set_option maxHeartbeats 16000000 in
theorem byName9_any (A:Option Addr) (n0 c:Nat) (L:List Ent) (w:World) (h:rdEnts w (lt_ w.heap.size) L [.slice A n0 c]) (hl:L.length≤64) (hp:∀x ∈ L,x.p.length≤1000∧x.n.size≤65536∧∀a ∈ gvs x,a.n.size≤65536) :
  Calls Tryz.prog 43 #[.slice A n0 c] w fun e w'=>e=.returned (.map (some w.heap.size))∧(∃F n,MapN w' w.heap.size n F∧NmS w' (w.heap.size+1) F (fun s=>ixU (isN s) L 0) (fun s=>gfU s L 0))∧Below w.heap.size w w':=by
 have hmm:=@run_makeMap Tryz.prog
 obtain ⟨rfl,hnc,hcm,-⟩:=rdEnts_at h
 have hcm':c≤9223372036854775807:=hcm
 obtain ⟨fi,hi,hz0,hz1,hz2⟩:=info_parts int9_info
 obtain ⟨fg,hj,hy0,hy1,hy2⟩:=info_parts gift_info
 have H:=Lib.hid h
 have HP:=Lib.hid hp
 clear h hcm hp
 go_enter Tryz.func43,Tryz.ntmps43
 go_wp2
 go_loopw [13] (fun i wr=>∃k:Nat,k≤L.length∧i=.int .i64 k∧(∃F n,n≤k*2000∧MapN wr w.heap.size n F∧NmS wr (w.heap.size+1) F (fun s=>ixU (isN s) (L.take k) 0) (fun s=>gfU s (L.take k) 0))∧Below w.heap.size w wr∧w.heap.size+1≤wr.heap.size) (fun i _=>L.length - (intOf i).toNat)
 case atStart=>exact ⟨0,Nat.zero_le _,rfl,⟨fun _=>(.slice none 0 0,.slice none 0 0),0,Nat.zero_le _,MapF.made w _ _ _,NmS.nil _ _⟩,(Below.refl _ _).alloc (Nat.le_refl _) _,by rw [World.size_alloc];exact Nat.le_refl _⟩
 case round=>
  obtain ⟨k,hk,rfl,⟨F,nn,hnn,hM,hN⟩,hbel,hsw⟩:=hrel
  have HB:=Lib.hid hbel
  by_cases hlt:k < L.length
  ·obtain ⟨-,-,-,hat⟩:=rdEnts_at (rdEnts_good.below H.out hbel)
   obtain ⟨ad,A1,c1,A2,c2,A3,c3,A4,c4,rfl,had,hv,h0,h1,h2,h3,h4,h5⟩:=hat k hlt
   have i0:(0:Int)≤(k:Int):=by omega
   have i1:(k:Int) < (L.length:Int):=by omega
   have HX:=Lib.hid hv
   have PX:=Lib.hid (HP.out L[k] (List.getElem_mem hlt))
   have STP:=Lib.hid (fun s=>ixU_take (n:=s) hlt)
   have STG:=Lib.hid (fun s=>gfU_take (n:=s) hlt)
   have LNP:=Lib.hid (fun s=>Nat.le_trans (ixU_len (p:=isN s) (L:=L.take k) (i:=0)) (List.length_take_le _ _))
   have LNG:=Lib.hid (fun s=>gfU_len (n:=s) (L:=L.take k) (i:=0) (m:=1000) (fun x hx=>(HP.out x (List.mem_of_mem_take hx)).1))
   have HK:=Lib.hid (show k≤63 by omega)
   clear had hat hv hbel
   generalize L[k]=x at *
   obtain ⟨n,v,d,r,c',p⟩:=x
   simp only at h0 h1 h2 h3 h4 h5
   have hns:n.size≤1000000:=by have:=PX.out.2.1;simp only at this;omega
   have hnm:n.size≤maxLen:=by unfold maxLen;omega
   obtain ⟨Axp,cp,hpv,-,-⟩:=(hN.p n).own
   obtain ⟨Axg,cg,hgv,-,-⟩:=(hN.g n).own
   have GP:=Lib.hid (hN.p n)
   rw [hpv] at GP
   obtain ⟨np,hnp⟩:∃m,m=(ixU (isN n) (L.take k) 0).length:=⟨_,rfl⟩
   obtain ⟨ng,hng⟩:∃m,m=(gfU n (L.take k) 0).length:=⟨_,rfl⟩
   rw [←hnp] at hpv GP
   rw [←hng] at hgv
   have hlp:(ixU (isN n) (L.take k) 0).length+1≤65:=by have:=LNP.out n;have:=HK.out;omega
   have HPL:=Lib.hid (STP.out n)
   generalize hplx:ixU (isN n) (L.take k) 0=lp at GP hlp HPL
   have HPX:=Lib.hid hplx
   clear hplx
   have hlk:=MapN.look (F:=F) (hM.kept (World.grownBy_alloc wr (.cells #[.string n,.string v,.slice A1 d.length c1,.slice A2 r.length c2,.slice A3 c'.length c3,.slice A4 p.length c4] 67) none) (by simp)) n hns hpv hgv
   have HPV:=Lib.hid hpv
   have HGV:=Lib.hid hgv
   have HNN:=Lib.hid hnn
   clear hpv hgv hnp hng hnn
   obtain ⟨W2,hW2⟩:∃W,W=(wr.alloc (.cells #[.string n,.string v,.slice A1 d.length c1,.slice A2 r.length c2,.slice A3 c'.length c3,.slice A4 p.length c4] 67)).alloc (.cells #[.slice Axp np cp,.slice Axg ng cg] 101):=⟨_,rfl⟩
   have b2:Below wr.heap.size wr W2:=by rw [hW2];exact ((Below.refl _ wr).alloc (Nat.le_refl _) _).alloc (by simp) _
   have s2:W2.heap.size=wr.heap.size+2:=by rw [hW2];simp
   have x0:W2.cell? ⟨wr.heap.size,0,none⟩=some (.string n):=by rw [hW2];simp [go_sem]
   have x1:W2.cell? ⟨wr.heap.size,1,none⟩=some (.string v):=by rw [hW2];simp [go_sem]
   have x2:W2.cell? ⟨wr.heap.size,2,none⟩=some (.slice A1 d.length c1):=by rw [hW2];simp [go_sem]
   have x3:W2.cell? ⟨wr.heap.size,3,none⟩=some (.slice A2 r.length c2):=by rw [hW2];simp [go_sem]
   have x4:W2.cell? ⟨wr.heap.size,4,none⟩=some (.slice A3 c'.length c3):=by rw [hW2];simp [go_sem]
   have x5:W2.cell? ⟨wr.heap.size,5,none⟩=some (.slice A4 p.length c4):=by rw [hW2];simp [go_sem]
   have y0:W2.cell? ⟨wr.heap.size+1,0,none⟩=some (.slice Axp np cp):=by rw [hW2];simp [go_sem]
   have y1:W2.cell? ⟨wr.heap.size+1,1,none⟩=some (.slice Axg ng cg):=by rw [hW2];simp [go_sem]
   have f0:W2.frozen? ⟨wr.heap.size+1,0,none⟩=false:=by rw [hW2];simp [go_sem]
   have HB2:=Lib.hid b2
   have HS2:=Lib.hid s2
   have GP2:=Lib.hid (GP.out.below rdInt_good b2)
   have HM:=Lib.hid (hM.kept (w':=W2) (row:=none) ⟨b2.os,b2.tape,b2.output,b2.size,fun q hq _=>b2.block q hq⟩ (by simp))
   have HN:=Lib.hid hN
   clear hM hN GP
   have hn1:lp.length+1≤maxLen:=by unfold maxLen;omega
   have hn2:(lp.length+1)*8≤140737488355328:=by omega
   have hbs:w.heap.size+1≤W2.heap.size:=by omega
   have HSW:=Lib.hid hsw
   clear hsw b2 s2
   go_wp2_with (at_builtin;rw [←hW2];refine wpList_grow1_at W2 rfl _ _ 27 rfl rdInt_good (by decide) (fun _=>True) (w.heap.size+1) 3 fi _ 8 Tryz.underlying27 hi hz0 hz1 hz2 rfl (.slice Axp np cp) lp rfl GP2.out (k:Int) _ 3 rfl (wr.heap.size+2) HS2.out.symm rfl hn1 hn2 hbs ?_)
   intro v1 w4 hG4 hg4 hm4
   rw [←hW2] at hg4 hm4
   obtain ⟨Axq,cq,hv1,-,-⟩:=hG4.own
   obtain ⟨nq,hnq⟩:∃m,m=(lp++[(k:Int)]).length:=⟨_,rfl⟩
   rw [←hnq] at hv1
   subst hv1
   have rowne:∀q,wr.heap.size≤q→(Value.slice Axp np cp).ownBlock≠some q:=fun q hq hh=>by
    have:=((HN.out.p n).lt q (by rw [HPV.out];exact hh)).2
    omega
   have rowge:∀q,(Value.slice Axp np cp).ownBlock=some q→w.heap.size+1≤q:=fun q hh=>((HN.out.p n).lt q (by rw [HPV.out];exact hh)).1
   have hsz4:wr.heap.size+2≤w4.heap.size:=by have:=hg4.size;have:=HS2.out;omega
   replace x0:=far9 hg4 (by have:=HS2.out;omega) (rowne _ (Nat.le_refl _)) x0
   replace x1:=far9 hg4 (by have:=HS2.out;omega) (rowne _ (Nat.le_refl _)) x1
   replace x2:=far9 hg4 (by have:=HS2.out;omega) (rowne _ (Nat.le_refl _)) x2
   replace x3:=far9 hg4 (by have:=HS2.out;omega) (rowne _ (Nat.le_refl _)) x3
   replace x4:=far9 hg4 (by have:=HS2.out;omega) (rowne _ (Nat.le_refl _)) x4
   replace x5:=far9 hg4 (by have:=HS2.out;omega) (rowne _ (Nat.le_refl _)) x5
   replace y0:=far9 (b:=wr.heap.size+1) hg4 (by have:=HS2.out;omega) (rowne (wr.heap.size+1) (Nat.le_succ _)) y0
   replace y1:=far9 (b:=wr.heap.size+1) hg4 (by have:=HS2.out;omega) (rowne (wr.heap.size+1) (Nat.le_succ _)) y1
   replace f0:=frz9 (b:=wr.heap.size+1) hg4 (by have:=HS2.out;omega) (rowne (wr.heap.size+1) (Nat.le_succ _)) f0
   obtain ⟨V,hV⟩:∃V,V=w4.setCell ⟨wr.heap.size+1,0,none⟩ (.slice Axq nq cq):=⟨_,rfl⟩
   have z0:V.cell? ⟨wr.heap.size,0,none⟩=some (.string n):=by rw [hV];simp [go_sem,x0]
   have z1:V.cell? ⟨wr.heap.size,1,none⟩=some (.string v):=by rw [hV];simp [go_sem,x1]
   have z2:V.cell? ⟨wr.heap.size,2,none⟩=some (.slice A1 d.length c1):=by rw [hV];simp [go_sem,x2]
   have z3:V.cell? ⟨wr.heap.size,3,none⟩=some (.slice A2 r.length c2):=by rw [hV];simp [go_sem,x3]
   have z4:V.cell? ⟨wr.heap.size,4,none⟩=some (.slice A3 c'.length c3):=by rw [hV];simp [go_sem,x4]
   have z5:V.cell? ⟨wr.heap.size,5,none⟩=some (.slice A4 p.length c4):=by rw [hV];simp [go_sem,x5]
   have t0:V.cell? ⟨wr.heap.size+1,0,none⟩=some (.slice Axq nq cq):=by rw [hV];simp [go_sem,y0,f0]
   have t1:V.cell? ⟨wr.heap.size+1,1,none⟩=some (.slice Axg ng cg):=by rw [hV];simp [go_sem,y1]
   have HMV:=Lib.hid (show MapN V w.heap.size nn F from by
    rw [hV]
    exact (HM.out.kept hg4 (fun e=>by have:=rowge _ e.symm;omega)).kept (grown_set w4 _ _) (fun e=>by injection e with e;have:=HSW.out;simp only at e;omega))
   have hVs:V.heap.size=w4.heap.size:=by rw [hV];simp
   have HG4:=Lib.hid hG4
   have Hg4:=Lib.hid hg4
   have Hm4:=Lib.hid hm4
   have ROW:=Lib.hid (And.intro rowne rowge)
   have hn4:nn < maxLen:=by have:=HNN.out;have:=HK.out;unfold maxLen;omega
   have HV:=Lib.hid hV
   clear x1 x2 x3 x4 x5 hG4 hg4 hm4 rowne rowge hnq hlk hW2
   go_wp2_with (at_mapUpdate;rw [←hV];refine wpList_mapUpdate_fn rfl _ _ _ rfl lawStr9 Tryz.underlying9 Tryz.underlying87 HMV.out rfl hn4 n (.agg #[.slice Axq nq cq,.slice Axg ng cg]) rfl rfl hnm ?_)
   intro w6 hM6 hg6
   rw [←hV] at hg6
   clear hV x0 y0 y1 f0 t0 t1
   have HM6:=Lib.hid (show MapN w6 w.heap.size (nn+1) (upd9 F n (.slice Axq nq cq,(F n).2)) from by
    show MapF Tryz.prog 9 zz9 w6 w.heap.size (nn+1) (nmv (upd9 F n (.slice Axq nq cq,(F n).2)))
    rw [nmv_upd]
    simp only
    rw [HGV.out]
    exact hM6)
   have HN6:=Lib.hid ((HN.out.stepP HB2.out HS2.out n HG4.out (by rw [HPV.out];exact Hg4.out) (by rw [HPV.out];exact Hm4.out) (Nat.lt_succ_self w.heap.size) (by rw [←HV.out];exact hg6)).cast (pl':=fun s=>ixU (isN s) (L.take (k+1)) 0) (gl':=fun s=>gfU s (L.take k) 0) (fun s=>by
    by_cases e:s=n
    ·subst e
     rw [upd9_same,STP.out,HPX.out]
     exact (if_pos rfl).symm
    ·rw [upd9_ne _ _ e,STP.out]
     exact (if_neg (fun q=>e q.symm)).symm) (fun s=>rfl))
   have BM6:=Lib.hid (step_below HB.out HB2.out Hg4.out (fun q hq=>Nat.le_of_succ_le (ROW.out.2 q hq)) (show (w4.setCell ⟨wr.heap.size+1,0,none⟩ (.slice Axq nq cq)).grownBy w6 (some w.heap.size) by rw [←HV.out];exact hg6) (Nat.le_refl _))
   have hs6:wr.heap.size+2≤w6.heap.size:=by have:=hg6.size;omega
   replace z0:=far9 hg6 (by omega) (fun e=>by injection e with e;have:=HSW.out;omega) z0
   replace z1:=far9 hg6 (by omega) (fun e=>by injection e with e;have:=HSW.out;omega) z1
   replace z2:=far9 hg6 (by omega) (fun e=>by injection e with e;have:=HSW.out;omega) z2
   replace z3:=far9 hg6 (by omega) (fun e=>by injection e with e;have:=HSW.out;omega) z3
   replace z4:=far9 hg6 (by omega) (fun e=>by injection e with e;have:=HSW.out;omega) z4
   replace z5:=far9 hg6 (by omega) (fun e=>by injection e with e;have:=HSW.out;omega) z5
   have KG:=Lib.hid (gives6_any ⟨n,v,d,r,c',p⟩ A1 c1 A2 c2 A3 c3 A4 c4 w6 ((HX.out.below (bel_mid HB.out BM6.out (by omega))).up BM6.out.size) PX.out.1)
   have SN6:=Lib.hid hs6
   clear hM6 hg6 HMV hVs HG4 Hg4 Hm4 ROW HV HM HN GP2 HB2 HS2 HPV HGV hn4 hsz4 hn1 hn2 hbs HPL HPX STP HX h0 h1 h2 h3 h4 h5 hlp LNP
   generalize hgx:gvs ⟨n,v,d,r,c',p⟩=g at *
   have HGX:=Lib.hid hgx
   clear hgx
   go_wp2_with fail
   refine KG.out.mono ?_
   rintro e w7 ⟨⟨Ah,ch,rfl,hr7⟩,hb7⟩
   obtain ⟨-,hnc7,hcm7,-⟩:=rdAtms_at hr7
   have hcm7':ch≤9223372036854775807:=hcm7
   have HR7:=Lib.hid hr7
   have HB7:=Lib.hid hb7
   clear hr7 hb7 hcm7 KG z0 z1 z2 z3 z4 z5
   obtain ⟨wo,rfl⟩:∃W,W=wr:=⟨_,rfl⟩
   go_wp2
   go_loopw [35] (fun i wr=>∃j:Nat,j≤g.length∧i=.int .i64 j∧(∃F' n',n'≤k*2000+1+j∧MapN wr w.heap.size n' F'∧NmS wr (w.heap.size+1) F' (fun s=>ixU (isN s) (L.take (k+1)) 0) (fun s=>gfU s (L.take k) 0++gfs1 s k (g.take j))∧Gap9 w6.heap.size w7.heap.size F')∧(∀q,w6.heap.size≤q→q < w7.heap.size→wr.heap[q]?=w7.heap[q]?)∧w7.heap.size≤wr.heap.size∧Below w.heap.size w wr) (fun i _=>g.length - (intOf i).toNat)
   case atStart=>exact ⟨0,Nat.zero_le _,rfl,⟨_,nn+1,by have:=HNN.out;omega,HM6.out.below HM6.out.lt HB7.out,(HN6.out.below HB7.out).cast (fun _=>rfl) (fun s=>(List.append_nil _).symm),HN6.out.gap _⟩,fun _ _ _=>rfl,Nat.le_refl _,BM6.out.trans (HB7.out.mono BM6.out.size)⟩
   case round=>
    clear HM6 HN6 BM6
    obtain ⟨j,hjl,rfl,⟨F',n',hn',hM',hN',hG'⟩,hmid,hsz7,hbi⟩:=hrel
    have HBI:=Lib.hid hbi
    have HMID:=Lib.hid hmid
    have HS7:=Lib.hid hsz7
    have HGP:=Lib.hid hG'
    have HN':=Lib.hid hn'
    have S67:=Lib.hid (show w6.heap.size≤w7.heap.size∧wo.heap.size+2≤w6.heap.size∧w.heap.size+1≤wo.heap.size from ⟨HB7.out.size,SN6.out,HSW.out⟩)
    clear hmid hG' hn' hbi
    by_cases hlt2:j < g.length
    ·obtain ⟨-,-,-,hat⟩:=rdAtms_at (rdAtms_good.keep HR7.out (fun b hb=>HMID.out b hb.1 hb.2))
     obtain ⟨ad2,rfl,had2,a0,a1,a2⟩:=hat j hlt2
     have i0:(0:Int)≤(j:Int):=by omega
     have i1:(j:Int) < (g.length:Int):=by omega
     have NS2:=Lib.hid (PX.out.2.2 g[j] (List.getElem_mem hlt2))
     have STJ:=Lib.hid (fun s=>gfs1_take (n:=s) (i:=k) hlt2)
     have LNJ:=Lib.hid (fun s=>show (gfs1 s k (g.take j)).length≤j from by unfold gfs1;rw [List.length_map];exact Nat.le_trans (List.length_filter_le _ _) (List.length_take_le _ _))
     have HJ:=Lib.hid (show j≤1000 by
      have e1:g.length=p.length+1:=by rw [←HGX.out];rfl
      have:=PX.out.1
      try simp only at this
      omega)
     clear had2 hat
     generalize g[j]=a at *
     obtain ⟨an,ao,av⟩:=a
     try simp only at a0 a1 a2
     have hns2:an.size≤1000000:=by have:=NS2.out;simp only at this;omega
     have hnm2:an.size≤maxLen:=by unfold maxLen;omega
     obtain ⟨Bp,dp,hpv,-,-⟩:=(hN'.p an).own
     obtain ⟨Bg,dg,hgv,-,-⟩:=(hN'.g an).own
     have GG:=Lib.hid (hN'.g an)
     rw [hgv] at GG
     have hlg:(gfU an (L.take k) 0++gfs1 an k (g.take j)).length≤200000:=by
      rw [List.length_append]
      have q1:=LNG.out an
      have q2:=LNJ.out an
      have q3:=HJ.out
      have q4:=HK.out
      have q5:(L.take k).length≤k:=List.length_take_le _ _
      have q6:(L.take k).length*(1000+1)≤63*1001:=Nat.mul_le_mul (Nat.le_trans q5 q4) (Nat.le_refl _)
      omega
     obtain ⟨mp,hmp⟩:∃m,m=(ixU (isN an) (L.take (k+1)) 0).length:=⟨_,rfl⟩
     obtain ⟨mg,hmg⟩:∃m,m=(gfU an (L.take k) 0++gfs1 an k (g.take j)).length:=⟨_,rfl⟩
     rw [←hmp] at hpv
     rw [←hmg] at hgv GG
     have hlk:=MapN.look (F:=F') (hM'.kept (World.grownBy_alloc wr (.cells #[.string an,.int .i64 ao,.string av] 62) none) (by simp)) an hns2 hpv hgv
     generalize hglx:gfU an (L.take k) 0++gfs1 an k (g.take j)=lg at GG hlg
     have HGL:=Lib.hid hglx
     have HPV:=Lib.hid hpv
     have HGV:=Lib.hid hgv
     clear hpv hgv hmp hmg hglx
     obtain ⟨W2,hW2⟩:∃W,W=(wr.alloc (.cells #[.string an,.int .i64 ao,.string av] 62)).alloc (.cells #[.slice Bp mp dp,.slice Bg mg dg] 101):=⟨_,rfl⟩
     have b2:Below wr.heap.size wr W2:=by rw [hW2];exact ((Below.refl _ wr).alloc (Nat.le_refl _) _).alloc (by simp) _
     have s2:W2.heap.size=wr.heap.size+2:=by rw [hW2];simp
     have x0:W2.cell? ⟨wr.heap.size,0,none⟩=some (.string an):=by rw [hW2];simp [go_sem]
     have x1:W2.cell? ⟨wr.heap.size,1,none⟩=some (.int .i64 ao):=by rw [hW2];simp [go_sem]
     have x2:W2.cell? ⟨wr.heap.size,2,none⟩=some (.string av):=by rw [hW2];simp [go_sem]
     have y0:W2.cell? ⟨wr.heap.size+1,0,none⟩=some (.slice Bp mp dp):=by rw [hW2];simp [go_sem]
     have y1:W2.cell? ⟨wr.heap.size+1,1,none⟩=some (.slice Bg mg dg):=by rw [hW2];simp [go_sem]
     have f0:W2.frozen? ⟨wr.heap.size+1,1,none⟩=false:=by rw [hW2];simp [go_sem]
     have HB2:=Lib.hid b2
     have HS2:=Lib.hid s2
     have GG2:=Lib.hid (GG.out.below rdGf_good b2)
     have HM:=Lib.hid (hM'.kept (w':=W2) (row:=none) ⟨b2.os,b2.tape,b2.output,b2.size,fun q hq _=>b2.block q hq⟩ (by simp))
     have HNI:=Lib.hid hN'
     clear hM' hN' GG
     have hn1:lg.length+1≤maxLen:=by unfold maxLen;omega
     have hn2:(lg.length+1)*48≤140737488355328:=by omega
     have hbs:w.heap.size+1≤W2.heap.size:=by have:=S67.out;omega
     clear b2 s2
     go_wp2_with (at_builtin;rw [←hW2];refine wpList_grow1_at W2 rfl _ _ 99 rfl rdGf_good (by decide) (fun _=>True) (w.heap.size+1) 103 fg _ 48 Tryz.underlying99 hj hy0 hy1 hy2 rfl (.slice Bg mg dg) lg rfl GG2.out ⟨(k:Int),⟨an,ao,av⟩⟩ _ 103 rfl (wr.heap.size+2) HS2.out.symm rfl hn1 hn2 hbs ?_)
     intro v1 w8 hG4 hg4 hm4
     rw [←hW2] at hg4 hm4
     obtain ⟨Bq,dq,hv1,-,-⟩:=hG4.own
     obtain ⟨mq,hmq⟩:∃m,m=(lg++[(⟨(k:Int),⟨an,ao,av⟩⟩:Gf)]).length:=⟨_,rfl⟩
     rw [←hmq] at hv1
     subst hv1
     have rowne:∀q,wr.heap.size≤q→(Value.slice Bg mg dg).ownBlock≠some q:=fun q hq hh=>by
      have:=((HNI.out.g an).lt q (by rw [HGV.out];exact hh)).2
      omega
     have rowge:∀q,(Value.slice Bg mg dg).ownBlock=some q→w.heap.size+1≤q:=fun q hh=>((HNI.out.g an).lt q (by rw [HGV.out];exact hh)).1
     have rowgap:∀q,w6.heap.size≤q→q < w7.heap.size→(Value.slice Bg mg dg).ownBlock≠some q:=fun q h1 h2 hh=>by
      have:=HGP.out an q (.inr (by rw [HGV.out];exact hh))
      omega
     have hsz4:wr.heap.size+2≤w8.heap.size:=by have:=hg4.size;have:=HS2.out;omega
     replace x0:=far9 hg4 (by have:=HS2.out;omega) (rowne _ (Nat.le_refl _)) x0
     replace x1:=far9 hg4 (by have:=HS2.out;omega) (rowne _ (Nat.le_refl _)) x1
     replace x2:=far9 hg4 (by have:=HS2.out;omega) (rowne _ (Nat.le_refl _)) x2
     replace y0:=far9 (b:=wr.heap.size+1) hg4 (by have:=HS2.out;omega) (rowne (wr.heap.size+1) (Nat.le_succ _)) y0
     replace y1:=far9 (b:=wr.heap.size+1) hg4 (by have:=HS2.out;omega) (rowne (wr.heap.size+1) (Nat.le_succ _)) y1
     replace f0:=frz9 (b:=wr.heap.size+1) hg4 (by have:=HS2.out;omega) (rowne (wr.heap.size+1) (Nat.le_succ _)) f0
     obtain ⟨V,hV⟩:∃V,V=w8.setCell ⟨wr.heap.size+1,1,none⟩ (.slice Bq mq dq):=⟨_,rfl⟩
     have HMV:=Lib.hid (show MapN V w.heap.size n' F' from by
      rw [hV]
      exact (HM.out.kept hg4 (fun e=>by have:=rowge _ e.symm;omega)).kept (grown_set w8 _ _) (fun e=>by injection e with e;have:=S67.out;simp only at e;omega))
     have hVs:V.heap.size=w8.heap.size:=by rw [hV];simp
     have HG4:=Lib.hid hG4
     have Hg4:=Lib.hid hg4
     have Hm4:=Lib.hid hm4
     have ROW:=Lib.hid (And.intro rowgap rowge)
     have hn4:n' < maxLen:=by have:=HN'.out;have:=HK.out;have:=HJ.out;unfold maxLen;omega
     have HV:=Lib.hid hV
     clear x1 x2 hG4 hg4 hm4 rowne rowge rowgap hmq hlk hW2
     go_wp2_with (at_mapUpdate;rw [←hV];refine wpList_mapUpdate_fn rfl _ _ _ rfl lawStr9 Tryz.underlying9 Tryz.underlying87 HMV.out rfl hn4 an (.agg #[.slice Bp mp dp,.slice Bq mq dq]) rfl rfl hnm2 ?_)
     intro w9 hM9 hg9
     rw [←hV] at hg9
     clear hV x0 y0 y1 f0
     have HM9:=Lib.hid (show MapN w9 w.heap.size (n'+1) (upd9 F' an ((F' an).1,.slice Bq mq dq)) from by
      show MapF Tryz.prog 9 zz9 w9 w.heap.size (n'+1) (nmv (upd9 F' an ((F' an).1,.slice Bq mq dq)))
      rw [nmv_upd]
      simp only
      rw [HPV.out]
      exact hM9)
     have HN9:=Lib.hid ((HNI.out.stepG HB2.out HS2.out an HG4.out (by rw [HGV.out];exact Hg4.out) (by rw [HGV.out];exact Hm4.out) (Nat.lt_succ_self w.heap.size) (by rw [←HV.out];exact hg9)).cast (pl':=fun s=>ixU (isN s) (L.take (k+1)) 0) (gl':=fun s=>gfU s (L.take k) 0++gfs1 s k (g.take (j+1))) (fun s=>rfl) (fun s=>by
      by_cases e:s=an
      ·subst e
       rw [upd9_same,STJ.out,←HGL.out,List.append_assoc]
       exact congrArg _ (if_pos rfl).symm
      ·rw [upd9_ne _ _ e,STJ.out]
       exact congrArg _ (if_neg (fun q=>e q.symm)).symm))
     have HP9:=Lib.hid (HGP.out.addG (W:=W2) (s:=an) (v':=.slice Bq mq dq) (by rw [HGV.out];exact Hm4.out) (by have:=HS2.out;have:=HS7.out;omega))
     have hg9':(w8.setCell ⟨wr.heap.size+1,1,none⟩ (.slice Bq mq dq)).grownBy w9 (some w.heap.size):=by rw [←HV.out];exact hg9
     have HMD:=Lib.hid (fun q (h1:w6.heap.size≤q) (h2:q < w7.heap.size)=>(step_mid HB2.out Hg4.out hg9' (by have:=HS7.out;omega) (ROW.out.1 q h1 h2) (by have:=S67.out;omega)).trans (HMID.out q h1 h2))
     have BM9:=Lib.hid (step_below HBI.out HB2.out Hg4.out (fun q hq=>Nat.le_of_succ_le (ROW.out.2 q hq)) hg9' (Nat.le_refl _))
     have HS9:=Lib.hid (show w7.heap.size≤w9.heap.size by have:=hg9.size;have:=HS7.out;omega)
     clear hM9 hg9 hg9' HMV hVs HG4 Hg4 Hm4 ROW HV HM HNI GG2 HB2 HS2 HPV HGV hn4 hsz4 hn1 hn2 hbs HGL STJ a0 a1 a2 HBI HMID HGP HS7
     go_wp2
     go_roundw
     case rel=>exact ⟨j+1,by omega,by go_num,⟨_,n'+1,by have:=HN'.out;omega,HM9.out,HN9.out,HP9.out⟩,HMD.out,HS9.out,BM9.out⟩
     case measure=>simp [intOf];omega
    ·obtain rfl:j=g.length:=by omega
     have HJ:=Lib.hid (show g.length≤1001 by
      have e1:g.length=p.length+1:=by rw [←HGX.out];rfl
      have:=PX.out.1
      try simp only at this
      omega)
     have HMI:=Lib.hid hM'
     have HNI:=Lib.hid (hN'.cast (pl':=fun s=>ixU (isN s) (L.take (k+1)) 0) (gl':=fun s=>gfU s (L.take (k+1)) 0) (fun _=>rfl) (fun s=>by rw [STG.out,List.take_length]))
     clear hM' hN' hsz7
     go_wp2
     go_roundw
     case rel=>exact ⟨k+1,by omega,by go_num,⟨F',n',by have:=HN'.out;have:=HJ.out;omega,HMI.out,HNI.out⟩,HBI.out,by have:=S67.out;have:=HS7.out;omega⟩
     case measure=>simp [intOf];omega
  ·obtain rfl:k=L.length:=by omega
   have HMI:=Lib.hid hM
   have HNI:=Lib.hid (hN.cast (pl':=fun s=>ixU (isN s) L 0) (gl':=fun s=>gfU s L 0) (fun s=>by rw [List.take_length]) (fun s=>by rw [List.take_length]))
   clear hM hN hbel
   go_wp2
   go_ret
   exact ⟨rfl,⟨F,nn,HMI.out,HNI.out⟩,HB.out⟩
def cmpB6 (a b:ByteArray):Int:=if Op.bytesLess a.toList b.toList=true then -1 else if Op.bytesLess b.toList a.toList=true then 1 else 0
theorem isNaN_any (a:ByteArray) (w:World):Calls Tryz.prog 140 #[.string a] w fun e w'=>e=.returned (.bool false)∧w=w':=by
 go_enter Tryz.func140,Tryz.ntmps140
 go_wp2
 go_ret
 exact ⟨by first|rfl|simp,rfl⟩
theorem cmpB6_is (a b:ByteArray):(a=b∧cmpB6 a b=0)∨(a≠b∧Op.bytesLess a.toList b.toList=true∧cmpB6 a b=-1)∨(a≠b∧Op.bytesLess a.toList b.toList=false∧cmpB6 a b=1):=by
 rcases blt_tot a b with h|h|h
 ·refine .inr (.inl ⟨fun e=>?_,h,if_pos h⟩)
  subst e;exact blt_self _ h
 ·have h':¬Op.bytesLess a.toList b.toList=true:=fun k=>blt_asym h k
  refine .inr (.inr ⟨fun e=>?_,Bool.eq_false_iff.2 h',by unfold cmpB6;rw [if_neg h',if_pos (show Op.bytesLess b.toList a.toList=true from h)]⟩)
  subst e;exact blt_self _ h
 ·subst h
  refine .inl ⟨rfl,?_⟩
  have h':¬Op.bytesLess a.toList a.toList=true:=fun k=>blt_self a k
  unfold cmpB6;rw [if_neg h',if_neg h']
set_option maxHeartbeats 2000000 in
theorem cmpB6_any (a b:ByteArray) (w:World):Calls Tryz.prog 112 #[.string a,.string b] w fun e w'=>e=.returned (.int .i64 (cmpB6 a b))∧w=w':=by
 have he:=str_eq a b
 rcases cmpB6_is a b with ⟨h,e⟩|⟨h,h1,e⟩|⟨h,h1,e⟩<;>rw [e]
 ·have h1:Op.bytesLess a.toList b.toList=false:=by rw [h];exact Bool.eq_false_iff.2 (blt_self _)
  rw [decide_eq_true h] at he
  clear h e
  go_enter Tryz.func112,Tryz.ntmps112
  go_wp2_with (go_at_call 140;(with_reducible refine (isNaN_any _ _).mono ?_);rintro e w' ⟨rfl,rfl⟩)
  go_ret
  exact ⟨rfl,rfl⟩
 ·rw [decide_eq_false h] at he
  clear h e
  go_enter Tryz.func112,Tryz.ntmps112
  go_wp2_with (go_at_call 140;(with_reducible refine (isNaN_any _ _).mono ?_);rintro e w' ⟨rfl,rfl⟩)
  go_ret
  exact ⟨rfl,rfl⟩
 ·rw [decide_eq_false h] at he
  clear h e
  go_enter Tryz.func112,Tryz.ntmps112
  go_wp2_with (go_at_call 140;(with_reducible refine (isNaN_any _ _).mono ?_);rintro e w' ⟨rfl,rfl⟩)
  go_ret
  exact ⟨rfl,rfl⟩
theorem lesB_or (x y:Ent):decide (orL [cmpB6 x.n y.n,orderV (B x.v) (B y.v),cmpB6 x.v y.v] < 0)=lesB x y:=by
 unfold lesB
 generalize orderV (B x.v) (B y.v)=o
 rcases cmpB6_is x.n y.n with ⟨h,e⟩|⟨h,b,e⟩|⟨h,b,e⟩
 ·rw [if_pos h,e]
  rcases Int.lt_trichotomy o 0 with ho|ho|ho
  ·have:orL [0,o,cmpB6 x.v y.v]=o:=by unfold orL;rw [if_neg (by decide)];unfold orL;rw [if_pos (by omega)]
   rw [this,decide_eq_true ho];rfl
  ·subst ho
   have:orL [0,0,cmpB6 x.v y.v]=cmpB6 x.v y.v:=by
    unfold orL;rw [if_neg (by decide)];unfold orL;rw [if_neg (by decide)];unfold orL
    split
    ·rfl
    ·rename_i h;simp only [ne_eq,Decidable.not_not] at h;rw [h];rfl
   rw [this]
   rcases cmpB6_is x.v y.v with ⟨h,e⟩|⟨h,b,e⟩|⟨h,b,e⟩
   ·rw [e]
    have:Op.bytesLess x.v.toList y.v.toList=false:=by rw [h];exact Bool.eq_false_iff.2 (blt_self _)
    rw [this];rfl
   ·rw [e,b];rfl
   ·rw [e,b];rfl
  ·have:orL [0,o,cmpB6 x.v y.v]=o:=by unfold orL;rw [if_neg (by decide)];unfold orL;rw [if_pos (by omega)]
   rw [this,decide_eq_false (by omega)]
   rw [beq_eq_false_iff_ne.2 (by omega)];rfl
 ·rw [if_neg h,e,b];rfl
 ·rw [if_neg h,e,b];rfl
end Go.Proofs.YthchfkhpmgkghaaGreatDoor
namespace Go.Proofs.YthchfkhpmgkghaaGreatDoor
open Go.RowKit Go.ChangeShapes Go.WideShapes Go.ChangeAt
def laidL:List (String × DataW Unit):=[("math/bits.deBruijn32tab",Rows.laid_math_bits_deBruijn32tab),("math/bits.deBruijn64tab",Rows.laid_math_bits_deBruijn64tab),("internal/strconv.uint64pow10",Rows.laid_internal_strconv_uint64pow10),("unicode/utf8.acceptRanges",Rows.laid_unicode_utf8_acceptRanges),("strconv.ErrRange",Rows.laid_strconv_ErrRange),("strconv.ErrSyntax",Rows.laid_strconv_ErrSyntax),("keelson/relation.signs",Rows.laid_keelson_relation_signs),("unicode/utf8.first",Rows.laid_unicode_utf8_first)]
theorem g_pow:Tryz.prog.globalNamed "internal/strconv.uint64pow10"=some 4:=by kernel_rfl
theorem t_pow:(Tryz.prog.globals[4]?).map (·.type)=some 225:=by kernel_rfl
theorem c_pow:Tryz.prog.cellsOf 225=20:=by kernel_rfl
theorem c_u64:Tryz.prog.cellsOf 140=1:=by kernel_rfl
theorem d_pow:(Rows.laid_internal_strconv_uint64pow10:DataW Unit)=Lib.tabData .u64 Lib.pow10Tab:=by kernel_rfl
theorem g_rng:Tryz.prog.globalNamed "strconv.ErrRange"=some 3:=by kernel_rfl
theorem t_rng:(Tryz.prog.globals[3]?).map (·.type)=some 176:=by kernel_rfl
theorem g_syn:Tryz.prog.globalNamed "strconv.ErrSyntax"=some 2:=by kernel_rfl
theorem t_syn:(Tryz.prog.globals[2]?).map (·.type)=some 176:=by kernel_rfl
theorem c_es:Tryz.prog.cellsOf 223=1:=by kernel_rfl
theorem c_str:Tryz.prog.cellsOf 9=1:=by kernel_rfl
theorem g_sgn:Tryz.prog.globalNamed "keelson/relation.signs"=some 0:=by kernel_rfl
theorem t_sgn:(Tryz.prog.globals[0]?).map (·.type)=some 165:=by kernel_rfl
theorem c_sgn:Tryz.prog.cellsOf 165=5:=by kernel_rfl
theorem d_sgn:(Rows.laid_keelson_relation_signs:DataW Unit)=strTab [[60,60],[60,61],[61],[62,61],[62,62]]:=by kernel_rfl
theorem star: "*"++ "errors.errorString"= "*errors.errorString":=by decide
theorem row_es (u:TypeId) (h:Tryz.prog.typeName? 3 u=some "*errors.errorString"):u=221:=
 typeName_ptr_named (nm:= "errors.errorString") (by rw [star];kernel_rfl) (by kernel_rfl) (by decide) u (by rw [star];exact h)
theorem env_of {W:World} (h0:laidMetH Tryz.prog laidL W) (hsh:W.ShapedOpen Tryz.prog):EnvR W:=by
 rw [MakeChecks.laidMetH_plain _ _ _ (by kernel_rfl)] at h0
 have h1:=h0.tail
 have h2:=h1.tail
 have h3:=h2.tail
 have h4:=h3.tail
 have h5:=h4.tail
 have h6:=h5.tail
 obtain ⟨a0,s0,hv0,-,-,-⟩:=laid_sentinel h4 g_rng t_rng Tryz.underlying176 row_es Tryz.underlying221 Tryz.underlying223 rfl rfl Tryz.underlying9 c_es c_str
 obtain ⟨a1,s1,hv1,-,-,-⟩:=laid_sentinel h5 g_syn t_syn Tryz.underlying176 row_es Tryz.underlying221 Tryz.underlying223 rfl rfl Tryz.underlying9 c_es c_str
 have hs:=fun i z hi=>strs_of_head g_sgn t_sgn Tryz.underlying165 Tryz.underlying9 c_str c_sgn (d_sgn ▸ h6) i z hi
 have hp:=h2
 rw [d_pow] at hp
 exact ⟨⟨Go.Proofs.cell_of_shapedOpen_int (zero:=#[.int .i64 0]) (t:=3) hsh (of_decide_eq_true (by kernel_rfl)) (by kernel_rfl) rfl (by kernel_rfl) (by kernel_rfl) Tryz.underlying3,Lib.tabIs_of_head g_pow t_pow Tryz.underlying225 Tryz.underlying140 c_u64 c_pow hp,⟨_,_,hv1⟩,⟨_,_,hv0⟩⟩,⟨hs 0 _ rfl,hs 1 _ rfl,hs 2 _ rfl,hs 3 _ rfl,hs 4 _ rfl⟩⟩
theorem own':ownKnob Tryz.prog.godebug=none:=by kernel_rfl
theorem door_os (os:Os):(World.laidAll Tryz.prog os laidL).os=os:=World.laidAll_os _ _ _
theorem door_shaped (os:Os) (args:Array Value):((World.laidAll Tryz.prog os laidL).forCall (fun _ _=>0) ⟨#[],args,[]⟩).Shaped Tryz.prog:=World.shaped_of_ZipB (by kernel_rfl) (by kernel_rfl)
theorem door_met (os:Os) (args:Array Value):laidMetH Tryz.prog laidL ((World.laidAll Tryz.prog os laidL).forCall (fun _ _=>0) ⟨#[],args,[]⟩).memory:=by
 rw [MakeChecks.laidMetH_plain _ _ _ (by kernel_rfl)]
 exact laidMet_laidAll _ (by kernel_rfl) (by kernel_rfl)
end Go.Proofs.YthchfkhpmgkghaaGreatDoor
