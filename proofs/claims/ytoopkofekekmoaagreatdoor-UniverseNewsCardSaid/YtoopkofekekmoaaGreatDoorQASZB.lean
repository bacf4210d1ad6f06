/- What the laws rest on: N9f, P6f, E9r, E9h, Door. -/
import Derived.Test.YtoopkofekekmoaaGreatDoorTie
import Derived.Test.YtoopkofekekmoaaGreatDoorCards
import Derived.LaidMore
import Derived.Lay
import Derived.Stop.Joined
import Derived.Stop.LaidErr
import Derived.Deep.DeepHandedRow
import Derived.Test.YtoopkofekekmoaaGreatDoorQANZB
import Derived.Test.YtoopkofekekmoaaGreatDoorQBBZB
import Derived.Test.YtoopkofekekmoaaGreatDoorQBCZB
set_option maxRecDepth 100000
set_option linter.unusedVariables false
set_option linter.unusedSimpArgs false
namespace Go.Proofs.YtoopkofekekmoaaGreatDoor
open Go.RowKit
abbrev zz9:Value:=.agg #[.slice none 0 0,.slice none 0 0]
abbrev MapN (w:World) (b n:Nat) (F:ByteArray→Value × Value):Prop:=MapF Tryz.prog 9 zz9 w b n (nmv F)
theorem bel_mid {N:Nat} {a b c:World} (h:Below N a b) (k:Below N a c) (hs:b.heap.size≤c.heap.size):Below N b c:=⟨k.os.trans h.os.symm,k.tape.trans h.tape.symm,k.output.trans h.output.symm,hs,fun q hq=>(k.block q hq).trans (h.block q hq).symm⟩
theorem MapN.look {w:World} {b n:Nat} {F:ByteArray→Value × Value} (h:MapN w b n F) (s:ByteArray) (hs:s.size≤1000000) {pv gv:Value} (hp:(F s).1=pv) (hg:(F s).2=gv) :
  (Instr.lookup 71 (.map (some b)) (.string s) false).run Tryz.prog w=.ok (.agg #[pv,gv]) w:=by
 rw [MapF.look h lawStr9 Tryz.underlying9 Tryz.underlying71 (zeroNm9 w) s (by unfold maxLen;omega)]
 unfold nmv
 rw [hp,hg]
set_option maxHeartbeats 16000000 in
theorem byName9_any (A:Option Addr) (n0 c:Nat) (L:List Ent) (w:World) (h:rdEnts w (lt_ w.heap.size) L [.slice A n0 c]) (hl:L.length≤64) (hp:∀x ∈ L,x.p.length≤1000∧x.n.size≤65536∧∀a ∈ gvs x,a.n.size≤65536) :
  Calls Tryz.prog 39 #[.slice A n0 c] w fun e w'=>e=.returned (.map (some w.heap.size))∧(∃F n,MapN w' w.heap.size n F∧NmS w' (w.heap.size+1) F (fun s=>ixU (isN s) L 0) (fun s=>gfU s L 0))∧Below w.heap.size w w':=by
 have hmm:=@run_makeMap Tryz.prog
 obtain ⟨rfl,hnc,hcm,-⟩:=rdEnts_at h
 have hcm':c≤9223372036854775807:=hcm
 obtain ⟨fi,hi,hz0,hz1,hz2⟩:=info_parts int9_info
 obtain ⟨fg,hj,hy0,hy1,hy2⟩:=info_parts gift_info
 have H:=Lib.hid h
 have HP:=Lib.hid hp
 clear h hcm hp
 go_enter Tryz.func39,Tryz.ntmps39
 go_wp2
 go_loopw [13] (fun i wr=>∃k:Nat,k≤L.length∧i=.int .i64 k∧(∃F n,n≤k*2000∧MapN wr w.heap.size n F∧NmS wr (w.heap.size+1) F (fun s=>ixU (isN s) (L.take k) 0) (fun s=>gfU s (L.take k) 0))∧Below w.heap.size w wr∧w.heap.size+1≤wr.heap.size) (fun i _=>L.length - (intOf i).toNat)
 case atStart=>exact ⟨0,Nat.zero_le _,rfl,⟨fun _=>(.slice none 0 0,.slice none 0 0),0,Nat.zero_le _,MapF.made w _ _ _,NmS.nil _ _⟩,(Below.refl _ _).alloc (Nat.le_refl _) _,by rw [World.size_alloc];exact Nat.le_refl _⟩
 case round=>
  obtain ⟨k,hk,rfl,⟨F,nn,hnn,hM,hN⟩,hbel,hsw⟩:=hrel
  have HB:=Lib.hid hbel
  by_cases hlt:k < L.length
  ·obtain ⟨-,-,-,hat⟩:=rdEnts_at (rdEnts_good.below H.out hbel)
   obtain ⟨ad,A1,c1,A2,c2,A3,c3,A4,c4,rfl,had,hv,h0,h1,h2,h3,h4,h5⟩:=hat k hlt
   have i0:(0:Int)≤(k:Int):=by omega
   have i1:(k:Int) < (L.length:Int):=by omega
   have HX:=Lib.hid hv
   have PX:=Lib.hid (HP.out L[k] (List.getElem_mem hlt))
   have STP:=Lib.hid (fun s=>ixU_take (n:=s) hlt)
   have STG:=Lib.hid (fun s=>gfU_take (n:=s) hlt)
   have LNP:=Lib.hid (fun s=>Nat.le_trans (ixU_len (p:=isN s) (L:=L.take k) (i:=0)) (List.length_take_le _ _))
   have LNG:=Lib.hid (fun s=>gfU_len (n:=s) (L:=L.take k) (i:=0) (m:=1000) (fun x hx=>(HP.out x (List.mem_of_mem_take hx)).1))
   have HK:=Lib.hid (show k≤63 by omega)
   clear had hat hv hbel
   generalize L[k]=x at *
   obtain ⟨n,v,d,r,c',p⟩:=x
   simp only at h0 h1 h2 h3 h4 h5
   have hns:n.size≤1000000:=by have:=PX.out.2.1;simp only at this;omega
   have hnm:n.size≤maxLen:=by unfold maxLen;omega
   obtain ⟨Axp,cp,hpv,-,-⟩:=(hN.p n).own
   obtain ⟨Axg,cg,hgv,-,-⟩:=(hN.g n).own
   have GP:=Lib.hid (hN.p n)
   rw [hpv] at GP
   obtain ⟨np,hnp⟩:∃m,m=(ixU (isN n) (L.take k) 0).length:=⟨_,rfl⟩
   obtain ⟨ng,hng⟩:∃m,m=(gfU n (L.take k) 0).length:=⟨_,rfl⟩
   rw [←hnp] at hpv GP
   rw [←hng] at hgv
   have hlp:(ixU (isN n) (L.take k) 0).length+1≤65:=by have:=LNP.out n;have:=HK.out;omega
   have HPL:=Lib.hid (STP.out n)
   generalize hplx:ixU (isN n) (L.take k) 0=lp at GP hlp HPL
   have HPX:=Lib.hid hplx
   clear hplx
   have hlk:=MapN.look (F:=F) (hM.kept (World.grownBy_alloc wr (.cells #[.string n,.string v,.slice A1 d.length c1,.slice A2 r.length c2,.slice A3 c'.length c3,.slice A4 p.length c4] 53) none) (by simp)) n hns hpv hgv
   have HPV:=Lib.hid hpv
   have HGV:=Lib.hid hgv
   have HNN:=Lib.hid hnn
   clear hpv hgv hnp hng hnn
   obtain ⟨W2,hW2⟩:∃W,W=(wr.alloc (.cells #[.string n,.string v,.slice A1 d.length c1,.slice A2 r.length c2,.slice A3 c'.length c3,.slice A4 p.length c4] 53)).alloc (.cells #[.slice Axp np cp,.slice Axg ng cg] 85):=⟨_,rfl⟩
   have b2:Below wr.heap.size wr W2:=by rw [hW2];exact ((Below.refl _ wr).alloc (Nat.le_refl _) _).alloc (by simp) _
   have s2:W2.heap.size=wr.heap.size+2:=by rw [hW2];simp
   have x0:W2.cell? ⟨wr.heap.size,0,none⟩=some (.string n):=by rw [hW2];simp [go_sem]
   have x1:W2.cell? ⟨wr.heap.size,1,none⟩=some (.string v):=by rw [hW2];simp [go_sem]
   have x2:W2.cell? ⟨wr.heap.size,2,none⟩=some (.slice A1 d.length c1):=by rw [hW2];simp [go_sem]
   have x3:W2.cell? ⟨wr.heap.size,3,none⟩=some (.slice A2 r.length c2):=by rw [hW2];simp [go_sem]
   have x4:W2.cell? ⟨wr.heap.size,4,none⟩=some (.slice A3 c'.length c3):=by rw [hW2];simp [go_sem]
   have x5:W2.cell? ⟨wr.heap.size,5,none⟩=some (.slice A4 p.length c4):=by rw [hW2];simp [go_sem]
   have y0:W2.cell? ⟨wr.heap.size+1,0,none⟩=some (.slice Axp np cp):=by rw [hW2];simp [go_sem]
   have y1:W2.cell? ⟨wr.heap.size+1,1,none⟩=some (.slice Axg ng cg):=by rw [hW2];simp [go_sem]
   have f0:W2.frozen? ⟨wr.heap.size+1,0,none⟩=false:=by rw [hW2];simp [go_sem]
   have HB2:=Lib.hid b2
   have HS2:=Lib.hid s2
   have GP2:=Lib.hid (GP.out.below rdInt_good b2)
   have HM:=Lib.hid (hM.kept (w':=W2) (row:=none) ⟨b2.os,b2.tape,b2.output,b2.size,fun q hq _=>b2.block q hq⟩ (by simp))
   have HN:=Lib.hid hN
   clear hM hN GP
   have hn1:lp.length+1≤maxLen:=by unfold maxLen;omega
   have hn2:(lp.length+1)*8≤140737488355328:=by omega
   have hbs:w.heap.size+1≤W2.heap.size:=by omega
   have HSW:=Lib.hid hsw
   clear hsw b2 s2
   go_wp2_with (at_builtin;rw [←hW2];refine wpList_grow1_at W2 rfl _ _ 44 rfl rdInt_good (by decide) (fun _=>True) (w.heap.size+1) 3 fi _ 8 Tryz.underlying44 hi hz0 hz1 hz2 rfl (.slice Axp np cp) lp rfl GP2.out (k:Int) _ 3 rfl (wr.heap.size+2) HS2.out.symm rfl hn1 hn2 hbs ?_)
   intro v1 w4 hG4 hg4 hm4
   rw [←hW2] at hg4 hm4
   obtain ⟨Axq,cq,hv1,-,-⟩:=hG4.own
   obtain ⟨nq,hnq⟩:∃m,m=(lp++[(k:Int)]).length:=⟨_,rfl⟩
   rw [←hnq] at hv1
   subst hv1
   have rowne:∀q,wr.heap.size≤q→(Value.slice Axp np cp).ownBlock≠some q:=fun q hq hh=>by
    have:=((HN.out.p n).lt q (by rw [HPV.out];exact hh)).2
    omega
   have rowge:∀q,(Value.slice Axp np cp).ownBlock=some q→w.heap.size+1≤q:=fun q hh=>((HN.out.p n).lt q (by rw [HPV.out];exact hh)).1
   have hsz4:wr.heap.size+2≤w4.heap.size:=by have:=hg4.size;have:=HS2.out;omega
   replace x0:=far9 hg4 (by have:=HS2.out;omega) (rowne _ (Nat.le_refl _)) x0
   replace x1:=far9 hg4 (by have:=HS2.out;omega) (rowne _ (Nat.le_refl _)) x1
   replace x2:=far9 hg4 (by have:=HS2.out;omega) (rowne _ (Nat.le_refl _)) x2
   replace x3:=far9 hg4 (by have:=HS2.out;omega) (rowne _ (Nat.le_refl _)) x3
   replace x4:=far9 hg4 (by have:=HS2.out;omega) (rowne _ (Nat.le_refl _)) x4
   replace x5:=far9 hg4 (by have:=HS2.out;omega) (rowne _ (Nat.le_refl _)) x5
   replace y0:=far9 (b:=wr.heap.size+1) hg4 (by have:=HS2.out;omega) (rowne (wr.heap.size+1) (Nat.le_succ _)) y0
   replace y1:=far9 (b:=wr.heap.size+1) hg4 (by have:=HS2.out;omega) (rowne (wr.heap.size+1) (Nat.le_succ _)) y1
   replace f0:=frz9 (b:=wr.heap.size+1) hg4 (by have:=HS2.out;omega) (rowne (wr.heap.size+1) (Nat.le_succ _)) f0
   obtain ⟨V,hV⟩:∃V,V=w4.setCell ⟨wr.heap.size+1,0,none⟩ (.slice Axq nq cq):=⟨_,rfl⟩
   have z0:V.cell? ⟨wr.heap.size,0,none⟩=some (.string n):=by rw [hV];simp [go_sem,x0]
   have z1:V.cell? ⟨wr.heap.size,1,none⟩=some (.string v):=by rw [hV];simp [go_sem,x1]
   have z2:V.cell? ⟨wr.heap.size,2,none⟩=some (.slice A1 d.length c1):=by rw [hV];simp [go_sem,x2]
   have z3:V.cell? ⟨wr.heap.size,3,none⟩=some (.slice A2 r.length c2):=by rw [hV];simp [go_sem,x3]
   have z4:V.cell? ⟨wr.heap.size,4,none⟩=some (.slice A3 c'.length c3):=by rw [hV];simp [go_sem,x4]
   have z5:V.cell? ⟨wr.heap.size,5,none⟩=some (.slice A4 p.length c4):=by rw [hV];simp [go_sem,x5]
   have t0:V.cell? ⟨wr.heap.size+1,0,none⟩=some (.slice Axq nq cq):=by rw [hV];simp [go_sem,y0,f0]
   have t1:V.cell? ⟨wr.heap.size+1,1,none⟩=some (.slice Axg ng cg):=by rw [hV];simp [go_sem,y1]
   have HMV:=Lib.hid (show MapN V w.heap.size nn F from by
    rw [hV]
    exact (HM.out.kept hg4 (fun e=>by have:=rowge _ e.symm;omega)).kept (grown_set w4 _ _) (fun e=>by injection e with e;have:=HSW.out;simp only at e;omega))
   have hVs:V.heap.size=w4.heap.size:=by rw [hV];simp
   have HG4:=Lib.hid hG4
   have Hg4:=Lib.hid hg4
   have Hm4:=Lib.hid hm4
   have ROW:=Lib.hid (And.intro rowne rowge)
   have hn4:nn < maxLen:=by have:=HNN.out;have:=HK.out;unfold maxLen;omega
   have HV:=Lib.hid hV
   clear x1 x2 x3 x4 x5 hG4 hg4 hm4 rowne rowge hnq hlk hW2
   go_wp2_with (at_mapUpdate;rw [←hV];refine wpList_mapUpdate_fn rfl _ _ _ rfl lawStr9 Tryz.underlying9 Tryz.underlying71 HMV.out rfl hn4 n (.agg #[.slice Axq nq cq,.slice Axg ng cg]) rfl rfl hnm ?_)
   intro w6 hM6 hg6
   rw [←hV] at hg6
   clear hV x0 y0 y1 f0 t0 t1
   have HM6:=Lib.hid (show MapN w6 w.heap.size (nn+1) (upd9 F n (.slice Axq nq cq,(F n).2)) from by
    show MapF Tryz.prog 9 zz9 w6 w.heap.size (nn+1) (nmv (upd9 F n (.slice Axq nq cq,(F n).2)))
    rw [nmv_upd]
    simp only
    rw [HGV.out]
    exact hM6)
   have HN6:=Lib.hid ((HN.out.stepP HB2.out HS2.out n HG4.out (by rw [HPV.out];exact Hg4.out) (by rw [HPV.out];exact Hm4.out) (Nat.lt_succ_self w.heap.size) (by rw [←HV.out];exact hg6)).cast (pl':=fun s=>ixU (isN s) (L.take (k+1)) 0) (gl':=fun s=>gfU s (L.take k) 0) (fun s=>by
    by_cases e:s=n
    ·subst e
     rw [upd9_same,STP.out,HPX.out]
     exact (if_pos rfl).symm
    ·rw [upd9_ne _ _ e,STP.out]
     exact (if_neg (fun q=>e q.symm)).symm) (fun s=>rfl))
   have BM6:=Lib.hid (step_below HB.out HB2.out Hg4.out (fun q hq=>Nat.le_of_succ_le (ROW.out.2 q hq)) (show (w4.setCell ⟨wr.heap.size+1,0,none⟩ (.slice Axq nq cq)).grownBy w6 (some w.heap.size) by rw [←HV.out];exact hg6) (Nat.le_refl _))
   have hs6:wr.heap.size+2≤w6.heap.size:=by have:=hg6.size;omega
   replace z0:=far9 hg6 (by omega) (fun e=>by injection e with e;have:=HSW.out;omega) z0
   replace z1:=far9 hg6 (by omega) (fun e=>by injection e with e;have:=HSW.out;omega) z1
   replace z2:=far9 hg6 (by omega) (fun e=>by injection e with e;have:=HSW.out;omega) z2
   replace z3:=far9 hg6 (by omega) (fun e=>by injection e with e;have:=HSW.out;omega) z3
   replace z4:=far9 hg6 (by omega) (fun e=>by injection e with e;have:=HSW.out;omega) z4
   replace z5:=far9 hg6 (by omega) (fun e=>by injection e with e;have:=HSW.out;omega) z5
   have KG:=Lib.hid (gives6_any ⟨n,v,d,r,c',p⟩ A1 c1 A2 c2 A3 c3 A4 c4 w6 ((HX.out.below (bel_mid HB.out BM6.out (by omega))).up BM6.out.size) PX.out.1)
   have SN6:=Lib.hid hs6
   clear hM6 hg6 HMV hVs HG4 Hg4 Hm4 ROW HV HM HN GP2 HB2 HS2 HPV HGV hn4 hsz4 hn1 hn2 hbs HPL HPX STP HX h0 h1 h2 h3 h4 h5 hlp LNP
   generalize hgx:gvs ⟨n,v,d,r,c',p⟩=g at *
   have HGX:=Lib.hid hgx
   clear hgx
   go_wp2_with fail
   refine KG.out.mono ?_
   rintro e w7 ⟨⟨Ah,ch,rfl,hr7⟩,hb7⟩
   obtain ⟨-,hnc7,hcm7,-⟩:=rdAtms_at hr7
   have hcm7':ch≤9223372036854775807:=hcm7
   have HR7:=Lib.hid hr7
   have HB7:=Lib.hid hb7
   clear hr7 hb7 hcm7 KG z0 z1 z2 z3 z4 z5
   obtain ⟨wo,rfl⟩:∃W,W=wr:=⟨_,rfl⟩
   go_wp2
   go_loopw [35] (fun i wr=>∃j:Nat,j≤g.length∧i=.int .i64 j∧(∃F' n',n'≤k*2000+1+j∧MapN wr w.heap.size n' F'∧NmS wr (w.heap.size+1) F' (fun s=>ixU (isN s) (L.take (k+1)) 0) (fun s=>gfU s (L.take k) 0++gfs1 s k (g.take j))∧Gap9 w6.heap.size w7.heap.size F')∧(∀q,w6.heap.size≤q→q < w7.heap.size→wr.heap[q]?=w7.heap[q]?)∧w7.heap.size≤wr.heap.size∧Below w.heap.size w wr) (fun i _=>g.length - (intOf i).toNat)
   case atStart=>exact ⟨0,Nat.zero_le _,rfl,⟨_,nn+1,by have:=HNN.out;omega,HM6.out.below HM6.out.lt HB7.out,(HN6.out.below HB7.out).cast (fun _=>rfl) (fun s=>(List.append_nil _).symm),HN6.out.gap _⟩,fun _ _ _=>rfl,Nat.le_refl _,BM6.out.trans (HB7.out.mono BM6.out.size)⟩
   case round=>
    clear HM6 HN6 BM6
    obtain ⟨j,hjl,rfl,⟨F',n',hn',hM',hN',hG'⟩,hmid,hsz7,hbi⟩:=hrel
    have HBI:=Lib.hid hbi
    have HMID:=Lib.hid hmid
    have HS7:=Lib.hid hsz7
    have HGP:=Lib.hid hG'
    have HN':=Lib.hid hn'
    have S67:=Lib.hid (show w6.heap.size≤w7.heap.size∧wo.heap.size+2≤w6.heap.size∧w.heap.size+1≤wo.heap.size from ⟨HB7.out.size,SN6.out,HSW.out⟩)
    clear hmid hG' hn' hbi
    by_cases hlt2:j < g.length
    ·obtain ⟨-,-,-,hat⟩:=rdAtms_at (rdAtms_good.keep HR7.out (fun b hb=>HMID.out b hb.1 hb.2))
     obtain ⟨ad2,rfl,had2,a0,a1,a2⟩:=hat j hlt2
     have i0:(0:Int)≤(j:Int):=by omega
     have i1:(j:Int) < (g.length:Int):=by omega
     have NS2:=Lib.hid (PX.out.2.2 g[j] (List.getElem_mem hlt2))
     have STJ:=Lib.hid (fun s=>gfs1_take (n:=s) (i:=k) hlt2)
     have LNJ:=Lib.hid (fun s=>show (gfs1 s k (g.take j)).length≤j from by unfold gfs1;rw [List.length_map];exact Nat.le_trans (List.length_filter_le _ _) (List.length_take_le _ _))
     have HJ:=Lib.hid (show j≤1000 by
      have e1:g.length=p.length+1:=by rw [←HGX.out];rfl
      have:=PX.out.1
      try simp only at this
      omega)
     clear had2 hat
     generalize g[j]=a at *
     obtain ⟨an,ao,av⟩:=a
     try simp only at a0 a1 a2
     have hns2:an.size≤1000000:=by have:=NS2.out;simp only at this;omega
     have hnm2:an.size≤maxLen:=by unfold maxLen;omega
     obtain ⟨Bp,dp,hpv,-,-⟩:=(hN'.p an).own
     obtain ⟨Bg,dg,hgv,-,-⟩:=(hN'.g an).own
     have GG:=Lib.hid (hN'.g an)
     rw [hgv] at GG
     have hlg:(gfU an (L.take k) 0++gfs1 an k (g.take j)).length≤200000:=by
      rw [List.length_append]
      have q1:=LNG.out an
      have q2:=LNJ.out an
      have q3:=HJ.out
      have q4:=HK.out
      have q5:(L.take k).length≤k:=List.length_take_le _ _
      have q6:(L.take k).length*(1000+1)≤63*1001:=Nat.mul_le_mul (Nat.le_trans q5 q4) (Nat.le_refl _)
      omega
     obtain ⟨mp,hmp⟩:∃m,m=(ixU (isN an) (L.take (k+1)) 0).length:=⟨_,rfl⟩
     obtain ⟨mg,hmg⟩:∃m,m=(gfU an (L.take k) 0++gfs1 an k (g.take j)).length:=⟨_,rfl⟩
     rw [←hmp] at hpv
     rw [←hmg] at hgv GG
     have hlk:=MapN.look (F:=F') (hM'.kept (World.grownBy_alloc wr (.cells #[.string an,.int .i64 ao,.string av] 59) none) (by simp)) an hns2 hpv hgv
     generalize hglx:gfU an (L.take k) 0++gfs1 an k (g.take j)=lg at GG hlg
     have HGL:=Lib.hid hglx
     have HPV:=Lib.hid hpv
     have HGV:=Lib.hid hgv
     clear hpv hgv hmp hmg hglx
     obtain ⟨W2,hW2⟩:∃W,W=(wr.alloc (.cells #[.string an,.int .i64 ao,.string av] 59)).alloc (.cells #[.slice Bp mp dp,.slice Bg mg dg] 85):=⟨_,rfl⟩
     have b2:Below wr.heap.size wr W2:=by rw [hW2];exact ((Below.refl _ wr).alloc (Nat.le_refl _) _).alloc (by simp) _
     have s2:W2.heap.size=wr.heap.size+2:=by rw [hW2];simp
     have x0:W2.cell? ⟨wr.heap.size,0,none⟩=some (.string an):=by rw [hW2];simp [go_sem]
     have x1:W2.cell? ⟨wr.heap.size,1,none⟩=some (.int .i64 ao):=by rw [hW2];simp [go_sem]
     have x2:W2.cell? ⟨wr.heap.size,2,none⟩=some (.string av):=by rw [hW2];simp [go_sem]
     have y0:W2.cell? ⟨wr.heap.size+1,0,none⟩=some (.slice Bp mp dp):=by rw [hW2];simp [go_sem]
     have y1:W2.cell? ⟨wr.heap.size+1,1,none⟩=some (.slice Bg mg dg):=by rw [hW2];simp [go_sem]
     have f0:W2.frozen? ⟨wr.heap.size+1,1,none⟩=false:=by rw [hW2];simp [go_sem]
     have HB2:=Lib.hid b2
     have HS2:=Lib.hid s2
     have GG2:=Lib.hid (GG.out.below rdGf_good b2)
     have HM:=Lib.hid (hM'.kept (w':=W2) (row:=none) ⟨b2.os,b2.tape,b2.output,b2.size,fun q hq _=>b2.block q hq⟩ (by simp))
     have HNI:=Lib.hid hN'
     clear hM' hN' GG
     have hn1:lg.length+1≤maxLen:=by unfold maxLen;omega
     have hn2:(lg.length+1)*48≤140737488355328:=by omega
     have hbs:w.heap.size+1≤W2.heap.size:=by have:=S67.out;omega
     clear b2 s2
     go_wp2_with (at_builtin;rw [←hW2];refine wpList_grow1_at W2 rfl _ _ 83 rfl rdGf_good (by decide) (fun _=>True) (w.heap.size+1) 87 fg _ 48 Tryz.underlying83 hj hy0 hy1 hy2 rfl (.slice Bg mg dg) lg rfl GG2.out ⟨(k:Int),⟨an,ao,av⟩⟩ _ 87 rfl (wr.heap.size+2) HS2.out.symm rfl hn1 hn2 hbs ?_)
     intro v1 w8 hG4 hg4 hm4
     rw [←hW2] at hg4 hm4
     obtain ⟨Bq,dq,hv1,-,-⟩:=hG4.own
     obtain ⟨mq,hmq⟩:∃m,m=(lg++[(⟨(k:Int),⟨an,ao,av⟩⟩:Gf)]).length:=⟨_,rfl⟩
     rw [←hmq] at hv1
     subst hv1
     have rowne:∀q,wr.heap.size≤q→(Value.slice Bg mg dg).ownBlock≠some q:=fun q hq hh=>by
      have:=((HNI.out.g an).lt q (by rw [HGV.out];exact hh)).2
      omega
     have rowge:∀q,(Value.slice Bg mg dg).ownBlock=some q→w.heap.size+1≤q:=fun q hh=>((HNI.out.g an).lt q (by rw [HGV.out];exact hh)).1
     have rowgap:∀q,w6.heap.size≤q→q < w7.heap.size→(Value.slice Bg mg dg).ownBlock≠some q:=fun q h1 h2 hh=>by
      have:=HGP.out an q (.inr (by rw [HGV.out];exact hh))
      omega
     have hsz4:wr.heap.size+2≤w8.heap.size:=by have:=hg4.size;have:=HS2.out;omega
     replace x0:=far9 hg4 (by have:=HS2.out;omega) (rowne _ (Nat.le_refl _)) x0
     replace x1:=far9 hg4 (by have:=HS2.out;omega) (rowne _ (Nat.le_refl _)) x1
     replace x2:=far9 hg4 (by have:=HS2.out;omega) (rowne _ (Nat.le_refl _)) x2
     replace y0:=far9 (b:=wr.heap.size+1) hg4 (by have:=HS2.out;omega) (rowne (wr.heap.size+1) (Nat.le_succ _)) y0
     replace y1:=far9 (b:=wr.heap.size+1) hg4 (by have:=HS2.out;omega) (rowne (wr.heap.size+1) (Nat.le_succ _)) y1
     replace f0:=frz9 (b:=wr.heap.size+1) hg4 (by have:=HS2.out;omega) (rowne (wr.heap.size+1) (Nat.le_succ _)) f0
     obtain ⟨V,hV⟩:∃V,V=w8.setCell ⟨wr.heap.size+1,1,none⟩ (.slice Bq mq dq):=⟨_,rfl⟩
     have HMV:=Lib.hid (show MapN V w.heap.size n' F' from by
      rw [hV]
      exact (HM.out.kept hg4 (fun e=>by have:=rowge _ e.symm;omega)).kept (grown_set w8 _ _) (fun e=>by injection e with e;have:=S67.out;simp only at e;omega))
     have hVs:V.heap.size=w8.heap.size:=by rw [hV];simp
     have HG4:=Lib.hid hG4
     have Hg4:=Lib.hid hg4
     have Hm4:=Lib.hid hm4
     have ROW:=Lib.hid (And.intro rowgap rowge)
     have hn4:n' < maxLen:=by have:=HN'.out;have:=HK.out;have:=HJ.out;unfold maxLen;omega
     have HV:=Lib.hid hV
     clear x1 x2 hG4 hg4 hm4 rowne rowge rowgap hmq hlk hW2
     go_wp2_with (at_mapUpdate;rw [←hV];refine wpList_mapUpdate_fn rfl _ _ _ rfl lawStr9 Tryz.underlying9 Tryz.underlying71 HMV.out rfl hn4 an (.agg #[.slice Bp mp dp,.slice Bq mq dq]) rfl rfl hnm2 ?_)
     intro w9 hM9 hg9
     rw [←hV] at hg9
     clear hV x0 y0 y1 f0
     have HM9:=Lib.hid (show MapN w9 w.heap.size (n'+1) (upd9 F' an ((F' an).1,.slice Bq mq dq)) from by
      show MapF Tryz.prog 9 zz9 w9 w.heap.size (n'+1) (nmv (upd9 F' an ((F' an).1,.slice Bq mq dq)))
      rw [nmv_upd]
      simp only
      rw [HPV.out]
      exact hM9)
     have HN9:=Lib.hid ((HNI.out.stepG HB2.out HS2.out an HG4.out (by rw [HGV.out];exact Hg4.out) (by rw [HGV.out];exact Hm4.out) (Nat.lt_succ_self w.heap.size) (by rw [←HV.out];exact hg9)).cast (pl':=fun s=>ixU (isN s) (L.take (k+1)) 0) (gl':=fun s=>gfU s (L.take k) 0++gfs1 s k (g.take (j+1))) (fun s=>rfl) (fun s=>by
      by_cases e:s=an
      ·subst e
       rw [upd9_same,STJ.out,←HGL.out,List.append_assoc]
       exact congrArg _ (if_pos rfl).symm
      ·rw [upd9_ne _ _ e,STJ.out]
       exact congrArg _ (if_neg (fun q=>e q.symm)).symm))
     have HP9:=Lib.hid (HGP.out.addG (W:=W2) (s:=an) (v':=.slice Bq mq dq) (by rw [HGV.out];exact Hm4.out) (by have:=HS2.out;have:=HS7.out;omega))
     have hg9':(w8.setCell ⟨wr.heap.size+1,1,none⟩ (.slice Bq mq dq)).grownBy w9 (some w.heap.size):=by rw [←HV.out];exact hg9
     have HMD:=Lib.hid (fun q (h1:w6.heap.size≤q) (h2:q < w7.heap.size)=>(step_mid HB2.out Hg4.out hg9' (by have:=HS7.out;omega) (ROW.out.1 q h1 h2) (by have:=S67.out;omega)).trans (HMID.out q h1 h2))
     have BM9:=Lib.hid (step_below HBI.out HB2.out Hg4.out (fun q hq=>Nat.le_of_succ_le (ROW.out.2 q hq)) hg9' (Nat.le_refl _))
     have HS9:=Lib.hid (show w7.heap.size≤w9.heap.size by have:=hg9.size;have:=HS7.out;omega)
     clear hM9 hg9 hg9' HMV hVs HG4 Hg4 Hm4 ROW HV HM HNI GG2 HB2 HS2 HPV HGV hn4 hsz4 hn1 hn2 hbs HGL STJ a0 a1 a2 HBI HMID HGP HS7
     go_wp2
     go_roundw
     case rel=>exact ⟨j+1,by omega,by go_num,⟨_,n'+1,by have:=HN'.out;omega,HM9.out,HN9.out,HP9.out⟩,HMD.out,HS9.out,BM9.out⟩
     case measure=>simp [intOf];omega
    ·obtain rfl:j=g.length:=by omega
     have HJ:=Lib.hid (show g.length≤1001 by
      have e1:g.length=p.length+1:=by rw [←HGX.out];rfl
      have:=PX.out.1
      try simp only at this
      omega)
     have HMI:=Lib.hid hM'
     have HNI:=Lib.hid (hN'.cast (pl':=fun s=>ixU (isN s) (L.take (k+1)) 0) (gl':=fun s=>gfU s (L.take (k+1)) 0) (fun _=>rfl) (fun s=>by rw [STG.out,List.take_length]))
     clear hM' hN' hsz7
     go_wp2
     go_roundw
     case rel=>exact ⟨k+1,by omega,by go_num,⟨F',n',by have:=HN'.out;have:=HJ.out;omega,HMI.out,HNI.out⟩,HBI.out,by have:=S67.out;have:=HS7.out;omega⟩
     case measure=>simp [intOf];omega
  ·obtain rfl:k=L.length:=by omega
   have HMI:=Lib.hid hM
   have HNI:=Lib.hid (hN.cast (pl':=fun s=>ixU (isN s) L 0) (gl':=fun s=>gfU s L 0) (fun s=>by rw [List.take_length]) (fun s=>by rw [List.take_length]))
   clear hM hN hbel
   go_wp2
   go_ret
   exact ⟨rfl,⟨F,nn,HMI.out,HNI.out⟩,HB.out⟩
def cmpB6 (a b:ByteArray):Int:=if Op.bytesLess a.toList b.toList=true then -1 else if Op.bytesLess b.toList a.toList=true then 1 else 0
theorem isNaN_any (a:ByteArray) (w:World):Calls Tryz.prog 116 #[.string a] w fun e w'=>e=.returned (.bool false)∧w=w':=by
 go_enter Tryz.func116,Tryz.ntmps116
 go_wp2
 go_ret
 exact ⟨by first|rfl|simp,rfl⟩
theorem cmpB6_is (a b:ByteArray):(a=b∧cmpB6 a b=0)∨(a≠b∧Op.bytesLess a.toList b.toList=true∧cmpB6 a b=-1)∨(a≠b∧Op.bytesLess a.toList b.toList=false∧cmpB6 a b=1):=by
 rcases blt_tot a b with h|h|h
 ·refine .inr (.inl ⟨fun e=>?_,h,if_pos h⟩)
  subst e;exact blt_self _ h
 ·have h':¬Op.bytesLess a.toList b.toList=true:=fun k=>blt_asym h k
  refine .inr (.inr ⟨fun e=>?_,Bool.eq_false_iff.2 h',by unfold cmpB6;rw [if_neg h',if_pos (show Op.bytesLess b.toList a.toList=true from h)]⟩)
  subst e;exact blt_self _ h
 ·subst h
  refine .inl ⟨rfl,?_⟩
  have h':¬Op.bytesLess a.toList a.toList=true:=fun k=>blt_self a k
  unfold cmpB6;rw [if_neg h',if_neg h']
set_option maxHeartbeats 2000000 in
theorem cmpB6_any (a b:ByteArray) (w:World):Calls Tryz.prog 91 #[.string a,.string b] w fun e w'=>e=.returned (.int .i64 (cmpB6 a b))∧w=w':=by
 have he:=str_eq a b
 rcases cmpB6_is a b with ⟨h,e⟩|⟨h,h1,e⟩|⟨h,h1,e⟩<;>rw [e]
 ·have h1:Op.bytesLess a.toList b.toList=false:=by rw [h];exact Bool.eq_false_iff.2 (blt_self _)
  rw [decide_eq_true h] at he
  clear h e
  go_enter Tryz.func91,Tryz.ntmps91
  go_wp2_with (go_at_call 116;(with_reducible refine (isNaN_any _ _).mono ?_);rintro e w' ⟨rfl,rfl⟩)
  go_ret
  exact ⟨rfl,rfl⟩
 ·rw [decide_eq_false h] at he
  clear h e
  go_enter Tryz.func91,Tryz.ntmps91
  go_wp2_with (go_at_call 116;(with_reducible refine (isNaN_any _ _).mono ?_);rintro e w' ⟨rfl,rfl⟩)
  go_ret
  exact ⟨rfl,rfl⟩
 ·rw [decide_eq_false h] at he
  clear h e
  go_enter Tryz.func91,Tryz.ntmps91
  go_wp2_with (go_at_call 116;(with_reducible refine (isNaN_any _ _).mono ?_);rintro e w' ⟨rfl,rfl⟩)
  go_ret
  exact ⟨rfl,rfl⟩
theorem lesB_or (x y:Ent):decide (orL [cmpB6 x.n y.n,orderV (B x.v) (B y.v),cmpB6 x.v y.v] < 0)=lesB x y:=by
 unfold lesB
 generalize orderV (B x.v) (B y.v)=o
 rcases cmpB6_is x.n y.n with ⟨h,e⟩|⟨h,b,e⟩|⟨h,b,e⟩
 ·rw [if_pos h,e]
  rcases Int.lt_trichotomy o 0 with ho|ho|ho
  ·have:orL [0,o,cmpB6 x.v y.v]=o:=by unfold orL;rw [if_neg (by decide)];unfold orL;rw [if_pos (by omega)]
   rw [this,decide_eq_true ho];rfl
  ·subst ho
   have:orL [0,0,cmpB6 x.v y.v]=cmpB6 x.v y.v:=by
    unfold orL;rw [if_neg (by decide)];unfold orL;rw [if_neg (by decide)];unfold orL
    split
    ·rfl
    ·rename_i h;simp only [ne_eq,Decidable.not_not] at h;rw [h];rfl
   rw [this]
   rcases cmpB6_is x.v y.v with ⟨h,e⟩|⟨h,b,e⟩|⟨h,b,e⟩
   ·rw [e]
    have:Op.bytesLess x.v.toList y.v.toList=false:=by rw [h];exact Bool.eq_false_iff.2 (blt_self _)
    rw [this];rfl
   ·rw [e,b];rfl
   ·rw [e,b];rfl
  ·have:orL [0,o,cmpB6 x.v y.v]=o:=by unfold orL;rw [if_neg (by decide)];unfold orL;rw [if_pos (by omega)]
   rw [this,decide_eq_false (by omega)]
   rw [beq_eq_false_iff_ne.2 (by omega)];rfl
 ·rw [if_neg h,e,b];rfl
 ·rw [if_neg h,e,b];rfl
def gvA (a:Atm) (x:Ent):Bool:=(gvs x).any (pvB a)
end Go.Proofs.YtoopkofekekmoaaGreatDoor
namespace Go.Proofs.YtoopkofekekmoaaGreatDoor
open Go.RowKit Go.Sort
def NewU (w':World) (L:List Ent) (m:List Hr) (e:Ending):Prop:=
 (¬(L.all rgtE=true∧rightH m=true)→e=.returned (.tuple #[.pointer none,.int .i64 1]))∧
 ((L.all rgtE=true∧rightH m=true)→64 < (entU L (m.map fun y=>y.e)).length→e=.returned (.tuple #[.pointer none,.int .i64 8]))∧
 ((L.all rgtE=true∧rightH m=true)→¬64 < (entU L (m.map fun y=>y.e)).length→∃b,e=.returned (.tuple #[.pointer (some ⟨b,0,none⟩),.int .i64 0])∧UR w' b (entU L (m.map fun y=>y.e)) m)
def URF (w:World) (b:Nat) (l:List Ent) (m:List Hr):Prop:=UR w b l m∧w.frozen? ⟨b,0,none⟩=false
theorem URF.below {w w':World} {b:Nat} {l:List Ent} {m:List Hr} (h:URF w b l m) (hB:Below w.heap.size w w'):URF w' b l m:=by
 obtain ⟨h1,h2⟩:=h
 refine ⟨h1.below hB,?_⟩
 obtain ⟨A,c,A',c',h0,-⟩:=h1
 exact (World.frozen?_of_block (hB.block b (block_lt_of_cell h0))).trans h2
set_option maxHeartbeats 16000000 in
theorem q9new_any (A:Option Addr) (n0 c:Nat) (L:List Ent) (A':Option Addr) (n1 c':Nat) (m:List Hr) (w:World) (h:rdEnts w (lt_ w.heap.size) L [.slice A n0 c]) (h':rdHrs w (lt_ w.heap.size) m [.slice A' n1 c']) (hz:∀x ∈ L,Sz x) (hz':∀y ∈ m,Sz y.e) (hl:L.length≤90) (hm:m.length≤90) :
  Calls Tryz.prog 11 #[.slice A n0 c,.slice A' n1 c'] w fun e w'=>NewU w' L m e∧Below w.heap.size w w':=by
 have mixed:Tryz.prog.follows .mixedOrders=true:=by kernel_rfl
 obtain ⟨rfl,hnc,hcm,-⟩:=rdEnts_at h
 obtain ⟨rfl,hnc',hcm',-⟩:=rdHrs_at h'
 have hcx:c≤9223372036854775807:=hcm
 have hcy:c'≤9223372036854775807:=hcm'
 have KR:=Lib.hid (fun (x:Ent) (A1:Option Addr) (c1:Nat) (A2:Option Addr) (c2:Nat) (A3:Option Addr) (c3:Nat) (A4:Option Addr) (c4:Nat) (W:World) hx hz=>q6right_any q3name_any q4r_atom q4right_any x A1 c1 A2 c2 A3 c3 A4 c4 W hx hz)
 have K7:=Lib.hid (q7right_any KR.out A' m.length c' m w h' hz')
 have HH:=Lib.hid (fun (W:World) (hb:Below w.heap.size w W)=>(rdEnts_at (rdEnts_good.below h hb)).2.2.2)
 have HM:=Lib.hid (fun (W:World) (hb:Below w.heap.size w W)=>(rdHrs_at (rdHrs_good.below h' hb)).2.2.2)
 have HZ:=Lib.hid hz
 have H':=Lib.hid h'
 have HLN:=Lib.hid hl
 have HMN:=Lib.hid hm
 clear h h' hcm hcm' hz hz' hl hm
 go_enter Tryz.func11,Tryz.ntmps11
 go_wp2_with fail
 refine K7.out.mono ?_
 rintro e w1 ⟨rfl,hb⟩
 have B1:=Lib.hid hb
 clear hb K7
 cases hR:rightH m
 ·have X:=Lib.hid (show ¬(L.all rgtE=true∧rightH m=true) by rw [hR];exact fun q=>by cases q.2)
  clear hR
  go_wp2
  go_ret2
  exact ⟨⟨fun _=>rfl,fun q=>absurd q X.out,fun q=>absurd q X.out⟩,B1.out⟩
 have HR:=Lib.hid hR
 clear hR
 obtain ⟨w2,hw2⟩:∃W,W=w1.alloc (.cells #[.slice none 0 0,.slice A' m.length c'] 36):=⟨_,rfl⟩
 have hb2:Below w1.heap.size w1 w2:=by rw [hw2];exact (Below.refl _ w1).alloc (Nat.le_refl _) _
 have hf2:w2.frozen? ⟨w1.heap.size,0,none⟩=false:=by rw [hw2];simp [go_sem]
 have hc0:w2.cell? ⟨w1.heap.size,0,none⟩=some (.slice none 0 0):=by rw [hw2];simp [go_sem]
 have hc1:w2.cell? ⟨w1.heap.size,1,none⟩=some (.slice A' m.length c'):=by rw [hw2];simp [go_sem]
 have U0:=Lib.hid (show URF w2 w1.heap.size [] m from ⟨⟨none,0,A',c',hc0,hc1,rdRow_nil _ _,rdHrs_good.both H'.out (fun k hk=>(bel_in B1.out hb2).block k hk) (fun k hk=>⟨Nat.lt_of_lt_of_le hk (bel_in B1.out hb2).size,fun e=>by have:=B1.out.size;unfold lt_ at hk;omega⟩)⟩,hf2⟩)
 have B2:=Lib.hid hb2
 have SW:=Lib.hid (show w1.heap.size≤w2.heap.size by have:=hb2.size;omega)
 clear hb2 hf2 hc0 hc1
 go_wp2_with fail
 rw [←hw2]
 clear hw2
 obtain ⟨b,hbb⟩:∃b,b=w1.heap.size:=⟨_,rfl⟩
 rw [←hbb] at U0 SW
 rw [←hbb]
 have HBB:=Lib.hid hbb
 clear hbb
 go_wp2
 go_loopw [8] (fun i wr=>∃k:Nat,k≤m.length∧i=.int .i64 k∧URF wr b (((m.map fun y=>y.e).take k).foldl putU []) m∧Below w1.heap.size w1 wr∧b≤wr.heap.size) (fun i _=>m.length - (intOf i).toNat)
 case atStart=>exact ⟨0,Nat.zero_le _,rfl,U0.out,B2.out,SW.out⟩
 case round=>
  obtain ⟨k,hk,rfl,hu,hb,hs⟩:=hrel
  have HB:=Lib.hid hb
  have HU:=Lib.hid hu
  have HS:=Lib.hid hs
  clear hu hb hs
  by_cases hlt:k < m.length
  ·obtain ⟨ad,A1,c1,A2,c2,A3,c3,A4,c4,rfl,had,hv,g0,g1,g2,g3,g4,g5,-,-⟩:=HM.out wr (B1.out.trans (HB.out.mono B1.out.size)) k hlt
   have i0:(0:Int)≤(k:Int):=by omega
   have i1:(k:Int) < (m.length:Int):=by omega
   have ST:=Lib.hid (show ((m.map fun y=>y.e).take (k+1)).foldl putU []=putU (((m.map fun y=>y.e).take k).foldl putU []) m[k].e from by rw [fold_take (by rw [List.length_map];exact hlt),List.getElem_map])
   have HV:=Lib.hid (show EntV wr (fun j=>j < wr.heap.size∧j≠b) m[k].e A1 c1 A2 c2 A3 c3 A4 c4 from hv.to (fun j hj=>rfl) (fun j hj=>⟨Nat.lt_of_lt_of_le hj (bel_in B1.out HB.out).size,fun e=>by have:=B1.out.size;have:=HBB.out;unfold lt_ at hj;omega⟩))
   have LN:=Lib.hid (show (((m.map fun y=>y.e).take k).foldl putU []).length≤200 by rw [fold_put_len,List.length_take,List.length_map];have:=HMN.out;simp only [List.length_nil];omega)
   clear had hv
   generalize ((m.map fun y=>y.e).take k).foldl putU []=gl at *
   have KP:=Lib.hid (q9put_any b gl m m[k].e A1 c1 A2 c2 A3 c3 A4 c4 wr HU.out.1 HU.out.2 HV.out LN.out)
   generalize m[k].e=x at *
   go_wp2_with fail
   refine KP.out.mono ?_
   rintro e w3 ⟨rfl,hur,hg,hf⟩
   have N1:=Lib.hid (show URF w3 b (((m.map fun y=>y.e).take (k+1)).foldl putU []) m from by rw [ST.out];exact ⟨hur,hf⟩)
   have N2:=Lib.hid (show Below w1.heap.size w1 w3 from HB.out.grown hg HB.out.size (fun j hj=>by cases hj;rw [HBB.out];exact Nat.le_refl _))
   have N3:=Lib.hid (show b≤w3.heap.size from Nat.le_trans HS.out hg.size)
   clear hur hg hf KP
   go_wp2
   go_roundw
   case rel=>exact ⟨k+1,by omega,by go_num,N1.out,N2.out,N3.out⟩
   case measure=>simp [intOf];omega
  ·obtain rfl:k=m.length:=by omega
   have i0:¬(m.length:Int) < (m.length:Int):=by omega
   have HU0:=Lib.hid (show URF wr b ((m.map fun y=>y.e).foldl putU []) m from by
    have:=HU.out
    rwa [List.take_of_length_le (by rw [List.length_map];exact Nat.le_refl _)] at this)
   have LN0:=Lib.hid (show ((m.map fun y=>y.e).foldl putU []).length≤90 by rw [fold_put_len,List.length_map];have:=HMN.out;simp only [List.length_nil];omega)
   have EN0:=Lib.hid (show entU L (m.map fun y=>y.e)=L.foldl addU ((m.map fun y=>y.e).foldl putU []) from rfl)
   clear HU HM U0
   generalize (m.map fun y=>y.e).foldl putU []=HE at *
   obtain ⟨wa,hwa⟩:∃W,W=wr:=⟨_,rfl⟩
   rw [←hwa] at HB HU0 HS ⊢
   clear hwa
   go_wp2
   go_loopw [9] (fun i wr=>∃k:Nat,k≤L.length∧i=.int .i64 k∧Hid ((L.take k).all rgtE=true)∧URF wr b HE m∧Below w1.heap.size w1 wr∧b≤wr.heap.size) (fun i _=>L.length - (intOf i).toNat)
   case atStart=>exact ⟨0,Nat.zero_le _,rfl,Lib.hid rfl,HU0.out,HB.out,HS.out⟩
   case round=>
    obtain ⟨k,hk,rfl,HA,hu,hb,hs⟩:=hrel
    have HB:=Lib.hid hb
    have HU:=Lib.hid hu
    have HS:=Lib.hid hs
    clear hu hb hs
    by_cases hlt:k < L.length
    ·obtain ⟨ad,A1,c1,A2,c2,A3,c3,A4,c4,rfl,had,hv,g0,g1,g2,g3,g4,g5⟩:=HH.out wr (B1.out.trans (HB.out.mono B1.out.size)) k hlt
     have i0:(0:Int)≤(k:Int):=by omega
     have i1:(k:Int) < (L.length:Int):=by omega
     have SP:=Lib.hid (fun hf=>all_stop6 (f:=rgtE) hlt hf)
     have ST:=Lib.hid (fun hf=>all_step6 (f:=rgtE) hlt HA.out hf)
     have K:=Lib.hid (KR.out L[k] A1 c1 A2 c2 A3 c3 A4 c4 wr (hv.up (bel_in B1.out HB.out).size) (HZ.out _ (List.getElem_mem hlt)))
     clear had hv HA
     generalize hrb:rgtE L[k]=rb at *
     generalize L[k]=x at *
     go_wp2_with fail
     refine K.out.mono ?_
     rintro e w3 ⟨rfl,hb⟩
     have N1:=Lib.hid (HU.out.below (hb.mono (Nat.le_refl _)))
     have N2:=Lib.hid (HB.out.trans (hb.mono HB.out.size))
     have N3:=Lib.hid (show b≤w3.heap.size from Nat.le_trans HS.out hb.size)
     clear hb K hrb
     cases rb
     ·have X:=Lib.hid (show ¬(L.all rgtE=true∧rightH m=true) from fun q=>by rw [SP.out rfl] at q;cases q.1)
      clear SP ST
      go_wp2
      go_ret2
      exact ⟨⟨fun _=>rfl,fun q=>absurd q X.out,fun q=>absurd q X.out⟩,B1.out.trans (N2.out.mono B1.out.size)⟩
     ·have NX:=Lib.hid (ST.out rfl)
      clear SP ST
      go_wp2
      go_roundw
      case rel=>exact ⟨k+1,by omega,by go_num,NX,N1.out,N2.out,N3.out⟩
      case measure=>simp [intOf];omega
    ·obtain rfl:k=L.length:=by omega
     have i0:¬(L.length:Int) < (L.length:Int):=by omega
     have HOK:=Lib.hid (show L.all rgtE=true∧rightH m=true from ⟨by have:=HA.out;rwa [List.take_length] at this,HR.out⟩)
     clear HU0 HA KR HZ
     obtain ⟨wb,hwb⟩:∃W,W=wr:=⟨_,rfl⟩
     rw [←hwb] at HB HU HS ⊢
     clear hwb
     go_wp2
     go_loopw [11] (fun i wr=>∃k:Nat,k≤L.length∧i=.int .i64 k∧URF wr b ((L.take k).foldl addU HE) m∧Below w1.heap.size w1 wr∧b≤wr.heap.size) (fun i _=>L.length - (intOf i).toNat)
     case atStart=>exact ⟨0,Nat.zero_le _,rfl,HU.out,HB.out,HS.out⟩
     case round=>
      obtain ⟨k,hk,rfl,hu,hb,hs⟩:=hrel
      have HB:=Lib.hid hb
      have HU:=Lib.hid hu
      have HS:=Lib.hid hs
      clear hu hb hs
      by_cases hlt:k < L.length
      ·obtain ⟨ad,A1,c1,A2,c2,A3,c3,A4,c4,rfl,had,hv,g0,g1,g2,g3,g4,g5⟩:=HH.out wr (B1.out.trans (HB.out.mono B1.out.size)) k hlt
       have i0:(0:Int)≤(k:Int):=by omega
       have i1:(k:Int) < (L.length:Int):=by omega
       have ST:=Lib.hid (show (L.take (k+1)).foldl addU HE=addU ((L.take k).foldl addU HE) L[k] from fold_take hlt)
       have HV:=Lib.hid (show EntV wr (fun j=>j < wr.heap.size∧j≠b) L[k] A1 c1 A2 c2 A3 c3 A4 c4 from hv.to (fun j hj=>rfl) (fun j hj=>⟨Nat.lt_of_lt_of_le hj (bel_in B1.out HB.out).size,fun e=>by have:=B1.out.size;have:=HBB.out;unfold lt_ at hj;omega⟩))
       have LN:=Lib.hid (show ((L.take k).foldl addU HE).length≤200 from Nat.le_trans (fold_addU_len _ _) (by rw [List.length_take];have:=HLN.out;have:=LN0.out;omega))
       have AP:=Lib.hid (add9_place (L:=(L.take k).foldl addU HE) (e:=L[k]))
       have KQ:=Lib.hid (fun (W:World) (hb:Below wr.heap.size wr W)=>q9place_any b ((L.take k).foldl addU HE) m L[k].n L[k].v W (HU.out.below hb).1)
       generalize (L.take k).foldl addU HE=gl at *
       generalize hpl:plU L[k].n L[k].v gl 0=pl at *
       have KP:=Lib.hid (fun (W:World) (hb:Below wr.heap.size wr W)=>q9put_any b gl m L[k] A1 c1 A2 c2 A3 c3 A4 c4 W (HU.out.below hb).1 (HU.out.below hb).2 (HV.out.to (fun j hj=>hb.block j hj.1) (fun j hj=>⟨Nat.lt_of_lt_of_le hj.1 hb.size,hj.2⟩)) LN.out)
       have y0:=fun dd os=>cell_regrown (w:=wr) g0 dd os
       have y1:=fun dd os=>cell_regrown (w:=wr) g1 dd os
       have YK:=Lib.hid (fun (W:World) (hb:Below wr.heap.size wr W)=>And.intro (keep6 hb g0) (And.intro (keep6 hb g1) (And.intro (keep6 hb g2) (And.intro (keep6 hb g3) (And.intro (keep6 hb g4) (keep6 hb g5))))))
       have K1:=Lib.hid (fun dd os=>(KQ.out (grow (redrawn wr dd) os) (below_regrown wr dd os)).mono (fun e w' hh=>And.intro hh.1 (hh.2.below (grow (redrawn wr dd) os).heap.size)))
       have BD:=Lib.hid (fun dd os=>below_regrown wr dd os)
       clear had hv hpl HV LN KQ g0 g1 g2 g3 g4 g5
       generalize L[k]=x at *
       by_cases hp:pl < 0
       ·go_wp2_with fail
        refine wp_region_quiet_below mixed (by kernel_rfl) ?_
        repeat (go_big_quiet_step (first|(go_at_call 43;refine Calls.regrown_of (K1.out _ _))))
        refine wpQuiet_nil ?_
        intro W3 hw3
        have BW3:=Lib.hid (show Below wr.heap.size wr W3 from by obtain ⟨pp,e⟩:=hw3;rw [e];exact BD.out pp.d pp.os)
        clear hw3 BD y0 y1 K1
        obtain ⟨g0,g1,g2,g3,g4,g5⟩:=YK.out W3 BW3.out
        go_wp2_with fail
        refine (KP.out W3 BW3.out).mono ?_
        rintro e w3 ⟨rfl,hur,hg,hf⟩
        have N1:=Lib.hid (show URF w3 b ((L.take (k+1)).foldl addU HE) m from by rw [ST.out,AP.out.1 hp];exact ⟨hur,hf⟩)
        have N2:=Lib.hid (show Below w1.heap.size w1 w3 from (HB.out.trans (BW3.out.mono HB.out.size)).grown hg (Nat.le_trans HB.out.size BW3.out.size) (fun j hj=>by cases hj;rw [HBB.out];exact Nat.le_refl _))
        have N3:=Lib.hid (show b≤w3.heap.size from Nat.le_trans (Nat.le_trans HS.out BW3.out.size) hg.size)
        clear hur hg hf KP g0 g1 g2 g3 g4 g5
        go_wp2
        go_roundw
        case rel=>exact ⟨k+1,by omega,by go_num,N1.out,N2.out,N3.out⟩
        case measure=>simp [intOf];omega
       ·go_wp2_with fail
        refine wp_region_quiet_below mixed (by kernel_rfl) ?_
        repeat (go_big_quiet_step (first|(go_at_call 43;refine Calls.regrown_of (K1.out _ _))))
        refine wpQuiet_nil ?_
        intro W3 hw3
        have BW3:=Lib.hid (show Below wr.heap.size wr W3 from by obtain ⟨pp,e⟩:=hw3;rw [e];exact BD.out pp.d pp.os)
        have N1:=Lib.hid (show URF W3 b ((L.take (k+1)).foldl addU HE) m from by rw [ST.out,AP.out.2 hp];exact HU.out.below BW3.out)
        have N2:=Lib.hid (show Below w1.heap.size w1 W3 from HB.out.trans (BW3.out.mono HB.out.size))
        have N3:=Lib.hid (show b≤W3.heap.size from Nat.le_trans HS.out BW3.out.size)
        clear hw3 BD y0 y1 K1 KP
        go_wp2
        go_roundw
        case rel=>exact ⟨k+1,by omega,by go_num,N1.out,N2.out,N3.out⟩
        case measure=>simp [intOf];omega
      ·obtain rfl:k=L.length:=by omega
       have i0:¬(L.length:Int) < (L.length:Int):=by omega
       have UE:=Lib.hid (show UR wr b (entU L (m.map fun y=>y.e)) m from by
        have:=HU.out.1
        rw [List.take_length] at this
        rw [EN0.out];exact this)
       clear HU HH
       obtain ⟨U,hU⟩:∃U,U=entU L (m.map fun y=>y.e):=⟨_,rfl⟩
       rw [←hU] at UE
       have EU:=Lib.hid hU
       clear hU
       obtain ⟨Au,cu,Av,cv,u0,-⟩:=id UE.out
       by_cases hn:64 < U.length
       ·have hn':(64:Int) < (U.length:Int):=by omega
        have HN:=Lib.hid hn
        clear hn
        go_wp2
        go_ret2
        exact ⟨⟨fun q=>absurd HOK.out q,fun _ _=>rfl,fun _ q=>absurd (by rw [←EU.out];exact HN.out) q⟩,B1.out.trans (HB.out.mono B1.out.size)⟩
       ·have hn':¬(64:Int) < (U.length:Int):=by omega
        have HN:=Lib.hid hn
        clear hn
        go_wp2
        go_ret2
        exact ⟨⟨fun q=>absurd HOK.out q,fun _ q=>absurd q (by rw [←EU.out];exact HN.out),fun _ _=>⟨b,rfl,by rw [←EU.out];exact UE.out⟩⟩,B1.out.trans (HB.out.mono B1.out.size)⟩
end Go.Proofs.YtoopkofekekmoaaGreatDoor
namespace Go.Proofs.YtoopkofekekmoaaGreatDoor
open Go.RowKit Go.ChangeShapes Go.WideShapes Go.ChangeAt
def laidL:List (String × DataW Unit):=[("math/bits.deBruijn32tab",Rows.laid_math_bits_deBruijn32tab),("math/bits.deBruijn64tab",Rows.laid_math_bits_deBruijn64tab),("internal/strconv.uint64pow10",Rows.laid_internal_strconv_uint64pow10),("unicode/utf8.acceptRanges",Rows.laid_unicode_utf8_acceptRanges),("strconv.ErrRange",Rows.laid_strconv_ErrRange),("strconv.ErrSyntax",Rows.laid_strconv_ErrSyntax),("keelson/relation.signs",Rows.laid_keelson_relation_signs),("unicode/utf8.first",Rows.laid_unicode_utf8_first)]
theorem g_pow:Tryz.prog.globalNamed "internal/strconv.uint64pow10"=some 4:=by kernel_rfl
theorem t_pow:(Tryz.prog.globals[4]?).map (·.type)=some 198:=by kernel_rfl
theorem c_pow:Tryz.prog.cellsOf 198=20:=by kernel_rfl
theorem c_u64:Tryz.prog.cellsOf 115=1:=by kernel_rfl
theorem d_pow:(Rows.laid_internal_strconv_uint64pow10:DataW Unit)=Lib.tabData .u64 Lib.pow10Tab:=by kernel_rfl
theorem g_rng:Tryz.prog.globalNamed "strconv.ErrRange"=some 3:=by kernel_rfl
theorem t_rng:(Tryz.prog.globals[3]?).map (·.type)=some 148:=by kernel_rfl
theorem g_syn:Tryz.prog.globalNamed "strconv.ErrSyntax"=some 2:=by kernel_rfl
theorem t_syn:(Tryz.prog.globals[2]?).map (·.type)=some 148:=by kernel_rfl
theorem c_es:Tryz.prog.cellsOf 196=1:=by kernel_rfl
theorem c_str:Tryz.prog.cellsOf 9=1:=by kernel_rfl
theorem g_sgn:Tryz.prog.globalNamed "keelson/relation.signs"=some 0:=by kernel_rfl
theorem t_sgn:(Tryz.prog.globals[0]?).map (·.type)=some 140:=by kernel_rfl
theorem c_sgn:Tryz.prog.cellsOf 140=5:=by kernel_rfl
theorem d_sgn:(Rows.laid_keelson_relation_signs:DataW Unit)=strTab [[60,60],[60,61],[61],[62,61],[62,62]]:=by kernel_rfl
theorem star: "*"++ "errors.errorString"= "*errors.errorString":=by decide
theorem row_es (u:TypeId) (h:Tryz.prog.typeName? 3 u=some "*errors.errorString"):u=194:=
 typeName_ptr_named (nm:= "errors.errorString") (by rw [star];kernel_rfl) (by kernel_rfl) (by decide) u (by rw [star];exact h)
theorem env_of {W:World} (h0:laidMetH Tryz.prog laidL W) (hsh:W.ShapedOpen Tryz.prog):EnvR W:=by
 rw [MakeChecks.laidMetH_plain _ _ _ (by kernel_rfl)] at h0
 have h1:=h0.tail
 have h2:=h1.tail
 have h3:=h2.tail
 have h4:=h3.tail
 have h5:=h4.tail
 have h6:=h5.tail
 obtain ⟨a0,s0,hv0,-,-,-⟩:=laid_sentinel h4 g_rng t_rng Tryz.underlying148 row_es Tryz.underlying194 Tryz.underlying196 rfl rfl Tryz.underlying9 c_es c_str
 obtain ⟨a1,s1,hv1,-,-,-⟩:=laid_sentinel h5 g_syn t_syn Tryz.underlying148 row_es Tryz.underlying194 Tryz.underlying196 rfl rfl Tryz.underlying9 c_es c_str
 have hs:=fun i z hi=>strs_of_head g_sgn t_sgn Tryz.underlying140 Tryz.underlying9 c_str c_sgn (d_sgn ▸ h6) i z hi
 have hp:=h2
 rw [d_pow] at hp
 exact ⟨⟨Go.Proofs.cell_of_shapedOpen_int (zero:=#[.int .i64 0]) (t:=3) hsh (of_decide_eq_true (by kernel_rfl)) (by kernel_rfl) rfl (by kernel_rfl) (by kernel_rfl) Tryz.underlying3,Lib.tabIs_of_head g_pow t_pow Tryz.underlying198 Tryz.underlying115 c_u64 c_pow hp,⟨_,_,hv1⟩,⟨_,_,hv0⟩⟩,⟨hs 0 _ rfl,hs 1 _ rfl,hs 2 _ rfl,hs 3 _ rfl,hs 4 _ rfl⟩⟩
theorem own':ownKnob Tryz.prog.godebug=none:=by kernel_rfl
theorem door_os (os:Os):(World.laidAll Tryz.prog os laidL).os=os:=World.laidAll_os _ _ _
theorem door_shaped (os:Os) (args:Array Value):((World.laidAll Tryz.prog os laidL).forCall (fun _ _=>0) ⟨#[],args,[]⟩).Shaped Tryz.prog:=World.shaped_of_ZipB (by kernel_rfl) (by kernel_rfl)
theorem door_met (os:Os) (args:Array Value):laidMetH Tryz.prog laidL ((World.laidAll Tryz.prog os laidL).forCall (fun _ _=>0) ⟨#[],args,[]⟩).memory:=by
 rw [MakeChecks.laidMetH_plain _ _ _ (by kernel_rfl)]
 exact laidMet_laidAll _ (by kernel_rfl) (by kernel_rfl)
end Go.Proofs.YtoopkofekekmoaaGreatDoor
