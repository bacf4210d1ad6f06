/- What the laws rest on: D4l, D4n, D4q, P6h. -/
import Derived.Test.YtboinnjncaehkaaGreatDoorQBMZA
set_option maxRecDepth 100000
set_option linter.unusedVariables false
set_option linter.unusedSimpArgs false
namespace Go.Proofs.YtboinnjncaehkaaGreatDoor
open Go.RowKit Go.Shelf
attribute [local go_sem] Oper.semAt_some
theorem grp_info:(Tryz.prog.info? 71).map (fun i=>(i.zero,i.size,i.bytes))=some (some (.slice none 0 0),1,24):=by kernel_rfl
def gF (l:List (List Nat)):List (List Nat):=(l.map grpT).flatten
theorem fld_pts (s:List Nat):fld s=(ptsL 44 s).map grpT:=by
 unfold fld ptsL
 rw [List.map_map]
 exact List.map_congr_left fun p _=>(grpT_trm p).symm
theorem gF_snoc (l:List (List Nat)) (x:List Nat):gF (l++[x])=gF l++grpT x:=by unfold gF;rw [List.map_append,List.flatten_append];simp
theorem gF_pts (s:List Nat):(fld s).flatten=gF (ptsL 44 s):=by rw [fld_pts];rfl
theorem gF_prefix {p l:List (List Nat)} (h:p <+: l):gF p <+: gF l:=by
 obtain ⟨r,rfl⟩:=h
 unfold gF
 rw [List.map_append,List.flatten_append];exact List.prefix_append _ _
theorem gF_mem {l:List (List Nat)} (h:errF (gF l)=0):∀p ∈ l,errF (grpT p)=0:=by
 induction l with
 | nil=>intro p hp;simp at hp
 | cons q r ih=>
  have e:gF (q::r)=grpT q++gF r:=by unfold gF;rw [List.map_cons,List.flatten_cons]
  rw [e,errF_app] at h
  intro p hp
  by_cases hq:errF (grpT q)=0
  ·rw [if_pos hq] at h
   rcases List.mem_cons.1 hp with rfl|hp
   ·exact hq
   ·exact ih h p hp
  ·rw [if_neg hq] at h;exact absurd h hq
set_option maxHeartbeats 4000000 in
theorem parse4_new (s:ByteArray) (w:World) (hs:s.size≤65536) (E:EnvR w) :
  Calls Tryz.prog 106 #[.string s] w fun e w'=>(∃v,e=.returned (.tuple #[v,.int .i64 (depE (B s))])∧rdGrps w' (fun b=>w.heap.size≤b∧b < w'.heap.size) (depL (B s)) [v])∧Below w.heap.size w w':=by
 obtain ⟨i0,hi,hz0,hz1,hz2⟩:=info_parts grp_info
 have hpl:(ptsL 44 (B s)).length≤65537:=by
  unfold ptsL
  rw [List.length_map,cutBy_len]
  have:=List.count_le_length (a:=44) (l:=B s)
  rw [B_len] at this;omega
 have HE:=Lib.hid E
 clear E
 refine (callsIn_wide (n:=5)).1 ?_
 refine callsIn_of_wp_marks Tryz.func106 rfl trivial ?_ rfl
 simp only [Tryz.ntmps106,List.size_toArray,List.length_cons,List.length_nil,Nat.reduceAdd,Nat.reduceSub,Array.replicate_succ,Array.replicate_zero,List.push_toArray,List.append_toArray,List.nil_append,List.cons_append]
 by_cases hnil:B s=[]
 ·have X:=Lib.hid (show depE (B s)=0 by unfold depE;rw [if_pos hnil])
  have X2:=Lib.hid (show depL (B s)=[] by unfold depL;rw [if_pos hnil])
  obtain rfl:s={ data:=#[] }:=by rw [eq_mk hnil];rfl
  gi_wp2
  refine ⟨.tuple #[.slice none 0 0,.int .i64 0],?_,⟨.slice none 0 0,by rw [X.out],by rw [X2.out];exact rdRow_nil _ _⟩,((Below.refl _ _).alloc (Nat.le_refl _) _).alloc (by simp) _⟩
  simp [results,Tryz.f106,go_sem]
 ·have hne:s.toList.isEmpty=false:=by
   rw [toList_data,List.isEmpty_eq_false_iff]
   intro h
   exact hnil (by unfold B;rw [h];rfl)
  have KM:=Lib.hid (fun w E=>tooMany_any s w hs E)
  cases hm:manyF (fld (B s))
  ·rw [hm] at KM
   have X:=Lib.hid (show depE (B s)=errF (gF (ptsL 44 (B s))) by unfold depE;rw [if_neg hnil,hm,gF_pts];rfl)
   have X2:=Lib.hid (show depE (B s)=0→depL (B s)=(ptsL 44 (B s)).map grpL from fun h0=>by
    have hz:=gF_mem (X.out.symm.trans h0)
    unfold depL
    rw [if_neg hnil,if_pos h0,fld_pts,List.map_map]
    refine List.map_congr_left fun p hp=>?_
    unfold grpL
    rw [if_pos (hz p hp)];rfl)
   clear hm hnil
   gi_wp2_with fail
   refine ⟨trivial,?_⟩
   refine (callsIn_wide.2 (KM.out _ ((HE.out.alloc _).alloc _).env)).mono ?_
   rintro e V ⟨rfl,hbV⟩
   have v0:V.cell? ⟨w.heap.size,0,none⟩=some (.slice none 0 0):=(hbV.cell (p:=⟨w.heap.size,0,none⟩) (by simp;omega)).trans (by simp [go_sem])
   have v1:V.cell? ⟨w.heap.size+1,0,none⟩=some (.int .i64 0):=(hbV.cell (p:=⟨w.heap.size+1,0,none⟩) (by simp)).trans (by simp [go_sem])
   have q0:V.frozen? ⟨w.heap.size,0,none⟩=false:=(hbV.frozen (p:=⟨w.heap.size,0,none⟩) (by simp;omega)).trans (by simp [go_sem])
   have q1:V.frozen? ⟨w.heap.size+1,0,none⟩=false:=(hbV.frozen (p:=⟨w.heap.size+1,0,none⟩) (by simp)).trans (by simp [go_sem])
   have hzV:w.heap.size+2≤V.heap.size:=by have:=hbV.size;simp at this;omega
   have HV:=Lib.hid (show Below w.heap.size w V from bel2 (((Below.refl _ _).alloc (Nat.le_refl _) _).alloc (by simp) _) hbV (Nat.le_refl _))
   clear hbV
   gi_wp2_with fail
   refine ⟨trivial,?_⟩
   refine (callsIn_wide.2 (pieces_any _ _ _)).mono ?_
   rintro e w2 ⟨rfl,rfl⟩
   obtain ⟨W0,hW0⟩:∃W0,((V.alloc (.cells #[.slice none 0 0] 31)).alloc (.cells #[.string s] 9)).alloc (.cells #[.string { data:=#[44] }] 9)=W0:=⟨_,rfl⟩
   have hBV:Below V.heap.size V W0:=by rw [←hW0];exact (((Below.refl _ V).alloc (Nat.le_refl _) _).alloc (by simp) _).alloc (by simp;omega) _
   have c0:W0.cell? ⟨w.heap.size,0,none⟩=some (.slice none 0 0):=(hBV.cell (World.block_lt_of_cell? _ _ v0)).trans v0
   have f0:W0.frozen? ⟨w.heap.size,0,none⟩=false:=(hBV.frozen (p:=⟨w.heap.size,0,none⟩) (World.block_lt_of_cell? _ _ v0)).trans q0
   have c1:W0.cell? ⟨w.heap.size+1,0,none⟩=some (.int .i64 0):=(hBV.cell (World.block_lt_of_cell? _ _ v1)).trans v1
   have f1:W0.frozen? ⟨w.heap.size+1,0,none⟩=false:=(hBV.frozen (p:=⟨w.heap.size+1,0,none⟩) (World.block_lt_of_cell? _ _ v1)).trans q1
   have c2:W0.cell? ⟨V.heap.size,0,none⟩=some (.slice none 0 0):=by rw [←hW0];simp [go_sem]
   have f2:W0.frozen? ⟨V.heap.size,0,none⟩=false:=by rw [←hW0];simp [go_sem]
   have c3:W0.cell? ⟨V.heap.size+1,0,none⟩=some (.string s):=by rw [←hW0];simp [go_sem]
   have c4:W0.cell? ⟨V.heap.size+1+1,0,none⟩=some (.string { data:=#[44] }):=by rw [←hW0];simp [go_sem]
   have z0:W0.heap.size=V.heap.size+3:=by rw [←hW0];simp
   have hB0:Below w.heap.size w W0:=bel2 HV.out hBV (Nat.le_refl _)
   simp only [World.size_alloc]
   rw [hW0]
   clear hW0 hBV
   have Z0:=Lib.hid z0
   have zz:=hB0.size
   have hbm:V.heap.size+1+1 < W0.heap.size:=by omega
   clear z0 v0 v1 q0 q1
   gi_wp2
   refine wpIn_rangeFunc_ownG rfl (by omega) (gf:=201) (lb:=#[.pointer (some ⟨V.heap.size+1,0,none⟩),.pointer (some ⟨V.heap.size+1+1,0,none⟩)]) rfl trivial (enters_of Tryz.func201 (by kernel_rfl) rfl)
    (pieces_stops w HE.out.env _ (by omega) (V.heap.size+1) (V.heap.size+1+1) s 44 hs W0 hB0 c3 c4) kpM_t (kpM_b zz hbm) (Below.refl _ _) (fun _=>rfl)
    (fun pre W=>((∃v,W.cell? ⟨V.heap.size,0,none⟩=some v∧W.frozen? ⟨V.heap.size,0,none⟩=false∧Grow rdAtms 1 (fun b=>W0.heap.size≤b) W W0.heap.size 71 v ((pre.map pcB).map grpL))∧(errF (gF (pre.map pcB))=0∧
     W.cell? ⟨w.heap.size,0,none⟩=some (.slice none 0 0)∧W.frozen? ⟨w.heap.size,0,none⟩=false∧W.cell? ⟨w.heap.size+1,0,none⟩=some (.int .i64 0)∧W.frozen? ⟨w.heap.size+1,0,none⟩=false∧W0.heap.size≤W.heap.size))∧Below w.heap.size w W)
    (fun c pre W=>(c=.ret∧errF (gF (pre.map pcB))≠0∧W.cell? ⟨w.heap.size,0,none⟩=some (.slice none 0 0)∧W.cell? ⟨w.heap.size+1,0,none⟩=some (.int .i64 (errF (gF (pre.map pcB)))))∧Below w.heap.size w W)
    (OwnFrom.and (Own.from (fun s A B row hs hg hr=>⟨by obtain ⟨⟨v,h1,h2,h3⟩,_⟩:=hs;exact ⟨v,cell_kept h1 hg hr,(frozen_kept h1 hg hr).trans h2,h3.turn rdAtms_good hg hr⟩,hs.2.1,cell_kept hs.2.2.1 hg hr,(frozen_kept hs.2.2.1 hg hr).trans hs.2.2.2.1,cell_kept hs.2.2.2.2.1 hg hr,(frozen_kept hs.2.2.2.2.1 hg hr).trans hs.2.2.2.2.2.1,Nat.le_trans hs.2.2.2.2.2.2 hg.size⟩) _) (ownFrom_below (Nat.le_refl _) zz))
    (fun c=>OwnFrom.and (Own.from (fun s A B row hs hg hr=>⟨hs.1,hs.2.1,cell_kept hs.2.2.1 hg hr,cell_kept hs.2.2.2 hg hr⟩) _) (ownFrom_below (Nat.le_refl _) zz))
    ⟨⟨⟨_,c2,f2,Grow.nil _ _ _ _⟩,rfl,c0,f0,c1,f1,Nat.le_refl _⟩,hB0⟩
    (fun x=>{ tmps:=#[.string s,undef,.pointer (some ⟨w.heap.size,0,none⟩),.pointer (some ⟨w.heap.size+1,0,none⟩),.pointer (some ⟨V.heap.size,0,none⟩),.string x.1,undef,undef,.string s,.bool false,.string s,.bool false,.string s,.func (.func 201) #[] #[.pointer (some ⟨V.heap.size+1,0,none⟩),.pointer (some ⟨V.heap.size+1+1,0,none⟩)],.string x.1,undef,undef,undef,undef,undef,undef,undef,undef,undef,undef,undef,undef,undef],defers:=[] }) ?assign ?body ?done ?stop
   case assign=>
    intro l x W K hK
    gi_wp2
    exact hK
   case body=>
    rintro l pre x W ⟨⟨⟨v,hv,hvf,hG⟩,hp,hc0,hf0,hc1,hf1,hsz⟩,hB⟩ hlen
    have K:=Lib.hid (parseGroup_any x.1 W x.2 (HE.out.below hB))
    have hsn:errF (gF (pre.map pcB++[pcB x]))=errF (grpT (pcB x)):=by rw [gF_snoc,errF_app,if_pos hp]
    have HSN:=Lib.hid hsn
    have HP:=Lib.hid hp
    have HB:=Lib.hid hB
    clear hsn hp hB
    have hln:pre.length≤65537:=Nat.le_trans (Nat.le_of_lt hlen) hpl
    obtain ⟨ee,he⟩:∃ee,ee=errF (grpT (B x.1)):=⟨_,rfl⟩
    have HEE:=Lib.hid he
    rw [←he] at K
    clear he
    have hlt0:=World.block_lt_of_cell? _ _ hc0
    have hlt1:=World.block_lt_of_cell? _ _ hc1
    have hlt2:=World.block_lt_of_cell? _ _ hv
    by_cases h0:ee=0
    ·have hq:(ee != 0)=false:=by rw [h0];rfl
     have H0:=Lib.hid h0
     clear h0
     gi_wp2_with fail
     refine ⟨trivial,?_⟩
     refine (CallsIn.inRound l (callsIn_wide.2 K.out)).mono ?_
     rintro e W1 ⟨⟨gv,rfl,hrd⟩,hb1⟩
     obtain ⟨gA,gc,hgv,_⟩:=id hrd
     simp only [List.cons.injEq,and_true] at hgv
     subst hgv
     have hz1':=hb1.size
     have hzW:=HB.out.size
     have d0:=(hb1.cell hlt0).trans hc0
     have d1:=(hb1.cell hlt1).trans hc1
     have d2:=(hb1.cell hlt2).trans hv
     have g0:=(hb1.frozen (p:=⟨w.heap.size,0,none⟩) hlt0).trans hf0
     have g1:=(hb1.frozen (p:=⟨w.heap.size+1,0,none⟩) hlt1).trans hf1
     have g2:=(hb1.frozen (p:=⟨V.heap.size,0,none⟩) hlt2).trans hvf
     have HB1:=Lib.hid hb1
     clear hc0 hc1 hf0 hf1 hv hvf hlt0 hlt1 hlt2
     have hG2:=hG.below rdAtms_good hb1
     have hE:=(show rdAtms W1 (fun b=>W0.heap.size≤b∧b < W1.heap.size∧v.ownBlock≠some b) (grpL (B x.1)) (#[.slice gA (grpL (B x.1)).length gc]:Array Value).toList from
      rdAtms_good.more hrd fun b hb=>⟨by omega,hb.1,fun hh=>by have:=(hG.lt b hh).2;omega⟩)
     have hn1:((pre.map pcB).map grpL).length+1≤maxLen:=by rw [List.length_map,List.length_map];unfold maxLen;omega
     have hn2:(((pre.map pcB).map grpL).length+1)*24≤140737488355328:=by rw [List.length_map,List.length_map];omega
     have hbs:W0.heap.size≤W1.heap.size:=by omega
     clear hG hb1 hrd
     generalize hgl:grpL (B x.1)=gl at *
     have HGL:=Lib.hid hgl
     clear hgl
     gi_wp2_with (gi_at_builtin;refine wpListIn_grow1 W1 rfl _ _ 31 rfl rdAtms_good (by decide) (fun b=>W0.heap.size≤b) W0.heap.size 71 i0 _ 24 Tryz.underlying31 hi hz0 hz1 hz2 rfl v _ rfl hG2 gl _ 71 hE _ rfl rfl hn1 hn2 hbs ?_)
     intro v' w' hG' hgr
     have e0:=(World.cell?_of_block (a:=⟨w.heap.size,0,none⟩) (heap_grow hG2 hgr (k:=w.heap.size) (by omega) hbs)).trans d0
     have e1:=(World.cell?_of_block (a:=⟨w.heap.size+1,0,none⟩) (heap_grow hG2 hgr (k:=w.heap.size+1) (by omega) hbs)).trans d1
     have e2:=(World.cell?_of_block (a:=⟨V.heap.size,0,none⟩) (heap_grow hG2 hgr (k:=V.heap.size) (by omega) hbs)).trans d2
     have j0:=(World.frozen?_of_block (a:=⟨w.heap.size,0,none⟩) (heap_grow hG2 hgr (k:=w.heap.size) (by omega) hbs)).trans g0
     have j1:=(World.frozen?_of_block (a:=⟨w.heap.size+1,0,none⟩) (heap_grow hG2 hgr (k:=w.heap.size+1) (by omega) hbs)).trans g1
     have j2:=(World.frozen?_of_block (a:=⟨V.heap.size,0,none⟩) (heap_grow hG2 hgr (k:=V.heap.size) (by omega) hbs)).trans g2
     have hM:=(heap_grow hG2 hgr (k:=V.heap.size+1+1) (by omega) hbs)
     have KO:=Lib.hid ((keeps_below HB1.out).trans (keeps_grow hG2 hgr))
     have BB:=Lib.hid (grow_below hG2 hgr (bel2 HB.out HB1.out (Nat.le_refl _)) zz (by omega))
     have BB2:=Lib.hid (grow_below hG2 hgr (HB1.out.mono (show w.heap.size≤W.heap.size by omega)) zz (by omega))
     have SZ:=Lib.hid hgr.size
     have GG:=Lib.hid hG'
     have MM:=Lib.hid (show w'.heap[V.heap.size+1+1]?=W.heap[V.heap.size+1+1]? from hM.trans (HB1.out.block _ (by omega)))
     obtain ⟨A',cp',hv',_,_⟩:=hG'.own
     simp only [List.length_append,List.length_map,List.length_singleton] at hv'
     clear hG' hgr hG2 hE d0 d1 d2 g0 g1 g2 hM
     subst hv'
     have LX:=Lib.hid (show ((pre++[x]).map pcB).map grpL=(pre.map pcB).map grpL++[gl] by rw [←HGL.out];simp [pcB])
     gi_wp2
     refine ⟨(KO.out.trans (KeepsOthers.setCell _ _ _)).from _,⟨?_,?_⟩,⟨⟨.slice A' (pre.length+1) cp',?_,?_,?_⟩,?_,?_,?_,?_,?_,?_⟩,?_⟩
     ·rw [heap_setCell_other _ _ _ _ (by simp only;omega)];exact MM.out
     ·exact BB2.out.setCell (p:=⟨V.heap.size,0,none⟩) (by simp only;omega) _
     ·exact World.cell?_setCell_same' _ _ _ (by rw [e2];rfl)
     ·rw [World.frozen?_setCell];exact j2
     ·rw [LX.out,List.map_map];exact GG.out.setCell rdAtms_good (p:=⟨V.heap.size,0,none⟩) (by simp only;omega) (by simp only;omega) _
     ·rw [List.map_append,List.map_singleton,HSN.out,←H0.out,HEE.out];rfl
     ·rw [World.cell?_setCell_other _ _ _ _ (ne_blk (by omega))];exact e0
     ·rw [World.frozen?_setCell];exact j0
     ·rw [World.cell?_setCell_other _ _ _ _ (ne_blk (by omega))];exact e1
     ·rw [World.frozen?_setCell];exact j1
     ·have:=SZ.out;simp at this ⊢;omega
     ·exact BB.out.setCell (p:=⟨V.heap.size,0,none⟩) (by simp only;omega) _
    ·have hq:(ee != 0)=true:=by rw [bne_iff_ne];exact h0
     have H0:=Lib.hid h0
     clear h0
     gi_wp2_with fail
     refine ⟨trivial,?_⟩
     refine (CallsIn.inRound l (callsIn_wide.2 K.out)).mono ?_
     rintro e W1 ⟨⟨gv,rfl,hrd⟩,hb1⟩
     have d0:=(hb1.cell hlt0).trans hc0
     have d1:=(hb1.cell hlt1).trans hc1
     have g0:=(hb1.frozen (p:=⟨w.heap.size,0,none⟩) hlt0).trans hf0
     have g1:=(hb1.frozen (p:=⟨w.heap.size+1,0,none⟩) hlt1).trans hf1
     have HB1:=Lib.hid hb1
     clear hc0 hc1 hf0 hf1 hb1 hv hvf hrd hG hlt0 hlt1 hlt2
     gi_wp2
     obtain ⟨r0,r1⟩:=two_sets (p:=⟨w.heap.size,0,none⟩) (q:=⟨w.heap.size+1,0,none⟩) (by simp) (.slice none 0 0) (.int .i64 ee) d0 d1
     exact ⟨(((keeps_below HB1.out).trans (KeepsOthers.setCell _ _ _)).trans (KeepsOthers.setCell _ _ _)).from _,⟨rfl,by rw [List.map_append,List.map_singleton,HSN.out];exact HEE.out ▸ H0.out,r0,by rw [List.map_append,List.map_singleton,HSN.out,r1,HEE.out];rfl⟩,
      ((bel2 HB.out HB1.out (Nat.le_refl _)).setCell (p:=⟨w.heap.size,0,none⟩) (by simp) _).setCell (p:=⟨w.heap.size+1,0,none⟩) (by simp) _⟩
   case done=>
    rintro D ys W hD hS ⟨⟨⟨v,hv,hvf,hG⟩,hp,hc0,hf0,hc1,hf1,hsz⟩,hB⟩ hK
    have X0:=Lib.hid (show depE (B s)=0 by rw [X.out,show ptsL 44 (B s)=ys.map pcB from hS.symm,hp])
    have XL:=Lib.hid (show depL (B s)=(ys.map pcB).map grpL by rw [X2.out X0.out,show ptsL 44 (B s)=ys.map pcB from hS.symm])
    obtain ⟨A',cp',hv',_,_⟩:=hG.own
    simp only [List.length_map] at hv'
    have GG:=Lib.hid hG
    clear hG hS hp
    subst hv'
    gi_wp2
    obtain ⟨r0,r1⟩:=two_sets (p:=⟨w.heap.size,0,none⟩) (q:=⟨w.heap.size+1,0,none⟩) (by simp) (.slice A' ys.length cp') (.int .i64 0) hc0 hc1
    have hK':=((KeepsOthers.setCell W ⟨w.heap.size,0,none⟩ (.slice A' ys.length cp')).trans (KeepsOthers.setCell _ ⟨w.heap.size+1,0,none⟩ (.int .i64 0))).same D _ hK rfl
    refine ⟨by simp,.inl ⟨_,_,rfl,run_takeDeferred hK',?_⟩⟩
    have h0:=cell_kept r0 (grownBy_putObj' _ D (.deferred none)) (fun r e=>by cases e;exact ⟨_,hK',rfl⟩)
    have h1:=cell_kept r1 (grownBy_putObj' _ D (.deferred none)) (fun r e=>by cases e;exact ⟨_,hK',rfl⟩)
    have G2:=((GG.out.setCell rdAtms_good (p:=⟨w.heap.size,0,none⟩) (by simp only;omega) (by simp only;omega) (.slice A' ys.length cp')).setCell rdAtms_good (p:=⟨w.heap.size+1,0,none⟩) (by simp only;omega) (by simp only;omega) (.int .i64 0)).turn rdAtms_good (grownBy_putObj' _ D (.deferred none)) (fun r e=>by cases e;exact ⟨_,hK',rfl⟩)
    refine ⟨.tuple #[.slice A' ys.length cp',.int .i64 0],?_,⟨.slice A' ys.length cp',by rw [X0.out],?_⟩,((hB.setCell (p:=⟨w.heap.size,0,none⟩) (by simp) _).setCell (p:=⟨w.heap.size+1,0,none⟩) (by simp) _).trans (belowK_b (w:=w) (Nat.le_refl _) _ D _ _ (by omega) hK' rfl rfl)⟩
    ·simp [results,Tryz.f106,go_sem,h0,h1]
    ·rw [XL.out];exact rdGrps_good.more (G2.reads rdAtms_good) fun b hb=>⟨by rcases hb.2 with h|h<;>exact Nat.le_trans zz h,hb.1⟩
   case stop=>
    rintro D c pre W hD hpre ⟨⟨rfl,hin,hc0,hc1⟩,hB⟩ hK
    have X0:=Lib.hid (show depE (B s)=errF (gF (pre.map pcB)) by rw [X.out];exact errF_prefix (gF_prefix hpre) hin)
    have XL:=Lib.hid (show depL (B s)=[] from depL_bad (by rw [X0.out];exact hin))
    gi_wp2
    refine ⟨by simp,.inl ⟨_,_,rfl,run_takeDeferred hK,?_⟩⟩
    have h0:=cell_kept hc0 (grownBy_putObj' _ D (.deferred none)) (fun r e=>by cases e;exact ⟨_,hK,rfl⟩)
    have h1:=cell_kept hc1 (grownBy_putObj' _ D (.deferred none)) (fun r e=>by cases e;exact ⟨_,hK,rfl⟩)
    refine ⟨.tuple #[.slice none 0 0,.int .i64 (errF (gF (pre.map pcB)))],?_,⟨.slice none 0 0,by rw [X0.out],by rw [XL.out];exact rdRow_nil _ _⟩,hB.trans (belowK_b (w:=w) (Nat.le_refl _) W D _ _ (by omega) hK rfl rfl)⟩
    simp [results,Tryz.f106,go_sem,h0,h1]
  ·rw [hm] at KM
   have X:=Lib.hid (show depE (B s)=8 by unfold depE;rw [if_neg hnil,if_pos hm])
   have X2:=Lib.hid (depL_bad (s:=B s) (by rw [X.out];decide))
   clear hm hnil
   gi_wp2_with fail
   refine ⟨trivial,?_⟩
   refine (callsIn_wide.2 (KM.out _ ((HE.out.alloc _).alloc _).env)).mono ?_
   rintro e V ⟨rfl,hbV⟩
   have v0:V.cell? ⟨w.heap.size,0,none⟩=some (.slice none 0 0):=(hbV.cell (p:=⟨w.heap.size,0,none⟩) (by simp;omega)).trans (by simp [go_sem])
   have v1:V.cell? ⟨w.heap.size+1,0,none⟩=some (.int .i64 0):=(hbV.cell (p:=⟨w.heap.size+1,0,none⟩) (by simp)).trans (by simp [go_sem])
   have q0:V.frozen? ⟨w.heap.size,0,none⟩=false:=(hbV.frozen (p:=⟨w.heap.size,0,none⟩) (by simp;omega)).trans (by simp [go_sem])
   have q1:V.frozen? ⟨w.heap.size+1,0,none⟩=false:=(hbV.frozen (p:=⟨w.heap.size+1,0,none⟩) (by simp)).trans (by simp [go_sem])
   have HV:=Lib.hid (show Below w.heap.size w V from bel2 (((Below.refl _ _).alloc (Nat.le_refl _) _).alloc (by simp) _) hbV (Nat.le_refl _))
   clear hbV
   gi_wp2
   obtain ⟨r0,r1⟩:=two_sets (p:=⟨w.heap.size,0,none⟩) (q:=⟨w.heap.size+1,0,none⟩) (by simp) (.slice none 0 0) (.int .i64 8) v0 v1
   refine ⟨.tuple #[.slice none 0 0,.int .i64 8],?_,⟨.slice none 0 0,by rw [X.out],by rw [X2.out];exact rdRow_nil _ _⟩,(HV.out.setCell (p:=⟨w.heap.size,0,none⟩) (by simp) _).setCell (p:=⟨w.heap.size+1,0,none⟩) (by simp) _⟩
   simp [results,Tryz.f106,go_sem,r0,r1]
theorem parse4_any (s:ByteArray) (w:World) (hs:s.size≤65536) (E:EnvR w) :
  Calls Tryz.prog 106 #[.string s] w fun e w'=>(∃v,e=.returned (.tuple #[v,.int .i64 (depE (B s))])∧rdGrps w' (lt_ w'.heap.size) (depL (B s)) [v])∧Below w.heap.size w w':=
 (parse4_new s w hs E).mono fun _ _ ⟨⟨v,h1,h2⟩,h3⟩=>⟨⟨v,h1,rdGrps_good.more h2 fun _ hb=>hb.2⟩,h3⟩
end Go.Proofs.YtboinnjncaehkaaGreatDoor
namespace Go.Proofs.YtboinnjncaehkaaGreatDoor
open Go.RowKit
theorem right_parts {L:List (List Atm)} (h:rightG L=true):(∀q ∈ L,(∀a ∈ q,rgt a=true)∧q.length≤6)∧L.length≤12:=by
 unfold rightG at h
 simp only [Bool.and_eq_true,decide_eq_true_eq,List.all_eq_true] at h
 refine ⟨fun q hq=>?_,h.1⟩
 have:=h.2 q hq
 unfold rgtOne at this
 simp only [Bool.and_eq_true,decide_eq_true_eq,List.all_eq_true] at this
 exact ⟨this.2,this.1.2⟩
def oneB (g:List Atm):Bool:=decide (g.length≤1)
def atE (s:List Nat):Int:=if depE s=0 then (if (depL s).all oneB=true then 0 else 5) else depE s
def atL (s:List Nat):List Atm:=if atE s=0 then (depL s).flatten else []
theorem flat_len {L:List (List Atm)} (h:L.all oneB=true):L.flatten.length≤L.length:=by
 induction L with
 | nil=>simp
 | cons g r ih=>
  rw [List.all_cons,Bool.and_eq_true] at h
  have h1:=h.1
  unfold oneB at h1
  rw [decide_eq_true_eq] at h1
  have:=ih h.2
  rw [List.flatten_cons,List.length_append,List.length_cons];omega
theorem take_flat (L:List (List Atm)) (k:Nat) (hk:k < L.length):(L.take (k+1)).flatten=(L.take k).flatten++L[k]:=by
 rw [List.take_succ_eq_append_getElem hk,List.flatten_append];simp
theorem one_stop {L:List (List Atm)} {k:Nat} (hk:k < L.length) (h:oneB L[k]=false):L.all oneB=false:=all_stopL hk h
theorem atE_bad {s:List Nat} (h:depE s≠0):atE s=depE s∧atL s=[]:=by
 have:atE s=depE s:=by unfold atE;rw [if_neg h]
 exact ⟨this,by unfold atL;rw [if_neg (by rw [this];exact h)]⟩
theorem atE_many {s:List Nat} (h:depE s=0) (h2:(depL s).all oneB=false):atE s=5∧atL s=[]:=by
 have:atE s=5:=by unfold atE;rw [if_pos h,h2];rfl
 exact ⟨this,by unfold atL;rw [if_neg (by rw [this];decide)]⟩
theorem atE_ok {s:List Nat} (h:depE s=0) (h2:(depL s).all oneB=true):atE s=0∧atL s=(depL s).flatten:=by
 have:atE s=0:=by unfold atE;rw [if_pos h,if_pos h2]
 exact ⟨this,by unfold atL;rw [if_pos this]⟩
set_option maxHeartbeats 2000000 in
theorem atoms4_new (s:ByteArray) (w:World) (hs:s.size≤65536) (E:EnvR w) :
  Calls Tryz.prog 108 #[.string s] w fun e w'=>(∃v,e=.returned (.tuple #[v,.int .i64 (atE (B s))])∧rdAtms w' (fun b=>w.heap.size≤b∧b < w'.heap.size) (atL (B s)) [v])∧Below w.heap.size w w':=by
 obtain ⟨i0,hi,hz0,hz1,hz2⟩:=info_parts atm_info
 have K:=Lib.hid (parse4_any s w hs E)
 by_cases h0:depE (B s)=0
 ·have hR:=(right_parts (right_of_parse (B_lt s) h0)).2
  have XY:=Lib.hid (fun h=>atE_ok (s:=B s) h0 h)
  have XN:=Lib.hid (fun h=>atE_many (s:=B s) h0 h)
  rw [h0] at K
  clear h0
  generalize depL (B s)=L at *
  go_enter Tryz.func108,Tryz.ntmps108
  go_wp2_with fail
  refine K.out.mono ?_
  rintro e w1 ⟨⟨v,rfl,hrd⟩,hb1⟩
  obtain ⟨A,c,hv,_⟩:=id hrd
  simp only [List.cons.injEq,and_true] at hv
  subst hv
  obtain ⟨_,hnc,hcm,_⟩:=rdGrps_at hrd
  have hcm':c≤9223372036854775807:=hcm
  have HR:=Lib.hid hrd
  have HB1:=Lib.hid hb1
  clear hrd hb1
  go_wp2
  go_loopw [6,8,19] (fun v gg i wr=>∃k:Nat,k≤L.length∧i=.int .i64 k∧(L.take k).all oneB=true∧Grow rdAtm 3 (fun _=>True) wr w1.heap.size 109 v (L.take k).flatten∧Below w1.heap.size w1 wr) (fun _ _ i _=>L.length - (intOf i).toNat)
  case atStart=>exact ⟨0,Nat.zero_le _,rfl,rfl,by rw [List.take_zero];exact Grow.nil _ _ _ _,Below.refl _ _⟩
  case round=>
   obtain ⟨k,hk,rfl,hall,hG,hbel⟩:=hrel
   by_cases hlt:k < L.length
   ·obtain ⟨ad,gA,gc,rfl,had,e0,e1⟩:=(rdGrps_at (rdGrps_good.below HR.out hbel)).2.2.2 k hlt
    have T2:=Lib.hid (all_takeL oneB L k hlt)
    have Z2:=Lib.hid (one_stop (L:=L) (k:=k) hlt)
    have TF:=Lib.hid (take_flat L k hlt)
    have A2:=Lib.hid hall
    have HB:=Lib.hid hbel
    have hfl:=flat_len hall
    rw [List.length_take] at hfl
    have hbs:=hbel.size
    clear hall hbel
    generalize L[k]=g at *
    generalize (L.take k).flatten=fl at *
    by_cases h1:g.length≤1
    ·have h1':¬(1:Int) < g.length:=by omega
     have O:=Lib.hid (show oneB g=true by unfold oneB;rw [decide_eq_true h1])
     have hn1:fl.length+g.length≤maxLen:=by unfold maxLen;omega
     have hn2:(fl.length+g.length)*40≤140737488355328:=by omega
     have hS:∀b,lt_ w1.heap.size b→True∧b < wr.heap.size∧u6.ownBlock≠some b:=fun b hb=>⟨trivial,Nat.lt_of_lt_of_le hb hbs,fun hh=>by have:=(hG.lt b hh).1;unfold lt_ at hb;omega⟩
     go_wp2_with (at_builtin;refine wpList_growN wr rfl _ _ 32 71 rfl rdAtm_good (by decide) (fun _=>True) w1.heap.size 109 109 i0 _ 40 Tryz.underlying32 Tryz.underlying71 hi hz0 hz1 hz2 rfl u6 fl rfl hG g _ gA g.length gc rfl e1 hS hn1 hn2 hbs ?_)
     intro v' w' hG' hgr
     have HB':=Lib.hid (grow_below hG hgr HB.out (Nat.le_refl _) hbs)
     clear hG hgr hS e1
     go_wp2
     go_roundw
     case rel=>exact ⟨k+1,by omega,by go_num,by rw [T2.out,A2.out,O.out];rfl,by rw [TF.out];exact hG',HB'.out⟩
     case measure=>simp [intOf];omega
    ·have h1':(1:Int) < g.length:=by omega
     have X:=Lib.hid (XN.out (Z2.out (show oneB g=false by unfold oneB;rw [decide_eq_false h1])))
     go_wp2
     go_ret2
     exact ⟨⟨.slice none 0 0,by rw [X.out.1];rfl,by rw [X.out.2];exact rdRow_nil _ _⟩,bel2 HB1.out HB.out (Nat.le_refl _)⟩
   ·obtain rfl:k=L.length:=by omega
    rw [List.take_length] at hG hall
    have X:=Lib.hid (XY.out hall)
    have GG:=Lib.hid (show rdAtms wr (fun b=>w.heap.size≤b∧b < wr.heap.size) L.flatten [u6] from rdAtms_good.more ((Grow.flat (T':=fun _=>False) (fun _ _ _ _ _ h=>h) hG).reads rdAtm_good) fun b hb=>⟨Nat.le_trans HB1.out.size (hb.2.resolve_right id),hb.1⟩)
    clear hall hG
    go_wp2
    go_ret2
    exact ⟨⟨u6,by rw [X.out.1];rfl,by rw [X.out.2];exact GG.out⟩,bel2 HB1.out hbel (Nat.le_refl _)⟩
 ·have X:=Lib.hid (atE_bad (s:=B s) h0)
  have t0:(depE (B s) != 0)=true:=by rw [bne_iff_ne];exact h0
  clear h0
  generalize depE (B s)=ee at *
  go_enter Tryz.func108,Tryz.ntmps108
  go_wp2_with fail
  refine K.out.mono ?_
  rintro e w1 ⟨⟨v,rfl,hrd⟩,hb1⟩
  clear hrd
  go_wp2
  go_ret2
  exact ⟨⟨.slice none 0 0,by rw [X.out.1];rfl,by rw [X.out.2];exact rdRow_nil _ _⟩,hb1⟩
set_option maxHeartbeats 2000000 in
theorem pname_any (s:ByteArray) (w:World):Calls Tryz.prog 103 #[.string s] w fun e w'=>e=.returned (.tuple #[.string (if nameB (B s)=true then s else { data:=#[] }),.int .i64 (if nameB (B s)=true then 0 else 3)])∧Below w.heap.size w w':=by
 have K:=Lib.hid (rname_any s w)
 generalize nameB (B s)=b at *
 cases b
 all_goals
  go_enter Tryz.func103,Tryz.ntmps103
  go_wp2_with fail
  refine K.out.mono ?_
  rintro e w' ⟨rfl,hb⟩
  have HB:=Lib.hid hb
  clear hb
  go_wp2
  go_ret2
  exact ⟨rfl,HB.out⟩
set_option maxHeartbeats 2000000 in
theorem pver_any (s:ByteArray) (w:World) (E:Env w):Calls Tryz.prog 104 #[.string s] w fun e w'=>e=.returned (.tuple #[.string (if prB (B s)=true then s else { data:=#[] }),.int .i64 (if prB (B s)=true then 0 else 4)])∧Below w.heap.size w w':=by
 have K:=Lib.hid (eprinted_any s w E)
 clear E
 generalize prB (B s)=b at *
 cases b
 all_goals
  go_enter Tryz.func104,Tryz.ntmps104
  go_wp2_with fail
  refine K.out.mono ?_
  rintro e w' ⟨rfl,hb⟩
  have HB:=Lib.hid hb
  clear hb
  go_wp2
  go_ret2
  exact ⟨rfl,HB.out⟩
def pvE (s:List Nat):Int:=if atE s≠0 then atE s else if 8 < (atL s).length then 8 else if givs6 (atL s)=false then 5 else 0
def pvL (s:List Nat):List Atm:=if pvE s=0 then atL s else []
set_option maxHeartbeats 4000000 in
theorem pprov_any (s:ByteArray) (w:World) (hs:s.size≤65536) (E:EnvR w):Calls Tryz.prog 109 #[.string s] w fun e w'=>(∃A n c,e=.returned (.tuple #[.slice A n c,.int .i64 (pvE (B s))])∧rdAtms w' (fun b=>w.heap.size≤b∧b < w'.heap.size) (pvL (B s)) [.slice A n c])∧Below w.heap.size w w':=by
 have K:=Lib.hid (atoms4_new s w hs E)
 have HE:=Lib.hid E
 have X:=Lib.hid (show pvE (B s)=if atE (B s)≠0 then atE (B s) else if 8 < (atL (B s)).length then 8 else if givs6 (atL (B s))=false then 5 else 0 from rfl)
 have Y:=Lib.hid (show pvL (B s)=if pvE (B s)=0 then atL (B s) else [] from rfl)
 clear E
 generalize pvE (B s)=pe at *
 generalize pvL (B s)=pl at *
 generalize atE (B s)=ae at *
 generalize atL (B s)=al at *
 by_cases h0:ae≠0
 ·have X1:=Lib.hid (show pe=ae from X.out.trans (if_pos h0))
  have Y1:=Lib.hid (show pl=[] from Y.out.trans (if_neg (by rw [X1.out];exact h0)))
  have t0:(ae != 0)=true:=by rw [bne_iff_ne];exact h0
  clear h0
  go_enter Tryz.func109,Tryz.ntmps109
  go_wp2_with fail
  refine K.out.mono ?_
  rintro e w' ⟨⟨v,rfl,hr⟩,hb⟩
  have HB:=Lib.hid hb
  clear hb hr
  go_wp2
  go_ret2
  exact ⟨⟨none,0,0,by rw [X1.out];try rfl,by rw [Y1.out];exact rdRow_nil _ _⟩,HB.out⟩
 have t0:(ae != 0)=false:=by rw [bne_eq_false_iff_eq];exact Decidable.not_not.1 h0
 by_cases h8:8 < al.length
 ·have X1:=Lib.hid (show pe=8 from X.out.trans ((if_neg h0).trans (if_pos h8)))
  have Y1:=Lib.hid (show pl=[] from Y.out.trans (if_neg (by rw [X1.out];decide)))
  have i8:(8:Int) < (al.length:Int):=by omega
  clear h0 h8
  go_enter Tryz.func109,Tryz.ntmps109
  go_wp2_with fail
  refine K.out.mono ?_
  rintro e w' ⟨⟨v,rfl,hr⟩,hb⟩
  obtain ⟨A,c,hv,_⟩:=id hr
  simp only [List.cons.injEq,and_true] at hv
  subst hv
  have HB:=Lib.hid hb
  clear hb hr
  go_wp2
  go_ret2
  exact ⟨⟨none,0,0,by rw [X1.out];try rfl,by rw [Y1.out];exact rdRow_nil _ _⟩,HB.out⟩
 have i8:¬(8:Int) < (al.length:Int):=by omega
 have KG:=Lib.hid (fun (W:World) (hb:Below w.heap.size w W) (A:Option Addr) (n c:Nat) (hr:rdAtms W (lt_ W.heap.size) al [.slice A n c])=>each6_any 77 giv6 (fun _ _=>by kernel_rfl) (fun x W _=>givable6_any x W) A n c al W hr (HE.out.below hb))
 have X2:=Lib.hid (show pe=if al.all giv6=false then 5 else 0 from X.out.trans ((if_neg h0).trans (if_neg h8)))
 generalize al.all giv6=g at *
 clear h0 h8
 go_enter Tryz.func109,Tryz.ntmps109
 go_wp2_with fail
 refine K.out.mono ?_
 rintro e w1 ⟨⟨v,rfl,hr⟩,hb⟩
 obtain ⟨A,c,hv,_⟩:=id hr
 simp only [List.cons.injEq,and_true] at hv
 subst hv
 have HB:=Lib.hid hb
 have HR:=Lib.hid hr
 clear hb hr
 go_wp2_with fail
 refine (KG.out _ HB.out _ _ _ (rdAtms_good.more HR.out fun b hb=>hb.2)).mono ?_
 rintro e w2 ⟨rfl,hb⟩
 have HB2:=Lib.hid (HB.out.trans (hb.mono HB.out.size))
 have HR2:=Lib.hid (show rdAtms w2 (fun b=>w.heap.size≤b∧b < w2.heap.size) al [.slice A al.length c] from rdAtms_good.both HR.out (fun b hb'=>hb.block b hb'.2) fun b hb'=>⟨hb'.1,Nat.lt_of_lt_of_le hb'.2 hb.size⟩)
 clear hb
 cases g
 ·have X3:=Lib.hid (show pe=5 from X2.out)
  have Y1:=Lib.hid (show pl=[] from Y.out.trans (if_neg (by rw [X3.out];decide)))
  go_wp2
  go_ret2
  exact ⟨⟨none,0,0,by rw [X3.out];try rfl,by rw [Y1.out];exact rdRow_nil _ _⟩,HB2.out⟩
 ·have X3:=Lib.hid (show pe=0 from X2.out)
  have Y1:=Lib.hid (show pl=al from Y.out.trans (if_pos X3.out))
  go_wp2
  go_ret2
  exact ⟨⟨A,al.length,c,by rw [X3.out];try rfl,by rw [Y1.out];exact HR2.out⟩,HB2.out⟩
theorem set_ne {w:World} {a b:Addr} {v u:Value} (h:w.cell? a=some v) (hne:b≠a):(w.setCell b u).cell? a=some v:=(World.cell?_setCell_other _ _ _ _ hne).trans h
theorem blk_ne {b b' o o':Nat} (h:b≠b'):(⟨b,o,none⟩:Addr)≠⟨b',o',none⟩:=fun e=>h (congrArg Addr.block e)
set_option maxHeartbeats 2000000 in
theorem intoS_any (f:Nat) (eb off:Nat) (w:World):Calls Tryz.prog 102 #[.pointer (some ⟨eb,off,none⟩),.func (.func f) #[] #[]] w fun e w'=>e=.returned (.func (.func 163) #[] #[.pointer (some ⟨w.heap.size+1,0,none⟩),.pointer (some ⟨w.heap.size,0,none⟩)])∧w'=(w.alloc (.cells #[.pointer (some ⟨eb,off,none⟩)] 130)).alloc (.cells #[.func (.func f) #[] #[]] 131):=by
 have hmf:∀(fn:Fn) (first cap:Array Value) (w:World),(Instr.makeFunc fn first cap).run Tryz.prog w=.ok (.func fn first cap) w:=fun _ _ _ _=>rfl
 go_enter Tryz.func102,Tryz.ntmps102
 go_wp2
 go_ret
 exact ⟨rfl,rfl⟩
set_option maxHeartbeats 4000000 in
theorem into1S_any (f:Nat) (hcf:∀(args:Array Value) (w:World),(callFunc f args).run Tryz.prog w=.ok (.enter f args) w) (s t:ByteArray) (er:Int) (pb tb eb off:Nat) (old:Value) (w:World)
  (hp:w.cell? ⟨pb,0,none⟩=some (.func (.func f) #[] #[])) (ht:w.cell? ⟨tb,0,none⟩=some (.pointer (some ⟨eb,off,none⟩))) (hfz:w.frozen? ⟨eb,off,none⟩=false) (ho:w.cell? ⟨eb,off,none⟩=some old) (n1:eb≠pb) (n2:eb≠tb)
  (hKF:∀W:World,Below w.heap.size w W→Calls Tryz.prog f #[.string s] W fun e W'=>e=.returned (.tuple #[.string t,.int .i64 er])∧Below W.heap.size W W') :
  Calls Tryz.prog 163 #[.string s,.pointer (some ⟨pb,0,none⟩),.pointer (some ⟨tb,0,none⟩)] w fun e w'=>e=.returned (.int .i64 er)∧∃w1,Below w.heap.size w w1∧w'=w1.setCell ⟨eb,off,none⟩ (.string t):=by
 have HLT:=Lib.hid (World.block_lt_of_cell? _ _ ho)
 have HF:=Lib.hid hfz
 have HO:=Lib.hid ho
 have N1:=Lib.hid n1
 have N2:=Lib.hid n2
 have KF:=Lib.hid hKF
 obtain ⟨V3,hV3⟩:∃V3,V3=w.drew:=⟨_,rfl⟩
 have BV:=Lib.hid (show Below w.heap.size w V3 by rw [hV3];exact belD (Below.refl _ _) 1)
 have KS:=Lib.hid (fun (W:World) (hb:Below V3.heap.size V3 W)=>(show W.cell? ⟨pb,0,none⟩=some (.func (.func f) #[] #[])∧W.cell? ⟨tb,0,none⟩=some (.pointer (some ⟨eb,off,none⟩)) from ⟨keep6 hb (keep6 BV.out hp),keep6 hb (keep6 BV.out ht)⟩))
 clear hKF hp ht hfz ho n1 n2
 go_enter Tryz.func163,Tryz.ntmps163
 go_wp2_with fail
 refine wp_region_noPanic ?_
 refine wp_region_L (fun W=>W.cell? ⟨pb,0,none⟩=some (.func (.func f) #[] #[])∧W.cell? ⟨tb,0,none⟩=some (.pointer (some ⟨eb,off,none⟩))) 9 (by kernel_rfl) (by rw [←hV3];exact KS.out V3 (Below.refl _ _)) (fun hHeld=>?_)
 rw [←hV3] at hHeld ⊢
 clear hV3
 refine wpAnyL_take (i:=0) (v:=?_) [8,7] rfl (by kernel_rfl) (by kernel_rfl) (by kernel_rfl) (fun _ _ _ h=>h) (by kernel_rfl) (by kernel_rfl) (by kernel_rfl) (Or.inl ⟨by rfl,?_⟩) (by assumption) ?_
 rotate_left
 ·intro w hSw
  try dsimp only at hSw
  go_simp
  first|done|with_reducible rfl
 try simp only [Act.put,List.setIfInBounds_toArray,List.set_cons_zero,List.set_cons_succ]
 refine wpAnyL_take (i:=1) (v:=?_) [8,5,4,3] rfl (by kernel_rfl) (by kernel_rfl) (by kernel_rfl) (fun _ _ _ h=>h) (by kernel_rfl) (by kernel_rfl) (by kernel_rfl) (Or.inl ⟨by rfl,?_⟩) (by assumption) ?_
 rotate_left
 ·intro w hSw
  try dsimp only at hSw
  go_simp
  first|done|with_reducible rfl
 try simp only [Act.put,List.setIfInBounds_toArray,List.set_cons_zero,List.set_cons_succ]
 refine wpAnyL_take (i:=2) (v:=?_) [8,5,4,3] rfl (by kernel_rfl) (by kernel_rfl) (by kernel_rfl) (fun _ _ _ h=>h) (by kernel_rfl) (by kernel_rfl) (by kernel_rfl) (Or.inl ⟨by rfl,?_⟩) (by assumption) ?_
 rotate_left
 ·intro w hSw
  try dsimp only at hSw
  go_simp
  first|done|with_reducible rfl
 try simp only [Act.put,List.setIfInBounds_toArray,List.set_cons_zero,List.set_cons_succ]
 refine wpAnyL_one (i:=3) (by kernel_rfl) rfl (fun K hK=>?_)
 go_simp
 refine (KF.out _ BV.out).mono ?_
 rintro e w4 ⟨rfl,hb4⟩
 have HB4:=Lib.hid hb4
 clear hb4
 go_wp2_with fail
 refine hK.out _ _ (KS.out _ HB4.out) (fun hHeld=>?_)
 clear hK K
 try simp only [Act.put,List.setIfInBounds_toArray,List.set_cons_zero,List.set_cons_succ]
 refine wpAnyL_one (i:=4) (by kernel_rfl) rfl (fun K hK=>?_)
 go_simp
 refine hK.out _ _ (KS.out _ HB4.out) (fun hHeld=>?_)
 clear hK K
 try simp only [Act.put,List.setIfInBounds_toArray,List.set_cons_zero,List.set_cons_succ]
 refine wpAnyL_take (i:=5) (v:=?_) [8] rfl (by kernel_rfl) (by kernel_rfl) (by kernel_rfl) (fun _ _ _ h=>h) (by kernel_rfl) (by kernel_rfl) (by kernel_rfl) (Or.inl ⟨by rfl,?_⟩) (by assumption) ?_
 rotate_left
 ·intro w hSw
  try dsimp only at hSw
  go_simp
  first|done|with_reducible rfl
 try simp only [Act.put,List.setIfInBounds_toArray,List.set_cons_zero,List.set_cons_succ]
 refine wpAnyL_take (i:=6) (v:=?_) [] rfl (by kernel_rfl) (by kernel_rfl) (by kernel_rfl) (fun _ _ _ h=>h) (by kernel_rfl) (by kernel_rfl) (by kernel_rfl) (Or.inl ⟨by rfl,?_⟩) (by assumption) ?_
 rotate_left
 ·intro w hSw
  try dsimp only at hSw
  go_simp
  first|done|with_reducible rfl
 try simp only [Act.put,List.setIfInBounds_toArray,List.set_cons_zero,List.set_cons_succ]
 refine wpAnyL_one (i:=7) (by kernel_rfl) rfl (fun K hK=>?_)
 go_simp
 refine hK.out _ _ (KS.out _ HB4.out) (fun hHeld=>?_)
 clear hK K
 try simp only [Act.put,List.setIfInBounds_toArray,List.set_cons_zero,List.set_cons_succ]
 have f4:=(HB4.out.frozen (p:=⟨eb,off,none⟩) (Nat.lt_of_lt_of_le HLT.out BV.out.size)).trans ((BV.out.frozen (p:=⟨eb,off,none⟩) HLT.out).trans HF.out)
 have o4:=keep6 HB4.out (keep6 BV.out HO.out)
 refine wpAnyL_one (i:=8) (by kernel_rfl) rfl (fun K hK=>?_)
 go_simp
 refine hK.out _ _ ⟨set_ne (KS.out _ HB4.out).1 (blk_ne N1.out),set_ne (KS.out _ HB4.out).2 (blk_ne N2.out)⟩ (fun hHeld=>?_)
 clear hK K
 try simp only [Act.put,List.setIfInBounds_toArray,List.set_cons_zero,List.set_cons_succ]
 refine wpAnyL_last (by kernel_rfl) rfl (by kernel_rfl) (fun K hK=>?_)
 go_simp
 refine hK.out _ _ ?_
 clear hK K
 refine NoPanic.normal ?_
 clear f4 o4
 go_wp2
 go_ret
 exact ⟨rfl,w4,BV.out.trans (HB4.out.mono BV.out.size),rfl⟩
set_option maxHeartbeats 2000000 in
theorem intoG_any (f:Nat) (eb off:Nat) (w:World):Calls Tryz.prog 105 #[.pointer (some ⟨eb,off,none⟩),.func (.func f) #[] #[]] w fun e w'=>e=.returned (.func (.func 164) #[] #[.pointer (some ⟨w.heap.size+1,0,none⟩),.pointer (some ⟨w.heap.size,0,none⟩)])∧w'=(w.alloc (.cells #[.pointer (some ⟨eb,off,none⟩)] 133)).alloc (.cells #[.func (.func f) #[] #[]] 105):=by
 have hmf:∀(fn:Fn) (first cap:Array Value) (w:World),(Instr.makeFunc fn first cap).run Tryz.prog w=.ok (.func fn first cap) w:=fun _ _ _ _=>rfl
 go_enter Tryz.func105,Tryz.ntmps105
 go_wp2
 go_ret
 exact ⟨rfl,rfl⟩
set_option maxHeartbeats 4000000 in
theorem into1G_any (f:Nat) (hcf:∀(args:Array Value) (w:World),(callFunc f args).run Tryz.prog w=.ok (.enter f args) w) (s:ByteArray) (er:Int) (P:Value→World→Prop) (pb tb eb off:Nat) (old:Value) (w:World)
  (hp:w.cell? ⟨pb,0,none⟩=some (.func (.func f) #[] #[])) (ht:w.cell? ⟨tb,0,none⟩=some (.pointer (some ⟨eb,off,none⟩))) (hfz:w.frozen? ⟨eb,off,none⟩=false) (ho:w.cell? ⟨eb,off,none⟩=some old) (n1:eb≠pb) (n2:eb≠tb)
  (hKF:∀W:World,Below w.heap.size w W→Calls Tryz.prog f #[.string s] W fun e W'=>(∃A n c,e=.returned (.tuple #[.slice A n c,.int .i64 er])∧P (.slice A n c) W')∧Below W.heap.size W W') :
  Calls Tryz.prog 164 #[.string s,.pointer (some ⟨pb,0,none⟩),.pointer (some ⟨tb,0,none⟩)] w fun e w'=>e=.returned (.int .i64 er)∧∃A n c w1,Below w.heap.size w w1∧P (.slice A n c) w1∧w'=w1.setCell ⟨eb,off,none⟩ (.slice A n c):=by
 have HLT:=Lib.hid (World.block_lt_of_cell? _ _ ho)
 have HF:=Lib.hid hfz
 have HO:=Lib.hid ho
 have N1:=Lib.hid n1
 have N2:=Lib.hid n2
 have KF:=Lib.hid hKF
 obtain ⟨V3,hV3⟩:∃V3,V3=w.drew:=⟨_,rfl⟩
 have BV:=Lib.hid (show Below w.heap.size w V3 by rw [hV3];exact belD (Below.refl _ _) 1)
 have KS:=Lib.hid (fun (W:World) (hb:Below V3.heap.size V3 W)=>(show W.cell? ⟨pb,0,none⟩=some (.func (.func f) #[] #[])∧W.cell? ⟨tb,0,none⟩=some (.pointer (some ⟨eb,off,none⟩)) from ⟨keep6 hb (keep6 BV.out hp),keep6 hb (keep6 BV.out ht)⟩))
 clear hKF hp ht hfz ho n1 n2
 go_enter Tryz.func164,Tryz.ntmps164
 go_wp2_with fail
 refine wp_region_noPanic ?_
 refine wp_region_L (fun W=>W.cell? ⟨pb,0,none⟩=some (.func (.func f) #[] #[])∧W.cell? ⟨tb,0,none⟩=some (.pointer (some ⟨eb,off,none⟩))) 9 (by kernel_rfl) (by rw [←hV3];exact KS.out V3 (Below.refl _ _)) (fun hHeld=>?_)
 rw [←hV3] at hHeld ⊢
 clear hV3
 refine wpAnyL_take (i:=0) (v:=?_) [8,7] rfl (by kernel_rfl) (by kernel_rfl) (by kernel_rfl) (fun _ _ _ h=>h) (by kernel_rfl) (by kernel_rfl) (by kernel_rfl) (Or.inl ⟨by rfl,?_⟩) (by assumption) ?_
 rotate_left
 ·intro w hSw
  try dsimp only at hSw
  go_simp
  first|done|with_reducible rfl
 try simp only [Act.put,List.setIfInBounds_toArray,List.set_cons_zero,List.set_cons_succ]
 refine wpAnyL_take (i:=1) (v:=?_) [8,5,4,3] rfl (by kernel_rfl) (by kernel_rfl) (by kernel_rfl) (fun _ _ _ h=>h) (by kernel_rfl) (by kernel_rfl) (by kernel_rfl) (Or.inl ⟨by rfl,?_⟩) (by assumption) ?_
 rotate_left
 ·intro w hSw
  try dsimp only at hSw
  go_simp
  first|done|with_reducible rfl
 try simp only [Act.put,List.setIfInBounds_toArray,List.set_cons_zero,List.set_cons_succ]
 refine wpAnyL_take (i:=2) (v:=?_) [8,5,4,3] rfl (by kernel_rfl) (by kernel_rfl) (by kernel_rfl) (fun _ _ _ h=>h) (by kernel_rfl) (by kernel_rfl) (by kernel_rfl) (Or.inl ⟨by rfl,?_⟩) (by assumption) ?_
 rotate_left
 ·intro w hSw
  try dsimp only at hSw
  go_simp
  first|done|with_reducible rfl
 try simp only [Act.put,List.setIfInBounds_toArray,List.set_cons_zero,List.set_cons_succ]
 refine wpAnyL_one (i:=3) (by kernel_rfl) rfl (fun K hK=>?_)
 go_simp
 refine (KF.out _ BV.out).mono ?_
 rintro e w4 ⟨⟨A,n,c,rfl,hP⟩,hb4⟩
 have HB4:=Lib.hid hb4
 have HP:=Lib.hid hP
 clear hb4 hP
 go_wp2_with fail
 refine hK.out _ _ (KS.out _ HB4.out) (fun hHeld=>?_)
 clear hK K
 try simp only [Act.put,List.setIfInBounds_toArray,List.set_cons_zero,List.set_cons_succ]
 refine wpAnyL_one (i:=4) (by kernel_rfl) rfl (fun K hK=>?_)
 go_simp
 refine hK.out _ _ (KS.out _ HB4.out) (fun hHeld=>?_)
 clear hK K
 try simp only [Act.put,List.setIfInBounds_toArray,List.set_cons_zero,List.set_cons_succ]
 refine wpAnyL_take (i:=5) (v:=?_) [8] rfl (by kernel_rfl) (by kernel_rfl) (by kernel_rfl) (fun _ _ _ h=>h) (by kernel_rfl) (by kernel_rfl) (by kernel_rfl) (Or.inl ⟨by rfl,?_⟩) (by assumption) ?_
 rotate_left
 ·intro w hSw
  try dsimp only at hSw
  go_simp
  first|done|with_reducible rfl
 try simp only [Act.put,List.setIfInBounds_toArray,List.set_cons_zero,List.set_cons_succ]
 refine wpAnyL_take (i:=6) (v:=?_) [] rfl (by kernel_rfl) (by kernel_rfl) (by kernel_rfl) (fun _ _ _ h=>h) (by kernel_rfl) (by kernel_rfl) (by kernel_rfl) (Or.inl ⟨by rfl,?_⟩) (by assumption) ?_
 rotate_left
 ·intro w hSw
  try dsimp only at hSw
  go_simp
  first|done|with_reducible rfl
 try simp only [Act.put,List.setIfInBounds_toArray,List.set_cons_zero,List.set_cons_succ]
 refine wpAnyL_one (i:=7) (by kernel_rfl) rfl (fun K hK=>?_)
 go_simp
 refine hK.out _ _ (KS.out _ HB4.out) (fun hHeld=>?_)
 clear hK K
 try simp only [Act.put,List.setIfInBounds_toArray,List.set_cons_zero,List.set_cons_succ]
 have f4:=(HB4.out.frozen (p:=⟨eb,off,none⟩) (Nat.lt_of_lt_of_le HLT.out BV.out.size)).trans ((BV.out.frozen (p:=⟨eb,off,none⟩) HLT.out).trans HF.out)
 have o4:=keep6 HB4.out (keep6 BV.out HO.out)
 refine wpAnyL_one (i:=8) (by kernel_rfl) rfl (fun K hK=>?_)
 go_simp
 refine hK.out _ _ ⟨set_ne (KS.out _ HB4.out).1 (blk_ne N1.out),set_ne (KS.out _ HB4.out).2 (blk_ne N2.out)⟩ (fun hHeld=>?_)
 clear hK K
 try simp only [Act.put,List.setIfInBounds_toArray,List.set_cons_zero,List.set_cons_succ]
 refine wpAnyL_last (by kernel_rfl) rfl (by kernel_rfl) (fun K hK=>?_)
 go_simp
 refine hK.out _ _ ?_
 clear hK K
 refine NoPanic.normal ?_
 clear f4 o4
 go_wp2
 go_ret
 exact ⟨rfl,A,n,c,w4,BV.out.trans (HB4.out.mono BV.out.size),HP.out,rfl⟩
set_option maxHeartbeats 2000000 in
theorem intoA_any (f:Nat) (eb off:Nat) (w:World):Calls Tryz.prog 107 #[.pointer (some ⟨eb,off,none⟩),.func (.func f) #[] #[]] w fun e w'=>e=.returned (.func (.func 168) #[] #[.pointer (some ⟨w.heap.size+1,0,none⟩),.pointer (some ⟨w.heap.size,0,none⟩)])∧w'=(w.alloc (.cells #[.pointer (some ⟨eb,off,none⟩)] 135)).alloc (.cells #[.func (.func f) #[] #[]] 107):=by
 have hmf:∀(fn:Fn) (first cap:Array Value) (w:World),(Instr.makeFunc fn first cap).run Tryz.prog w=.ok (.func fn first cap) w:=fun _ _ _ _=>rfl
 go_enter Tryz.func107,Tryz.ntmps107
 go_wp2
 go_ret
 exact ⟨rfl,rfl⟩
set_option maxHeartbeats 4000000 in
theorem into1A_any (f:Nat) (hcf:∀(args:Array Value) (w:World),(callFunc f args).run Tryz.prog w=.ok (.enter f args) w) (s:ByteArray) (er:Int) (P:Value→World→Prop) (pb tb eb off:Nat) (old:Value) (w:World)
  (hp:w.cell? ⟨pb,0,none⟩=some (.func (.func f) #[] #[])) (ht:w.cell? ⟨tb,0,none⟩=some (.pointer (some ⟨eb,off,none⟩))) (hfz:w.frozen? ⟨eb,off,none⟩=false) (ho:w.cell? ⟨eb,off,none⟩=some old) (n1:eb≠pb) (n2:eb≠tb)
  (hKF:∀W:World,Below w.heap.size w W→Calls Tryz.prog f #[.string s] W fun e W'=>(∃A n c,e=.returned (.tuple #[.slice A n c,.int .i64 er])∧P (.slice A n c) W')∧Below W.heap.size W W') :
  Calls Tryz.prog 168 #[.string s,.pointer (some ⟨pb,0,none⟩),.pointer (some ⟨tb,0,none⟩)] w fun e w'=>e=.returned (.int .i64 er)∧∃A n c w1,Below w.heap.size w w1∧P (.slice A n c) w1∧w'=w1.setCell ⟨eb,off,none⟩ (.slice A n c):=by
 have HLT:=Lib.hid (World.block_lt_of_cell? _ _ ho)
 have HF:=Lib.hid hfz
 have HO:=Lib.hid ho
 have N1:=Lib.hid n1
 have N2:=Lib.hid n2
 have KF:=Lib.hid hKF
 obtain ⟨V3,hV3⟩:∃V3,V3=w.drew:=⟨_,rfl⟩
 have BV:=Lib.hid (show Below w.heap.size w V3 by rw [hV3];exact belD (Below.refl _ _) 1)
 have KS:=Lib.hid (fun (W:World) (hb:Below V3.heap.size V3 W)=>(show W.cell? ⟨pb,0,none⟩=some (.func (.func f) #[] #[])∧W.cell? ⟨tb,0,none⟩=some (.pointer (some ⟨eb,off,none⟩)) from ⟨keep6 hb (keep6 BV.out hp),keep6 hb (keep6 BV.out ht)⟩))
 clear hKF hp ht hfz ho n1 n2
 go_enter Tryz.func168,Tryz.ntmps168
 go_wp2_with fail
 refine wp_region_noPanic ?_
 refine wp_region_L (fun W=>W.cell? ⟨pb,0,none⟩=some (.func (.func f) #[] #[])∧W.cell? ⟨tb,0,none⟩=some (.pointer (some ⟨eb,off,none⟩))) 9 (by kernel_rfl) (by rw [←hV3];exact KS.out V3 (Below.refl _ _)) (fun hHeld=>?_)
 rw [←hV3] at hHeld ⊢
 clear hV3
 refine wpAnyL_take (i:=0) (v:=?_) [8,7] rfl (by kernel_rfl) (by kernel_rfl) (by kernel_rfl) (fun _ _ _ h=>h) (by kernel_rfl) (by kernel_rfl) (by kernel_rfl) (Or.inl ⟨by rfl,?_⟩) (by assumption) ?_
 rotate_left
 ·intro w hSw
  try dsimp only at hSw
  go_simp
  first|done|with_reducible rfl
 try simp only [Act.put,List.setIfInBounds_toArray,List.set_cons_zero,List.set_cons_succ]
 refine wpAnyL_take (i:=1) (v:=?_) [8,5,4,3] rfl (by kernel_rfl) (by kernel_rfl) (by kernel_rfl) (fun _ _ _ h=>h) (by kernel_rfl) (by kernel_rfl) (by kernel_rfl) (Or.inl ⟨by rfl,?_⟩) (by assumption) ?_
 rotate_left
 ·intro w hSw
  try dsimp only at hSw
  go_simp
  first|done|with_reducible rfl
 try simp only [Act.put,List.setIfInBounds_toArray,List.set_cons_zero,List.set_cons_succ]
 refine wpAnyL_take (i:=2) (v:=?_) [8,5,4,3] rfl (by kernel_rfl) (by kernel_rfl) (by kernel_rfl) (fun _ _ _ h=>h) (by kernel_rfl) (by kernel_rfl) (by kernel_rfl) (Or.inl ⟨by rfl,?_⟩) (by assumption) ?_
 rotate_left
 ·intro w hSw
  try dsimp only at hSw
  go_simp
  first|done|with_reducible rfl
 try simp only [Act.put,List.setIfInBounds_toArray,List.set_cons_zero,List.set_cons_succ]
 refine wpAnyL_one (i:=3) (by kernel_rfl) rfl (fun K hK=>?_)
 go_simp
 refine (KF.out _ BV.out).mono ?_
 rintro e w4 ⟨⟨A,n,c,rfl,hP⟩,hb4⟩
 have HB4:=Lib.hid hb4
 have HP:=Lib.hid hP
 clear hb4 hP
 go_wp2_with fail
 refine hK.out _ _ (KS.out _ HB4.out) (fun hHeld=>?_)
 clear hK K
 try simp only [Act.put,List.setIfInBounds_toArray,List.set_cons_zero,List.set_cons_succ]
 refine wpAnyL_one (i:=4) (by kernel_rfl) rfl (fun K hK=>?_)
 go_simp
 refine hK.out _ _ (KS.out _ HB4.out) (fun hHeld=>?_)
 clear hK K
 try simp only [Act.put,List.setIfInBounds_toArray,List.set_cons_zero,List.set_cons_succ]
 refine wpAnyL_take (i:=5) (v:=?_) [8] rfl (by kernel_rfl) (by kernel_rfl) (by kernel_rfl) (fun _ _ _ h=>h) (by kernel_rfl) (by kernel_rfl) (by kernel_rfl) (Or.inl ⟨by rfl,?_⟩) (by assumption) ?_
 rotate_left
 ·intro w hSw
  try dsimp only at hSw
  go_simp
  first|done|with_reducible rfl
 try simp only [Act.put,List.setIfInBounds_toArray,List.set_cons_zero,List.set_cons_succ]
 refine wpAnyL_take (i:=6) (v:=?_) [] rfl (by kernel_rfl) (by kernel_rfl) (by kernel_rfl) (fun _ _ _ h=>h) (by kernel_rfl) (by kernel_rfl) (by kernel_rfl) (Or.inl ⟨by rfl,?_⟩) (by assumption) ?_
 rotate_left
 ·intro w hSw
  try dsimp only at hSw
  go_simp
  first|done|with_reducible rfl
 try simp only [Act.put,List.setIfInBounds_toArray,List.set_cons_zero,List.set_cons_succ]
 refine wpAnyL_one (i:=7) (by kernel_rfl) rfl (fun K hK=>?_)
 go_simp
 refine hK.out _ _ (KS.out _ HB4.out) (fun hHeld=>?_)
 clear hK K
 try simp only [Act.put,List.setIfInBounds_toArray,List.set_cons_zero,List.set_cons_succ]
 have f4:=(HB4.out.frozen (p:=⟨eb,off,none⟩) (Nat.lt_of_lt_of_le HLT.out BV.out.size)).trans ((BV.out.frozen (p:=⟨eb,off,none⟩) HLT.out).trans HF.out)
 have o4:=keep6 HB4.out (keep6 BV.out HO.out)
 refine wpAnyL_one (i:=8) (by kernel_rfl) rfl (fun K hK=>?_)
 go_simp
 refine hK.out _ _ ⟨set_ne (KS.out _ HB4.out).1 (blk_ne N1.out),set_ne (KS.out _ HB4.out).2 (blk_ne N2.out)⟩ (fun hHeld=>?_)
 clear hK K
 try simp only [Act.put,List.setIfInBounds_toArray,List.set_cons_zero,List.set_cons_succ]
 refine wpAnyL_last (by kernel_rfl) rfl (by kernel_rfl) (fun K hK=>?_)
 go_simp
 refine hK.out _ _ ?_
 clear hK K
 refine NoPanic.normal ?_
 clear f4 o4
 go_wp2
 go_ret
 exact ⟨rfl,A,n,c,w4,BV.out.trans (HB4.out.mono BV.out.size),HP.out,rfl⟩
end Go.Proofs.YtboinnjncaehkaaGreatDoor
