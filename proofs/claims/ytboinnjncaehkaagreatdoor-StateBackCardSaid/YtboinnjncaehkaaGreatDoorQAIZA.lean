/- What the laws rest on: StzP, RelP, EndsP, DepP2, E6k, D4t, E6l, E6p, P6p, E6n, E6o, E6r, D4v, P6q. -/
import Derived.Test.YtboinnjncaehkaaGreatDoorQAGZA
import Derived.Test.YtboinnjncaehkaaGreatDoorQBUZA
set_option maxRecDepth 100000
set_option linter.unusedVariables false
set_option linter.unusedSimpArgs false
namespace Go.Proofs.YtboinnjncaehkaaGreatDoor
open Go.RowKit
theorem lnE_nil (s:PS):lnE s []=0:=rfl
theorem op_sign (op:Int) (h:1≤op∧op≤5):opI (signL op)=op∧∀c ∈ signL op,c≠32:=by
 have:op=1∨op=2∨op=3∨op=4∨op=5:=by omega
 rcases this with rfl|rfl|rfl|rfl|rfl<;>exact ⟨by decide,by decide⟩
theorem name_no {n:List Nat} (h:nameB n=true):∀c ∈ n,c≠32:=by
 unfold nameB at h
 simp only [Bool.and_eq_true] at h
 intro c hc e
 subst e
 have:=List.all_eq_true.1 h.2 32 hc
 revert this;decide
theorem rel_of_text {n v:List Nat} {op:Int} (h:rightA n op v=true):relE (textA n op v)=0∧relN (textA n op v)=n∧relO (textA n op v)=op∧relV (textA n op v)=v:=by
 unfold rightA at h
 simp only [Bool.and_eq_true] at h
 obtain ⟨hn,h⟩:=h
 unfold textA
 by_cases h0:op=0
 ·rw [if_pos h0] at h ⊢
  obtain ⟨c0,c1,c2⟩:=cut_no (name_no hn)
  have hE:relE n=0:=by unfold relE;rw [c0,if_pos hn,c2,if_neg (by decide)]
  refine ⟨hE,?_,?_,?_⟩
  ·unfold relN;rw [if_pos hE,c0]
  ·unfold relO;rw [if_pos hE,c2,if_neg (by decide),h0]
  ·unfold relV;rw [if_pos hE,c2,if_neg (by decide)];exact (of_decide_eq_true h).symm
 ·rw [if_neg h0] at h ⊢
  simp only [Bool.and_eq_true,decide_eq_true_eq] at h
  obtain ⟨ho,hv⟩:=h
  obtain ⟨so,sn⟩:=op_sign op ho
  obtain ⟨c0,c1,c2⟩:=cut_at (r:=40::(signL op++32::(v++[41]))) (name_no hn)
  have hin:inL (40::(signL op++32::(v++[41])))=signL op++32::v:=by
   rw [show (40:Nat)::(signL op++32::(v++[41]))=40::((signL op++32::v)++[41]) by simp]
   exact inL_of _ _ _
  obtain ⟨d0,d1,d2⟩:=cut_at (r:=v) sn
  have hver:verL (40::(signL op++32::(v++[41])))=v:=by unfold verL;rw [hin,d1]
  have hF:formB (40::(signL op++32::(v++[41])))=true:=by
   unfold formB
   rw [hin,d0,d2,so]
   have e1:(40::(signL op++32::(v++[41]))).getD ((40::(signL op++32::(v++[41]))).length - 1) 0=41:=by
    rw [show (40:Nat)::(signL op++32::(v++[41]))=(40::(signL op++32::v))++[41] by simp,List.length_append]
    simp [List.getD_eq_getElem?_getD]
   simp only [e1,List.getD_cons_zero,decide_true,Bool.true_and,Bool.and_true,Bool.and_eq_true,decide_eq_true_eq]
   exact ⟨by simp;omega,by omega⟩
  have hE:relE (n++32::40::(signL op++32::(v++[41])))=0:=by
   unfold relE;rw [c0,if_pos hn,c2,if_pos rfl,c1,if_pos hF,hver,if_pos hv]
  refine ⟨hE,?_,?_,?_⟩
  ·unfold relN;rw [if_pos hE,c0]
  ·unfold relO;rw [if_pos hE,c2,if_pos rfl,c1,hin,d0,so]
  ·unfold relV;rw [if_pos hE,c2,if_pos rfl,c1,hver]
theorem decF_dig:∀(f n:Nat) (l:List Nat),(∀c ∈ l,digB c=true)→∀c ∈ decF f n l,digB c=true
 | 0,_,_,h=>h
 | f+1,n,l,h=>by
  simp only [decF]
  split
  ·intro c hc
   rcases List.mem_cons.1 hc with rfl|hc
   ·simp only [digB,decide_eq_true_eq];omega
   ·exact h c hc
  ·refine decF_dig f _ _ (fun c hc=>?_)
   rcases List.mem_cons.1 hc with rfl|hc
   ·simp only [digB,decide_eq_true_eq];omega
   ·exact h c hc
theorem decL_dig (n:Nat):∀c ∈ decL n,digB c=true:=decF_dig _ _ _ (by simp)
theorem ch_txC {x:List Nat} {c:Nat} (h:chB x c=true) (hx:∀d ∈ x,txC d):txC c:=by
 unfold chB letB digB hasB at h
 simp only [Bool.or_eq_true,decide_eq_true_eq,List.contains_iff_mem] at h
 rcases h with h|h
 ·unfold txC;omega
 ·exact hx c h
theorem pr_txC {v:List Nat} (h:prB v=true):∀c ∈ v,txC c:=by
 unfold prB at h
 simp only [Bool.and_eq_true,decide_eq_true_eq] at h
 intro c hc
 rw [←h.2] at hc
 unfold printL at hc
 split at hc
 ·rename_i hr
  unfold rightB at hr
  simp only [Bool.and_eq_true,List.all_eq_true] at hr
  unfold textL at hc
  simp only [List.mem_append] at hc
  rcases hc with (hc|hc)|hc
  ·split at hc
   ·simp at hc
   ·rcases List.mem_append.1 hc with hc|hc
    ·have:=decL_dig _ c hc
     unfold digB at this
     simp only [decide_eq_true_eq] at this
     unfold txC;omega
    ·simp at hc;subst hc;unfold txC;omega
  ·exact ch_txC (hr.1.1.2 c hc) (by unfold uX txC;simp)
  ·split at hc
   ·simp at hc
   ·rcases List.mem_cons.1 hc with rfl|hc
    ·unfold txC;omega
    ·exact ch_txC (hr.1.2 c hc) (by unfold rX txC;simp)
 ·simp at hc
theorem txt_txC {a:Atm} (h:rgt a=true):∀c ∈ txt a,txC c:=by
 unfold rgt rightA at h
 simp only [Bool.and_eq_true] at h
 intro c hc
 unfold txt textA at hc
 split at hc
 ·exact (name_txC h.1 c hc).1
 ·rename_i h0
  rw [if_neg h0] at h
  simp only [Bool.and_eq_true,decide_eq_true_eq] at h
  have:a.o=1∨a.o=2∨a.o=3∨a.o=4∨a.o=5:=by omega
  have hs:∀c ∈ signL a.o,txC c:=by rcases this with h|h|h|h|h<;>rw [h]<;>(unfold txC;decide)
  simp only [List.mem_append,List.mem_cons,List.not_mem_nil,or_false] at hc
  rcases hc with hc|rfl|rfl|hc|rfl|hc|rfl
  ·exact (name_txC h.1 c hc).1
  ·exact ⟨by omega,by omega⟩
  ·exact ⟨by omega,by omega⟩
  ·exact hs c hc
  ·exact ⟨by omega,by omega⟩
  ·exact pr_txC h.2.2 c hc
  ·exact ⟨by omega,by omega⟩
theorem txt_ne {a:Atm} (h:rgt a=true):∃x r,txt a=x::r∧x≠32:=by
 unfold rgt rightA at h
 simp only [Bool.and_eq_true] at h
 have hl:=name_len h.1
 have hc:=fun c hc=>(name_txC h.1 c hc).2
 unfold txt textA
 cases hn:B a.n with
 | nil=>rw [hn] at hl;simp at hl
 | cons x r=>
  rw [hn] at hc
  have hx:=hc x (by simp)
  split
  ·exact ⟨x,r,rfl,hx⟩
  ·exact ⟨x,_,List.cons_append ..,hx⟩
theorem txt_trm {a:Atm} (h:rgt a=true):trm (txt a)=txt a:=by
 refine trm_full (fun x r e=>?_) (fun x r e=>?_)
 ·obtain ⟨y,t,e',hy⟩:=txt_ne h
  rw [e'] at e
  injection e with e1 e2
  rw [←e1];exact hy
 ·unfold rgt rightA at h
  simp only [Bool.and_eq_true] at h
  unfold txt textA at e
  split at e
  ·have hc:=fun c hc=>(name_txC h.1 c hc).2
   rw [e] at hc
   exact hc x (by simp)
  ·have:((B a.n++32::40::(signL a.o++32::B a.v))++[41])=r++[x]:=by rw [←e];simp
   have:=List.append_inj_right' this rfl
   simp at this
   omega
theorem atmOf_txt {a:Atm} (h:rgt a=true):relE (txt a)=0∧atmOf (txt a)=a:=by
 obtain ⟨h0,h1,h2,h3⟩:=rel_of_text h
 refine ⟨h0,?_⟩
 unfold atmOf txt
 rw [h1,h2,h3,mk_B,mk_B]
theorem errF_txt:∀{g:List Atm},(∀a ∈ g,rgt a=true)→errF (g.map txt)=0
 | [],_=>rfl
 | a::g,h=>by
  rw [List.map_cons,errF,if_pos (atmOf_txt (h a (by simp))).1]
  exact errF_txt fun b hb=>h b (by simp [hb])
theorem cutBar:∀{ts:List (List Nat)},ts≠[]→(∀t ∈ ts,∀c ∈ t,c≠124)→(cutBy 124 (joinL [32,124,32] ts)).map trm=ts.map trm
 | [],h,_=>absurd rfl h
 | [x],_,hn=>by rw [joinL,cutBy_none (hn x (by simp))]
 | x::y::r,_,hn=>by
  have ih:=cutBar (ts:=y::r) (by simp) (fun t ht=>hn t (by simp [ht]))
  have e:joinL [32,124,32] (x::y::r)=(x++[32])++124::(32::joinL [32,124,32] (y::r)):=by simp [joinL]
  rw [e,cutBy_at (fun c hc=>by rcases List.mem_append.1 hc with hc|hc;exact hn x (by simp) c hc;simp at hc;omega)]
  rw [List.map_cons,trm_snoc]
  have:=grpT_cons (joinL [32,124,32] (y::r))
  unfold grpT at this
  rw [this,ih];rfl
theorem cutComma:∀{gs:List (List Nat)},gs≠[]→(∀t ∈ gs,∀c ∈ t,c≠44)→fld (joinL [44,32] gs)=gs.map grpT
 | [],h,_=>absurd rfl h
 | [x],_,hn=>by rw [joinL];unfold fld;rw [cutBy_none (hn x (by simp))];try rfl
 | x::y::r,_,hn=>by
  have ih:=cutComma (gs:=y::r) (by simp) (fun t ht=>hn t (by simp [ht]))
  have e:joinL [44,32] (x::y::r)=x++44::(32::joinL [44,32] (y::r)):=by simp [joinL]
  unfold fld at ih ⊢
  rw [e,cutBy_at (hn x (by simp)),List.map_cons,List.map_cons]
  rw [show 32::joinL [44,32] (y::r)=[32]++joinL [44,32] (y::r) from rfl,cutBy_app (by simp)]
  congr 1
  rw [←ih]
  cases hL:cutBy 44 (joinL [44,32] (y::r)) with
  | nil=>exact absurd hL (cutBy_ne _ _)
  | cons q t=>simp only [preH,List.map_cons];rw [show [32]++q=32::q from rfl,grpT_cons]
theorem grpT_grpS {g:List Atm} (h:rgtOne g=true):grpT (grpS g)=g.map txt:=by
 unfold rgtOne at h
 simp only [Bool.and_eq_true,decide_eq_true_eq,List.all_eq_true] at h
 unfold grpT grpS
 rw [cutBar (by cases g;simp at h;simp) (fun t ht c hc=>by
  obtain ⟨a,ha,rfl⟩:=List.mem_map.1 ht
  exact (txt_txC (h.2 a ha) c hc).2)]
 rw [List.map_map]
 exact List.map_congr_left fun a ha=>txt_trm (h.2 a ha)
theorem grpS_no {g:List Atm} (h:rgtOne g=true):∀c ∈ grpS g,c≠44:=by
 unfold rgtOne at h
 simp only [Bool.and_eq_true,decide_eq_true_eq,List.all_eq_true] at h
 intro c hc
 rcases joinL_mem hc with hc|⟨t,ht,hc⟩
 ·simp at hc;omega
 ·obtain ⟨a,ha,rfl⟩:=List.mem_map.1 ht
  exact (txt_txC (h.2 a ha) c hc).1
theorem joinL_ne {sep x:List Nat} {r:List (List Nat)} (h:x≠[]):joinL sep (x::r)≠[]:=by
 cases r with
 | nil=>exact h
 | cons y r=>simp only [joinL];intro e;simp at e;exact h e.1
theorem grpS_ne {g:List Atm} (h:rgtOne g=true):grpS g≠[]:=by
 unfold rgtOne at h
 simp only [Bool.and_eq_true,decide_eq_true_eq,List.all_eq_true] at h
 cases g with
 | nil=>simp at h
 | cons a g=>
  obtain ⟨x,r,e,_⟩:=txt_ne (h.2 a (by simp))
  exact joinL_ne (by show txt a≠[];rw [e];simp)
theorem dep_of_fld {s:List Nat} {L:List (List Atm)} (hs:s≠[]) (hr:rightG L=true) (hf:fld s=L.map fun g=>g.map txt):depE s=0∧depL s=L:=by
 unfold rightG at hr
 simp only [Bool.and_eq_true,decide_eq_true_eq,List.all_eq_true] at hr
 have hone:∀g ∈ L,(1≤g.length∧g.length≤6)∧∀a ∈ g,rgt a=true:=fun g hg=>by
  have:=hr.2 g hg
  unfold rgtOne at this
  simpa only [Bool.and_eq_true,decide_eq_true_eq,List.all_eq_true] using this
 have hm:manyF (fld s)=false:=by
  unfold manyF
  rw [hf,List.length_map,decide_eq_false (by omega),Bool.false_or,List.any_eq_false]
  intro g hg
  obtain ⟨g',hg',rfl⟩:=List.mem_map.1 hg
  rw [List.length_map]
  have:=hone g' hg'
  simpa using this.1.2
 have he:depE s=0:=by
  unfold depE
  rw [if_neg hs,hm,hf]
  have e:(L.map fun g=>g.map txt).flatten=L.flatten.map txt:=by rw [List.map_flatten]
  rw [e]
  exact errF_txt fun a ha=>by
   obtain ⟨g,hg,ha⟩:=List.mem_flatten.1 ha
   exact (hone g hg).2 a ha
 refine ⟨he,?_⟩
 unfold depL
 rw [if_neg hs,if_pos he,hf,List.map_map]
 conv=>rhs;rw [←List.map_id L]
 refine List.map_congr_left fun g hg=>?_
 simp only [Function.comp,List.map_map]
 conv=>rhs;rw [id,←List.map_id g]
 exact List.map_congr_left fun a ha=>(atmOf_txt ((hone g hg).2 a ha)).2
theorem parse_prtG {L:List (List Atm)} (h:rightG L=true):depE (prtG L)=0∧depL (prtG L)=L:=by
 cases L with
 | nil=>exact ⟨rfl,rfl⟩
 | cons g r=>
  have hr:=h
  unfold rightG at h
  simp only [Bool.and_eq_true,decide_eq_true_eq,List.all_eq_true] at h
  have e:prtG (g::r)=joinL [44,32] ((g::r).map grpS):=by unfold prtG;rw [if_pos hr]
  refine dep_of_fld ?_ hr ?_
  ·rw [e];exact joinL_ne (grpS_ne (h.2 g (by simp)))
  ·rw [e,cutComma (by simp) (fun t ht c hc=>by
    obtain ⟨g',hg',rfl⟩:=List.mem_map.1 ht
    exact grpS_no (h.2 g' hg') c hc),List.map_map]
   exact List.map_congr_left fun g' hg'=>grpT_grpS (h.2 g' hg')
theorem size0 {v:ByteArray} (h:v.size=0):v={ data:=#[] }:=by
 obtain ⟨a⟩:=v
 have:a=#[]:=Array.eq_empty_of_size_eq_zero h
 rw [this]
theorem fst_hit {n v:ByteArray} {r:List Fd} (hr:fstV r n={ data:=#[] }):fstV (opt n v++r) n=v:=by
 unfold opt
 split
 ·rename_i h;rw [List.nil_append,hr,size0 h]
 ·rw [List.singleton_append,fstV_cons,if_pos rfl]
theorem fst_miss {n v m:ByteArray} {r:List Fd} (h:n≠m):fstV (opt n v++r) m=fstV r m:=by
 unfold opt
 split
 ·rfl
 ·rw [List.singleton_append,fstV_cons,if_neg h]
theorem fst_none {m:ByteArray}:∀{y:List Fd},(∀f ∈ y,f.n≠m)→fstV y m={ data:=#[] }
 | [],_=>rfl
 | f::r,h=>by
  rw [fstV_cons,if_neg (h f (by simp))];exact fst_none fun g hg=>h g (by simp [hg])
def othr (f:Fd):Prop:=f.n≠nDe∧f.n≠nRe∧f.n≠nCo∧f.n≠nPr
theorem wr4_get (x:Ent) (y:List Fd) (hy:∀f ∈ y,othr f):getV (wr4 x++y) nPk=true∧getV (wr4 x++y) nVe=true∧fstV (wr4 x++y) nPk=x.n∧fstV (wr4 x++y) nVe=x.v∧
  fstV (wr4 x++y) nDe=mk (prtG x.d)∧fstV (wr4 x++y) nRe=mk (prtG x.r)∧fstV (wr4 x++y) nCo=mk (prtG (x.c.map fun a=>[a]))∧fstV (wr4 x++y) nPr=mk (prtG (x.p.map fun a=>[a])):=by
 rw [wr4_list]
 have k1:nPk≠nVe:=by decide
 have k2:nPk≠nDe:=by decide
 have k3:nPk≠nRe:=by decide
 have k4:nPk≠nCo:=by decide
 have k5:nPk≠nPr:=by decide
 have v2:nVe≠nDe:=by decide
 have v3:nVe≠nRe:=by decide
 have v4:nVe≠nCo:=by decide
 have v5:nVe≠nPr:=by decide
 have d3:nDe≠nRe:=by decide
 have d4:nDe≠nCo:=by decide
 have d5:nDe≠nPr:=by decide
 have r4:nRe≠nCo:=by decide
 have r5:nRe≠nPr:=by decide
 have c5:nCo≠nPr:=by decide
 refine ⟨by rw [getV_cons,decide_eq_true rfl,Bool.true_or],by rw [getV_cons,getV_cons,decide_eq_true (show (⟨nVe,x.v⟩:Fd).n=nVe from rfl),Bool.true_or,Bool.or_true],by rw [fstV_cons,if_pos rfl],by rw [fstV_cons,if_neg k1,fstV_cons,if_pos rfl],?_,?_,?_,?_⟩
 ·rw [fstV_cons,if_neg k2,fstV_cons,if_neg v2]
  exact fst_hit (by rw [fst_miss d3.symm,fst_miss d4.symm,fst_miss d5.symm];exact fst_none fun f hf=>(hy f hf).1)
 ·rw [fstV_cons,if_neg k3,fstV_cons,if_neg v3,fst_miss d3]
  exact fst_hit (by rw [fst_miss r4.symm,fst_miss r5.symm];exact fst_none fun f hf=>(hy f hf).2.1)
 ·rw [fstV_cons,if_neg k4,fstV_cons,if_neg v4,fst_miss d4,fst_miss r4]
  exact fst_hit (by rw [fst_miss c5.symm];exact fst_none fun f hf=>(hy f hf).2.2.1)
 ·rw [fstV_cons,if_neg k5,fstV_cons,if_neg v5,fst_miss d5,fst_miss r5,fst_miss c5]
  exact fst_hit (fst_none fun f hf=>(hy f hf).2.2.2)
theorem rgtE_parts {x:Ent} (h:rgtE x=true):nameB (B x.n)=true∧prB (B x.v)=true∧rightG x.d=true∧rightG x.r=true∧(∀a ∈ x.c,rgt a=true)∧(∀a ∈ x.p,rgt a=true)∧givs6 x.p=true∧x.c.length≤12∧x.p.length≤8:=by
 unfold rgtE at h
 simp only [Bool.and_eq_true,decide_eq_true_eq,List.all_eq_true] at h
 obtain ⟨a,b,c,d,e,f,g,i,j⟩:=h
 exact ⟨a,b,c,d,e,f,g,i,j⟩
theorem rdE_wr (AE:List Nat→Int) (AL:List Nat→List Atm) (BK:∀L,B (mk (prtG L))=prtG L) (JK:∀l:List Atm,l.length≤12→(∀a ∈ l,rgt a=true)→AE (prtG (l.map fun a=>[a]))=0∧AL (prtG (l.map fun a=>[a]))=l)
  {x:Ent} (h:rgtE x=true) (y:List Fd) (hy:∀f ∈ y,othr f):rdE AE AL (wr4 x++y)=(0,x):=by
 obtain ⟨g1,g2,f1,f2,f3,f4,f5,f6⟩:=wr4_get x y hy
 obtain ⟨p1,p2,p3,p4,p5,p6,p7,p8,p9⟩:=rgtE_parts h
 obtain ⟨q1,q2⟩:=parse_prtG p3
 obtain ⟨q3,q4⟩:=parse_prtG p4
 obtain ⟨q5,q6⟩:=JK x.c p8 p5
 obtain ⟨q7,q8⟩:=JK x.p (by omega) p6
 unfold rdE
 rw [g1,g2,f1,f2,f3,f4,f5,f6,BK,BK,BK,BK,q1,q2,q3,q4,q5,q6,q7,q8,p1,p2,p7]
 rw [if_neg (by decide),if_neg (by decide),if_neg (by decide),if_neg (by decide),if_neg (by decide),if_neg (by decide),if_neg (by decide),if_neg (by omega),if_neg (by decide)]
theorem prtG_lt (L:List (List Atm)):∀c ∈ prtG L,c < 256:=by
 unfold prtG
 split
 ·rename_i h
  have hp:=right_parts h
  exact joinL_lt (by decide) (fun t ht=>by obtain ⟨g,hg,rfl⟩:=List.mem_map.1 ht;exact grpS_lt (hp.1 g hg).1)
 ·simp
theorem rdE_right (AE:List Nat→Int) (AL:List Nat→List Atm) (JR:∀s:List Nat,AE s=0→(AL s).length≤12∧∀a ∈ AL s,rgt a=true) (st:List Fd) (h:(rdE AE AL st).1=0):rgtE (rdE AE AL st).2=true:=by
 unfold rdE at h ⊢
 by_cases g1:getV st nPk=false∨getV st nVe=false
 ·rw [if_pos g1] at h;exact absurd h (by decide)
 rw [if_neg g1] at h ⊢
 by_cases g2:nameB (B (fstV st nPk))=false
 ·rw [if_pos g2] at h;exact absurd h (by decide)
 rw [if_neg g2] at h ⊢
 by_cases g3:prB (B (fstV st nVe))=false
 ·rw [if_pos g3] at h;exact absurd h (by decide)
 rw [if_neg g3] at h ⊢
 by_cases g4:depE (B (fstV st nDe))≠0
 ·rw [if_pos g4] at h;exact absurd h g4
 rw [if_neg g4] at h ⊢
 by_cases g5:depE (B (fstV st nRe))≠0
 ·rw [if_pos g5] at h;exact absurd h g5
 rw [if_neg g5] at h ⊢
 by_cases g6:AE (B (fstV st nCo))≠0
 ·rw [if_pos g6] at h;exact absurd h g6
 rw [if_neg g6] at h ⊢
 by_cases g7:AE (B (fstV st nPr))≠0
 ·rw [if_pos g7] at h;exact absurd h g7
 rw [if_neg g7] at h ⊢
 by_cases g8:8 < (AL (B (fstV st nPr))).length
 ·rw [if_pos g8] at h;exact absurd h (by decide)
 rw [if_neg g8] at h ⊢
 by_cases g9:givs6 (AL (B (fstV st nPr)))=false
 ·rw [if_pos g9] at h;exact absurd h (by decide)
 rw [if_neg g9]
 have j1:=JR _ (Decidable.not_not.1 g6)
 have j2:=JR _ (Decidable.not_not.1 g7)
 have d1:=right_of_parse (B_lt (fstV st nDe)) (Decidable.not_not.1 g4)
 have d2:=right_of_parse (B_lt (fstV st nRe)) (Decidable.not_not.1 g5)
 rw [Bool.not_eq_false] at g2 g3 g9
 unfold rgtE
 simp only [Bool.and_eq_true,decide_eq_true_eq,List.all_eq_true]
 exact ⟨g2,g3,d1,d2,j1.2,j2.2,g9,j1.1,by omega⟩
theorem joinL_tot6 (sep:List Nat):∀ts:List (List Nat),(joinL sep ts).length≤tot6 sep.length ts
 | []=>Nat.zero_le _
 | [x]=>by rw [tot6_cons];show x.length≤_;omega
 | x::y::r=>by
  have:=joinL_tot6 sep (y::r)
  rw [tot6_cons]
  show (x++(sep++joinL sep (y::r))).length≤_
  rw [List.length_append,List.length_append];omega
theorem tot6_mono (a b:Nat) (f:List Nat→List Nat):∀L:List (List Nat),(∀q ∈ L,(f q).length+a≤b*(q.length+1))→tot6 a (L.map f)≤b*tot6 1 L
 | [],_=>Nat.zero_le _
 | q::L,h=>by
  have h1:=h q (by simp)
  have h2:=tot6_mono a b f L fun p hp=>h p (by simp [hp])
  rw [List.map_cons,tot6_cons,tot6_cons,Nat.mul_add];omega
theorem trm_le6 (l:List Nat):(trm l).length≤l.length:=by
 unfold trm trmR
 have h1:=((List.dropWhile_sublist (fun c=>c==32) (l:=(l.reverse.dropWhile (fun c=>c==32)).reverse))).length_le
 have h2:=((List.dropWhile_sublist (fun c=>c==32) (l:=l.reverse))).length_le
 rw [List.length_reverse] at h1 h2
 omega
theorem txt_same {p:List Nat} (hp:∀c ∈ p,c < 256) (h:relE p=0):txt (atmOf p)=p:=by
 have:=(text_of_rel h).2
 unfold txt atmOf
 have hn:∀c ∈ relN p,c < 256:=fun c hc=>by
  unfold relN at hc;rw [if_pos h] at hc;exact hp c (cutN_mem hc)
 have hv:∀c ∈ relV p,c < 256:=fun c hc=>by
  unfold relV at hc;rw [if_pos h] at hc
  split at hc
  ·exact hp c (cutR_mem (inL_mem (cutR_mem hc)))
  ·simp at hc
 simp only [B_mk hn,B_mk hv]
 exact this
theorem grp_len6 {p:List Nat} (hp:∀c ∈ p,c < 256) (h:∀q ∈ grpT p,relE q=0):(grpS ((grpT p).map atmOf)).length+2≤5*(p.length+1):=by
 have e:((grpT p).map atmOf).map txt=grpT p:=by
  rw [List.map_map]
  refine (List.map_congr_left fun q hq=>?_).trans (List.map_id _)
  have hq':=hq
  unfold grpT at hq'
  obtain ⟨q',hq2,rfl⟩:=List.mem_map.1 hq'
  exact txt_same (fun c hc=>hp c (cutBy_mem hq2 c (trm_mem hc)).1) (h _ hq)
 have h1:(grpS ((grpT p).map atmOf)).length≤tot6 3 (grpT p):=by
  unfold grpS
  rw [e];exact joinL_tot6 [32,124,32] _
 have h2:tot6 3 (grpT p)≤3*tot6 1 (cutBy 124 p):=tot6_mono 3 3 trm _ fun q _=>by have:=trm_le6 q;omega
 rw [tot6_cut] at h2
 omega
theorem prtG_depL {t:List Nat} (ht:∀c ∈ t,c < 256):(prtG (depL t)).length≤5*(t.length+1):=by
 by_cases h0:t=[]
 ·subst h0;exact Nat.zero_le _
 by_cases h:depE t=0
 ·have hd:depL t=(fld t).map fun g=>g.map atmOf:=by unfold depL;rw [if_neg h0,if_pos h]
  have he:errF (fld t).flatten=0:=by
   unfold depE at h
   rw [if_neg h0] at h
   split at h
   ·contradiction
   ·exact h
  unfold prtG
  split
  ·have h1:=joinL_tot6 [44,32] ((depL t).map grpS)
   have h2:tot6 2 ((depL t).map grpS)≤5*tot6 1 (cutBy 44 t):=by
    have e:(depL t).map grpS=(cutBy 44 t).map fun p=>grpS ((grpT p).map atmOf):=by
     rw [hd];unfold fld;rw [List.map_map,List.map_map];rfl
    rw [e]
    refine tot6_mono 2 5 _ _ fun p hp=>grp_len6 (fun c hc=>ht c (cutBy_mem hp c hc).1) fun q hq=>errF_mem he q (List.mem_flatten.2 ⟨grpT p,?_,hq⟩)
    unfold fld
    exact List.mem_map.2 ⟨p,hp,rfl⟩
   rw [tot6_cut] at h2
   exact Nat.le_trans h1 h2
  ·exact Nat.zero_le _
 ·rw [depL_bad h];exact Nat.zero_le _
def Good1 (f:Fd):Prop:=fnB (B f.n)=true∧(∀c ∈ B f.v,32≤c)∧hd32 (B f.v)=false∧B f.v≠[]
def ln1 (f:Fd):List Nat:=B f.n++58::32::B f.v
theorem nm_ge {n:List Nat} (h:fnB n=true):(∀c ∈ n,45≤c∧c≠58)∧∃a r,n=a::r∧a≠32:=by
 cases n with
 | nil=>cases h
 | cons a r=>
  rw [fnB_cons,Bool.and_eq_true,Bool.and_eq_true] at h
  obtain ⟨⟨h1,h2⟩,_⟩:=h
  have hl:∀c,letB c=true→65≤c:=fun c hc=>by
   unfold letB at hc
   simp only [decide_eq_true_eq] at hc
   omega
  refine ⟨fun c hc=>?_,a,r,rfl,by have:=hl a h1;omega⟩
  rcases List.mem_cons.1 hc with rfl|hc
  ·have:=hl _ h1;omega
  ·have:=List.all_eq_true.1 h2 c hc
   unfold nmC at this
   rw [Bool.or_eq_true,Bool.or_eq_true] at this
   rcases this with (h|h)|h
   ·have:=hl c h;omega
   ·unfold digB at h;rw [decide_eq_true_eq] at h;omega
   ·rw [decide_eq_true_eq] at h;omega
theorem ln1_ge {f:Fd} (h:Good1 f):∀c ∈ ln1 f,32≤c:=by
 intro c hc
 unfold ln1 at hc
 rcases List.mem_append.1 hc with hc|hc
 ·have:=((nm_ge h.1).1 c hc).1;omega
 ·rcases List.mem_cons.1 hc with rfl|hc
  ·omega
  ·rcases List.mem_cons.1 hc with rfl|hc
   ·omega
   ·exact h.2.1 c hc
theorem ln1_low {f:Fd} (h:Good1 f):lowB (ln1 f)=false:=by
 unfold lowB
 rw [List.any_eq_false]
 intro c hc
 have:=ln1_ge h c hc
 simp only [decide_eq_true_eq];omega
theorem tw_name {n r:List Nat} (h:∀c ∈ n,c≠58):(n++58::r).takeWhile (fun c=>c != 58)=n:=by
 induction n with
 | nil=>rfl
 | cons a n ih=>
  rw [List.cons_append,List.takeWhile_cons,ih fun c hc=>h c (by simp [hc])]
  have:(a != 58)=true:=by rw [bne_iff_ne];exact h a (by simp)
  rw [if_pos this]
theorem ln1_nm {f:Fd} (h:Good1 f):nmOf (ln1 f)=B f.n:=tw_name fun c hc=>((nm_ge h.1).1 c hc).2
theorem ln1_vl {f:Fd} (h:Good1 f):vlOf (ln1 f)=B f.v:=by
 unfold vlOf
 rw [ln1_nm h]
 unfold ln1
 have:(B f.n++58::32::B f.v).drop ((B f.n).length+1)=32::B f.v:=by
  rw [List.drop_append,List.drop_of_length_le (by omega),List.nil_append]
  simp
 rw [this,List.dropWhile_cons,if_pos (by decide)]
 have h2:=h.2.2.1
 have h3:=h.2.2.2
 generalize B f.v=v at *
 cases v with
 | nil=>exact absurd rfl h3
 | cons a r=>
  unfold hd32 at h2
  rw [decide_eq_false_iff_not] at h2
  rw [List.dropWhile_cons,if_neg (by simpa using h2)]
theorem fld1 {f:Fd} (h:Good1 f):fldT f=ln1 f++[10]:=by
 unfold fldT ln1
 have hc:cutBy 10 (B f.v)=[B f.v]:=cutBy_none fun c hc=>by have:=h.2.1 c hc;omega
 rw [hc]
 show B f.n++58::((if B f.v=[] then [] else 32::B f.v)++10::([]:List (List Nat)).flatten)=_
 rw [if_neg h.2.2.2]
 simp
theorem cut_st {st:List Fd} (h:∀f ∈ st,Good1 f) (r:List Nat):cutBy 10 (stT st++r)=st.map ln1++cutBy 10 r:=by
 induction st with
 | nil=>rfl
 | cons f st ih=>
  have e:stT (f::st)=fldT f++stT st:=by unfold stT;rw [List.map_cons,List.flatten_cons]
  rw [e,fld1 (h f (by simp)),List.append_assoc,List.append_assoc]
  show cutBy 10 (ln1 f++10::(stT st++r))=_
  rw [cutBy_at (fun c hc=>by have:=ln1_ge (h f (by simp)) c hc;omega),ih fun g hg=>h g (by simp [hg])];rfl
def op1 (f:Fd):Opn:=(f.n,[B f.v])
theorem cl_op1 (st:List Fd):(st.map op1).map clF=st:=by
 rw [List.map_map]
 have:∀f:Fd,(clF ∘ op1) f=f:=fun f=>by
  show (⟨f.n,joinB [B f.v]⟩:Fd)=f
  unfold joinB
  rw [show joinL [10] [B f.v]=B f.v from rfl,mk_B]
 rw [List.map_congr_left fun f _=>this f,List.map_id']
theorem ln1_run {f:Fd} (h:Good1 f) (D:List (List Fd)) (seen:List Fd) (hd:D.length < 200) (hs:seen.length < 40) (hn:getV seen f.n=false) :
  lnE ⟨D,seen.map op1⟩ (ln1 f)=0∧lnS ⟨D,seen.map op1⟩ (ln1 f)=⟨D,(seen++[f]).map op1⟩:=by
 have hnm:=ln1_nm h
 have hvl:=ln1_vl h
 have hlow:=ln1_low h
 have h58:58 ∈ ln1 f:=by unfold ln1;simp
 obtain ⟨a,r,ha,ha32⟩:=(nm_ge h.1).2
 have hln:ln1 f=a::(r++58::32::B f.v):=by unfold ln1;rw [ha];rfl
 have hany:((seen.map op1).any fun g=>decide (g.1=mk (nmOf (ln1 f))))=false:=by
  rw [hnm,mk_B,←any_cl,cl_op1];exact hn
 refine ⟨?_,?_⟩
 ·have e:lnE ⟨D,seen.map op1⟩ (ln1 f)=begE ⟨D,seen.map op1⟩ (ln1 f):=by
   unfold lnE
   rw [hlow,hln]
   rw [if_neg (by decide)]
   simp only
   rw [if_neg ha32]
  rw [e]
  unfold begE
  rw [if_pos (by rw [decide_eq_true h58,hnm,h.1];rfl)]
  simp only
  rw [hany,if_neg (by decide),if_neg]
  rw [List.length_map,decide_eq_false (by omega),decide_eq_false (by omega)];decide
 ·have e:lnS ⟨D,seen.map op1⟩ (ln1 f)=⟨D,seen.map op1++[(mk (nmOf (ln1 f)),[vlOf (ln1 f)])]⟩:=by
   rw [hln]
   unfold lnS
   simp only
   rw [if_neg ha32]
  rw [e,hnm,hvl,mk_B,List.map_append];rfl
theorem st_run (D:List (List Fd)) (hd:D.length < 200):∀(st seen:List Fd),(∀f ∈ st,Good1 f)→noDup seen st=true→seen.length+st.length≤40→
  rnE ⟨D,seen.map op1⟩ (st.map ln1)=0∧rnS ⟨D,seen.map op1⟩ (st.map ln1)=⟨D,(seen++st).map op1⟩
 | [],seen,_,_,_=>⟨rfl,by rw [List.append_nil];rfl⟩
 | f::st,seen,h,hn,hl=>by
  have hn':getV seen f.n=false∧noDup (seen++[f]) st=true:=by
   have:(!getV seen f.n&&noDup (seen++[f]) st)=true:=hn
   rw [Bool.and_eq_true,Bool.not_eq_true'] at this;exact this
  rw [List.length_cons] at hl
  obtain ⟨h1,h2⟩:=ln1_run (h f (by simp)) D seen hd (by omega) hn'.1
  obtain ⟨h3,h4⟩:=st_run D hd st (seen++[f]) (fun g hg=>h g (by simp [hg])) hn'.2 (by rw [List.length_append,List.length_singleton];omega)
  rw [List.map_cons,rnE_ok h1]
  refine ⟨by rw [h2];exact h3,?_⟩
  show rnS (lnS _ _) _=_
  rw [h2,h4,List.append_assoc];rfl
theorem fin_op1 (D:List (List Fd)) {st:List Fd} (h:st≠[]):(PS.mk D (st.map op1)).fin=⟨D++[st],[]⟩:=by
 unfold PS.fin
 rw [if_neg (by simpa using h)]
 simp only
 rw [cl_op1]
structure Stz1 (st:List Fd):Prop where
 f:∀f ∈ st,Good1 f
 d:noDup [] st=true
 n:st≠[]
 l:st.length≤40
theorem tx_run:∀(L D:List (List Fd)),L≠[]→(∀st ∈ L,Stz1 st)→D.length+L.length≤200→rnE ⟨D,[]⟩ (cutBy 10 (txL L))=0∧(rnS ⟨D,[]⟩ (cutBy 10 (txL L))).fin.dn=D++L
 | [],_,h,_,_=>absurd rfl h
 | [st],D,_,h,hl=>by
  have hs:=h st (by simp)
  have e:txL [st]=stT st++[]:=by rw [List.append_nil];rfl
  obtain ⟨h1,h2⟩:=st_run D (by simp at hl;omega) st [] hs.f hs.d (by simpa using hs.l)
  have h1:rnE ⟨D,[]⟩ (st.map ln1)=0:=h1
  rw [e,cut_st hs.f]
  refine ⟨?_,?_⟩
  ·rw [rnE_app _ _ _ h1];rfl
  ·rw [rnS_app]
   have h2':rnS ⟨D,[]⟩ (st.map ln1)=⟨D,st.map op1⟩:=h2
   rw [h2']
   show ((PS.mk D (st.map op1)).fin).fin.dn=_
   rw [fin_fin,fin_op1 D hs.n]
 | st::st'::r,D,_,h,hl=>by
  have hs:=h st (by simp)
  have e:txL (st::st'::r)=stT st++10::txL (st'::r):=rfl
  simp only [List.length_cons] at hl
  obtain ⟨h1,h2⟩:=st_run D (by omega) st [] hs.f hs.d (by simpa using hs.l)
  have h1:rnE ⟨D,[]⟩ (st.map ln1)=0:=h1
  have h2':rnS ⟨D,[]⟩ (st.map ln1)=⟨D,st.map op1⟩:=h2
  have hc:cutBy 10 (10::txL (st'::r))=[]::cutBy 10 (txL (st'::r)):=by
   have:=cutBy_at (c:=10) (p:=[]) (fun x hx=>by cases hx) (txL (st'::r))
   exact this
  obtain ⟨h3,h4⟩:=tx_run (st'::r) (D++[st]) (by simp) (fun s hs'=>h s (by simp only [List.mem_cons] at hs' ⊢;exact .inr hs')) (by rw [List.length_append,List.length_singleton];simp only [List.length_cons];omega)
  have hf:lnS (PS.mk D (st.map op1)) []=⟨D++[st],[]⟩:=fin_op1 D hs.n
  rw [e,cut_st hs.f,hc]
  refine ⟨?_,?_⟩
  ·rw [rnE_app _ _ _ h1,h2',rnE_ok (lnE_nil _),hf];exact h3
  ·rw [rnS_app,h2']
   show (rnS (lnS _ []) _).fin.dn=_
   rw [hf,h4,List.append_assoc];rfl
theorem tx_back {L:List (List Fd)} (h:∀st ∈ L,Stz1 st) (hl:L.length≤200) (ht:(txL L).length≤60000):stE (txL L)=0∧stL (txL L)=L:=by
 by_cases h0:L=[]
 ·subst h0
  exact ⟨by kernel_rfl,by kernel_rfl⟩
 ·obtain ⟨h1,h2⟩:=tx_run L [] h0 h (by simpa using hl)
  have e:stE (txL L)=0:=by unfold stE;rw [if_neg (by omega)];exact h1
  refine ⟨e,?_⟩
  unfold stL
  rw [if_pos e]
  exact h2
theorem name_vis {n:List Nat} (h:nameB n=true):∀c ∈ n,33≤c:=by
 intro c hc
 unfold nameB at h
 simp only [Bool.and_eq_true,List.all_eq_true] at h
 have:=h.2 c hc
 unfold nmcB plnB digB at this
 simp only [Bool.or_eq_true,decide_eq_true_eq] at this
 omega
theorem ch_vis {x:List Nat} {c:Nat} (h:chB x c=true) (hx:∀d ∈ x,33≤d):33≤c:=by
 unfold chB letB digB hasB at h
 simp only [Bool.or_eq_true,decide_eq_true_eq,List.contains_iff_mem] at h
 rcases h with h|h
 ·omega
 ·exact hx c h
theorem pr_vis {v:List Nat} (h:prB v=true):∀c ∈ v,33≤c:=by
 unfold prB at h
 simp only [Bool.and_eq_true,decide_eq_true_eq] at h
 intro c hc
 rw [←h.2] at hc
 unfold printL at hc
 split at hc
 ·rename_i hr
  unfold rightB at hr
  simp only [Bool.and_eq_true,List.all_eq_true] at hr
  unfold textL at hc
  simp only [List.mem_append] at hc
  rcases hc with (hc|hc)|hc
  ·split at hc
   ·simp at hc
   ·rcases List.mem_append.1 hc with hc|hc
    ·have:=decL_dig _ c hc
     unfold digB at this
     simp only [decide_eq_true_eq] at this
     omega
    ·simp at hc;subst hc;omega
  ·exact ch_vis (hr.1.1.2 c hc) (by unfold uX;simp)
  ·split at hc
   ·simp at hc
   ·rcases List.mem_cons.1 hc with rfl|hc
    ·omega
    ·exact ch_vis (hr.1.2 c hc) (by unfold rX;simp)
 ·simp at hc
theorem sign_vis (op:Int):∀c ∈ signL op,33≤c:=by
 intro c hc
 unfold signL at hc
 repeat' split at hc
 all_goals first|(simp at hc;done)|(simp at hc;omega)
theorem txt_vis {a:Atm} (h:rgt a=true):(∀c ∈ txt a,32≤c)∧hd32 (txt a)=false∧txt a≠[]:=by
 unfold rgt rightA at h
 simp only [Bool.and_eq_true] at h
 have hn:=name_vis h.1
 have hl:2≤(B a.n).length:=by
  have:=h.1
  unfold nameB at this
  simp only [Bool.and_eq_true,decide_eq_true_eq] at this
  exact this.1.1.1
 have hd:∀r,hd32 (B a.n++r)=false∧B a.n++r≠[]:=by
  intro r
  cases hh:B a.n with
  | nil=>rw [hh] at hl;simp at hl
  | cons c q=>
   refine ⟨?_,by simp⟩
   have:=hn c (by rw [hh];simp)
   show decide (c=32)=false
   exact decide_eq_false (by omega)
 unfold txt textA
 split
 ·refine ⟨fun c hc=>by have:=hn c hc;omega,?_⟩
  have:=hd []
  rw [List.append_nil] at this
  exact this
 ·rename_i h0
  rw [if_neg h0] at h
  simp only [Bool.and_eq_true] at h
  have hv:=pr_vis h.2.2
  have hs:=sign_vis a.o
  refine ⟨fun c hc=>?_,?_⟩
  ·simp only [List.mem_append,List.mem_cons,List.not_mem_nil,or_false] at hc
   rcases hc with hc|rfl|rfl|hc|rfl|hc|rfl
   ·exact Nat.le_trans (by decide) (hn c hc)
   ·decide
   ·decide
   ·exact Nat.le_trans (by decide) (hs c hc)
   ·decide
   ·exact Nat.le_trans (by decide) (hv c hc)
   ·decide
  ·first|exact hd _|(simp only [List.append_assoc];exact hd _)
theorem joinL_vis {sep:List Nat} {l:List (List Nat)} (hs:∀c ∈ sep,32≤c) (hl:∀t ∈ l,∀c ∈ t,32≤c):∀c ∈ joinL sep l,32≤c:=by
 intro c hc
 rcases joinL_mem hc with h|⟨t,ht,h⟩
 ·exact hs c h
 ·exact hl t ht c h
theorem hd_app {a b:List Nat} (ha:a≠[]):hd32 (a++b)=hd32 a:=by
 cases a with
 | nil=>exact absurd rfl ha
 | cons c r=>rfl
theorem joinL_hd {sep:List Nat}:∀{l:List (List Nat)},(∀t ∈ l,hd32 t=false∧t≠[])→hd32 (joinL sep l)=false
 | [],_=>rfl
 | [x],h=>(h x (by simp)).1
 | x::y::r,h=>by
  show hd32 (x++(sep++joinL sep (y::r)))=false
  rw [hd_app (h x (by simp)).2];exact (h x (by simp)).1
theorem grpS_vis {g:List Atm} (h:rgtOne g=true):(∀c ∈ grpS g,32≤c)∧hd32 (grpS g)=false∧grpS g≠[]:=by
 unfold rgtOne at h
 simp only [Bool.and_eq_true,decide_eq_true_eq,List.all_eq_true] at h
 have ht:∀t ∈ g.map txt,(∀c ∈ t,32≤c)∧hd32 t=false∧t≠[]:=fun t ht=>by
  obtain ⟨a,ha,rfl⟩:=List.mem_map.1 ht
  exact txt_vis (h.2 a ha)
 refine ⟨joinL_vis (by decide) fun t h=>(ht t h).1,joinL_hd fun t h=>(ht t h).2,?_⟩
 unfold grpS
 cases g with
 | nil=>exact absurd h.1.1 (by decide)
 | cons a r=>
  obtain ⟨_,_,h3⟩:=ht (txt a) (by simp)
  cases r with
  | nil=>exact h3
  | cons b r=>intro hh;exact h3 (List.append_eq_nil_iff.1 hh).1
theorem prtG_vis (L:List (List Atm)):(∀c ∈ prtG L,32≤c)∧hd32 (prtG L)=false:=by
 unfold prtG
 split
 ·rename_i h
  unfold rightG at h
  simp only [Bool.and_eq_true,List.all_eq_true] at h
  have ht:∀t ∈ L.map grpS,(∀c ∈ t,32≤c)∧hd32 t=false∧t≠[]:=fun t ht=>by
   obtain ⟨g,hg,rfl⟩:=List.mem_map.1 ht
   exact grpS_vis (h.2 g hg)
  exact ⟨joinL_vis (by decide) fun t h=>(ht t h).1,joinL_hd fun t h=>(ht t h).2⟩
 ·exact ⟨fun c hc=>by simp at hc,rfl⟩
theorem val_vis {v:List Nat} (h:∀c ∈ v,32≤c) (h2:hd32 v=false):valB v=true:=by
 unfold valB
 rw [cutBy_none fun x hx=>by have:=h x hx;omega]
 rw [valL_cons,h2]
 have:lowB v=false:=by
  unfold lowB
  rw [List.any_eq_false]
  intro c hc
  rw [decide_eq_true_eq]
  have:=h c hc
  omega
 rw [this];rfl
theorem hd_vis {v:List Nat} (h:∀c ∈ v,33≤c):hd32 v=false:=by
 cases v with
 | nil=>rfl
 | cons c r=>
  have:=h c (by simp)
  show decide (c=32)=false
  exact decide_eq_false (by omega)
theorem val_33 {v:List Nat} (h:∀c ∈ v,33≤c):valB v=true:=val_vis (fun c hc=>Nat.le_trans (by decide) (h c hc)) (hd_vis h)
theorem opt_all {n v:ByteArray} (h:fdR ⟨n,v⟩=true):(opt n v).all fdR=true:=by
 unfold opt;split
 ·rfl
 ·rw [List.all_cons,h];rfl
theorem noDup_wr (a b c d e f:ByteArray):noDup [] (⟨nPk,a⟩::⟨nVe,b⟩::(opt nDe c++(opt nRe d++(opt nCo e++(opt nPr f++[])))))=true:=by
 have knPknVe:nPk≠nVe:=by decide
 have knPknDe:nPk≠nDe:=by decide
 have knPknRe:nPk≠nRe:=by decide
 have knPknCo:nPk≠nCo:=by decide
 have knPknPr:nPk≠nPr:=by decide
 have knVenPk:nVe≠nPk:=by decide
 have knVenDe:nVe≠nDe:=by decide
 have knVenRe:nVe≠nRe:=by decide
 have knVenCo:nVe≠nCo:=by decide
 have knVenPr:nVe≠nPr:=by decide
 have knDenPk:nDe≠nPk:=by decide
 have knDenVe:nDe≠nVe:=by decide
 have knDenRe:nDe≠nRe:=by decide
 have knDenCo:nDe≠nCo:=by decide
 have knDenPr:nDe≠nPr:=by decide
 have knRenPk:nRe≠nPk:=by decide
 have knRenVe:nRe≠nVe:=by decide
 have knRenDe:nRe≠nDe:=by decide
 have knRenCo:nRe≠nCo:=by decide
 have knRenPr:nRe≠nPr:=by decide
 have knConPk:nCo≠nPk:=by decide
 have knConVe:nCo≠nVe:=by decide
 have knConDe:nCo≠nDe:=by decide
 have knConRe:nCo≠nRe:=by decide
 have knConPr:nCo≠nPr:=by decide
 have knPrnPk:nPr≠nPk:=by decide
 have knPrnVe:nPr≠nVe:=by decide
 have knPrnDe:nPr≠nDe:=by decide
 have knPrnRe:nPr≠nRe:=by decide
 have knPrnCo:nPr≠nCo:=by decide
 unfold opt
 by_cases h1:c.size=0<;>by_cases h2:d.size=0<;>by_cases h3:e.size=0<;>by_cases h4:f.size=0<;>simp only [h1,h2,h3,h4,if_true,if_false,List.nil_append,List.singleton_append,List.append_nil,List.cons_append]<;>simp [noDup,getV,knPknVe,knPknDe,knPknRe,knPknCo,knPknPr,knVenPk,knVenDe,knVenRe,knVenCo,knVenPr,knDenPk,knDenVe,knDenRe,knDenCo,knDenPr,knRenPk,knRenVe,knRenDe,knRenCo,knRenPr,knConPk,knConVe,knConDe,knConRe,knConPr,knPrnPk,knPrnVe,knPrnDe,knPrnRe,knPrnCo]
theorem stz_wr (BK:∀L,B (mk (prtG L))=prtG L) {x:Ent} (h:rgtE x=true):stzR (wr4 x)=true:=by
 obtain ⟨p1,p2,_⟩:=rgtE_parts h
 have e:=wr4_list x []
 rw [List.append_nil] at e
 have hl:=(wr_len x).2.2.2.2
 have h1:1≤(wr4 x).length:=by rw [e];simp
 have hv:∀L n,fnB (B n)=true→(opt n (mk (prtG L))).all fdR=true:=fun L n hn=>opt_all (by
  show (fnB (B n)&&valB (B (mk (prtG L))))=true
  rw [hn,BK,val_vis (prtG_vis L).1 (prtG_vis L).2];rfl)
 have ha:(wr4 x).all fdR=true:=by
  rw [e]
  simp only [List.all_cons,List.all_append,List.all_nil,Bool.and_true]
  rw [hv _ _ (by kernel_rfl),hv _ _ (by kernel_rfl),hv _ _ (by kernel_rfl),hv _ _ (by kernel_rfl)]
  have f1:fdR ⟨nPk,x.n⟩=true:=by
   show (fnB (B nPk)&&valB (B x.n))=true
   rw [val_33 (name_vis p1),show fnB (B nPk)=true by kernel_rfl];rfl
  have f2:fdR ⟨nVe,x.v⟩=true:=by
   show (fnB (B nVe)&&valB (B x.v))=true
   rw [val_33 (pr_vis p2),show fnB (B nVe)=true by kernel_rfl];rfl
  rw [f1,f2];rfl
 have hd:noDup [] (wr4 x)=true:=by rw [e];exact noDup_wr _ _ _ _ _ _
 unfold stzR
 rw [ha,hd,decide_eq_true h1,decide_eq_true (show (wr4 x).length≤40 by omega)];rfl
theorem vW_cons (f:Fd) (r:List Fd):vW (f::r)=f.v.size+vW r:=by unfold vW;rw [List.map_cons,List.sum_cons]
theorem fst_sum:∀st:List Fd,(fstV st nPk).size+(fstV st nVe).size+(fstV st nDe).size+(fstV st nRe).size+(fstV st nCo).size+(fstV st nPr).size≤vW st
 | []=>Nat.le_refl 0
 | f::r=>by
  have ih:=fst_sum r
  have knPknVe:nPk≠nVe:=by decide
  have knPknDe:nPk≠nDe:=by decide
  have knPknRe:nPk≠nRe:=by decide
  have knPknCo:nPk≠nCo:=by decide
  have knPknPr:nPk≠nPr:=by decide
  have knVenPk:nVe≠nPk:=by decide
  have knVenDe:nVe≠nDe:=by decide
  have knVenRe:nVe≠nRe:=by decide
  have knVenCo:nVe≠nCo:=by decide
  have knVenPr:nVe≠nPr:=by decide
  have knDenPk:nDe≠nPk:=by decide
  have knDenVe:nDe≠nVe:=by decide
  have knDenRe:nDe≠nRe:=by decide
  have knDenCo:nDe≠nCo:=by decide
  have knDenPr:nDe≠nPr:=by decide
  have knRenPk:nRe≠nPk:=by decide
  have knRenVe:nRe≠nVe:=by decide
  have knRenDe:nRe≠nDe:=by decide
  have knRenCo:nRe≠nCo:=by decide
  have knRenPr:nRe≠nPr:=by decide
  have knConPk:nCo≠nPk:=by decide
  have knConVe:nCo≠nVe:=by decide
  have knConDe:nCo≠nDe:=by decide
  have knConRe:nCo≠nRe:=by decide
  have knConPr:nCo≠nPr:=by decide
  have knPrnPk:nPr≠nPk:=by decide
  have knPrnVe:nPr≠nVe:=by decide
  have knPrnDe:nPr≠nDe:=by decide
  have knPrnRe:nPr≠nRe:=by decide
  have knPrnCo:nPr≠nCo:=by decide
  rw [vW_cons,fstV_cons,fstV_cons,fstV_cons,fstV_cons,fstV_cons,fstV_cons]
  by_cases h0:f.n=nPk
  ·rw [if_pos h0,if_neg (show ¬f.n=nVe from fun e=>knPknVe (h0.symm.trans e)),if_neg (show ¬f.n=nDe from fun e=>knPknDe (h0.symm.trans e)),if_neg (show ¬f.n=nRe from fun e=>knPknRe (h0.symm.trans e)),if_neg (show ¬f.n=nCo from fun e=>knPknCo (h0.symm.trans e)),if_neg (show ¬f.n=nPr from fun e=>knPknPr (h0.symm.trans e))];omega
  by_cases h1:f.n=nVe
  ·rw [if_neg (show ¬f.n=nPk from fun e=>knVenPk (h1.symm.trans e)),if_pos h1,if_neg (show ¬f.n=nDe from fun e=>knVenDe (h1.symm.trans e)),if_neg (show ¬f.n=nRe from fun e=>knVenRe (h1.symm.trans e)),if_neg (show ¬f.n=nCo from fun e=>knVenCo (h1.symm.trans e)),if_neg (show ¬f.n=nPr from fun e=>knVenPr (h1.symm.trans e))];omega
  by_cases h2:f.n=nDe
  ·rw [if_neg (show ¬f.n=nPk from fun e=>knDenPk (h2.symm.trans e)),if_neg (show ¬f.n=nVe from fun e=>knDenVe (h2.symm.trans e)),if_pos h2,if_neg (show ¬f.n=nRe from fun e=>knDenRe (h2.symm.trans e)),if_neg (show ¬f.n=nCo from fun e=>knDenCo (h2.symm.trans e)),if_neg (show ¬f.n=nPr from fun e=>knDenPr (h2.symm.trans e))];omega
  by_cases h3:f.n=nRe
  ·rw [if_neg (show ¬f.n=nPk from fun e=>knRenPk (h3.symm.trans e)),if_neg (show ¬f.n=nVe from fun e=>knRenVe (h3.symm.trans e)),if_neg (show ¬f.n=nDe from fun e=>knRenDe (h3.symm.trans e)),if_pos h3,if_neg (show ¬f.n=nCo from fun e=>knRenCo (h3.symm.trans e)),if_neg (show ¬f.n=nPr from fun e=>knRenPr (h3.symm.trans e))];omega
  by_cases h4:f.n=nCo
  ·rw [if_neg (show ¬f.n=nPk from fun e=>knConPk (h4.symm.trans e)),if_neg (show ¬f.n=nVe from fun e=>knConVe (h4.symm.trans e)),if_neg (show ¬f.n=nDe from fun e=>knConDe (h4.symm.trans e)),if_neg (show ¬f.n=nRe from fun e=>knConRe (h4.symm.trans e)),if_pos h4,if_neg (show ¬f.n=nPr from fun e=>knConPr (h4.symm.trans e))];omega
  by_cases h5:f.n=nPr
  ·rw [if_neg (show ¬f.n=nPk from fun e=>knPrnPk (h5.symm.trans e)),if_neg (show ¬f.n=nVe from fun e=>knPrnVe (h5.symm.trans e)),if_neg (show ¬f.n=nDe from fun e=>knPrnDe (h5.symm.trans e)),if_neg (show ¬f.n=nRe from fun e=>knPrnRe (h5.symm.trans e)),if_neg (show ¬f.n=nCo from fun e=>knPrnCo (h5.symm.trans e)),if_pos h5];omega
  rw [if_neg h0,if_neg h1,if_neg h2,if_neg h3,if_neg h4,if_neg h5];omega
theorem fld_len6 {n v:ByteArray} (h:∀c ∈ B v,c≠10):(fldT ⟨n,v⟩).length≤n.size+v.size+3:=by
 show (B n++58::bodyT (cutBy 10 (B v))).length≤_
 have hj:(joinL [10,32] [B v]).length=v.size:=by show (B v).length=_;exact B_len v
 rw [cutBy_none h,body_join,List.length_append,List.length_cons,List.length_append,List.length_append,B_len,hj]
 split
 ·simp only [List.length_nil,List.length_singleton];omega
 ·simp only [List.length_singleton];omega
theorem stT_app (a b:List Fd):stT (a++b)=stT a++stT b:=by unfold stT;rw [List.map_append,List.flatten_append]
theorem stT_cons (f:Fd) (r:List Fd):stT (f::r)=fldT f++stT r:=by unfold stT;rw [List.map_cons,List.flatten_cons]
theorem opt_len6 {n v:ByteArray} (h:∀c ∈ B v,c≠10):(stT (opt n v)).length≤n.size+v.size+3:=by
 unfold opt
 split
 ·exact Nat.zero_le _
 ·rw [stT_cons,List.length_append]
  have:=fld_len6 (n:=n) h
  show _+(stT []).length≤_
  show _+0≤_
  omega
theorem wr4_len (BK:∀L,B (mk (prtG L))=prtG L) {x:Ent} (h:rgtE x=true):(stT (wr4 x)).length≤66+x.n.size+x.v.size+(prtG x.d).length+(prtG x.r).length+(prtG (x.c.map fun a=>[a])).length+(prtG (x.p.map fun a=>[a])).length:=by
 obtain ⟨p1,p2,_⟩:=rgtE_parts h
 have e:=wr4_list x []
 rw [List.append_nil] at e
 have hv:∀L,∀c ∈ B (mk (prtG L)),c≠10:=fun L c hc=>by rw [BK] at hc;have:=(prtG_vis L).1 c hc;omega
 have a1:=fld_len6 (n:=nPk) (v:=x.n) fun c hc=>by have:=name_vis p1 c hc;omega
 have a2:=fld_len6 (n:=nVe) (v:=x.v) fun c hc=>by have:=pr_vis p2 c hc;omega
 have a3:=opt_len6 (n:=nDe) (hv x.d)
 have a4:=opt_len6 (n:=nRe) (hv x.r)
 have a5:=opt_len6 (n:=nCo) (hv (x.c.map fun a=>[a]))
 have a6:=opt_len6 (n:=nPr) (hv (x.p.map fun a=>[a]))
 rw [size_mk] at a3 a4 a5 a6
 have s1:nPk.size=7:=rfl
 have s2:nVe.size=7:=rfl
 have s3:nDe.size=7:=rfl
 have s4:nRe.size=10:=rfl
 have s5:nCo.size=9:=rfl
 have s6:nPr.size=8:=rfl
 have s7:(stT []).length=0:=rfl
 rw [e,stT_cons,stT_cons,stT_app,stT_app,stT_app,stT_app]
 simp only [List.length_append]
 omega
theorem rd_len6 (BK:∀L,B (mk (prtG L))=prtG L) (AE:List Nat→Int) (AL:List Nat→List Atm) (JR:∀s:List Nat,AE s=0→(AL s).length≤12∧∀a ∈ AL s,rgt a=true) (JL:∀s:List Nat,(∀c ∈ s,c < 256)→(prtG ((AL s).map fun a=>[a])).length≤5*(s.length+1))
  (st:List Fd) (h:(rdE AE AL st).1=0):(stT (wr4 (rdE AE AL st).2)).length≤5*vW st+86:=by
 have hr:=rdE_right AE AL JR st h
 have hs:=fst_sum st
 have e:(rdE AE AL st).2=⟨fstV st nPk,fstV st nVe,depL (B (fstV st nDe)),depL (B (fstV st nRe)),AL (B (fstV st nCo)),AL (B (fstV st nPr))⟩:=by
  unfold rdE at h ⊢
  repeat' split at h
  all_goals first|(exfalso;revert h;decide)|contradiction|skip
  all_goals simp_all
  all_goals first|(rw [if_neg (by omega)];done)|(rw [if_neg (by omega)];simp_all)
 have hw:=wr4_len BK hr
 rw [e] at hw ⊢
 have d1:=prtG_depL (B_lt (fstV st nDe))
 have d2:=prtG_depL (B_lt (fstV st nRe))
 have d3:=JL _ (B_lt (fstV st nCo))
 have d4:=JL _ (B_lt (fstV st nPr))
 rw [B_len] at d1 d2 d3 d4
 simp only at hw
 omega
theorem rightG_single {l:List Atm} (h12:l.length≤12) (hr:∀a ∈ l,rgt a=true):rightG (l.map fun a=>[a])=true:=by
 unfold rightG
 simp only [Bool.and_eq_true,decide_eq_true_eq,List.all_eq_true,List.length_map]
 refine ⟨h12,fun g hg=>?_⟩
 obtain ⟨a,ha,rfl⟩:=List.mem_map.1 hg
 unfold rgtOne
 simp [hr a ha]
theorem single_all (l:List Atm):(l.map fun a=>[a]).all oneB=true:=by
 rw [List.all_eq_true]
 intro g hg
 obtain ⟨a,_,rfl⟩:=List.mem_map.1 hg
 rfl
theorem single_flat (l:List Atm):(l.map fun a=>[a]).flatten=l:=by
 induction l with
 | nil=>rfl
 | cons a l ih=>rw [List.map_cons,List.flatten_cons,ih];rfl
theorem join_ok {l:List Atm} (h12:l.length≤12) (hr:∀a ∈ l,rgt a=true):atE (prtG (l.map fun a=>[a]))=0∧atL (prtG (l.map fun a=>[a]))=l:=by
 obtain ⟨h1,h2⟩:=parse_prtG (rightG_single h12 hr)
 have h3:(depL (prtG (l.map fun a=>[a]))).all oneB=true:=by rw [h2];exact single_all l
 obtain ⟨h4,h5⟩:=atE_ok h1 h3
 exact ⟨h4,by rw [h5,h2,single_flat]⟩
theorem bk6 (L:List (List Atm)):B (mk (prtG L))=prtG L:=B_mk (prtG_lt L)
def byB (s:List Nat):Bool:=s.all fun c=>decide (c < 256)
def aeX (s:List Nat):Int:=if byB s=true then atE s else 1
def alX (s:List Nat):List Atm:=if byB s=true then atL s else []
theorem byB_of {s:List Nat} (h:∀c ∈ s,c < 256):byB s=true:=List.all_eq_true.2 fun c hc=>decide_eq_true (h c hc)
theorem aeX_B (s:ByteArray):aeX (B s)=atE (B s):=if_pos (byB_of (B_lt s))
theorem alX_B (s:ByteArray):alX (B s)=atL (B s):=if_pos (byB_of (B_lt s))
theorem rdP_x (st:List Fd):rdP st=rdE aeX alX st:=by
 rw [rdP_is]
 unfold rdE
 rw [aeX_B,aeX_B,alX_B,alX_B]
theorem at_right {s:List Nat} (hs:∀c ∈ s,c < 256) (h:atE s=0):rightG (depL s)=true∧(depL s).all oneB=true∧atL s=(depL s).flatten:=by
 by_cases h0:depE s=0
 ·have hr:=right_of_parse hs h0
  cases h1:(depL s).all oneB
  ·rw [(atE_many h0 h1).1] at h;exact absurd h (by decide)
  ·exact ⟨hr,rfl,(atE_ok h0 h1).2⟩
 ·rw [(atE_bad h0).1] at h;exact absurd h h0
theorem byB_to {s:List Nat} (h:byB s=true):∀c ∈ s,c < 256:=fun c hc=>of_decide_eq_true (List.all_eq_true.1 h c hc)
theorem jr6 (s:List Nat) (h:aeX s=0):(alX s).length≤12∧∀a ∈ alX s,rgt a=true:=by
 unfold aeX at h
 unfold alX
 split at h
 ·rename_i hb
  rw [if_pos hb]
  obtain ⟨h1,h2,h3⟩:=at_right (byB_to hb) h
  obtain ⟨h4,h5⟩:=right_parts h1
  rw [h3]
  refine ⟨Nat.le_trans (flat_len h2) h5,fun a ha=>?_⟩
  obtain ⟨g,hg,hag⟩:=List.mem_flatten.1 ha
  exact (h4 g hg).1 a hag
 ·exact absurd h (by decide)
theorem one_flat:∀{L:List (List Atm)},L.all rgtOne=true→L.all oneB=true→L.flatten.map (fun a=>[a])=L
 | [],_,_=>rfl
 | g::r,h,k=>by
  rw [List.all_cons,Bool.and_eq_true] at h k
  have hg:=h.1
  have kg:=k.1
  unfold rgtOne at hg
  unfold oneB at kg
  simp only [Bool.and_eq_true,decide_eq_true_eq] at hg kg
  rw [List.flatten_cons,List.map_append,one_flat h.2 k.2]
  match g,hg.1.1,kg with
  | [a],_,_=>rfl
theorem jl6 (s:List Nat) (hs:∀c ∈ s,c < 256):(prtG ((alX s).map fun a=>[a])).length≤5*(s.length+1):=by
 unfold alX
 rw [if_pos (byB_of hs)]
 by_cases h:atE s=0
 ·obtain ⟨h1,h2,h3⟩:=at_right hs h
  rw [h3]
  unfold rightG at h1
  rw [Bool.and_eq_true] at h1
  rw [one_flat h1.2 h2]
  exact prtG_depL hs
 ·have:atL s=[]:=if_neg h
  rw [this]
  have:=prtG_depL hs
  show (prtG []).length≤_
  have e:(prtG []).length=0:=by kernel_rfl
  omega
theorem jk6 (l:List Atm) (h12:l.length≤12) (hr:∀a ∈ l,rgt a=true):aeX (prtG (l.map fun a=>[a]))=0∧alX (prtG (l.map fun a=>[a]))=l:=by
 obtain ⟨h1,h2⟩:=join_ok h12 hr
 have hb:=byB_of (prtG_lt (l.map fun a=>[a]))
 exact ⟨(if_pos hb).trans h1,(if_pos hb).trans h2⟩
theorem rdP_wr {x:Ent} (h:rgtE x=true) (y:List Fd) (hy:∀f ∈ y,othr f):rdP (wr4 x++y)=(0,x):=by rw [rdP_x];exact rdE_wr aeX alX bk6 jk6 h y hy
theorem wrE_right {x:Ent} (h:rgtE x=true):wrE x=wr4 x:=if_pos h
theorem nb_of {v:ByteArray} (h:v.size≠0):B v≠[]:=fun e=>h (by rw [←B_len,e];rfl)
theorem wr4_vals {x:Ent} (h:rgtE x=true):∀f ∈ wr4 x,(∀c ∈ B f.v,32≤c)∧hd32 (B f.v)=false∧B f.v≠[]:=by
 obtain ⟨p1,p2,_⟩:=rgtE_parts h
 have e:=wr4_list x []
 rw [List.append_nil] at e
 have ho:∀{n:ByteArray} {L:List (List Atm)} {f:Fd},f ∈ opt n (mk (prtG L))→(∀c ∈ B f.v,32≤c)∧hd32 (B f.v)=false∧B f.v≠[]:=fun {n L f} hf=>by
  obtain ⟨rfl,hv⟩:=opt_mem hf
  refine ⟨?_,?_,nb_of hv⟩
  ·show ∀c ∈ B (mk (prtG L)),32≤c
   rw [bk6];exact (prtG_vis L).1
  ·show hd32 (B (mk (prtG L)))=false
   rw [bk6];exact (prtG_vis L).2
 intro f hf
 rw [e] at hf
 rcases List.mem_cons.1 hf with rfl|hf
 ·exact ⟨fun c hc=>by have:=name_vis p1 c hc;omega,hd_vis (name_vis p1),fun e=>by have:=(name_len p1).1;have e:B x.n=[]:=e;rw [e] at this;simp at this⟩
 rcases List.mem_cons.1 hf with rfl|hf
 ·exact ⟨fun c hc=>by have:=pr_vis p2 c hc;omega,hd_vis (pr_vis p2),fun e=>by have e:B x.v=[]:=e;rw [e] at p2;exact absurd p2 (by rw [show prB []=false by kernel_rfl];decide)⟩
 rcases List.mem_append.1 hf with hf|hf
 ·exact ho hf
 rcases List.mem_append.1 hf with hf|hf
 ·exact ho hf
 rcases List.mem_append.1 hf with hf|hf
 ·exact ho hf
 rcases List.mem_append.1 hf with hf|hf
 ·exact ho hf
 ·cases hf
theorem wr4_stz {x:Ent} (h:rgtE x=true):Stz1 (wr4 x):=by
 have hs:=stz_wr bk6 h
 unfold stzR at hs
 rw [Bool.and_eq_true,Bool.and_eq_true,Bool.and_eq_true,decide_eq_true_iff,decide_eq_true_iff,List.all_eq_true] at hs
 obtain ⟨⟨h1,h2⟩,h3,h4⟩:=hs
 refine ⟨fun f hf=>?_,h2,fun e=>by rw [e] at h3;simp at h3,h4⟩
 have hn:=h1 f hf
 unfold fdR at hn
 rw [Bool.and_eq_true] at hn
 obtain ⟨v1,v2,v3⟩:=wr4_vals h f hf
 exact ⟨hn.1,v1,v2,v3⟩
theorem tx_lt (L:List (List Fd)) (h:∀st ∈ L,Stz1 st):∀c ∈ txL L,c < 256:=by
 intro c hc
 unfold txL at hc
 rcases joinL_mem hc with hc|⟨t,ht,hc⟩
 ·rw [List.mem_singleton.1 hc];omega
 ·obtain ⟨st,hst,rfl⟩:=List.mem_map.1 ht
  unfold stT at hc
  obtain ⟨t,ht,hc⟩:=List.mem_flatten.1 hc
  obtain ⟨f,hf,rfl⟩:=List.mem_map.1 ht
  rw [fld1 ((h st hst).f f hf)] at hc
  unfold ln1 at hc
  simp only [List.mem_append,List.mem_cons,List.not_mem_nil,or_false] at hc
  rcases hc with (hc|rfl|rfl|hc)|rfl
  ·exact B_lt _ c hc
  ·omega
  ·omega
  ·exact B_lt _ c hc
  ·omega
theorem rd_right (st:List Fd) (h:(rdP st).1=0):rgtE (rdP st).2=true:=by rw [rdP_x] at h ⊢;exact rdE_right aeX alX jr6 st h
end Go.Proofs.YtboinnjncaehkaaGreatDoor
