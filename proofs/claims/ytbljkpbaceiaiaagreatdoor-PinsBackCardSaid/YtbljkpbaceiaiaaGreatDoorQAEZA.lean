/- What the laws rest on: StzP, DepP2, BackP, E6p, P6p, E6n, E6o, P6q, E8p. -/
import Derived.Test.YtbljkpbaceiaiaaGreatDoorQADZA
import Derived.Test.YtbljkpbaceiaiaaGreatDoorQAQZA
set_option maxRecDepth 100000
set_option linter.unusedVariables false
set_option linter.unusedSimpArgs false
namespace Go.Proofs.YtbljkpbaceiaiaaGreatDoor
open Go.RowKit
theorem lnE_nil (s:PS):lnE s []=0:=rfl
theorem joinL_mem {sep:List Nat}:∀{ts:List (List Nat)} {c:Nat},c ∈ joinL sep ts→c ∈ sep∨∃t ∈ ts,c ∈ t
 | [],c,h=>by simp [joinL] at h
 | [x],c,h=>.inr ⟨x,by simp,h⟩
 | x::y::r,c,h=>by
  rw [joinL,List.mem_append,List.mem_append] at h
  rcases h with h|h|h
  ·exact .inr ⟨x,by simp,h⟩
  ·exact .inl h
  ·rcases joinL_mem h with h|⟨t,ht,h⟩
   ·exact .inl h
   ·exact .inr ⟨t,by simp [ht],h⟩
theorem decF_ne2:∀(f n:Nat) (l:List Nat),l≠[]→decF f n l≠[]
 | 0,_,_,h=>h
 | f+1,n,l,h=>by
  simp only [decF]
  split
  ·simp
  ·exact decF_ne2 f _ _ (by simp)
theorem decL_ne2 (n:Nat):decL n≠[]:=by
 unfold decL
 simp only [decF]
 split
 ·simp
 ·exact decF_ne2 _ _ _ (by simp)
theorem joinL_tot6 (sep:List Nat):∀ts:List (List Nat),(joinL sep ts).length≤tot6 sep.length ts
 | []=>Nat.zero_le _
 | [x]=>by rw [tot6_cons];show x.length≤_;omega
 | x::y::r=>by
  have:=joinL_tot6 sep (y::r)
  rw [tot6_cons]
  show (x++(sep++joinL sep (y::r))).length≤_
  rw [List.length_append,List.length_append];omega
def Good1 (f:Fd):Prop:=fnB (B f.n)=true∧(∀c ∈ B f.v,32≤c)∧hd32 (B f.v)=false∧B f.v≠[]
def ln1 (f:Fd):List Nat:=B f.n++58::32::B f.v
theorem nm_ge {n:List Nat} (h:fnB n=true):(∀c ∈ n,45≤c∧c≠58)∧∃a r,n=a::r∧a≠32:=by
 cases n with
 | nil=>cases h
 | cons a r=>
  rw [fnB_cons,Bool.and_eq_true,Bool.and_eq_true] at h
  obtain ⟨⟨h1,h2⟩,_⟩:=h
  have hl:∀c,letB c=true→65≤c:=fun c hc=>by
   unfold letB at hc
   simp only [decide_eq_true_eq] at hc
   omega
  refine ⟨fun c hc=>?_,a,r,rfl,by have:=hl a h1;omega⟩
  rcases List.mem_cons.1 hc with rfl|hc
  ·have:=hl _ h1;omega
  ·have:=List.all_eq_true.1 h2 c hc
   unfold nmC at this
   rw [Bool.or_eq_true,Bool.or_eq_true] at this
   rcases this with (h|h)|h
   ·have:=hl c h;omega
   ·unfold digB at h;rw [decide_eq_true_eq] at h;omega
   ·rw [decide_eq_true_eq] at h;omega
theorem ln1_ge {f:Fd} (h:Good1 f):∀c ∈ ln1 f,32≤c:=by
 intro c hc
 unfold ln1 at hc
 rcases List.mem_append.1 hc with hc|hc
 ·have:=((nm_ge h.1).1 c hc).1;omega
 ·rcases List.mem_cons.1 hc with rfl|hc
  ·omega
  ·rcases List.mem_cons.1 hc with rfl|hc
   ·omega
   ·exact h.2.1 c hc
theorem ln1_low {f:Fd} (h:Good1 f):lowB (ln1 f)=false:=by
 unfold lowB
 rw [List.any_eq_false]
 intro c hc
 have:=ln1_ge h c hc
 simp only [decide_eq_true_eq];omega
theorem tw_name {n r:List Nat} (h:∀c ∈ n,c≠58):(n++58::r).takeWhile (fun c=>c != 58)=n:=by
 induction n with
 | nil=>rfl
 | cons a n ih=>
  rw [List.cons_append,List.takeWhile_cons,ih fun c hc=>h c (by simp [hc])]
  have:(a != 58)=true:=by rw [bne_iff_ne];exact h a (by simp)
  rw [if_pos this]
theorem ln1_nm {f:Fd} (h:Good1 f):nmOf (ln1 f)=B f.n:=tw_name fun c hc=>((nm_ge h.1).1 c hc).2
theorem ln1_vl {f:Fd} (h:Good1 f):vlOf (ln1 f)=B f.v:=by
 unfold vlOf
 rw [ln1_nm h]
 unfold ln1
 have:(B f.n++58::32::B f.v).drop ((B f.n).length+1)=32::B f.v:=by
  rw [List.drop_append,List.drop_of_length_le (by omega),List.nil_append]
  simp
 rw [this,List.dropWhile_cons,if_pos (by decide)]
 have h2:=h.2.2.1
 have h3:=h.2.2.2
 generalize B f.v=v at *
 cases v with
 | nil=>exact absurd rfl h3
 | cons a r=>
  unfold hd32 at h2
  rw [decide_eq_false_iff_not] at h2
  rw [List.dropWhile_cons,if_neg (by simpa using h2)]
theorem fld1 {f:Fd} (h:Good1 f):fldT f=ln1 f++[10]:=by
 unfold fldT ln1
 have hc:cutBy 10 (B f.v)=[B f.v]:=cutBy_none fun c hc=>by have:=h.2.1 c hc;omega
 rw [hc]
 show B f.n++58::((if B f.v=[] then [] else 32::B f.v)++10::([]:List (List Nat)).flatten)=_
 rw [if_neg h.2.2.2]
 simp
theorem cut_st {st:List Fd} (h:∀f ∈ st,Good1 f) (r:List Nat):cutBy 10 (stT st++r)=st.map ln1++cutBy 10 r:=by
 induction st with
 | nil=>rfl
 | cons f st ih=>
  have e:stT (f::st)=fldT f++stT st:=by unfold stT;rw [List.map_cons,List.flatten_cons]
  rw [e,fld1 (h f (by simp)),List.append_assoc,List.append_assoc]
  show cutBy 10 (ln1 f++10::(stT st++r))=_
  rw [cutBy_at (fun c hc=>by have:=ln1_ge (h f (by simp)) c hc;omega),ih fun g hg=>h g (by simp [hg])];rfl
def op1 (f:Fd):Opn:=(f.n,[B f.v])
theorem cl_op1 (st:List Fd):(st.map op1).map clF=st:=by
 rw [List.map_map]
 have:∀f:Fd,(clF ∘ op1) f=f:=fun f=>by
  show (⟨f.n,joinB [B f.v]⟩:Fd)=f
  unfold joinB
  rw [show joinL [10] [B f.v]=B f.v from rfl,mk_B]
 rw [List.map_congr_left fun f _=>this f,List.map_id']
theorem ln1_run {f:Fd} (h:Good1 f) (D:List (List Fd)) (seen:List Fd) (hd:D.length < 200) (hs:seen.length < 40) (hn:getV seen f.n=false) :
  lnE ⟨D,seen.map op1⟩ (ln1 f)=0∧lnS ⟨D,seen.map op1⟩ (ln1 f)=⟨D,(seen++[f]).map op1⟩:=by
 have hnm:=ln1_nm h
 have hvl:=ln1_vl h
 have hlow:=ln1_low h
 have h58:58 ∈ ln1 f:=by unfold ln1;simp
 obtain ⟨a,r,ha,ha32⟩:=(nm_ge h.1).2
 have hln:ln1 f=a::(r++58::32::B f.v):=by unfold ln1;rw [ha];rfl
 have hany:((seen.map op1).any fun g=>decide (g.1=mk (nmOf (ln1 f))))=false:=by
  rw [hnm,mk_B,←any_cl,cl_op1];exact hn
 refine ⟨?_,?_⟩
 ·have e:lnE ⟨D,seen.map op1⟩ (ln1 f)=begE ⟨D,seen.map op1⟩ (ln1 f):=by
   unfold lnE
   rw [hlow,hln]
   rw [if_neg (by decide)]
   simp only
   rw [if_neg ha32]
  rw [e]
  unfold begE
  rw [if_pos (by rw [decide_eq_true h58,hnm,h.1];rfl)]
  simp only
  rw [hany,if_neg (by decide),if_neg]
  rw [List.length_map,decide_eq_false (by omega),decide_eq_false (by omega)];decide
 ·have e:lnS ⟨D,seen.map op1⟩ (ln1 f)=⟨D,seen.map op1++[(mk (nmOf (ln1 f)),[vlOf (ln1 f)])]⟩:=by
   rw [hln]
   unfold lnS
   simp only
   rw [if_neg ha32]
  rw [e,hnm,hvl,mk_B,List.map_append];rfl
theorem st_run (D:List (List Fd)) (hd:D.length < 200):∀(st seen:List Fd),(∀f ∈ st,Good1 f)→noDup seen st=true→seen.length+st.length≤40→
  rnE ⟨D,seen.map op1⟩ (st.map ln1)=0∧rnS ⟨D,seen.map op1⟩ (st.map ln1)=⟨D,(seen++st).map op1⟩
 | [],seen,_,_,_=>⟨rfl,by rw [List.append_nil];rfl⟩
 | f::st,seen,h,hn,hl=>by
  have hn':getV seen f.n=false∧noDup (seen++[f]) st=true:=by
   have:(!getV seen f.n&&noDup (seen++[f]) st)=true:=hn
   rw [Bool.and_eq_true,Bool.not_eq_true'] at this;exact this
  rw [List.length_cons] at hl
  obtain ⟨h1,h2⟩:=ln1_run (h f (by simp)) D seen hd (by omega) hn'.1
  obtain ⟨h3,h4⟩:=st_run D hd st (seen++[f]) (fun g hg=>h g (by simp [hg])) hn'.2 (by rw [List.length_append,List.length_singleton];omega)
  rw [List.map_cons,rnE_ok h1]
  refine ⟨by rw [h2];exact h3,?_⟩
  show rnS (lnS _ _) _=_
  rw [h2,h4,List.append_assoc];rfl
theorem fin_op1 (D:List (List Fd)) {st:List Fd} (h:st≠[]):(PS.mk D (st.map op1)).fin=⟨D++[st],[]⟩:=by
 unfold PS.fin
 rw [if_neg (by simpa using h)]
 simp only
 rw [cl_op1]
structure Stz1 (st:List Fd):Prop where
 f:∀f ∈ st,Good1 f
 d:noDup [] st=true
 n:st≠[]
 l:st.length≤40
theorem tx_run:∀(L D:List (List Fd)),L≠[]→(∀st ∈ L,Stz1 st)→D.length+L.length≤200→rnE ⟨D,[]⟩ (cutBy 10 (txL L))=0∧(rnS ⟨D,[]⟩ (cutBy 10 (txL L))).fin.dn=D++L
 | [],_,h,_,_=>absurd rfl h
 | [st],D,_,h,hl=>by
  have hs:=h st (by simp)
  have e:txL [st]=stT st++[]:=by rw [List.append_nil];rfl
  obtain ⟨h1,h2⟩:=st_run D (by simp at hl;omega) st [] hs.f hs.d (by simpa using hs.l)
  have h1:rnE ⟨D,[]⟩ (st.map ln1)=0:=h1
  rw [e,cut_st hs.f]
  refine ⟨?_,?_⟩
  ·rw [rnE_app _ _ _ h1];rfl
  ·rw [rnS_app]
   have h2':rnS ⟨D,[]⟩ (st.map ln1)=⟨D,st.map op1⟩:=h2
   rw [h2']
   show ((PS.mk D (st.map op1)).fin).fin.dn=_
   rw [fin_fin,fin_op1 D hs.n]
 | st::st'::r,D,_,h,hl=>by
  have hs:=h st (by simp)
  have e:txL (st::st'::r)=stT st++10::txL (st'::r):=rfl
  simp only [List.length_cons] at hl
  obtain ⟨h1,h2⟩:=st_run D (by omega) st [] hs.f hs.d (by simpa using hs.l)
  have h1:rnE ⟨D,[]⟩ (st.map ln1)=0:=h1
  have h2':rnS ⟨D,[]⟩ (st.map ln1)=⟨D,st.map op1⟩:=h2
  have hc:cutBy 10 (10::txL (st'::r))=[]::cutBy 10 (txL (st'::r)):=by
   have:=cutBy_at (c:=10) (p:=[]) (fun x hx=>by cases hx) (txL (st'::r))
   exact this
  obtain ⟨h3,h4⟩:=tx_run (st'::r) (D++[st]) (by simp) (fun s hs'=>h s (by simp only [List.mem_cons] at hs' ⊢;exact .inr hs')) (by rw [List.length_append,List.length_singleton];simp only [List.length_cons];omega)
  have hf:lnS (PS.mk D (st.map op1)) []=⟨D++[st],[]⟩:=fin_op1 D hs.n
  rw [e,cut_st hs.f,hc]
  refine ⟨?_,?_⟩
  ·rw [rnE_app _ _ _ h1,h2',rnE_ok (lnE_nil _),hf];exact h3
  ·rw [rnS_app,h2']
   show (rnS (lnS _ []) _).fin.dn=_
   rw [hf,h4,List.append_assoc];rfl
theorem tx_back {L:List (List Fd)} (h:∀st ∈ L,Stz1 st) (hl:L.length≤200) (ht:(txL L).length≤60000):stE (txL L)=0∧stL (txL L)=L:=by
 by_cases h0:L=[]
 ·subst h0
  exact ⟨by kernel_rfl,by kernel_rfl⟩
 ·obtain ⟨h1,h2⟩:=tx_run L [] h0 h (by simpa using hl)
  have e:stE (txL L)=0:=by unfold stE;rw [if_neg (by omega)];exact h1
  refine ⟨e,?_⟩
  unfold stL
  rw [if_pos e]
  exact h2
theorem name_vis {n:List Nat} (h:nameB n=true):∀c ∈ n,33≤c:=by
 intro c hc
 unfold nameB at h
 simp only [Bool.and_eq_true,List.all_eq_true] at h
 have:=h.2 c hc
 unfold nmcB plnB digB at this
 simp only [Bool.or_eq_true,decide_eq_true_eq] at this
 omega
theorem val_vis {v:List Nat} (h:∀c ∈ v,32≤c) (h2:hd32 v=false):valB v=true:=by
 unfold valB
 rw [cutBy_none fun x hx=>by have:=h x hx;omega]
 rw [valL_cons,h2]
 have:lowB v=false:=by
  unfold lowB
  rw [List.any_eq_false]
  intro c hc
  rw [decide_eq_true_eq]
  have:=h c hc
  omega
 rw [this];rfl
theorem hd_vis {v:List Nat} (h:∀c ∈ v,33≤c):hd32 v=false:=by
 cases v with
 | nil=>rfl
 | cons c r=>
  have:=h c (by simp)
  show decide (c=32)=false
  exact decide_eq_false (by omega)
theorem tx_lt (L:List (List Fd)) (h:∀st ∈ L,Stz1 st):∀c ∈ txL L,c < 256:=by
 intro c hc
 unfold txL at hc
 rcases joinL_mem hc with hc|⟨t,ht,hc⟩
 ·rw [List.mem_singleton.1 hc];omega
 ·obtain ⟨st,hst,rfl⟩:=List.mem_map.1 ht
  unfold stT at hc
  obtain ⟨t,ht,hc⟩:=List.mem_flatten.1 hc
  obtain ⟨f,hf,rfl⟩:=List.mem_map.1 ht
  rw [fld1 ((h st hst).f f hf)] at hc
  unfold ln1 at hc
  simp only [List.mem_append,List.mem_cons,List.not_mem_nil,or_false] at hc
  rcases hc with (hc|rfl|rfl|hc)|rfl
  ·exact B_lt _ c hc
  ·omega
  ·omega
  ·exact B_lt _ c hc
  ·omega
theorem decI_vis (p:Int):∀c ∈ decI p,33≤c:=by
 have hd:∀n,∀c ∈ decL n,33≤c:=fun n c hc=>by
  have:=decL_dig n c hc
  unfold digB at this
  simp only [Bool.and_eq_true,decide_eq_true_eq] at this
  omega
 unfold decI
 split
 ·intro c hc
  rcases List.mem_cons.1 hc with rfl|hc
  ·decide
  ·exact hd _ c hc
 ·exact hd _
theorem decI_ne (p:Int):decI p≠[]:=by
 unfold decI
 split
 ·exact List.cons_ne_nil _ _
 ·exact decL_ne2 _
theorem vis_lt {x:List Nat} (h:x.all visB=true):∀c ∈ x,33≤c∧c < 127:=fun c hc=>by
 have:=List.all_eq_true.1 h c hc
 unfold visB at this
 simp only [Bool.and_eq_true,decide_eq_true_eq] at this
 omega
theorem stN8_get (x:Pn):getV (stN8 x) nPk=true∧getV (stN8 x) nPi=true∧getV (stN8 x) nPp=true∧fstV (stN8 x) nPk=x.n∧fstV (stN8 x) nPi=mk (ver8L++(B x.x++[42]))∧fstV (stN8 x) nPp=mk (decI x.p):=by
 have h1:nPk≠nPi:=by decide
 have h2:nPk≠nPp:=by decide
 have h3:nPi≠nPp:=by decide
 unfold stN8
 refine ⟨by simp [getV],by simp [getV],by simp [getV],by simp [fstV],?_,?_⟩
 ·rw [fstV_cons,if_neg h1,fstV_cons,if_pos rfl]
 ·rw [fstV_cons,if_neg h2,fstV_cons,if_neg h3,fstV_cons,if_pos rfl]
theorem rdN_st {x:Pn} (h:rgtN x=true):rdN (stN8 x)=(0,x):=by
 obtain ⟨g1,g2,g3,f1,f2,f3⟩:=stN8_get x
 obtain ⟨_,_,_,h1,h2⟩:=rgtN_parts h
 unfold rdN
 rw [g1,g2,g3,f1,f2,f3,B_mk (decI_lt _),B_mk (pin_lt x),pri_dec h1 h2,pref_of,if_pos (by decide)]
 simp only [mk_B]
 rw [if_pos h]
theorem name8_good {x:Pn} (h:rgtN x=true):(∀c ∈ B x.n,33≤c)∧B x.n≠[]:=by
 rcases (rgtN_parts h).1 with q|q
 ·exact ⟨name_vis q,fun e=>by have:=(name_len q).1;rw [e] at this;simp at this⟩
 ·rw [q,star_lt];exact ⟨by simp,by simp⟩
theorem stN8_good {x:Pn} (h:rgtN x=true):∀f ∈ stN8 x,Good1 f:=by
 obtain ⟨hn,hne⟩:=name8_good h
 intro f hf
 unfold stN8 at hf
 simp only [List.mem_cons,List.not_mem_nil,or_false] at hf
 rcases hf with rfl|rfl|rfl
 ·exact ⟨by kernel_rfl,fun c hc=>by have:=hn c hc;omega,hd_vis hn,hne⟩
 ·refine ⟨by kernel_rfl,fun c hc=>?_,by rw [B_mk (pin_lt x)];rfl,by rw [B_mk (pin_lt x)];simp [ver8L]⟩
  rw [B_mk (pin_lt x)] at hc
  rcases List.mem_append.1 hc with hc|hc
  ·exact (ver8_ge c hc).1
  ·rcases List.mem_append.1 hc with hc|hc
   ·have:=(vis_lt (rgtN_parts h).2.2.1 c hc).1;omega
   ·rw [List.mem_singleton.1 hc];decide
 ·exact ⟨by kernel_rfl,fun c hc=>by rw [B_mk (decI_lt _)] at hc;have:=decI_vis _ c hc;omega,by rw [B_mk (decI_lt _)];exact hd_vis (decI_vis _),by rw [B_mk (decI_lt _)];exact decI_ne _⟩
theorem nd8 (a b c:ByteArray):noDup [] [⟨nPk,a⟩,⟨nPi,b⟩,⟨nPp,c⟩]=true:=by
 have h1:(nPk=nPi)=False:=eq_false (by decide)
 have h2:(nPk=nPp)=False:=eq_false (by decide)
 have h3:(nPi=nPp)=False:=eq_false (by decide)
 simp [noDup,getV,h1,h2,h3]
theorem stN8_stz {x:Pn} (h:rgtN x=true):Stz1 (stN8 x):=⟨stN8_good h,nd8 _ _ _,by simp [stN8],by simp [stN8]⟩
theorem stN8_ok {x:Pn} (h:rgtN x=true):stzR (stN8 x)=true:=by
 unfold stzR
 rw [Bool.and_eq_true,Bool.and_eq_true,Bool.and_eq_true,List.all_eq_true]
 refine ⟨⟨fun f hf=>?_,nd8 _ _ _⟩,decide_eq_true (by simp [stN8]),decide_eq_true (by simp [stN8])⟩
 have g:=stN8_good h f hf
 unfold fdR
 rw [g.1,val_vis g.2.1 g.2.2.1];rfl
theorem st8s {l:List Pn} (h:∀x ∈ l,rgtN x=true):∀st ∈ l.map stN8,Stz1 st:=fun st hst=>by
 obtain ⟨x,hx,rfl⟩:=List.mem_map.1 hst
 exact stN8_stz (h x hx)
theorem goN_wr:∀(l:List Pn) (i:Nat) (out:List Pn),(∀x ∈ l,rgtN x=true)→goN (l.map stN8) i out=(out++l,0,0)
 | [],i,out,_=>by rw [List.append_nil];rfl
 | x::r,i,out,h=>by
  rw [List.map_cons]
  unfold goN
  rw [rdN_st (h x (by simp)),if_neg (fun hh=>hh rfl),goN_wr r (i+1) _ (fun y hy=>h y (by simp [hy])),List.append_assoc,List.singleton_append]
theorem paN_wr {l:List Pn} (h:∀x ∈ l,rgtN x=true) (h64:l.length≤64) (ht:(txL (l.map stN8)).length≤60000):paN (txL (l.map stN8))=(l,0,0):=by
 obtain ⟨e1,e2⟩:=tx_back (st8s h) (by rw [List.length_map];omega) ht
 unfold paN
 rw [if_neg (by rw [e1];simp),e2,if_neg (by rw [List.length_map];omega),goN_wr l 0 [] h]
 rfl
theorem print_back8 {l:List Pn} (h:prN prP l≠{ data:=#[] }):paN (B (prN prP l))=(l,0,0):=by
 unfold prN at h ⊢
 split at h
 ·rename_i hc
  rw [if_pos hc]
  obtain ⟨hR,h64⟩:=(rightN_iff l).1 hc
  unfold prP at h ⊢
  split at h
  ·rename_i hp
   rw [if_pos hp,B_mk (tx_lt _ (st8s hR))]
   unfold okP at hp
   rw [Bool.and_eq_true,Bool.and_eq_true,decide_eq_true_iff,decide_eq_true_iff] at hp
   exact paN_wr hR h64 hp.2.2
  ·exact absurd rfl h
 ·exact absurd rfl h
theorem rdN_right {st:List Fd} (h:(rdN st).1=0):rgtN (rdN st).2=true:=by
 unfold rdN at h ⊢
 split at h
 ·rename_i hc
  rw [if_pos hc]
  split at h
  ·rename_i n x h1 h2
   split at h
   ·rename_i hr
    rw [if_pos hr];exact hr
   ·exact absurd h (by decide)
  ·exact absurd h (by decide)
 ·exact absurd h (by decide)
theorem goN_ok:∀(L:List (List Fd)) (i:Nat) (out a:List Pn) (n e:Int),(∀x ∈ out,rgtN x=true)→goN L i out=(a,n,e)→
  (e=0→n=0∧(∀x ∈ a,rgtN x=true)∧a.length≤out.length+L.length)∧(e≠0→a=[])
 | [],i,out,a,n,e,h1,h=>by
  simp only [goN,Prod.mk.injEq] at h
  obtain ⟨rfl,rfl,rfl⟩:=h
  exact ⟨fun _=>⟨rfl,h1,by simp⟩,fun h=>absurd rfl h⟩
 | st::r,i,out,a,n,e,h1,h=>by
  unfold goN at h
  by_cases q1:(rdN st).1=0
  ·rw [if_neg (fun hh=>hh q1)] at h
   have hr:=rdN_right q1
   obtain ⟨b1,b2⟩:=goN_ok r (i+1) _ a n e (fun x hx=>by
    rcases List.mem_append.1 hx with hx|hx
    ·exact h1 x hx
    ·rw [List.mem_singleton.1 hx];exact hr) h
   refine ⟨fun he=>?_,b2⟩
   obtain ⟨c1,c2,c3⟩:=b1 he
   refine ⟨c1,c2,?_⟩
   rw [List.length_append,List.length_singleton] at c3
   rw [List.length_cons];omega
  ·rw [if_pos q1] at h
   simp only [Prod.mk.injEq] at h
   obtain ⟨rfl,rfl,rfl⟩:=h
   exact ⟨fun h=>absurd h q1,fun _=>rfl⟩
theorem paN_err {t:List Nat} (h:(paN t).2.2≠0):(paN t).1=[]:=by
 unfold paN at h ⊢
 split at h
 ·rename_i h0;rw [if_pos h0]
 ·rename_i h0
  rw [if_neg h0]
  split at h
  ·rename_i h1;rw [if_pos h1]
  ·rename_i h1
   rw [if_neg h1]
   exact (goN_ok _ _ _ _ _ _ (fun x hx=>by cases hx) rfl).2 h
theorem ln1_size (f:Fd):(ln1 f).length=f.n.size+f.v.size+2:=by
 unfold ln1
 rw [List.length_append,List.length_cons,List.length_cons,B_len,B_len]
 omega
theorem stN8_txt {x:Pn} (h:rgtN x=true):(stT (stN8 x)).length≤160:=by
 have g:=stN8_good h
 obtain ⟨_,hx,_,h1,h2⟩:=rgtN_parts h
 have hn:=name8_len h
 have hd:=decI_len h1 h2
 unfold stN8 at g ⊢
 have e:∀a b c:Fd,stT [a,b,c]=fldT a++(fldT b++(fldT c++[])):=fun a b c=>rfl
 rw [e,fld1 (g _ (by simp)),fld1 (g _ (by simp)),fld1 (g _ (by simp))]
 simp only [List.length_append,ln1_size,List.length_cons,List.length_nil,size_mk,B_len]
 have e1:nPk.size=7:=rfl
 have e2:nPi.size=3:=rfl
 have e3:nPp.size=12:=rfl
 have e4:ver8L.length=8:=rfl
 omega
theorem tx8_len {l:List Pn} (h:∀x ∈ l,rgtN x=true):(txL (l.map stN8)).length≤161*l.length:=by
 refine Nat.le_trans (joinL_tot6 [10] _) ?_
 show tot6 1 _≤_
 induction l with
 | nil=>exact Nat.zero_le _
 | cons x r ih=>
  rw [List.map_cons,List.map_cons,tot6_cons,List.length_cons]
  have:=ih fun y hy=>h y (List.mem_cons_of_mem _ hy)
  have:=stN8_txt (h x (List.mem_cons_self ..))
  show (stT (stN8 x)).length+1+_≤_
  omega
theorem parse_back8 {t:List Nat} (h:(paN t).2.2=0):(paN t).2.1=0∧rightN (paN t).1=true∧paN (B (prN prP (paN t).1))=((paN t).1,0,0):=by
 unfold paN at h
 split at h
 ·rename_i h0;exact absurd h h0
 rename_i h0
 split at h
 ·exact absurd h (by decide)
 rename_i h1
 have e:paN t=goN (stL t) 0 []:=by unfold paN;rw [if_neg h0,if_neg h1]
 rw [e]
 obtain ⟨a,n,er,hg⟩:∃a n er,goN (stL t) 0 []=(a,n,er):=⟨_,_,_,rfl⟩
 rw [hg] at h ⊢
 simp only at h ⊢
 subst h
 obtain ⟨c1,c2,c3⟩:=(goN_ok _ _ _ _ _ _ (fun x hx=>by cases hx) hg).1 rfl
 have h64:a.length≤64:=by rw [List.length_nil] at c3;omega
 have hr:=(rightN_iff a).2 ⟨c2,h64⟩
 have ht:(txL (a.map stN8)).length≤60000:=by have:=tx8_len c2;omega
 refine ⟨c1,hr,?_⟩
 have hv:∀st ∈ a.map stN8,∀f ∈ st,f.v.size≤60000:=fun st hst f hf=>by
  obtain ⟨x,hx,rfl⟩:=List.mem_map.1 hst
  obtain ⟨_,hx60,_,p1,p2⟩:=rgtN_parts (c2 x hx)
  have hn:=name8_len (c2 x hx)
  have hd:=decI_len p1 p2
  unfold stN8 at hf
  simp only [List.mem_cons,List.not_mem_nil,or_false] at hf
  rcases hf with rfl|rfl|rfl
  ·show x.n.size≤60000;omega
  ·show (mk _).size≤60000
   rw [size_mk,List.length_append,List.length_append,B_len]
   have e4:ver8L.length=8:=rfl
   simp only [List.length_cons,List.length_nil];omega
  ·show (mk _).size≤60000;rw [size_mk];omega
 have hO:okR (a.map stN8)=true:=by
  unfold okR
  rw [decide_eq_true ht,decide_eq_true (show (a.map stN8).length≤200 by rw [List.length_map];omega),Bool.and_true,Bool.and_true,List.all_eq_true]
  intro st hst
  obtain ⟨x,hx,rfl⟩:=List.mem_map.1 hst
  exact stN8_ok (c2 x hx)
 have hP:prN prP a=mk (txL (a.map stN8)):=by
  unfold prN
  rw [if_pos hr]
  unfold prP
  rw [okP_eq hv,hO];rfl
 rw [hP,B_mk (tx_lt _ (st8s c2))]
 exact paN_wr c2 h64 ht
end Go.Proofs.YtbljkpbaceiaiaaGreatDoor
