/- What the laws rest on: E7q, E7w, P8y. -/
import Derived.Test.YtboinnjncaehkaaGreatDoorQAIZA
import Derived.Test.YtboinnjncaehkaaGreatDoorQAOZA
import Derived.Test.YtboinnjncaehkaaGreatDoorQAQZA
import Derived.Test.YtboinnjncaehkaaGreatDoorQARZA
import Derived.Test.YtboinnjncaehkaaGreatDoorQBYZA
set_option maxRecDepth 100000
set_option linter.unusedVariables false
set_option linter.unusedSimpArgs false
namespace Go.Proofs.YtboinnjncaehkaaGreatDoor
open Go.RowKit
def paH (t:List Nat):List Hr × Int × Int:=if stE t≠0 then ([],stN t,stE t) else if 64 < (stL t).length then ([],0,8) else goH rdP (stL t) 0 []
theorem fstV_app {a:List Fd} {n:ByteArray} (h:getV a n=false) (b:List Fd):fstV (a++b) n=fstV b n:=by
 induction a with
 | nil=>rfl
 | cons f r ih=>
  rw [getV_cons,Bool.or_eq_false_iff] at h
  rw [List.cons_append,fstV_cons,if_neg (of_decide_eq_false h.1)]
  exact ih h.2
theorem mrk_all (a h:Bool):getV (mrk a nAu++mrk h nHo) nAu=a∧getV (mrk a nAu++mrk h nHo) nHo=h∧(a=true→fstV (mrk a nAu++mrk h nHo) nAu=yes7)∧(h=true→fstV (mrk a nAu++mrk h nHo) nHo=yes7):=by
 cases a<;>cases h<;>exact ⟨by decide,by decide,by decide,by decide⟩
theorem stH_right {x:Hr} (h:rgtE x.e=true):stH x=wr4 x.e++(mrk x.a nAu++mrk x.h nHo):=by unfold stH;rw [wrE_right h]
theorem stH_marks {x:Hr} (h:rgtE x.e=true):mkB (stH x) nAu=x.a∧mkB (stH x) nHo=x.h∧mkO (stH x) nAu=true∧mkO (stH x) nHo=true:=by
 obtain ⟨m1,m2,m3,m4⟩:=mrk_all x.a x.h
 have g1:getV (stH x) nAu=x.a:=by rw [stH_right h,getV_app,wr4_au,m1];rfl
 have g2:getV (stH x) nHo=x.h:=by rw [stH_right h,getV_app,wr4_ho,m2];rfl
 have f1:x.a=true→fstV (stH x) nAu=yes7:=fun q=>by rw [stH_right h,fstV_app (wr4_au _),m3 q]
 have f2:x.h=true→fstV (stH x) nHo=yes7:=fun q=>by rw [stH_right h,fstV_app (wr4_ho _),m4 q]
 unfold mkB mkO
 rw [g1,g2]
 refine ⟨?_,?_,?_,?_⟩
 ·cases q:x.a
  ·rfl
  ·rw [f1 q];decide
 ·cases q:x.h
  ·rfl
  ·rw [f2 q];decide
 ·cases q:x.a
  ·rfl
  ·rw [f1 q];decide
 ·cases q:x.h
  ·rfl
  ·rw [f2 q];decide
theorem mrk_othr (a h:Bool):∀f ∈ mrk a nAu++mrk h nHo,othr f:=by
 have ho:∀{b:Bool} {n:ByteArray} {f:Fd},f ∈ mrk b n→f.n=n:=fun {b n f} hf=>by
  unfold mrk at hf
  split at hf
  ·rw [List.mem_singleton.1 hf]
  ·cases hf
 intro f hf
 unfold othr
 rcases List.mem_append.1 hf with hf|hf
 ·rw [ho hf];decide
 ·rw [ho hf];decide
theorem rdP_stH {x:Hr} (h:rgtE x.e=true):rdP (stH x)=(0,x.e):=by rw [stH_right h];exact rdP_wr h _ (mrk_othr _ _)
theorem noDup_app:∀(a seen b:List Fd),noDup seen (a++b)=(noDup seen a&&noDup (seen++a) b)
 | [],seen,b=>by rw [List.append_nil];rfl
 | f::r,seen,b=>by
  show (!getV seen f.n&&noDup (seen++[f]) (r++b))=((!getV seen f.n&&noDup (seen++[f]) r)&&noDup (seen++f::r) b)
  rw [noDup_app r,Bool.and_assoc,List.append_assoc,List.singleton_append]
theorem noDup_mrk {s:List Fd} (h1:getV s nAu=false) (h2:getV s nHo=false) (a h:Bool):noDup s (mrk a nAu++mrk h nHo)=true:=by
 have q:getV [⟨nAu,yes7⟩] nHo=false:=by decide
 cases a<;>cases h<;>simp [mrk,noDup,h1,h2,getV_app,q]
theorem mrk_good (a h:Bool):∀f ∈ mrk a nAu++mrk h nHo,Good1 f∧fdR f=true∧(fldT f).length=10:=by
 have ha:Good1 ⟨nAu,yes7⟩∧fdR ⟨nAu,yes7⟩=true∧(fldT ⟨nAu,yes7⟩).length=10:=⟨⟨by kernel_rfl,by decide,by kernel_rfl,by decide⟩,by kernel_rfl,by kernel_rfl⟩
 have hh:Good1 ⟨nHo,yes7⟩∧fdR ⟨nHo,yes7⟩=true∧(fldT ⟨nHo,yes7⟩).length=10:=⟨⟨by kernel_rfl,by decide,by kernel_rfl,by decide⟩,by kernel_rfl,by kernel_rfl⟩
 intro f hf
 rcases List.mem_append.1 hf with hf|hf
 ·unfold mrk at hf
  split at hf
  ·rw [List.mem_singleton.1 hf];exact ha
  ·cases hf
 ·unfold mrk at hf
  split at hf
  ·rw [List.mem_singleton.1 hf];exact hh
  ·cases hf
theorem mrk_len (a h:Bool):(mrk a nAu++mrk h nHo).length≤2:=by cases a<;>cases h<;>decide
theorem stH_nodup {x:Hr} (h:rgtE x.e=true):noDup [] (stH x)=true:=by
 rw [stH_right h,noDup_app,(wr4_stz h).d,List.nil_append,noDup_mrk (wr4_au _) (wr4_ho _)];rfl
theorem stH_len {x:Hr} (h:rgtE x.e=true):(stH x).length≤8:=by
 rw [stH_right h,List.length_append]
 have:=(wr_len x.e).2.2.2.2
 have:=mrk_len x.a x.h
 omega
theorem stH_stz {x:Hr} (h:rgtE x.e=true):Stz1 (stH x):=by
 have h8:=stH_len h
 refine ⟨fun f hf=>?_,stH_nodup h,fun e=>?_,by omega⟩
 ·rw [stH_right h] at hf
  rcases List.mem_append.1 hf with hf|hf
  ·exact (wr4_stz h).f f hf
  ·exact (mrk_good _ _ f hf).1
 ·rw [stH_right h] at e
  exact (wr4_stz h).n (List.append_eq_nil_iff.1 e).1
theorem stH_ok {x:Hr} (h:rgtE x.e=true):stzR (stH x)=true:=by
 have h8:=stH_len h
 have hs:=stz_wr bk6 h
 unfold stzR at hs ⊢
 rw [Bool.and_eq_true,Bool.and_eq_true,Bool.and_eq_true,decide_eq_true_iff,decide_eq_true_iff,List.all_eq_true] at hs ⊢
 refine ⟨⟨fun f hf=>?_,stH_nodup h⟩,?_,by omega⟩
 ·rw [stH_right h] at hf
  rcases List.mem_append.1 hf with hf|hf
  ·exact hs.1.1 f hf
  ·exact (mrk_good _ _ f hf).2.1
 ·rw [stH_right h,List.length_append];have:=hs.2.1;omega
theorem fd_ris {l:List Hr} (h:Ris (l.map fun x=>x.e.n)) {k:Nat} (hk:k < l.length):∀x ∈ l.take k,blt x.e.n l[k].e.n:=by
 intro x hx
 obtain ⟨j,hj,rfl⟩:=List.getElem_of_mem hx
 rw [List.length_take] at hj
 rw [List.getElem_take]
 have:=List.pairwise_iff_getElem.1 h j k (by rw [List.length_map];omega) (by rw [List.length_map];omega) (by omega)
 rw [List.getElem_map,List.getElem_map] at this
 exact this
theorem tw_all7 {α:Type} {p:α→Bool}:∀{l:List α},(∀x ∈ l,p x=true)→l.takeWhile p=l∧l.dropWhile p=[]
 | [],_=>⟨rfl,rfl⟩
 | a::r,h=>by
  have ih:=tw_all7 (l:=r) fun x hx=>h x (List.mem_cons_of_mem _ hx)
  rw [List.takeWhile_cons_of_pos (h a (List.mem_cons_self ..)),List.dropWhile_cons_of_pos (h a (List.mem_cons_self ..)),ih.1,ih.2]
  exact ⟨rfl,rfl⟩
theorem wi_last {l:List Hr} {h:Hr} (hl:∀x ∈ l,blt x.e.n h.e.n):wiH l h=l++[h]:=by
 have e:woH l h.e.n=l:=List.filter_eq_self.2 fun x hx=>by
  have q:x.e.n≠h.e.n:=fun e=>blt_self h.e.n (e ▸ hl x hx)
  simpa using q
 obtain ⟨t1,t2⟩:=tw_all7 (p:=leH h.e.n) (l:=l) fun x hx=>by
  unfold leH
  rw [Bool.not_eq_true',Bool.eq_false_iff]
  exact fun q=>blt_asym (hl x hx) q
 unfold wiH inH
 rw [e,t1,t2]
theorem fd_last {l:List Hr} {n:ByteArray} (hl:∀x ∈ l,blt x.e.n n):fdH l n=none:=fd_none.2 fun x hx e=>blt_self n (e ▸ hl x hx)
theorem goH_wr {l:List Hr} (h:∀x ∈ l,rgtE x.e=true) (hr:Ris (l.map fun x=>x.e.n)):∀(n k:Nat),n+k=l.length→goH rdP ((l.drop k).map stH) k (l.take k)=(l,0,0)
 | 0,k,hn=>by
  obtain rfl:k=l.length:=by omega
  rw [List.drop_length,List.take_length];rfl
 | n+1,k,hn=>by
  have hk:k < l.length:=by omega
  have h1:=h l[k] (List.getElem_mem hk)
  have hb:=fd_ris hr hk
  obtain ⟨m1,m2,m3,m4⟩:=stH_marks h1
  rw [List.drop_eq_getElem_cons hk,List.map_cons]
  unfold goH
  rw [rdP_stH h1,if_neg (fun hh=>hh rfl),m3,m4,if_neg (by decide),fd_last hb,if_neg (by decide),m1,m2]
  show goH rdP ((l.drop (k+1)).map stH) (k+1) (wiH (l.take k) l[k])=_
  rw [wi_last hb,←List.take_succ_eq_append_getElem hk]
  exact goH_wr h hr n (k+1) (by omega)
theorem stHs_stz {l:List Hr} (h:∀x ∈ l,rgtE x.e=true):∀st ∈ l.map stH,Stz1 st:=fun st hst=>by
 obtain ⟨x,hx,rfl⟩:=List.mem_map.1 hst
 exact stH_stz (h x hx)
theorem paH_wr {l:List Hr} (h:RightP l) (ht:(txL (l.map stH)).length≤60000):paH (txL (l.map stH))=(l,0,0):=by
 have h64:=h.2.2
 obtain ⟨e1,e2⟩:=tx_back (stHs_stz h.1) (by rw [List.length_map];omega) ht
 unfold paH
 rw [if_neg (by rw [e1];simp),e2,if_neg (by rw [List.length_map];omega)]
 exact goH_wr h.1 h.2.1 l.length 0 rfl
theorem print_back7 {l:List Hr} (h:prH prP l≠{ data:=#[] }):paH (B (prH prP l))=(l,0,0):=by
 unfold prH at h ⊢
 split at h
 ·rename_i hc
  rw [if_pos hc]
  have hR:=(rightH_iff l).1 hc
  unfold prP at h ⊢
  split at h
  ·rename_i hp
   rw [if_pos hp,B_mk (tx_lt _ (stHs_stz hR.1))]
   unfold okP at hp
   rw [Bool.and_eq_true,Bool.and_eq_true,decide_eq_true_iff,decide_eq_true_iff] at hp
   exact paH_wr hR hp.2.2
  ·exact absurd rfl h
 ·exact absurd rfl h
def tW (l:List Hr):Nat:=(l.map fun x=>(stT (stH x)).length+1).sum
theorem tW_app (a b:List Hr):tW (a++b)=tW a+tW b:=by unfold tW;rw [List.map_append,List.sum_append]
theorem tW_cons (x:Hr) (b:List Hr):tW (x::b)=(stT (stH x)).length+1+tW b:=by unfold tW;rw [List.map_cons,List.sum_cons]
theorem tW_wo (l:List Hr) (n:ByteArray):tW (woH l n)≤tW l:=by
 induction l with
 | nil=>exact Nat.le_refl _
 | cons x r ih=>
  unfold woH at ih ⊢
  rw [List.filter_cons]
  split
  ·rw [tW_cons,tW_cons];omega
  ·rw [tW_cons];omega
theorem tW_wi (l:List Hr) (h:Hr):tW (wiH l h)≤tW l+(stT (stH h)).length+1:=by
 unfold wiH inH
 have e:=congrArg tW (List.takeWhile_append_dropWhile (p:=leH h.e.n) (l:=woH l h.e.n))
 rw [tW_app] at e
 have:=tW_wo l h.e.n
 rw [tW_app,tW_cons]
 omega
theorem tx_tW (l:List Hr):(txL (l.map stH)).length≤tW l:=by
 refine Nat.le_trans (joinL_tot6 [10] _) (Nat.le_of_eq ?_)
 unfold tot6 tW
 rw [List.map_map,List.map_map]
 rfl
theorem mrk_txt (a h:Bool):(stT (mrk a nAu++mrk h nHo)).length≤20:=by
 cases a<;>cases h<;>exact Nat.le_of_ble_eq_true (by kernel_rfl)
theorem rd_len7 {st:List Fd} (h:(rdP st).1=0) (a b:Bool):(stT (stH ⟨(rdP st).2,a,b⟩)).length≤5*vW st+106:=by
 have hr:=rd_right st h
 have h1:=rd_len6 bk6 aeX alX jr6 jl6 st (by rw [rdP_x] at h;exact h)
 rw [←rdP_x] at h1
 have h2:=mrk_txt a b
 have e:stH ⟨(rdP st).2,a,b⟩=wr4 (rdP st).2++(mrk a nAu++mrk b nHo):=stH_right (x:=⟨(rdP st).2,a,b⟩) hr
 rw [e,stT_app,List.length_append]
 omega
theorem ris_nil:Ris (([]:List Hr).map fun x=>x.e.n):=List.Pairwise.nil
theorem goH_ok:∀(L:List (List Fd)) (i:Nat) (out a:List Hr) (n e:Int),(∀x ∈ out,rgtE x.e=true)→Ris (out.map fun x=>x.e.n)→goH rdP L i out=(a,n,e)→
  (e=0→n=0∧(∀x ∈ a,rgtE x.e=true)∧Ris (a.map fun x=>x.e.n)∧a.length≤out.length+L.length∧tW a≤tW out+5*dW L+107*L.length)∧(e≠0→a=[])
 | [],i,out,a,n,e,h1,h2,h=>by
  simp only [goH,Prod.mk.injEq] at h
  obtain ⟨rfl,rfl,rfl⟩:=h
  exact ⟨fun _=>⟨rfl,h1,h2,by simp,by simp [dW]⟩,fun h=>absurd rfl h⟩
 | st::r,i,out,a,n,e,h1,h2,h=>by
  unfold goH at h
  by_cases q1:(rdP st).1=0
  ·rw [if_neg (fun hh=>hh q1)] at h
   by_cases q2:(mkO st nAu&&mkO st nHo)=false
   ·rw [if_pos q2] at h
    simp only [Prod.mk.injEq] at h
    obtain ⟨rfl,rfl,rfl⟩:=h
    exact ⟨fun h=>absurd h (by decide),fun _=>rfl⟩
   ·rw [if_neg q2] at h
    by_cases q3:(fdH out (rdP st).2.n).isSome=true
    ·rw [if_pos q3] at h
     simp only [Prod.mk.injEq] at h
     obtain ⟨rfl,rfl,rfl⟩:=h
     exact ⟨fun h=>absurd h (by decide),fun _=>rfl⟩
    ·rw [if_neg q3] at h
     have hr:=rd_right st q1
     have ho:∀x ∈ wiH out ⟨(rdP st).2,mkB st nAu,mkB st nHo⟩,rgtE x.e=true:=fun x hx=>by
      rcases mem_inH.1 hx with rfl|hx
      ·exact hr
      ·exact h1 x (List.mem_filter.1 hx).1
     have hs:Ris ((wiH out ⟨(rdP st).2,mkB st nAu,mkB st nHo⟩).map fun x=>x.e.n):=right_in wo_ne (List.Pairwise.sublist ((List.filter_sublist (l:=out)).map _) h2)
     obtain ⟨b1,b2⟩:=goH_ok r (i+1) _ a n e ho hs h
     refine ⟨fun he=>?_,b2⟩
     obtain ⟨c1,c2,c3,c4,c5⟩:=b1 he
     have hl:=wi_len out ⟨(rdP st).2,mkB st nAu,mkB st nHo⟩
     have hw:=tW_wi out ⟨(rdP st).2,mkB st nAu,mkB st nHo⟩
     have hz:=rd_len7 q1 (mkB st nAu) (mkB st nHo)
     have hd:dW (st::r)=vW st+dW r:=by unfold dW;rw [List.map_cons,List.sum_cons]
     refine ⟨c1,c2,c3,?_,?_⟩
     ·rw [List.length_cons];omega
     ·rw [hd,List.length_cons];omega
  ·rw [if_pos q1] at h
   simp only [Prod.mk.injEq] at h
   obtain ⟨rfl,rfl,rfl⟩:=h
   exact ⟨fun h=>absurd h q1,fun _=>rfl⟩
theorem paH_err {t:List Nat} (h:(paH t).2.2≠0):(paH t).1=[]:=by
 unfold paH at h ⊢
 split at h
 ·rename_i h0;rw [if_pos h0]
 ·rename_i h0
  rw [if_neg h0]
  split at h
  ·rename_i h1;rw [if_pos h1]
  ·rename_i h1
   rw [if_neg h1]
   exact (goH_ok _ _ _ _ _ _ (fun x hx=>by cases hx) ris_nil rfl).2 h
theorem parse_back7 {t:List Nat} (hl:t.length≤6000) (h:(paH t).2.2=0):(paH t).2.1=0∧rightH (paH t).1=true∧paH (B (prH prP (paH t).1))=((paH t).1,0,0):=by
 unfold paH at h
 split at h
 ·rename_i h0;exact absurd h h0
 rename_i h0
 split at h
 ·exact absurd h (by decide)
 rename_i h1
 have e:paH t=goH rdP (stL t) 0 []:=by unfold paH;rw [if_neg h0,if_neg h1]
 rw [e]
 obtain ⟨a,n,er,hg⟩:∃a n er,goH rdP (stL t) 0 []=(a,n,er):=⟨_,_,_,rfl⟩
 rw [hg] at h ⊢
 simp only at h ⊢
 subst h
 obtain ⟨c1,c2,c3,c4,c5⟩:=(goH_ok _ _ _ _ _ _ (fun x hx=>by cases hx) ris_nil hg).1 rfl
 have h64:a.length≤64:=by rw [List.length_nil] at c4;omega
 have hR:RightP a:=⟨c2,c3,h64⟩
 have hr:=(rightH_iff a).2 hR
 have ht:(txL (a.map stH)).length≤60000:=by
  have h2:=tx_tW a
  have h3:=stL_W t
  have h4:tW []=0:=rfl
  omega
 refine ⟨c1,hr,?_⟩
 have hv:∀st ∈ a.map stH,∀f ∈ st,f.v.size≤60000:=fun st hst f hf=>by
  obtain ⟨x,hx,rfl⟩:=List.mem_map.1 hst
  obtain ⟨p1,p2,_⟩:=rgtE_parts (c2 x hx)
  unfold stH at hf
  rcases List.mem_append.1 hf with hf|hf
  ·exact wrE_vals (by rw [←B_len];have:=(name_len p1).2;omega) (by rw [←B_len];have:=pr_len p2;omega) f hf
  ·have:f.v=yes7:=by
    rcases List.mem_append.1 hf with hf|hf<;>(unfold mrk at hf;split at hf<;>first|(rw [List.mem_singleton.1 hf];done)|cases hf)
   rw [this];decide
 have hO:okR (a.map stH)=true:=by
  unfold okR
  rw [decide_eq_true ht,decide_eq_true (show (a.map stH).length≤200 by rw [List.length_map];omega),Bool.and_true,Bool.and_true,List.all_eq_true]
  intro st hst
  obtain ⟨x,hx,rfl⟩:=List.mem_map.1 hst
  exact stH_ok (c2 x hx)
 have hP:prH prP a=mk (txL (a.map stH)):=by
  unfold prH
  rw [if_pos hr]
  unfold prP
  rw [okP_eq hv,hO];rfl
 rw [hP,B_mk (tx_lt _ (stHs_stz c2))]
 exact paH_wr hR ht
theorem emp7 (s:ByteArray):s.toList.isEmpty=decide (s={ data:=#[] }):=by
 have e:({ data:=#[] }:ByteArray).toList=[]:=by kernel_rfl
 rw [←str_eq,e]
 cases s.toList<;>rfl
set_option maxHeartbeats 16000000 in
theorem walk7_back {Ev:World→Prop} {RD:List Fd→Int × Ent} {PR:List (List Fd)→ByteArray} (C:Con7 Ev RD PR) (SH:∀w,Ev w→Calls Tryz.prog 9 #[] w fun e w'=>e=.returned (.bool true)∧Below w.heap.size w w')
  (P1:∀l:List Hr,prH PR l≠{ data:=#[] }→paD RD (B (prH PR l))=(l,0,0))
  (P2:∀t:List Nat,t.length≤6000→(paD RD t).2.2=0→(paD RD t).2.1=0∧rightH (paD RD t).1=true∧paD RD (B (prH PR (paD RD t).1))=((paD RD t).1,0,0))
  (P3:∀t:List Nat,(paD RD t).2.2≠0→(paD RD t).1=[])
  (A:Option Addr) (n c:Nat) (l:List Hr) (s:ByteArray) (w:World) (h:rdHrs w (lt_ w.heap.size) l [.slice A n c]) (E:Ev w) :
  Calls Tryz.prog 6 #[.slice A n c,.string s] w fun e w'=>e=.returned (.bool true)∧Below w.heap.size w w':=by
 obtain ⟨rfl,hnc0,hcm0,-⟩:=rdHrs_at h
 have hcm':c≤9223372036854775807:=hcm0
 have HC:=Lib.hid C
 have HR:=Lib.hid (fun (W:World) (hb:Below w.heap.size w W)=>rdHrs_good.up (rdHrs_good.below h hb) hb.size)
 have HE:=Lib.hid (fun (W:World) (hb:Below w.heap.size w W)=>C.below E hb)
 have S:=Lib.hid (SH w E)
 have K0:=Lib.hid (fun (W:World) (hb:Below w.heap.size w W)=>small7_any A l.length c l W (HR.out W hb))
 have K1:=Lib.hid (fun (W:World) (hb:Below w.heap.size w W)=>C.print A l.length c l W (HR.out W hb) (HE.out W hb))
 have K2:=Lib.hid (fun (ht:prH PR l≠{ data:=#[] }) (W:World) (hb:Below w.heap.size w W)=>by have:=C.parse (prH PR l) W (HE.out W hb);rw [P1 l ht] at this;exact this)
 have K3:=Lib.hid (fun (W:World) (hb:Below w.heap.size w W)=>C.parse s W (HE.out W hb))
 have Q2:=Lib.hid (fun (hs:s.size≤6000)=>P2 (B s) (by rw [B_len];exact hs))
 have Q3:=Lib.hid (P3 (B s))
 clear C SH P1 P2 P3 h E hnc0 hcm0
 generalize prH PR l=T at *
 generalize hR:paD RD (B s)=R at *
 clear hR
 obtain ⟨a,na,ea⟩:=R
 have eT:=emp7 T
 go_enter Tryz.func6,Tryz.ntmps6
 go_wp2_with fail
 refine S.out.mono ?_
 rintro e w1 ⟨rfl,hb⟩
 have B1:=Lib.hid hb
 clear hb S
 go_wp2_with fail
 refine (K0.out _ B1.out).mono ?_
 rintro e w2 ⟨⟨b1,rfl,-⟩,hb⟩
 have B2:=Lib.hid (bel_in B1.out hb)
 clear hb K0
 cases b1
 ·go_wp2
  go_ret
  exact ⟨rfl,B2.out⟩
 by_cases hs:(6000:Int) < (s.size:Int)
 ·go_wp2
  go_ret
  exact ⟨rfl,B2.out⟩
 have Q2:=Lib.hid (Q2.out (by omega))
 go_wp2_with fail
 refine (K1.out _ B2.out).mono ?_
 rintro e w3 ⟨rfl,hb⟩
 have B3:=Lib.hid (bel_in B2.out hb)
 clear hb K1
 by_cases hT:T={ data:=#[] }
 ·rw [decide_eq_true hT] at eT
  clear hT
  go_wp2_with fail
  refine (K3.out w3 B3.out).mono ?_
  rintro e w6 ⟨⟨A6,n6,c6,rfl,hr6⟩,hb⟩
  have hr6:rdHrs w6 (lt_ w6.heap.size) a [.slice A6 n6 c6]:=hr6
  obtain ⟨hn6,hnc6,hcm6,-⟩:=rdHrs_at hr6
  have hcm6':c6≤9223372036854775807:=hcm6
  have B6:=Lib.hid (bel_in B3.out hb)
  have H6:=Lib.hid hr6
  clear hb hr6 hcm6
  by_cases he:ea≠0
  ·have X:=Lib.hid (Q3.out he)
   have t0:(ea != 0)=true:=by rw [bne_iff_ne];exact he
   have hn0:n6=0:=by rw [hn6,show a=[] from X.out];rfl
   subst hn0
   clear he hn6 hnc6
   go_wp2
   go_ret
   exact ⟨rfl,B6.out⟩
  have X:=Lib.hid (Q2.out (Decidable.not_not.1 he))
  obtain rfl:ea=0:=Decidable.not_not.1 he
  clear he hn6
  have X1:na=0:=X.out.1
  subst X1
  have KP:=Lib.hid (HC.out.print A6 n6 c6 a w6 H6.out (HE.out w6 B6.out))
  go_wp2_with fail
  refine KP.out.mono ?_
  rintro e w7 ⟨rfl,hb⟩
  have B7:=Lib.hid (bel_in B6.out hb)
  have H7:=Lib.hid (rdHrs_good.up (rdHrs_good.below H6.out hb) hb.size)
  clear hb KP
  have KP:=Lib.hid (by have:=HC.out.parse (prH PR a) w7 (HE.out w7 B7.out);rw [show paD RD (B (prH PR a))=(a,0,0) from X.out.2.2] at this;exact this)
  generalize prH PR a=T2 at *
  go_wp2_with fail
  refine KP.out.mono ?_
  rintro e w8 ⟨⟨A8,n8,c8,rfl,hr8⟩,hb⟩
  have B8:=Lib.hid (bel_in B7.out hb)
  have H8:=Lib.hid (rdHrs_good.up (rdHrs_good.below H7.out hb) hb.size)
  have G8:=Lib.hid (show rdHrs w8 (lt_ w8.heap.size) a [.slice A8 n8 c8] from hr8)
  clear hb hr8 KP
  have KR:=Lib.hid (by have:=HC.out.right A6 n6 c6 a w8 H8.out (HE.out w8 B8.out);rw [show rightH a=true from X.out.2.1] at this;exact this)
  go_wp2_with fail
  refine KR.out.mono ?_
  rintro e w9 ⟨rfl,hb⟩
  have B9:=Lib.hid (bel_in B8.out hb)
  have KS:=Lib.hid (by have:=sameAll7_any A6 A8 n6 c6 n8 c8 a a w9 (rdHrs_good.up (rdHrs_good.below H8.out hb) hb.size) (rdHrs_good.up (rdHrs_good.below G8.out hb) hb.size);rw [decide_eq_true rfl] at this;exact this)
  clear hb KR
  go_wp2_with fail
  refine KS.out.mono ?_
  rintro e w10 ⟨rfl,hb⟩
  have B10:=Lib.hid (bel_in B9.out hb)
  clear hb KS
  go_wp2
  go_ret
  exact ⟨rfl,B10.out⟩
 ·rw [decide_eq_false hT] at eT
  have K2:=Lib.hid (K2.out hT w3 B3.out)
  clear hT
  go_wp2_with fail
  refine K2.out.mono ?_
  rintro e w4 ⟨⟨A4,n4,c4,rfl,hr4⟩,hb⟩
  have B4:=Lib.hid (bel_in B3.out hb)
  have KS:=Lib.hid (by have:=sameAll7_any A4 A n4 c4 l.length c l l w4 hr4 (HR.out w4 B4.out);rw [decide_eq_true rfl] at this;exact this)
  clear hb hr4 K2
  go_wp2_with fail
  refine KS.out.mono ?_
  rintro e w5 ⟨rfl,hb⟩
  have B5:=Lib.hid (bel_in B4.out hb)
  clear hb KS
  go_wp2_with fail
  refine (K3.out w5 B5.out).mono ?_
  rintro e w6 ⟨⟨A6,n6,c6,rfl,hr6⟩,hb⟩
  have hr6:rdHrs w6 (lt_ w6.heap.size) a [.slice A6 n6 c6]:=hr6
  obtain ⟨hn6,hnc6,hcm6,-⟩:=rdHrs_at hr6
  have hcm6':c6≤9223372036854775807:=hcm6
  have B6:=Lib.hid (bel_in B5.out hb)
  have H6:=Lib.hid hr6
  clear hb hr6 hcm6
  by_cases he:ea≠0
  ·have X:=Lib.hid (Q3.out he)
   have t0:(ea != 0)=true:=by rw [bne_iff_ne];exact he
   have hn0:n6=0:=by rw [hn6,show a=[] from X.out];rfl
   subst hn0
   clear he hn6 hnc6
   go_wp2
   go_ret
   exact ⟨rfl,B6.out⟩
  have X:=Lib.hid (Q2.out (Decidable.not_not.1 he))
  obtain rfl:ea=0:=Decidable.not_not.1 he
  clear he hn6
  have X1:na=0:=X.out.1
  subst X1
  have KP:=Lib.hid (HC.out.print A6 n6 c6 a w6 H6.out (HE.out w6 B6.out))
  go_wp2_with fail
  refine KP.out.mono ?_
  rintro e w7 ⟨rfl,hb⟩
  have B7:=Lib.hid (bel_in B6.out hb)
  have H7:=Lib.hid (rdHrs_good.up (rdHrs_good.below H6.out hb) hb.size)
  clear hb KP
  have KP:=Lib.hid (by have:=HC.out.parse (prH PR a) w7 (HE.out w7 B7.out);rw [show paD RD (B (prH PR a))=(a,0,0) from X.out.2.2] at this;exact this)
  generalize prH PR a=T2 at *
  go_wp2_with fail
  refine KP.out.mono ?_
  rintro e w8 ⟨⟨A8,n8,c8,rfl,hr8⟩,hb⟩
  have B8:=Lib.hid (bel_in B7.out hb)
  have H8:=Lib.hid (rdHrs_good.up (rdHrs_good.below H7.out hb) hb.size)
  have G8:=Lib.hid (show rdHrs w8 (lt_ w8.heap.size) a [.slice A8 n8 c8] from hr8)
  clear hb hr8 KP
  have KR:=Lib.hid (by have:=HC.out.right A6 n6 c6 a w8 H8.out (HE.out w8 B8.out);rw [show rightH a=true from X.out.2.1] at this;exact this)
  go_wp2_with fail
  refine KR.out.mono ?_
  rintro e w9 ⟨rfl,hb⟩
  have B9:=Lib.hid (bel_in B8.out hb)
  have KS:=Lib.hid (by have:=sameAll7_any A6 A8 n6 c6 n8 c8 a a w9 (rdHrs_good.up (rdHrs_good.below H8.out hb) hb.size) (rdHrs_good.up (rdHrs_good.below G8.out hb) hb.size);rw [decide_eq_true rfl] at this;exact this)
  clear hb KR
  go_wp2_with fail
  refine KS.out.mono ?_
  rintro e w10 ⟨rfl,hb⟩
  have B10:=Lib.hid (bel_in B9.out hb)
  clear hb KS
  go_wp2
  go_ret
  exact ⟨rfl,B10.out⟩
theorem back7 (A:Option Addr) (n c:Nat) (l:List Hr) (s:ByteArray) (w:World) (h:rdHrs w (lt_ w.heap.size) l [.slice A n c]) (E:EnvR w) :
  Calls Tryz.prog 6 #[.slice A n c,.string s] w fun e w'=>e=.returned (.bool true)∧Below w.heap.size w w':=
 walk7_back con7 shown7 (fun l h=>print_back7 h) (fun t hl h=>parse_back7 hl h) (fun t h=>paH_err h) A n c l s w h E
end Go.Proofs.YtboinnjncaehkaaGreatDoor
