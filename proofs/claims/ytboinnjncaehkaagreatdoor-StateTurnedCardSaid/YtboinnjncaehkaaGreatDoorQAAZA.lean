/- What the laws rest on: StbP, P7s, P7t. -/
import Derived.Sort.LotA
import Derived.Test.YtboinnjncaehkaaGreatDoorProg
import Derived.Shelf.SlSortCmp.KitK
import Derived.Sort.WalkB2
import Derived.Sort.WalkB12
import Derived.Deep.LoopGhost
import Derived.Laws.BitsLemmas
set_option maxRecDepth 100000
set_option linter.unusedVariables false
set_option linter.unusedSimpArgs false
namespace Go.Proofs.YtboinnjncaehkaaGreatDoor
open Go.Sort
section
variable {α:Type} [Inhabited α] (lt:α→α→Bool)
def eqvB (z x:α):Bool:=!lt z x&&!lt x z
def Flt (A B:List α):Prop:=∀z,A.filter (eqvB lt z)=B.filter (eqvB lt z)
def Srt (L:List α):Prop:=L.Pairwise fun x y=>lt y x=false
variable {lt}
omit [Inhabited α] in
theorem Flt.refl (A:List α):Flt lt A A:=fun _=>rfl
omit [Inhabited α] in
theorem Flt.symm {A B:List α} (h:Flt lt A B):Flt lt B A:=fun z=>(h z).symm
omit [Inhabited α] in
theorem Flt.trans {A B C:List α} (h:Flt lt A B) (k:Flt lt B C):Flt lt A C:=fun z=>(h z).trans (k z)
omit [Inhabited α] in
theorem Flt.app {A B A' B':List α} (h:Flt lt A A') (k:Flt lt B B'):Flt lt (A++B) (A'++B'):=fun z=>by rw [List.filter_append,List.filter_append,h z,k z]
omit [Inhabited α] in
theorem Flt.left {A B C:List α} (h:Flt lt (C++A) (C++B)):Flt lt A B:=fun z=>by
 have:=h z
 rw [List.filter_append,List.filter_append] at this
 exact List.append_cancel_left this
omit [Inhabited α] in
theorem Flt.right {A B C:List α} (h:Flt lt (A++C) (B++C)):Flt lt A B:=fun z=>by
 have:=h z
 rw [List.filter_append,List.filter_append] at this
 exact List.append_cancel_right this
omit [Inhabited α] in
theorem Flt.mem (hO:SWO lt) {A B:List α} (h:Flt lt A B) {x:α}:x ∈ A→x ∈ B:=fun hx=>by
 have q:x ∈ A.filter (eqvB lt x):=List.mem_filter.2 ⟨hx,by unfold eqvB;rw [hO.irrefl];rfl⟩
 rw [h x] at q
 exact (List.mem_filter.1 q).1
omit [Inhabited α] in
theorem flt_comm (hO:SWO lt) {A B:List α} (h:∀x ∈ A,∀y ∈ B,lt y x=true):Flt lt (B++A) (A++B):=fun z=>by
 rw [List.filter_append,List.filter_append]
 by_cases hA:A.filter (eqvB lt z)=[]
 ·rw [hA];simp
 ·have hB:B.filter (eqvB lt z)=[]:=by
   refine List.filter_eq_nil_iff.2 fun y hy e=>?_
   obtain ⟨x,hx⟩:=List.exists_mem_of_ne_nil _ hA
   obtain ⟨hx,ex⟩:=List.mem_filter.1 hx
   unfold eqvB at e ex
   simp only [Bool.and_eq_true,Bool.not_eq_true'] at e ex
   have:=hO.ntrans y z x e.2 ex.1
   rw [h x hx y hy] at this
   cases this
  rw [hB];simp
theorem ele7 {d:Array α} {P Q:List α} {x:α} (h:d=(P++x::Q).toArray) {i:Nat} (hi:i=P.length):d[i]! = x:=by
 subst h hi
 simp
theorem swp_list (P M Q:List α) (x y:α) {i j:Nat} (hi:i=P.length) (hj:j=P.length+1+M.length):swp (P++x::(M++y::Q)).toArray i j=(P++y::(M++x::Q)).toArray:=by
 unfold swp
 rw [ele7 (P:=P) (Q:=M++y::Q) (x:=x) rfl hi,ele7 (P:=P++x::M) (Q:=Q) (x:=y) (by simp) (by simp;omega)]
 subst hi hj
 simp only [List.setIfInBounds_toArray,List.toArray_inj]
 rw [List.set_append_right _ _ (Nat.le_refl _),Nat.sub_self,List.set_cons_zero,List.set_append_right _ _ (by omega),show P.length+1+M.length - P.length=M.length+1 by omega,List.set_cons_succ,List.set_append_right _ _ (Nat.le_refl _),Nat.sub_self,List.set_cons_zero]
theorem swp_list' (P M Q:List α) (x y:α) {i j:Nat} (hi:i=P.length) (hj:j=P.length+1+M.length):swp (P++x::(M++y::Q)).toArray j i=(P++y::(M++x::Q)).toArray:=by
 unfold swp
 rw [ele7 (P:=P) (Q:=M++y::Q) (x:=x) rfl hi,ele7 (P:=P++x::M) (Q:=Q) (x:=y) (by simp) (by simp;omega)]
 subst hi hj
 simp only [List.setIfInBounds_toArray,List.toArray_inj]
 rw [List.set_append_right _ _ (by omega),show P.length+1+M.length - P.length=M.length+1 by omega,List.set_cons_succ,List.set_append_right _ _ (Nat.le_refl _),Nat.sub_self,List.set_cons_zero,List.set_append_right _ _ (Nat.le_refl _),Nat.sub_self,List.set_cons_zero]
theorem cut_two (d:Array α) (j:Nat) (h:j+1 < d.size):∃P Q,P.length=j∧d=(P++d[j]! ::(d[j+1]! ::Q)).toArray:=by
 refine ⟨d.toList.take j,d.toList.drop (j+2),by simp;omega,?_⟩
 apply Array.toList_inj.1
 rw [List.toList_toArray,getElem!_pos d j (by omega),getElem!_pos d (j+1) (by omega)]
 conv=>lhs;rw [←List.take_append_drop j d.toList]
 rw [List.drop_eq_getElem_cons (by simp;omega),List.drop_eq_getElem_cons (by simp;omega)]
 simp
theorem insInner_flt (hO:SWO lt) (a:Nat):∀(j:Nat) (d:Array α),j < d.size→Flt lt (insInner lt a j d).toList d.toList∧(insInner lt a j d).size=d.size
 | 0,d,_=>⟨by rw [insInner];exact Flt.refl _,by rw [insInner]⟩
 | j+1,d,h=>by
  rw [insInner]
  split
  ·rename_i hl
   obtain ⟨P,Q,hP,hd⟩:=cut_two d j h
   rw [Bool.and_eq_true] at hl
   have hl2:=hl.2
   generalize d[j]! = x at hd hl2
   generalize d[j+1]! = y at hd hl2
   subst hd
   have e:=swp_list' P [] Q x y (i:=j) (j:=j+1) hP.symm (by simp [hP])
   simp only [List.nil_append] at e
   rw [e]
   have ih:=insInner_flt hO a j (P++y::(x::Q)).toArray (by simp;omega)
   refine ⟨ih.1.trans ?_,ih.2.trans (by simp)⟩
   show Flt lt (P++([y]++[x]++Q)) (P++([x]++[y]++Q))
   exact (Flt.refl P).app ((flt_comm hO (A:=[x]) (B:=[y]) (by simp [hl2])).app (Flt.refl Q))
  ·exact ⟨Flt.refl _,rfl⟩
theorem insOuter_flt (hO:SWO lt) (a b:Nat):∀(i:Nat) (d:Array α),b≤d.size→Flt lt (insOuter lt a b i d).toList d.toList∧(insOuter lt a b i d).size=d.size:=by
 intro i d h
 rw [insOuter]
 split
 ·rename_i hi
  have h1:=insInner_flt hO a i d (by omega)
  have ih:=insOuter_flt hO a b (i+1) (insInner lt a i d) (by rw [h1.2];exact h)
  exact ⟨ih.1.trans h1.1,ih.2.trans h1.2⟩
 ·exact ⟨Flt.refl _,rfl⟩
termination_by i=>b - i
theorem ins_list (hO:SWO lt) (P X Q:List α) {a b:Nat} (ha:a=P.length) (hb:b=P.length+X.length):∃S,insertionSort lt (P++(X++Q)).toArray a b=(P++(S++Q)).toArray∧S.length=X.length∧Srt lt S∧Flt lt S X:=by
 have hp:=insertionSort_holds (lt:=lt) hO (P++(X++Q)).toArray a b (by omega) (by simp;omega)
 have hf:=insOuter_flt hO a b (a+1) (P++(X++Q)).toArray (by simp;omega)
 have he:insOuter lt a b (a+1) (P++(X++Q)).toArray=insertionSort lt (P++(X++Q)).toArray a b:=rfl
 rw [he] at hf
 obtain ⟨⟨hs,hout,-⟩,hsort⟩:=hp
 generalize insertionSort lt (P++(X++Q)).toArray a b=e at hs hout hsort hf
 have hsz:e.size=P.length+(X.length+Q.length):=by rw [hs];simp
 have hlen:e.toList.length=P.length+(X.length+Q.length):=by rw [Array.length_toList];exact hsz
 have hget:∀i (hi:i < e.toList.length),e.toList[i]=e[i]! :=fun i hi=>by rw [getElem!_pos e i (by rw [←Array.length_toList];exact hi)];simp
 have e1:e.toList.take a=P:=by
  refine List.ext_getElem (by rw [List.length_take];omega) fun i h1 h2=>?_
  rw [List.getElem_take,hget,hout i (.inl (by omega)),getElem!_pos _ i (by simp;omega)]
  simp [List.getElem_append_left h2]
 have e3:e.toList.drop b=Q:=by
  refine List.ext_getElem (by rw [List.length_drop];omega) fun i h1 h2=>?_
  rw [List.getElem_drop,hget,hout (b+i) (.inr (by omega)),getElem!_pos _ (b+i) (by simp;omega)]
  simp only [List.getElem_toArray]
  rw [List.getElem_append_right (by omega),List.getElem_append_right (by omega)]
  congr 1;omega
 have hcut:e.toList=P++((e.toList.drop a).take X.length++Q):=by
  have h2:(e.toList.drop a).drop X.length=Q:=by rw [List.drop_drop,←e3];congr 1;omega
  have h3:=List.take_append_drop X.length (e.toList.drop a)
  rw [h2] at h3
  rw [h3,←e1,List.take_append_drop]
 refine ⟨(e.toList.drop a).take X.length,by apply Array.toList_inj.1;rw [List.toList_toArray];exact hcut,by rw [List.length_take,List.length_drop];omega,?_,?_⟩
 ·refine List.pairwise_iff_getElem.2 fun i j hi hj hij=>?_
  rw [List.length_take,List.length_drop] at hi hj
  rw [List.getElem_take,List.getElem_take,List.getElem_drop,List.getElem_drop,hget,hget]
  exact hsort (a+i) (a+j) (by omega) (by omega) (by omega)
 ·have h:=hf.1
  rw [hcut,List.toList_toArray] at h
  exact h.left.right
omit [Inhabited α] in
theorem srt_app {A B:List α}:Srt lt (A++B)↔Srt lt A∧Srt lt B∧∀x ∈ A,∀y ∈ B,lt y x=false:=List.pairwise_append
theorem get_in {d:Array α} {P R Q:List α} (h:d=(P++(R++Q)).toArray) {i t:Nat} (hi:i=P.length+t) (ht:t < R.length):d[i]! = R[t]:=by
 subst h hi
 rw [getElem!_pos _ _ (by simp;omega),List.getElem_toArray,List.getElem_append_right (by omega),List.getElem_append_left (by omega)]
 congr 1;omega
omit [Inhabited α] in
theorem srt_low (hO:SWO lt) {L:List α} (h:Srt lt L) {t:Nat} {y:α} (ht:t < L.length) (hy:lt L[t] y=true):∀x ∈ L.take (t+1),lt x y=true:=by
 intro x hx
 obtain ⟨j,hj,rfl⟩:=List.getElem_of_mem hx
 rw [List.length_take] at hj
 rw [List.getElem_take]
 by_cases e:j=t
 ·subst e;exact hy
 ·have q:=List.pairwise_iff_getElem.1 h j t (by omega) ht (by omega)
  cases hc:lt L[j] y with
  | true=>rfl
  | false=>rw [hO.ntrans _ _ _ q hc] at hy;cases hy
omit [Inhabited α] in
theorem srt_high (hO:SWO lt) {L:List α} (h:Srt lt L) {t:Nat} {y:α} (ht:t < L.length) (hy:lt L[t] y=false):∀x ∈ L.drop t,lt x y=false:=by
 intro x hx
 obtain ⟨j,hj,rfl⟩:=List.getElem_of_mem hx
 rw [List.length_drop] at hj
 rw [List.getElem_drop]
 by_cases e:j=0
 ·subst e;exact hy
 ·exact hO.ntrans _ _ _ (List.pairwise_iff_getElem.1 h t (t+j) ht (by omega) (by omega)) hy
omit [Inhabited α] in
theorem srt_le (hO:SWO lt) {L:List α} (h:Srt lt L) {t:Nat} {y:α} (ht:t < L.length) (hy:lt y L[t]=false):∀x ∈ L.take (t+1),lt y x=false:=by
 intro x hx
 obtain ⟨j,hj,rfl⟩:=List.getElem_of_mem hx
 rw [List.length_take] at hj
 rw [List.getElem_take]
 by_cases e:j=t
 ·subst e;exact hy
 ·exact hO.ntrans _ _ _ hy (List.pairwise_iff_getElem.1 h j t (by omega) ht (by omega))
omit [Inhabited α] in
theorem srt_gt (hO:SWO lt) {L:List α} (h:Srt lt L) {t:Nat} {y:α} (ht:t < L.length) (hy:lt y L[t]=true):∀x ∈ L.drop t,lt y x=true:=by
 intro x hx
 obtain ⟨j,hj,rfl⟩:=List.getElem_of_mem hx
 rw [List.length_drop] at hj
 rw [List.getElem_drop]
 by_cases e:j=0
 ·subst e;exact hy
 ·have q:=List.pairwise_iff_getElem.1 h t (t+j) ht (by omega) (by omega)
  cases hc:lt y L[t+j] with
  | true=>rfl
  | false=>rw [hO.ntrans _ _ _ hc q] at hy;cases hy
omit [Inhabited α] in
theorem asym (hO:SWO lt) {x y:α} (h:lt x y=true):lt y x=false:=by
 cases hc:lt y x with
 | false=>rfl
 | true=>have:=hO.trans _ _ _ h hc;rw [hO.irrefl] at this;cases this
theorem one_left (hO:SWO lt) {d:Array α} {P R Q:List α} {x:α} (hd:d=(P++(x::(R++Q))).toArray) {a m b i:Nat} (ha:a=P.length) (hm:m=a+1) (hb:b=m+R.length) (hi:m≤i) (hib:i≤b)
  (h1:i=m∨lt d[i - 1]! d[a]! = true) (h2:i=b∨lt d[i]! d[a]! = false) (hR:Srt lt R) :
  Srt lt (R.take (i - m)++x::R.drop (i - m))∧Flt lt (R.take (i - m)++x::R.drop (i - m)) (x::R):=by
 have hd2:d=(P++[x]++(R++Q)).toArray:=by rw [hd];simp
 rw [ele7 hd ha] at h1 h2
 have k1:∀y ∈ R.take (i - m),lt y x=true:=by
  rcases h1 with h1|h1
  ·subst h1;simp
  ·by_cases e:i=m
   ·subst e;simp
   ·rw [get_in hd2 (t:=i - m - 1) (by simp;omega) (by omega)] at h1
    have:=srt_low hO hR (by omega) h1
    rwa [show i - m - 1+1=i - m by omega] at this
 have k2:∀y ∈ R.drop (i - m),lt y x=false:=by
  rcases h2 with h2|h2
  ·rw [List.drop_of_length_le (by omega)];simp
  ·by_cases e:i=b
   ·rw [List.drop_of_length_le (by omega)];simp
   ·rw [get_in hd2 (t:=i - m) (by simp;omega) (by omega)] at h2
    exact srt_high hO hR (by omega) h2
 have hs:=List.take_append_drop (i - m) R
 have hR':Srt lt (R.take (i - m)++R.drop (i - m)):=by rw [hs];exact hR
 generalize R.take (i - m)=A at *
 generalize R.drop (i - m)=B at *
 obtain ⟨r1,r2,r3⟩:=srt_app.1 hR'
 refine ⟨srt_app.2 ⟨r1,List.Pairwise.cons k2 r2,fun u hu v hv=>?_⟩,?_⟩
 ·rcases List.mem_cons.1 hv with rfl|hv
  ·exact asym hO (k1 u hu)
  ·exact r3 u hu v hv
 ·subst hs
  show Flt lt (A++([x]++B)) ([x]++(A++B))
  rw [←List.append_assoc,←List.append_assoc]
  exact (flt_comm hO (A:=[x]) (B:=A) (by simpa using k1)).app (Flt.refl B)
theorem one_right (hO:SWO lt) {d:Array α} {P L Q:List α} {y:α} (hd:d=(P++(L++(y::Q))).toArray) {a m i:Nat} (ha:a=P.length) (hm:m=a+L.length) (hi:a≤i) (hib:i≤m)
  (h1:i=a∨lt d[m]! d[i - 1]! = false) (h2:i=m∨lt d[m]! d[i]! = true) (hL:Srt lt L) :
  Srt lt (L.take (i - a)++y::L.drop (i - a))∧Flt lt (L.take (i - a)++y::L.drop (i - a)) (L++[y]):=by
 rw [ele7 (P:=P++L) (x:=y) (Q:=Q) (by rw [hd];simp) (by simp;omega)] at h1 h2
 have k1:∀x ∈ L.take (i - a),lt y x=false:=by
  rcases h1 with h1|h1
  ·subst h1;simp
  ·by_cases e:i=a
   ·subst e;simp
   ·rw [get_in hd (t:=i - a - 1) (by omega) (by omega)] at h1
    have:=srt_le hO hL (by omega) h1
    rwa [show i - a - 1+1=i - a by omega] at this
 have k2:∀x ∈ L.drop (i - a),lt y x=true:=by
  rcases h2 with h2|h2
  ·rw [List.drop_of_length_le (by omega)];simp
  ·by_cases e:i=m
   ·rw [List.drop_of_length_le (by omega)];simp
   ·rw [get_in hd (t:=i - a) (by omega) (by omega)] at h2
    exact srt_gt hO hL (by omega) h2
 have hs:=List.take_append_drop (i - a) L
 have hL':Srt lt (L.take (i - a)++L.drop (i - a)):=by rw [hs];exact hL
 generalize L.take (i - a)=A at *
 generalize L.drop (i - a)=B at *
 obtain ⟨r1,r2,r3⟩:=srt_app.1 hL'
 refine ⟨srt_app.2 ⟨r1,List.Pairwise.cons (fun x hx=>asym hO (k2 x hx)) r2,fun u hu v hv=>?_⟩,?_⟩
 ·rcases List.mem_cons.1 hv with rfl|hv
  ·exact k1 u hu
  ·exact r3 u hu v hv
 ·subst hs
  rw [List.append_assoc]
  show Flt lt (A++([y]++B)) (A++(B++[y]))
  exact (Flt.refl A).app (flt_comm hO (A:=B) (B:=[y]) (by simpa using k2))
theorem adv_one {P R Q:List α} {x:α} {t i:Nat} (ht:t < R.length) (hi:i=P.length+t):swp (P++(R.take t++x::(R.drop t++Q))).toArray i (i+1)=(P++(R.take (t+1)++x::(R.drop (t+1)++Q))).toArray:=by
 have e:=swp_list (P++R.take t) [] (R.drop (t+1)++Q) x R[t] (i:=i) (j:=i+1) (by simp;omega) (by simp;omega)
 rw [List.drop_eq_getElem_cons ht,List.take_succ_eq_append_getElem ht]
 simp only [List.nil_append,List.append_assoc,List.cons_append] at e ⊢
 exact e
theorem ret_one {P L Q:List α} {y:α} {t i:Nat} (ht:t < L.length) (hi:i=P.length+t):swp (P++(L.take (t+1)++y::(L.drop (t+1)++Q))).toArray (i+1) i=(P++(L.take t++y::(L.drop t++Q))).toArray:=by
 have e:=swp_list' (P++L.take t) [] (L.drop (t+1)++Q) L[t] y (i:=i) (j:=i+1) (by simp;omega) (by simp;omega)
 rw [List.drop_eq_getElem_cons ht,List.take_succ_eq_append_getElem ht]
 simp only [List.nil_append,List.append_assoc,List.cons_append] at e ⊢
 exact e
def rng (P X M Y Q:List α) (s:Nat):List α:=P++((Y.take s++X.drop s)++(M++((X.take s++Y.drop s)++Q)))
omit [Inhabited α] in
theorem rng_zero (P X M Y Q:List α):rng P X M Y Q 0=P++(X++(M++(Y++Q))):=by simp [rng]
omit [Inhabited α] in
theorem rng_all (P X M Y Q:List α) (h:X.length=Y.length):rng P X M Y Q X.length=P++(Y++(M++(X++Q))):=by
 unfold rng
 rw [List.take_of_length_le (by omega),List.drop_of_length_le (by omega),List.take_of_length_le (by omega),List.drop_of_length_le (by omega)];simp
theorem rng_step (P X M Y Q:List α) (h:X.length=Y.length) {s i j:Nat} (hs:s < X.length) (hi:i=P.length+s) (hj:j=P.length+X.length+M.length+s):swp (rng P X M Y Q s).toArray i j=(rng P X M Y Q (s+1)).toArray:=by
 have e:=swp_list (P++Y.take s) (X.drop (s+1)++(M++X.take s)) (Y.drop (s+1)++Q) X[s] Y[s] (i:=i) (j:=j) (by simp;omega) (by simp;omega)
 unfold rng
 rw [List.drop_eq_getElem_cons hs,List.drop_eq_getElem_cons (show s < Y.length by omega),List.take_succ_eq_append_getElem hs,List.take_succ_eq_append_getElem (show s < Y.length by omega)]
 simp only [List.append_assoc,List.cons_append,List.nil_append] at e ⊢
 exact e
omit [Inhabited α] in
theorem sym_bounds (hO:SWO lt) {L R:List α} (hL:Srt lt L) (hR:Srt lt R) {s e:Nat} (hs:s≤L.length) (he:e≤R.length)
  (c1:∀(h1:0 < s) (h2:e < R.length),lt R[e] L[s - 1]=false) (c2:∀(h1:s < L.length) (h2:0 < e),lt R[e - 1] L[s]=true) :
  (∀x ∈ L.take s,∀y ∈ R.drop e,lt y x=false)∧∀x ∈ L.drop s,∀y ∈ R.take e,lt y x=true:=by
 constructor
 ·intro x hx y hy
  have h1:0 < s:=by rcases Nat.eq_zero_or_pos s with h|h;subst h;simp at hx;exact h
  have h2:e < R.length:=by rcases Nat.lt_or_ge e R.length with h|h;exact h;rw [List.drop_of_length_le h] at hy;simp at hy
  have q:=srt_high hO hR h2 (c1 h1 h2) y hy
  have q2:=srt_le hO hL (t:=s - 1) (by omega) q x
  rw [show s - 1+1=s by omega] at q2
  exact q2 hx
 ·intro x hx y hy
  have h2:0 < e:=by rcases Nat.eq_zero_or_pos e with h|h;subst h;simp at hy;exact h
  have h1:s < L.length:=by rcases Nat.lt_or_ge s L.length with h|h;exact h;rw [List.drop_of_length_le h] at hx;simp at hx
  have q:=srt_gt hO hL h1 (c2 h1 h2) x hx
  have q2:=srt_low hO hR (t:=e - 1) (by omega) q y
  rw [show e - 1+1=e by omega] at q2
  exact q2 hy
omit [Inhabited α] in
theorem sym_fin (hO:SWO lt) {L1 L2 R1 R2 S1 S2:List α} (hL:Srt lt (L1++L2)) (hR:Srt lt (R1++R2)) (c1:∀x ∈ L1,∀y ∈ R2,lt y x=false) (c2:∀x ∈ L2,∀y ∈ R1,lt y x=true)
  (h1:Srt lt S1) (f1:Flt lt S1 (L1++R1)) (h2:Srt lt S2) (f2:Flt lt S2 (L2++R2)):Srt lt (S1++S2)∧Flt lt (S1++S2) ((L1++L2)++(R1++R2)):=by
 obtain ⟨-,-,l3⟩:=srt_app.1 hL
 obtain ⟨-,-,r3⟩:=srt_app.1 hR
 refine ⟨srt_app.2 ⟨h1,h2,fun x hx y hy=>?_⟩,?_⟩
 ·rcases List.mem_append.1 (f1.mem hO hx) with hx|hx<;>rcases List.mem_append.1 (f2.mem hO hy) with hy|hy
  ·exact l3 x hx y hy
  ·exact c1 x hx y hy
  ·exact asym hO (c2 y hy x hx)
  ·exact r3 x hx y hy
 ·refine (f1.app f2).trans ?_
  rw [List.append_assoc,List.append_assoc]
  refine (Flt.refl L1).app ?_
  rw [←List.append_assoc,←List.append_assoc]
  exact (flt_comm hO c2).app (Flt.refl R2)
def Ful7 (lt:α→α→Bool) (s:Nat) (D:List α):Prop:=∃Ls:List (List α),D=Ls.flatten∧∀X ∈ Ls,X.length=s∧Srt lt X
def Chk (lt:α→α→Bool) (s:Nat) (L:List α):Prop:=∃D X,L=D++X∧Ful7 lt s D∧Srt lt X∧X.length < s
omit [Inhabited α] in
theorem Ful7.nil (s:Nat):Ful7 lt s []:=⟨[],rfl,by simp⟩
omit [Inhabited α] in
theorem Ful7.more {s:Nat} {D X:List α} (h:Ful7 lt s D) (hX:X.length=s) (hs:Srt lt X):Ful7 lt s (D++X):=by
 obtain ⟨Ls,rfl,h⟩:=h
 refine ⟨Ls++[X],by simp,fun Y hY=>?_⟩
 rcases List.mem_append.1 hY with hY|hY
 ·exact h Y hY
 ·rw [List.mem_singleton.1 hY];exact ⟨hX,hs⟩
omit [Inhabited α] in
theorem Chk.two {s:Nat} {T:List α} (h:Chk lt s T) (hT:2*s≤T.length):∃X1 X2 T',T=(X1++X2)++T'∧X1.length=s∧X2.length=s∧Srt lt X1∧Srt lt X2∧Chk lt s T':=by
 obtain ⟨D,X,rfl,⟨Ls,rfl,h⟩,hX,hl⟩:=h
 rcases Ls with _|⟨X1,_|⟨X2,Ls⟩⟩
 ·simp at hT;omega
 ·have:=(h X1 (by simp)).1
  simp [this] at hT;omega
 ·exact ⟨X1,X2,Ls.flatten++X,by simp,(h X1 (by simp)).1,(h X2 (by simp)).1,(h X1 (by simp)).2,(h X2 (by simp)).2,_,_,rfl,⟨Ls,rfl,fun Y hY=>h Y (by simp [hY])⟩,hX,hl⟩
omit [Inhabited α] in
theorem Chk.few {s:Nat} {T:List α} (h:Chk lt s T) (hT:T.length < 2*s):(∃X1 X,T=X1++X∧X1.length=s∧X.length < s∧Srt lt X1∧Srt lt X)∨(T.length < s∧Srt lt T):=by
 obtain ⟨D,X,rfl,⟨Ls,rfl,h⟩,hX,hl⟩:=h
 rcases Ls with _|⟨X1,_|⟨X2,Ls⟩⟩
 ·exact .inr ⟨by simpa using hl,by simpa using hX⟩
 ·exact .inl ⟨X1,X,by simp,(h X1 (by simp)).1,hl,(h X1 (by simp)).2,hX⟩
 ·have h1:=(h X1 (by simp)).1
  have h2:=(h X2 (by simp)).1
  simp [h1,h2] at hT;omega
omit [Inhabited α] in
theorem Chk.done {s:Nat} {L:List α} (h:Chk lt s L) (hs:L.length≤s):Srt lt L:=by
 rcases Nat.eq_zero_or_pos s with rfl|h0
 ·obtain rfl:L=[]:=List.eq_nil_of_length_eq_zero (by omega)
  exact List.Pairwise.nil
 ·rcases h.few (by omega) with ⟨X1,X,rfl,h1,h2,h3,h4⟩|⟨-,h⟩
  ·obtain rfl:X=[]:=List.eq_nil_of_length_eq_zero (by simp at hs;omega)
   rwa [List.append_nil]
  ·exact h
end
end Go.Proofs.YtboinnjncaehkaaGreatDoor
namespace Go.Proofs.YtboinnjncaehkaaGreatDoor
open Go.RowKit Go.Sort Go.Lib
structure SS (P:Program) (k:Nat):Prop where
 mixed:P.follows .mixedOrders=true
 fsw:P.funcs[264]?=some Tryz.f264
 fro:P.funcs[246]?=some Tryz.f246
 fsy:P.funcs[221]?=some Tryz.f221
 fst:P.funcs[193]?=some Tryz.f193
 fss:P.funcs[151]?=some Tryz.f151
 t0:P.underlying 0=some (TypeDesc.tuple #[])
 a0:∀w,(isAgg 0).run P w=.ok false w
 z0:∀w,(Go.sizeOf 0).run P w=.ok 1 w
 v0:∀w,(zeroValue 0).run P w=.ok (Value.tuple #[]) w
 t3:P.underlying 3=some (TypeDesc.int IntKind.i64)
 a3:∀w,(isAgg 3).run P w=.ok false w
 z3:∀w,(Go.sizeOf 3).run P w=.ok 1 w
 v3:∀w,(zeroValue 3).run P w=.ok (Value.int IntKind.i64 0) w
 t4:P.underlying 4=some (TypeDesc.bool)
 a4:∀w,(isAgg 4).run P w=.ok false w
 z4:∀w,(Go.sizeOf 4).run P w=.ok 1 w
 v4:∀w,(zeroValue 4).run P w=.ok (Value.bool false) w
 t23:P.underlying 23=some (TypeDesc.slice 36)
 a23:∀w,(isAgg 23).run P w=.ok false w
 z23:∀w,(Go.sizeOf 23).run P w=.ok 1 w
 v23:∀w,(zeroValue 23).run P w=.ok (Value.slice none 0 0) w
 t62:P.underlying 62=some (TypeDesc.func #[36,36] #[3] false)
 a62:∀w,(isAgg 62).run P w=.ok false w
 z62:∀w,(Go.sizeOf 62).run P w=.ok 1 w
 v62:∀w,(zeroValue 62).run P w=.ok (Value.nilFunc) w
 t97:P.underlying 97=some (TypeDesc.int IntKind.u64)
 a97:∀w,(isAgg 97).run P w=.ok false w
 z97:∀w,(Go.sizeOf 97).run P w=.ok 1 w
 v97:∀w,(zeroValue 97).run P w=.ok (Value.int IntKind.u64 0) w
 aE:∀w,(isAgg 36).run P w=.ok true w
 zE:∀w,(Go.sizeOf 36).run P w=.ok k w
theorem ss_prog:SS Tryz.prog 8 where
 mixed:=by kernel_rfl
 fsw:=Tryz.func264
 fro:=Tryz.func246
 fsy:=Tryz.func221
 fst:=Tryz.func193
 fss:=Tryz.func151
 t0:=Tryz.underlying0
 a0:=Tryz.isAgg0
 z0:=Tryz.sizeOf0
 v0:=Tryz.zeroValue0
 t3:=Tryz.underlying3
 a3:=Tryz.isAgg3
 z3:=Tryz.sizeOf3
 v3:=Tryz.zeroValue3
 t4:=Tryz.underlying4
 a4:=Tryz.isAgg4
 z4:=Tryz.sizeOf4
 v4:=Tryz.zeroValue4
 t23:=Tryz.underlying23
 a23:=Tryz.isAgg23
 z23:=Tryz.sizeOf23
 v23:=Tryz.zeroValue23
 t62:=Tryz.underlying62
 a62:=Tryz.isAgg62
 z62:=Tryz.sizeOf62
 v62:=Tryz.zeroValue62
 t97:=Tryz.underlying97
 a97:=Tryz.isAgg97
 z97:=Tryz.sizeOf97
 v97:=Tryz.zeroValue97
 aE:=Tryz.isAgg36
 zE:=Tryz.sizeOf36
variable {P:Program} {α:Type} [Inhabited α] {k:Nat}
set_option maxHeartbeats 4000000 in
theorem swr_fam (L:SS P k) (enc:α→List Value) (g:Nat) (cb:Array Value) (blk off cap a b n N:Nat) (d0:Array α) (w0 w:World) (D:Nat→Array α) (hD:∀s,s < n→swp (D s) (a+s) (b+s)=D (s+1)) (hs:∀s,(D s).size=N) (h0:d0.size=N)
  (R:RowK enc k w0 blk off d0) (S:SWK enc k w0 blk off (D 0) w) (ha:a+n≤N) (hb:b+n≤N) (hsz:N < 4611686018427387904) :
  Calls P 264 #[.slice (some ⟨blk,off,none⟩) N cap,.int .i64 a,.int .i64 b,.int .i64 n,.func (.func g) #[] cb] w fun e w'=>e=.returned (.tuple #[])∧SWK enc k w0 blk off (D n) w':=by
 have mixed:=L.mixed
 have t0:=L.t0;have a0:=L.a0;have z0:=L.z0;have v0:=L.v0
 have t3:=L.t3;have a3:=L.a3;have z3:=L.z3;have v3:=L.v3
 have t4:=L.t4;have a4:=L.a4;have z4:=L.z4;have v4:=L.v4
 have t23:=L.t23;have a23:=L.a23;have z23:=L.z23;have v23:=L.v23
 have t62:=L.t62;have a62:=L.a62;have z62:=L.z62;have v62:=L.v62
 have t97:=L.t97;have a97:=L.a97;have z97:=L.z97;have v97:=L.v97
 have aE:=L.aE;have zE:=L.zE
 have S0:Aside (SWK enc k w0 blk off (D 0) w):=S
 have HD:Aside _:=hD
 clear S hD
 go_enter L.fsw,Tryz.ntmps264
 go_wp2
 go_loopg [10] n (fun kx s10 wr=>∃s:Nat,s10=.int .i64 s∧s≤n∧n - s≤kx∧Aside (SWK enc k w0 blk off (D s) wr))
 case atStart=>exact ⟨0,rfl,Nat.zero_le _,Nat.le_refl _,S0⟩
 case round=>
  clear S0
  obtain ⟨s,rfl,hsn,hkx,S1⟩:=hrel
  by_cases hlt:s < n
  ·have hltz:(s:Int) < (n:Int):=by omega
   have hNX:Aside _:=HD.out s hlt
   have hsz1:=hs s
   generalize hdk:D s=dk at S1 hNX hsz1
   have HK:Aside _:=hdk
   clear hdk
   have ea1:((a:Int)+(s:Int)).toNat=a+s:=by omega
   have pa1:(0:Int)≤(a:Int)+(s:Int):=by omega
   have ba1:(a:Int)+(s:Int) < (N:Int):=by omega
   have ra1:IntKind.i64.wrap ((a:Int)+(s:Int))=(a:Int)+(s:Int):=by rw [IntKind.wrap_i64];omega
   have ec1:((b:Int)+(s:Int)).toNat=b+s:=by omega
   have pc1:(0:Int)≤(b:Int)+(s:Int):=by omega
   have bc1:(b:Int)+(s:Int) < (N:Int):=by omega
   have rc1:IntKind.i64.wrap ((b:Int)+(s:Int))=(b:Int)+(s:Int):=by rw [IntKind.wrap_i64];omega
   have S2:Aside (SWK enc k w0 blk off (swp dk (a+s) (b+s)) ((wr.drew.setCells blk (off+(a+s)*k) (enc dk[b+s]!)).setCells blk (off+(b+s)*k) (enc dk[a+s]!))):=S1.out.swapped R (a+s) (b+s) (by omega) (by omega)
   have l1a:=S1.out.ld1 R (by omega) P (a+s) (by omega)
   have l1b:=S1.out.ld1 R (by omega) P (b+s) (by omega)
   have s1a:=S1.out.st1 R (by omega) P (a+s) (by omega) dk[b+s]!
   have s1b:=S1.out.st2 R (by omega) P (a+s) (b+s) (by omega) (by omega) dk[b+s]! dk[a+s]!
   have n1a:(enc dk[a+s]!).length=k:=R.hk _
   have n1b:(enc dk[b+s]!).length=k:=R.hk _
   generalize enc dk[a+s]! = cI1 at S2 l1a s1b n1a
   generalize enc dk[b+s]! = cJ1 at S2 l1b s1a s1b n1b
   clear S1
   go_wp2_with fail
   go_big_region_o
   clear l1a l1b s1a s1b
   generalize (wr.drew.setCells blk (off+(a+s)*k) cJ1).setCells blk (off+(b+s)*k) cI1=w2 at S2 ⊢
   go_wp2
   go_roundg (n - (s+1))
   case measure=>omega
   case rel=>exact ⟨s+1,by go_num,by omega,Nat.le_refl _,by have q:=S2.out;rw [hNX.out] at q;exact q⟩
  ·obtain rfl:s=n:=by omega
   go_wp2
   go_end0
   exact ⟨rfl,S1.out⟩
theorem swr_list (L:SS P k) (enc:α→List Value) (g:Nat) (cb:Array Value) (blk off cap a b n N:Nat) (d0:Array α) (w0 w:World) (Pl X M Y Q:List α) (hX:X.length=n) (hY:Y.length=n) (ha:a=Pl.length) (hb:b=Pl.length+n+M.length)
  (hN:N=(Pl++(X++(M++(Y++Q)))).length) (h0:d0.size=N) (R:RowK enc k w0 blk off d0) (S:SWK enc k w0 blk off (Pl++(X++(M++(Y++Q)))).toArray w) (hsz:N < 4611686018427387904) :
  Calls P 264 #[.slice (some ⟨blk,off,none⟩) N cap,.int .i64 a,.int .i64 b,.int .i64 n,.func (.func g) #[] cb] w fun e w'=>e=.returned (.tuple #[])∧SWK enc k w0 blk off (Pl++(Y++(M++(X++Q)))).toArray w':=by
 have hl:N=Pl.length+(n+(M.length+(n+Q.length))):=by rw [hN];simp [hX,hY]
 have h:=swr_fam L enc g cb blk off cap a b n N d0 w0 w (fun s=>(rng Pl X M Y Q s).toArray) (fun s hs=>rng_step Pl X M Y Q (by omega) (by omega) (by omega) (by omega))
  (fun s=>by simp only [List.size_toArray];unfold rng;simp only [List.length_append,List.length_take,List.length_drop];omega) h0 R (by rw [rng_zero];exact S) (by omega) (by omega) hsz
 rw [←hX,rng_all Pl X M Y Q (by omega),hX] at h
 exact h
set_option maxHeartbeats 4000000 in
theorem rot_list (L:SS P k) (enc:α→List Value) (g:Nat) (cb:Array Value) (blk off cap a m b N:Nat) (d0:Array α) (w0 w:World) (Pl X Y Q:List α) (ha:a=Pl.length) (hm:m=a+X.length) (hb:b=m+Y.length) (hX:0 < X.length) (hY:0 < Y.length)
  (hN:N=(Pl++(X++(Y++Q))).length) (h0:d0.size=N) (R:RowK enc k w0 blk off d0) (S:SWK enc k w0 blk off (Pl++(X++(Y++Q))).toArray w) (hsz:N < 4611686018427387904) :
  Calls P 246 #[.slice (some ⟨blk,off,none⟩) N cap,.int .i64 a,.int .i64 m,.int .i64 b,.func (.func g) #[] cb] w fun e w'=>e=.returned (.tuple #[])∧SWK enc k w0 blk off (Pl++(Y++(X++Q))).toArray w':=by
 have hl:N=Pl.length+(X.length+(Y.length+Q.length)):=by rw [hN];simp
 have mixed:=L.mixed
 have t0:=L.t0;have a0:=L.a0;have z0:=L.z0;have v0:=L.v0
 have t3:=L.t3;have a3:=L.a3;have z3:=L.z3;have v3:=L.v3
 have t4:=L.t4;have a4:=L.a4;have z4:=L.z4;have v4:=L.v4
 have t23:=L.t23;have a23:=L.a23;have z23:=L.z23;have v23:=L.v23
 have t62:=L.t62;have a62:=L.a62;have z62:=L.z62;have v62:=L.v62
 have t97:=L.t97;have a97:=L.a97;have z97:=L.z97;have v97:=L.v97
 have aE:=L.aE;have zE:=L.zE
 have eS:∀args w,(callFunc 264 args).run P w=.ok (.enter 264 args) w:=enters_of L.fsw (by kernel_rfl) rfl
 obtain ⟨T,hT⟩:∃T,T=Pl++(Y++(X++Q)):=⟨_,rfl⟩
 rw [←hT]
 have ST:Aside (∃(P' X' Y' Q':List α),P'.length+X'.length=m∧X'.length=m - a∧Y'.length=b - m∧T=P'++(Y'++(X'++Q'))∧P'.length+(X'.length+(Y'.length+Q'.length))=N∧SWK enc k w0 blk off (P'++(X'++(Y'++Q'))).toArray w):=⟨Pl,X,Y,Q,by omega,by omega,by omega,hT,by omega,S⟩
 have hw1:a < m:=by omega
 have hw2:m < b:=by omega
 have hw3:b≤N:=by omega
 clear S hT hX hY hN hl ha hm hb
 have r1:((m:Int) - (a:Int))=((m - a:Nat):Int):=by omega
 have r2:((b:Int) - (m:Int))=((b - m:Nat):Int):=by omega
 go_enter L.fro,Tryz.ntmps246
 go_wp2
 go_loopg [10,11] (m - a+(b - m)) (fun kx s10 s11 wr=>∃i j:Nat,s10=.int .i64 i∧s11=.int .i64 j∧0 < i∧0 < j∧i≤m∧m+j≤N∧i+j≤kx∧Aside (∃(P' X' Y' Q':List α),P'.length+X'.length=m∧X'.length=i∧Y'.length=j∧T=P'++(Y'++(X'++Q'))∧P'.length+(X'.length+(Y'.length+Q'.length))=N∧SWK enc k w0 blk off (P'++(X'++(Y'++Q'))).toArray wr))
 case atStart=>exact ⟨m - a,b - m,by first|rfl|(congr 1;omega),by first|rfl|(congr 1;omega),by omega,by omega,by omega,by omega,Nat.le_refl _,ST⟩
 case round=>
  clear ST r1 r2 hw1 hw2 hw3
  obtain ⟨i,j,rfl,rfl,hi,hj,him,hjN,hkx,S1⟩:=hrel
  rcases Nat.lt_trichotomy i j with hij|hij|hij
  ·
   have z1:((i:Int) != (j:Int))=true:=by rw [bne_iff_ne];omega
   have z2:¬((j:Int) < (i:Int)):=by omega
   obtain ⟨P',X',Y',Q',h1,h2,h3,h4,h5,S2⟩:=S1.out
   have e1:((m:Int) - (i:Int))=((m - i:Nat):Int):=by omega
   have e2:((m:Int)+(j:Int) - (i:Int))=((m+j - i:Nat):Int):=by omega
   have e4:IntKind.i64.wrap ((m:Int)+(j:Int))=(m:Int)+(j:Int):=by rw [IntKind.wrap_i64];omega
   have e5:((j:Int) - (i:Int))=((j - i:Nat):Int):=by omega
   have hc:=swr_list L enc g cb blk off cap (m - i) (m+j - i) i N d0 w0 wr P' X' (Y'.take (j - i)) (Y'.drop (j - i)) Q' h2 (by rw [List.length_drop];omega) (by omega) (by rw [List.length_take];omega)
    (by simp only [List.length_append,List.length_take,List.length_drop];omega) h0 R (by have q:=S2;rw [show X'++(Y'++Q')=X'++(Y'.take (j - i)++(Y'.drop (j - i)++Q')) by rw [←List.append_assoc (Y'.take (j - i)),List.take_append_drop]] at q;exact q) hsz
   have NX:Aside (∀w',SWK enc k w0 blk off (P'++(Y'.drop (j - i)++(Y'.take (j - i)++(X'++Q')))).toArray w'→∃(P1 X1 Y1 Q1:List α),P1.length+X1.length=m∧X1.length=i∧Y1.length=j - i∧T=P1++(Y1++(X1++Q1))∧P1.length+(X1.length+(Y1.length+Q1.length))=N∧SWK enc k w0 blk off (P1++(X1++(Y1++Q1))).toArray w'):=fun w' q=>
    ⟨P',Y'.drop (j - i),Y'.take (j - i),X'++Q',by rw [List.length_drop];omega,by rw [List.length_drop];omega,by rw [List.length_take];omega,by rw [h4,←List.append_assoc (Y'.take (j - i)),List.take_append_drop],by simp only [List.length_append,List.length_take,List.length_drop];omega,q⟩
   generalize (P'++(Y'.drop (j - i)++(Y'.take (j - i)++(X'++Q')))).toArray=dn at hc NX
   clear S2 S1 h1 h2 h3 h4 h5
   go_wp2_with (go_at_fn 264;refine hc.mono ?_;rintro e w2 ⟨rfl,q2⟩)
   have N2:Aside _:=NX.out _ q2
   clear q2 hc NX
   go_wp2
   go_roundg (i+(j - i))
   case measure=>omega
   case rel=>exact ⟨i,j - i,rfl,by first|rfl|(congr 1;omega),hi,by omega,him,by omega,Nat.le_refl _,N2⟩
  ·
   subst hij
   have z1:((i:Int) != (i:Int))=false:=by simp
   obtain ⟨P',X',Y',Q',h1,h2,h3,h4,h5,S2⟩:=S1.out
   have e1:((m:Int) - (i:Int))=((m - i:Nat):Int):=by omega
   have hc:=swr_list L enc g cb blk off cap (m - i) m i N d0 w0 wr P' X' [] Y' Q' h2 h3 (by omega) (by simp;omega) (by simp;omega) h0 R S2 hsz
   have NX:Aside (P'++(Y'++([]++(X'++Q')))=T):=by rw [h4];rfl
   generalize (P'++(Y'++([]++(X'++Q'))))=dn at hc NX
   clear S2 S1 h1 h2 h3 h4 h5
   go_wp2_with (go_at_fn 264;refine hc.mono ?_;rintro e w2 ⟨rfl,q2⟩)
   go_end0
   exact ⟨rfl,by rw [←NX.out];exact q2⟩
  ·
   have z1:((i:Int) != (j:Int))=true:=by rw [bne_iff_ne];omega
   have z2:(j:Int) < (i:Int):=by omega
   obtain ⟨P',X',Y',Q',h1,h2,h3,h4,h5,S2⟩:=S1.out
   have e1:((m:Int) - (i:Int))=((m - i:Nat):Int):=by omega
   have e5:((i:Int) - (j:Int))=((i - j:Nat):Int):=by omega
   have hc:=swr_list L enc g cb blk off cap (m - i) m j N d0 w0 wr P' (X'.take j) (X'.drop j) Y' Q' (by rw [List.length_take];omega) h3 (by omega) (by rw [List.length_drop];omega)
    (by simp only [List.length_append,List.length_take,List.length_drop];omega) h0 R (by have q:=S2;rw [show X'++(Y'++Q')=X'.take j++(X'.drop j++(Y'++Q')) by rw [←List.append_assoc (X'.take j),List.take_append_drop]] at q;exact q) hsz
   have NX:Aside (∀w',SWK enc k w0 blk off (P'++(Y'++(X'.drop j++(X'.take j++Q')))).toArray w'→∃(P1 X1 Y1 Q1:List α),P1.length+X1.length=m∧X1.length=i - j∧Y1.length=j∧T=P1++(Y1++(X1++Q1))∧P1.length+(X1.length+(Y1.length+Q1.length))=N∧SWK enc k w0 blk off (P1++(X1++(Y1++Q1))).toArray w'):=fun w' q=>
    ⟨P'++Y',X'.drop j,X'.take j,Q',by rw [List.length_append,List.length_drop];omega,by rw [List.length_drop];omega,by rw [List.length_take];omega,by rw [h4,List.append_assoc,←List.append_assoc (X'.take j),List.take_append_drop],by simp only [List.length_append,List.length_take,List.length_drop];omega,by rw [List.append_assoc];exact q⟩
   generalize (P'++(Y'++(X'.drop j++(X'.take j++Q')))).toArray=dn at hc NX
   clear S2 S1 h1 h2 h3 h4 h5
   go_wp2_with (go_at_fn 264;refine hc.mono ?_;rintro e w2 ⟨rfl,q2⟩)
   have N2:Aside _:=NX.out _ q2
   clear q2 hc NX
   go_wp2
   go_roundg (i - j+j)
   case measure=>omega
   case rel=>exact ⟨i - j,j,by first|rfl|(congr 1;omega),rfl,by omega,hj,by omega,hjN,Nat.le_refl _,N2⟩
end Go.Proofs.YtboinnjncaehkaaGreatDoor
namespace Go.Proofs.YtboinnjncaehkaaGreatDoor
open Go.RowKit Go.Sort Go.Lib
variable {P:Program} {α:Type} [Inhabited α] {k:Nat}
def Mg7 (enc:α→List Value) (k:Nat) (w0:World) (blk off:Nat) (lt:α→α→Bool) (Pl Z Q:List α) (e:Ending) (w':World):Prop:=
 e=.returned (.tuple #[])∧∃S:List α,S.length=Z.length∧Srt lt S∧Flt lt S Z∧SWK enc k w0 blk off (Pl++(S++Q)).toArray w'
theorem sym_found {lt:α→α→Bool} (hO:SWO lt) {dk:Array α} {Pl L R Q:List α} (hd:dk=(Pl++(L++(R++Q))).toArray) {a m b mid n st0 r0 st:Nat} (ha:a=Pl.length) (hm:m=a+L.length) (hb:b=m+R.length) (hmid:mid=(a+b) / 2) (hn:n=mid+m)
  (hcase:(mid < m∧st0=n - b∧r0=mid)∨(m≤mid∧st0=a∧r0=m)) (h1:st0≤st) (h2:st≤r0) (q1:st=st0∨lt dk[n - 1 - (st - 1)]! dk[st - 1]! = false) (q2:st=r0∨lt dk[n - 1 - st]! dk[st]! = true) (hL:Srt lt L) (hR:Srt lt R) :
  (∀x ∈ L.take (st - a),∀y ∈ R.drop (n - st - m),lt y x=false)∧∀x ∈ L.drop (st - a),∀y ∈ R.take (n - st - m),lt y x=true:=by
 have hd2:dk=((Pl++L)++(R++Q)).toArray:=by rw [hd];simp
 refine sym_bounds hO hL hR (by omega) (by omega) (fun x1 x2=>?_) (fun x1 x2=>?_)
 ·rcases q1 with q|q
  ·omega
  ·rw [get_in hd2 (t:=n - st - m) (by simp only [List.length_append];omega) x2,get_in hd (t:=st - a - 1) (by omega) (by omega)] at q
   exact q
 ·rcases q2 with q|q
  ·omega
  ·rw [get_in hd2 (t:=n - st - m - 1) (by simp only [List.length_append];omega) (by omega),get_in hd (t:=st - a) (by omega) x1] at q
   exact q
set_option maxHeartbeats 16000000 in
theorem sym_left (L:SS P k) (enc:α→List Value) (cf:α→α→Int) (hO:SWO (ltOf cf)) (g:Nat) (cb:Array Value) (eg:∀args w,(callFunc g args).run P w=.ok (.enter g args) w) (blk off cap a m b N:Nat) (d0:Array α) (w0 w:World) (hcmp:CmpLays P g cb enc k cf blk off d0.size w0) (x:α) (Pl Rl Q:List α) (ha:a=Pl.length) (hm:m=a+1) (hb:b=m+Rl.length) (hR:Srt (ltOf cf) Rl)
  (hN:N=(Pl++(x::(Rl++Q))).length) (h0:d0.size=N) (R:RowK enc k w0 blk off d0) (S:SWK enc k w0 blk off (Pl++(x::(Rl++Q))).toArray w) (hsz:N < 4611686018427387904) :
  Calls P 221 #[.slice (some ⟨blk,off,none⟩) N cap,.int .i64 a,.int .i64 m,.int .i64 b,.func (.func g) #[] cb] w (Mg7 enc k w0 blk off (ltOf cf) Pl (x::Rl) Q):=by
 have hl:N=Pl.length+(1+(Rl.length+Q.length)):=by rw [hN];simp;omega
 have hbN:b≤N:=by omega
 have mixed:=L.mixed
 have t0:=L.t0;have a0:=L.a0;have z0:=L.z0;have v0:=L.v0
 have t3:=L.t3;have a3:=L.a3;have z3:=L.z3;have v3:=L.v3
 have t4:=L.t4;have a4:=L.a4;have z4:=L.z4;have v4:=L.v4
 have t23:=L.t23;have a23:=L.a23;have z23:=L.z23;have v23:=L.v23
 have t62:=L.t62;have a62:=L.a62;have z62:=L.z62;have v62:=L.v62
 have t97:=L.t97;have a97:=L.a97;have z97:=L.z97;have v97:=L.v97
 have aE:=L.aE;have zE:=L.zE
 have HC:Aside _:=hcmp
 obtain ⟨dk,hdk⟩:∃dk,dk=(Pl++(x::(Rl++Q))).toArray:=⟨_,rfl⟩
 rw [←hdk] at S
 have hds:dk.size=N:=by rw [hdk,hN];simp
 have S0:Aside (SWK enc k w0 blk off dk w):=S
 have FIN:Aside (∀i,m≤i→i≤b→(i=m∨ltOf cf dk[i - 1]! dk[a]! = true)→(i=b∨ltOf cf dk[i]! dk[a]! = false)→
   ∃D:Nat→Array α,D a=dk∧(∀q,a≤q→q < i - 1→swp (D q) q (q+1)=D (q+1))∧(∀q,(D q).size=N)∧∀w',SWK enc k w0 blk off (D (i - 1)) w'→Mg7 enc k w0 blk off (ltOf cf) Pl (x::Rl) Q (.returned (.tuple #[])) w'):=by
  intro i i1 i2 q1 q2
  obtain ⟨s1,s2⟩:=one_left hO hdk ha hm hb i1 i2 q1 q2 hR
  refine ⟨fun q=>(Pl++(Rl.take (q - a)++x::(Rl.drop (q - a)++Q))).toArray,by simp [hdk],fun q g1 g2=>?_,fun q=>by simp;omega,fun w' s=>⟨rfl,Rl.take (i - m)++x::Rl.drop (i - m),by simp;omega,s1,s2,?_⟩⟩
  ·have:=adv_one (P:=Pl) (R:=Rl) (Q:=Q) (x:=x) (t:=q - a) (i:=q) (by omega) (by omega)
   rw [show q - a+1=q+1 - a by omega] at this
   exact this
  ·simp only at s
   rw [show i - 1 - a=i - m by omega] at s
   simpa using s
 have hab1:a < m:=by omega
 have hab2:m≤a+1:=by omega
 have r1:((m:Int) - (a:Int))=1:=by omega
 have hmb:m≤b:=by omega
 clear S hcmp hdk hN hl ha hb hR hO hm
 go_enter L.fsy,Tryz.ntmps221
 go_wp2
 go_loopg [10,11] (b - m) (fun kx s10 s11 wr=>∃i j:Nat,s10=.int .i64 i∧s11=.int .i64 j∧m≤i∧i≤j∧j≤b∧j - i≤kx∧Aside (i=m∨ltOf cf dk[i - 1]! dk[a]! = true)∧Aside (j=b∨ltOf cf dk[j]! dk[a]! = false)∧Aside (SWK enc k w0 blk off dk wr))
 case atStart=>exact ⟨m,b,rfl,rfl,Nat.le_refl _,hmb,Nat.le_refl _,Nat.le_refl _,Or.inl rfl,Or.inl rfl,S0⟩
 case round=>
  clear S0 r1
  obtain ⟨i,j,rfl,rfl,hmi,hij,hjb,hkx,I1,I2,S1⟩:=hrel
  by_cases hlt:i < j
  ·have hltz:(i:Int) < (j:Int):=by omega
   obtain ⟨c,hc⟩:∃c:Nat,c=(i+j) / 2:=⟨_,rfl⟩
   have em:((i:Int)+(j:Int)) / 2=(c:Int):=by omega
   have c1:i≤c:=by omega
   have c2:c < j:=by omega
   have ew:IntKind.i64.wrap ((i:Int)+(j:Int))=(i:Int)+(j:Int):=by rw [IntKind.wrap_i64];omega
   have eu:IntKind.u64.wrap ((i:Int)+(j:Int))=(i:Int)+(j:Int):=by simp [IntKind.wrap,IntKind.bits,IntKind.signed];omega
   have ei:IntKind.i64.wrap (((i:Int)+(j:Int)) / 2)=((i:Int)+(j:Int)) / 2:=by rw [IntKind.wrap_i64];omega
   clear hc
   cases hL:ltOf cf dk[c]! dk[a]! with
   | true=>
    have ea1:((c:Int)).toNat=c:=by omega
    have pa1:(0:Int)≤(c:Int):=by omega
    have ba1:(c:Int) < (N:Int):=by omega
    have ra1:IntKind.i64.wrap ((c:Int))=(c:Int):=by rw [IntKind.wrap_i64];omega
    have ec1:((a:Int)).toNat=a:=by omega
    have pc1:(0:Int)≤(a:Int):=by omega
    have bc1:(a:Int) < (N:Int):=by omega
    have rc1:IntKind.i64.wrap ((a:Int))=(a:Int):=by rw [IntKind.wrap_i64];omega
    obtain ⟨x1,hx1⟩:∃x,x=dk[c]! :=⟨_,rfl⟩
    obtain ⟨y1,hy1⟩:∃x,x=dk[a]! :=⟨_,rfl⟩
    have l1a:=S1.out.ld R (by omega) P (c) (by omega)
    have l1b:=S1.out.ld R (by omega) P (a) (by omega)
    rw [←hx1] at l1a
    rw [←hy1] at l1b
    have hc1:=S1.out.cmp HC.out (by omega) x1 y1
    have hv1:cf x1 y1 < 0:=by rw [hx1,hy1];exact of_decide_eq_true hL
    have hd1:decide (cf x1 y1 < 0)=true:=decide_eq_true hv1
    have HL:Aside _:=hL
    clear hx1 hy1 hL
    go_wp2_with fail
    go_quiet_grown (first|(go_at_fn g;refine Calls.grown_of (hc1 _ _)))
    have S2:Aside (SWK enc k w0 blk off dk (grow (wr.drewN nq) osq)):=S1.out.grown nq osq
    clear l1a l1b hc1 S1
    generalize grow (wr.drewN nq) osq=w2 at S2 ⊢
    clear nq osq
    go_wp2
    go_roundg (j - (c+1))
    case measure=>omega
    case rel=>exact ⟨c+1,j,by go_num,rfl,by omega,by omega,hjb,Nat.le_refl _,Or.inr HL.out,I2,S2⟩
   | false=>
    have ea1:((c:Int)).toNat=c:=by omega
    have pa1:(0:Int)≤(c:Int):=by omega
    have ba1:(c:Int) < (N:Int):=by omega
    have ra1:IntKind.i64.wrap ((c:Int))=(c:Int):=by rw [IntKind.wrap_i64];omega
    have ec1:((a:Int)).toNat=a:=by omega
    have pc1:(0:Int)≤(a:Int):=by omega
    have bc1:(a:Int) < (N:Int):=by omega
    have rc1:IntKind.i64.wrap ((a:Int))=(a:Int):=by rw [IntKind.wrap_i64];omega
    obtain ⟨x1,hx1⟩:∃x,x=dk[c]! :=⟨_,rfl⟩
    obtain ⟨y1,hy1⟩:∃x,x=dk[a]! :=⟨_,rfl⟩
    have l1a:=S1.out.ld R (by omega) P (c) (by omega)
    have l1b:=S1.out.ld R (by omega) P (a) (by omega)
    rw [←hx1] at l1a
    rw [←hy1] at l1b
    have hc1:=S1.out.cmp HC.out (by omega) x1 y1
    have hv1:¬(cf x1 y1 < 0):=by rw [hx1,hy1];exact of_decide_eq_false hL
    have hd1:decide (cf x1 y1 < 0)=false:=decide_eq_false hv1
    have HL:Aside _:=hL
    clear hx1 hy1 hL
    go_wp2_with fail
    go_quiet_grown (first|(go_at_fn g;refine Calls.grown_of (hc1 _ _)))
    have S2:Aside (SWK enc k w0 blk off dk (grow (wr.drewN nq) osq)):=S1.out.grown nq osq
    clear l1a l1b hc1 S1
    generalize grow (wr.drewN nq) osq=w2 at S2 ⊢
    clear nq osq
    go_wp2
    go_roundg (c - i)
    case measure=>omega
    case rel=>exact ⟨i,c,rfl,rfl,hmi,c1,by omega,Nat.le_refl _,I1,Or.inr HL.out,S2⟩
  ·obtain rfl:j=i:=by omega
   have hltz:¬((j:Int) < (j:Int)):=by omega
   obtain ⟨D,D0,DS,DZ,DF⟩:=FIN.out j hmi hjb I1.out I2.out
   have DS:Aside _:=DS
   have DF:Aside _:=DF
   have S2:Aside (SWK enc k w0 blk off (D a) wr):=by rw [D0];exact S1
   clear FIN I1 I2 D0 S1
   have e1:((j:Int) - 1)=((j - 1:Nat):Int):=by omega
   have e2:IntKind.i64.wrap ((j:Int) - 1)=(j:Int) - 1:=by rw [IntKind.wrap_i64];omega
   obtain ⟨jp,hjp⟩:∃jp,jp=j - 1:=⟨_,rfl⟩
   rw [←hjp] at DF DS e1
   have j1:a≤jp:=by omega
   have j2:jp+1≤N:=by omega
   go_wp2
   go_loopg [13] (jp - a) (fun kx s13 wr=>∃q:Nat,s13=.int .i64 q∧a≤q∧q≤jp∧jp - q≤kx∧Aside (SWK enc k w0 blk off (D q) wr))
   case atStart=>exact ⟨a,rfl,Nat.le_refl _,j1,Nat.le_refl _,S2⟩
   case round=>
    clear S2
    obtain ⟨q,rfl,q1,q2,hkx2,S1⟩:=hrel
    by_cases hq:q < jp
    ·have hqz:(q:Int) < (jp:Int):=by omega
     have hNX:Aside _:=DS.out q q1 hq
     have hsz1:=DZ q
     generalize hdq:D q=dq at S1 hNX hsz1
     clear hdq
     have ea2:((q:Int)).toNat=q:=by omega
     have pa2:(0:Int)≤(q:Int):=by omega
     have ba2:(q:Int) < (N:Int):=by omega
     have ra2:IntKind.i64.wrap ((q:Int))=(q:Int):=by rw [IntKind.wrap_i64];omega
     have ec2:((q:Int)+1).toNat=q+1:=by omega
     have pc2:(0:Int)≤(q:Int)+1:=by omega
     have bc2:(q:Int)+1 < (N:Int):=by omega
     have rc2:IntKind.i64.wrap ((q:Int)+1)=(q:Int)+1:=by rw [IntKind.wrap_i64];omega
     have S2:Aside (SWK enc k w0 blk off (swp dq (q) (q+1)) ((wr.drew.setCells blk (off+(q)*k) (enc dq[q+1]!)).setCells blk (off+(q+1)*k) (enc dq[q]!))):=S1.out.swapped R (q) (q+1) (by omega) (by omega)
     have l2a:=S1.out.ld1 R (by omega) P (q) (by omega)
     have l2b:=S1.out.ld1 R (by omega) P (q+1) (by omega)
     have s2a:=S1.out.st1 R (by omega) P (q) (by omega) dq[q+1]!
     have s2b:=S1.out.st2 R (by omega) P (q) (q+1) (by omega) (by omega) dq[q+1]! dq[q]!
     have n2a:(enc dq[q]!).length=k:=R.hk _
     have n2b:(enc dq[q+1]!).length=k:=R.hk _
     generalize enc dq[q]! = cI2 at S2 l2a s2b n2a
     generalize enc dq[q+1]! = cJ2 at S2 l2b s2a s2b n2b
     clear S1
     go_wp2_with fail
     go_big_region_o
     clear l2a l2b s2a s2b
     generalize (wr.drew.setCells blk (off+(q)*k) cJ2).setCells blk (off+(q+1)*k) cI2=w2 at S2 ⊢
     go_wp2
     go_roundg (jp - (q+1))
     case measure=>omega
     case rel=>exact ⟨q+1,by go_num,by omega,by omega,Nat.le_refl _,by have z:=S2.out;rw [hNX.out] at z;exact z⟩
    ·obtain rfl:q=jp:=by omega
     have hqz:¬((q:Int) < (q:Int)):=by omega
     go_wp2
     go_end0
     exact DF.out _ S1.out
end Go.Proofs.YtboinnjncaehkaaGreatDoor
