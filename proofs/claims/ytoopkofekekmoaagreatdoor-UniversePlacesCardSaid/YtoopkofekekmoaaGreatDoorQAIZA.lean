/- What the laws rest on: E7h, E9q, E9t. -/
import Derived.Test.YtoopkofekekmoaaGreatDoorQAHZA
set_option maxRecDepth 100000
set_option linter.unusedVariables false
set_option linter.unusedSimpArgs false
namespace Go.Proofs.YtoopkofekekmoaaGreatDoor
open Go.RowKit
theorem le_or (a b:ByteArray):(Op.bytesLess a.toList b.toList||a.toList==b.toList)=!Op.bytesLess b.toList a.toList:=by
 rw [str_eq,Bool.eq_iff_iff,Bool.or_eq_true,decide_eq_true_iff,Bool.not_eq_true',Bool.eq_false_iff]
 constructor
 ·rintro (h|rfl) k
  ·exact blt_asym (a:=a) (b:=b) h k
  ·exact blt_self a k
 ·intro h
  rcases blt_tot a b with q|q|q
  ·exact .inl q
  ·exact absurd q h
  ·exact .inr q
theorem ixU_none {p:Ent→Bool}:∀{L:List Ent} {i:Nat},(∀x ∈ L,p x=false)→ixU p L i=[]
 | [],i,_=>rfl
 | x::r,i,h=>by
  rw [ixU_cons,if_neg (by rw [h x (List.mem_cons_self ..)];decide)]
  exact ixU_none fun y hy=>h y (List.mem_cons_of_mem _ hy)
def rangU (i n:Nat):List Int:=(List.range' i n).map fun k:Nat=>(k:Int)
theorem ixU_all {p:Ent→Bool}:∀{L:List Ent} {i:Nat},(∀x ∈ L,p x=true)→ixU p L i=rangU i L.length
 | [],i,_=>rfl
 | x::r,i,h=>by
  rw [ixU_cons,if_pos (h x (List.mem_cons_self ..)),ixU_all fun y hy=>h y (List.mem_cons_of_mem _ hy)]
  rfl
theorem rangU_app (i a b:Nat):rangU i a++rangU (i+a) b=rangU i (a+b):=by
 unfold rangU
 rw [←List.map_append,List.range'_append_1]
theorem plU_at {L:List Ent} (h:Srt9 L):∀{j:Nat} (hj:j < L.length) (i:Nat),plU L[j].n L[j].v L i=((i+j:Nat):Int):=by
 induction L with
 | nil=>intro j hj;cases hj
 | cons x r ih=>
  obtain ⟨h1,h2⟩:=List.pairwise_cons.1 h
  intro j hj i
  cases j with
  | zero=>
   show plU x.n x.v (x::r) i=_
   rw [plU_cons,if_pos ⟨rfl,rfl⟩];rfl
  | succ j=>
   have hj':j < r.length:=by simpa using hj
   show plU r[j].n r[j].v (x::r) i=_
   rw [plU_cons,if_neg (fun q=>Les.alike q.1 q.2 (h1 _ (List.getElem_mem hj'))),ih h2 hj' (i+1)]
   congr 1;omega
theorem les_nm {x y:Ent} (h:Les x y):x.n=y.n∨blt x.n y.n:=by
 rcases h with ⟨h,_⟩|⟨_,h⟩
 ·exact .inl h
 ·exact .inr h
theorem nmU_skip {n:ByteArray}:∀(A D:List Ent),(∀x ∈ A,x.n=n)→nmU (some n) (A++D)=nmU (some n) D
 | [],D,_=>rfl
 | x::r,D,h=>by
  rw [List.cons_append,nmU_cons,if_pos (by rw [h x (List.mem_cons_self ..)])]
  exact nmU_skip r D fun y hy=>h y (List.mem_cons_of_mem _ hy)
theorem nmU_new {p:Option ByteArray} {D:List Ent} (h:∀x ∈ D.head?,p≠some x.n):nmU p D=nmU none D:=by
 cases D with
 | nil=>rfl
 | cons x r=>
  rw [nmU_cons,nmU_cons,if_neg (h x rfl),if_neg (by simp)]
theorem nmU_mem:∀{p:Option ByteArray} {L:List Ent} {n:ByteArray},n ∈ nmU p L→∃x ∈ L,x.n=n
 | p,[],n,h=>by cases h
 | p,x::r,n,h=>by
  rw [nmU_cons] at h
  split at h
  ·obtain ⟨y,hy,e⟩:=nmU_mem h;exact ⟨y,List.mem_cons_of_mem _ hy,e⟩
  ·rcases List.mem_cons.1 h with rfl|h
   ·exact ⟨x,List.mem_cons_self ..,rfl⟩
   ·obtain ⟨y,hy,e⟩:=nmU_mem h;exact ⟨y,List.mem_cons_of_mem _ hy,e⟩
theorem blk9 {x:Ent} {r:List Ent} (h:Srt9 (x::r)):∃A D,r=A++D∧(∀y ∈ A,y.n=x.n)∧(∀y ∈ D,blt x.n y.n)∧Srt9 D:=by
 obtain ⟨h1,h2⟩:=List.pairwise_cons.1 h
 refine ⟨r.takeWhile (isN x.n),r.dropWhile (isN x.n),(List.takeWhile_append_dropWhile).symm,fun y hy=>of_decide_eq_true (mem_tw hy).1,fun y hy=>?_,?_⟩
 ·rcases les_nm (h1 y (mem_dw hy)) with e|e
  ·have q:=h2
   rw [←List.takeWhile_append_dropWhile (p:=isN x.n) (l:=r)] at q
   have q2:=(List.pairwise_append.1 q).2.1
   cases hd:r.dropWhile (isN x.n) with
   | nil=>rw [hd] at hy;cases hy
   | cons d s=>
    have hh:=dw_head hd
    have hdm:d ∈ r:=mem_dw (p:=isN x.n) (by rw [hd];exact List.mem_cons_self ..)
    have hne:d.n≠x.n:=fun z=>by unfold isN at hh;rw [decide_eq_true z] at hh;cases hh
    have hxd:blt x.n d.n:=(les_nm (h1 d hdm)).elim (fun z=>absurd z.symm hne) id
    rw [hd] at hy q2
    rcases List.mem_cons.1 hy with rfl|hy
    ·exact hxd
    ·rcases les_nm ((List.pairwise_cons.1 q2).1 y hy) with z|z
     ·rw [←z];exact hxd
     ·exact blt_tr hxd z
  ·exact e
 ·rw [←List.takeWhile_append_dropWhile (p:=isN x.n) (l:=r)] at h2
  exact (List.pairwise_append.1 h2).2.1
theorem nmU_blk {x:Ent} {A D:List Ent} (hA:∀y ∈ A,y.n=x.n) (hD:∀y ∈ D,blt x.n y.n):nmU none (x::(A++D))=x.n::nmU none D:=by
 rw [nmU_cons,if_neg (by simp),nmU_skip A D hA]
 rw [nmU_new fun y hy=>?_]
 ·cases D with
  | nil=>cases hy
  | cons d s=>
   obtain rfl:d=y:=Option.some.inj hy
   intro z
   have:=hD d (List.mem_cons_self ..)
   rw [Option.some.inj z] at this
   exact blt_self _ this
theorem nmU_ris:∀(k:Nat) {L:List Ent},L.length≤k→Srt9 L→Ris (nmU none L)
 | _,[],_,_=>List.Pairwise.nil
 | 0,x::r,h,_=>by simp at h
 | k+1,x::r,hk,h=>by
  obtain ⟨A,D,rfl,hA,hD,hs⟩:=blk9 h
  rw [nmU_blk hA hD]
  refine List.pairwise_cons.2 ⟨fun n hn=>?_,nmU_ris k (by simp at hk;omega) hs⟩
  obtain ⟨y,hy,rfl⟩:=nmU_mem hn
  exact hD y hy
theorem flat_congr9 {α β:Type} {f g:α→List β}:∀{l:List α},(∀x ∈ l,f x=g x)→l.flatMap f=l.flatMap g
 | [],_=>rfl
 | a::r,h=>by rw [List.flatMap_cons,List.flatMap_cons,h a (List.mem_cons_self ..),flat_congr9 fun x hx=>h x (List.mem_cons_of_mem _ hx)]
theorem nmU_places:∀(k:Nat) {L:List Ent} (i:Nat),L.length≤k→Srt9 L→(nmU none L).flatMap (fun n=>ixU (isN n) L i)=rangU i L.length
 | _,[],i,_,_=>rfl
 | 0,x::r,i,h,_=>by simp at h
 | k+1,x::r,i,hk,h=>by
  obtain ⟨A,D,rfl,hA,hD,hs⟩:=blk9 h
  have hB:∀y ∈ x::A,isN x.n y=true:=fun y hy=>by
   rcases List.mem_cons.1 hy with rfl|hy
   ·exact decide_eq_true rfl
   ·exact decide_eq_true (hA y hy)
  have hN:∀n ∈ nmU none D,∀y ∈ x::A,isN n y=false:=fun n hn y hy=>by
   obtain ⟨z,hz,rfl⟩:=nmU_mem hn
   refine decide_eq_false fun e=>?_
   have e1:y.n=x.n:=of_decide_eq_true (hB y hy)
   have:=hD z hz
   rw [←e,e1] at this
   exact blt_self _ this
  rw [nmU_blk hA hD,List.flatMap_cons]
  rw [show x::(A++D)=(x::A)++D from rfl,ixU_app,ixU_all hB,ixU_none (p:=isN x.n) (L:=D) (fun y hy=>decide_eq_false fun e=>by have:=hD y hy;rw [e] at this;exact blt_self _ this),List.append_nil]
  have e:(nmU none D).flatMap (fun n=>ixU (isN n) ((x::A)++D) i)=(nmU none D).flatMap (fun n=>ixU (isN n) D (i+(x::A).length)):=by
   refine flat_congr9 fun n hn=>?_
   rw [ixU_app,ixU_none (hN n hn),List.nil_append]
  rw [e,nmU_places k (i+(x::A).length) (by simp at hk ⊢;omega) hs,rangU_app,List.length_append]
theorem of_ne {n:ByteArray} {L:List Ent} (h:n ∈ nmU none L) (i:Nat):ixU (isN n) L i≠[]:=fun e=>by
 obtain ⟨x,hx,hn⟩:=nmU_mem h
 obtain ⟨j,hj,rfl⟩:=List.getElem_of_mem hx
 have:((i+j:Nat):Int) ∈ ixU (isN n) L i:=ixU_mem.2 ⟨j,hj,rfl,decide_eq_true hn⟩
 rw [e] at this;cases this
def PK (L:List Ent) (k:Nat):Nat:=(((nmU none L).take k).flatMap fun n=>ixU (isN n) L 0).length
theorem PK_succ {L:List Ent} {k:Nat} (hk:k < (nmU none L).length):PK L (k+1)=PK L k+(ixU (isN (nmU none L)[k]) L 0).length:=by
 unfold PK
 rw [List.take_succ_eq_append_getElem hk,List.flatMap_append,List.length_append]
 simp
theorem rangU_len (i n:Nat):(rangU i n).length=n:=by unfold rangU;rw [List.length_map,List.length_range']
theorem rangU_at {i n j:Nat} (hj:j < (rangU i n).length):(rangU i n)[j]=((i+j:Nat):Int):=by
 simp [rangU]
theorem PK_at {L:List Ent} (hs:Srt9 L) {k:Nat} (hk:k < (nmU none L).length) {j:Nat} (hj:j < (ixU (isN (nmU none L)[k]) L 0).length):(ixU (isN (nmU none L)[k]) L 0)[j]=((PK L k+j:Nat):Int)∧PK L k+j < L.length:=by
 have hf:=nmU_places L.length 0 (Nat.le_refl _) hs
 have hd:(nmU none L).flatMap (fun n=>ixU (isN n) L 0)=((nmU none L).take k).flatMap (fun n=>ixU (isN n) L 0)++(ixU (isN (nmU none L)[k]) L 0++((nmU none L).drop (k+1)).flatMap (fun n=>ixU (isN n) L 0)):=by
  conv=>lhs;rw [←List.take_append_drop k (nmU none L),List.drop_eq_getElem_cons hk,List.flatMap_append,List.flatMap_cons]
 rw [hd] at hf
 have hlen:=congrArg List.length hf
 rw [List.length_append,List.length_append,rangU_len] at hlen
 have hlt:PK L k+j < L.length:=by unfold PK;omega
 refine ⟨?_,hlt⟩
 have h1:(rangU 0 L.length)[PK L k+j]?=some (((PK L k+j:Nat)):Int):=by
  have hx:PK L k+j < (rangU 0 L.length).length:=by rw [rangU_len];exact hlt
  rw [List.getElem?_eq_getElem hx,rangU_at hx,Nat.zero_add]
 rw [←hf,List.getElem?_append_right (show _≤PK L k+j from Nat.le_add_right _ _),show PK L k+j - (((nmU none L).take k).flatMap (fun n=>ixU (isN n) L 0)).length=j from Nat.add_sub_cancel_left _ _,List.getElem?_append_left hj,List.getElem?_eq_getElem hj] at h1
 exact Option.some.inj h1
theorem PK_all {L:List Ent} (hs:Srt9 L):PK L (nmU none L).length=L.length:=by
 unfold PK
 rw [List.take_length,nmU_places L.length 0 (Nat.le_refl _) hs,rangU_len]
theorem PK_name {L:List Ent} (hs:Srt9 L) {k:Nat} (hk:k < (nmU none L).length) {j:Nat} (hj:j < (ixU (isN (nmU none L)[k]) L 0).length) (hp:PK L k+j < L.length):L[PK L k+j].n=(nmU none L)[k]∧plU L[PK L k+j].n L[PK L k+j].v L 0=((PK L k+j:Nat):Int):=by
 obtain ⟨e,_⟩:=PK_at hs hk hj
 obtain ⟨q,hq,e2,hn⟩:=ixU_mem.1 (List.getElem_mem hj)
 rw [e,Nat.zero_add] at e2
 have e3:PK L k+j=q:=by omega
 refine ⟨?_,?_⟩
 ·have:=of_decide_eq_true hn
  simp only [e3];exact this
 ·have:=plU_at hs hp 0
  rwa [Nat.zero_add] at this
theorem nm_lt {L:List Ent} (hs:Srt9 L) {k:Nat} (hk:k+1 < (nmU none L).length):blt (nmU none L)[k] (nmU none L)[k+1]:=by
 have h:=nmU_ris L.length (Nat.le_refl _) hs
 exact List.pairwise_iff_getElem.1 h k (k+1) (by omega) hk (Nat.lt_succ_self k)
end Go.Proofs.YtoopkofekekmoaaGreatDoor
