/- What the laws rest on: E9b2, E9k, E10c. -/
import Derived.Test.YthchfkhpmgkghaaGreatDoorQARZA
import Derived.Test.YthchfkhpmgkghaaGreatDoorQATZA
import Derived.Test.YthchfkhpmgkghaaGreatDoorQBAZA
set_option maxRecDepth 100000
set_option linter.unusedVariables false
set_option linter.unusedSimpArgs false
namespace Go.Proofs.YthchfkhpmgkghaaGreatDoor
open Go.RowKit
def rdPr:Rd (Int × Int):=fun _ _ a cs=>cs=[.int .i64 a.1,.int .i64 a.2]
theorem rdPr_good:Good rdPr 2:=⟨fun h _=>h,fun h _=>h,fun h _ _=>h,fun h=>by rw [h];rfl,fun h u hu=>by rw [h] at hu;simp at hu;rcases hu with rfl|rfl<;>rfl⟩
abbrev rdPrs:Rd (List (Int × Int)):=rdRow 2 rdPr
theorem rdPrs_good:Good rdPrs 1:=rdRow_good rdPr_good
theorem rdPrs_at {w:World} {S:Nat→Prop} {l:List (Int × Int)} {A:Option Addr} {n c:Nat} (h:rdPrs w S l [.slice A n c]):n=l.length∧n≤c∧c≤maxLen∧∀k (hk:k < l.length),∃ad,A=some ad∧S ad.block∧
  w.cell? (ad.add (k*2))=some (.int .i64 l[k].1)∧w.cell? ⟨(ad.add (k*2)).block,(ad.add (k*2)).off+1,none⟩=some (.int .i64 l[k].2):=by
 obtain ⟨A',c',e,h1,h2,h⟩:=h
 simp only [List.cons.injEq,Value.slice.injEq,and_true] at e
 obtain ⟨rfl,rfl,rfl⟩:=e
 refine ⟨rfl,h1,h2,fun k hk=>?_⟩
 obtain ⟨ad,es,e,hS,hE,hl,hc⟩:=h k hk
 rw [show es=[.int .i64 l[k].1,.int .i64 l[k].2] from hE] at hc
 exact ⟨ad,e,hS,hc 0 _ rfl,by rw [off_add ad (k*2) 1 (by omega)];exact hc 1 _ rfl⟩
end Go.Proofs.YthchfkhpmgkghaaGreatDoor
namespace Go.Proofs.YthchfkhpmgkghaaGreatDoor
open Go.RowKit Go.Sort
def rwF (x:Ent) (i:Nat):List Ent→Nat→List (Int × Int)
 | [],_=>[]
 | y::r,k=>if fgt x y=true then ((i:Int),(k:Int))::rwF x i r (k+1) else rwF x i r (k+1)
def fgU:List Ent→Nat→List (Int × Int)
 | [],_=>[]
 | x::r,i=>rwF x i r (i+1)++fgU r (i+1)
theorem rwF_len (x:Ent) (i:Nat):∀(r:List Ent) (k:Nat),(rwF x i r k).length≤r.length
 | [],_=>Nat.le_refl _
 | y::r,k=>by
  have ih:=rwF_len x i r (k+1)
  unfold rwF
  split
  ·rw [List.length_cons,List.length_cons];omega
  ·rw [List.length_cons];omega
theorem fgU_len:∀(L:List Ent) (i:Nat),(fgU L i).length≤L.length*L.length
 | [],_=>Nat.le_refl _
 | x::r,i=>by
  have h1:=rwF_len x i r (i+1)
  have h2:=fgU_len r (i+1)
  unfold fgU
  rw [List.length_append,List.length_cons,Nat.succ_mul,Nat.mul_succ];omega
theorem rwF_step {x:Ent} {i:Nat} {L:List Ent} {j:Nat} (h:j < L.length):(fgt x L[j]=true→rwF x i (L.drop j) j=((i:Int),(j:Int))::rwF x i (L.drop (j+1)) (j+1))∧(fgt x L[j]=false→rwF x i (L.drop j) j=rwF x i (L.drop (j+1)) (j+1)):=by
 rw [List.drop_eq_getElem_cons h]
 exact ⟨fun q=>by rw [rwF,if_pos q],fun q=>by rw [rwF,if_neg (by rw [q];decide)]⟩
theorem fgU_step {L:List Ent} {k:Nat} (h:k < L.length):fgU (L.drop k) k=rwF L[k] k (L.drop (k+1)) (k+1)++fgU (L.drop (k+1)) (k+1):=by
 rw [List.drop_eq_getElem_cons h,fgU]
theorem pr9_info:(Tryz.prog.info? 71).map (fun i=>(i.zero,i.size,i.bytes))=some (some (.agg #[.int .i64 0,.int .i64 0]),2,16):=by kernel_rfl
end Go.Proofs.YthchfkhpmgkghaaGreatDoor
namespace Go.Proofs.YthchfkhpmgkghaaGreatDoor
open Go.RowKit
theorem mem_rwF {x:Ent} {i:Nat} {z:Int × Int}:∀{r:List Ent} {k:Nat},z ∈ rwF x i r k↔∃j,∃h:j < r.length,fgt x r[j]=true∧z=((i:Int),((k+j:Nat):Int))
 | [],k=>by simp [rwF]
 | y::r,k=>by
  have ih:=mem_rwF (x:=x) (i:=i) (z:=z) (r:=r) (k:=k+1)
  have hs:(∃j,∃h:j < (y::r).length,fgt x (y::r)[j]=true∧z=((i:Int),((k+j:Nat):Int)))↔(fgt x y=true∧z=((i:Int),(k:Int)))∨∃j,∃h:j < r.length,fgt x r[j]=true∧z=((i:Int),((k+1+j:Nat):Int)):=by
   constructor
   ·rintro ⟨j,h,e,q⟩
    cases j with
    | zero=>exact .inl ⟨e,q⟩
    | succ j=>exact .inr ⟨j,by simpa using h,e,by rw [q];congr 2;omega⟩
   ·rintro (⟨e,q⟩|⟨j,h,e,q⟩)
    ·exact ⟨0,by simp,e,q⟩
    ·exact ⟨j+1,by simpa using h,e,by rw [q];congr 2;omega⟩
  rw [hs]
  unfold rwF
  split
  ·rename_i h
   rw [List.mem_cons,ih]
   exact ⟨fun q=>q.elim (fun e=>.inl ⟨h,e⟩) .inr,fun q=>q.elim (fun e=>.inl e.2) .inr⟩
  ·rename_i h
   rw [ih]
   exact ⟨.inr,fun q=>q.elim (fun e=>absurd e.1 h) id⟩
theorem mem_fgU {z:Int × Int}:∀{L:List Ent} {i:Nat},z ∈ fgU L i↔∃a b,∃ha:a < L.length,∃hb:b < L.length,a < b∧fgt L[a] L[b]=true∧z=(((i+a:Nat):Int),((i+b:Nat):Int))
 | [],i=>by simp [fgU]
 | x::r,i=>by
  have ih:=mem_fgU (z:=z) (L:=r) (i:=i+1)
  unfold fgU
  rw [List.mem_append,mem_rwF,ih]
  constructor
  ·rintro (⟨j,h,e,q⟩|⟨a,b,ha,hb,hab,e,q⟩)
   ·exact ⟨0,j+1,by simp,by simpa using h,by omega,e,by rw [q];congr 2;omega⟩
   ·exact ⟨a+1,b+1,by simpa using ha,by simpa using hb,by omega,e,by rw [q];congr 2<;>omega⟩
  ·rintro ⟨a,b,ha,hb,hab,e,q⟩
   cases b with
   | zero=>omega
   | succ b=>
    cases a with
    | zero=>exact .inl ⟨b,by simpa using hb,e,by rw [q];congr 2;omega⟩
    | succ a=>exact .inr ⟨a,b,by simpa using ha,by simpa using hb,by omega,e,by rw [q];congr 2<;>omega⟩
theorem filter_one {s:List Int} (hs:s.Pairwise (· < ·)) {p:Int} (hp:p ∈ s) {f:Int→Bool} (hf:f p=true):(s.filter f).length=1↔∀q ∈ s,f q=true→q=p:=by
 constructor
 ·intro h q hq hfq
  obtain ⟨z,hz⟩:=List.length_eq_one_iff.1 h
  have h1:p ∈ s.filter f:=List.mem_filter.2 ⟨hp,hf⟩
  have h2:q ∈ s.filter f:=List.mem_filter.2 ⟨hq,hfq⟩
  rw [hz,List.mem_singleton] at h1 h2
  rw [h2,h1]
 ·intro h
  have h1:p ∈ s.filter f:=List.mem_filter.2 ⟨hp,hf⟩
  have h2:∀q ∈ s.filter f,q=p:=fun q hq=>h q (List.mem_filter.1 hq).1 (List.mem_filter.1 hq).2
  have h3:(s.filter f).Pairwise (· < ·):=List.Pairwise.filter _ hs
  cases e:s.filter f with
  | nil=>rw [e] at h1;cases h1
  | cons a r=>
   cases r with
   | nil=>rfl
   | cons b r=>
    rw [e] at h2 h3
    have e1:=h2 a (List.mem_cons_self ..)
    have e2:=h2 b (List.mem_cons_of_mem _ (List.mem_cons_self ..))
    have:=(List.pairwise_cons.1 h3).1 b (List.mem_cons_self ..)
    omega
theorem two_less {s:List Int} (hs:s.Pairwise (· < ·)) {a b:Int} (hab:a < b):(bothL s [a,b]).length < 2↔¬(a ∈ s∧b ∈ s):=by
 rw [both_filter (List.pairwise_cons.2 ⟨fun x hx=>by rw [List.mem_singleton.1 hx];exact hab,List.pairwise_singleton ..⟩)]
 constructor
 ·rintro h ⟨h1,h2⟩
  have k1:a ∈ s.filter (fun x=>decide (x ∈ [a,b])):=List.mem_filter.2 ⟨h1,by simp⟩
  have k2:b ∈ s.filter (fun x=>decide (x ∈ [a,b])):=List.mem_filter.2 ⟨h2,by simp⟩
  cases e:s.filter (fun x=>decide (x ∈ [a,b])) with
  | nil=>rw [e] at k1;cases k1
  | cons c r=>
   cases r with
   | nil=>
    rw [e,List.mem_singleton] at k1 k2
    omega
   | cons d r=>rw [e] at h;simp only [List.length_cons] at h;omega
 ·intro h
  have h3:(s.filter (fun x=>decide (x ∈ [a,b]))).Pairwise (· < ·):=List.Pairwise.filter _ hs
  have hm:∀x ∈ s.filter (fun x=>decide (x ∈ [a,b])),x ∈ s∧(x=a∨x=b):=fun x hx=>⟨(List.mem_filter.1 hx).1,by simpa using (List.mem_filter.1 hx).2⟩
  cases e:s.filter (fun x=>decide (x ∈ [a,b])) with
  | nil=>simp
  | cons c r=>
   cases r with
   | nil=>simp
   | cons d r=>
    rw [e] at hm h3
    obtain ⟨c1,c2⟩:=hm c (List.mem_cons_self ..)
    obtain ⟨d1,d2⟩:=hm d (List.mem_cons_of_mem _ (List.mem_cons_self ..))
    have:=(List.pairwise_cons.1 h3).1 d (List.mem_cons_self ..)
    have ha:a ∈ s:=by rcases c2 with rfl|rfl;exact c1;rcases d2 with rfl|rfl;exact d1;omega
    have hb:b ∈ s:=by rcases d2 with rfl|rfl;rcases c2 with rfl|rfl;omega;exact c1;exact d1
    exact absurd ⟨ha,hb⟩ h
theorem closes_iff {U:List Ent} {s:List Int} (hs:SetP U.length s):insS U s=[]↔(∀p ∈ s,(bothL s (ixU (isN (entA U p).n) U 0)).length=1)∧(∀p ∈ s,∀g ∈ (entA U p).d,(g.any fun a=>decide (0 < (bothL s (ixU (gvA a) U 0)).length))=true)∧∀z ∈ fgU U 0,(bothL s [z.1,z.2]).length < 2:=by
 rw [insS_nil hs.2]
 have e1:∀p ∈ s,((bothL s (ixU (isN (entA U p).n) U 0)).length=1↔∀q ∈ s,(entA U q).n=(entA U p).n→q=p):=by
  intro p hp
  rw [both_filter (ixU_ris U 0).1,filter_one hs.2 hp (by
   obtain ⟨h0,h1⟩:=hs.1 p hp
   exact decide_eq_true ((ixU_nat h0 h1).2 (decide_eq_true rfl)))]
  constructor
  ·intro h q hq e
   obtain ⟨h0,h1⟩:=hs.1 q hq
   exact h q hq (decide_eq_true ((ixU_nat h0 h1).2 (decide_eq_true e)))
  ·intro h q hq e
   obtain ⟨h0,h1⟩:=hs.1 q hq
   exact h q hq (of_decide_eq_true ((ixU_nat h0 h1).1 (of_decide_eq_true e)))
 have e2:∀g:List Atm,(g.any fun a=>decide (0 < (bothL s (ixU (gvA a) U 0)).length))=metS U s g:=by
  intro g
  unfold metS
  congr 1
  funext a
  rw [Bool.eq_iff_iff,decide_eq_true_iff,givS_both hs]
 constructor
 ·rintro ⟨h1,h2,h3⟩
  refine ⟨fun p hp=>(e1 p hp).2 fun q hq e=>?_,fun p hp g hg=>by rw [e2];exact h3 p hp g hg,fun z hz=>?_⟩
  ·rcases Int.lt_trichotomy p q with h|h|h
   ·exact absurd e.symm (h1 p hp q hq h)
   ·exact h.symm
   ·exact absurd e (h1 q hq p hp h)
  ·obtain ⟨a,b,ha,hb,hab,e,rfl⟩:=mem_fgU.1 hz
   rw [two_less hs.2 (by simp only;omega)]
   rintro ⟨k1,k2⟩
   simp only [Nat.zero_add] at k1 k2
   have:=h2 _ k1 _ k2 (by omega)
   rw [entA_at ha,entA_at hb,e] at this;cases this
 ·rintro ⟨h1,h2,h3⟩
  refine ⟨fun p hp q hq h e=>?_,fun p hp q hq h=>?_,fun p hp g hg=>by rw [←e2];exact h2 p hp g hg⟩
  ·have:=(e1 p hp).1 (h1 p hp) q hq e.symm;omega
  ·cases e:fgt (entA U p) (entA U q)
   ·rfl
   ·obtain ⟨p0,p1⟩:=hs.1 p hp
    obtain ⟨q0,q1⟩:=hs.1 q hq
    obtain ⟨a,rfl⟩:=Int.eq_ofNat_of_zero_le p0
    obtain ⟨b,rfl⟩:=Int.eq_ofNat_of_zero_le q0
    have ha:a < U.length:=by omega
    have hb:b < U.length:=by omega
    rw [entA_at ha,entA_at hb] at e
    have:=h3 _ (mem_fgU.2 ⟨a,b,ha,hb,by omega,e,rfl⟩)
    rw [two_less hs.2 (by simp only;omega)] at this
    exact absurd ⟨by simpa using hp,by simpa using hq⟩ this
end Go.Proofs.YthchfkhpmgkghaaGreatDoor
