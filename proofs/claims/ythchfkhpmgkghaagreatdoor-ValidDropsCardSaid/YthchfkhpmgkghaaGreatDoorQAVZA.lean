/- What the laws rest on: E10b, E10n. -/
import Derived.Lib.QuietBelow
import Derived.Laws.StructEq
import Derived.Test.YthchfkhpmgkghaaGreatDoorQAJZA
import Derived.Test.YthchfkhpmgkghaaGreatDoorQALZA
import Derived.Test.YthchfkhpmgkghaaGreatDoorQAQZA
import Derived.Test.YthchfkhpmgkghaaGreatDoorQARZA
import Derived.Test.YthchfkhpmgkghaaGreatDoorQAUZA
set_option maxRecDepth 100000
set_option linter.unusedVariables false
set_option linter.unusedSimpArgs false
namespace Go.Proofs.YthchfkhpmgkghaaGreatDoor
open Go.RowKit
theorem metS_up {U:List Ent} {s t:List Int} {g:List Atm} (h:∀p ∈ s,p ∈ t) (k:metS U s g=true):metS U t g=true:=by
 unfold metS at *
 obtain ⟨a,ha,e⟩:=List.any_eq_true.1 k
 exact List.any_eq_true.2 ⟨a,ha,givS_up h e⟩
theorem insS_drop {U:List Ent} {s:List Int} {k:Int} (hs:s.Pairwise (· < ·)) (h:insS U s=[]) (hk:∀p ∈ s,p≠k→∀g ∈ (entA U p).d,∀a ∈ g,gvA a (entA U k)=false):insS U (s.filter fun p=>!decide (p=k))=[]:=by
 rw [insS_nil hs] at h
 rw [insS_nil (List.Pairwise.filter _ hs)]
 have hm:∀{p},p ∈ s.filter (fun p=>!decide (p=k))↔p ∈ s∧p≠k:=fun {p}=>by rw [List.mem_filter];simp
 refine ⟨fun p hp q hq=>h.1 p (hm.1 hp).1 q (hm.1 hq).1,fun p hp q hq=>h.2.1 p (hm.1 hp).1 q (hm.1 hq).1,fun p hp g hg=>?_⟩
 obtain ⟨p1,p2⟩:=hm.1 hp
 have:=h.2.2 p p1 g hg
 unfold metS givS at this ⊢
 obtain ⟨a,ha,e⟩:=List.any_eq_true.1 this
 obtain ⟨q,hq,e2⟩:=List.any_eq_true.1 e
 refine List.any_eq_true.2 ⟨a,ha,List.any_eq_true.2 ⟨q,hm.2 ⟨hq,fun z=>?_⟩,e2⟩⟩
 subst z
 rw [hk p p1 p2 g hg a ha] at e2;cases e2
theorem opnS_join {U:List Ent} {s t r:List Int} (hs:s.Pairwise (· < ·)) (ht:t.Pairwise (· < ·)) (h:insS U s=[]) (h':insS U t=[]) (h1:∀p ∈ r,p ∈ s∨p ∈ t) (h2:∀p,p ∈ s∨p ∈ t→p ∈ r):opnS U r r=[]:=by
 rw [insS_nil hs] at h
 rw [insS_nil ht] at h'
 rw [opnS_nil]
 intro p hp g hg
 rcases h1 p hp with q|q
 ·exact metS_up (fun x hx=>h2 x (.inl hx)) (h.2.2 p q g hg)
 ·exact metS_up (fun x hx=>h2 x (.inr hx)) (h'.2.2 p q g hg)
theorem no_open {U:List Ent} {held:List Int} {ri rm:List Atm} {r:List Int} (h:opnS U r r=[]):∀x ∈ fltS U held ri rm r,x.k≠3:=by
 intro x hx
 have hp:∀{f:Ent→Ent→Bool} {k:Int},x ∈ pairP f k U r→x.k=k:=fun q=>pairP_k x q
 rcases mem_fltS.1 hx with q|q|q|q|q|q
 ·rw [hp q];decide
 ·rw [hp q];decide
 ·rw [h] at q;cases q
 ·obtain ⟨j,_,_,_,_,rfl⟩:=mem_awyS.1 q;exact (by decide:(4:Int)≠3)
 ·obtain ⟨j,hj,e,rfl⟩:=mem_misS.1 q;exact (by decide:(5:Int)≠3)
 ·obtain ⟨j,hj,p,hp,e,rfl⟩:=mem_preS.1 q;exact (by decide:(6:Int)≠3)
end Go.Proofs.YthchfkhpmgkghaaGreatDoor
namespace Go.Proofs.YthchfkhpmgkghaaGreatDoor
open Go.RowKit Go.Sort
set_option maxHeartbeats 4000000 in
theorem pick10_any (t:Int) (N:Nat) (w:World) (h0:-9223372036854775808≤t) (h1:t≤9223372036854775807) (hN:0 < N) (hN2:N≤1000) :
  Calls Tryz.prog 62 #[.int .i64 t,.int .i64 (N:Int)] w fun e w'=>(∃j:Nat,j < N∧e=.returned (.int .i64 (j:Int)))∧w=w':=by
 have nz:((N:Int)==0)=false:=by rw [beq_eq_false_iff_ne];omega
 have nz':(N:Int)≠0:=by omega
 by_cases ht:t < 0
 ·have e1:IntKind.i64.wrap (t+1)=t+1:=IntWalk.i64_in _ (by omega)
  have e2:IntKind.i64.wrap (-(t+1))=-(t+1):=IntWalk.i64_in _ (by omega)
  obtain ⟨k,hk⟩:=Int.eq_ofNat_of_zero_le (show 0≤-(t+1) by omega)
  have e3:(-(t+1)).tmod (N:Int)=((k % N:Nat):Int):=by rw [hk];rfl
  have e4:IntKind.i64.wrap ((k % N:Nat):Int)=((k % N:Nat):Int):=IntWalk.i64_in _ (by have:=Nat.mod_lt k hN;omega)
  have LT:=Lib.hid (Nat.mod_lt k hN)
  go_enter Tryz.func62,Tryz.ntmps62
  go_wp2
  go_ret
  exact ⟨⟨k % N,LT.out,by first|rfl|simp [e3,e4]⟩,rfl⟩
 ·obtain ⟨k,hk⟩:=Int.eq_ofNat_of_zero_le (show 0≤t by omega)
  have e3:t.tmod (N:Int)=((k % N:Nat):Int):=by rw [hk];rfl
  have e4:IntKind.i64.wrap ((k % N:Nat):Int)=((k % N:Nat):Int):=IntWalk.i64_in _ (by have:=Nat.mod_lt k hN;omega)
  have LT:=Lib.hid (Nat.mod_lt k hN)
  clear hk
  go_enter Tryz.func62,Tryz.ntmps62
  go_wp2
  go_ret
  exact ⟨⟨k % N,LT.out,by first|rfl|simp [e3,e4]⟩,rfl⟩
end Go.Proofs.YthchfkhpmgkghaaGreatDoor
