/- What the laws rest on: E10b. -/
import Derived.Test.YthchfkhpmgkghaaGreatDoorQAIZA
import Derived.Test.YthchfkhpmgkghaaGreatDoorQALZA
import Derived.Test.YthchfkhpmgkghaaGreatDoorQASZA
import Derived.Test.YthchfkhpmgkghaaGreatDoorQAUZA
set_option maxRecDepth 100000
set_option linter.unusedVariables false
set_option linter.unusedSimpArgs false
namespace Go.Proofs.YthchfkhpmgkghaaGreatDoor
open Go.RowKit
theorem kinds_of {L:List Ft} {k:Int} (h:∀x ∈ L,x.k=k):(L.map fun x=>x.k).Pairwise (·≤·):=by
 rw [List.pairwise_map]
 induction L with
 | nil=>exact List.Pairwise.nil
 | cons a r ih=>
  refine List.pairwise_cons.2 ⟨fun b hb=>?_,ih fun x hx=>h x (List.mem_cons_of_mem _ hx)⟩
  rw [h a (List.mem_cons_self ..),h b (List.mem_cons_of_mem _ hb)];exact Int.le_refl _
theorem kinds_app {A B:List Ft} {k:Int} (hA:(A.map fun x=>x.k).Pairwise (·≤·)) (hB:(B.map fun x=>x.k).Pairwise (·≤·)) (h1:∀x ∈ A,x.k≤k) (h2:∀x ∈ B,k≤x.k):((A++B).map fun x=>x.k).Pairwise (·≤·):=by
 rw [List.map_append,List.pairwise_append]
 refine ⟨hA,hB,fun a ha b hb=>?_⟩
 obtain ⟨x,hx,rfl⟩:=List.mem_map.1 ha
 obtain ⟨y,hy,rfl⟩:=List.mem_map.1 hb
 exact Int.le_trans (h1 x hx) (h2 y hy)
theorem fltS_kind {U:List Ent} {held:List Int} {ri rm:List Atm} {l:List Int}:(∀x ∈ fltS U held ri rm l,1≤x.k∧x.k≤6)∧((fltS U held ri rm l).map fun x=>x.k).Pairwise (·≤·):=by
 have k1:∀x ∈ pairP smN 1 U l,x.k=1:=fun x hx=>pairP_k x hx
 have k2:∀x ∈ pairP fgt 2 U l,x.k=2:=fun x hx=>pairP_k x hx
 have k3:∀x ∈ opnS U l l,x.k=3:=fun x hx=>by obtain ⟨p,hp,j,hj,e,rfl⟩:=mem_opnS.1 hx;rfl
 have k4:∀x ∈ awyS held l 0 U.length,x.k=4:=fun x hx=>by obtain ⟨j,_,_,_,_,rfl⟩:=mem_awyS.1 hx;rfl
 have k5:∀x ∈ misS U l ri 0,x.k=5:=fun x hx=>by obtain ⟨j,hj,e,rfl⟩:=mem_misS.1 hx;rfl
 have k6:∀x ∈ preS U l rm 0,x.k=6:=fun x hx=>by obtain ⟨j,hj,p,hp,e,rfl⟩:=mem_preS.1 hx;rfl
 constructor
 ·intro x hx
  rcases mem_fltS.1 hx with q|q|q|q|q|q
  ·rw [k1 x q];decide
  ·rw [k2 x q];decide
  ·rw [k3 x q];decide
  ·rw [k4 x q];decide
  ·rw [k5 x q];decide
  ·rw [k6 x q];decide
 ·have a2:=kinds_app (k:=1) (kinds_of k1) (kinds_of k2) (fun x hx=>by rw [k1 x hx];decide) (fun x hx=>by rw [k2 x hx];decide)
  have a3:=kinds_app (k:=2) a2 (kinds_of k3) (fun x hx=>by rcases List.mem_append.1 hx with h|h;rw [k1 x h];decide;rw [k2 x h];decide) (fun x hx=>by rw [k3 x hx];decide)
  have b2:=kinds_app (k:=4) (kinds_of k4) (kinds_of k5) (fun x hx=>by rw [k4 x hx];decide) (fun x hx=>by rw [k5 x hx];decide)
  have b3:=kinds_app (k:=5) b2 (kinds_of k6) (fun x hx=>by rcases List.mem_append.1 hx with h|h;rw [k4 x h];decide;rw [k5 x h];decide) (fun x hx=>by rw [k6 x hx];decide)
  refine kinds_app (k:=3) a3 b3 (fun x hx=>?_) (fun x hx=>?_)
  ·rcases List.mem_append.1 hx with h|h
   ·rcases List.mem_append.1 h with h|h
    ·rw [k1 x h];decide
    ·rw [k2 x h];decide
   ·rw [k3 x h];decide
  ·rcases List.mem_append.1 hx with h|h
   ·rcases List.mem_append.1 h with h|h
    ·rw [k4 x h];decide
    ·rw [k5 x h];decide
   ·rw [k6 x h];decide
theorem fltS_none {U:List Ent} {held:List Int} (hh:∀p ∈ held,0≤p∧p < (U.length:Int)):insS U []=[]∧(fltS U held [] [] []=[]↔held=[]):=by
 refine ⟨rfl,?_⟩
 rw [fltS_nil hh]
 constructor
 ·rintro ⟨_,h,_⟩
  cases held with
  | nil=>rfl
  | cons a r=>exact absurd (h a (List.mem_cons_self ..)) (List.not_mem_nil)
 ·rintro rfl
  exact ⟨rfl,fun p hp=>hp,(fun a ha=>absurd ha List.not_mem_nil),fun a ha=>absurd ha List.not_mem_nil⟩
end Go.Proofs.YthchfkhpmgkghaaGreatDoor
