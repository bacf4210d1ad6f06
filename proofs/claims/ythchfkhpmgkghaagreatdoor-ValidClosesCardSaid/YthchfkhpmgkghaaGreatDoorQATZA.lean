/- What the laws rest on: E10b. -/
import Derived.Test.YthchfkhpmgkghaaGreatDoorQAPZA
set_option maxRecDepth 100000
set_option linter.unusedVariables false
set_option linter.unusedSimpArgs false
namespace Go.Proofs.YthchfkhpmgkghaaGreatDoor
open Go.RowKit
theorem both_filter {a b:List Int} (hb:b.Pairwise (· < ·)):bothL a b=a.filter fun x=>decide (x ∈ b):=by
 unfold bothL
 have one:∀x:Int,((b.filter fun y=>decide (x=y)).map fun _=>x)=if x ∈ b then [x] else []:=by
  intro x
  induction b with
  | nil=>simp
  | cons y r ih=>
   obtain ⟨h1,h2⟩:=List.pairwise_cons.1 hb
   rw [List.filter_cons]
   by_cases e:x=y
   ·subst e
    have hn:x ∉ r:=fun h=>by have:=h1 x h;omega
    rw [if_pos (decide_eq_true rfl),List.map_cons,ih h2,if_neg hn,if_pos (List.mem_cons_self ..)]
   ·rw [if_neg (by simpa using e),ih h2]
    have:(x ∈ y::r)↔x ∈ r:=by simp [e]
    simp only [this]
 induction a with
 | nil=>rfl
 | cons x r ih=>
  rw [List.flatMap_cons,ih,one,List.filter_cons]
  by_cases h:x ∈ b<;>simp [h]
theorem givS_both {U:List Ent} {s:List Int} (hs:SetP U.length s) {a:Atm}:0 < (bothL s (ixU (gvA a) U 0)).length↔givS U s a=true:=by
 rw [both_pos]
 unfold givS
 rw [List.any_eq_true]
 constructor
 ·rintro ⟨x,hx,h⟩
  obtain ⟨j,hj,rfl,e⟩:=ixU_mem.1 h
  rw [Nat.zero_add] at hx
  exact ⟨_,hx,by rw [entA_at hj];exact e⟩
 ·rintro ⟨x,hx,e⟩
  obtain ⟨h0,h1⟩:=hs.1 x hx
  obtain ⟨j,rfl⟩:=Int.eq_ofNat_of_zero_le h0
  have hj:j < U.length:=by omega
  rw [entA_at hj] at e
  exact ⟨_,hx,ixU_mem.2 ⟨j,hj,by rw [Nat.zero_add],e⟩⟩
end Go.Proofs.YthchfkhpmgkghaaGreatDoor
