/- What the laws rest on: E10b. -/
import Derived.Test.YthchfkhpmgkghaaGreatDoorQAJZA
import Derived.Test.YthchfkhpmgkghaaGreatDoorQANZA
set_option maxRecDepth 100000
set_option linter.unusedVariables false
set_option linter.unusedSimpArgs false
namespace Go.Proofs.YthchfkhpmgkghaaGreatDoor
open Go.RowKit
theorem awyS_nil {held l:List Int} {n:Nat} (hh:∀p ∈ held,0≤p∧p < (n:Int)):awyS held l 0 n=[]↔∀p ∈ held,p ∈ l:=by
 rw [nil_iff]
 constructor
 ·intro h p hp
  obtain ⟨h0,h1⟩:=hh p hp
  obtain ⟨j,rfl⟩:=Int.eq_ofNat_of_zero_le h0
  by_cases hl:(j:Int) ∈ l
  ·exact hl
  ·exact absurd (mem_awyS.2 ⟨j,Nat.zero_le _,by omega,hp,hl,rfl⟩) (h _)
 ·intro h x hx
  obtain ⟨j,_,_,h1,h2,_⟩:=mem_awyS.1 hx
  exact h2 (h _ h1)
theorem misS_nil {U:List Ent} {l:List Int} {d:List Atm}:misS U l d 0=[]↔∀a ∈ d,givS U l a=true:=by
 rw [nil_iff]
 constructor
 ·intro h a ha
  obtain ⟨j,hj,rfl⟩:=List.getElem_of_mem ha
  cases e:givS U l d[j]
  ·exact absurd (mem_misS.2 ⟨j,hj,e,rfl⟩) (h _)
  ·rfl
 ·intro h x hx
  obtain ⟨j,hj,e,_⟩:=mem_misS.1 hx
  rw [h _ (List.getElem_mem hj)] at e;cases e
theorem preS_nil {U:List Ent} {l:List Int} {d:List Atm}:preS U l d 0=[]↔∀a ∈ d,givS U l a=false:=by
 rw [nil_iff]
 constructor
 ·intro h a ha
  obtain ⟨j,hj,rfl⟩:=List.getElem_of_mem ha
  cases e:givS U l d[j]
  ·rfl
  ·unfold givS at e
   obtain ⟨p,hp,k⟩:=List.any_eq_true.1 e
   exact absurd (mem_preS.2 ⟨j,hj,p,hp,k,rfl⟩) (h _)
 ·intro h x hx
  obtain ⟨j,hj,p,hp,e,_⟩:=mem_preS.1 hx
  have:givS U l d[j]=true:=List.any_eq_true.2 ⟨p,hp,e⟩
  rw [h _ (List.getElem_mem hj)] at this;cases this
theorem fltS_nil {U:List Ent} {held:List Int} {ri rm:List Atm} {l:List Int} (hh:∀p ∈ held,0≤p∧p < (U.length:Int)):fltS U held ri rm l=[]↔insS U l=[]∧(∀p ∈ held,p ∈ l)∧(∀a ∈ ri,givS U l a=true)∧∀a ∈ rm,givS U l a=false:=by
 unfold fltS outS
 rw [List.append_eq_nil_iff,List.append_eq_nil_iff,List.append_eq_nil_iff,awyS_nil hh,misS_nil,preS_nil,and_assoc]
end Go.Proofs.YthchfkhpmgkghaaGreatDoor
