/- What the laws rest on: E10a. -/
import Derived.Test.YthchfkhpmgkghaaGreatDoorQAHZA
set_option maxRecDepth 100000
set_option linter.unusedVariables false
set_option linter.unusedSimpArgs false
namespace Go.Proofs.YthchfkhpmgkghaaGreatDoor
open Go.RowKit
theorem mem_awyS {held l:List Int} {x:Ft}:∀{n i:Nat},x ∈ awyS held l i n↔∃j:Nat,i≤j∧j < i+n∧(j:Int) ∈ held∧(j:Int) ∉ l∧x=⟨4,(j:Int),0⟩
 | 0,i=>by
  constructor
  ·intro h;cases h
  ·rintro ⟨j,h1,h2,-⟩;omega
 | n+1,i=>by
  have ih:=mem_awyS (held:=held) (l:=l) (x:=x) (n:=n) (i:=i+1)
  have hc:(held.contains (i:Int)&&!l.contains (i:Int))=true↔(i:Int) ∈ held∧(i:Int) ∉ l:=by simp
  unfold awyS
  split
  ·rename_i h
   rw [List.mem_cons,ih]
   constructor
   ·rintro (e|⟨j,h1,h2,r⟩)
    ·exact ⟨i,Nat.le_refl _,by omega,(hc.1 h).1,(hc.1 h).2,e⟩
    ·exact ⟨j,by omega,by omega,r⟩
   ·rintro ⟨j,h1,h2,r⟩
    by_cases e:j=i
    ·subst e;exact .inl r.2.2
    ·exact .inr ⟨j,by omega,by omega,r⟩
  ·rename_i h
   rw [ih]
   constructor
   ·rintro ⟨j,h1,h2,r⟩;exact ⟨j,by omega,by omega,r⟩
   ·rintro ⟨j,h1,h2,r⟩
    by_cases e:j=i
    ·subst e;exact absurd (hc.2 ⟨r.1,r.2.1⟩) h
    ·exact ⟨j,by omega,by omega,r⟩
theorem mem_misS {U:List Ent} {l:List Int} {x:Ft}:∀{d:List Atm} {i:Nat},x ∈ misS U l d i↔∃j,∃h:j < d.length,givS U l d[j]=false∧x=⟨5,((i+j:Nat):Int),0⟩
 | [],i=>by simp [misS]
 | g::r,i=>by
  have ih:=mem_misS (U:=U) (l:=l) (x:=x) (d:=r) (i:=i+1)
  have hs:(∃j,∃h:j < (g::r).length,givS U l (g::r)[j]=false∧x=⟨5,((i+j:Nat):Int),0⟩)↔(givS U l g=false∧x=⟨5,(i:Int),0⟩)∨∃j,∃h:j < r.length,givS U l r[j]=false∧x=⟨5,((i+1+j:Nat):Int),0⟩:=by
   constructor
   ·rintro ⟨j,h,e,q⟩
    cases j with
    | zero=>exact .inl ⟨e,q⟩
    | succ j=>exact .inr ⟨j,by simpa using h,e,by rw [q];congr 2;omega⟩
   ·rintro (⟨e,q⟩|⟨j,h,e,q⟩)
    ·exact ⟨0,by simp,e,q⟩
    ·exact ⟨j+1,by simpa using h,e,by rw [q];congr 2;omega⟩
  rw [hs]
  unfold misS
  split
  ·rename_i h
   rw [ih]
   exact ⟨.inr,fun q=>q.elim (fun e=>by rw [h] at e;cases e.1) id⟩
  ·rename_i h
   rw [List.mem_cons,ih]
   exact ⟨fun q=>q.elim (fun e=>.inl ⟨Bool.eq_false_iff.2 h,e⟩) .inr,fun q=>q.elim (fun e=>.inl e.2) .inr⟩
theorem mem_preP {U:List Ent} {a:Atm} {i:Nat} {x:Ft}:∀{l:List Int},x ∈ preP U a i l↔∃p ∈ l,gvA a (entA U p)=true∧x=⟨6,(i:Int),p⟩
 | []=>by simp [preP]
 | q::r=>by
  have ih:=mem_preP (U:=U) (a:=a) (i:=i) (x:=x) (l:=r)
  unfold preP
  split
  ·rename_i h
   rw [List.mem_cons,ih]
   constructor
   ·rintro (h'|⟨y,h1,h2,h3⟩)
    ·exact ⟨q,List.mem_cons_self ..,h,h'⟩
    ·exact ⟨y,List.mem_cons_of_mem _ h1,h2,h3⟩
   ·rintro ⟨y,h1,h2,h3⟩
    rcases List.mem_cons.1 h1 with rfl|h1
    ·exact .inl h3
    ·exact .inr ⟨y,h1,h2,h3⟩
  ·rename_i h
   rw [ih]
   constructor
   ·rintro ⟨y,h1,h2,h3⟩;exact ⟨y,List.mem_cons_of_mem _ h1,h2,h3⟩
   ·rintro ⟨y,h1,h2,h3⟩
    rcases List.mem_cons.1 h1 with rfl|h1
    ·exact absurd h2 h
    ·exact ⟨y,h1,h2,h3⟩
theorem mem_preS {U:List Ent} {l:List Int} {x:Ft}:∀{d:List Atm} {i:Nat},x ∈ preS U l d i↔∃j,∃h:j < d.length,∃p ∈ l,gvA d[j] (entA U p)=true∧x=⟨6,((i+j:Nat):Int),p⟩
 | [],i=>by simp [preS]
 | g::r,i=>by
  have ih:=mem_preS (U:=U) (l:=l) (x:=x) (d:=r) (i:=i+1)
  unfold preS
  rw [List.mem_append,mem_preP,ih]
  constructor
  ·rintro (⟨p,hp,e,q⟩|⟨j,h,p,hp,e,q⟩)
   ·exact ⟨0,by simp,p,hp,e,q⟩
   ·exact ⟨j+1,by simpa using h,p,hp,e,by rw [q];congr 2;omega⟩
  ·rintro ⟨j,h,p,hp,e,q⟩
   cases j with
   | zero=>exact .inl ⟨p,hp,e,q⟩
   | succ j=>exact .inr ⟨j,by simpa using h,p,hp,e,by rw [q];congr 2;omega⟩
end Go.Proofs.YthchfkhpmgkghaaGreatDoor
