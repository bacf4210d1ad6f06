/- What the laws rest on: E11b. -/
import Derived.Test.YtpilmhoakopcaaaGreatDoorQAHZA
import Derived.Test.YtpilmhoakopcaaaGreatDoorQANZA
set_option maxRecDepth 100000
set_option linter.unusedVariables false
set_option linter.unusedSimpArgs false
namespace Go.Proofs.YtpilmhoakopcaaaGreatDoor
open Go.RowKit
theorem fil_len {α:Type} {a b:α→Bool}:∀{l:List α},(∀x ∈ l,a x=true→b x=true)→(l.filter a).length≤(l.filter b).length
 | [],_=>Nat.le_refl _
 | x::r,h=>by
  have ih:=fil_len (a:=a) (b:=b) (l:=r) fun y hy=>h y (List.mem_cons_of_mem _ hy)
  rw [List.filter_cons,List.filter_cons]
  cases ha:a x
  ·rw [if_neg (by decide)]
   split
   ·rw [List.length_cons];omega
   ·exact ih
  ·rw [if_pos rfl,if_pos (h x (List.mem_cons_self ..) ha),List.length_cons,List.length_cons];omega
theorem wnP_dn {U:List Ent} {s t:List Int} (h:∀p ∈ s,p ∈ t) (p:Int):wnP U t p≤wnP U s p:=by
 refine fil_len fun g _ hg=>?_
 rw [Bool.not_eq_true'] at hg ⊢
 rw [Bool.eq_false_iff] at hg ⊢
 exact fun q=>hg (metS_up h q)
theorem sum_le {f g:Int→Nat}:∀{l:List Int},(∀x ∈ l,f x≤g x)→(l.map f).sum≤(l.map g).sum
 | [],_=>Nat.le_refl _
 | x::r,h=>by
  have ih:=sum_le (f:=f) (g:=g) (l:=r) fun y hy=>h y (List.mem_cons_of_mem _ hy)
  have:=h x (List.mem_cons_self ..)
  rw [List.map_cons,List.map_cons,List.sum_cons,List.sum_cons];omega
theorem sum_split {f:Int→Nat} {k:Int}:∀{l:List Int},l.Pairwise (· < ·)→(l.map f).sum=((l.filter fun p=>!decide (p=k)).map f).sum+(if k ∈ l then f k else 0)
 | [],_=>by simp
 | x::r,h=>by
  obtain ⟨h1,h2⟩:=List.pairwise_cons.1 h
  have ih:=sum_split (f:=f) (k:=k) (l:=r) h2
  rw [List.map_cons,List.sum_cons,ih,List.filter_cons]
  by_cases e:x=k
  ·subst e
   have hn:x ∉ r:=fun q=>by have:=h1 x q;omega
   rw [show (!decide (x=x))=false by simp,if_neg hn,if_pos (List.mem_cons_self ..),if_neg (show ¬false=true by decide)];omega
  ·rw [show (!decide (x=k))=true by simp [e],if_pos rfl,List.map_cons,List.sum_cons]
   have:(k ∈ x::r)↔k ∈ r:=by simp [Ne.symm e]
   simp only [this];omega
theorem sum_fil {f:Int→Nat} {p:Int→Bool}:∀(l:List Int),((l.filter p).map f).sum≤(l.map f).sum
 | []=>Nat.le_refl _
 | x::r=>by
  have ih:=sum_fil (f:=f) (p:=p) r
  rw [List.filter_cons,List.map_cons,List.sum_cons]
  split
  ·rw [List.map_cons,List.sum_cons];omega
  ·omega
theorem wishes_more {U:List Ent} {s t:List Int} {k:Int} (hs:s.Pairwise (· < ·)) (ht:t.Pairwise (· < ·)) (h:∀p,p ∈ t↔p ∈ s∨p=k):wnS U t t≤wnS U s s+wnS U [k] [k]:=by
 have e:(t.filter fun p=>!decide (p=k))=s.filter fun p=>!decide (p=k):=ris_ext10 (List.Pairwise.filter _ ht) (List.Pairwise.filter _ hs) fun x=>by
  rw [List.mem_filter,List.mem_filter,h]
  constructor
  ·rintro ⟨h1,h2⟩
   exact ⟨h1.resolve_right (by simpa using h2),h2⟩
  ·rintro ⟨h1,h2⟩;exact ⟨.inl h1,h2⟩
 have h1:wnS U t t=((t.filter fun p=>!decide (p=k)).map (wnP U t)).sum+(if k ∈ t then wnP U t k else 0):=sum_split ht
 rw [if_pos ((h k).2 (.inr rfl)),e] at h1
 have h2:((s.filter fun p=>!decide (p=k)).map (wnP U t)).sum≤wnS U s s:=Nat.le_trans (sum_fil s) (sum_le fun x _=>wnP_dn (fun p hp=>(h p).2 (.inl hp)) x)
 have h3:wnP U t k≤wnS U [k] [k]:=by
  have:=wnP_dn (U:=U) (s:=[k]) (t:=t) (fun p hp=>by rw [List.mem_singleton.1 hp];exact (h k).2 (.inr rfl)) k
  unfold wnS
  simp only [List.map_cons,List.map_nil,List.sum_cons,List.sum_nil]
  omega
 omega
end Go.Proofs.YtpilmhoakopcaaaGreatDoor
