/- What the laws rest on: E10e. -/
import Derived.Test.YthchfkhpmgkghaaGreatDoorQBAZA
set_option maxRecDepth 100000
set_option linter.unusedVariables false
set_option linter.unusedSimpArgs false
namespace Go.Proofs.YthchfkhpmgkghaaGreatDoor
open Go.RowKit
theorem awyS_len {held l:List Int}:∀(n i:Nat),(awyS held l i n).length≤n
 | 0,_=>Nat.le_refl _
 | n+1,i=>by
  have:=awyS_len (held:=held) (l:=l) n (i+1)
  unfold awyS
  split<;>(try simp only [List.length_cons])<;>omega
theorem misS_len {U:List Ent} {l:List Int}:∀(d:List Atm) (i:Nat),(misS U l d i).length≤d.length
 | [],_=>Nat.le_refl _
 | g::r,i=>by
  have:=misS_len (U:=U) (l:=l) r (i+1)
  unfold misS
  split<;>(try simp only [List.length_cons])<;>omega
theorem preP_len {U:List Ent} {a:Atm} {i:Nat}:∀(l:List Int),(preP U a i l).length≤l.length
 | []=>Nat.le_refl _
 | q::r=>by
  have:=preP_len (U:=U) (a:=a) (i:=i) r
  unfold preP
  split<;>(try simp only [List.length_cons])<;>omega
theorem preS_len {U:List Ent} {l:List Int}:∀(d:List Atm) (i:Nat),(preS U l d i).length≤d.length*l.length
 | [],_=>Nat.zero_le _
 | g::r,i=>by
  have h1:=preP_len (U:=U) (a:=g) (i:=i) l
  have h2:=preS_len (U:=U) (l:=l) r (i+1)
  unfold preS
  rw [List.length_append,List.length_cons,Nat.succ_mul];omega
end Go.Proofs.YthchfkhpmgkghaaGreatDoor
