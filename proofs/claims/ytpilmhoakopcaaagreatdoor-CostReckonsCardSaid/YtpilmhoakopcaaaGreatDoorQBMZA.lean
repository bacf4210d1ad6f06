/- What the laws rest on: E9g. -/
import Derived.Test.YtpilmhoakopcaaaGreatDoorQACZA
set_option maxRecDepth 100000
set_option linter.unusedVariables false
set_option linter.unusedSimpArgs false
namespace Go.Proofs.YtpilmhoakopcaaaGreatDoor
open Go.RowKit
theorem plU_in9 {e:Ent}:∀(L:List Ent) (i:Nat),plU e.n e.v L i < 0↔in9 L e=false
 | [],i=>⟨fun _=>rfl,fun _=>by show (-1:Int) < 0;decide⟩
 | x::r,i=>by
  rw [plU_cons]
  have s:in9 (x::r) e=(decide (one9 x e)||in9 r e):=rfl
  rw [s]
  split
  ·rename_i h
   rw [decide_eq_true (show one9 x e from h)]
   exact ⟨fun q=>by omega,fun q=>by cases q⟩
  ·rename_i h
   rw [decide_eq_false (show ¬one9 x e from h),Bool.false_or]
   exact plU_in9 r (i+1)
theorem add9_place {L:List Ent} {e:Ent}:(plU e.n e.v L 0 < 0→addU L e=putU L e)∧(¬plU e.n e.v L 0 < 0→addU L e=L):=by
 unfold addU
 exact ⟨fun h=>if_neg (by rw [(plU_in9 L 0).1 h];decide),fun h=>if_pos (by
  cases q:in9 L e
  ·exact absurd ((plU_in9 L 0).2 q) h
  ·rfl)⟩
theorem fold_take {α β:Type} {f:β→α→β} {b:β} {l:List α} {k:Nat} (h:k < l.length):(l.take (k+1)).foldl f b=f ((l.take k).foldl f b) l[k]:=by
 rw [List.take_succ_eq_append_getElem h,List.foldl_append];rfl
theorem putU_len (L:List Ent) (e:Ent):(putU L e).length=L.length+1:=by
 have q:=congrArg List.length (List.takeWhile_append_dropWhile (p:=fun x=>lesB x e) (l:=L))
 rw [List.length_append] at q
 unfold putU
 rw [List.length_append,List.length_cons];omega
theorem fold_put_len:∀(he L:List Ent),(he.foldl putU L).length=L.length+he.length
 | [],L=>rfl
 | e::r,L=>by
  show (r.foldl putU (putU L e)).length=_
  rw [fold_put_len r,putU_len,List.length_cons];omega
theorem fold_addU_len:∀(ix L:List Ent),(ix.foldl addU L).length≤L.length+ix.length
 | [],L=>Nat.le_refl _
 | e::r,L=>by
  show (r.foldl addU (addU L e)).length≤_
  have h:=fold_addU_len r (addU L e)
  have h2:(addU L e).length≤L.length+1:=by
   unfold addU
   split
   ·omega
   ·rw [putU_len];exact Nat.le_refl _
  rw [List.length_cons];omega
end Go.Proofs.YtpilmhoakopcaaaGreatDoor
