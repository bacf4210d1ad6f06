/- What the laws rest on: P6t, E8q. -/
import Derived.Test.YtbljkpbaceiaiaaGreatDoorQAPZA
set_option maxRecDepth 100000
set_option linter.unusedVariables false
set_option linter.unusedSimpArgs false
namespace Go.Proofs.YtbljkpbaceiaiaaGreatDoor
open Go.RowKit
section
variable {α:Type} {E:Rd α} {sz:Nat}
theorem Grow.blk (g:Good E sz) {T:Nat→Prop} {W:World} {base b:Nat} {e:TypeId} {blk:Array Value} {l:List α} {css:List (List Value)} (hb:W.heap[b]?=some (.cells blk e (0,0))) (hbase:base≤b)
  (hl:css.length=l.length) (hf:blk.toList=css.flatten) (hm:l.length≤1000) (hE:∀k (hk:k < l.length),∃cs,css[k]?=some cs∧E W (fun x=>T x∧x < W.heap.size∧(Value.slice (some ⟨b,0,none⟩) l.length l.length).ownBlock≠some x) l[k] cs) :
  Grow E sz T W base e (.slice (some ⟨b,0,none⟩) l.length l.length) l:=by
 have hls:∀cs ∈ css,cs.length=sz:=fun cs hc=>by
  obtain ⟨k,hk,rfl⟩:=List.getElem_of_mem hc
  obtain ⟨cs,h1,h2⟩:=hE k (by omega)
  rw [List.getElem?_eq_getElem hk] at h1
  injection h1 with h1
  rw [h1];exact g.len h2
 have hlen:css.flatten.length=l.length*sz:=by rw [flatten_len sz hls,hl]
 have hbs:blk.size=l.length*sz:=by rw [←hlen,←hf,Array.length_toList]
 exact ⟨css,hl,⟨hlen,.inr ⟨b,l.length,blk,rfl,hbase,hb,Nat.le_refl _,by unfold maxLen;omega,hbs,by rw [←hf,List.take_of_length_le (by rw [Array.length_toList,hbs];exact Nat.le_refl _)]⟩⟩,hE⟩
end
theorem prio_first {l:List Pn} {p:Pn} {v:ByteArray} (hs:p.n≠star8):prioN (p::l) p.n v=if matN p p.n v=true then p.p else prioN l p.n v:=by
 have hm:matN p p.n v=hitN p p.n v:=by unfold matN hitN;rw [decide_eq_true rfl];rfl
 have h2:hitN p star8 v=false:=by unfold hitN;rw [decide_eq_false hs];rfl
 unfold prioN
 rw [hm]
 cases h:hitN p p.n v
 ·rw [List.find?_cons_of_neg (by simp [h]),List.find?_cons_of_neg (by simp [h2])];rfl
 ·rw [List.find?_cons_of_pos (by simp [h])];rfl
theorem prio_last {l:List Pn} {p:Pn} {nm v:ByteArray} (h:(l.any fun x=>hitN x nm v)=true):prioN (l++[p]) nm v=prioN l nm v:=by
 unfold prioN
 rw [List.find?_append]
 cases q:l.find? fun x=>hitN x nm v with
 | some x=>rfl
 | none=>
  obtain ⟨x,hx,hp⟩:=List.any_eq_true.1 h
  exact absurd hp (by simpa using List.find?_eq_none.1 q x hx)
end Go.Proofs.YtbljkpbaceiaiaaGreatDoor
