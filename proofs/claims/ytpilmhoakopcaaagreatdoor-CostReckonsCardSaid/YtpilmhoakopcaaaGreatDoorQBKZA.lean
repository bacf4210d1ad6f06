/- What the laws rest on: HeldT. -/
import Derived.Test.YtpilmhoakopcaaaGreatDoorQABZA
import Derived.Test.YtpilmhoakopcaaaGreatDoorQAIZA
set_option maxRecDepth 100000
set_option linter.unusedVariables false
set_option linter.unusedSimpArgs false
namespace Go.Proofs.YtpilmhoakopcaaaGreatDoor
open Go.RowKit
abbrev lT (W:World) (T:Nat→Prop):Nat→Prop:=fun c=>c < W.heap.size∧T c
section
variable {α:Type} {E:Rd α} {sz:Nat} {ty:TypeId} {T:Nat→Prop}
structure MgT (E:Rd α) (sz:Nat) (ty:TypeId) (T:Nat→Prop) (W WX:World) (b:Nat) (l:List α) (x:Value):Prop where
 g:Grow E sz T WX W.heap.size ty (.slice (some ⟨b,0,none⟩) 0 0) []
 x:rdRow sz E WX (lT W T) l [x]
 s:∀c,lT W T c→T c∧c < WX.heap.size∧(Value.slice (some ⟨b,0,none⟩) 0 0).ownBlock≠some c
 bs:W.heap.size≤WX.heap.size
 bel:Below W.heap.size W WX
theorem mgT_of (g:Good E sz) {W WX:World} {b:Nat} {l:List α} {x:Value} (hx:rdRow sz E W (lT W T) l [x]) (hb:WX.heap[b]?=some (.cells #[] ty (0,0))) (hge:W.heap.size≤b) (bel:Below W.heap.size W WX):MgT E sz ty T W WX b l x:=
 ⟨Grow.empty _ hb hge,(rdRow_good g).keep hx (fun c hc=>bel.block c hc.1),fun c hc=>⟨hc.2,Nat.lt_of_lt_of_le hc.1 bel.size,fun hh=>by simp only [Value.ownBlock,Option.some.injEq] at hh;have:=hc.1;omega⟩,bel.size,bel⟩
theorem mgTA (g:Good E sz) {W:World} {l:List α} {x:Value} (hx:rdRow sz E W (lT W T) l [x]):MgT E sz ty T W (W.alloc (Obj.cells #[] ty)) W.heap.size l x:=
 mgT_of g hx (heap_alloc_new W _) (Nat.le_refl _) ((Below.refl _ W).alloc (Nat.le_refl _) _)
theorem mgTB (g:Good E sz) {W:World} {l:List α} {x:Value} (blk:Array Value) (te:TypeId) (hx:rdRow sz E W (lT W T) l [x]):MgT E sz ty T W ((W.alloc (Obj.cells #[] ty)).alloc (Obj.cells blk te)) W.heap.size l x:=
 mgT_of g hx (old_heap _ (heap_alloc_new W _)) (Nat.le_refl _) (((Below.refl _ W).alloc (Nat.le_refl _) _).alloc (by simp) _)
theorem mgTC (g:Good E sz) {W:World} {l:List α} {x:Value} (blk:Array Value) (te:TypeId) (hx:rdRow sz E W (lT W T) l [x]):MgT E sz ty T W ((W.alloc (Obj.cells blk te)).alloc (Obj.cells #[] ty)) (W.heap.size+1) l x:=
 mgT_of g hx (by have:=heap_alloc_new (W.alloc (Obj.cells blk te)) (Obj.cells #[] ty);rw [World.size_alloc] at this;exact this) (Nat.le_succ _) (((Below.refl _ W).alloc (Nat.le_refl _) _).alloc (by simp) _)
structure Mg2T (E:Rd α) (sz:Nat) (ty:TypeId) (T:Nat→Prop) (W WY:World) (b:Nat) (l:List α) (v3:Value) (y:α):Prop where
 g:Grow E sz T WY W.heap.size ty v3 l
 x:rdRow sz E WY (fun c=>c=b∨lT W T c) [y] [.slice (some ⟨b,0,none⟩) 1 1]
 s:∀c,(c=b∨lT W T c)→T c∧c < WY.heap.size∧v3.ownBlock≠some c
 bs:W.heap.size≤WY.heap.size
 bel:Below W.heap.size W WY
theorem mgT_next {W WX w3:World} {b:Nat} {l:List α} {x v3:Value} (a:MgT E sz ty T W WX b l x) (hg:WX.grownBy w3 (Value.slice (some ⟨b,0,none⟩) 0 0).ownBlock):W.heap.size≤w3.heap.size∧Below W.heap.size W w3:=
 ⟨Nat.le_trans a.bs hg.size,grow_below a.g hg a.bel (Nat.le_refl _) a.bs⟩
theorem mgT2A (g:Good E sz) {W WX w3:World} {b:Nat} {l:List α} {x v3:Value} {y:α} (hT:∀c,W.heap.size≤c→T c) (blk:Array Value) (te:TypeId) (hE:E W (lT W T) y blk.toList) (a:MgT E sz ty T W WX b l x) (hG:Grow E sz T w3 W.heap.size ty v3 l) (hg:WX.grownBy w3 (Value.slice (some ⟨b,0,none⟩) 0 0).ownBlock) :
  Mg2T E sz ty T W (w3.alloc (Obj.cells blk te)) w3.heap.size l v3 y:=by
 obtain ⟨h1,h2⟩:=mgT_next (v3:=v3) a hg
 have h3:=h2.alloc h1 (Obj.cells blk te)
 refine ⟨hG.alloc g _,one_rd (ty:=te) g (heap_alloc_new w3 _) (g.more (g.keep hE fun c hc=>h3.block c hc.1) fun c hc=>.inr hc) (.inl rfl),fun c hc=>⟨?_,?_,fun hh=>?_⟩,by rw [World.size_alloc];omega,h3⟩
 ·rcases hc with rfl|hc
  ·exact hT _ h1
  ·exact hc.2
 ·rw [World.size_alloc]
  rcases hc with rfl|hc
  ·omega
  ·have:=hc.1;omega
 ·have:=hG.lt c hh
  rcases hc with rfl|hc
  ·omega
  ·have:=hc.1;omega
theorem mgT2BC (g:Good E sz) {W WX w3:World} {b q:Nat} {l:List α} {x v3:Value} {y:α} {blk:Array Value} {te:TypeId} (hT:∀c,W.heap.size≤c→T c) (hE:E W (lT W T) y blk.toList) (a:MgT E sz ty T W WX b l x) (hq:WX.heap[q]?=some (.cells blk te (0,0))) (hqb:q≠b) (hqW:W.heap.size≤q) (hG:Grow E sz T w3 W.heap.size ty v3 l)
  (hg:WX.grownBy w3 (Value.slice (some ⟨b,0,none⟩) 0 0).ownBlock) (hm:v3.ownBlock=(Value.slice (some ⟨b,0,none⟩) 0 0).ownBlock∨∃c,v3.ownBlock=some c∧WX.heap.size≤c):Mg2T E sz ty T W w3 q l v3 y:=by
 obtain ⟨h1,h2⟩:=mgT_next (v3:=v3) a hg
 have hlt:q < WX.heap.size:=(Array.getElem?_eq_some_iff.1 hq).1
 have hne:∀c,(c=q∨lT W T c)→v3.ownBlock≠some c:=fun c hc hh=>by
  have hl:=(hG.lt c hh).1
  rcases hc with hc|hc
  ·rcases hm with h|⟨d,h,hd⟩
   ·rw [h] at hh;simp only [Value.ownBlock,Option.some.injEq] at hh;omega
   ·rw [h] at hh;injection hh with hh;omega
  ·have:=hc.1;omega
 refine ⟨hG,one_rd (ty:=te) g ((hg.block q hlt (fun hh=>by simp only [Value.ownBlock,Option.some.injEq] at hh;omega)).trans hq) (g.more (g.keep hE fun c hc=>h2.block c hc.1) fun c hc=>.inr hc) (.inl rfl),fun c hc=>⟨?_,?_,hne c hc⟩,h1,h2⟩
 ·rcases hc with rfl|hc
  ·exact hT _ hqW
  ·exact hc.2
 ·have:=hg.size
  rcases hc with rfl|hc
  ·omega
  ·have:=hc.1;omega
theorem mgT2B (g:Good E sz) {W w3:World} {l:List α} {x v3:Value} {y:α} {blk:Array Value} {te:TypeId} (hT:∀c,W.heap.size≤c→T c) (hE:E W (lT W T) y blk.toList) (a:MgT E sz ty T W ((W.alloc (Obj.cells #[] ty)).alloc (Obj.cells blk te)) W.heap.size l x) (hG:Grow E sz T w3 W.heap.size ty v3 l)
  (hg:((W.alloc (Obj.cells #[] ty)).alloc (Obj.cells blk te)).grownBy w3 (Value.slice (some ⟨W.heap.size,0,none⟩) 0 0).ownBlock) (hm:v3.ownBlock=(Value.slice (some ⟨W.heap.size,0,none⟩) 0 0).ownBlock∨∃c,v3.ownBlock=some c∧((W.alloc (Obj.cells #[] ty)).alloc (Obj.cells blk te)).heap.size≤c):Mg2T E sz ty T W w3 (W.heap.size+1) l v3 y:=
 mgT2BC g hT hE a (by have:=heap_alloc_new (W.alloc (Obj.cells #[] ty)) (Obj.cells blk te);rw [World.size_alloc] at this;exact this) (by omega) (by omega) hG hg hm
theorem mgT2C (g:Good E sz) {W w3:World} {l:List α} {x v3:Value} {y:α} {blk:Array Value} {te:TypeId} (hT:∀c,W.heap.size≤c→T c) (hE:E W (lT W T) y blk.toList) (a:MgT E sz ty T W ((W.alloc (Obj.cells blk te)).alloc (Obj.cells #[] ty)) (W.heap.size+1) l x) (hG:Grow E sz T w3 W.heap.size ty v3 l)
  (hg:((W.alloc (Obj.cells blk te)).alloc (Obj.cells #[] ty)).grownBy w3 (Value.slice (some ⟨W.heap.size+1,0,none⟩) 0 0).ownBlock) (hm:v3.ownBlock=(Value.slice (some ⟨W.heap.size+1,0,none⟩) 0 0).ownBlock∨∃c,v3.ownBlock=some c∧((W.alloc (Obj.cells blk te)).alloc (Obj.cells #[] ty)).heap.size≤c):Mg2T E sz ty T W w3 W.heap.size l v3 y:=
 mgT2BC g hT hE a (old_heap _ (heap_alloc_new W _)) (by omega) (Nat.le_refl _) hG hg hm
structure Mg3T (E:Rd α) (sz:Nat) (ty:TypeId) (T:Nat→Prop) (W w5:World) (l:List α) (v5:Value) (m:List α) (x:Value):Prop where
 g:Grow E sz T w5 W.heap.size ty v5 l
 x:rdRow sz E w5 (lT W T) m [x]
 s:∀c,lT W T c→T c∧c < w5.heap.size∧v5.ownBlock≠some c
 bs:W.heap.size≤w5.heap.size
 bel:Below W.heap.size W w5
theorem mgT_3 (g:Good E sz) {W WY w5:World} {b:Nat} {l l' m:List α} {v3 v5 x:Value} {y:α} (a:Mg2T E sz ty T W WY b l v3 y) (hx:rdRow sz E W (lT W T) m [x]) (hG:Grow E sz T w5 W.heap.size ty v5 l') (hg:WY.grownBy w5 v3.ownBlock):Mg3T E sz ty T W w5 l' v5 m x:=by
 have hb:=grow_below a.g hg a.bel (Nat.le_refl _) a.bs
 exact ⟨hG,(rdRow_good g).keep hx (fun c hc=>hb.block c hc.1),fun c hc=>⟨hc.2,Nat.lt_of_lt_of_le hc.1 hb.size,fun hh=>by have:=(hG.lt c hh).1;have:=hc.1;omega⟩,hb.size,hb⟩
theorem mgT_end (g:Good E sz) {W w5 w7:World} {l l' m:List α} {v5 v7 x:Value} (hT:∀c,W.heap.size≤c→T c) (a:Mg3T E sz ty T W w5 l v5 m x) (hG:Grow E sz T w7 W.heap.size ty v7 l') (hg:w5.grownBy w7 v5.ownBlock):Below W.heap.size W w7∧rdRow sz E w7 (fun c=>c < w7.heap.size∧T c) l' [v7]:=
 ⟨grow_below a.g hg a.bel (Nat.le_refl _) a.bs,(rdRow_good g).more (hG.reads g) fun c hc=>⟨hc.1,hc.2.elim (hT c) id⟩⟩
end
end Go.Proofs.YtpilmhoakopcaaaGreatDoor
