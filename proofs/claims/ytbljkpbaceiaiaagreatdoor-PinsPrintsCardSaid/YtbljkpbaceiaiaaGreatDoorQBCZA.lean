/- What the laws rest on: E8o, E8z, HeldP. -/
import Derived.Test.YtbljkpbaceiaiaaGreatDoorQAFZA
import Derived.Test.YtbljkpbaceiaiaaGreatDoorQAGZA
import Derived.Test.YtbljkpbaceiaiaaGreatDoorQBDZA
set_option maxRecDepth 100000
set_option linter.unusedVariables false
set_option linter.unusedSimpArgs false
namespace Go.Proofs.YtbljkpbaceiaiaaGreatDoor
open Go.RowKit Go.WideShapes Go.ChangeShapes Go.ChangeAt Go.WideMaps Go.WideElems Go.Joins Go.Deep
section
variable {H:Type} {enc:TypeId × Value→H} {W:World}
theorem open_pin_arg {v:Value} {d:DataW H} {p:List MemPlace} {base:Nat} (hv:Value.okWide Tryz.prog W .any base 30 v) (h:DataW.Trod enc Tryz.prog W 0 (fun _=>true) true 30 v d p) :
  ∃x:Pn,v=x.val∧PnOk x:=by
 obtain ⟨v0,v1,v2,y0,y1,y2,n,rfl,_,_,h0,h1,h2⟩:=open_agg3 Tryz.underlying30 (by kernel_rfl) (by kernel_rfl) hv h
 obtain ⟨u,rfl,wu⟩:=one_string h0
 obtain ⟨r,rfl,wr⟩:=one_string h1
 obtain ⟨e,rfl,we⟩:=one_int h2
 exact ⟨⟨u,r,e⟩,rfl,wu,wr,we⟩
end
section
variable {H:Type} {enc:TypeId × Value→H} {W:World}
theorem bytes_pin:Tryz.prog.bytesOf 30=40:=by kernel_rfl
theorem reach_pins {A:Option Addr} {n c:Nat} {d:DataW H} {p:List MemPlace} (h:DataW.Trod enc Tryz.prog W 0 (fun _=>true) true 23 (.slice A n c) d p) {ts:List TypeId} {ds:List (DataW H)} {j:Nat}
  (hz:(DataW.weightsEach Tryz.prog ts ds).all (·≤reachBytes)=true) (ht:ts[j]?=some 23) (hd:ds[j]?=some d):n*40≤140737488351232:=reach_slice Tryz.underlying23 bytes_pin h hz ht hd
end
end Go.Proofs.YtbljkpbaceiaiaaGreatDoor
namespace Go.Proofs.YtbljkpbaceiaiaaGreatDoor
open Go.RowKit
section
variable {α:Type} {E:Rd α} {sz:Nat} {T:TypeId} {y:α} {blk:Array Value}
theorem one_any (g:Good E sz) (hy:∀w S,E w S y blk.toList) {w:World} {S:Nat→Prop} {b:Nat} (hb:w.heap[b]?=some (.cells blk T (0,0))) (hS:S b):rdRow sz E w S [y] [.slice (some ⟨b,0,none⟩) 1 1]:=
 rd_block g (S:=S) (l:=[y]) (css:=[blk.toList]) hb hS rfl (by simp) (fun k hk=>by
  simp only [List.length_singleton] at hk
  obtain rfl:k=0:=by omega
  exact ⟨_,rfl,hy _ _⟩) (by simp)
structure Mq (E:Rd α) (sz:Nat) (T:TypeId) (W WX:World) (b:Nat) (l:List α) (x:Value):Prop where
 g:Grow E sz (fun _=>True) WX W.heap.size T (.slice (some ⟨b,0,none⟩) 0 0) []
 x:rdRow sz E WX (lt_ W.heap.size) l [x]
 s:∀c,lt_ W.heap.size c→True∧c < WX.heap.size∧(Value.slice (some ⟨b,0,none⟩) 0 0).ownBlock≠some c
 bs:W.heap.size≤WX.heap.size
 bel:Below W.heap.size W WX
theorem mq_of (g:Good E sz) {W WX:World} {b:Nat} {l:List α} {x:Value} (hx:rdRow sz E W (lt_ W.heap.size) l [x]) (hb:WX.heap[b]?=some (.cells #[] T (0,0))) (hge:W.heap.size≤b) (bel:Below W.heap.size W WX):Mq E sz T W WX b l x:=
 ⟨Grow.empty _ hb hge,(rdRow_good g).below hx bel,fun c hc=>⟨trivial,Nat.lt_of_lt_of_le hc bel.size,fun hh=>by simp only [Value.ownBlock,Option.some.injEq] at hh;unfold lt_ at hc;omega⟩,bel.size,bel⟩
theorem mqA (g:Good E sz) {W:World} {l:List α} {x:Value} (hx:rdRow sz E W (lt_ W.heap.size) l [x]):Mq E sz T W (W.alloc (Obj.cells #[] T)).drew W.heap.size l x:=
 mq_of g hx (heap_alloc_new W _) (Nat.le_refl _) (belD ((Below.refl _ W).alloc (Nat.le_refl _) _) 1)
theorem mqB (g:Good E sz) {W:World} {l:List α} {x:Value} (blk:Array Value) (hx:rdRow sz E W (lt_ W.heap.size) l [x]):Mq E sz T W ((W.alloc (Obj.cells #[] T)).alloc (Obj.cells blk T)).drew W.heap.size l x:=
 mq_of g hx (old_heap _ (heap_alloc_new W _)) (Nat.le_refl _) (belD (((Below.refl _ W).alloc (Nat.le_refl _) _).alloc (by simp) _) 1)
theorem mqC (g:Good E sz) {W:World} {l:List α} {x:Value} (blk:Array Value) (hx:rdRow sz E W (lt_ W.heap.size) l [x]):Mq E sz T W ((W.alloc (Obj.cells blk T)).alloc (Obj.cells #[] T)).drew (W.heap.size+1) l x:=
 mq_of g hx (by have:=heap_alloc_new (W.alloc (Obj.cells blk T)) (Obj.cells #[] T);rw [World.size_alloc] at this;exact this) (Nat.le_succ _) (belD (((Below.refl _ W).alloc (Nat.le_refl _) _).alloc (by simp) _) 1)
structure Mq2 (E:Rd α) (sz:Nat) (T:TypeId) (W WY:World) (b:Nat) (l:List α) (v3:Value) (y:α):Prop where
 g:Grow E sz (fun _=>True) WY W.heap.size T v3 l
 x:rdRow sz E WY (fun c=>c=b) [y] [.slice (some ⟨b,0,none⟩) 1 1]
 s:∀c,c=b→True∧c < WY.heap.size∧v3.ownBlock≠some c
 bs:W.heap.size≤WY.heap.size
 bel:Below W.heap.size W WY
theorem mq_next {W WX w3:World} {b:Nat} {l:List α} {x v3:Value} (a:Mq E sz T W WX b l x) (hG:Grow E sz (fun _=>True) w3 W.heap.size T v3 l) (hg:WX.grownBy w3 (Value.slice (some ⟨b,0,none⟩) 0 0).ownBlock):W.heap.size≤w3.heap.size∧Below W.heap.size W w3:=
 ⟨Nat.le_trans a.bs hg.size,grow_below a.g hg a.bel (Nat.le_refl _) a.bs⟩
theorem mq2A (g:Good E sz) (hy:∀w S,E w S y blk.toList) {W WX w3:World} {b:Nat} {l:List α} {x v3:Value} (a:Mq E sz T W WX b l x) (hG:Grow E sz (fun _=>True) w3 W.heap.size T v3 l) (hg:WX.grownBy w3 (Value.slice (some ⟨b,0,none⟩) 0 0).ownBlock) :
  Mq2 E sz T W (w3.alloc (Obj.cells blk T)) w3.heap.size l v3 y:=by
 obtain ⟨h1,h2⟩:=mq_next a hG hg
 exact ⟨hG.alloc g _,one_any g hy (heap_alloc_new w3 _) rfl,fun c hc=>⟨trivial,by rw [World.size_alloc];omega,fun hh=>by have:=(hG.lt c hh).2;omega⟩,by rw [World.size_alloc];omega,h2.alloc h1 _⟩
theorem mq2BC (g:Good E sz) (hy:∀w S,E w S y blk.toList) {W WX w3:World} {b q:Nat} {l:List α} {x v3:Value} (a:Mq E sz T W WX b l x) (hq:WX.heap[q]?=some (.cells blk T (0,0))) (hqb:q≠b) (hG:Grow E sz (fun _=>True) w3 W.heap.size T v3 l)
  (hg:WX.grownBy w3 (Value.slice (some ⟨b,0,none⟩) 0 0).ownBlock) (hm:v3.ownBlock=(Value.slice (some ⟨b,0,none⟩) 0 0).ownBlock∨∃c,v3.ownBlock=some c∧WX.heap.size≤c):Mq2 E sz T W w3 q l v3 y:=by
 obtain ⟨h1,h2⟩:=mq_next a hG hg
 have hlt:q < WX.heap.size:=(Array.getElem?_eq_some_iff.1 hq).1
 have hne:∀c,c=q→v3.ownBlock≠some c:=fun c hc hh=>by
  rcases hm with h|⟨d,h,hd⟩
  ·rw [h] at hh;simp only [Value.ownBlock,Option.some.injEq] at hh;omega
  ·rw [h] at hh;injection hh with hh;omega
 exact ⟨hG,one_any g hy ((hg.block q hlt (fun hh=>by simp only [Value.ownBlock,Option.some.injEq] at hh;omega)).trans hq) rfl,fun c hc=>⟨trivial,by have:=hg.size;omega,hne c hc⟩,h1,h2⟩
theorem mq2B (g:Good E sz) (hy:∀w S,E w S y blk.toList) {W w3:World} {l:List α} {x v3:Value} (a:Mq E sz T W ((W.alloc (Obj.cells #[] T)).alloc (Obj.cells blk T)).drew W.heap.size l x) (hG:Grow E sz (fun _=>True) w3 W.heap.size T v3 l)
  (hg:((W.alloc (Obj.cells #[] T)).alloc (Obj.cells blk T)).drew.grownBy w3 (Value.slice (some ⟨W.heap.size,0,none⟩) 0 0).ownBlock) (hm:v3.ownBlock=(Value.slice (some ⟨W.heap.size,0,none⟩) 0 0).ownBlock∨∃c,v3.ownBlock=some c∧((W.alloc (Obj.cells #[] T)).alloc (Obj.cells blk T)).drew.heap.size≤c):Mq2 E sz T W w3 (W.heap.size+1) l v3 y:=
 mq2BC g hy a (by have:=heap_alloc_new (W.alloc (Obj.cells #[] T)) (Obj.cells blk T);rw [World.size_alloc] at this;exact this) (by omega) hG hg hm
theorem mq2C (g:Good E sz) (hy:∀w S,E w S y blk.toList) {W w3:World} {l:List α} {x v3:Value} (a:Mq E sz T W ((W.alloc (Obj.cells blk T)).alloc (Obj.cells #[] T)).drew (W.heap.size+1) l x) (hG:Grow E sz (fun _=>True) w3 W.heap.size T v3 l)
  (hg:((W.alloc (Obj.cells blk T)).alloc (Obj.cells #[] T)).drew.grownBy w3 (Value.slice (some ⟨W.heap.size+1,0,none⟩) 0 0).ownBlock) (hm:v3.ownBlock=(Value.slice (some ⟨W.heap.size+1,0,none⟩) 0 0).ownBlock∨∃c,v3.ownBlock=some c∧((W.alloc (Obj.cells blk T)).alloc (Obj.cells #[] T)).drew.heap.size≤c):Mq2 E sz T W w3 W.heap.size l v3 y:=
 mq2BC g hy a (old_heap _ (heap_alloc_new W _)) (by omega) hG hg hm
theorem mq_end (g:Good E sz) (hf:∀(w:World) (S S':Nat→Prop) a cs,E w S a cs→E w S' a cs) {W WY w5:World} {b:Nat} {l:List α} {v3 v5:Value} (a:Mq2 E sz T W WY b l v3 y) (hG:Grow E sz (fun _=>True) w5 W.heap.size T v5 (l++[y])) (hg:WY.grownBy w5 v3.ownBlock) :
  Below W.heap.size W w5∧rdRow sz E w5 (fun b=>W.heap.size≤b∧b < w5.heap.size) (l++[y]) [v5]:=by
 refine ⟨grow_below a.g hg a.bel (Nat.le_refl _) a.bs,?_⟩
 have h2:Grow E sz (fun _=>False) w5 W.heap.size T v5 (l++[y]):=hG.flat hf
 exact (rdRow_good g).more (h2.reads g) fun b hb=>⟨hb.2.resolve_right id,hb.1⟩
end
end Go.Proofs.YtbljkpbaceiaiaaGreatDoor
