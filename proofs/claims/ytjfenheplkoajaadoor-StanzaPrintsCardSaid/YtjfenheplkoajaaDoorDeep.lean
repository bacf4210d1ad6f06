/- Memory that reads as data of whatever depth: what a reader says of a value's cells, what a slice says, and what a slice of the call's own says that grows. No condition. -/
import Derived.Test.YtjfenheplkoajaaDoorStr
import Derived.Test.YtjfenheplkoajaaDoorProg
import Derived.Maps.AppendAt
import Derived.OwnWalk
import Derived.Below
import Derived.OneCell
import Derived.BigQuiet
import Derived.RangeFuncOwn
import Derived.OwnWalkIn
namespace Go.Proofs.YtjfenheplkoajaaDoor
open Go.RowKit
theorem blk_add (a : Addr) (k : Nat) : (a.add k).block = a.block := by unfold Addr.add; split <;> rfl
theorem belD {N : Nat} {a w : World} (h : Below N a w) (n : Nat) : Below N a (w.drewN n) := ⟨h.os, h.tape, h.output, h.size, h.block⟩
theorem bel2 {a b c : World} {N : Nat} (h : Below N a b) (k : Below b.heap.size b c) : N ≤ a.heap.size → Below N a c := fun hn => h.trans (k.mono (Nat.le_trans hn h.size))
/-- Only draws lie between two worlds. -/
def Dr (w w' : World) : Prop := ∃ q, w' = w.drewN q
theorem Dr.refl (w : World) : Dr w w := ⟨0, rfl⟩
theorem Dr.more {w w' : World} (h : Dr w w') (n : Nat) : Dr w (w'.drewN n) := by obtain ⟨q, rfl⟩ := h; exact ⟨q + n, by rw [World.drewN_drewN]⟩
theorem Dr.below {w w' : World} (h : Dr w w') (N : Nat) : Below N w w' := by obtain ⟨q, rfl⟩ := h; exact belD (Below.refl _ _) q
theorem Dr.size {w w' : World} (h : Dr w w') : w'.heap.size = w.heap.size := by obtain ⟨q, rfl⟩ := h; rfl
/-- A reader: in this world, by blocks of which S holds, these cells read as that. -/
abbrev Rd (α : Type) := World → (Nat → Prop) → α → List Value → Prop
/-- What every reader abides: blocks that lie as they lay; more blocks; so many cells, each of them one. -/
structure Good {α : Type} (E : Rd α) (sz : Nat) : Prop where
  keep : ∀ {w w' : World} {S : Nat → Prop} {a : α} {cs : List Value}, E w S a cs → (∀ b, S b → w'.heap[b]? = w.heap[b]?) → E w' S a cs
  more : ∀ {w : World} {S S' : Nat → Prop} {a : α} {cs : List Value}, E w S a cs → (∀ b, S b → S' b) → E w S' a cs
  turn : ∀ {w w' : World} {S : Nat → Prop} {a : α} {cs : List Value} {row : Option Nat}, E w S a cs → w.grownBy w' row → (∀ r, row = some r → ∃ o : Obj, w.heap[r]? = some o ∧ o.isCells = false) → E w' S a cs
  len : ∀ {w : World} {S : Nat → Prop} {a : α} {cs : List Value}, E w S a cs → cs.length = sz
  one : ∀ {w : World} {S : Nat → Prop} {a : α} {cs : List Value}, E w S a cs → ∀ u ∈ cs, u.oneCell' = true
section
variable {α : Type} {E : Rd α} {sz : Nat}
theorem Good.both (g : Good E sz) {w w' : World} {S S' : Nat → Prop} {a : α} {cs : List Value} (h : E w S a cs) (hk : ∀ b, S b → w'.heap[b]? = w.heap[b]?) (hm : ∀ b, S b → S' b) : E w' S' a cs := g.more (g.keep h hk) hm
/-- A slice whose elements, of sz cells each, read as those of a list. -/
def rdRow (sz : Nat) (E : Rd α) : Rd (List α) := fun w S l cs =>
  ∃ A c, cs = [.slice A l.length c] ∧ l.length ≤ c ∧ c ≤ maxLen ∧
    ∀ k (hk : k < l.length), ∃ ad es, A = some ad ∧ S ad.block ∧ E w S l[k] es ∧ es.length = sz ∧ ∀ j u, es[j]? = some u → w.cell? (ad.add (k * sz + j)) = some u
theorem rdRow_good (g : Good E sz) : Good (rdRow sz E) 1 where
  keep := by
    rintro w w' S l cs ⟨A, c, rfl, h1, h2, h⟩ hk
    refine ⟨A, c, rfl, h1, h2, fun k hk' => ?_⟩
    obtain ⟨ad, es, e, hS, hE, hl, hc⟩ := h k hk'
    refine ⟨ad, es, e, hS, g.keep hE hk, hl, fun j u hu => ?_⟩
    rw [← hc j u hu]
    exact World.cell?_of_block (by rw [blk_add]; exact hk _ hS)
  more := by
    rintro w S S' l cs ⟨A, c, rfl, h1, h2, h⟩ hm
    refine ⟨A, c, rfl, h1, h2, fun k hk' => ?_⟩
    obtain ⟨ad, es, e, hS, hE, hl, hc⟩ := h k hk'
    exact ⟨ad, es, e, hm _ hS, g.more hE hm, hl, hc⟩
  turn := by
    rintro w w' S l cs row ⟨A, c, rfl, h1, h2, h⟩ hg hr
    refine ⟨A, c, rfl, h1, h2, fun k hk' => ?_⟩
    obtain ⟨ad, es, e, hS, hE, hl, hc⟩ := h k hk'
    exact ⟨ad, es, e, hS, g.turn hE hg hr, hl, fun j u hu => cell_kept (hc j u hu) hg hr⟩
  len := by rintro w S l cs ⟨A, c, rfl, _⟩; rfl
  one := by rintro w S l cs ⟨A, c, rfl, _⟩ u hu; rw [List.mem_singleton.1 hu]; rfl
theorem rdRow_nil (w : World) (S : Nat → Prop) : rdRow sz E w S [] [.slice none 0 0] := ⟨none, 0, rfl, Nat.le_refl _, Nat.zero_le _, fun k hk => absurd hk (by simp)⟩
/-- Blocks below a number. -/
def lt_ (N : Nat) : Nat → Prop := fun b => b < N
theorem Good.below (g : Good E sz) {N : Nat} {w w' : World} {a : α} {cs : List Value} (h : E w (lt_ N) a cs) (hb : Below N w w') : E w' (lt_ N) a cs := g.keep h fun b hb' => hb.block b hb'
theorem Good.up (g : Good E sz) {N N' : Nat} {w : World} {a : α} {cs : List Value} (h : E w (lt_ N) a cs) (hn : N ≤ N') : E w (lt_ N') a cs := g.more h fun _ hb => Nat.lt_of_lt_of_le hb hn
/-- A slice of the call's own that grows: its row is its own; its elements lie in blocks of which T holds, and not in the row. -/
def Grow (E : Rd α) (sz : Nat) (T : Nat → Prop) (w : World) (base : Nat) (e : TypeId) (v : Value) (l : List α) : Prop :=
  ∃ css : List (List Value), css.length = l.length ∧ w.ownsRow base e sz v l.length css.flatten ∧
    ∀ k (hk : k < l.length), ∃ cs, css[k]? = some cs ∧ E w (fun b => T b ∧ b < w.heap.size ∧ v.ownBlock ≠ some b) l[k] cs
theorem Grow.nil (T : Nat → Prop) (w : World) (base : Nat) (e : TypeId) : Grow E sz T w base e (.slice none 0 0) [] :=
  ⟨[], rfl, World.ownsRow_nil w base e sz, fun k hk => absurd hk (by simp)⟩
theorem flatten_len (sz : Nat) : ∀ {css : List (List Value)}, (∀ cs ∈ css, cs.length = sz) → css.flatten.length = css.length * sz
  | [], _ => by simp
  | c :: css, h => by
    have := flatten_len sz (css := css) (fun cs hc => h cs (by simp [hc]))
    rw [List.flatten_cons, List.length_append, this, h c (by simp), List.length_cons, Nat.add_mul]; omega
theorem flatten_at (sz : Nat) : ∀ {css : List (List Value)}, (∀ cs ∈ css, cs.length = sz) → ∀ {k : Nat} {cs : List Value}, css[k]? = some cs → ∀ j u, cs[j]? = some u → css.flatten[k * sz + j]? = some u
  | [], _, k, cs, hk, _, _, _ => by simp at hk
  | c :: css, h, 0, cs, hk, j, u, hu => by
    simp only [List.getElem?_cons_zero, Option.some.injEq] at hk
    subst hk
    rw [List.flatten_cons, Nat.zero_mul, Nat.zero_add, List.getElem?_append_left (List.getElem?_eq_some_iff.1 hu).1]; exact hu
  | c :: css, h, k + 1, cs, hk, j, u, hu => by
    rw [List.getElem?_cons_succ] at hk
    have := flatten_at sz (fun cs hc => h cs (by simp [hc])) hk j u hu
    have hc := h c (by simp)
    rw [List.flatten_cons, List.getElem?_append_right (by rw [hc, Nat.add_mul]; omega), hc, ← this]
    congr 1
    rw [Nat.add_mul]; omega
theorem Grow.lens (g : Good E sz) {T : Nat → Prop} {w : World} {v : Value} {l : List α} {css : List (List Value)} (hl : css.length = l.length)
    (h : ∀ k (hk : k < l.length), ∃ cs, css[k]? = some cs ∧ E w (fun b => T b ∧ b < w.heap.size ∧ v.ownBlock ≠ some b) l[k] cs) : ∀ cs ∈ css, cs.length = sz := by
  intro cs hc
  obtain ⟨k, hk, rfl⟩ := List.getElem_of_mem hc
  obtain ⟨cs, h1, h2⟩ := h k (by omega)
  rw [List.getElem?_eq_getElem hk] at h1
  injection h1 with h1
  rw [h1]; exact g.len h2
/-- What has grown reads as a slice. -/
theorem Grow.reads (g : Good E sz) {T : Nat → Prop} {w : World} {base : Nat} {e : TypeId} {v : Value} {l : List α} (h : Grow E sz T w base e v l) : rdRow sz E w (fun b => b < w.heap.size ∧ (base ≤ b ∨ T b)) l [v] := by
  obtain ⟨css, hl, ho, hE⟩ := h
  have hls := Grow.lens g hl hE
  rcases ho.2 with ⟨rfl, h0⟩ | ⟨gb, cap, cur, rfl, hb, hg, hn, hm, hs, ht⟩
  · obtain rfl : l = [] := List.eq_nil_of_length_eq_zero h0
    exact rdRow_nil w _
  · have hlt : gb < w.heap.size := (Array.getElem?_eq_some_iff.1 hg).1
    refine ⟨_, cap, rfl, hn, hm, fun k hk => ?_⟩
    obtain ⟨cs, h1, h2⟩ := hE k hk
    refine ⟨_, cs, rfl, ⟨hlt, .inl hb⟩, g.more h2 (fun b hb => ⟨hb.2.1, .inr hb.1⟩), g.len h2, fun j u hu => ?_⟩
    exact ho.cells (g := gb) rfl _ _ (flatten_at sz hls h1 j u hu)
theorem Grow.read (g : Good E sz) {T : Nat → Prop} {w : World} {base : Nat} {e : TypeId} {v : Value} {l : List α} (h : Grow E sz T w base e v l) : rdRow sz E w (lt_ w.heap.size) l [v] := (rdRow_good g).more (h.reads g) fun _ hb => hb.1
theorem Grow.own {T : Nat → Prop} {w : World} {base : Nat} {e : TypeId} {v : Value} {l : List α} (h : Grow E sz T w base e v l) : ∃ A c, v = .slice A l.length c ∧ l.length ≤ c ∧ c ≤ maxLen := by
  obtain ⟨css, hl, ho, hE⟩ := h
  rcases ho.2 with ⟨rfl, h0⟩ | ⟨gb, cap, cur, rfl, hb, hg, hn, hm, hs, ht⟩
  · exact ⟨none, 0, by rw [h0], by omega, Nat.zero_le _⟩
  · exact ⟨_, cap, rfl, hn, hm⟩
theorem Grow.lt {T : Nat → Prop} {w : World} {base : Nat} {e : TypeId} {v : Value} {l : List α} (h : Grow E sz T w base e v l) : ∀ b, v.ownBlock = some b → base ≤ b ∧ b < w.heap.size := by
  obtain ⟨css, hl, ho, hE⟩ := h
  exact ho.lt
/-- Whatever leaves the blocks of the row and of the elements as they lay leaves what has grown. -/
theorem Grow.kept (g : Good E sz) {T : Nat → Prop} {w w' : World} {base : Nat} {e : TypeId} {v : Value} {l : List α} (h : Grow E sz T w base e v l) (hs : w.heap.size ≤ w'.heap.size)
    (hk : ∀ b, b < w.heap.size → (base ≤ b ∨ T b) → w'.heap[b]? = w.heap[b]?) : Grow E sz T w' base e v l := by
  have hlt := h.lt
  obtain ⟨css, hl, ho, hE⟩ := h
  refine ⟨css, hl, ⟨ho.1, ?_⟩, fun k hk' => ?_⟩
  · rcases ho.2 with hn | ⟨gb, cap, cur, rfl, hb, hg, rest⟩
    · exact .inl hn
    · exact .inr ⟨gb, cap, cur, rfl, hb, by rw [hk gb (Array.getElem?_eq_some_iff.1 hg).1 (.inl hb)]; exact hg, rest⟩
  · obtain ⟨cs, h1, h2⟩ := hE k hk'
    exact ⟨cs, h1, g.both h2 (fun b hb => hk b hb.2.1 (.inr hb.1)) (fun b hb => ⟨hb.1, Nat.lt_of_lt_of_le hb.2.1 hs, hb.2.2⟩)⟩
theorem Grow.below (g : Good E sz) {T : Nat → Prop} {w w' : World} {base : Nat} {e : TypeId} {v : Value} {l : List α} (h : Grow E sz T w base e v l) (hb : Below w.heap.size w w') : Grow E sz T w' base e v l :=
  h.kept g hb.size fun b hb' _ => hb.block b hb'
theorem Grow.turn (g : Good E sz) {T : Nat → Prop} {w w' : World} {base : Nat} {e : TypeId} {v : Value} {l : List α} {row : Option Nat} (h : Grow E sz T w base e v l) (hg : w.grownBy w' row) (hr : ∀ r, row = some r → ∃ o : Obj, w.heap[r]? = some o ∧ o.isCells = false) : Grow E sz T w' base e v l := by
  obtain ⟨css, hl, ho, hE⟩ := h
  refine ⟨css, hl, ho.kept hg ?_, fun k hk' => ?_⟩
  · rcases ho.2 with ⟨rfl, _⟩ | ⟨gb, cap, cur, rfl, hb, hgg, _⟩
    · exact .inl rfl
    · refine .inr fun hh => ?_
      obtain ⟨o, h1, h2⟩ := hr gb hh.symm
      rw [hgg] at h1
      injection h1 with h1
      subst h1
      cases h2
  · obtain ⟨cs, h1, h2⟩ := hE k hk'
    exact ⟨cs, h1, g.more (g.turn h2 hg hr) fun b hb => ⟨hb.1, Nat.lt_of_lt_of_le hb.2.1 hg.size, hb.2.2⟩⟩
theorem Grow.alloc (g : Good E sz) {T : Nat → Prop} {w : World} {base : Nat} {e : TypeId} {v : Value} {l : List α} (h : Grow E sz T w base e v l) (o : Obj) : Grow E sz T (w.alloc o) base e v l :=
  h.below g ((Below.refl _ w).alloc (Nat.le_refl _) o)
theorem Grow.setCell (g : Good E sz) {T : Nat → Prop} {w : World} {base : Nat} {e : TypeId} {v : Value} {l : List α} (h : Grow E sz T w base e v l) {p : Addr} (hp : p.block < base) (hT : ¬ T p.block) (u : Value) : Grow E sz T (w.setCell p u) base e v l :=
  h.kept g (by simp) fun b hb' hx => heap_setCell_other w p b u (by rintro rfl; rcases hx with h | h; omega; exact hT h)
/-- An append to what grows: new blocks, and writes to its own row alone; the new elements lie in blocks of which T holds, not in the row. -/
theorem Grow.step (g : Good E sz) {T : Nat → Prop} {w w' : World} {base : Nat} {e : TypeId} {v v' : Value} {l : List α} {css : List (List Value)} {m : List α} {ess : List (List Value)}
    (hl : css.length = l.length) (hE : ∀ k (hk : k < l.length), ∃ cs, css[k]? = some cs ∧ E w (fun b => T b ∧ b < w.heap.size ∧ v.ownBlock ≠ some b) l[k] cs)
    (hm : ess.length = m.length) (hM : ∀ k (hk : k < m.length), ∃ cs, ess[k]? = some cs ∧ E w (fun b => T b ∧ b < w.heap.size ∧ v.ownBlock ≠ some b) m[k] cs)
    (hown : w'.ownsRow base e sz v' (l.length + m.length) (css.flatten ++ ess.flatten)) (hg : w.grownBy w' v.ownBlock) (hat : v'.ownBlock = v.ownBlock ∨ ∃ b, v'.ownBlock = some b ∧ w.heap.size ≤ b) :
    Grow E sz T w' base e v' (l ++ m) := by
  have key : ∀ (a : α) (cs : List Value), E w (fun b => T b ∧ b < w.heap.size ∧ v.ownBlock ≠ some b) a cs → E w' (fun b => T b ∧ b < w'.heap.size ∧ v'.ownBlock ≠ some b) a cs := by
    intro a cs h
    refine g.both h (fun b hb => hg.block b hb.2.1 (fun hh => hb.2.2 hh.symm)) (fun b hb => ⟨hb.1, Nat.lt_of_lt_of_le hb.2.1 hg.size, ?_⟩)
    rcases hat with h1 | ⟨b', h1, h2⟩
    · rw [h1]; exact hb.2.2
    · rw [h1]; intro hh; injection hh with hh; have := hb.2.1; omega
  refine ⟨css ++ ess, by rw [List.length_append, List.length_append, hl, hm], by rw [List.length_append, List.flatten_append]; exact hown, fun k hk => ?_⟩
  by_cases hkl : k < l.length
  · obtain ⟨cs, h1, h2⟩ := hE k hkl
    refine ⟨cs, by rw [List.getElem?_append_left (by omega)]; exact h1, ?_⟩
    rw [List.getElem_append_left hkl]; exact key _ _ h2
  · rw [List.length_append] at hk
    obtain ⟨cs, h1, h2⟩ := hM (k - l.length) (by omega)
    refine ⟨cs, by rw [List.getElem?_append_right (by omega), hl]; exact h1, ?_⟩
    rw [List.getElem_append_right (by omega)]; exact key _ _ h2
theorem cells_new (w : World) (blk : Array Value) (te : TypeId) : ∀ j u, blk.toList[j]? = some u → (w.alloc (.cells blk te)).cell? ((⟨w.heap.size, 0, none⟩ : Addr).add j) = some u := by
  intro j u hj
  have hadd : (⟨w.heap.size, 0, none⟩ : Addr).add j = ⟨w.heap.size, j, none⟩ := by unfold Addr.add; split <;> simp_all
  rw [hadd, cell_of_row (w.alloc (.cells blk te)) w.heap.size j blk te (0, 0) (heap_alloc_new w _)]
  simpa using hj
/-- One element appended to what grows, at the operation. -/
theorem wpList_grow1 {P : Program} {ops : Array Oper} {rest : List Oper} {o : Oper} {a : Act} {Q : Exit → Act → World → Prop} (W : World) (hgd : o.guard = none) (s x : Operand) (t : TypeId)
    (ho : o.op = .call { callee := .builtin .append, args := #[s, x], argTypes := #[t, t] })
    (g : Good E sz) (hsz : 0 < sz) (T : Nat → Prop) (base : Nat) (e : TypeId) (i : TypeInfo) (z : Value) (bytes : Nat) (ht : P.underlying t = some (.slice e)) (hi : P.info? e = some i) (hz : i.zero = some z)
    (hsize : i.size = sz) (hby : i.bytes = bytes) (hzs : z.cells.size = sz)
    (v : Value) (l : List α) (hs : a.eval s = v) (hG : Grow E sz T W base e v l) (y : α) (blk : Array Value) (te : TypeId)
    (hE : E W (fun b => T b ∧ b < W.heap.size ∧ v.ownBlock ≠ some b) y blk.toList) (N : Nat) (hN : N = W.heap.size) (hx : a.eval x = .slice (some ⟨N, 0, none⟩) 1 1)
    (hn : l.length + 1 ≤ maxLen) (hb2 : (l.length + 1) * bytes ≤ 140737488355328) (hbase : base ≤ W.heap.size)
    (h : ∀ v' w', Grow E sz T w' base e v' (l ++ [y]) → W.grownBy w' v.ownBlock → wpList P ops Q rest (a.put o.dst v') w') :
    wpList P ops Q (o :: rest) a (W.alloc (.cells blk te)) := by
  subst hN
  obtain ⟨css, hl, hown, hEs⟩ := hG
  refine wpList_append_own_at _ hgd s x t ho base e i z sz bytes ht hi hz hsize hby hzs hsz v l.length css.flatten hs (hown.alloc _) ⟨W.heap.size, 0, none⟩ 1 1 blk.toList hx (by rw [g.len hE]; simp) (cells_new W blk te) (g.one hE) hn hb2 (by simp; omega) ?_
  intro v' w' hown' hgrow _ hat
  have hg2 : W.grownBy w' v.ownBlock := by
    refine ⟨hgrow.os, hgrow.tape, hgrow.output, ?_, fun k hk hne => ?_⟩
    · have := hgrow.size; simp at this; omega
    · rw [hgrow.block k (by simp; omega) hne]
      exact Below.heap_alloc W _ k hk
  refine h v' w' ?_ hg2
  refine Grow.step g hl hEs (m := [y]) (ess := [blk.toList]) rfl (fun k hk => ?_) (by simpa using hown') hg2 ?_
  · simp only [List.length_singleton] at hk
    obtain rfl : k = 0 := by omega
    exact ⟨_, rfl, hE⟩
  · rcases hat with h1 | h1
    · exact .inl h1
    · exact .inr ⟨_, h1, by simp⟩
/-- The same inside a fence. -/
theorem wpListIn_grow1 {F : Fence} {n : Nat} {P : Program} {ops : Array Oper} {rest : List Oper} {o : Oper} {a : Act} {Q : Exit → Act → World → Prop} (W : World) (hgd : o.guard = none) (s x : Operand) (t : TypeId)
    (ho : o.op = .call { callee := .builtin .append, args := #[s, x], argTypes := #[t, t] })
    (g : Good E sz) (hsz : 0 < sz) (T : Nat → Prop) (base : Nat) (e : TypeId) (i : TypeInfo) (z : Value) (bytes : Nat) (ht : P.underlying t = some (.slice e)) (hi : P.info? e = some i) (hz : i.zero = some z)
    (hsize : i.size = sz) (hby : i.bytes = bytes) (hzs : z.cells.size = sz)
    (v : Value) (l : List α) (hs : a.eval s = v) (hG : Grow E sz T W base e v l) (y : α) (blk : Array Value) (te : TypeId)
    (hE : E W (fun b => T b ∧ b < W.heap.size ∧ v.ownBlock ≠ some b) y blk.toList) (N : Nat) (hN : N = W.heap.size) (hx : a.eval x = .slice (some ⟨N, 0, none⟩) 1 1)
    (hn : l.length + 1 ≤ maxLen) (hb2 : (l.length + 1) * bytes ≤ 140737488355328) (hbase : base ≤ W.heap.size)
    (h : ∀ v' w', Grow E sz T w' base e v' (l ++ [y]) → W.grownBy w' v.ownBlock → wpListIn F n P ops Q rest (a.put o.dst v') w') :
    wpListIn F n P ops Q (o :: rest) a (W.alloc (.cells blk te)) := by
  subst hN
  obtain ⟨css, hl, hown, hEs⟩ := hG
  refine wpListIn_plain hgd fun K hK => ?_
  obtain ⟨v', w', hr, hown', hgrow, _, hat⟩ := run_append_own_at (P := P) _ base t o.type e i z sz bytes ht hi hz hsize hby hzs hsz v l.length css.flatten (hown.alloc (.cells blk te)) ⟨W.heap.size, 0, none⟩ 1 1 blk.toList (by rw [g.len hE]; simp) (cells_new W blk te) (g.one hE) hn hb2 (by simp; omega)
  have hg2 : W.grownBy w' v.ownBlock := by
    refine ⟨hgrow.os, hgrow.tape, hgrow.output, ?_, fun k hk hne => ?_⟩
    · have := hgrow.size; simp at this; omega
    · rw [hgrow.block k (by simp; omega) hne]
      exact Below.heap_alloc W _ k hk
  have hG' : Grow E sz T w' base e v' (l ++ [y]) := by
    refine Grow.step g hl hEs (m := [y]) (ess := [blk.toList]) rfl (fun k hk => ?_) (by simpa using hown') hg2 ?_
    · simp only [List.length_singleton] at hk
      obtain rfl : k = 0 := by omega
      exact ⟨_, rfl, hE⟩
    · rcases hat with h1 | h1
      · exact .inl h1
      · exact .inr ⟨_, h1, by simp⟩
  unfold Oper.wpIn
  refine ⟨?_, ?_⟩
  · simp [Oper.about, ho, resolve, Target.leads, Sem.run_pure]
  · rw [Oper.semAt_plain F _ _ (by rw [ho]; intro c hc'; cases hc')]
    simp [execOp, ho, resolve, invoke, builtin, hs, hx, hr, Result.andThen]
    exact hK _ _ (h v' w' hG' hg2)
/-- What an append to what grows leaves below its base. -/
theorem grow_below {B : Nat} {w0 W w' : World} {T : Nat → Prop} {base : Nat} {e : TypeId} {v : Value} {l : List α} (hG : Grow E sz T W base e v l) (hg : W.grownBy w' v.ownBlock) (hb : Below B w0 W) (hB : B ≤ base) (hs : B ≤ W.heap.size) : Below B w0 w' :=
  hb.grown hg hs fun g hg' => Nat.le_trans hB (hG.lt g hg').1
end
theorem take_snoc {α β : Type} (f : α → β) (g : List α) (k : Nat) (hk : k < g.length) : (g.take (k + 1)).map f = (g.take k).map f ++ [f g[k]] := by
  rw [List.take_succ_eq_append_getElem hk, List.map_append]; rfl
/-- A block that the row is not stays behind an append. -/
theorem heap_grow {α : Type} {E : Rd α} {sz : Nat} {T : Nat → Prop} {W w' : World} {base : Nat} {e : TypeId} {v : Value} {l : List α} (hG : Grow E sz T W base e v l) (hg : W.grownBy w' v.ownBlock) {k : Nat} (hk : k < base) (hs : base ≤ W.heap.size) : w'.heap[k]? = W.heap[k]? :=
  hg.block k (by omega) fun hh => by have := (hG.lt k hh.symm).1; omega
theorem two_sets {V : World} {p q : Addr} (hpq : p ≠ q) {u v : Value} (x y : Value) (hp : V.cell? p = some u) (hq : V.cell? q = some v) : ((V.setCell p x).setCell q y).cell? p = some x ∧ ((V.setCell p x).setCell q y).cell? q = some y := by
  refine ⟨?_, ?_⟩
  · rw [World.cell?_setCell_other _ _ _ _ (fun h => hpq h.symm)]
    exact World.cell?_setCell_same' _ _ _ (by rw [hp]; rfl)
  · exact World.cell?_setCell_same' _ _ _ (by rw [World.cell?_setCell_other _ _ _ _ hpq, hq]; rfl)
theorem ne_blk {a b : Nat} (h : a ≠ b) : (⟨a, 0, none⟩ : Addr) ≠ ⟨b, 0, none⟩ := fun e => h (congrArg Addr.block e)
end Go.Proofs.YtjfenheplkoajaaDoor
