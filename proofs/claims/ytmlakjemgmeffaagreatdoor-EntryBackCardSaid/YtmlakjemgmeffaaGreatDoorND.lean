/- What the laws of this seat rest on: Deep, StrRow, Deep2, Deep4, Deep3, Deep5, HeldL. -/
import Derived.Test.YtmlakjemgmeffaaGreatDoorNA
import Derived.Test.YtmlakjemgmeffaaGreatDoorProg
import Derived.Maps.AppendAt
import Derived.OwnWalk
import Derived.Below
import Derived.OneCell
import Derived.BigQuiet
import Derived.RangeFuncOwn
import Derived.OwnWalkIn
import Derived.Lib.Join
import Derived.Laws.IdiomStrings
import Derived.WalkKit
import Derived.RegionTactic
import Derived.Laws.OwnMore
import Derived.OrdersHeld
import Derived.Deep.RegionHeld
import Derived.Deep.RegionHeld3

section
namespace Go.Proofs.YtmlakjemgmeffaaGreatDoor
open Go.RowKit
theorem blk_add (a : Addr) (k : Nat) : (a.add k).block = a.block := by unfold Addr.add; split <;> rfl
theorem belD {N : Nat} {a w : World} (h : Below N a w) (n : Nat) : Below N a (w.drewN n) := ⟨h.os, h.tape, h.output, h.size, h.block⟩
theorem bel2 {a b c : World} {N : Nat} (h : Below N a b) (k : Below b.heap.size b c) : N ≤ a.heap.size → Below N a c := fun hn => h.trans (k.mono (Nat.le_trans hn h.size))
def Dr (w w' : World) : Prop := ∃ q, w' = w.drewN q
theorem Dr.refl (w : World) : Dr w w := ⟨0, rfl⟩
theorem Dr.more {w w' : World} (h : Dr w w') (n : Nat) : Dr w (w'.drewN n) := by obtain ⟨q, rfl⟩ := h; exact ⟨q + n, by rw [World.drewN_drewN]⟩
theorem Dr.below {w w' : World} (h : Dr w w') (N : Nat) : Below N w w' := by obtain ⟨q, rfl⟩ := h; exact belD (Below.refl _ _) q
theorem Dr.size {w w' : World} (h : Dr w w') : w'.heap.size = w.heap.size := by obtain ⟨q, rfl⟩ := h; rfl
abbrev Rd (α : Type) := World → (Nat → Prop) → α → List Value → Prop
structure Good {α : Type} (E : Rd α) (sz : Nat) : Prop where
  keep : ∀ {w w' : World} {S : Nat → Prop} {a : α} {cs : List Value}, E w S a cs → (∀ b, S b → w'.heap[b]? = w.heap[b]?) → E w' S a cs
  more : ∀ {w : World} {S S' : Nat → Prop} {a : α} {cs : List Value}, E w S a cs → (∀ b, S b → S' b) → E w S' a cs
  turn : ∀ {w w' : World} {S : Nat → Prop} {a : α} {cs : List Value} {row : Option Nat}, E w S a cs → w.grownBy w' row → (∀ r, row = some r → ∃ o : Obj, w.heap[r]? = some o ∧ o.isCells = false) → E w' S a cs
  len : ∀ {w : World} {S : Nat → Prop} {a : α} {cs : List Value}, E w S a cs → cs.length = sz
  one : ∀ {w : World} {S : Nat → Prop} {a : α} {cs : List Value}, E w S a cs → ∀ u ∈ cs, u.oneCell' = true
section
variable {α : Type} {E : Rd α} {sz : Nat}
theorem Good.both (g : Good E sz) {w w' : World} {S S' : Nat → Prop} {a : α} {cs : List Value} (h : E w S a cs) (hk : ∀ b, S b → w'.heap[b]? = w.heap[b]?) (hm : ∀ b, S b → S' b) : E w' S' a cs := g.more (g.keep h hk) hm
def rdRow (sz : Nat) (E : Rd α) : Rd (List α) := fun w S l cs =>
  ∃ A c, cs = [.slice A l.length c] ∧ l.length ≤ c ∧ c ≤ maxLen ∧
    ∀ k (hk : k < l.length), ∃ ad es, A = some ad ∧ S ad.block ∧ E w S l[k] es ∧ es.length = sz ∧ ∀ j u, es[j]? = some u → w.cell? (ad.add (k * sz + j)) = some u
theorem rdRow_good (g : Good E sz) : Good (rdRow sz E) 1 where
  keep := by
    rintro w w' S l cs ⟨A, c, rfl, h1, h2, h⟩ hk
    refine ⟨A, c, rfl, h1, h2, fun k hk' => ?_⟩
    obtain ⟨ad, es, e, hS, hE, hl, hc⟩ := h k hk'
    refine ⟨ad, es, e, hS, g.keep hE hk, hl, fun j u hu => ?_⟩
    rw [← hc j u hu]
    exact World.cell?_of_block (by rw [blk_add]; exact hk _ hS)
  more := by
    rintro w S S' l cs ⟨A, c, rfl, h1, h2, h⟩ hm
    refine ⟨A, c, rfl, h1, h2, fun k hk' => ?_⟩
    obtain ⟨ad, es, e, hS, hE, hl, hc⟩ := h k hk'
    exact ⟨ad, es, e, hm _ hS, g.more hE hm, hl, hc⟩
  turn := by
    rintro w w' S l cs row ⟨A, c, rfl, h1, h2, h⟩ hg hr
    refine ⟨A, c, rfl, h1, h2, fun k hk' => ?_⟩
    obtain ⟨ad, es, e, hS, hE, hl, hc⟩ := h k hk'
    exact ⟨ad, es, e, hS, g.turn hE hg hr, hl, fun j u hu => cell_kept (hc j u hu) hg hr⟩
  len := by rintro w S l cs ⟨A, c, rfl, _⟩; rfl
  one := by rintro w S l cs ⟨A, c, rfl, _⟩ u hu; rw [List.mem_singleton.1 hu]; rfl
theorem rdRow_nil (w : World) (S : Nat → Prop) : rdRow sz E w S [] [.slice none 0 0] := ⟨none, 0, rfl, Nat.le_refl _, Nat.zero_le _, fun k hk => absurd hk (by simp)⟩
def lt_ (N : Nat) : Nat → Prop := fun b => b < N
theorem Good.below (g : Good E sz) {N : Nat} {w w' : World} {a : α} {cs : List Value} (h : E w (lt_ N) a cs) (hb : Below N w w') : E w' (lt_ N) a cs := g.keep h fun b hb' => hb.block b hb'
theorem Good.up (g : Good E sz) {N N' : Nat} {w : World} {a : α} {cs : List Value} (h : E w (lt_ N) a cs) (hn : N ≤ N') : E w (lt_ N') a cs := g.more h fun _ hb => Nat.lt_of_lt_of_le hb hn
def Grow (E : Rd α) (sz : Nat) (T : Nat → Prop) (w : World) (base : Nat) (e : TypeId) (v : Value) (l : List α) : Prop :=
  ∃ css : List (List Value), css.length = l.length ∧ w.ownsRow base e sz v l.length css.flatten ∧
    ∀ k (hk : k < l.length), ∃ cs, css[k]? = some cs ∧ E w (fun b => T b ∧ b < w.heap.size ∧ v.ownBlock ≠ some b) l[k] cs
theorem Grow.nil (T : Nat → Prop) (w : World) (base : Nat) (e : TypeId) : Grow E sz T w base e (.slice none 0 0) [] :=
  ⟨[], rfl, World.ownsRow_nil w base e sz, fun k hk => absurd hk (by simp)⟩
theorem flatten_len (sz : Nat) : ∀ {css : List (List Value)}, (∀ cs ∈ css, cs.length = sz) → css.flatten.length = css.length * sz
  | [], _ => by simp
  | c :: css, h => by
    have := flatten_len sz (css := css) (fun cs hc => h cs (by simp [hc]))
    rw [List.flatten_cons, List.length_append, this, h c (by simp), List.length_cons, Nat.add_mul]; omega
theorem flatten_at (sz : Nat) : ∀ {css : List (List Value)}, (∀ cs ∈ css, cs.length = sz) → ∀ {k : Nat} {cs : List Value}, css[k]? = some cs → ∀ j u, cs[j]? = some u → css.flatten[k * sz + j]? = some u
  | [], _, k, cs, hk, _, _, _ => by simp at hk
  | c :: css, h, 0, cs, hk, j, u, hu => by
    simp only [List.getElem?_cons_zero, Option.some.injEq] at hk
    subst hk
    rw [List.flatten_cons, Nat.zero_mul, Nat.zero_add, List.getElem?_append_left (List.getElem?_eq_some_iff.1 hu).1]; exact hu
  | c :: css, h, k + 1, cs, hk, j, u, hu => by
    rw [List.getElem?_cons_succ] at hk
    have := flatten_at sz (fun cs hc => h cs (by simp [hc])) hk j u hu
    have hc := h c (by simp)
    rw [List.flatten_cons, List.getElem?_append_right (by rw [hc, Nat.add_mul]; omega), hc, ← this]
    congr 1
    rw [Nat.add_mul]; omega
theorem Grow.lens (g : Good E sz) {T : Nat → Prop} {w : World} {v : Value} {l : List α} {css : List (List Value)} (hl : css.length = l.length)
    (h : ∀ k (hk : k < l.length), ∃ cs, css[k]? = some cs ∧ E w (fun b => T b ∧ b < w.heap.size ∧ v.ownBlock ≠ some b) l[k] cs) : ∀ cs ∈ css, cs.length = sz := by
  intro cs hc
  obtain ⟨k, hk, rfl⟩ := List.getElem_of_mem hc
  obtain ⟨cs, h1, h2⟩ := h k (by omega)
  rw [List.getElem?_eq_getElem hk] at h1
  injection h1 with h1
  rw [h1]; exact g.len h2
theorem Grow.reads (g : Good E sz) {T : Nat → Prop} {w : World} {base : Nat} {e : TypeId} {v : Value} {l : List α} (h : Grow E sz T w base e v l) : rdRow sz E w (fun b => b < w.heap.size ∧ (base ≤ b ∨ T b)) l [v] := by
  obtain ⟨css, hl, ho, hE⟩ := h
  have hls := Grow.lens g hl hE
  rcases ho.2 with ⟨rfl, h0⟩ | ⟨gb, cap, cur, rfl, hb, hg, hn, hm, hs, ht⟩
  · obtain rfl : l = [] := List.eq_nil_of_length_eq_zero h0
    exact rdRow_nil w _
  · have hlt : gb < w.heap.size := (Array.getElem?_eq_some_iff.1 hg).1
    refine ⟨_, cap, rfl, hn, hm, fun k hk => ?_⟩
    obtain ⟨cs, h1, h2⟩ := hE k hk
    refine ⟨_, cs, rfl, ⟨hlt, .inl hb⟩, g.more h2 (fun b hb => ⟨hb.2.1, .inr hb.1⟩), g.len h2, fun j u hu => ?_⟩
    exact ho.cells (g := gb) rfl _ _ (flatten_at sz hls h1 j u hu)
theorem Grow.read (g : Good E sz) {T : Nat → Prop} {w : World} {base : Nat} {e : TypeId} {v : Value} {l : List α} (h : Grow E sz T w base e v l) : rdRow sz E w (lt_ w.heap.size) l [v] := (rdRow_good g).more (h.reads g) fun _ hb => hb.1
theorem Grow.own {T : Nat → Prop} {w : World} {base : Nat} {e : TypeId} {v : Value} {l : List α} (h : Grow E sz T w base e v l) : ∃ A c, v = .slice A l.length c ∧ l.length ≤ c ∧ c ≤ maxLen := by
  obtain ⟨css, hl, ho, hE⟩ := h
  rcases ho.2 with ⟨rfl, h0⟩ | ⟨gb, cap, cur, rfl, hb, hg, hn, hm, hs, ht⟩
  · exact ⟨none, 0, by rw [h0], by omega, Nat.zero_le _⟩
  · exact ⟨_, cap, rfl, hn, hm⟩
theorem Grow.lt {T : Nat → Prop} {w : World} {base : Nat} {e : TypeId} {v : Value} {l : List α} (h : Grow E sz T w base e v l) : ∀ b, v.ownBlock = some b → base ≤ b ∧ b < w.heap.size := by
  obtain ⟨css, hl, ho, hE⟩ := h
  exact ho.lt
theorem Grow.kept (g : Good E sz) {T : Nat → Prop} {w w' : World} {base : Nat} {e : TypeId} {v : Value} {l : List α} (h : Grow E sz T w base e v l) (hs : w.heap.size ≤ w'.heap.size)
    (hk : ∀ b, b < w.heap.size → (base ≤ b ∨ T b) → w'.heap[b]? = w.heap[b]?) : Grow E sz T w' base e v l := by
  have hlt := h.lt
  obtain ⟨css, hl, ho, hE⟩ := h
  refine ⟨css, hl, ⟨ho.1, ?_⟩, fun k hk' => ?_⟩
  · rcases ho.2 with hn | ⟨gb, cap, cur, rfl, hb, hg, rest⟩
    · exact .inl hn
    · exact .inr ⟨gb, cap, cur, rfl, hb, by rw [hk gb (Array.getElem?_eq_some_iff.1 hg).1 (.inl hb)]; exact hg, rest⟩
  · obtain ⟨cs, h1, h2⟩ := hE k hk'
    exact ⟨cs, h1, g.both h2 (fun b hb => hk b hb.2.1 (.inr hb.1)) (fun b hb => ⟨hb.1, Nat.lt_of_lt_of_le hb.2.1 hs, hb.2.2⟩)⟩
theorem Grow.below (g : Good E sz) {T : Nat → Prop} {w w' : World} {base : Nat} {e : TypeId} {v : Value} {l : List α} (h : Grow E sz T w base e v l) (hb : Below w.heap.size w w') : Grow E sz T w' base e v l :=
  h.kept g hb.size fun b hb' _ => hb.block b hb'
theorem Grow.turn (g : Good E sz) {T : Nat → Prop} {w w' : World} {base : Nat} {e : TypeId} {v : Value} {l : List α} {row : Option Nat} (h : Grow E sz T w base e v l) (hg : w.grownBy w' row) (hr : ∀ r, row = some r → ∃ o : Obj, w.heap[r]? = some o ∧ o.isCells = false) : Grow E sz T w' base e v l := by
  obtain ⟨css, hl, ho, hE⟩ := h
  refine ⟨css, hl, ho.kept hg ?_, fun k hk' => ?_⟩
  · rcases ho.2 with ⟨rfl, _⟩ | ⟨gb, cap, cur, rfl, hb, hgg, _⟩
    · exact .inl rfl
    · refine .inr fun hh => ?_
      obtain ⟨o, h1, h2⟩ := hr gb hh.symm
      rw [hgg] at h1
      injection h1 with h1
      subst h1
      cases h2
  · obtain ⟨cs, h1, h2⟩ := hE k hk'
    exact ⟨cs, h1, g.more (g.turn h2 hg hr) fun b hb => ⟨hb.1, Nat.lt_of_lt_of_le hb.2.1 hg.size, hb.2.2⟩⟩
theorem Grow.alloc (g : Good E sz) {T : Nat → Prop} {w : World} {base : Nat} {e : TypeId} {v : Value} {l : List α} (h : Grow E sz T w base e v l) (o : Obj) : Grow E sz T (w.alloc o) base e v l :=
  h.below g ((Below.refl _ w).alloc (Nat.le_refl _) o)
theorem Grow.setCell (g : Good E sz) {T : Nat → Prop} {w : World} {base : Nat} {e : TypeId} {v : Value} {l : List α} (h : Grow E sz T w base e v l) {p : Addr} (hp : p.block < base) (hT : ¬ T p.block) (u : Value) : Grow E sz T (w.setCell p u) base e v l :=
  h.kept g (by simp) fun b hb' hx => heap_setCell_other w p b u (by rintro rfl; rcases hx with h | h; omega; exact hT h)
theorem Grow.step (g : Good E sz) {T : Nat → Prop} {w w' : World} {base : Nat} {e : TypeId} {v v' : Value} {l : List α} {css : List (List Value)} {m : List α} {ess : List (List Value)}
    (hl : css.length = l.length) (hE : ∀ k (hk : k < l.length), ∃ cs, css[k]? = some cs ∧ E w (fun b => T b ∧ b < w.heap.size ∧ v.ownBlock ≠ some b) l[k] cs)
    (hm : ess.length = m.length) (hM : ∀ k (hk : k < m.length), ∃ cs, ess[k]? = some cs ∧ E w (fun b => T b ∧ b < w.heap.size ∧ v.ownBlock ≠ some b) m[k] cs)
    (hown : w'.ownsRow base e sz v' (l.length + m.length) (css.flatten ++ ess.flatten)) (hg : w.grownBy w' v.ownBlock) (hat : v'.ownBlock = v.ownBlock ∨ ∃ b, v'.ownBlock = some b ∧ w.heap.size ≤ b) :
    Grow E sz T w' base e v' (l ++ m) := by
  have key : ∀ (a : α) (cs : List Value), E w (fun b => T b ∧ b < w.heap.size ∧ v.ownBlock ≠ some b) a cs → E w' (fun b => T b ∧ b < w'.heap.size ∧ v'.ownBlock ≠ some b) a cs := by
    intro a cs h
    refine g.both h (fun b hb => hg.block b hb.2.1 (fun hh => hb.2.2 hh.symm)) (fun b hb => ⟨hb.1, Nat.lt_of_lt_of_le hb.2.1 hg.size, ?_⟩)
    rcases hat with h1 | ⟨b', h1, h2⟩
    · rw [h1]; exact hb.2.2
    · rw [h1]; intro hh; injection hh with hh; have := hb.2.1; omega
  refine ⟨css ++ ess, by rw [List.length_append, List.length_append, hl, hm], by rw [List.length_append, List.flatten_append]; exact hown, fun k hk => ?_⟩
  by_cases hkl : k < l.length
  · obtain ⟨cs, h1, h2⟩ := hE k hkl
    refine ⟨cs, by rw [List.getElem?_append_left (by omega)]; exact h1, ?_⟩
    rw [List.getElem_append_left hkl]; exact key _ _ h2
  · rw [List.length_append] at hk
    obtain ⟨cs, h1, h2⟩ := hM (k - l.length) (by omega)
    refine ⟨cs, by rw [List.getElem?_append_right (by omega), hl]; exact h1, ?_⟩
    rw [List.getElem_append_right (by omega)]; exact key _ _ h2
theorem cells_new (w : World) (blk : Array Value) (te : TypeId) : ∀ j u, blk.toList[j]? = some u → (w.alloc (.cells blk te)).cell? ((⟨w.heap.size, 0, none⟩ : Addr).add j) = some u := by
  intro j u hj
  have hadd : (⟨w.heap.size, 0, none⟩ : Addr).add j = ⟨w.heap.size, j, none⟩ := by unfold Addr.add; split <;> simp_all
  rw [hadd, cell_of_row (w.alloc (.cells blk te)) w.heap.size j blk te (0, 0) (heap_alloc_new w _)]
  simpa using hj
theorem wpList_grow1 {P : Program} {ops : Array Oper} {rest : List Oper} {o : Oper} {a : Act} {Q : Exit → Act → World → Prop} (W : World) (hgd : o.guard = none) (s x : Operand) (t : TypeId)
    (ho : o.op = .call { callee := .builtin .append, args := #[s, x], argTypes := #[t, t] })
    (g : Good E sz) (hsz : 0 < sz) (T : Nat → Prop) (base : Nat) (e : TypeId) (i : TypeInfo) (z : Value) (bytes : Nat) (ht : P.underlying t = some (.slice e)) (hi : P.info? e = some i) (hz : i.zero = some z)
    (hsize : i.size = sz) (hby : i.bytes = bytes) (hzs : z.cells.size = sz)
    (v : Value) (l : List α) (hs : a.eval s = v) (hG : Grow E sz T W base e v l) (y : α) (blk : Array Value) (te : TypeId)
    (hE : E W (fun b => T b ∧ b < W.heap.size ∧ v.ownBlock ≠ some b) y blk.toList) (N : Nat) (hN : N = W.heap.size) (hx : a.eval x = .slice (some ⟨N, 0, none⟩) 1 1)
    (hn : l.length + 1 ≤ maxLen) (hb2 : (l.length + 1) * bytes ≤ 140737488355328) (hbase : base ≤ W.heap.size)
    (h : ∀ v' w', Grow E sz T w' base e v' (l ++ [y]) → W.grownBy w' v.ownBlock → wpList P ops Q rest (a.put o.dst v') w') :
    wpList P ops Q (o :: rest) a (W.alloc (.cells blk te)) := by
  subst hN
  obtain ⟨css, hl, hown, hEs⟩ := hG
  refine wpList_append_own_at _ hgd s x t ho base e i z sz bytes ht hi hz hsize hby hzs hsz v l.length css.flatten hs (hown.alloc _) ⟨W.heap.size, 0, none⟩ 1 1 blk.toList hx (by rw [g.len hE]; simp) (cells_new W blk te) (g.one hE) hn hb2 (by simp; omega) ?_
  intro v' w' hown' hgrow _ hat
  have hg2 : W.grownBy w' v.ownBlock := by
    refine ⟨hgrow.os, hgrow.tape, hgrow.output, ?_, fun k hk hne => ?_⟩
    · have := hgrow.size; simp at this; omega
    · rw [hgrow.block k (by simp; omega) hne]
      exact Below.heap_alloc W _ k hk
  refine h v' w' ?_ hg2
  refine Grow.step g hl hEs (m := [y]) (ess := [blk.toList]) rfl (fun k hk => ?_) (by simpa using hown') hg2 ?_
  · simp only [List.length_singleton] at hk
    obtain rfl : k = 0 := by omega
    exact ⟨_, rfl, hE⟩
  · rcases hat with h1 | h1
    · exact .inl h1
    · exact .inr ⟨_, h1, by simp⟩
theorem wpListIn_grow1 {F : Fence} {n : Nat} {P : Program} {ops : Array Oper} {rest : List Oper} {o : Oper} {a : Act} {Q : Exit → Act → World → Prop} (W : World) (hgd : o.guard = none) (s x : Operand) (t : TypeId)
    (ho : o.op = .call { callee := .builtin .append, args := #[s, x], argTypes := #[t, t] })
    (g : Good E sz) (hsz : 0 < sz) (T : Nat → Prop) (base : Nat) (e : TypeId) (i : TypeInfo) (z : Value) (bytes : Nat) (ht : P.underlying t = some (.slice e)) (hi : P.info? e = some i) (hz : i.zero = some z)
    (hsize : i.size = sz) (hby : i.bytes = bytes) (hzs : z.cells.size = sz)
    (v : Value) (l : List α) (hs : a.eval s = v) (hG : Grow E sz T W base e v l) (y : α) (blk : Array Value) (te : TypeId)
    (hE : E W (fun b => T b ∧ b < W.heap.size ∧ v.ownBlock ≠ some b) y blk.toList) (N : Nat) (hN : N = W.heap.size) (hx : a.eval x = .slice (some ⟨N, 0, none⟩) 1 1)
    (hn : l.length + 1 ≤ maxLen) (hb2 : (l.length + 1) * bytes ≤ 140737488355328) (hbase : base ≤ W.heap.size)
    (h : ∀ v' w', Grow E sz T w' base e v' (l ++ [y]) → W.grownBy w' v.ownBlock → wpListIn F n P ops Q rest (a.put o.dst v') w') :
    wpListIn F n P ops Q (o :: rest) a (W.alloc (.cells blk te)) := by
  subst hN
  obtain ⟨css, hl, hown, hEs⟩ := hG
  refine wpListIn_plain hgd fun K hK => ?_
  obtain ⟨v', w', hr, hown', hgrow, _, hat⟩ := run_append_own_at (P := P) _ base t o.type e i z sz bytes ht hi hz hsize hby hzs hsz v l.length css.flatten (hown.alloc (.cells blk te)) ⟨W.heap.size, 0, none⟩ 1 1 blk.toList (by rw [g.len hE]; simp) (cells_new W blk te) (g.one hE) hn hb2 (by simp; omega)
  have hg2 : W.grownBy w' v.ownBlock := by
    refine ⟨hgrow.os, hgrow.tape, hgrow.output, ?_, fun k hk hne => ?_⟩
    · have := hgrow.size; simp at this; omega
    · rw [hgrow.block k (by simp; omega) hne]
      exact Below.heap_alloc W _ k hk
  have hG' : Grow E sz T w' base e v' (l ++ [y]) := by
    refine Grow.step g hl hEs (m := [y]) (ess := [blk.toList]) rfl (fun k hk => ?_) (by simpa using hown') hg2 ?_
    · simp only [List.length_singleton] at hk
      obtain rfl : k = 0 := by omega
      exact ⟨_, rfl, hE⟩
    · rcases hat with h1 | h1
      · exact .inl h1
      · exact .inr ⟨_, h1, by simp⟩
  unfold Oper.wpIn
  refine ⟨?_, ?_⟩
  · simp [Oper.about, ho, resolve, Target.leads, Sem.run_pure]
  · rw [Oper.semAt_plain F _ _ (by rw [ho]; intro c hc'; cases hc')]
    simp [execOp, ho, resolve, invoke, builtin, hs, hx, hr, Result.andThen]
    exact hK _ _ (h v' w' hG' hg2)
theorem grow_below {B : Nat} {w0 W w' : World} {T : Nat → Prop} {base : Nat} {e : TypeId} {v : Value} {l : List α} (hG : Grow E sz T W base e v l) (hg : W.grownBy w' v.ownBlock) (hb : Below B w0 W) (hB : B ≤ base) (hs : B ≤ W.heap.size) : Below B w0 w' :=
  hb.grown hg hs fun g hg' => Nat.le_trans hB (hG.lt g hg').1
end
theorem take_snoc {α β : Type} (f : α → β) (g : List α) (k : Nat) (hk : k < g.length) : (g.take (k + 1)).map f = (g.take k).map f ++ [f g[k]] := by
  rw [List.take_succ_eq_append_getElem hk, List.map_append]; rfl
theorem heap_grow {α : Type} {E : Rd α} {sz : Nat} {T : Nat → Prop} {W w' : World} {base : Nat} {e : TypeId} {v : Value} {l : List α} (hG : Grow E sz T W base e v l) (hg : W.grownBy w' v.ownBlock) {k : Nat} (hk : k < base) (hs : base ≤ W.heap.size) : w'.heap[k]? = W.heap[k]? :=
  hg.block k (by omega) fun hh => by have := (hG.lt k hh.symm).1; omega
theorem two_sets {V : World} {p q : Addr} (hpq : p ≠ q) {u v : Value} (x y : Value) (hp : V.cell? p = some u) (hq : V.cell? q = some v) : ((V.setCell p x).setCell q y).cell? p = some x ∧ ((V.setCell p x).setCell q y).cell? q = some y := by
  refine ⟨?_, ?_⟩
  · rw [World.cell?_setCell_other _ _ _ _ (fun h => hpq h.symm)]
    exact World.cell?_setCell_same' _ _ _ (by rw [hp]; rfl)
  · exact World.cell?_setCell_same' _ _ _ (by rw [World.cell?_setCell_other _ _ _ _ hpq, hq]; rfl)
theorem ne_blk {a b : Nat} (h : a ≠ b) : (⟨a, 0, none⟩ : Addr) ≠ ⟨b, 0, none⟩ := fun e => h (congrArg Addr.block e)
end Go.Proofs.YtmlakjemgmeffaaGreatDoor
end

section
set_option linter.unusedVariables false
set_option linter.unusedSimpArgs false
namespace Go.Proofs.YtmlakjemgmeffaaGreatDoor
open Go.RowKit
theorem str_info : (Tryz.prog.info? 9).map (fun i => (i.zero, i.size, i.bytes)) = some (some (.string { data := #[] }), 1, 16) := by kernel_rfl
def rdStr : Rd (List Nat) := fun _ _ l cs => ∃ s : ByteArray, cs = [.string s] ∧ B s = l
theorem rdStr_good : Good rdStr 1 := ⟨fun h _ => h, fun h _ => h, fun h _ _ => h, fun h => by obtain ⟨s, rfl, _⟩ := h; rfl, fun h u hu => by obtain ⟨s, rfl, _⟩ := h; rw [List.mem_singleton.1 hu]; rfl⟩
abbrev rdStrs : Rd (List (List Nat)) := rdRow 1 rdStr
theorem rdStrs_good : Good rdStrs 1 := rdRow_good rdStr_good
theorem rdStrs_at {w : World} {S : Nat → Prop} {l : List (List Nat)} {A : Option Addr} {n c : Nat} (h : rdStrs w S l [.slice A n c]) : n = l.length ∧ n ≤ c ∧ c ≤ maxLen ∧ ∀ k (hk : k < l.length), ∃ ad s, A = some ad ∧ S ad.block ∧
    w.cell? (ad.add k) = some (.string s) ∧ B s = l[k] := by
  obtain ⟨A', c', e, h1, h2, h⟩ := h
  simp only [List.cons.injEq, Value.slice.injEq, and_true] at e
  obtain ⟨rfl, rfl, rfl⟩ := e
  refine ⟨rfl, h1, h2, fun k hk => ?_⟩
  obtain ⟨ad, es, e, hS, ⟨s, rfl, hs⟩, hl, hc⟩ := h k hk
  have := hc 0 _ rfl
  rw [Nat.mul_one] at this
  exact ⟨ad, s, e, hS, this, hs⟩
theorem libjoin_two (x y sep : List UInt8) (r : List (List UInt8)) : Lib.join (x :: y :: r) sep = x ++ (sep ++ Lib.join (y :: r) sep) := by
  rw [Lib.join_cons, Lib.join_cons]
  unfold Lib.joinTail
  simp
theorem libjoin_is (sep : ByteArray) : ∀ xs : List ByteArray, (Lib.join (xs.map (·.data.toList)) sep.data.toList).map UInt8.toNat = joinL (B sep) (xs.map B)
  | [] => rfl
  | [x] => by rw [List.map_singleton, Lib.join_one]; rfl
  | x :: y :: r => by
    have ih := libjoin_is sep (y :: r)
    rw [List.map_cons, List.map_cons, libjoin_two, List.map_append, List.map_append]
    rw [List.map_cons] at ih
    rw [ih]; rfl
theorem joinL_len {sep : List Nat} {M : Nat} : ∀ {l : List (List Nat)}, (∀ t ∈ l, t.length ≤ M) → (joinL sep l).length ≤ l.length * (M + sep.length)
  | [], _ => by simp [joinL]
  | [x], h => by have := h x (by simp); simp [joinL]; omega
  | x :: y :: r, h => by
    have h1 := h x (by simp)
    have ih := joinL_len (sep := sep) (l := y :: r) (fun t ht => h t (by simp [ht]))
    simp only [joinL, List.length_append, List.length_cons] at ih ⊢
    rw [Nat.add_mul (r.length + 1) 1, Nat.one_mul]
    omega
theorem add_out (a b : ByteArray) (x y : Nat) (ha : a.size ≤ x) (hb : b.size ≤ y) (h : x + y ≤ 9223372036854775807 := by decide) : ∃ c : ByteArray, (∀ w, (Op.stringOp .add a b).run Tryz.prog w = .ok (.string c) w) ∧ c = a ++ b ∧ c.size ≤ x + y :=
  ⟨a ++ b, fun w => run_string_add_sum w a b (by omega), rfl, by rw [ByteArray.size_append]; omega⟩
theorem bytes_cells (w : World) (s : ByteArray) : ∃ (cap : Nat) (w1 : World), (convert 9 86 (.string s)).run Tryz.prog w = .ok (.slice (some ⟨w.heap.size, 0, none⟩) s.size cap) w1 ∧ Below w.heap.size w w1 ∧ ∀ (k : Nat) (hk : k < s.size), w1.cell? ⟨w.heap.size, k, none⟩ = some (.int .u8 (s[k].toNat : Int)) := by
  refine ⟨_, _, run_bytes_of_string w 9 86 5 s Tryz.underlying9 Tryz.underlying86 Tryz.underlying5, (Below.refl _ w).drew.alloc (Nat.le_refl _) _, ?_⟩
  intro k hk
  have hk2 : k < s.data.size := hk
  have : (bytesRow s (grownCap w s.size 0 5))[k]? = some (.int .u8 (s[k].toNat : Int)) := by
    unfold bytesRow
    rw [Array.getElem?_append_left (by simpa using hk2), Array.getElem?_map, Array.getElem?_eq_getElem hk2]
    rfl
  exact (World.cell?_alloc_mark w.drew _ _ _ k).trans this
end Go.Proofs.YtmlakjemgmeffaaGreatDoor
end

section
set_option linter.unusedVariables false
set_option linter.unusedSimpArgs false
namespace Go.Proofs.YtmlakjemgmeffaaGreatDoor
open Go.RowKit
section
variable {P : Program}
theorem append_types (t t' ty e e' : TypeId) (i : TypeInfo) (hi : P.info? e = some i) (ht : P.underlying t = some (.slice e)) (ht' : P.underlying t' = some (.slice e')) (A : Option Addr) (n c : Nat) (x : Value) (w : World) :
    (Builtin.append_ #[t, t'] ty #[.slice A n c, x]).run P w = (Builtin.append_ #[t, t] ty #[.slice A n c, x]).run P w := by
  simp [Builtin.append_, run_underlying ht, run_underlying ht', sizeOf, typeInfo, hi]
theorem append_none (w : World) (base : Nat) (t ty e : TypeId) (i : TypeInfo) (size : Nat) (ht : P.underlying t = some (.slice e)) (hi : P.info? e = some i)
    (v : Value) (n : Nat) (xs : List Value) (hown : w.ownsRow base e size v n xs) (A : Option Addr) (c : Nat) : (Builtin.append_ #[t, t] ty #[v, .slice A 0 c]).run P w = .ok v w := by
  rcases hown.2 with ⟨rfl, rfl⟩ | ⟨g, cap, cur, rfl, _, _, hnc, _⟩
  · cases A <;> simp [Builtin.append_, run_underlying ht, sizeOf, typeInfo, hi, Builtin.lenOf, Builtin.firstCells, loadCells, loadCellsFrom]
  · cases A <;> simp [Builtin.append_, run_underlying ht, sizeOf, typeInfo, hi, Builtin.lenOf, Builtin.firstCells, hnc, storeCells, loadCells, loadCellsFrom]
end
section
variable {α : Type} {E : Rd α} {sz : Nat}
theorem rows_of {w : World} {S : Nat → Prop} {m : List α} {A : Option Addr} {n c : Nat} (h : rdRow sz E w S m [.slice A n c]) (h0 : 0 < m.length) :
    n = m.length ∧ ∃ (ad : Addr) (ess : List (List Value)), A = some ad ∧ S ad.block ∧ ess.length = m.length ∧ (∀ k (hk : k < m.length), ∃ es, ess[k]? = some es ∧ E w S m[k] es ∧ es.length = sz ∧ ∀ j u, es[j]? = some u → w.cell? (ad.add (k * sz + j)) = some u) := by
  obtain ⟨A', c', e, h1, h2, h⟩ := h
  simp only [List.cons.injEq, Value.slice.injEq, and_true] at e
  obtain ⟨rfl, rfl, rfl⟩ := e
  obtain ⟨ad, _, rfl, hS, _⟩ := h 0 h0
  refine ⟨rfl, ad, List.ofFn fun k : Fin m.length => Classical.choose (Classical.choose_spec (h k.1 k.2)), rfl, hS, by simp, fun k hk => ?_⟩
  have hs := Classical.choose_spec (Classical.choose_spec (h k hk))
  refine ⟨_, by rw [List.getElem?_ofFn, dif_pos hk], hs.2.2.1, hs.2.2.2.1, fun j u hu => ?_⟩
  have e1 := hs.1
  injection e1 with e1
  have := hs.2.2.2.2 j u hu
  rwa [← e1] at this
theorem flat_back (hsz : 0 < sz) : ∀ {css : List (List Value)}, (∀ cs ∈ css, cs.length = sz) → ∀ {j : Nat} {u : Value}, css.flatten[j]? = some u → ∃ k i cs, css[k]? = some cs ∧ cs[i]? = some u ∧ j = k * sz + i
  | [], _, j, u, h => by simp at h
  | c :: css, hl, j, u, h => by
    have hc := hl c (by simp)
    rw [List.flatten_cons] at h
    by_cases hj : j < c.length
    · rw [List.getElem?_append_left hj] at h
      exact ⟨0, j, c, rfl, h, by omega⟩
    · rw [List.getElem?_append_right (by omega)] at h
      obtain ⟨k, i, cs, h1, h2, h3⟩ := flat_back hsz (fun cs hc => hl cs (by simp [hc])) h
      exact ⟨k + 1, i, cs, h1, h2, by rw [Nat.add_mul]; omega⟩
theorem run_growN {P : Program} (W : World) (t t' ty : TypeId) (g : Good E sz) (hsz : 0 < sz) (T : Nat → Prop) (base : Nat) (e e' : TypeId) (i : TypeInfo) (z : Value) (bytes : Nat)
    (ht : P.underlying t = some (.slice e)) (ht' : P.underlying t' = some (.slice e')) (hi : P.info? e = some i) (hz : i.zero = some z) (hsize : i.size = sz) (hby : i.bytes = bytes) (hzs : z.cells.size = sz)
    (v : Value) (l : List α) (hG : Grow E sz T W base e v l) (m : List α) (S : Nat → Prop) (A : Option Addr) (n c : Nat) (hX : rdRow sz E W S m [.slice A n c]) (hS : ∀ b, S b → T b ∧ b < W.heap.size ∧ v.ownBlock ≠ some b)
    (hn : l.length + m.length ≤ maxLen) (hb2 : (l.length + m.length) * bytes ≤ 140737488355328) (hbase : base ≤ W.heap.size) :
    ∃ v' w', (Builtin.append_ #[t, t'] ty #[v, .slice A n c]).run P W = .ok v' w' ∧ Grow E sz T w' base e v' (l ++ m) ∧ W.grownBy w' v.ownBlock ∧ (v'.ownBlock = v.ownBlock ∨ ∃ b, v'.ownBlock = some b ∧ W.heap.size ≤ b) := by
  have hty : ∀ x, (Builtin.append_ #[t, t'] ty #[v, x]).run P W = (Builtin.append_ #[t, t] ty #[v, x]).run P W := by
    obtain ⟨vA, vc, hv, _, _⟩ := hG.own
    subst hv
    exact fun x => append_types t t' ty e e' i hi ht ht' _ _ _ x W
  rw [hty]
  by_cases h0 : m.length = 0
  · obtain rfl : m = [] := List.eq_nil_of_length_eq_zero h0
    obtain ⟨A', c', e1, _⟩ := id hX
    simp only [List.cons.injEq, Value.slice.injEq, and_true, List.length_nil] at e1
    obtain ⟨_, rfl, _⟩ := e1
    obtain ⟨css, hl, hown, hEs⟩ := id hG
    exact ⟨v, W, append_none W base t ty e i sz ht hi v _ _ hown A c, by rw [List.append_nil]; exact hG, ⟨rfl, rfl, rfl, Nat.le_refl _, fun _ _ _ => rfl⟩, .inl rfl⟩
  · obtain ⟨rfl, ad, ess, rfl, hSa, hel, hek⟩ := rows_of hX (by omega)
    obtain ⟨css, hl, hown, hEs⟩ := hG
    have hes : ∀ cs ∈ ess, cs.length = sz := fun cs hc => by
      obtain ⟨k, hk, rfl⟩ := List.getElem_of_mem hc
      obtain ⟨es, h1, _, h2, _⟩ := hek k (by omega)
      rw [List.getElem?_eq_getElem hk] at h1
      injection h1 with h1
      rw [h1]; exact h2
    have hcell : ∀ j u, ess.flatten[j]? = some u → W.cell? (ad.add j) = some u := fun j u hu => by
      obtain ⟨k, i', cs, h1, h2, rfl⟩ := flat_back hsz hes hu
      have hk : k < m.length := by have := (List.getElem?_eq_some_iff.1 h1).1; omega
      obtain ⟨es, h3, _, _, h4⟩ := hek k hk
      rw [h3] at h1
      injection h1 with h1
      subst h1
      exact h4 i' u h2
    have hone : ∀ u ∈ ess.flatten, u.oneCell' = true := fun u hu => by
      obtain ⟨cs, hc, hu⟩ := List.mem_flatten.1 hu
      obtain ⟨k, hk, rfl⟩ := List.getElem_of_mem hc
      obtain ⟨es, h1, h2, _, _⟩ := hek k (by omega)
      rw [List.getElem?_eq_getElem hk] at h1
      injection h1 with h1
      exact g.one h2 u (h1 ▸ hu)
    obtain ⟨v', w', hr, hown', hgrow, _, hat⟩ := run_append_own_at (P := P) W base t ty e i z sz bytes ht hi hz hsize hby hzs hsz v l.length css.flatten hown ad m.length c ess.flatten (by rw [flatten_len sz hes, hel]) hcell hone hn hb2 hbase
    have hat2 : v'.ownBlock = v.ownBlock ∨ ∃ b, v'.ownBlock = some b ∧ W.heap.size ≤ b := by
      rcases hat with h1 | h1
      · exact .inl h1
      · exact .inr ⟨_, h1, Nat.le_refl _⟩
    refine ⟨v', w', hr, Grow.step g hl hEs hel (fun k hk => ?_) hown' hgrow hat2, hgrow, hat2⟩
    obtain ⟨es, h1, h2, _, _⟩ := hek k hk
    exact ⟨es, h1, g.more h2 hS⟩
theorem wpList_growN {P : Program} {ops : Array Oper} {rest : List Oper} {o : Oper} {a : Act} {Q : Exit → Act → World → Prop} (W : World) (hgd : o.guard = none) (s x : Operand) (t t' : TypeId)
    (ho : o.op = .call { callee := .builtin .append, args := #[s, x], argTypes := #[t, t'] }) (g : Good E sz) (hsz : 0 < sz) (T : Nat → Prop) (base : Nat) (e e' : TypeId) (i : TypeInfo) (z : Value) (bytes : Nat)
    (ht : P.underlying t = some (.slice e)) (ht' : P.underlying t' = some (.slice e')) (hi : P.info? e = some i) (hz : i.zero = some z) (hsize : i.size = sz) (hby : i.bytes = bytes) (hzs : z.cells.size = sz)
    (v : Value) (l : List α) (hs : a.eval s = v) (hG : Grow E sz T W base e v l) (m : List α) (S : Nat → Prop) (A : Option Addr) (n c : Nat) (hx : a.eval x = .slice A n c) (hX : rdRow sz E W S m [.slice A n c]) (hS : ∀ b, S b → T b ∧ b < W.heap.size ∧ v.ownBlock ≠ some b)
    (hn : l.length + m.length ≤ maxLen) (hb2 : (l.length + m.length) * bytes ≤ 140737488355328) (hbase : base ≤ W.heap.size)
    (h : ∀ v' w', Grow E sz T w' base e v' (l ++ m) → W.grownBy w' v.ownBlock → wpList P ops Q rest (a.put o.dst v') w') :
    wpList P ops Q (o :: rest) a W := by
  refine wpList_plain hgd fun K hK => ?_
  obtain ⟨v', w', hr, h2, h3, _⟩ := run_growN (P := P) W t t' o.type g hsz T base e e' i z bytes ht ht' hi hz hsize hby hzs v l hG m S A n c hX hS hn hb2 hbase
  unfold Oper.wp execOp
  simp only [ho, resolve, invoke, builtin, Sem.run_bind, Sem.run_pure, Result.andThen_ok, List.map_toArray, List.map_cons, List.map_nil, hs, hx, hr]
  exact hK _ _ (h v' w' h2 h3)
end
theorem rd_block {α : Type} {E : Rd α} {sz : Nat} (g : Good E sz) {w : World} {S : Nat → Prop} {b : Nat} {blk : Array Value} {T : TypeId} {l : List α} {css : List (List Value)} (hb : w.heap[b]? = some (.cells blk T (0, 0))) (hS : S b)
    (hl : css.length = l.length) (hf : blk.toList = css.flatten) (hE : ∀ k (hk : k < l.length), ∃ cs, css[k]? = some cs ∧ E w S l[k] cs) (hm : l.length ≤ 1000) : rdRow sz E w S l [.slice (some ⟨b, 0, none⟩) l.length l.length] := by
  have hls : ∀ cs ∈ css, cs.length = sz := fun cs hc => by
    obtain ⟨k, hk, rfl⟩ := List.getElem_of_mem hc
    obtain ⟨cs, h1, h2⟩ := hE k (by omega)
    rw [List.getElem?_eq_getElem hk] at h1
    injection h1 with h1
    rw [h1]; exact g.len h2
  refine ⟨_, _, rfl, Nat.le_refl _, by unfold maxLen; omega, fun k hk => ?_⟩
  obtain ⟨cs, h1, h2⟩ := hE k hk
  refine ⟨_, cs, rfl, hS, h2, g.len h2, fun j u hu => ?_⟩
  have hadd : (⟨b, 0, none⟩ : Addr).add (k * sz + j) = ⟨b, k * sz + j, none⟩ := by unfold Addr.add; split <;> simp_all
  rw [hadd, cell_of_row w b (k * sz + j) blk T (0, 0) hb]
  have := flatten_at sz hls h1 j u hu
  rw [← hf] at this
  simpa using this
theorem new_heap (w : World) (o : Obj) : (w.alloc o).heap[w.heap.size]? = some o := heap_alloc_new w o
theorem old_heap {w : World} {b : Nat} {o' : Obj} (o : Obj) (h : w.heap[b]? = some o') : (w.alloc o).heap[b]? = some o' := (Below.heap_alloc w o b (Array.getElem?_eq_some_iff.1 h).1).trans h
end Go.Proofs.YtmlakjemgmeffaaGreatDoor
end

section
set_option linter.unusedVariables false
namespace Go.Proofs.YtmlakjemgmeffaaGreatDoor
open Go.RowKit
section
variable {α : Type} {E : Rd α} {sz : Nat}
theorem Grow.empty (T : Nat → Prop) {W : World} {base b : Nat} {e : TypeId} (hb : W.heap[b]? = some (.cells #[] e (0, 0))) (hbase : base ≤ b) : Grow E sz T W base e (.slice (some ⟨b, 0, none⟩) 0 0) [] :=
  ⟨[], rfl, ⟨by simp, .inr ⟨b, 0, #[], rfl, hbase, hb, Nat.le_refl _, Nat.zero_le _, by simp, by simp⟩⟩, fun k hk => absurd hk (by simp)⟩
theorem wp_growN {P : Program} {o : Oper} {a : Act} {K : Act → World → Prop} {Q : Exit → Act → World → Prop} (W : World) (s x : Operand) (t t' : TypeId)
    (ho : o.op = .call { callee := .builtin .append, args := #[s, x], argTypes := #[t, t'] }) (g : Good E sz) (hsz : 0 < sz) (T : Nat → Prop) (base : Nat) (e e' : TypeId) (i : TypeInfo) (z : Value) (bytes : Nat)
    (ht : P.underlying t = some (.slice e)) (ht' : P.underlying t' = some (.slice e')) (hi : P.info? e = some i) (hz : i.zero = some z) (hsize : i.size = sz) (hby : i.bytes = bytes) (hzs : z.cells.size = sz)
    (v : Value) (l : List α) (hs : a.eval s = v) (hG : Grow E sz T W base e v l) (m : List α) (S : Nat → Prop) (A : Option Addr) (n c : Nat) (hx : a.eval x = .slice A n c) (hX : rdRow sz E W S m [.slice A n c]) (hS : ∀ b, S b → T b ∧ b < W.heap.size ∧ v.ownBlock ≠ some b)
    (hn : l.length + m.length ≤ maxLen) (hb2 : (l.length + m.length) * bytes ≤ 140737488355328) (hbase : base ≤ W.heap.size)
    (h : ∀ v' w', Grow E sz T w' base e v' (l ++ m) → W.grownBy w' v.ownBlock → (v'.ownBlock = v.ownBlock ∨ ∃ b, v'.ownBlock = some b ∧ W.heap.size ≤ b) → K (a.put o.dst v') w') : Oper.wp P o a W K Q := by
  obtain ⟨v', w', hr, h2, h3, h4⟩ := run_growN (P := P) W t t' o.type g hsz T base e e' i z bytes ht ht' hi hz hsize hby hzs v l hG m S A n c hX hS hn hb2 hbase
  unfold Oper.wp execOp
  simp only [ho, resolve, invoke, builtin, Sem.run_bind, Sem.run_pure, Result.andThen_ok, List.map_toArray, List.map_cons, List.map_nil, hs, hx, hr]
  exact h v' w' h2 h3 h4
theorem step_growN {P : Program} {ops : Array Oper} {o : Oper} {a : Act} {K : Act → World → Prop} {Q : Exit → Act → World → Prop} {F : Prop} (W : World) (hgd : o.guard = none) (s x : Operand) (t t' : TypeId)
    (ho : o.op = .call { callee := .builtin .append, args := #[s, x], argTypes := #[t, t'] }) (g : Good E sz) (hsz : 0 < sz) (T : Nat → Prop) (base : Nat) (e e' : TypeId) (i : TypeInfo) (z : Value) (bytes : Nat)
    (ht : P.underlying t = some (.slice e)) (ht' : P.underlying t' = some (.slice e')) (hi : P.info? e = some i) (hz : i.zero = some z) (hsize : i.size = sz) (hby : i.bytes = bytes) (hzs : z.cells.size = sz)
    (v : Value) (l : List α) (hs : a.eval s = v) (hG : Grow E sz T W base e v l) (m : List α) (S : Nat → Prop) (A : Option Addr) (n c : Nat) (hx : a.eval x = .slice A n c) (hX : rdRow sz E W S m [.slice A n c]) (hS : ∀ b, S b → T b ∧ b < W.heap.size ∧ v.ownBlock ≠ some b)
    (hn : l.length + m.length ≤ maxLen) (hb2 : (l.length + m.length) * bytes ≤ 140737488355328) (hbase : base ≤ W.heap.size)
    (h : ∀ v' w', Grow E sz T w' base e v' (l ++ m) → W.grownBy w' v.ownBlock → (v'.ownBlock = v.ownBlock ∨ ∃ b, v'.ownBlock = some b ∧ W.heap.size ≤ b) → K (a.put o.dst v') w') :
    if Region.wanted o (yielded ops a.tmps) = true then Oper.wp P o a W K Q else F := by
  have hw : Region.wanted o (yielded ops a.tmps) = true := by simp [Region.wanted, hgd]
  rw [if_pos hw]
  exact wp_growN W s x t t' ho g hsz T base e e' i z bytes ht ht' hi hz hsize hby hzs v l hs hG m S A n c hx hX hS hn hb2 hbase h
end
end Go.Proofs.YtmlakjemgmeffaaGreatDoor
end

section
set_option linter.unusedVariables false
namespace Go.Proofs.YtmlakjemgmeffaaGreatDoor
open Go.RowKit
section
variable {α β : Type} {E : Rd α} {F : Rd β} {sz tz : Nat}
def Moved (W : World) (v v' : Value) : Prop := v'.ownBlock = v.ownBlock ∨ ∃ b, v'.ownBlock = some b ∧ W.heap.size ≤ b
theorem wpList_grow1_at {P : Program} {ops : Array Oper} {rest : List Oper} {o : Oper} {a : Act} {Q : Exit → Act → World → Prop} (W : World) (hgd : o.guard = none) (s x : Operand) (t : TypeId)
    (ho : o.op = .call { callee := .builtin .append, args := #[s, x], argTypes := #[t, t] })
    (g : Good E sz) (hsz : 0 < sz) (T : Nat → Prop) (base : Nat) (e : TypeId) (i : TypeInfo) (z : Value) (bytes : Nat) (ht : P.underlying t = some (.slice e)) (hi : P.info? e = some i) (hz : i.zero = some z)
    (hsize : i.size = sz) (hby : i.bytes = bytes) (hzs : z.cells.size = sz)
    (v : Value) (l : List α) (hs : a.eval s = v) (hG : Grow E sz T W base e v l) (y : α) (blk : Array Value) (te : TypeId)
    (hE : E W (fun b => T b ∧ b < W.heap.size ∧ v.ownBlock ≠ some b) y blk.toList) (N : Nat) (hN : N = W.heap.size) (hx : a.eval x = .slice (some ⟨N, 0, none⟩) 1 1)
    (hn : l.length + 1 ≤ maxLen) (hb2 : (l.length + 1) * bytes ≤ 140737488355328) (hbase : base ≤ W.heap.size)
    (h : ∀ v' w', Grow E sz T w' base e v' (l ++ [y]) → W.grownBy w' v.ownBlock → Moved W v v' → wpList P ops Q rest (a.put o.dst v') w') :
    wpList P ops Q (o :: rest) a (W.alloc (.cells blk te)) := by
  subst hN
  obtain ⟨css, hl, hown, hEs⟩ := hG
  refine wpList_append_own_at _ hgd s x t ho base e i z sz bytes ht hi hz hsize hby hzs hsz v l.length css.flatten hs (hown.alloc _) ⟨W.heap.size, 0, none⟩ 1 1 blk.toList hx (by rw [g.len hE]; simp) (cells_new W blk te) (g.one hE) hn hb2 (by simp; omega) ?_
  intro v' w' hown' hgrow _ hat
  have hg2 : W.grownBy w' v.ownBlock := by
    refine ⟨hgrow.os, hgrow.tape, hgrow.output, ?_, fun k hk hne => ?_⟩
    · have := hgrow.size; simp at this; omega
    · rw [hgrow.block k (by simp; omega) hne]
      exact Below.heap_alloc W _ k hk
  have hat' : Moved W v v' := by
    rcases hat with h1 | h1
    · exact .inl h1
    · exact .inr ⟨_, h1, by simp⟩
  refine h v' w' ?_ hg2 hat'
  refine Grow.step g hl hEs (m := [y]) (ess := [blk.toList]) rfl (fun k hk => ?_) (by simpa using hown') hg2 hat'
  simp only [List.length_singleton] at hk
  obtain rfl : k = 0 := by omega
  exact ⟨_, rfl, hE⟩
def Off (u v : Value) : Prop := ∀ b, u.ownBlock = some b → v.ownBlock ≠ some b
theorem Off.symm {u v : Value} (h : Off u v) : Off v u := fun b hb hu => h b hu hb
theorem Off.nil (v : Value) : Off (.slice none 0 0) v := fun b hb => by simp [Value.ownBlock] at hb
theorem Grow.beside (g : Good F tz) {T : Nat → Prop} {W w' : World} {base : Nat} {e : TypeId} {v v' x : Value} {m : List β}
    (hx : Grow F tz (fun b => T b ∧ v.ownBlock ≠ some b) W base e x m) (ho : Off x v) (hg : W.grownBy w' v.ownBlock) (hm : Moved W v v') :
    Grow F tz (fun b => T b ∧ v'.ownBlock ≠ some b) w' base e x m ∧ Off x v' := by
  have hlt := hx.lt
  obtain ⟨css, hl, hown, hE⟩ := hx
  refine ⟨⟨css, hl, hown.kept hg ?_, fun k hk => ?_⟩, fun b hb => ?_⟩
  · cases hb : x.ownBlock with
    | none => exact .inl rfl
    | some b => exact .inr fun hh => ho b hb hh.symm
  · obtain ⟨cs, h1, h2⟩ := hE k hk
    refine ⟨cs, h1, g.both h2 (fun b hb => hg.block b hb.2.1 fun hh => hb.1.2 hh.symm) (fun b hb => ⟨⟨hb.1.1, ?_⟩, Nat.lt_of_lt_of_le hb.2.1 hg.size, hb.2.2⟩)⟩
    rcases hm with h | ⟨b', h, hb'⟩
    · rw [h]; exact hb.1.2
    · rw [h]; intro hh; injection hh with hh; have := hb.2.1; omega
  · rcases hm with h | ⟨b', h, hb'⟩
    · rw [h]; exact ho b hb
    · rw [h]; intro hh; injection hh with hh; have := (hlt b hb).2; omega
theorem Grow.retag (g : Good E sz) {T T' : Nat → Prop} {W : World} {base : Nat} {e : TypeId} {v : Value} {l : List α} (h : Grow E sz T W base e v l) (ht : ∀ b, T b → b < W.heap.size → T' b) : Grow E sz T' W base e v l := by
  obtain ⟨css, hl, hown, hE⟩ := h
  refine ⟨css, hl, hown, fun k hk => ?_⟩
  obtain ⟨cs, h1, h2⟩ := hE k hk
  exact ⟨cs, h1, g.more h2 fun b hb => ⟨ht b hb.1 hb.2.1, hb.2.1, hb.2.2⟩⟩
end
theorem Grow.flat {T T' : Nat → Prop} {W : World} {base : Nat} {e : TypeId} {v : Value} {α : Type} {E : Rd α} {sz : Nat} {l : List α} (hf : ∀ (w : World) (S S' : Nat → Prop) a cs, E w S a cs → E w S' a cs) (h : Grow E sz T W base e v l) : Grow E sz T' W base e v l := by
  obtain ⟨css, hl, hown, hE⟩ := h
  refine ⟨css, hl, hown, fun k hk => ?_⟩
  obtain ⟨cs, h1, h2⟩ := hE k hk
  exact ⟨cs, h1, hf _ _ _ _ _ h2⟩
end Go.Proofs.YtmlakjemgmeffaaGreatDoor
end

section
set_option linter.unusedVariables false
set_option linter.unusedSimpArgs false
namespace Go.Proofs.YtmlakjemgmeffaaGreatDoor
open Go.RowKit
theorem flatten_set (sz : Nat) : ∀ {css : List (List Value)}, (∀ cs ∈ css, cs.length = sz) → ∀ {k : Nat} {cs : List Value}, css[k]? = some cs → ∀ {j : Nat}, j < sz → ∀ u, (css.set k (cs.set j u)).flatten = css.flatten.set (k * sz + j) u
  | [], _, k, cs, hk, _, _, _ => by simp at hk
  | c :: css, h, 0, cs, hk, j, hj, u => by
    simp only [List.getElem?_cons_zero, Option.some.injEq] at hk
    subst hk
    have hc := h c (by simp)
    rw [List.set_cons_zero, List.flatten_cons, List.flatten_cons, Nat.zero_mul, Nat.zero_add, List.set_append_left _ _ (by omega)]
  | c :: css, h, k + 1, cs, hk, j, hj, u => by
    rw [List.getElem?_cons_succ] at hk
    have ih := flatten_set sz (fun cs hc => h cs (by simp [hc])) hk hj u
    have hc := h c (by simp)
    rw [List.set_cons_succ, List.flatten_cons, List.flatten_cons, ih, List.set_append_right _ _ (by rw [hc, Nat.add_mul]; omega), hc]
    congr 2
    rw [Nat.add_mul]; omega
section
variable {α : Type} {E : Rd α} {sz : Nat}
theorem Grow.spot {T : Nat → Prop} {w : World} {base : Nat} {e : TypeId} {ad : Addr} {n c : Nat} {l : List α} (h : Grow E sz T w base e (.slice (some ad) n c) l) : ad = ⟨ad.block, 0, none⟩ ∧ base ≤ ad.block ∧ ad.block < w.heap.size ∧ n = l.length ∧ ∀ o, w.frozen? ⟨ad.block, o, none⟩ = false := by
  obtain ⟨css, hl, ho, hE⟩ := h
  rcases ho.2 with ⟨h1, _⟩ | ⟨gb, cap, cur, h1, hb, hg, hn, hm, hs, ht⟩
  · simp at h1
  · simp only [Value.slice.injEq, Option.some.injEq] at h1
    obtain ⟨rfl, rfl, rfl⟩ := h1
    exact ⟨rfl, hb, (Array.getElem?_eq_some_iff.1 hg).1, rfl, fun o => frozen_of_row w gb o cur e hg⟩
theorem Grow.set (g : Good E sz) {T : Nat → Prop} {w : World} {base : Nat} {e : TypeId} {ad : Addr} {n c : Nat} {l : List α} (h : Grow E sz T w base e (.slice (some ad) n c) l) {k : Nat} (hk : k < l.length) {j : Nat} (hj : j < sz) (u : Value) (y : α)
    (hy : ∀ cs, E w (fun b => T b ∧ b < w.heap.size ∧ some ad.block ≠ some b) l[k] cs → E w (fun b => T b ∧ b < w.heap.size ∧ some ad.block ≠ some b) y (cs.set j u)) :
    Grow E sz T (w.setCell (ad.add (k * sz + j)) u) base e (.slice (some ad) n c) (l.set k y) ∧ w.grownBy (w.setCell (ad.add (k * sz + j)) u) (some ad.block) := by
  obtain ⟨e0, _, _, rfl, _⟩ := h.spot
  obtain ⟨gb, rfl⟩ : ∃ gb, ad = ⟨gb, 0, none⟩ := ⟨_, e0⟩
  clear e0
  have hadd : (⟨gb, 0, none⟩ : Addr).add (k * sz + j) = ⟨gb, k * sz + j, none⟩ := by unfold Addr.add; split <;> simp_all
  obtain ⟨css, hl, ho, hE⟩ := h
  have hls := Grow.lens g hl hE
  obtain ⟨cs, h1, h2⟩ := hE k hk
  rw [hadd]
  obtain ⟨o1, o2⟩ := ho.stored (k * sz + j) u
  have hkeep : ∀ (a : α) (cs : List Value), E w (fun b => T b ∧ b < w.heap.size ∧ some gb ≠ some b) a cs → E (w.setCell ⟨gb, k * sz + j, none⟩ u) (fun b => T b ∧ b < (w.setCell ⟨gb, k * sz + j, none⟩ u).heap.size ∧ some gb ≠ some b) a cs :=
    fun a cs h => g.both h (fun b hb => heap_setCell_other w _ b u (fun hh => hb.2.2 (by rw [hh]))) (fun b hb => ⟨hb.1, by simpa using hb.2.1, hb.2.2⟩)
  refine ⟨⟨css.set k (cs.set j u), by rw [List.length_set, List.length_set, hl], ?_, fun i hi => ?_⟩, o2⟩
  · rw [flatten_set sz hls h1 hj, List.length_set]
    exact o1
  · rw [List.length_set] at hi
    by_cases hik : k = i
    · subst hik
      refine ⟨cs.set j u, by rw [List.getElem?_set_self (by omega)], ?_⟩
      rw [List.getElem_set_self]
      exact hkeep _ _ (hy cs h2)
    · obtain ⟨ds, d1, d2⟩ := hE i hi
      refine ⟨ds, by rw [List.getElem?_set_ne hik]; exact d1, ?_⟩
      rw [List.getElem_set_ne hik]
      exact hkeep _ _ d2
end
theorem Grow.frz {α : Type} {E : Rd α} {sz : Nat} {T : Nat → Prop} {w : World} {base : Nat} {e : TypeId} {ad : Addr} {n c : Nat} {l : List α} (h : Grow E sz T w base e (.slice (some ad) n c) l) (j : Nat) : w.frozen? (ad.add j) = false := by
  obtain ⟨e0, _, _, _, hfz⟩ := h.spot
  obtain ⟨gb, rfl⟩ : ∃ gb, ad = ⟨gb, 0, none⟩ := ⟨_, e0⟩
  have hadd : (⟨gb, 0, none⟩ : Addr).add j = ⟨gb, j, none⟩ := by unfold Addr.add; split <;> simp_all
  rw [hadd]; exact hfz j
end Go.Proofs.YtmlakjemgmeffaaGreatDoor
end

section
set_option linter.unusedVariables false
namespace Go.Proofs.YtmlakjemgmeffaaGreatDoor
open Go
section
variable {P : Program} {ops : Array Oper} {Q : Exit → Act → World → Prop} {md : Region.Mode} {S : World → Prop} {z : Nat}
def wpAnyL (P : Program) (md : Region.Mode) (ops : Array Oper) (Q : Exit → Act → World → Prop) (S : World → Prop) (z : Nat) : Nat → Array Bool → Act → World → Prop
  | 0, listed, a, w => Region.ready md ops listed = [] ∧ Q .normal a w
  | fuel + 1, listed, a, w =>
    (Region.ready md ops listed = [] → Q .normal a w) ∧
    ∀ i ∈ Region.ready md ops listed, wpOp P ops Q i (fun a' w' => (i ≠ z → S w') ∧ wpAnyL P md ops Q S z fuel (listed.setIfInBounds i true) a' w') a w
theorem wpAny_of_L : ∀ (fuel : Nat) (listed : Array Bool) (a : Act) (w : World), wpAnyL P md ops Q S z fuel listed a w → wpAny P md ops Q fuel listed a w
  | 0, _, _, _, h => h
  | fuel + 1, _, _, _, h => ⟨h.1, fun i hi => wpOp_mono (fun a' w' h' => wpAny_of_L fuel _ a' w' h'.2) (h.2 i hi)⟩
def Full (md : Region.Mode) (ops : Array Oper) (listed : Array Bool) : Prop := ∀ j o, ops[j]? = some o → listed.getD j false = true → ∀ e ∈ o.after, Region.binds md e = true → listed.getD e.on false = true
def fullB (md : Region.Mode) (ops : Array Oper) (listed : Array Bool) : Bool :=
  (List.range ops.size).all fun j => !listed.getD j false || ((ops[j]?).map (·.after.all fun e => !Region.binds md e || listed.getD e.on false)).getD true
theorem full_of {listed : Array Bool} (h : fullB md ops listed = true) : Full md ops listed := by
  intro j o ho hj e he hb
  have hlt : j < ops.size := (Array.getElem?_eq_some_iff.1 ho).1
  unfold fullB at h
  rw [List.all_eq_true] at h
  have := h j (List.mem_range.2 hlt)
  rw [ho, hj] at this
  simp only [Bool.not_true, Bool.false_or, Option.map_some, Option.getD_some] at this
  have := Array.all_eq_true_iff_forall_mem.1 this e he
  rw [hb] at this
  simpa using this
theorem Full.step {listed : Array Bool} {i : Nat} (h : Full md ops listed) (hi : i ∈ Region.ready md ops listed) : Full md ops (listed.setIfInBounds i true) := by
  intro j o ho hj e he hb
  obtain ⟨_, oi, hoi, hall⟩ := mem_ready.1 hi
  by_cases hji : i = j
  · subst hji
    rw [hoi] at ho
    injection ho with ho
    subst ho
    exact getD_set_true (hall e he hb)
  · rw [getD_set_ne false hji] at hj
    exact getD_set_true (h j o ho hj e he hb)
def waitB (md : Region.Mode) (ops : Array Oper) : List Nat → Bool
  | j :: k :: r => ((ops[j]?).map (·.after.any fun e => Region.binds md e && e.on == k)).getD false && waitB md ops (k :: r)
  | _ => true
theorem wait_edge {j k : Nat} (h : ((ops[j]?).map (·.after.any fun e => Region.binds md e && e.on == k)).getD false = true) : ∃ o e, ops[j]? = some o ∧ e ∈ o.after ∧ Region.binds md e = true ∧ e.on = k := by
  cases ho : ops[j]? with
  | none => rw [ho] at h; simp at h
  | some o =>
    rw [ho] at h
    simp only [Option.map_some, Option.getD_some] at h
    obtain ⟨e, he, hb⟩ := Array.any_eq_true'.1 h
    simp only [Bool.and_eq_true, beq_iff_eq] at hb
    exact ⟨o, e, rfl, he, hb.1, hb.2⟩
theorem wait_listed {listed : Array Bool} (hc : Full md ops listed) {i : Nat} : ∀ (r : List Nat) (j : Nat), waitB md ops (j :: (r ++ [i])) = true → (∀ o, ops[j]? = some o → ∀ e ∈ o.after, Region.binds md e = true → listed.getD e.on false = true) → listed.getD i false = true
  | [], j, h, hj => by
    unfold waitB at h
    rw [List.nil_append] at h
    simp only [Bool.and_eq_true] at h
    obtain ⟨o, e, ho, he, hb, rfl⟩ := wait_edge h.1
    exact hj o ho e he hb
  | k :: r, j, h, hj => by
    rw [List.cons_append] at h
    unfold waitB at h
    simp only [Bool.and_eq_true] at h
    obtain ⟨o, e, ho, he, hb, rfl⟩ := wait_edge h.1
    exact wait_listed hc r e.on h.2 fun o' ho' => hc e.on o' ho' (hj o ho e he hb)
theorem wpAnyL_first {i : Nat} {oi : Oper} {v : Value} (hi : ops[i]? = some oi) (hsel : ∀ (j : Nat) (o : Oper) cs b, ops[j]? = some o → o.op ≠ .select cs b)
    (hQ : ∀ c a w, Q (.panic c) (a.put oi.dst v) w → Q (.panic c) a w) (hiz : i ≠ z) (hz : ∀ listed, Full md ops listed → z ∈ Region.ready md ops listed → listed.getD i false = true) :
    ∀ (fuel : Nat) (listed : Array Bool) (a : Act) (w : World), Full md ops listed →
      (∀ j oj, ops[j]? = some oj → j ≠ i → listed.getD j true = false → (∀ e ∈ oj.after, Region.binds md e = true → e.on ≠ i) → oi.apart ops oj = true) →
      i ∈ Region.ready md ops listed → YieldsIf P ops S oi v a → S w →
      wpAnyL P md ops Q S z fuel (listed.setIfInBounds i true) (a.put oi.dst v) w → wpAnyL P md ops Q S z (fuel + 1) listed a w := by
  intro fuel
  induction fuel with
  | zero =>
    intro listed a w _ _ hr hy hS H
    refine ⟨fun h => (by rw [h] at hr; cases hr), fun j hj => ?_⟩
    by_cases hji : j = i
    · subst hji; exact hy.wpOp hi hS ⟨fun _ => hS, H⟩
    · have := ready_mono hj hji
      rw [H.1] at this
      cases this
  | succ fuel ih =>
    intro listed a w hc hfree hr hy hS H
    refine ⟨fun h => (by rw [h] at hr; cases hr), fun j hj => ?_⟩
    by_cases hji : j = i
    · subst hji; exact hy.wpOp hi hS ⟨fun _ => hS, H⟩
    · have h1 := H.2 j (ready_mono hj hji)
      obtain ⟨hjun, oj, hoj, hall⟩ := mem_ready.1 hj
      have hil : listed.getD i false = false := by
        have h0 := (mem_ready.1 hr).1
        rcases Nat.lt_or_ge i listed.size with h' | h'
        · simp [h'] at h0 ⊢; exact h0
        · simp [Array.getElem?_eq_none h']
      have hnot : ∀ e ∈ oj.after, Region.binds md e = true → e.on ≠ i := fun e he hb heq => by
        have h1 := hall e he hb
        rw [heq, hil] at h1
        cases h1
      have hjz : j ≠ z := fun e => by
        subst e
        rw [hz listed hc hj] at hil
        cases hil
      have h2 := wpOp_putIf hoj (hfree j oj hoj hji hjun hnot) (fun cs b => hsel i oi cs b hi) (fun cs b => hsel j oj cs b hoj) hQ hy h1
      have hfree' : ∀ k ok, ops[k]? = some ok → k ≠ i → (listed.setIfInBounds j true).getD k true = false →
          (∀ e ∈ ok.after, Region.binds md e = true → e.on ≠ i) → oi.apart ops ok = true := fun k ok hk hki hun hno => by
        refine hfree k ok hk hki ?_ hno
        by_cases hjk : j = k
        · subst hjk; exact hjun
        · rw [getD_set_ne true hjk] at hun; exact hun
      refine wpOp_mono (fun a' w' h3 => ⟨h3.2.1, ih (listed.setIfInBounds j true) a' w' (hc.step hj) hfree' (ready_mono hr (Ne.symm hji)) h3.1 (h3.2.1 hjz) ?_⟩) h2
      rw [Array.setIfInBounds_comm _ _ hji]
      exact h3.2.2
theorem wpAnyL_take {i : Nat} {oi : Oper} {v : Value} {fuel : Nat} {listed : Array Bool} {a : Act} {w : World} (r : List Nat) (hi : ops[i]? = some oi)
    (hs : Region.noSelect ops = true) (hf : Region.free md ops listed i = true) (hr : (Region.ready md ops listed).contains i = true)
    (hQ : ∀ c a w, Q (.panic c) (a.put oi.dst v) w → Q (.panic c) a w) (hiz : (i == z) = false) (hw : waitB md ops (z :: (r ++ [i])) = true) (hc : fullB md ops listed = true) (hy : YieldsIf P ops S oi v a) (hS : S w)
    (h : wpAnyL P md ops Q S z fuel (listed.setIfInBounds i true) (a.put oi.dst v) w) : wpAnyL P md ops Q S z (fuel + 1) listed a w :=
  wpAnyL_first hi (Region.noSelect_spec hs) hQ (by simpa using hiz) (fun L hL hzL => by
    obtain ⟨_, o, ho, hall⟩ := mem_ready.1 hzL
    exact wait_listed hL r z hw fun o' ho' => by rw [ho] at ho'; injection ho' with ho'; subst ho'; exact hall)
    fuel listed a w (full_of hc) (Region.free_spec hi hf) (by simpa using hr) hy hS h
theorem wpAnyL_done {listed : Array Bool} {a : Act} {w : World} (hr : Region.ready md ops listed = []) (h : Q .normal a w) :
    ∀ fuel, wpAnyL P md ops Q S z fuel listed a w
  | 0 => ⟨hr, h⟩
  | _ + 1 => ⟨fun _ => h, by rw [hr]; simp⟩
theorem wpAnyL_one {i : Nat} {o : Oper} {fuel : Nat} {listed : Array Bool} {a : Act} {w : World} (hr : Region.ready md ops listed = [i]) (ho : ops[i]? = some o)
    (h : ∀ K' : Act → World → Prop, Shut (∀ a w, S w → (S w → wpAnyL P md ops Q S z fuel (listed.setIfInBounds i true) a w) → K' a w) → if Region.wanted o (yielded ops a.tmps) = true then Oper.wp P o a w K' Q else K' (a.put o.dst undef) w) :
    wpAnyL P md ops Q S z (fuel + 1) listed a w := by
  refine ⟨fun h0 => (by rw [hr] at h0; cases h0), fun j hj => ?_⟩
  rw [hr, List.mem_singleton] at hj
  subst hj
  exact wpOp_step ho fun K' hK => h K' (fun a w hS hW => hK a w ⟨fun _ => hS, hW hS⟩)
theorem wpAnyL_last {o : Oper} {fuel : Nat} {listed : Array Bool} {a : Act} {w : World} (hr : Region.ready md ops listed = [z]) (ho : ops[z]? = some o) (hr2 : Region.ready md ops (listed.setIfInBounds z true) = [])
    (h : ∀ K' : Act → World → Prop, Shut (∀ a w, Q .normal a w → K' a w) → if Region.wanted o (yielded ops a.tmps) = true then Oper.wp P o a w K' Q else K' (a.put o.dst undef) w) :
    wpAnyL P md ops Q S z (fuel + 1) listed a w := by
  refine ⟨fun h0 => (by rw [hr] at h0; cases h0), fun j hj => ?_⟩
  rw [hr, List.mem_singleton] at hj
  subst hj
  exact wpOp_step ho fun K' hK => h K' (fun a w hq => hK a w ⟨fun h => absurd rfl h, wpAnyL_done hr2 hq _⟩)
theorem wp_region_L {id : Nat} {a : Act} {w : World} (S : World → Prop) (z : Nat) (hm : P.follows .mixedOrders = true) (hS : S w.drew)
    (h : S w.drew → wpAnyL P .any ops Q S z ops.size (Array.replicate ops.size false) a w.drew) : (Code.region id ops true).wp P Q a w :=
  wp_region_any hm (wpAny_of_L _ _ _ _ (h hS))
end
end Go.Proofs.YtmlakjemgmeffaaGreatDoor
end
