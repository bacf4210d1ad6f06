/- Slices of the call's own that grow side by side. No condition. -/
import Derived.Test.YtjfenheplkoajaaDoorDeep2
set_option linter.unusedVariables false
namespace Go.Proofs.YtjfenheplkoajaaDoor
open Go.RowKit
section
variable {α β : Type} {E : Rd α} {F : Rd β} {sz tz : Nat}
/-- Where a slice lies behind an append. -/
def Moved (W : World) (v v' : Value) : Prop := v'.ownBlock = v.ownBlock ∨ ∃ b, v'.ownBlock = some b ∧ W.heap.size ≤ b
/-- One element appended to what grows, at the operation; and where it lies then. -/
theorem wpList_grow1_at {P : Program} {ops : Array Oper} {rest : List Oper} {o : Oper} {a : Act} {Q : Exit → Act → World → Prop} (W : World) (hgd : o.guard = none) (s x : Operand) (t : TypeId)
    (ho : o.op = .call { callee := .builtin .append, args := #[s, x], argTypes := #[t, t] })
    (g : Good E sz) (hsz : 0 < sz) (T : Nat → Prop) (base : Nat) (e : TypeId) (i : TypeInfo) (z : Value) (bytes : Nat) (ht : P.underlying t = some (.slice e)) (hi : P.info? e = some i) (hz : i.zero = some z)
    (hsize : i.size = sz) (hby : i.bytes = bytes) (hzs : z.cells.size = sz)
    (v : Value) (l : List α) (hs : a.eval s = v) (hG : Grow E sz T W base e v l) (y : α) (blk : Array Value) (te : TypeId)
    (hE : E W (fun b => T b ∧ b < W.heap.size ∧ v.ownBlock ≠ some b) y blk.toList) (N : Nat) (hN : N = W.heap.size) (hx : a.eval x = .slice (some ⟨N, 0, none⟩) 1 1)
    (hn : l.length + 1 ≤ maxLen) (hb2 : (l.length + 1) * bytes ≤ 140737488355328) (hbase : base ≤ W.heap.size)
    (h : ∀ v' w', Grow E sz T w' base e v' (l ++ [y]) → W.grownBy w' v.ownBlock → Moved W v v' → wpList P ops Q rest (a.put o.dst v') w') :
    wpList P ops Q (o :: rest) a (W.alloc (.cells blk te)) := by
  subst hN
  obtain ⟨css, hl, hown, hEs⟩ := hG
  refine wpList_append_own_at _ hgd s x t ho base e i z sz bytes ht hi hz hsize hby hzs hsz v l.length css.flatten hs (hown.alloc _) ⟨W.heap.size, 0, none⟩ 1 1 blk.toList hx (by rw [g.len hE]; simp) (cells_new W blk te) (g.one hE) hn hb2 (by simp; omega) ?_
  intro v' w' hown' hgrow _ hat
  have hg2 : W.grownBy w' v.ownBlock := by
    refine ⟨hgrow.os, hgrow.tape, hgrow.output, ?_, fun k hk hne => ?_⟩
    · have := hgrow.size; simp at this; omega
    · rw [hgrow.block k (by simp; omega) hne]
      exact Below.heap_alloc W _ k hk
  have hat' : Moved W v v' := by
    rcases hat with h1 | h1
    · exact .inl h1
    · exact .inr ⟨_, h1, by simp⟩
  refine h v' w' ?_ hg2 hat'
  refine Grow.step g hl hEs (m := [y]) (ess := [blk.toList]) rfl (fun k hk => ?_) (by simpa using hown') hg2 hat'
  simp only [List.length_singleton] at hk
  obtain rfl : k = 0 := by omega
  exact ⟨_, rfl, hE⟩
/-- Two that grow lie in no one block, and no element of the one in the row of the other. -/
def Off (u v : Value) : Prop := ∀ b, u.ownBlock = some b → v.ownBlock ≠ some b
theorem Off.symm {u v : Value} (h : Off u v) : Off v u := fun b hb hu => h b hu hb
theorem Off.nil (v : Value) : Off (.slice none 0 0) v := fun b hb => by simp [Value.ownBlock] at hb
/-- What else grows is as it was behind an append to v, and lies beside it still. -/
theorem Grow.beside (g : Good F tz) {T : Nat → Prop} {W w' : World} {base : Nat} {e : TypeId} {v v' x : Value} {m : List β}
    (hx : Grow F tz (fun b => T b ∧ v.ownBlock ≠ some b) W base e x m) (ho : Off x v) (hg : W.grownBy w' v.ownBlock) (hm : Moved W v v') :
    Grow F tz (fun b => T b ∧ v'.ownBlock ≠ some b) w' base e x m ∧ Off x v' := by
  have hlt := hx.lt
  obtain ⟨css, hl, hown, hE⟩ := hx
  refine ⟨⟨css, hl, hown.kept hg ?_, fun k hk => ?_⟩, fun b hb => ?_⟩
  · cases hb : x.ownBlock with
    | none => exact .inl rfl
    | some b => exact .inr fun hh => ho b hb hh.symm
  · obtain ⟨cs, h1, h2⟩ := hE k hk
    refine ⟨cs, h1, g.both h2 (fun b hb => hg.block b hb.2.1 fun hh => hb.1.2 hh.symm) (fun b hb => ⟨⟨hb.1.1, ?_⟩, Nat.lt_of_lt_of_le hb.2.1 hg.size, hb.2.2⟩)⟩
    rcases hm with h | ⟨b', h, hb'⟩
    · rw [h]; exact hb.1.2
    · rw [h]; intro hh; injection hh with hh; have := hb.2.1; omega
  · rcases hm with h | ⟨b', h, hb'⟩
    · rw [h]; exact ho b hb
    · rw [h]; intro hh; injection hh with hh; have := (hlt b hb).2; omega
theorem Off.moved {W : World} {v v' x : Value} (h : Off v x) (hx : ∀ b, x.ownBlock = some b → b < W.heap.size) (hm : Moved W v v') : Off v' x := by
  intro b hb hxb
  rcases hm with h1 | ⟨b', h1, hb'⟩
  · exact h b (h1 ▸ hb) hxb
  · rw [h1] at hb; injection hb with hb; have := hx b hxb; omega
theorem Grow.retag (g : Good E sz) {T T' : Nat → Prop} {W : World} {base : Nat} {e : TypeId} {v : Value} {l : List α} (h : Grow E sz T W base e v l) (ht : ∀ b, T b → b < W.heap.size → T' b) : Grow E sz T' W base e v l := by
  obtain ⟨css, hl, hown, hE⟩ := h
  refine ⟨css, hl, hown, fun k hk => ?_⟩
  obtain ⟨cs, h1, h2⟩ := hE k hk
  exact ⟨cs, h1, g.more h2 fun b hb => ⟨ht b hb.1 hb.2.1, hb.2.1, hb.2.2⟩⟩
end
/-- Readers that look at no block: whatever holds of blocks. -/
theorem Grow.flat {T T' : Nat → Prop} {W : World} {base : Nat} {e : TypeId} {v : Value} {α : Type} {E : Rd α} {sz : Nat} {l : List α} (hf : ∀ (w : World) (S S' : Nat → Prop) a cs, E w S a cs → E w S' a cs) (h : Grow E sz T W base e v l) : Grow E sz T' W base e v l := by
  obtain ⟨css, hl, hown, hE⟩ := h
  refine ⟨css, hl, hown, fun k hk => ?_⟩
  obtain ⟨cs, h1, h2⟩ := hE k hk
  exact ⟨cs, h1, hf _ _ _ _ _ h2⟩
end Go.Proofs.YtjfenheplkoajaaDoor
