/- Words for memory that a call makes itself: one element appended to a slice of its own, and what that leaves of all else. No condition. -/
import Derived.Test.YtobamjjonkhcfaaTotal
import Derived.Maps.AppendAt
import Derived.OwnWalk
namespace Go.Proofs.Ytobamjjonkhcfaa
open Go.RowKit

/-- Two slices of the call's own that lie in no one block. -/
def Apart (u v : Value) : Prop := ∀ g, u.ownBlock = some g → v.ownBlock ≠ some g
theorem Apart.symm {u v : Value} (h : Apart u v) : Apart v u := fun g hv hu => h g hu hv
theorem Apart.nil_left (v : Value) : Apart (.slice none 0 0) v := fun g hg => by simp [Value.ownBlock] at hg
theorem Apart.nil_right (v : Value) : Apart v (.slice none 0 0) := (Apart.nil_left v).symm

/-- What an append to v leaves: new blocks, and writes to v's own block alone. -/
structure Kept (W w' : World) (v v' : Value) : Prop where
  grown : W.grownBy w' v.ownBlock
  own : v'.ownBlock = v.ownBlock ∨ ∃ g, v'.ownBlock = some g ∧ W.heap.size ≤ g

section
variable {W w' : World} {v v' u : Value} {base n size : Nat} {e : TypeId} {xs : List Value}
theorem Kept.other (k : Kept W w' v v') (h : W.ownsRow base e size u n xs) (ha : Apart u v) : w'.ownsRow base e size u n xs :=
  h.kept k.grown (by
    rcases hu : u.ownBlock with _ | g
    · exact .inl rfl
    · exact .inr (by have := ha g hu; exact fun hh => this hh.symm))
theorem Kept.apart (k : Kept W w' v v') (h : W.ownsRow base e size u n xs) (ha : Apart u v) : Apart u v' := by
  intro g hu hv
  rcases k.own with h1 | ⟨g', h1, h2⟩
  · exact ha g hu (h1 ▸ hv)
  · have := (h.lt g hu).2
    rw [h1] at hv
    injection hv with hv
    omega
theorem Kept.below (k : Kept W w' v v') {B : Nat} {w0 : World} (hb : Below B w0 W) (hB : B ≤ W.heap.size) (hv : ∀ g, v.ownBlock = some g → B ≤ g) : Below B w0 w' :=
  hb.grown k.grown hB hv
end

theorem wpList_app1 {P : Program} {ops : Array Oper} {rest : List Oper} {o : Oper} {a : Act} {Q : Exit → Act → World → Prop} (W : World) (hgd : o.guard = none) (s x : Operand) (t : TypeId)
    (ho : o.op = .call { callee := .builtin .append, args := #[s, x], argTypes := #[t, t] })
    (base : Nat) (e : TypeId) (i : TypeInfo) (z : Value) (bytes : Nat) (ht : P.underlying t = some (.slice e)) (hi : P.info? e = some i) (hz : i.zero = some z)
    (hsize : i.size = 1) (hby : i.bytes = bytes) (hzs : z.cells.size = 1)
    (v : Value) (n : Nat) (xs : List Value) (hs : a.eval s = v) (hown : W.ownsRow base e 1 v n xs)
    (u : Value) (te : TypeId) (hu : u.oneCell' = true) (hx : a.eval x = .slice (some ⟨W.heap.size, 0, none⟩) 1 1)
    (hn : n + 1 ≤ maxLen) (hb2 : (n + 1) * bytes ≤ 140737488355328) (hbase : base ≤ W.heap.size)
    (h : ∀ v' w', w'.ownsRow base e 1 v' (n + 1) (xs ++ [u]) → Kept W w' v v' → wpList P ops Q rest (a.put o.dst v') w') :
    wpList P ops Q (o :: rest) a (W.alloc (.cells #[u] te)) := by
  refine wpList_append_own_at _ hgd s x t ho base e i z 1 bytes ht hi hz hsize hby hzs (by decide) v n xs hs (hown.alloc _) ⟨W.heap.size, 0, none⟩ 1 1 [u] hx (by simp) ?_ (by simpa using hu) hn hb2 (by simp; omega) ?_
  · intro j w hj
    match j, hj with
    | 0, hj => simp at hj; subst hj; simp [Addr.add]
  · intro v' w' hown' hgrow _ hat
    refine h v' w' hown' ⟨⟨hgrow.os, hgrow.tape, hgrow.output, ?_, ?_⟩, ?_⟩
    · have := hgrow.size; simp at this; omega
    · intro k hk hne
      rw [hgrow.block k (by simp; omega) hne]
      exact Below.heap_alloc W _ k hk
    · rcases hat with h1 | h1
      · exact .inl h1
      · exact .inr ⟨_, h1, by simp⟩

theorem own_slice {w : World} {base : Nat} {e : TypeId} {n : Nat} {v : Value} {xs : List Value} (h : w.ownsRow base e 1 v n xs) : ∃ A c, v = .slice A n c ∧ n ≤ c ∧ c ≤ maxLen ∧ Reads w w.heap.size 1 A n xs := by
  have hl := h.1
  rcases h.2 with ⟨rfl, rfl⟩ | ⟨g, cap, cur, rfl, _, _, hnc, hcm, _⟩
  · have h0 : xs = [] := by simpa using hl
    subst h0
    exact ⟨none, 0, rfl, by omega, by unfold maxLen; omega, Reads.none_⟩
  · exact ⟨_, _, rfl, hnc, hcm, Reads.of_own h⟩
theorem int_info' : (Try.prog.info? 3).map (fun i => (i.zero, i.size, i.bytes)) = some (some (.int .i64 0), 1, 8) := by kernel_rfl
end Go.Proofs.Ytobamjjonkhcfaa
