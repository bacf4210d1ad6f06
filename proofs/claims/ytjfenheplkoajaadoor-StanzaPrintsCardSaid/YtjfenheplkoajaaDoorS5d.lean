/- The document's own reader of stanzas: how a line is taken apart; its state in memory. -/
import Derived.Test.YtjfenheplkoajaaDoorS5c
import Derived.Deep.RegionHeld3
set_option maxRecDepth 100000
set_option linter.unusedVariables false
set_option linter.unusedSimpArgs false
namespace Go.Proofs.YtjfenheplkoajaaDoor
open Go.RowKit
/-! ### Where a name ends, where a value begins -/
theorem nm_drop {l : List Nat} {k : Nat} (hk : k ≤ (nmOf l).length) : nmOf (l.drop k) = (nmOf l).drop k := by
  induction k generalizing l with
  | zero => rfl
  | succ k ih =>
    cases l with
    | nil => simp [nmOf]
    | cons c r =>
      unfold nmOf at hk ⊢
      rw [List.takeWhile_cons] at hk ⊢
      by_cases hc : (c != 58) = true
      · rw [if_pos hc] at hk ⊢
        rw [List.drop_succ_cons, List.drop_succ_cons]
        exact ih (l := r) (by unfold nmOf; simpa using hk)
      · rw [if_neg hc] at hk
        simp at hk
theorem nm_le (l : List Nat) : (nmOf l).length ≤ l.length := by
  unfold nmOf
  exact (List.takeWhile_prefix _).length_le
theorem nm_take (l : List Nat) : l.take (nmOf l).length = nmOf l := by
  obtain ⟨r, hr⟩ := List.takeWhile_prefix (p := fun c => c != 58) (l := l)
  have : (nmOf l ++ r).take (nmOf l).length = nmOf l := by simp
  rwa [show nmOf l ++ r = l from hr] at this
theorem nm_at {l : List Nat} {k : Nat} (hk : k ≤ (nmOf l).length) (hl : k < l.length) : (k < (nmOf l).length ↔ l[k] ≠ 58) := by
  have h := nm_drop hk
  rw [List.drop_eq_getElem_cons hl] at h
  unfold nmOf at h
  rw [List.takeWhile_cons] at h
  have h2 := congrArg List.length h
  by_cases hc : l[k] = 58
  · rw [hc] at h2
    simp only [bne_self_eq_false, Bool.false_eq_true, if_false, List.length_nil, List.length_drop] at h2
    unfold nmOf
    exact ⟨fun hlt => by omega, fun hne => absurd hc hne⟩
  · rw [if_pos (by rw [bne_iff_ne]; exact hc)] at h2
    rw [List.length_cons, List.length_drop] at h2
    unfold nmOf
    exact ⟨fun _ => hc, fun _ => by omega⟩
theorem nm_has (l : List Nat) : (58 ∈ l) ↔ (nmOf l).length < l.length := by
  constructor
  · intro h
    rcases Nat.lt_or_ge (nmOf l).length l.length with h1 | h1
    · exact h1
    · have e := nm_take l
      rw [List.take_of_length_le h1] at e
      have := twl_all (p := fun c => c != 58) (l := l) (x := 58) (by unfold nmOf at e; rw [← e]; exact h)
      simp at this
  · intro h
    have := (nm_at (l := l) (k := (nmOf l).length) (Nat.le_refl _) h)
    have hc : l[(nmOf l).length] = 58 := by
      by_cases hc : l[(nmOf l).length] = 58
      · exact hc
      · exact absurd (this.2 hc) (Nat.lt_irrefl _)
    rw [← hc]; exact List.getElem_mem h
/-- The blanks counted off so far. -/
def BlI (l : List Nat) (n k : Nat) : Prop := (l.drop n).dropWhile (fun c => c == 32) = (l.drop k).dropWhile (fun c => c == 32)
theorem bl_on {l : List Nat} {n k : Nat} (h : BlI l n k) (hk : k < l.length) (hc : l[k] = 32) : BlI l n (k + 1) := by
  unfold BlI at *
  rw [h, List.drop_eq_getElem_cons hk, List.dropWhile_cons, if_pos (by rw [hc]; rfl)]
theorem bl_off {l : List Nat} {n k : Nat} (h : BlI l n k) (hc : ∀ hk : k < l.length, l[k] ≠ 32) : (l.drop n).dropWhile (fun c => c == 32) = l.drop k := by
  unfold BlI at h
  rw [h]
  by_cases hk : k < l.length
  · rw [List.drop_eq_getElem_cons hk, List.dropWhile_cons, if_neg (by simpa using hc hk)]
  · rw [List.drop_eq_nil_of_le (by omega)]; rfl
theorem B_el (s : ByteArray) (k : Nat) (hk : k < (B s).length) : (B s)[k] = (s[k]'(by rw [B_len] at hk; exact hk)).toNat := by
  have h := B_at s k (by rw [B_len] at hk; exact hk)
  rw [List.getElem?_eq_getElem hk] at h
  injection h
/-! ### The state in memory -/
/-- All but one block below a number lie as they lay. -/
structure Fr (N r : Nat) (W W' : World) : Prop where
  bel : Below r W W'
  mid : ∀ b, r < b → b < N → W'.heap[b]? = W.heap[b]?
theorem Fr.refl (N r : Nat) (W : World) : Fr N r W W := ⟨Below.refl _ _, fun _ _ _ => rfl⟩
theorem Fr.trans {N r : Nat} {a b c : World} (h : Fr N r a b) (k : Fr N r b c) : Fr N r a c := ⟨h.bel.trans k.bel, fun i h1 h2 => (k.mid i h1 h2).trans (h.mid i h1 h2)⟩
theorem Fr.of {N r : Nat} {W W' : World} (h : Below N W W') (hr : r ≤ N) : Fr N r W W' := ⟨h.mono hr, fun b _ hb => h.block b hb⟩
theorem Fr.drewN {N r : Nat} {W W' : World} (h : Fr N r W W') (n : Nat) : Fr N r W (W'.drewN n) := ⟨belD h.bel n, h.mid⟩
theorem Fr.set {N r : Nat} {W W' : World} (h : Fr N r W W') {p : Addr} (hp : p.block = r ∨ N ≤ p.block) (hN : r ≤ N) (u : Value) : Fr N r W (W'.setCell p u) :=
  ⟨h.bel.setCell (by rcases hp with h | h <;> omega) u, fun b h1 h2 => (heap_setCell_other W' p b u (by rcases hp with h | h <;> omega)).trans (h.mid b h1 h2)⟩
/-- What the document's reader holds: its two cells; the stanzas in rows of their own. -/
structure RdR (W : World) (N r : Nat) (t : RS) : Prop where
  f0 : W.frozen? ⟨r, 0, none⟩ = false
  f1 : W.frozen? ⟨r, 1, none⟩ = false
  c1 : W.cell? ⟨r, 1, none⟩ = some (.bool t.o)
  g : ∃ v, W.cell? ⟨r, 0, none⟩ = some v ∧ Grow rdFds 1 (fun b => N ≤ b) W N 38 v t.l
theorem blk_of {W W' : World} {r : Nat} (h : W'.heap[r]? = W.heap[r]?) (o : Nat) : W'.cell? ⟨r, o, none⟩ = W.cell? ⟨r, o, none⟩ ∧ W'.frozen? ⟨r, o, none⟩ = W.frozen? ⟨r, o, none⟩ :=
  ⟨World.cell?_of_block (a := ⟨r, o, none⟩) h, World.frozen?_of_block (a := ⟨r, o, none⟩) h⟩
theorem RdR.below {W W' : World} {N r : Nat} {t : RS} (h : RdR W N r t) (hb : Below W.heap.size W W') (hr : r < W.heap.size) : RdR W' N r t := by
  obtain ⟨v, h1, h2⟩ := h.g
  obtain ⟨a0, b0⟩ := blk_of (hb.block r hr) 0
  obtain ⟨a1, b1⟩ := blk_of (hb.block r hr) 1
  exact ⟨b0.trans h.f0, b1.trans h.f1, a1.trans h.c1, v, a0.trans h1, h2.below rdFds_good hb⟩
end Go.Proofs.YtjfenheplkoajaaDoor
