/- A cell of a slice of the call's own stored into: what it reads as then. No condition. -/
import Derived.Test.YtjfenheplkoajaaDoorDeep4
import Derived.Laws.OwnMore
set_option linter.unusedVariables false
set_option linter.unusedSimpArgs false
namespace Go.Proofs.YtjfenheplkoajaaDoor
open Go.RowKit
theorem flatten_set (sz : Nat) : ∀ {css : List (List Value)}, (∀ cs ∈ css, cs.length = sz) → ∀ {k : Nat} {cs : List Value}, css[k]? = some cs → ∀ {j : Nat}, j < sz → ∀ u, (css.set k (cs.set j u)).flatten = css.flatten.set (k * sz + j) u
  | [], _, k, cs, hk, _, _, _ => by simp at hk
  | c :: css, h, 0, cs, hk, j, hj, u => by
    simp only [List.getElem?_cons_zero, Option.some.injEq] at hk
    subst hk
    have hc := h c (by simp)
    rw [List.set_cons_zero, List.flatten_cons, List.flatten_cons, Nat.zero_mul, Nat.zero_add, List.set_append_left _ _ (by omega)]
  | c :: css, h, k + 1, cs, hk, j, hj, u => by
    rw [List.getElem?_cons_succ] at hk
    have ih := flatten_set sz (fun cs hc => h cs (by simp [hc])) hk hj u
    have hc := h c (by simp)
    rw [List.set_cons_succ, List.flatten_cons, List.flatten_cons, ih, List.set_append_right _ _ (by rw [hc, Nat.add_mul]; omega), hc]
    congr 2
    rw [Nat.add_mul]; omega
section
variable {α : Type} {E : Rd α} {sz : Nat}
/-- Where a slice of the call's own lies that is not empty. -/
theorem Grow.spot {T : Nat → Prop} {w : World} {base : Nat} {e : TypeId} {ad : Addr} {n c : Nat} {l : List α} (h : Grow E sz T w base e (.slice (some ad) n c) l) : ad = ⟨ad.block, 0, none⟩ ∧ base ≤ ad.block ∧ ad.block < w.heap.size ∧ n = l.length ∧ ∀ o, w.frozen? ⟨ad.block, o, none⟩ = false := by
  obtain ⟨css, hl, ho, hE⟩ := h
  rcases ho.2 with ⟨h1, _⟩ | ⟨gb, cap, cur, h1, hb, hg, hn, hm, hs, ht⟩
  · simp at h1
  · simp only [Value.slice.injEq, Option.some.injEq] at h1
    obtain ⟨rfl, rfl, rfl⟩ := h1
    exact ⟨rfl, hb, (Array.getElem?_eq_some_iff.1 hg).1, rfl, fun o => frozen_of_row w gb o cur e hg⟩
/-- A cell stored into: the element is another one then. -/
theorem Grow.set (g : Good E sz) {T : Nat → Prop} {w : World} {base : Nat} {e : TypeId} {ad : Addr} {n c : Nat} {l : List α} (h : Grow E sz T w base e (.slice (some ad) n c) l) {k : Nat} (hk : k < l.length) {j : Nat} (hj : j < sz) (u : Value) (y : α)
    (hy : ∀ cs, E w (fun b => T b ∧ b < w.heap.size ∧ some ad.block ≠ some b) l[k] cs → E w (fun b => T b ∧ b < w.heap.size ∧ some ad.block ≠ some b) y (cs.set j u)) :
    Grow E sz T (w.setCell (ad.add (k * sz + j)) u) base e (.slice (some ad) n c) (l.set k y) ∧ w.grownBy (w.setCell (ad.add (k * sz + j)) u) (some ad.block) := by
  obtain ⟨e0, _, _, rfl, _⟩ := h.spot
  obtain ⟨gb, rfl⟩ : ∃ gb, ad = ⟨gb, 0, none⟩ := ⟨_, e0⟩
  clear e0
  have hadd : (⟨gb, 0, none⟩ : Addr).add (k * sz + j) = ⟨gb, k * sz + j, none⟩ := by unfold Addr.add; split <;> simp_all
  obtain ⟨css, hl, ho, hE⟩ := h
  have hls := Grow.lens g hl hE
  obtain ⟨cs, h1, h2⟩ := hE k hk
  rw [hadd]
  obtain ⟨o1, o2⟩ := ho.stored (k * sz + j) u
  have hkeep : ∀ (a : α) (cs : List Value), E w (fun b => T b ∧ b < w.heap.size ∧ some gb ≠ some b) a cs → E (w.setCell ⟨gb, k * sz + j, none⟩ u) (fun b => T b ∧ b < (w.setCell ⟨gb, k * sz + j, none⟩ u).heap.size ∧ some gb ≠ some b) a cs :=
    fun a cs h => g.both h (fun b hb => heap_setCell_other w _ b u (fun hh => hb.2.2 (by rw [hh]))) (fun b hb => ⟨hb.1, by simpa using hb.2.1, hb.2.2⟩)
  refine ⟨⟨css.set k (cs.set j u), by rw [List.length_set, List.length_set, hl], ?_, fun i hi => ?_⟩, o2⟩
  · rw [flatten_set sz hls h1 hj, List.length_set]
    exact o1
  · rw [List.length_set] at hi
    by_cases hik : k = i
    · subst hik
      refine ⟨cs.set j u, by rw [List.getElem?_set_self (by omega)], ?_⟩
      rw [List.getElem_set_self]
      exact hkeep _ _ (hy cs h2)
    · obtain ⟨ds, d1, d2⟩ := hE i hi
      refine ⟨ds, by rw [List.getElem?_set_ne hik]; exact d1, ?_⟩
      rw [List.getElem_set_ne hik]
      exact hkeep _ _ d2
theorem set_below {N : Nat} {w0 w : World} {a : Addr} (h : Below N w0 w) (ha : N ≤ a.block) (u : Value) : Below N w0 (w.setCell a u) := h.setCell ha u
end
theorem Grow.frz {α : Type} {E : Rd α} {sz : Nat} {T : Nat → Prop} {w : World} {base : Nat} {e : TypeId} {ad : Addr} {n c : Nat} {l : List α} (h : Grow E sz T w base e (.slice (some ad) n c) l) (j : Nat) : w.frozen? (ad.add j) = false := by
  obtain ⟨e0, _, _, _, hfz⟩ := h.spot
  obtain ⟨gb, rfl⟩ : ∃ gb, ad = ⟨gb, 0, none⟩ := ⟨_, e0⟩
  have hadd : (⟨gb, 0, none⟩ : Addr).add j = ⟨gb, j, none⟩ := by unfold Addr.add; split <;> simp_all
  rw [hadd]; exact hfz j
end Go.Proofs.YtjfenheplkoajaaDoor
