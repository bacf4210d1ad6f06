/- The contract of the document's own Parse. -/
import Derived.Test.YtlelajcnfmmmjaaDoorRefParse0
set_option maxRecDepth 100000
namespace Go.Proofs.YtlelajcnfmmmjaaDoor
open Go.RowKit
theorem two_boxes {w w1 : World} {T T' : TypeId} {a b c x y z : Value} (h : Below (w.heap.size + 2) ((w.alloc (.cells #[a, b, c] T)).alloc (.cells #[x, y, z] T')) w1) :
    (w1.cell? ⟨w.heap.size, 0, none⟩ = some a ∧ w1.cell? ⟨w.heap.size, 1, none⟩ = some b ∧ w1.cell? ⟨w.heap.size, 2, none⟩ = some c) ∧
    (w1.frozen? ⟨w.heap.size, 0, none⟩ = false ∧ w1.frozen? ⟨w.heap.size, 1, none⟩ = false ∧ w1.frozen? ⟨w.heap.size, 2, none⟩ = false) ∧
    (w1.cell? ⟨w.heap.size + 1, 0, none⟩ = some x ∧ w1.cell? ⟨w.heap.size + 1, 1, none⟩ = some y ∧ w1.cell? ⟨w.heap.size + 1, 2, none⟩ = some z) ∧ w.heap.size + 2 ≤ w1.heap.size ∧ Below w.heap.size w w1 := by
  refine ⟨⟨(h.cell (by simp)).trans (by simp [go_sem]), (h.cell (by simp)).trans (by simp [go_sem]), (h.cell (by simp)).trans (by simp [go_sem])⟩, ⟨(h.frozen (by simp)).trans (by simp [go_sem]), (h.frozen (by simp)).trans (by simp [go_sem]), (h.frozen (by simp)).trans (by simp [go_sem])⟩, ⟨(h.cell (by simp)).trans (by simp [go_sem]), (h.cell (by simp)).trans (by simp [go_sem]), (h.cell (by simp)).trans (by simp [go_sem])⟩, ?_, (((Below.refl _ w).alloc (Nat.le_refl _) _).alloc (by simp) _).trans (h.mono (by omega))⟩
  have := h.size
  simpa using this
theorem fin3 {w W : World} {a b c x y z : Value} (hb : Below w.heap.size w W) (h0 : W.cell? ⟨w.heap.size, 0, none⟩ = some a) (h1 : W.cell? ⟨w.heap.size, 1, none⟩ = some b) (h2 : W.cell? ⟨w.heap.size, 2, none⟩ = some c) :
    (((W.setCell ⟨w.heap.size, 0, none⟩ x).setCell ⟨w.heap.size, 1, none⟩ y).setCell ⟨w.heap.size, 2, none⟩ z).cell? ⟨w.heap.size, 0, none⟩ = some x ∧
    (((W.setCell ⟨w.heap.size, 0, none⟩ x).setCell ⟨w.heap.size, 1, none⟩ y).setCell ⟨w.heap.size, 2, none⟩ z).cell? ⟨w.heap.size, 1, none⟩ = some y ∧
    (((W.setCell ⟨w.heap.size, 0, none⟩ x).setCell ⟨w.heap.size, 1, none⟩ y).setCell ⟨w.heap.size, 2, none⟩ z).cell? ⟨w.heap.size, 2, none⟩ = some z ∧
    Below w.heap.size w (((W.setCell ⟨w.heap.size, 0, none⟩ x).setCell ⟨w.heap.size, 1, none⟩ y).setCell ⟨w.heap.size, 2, none⟩ z) :=
  ⟨by simp [go_sem, h0], by simp [go_sem, h1], by simp [go_sem, h2], ((hb.setCell (by simp) _).setCell (by simp) _).setCell (by simp) _⟩
theorem parseE_of {s : ByteArray} (h : s.size ≤ 60) : parseE (B s) = if parseB (B s) then 0 else 4 := by unfold parseE; rw [if_neg (by rw [B_len]; omega)]
theorem textL_lt (e : Nat) (u r : ByteArray) : ∀ c ∈ textL e (B u) (B r), c < 256 := by
  intro c hc
  unfold textL at hc
  rcases List.mem_append.1 hc with hc | hc
  · rcases List.mem_append.1 hc with hc | hc
    · split at hc
      · cases hc
      · rcases List.mem_append.1 hc with hc | hc
        · exact decL_lt e c hc
        · rw [List.mem_singleton.1 hc]; decide
    · exact B_lt u c hc
  · split at hc
    · cases hc
    · rcases List.mem_cons.1 hc with rfl | hc
      · decide
      · exact B_lt r c hc
theorem rightB_size {e : Int} {u r : List Nat} (h : rightB e u r = true) : (textL e.toNat u r).length ≤ 60 := by
  unfold rightB at h
  simp only [Bool.and_eq_true] at h
  exact of_decide_eq_true h.2
theorem parse_good {s U R : ByteArray} {E : Int} (h : s.size ≤ 60) (hE : E = colE (B s)) (hU : B U = dashU (colU (B s))) (hR : B R = dashR (colU (B s))) (hp : parseB (B s) = true) : parseV s = .tuple #[.agg #[.int .i64 E, .string U, .string R], .int .i64 0] := by
  have h0 : parseE (B s) = 0 := by rw [parseE_of h, hp]; rfl
  unfold parseV parse1 parse2 parse3
  rw [if_pos h0, if_pos h0, if_pos h0, ← hE, ← hU, ← hR, mk_B, mk_B, h0]
theorem parse_wrong {s : ByteArray} (h : s.size ≤ 60) (hp : parseB (B s) = false) : parseV s = .tuple #[.agg #[.int .i64 0, .string { data := #[] }, .string { data := #[] }], .int .i64 4] := by
  have h0 : parseE (B s) = 4 := by rw [parseE_of h, hp]; rfl
  rw [parse_bad (by rw [h0]; decide), h0]
theorem zero_text (e : Nat) (u r s : ByteArray) : ((ByteArray.mk #[48, 58] ++ mk (textL e (B u) (B r))).toList == s.toList) = decide (48 :: 58 :: textL e (B u) (B r) = B s) := by
  have h1 : ByteArray.mk #[48, 58] ++ mk (textL e (B u) (B r)) = mk (48 :: 58 :: textL e (B u) (B r)) := by
    refine eq_mk ?_
    rw [B_append, B_mk (textL_lt e u r)]; rfl
  rw [h1, strEq]
  intro c hc
  rcases List.mem_cons.1 hc with rfl | hc
  · decide
  · rcases List.mem_cons.1 hc with rfl | hc
    · decide
    · exact textL_lt e u r c hc
end Go.Proofs.YtlelajcnfmmmjaaDoor
