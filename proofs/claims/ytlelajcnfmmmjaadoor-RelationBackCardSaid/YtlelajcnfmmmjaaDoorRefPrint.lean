/- The contract of the document's own Print of a version. -/
import Derived.Test.YtlelajcnfmmmjaaDoorRefRight2
namespace Go.Proofs.YtlelajcnfmmmjaaDoor
open Go.RowKit
def printL (e : Int) (u r : List Nat) : List Nat := if rightB e u r = true then textL e.toNat u r else []
theorem rightB_epoch {e : Int} {u r : List Nat} (h : rightB e u r = true) : 0 ≤ e ∧ e ≤ 999999999 := by
  unfold rightB at h
  simp only [Bool.and_eq_true] at h
  exact of_decide_eq_true h.1.1.1.1.1.1
theorem box_cells {w w1 : World} {T : TypeId} {x y z : Value} (h : Below (w.alloc (.cells #[x, y, z] T)).heap.size (w.alloc (.cells #[x, y, z] T)) w1) :
    w1.cell? ⟨w.heap.size, 0, none⟩ = some x ∧ w1.cell? ⟨w.heap.size, 1, none⟩ = some y ∧ w1.cell? ⟨w.heap.size, 2, none⟩ = some z ∧ w.heap.size + 1 ≤ w1.heap.size := by
  refine ⟨(h.cell (by simp)).trans (by simp), (h.cell (by simp)).trans (by simp), (h.cell (by simp)).trans (by simp), ?_⟩
  have := h.size
  simpa using this
end Go.Proofs.YtlelajcnfmmmjaaDoor
