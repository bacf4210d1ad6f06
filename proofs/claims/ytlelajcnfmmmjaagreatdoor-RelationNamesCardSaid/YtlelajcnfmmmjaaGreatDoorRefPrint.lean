/- The contract of the document's own Print of a version. -/
import Derived.Test.YtlelajcnfmmmjaaGreatDoorRefRight2
namespace Go.Proofs.YtlelajcnfmmmjaaGreatDoor
open Go.RowKit
def printL (e : Int) (u r : List Nat) : List Nat := if rightB e u r = true then textL e.toNat u r else []
theorem rightB_epoch {e : Int} {u r : List Nat} (h : rightB e u r = true) : 0 ≤ e ∧ e ≤ 999999999 := by
  unfold rightB at h
  simp only [Bool.and_eq_true] at h
  exact of_decide_eq_true h.1.1.1.1.1.1
theorem box_cells {w w1 : World} {T : TypeId} {x y z : Value} (h : Below (w.alloc (.cells #[x, y, z] T)).heap.size (w.alloc (.cells #[x, y, z] T)) w1) :
    w1.cell? ⟨w.heap.size, 0, none⟩ = some x ∧ w1.cell? ⟨w.heap.size, 1, none⟩ = some y ∧ w1.cell? ⟨w.heap.size, 2, none⟩ = some z ∧ w.heap.size + 1 ≤ w1.heap.size := by
  refine ⟨(h.cell (by simp)).trans (by simp), (h.cell (by simp)).trans (by simp), (h.cell (by simp)).trans (by simp), ?_⟩
  have := h.size
  simpa using this
theorem print_any (e : Int) (u r : ByteArray) (w : World) (hu : u.size ≤ 65536) (hr : r.size ≤ 65536) :
    Calls Tryz.prog 35 #[.agg #[.int .i64 e, .string u, .string r]] w fun e' w' => e' = .returned (.string (mk (printL e (B u) (B r)))) ∧ Below w.heap.size w w' := by
  cases hR : rightB e (B u) (B r)
  · have X := Lib.hid (show ByteArray.mk #[] = mk (printL e (B u) (B r)) by unfold printL; rw [hR]; rfl)
    have HR := Lib.hid (fun w => right_any e u r w hu hr)
    rw [hR] at HR
    clear hR
    go_enter Tryz.func35, Tryz.ntmps35
    go_wp2_with (go_at_call 47; refine (HR.out _).mono ?_; rintro e' w1 ⟨rfl, hb1⟩)
    go_ret
    exact ⟨by rw [← X.out]; rfl, ((Below.refl _ w).alloc (Nat.le_refl _) _).trans (hb1.mono (by simp))⟩
  · obtain ⟨h0, h1⟩ := rightB_epoch hR
    obtain ⟨n, rfl⟩ : ∃ n : Nat, e = n := ⟨e.toNat, by omega⟩
    have X := Lib.hid (show mk (textL n (B u) (B r)) = mk (printL n (B u) (B r)) by unfold printL; rw [if_pos hR]; rfl)
    have HR := Lib.hid (fun w => right_any n u r w hu hr)
    have HT := Lib.hid (fun w => text_any n u r w (by omega) hu hr)
    rw [hR] at HR
    rw [X.out] at HT
    clear hR
    generalize mk (printL n (B u) (B r)) = P at HT
    go_enter Tryz.func35, Tryz.ntmps35
    go_wp2_with (first | (go_at_call 47; refine (HR.out _).mono ?_; rintro e' w1 ⟨rfl, hb1⟩; obtain ⟨c0, c1, c2, s1⟩ := box_cells hb1) | (go_at_call 48; refine (HT.out _).mono ?_; rintro e' w2 ⟨rfl, hb2⟩))
    go_ret
    exact ⟨rfl, (((Below.refl _ w).alloc (Nat.le_refl _) _).trans (hb1.mono (by simp))).trans (hb2.mono (by omega))⟩
end Go.Proofs.YtlelajcnfmmmjaaGreatDoor
