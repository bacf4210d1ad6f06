/- The contract of the program's own order of two versions: the document's. -/
import Derived.Test.YtmlakjemgmeffaaGreatDoorVer4Z
import Derived.Test.YtmlakjemgmeffaaGreatDoorMA
import Derived.Deep.RegionHeld3
set_option maxRecDepth 100000
set_option linter.unusedVariables false
namespace Go.Proofs.YtmlakjemgmeffaaGreatDoor
open Go.RowKit
theorem keep_cell {w w1 : World} (h : Below w.heap.size w w1) {b o : Nat} {v : Value} (hc : w.cell? ⟨b, o, none⟩ = some v) : w1.cell? ⟨b, o, none⟩ = some v := by
  rw [h.cell (World.block_lt_of_cell? _ _ hc)]; exact hc
theorem cmpV_or (e1 : Int) (u1 r1 : List Nat) (e2 : Int) (u2 r2 : List Nat) : cmpV e1 u1 r1 e2 u2 r2 = orL [sgn (e1 - e2), cmpS u1 u2, cmpS r1 r2] := by
  unfold cmpV
  simp only [orL]
  by_cases he : e1 = e2
  · have : sgn (e1 - e2) = 0 := sgn_zero.2 (by omega)
    simp only [he, ne_eq, not_true, if_false]
    rw [Int.sub_self, show sgn 0 = 0 from rfl]
    simp only [not_true, if_false]
    split
    · rfl
    · split
      · rfl
      · rename_i hh; exact Classical.not_not.1 hh
  · have h0 : sgn (e1 - e2) ≠ 0 := fun hh => by have := sgn_zero.1 hh; omega
    simp only [he, h0, ne_eq, not_false_iff, if_true]
    split
    · unfold sgn; rw [if_pos (by omega)]
    · unfold sgn; rw [if_neg (by omega), if_pos (by omega)]
theorem cell_old' {w : World} {o : Obj} {p : Addr} {v : Value} (hc : w.cell? p = some v) : (w.alloc o).cell? p = some v := by
  rw [World.cell?_alloc_lt w o p (World.block_lt_of_cell? _ _ hc)]; exact hc
theorem three_cells (W : World) (a b c : Int) (T : TypeId) : ∀ k, k < 3 → (W.alloc (.cells #[.int .i64 a, .int .i64 b, .int .i64 c] T)).cell? ⟨W.heap.size, k, none⟩ = some (.int .i64 ([a, b, c].getD k 0)) := by
  intro k hk
  rcases (by omega : k = 0 ∨ k = 1 ∨ k = 2) with rfl | rfl | rfl <;> simp [go_sem]
theorem bel_al {V W : World} {o : Obj} (h : Below V.heap.size V W) : Below V.heap.size V (W.alloc o) := h.alloc h.size o
theorem bel_tr {w V W : World} (h : Below w.heap.size w V) (h2 : Below V.heap.size V W) : Below w.heap.size w W := h.trans (h2.mono h.size)
set_option maxHeartbeats 1000000 in
theorem vcompare_any (e1 e2 : Int) (u1 r1 u2 r2 : ByteArray) (w : World) (h1 : u1.size ≤ 9223372036854775807) (h2 : r1.size ≤ 9223372036854775807) (h3 : u2.size ≤ 9223372036854775807) (h4 : r2.size ≤ 9223372036854775807) :
    Calls Tryz.prog 91 #[.agg #[.int .i64 e1, .string u1, .string r1], .agg #[.int .i64 e2, .string u2, .string r2]] w fun e' w' => e' = .returned (.int .i64 (cmpV e1 (B u1) (B r1) e2 (B u2) (B r2))) ∧ Below w.heap.size w w' := by
  have X := Lib.hid (cmpV_or e1 (B u1) (B r1) e2 (B u2) (B r2))
  have K1 := Lib.hid (fun w => vcmp_any u1 u2 w h1 h3)
  have K2 := Lib.hid (fun w => vcmp_any r1 r2 w h2 h4)
  have K0 := Lib.hid (cmpInt_any e1 e2)
  generalize cmpS (B u1) (B u2) = c1 at *
  generalize cmpS (B r1) (B r2) = c2 at *
  generalize sgn (e1 - e2) = c0 at *
  generalize cmpV e1 (B u1) (B r1) e2 (B u2) (B r2) = c at *
  go_enter Tryz.func91, Tryz.ntmps91
  go_wp2_with fail
  obtain ⟨V, hV⟩ : ∃ V, V = (w.alloc (.cells #[.int .i64 e1, .string u1, .string r1] 88)).alloc (.cells #[.int .i64 e2, .string u2, .string r2] 88) := ⟨_, rfl⟩
  have a0 : V.cell? ⟨w.heap.size, 0, none⟩ = some (.int .i64 e1) := by rw [hV]; simp [go_sem]
  have a1 : V.cell? ⟨w.heap.size, 1, none⟩ = some (.string u1) := by rw [hV]; simp [go_sem]
  have a2 : V.cell? ⟨w.heap.size, 2, none⟩ = some (.string r1) := by rw [hV]; simp [go_sem]
  have b0 : V.cell? ⟨w.heap.size + 1, 0, none⟩ = some (.int .i64 e2) := by rw [hV]; simp [go_sem]
  have b1 : V.cell? ⟨w.heap.size + 1, 1, none⟩ = some (.string u2) := by rw [hV]; simp [go_sem]
  have b2 : V.cell? ⟨w.heap.size + 1, 2, none⟩ = some (.string r2) := by rw [hV]; simp [go_sem]
  have hB : Below w.heap.size w V := by rw [hV]; exact ((Below.refl _ w).alloc (Nat.le_refl _) _).alloc (by simp) _
  have bb := (Below.refl V.heap.size V).drew
  rw [← hV]
  clear hV
  go_region_held3 (fun W => W.cell? ⟨w.heap.size, 0, none⟩ = some (.int .i64 e1) ∧ W.cell? ⟨w.heap.size, 1, none⟩ = some (.string u1) ∧ W.cell? ⟨w.heap.size, 2, none⟩ = some (.string r1) ∧ W.cell? ⟨w.heap.size + 1, 0, none⟩ = some (.int .i64 e2) ∧ W.cell? ⟨w.heap.size + 1, 1, none⟩ = some (.string u2) ∧ W.cell? ⟨w.heap.size + 1, 2, none⟩ = some (.string r2) ∧ Below V.heap.size V W)
    (first | (go_split_ands; refine ⟨?_, ?_, ?_, ?_, ?_, ?_, ?_⟩ <;> first | assumption | exact keep_cell hbx (by assumption) | exact cell_old' (by assumption) | exact Below.trans (by assumption) (hbx.mono (Below.size (by assumption))) | exact bel_al (by assumption)) | go_keep)
    ((first | (go_at_call 127; (with_reducible refine (K1.out _).mono ?_); rintro e wx ⟨rfl, hbx⟩) | (go_at_call 127; (with_reducible refine (K2.out _).mono ?_); rintro e wx ⟨rfl, hbx⟩) | (go_at_call 126; (with_reducible refine (K0.out _).mono ?_); rintro e wx ⟨rfl, rfl⟩) | (go_at_call 58; (refine (or_any _ 3 [c0, c1, c2] _ rfl (by decide) (three_cells _ _ _ _ _)).mono ?_); rintro e wx ⟨rfl, rfl⟩)))
  all_goals
    go_wp2
    go_ret
    go_split_ands
    exact ⟨by rw [X.out]; rfl, bel_tr hB (by assumption)⟩
end Go.Proofs.YtmlakjemgmeffaaGreatDoor
