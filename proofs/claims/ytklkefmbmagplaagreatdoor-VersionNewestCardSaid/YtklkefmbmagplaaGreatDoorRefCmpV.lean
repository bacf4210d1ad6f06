/- The contract of the document's own Compare of two versions. -/
import Derived.Test.YtklkefmbmagplaaGreatDoorRefCmp
namespace Go.Proofs.YtklkefmbmagplaaGreatDoor
open Go.RowKit
def cmpV (e1 : Int) (u1 r1 : List Nat) (e2 : Int) (u2 r2 : List Nat) : Int :=
  if e1 ≠ e2 then (if e1 < e2 then -1 else 1) else if cmpS u1 u2 ≠ 0 then cmpS u1 u2 else cmpS r1 r2
theorem compare_any (e1 e2 : Int) (u1 r1 u2 r2 : ByteArray) (w : World) (h1 : u1.size ≤ 9223372036854775807) (h2 : r1.size ≤ 9223372036854775807) (h3 : u2.size ≤ 9223372036854775807) (h4 : r2.size ≤ 9223372036854775807) :
    Calls Tryz.prog 23 #[.agg #[.int .i64 e1, .string u1, .string r1], .agg #[.int .i64 e2, .string u2, .string r2]] w fun e' w' => e' = .returned (.int .i64 (cmpV e1 (B u1) (B r1) e2 (B u2) (B r2))) ∧ Below w.heap.size w w' := by
  by_cases he : e1 = e2
  · have t1 : (e1 != e2) = false := by rw [bne_eq_false_iff_eq]; exact he
    have C1 := Lib.hid (fun w => refCmp_any u1 u2 w h1 h3)
    have C2 := Lib.hid (fun w => refCmp_any r1 r2 w h2 h4)
    by_cases hc : cmpS (B u1) (B u2) = 0
    · have t2 : (cmpS (B u1) (B u2) != 0) = false := by rw [bne_eq_false_iff_eq]; exact hc
      have X := Lib.hid (show cmpS (B r1) (B r2) = cmpV e1 (B u1) (B r1) e2 (B u2) (B r2) by unfold cmpV; rw [if_neg (by simp [he]), if_neg (by simp [hc])])
      clear he hc
      go_enter Tryz.func23, Tryz.ntmps23
      go_wp2_with (first | (go_at_call 39; (with_reducible refine (C1.out _).mono ?_); rintro e w' ⟨rfl, rfl⟩) | (go_at_call 39; (with_reducible refine (C2.out _).mono ?_); rintro e w' ⟨rfl, rfl⟩))
      go_ret
      exact ⟨by rw [← X.out]; rfl, ((Below.refl _ w).alloc (Nat.le_refl _) _).alloc (by simp) _⟩
    · have t2 : (cmpS (B u1) (B u2) != 0) = true := by rw [bne_iff_ne]; exact hc
      have X := Lib.hid (show cmpS (B u1) (B u2) = cmpV e1 (B u1) (B r1) e2 (B u2) (B r2) by unfold cmpV; rw [if_neg (by simp [he]), if_pos hc])
      clear he hc
      go_enter Tryz.func23, Tryz.ntmps23
      go_wp2_with (first | (go_at_call 39; (with_reducible refine (C1.out _).mono ?_); rintro e w' ⟨rfl, rfl⟩) | (go_at_call 39; (with_reducible refine (C2.out _).mono ?_); rintro e w' ⟨rfl, rfl⟩))
      go_ret
      exact ⟨by rw [← X.out]; rfl, ((Below.refl _ w).alloc (Nat.le_refl _) _).alloc (by simp) _⟩
  · have t1 : (e1 != e2) = true := by rw [bne_iff_ne]; exact he
    by_cases hl : e1 < e2
    · have X := Lib.hid (show (-1 : Int) = cmpV e1 (B u1) (B r1) e2 (B u2) (B r2) by unfold cmpV; rw [if_pos he, if_pos hl])
      clear he
      go_enter Tryz.func23, Tryz.ntmps23
      go_wp2
      go_ret
      exact ⟨by rw [← X.out]; rfl, ((Below.refl _ w).alloc (Nat.le_refl _) _).alloc (by simp) _⟩
    · have X := Lib.hid (show (1 : Int) = cmpV e1 (B u1) (B r1) e2 (B u2) (B r2) by unfold cmpV; rw [if_pos he, if_neg hl])
      clear he
      go_enter Tryz.func23, Tryz.ntmps23
      go_wp2
      go_ret
      exact ⟨by rw [← X.out]; rfl, ((Below.refl _ w).alloc (Nat.le_refl _) _).alloc (by simp) _⟩
end Go.Proofs.YtklkefmbmagplaaGreatDoor
