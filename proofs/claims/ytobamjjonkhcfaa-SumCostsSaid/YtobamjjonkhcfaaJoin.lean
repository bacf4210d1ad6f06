/- The contract of sum.Join: sum by sum, and no error, or nought and ErrOver where one has no room; memory before is as it was. -/
import Derived.Test.YtobamjjonkhcfaaWithinC
import Derived.WalkSpells
namespace Go.Proofs.Ytobamjjonkhcfaa
open Go.RowKit

set_option maxHeartbeats 2000000 in
theorem join1_0 (p q : Nat) (a0 a1 a2 a3 a4 b0 : Int) (w : World) (ca0 : w.cell? ⟨p, 0, none⟩ = some (.int .i64 a0)) (cb0 : w.cell? ⟨q, 0, none⟩ = some (.int .i64 b0)) (ca1 : w.cell? ⟨p, 1, none⟩ = some (.int .i64 a1)) (ca2 : w.cell? ⟨p, 2, none⟩ = some (.int .i64 a2)) (ca3 : w.cell? ⟨p, 3, none⟩ = some (.int .i64 a3)) (ca4 : w.cell? ⟨p, 4, none⟩ = some (.int .i64 a4)) (ra0 : InR a0) (rb0 : InR b0)  (h0 : ¬ InR (a0 + b0)) :
    Calls Try.prog 32 #[.pointer (some ⟨p, 0, none⟩), .pointer (some ⟨q, 0, none⟩)] w fun e w' => e = .panicked [{ v := .iface 23 (.int .i64 2), recovered := false }] ∧ Below w.heap.size w w' := by
  have hi0 : ∀ w, (Instr.index 32 (.agg #[.int .i64 a0, .int .i64 a1, .int .i64 a2, .int .i64 a3, .int .i64 a4]) (.int .i64 0)).run Try.prog w = .ok (.int .i64 a0) w := fun _ => by kernel_rfl
  have hi1 : ∀ w, (Instr.index 32 (.agg #[.int .i64 a0, .int .i64 a1, .int .i64 a2, .int .i64 a3, .int .i64 a4]) (.int .i64 1)).run Try.prog w = .ok (.int .i64 a1) w := fun _ => by kernel_rfl
  have hi2 : ∀ w, (Instr.index 32 (.agg #[.int .i64 a0, .int .i64 a1, .int .i64 a2, .int .i64 a3, .int .i64 a4]) (.int .i64 2)).run Try.prog w = .ok (.int .i64 a2) w := fun _ => by kernel_rfl
  have hi3 : ∀ w, (Instr.index 32 (.agg #[.int .i64 a0, .int .i64 a1, .int .i64 a2, .int .i64 a3, .int .i64 a4]) (.int .i64 3)).run Try.prog w = .ok (.int .i64 a3) w := fun _ => by kernel_rfl
  have hi4 : ∀ w, (Instr.index 32 (.agg #[.int .i64 a0, .int .i64 a1, .int .i64 a2, .int .i64 a3, .int .i64 a4]) (.int .i64 4)).run Try.prog w = .ok (.int .i64 a4) w := fun _ => by kernel_rfl
  have hp := cell_lt ca0
  have hq := cell_lt cb0
  have A0 := Lib.hid (And.intro ra0 (And.intro rb0 h0))
  clear ra0 rb0 h0
  go_enter Try.func32, Try.ntmps32
  go_wp2
  refine wp_loop_rounds 6 ?_
  rw [rounds_succ]
  go_wp2_with (go_at_call 26; refine (add_over _ _ _ A0.out.1 A0.out.2.1 A0.out.2.2).mono ?_; rintro e w' ⟨rfl, rfl⟩)
  exact ⟨rfl, rfl, ((Below.refl _ w).alloc (Nat.le_refl _) _).alloc (by simp) _⟩

set_option maxHeartbeats 2000000 in
theorem join1_1 (p q : Nat) (a0 a1 a2 a3 a4 b0 b1 : Int) (w : World) (ca0 : w.cell? ⟨p, 0, none⟩ = some (.int .i64 a0)) (cb0 : w.cell? ⟨q, 0, none⟩ = some (.int .i64 b0)) (ca1 : w.cell? ⟨p, 1, none⟩ = some (.int .i64 a1)) (cb1 : w.cell? ⟨q, 1, none⟩ = some (.int .i64 b1)) (ca2 : w.cell? ⟨p, 2, none⟩ = some (.int .i64 a2)) (ca3 : w.cell? ⟨p, 3, none⟩ = some (.int .i64 a3)) (ca4 : w.cell? ⟨p, 4, none⟩ = some (.int .i64 a4)) (ra0 : InR a0) (rb0 : InR b0) (ra1 : InR a1) (rb1 : InR b1) (h0 : InR (a0 + b0)) (h1 : ¬ InR (a1 + b1)) :
    Calls Try.prog 32 #[.pointer (some ⟨p, 0, none⟩), .pointer (some ⟨q, 0, none⟩)] w fun e w' => e = .panicked [{ v := .iface 23 (.int .i64 2), recovered := false }] ∧ Below w.heap.size w w' := by
  have hi0 : ∀ w, (Instr.index 32 (.agg #[.int .i64 a0, .int .i64 a1, .int .i64 a2, .int .i64 a3, .int .i64 a4]) (.int .i64 0)).run Try.prog w = .ok (.int .i64 a0) w := fun _ => by kernel_rfl
  have hi1 : ∀ w, (Instr.index 32 (.agg #[.int .i64 a0, .int .i64 a1, .int .i64 a2, .int .i64 a3, .int .i64 a4]) (.int .i64 1)).run Try.prog w = .ok (.int .i64 a1) w := fun _ => by kernel_rfl
  have hi2 : ∀ w, (Instr.index 32 (.agg #[.int .i64 a0, .int .i64 a1, .int .i64 a2, .int .i64 a3, .int .i64 a4]) (.int .i64 2)).run Try.prog w = .ok (.int .i64 a2) w := fun _ => by kernel_rfl
  have hi3 : ∀ w, (Instr.index 32 (.agg #[.int .i64 a0, .int .i64 a1, .int .i64 a2, .int .i64 a3, .int .i64 a4]) (.int .i64 3)).run Try.prog w = .ok (.int .i64 a3) w := fun _ => by kernel_rfl
  have hi4 : ∀ w, (Instr.index 32 (.agg #[.int .i64 a0, .int .i64 a1, .int .i64 a2, .int .i64 a3, .int .i64 a4]) (.int .i64 4)).run Try.prog w = .ok (.int .i64 a4) w := fun _ => by kernel_rfl
  have hp := cell_lt ca0
  have hq := cell_lt cb0
  have A0 := Lib.hid (And.intro ra0 (And.intro rb0 h0))
  have A1 := Lib.hid (And.intro ra1 (And.intro rb1 h1))
  clear ra0 rb0 ra1 rb1 h0 h1
  go_enter Try.func32, Try.ntmps32
  go_wp2
  refine wp_loop_rounds 6 ?_
  rw [rounds_succ]
  go_wp2_with (go_at_call 26; refine (add_fits _ _ _ A0.out.1 A0.out.2.1 A0.out.2.2).mono ?_; rintro e w' ⟨rfl, rfl⟩)
  rw [rounds_succ]
  go_wp2_with (go_at_call 26; refine (add_over _ _ _ A1.out.1 A1.out.2.1 A1.out.2.2).mono ?_; rintro e w' ⟨rfl, rfl⟩)
  exact ⟨rfl, rfl, ((Below.refl _ w).alloc (Nat.le_refl _) _).alloc (by simp) _⟩

set_option maxHeartbeats 2000000 in
theorem join1_2 (p q : Nat) (a0 a1 a2 a3 a4 b0 b1 b2 : Int) (w : World) (ca0 : w.cell? ⟨p, 0, none⟩ = some (.int .i64 a0)) (cb0 : w.cell? ⟨q, 0, none⟩ = some (.int .i64 b0)) (ca1 : w.cell? ⟨p, 1, none⟩ = some (.int .i64 a1)) (cb1 : w.cell? ⟨q, 1, none⟩ = some (.int .i64 b1)) (ca2 : w.cell? ⟨p, 2, none⟩ = some (.int .i64 a2)) (cb2 : w.cell? ⟨q, 2, none⟩ = some (.int .i64 b2)) (ca3 : w.cell? ⟨p, 3, none⟩ = some (.int .i64 a3)) (ca4 : w.cell? ⟨p, 4, none⟩ = some (.int .i64 a4)) (ra0 : InR a0) (rb0 : InR b0) (ra1 : InR a1) (rb1 : InR b1) (ra2 : InR a2) (rb2 : InR b2) (h0 : InR (a0 + b0)) (h1 : InR (a1 + b1)) (h2 : ¬ InR (a2 + b2)) :
    Calls Try.prog 32 #[.pointer (some ⟨p, 0, none⟩), .pointer (some ⟨q, 0, none⟩)] w fun e w' => e = .panicked [{ v := .iface 23 (.int .i64 2), recovered := false }] ∧ Below w.heap.size w w' := by
  have hi0 : ∀ w, (Instr.index 32 (.agg #[.int .i64 a0, .int .i64 a1, .int .i64 a2, .int .i64 a3, .int .i64 a4]) (.int .i64 0)).run Try.prog w = .ok (.int .i64 a0) w := fun _ => by kernel_rfl
  have hi1 : ∀ w, (Instr.index 32 (.agg #[.int .i64 a0, .int .i64 a1, .int .i64 a2, .int .i64 a3, .int .i64 a4]) (.int .i64 1)).run Try.prog w = .ok (.int .i64 a1) w := fun _ => by kernel_rfl
  have hi2 : ∀ w, (Instr.index 32 (.agg #[.int .i64 a0, .int .i64 a1, .int .i64 a2, .int .i64 a3, .int .i64 a4]) (.int .i64 2)).run Try.prog w = .ok (.int .i64 a2) w := fun _ => by kernel_rfl
  have hi3 : ∀ w, (Instr.index 32 (.agg #[.int .i64 a0, .int .i64 a1, .int .i64 a2, .int .i64 a3, .int .i64 a4]) (.int .i64 3)).run Try.prog w = .ok (.int .i64 a3) w := fun _ => by kernel_rfl
  have hi4 : ∀ w, (Instr.index 32 (.agg #[.int .i64 a0, .int .i64 a1, .int .i64 a2, .int .i64 a3, .int .i64 a4]) (.int .i64 4)).run Try.prog w = .ok (.int .i64 a4) w := fun _ => by kernel_rfl
  have hp := cell_lt ca0
  have hq := cell_lt cb0
  have A0 := Lib.hid (And.intro ra0 (And.intro rb0 h0))
  have A1 := Lib.hid (And.intro ra1 (And.intro rb1 h1))
  have A2 := Lib.hid (And.intro ra2 (And.intro rb2 h2))
  clear ra0 rb0 ra1 rb1 ra2 rb2 h0 h1 h2
  go_enter Try.func32, Try.ntmps32
  go_wp2
  refine wp_loop_rounds 6 ?_
  rw [rounds_succ]
  go_wp2_with (go_at_call 26; refine (add_fits _ _ _ A0.out.1 A0.out.2.1 A0.out.2.2).mono ?_; rintro e w' ⟨rfl, rfl⟩)
  rw [rounds_succ]
  go_wp2_with (go_at_call 26; refine (add_fits _ _ _ A1.out.1 A1.out.2.1 A1.out.2.2).mono ?_; rintro e w' ⟨rfl, rfl⟩)
  rw [rounds_succ]
  go_wp2_with (go_at_call 26; refine (add_over _ _ _ A2.out.1 A2.out.2.1 A2.out.2.2).mono ?_; rintro e w' ⟨rfl, rfl⟩)
  exact ⟨rfl, rfl, ((Below.refl _ w).alloc (Nat.le_refl _) _).alloc (by simp) _⟩

set_option maxHeartbeats 2000000 in
theorem join1_3 (p q : Nat) (a0 a1 a2 a3 a4 b0 b1 b2 b3 : Int) (w : World) (ca0 : w.cell? ⟨p, 0, none⟩ = some (.int .i64 a0)) (cb0 : w.cell? ⟨q, 0, none⟩ = some (.int .i64 b0)) (ca1 : w.cell? ⟨p, 1, none⟩ = some (.int .i64 a1)) (cb1 : w.cell? ⟨q, 1, none⟩ = some (.int .i64 b1)) (ca2 : w.cell? ⟨p, 2, none⟩ = some (.int .i64 a2)) (cb2 : w.cell? ⟨q, 2, none⟩ = some (.int .i64 b2)) (ca3 : w.cell? ⟨p, 3, none⟩ = some (.int .i64 a3)) (cb3 : w.cell? ⟨q, 3, none⟩ = some (.int .i64 b3)) (ca4 : w.cell? ⟨p, 4, none⟩ = some (.int .i64 a4)) (ra0 : InR a0) (rb0 : InR b0) (ra1 : InR a1) (rb1 : InR b1) (ra2 : InR a2) (rb2 : InR b2) (ra3 : InR a3) (rb3 : InR b3) (h0 : InR (a0 + b0)) (h1 : InR (a1 + b1)) (h2 : InR (a2 + b2)) (h3 : ¬ InR (a3 + b3)) :
    Calls Try.prog 32 #[.pointer (some ⟨p, 0, none⟩), .pointer (some ⟨q, 0, none⟩)] w fun e w' => e = .panicked [{ v := .iface 23 (.int .i64 2), recovered := false }] ∧ Below w.heap.size w w' := by
  have hi0 : ∀ w, (Instr.index 32 (.agg #[.int .i64 a0, .int .i64 a1, .int .i64 a2, .int .i64 a3, .int .i64 a4]) (.int .i64 0)).run Try.prog w = .ok (.int .i64 a0) w := fun _ => by kernel_rfl
  have hi1 : ∀ w, (Instr.index 32 (.agg #[.int .i64 a0, .int .i64 a1, .int .i64 a2, .int .i64 a3, .int .i64 a4]) (.int .i64 1)).run Try.prog w = .ok (.int .i64 a1) w := fun _ => by kernel_rfl
  have hi2 : ∀ w, (Instr.index 32 (.agg #[.int .i64 a0, .int .i64 a1, .int .i64 a2, .int .i64 a3, .int .i64 a4]) (.int .i64 2)).run Try.prog w = .ok (.int .i64 a2) w := fun _ => by kernel_rfl
  have hi3 : ∀ w, (Instr.index 32 (.agg #[.int .i64 a0, .int .i64 a1, .int .i64 a2, .int .i64 a3, .int .i64 a4]) (.int .i64 3)).run Try.prog w = .ok (.int .i64 a3) w := fun _ => by kernel_rfl
  have hi4 : ∀ w, (Instr.index 32 (.agg #[.int .i64 a0, .int .i64 a1, .int .i64 a2, .int .i64 a3, .int .i64 a4]) (.int .i64 4)).run Try.prog w = .ok (.int .i64 a4) w := fun _ => by kernel_rfl
  have hp := cell_lt ca0
  have hq := cell_lt cb0
  have A0 := Lib.hid (And.intro ra0 (And.intro rb0 h0))
  have A1 := Lib.hid (And.intro ra1 (And.intro rb1 h1))
  have A2 := Lib.hid (And.intro ra2 (And.intro rb2 h2))
  have A3 := Lib.hid (And.intro ra3 (And.intro rb3 h3))
  clear ra0 rb0 ra1 rb1 ra2 rb2 ra3 rb3 h0 h1 h2 h3
  go_enter Try.func32, Try.ntmps32
  go_wp2
  refine wp_loop_rounds 6 ?_
  rw [rounds_succ]
  go_wp2_with (go_at_call 26; refine (add_fits _ _ _ A0.out.1 A0.out.2.1 A0.out.2.2).mono ?_; rintro e w' ⟨rfl, rfl⟩)
  rw [rounds_succ]
  go_wp2_with (go_at_call 26; refine (add_fits _ _ _ A1.out.1 A1.out.2.1 A1.out.2.2).mono ?_; rintro e w' ⟨rfl, rfl⟩)
  rw [rounds_succ]
  go_wp2_with (go_at_call 26; refine (add_fits _ _ _ A2.out.1 A2.out.2.1 A2.out.2.2).mono ?_; rintro e w' ⟨rfl, rfl⟩)
  rw [rounds_succ]
  go_wp2_with (go_at_call 26; refine (add_over _ _ _ A3.out.1 A3.out.2.1 A3.out.2.2).mono ?_; rintro e w' ⟨rfl, rfl⟩)
  exact ⟨rfl, rfl, ((Below.refl _ w).alloc (Nat.le_refl _) _).alloc (by simp) _⟩

set_option maxHeartbeats 2000000 in
theorem join1_4 (p q : Nat) (a0 a1 a2 a3 a4 b0 b1 b2 b3 b4 : Int) (w : World) (ca0 : w.cell? ⟨p, 0, none⟩ = some (.int .i64 a0)) (cb0 : w.cell? ⟨q, 0, none⟩ = some (.int .i64 b0)) (ca1 : w.cell? ⟨p, 1, none⟩ = some (.int .i64 a1)) (cb1 : w.cell? ⟨q, 1, none⟩ = some (.int .i64 b1)) (ca2 : w.cell? ⟨p, 2, none⟩ = some (.int .i64 a2)) (cb2 : w.cell? ⟨q, 2, none⟩ = some (.int .i64 b2)) (ca3 : w.cell? ⟨p, 3, none⟩ = some (.int .i64 a3)) (cb3 : w.cell? ⟨q, 3, none⟩ = some (.int .i64 b3)) (ca4 : w.cell? ⟨p, 4, none⟩ = some (.int .i64 a4)) (cb4 : w.cell? ⟨q, 4, none⟩ = some (.int .i64 b4)) (ra0 : InR a0) (rb0 : InR b0) (ra1 : InR a1) (rb1 : InR b1) (ra2 : InR a2) (rb2 : InR b2) (ra3 : InR a3) (rb3 : InR b3) (ra4 : InR a4) (rb4 : InR b4) (h0 : InR (a0 + b0)) (h1 : InR (a1 + b1)) (h2 : InR (a2 + b2)) (h3 : InR (a3 + b3)) (h4 : ¬ InR (a4 + b4)) :
    Calls Try.prog 32 #[.pointer (some ⟨p, 0, none⟩), .pointer (some ⟨q, 0, none⟩)] w fun e w' => e = .panicked [{ v := .iface 23 (.int .i64 2), recovered := false }] ∧ Below w.heap.size w w' := by
  have hi0 : ∀ w, (Instr.index 32 (.agg #[.int .i64 a0, .int .i64 a1, .int .i64 a2, .int .i64 a3, .int .i64 a4]) (.int .i64 0)).run Try.prog w = .ok (.int .i64 a0) w := fun _ => by kernel_rfl
  have hi1 : ∀ w, (Instr.index 32 (.agg #[.int .i64 a0, .int .i64 a1, .int .i64 a2, .int .i64 a3, .int .i64 a4]) (.int .i64 1)).run Try.prog w = .ok (.int .i64 a1) w := fun _ => by kernel_rfl
  have hi2 : ∀ w, (Instr.index 32 (.agg #[.int .i64 a0, .int .i64 a1, .int .i64 a2, .int .i64 a3, .int .i64 a4]) (.int .i64 2)).run Try.prog w = .ok (.int .i64 a2) w := fun _ => by kernel_rfl
  have hi3 : ∀ w, (Instr.index 32 (.agg #[.int .i64 a0, .int .i64 a1, .int .i64 a2, .int .i64 a3, .int .i64 a4]) (.int .i64 3)).run Try.prog w = .ok (.int .i64 a3) w := fun _ => by kernel_rfl
  have hi4 : ∀ w, (Instr.index 32 (.agg #[.int .i64 a0, .int .i64 a1, .int .i64 a2, .int .i64 a3, .int .i64 a4]) (.int .i64 4)).run Try.prog w = .ok (.int .i64 a4) w := fun _ => by kernel_rfl
  have hp := cell_lt ca0
  have hq := cell_lt cb0
  have A0 := Lib.hid (And.intro ra0 (And.intro rb0 h0))
  have A1 := Lib.hid (And.intro ra1 (And.intro rb1 h1))
  have A2 := Lib.hid (And.intro ra2 (And.intro rb2 h2))
  have A3 := Lib.hid (And.intro ra3 (And.intro rb3 h3))
  have A4 := Lib.hid (And.intro ra4 (And.intro rb4 h4))
  clear ra0 rb0 ra1 rb1 ra2 rb2 ra3 rb3 ra4 rb4 h0 h1 h2 h3 h4
  go_enter Try.func32, Try.ntmps32
  go_wp2
  refine wp_loop_rounds 6 ?_
  rw [rounds_succ]
  go_wp2_with (go_at_call 26; refine (add_fits _ _ _ A0.out.1 A0.out.2.1 A0.out.2.2).mono ?_; rintro e w' ⟨rfl, rfl⟩)
  rw [rounds_succ]
  go_wp2_with (go_at_call 26; refine (add_fits _ _ _ A1.out.1 A1.out.2.1 A1.out.2.2).mono ?_; rintro e w' ⟨rfl, rfl⟩)
  rw [rounds_succ]
  go_wp2_with (go_at_call 26; refine (add_fits _ _ _ A2.out.1 A2.out.2.1 A2.out.2.2).mono ?_; rintro e w' ⟨rfl, rfl⟩)
  rw [rounds_succ]
  go_wp2_with (go_at_call 26; refine (add_fits _ _ _ A3.out.1 A3.out.2.1 A3.out.2.2).mono ?_; rintro e w' ⟨rfl, rfl⟩)
  rw [rounds_succ]
  go_wp2_with (go_at_call 26; refine (add_over _ _ _ A4.out.1 A4.out.2.1 A4.out.2.2).mono ?_; rintro e w' ⟨rfl, rfl⟩)
  exact ⟨rfl, rfl, ((Below.refl _ w).alloc (Nat.le_refl _) _).alloc (by simp) _⟩

set_option maxHeartbeats 2000000 in
theorem join1_5 (p q : Nat) (a0 a1 a2 a3 a4 b0 b1 b2 b3 b4 : Int) (w : World) (ca0 : w.cell? ⟨p, 0, none⟩ = some (.int .i64 a0)) (cb0 : w.cell? ⟨q, 0, none⟩ = some (.int .i64 b0)) (ca1 : w.cell? ⟨p, 1, none⟩ = some (.int .i64 a1)) (cb1 : w.cell? ⟨q, 1, none⟩ = some (.int .i64 b1)) (ca2 : w.cell? ⟨p, 2, none⟩ = some (.int .i64 a2)) (cb2 : w.cell? ⟨q, 2, none⟩ = some (.int .i64 b2)) (ca3 : w.cell? ⟨p, 3, none⟩ = some (.int .i64 a3)) (cb3 : w.cell? ⟨q, 3, none⟩ = some (.int .i64 b3)) (ca4 : w.cell? ⟨p, 4, none⟩ = some (.int .i64 a4)) (cb4 : w.cell? ⟨q, 4, none⟩ = some (.int .i64 b4)) (ra0 : InR a0) (rb0 : InR b0) (ra1 : InR a1) (rb1 : InR b1) (ra2 : InR a2) (rb2 : InR b2) (ra3 : InR a3) (rb3 : InR b3) (ra4 : InR a4) (rb4 : InR b4) (h0 : InR (a0 + b0)) (h1 : InR (a1 + b1)) (h2 : InR (a2 + b2)) (h3 : InR (a3 + b3)) (h4 : InR (a4 + b4)) :
    Calls Try.prog 32 #[.pointer (some ⟨p, 0, none⟩), .pointer (some ⟨q, 0, none⟩)] w fun e w' => e = .returned (.agg #[.int .i64 (a0 + b0), .int .i64 (a1 + b1), .int .i64 (a2 + b2), .int .i64 (a3 + b3), .int .i64 (a4 + b4)]) ∧ Below w.heap.size w w' := by
  have hi0 : ∀ w, (Instr.index 32 (.agg #[.int .i64 a0, .int .i64 a1, .int .i64 a2, .int .i64 a3, .int .i64 a4]) (.int .i64 0)).run Try.prog w = .ok (.int .i64 a0) w := fun _ => by kernel_rfl
  have hi1 : ∀ w, (Instr.index 32 (.agg #[.int .i64 a0, .int .i64 a1, .int .i64 a2, .int .i64 a3, .int .i64 a4]) (.int .i64 1)).run Try.prog w = .ok (.int .i64 a1) w := fun _ => by kernel_rfl
  have hi2 : ∀ w, (Instr.index 32 (.agg #[.int .i64 a0, .int .i64 a1, .int .i64 a2, .int .i64 a3, .int .i64 a4]) (.int .i64 2)).run Try.prog w = .ok (.int .i64 a2) w := fun _ => by kernel_rfl
  have hi3 : ∀ w, (Instr.index 32 (.agg #[.int .i64 a0, .int .i64 a1, .int .i64 a2, .int .i64 a3, .int .i64 a4]) (.int .i64 3)).run Try.prog w = .ok (.int .i64 a3) w := fun _ => by kernel_rfl
  have hi4 : ∀ w, (Instr.index 32 (.agg #[.int .i64 a0, .int .i64 a1, .int .i64 a2, .int .i64 a3, .int .i64 a4]) (.int .i64 4)).run Try.prog w = .ok (.int .i64 a4) w := fun _ => by kernel_rfl
  have hp := cell_lt ca0
  have hq := cell_lt cb0
  have A0 := Lib.hid (And.intro ra0 (And.intro rb0 h0))
  have A1 := Lib.hid (And.intro ra1 (And.intro rb1 h1))
  have A2 := Lib.hid (And.intro ra2 (And.intro rb2 h2))
  have A3 := Lib.hid (And.intro ra3 (And.intro rb3 h3))
  have A4 := Lib.hid (And.intro ra4 (And.intro rb4 h4))
  clear ra0 rb0 ra1 rb1 ra2 rb2 ra3 rb3 ra4 rb4 h0 h1 h2 h3 h4
  go_enter Try.func32, Try.ntmps32
  go_wp2
  refine wp_loop_rounds 6 ?_
  rw [rounds_succ]
  go_wp2_with (go_at_call 26; refine (add_fits _ _ _ A0.out.1 A0.out.2.1 A0.out.2.2).mono ?_; rintro e w' ⟨rfl, rfl⟩)
  rw [rounds_succ]
  go_wp2_with (go_at_call 26; refine (add_fits _ _ _ A1.out.1 A1.out.2.1 A1.out.2.2).mono ?_; rintro e w' ⟨rfl, rfl⟩)
  rw [rounds_succ]
  go_wp2_with (go_at_call 26; refine (add_fits _ _ _ A2.out.1 A2.out.2.1 A2.out.2.2).mono ?_; rintro e w' ⟨rfl, rfl⟩)
  rw [rounds_succ]
  go_wp2_with (go_at_call 26; refine (add_fits _ _ _ A3.out.1 A3.out.2.1 A3.out.2.2).mono ?_; rintro e w' ⟨rfl, rfl⟩)
  rw [rounds_succ]
  go_wp2_with (go_at_call 26; refine (add_fits _ _ _ A4.out.1 A4.out.2.1 A4.out.2.2).mono ?_; rintro e w' ⟨rfl, rfl⟩)
  rw [rounds_succ]
  go_wp2
  refine bodyPost_ret (v := .agg #[.int .i64 (a0 + b0), .int .i64 (a1 + b1), .int .i64 (a2 + b2), .int .i64 (a3 + b3), .int .i64 (a4 + b4)]) (by simp [results, Try.results32, go_sem]) rfl ⟨rfl, ?_⟩
  exact ((Below.refl _ w).alloc (Nat.le_refl _) _).alloc (by simp) _
theorem enter_join1 (cap : Array Value) (w : World) : (callFunc 32 cap).run Try.prog w = .ok (.enter 32 cap) w := by kernel_rfl
def joinV (a0 a1 a2 a3 a4 b0 b1 b2 b3 b4 : Int) : Value := if InR (a0 + b0) ∧ InR (a1 + b1) ∧ InR (a2 + b2) ∧ InR (a3 + b3) ∧ InR (a4 + b4) then .agg #[.int .i64 (a0 + b0), .int .i64 (a1 + b1), .int .i64 (a2 + b2), .int .i64 (a3 + b3), .int .i64 (a4 + b4)] else .agg #[.int .i64 0, .int .i64 0, .int .i64 0, .int .i64 0, .int .i64 0]
def joinE (a0 a1 a2 a3 a4 b0 b1 b2 b3 b4 : Int) : Int := if InR (a0 + b0) ∧ InR (a1 + b1) ∧ InR (a2 + b2) ∧ InR (a3 + b3) ∧ InR (a4 + b4) then 0 else 2
theorem join_within (p q : Nat) (a0 a1 a2 a3 a4 b0 b1 b2 b3 b4 : Int) (w : World) (ca0 : w.cell? ⟨p, 0, none⟩ = some (.int .i64 a0)) (cb0 : w.cell? ⟨q, 0, none⟩ = some (.int .i64 b0)) (ca1 : w.cell? ⟨p, 1, none⟩ = some (.int .i64 a1)) (cb1 : w.cell? ⟨q, 1, none⟩ = some (.int .i64 b1)) (ca2 : w.cell? ⟨p, 2, none⟩ = some (.int .i64 a2)) (cb2 : w.cell? ⟨q, 2, none⟩ = some (.int .i64 b2)) (ca3 : w.cell? ⟨p, 3, none⟩ = some (.int .i64 a3)) (cb3 : w.cell? ⟨q, 3, none⟩ = some (.int .i64 b3)) (ca4 : w.cell? ⟨p, 4, none⟩ = some (.int .i64 a4)) (cb4 : w.cell? ⟨q, 4, none⟩ = some (.int .i64 b4)) (ra0 : InR a0) (rb0 : InR b0) (ra1 : InR a1) (rb1 : InR b1) (ra2 : InR a2) (rb2 : InR b2) (ra3 : InR a3) (rb3 : InR b3) (ra4 : InR a4) (rb4 : InR b4) :
    Calls Try.prog 31 #[.func (.func 32) #[] #[.pointer (some ⟨p, 0, none⟩), .pointer (some ⟨q, 0, none⟩)]] w fun e w' => e = .returned (.tuple #[joinV a0 a1 a2 a3 a4 b0 b1 b2 b3 b4, .int .i64 (joinE a0 a1 a2 a3 a4 b0 b1 b2 b3 b4)]) ∧ Below w.heap.size w w' := by
  by_cases h : InR (a0 + b0) ∧ InR (a1 + b1) ∧ InR (a2 + b2) ∧ InR (a3 + b3) ∧ InR (a4 + b4)
  · have e1 : joinV a0 a1 a2 a3 a4 b0 b1 b2 b3 b4 = .agg #[.int .i64 (a0 + b0), .int .i64 (a1 + b1), .int .i64 (a2 + b2), .int .i64 (a3 + b3), .int .i64 (a4 + b4)] := by unfold joinV; rw [if_pos h]
    have e2 : joinE a0 a1 a2 a3 a4 b0 b1 b2 b3 b4 = 0 := by unfold joinE; rw [if_pos h]
    rw [e1, e2]
    refine withinC_ok _ _ _ _ _ _ _ _ (enter_join1 _) ?_
    have := join1_5 p q a0 a1 a2 a3 a4 b0 b1 b2 b3 b4 ((w.alloc (.cells #[.int .i64 0, .int .i64 0, .int .i64 0, .int .i64 0, .int .i64 0] 32)).alloc (.cells #[.int .i64 0] 23)) (cell_old (cell_old ca0 _) _) (cell_old (cell_old cb0 _) _) (cell_old (cell_old ca1 _) _) (cell_old (cell_old cb1 _) _) (cell_old (cell_old ca2 _) _) (cell_old (cell_old cb2 _) _) (cell_old (cell_old ca3 _) _) (cell_old (cell_old cb3 _) _) (cell_old (cell_old ca4 _) _) (cell_old (cell_old cb4 _) _) ra0 rb0 ra1 rb1 ra2 rb2 ra3 rb3 ra4 rb4 h.1 h.2.1 h.2.2.1 h.2.2.2.1 h.2.2.2.2
    simpa using this
  · have e1 : joinV a0 a1 a2 a3 a4 b0 b1 b2 b3 b4 = .agg #[.int .i64 0, .int .i64 0, .int .i64 0, .int .i64 0, .int .i64 0] := by unfold joinV; rw [if_neg h]
    have e2 : joinE a0 a1 a2 a3 a4 b0 b1 b2 b3 b4 = 2 := by unfold joinE; rw [if_neg h]
    rw [e1, e2]
    refine withinC_err _ _ _ _ (enter_join1 _) ?_
    by_cases h0 : InR (a0 + b0)
    case neg =>
      have := join1_0 p q a0 a1 a2 a3 a4 b0 ((w.alloc (.cells #[.int .i64 0, .int .i64 0, .int .i64 0, .int .i64 0, .int .i64 0] 32)).alloc (.cells #[.int .i64 0] 23)) (cell_old (cell_old ca0 _) _) (cell_old (cell_old cb0 _) _) (cell_old (cell_old ca1 _) _) (cell_old (cell_old ca2 _) _) (cell_old (cell_old ca3 _) _) (cell_old (cell_old ca4 _) _) ra0 rb0 h0
      simpa using this
    by_cases h1 : InR (a1 + b1)
    case neg =>
      have := join1_1 p q a0 a1 a2 a3 a4 b0 b1 ((w.alloc (.cells #[.int .i64 0, .int .i64 0, .int .i64 0, .int .i64 0, .int .i64 0] 32)).alloc (.cells #[.int .i64 0] 23)) (cell_old (cell_old ca0 _) _) (cell_old (cell_old cb0 _) _) (cell_old (cell_old ca1 _) _) (cell_old (cell_old cb1 _) _) (cell_old (cell_old ca2 _) _) (cell_old (cell_old ca3 _) _) (cell_old (cell_old ca4 _) _) ra0 rb0 ra1 rb1 h0 h1
      simpa using this
    by_cases h2 : InR (a2 + b2)
    case neg =>
      have := join1_2 p q a0 a1 a2 a3 a4 b0 b1 b2 ((w.alloc (.cells #[.int .i64 0, .int .i64 0, .int .i64 0, .int .i64 0, .int .i64 0] 32)).alloc (.cells #[.int .i64 0] 23)) (cell_old (cell_old ca0 _) _) (cell_old (cell_old cb0 _) _) (cell_old (cell_old ca1 _) _) (cell_old (cell_old cb1 _) _) (cell_old (cell_old ca2 _) _) (cell_old (cell_old cb2 _) _) (cell_old (cell_old ca3 _) _) (cell_old (cell_old ca4 _) _) ra0 rb0 ra1 rb1 ra2 rb2 h0 h1 h2
      simpa using this
    by_cases h3 : InR (a3 + b3)
    case neg =>
      have := join1_3 p q a0 a1 a2 a3 a4 b0 b1 b2 b3 ((w.alloc (.cells #[.int .i64 0, .int .i64 0, .int .i64 0, .int .i64 0, .int .i64 0] 32)).alloc (.cells #[.int .i64 0] 23)) (cell_old (cell_old ca0 _) _) (cell_old (cell_old cb0 _) _) (cell_old (cell_old ca1 _) _) (cell_old (cell_old cb1 _) _) (cell_old (cell_old ca2 _) _) (cell_old (cell_old cb2 _) _) (cell_old (cell_old ca3 _) _) (cell_old (cell_old cb3 _) _) (cell_old (cell_old ca4 _) _) ra0 rb0 ra1 rb1 ra2 rb2 ra3 rb3 h0 h1 h2 h3
      simpa using this
    by_cases h4 : InR (a4 + b4)
    case neg =>
      have := join1_4 p q a0 a1 a2 a3 a4 b0 b1 b2 b3 b4 ((w.alloc (.cells #[.int .i64 0, .int .i64 0, .int .i64 0, .int .i64 0, .int .i64 0] 32)).alloc (.cells #[.int .i64 0] 23)) (cell_old (cell_old ca0 _) _) (cell_old (cell_old cb0 _) _) (cell_old (cell_old ca1 _) _) (cell_old (cell_old cb1 _) _) (cell_old (cell_old ca2 _) _) (cell_old (cell_old cb2 _) _) (cell_old (cell_old ca3 _) _) (cell_old (cell_old cb3 _) _) (cell_old (cell_old ca4 _) _) (cell_old (cell_old cb4 _) _) ra0 rb0 ra1 rb1 ra2 rb2 ra3 rb3 ra4 rb4 h0 h1 h2 h3 h4
      simpa using this
    exact absurd ⟨h0, h1, h2, h3, h4⟩ h
theorem joinV_eq (a0 a1 a2 a3 a4 b0 b1 b2 b3 b4 : Int) : ∃ s0 s1 s2 s3 s4, joinV a0 a1 a2 a3 a4 b0 b1 b2 b3 b4 = .agg #[.int .i64 s0, .int .i64 s1, .int .i64 s2, .int .i64 s3, .int .i64 s4] := by
  unfold joinV
  split
  · exact ⟨_, _, _, _, _, rfl⟩
  · exact ⟨_, _, _, _, _, rfl⟩
set_option maxHeartbeats 1000000 in
theorem Join_any (a0 a1 a2 a3 a4 b0 b1 b2 b3 b4 : Int) (w : World) (ra0 : InR a0) (rb0 : InR b0) (ra1 : InR a1) (rb1 : InR b1) (ra2 : InR a2) (rb2 : InR b2) (ra3 : InR a3) (rb3 : InR b3) (ra4 : InR a4) (rb4 : InR b4) :
    Calls Try.prog 18 #[.agg #[.int .i64 a0, .int .i64 a1, .int .i64 a2, .int .i64 a3, .int .i64 a4], .agg #[.int .i64 b0, .int .i64 b1, .int .i64 b2, .int .i64 b3, .int .i64 b4]] w fun e w' => e = .returned (.tuple #[joinV a0 a1 a2 a3 a4 b0 b1 b2 b3 b4, .int .i64 (joinE a0 a1 a2 a3 a4 b0 b1 b2 b3 b4)]) ∧ Below w.heap.size w w' := by
  have hmf : ∀ (fn : Fn) (first cap : Array Value) (w : World), (Instr.makeFunc fn first cap).run Try.prog w = .ok (.func fn first cap) w := fun _ _ _ _ => rfl
  have H := join_within w.heap.size (w.heap.size + 1) a0 a1 a2 a3 a4 b0 b1 b2 b3 b4 (((w.alloc (.cells #[.int .i64 a0, .int .i64 a1, .int .i64 a2, .int .i64 a3, .int .i64 a4] 32)).alloc (.cells #[.int .i64 b0, .int .i64 b1, .int .i64 b2, .int .i64 b3, .int .i64 b4] 32)).alloc (.cells #[.int .i64 0, .int .i64 0, .int .i64 0, .int .i64 0, .int .i64 0] 32)) (by simp [go_sem]) (by simp [go_sem]) (by simp [go_sem]) (by simp [go_sem]) (by simp [go_sem]) (by simp [go_sem]) (by simp [go_sem]) (by simp [go_sem]) (by simp [go_sem]) (by simp [go_sem]) ra0 rb0 ra1 rb1 ra2 rb2 ra3 rb3 ra4 rb4
  obtain ⟨s0, s1, s2, s3, s4, hs⟩ := joinV_eq a0 a1 a2 a3 a4 b0 b1 b2 b3 b4
  rw [hs] at H ⊢
  have H := Lib.hid H
  clear hs
  go_enter Try.func18, Try.ntmps18
  go_wp2_with fail
  refine H.out.mono ?_
  rintro e w1 ⟨rfl, hb⟩
  have hb3 : Below (w.heap.size + 3) (((w.alloc (.cells #[.int .i64 a0, .int .i64 a1, .int .i64 a2, .int .i64 a3, .int .i64 a4] 32)).alloc (.cells #[.int .i64 b0, .int .i64 b1, .int .i64 b2, .int .i64 b3, .int .i64 b4] 32)).alloc (.cells #[.int .i64 0, .int .i64 0, .int .i64 0, .int .i64 0, .int .i64 0] 32)) w1 := hb.mono (by simp)
  have hc : ∀ b o, b < w.heap.size + 3 → w1.cell? ⟨b, o, none⟩ = (((w.alloc (.cells #[.int .i64 a0, .int .i64 a1, .int .i64 a2, .int .i64 a3, .int .i64 a4] 32)).alloc (.cells #[.int .i64 b0, .int .i64 b1, .int .i64 b2, .int .i64 b3, .int .i64 b4] 32)).alloc (.cells #[.int .i64 0, .int .i64 0, .int .i64 0, .int .i64 0, .int .i64 0] 32)).cell? ⟨b, o, none⟩ := fun b o hl => hb3.cell (p := ⟨b, o, none⟩) hl
  have hf : ∀ b o, b < w.heap.size + 3 → w1.frozen? ⟨b, o, none⟩ = (((w.alloc (.cells #[.int .i64 a0, .int .i64 a1, .int .i64 a2, .int .i64 a3, .int .i64 a4] 32)).alloc (.cells #[.int .i64 b0, .int .i64 b1, .int .i64 b2, .int .i64 b3, .int .i64 b4] 32)).alloc (.cells #[.int .i64 0, .int .i64 0, .int .i64 0, .int .i64 0, .int .i64 0] 32)).frozen? ⟨b, o, none⟩ := fun b o hl => hb3.frozen (p := ⟨b, o, none⟩) hl
  have c0 : w1.cell? ⟨w.heap.size + 1 + 1, 0, none⟩ = some (.int .i64 0) := by rw [hc _ _ (by omega)]; simp [go_sem]
  have f0 : w1.frozen? ⟨w.heap.size + 1 + 1, 0, none⟩ = false := by rw [hf _ _ (by omega)]; simp [go_sem]
  have c1 : w1.cell? ⟨w.heap.size + 1 + 1, 1, none⟩ = some (.int .i64 0) := by rw [hc _ _ (by omega)]; simp [go_sem]
  have f1 : w1.frozen? ⟨w.heap.size + 1 + 1, 1, none⟩ = false := by rw [hf _ _ (by omega)]; simp [go_sem]
  have c2 : w1.cell? ⟨w.heap.size + 1 + 1, 2, none⟩ = some (.int .i64 0) := by rw [hc _ _ (by omega)]; simp [go_sem]
  have f2 : w1.frozen? ⟨w.heap.size + 1 + 1, 2, none⟩ = false := by rw [hf _ _ (by omega)]; simp [go_sem]
  have c3 : w1.cell? ⟨w.heap.size + 1 + 1, 3, none⟩ = some (.int .i64 0) := by rw [hc _ _ (by omega)]; simp [go_sem]
  have f3 : w1.frozen? ⟨w.heap.size + 1 + 1, 3, none⟩ = false := by rw [hf _ _ (by omega)]; simp [go_sem]
  have c4 : w1.cell? ⟨w.heap.size + 1 + 1, 4, none⟩ = some (.int .i64 0) := by rw [hc _ _ (by omega)]; simp [go_sem]
  have f4 : w1.frozen? ⟨w.heap.size + 1 + 1, 4, none⟩ = false := by rw [hf _ _ (by omega)]; simp [go_sem]
  clear hc hf H
  go_wp2
  obtain ⟨V, hV⟩ : ∃ V, V = ((((((w1.setCell ⟨w.heap.size + 1 + 1, 0, none⟩ (.int .i64 s0)).setCell ⟨w.heap.size + 1 + 1, 1, none⟩ (.int .i64 s1)).setCell ⟨w.heap.size + 1 + 1, 2, none⟩ (.int .i64 s2)).setCell ⟨w.heap.size + 1 + 1, 3, none⟩ (.int .i64 s3)).setCell ⟨w.heap.size + 1 + 1, 4, none⟩ (.int .i64 s4))) := ⟨_, rfl⟩
  have bV : Below w.heap.size w V := by
    rw [hV]
    exact (((((((((Below.refl _ w).alloc (Nat.le_refl _) _).alloc (by simp) _).alloc (by simp; omega) _).trans (hb3.mono (by omega))).setCell (by simp; omega) _).setCell (by simp; omega) _).setCell (by simp; omega) _).setCell (by simp; omega) _).setCell (by simp; omega) _
  have d0 : V.cell? ⟨w.heap.size + 1 + 1, 0, none⟩ = some (.int .i64 s0) := by rw [hV]; simp [go_sem, c0]
  have d1 : V.cell? ⟨w.heap.size + 1 + 1, 1, none⟩ = some (.int .i64 s1) := by rw [hV]; simp [go_sem, c1]
  have d2 : V.cell? ⟨w.heap.size + 1 + 1, 2, none⟩ = some (.int .i64 s2) := by rw [hV]; simp [go_sem, c2]
  have d3 : V.cell? ⟨w.heap.size + 1 + 1, 3, none⟩ = some (.int .i64 s3) := by rw [hV]; simp [go_sem, c3]
  have d4 : V.cell? ⟨w.heap.size + 1 + 1, 4, none⟩ = some (.int .i64 s4) := by rw [hV]; simp [go_sem, c4]
  rw [← hV]
  clear hV c0 c1 c2 c3 c4 f0 f1 f2 f3 f4
  exact bodyPost_ret (v := .tuple #[.agg #[.int .i64 s0, .int .i64 s1, .int .i64 s2, .int .i64 s3, .int .i64 s4], .int .i64 (joinE a0 a1 a2 a3 a4 b0 b1 b2 b3 b4)]) (by simp [results, Try.results18, go_sem, d0, d1, d2, d3, d4]) rfl ⟨rfl, bV⟩
end Go.Proofs.Ytobamjjonkhcfaa
