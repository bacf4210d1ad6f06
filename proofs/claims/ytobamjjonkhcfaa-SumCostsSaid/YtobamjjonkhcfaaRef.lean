/- The contracts of the document's own Add and Mul: the same number and error as package sum's; memory is as it was. -/
import Derived.Test.YtobamjjonkhcfaaAddMul
namespace Go.Proofs.Ytobamjjonkhcfaa
open Go.RowKit
theorem refAdd_any (a b : Int) (w : World) (ha : InR a) (hb : InR b) :
    Calls Try.prog 11 #[.int .i64 a, .int .i64 b] w fun e w' => e = .returned (.tuple #[.int .i64 (addV a b), .int .i64 (addE a b)]) ∧ w = w' := by
  obtain ⟨ha1, ha2⟩ := ha
  obtain ⟨hb1, hb2⟩ := hb
  go_enter Try.func11, Try.ntmps11
  go_wp2
  all_goals
    go_ret2
    refine ⟨?_, rfl⟩
    first
      | (have h : InR (a + b) := by unfold InR; omega
         rw [(addV_in h).1, (addV_in h).2]; rfl)
      | (have h : ¬ InR (a + b) := by unfold InR; omega
         rw [(addV_out h).1, (addV_out h).2]; rfl)

/-! ### Numbers: a quotient and a product -/
theorem quo_le {x y : Int} (hy : 1 ≤ y) (h : x ≤ 9223372036854775807 / y) : x * y ≤ 9223372036854775807 := (Int.le_ediv_iff_mul_le (by omega)).1 h
theorem quo_lt {x y : Int} (hy : 1 ≤ y) (h : 9223372036854775807 / y < x) : 9223372036854775808 ≤ x * y := by
  have := (Int.ediv_lt_iff_lt_mul (by omega : 0 < y)).1 h
  omega
theorem quo_eq {x y : Int} (h2 : 9223372036854775807 % y = y - 1) (h3 : x = 9223372036854775807 / y + 1) : x * y = 9223372036854775808 := by
  have := Int.mul_ediv_add_emod 9223372036854775807 y
  rw [h3, Int.add_mul, Int.one_mul, Int.mul_comm]
  omega
theorem quo_ne {x y : Int} (hy : 1 ≤ y) (h1 : 9223372036854775807 / y < x) (h : ¬ (9223372036854775807 % y = y - 1 ∧ x = 9223372036854775807 / y + 1)) : 9223372036854775809 ≤ x * y := by
  have hm := Int.mul_ediv_add_emod 9223372036854775807 y
  have hl := Int.emod_lt_of_pos 9223372036854775807 (by omega : 0 < y)
  have hx := quo_lt hy h1
  rcases Int.lt_or_eq_of_le hx with hlt | heq
  · omega
  · exfalso
    have h5 : x * y = y * x := Int.mul_comm _ _
    have h6 : y * x = y * (9223372036854775807 / y) + y * (x - 9223372036854775807 / y) := by rw [← Int.mul_add]; congr 1; omega
    have hx3 : x = 9223372036854775807 / y + 1 := by
      rcases Int.lt_or_le (9223372036854775807 / y + 1) x with h7 | h7
      · have h8 : y * 2 ≤ y * (x - 9223372036854775807 / y) := Int.mul_le_mul_of_nonneg_left (by omega) (by omega)
        omega
      · omega
    have h9 : x - 9223372036854775807 / y = 1 := by omega
    rw [h9, Int.mul_one] at h6
    exact h ⟨by omega, hx3⟩
theorem quo_nonneg {y : Int} (hy : 1 ≤ y) : 0 ≤ 9223372036854775807 / y := Int.ediv_nonneg (by omega) (by omega)

/-- What the document's Mul says where neither number is nought or the least. -/
def MulSays (a b : Int) (w : World) : Prop := Calls Try.prog 13 #[.int .i64 a, .int .i64 b] w fun e w' => e = .returned (.tuple #[.int .i64 (mulV a b), .int .i64 (mulE a b)]) ∧ w = w'

theorem refMul_pp (x y : Int) (w : World) (hx : 1 ≤ x) (hx2 : x ≤ 9223372036854775807) (hy : 1 ≤ y) (hy2 : y ≤ 9223372036854775807) : MulSays x y w := by
  unfold MulSays
  have zx0 : (x == 0) = false := by simp; omega
  have zy0 : (y == 0) = false := by simp; omega
  have z1c : (x == -9223372036854775808) = false := by rw [beq_eq_false_iff_ne]; omega
  have z2c : (y == -9223372036854775808) = false := by rw [beq_eq_false_iff_ne]; omega
  have E : Hid (x * y = x * y) := Lib.hid (rfl)
  have q0 := quo_nonneg hy
  have s1 : decide (x < 0) = false := by simp; omega
  have s2 : decide (y < 0) = false := by simp; omega
  by_cases k1 : 9223372036854775807 / y < x
  · have h := Lib.hid (show ¬ InR (x * y) by have e := E.out; have := quo_lt hy k1; intro hh; unfold InR at hh; omega)
    go_enter Try.func13, Try.ntmps13
    go_wp2
    go_ret2
    exact ⟨by rw [(mulV_out h.out).1, (mulV_out h.out).2]; rfl, rfl⟩
  · have h := Lib.hid (show InR (x * y) by have e := E.out; have := quo_le (x := x) hy (by omega); have p0 := Int.mul_nonneg (a := x) (b := y) (by omega) (by omega); unfold InR; omega)
    go_enter Try.func13, Try.ntmps13
    go_wp2
    go_ret2
    have e : wrap64 (x * y) = x * y := wrap_in h.out
    exact ⟨by rw [(mulV_in h.out).1, (mulV_in h.out).2]; simp [e], rfl⟩

theorem refMul_pm (x y : Int) (w : World) (hx : 1 ≤ x) (hx2 : x ≤ 9223372036854775807) (hy : 1 ≤ y) (hy2 : y ≤ 9223372036854775807) : MulSays x (-y) w := by
  unfold MulSays
  have zx0 : (x == 0) = false := by simp; omega
  have zy0 : (y == 0) = false := by simp; omega
  have z1c : (x == -9223372036854775808) = false := by rw [beq_eq_false_iff_ne]; omega
  have z2 : (-y == 0) = false := by rw [beq_eq_false_iff_ne]; omega
  have z2b : (y == 9223372036854775808) = false := by rw [beq_eq_false_iff_ne]; omega
  have z2c : (-y == -9223372036854775808) = false := by rw [beq_eq_false_iff_ne]; omega
  have E : Hid (x * (-y) = -(x * y)) := Lib.hid (Int.mul_neg x y)
  have q0 := quo_nonneg hy
  have s1 : decide (x < 0) = false := by simp; omega
  have s2 : decide (-y < 0) = true := by simp; omega
  have s4 : decide (0 < y) = true := by simp; omega
  by_cases k1 : 9223372036854775807 / y < x
  · by_cases k2 : 9223372036854775807 % y = y - 1 ∧ x = 9223372036854775807 / y + 1
    · have h := Lib.hid (show x * (-y) = -9223372036854775808 by have e := E.out; have := quo_eq k2.1 k2.2; omega)
      have t2 : (9223372036854775807 % y == y - 1) = true := by rw [beq_iff_eq]; exact k2.1
      have t3 : (x == 9223372036854775807 / y + 1) = true := by rw [beq_iff_eq]; exact k2.2
      clear k2
      go_enter Try.func13, Try.ntmps13
      go_wp2
      go_ret2
      have hi : InR (x * (-y)) := by rw [h.out]; decide
      exact ⟨by rw [(mulV_in hi).1, (mulV_in hi).2, h.out]; rfl, rfl⟩
    · have h := Lib.hid (show ¬ InR (x * (-y)) by have e := E.out; have := quo_ne hy k1 k2; intro hh; unfold InR at hh; omega)
      by_cases k3 : 9223372036854775807 % y = y - 1
      · have t2 : (9223372036854775807 % y == y - 1) = true := by rw [beq_iff_eq]; exact k3
        have t3 : (x == 9223372036854775807 / y + 1) = false := by rw [beq_eq_false_iff_ne]; exact fun hh => k2 ⟨k3, hh⟩
        clear k2 k3
        go_enter Try.func13, Try.ntmps13
        go_wp2
        go_ret2
        exact ⟨by rw [(mulV_out h.out).1, (mulV_out h.out).2]; rfl, rfl⟩
      · have t2 : (9223372036854775807 % y == y - 1) = false := by rw [beq_eq_false_iff_ne]; exact k3
        clear k2 k3
        go_enter Try.func13, Try.ntmps13
        go_wp2
        go_ret2
        exact ⟨by rw [(mulV_out h.out).1, (mulV_out h.out).2]; rfl, rfl⟩
  · have h := Lib.hid (show InR (x * (-y)) by have e := E.out; have := quo_le (x := x) hy (by omega); have p0 := Int.mul_nonneg (a := x) (b := y) (by omega) (by omega); unfold InR; omega)
    go_enter Try.func13, Try.ntmps13
    go_wp2
    go_ret2
    have e : wrap64 (-(x * y)) = -(x * y) := wrap_in (by have := h.out; rwa [E.out] at this)
    exact ⟨by rw [(mulV_in h.out).1, (mulV_in h.out).2, E.out]; simp [Int.neg_mul, e], rfl⟩

theorem refMul_mp (x y : Int) (w : World) (hx : 1 ≤ x) (hx2 : x ≤ 9223372036854775807) (hy : 1 ≤ y) (hy2 : y ≤ 9223372036854775807) : MulSays (-x) y w := by
  unfold MulSays
  have zx0 : (x == 0) = false := by simp; omega
  have zy0 : (y == 0) = false := by simp; omega
  have z1 : (-x == 0) = false := by rw [beq_eq_false_iff_ne]; omega
  have z1b : (x == 9223372036854775808) = false := by rw [beq_eq_false_iff_ne]; omega
  have z1c : (-x == -9223372036854775808) = false := by rw [beq_eq_false_iff_ne]; omega
  have z2c : (y == -9223372036854775808) = false := by rw [beq_eq_false_iff_ne]; omega
  have E : Hid ((-x) * y = -(x * y)) := Lib.hid (Int.neg_mul x y)
  have q0 := quo_nonneg hy
  have s1 : decide (-x < 0) = true := by simp; omega
  have s2 : decide (y < 0) = false := by simp; omega
  have s3 : decide (0 < x) = true := by simp; omega
  by_cases k1 : 9223372036854775807 / y < x
  · by_cases k2 : 9223372036854775807 % y = y - 1 ∧ x = 9223372036854775807 / y + 1
    · have h := Lib.hid (show (-x) * y = -9223372036854775808 by have e := E.out; have := quo_eq k2.1 k2.2; omega)
      have t2 : (9223372036854775807 % y == y - 1) = true := by rw [beq_iff_eq]; exact k2.1
      have t3 : (x == 9223372036854775807 / y + 1) = true := by rw [beq_iff_eq]; exact k2.2
      clear k2
      go_enter Try.func13, Try.ntmps13
      go_wp2
      go_ret2
      have hi : InR ((-x) * y) := by rw [h.out]; decide
      exact ⟨by rw [(mulV_in hi).1, (mulV_in hi).2, h.out]; rfl, rfl⟩
    · have h := Lib.hid (show ¬ InR ((-x) * y) by have e := E.out; have := quo_ne hy k1 k2; intro hh; unfold InR at hh; omega)
      by_cases k3 : 9223372036854775807 % y = y - 1
      · have t2 : (9223372036854775807 % y == y - 1) = true := by rw [beq_iff_eq]; exact k3
        have t3 : (x == 9223372036854775807 / y + 1) = false := by rw [beq_eq_false_iff_ne]; exact fun hh => k2 ⟨k3, hh⟩
        clear k2 k3
        go_enter Try.func13, Try.ntmps13
        go_wp2
        go_ret2
        exact ⟨by rw [(mulV_out h.out).1, (mulV_out h.out).2]; rfl, rfl⟩
      · have t2 : (9223372036854775807 % y == y - 1) = false := by rw [beq_eq_false_iff_ne]; exact k3
        clear k2 k3
        go_enter Try.func13, Try.ntmps13
        go_wp2
        go_ret2
        exact ⟨by rw [(mulV_out h.out).1, (mulV_out h.out).2]; rfl, rfl⟩
  · have h := Lib.hid (show InR ((-x) * y) by have e := E.out; have := quo_le (x := x) hy (by omega); have p0 := Int.mul_nonneg (a := x) (b := y) (by omega) (by omega); unfold InR; omega)
    go_enter Try.func13, Try.ntmps13
    go_wp2
    go_ret2
    have e : wrap64 (-(x * y)) = -(x * y) := wrap_in (by have := h.out; rwa [E.out] at this)
    exact ⟨by rw [(mulV_in h.out).1, (mulV_in h.out).2, E.out]; simp [e], rfl⟩

theorem refMul_mm (x y : Int) (w : World) (hx : 1 ≤ x) (hx2 : x ≤ 9223372036854775807) (hy : 1 ≤ y) (hy2 : y ≤ 9223372036854775807) : MulSays (-x) (-y) w := by
  unfold MulSays
  have zx0 : (x == 0) = false := by simp; omega
  have zy0 : (y == 0) = false := by simp; omega
  have z1 : (-x == 0) = false := by rw [beq_eq_false_iff_ne]; omega
  have z1b : (x == 9223372036854775808) = false := by rw [beq_eq_false_iff_ne]; omega
  have z1c : (-x == -9223372036854775808) = false := by rw [beq_eq_false_iff_ne]; omega
  have z2 : (-y == 0) = false := by rw [beq_eq_false_iff_ne]; omega
  have z2b : (y == 9223372036854775808) = false := by rw [beq_eq_false_iff_ne]; omega
  have z2c : (-y == -9223372036854775808) = false := by rw [beq_eq_false_iff_ne]; omega
  have E : Hid ((-x) * (-y) = x * y) := Lib.hid (Int.neg_mul_neg x y)
  have q0 := quo_nonneg hy
  have s1 : decide (-x < 0) = true := by simp; omega
  have s2 : decide (-y < 0) = true := by simp; omega
  have s3 : decide (0 < x) = true := by simp; omega
  have s4 : decide (0 < y) = true := by simp; omega
  by_cases k1 : 9223372036854775807 / y < x
  · have h := Lib.hid (show ¬ InR ((-x) * (-y)) by have e := E.out; have := quo_lt hy k1; intro hh; unfold InR at hh; omega)
    go_enter Try.func13, Try.ntmps13
    go_wp2
    go_ret2
    exact ⟨by rw [(mulV_out h.out).1, (mulV_out h.out).2]; rfl, rfl⟩
  · have h := Lib.hid (show InR ((-x) * (-y)) by have e := E.out; have := quo_le (x := x) hy (by omega); have p0 := Int.mul_nonneg (a := x) (b := y) (by omega) (by omega); unfold InR; omega)
    go_enter Try.func13, Try.ntmps13
    go_wp2
    go_ret2
    exact ⟨by rw [(mulV_in h.out).1, (mulV_in h.out).2, ← wrap_in h.out, E.out]; simp, rfl⟩

theorem refMul_zero (a b : Int) (w : World) (h : a = 0 ∨ b = 0) : MulSays a b w := by
  have hp : a * b = 0 := by rcases h with rfl | rfl <;> simp
  have hi := Lib.hid (show InR (a * b) by rw [hp]; decide)
  have hp := Lib.hid hp
  unfold MulSays
  by_cases h0 : a = 0
  · have z : (a == 0) = true := by simp [h0]
    clear h h0
    go_enter Try.func13, Try.ntmps13
    go_wp2
    go_ret2
    exact ⟨by rw [(mulV_in hi.out).1, (mulV_in hi.out).2, hp.out]; rfl, rfl⟩
  · have z : (a == 0) = false := by simp [h0]
    have z2 : (b == 0) = true := by simp; omega
    clear h h0
    go_enter Try.func13, Try.ntmps13
    go_wp2
    go_ret2
    exact ⟨by rw [(mulV_in hi.out).1, (mulV_in hi.out).2, hp.out]; rfl, rfl⟩

theorem least_fits {n : Int} (h : InR (-9223372036854775808 * n)) (hn : n ≠ 0) : n = 1 := by unfold InR at h; omega
theorem refMul_least (a b : Int) (w : World) (ha0 : a ≠ 0) (hb0 : b ≠ 0) (h : a = -9223372036854775808 ∨ b = -9223372036854775808) : MulSays a b w := by
  have z1 : (a == 0) = false := by simp [ha0]
  have z2 : (b == 0) = false := by simp [hb0]
  unfold MulSays
  by_cases o : a = 1 ∨ b = 1
  · have hp : a * b = -9223372036854775808 := by rcases o with rfl | rfl <;> omega
    have hi := Lib.hid (show InR (a * b) by rw [hp]; decide)
    have hp := Lib.hid hp
    rcases h with h | h
    · have z3 : (a == -9223372036854775808) = true := by simp [h]
      have o1 : (a == 1) = false := by simp [h]
      have o2 : (b == 1) = true := by rcases o with o | o <;> simp_all
      clear h o ha0 hb0
      go_enter Try.func13, Try.ntmps13
      go_wp2
      go_ret2
      exact ⟨by rw [(mulV_in hi.out).1, (mulV_in hi.out).2, hp.out]; rfl, rfl⟩
    · have z3 : (b == -9223372036854775808) = true := by simp [h]
      have o2 : (a == 1) = true := by rcases o with o | o <;> simp_all
      have z4 : (a == -9223372036854775808) = false := by rw [beq_eq_false_iff_ne]; have := beq_iff_eq.1 o2; omega
      clear h o ha0 hb0
      go_enter Try.func13, Try.ntmps13
      go_wp2
      go_ret2
      exact ⟨by rw [(mulV_in hi.out).1, (mulV_in hi.out).2, hp.out]; rfl, rfl⟩
  · have hi := Lib.hid (show ¬ InR (a * b) by
      intro hh
      rcases h with rfl | rfl
      · exact o (.inr (least_fits hh hb0))
      · rw [Int.mul_comm] at hh; exact o (.inl (least_fits hh ha0)))
    have o1 : (a == 1) = false := by rw [beq_eq_false_iff_ne]; exact fun hh => o (.inl hh)
    have o2 : (b == 1) = false := by rw [beq_eq_false_iff_ne]; exact fun hh => o (.inr hh)
    by_cases h' : a = -9223372036854775808
    · have z3 : (a == -9223372036854775808) = true := by simp [h']
      clear h h' o ha0 hb0
      go_enter Try.func13, Try.ntmps13
      go_wp2
      go_ret2
      exact ⟨by rw [(mulV_out hi.out).1, (mulV_out hi.out).2]; rfl, rfl⟩
    · have z3 : (a == -9223372036854775808) = false := by simp [h']
      have z4 : (b == -9223372036854775808) = true := by rw [beq_iff_eq]; exact h.resolve_left h'
      clear h h' o ha0 hb0
      go_enter Try.func13, Try.ntmps13
      go_wp2
      go_ret2
      exact ⟨by rw [(mulV_out hi.out).1, (mulV_out hi.out).2]; rfl, rfl⟩

theorem refMul_any (a b : Int) (w : World) (ha : InR a) (hb : InR b) :
    Calls Try.prog 13 #[.int .i64 a, .int .i64 b] w fun e w' => e = .returned (.tuple #[.int .i64 (mulV a b), .int .i64 (mulE a b)]) ∧ w = w' := by
  show MulSays a b w
  by_cases h0 : a = 0 ∨ b = 0
  · exact refMul_zero a b w h0
  by_cases hl : a = -9223372036854775808 ∨ b = -9223372036854775808
  · exact refMul_least a b w (fun h => h0 (.inl h)) (fun h => h0 (.inr h)) hl
  unfold InR at ha hb
  rcases Int.lt_or_le a 0 with sa | sa <;> rcases Int.lt_or_le b 0 with sb | sb
  · have := refMul_mm (-a) (-b) w (by omega) (by omega) (by omega) (by omega)
    simpa using this
  · have := refMul_mp (-a) b w (by omega) (by omega) (by omega) (by omega)
    simpa using this
  · have := refMul_pm a (-b) w (by omega) (by omega) (by omega) (by omega)
    simpa using this
  · exact refMul_pp a b w (by omega) (by omega) (by omega) (by omega)
end Go.Proofs.Ytobamjjonkhcfaa
