/- The contracts of package sum's functions: what each call hands back, and that what was in memory before is as it was. No condition but that the numbers fit their kind. -/
import Derived.Test.YtobamjjonkhcfaaRows
import Derived.WalkKit
import Derived.OpenShut
import Derived.WalkLawsBesides
import Derived.Defers
import Derived.Recover
import Derived.BigQuiet
import Derived.Deep.QuietTactic
import Derived.Lib.Hide
namespace Go.Proofs.Ytobamjjonkhcfaa
open Go.RowKit

/-! ### Numbers -/
def InR (n : Int) : Prop := -9223372036854775808 ≤ n ∧ n ≤ 9223372036854775807
instance (n : Int) : Decidable (InR n) := by unfold InR; exact inferInstance
theorem wrap_in {n : Int} (h : InR n) : wrap64 n = n := by unfold InR at h; unfold wrap64; omega
theorem wrap_range (n : Int) : InR (wrap64 n) := by unfold InR wrap64; omega
theorem inR_of_wf {n : Int} (h : (Lit.int .i64 n).wf = true) : InR n := by
  have := bounds_i64 h; unfold InR; omega

theorem add_test {a b : Int} (ha : InR a) (hb : InR b) : (!(decide (wrap64 (a + b) < a) == decide (b < 0))) = !decide (InR (a + b)) := by
  have e : (decide (wrap64 (a + b) < a) == decide (b < 0)) = decide (InR (a + b)) := by
    rw [Bool.eq_iff_iff]
    simp only [beq_iff_eq, decide_eq_decide, decide_eq_true_eq]
    unfold InR wrap64 at *
    omega
  rw [e]

theorem mul_quot {a b : Int} (ha : InR a) (hb : InR b) (h0 : a ≠ 0) (h1 : ¬ (a = -1 ∧ b = -9223372036854775808)) : (wrap64 ((wrap64 (a * b)).tdiv a) != b) = !decide (InR (a * b)) := by
  have hw := wrap_range (a * b)
  have hq : InR ((wrap64 (a * b)).tdiv a) ∨ (a = -1 ∧ wrap64 (a * b) = -9223372036854775808) := by
    by_cases hm : a = -1
    · subst hm
      by_cases hz : wrap64 (-1 * b) = -9223372036854775808
      · exact .inr ⟨rfl, hz⟩
      · left
        unfold InR at *
        rw [show (-1 : Int) = -(1 : Int) from rfl, Int.tdiv_neg, Int.tdiv_one]
        omega
    · left
      have hab := Int.natAbs_tdiv (wrap64 (a * b)) a
      have hle : (wrap64 (a * b)).natAbs / a.natAbs ≤ (wrap64 (a * b)).natAbs := Nat.div_le_self _ _
      by_cases h2 : a = 1
      · subst h2; rw [Int.tdiv_one]; exact hw
      · have h3 : 2 ≤ a.natAbs := by omega
        have hle2 : (wrap64 (a * b)).natAbs / a.natAbs ≤ (wrap64 (a * b)).natAbs / 2 := Nat.div_le_div_left h3 (by omega)
        have h6 : ((wrap64 (a * b)).tdiv a).natAbs ≤ (wrap64 (a * b)).natAbs / 2 := by rw [hab]; exact hle2
        unfold InR at *
        omega
  have key : ((wrap64 (a * b)).tdiv a = b) ↔ InR (a * b) := by
    constructor
    · intro h
      have hm := Int.tmod_add_mul_tdiv (wrap64 (a * b)) a
      rw [h] at hm
      have hr := Int.natAbs_tmod (wrap64 (a * b)) a
      have hlt : (wrap64 (a * b)).natAbs % a.natAbs < a.natAbs := Nat.mod_lt _ (by omega)
      have hk : (wrap64 (a * b)).tmod a = wrap64 (a * b) - a * b := by omega
      have hd : (wrap64 (a * b)).tmod a = 0 := by
        have hs : ∃ k : Int, wrap64 (a * b) - a * b = 18446744073709551616 * k := by
          refine ⟨-((a * b + 9223372036854775808) / 18446744073709551616), ?_⟩
          unfold wrap64
          omega
        obtain ⟨k, hk2⟩ := hs
        unfold InR at ha
        omega
      have : wrap64 (a * b) = a * b := by omega
      rw [← this]; exact hw
    · intro h
      rw [wrap_in h, Int.mul_comm, Int.mul_tdiv_cancel _ h0]
  rw [Bool.eq_iff_iff]
  simp only [bne_iff_ne, ne_eq, Bool.not_eq_true', decide_eq_false_iff_not]
  rw [← key]
  rcases hq with hq | ⟨rfl, hq⟩
  · rw [wrap_in hq]
  · rw [hq]
    have h5 : Int.tdiv (-9223372036854775808) (-1) = 9223372036854775808 := by decide
    rw [h5]
    have : wrap64 9223372036854775808 = -9223372036854775808 := by unfold wrap64; omega
    rw [this]
    unfold InR at hb
    omega

/-! ### add, mul -/
theorem add_fits (a b : Int) (w : World) (ha : InR a) (hb : InR b) (h : InR (a + b)) :
    Calls Try.prog 26 #[.int .i64 a, .int .i64 b] w fun e w' => e = .returned (.int .i64 (a + b)) ∧ w = w' := by
  have ht := add_test ha hb
  simp only [h, decide_true, Bool.not_true] at ht
  have E := Lib.hid (wrap_in h)
  clear h ha hb
  go_enter Try.func26, Try.ntmps26
  go_wp2
  go_ret
  exact ⟨by rw [E.out]; rfl, rfl⟩

theorem add_over (a b : Int) (w : World) (ha : InR a) (hb : InR b) (h : ¬ InR (a + b)) :
    Calls Try.prog 26 #[.int .i64 a, .int .i64 b] w fun e w' => e = .panicked [{ v := .iface 23 (.int .i64 2), recovered := false }] ∧ w = w' := by
  have ht := add_test ha hb
  simp only [h, decide_false, Bool.not_false] at ht
  clear h ha hb
  go_enter Try.func26, Try.ntmps26
  go_wp2
  exact ⟨rfl, rfl, rfl⟩

theorem mul_fits (a b : Int) (w : World) (ha : InR a) (hb : InR b) (h : InR (a * b)) :
    Calls Try.prog 28 #[.int .i64 a, .int .i64 b] w fun e w' => e = .returned (.int .i64 (a * b)) ∧ w = w' := by
  have E := Lib.hid (wrap_in h)
  by_cases h0 : a = 0
  · have g1 : (a == -1) = false := by simp [h0]
    have g0 : (a != 0) = false := by simp [h0]
    clear ha hb h h0
    go_enter Try.func28, Try.ntmps28
    go_wp2
    go_ret
    exact ⟨by rw [E.out]; rfl, rfl⟩
  · have h1 : ¬ (a = -1 ∧ b = -9223372036854775808) := by
      rintro ⟨rfl, rfl⟩
      revert h; decide
    have ht := mul_quot ha hb h0 h1
    simp only [h, decide_true, Bool.not_true] at ht
    have g0 : (a != 0) = true := by simp [h0]
    by_cases g : a = -1
    · have g1 : (a == -1) = true := by simp [g]
      have g2 : (b == -9223372036854775808) = false := by simp; exact fun hh => h1 ⟨g, hh⟩
      clear ha hb h h1 g
      go_enter Try.func28, Try.ntmps28
      go_wp2
      go_ret
      exact ⟨by rw [E.out]; rfl, rfl⟩
    · have g1 : (a == -1) = false := by simp [g]
      clear ha hb h h1 g
      go_enter Try.func28, Try.ntmps28
      go_wp2
      go_ret
      exact ⟨by rw [E.out]; rfl, rfl⟩

theorem mul_over (a b : Int) (w : World) (ha : InR a) (hb : InR b) (h : ¬ InR (a * b)) :
    Calls Try.prog 28 #[.int .i64 a, .int .i64 b] w fun e w' => e = .panicked [{ v := .iface 23 (.int .i64 2), recovered := false }] ∧ w = w' := by
  have h0 : ¬ a = 0 := by rintro rfl; apply h; rw [Int.zero_mul]; decide
  by_cases h1 : a = -1 ∧ b = -9223372036854775808
  · have g1 : (a == -1) = true := by simp [h1.1]
    have g2 : (b == -9223372036854775808) = true := by simp [h1.2]
    clear ha hb h h0 h1
    go_enter Try.func28, Try.ntmps28
    go_wp2
    exact ⟨rfl, rfl, rfl⟩
  · have ht := mul_quot ha hb h0 h1
    simp only [h, decide_false, Bool.not_false] at ht
    have g0 : (a != 0) = true := by simp [h0]
    by_cases g : a = -1
    · have g1 : (a == -1) = true := by simp [g]
      have g2 : (b == -9223372036854775808) = false := by simp; exact fun hh => h1 ⟨g, hh⟩
      clear ha hb h h1 g
      go_enter Try.func28, Try.ntmps28
      go_wp2
      exact ⟨rfl, rfl, rfl⟩
    · have g1 : (a == -1) = false := by simp [g]
      clear ha hb h h1 g
      go_enter Try.func28, Try.ntmps28
      go_wp2
      exact ⟨rfl, rfl, rfl⟩
end Go.Proofs.Ytobamjjonkhcfaa
