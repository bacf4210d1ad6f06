/- The contract of the program's own order of texts: the document's. -/
import Derived.Test.YtmlakjemgmeffaaGreatDoorVer3Z
set_option maxRecDepth 100000
set_option linter.unusedVariables false
namespace Go.Proofs.YtmlakjemgmeffaaGreatDoor
open Go.RowKit
def wS (s : ByteArray) : ByteArray := mk (wordL (B s))
def bS (s : ByteArray) : ByteArray := mk (behL (B s))
def nS (s : ByteArray) : ByteArray := mk (numA (B s))
def rS (s : ByteArray) : ByteArray := mk (restA (B s))
theorem sub_lt {p : Nat → Bool} {l : List Nat} (h : ∀ c ∈ l, c < 256) : (∀ c ∈ l.takeWhile p, c < 256) ∧ (∀ c ∈ l.dropWhile p, c < 256) :=
  ⟨fun c hc => h c ((List.takeWhile_prefix p).subset hc), fun c hc => h c ((List.dropWhile_suffix p).subset hc)⟩
theorem B_wS (s : ByteArray) : B (wS s) = wordL (B s) := B_mk (sub_lt (B_lt s)).1
theorem B_bS (s : ByteArray) : B (bS s) = behL (B s) := B_mk (sub_lt (B_lt s)).2
theorem B_nS (s : ByteArray) : B (nS s) = numA (B s) := B_mk (sub_lt (sub_lt (B_lt s)).2).1
theorem B_rS (s : ByteArray) : B (rS s) = restA (B s) := B_mk (sub_lt (sub_lt (B_lt s)).2).2
theorem len_wS (s : ByteArray) : (wS s).size ≤ s.size := by rw [← B_len, B_wS, ← B_len]; exact (List.takeWhile_prefix _).length_le
theorem len_bS (s : ByteArray) : (bS s).size ≤ s.size := by rw [← B_len, B_bS, ← B_len]; exact (List.dropWhile_suffix _).length_le
theorem len_nS (s : ByteArray) : (nS s).size ≤ s.size := by rw [← B_len, B_nS]; refine Nat.le_trans (List.takeWhile_prefix _).length_le ?_; rw [← B_bS, B_len]; exact len_bS s
theorem len_rS (s : ByteArray) : (rS s).size ≤ s.size := by rw [← B_len, B_rS, ← B_len]; exact restA_len _
theorem cut_word (s : ByteArray) (w : World) (hs : s.size ≤ 9223372036854775807) :
    Calls Tryz.prog 165 #[.string s, .func (.func 166) #[] #[]] w fun e w' => e = .returned (.tuple #[.string (wS s), .string (bS s)]) ∧ ∃ n, w' = w.drewN n :=
  cut_any _ ndB s w hs (fun _ _ => by kernel_rfl) vnotDigit_any
theorem cut_num (s : ByteArray) (w : World) (hs : s.size ≤ 9223372036854775807) :
    Calls Tryz.prog 165 #[.string (bS s), .func (.func 167) #[] #[]] w fun e w' => e = .returned (.tuple #[.string (nS s), .string (rS s)]) ∧ ∃ n, w' = w.drewN n := by
  have := cut_any 167 digB (bS s) w (Nat.le_trans (len_bS s) hs) (fun _ _ => by kernel_rfl) vdigit_any
  rw [B_bS] at this
  exact this
theorem bel_dr {N : Nat} {a w : World} (h : Below N a w) (n : Nat) : Below N a (w.drewN n) := ⟨h.os, h.tape, h.output, h.size, h.block⟩
theorem vround (x y : ByteArray) : cmpS (B x) (B y) = if orL [cwL (B (wS x)) (B (wS y)), numC (dz (B (nS x))) (dz (B (nS y)))] ≠ 0 then orL [cwL (B (wS x)) (B (wS y)), numC (dz (B (nS x))) (dz (B (nS y)))] else cmpS (B (rS x)) (B (rS y)) := by
  rw [B_wS, B_wS, B_nS, B_nS, B_rS, B_rS]
  exact cmp_round _ _
def sizeV : Value → Nat | .string s => s.size | _ => 0
theorem ne_of {s : ByteArray} (h : s.toList.isEmpty = false) : 0 < s.size := by
  rcases Nat.eq_zero_or_pos s.size with h0 | h0
  · exfalso
    have : B s = [] := List.eq_nil_of_length_eq_zero (by rw [B_len]; exact h0)
    have := (empty_iff s).2 this
    rw [h] at this; cases this
  · exact h0
theorem rS_lt {s : ByteArray} (h : 0 < s.size) : (rS s).size < s.size := by
  rw [← B_len, B_rS]
  have := restA_lt (l := B s) (fun hh => by have := B_len s; rw [hh] at this; simp at this; omega)
  rw [B_len] at this; exact this
def RelT (s t : ByteArray) (w : World) (a b : Value) (wr : World) : Prop :=
  ∃ x y : ByteArray, a = .string x ∧ b = .string y ∧ x.size ≤ s.size ∧ y.size ≤ t.size ∧ cmpS (B s) (B t) = cmpS (B x) (B y) ∧ Below w.heap.size w wr
theorem vcmp_any (s t : ByteArray) (w : World) (hs : s.size ≤ 9223372036854775807) (ht : t.size ≤ 9223372036854775807) :
    Calls Tryz.prog 127 #[.string s, .string t] w fun e w' => e = .returned (.int .i64 (cmpS (B s) (B t))) ∧ Below w.heap.size w w' := by
  go_enter Tryz.func127, Tryz.ntmps127
  go_wp2
  go_loopw [0, 1] (fun a b wr => RelT s t w a b wr) (fun a b _ => sizeV a + sizeV b)
  case atStart => exact ⟨s, t, rfl, rfl, Nat.le_refl _, Nat.le_refl _, rfl, Below.refl _ _⟩
  case round =>
    obtain ⟨x, y, rfl, rfl, hx, hy, hr, hb⟩ := hrel
    have HR := Lib.hid hr
    have HV := Lib.hid (vround x y)
    have HB := Lib.hid hb
    clear hr hb
    have dec : (x.toList.isEmpty = true ∧ y.toList.isEmpty = true) ∨ (x.toList.isEmpty = false ∨ (x.toList.isEmpty = true ∧ y.toList.isEmpty = false)) := by
      cases x.toList.isEmpty <;> cases y.toList.isEmpty <;> simp
    rcases dec with ⟨h1, h2⟩ | hne
    · have X := Lib.hid (show cmpS (B s) (B t) = 0 by rw [HR.out, (empty_iff x).1 h1, (empty_iff y).1 h2]; rfl)
      go_wp2
      go_ret
      exact ⟨by rw [X.out]; rfl, HB.out⟩
    · have hpos : (rS x).size + (rS y).size < x.size + y.size := by
        rcases hne with h | ⟨_, h⟩
        · have := rS_lt (ne_of h); have := len_rS y; omega
        · have := rS_lt (ne_of h); have := len_rS x; omega
      have lx := len_rS x
      have ly := len_rS y
      have K1 := Lib.hid (fun w => cut_word x w (by omega))
      have K2 := Lib.hid (fun w => cut_word y w (by omega))
      have K3 := Lib.hid (fun w => cut_num x w (by omega))
      have K4 := Lib.hid (fun w => cut_num y w (by omega))
      have K5 := Lib.hid (fun w => words_any (wS x) (wS y) w (by have := len_wS x; omega) (by have := len_wS y; omega))
      have K6 := Lib.hid (fun w => vnum_any (nS x) (nS y) w (by have := len_nS x; omega) (by have := len_nS y; omega))
      generalize cwL (B (wS x)) (B (wS y)) = c1 at *
      generalize numC (dz (B (nS x))) (dz (B (nS y))) = c2 at *
      rcases hne with h | ⟨h', h⟩
      all_goals
        go_wp2_with fail
        refine (K1.out _).mono ?_
        rintro e w1 ⟨rfl, n1, rfl⟩
        go_wp2_with fail
        refine (K2.out _).mono ?_
        rintro e w1 ⟨rfl, n2, rfl⟩
        go_wp2_with fail
        refine (K3.out _).mono ?_
        rintro e w1 ⟨rfl, n3, rfl⟩
        go_wp2_with fail
        refine (K4.out _).mono ?_
        rintro e w1 ⟨rfl, n4, rfl⟩
        go_wp2_with fail
        refine (K5.out _).mono ?_
        rintro e w1 ⟨rfl, hb1⟩
        go_wp2_with fail
        refine (K6.out _).mono ?_
        rintro e w2 ⟨rfl, hb2⟩
        go_wp2_with fail
        refine (or_any w2.heap.size 2 [c1, c2] _ rfl (by decide) ?_).mono ?_
        · intro k hk
          rcases (by omega : k = 0 ∨ k = 1) with rfl | rfl <;> simp [go_sem]
        rintro e w' ⟨rfl, rfl⟩
        have B1 := Lib.hid (show Below w.heap.size w w1 from (bel_dr HB.out (n1 + n2 + n3 + n4)).trans (hb1.mono (by simpa using HB.out.size)))
        have B2 := Lib.hid (show Below w.heap.size w (w2.alloc (.cells #[.int .i64 c1, .int .i64 c2] 3)) from (B1.out.trans (hb2.mono B1.out.size)).alloc (Nat.le_trans B1.out.size hb2.size) _)
        clear hb1 hb2
        by_cases hz : orL [c1, c2] = 0
        · have t1 : (orL [c1, c2] != 0) = false := by rw [bne_eq_false_iff_eq]; exact hz
          have X := Lib.hid (show cmpS (B s) (B t) = cmpS (B (rS x)) (B (rS y)) by rw [HR.out, HV.out, if_neg (by simp [hz])])
          clear hz
          go_wp2
          go_roundw
          case rel => exact ⟨_, _, rfl, rfl, by omega, by omega, X.out, B2.out⟩
          case measure => exact hpos
        · have t1 : (orL [c1, c2] != 0) = true := by rw [bne_iff_ne]; exact hz
          have X := Lib.hid (show cmpS (B s) (B t) = orL [c1, c2] by rw [HR.out, HV.out, if_pos hz])
          clear hz
          go_wp2
          go_ret
          exact ⟨by rw [X.out]; rfl, B2.out⟩
end Go.Proofs.YtmlakjemgmeffaaGreatDoor
