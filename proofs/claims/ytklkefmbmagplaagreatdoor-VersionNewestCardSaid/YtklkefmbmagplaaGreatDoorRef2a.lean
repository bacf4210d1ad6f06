/- The contracts of the document's own small functions on bytes: digits, letters, signs, weights; memory is as it was. -/
import Derived.Test.YtklkefmbmagplaaGreatDoorChecked
import Derived.Test.YtklkefmbmagplaaGreatDoorStr
import Derived.WalkKit
import Derived.WalkLawsBesides
import Derived.WalkSpells
namespace Go.Proofs.YtklkefmbmagplaaGreatDoor
open Go.RowKit
theorem Digit_any (c : Nat) (w : World) : Calls Tryz.prog 56 #[.int .u8 (c : Int)] w fun e w' => e = .returned (.bool (digB c)) ∧ w = w' := by
  have X := Lib.hid (show digB c = (decide ((48 : Int) ≤ c) && decide ((c : Int) ≤ 57)) by unfold digB; rw [Bool.eq_iff_iff]; simp; omega)
  by_cases h : (48 : Int) ≤ c
  · go_enter Tryz.func56, Tryz.ntmps56
    go_wp2
    go_ret
    refine ⟨?_, rfl⟩
    rw [X.out]; simp [h]
  · have h2 : (c : Int) < 48 := by omega
    go_enter Tryz.func56, Tryz.ntmps56
    go_wp2
    go_ret
    refine ⟨?_, rfl⟩
    rw [X.out]; simp; omega
theorem Letter_any (c : Nat) (w : World) : Calls Tryz.prog 59 #[.int .u8 (c : Int)] w fun e w' => e = .returned (.bool (letB c)) ∧ w = w' := by
  have X := Lib.hid (show letB c = ((decide ((97 : Int) ≤ c) && decide ((c : Int) ≤ 122)) || (decide ((65 : Int) ≤ c) && decide ((c : Int) ≤ 90))) by unfold letB; rw [Bool.eq_iff_iff]; simp; omega)
  go_enter Tryz.func59, Tryz.ntmps59
  go_wp2
  all_goals
    go_ret
    refine ⟨congrArg (fun b => Ending.returned (.bool b)) ?_, rfl⟩
    rw [X.out, Bool.eq_iff_iff]
    simp
    omega
theorem sign_any (n : Int) (w : World) : Calls Tryz.prog 60 #[.int .i64 n] w fun e w' => e = .returned (.int .i64 (sgn n)) ∧ w = w' := by
  have X := Lib.hid (show (n < 0 → sgn n = -1) ∧ (0 < n → sgn n = 1) ∧ (¬ n < 0 → ¬ 0 < n → sgn n = 0) by unfold sgn; refine ⟨fun h => if_pos h, fun h => by rw [if_neg (by omega), if_pos h], fun h h2 => by rw [if_neg h, if_neg h2]⟩)
  rcases Int.lt_trichotomy n 0 with h | h | h
  · go_enter Tryz.func60, Tryz.ntmps60
    go_wp2
    go_ret
    exact ⟨by rw [X.out.1 h]; rfl, rfl⟩
  · have h1 : n ≤ 0 := by omega
    have h2 : 0 ≤ n := by omega
    clear h
    go_enter Tryz.func60, Tryz.ntmps60
    go_wp2
    go_ret
    exact ⟨by rw [X.out.2.2 (by omega) (by omega)]; rfl, rfl⟩
  · go_enter Tryz.func60, Tryz.ntmps60
    go_wp2
    go_ret
    exact ⟨by rw [X.out.2.1 h]; rfl, rfl⟩

def hasB (l : List Nat) (c : Nat) : Bool := l.contains c
theorem hasB_take {l : List Nat} {c k : Nat} (h : ∀ j, j < k → l.getD j 256 ≠ c) (hk : l.length ≤ k) : hasB l c = false := by
  unfold hasB
  rw [Bool.eq_false_iff]
  intro hc
  obtain ⟨j, hj, e⟩ := List.getElem_of_mem (List.contains_iff_mem.1 hc)
  exact h j (by omega) (by rw [List.getD_eq_getElem?_getD, List.getElem?_eq_getElem hj]; exact e)
theorem has_any (s : ByteArray) (c : Nat) (w : World) (hs : s.size ≤ 9223372036854775807) : Calls Tryz.prog 58 #[.string s, .int .u8 (c : Int)] w fun e w' => e = .returned (.bool (hasB (B s) c)) ∧ w = w' := by
  go_enter Tryz.func58, Tryz.ntmps58
  go_wp2
  go_loop [5] (fun i => ∃ k : Nat, k ≤ s.size ∧ i = .int .i64 k ∧ ∀ j, j < k → (B s).getD j 256 ≠ c) (fun i => s.size - (intOf i).toNat)
  case atStart => exact ⟨0, Nat.zero_le _, rfl, fun j hj => by omega⟩
  case round =>
    obtain ⟨k, hk, rfl, hno⟩ := hrel
    have HN := Lib.hid hno
    clear hno
    by_cases hlt : k < s.size
    · have hb := B_at s k hlt
      have HB := Lib.hid hb
      clear hb
      by_cases hc : s[k].toNat = c
      · have h1 : ((s[k].toNat : Int) == (c : Int)) = true := by rw [beq_iff_eq]; omega
        have HC := Lib.hid hc
        clear hc
        go_wp2
        go_ret
        refine ⟨congrArg (fun b => Ending.returned (.bool b)) ?_, rfl⟩
        unfold hasB
        rw [eq_comm, List.contains_iff_mem]
        exact List.mem_of_getElem? (HC.out ▸ HB.out)
      · have h1 : ((s[k].toNat : Int) == (c : Int)) = false := by rw [beq_eq_false_iff_ne]; omega
        have HC := Lib.hid hc
        clear hc
        go_wp2
        go_round
        case rel => exact ⟨k + 1, by omega, by go_num, fun j hj => by rcases (by omega : j < k ∨ j = k) with h | rfl; exact HN.out j h; rw [List.getD_eq_getElem?_getD, HB.out]; exact HC.out⟩
        case measure => simp [intOf]; omega
    · go_wp2
      go_ret
      exact ⟨by rw [hasB_take HN.out (by rw [B_len]; omega)]; rfl, rfl⟩

theorem weight_any (s : ByteArray) (k : Nat) (w : World) : Calls Tryz.prog 61 #[.string s, .int .i64 (k : Int)] w fun e w' => e = .returned (.int .i64 (wt ((B s).drop k))) ∧ w = w' := by
  by_cases hk : k < s.size
  · have hl := byte_le s k hk
    have hd := Lib.hid (B_drop s k hk)
    have t0 : decide (s.size ≤ k) = false := by simp; omega
    cases h1 : digB s[k].toNat
    · have W := Lib.hid (show wt ((B s).drop k) = if s[k].toNat = 126 then -1 else if letB s[k].toNat then (s[k].toNat : Int) else 1000 + s[k].toNat by rw [hd.out]; simp [wt, h1])
      by_cases h2 : s[k].toNat = 126
      · have t2 : ((s[k].toNat : Int) == 126) = true := by rw [beq_iff_eq]; omega
        have H2 := Lib.hid h2
        clear h2
        go_enter Tryz.func61, Tryz.ntmps61
        go_wp2_with (go_at_call 56; refine (Digit_any _ _).mono ?_; rw [h1]; rintro e w' ⟨rfl, rfl⟩)
        go_ret
        exact ⟨by rw [W.out, if_pos H2.out]; rfl, rfl⟩
      · have t2 : ((s[k].toNat : Int) == 126) = false := by rw [beq_eq_false_iff_ne]; omega
        have H2 := Lib.hid h2
        clear h2
        cases h3 : letB s[k].toNat
        · go_enter Tryz.func61, Tryz.ntmps61
          go_wp2_with (first | (go_at_call 56; refine (Digit_any _ _).mono ?_; rw [h1]; rintro e w' ⟨rfl, rfl⟩) | (go_at_call 59; refine (Letter_any _ _).mono ?_; rw [h3]; rintro e w' ⟨rfl, rfl⟩))
          go_ret
          exact ⟨by rw [W.out, if_neg H2.out, h3]; rfl, rfl⟩
        · go_enter Tryz.func61, Tryz.ntmps61
          go_wp2_with (first | (go_at_call 56; refine (Digit_any _ _).mono ?_; rw [h1]; rintro e w' ⟨rfl, rfl⟩) | (go_at_call 59; refine (Letter_any _ _).mono ?_; rw [h3]; rintro e w' ⟨rfl, rfl⟩))
          go_ret
          exact ⟨by rw [W.out, if_neg H2.out, h3]; rfl, rfl⟩
    · have W := Lib.hid (show wt ((B s).drop k) = 0 by rw [hd.out]; simp [wt, h1])
      go_enter Tryz.func61, Tryz.ntmps61
      go_wp2_with (go_at_call 56; refine (Digit_any _ _).mono ?_; rw [h1]; rintro e w' ⟨rfl, rfl⟩)
      go_ret
      exact ⟨by rw [W.out]; rfl, rfl⟩
  · have W := Lib.hid (show wt ((B s).drop k) = 0 by rw [B_drop_end s k (by omega)]; rfl)
    have t0 : decide (s.size ≤ k) = true := by simp; omega
    go_enter Tryz.func61, Tryz.ntmps61
    go_wp2
    go_ret
    exact ⟨by rw [W.out]; rfl, rfl⟩
end Go.Proofs.YtklkefmbmagplaaGreatDoor
