/- The contracts of the program's own small functions on bytes, and of a text parted behind its first bytes that are so. -/
import Derived.Test.YtmlakjemgmeffaaGreatDoorNA
import Derived.StillTailTactics
import Derived.BigQuiet
import Derived.Deep.QuietTactic
set_option maxRecDepth 100000
namespace Go.Proofs.YtmlakjemgmeffaaGreatDoor
open Go.RowKit
theorem vdigit_any (c : Nat) (w : World) : Calls Tryz.prog 167 #[.int .u8 (c : Int)] w fun e w' => e = .returned (.bool (digB c)) ∧ w = w' := by
  have X := Lib.hid (show digB c = (decide ((48 : Int) ≤ c) && decide ((c : Int) ≤ 57)) by unfold digB; rw [Bool.eq_iff_iff]; simp; omega)
  by_cases h : (48 : Int) ≤ c
  · go_enter Tryz.func167, Tryz.ntmps167
    go_wp2
    go_ret
    refine ⟨?_, rfl⟩
    rw [X.out]; simp [h]
  · have h2 : (c : Int) < 48 := by omega
    go_enter Tryz.func167, Tryz.ntmps167
    go_wp2
    go_ret
    refine ⟨?_, rfl⟩
    rw [X.out]; simp; omega
theorem vnotDigit_any (c : Nat) (w : World) : Calls Tryz.prog 166 #[.int .u8 (c : Int)] w fun e w' => e = .returned (.bool (!digB c)) ∧ w = w' := by
  cases h : digB c
  all_goals
    go_enter Tryz.func166, Tryz.ntmps166
    go_wp2_with (go_at_call 167; refine (vdigit_any _ _).mono ?_; rw [h]; rintro e w' ⟨rfl, rfl⟩)
    go_ret
    exact ⟨rfl, rfl⟩
theorem vletter_any (c : Nat) (w : World) : Calls Tryz.prog 175 #[.int .u8 (c : Int)] w fun e w' => e = .returned (.bool (letB c)) ∧ w = w' := by
  have X := Lib.hid (show letB c = ((decide ((65 : Int) ≤ c) && decide ((c : Int) ≤ 90)) || (decide ((97 : Int) ≤ c) && decide ((c : Int) ≤ 122))) by unfold letB; rw [Bool.eq_iff_iff]; simp; omega)
  go_enter Tryz.func175, Tryz.ntmps175
  go_wp2
  all_goals
    go_ret
    refine ⟨congrArg (fun b => Ending.returned (.bool b)) ?_, rfl⟩
    rw [X.out, Bool.eq_iff_iff]
    simp
    omega
theorem rX_is (c : Nat) : hasB rX c = (decide (c = 46) || decide (c = 43) || decide (c = 126)) := by
  unfold hasB rX
  rw [Bool.eq_iff_iff]
  simp
  omega
theorem uX_is (c : Nat) : chB uX c = (chB rX c || decide (c = 45) || decide (c = 58)) := by
  unfold chB hasB uX rX
  cases letB c <;> cases digB c <;> rw [Bool.eq_iff_iff] <;> simp
  omega
theorem vrev_any (c : Nat) (w : World) : Calls Tryz.prog 134 #[.int .u8 (c : Int)] w fun e w' => e = .returned (.bool (chB rX c)) ∧ w = w' := by
  have X := Lib.hid (show chB rX c = (letB c || digB c || decide (c = 46) || decide (c = 43) || decide (c = 126)) by unfold chB; rw [rX_is, ← Bool.or_assoc, ← Bool.or_assoc])
  have p1 : ((c : Int) == 46) = decide (c = 46) := by rw [Bool.eq_iff_iff]; simp; omega
  have p2 : ((c : Int) == 43) = decide (c = 43) := by rw [Bool.eq_iff_iff]; simp; omega
  have p3 : ((c : Int) == 126) = decide (c = 126) := by rw [Bool.eq_iff_iff]; simp; omega
  cases h1 : letB c <;> cases h2 : digB c <;> rw [h1, h2] at X <;> cases h3 : decide (c = 46) <;> rw [h3] at X p1 <;> cases h4 : decide (c = 43) <;> rw [h4] at X p2 <;> cases h5 : decide (c = 126) <;> rw [h5] at X p3
  all_goals
    clear h3 h4 h5
    go_enter Tryz.func134, Tryz.ntmps134
    go_wp2_with (first | (go_at_call 175; refine (vletter_any _ _).mono ?_; rw [h1]; rintro e w' ⟨rfl, rfl⟩) | (go_at_call 167; refine (vdigit_any _ _).mono ?_; rw [h2]; rintro e w' ⟨rfl, rfl⟩))
    go_ret
    exact ⟨by rw [X.out]; rfl, rfl⟩
theorem vup_any (c : Nat) (w : World) : Calls Tryz.prog 173 #[.int .u8 (c : Int)] w fun e w' => e = .returned (.bool (chB uX c)) ∧ w = w' := by
  have X := Lib.hid (uX_is c)
  have p1 : ((c : Int) == 45) = decide (c = 45) := by rw [Bool.eq_iff_iff]; simp; omega
  have p2 : ((c : Int) == 58) = decide (c = 58) := by rw [Bool.eq_iff_iff]; simp; omega
  cases h1 : chB rX c <;> rw [h1] at X <;> cases h3 : decide (c = 45) <;> rw [h3] at X p1 <;> cases h4 : decide (c = 58) <;> rw [h4] at X p2
  all_goals
    clear h3 h4
    go_enter Tryz.func173, Tryz.ntmps173
    go_wp2_with (go_at_call 134; refine (vrev_any _ _).mono ?_; rw [h1]; rintro e w' ⟨rfl, rfl⟩)
    go_ret
    exact ⟨by rw [X.out]; rfl, rfl⟩
theorem ext_take {s : ByteArray} {k : Nat} : s.extract 0 k = mk ((B s).take k) := by
  apply eq_mk; rw [B_extract]; simp
theorem ext_drop {s : ByteArray} {k : Nat} : s.extract k s.size = mk ((B s).drop k) := by
  apply eq_mk; rw [B_extract]
  rw [List.take_of_length_le (by rw [List.length_drop, B_len]; omega)]
theorem cut_any (f : Nat) (p : Nat → Bool) (s : ByteArray) (w : World) (hs : s.size ≤ 9223372036854775807)
    (hk : ∀ (args : Array Value) (w : World), (callFunc f args).run Tryz.prog w = .ok (.enter f args) w)
    (hf : ∀ (c : Nat) (w : World), Calls Tryz.prog f #[.int .u8 (c : Int)] w fun e w' => e = .returned (.bool (p c)) ∧ w = w') :
    Calls Tryz.prog 165 #[.string s, .func (.func f) #[] #[]] w fun e w' => e = .returned (.tuple #[.string (mk ((B s).takeWhile p)), .string (mk ((B s).dropWhile p))]) ∧ ∃ n, w' = w.drewN n := by
  have HF := Lib.hid hf
  clear hf
  go_enter Tryz.func165, Tryz.ntmps165
  go_wp2
  go_loop [6] (fun i => ∃ k : Nat, k ≤ s.size ∧ i = .int .i64 k ∧ ∀ j, j < k → p ((B s).getD j 0) = true) (fun i => s.size - (intOf i).toNat)
  case atStart => exact ⟨0, Nat.zero_le _, rfl, fun j hj => by omega⟩
  case round =>
    obtain ⟨k, hk', rfl, hno⟩ := hrel
    have HN := Lib.hid hno
    clear hno
    by_cases hlt : k < s.size
    · have HB := Lib.hid (B_getD s k hlt)
      cases hc : p s[k].toNat
      · have HT := Lib.hid (takeWhile_is (p := p) (l := B s) (n := k) (by rw [B_len]; omega) HN.out (.inr (by rw [HB.out]; exact hc)))
        have HD := Lib.hid (dropWhile_is (p := p) (l := B s) (n := k) (by rw [B_len]; omega) HN.out (.inr (by rw [HB.out]; exact hc)))
        have HC := Lib.hid hc
        clear hc
        go_wp2_with fail
        refine (HF.out _ _).mono ?_
        rw [HC.out]
        rintro e w' ⟨rfl, rfl⟩
        go_wp2
        go_quiet (fail)
        go_wp2
        go_ret2
        exact ⟨by rw [HT.out, HD.out, ← ext_take, ← ext_drop]; rfl, _, rfl⟩
      · have HC := Lib.hid hc
        clear hc
        go_wp2_with fail
        refine (HF.out _ _).mono ?_
        rw [HC.out]
        rintro e w' ⟨rfl, rfl⟩
        go_wp2
        go_round
        case rel => exact ⟨k + 1, by omega, by go_num, fun j hj => by rcases (by omega : j < k ∨ j = k) with h | rfl; exact HN.out j h; rw [HB.out]; exact HC.out⟩
        case measure => simp [intOf]; omega
    · have HT := Lib.hid (takeWhile_is (p := p) (l := B s) (n := k) (by rw [B_len]; omega) HN.out (.inl (by rw [B_len]; omega)))
      have HD := Lib.hid (dropWhile_is (p := p) (l := B s) (n := k) (by rw [B_len]; omega) HN.out (.inl (by rw [B_len]; omega)))
      go_wp2
      go_quiet (fail)
      go_wp2
      go_ret2
      exact ⟨by rw [HT.out, HD.out, ← ext_take, ← ext_drop]; rfl, _, rfl⟩
theorem all_drop (p : Nat → Bool) : ∀ l : List Nat, l.all p = true ↔ l.dropWhile p = []
  | [] => by simp
  | c :: l => by
    cases h : p c
    · simp [h]
    · simp only [List.all_cons, h, Bool.true_and, List.dropWhile_cons, if_true]
      exact all_drop p l
theorem mk_empty (l : List Nat) : (mk l).toList.isEmpty = l.isEmpty := by
  rw [toList_data]
  cases l <;> simp [mk]
theorem each_any (f : Nat) (p : Nat → Bool) (s : ByteArray) (w : World) (hs : s.size ≤ 9223372036854775807)
    (hk : ∀ (args : Array Value) (w : World), (callFunc f args).run Tryz.prog w = .ok (.enter f args) w)
    (hf : ∀ (c : Nat) (w : World), Calls Tryz.prog f #[.int .u8 (c : Int)] w fun e w' => e = .returned (.bool (p c)) ∧ w = w') :
    Calls Tryz.prog 133 #[.string s, .func (.func f) #[] #[]] w fun e w' => e = .returned (.bool ((B s).all p)) ∧ ∃ n, w' = w.drewN n := by
  have X := Lib.hid (show ((mk ((B s).dropWhile p)).toList.isEmpty) = (B s).all p by
    rw [mk_empty, Bool.eq_iff_iff, all_drop, List.isEmpty_iff])
  have C := Lib.hid (fun w => cut_any f p s w hs hk hf)
  clear hf hk
  go_enter Tryz.func133, Tryz.ntmps133
  go_wp2_with (go_at_call 165; (with_reducible refine (C.out _).mono ?_); rintro e w' ⟨rfl, n, rfl⟩)
  go_ret
  refine ⟨?_, n, rfl⟩
  rw [← X.out]
  rfl
end Go.Proofs.YtmlakjemgmeffaaGreatDoor
