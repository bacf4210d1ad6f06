/- The contracts of the program's letter, digit, low, Name. -/
import Derived.Test.YtjfenheplkoajaaDoorS5a
import Derived.Test.YtjfenheplkoajaaDoorStzT
import Derived.Test.YtjfenheplkoajaaDoorS5b
import Derived.WalkLawsBesides
import Derived.WalkSpells
set_option maxRecDepth 100000
set_option linter.unusedVariables false
set_option linter.unusedSimpArgs false
namespace Go.Proofs.YtjfenheplkoajaaDoor
open Go.RowKit
theorem digit5_any (c : Nat) (w : World) : Calls Tryd.prog 33 #[.int .u8 (c : Int)] w fun e w' => e = .returned (.bool (digB c)) ∧ w = w' := by
  have X := Lib.hid (show digB c = (decide ((48 : Int) ≤ c) && decide ((c : Int) ≤ 57)) by unfold digB; rw [Bool.eq_iff_iff]; simp; omega)
  go_enter Tryd.func33, Tryd.ntmps33
  go_wp2
  all_goals
    go_ret
    refine ⟨congrArg (fun b => Ending.returned (.bool b)) ?_, rfl⟩
    rw [X.out, Bool.eq_iff_iff]
    simp
    omega
theorem letter5_any (c : Nat) (w : World) : Calls Tryd.prog 32 #[.int .u8 (c : Int)] w fun e w' => e = .returned (.bool (letB c)) ∧ w = w' := by
  have X := Lib.hid (show letB c = ((decide ((97 : Int) ≤ c) && decide ((c : Int) ≤ 122)) || (decide ((65 : Int) ≤ c) && decide ((c : Int) ≤ 90))) by unfold letB; rw [Bool.eq_iff_iff]; simp; omega)
  go_enter Tryd.func32, Tryd.ntmps32
  go_wp2
  all_goals
    go_ret
    refine ⟨congrArg (fun b => Ending.returned (.bool b)) ?_, rfl⟩
    rw [X.out, Bool.eq_iff_iff]
    simp
    omega
set_option maxHeartbeats 1000000 in
theorem low5_any (s : ByteArray) (w : World) (hs : s.size ≤ maxLen) : Calls Tryd.prog 58 #[.string s] w fun e w' => e = .returned (.bool (lowB (B s))) ∧ Below w.heap.size w w' := by
  unfold maxLen at hs
  obtain ⟨cap, w1, hcv, hb, hcells⟩ := bytes_cells w s
  have HB := Lib.hid hb
  have HC := Lib.hid hcells
  clear hb hcells
  go_enter Tryd.func58, Tryd.ntmps58
  go_wp2
  clear hcv
  go_loop [8] (fun i => ∃ k : Nat, k ≤ s.size ∧ i = .int .i64 k ∧ lowB (B s) = lowB ((B s).drop k)) (fun i => s.size - (intOf i).toNat)
  case atStart => exact ⟨0, Nat.zero_le _, rfl, rfl⟩
  case round =>
    obtain ⟨k, hk, rfl, hl⟩ := hrel
    have HL := Lib.hid hl
    clear hl
    by_cases hlt : k < s.size
    · have BD := Lib.hid (B_drop s k hlt)
      have hb := byte_le s k hlt
      have hc := HC.out k hlt
      by_cases h32 : s[k].toNat < 32
      · have hd : (s[k].toNat : Int) < 32 := by omega
        have X := Lib.hid (show lowB (B s) = true by rw [HL.out, BD.out, low_cons, decide_eq_true h32]; rfl)
        clear h32
        go_wp2
        go_ret
        exact ⟨by rw [X.out]; try rfl, HB.out⟩
      · have hd : ¬ (s[k].toNat : Int) < 32 := by omega
        have X := Lib.hid (show lowB (B s) = lowB ((B s).drop (k + 1)) by rw [HL.out, BD.out, low_cons, decide_eq_false h32]; rfl)
        clear h32
        go_wp2
        go_round
        case rel => exact ⟨k + 1, by omega, by go_num, X.out⟩
        case measure => simp [intOf]; omega
    · have X := Lib.hid (show lowB (B s) = false by rw [HL.out, B_drop_end s k (by omega)]; rfl)
      go_wp2
      go_ret
      exact ⟨by rw [X.out]; try rfl, HB.out⟩
theorem fn_is {s : ByteArray} (h0 : 0 < s.size) (h40 : s.size ≤ 40) (hl : letB s[0].toNat = true) : fnB (B s) = (B s).all nmC := by
  have h := B_drop s 0 h0
  rw [List.drop_zero] at h
  have hlen := B_len s
  rw [h] at hlen ⊢
  simp only [List.length_cons] at hlen
  rw [fnB_cons, List.all_cons, hl, decide_eq_true (by omega)]
  have : nmC s[0].toNat = true := by unfold nmC; rw [hl]; rfl
  rw [this, Bool.and_true]
theorem fn_big {s : ByteArray} (h : 40 < s.size) : fnB (B s) = false := by
  have hd := B_drop s 0 (by omega)
  rw [List.drop_zero] at hd
  have hlen := B_len s
  rw [hd] at hlen ⊢
  simp only [List.length_cons] at hlen
  rw [fnB_cons, decide_eq_false (by omega), Bool.and_false]
theorem fn_let {s : ByteArray} (h0 : 0 < s.size) (hl : letB s[0].toNat = false) : fnB (B s) = false := by
  have hd := B_drop s 0 h0
  rw [List.drop_zero] at hd
  rw [hd, fnB_cons, hl]; rfl
set_option maxHeartbeats 1000000 in
theorem name5_any (s : ByteArray) (w : World) (hs : s.size ≤ maxLen) : Calls Tryd.prog 15 #[.string s] w fun e w' => e = .returned (.bool (fnB (B s))) ∧ Below w.heap.size w w' := by
  unfold maxLen at hs
  have em := emp_eq s
  by_cases h0 : B s = []
  · rw [decide_eq_true h0] at em
    have X := Lib.hid (show fnB (B s) = false by rw [h0]; rfl)
    clear h0
    go_enter Tryd.func15, Tryd.ntmps15
    go_wp2
    go_ret
    exact ⟨by rw [X.out]; try rfl, Below.refl _ _⟩
  · rw [decide_eq_false h0] at em
    have hs0 : 0 < s.size := by
      rcases Nat.eq_zero_or_pos s.size with h | h
      · exact absurd (List.eq_nil_of_length_eq_zero (by rw [B_len]; exact h)) h0
      · exact h
    clear h0
    by_cases h40 : 40 < s.size
    · have X := Lib.hid (fn_big h40)
      have p : (40 : Int) < (s.size : Int) := by omega
      clear h40
      go_enter Tryd.func15, Tryd.ntmps15
      go_wp2
      go_ret
      exact ⟨by rw [X.out]; try rfl, Below.refl _ _⟩
    · have p : decide ((40 : Int) < (s.size : Int)) = false := by rw [decide_eq_false_iff_not]; omega
      have hb0 := byte_le s 0 hs0
      have K0 := Lib.hid (fun w => letter5_any s[0].toNat w)
      cases hl0 : letB s[0].toNat
      · rw [hl0] at K0
        have X := Lib.hid (fn_let hs0 hl0)
        clear hl0
        go_enter Tryd.func15, Tryd.ntmps15
        go_wp2_with (go_at_call 32; (with_reducible refine (K0.out _).mono ?_); rintro e w' ⟨rfl, rfl⟩)
        go_ret
        exact ⟨by rw [X.out]; try rfl, Below.refl _ _⟩
      · rw [hl0] at K0
        have FN := Lib.hid (fn_is hs0 (by omega) hl0)
        obtain ⟨cap, w1, hcv, hb, hcells⟩ := bytes_cells w s
        have HB := Lib.hid hb
        have HC := Lib.hid hcells
        have hlen : s.size ≤ 40 := by omega
        clear hb hcells hl0
        go_enter Tryd.func15, Tryd.ntmps15
        go_wp2_with (go_at_call 32; (with_reducible refine (K0.out _).mono ?_); rintro e w' ⟨rfl, rfl⟩)
        clear hcv
        go_loop [21] (fun x => ∃ k : Nat, k ≤ s.size ∧ x = .int .i64 k ∧ (B s).all nmC = ((B s).drop k).all nmC) (fun x => s.size - (intOf x).toNat)
        case atStart => exact ⟨0, Nat.zero_le _, rfl, rfl⟩
        case round =>
          obtain ⟨k, hk, rfl, hno⟩ := hrel
          have HN := Lib.hid hno
          clear hno
          by_cases hlt : k < s.size
          · have BD := Lib.hid (B_drop s k hlt)
            have hb := byte_le s k hlt
            have hc := HC.out k hlt
            have KL := Lib.hid (fun w => letter5_any s[k].toNat w)
            have KD := Lib.hid (fun w => digit5_any s[k].toNat w)
            have NX := Lib.hid (show nmC s[k].toNat = true → (B s).all nmC = ((B s).drop (k + 1)).all nmC from fun h => by rw [HN.out, BD.out, List.all_cons, h, Bool.true_and])
            have NN := Lib.hid (show nmC s[k].toNat = false → fnB (B s) = false from fun h => by rw [FN.out, HN.out, BD.out, List.all_cons, h, Bool.false_and])
            have NC := Lib.hid (show nmC s[k].toNat = (letB s[k].toNat || digB s[k].toNat || decide (s[k].toNat = 45)) from rfl)
            cases hl : letB s[k].toNat
            · rw [hl] at KL NC
              clear hl
              cases hd : digB s[k].toNat
              · rw [hd] at KD NC
                clear hd
                by_cases h45 : s[k].toNat = 45
                · have p1 : ((s[k].toNat : Int) != 45) = false := by rw [h45]; rfl
                  have Y := Lib.hid (NX.out (by rw [NC.out, decide_eq_true h45]; rfl))
                  clear h45
                  go_wp2_with (first | (go_at_call 32; (with_reducible refine (KL.out _).mono ?_); rintro e w' ⟨rfl, rfl⟩) | (go_at_call 33; (with_reducible refine (KD.out _).mono ?_); rintro e w' ⟨rfl, rfl⟩))
                  go_round
                  case rel => exact ⟨k + 1, by omega, by go_num, Y.out⟩
                  case measure => simp [intOf]; omega
                · have p1 : ((s[k].toNat : Int) != 45) = true := by rw [bne_iff_ne]; omega
                  have X := Lib.hid (NN.out (by rw [NC.out, decide_eq_false h45]; rfl))
                  clear h45
                  go_wp2_with (first | (go_at_call 32; (with_reducible refine (KL.out _).mono ?_); rintro e w' ⟨rfl, rfl⟩) | (go_at_call 33; (with_reducible refine (KD.out _).mono ?_); rintro e w' ⟨rfl, rfl⟩))
                  go_ret
                  exact ⟨by rw [X.out]; try rfl, HB.out⟩
              · rw [hd] at KD NC
                clear hd
                have Y := Lib.hid (NX.out (by rw [NC.out]; rfl))
                go_wp2_with (first | (go_at_call 32; (with_reducible refine (KL.out _).mono ?_); rintro e w' ⟨rfl, rfl⟩) | (go_at_call 33; (with_reducible refine (KD.out _).mono ?_); rintro e w' ⟨rfl, rfl⟩))
                go_round
                case rel => exact ⟨k + 1, by omega, by go_num, Y.out⟩
                case measure => simp [intOf]; omega
            · rw [hl] at KL NC
              clear hl
              have Y := Lib.hid (NX.out (by rw [NC.out]; rfl))
              go_wp2_with (go_at_call 32; (with_reducible refine (KL.out _).mono ?_); rintro e w' ⟨rfl, rfl⟩)
              go_round
              case rel => exact ⟨k + 1, by omega, by go_num, Y.out⟩
              case measure => simp [intOf]; omega
          · have X := Lib.hid (show fnB (B s) = true by rw [FN.out, HN.out, B_drop_end s k (by omega)]; rfl)
            go_wp2
            go_ret
            exact ⟨by rw [X.out]; try rfl, HB.out⟩
end Go.Proofs.YtjfenheplkoajaaDoor
