/- What the laws of this seat rest on: RelRef. -/
import Derived.Test.YtmlakjemgmeffaaGreatDoorRel6Y
import Derived.Test.YtmlakjemgmeffaaGreatDoorNA

section
set_option maxRecDepth 100000
set_option linter.unusedVariables false
set_option linter.unusedSimpArgs false
namespace Go.Proofs.YtmlakjemgmeffaaGreatDoor
open Go.RowKit
def okAt (l : List Nat) (j : Nat) : Bool := plnB (l.getD j 0) || (decide (0 < j) && nmcB (l.getD j 0))
theorem okAt_no {s : ByteArray} {k : Nat} (hk : k < s.size) (h : okAt (B s) k = false) : nameB (B s) = false := by
  unfold okAt at h
  rw [B_getD s k hk] at h
  rw [Bool.or_eq_false_iff] at h
  rcases Nat.eq_zero_or_pos k with rfl | h0
  · unfold nameB
    rw [B_getD s 0 hk, h.1, Bool.and_false, Bool.false_and]
  · have h2 := h.2
    rw [decide_eq_true h0, Bool.true_and] at h2
    unfold nameB
    rw [nm_not hk h2, Bool.and_false]
theorem okAt_yes {s : ByteArray} (h : ∀ j, j < s.size → okAt (B s) j = true) : nameB (B s) = (decide (2 ≤ s.size) && decide (s.size ≤ 40)) := by
  unfold nameB
  rw [B_len]
  by_cases h2 : 2 ≤ s.size
  · have h0 := h 0 (by omega)
    unfold okAt at h0
    rw [decide_eq_false (Nat.lt_irrefl 0), Bool.false_and, Bool.or_false] at h0
    have ha : (B s).all nmcB = true := nm_yes fun j hj => by
      have := h j hj
      unfold okAt at this
      rw [Bool.or_eq_true] at this
      rcases this with h1 | h1
      · unfold nmcB; rw [h1]; rfl
      · rw [Bool.and_eq_true] at h1; exact h1.2
    rw [h0, ha, Bool.and_true, Bool.and_true]
  · rw [decide_eq_false h2, Bool.false_and, Bool.false_and]; rfl
theorem q3name_any (s : ByteArray) (w : World) (hs : s.size ≤ 65536) : Calls Tryz.prog 32 #[.string s] w fun e w' => e = .returned (.bool (nameB (B s))) ∧ w = w' := by
  go_enter Tryz.func32, Tryz.ntmps32
  go_wp2
  go_loop [3] (fun x => ∃ k : Nat, k ≤ s.size ∧ x = .int .i64 k ∧ ∀ j, j < k → okAt (B s) j = true) (fun x => s.size - (intOf x).toNat)
  case atStart => exact ⟨0, Nat.zero_le _, rfl, fun j hj => by omega⟩
  case round =>
    obtain ⟨k, hk, rfl, hno⟩ := hrel
    have HN := Lib.hid hno
    clear hno
    by_cases hlt : k < s.size
    · have XN := Lib.hid (okAt_no hlt)
      rcases Nat.eq_zero_or_pos k with rfl | hk0
      · have OK := Lib.hid (show okAt (B s) 0 = (plnB s[0].toNat || (decide (0 < 0) && nmcB s[0].toNat)) by unfold okAt; rw [B_getD s 0 hlt])
        have KD := Lib.hid (fun w => Digit_any s[0].toNat w)
        by_cases a1 : 97 ≤ s[0].toNat
        · by_cases a2 : s[0].toNat ≤ 122
          · have i1 : (97 : Int) ≤ (s[0].toNat : Int) := by omega
            have i2 : (s[0].toNat : Int) ≤ 122 := by omega
            have p1 : ((s[0].toNat : Int) == 43) = false := by rw [beq_eq_false_iff_ne]; omega
            have p2 : ((s[0].toNat : Int) == 45) = false := by rw [beq_eq_false_iff_ne]; omega
            have p3 : ((s[0].toNat : Int) == 46) = false := by rw [beq_eq_false_iff_ne]; omega
            have YES := Lib.hid (show okAt (B s) 0 = true by rw [OK.out]; unfold plnB; rw [decide_eq_true (show 97 ≤ s[0].toNat ∧ s[0].toNat ≤ 122 from ⟨a1, a2⟩)]; rfl)
            clear a1 a2
            go_wp2_with fail
            go_round
            case rel => exact ⟨1, by omega, by go_num, fun j hj => by rcases (by omega : j < 0 ∨ j = 0) with h | rfl; exact HN.out j h; exact YES.out⟩
            case measure => simp [intOf]; omega
          · have i1 : (97 : Int) ≤ (s[0].toNat : Int) := by omega
            have i2 : (122 : Int) < (s[0].toNat : Int) := by omega
            have i3 : decide ((s[0].toNat : Int) ≤ 122) = false := by rw [decide_eq_false_iff_not]; omega
            have p1 : ((s[0].toNat : Int) == 43) = false := by rw [beq_eq_false_iff_ne]; omega
            have p2 : ((s[0].toNat : Int) == 45) = false := by rw [beq_eq_false_iff_ne]; omega
            have p3 : ((s[0].toNat : Int) == 46) = false := by rw [beq_eq_false_iff_ne]; omega
            have hd : digB s[0].toNat = false := by unfold digB; rw [decide_eq_false (by omega)]
            rw [hd] at KD
            have NOT := Lib.hid (XN.out (show okAt (B s) 0 = false by rw [OK.out]; unfold nmcB plnB; rw [hd, decide_eq_false (show ¬ (97 ≤ s[0].toNat ∧ s[0].toNat ≤ 122) by omega), decide_eq_false (show ¬ s[0].toNat = 43 by omega), decide_eq_false (show ¬ s[0].toNat = 45 by omega), decide_eq_false (show ¬ s[0].toNat = 46 by omega)]; simp))
            clear a1 a2 hd
            go_wp2_with (go_at_call 68; (with_reducible refine (KD.out _).mono ?_); rintro e w' ⟨rfl, rfl⟩)
            go_ret
            exact ⟨by rw [NOT.out]; rfl, rfl⟩
        · have i1 : (s[0].toNat : Int) < 97 := by omega
          cases hd : digB s[0].toNat
          · rw [hd] at KD
            have NOT := Lib.hid (XN.out (show okAt (B s) 0 = false by rw [OK.out]; unfold plnB; rw [hd, decide_eq_false (show ¬ (97 ≤ s[0].toNat ∧ s[0].toNat ≤ 122) by omega), decide_eq_false (show ¬ 0 < 0 by omega)]; rfl))
            clear a1 hd
            go_wp2_with (go_at_call 68; (with_reducible refine (KD.out _).mono ?_); rintro e w' ⟨rfl, rfl⟩)
            go_ret
            exact ⟨by rw [NOT.out]; rfl, rfl⟩
          · have hd2 : 48 ≤ s[0].toNat := by have := digB_iff.1 hd; omega
            rw [hd] at KD
            have p1 : ((s[0].toNat : Int) == 43) = false := by rw [beq_eq_false_iff_ne]; omega
            have p2 : ((s[0].toNat : Int) == 45) = false := by rw [beq_eq_false_iff_ne]; omega
            have p3 : ((s[0].toNat : Int) == 46) = false := by rw [beq_eq_false_iff_ne]; omega
            have YES := Lib.hid (show okAt (B s) 0 = true by rw [OK.out]; unfold plnB; rw [hd]; simp)
            clear a1 hd hd2
            go_wp2_with (go_at_call 68; (with_reducible refine (KD.out _).mono ?_); rintro e w' ⟨rfl, rfl⟩)
            go_round
            case rel => exact ⟨1, by omega, by go_num, fun j hj => by rcases (by omega : j < 0 ∨ j = 0) with h | rfl; exact HN.out j h; exact YES.out⟩
            case measure => simp [intOf]; omega
      · have OK := Lib.hid (show okAt (B s) k = (plnB s[k].toNat || (decide (0 < k) && nmcB s[k].toNat)) by unfold okAt; rw [B_getD s k hlt])
        have KD := Lib.hid (fun w => Digit_any s[k].toNat w)
        by_cases a1 : 97 ≤ s[k].toNat
        · by_cases a2 : s[k].toNat ≤ 122
          · have i1 : (97 : Int) ≤ (s[k].toNat : Int) := by omega
            have i2 : (s[k].toNat : Int) ≤ 122 := by omega
            have hk0 : (0 : Int) < (k : Int) := by omega
            have p1 : ((s[k].toNat : Int) == 43) = false := by rw [beq_eq_false_iff_ne]; omega
            have p2 : ((s[k].toNat : Int) == 45) = false := by rw [beq_eq_false_iff_ne]; omega
            have p3 : ((s[k].toNat : Int) == 46) = false := by rw [beq_eq_false_iff_ne]; omega
            have YES := Lib.hid (show okAt (B s) k = true by rw [OK.out]; unfold plnB; rw [decide_eq_true (show 97 ≤ s[k].toNat ∧ s[k].toNat ≤ 122 from ⟨a1, a2⟩)]; rfl)
            clear a1 a2
            go_wp2_with fail
            go_round
            case rel => exact ⟨k + 1, by omega, by go_num, fun j hj => by rcases (by omega : j < k ∨ j = k) with h | rfl; exact HN.out j h; exact YES.out⟩
            case measure => simp [intOf]; omega
          · have i1 : (97 : Int) ≤ (s[k].toNat : Int) := by omega
            have i2 : (122 : Int) < (s[k].toNat : Int) := by omega
            have i3 : decide ((s[k].toNat : Int) ≤ 122) = false := by rw [decide_eq_false_iff_not]; omega
            have hk0 : (0 : Int) < (k : Int) := by omega
            have p1 : ((s[k].toNat : Int) == 43) = false := by rw [beq_eq_false_iff_ne]; omega
            have p2 : ((s[k].toNat : Int) == 45) = false := by rw [beq_eq_false_iff_ne]; omega
            have p3 : ((s[k].toNat : Int) == 46) = false := by rw [beq_eq_false_iff_ne]; omega
            have hd : digB s[k].toNat = false := by unfold digB; rw [decide_eq_false (by omega)]
            rw [hd] at KD
            have NOT := Lib.hid (XN.out (show okAt (B s) k = false by rw [OK.out]; unfold nmcB plnB; rw [hd, decide_eq_false (show ¬ (97 ≤ s[k].toNat ∧ s[k].toNat ≤ 122) by omega), decide_eq_false (show ¬ s[k].toNat = 43 by omega), decide_eq_false (show ¬ s[k].toNat = 45 by omega), decide_eq_false (show ¬ s[k].toNat = 46 by omega)]; simp))
            clear a1 a2 hd
            go_wp2_with (go_at_call 68; (with_reducible refine (KD.out _).mono ?_); rintro e w' ⟨rfl, rfl⟩)
            go_ret
            exact ⟨by rw [NOT.out]; rfl, rfl⟩
        · have i1 : (s[k].toNat : Int) < 97 := by omega
          cases hd : digB s[k].toNat
          · rw [hd] at KD
            have hk0 : (0 : Int) < (k : Int) := by omega
            by_cases h43 : s[k].toNat = 43
            · have p1 : ((s[k].toNat : Int) == 43) = true := by rw [beq_iff_eq]; omega
              have YES := Lib.hid (show okAt (B s) k = true by rw [OK.out]; unfold nmcB; rw [decide_eq_true (show 0 < k by omega), decide_eq_true h43]; simp)
              clear a1 hd h43
              go_wp2_with (go_at_call 68; (with_reducible refine (KD.out _).mono ?_); rintro e w' ⟨rfl, rfl⟩)
              go_round
              case rel => exact ⟨k + 1, by omega, by go_num, fun j hj => by rcases (by omega : j < k ∨ j = k) with h | rfl; exact HN.out j h; exact YES.out⟩
              case measure => simp [intOf]; omega
            by_cases h45 : s[k].toNat = 45
            · have p1 : ((s[k].toNat : Int) == 43) = false := by rw [beq_eq_false_iff_ne]; omega
              have p2 : ((s[k].toNat : Int) == 45) = true := by rw [beq_iff_eq]; omega
              have YES := Lib.hid (show okAt (B s) k = true by rw [OK.out]; unfold nmcB; rw [decide_eq_true (show 0 < k by omega), decide_eq_false h43, decide_eq_true h45]; simp)
              clear a1 hd h43 h45
              go_wp2_with (go_at_call 68; (with_reducible refine (KD.out _).mono ?_); rintro e w' ⟨rfl, rfl⟩)
              go_round
              case rel => exact ⟨k + 1, by omega, by go_num, fun j hj => by rcases (by omega : j < k ∨ j = k) with h | rfl; exact HN.out j h; exact YES.out⟩
              case measure => simp [intOf]; omega
            by_cases h46 : s[k].toNat = 46
            · have p1 : ((s[k].toNat : Int) == 43) = false := by rw [beq_eq_false_iff_ne]; omega
              have p2 : ((s[k].toNat : Int) == 45) = false := by rw [beq_eq_false_iff_ne]; omega
              have p3 : ((s[k].toNat : Int) == 46) = true := by rw [beq_iff_eq]; omega
              have YES := Lib.hid (show okAt (B s) k = true by rw [OK.out]; unfold nmcB; rw [decide_eq_true (show 0 < k by omega), decide_eq_false h43, decide_eq_false h45, decide_eq_true h46]; simp)
              clear a1 hd h43 h45 h46
              go_wp2_with (go_at_call 68; (with_reducible refine (KD.out _).mono ?_); rintro e w' ⟨rfl, rfl⟩)
              go_round
              case rel => exact ⟨k + 1, by omega, by go_num, fun j hj => by rcases (by omega : j < k ∨ j = k) with h | rfl; exact HN.out j h; exact YES.out⟩
              case measure => simp [intOf]; omega
            have p1 : ((s[k].toNat : Int) == 43) = false := by rw [beq_eq_false_iff_ne]; omega
            have p2 : ((s[k].toNat : Int) == 45) = false := by rw [beq_eq_false_iff_ne]; omega
            have p3 : ((s[k].toNat : Int) == 46) = false := by rw [beq_eq_false_iff_ne]; omega
            have NOT := Lib.hid (XN.out (show okAt (B s) k = false by rw [OK.out]; unfold nmcB plnB; rw [hd, decide_eq_false (show ¬ (97 ≤ s[k].toNat ∧ s[k].toNat ≤ 122) by omega), decide_eq_false h43, decide_eq_false h45, decide_eq_false h46]; simp))
            clear a1 hd h43 h45 h46
            go_wp2_with (go_at_call 68; (with_reducible refine (KD.out _).mono ?_); rintro e w' ⟨rfl, rfl⟩)
            go_ret
            exact ⟨by rw [NOT.out]; rfl, rfl⟩
          · have hd2 : 48 ≤ s[k].toNat := by have := digB_iff.1 hd; omega
            rw [hd] at KD
            have hk0 : (0 : Int) < (k : Int) := by omega
            have p1 : ((s[k].toNat : Int) == 43) = false := by rw [beq_eq_false_iff_ne]; omega
            have p2 : ((s[k].toNat : Int) == 45) = false := by rw [beq_eq_false_iff_ne]; omega
            have p3 : ((s[k].toNat : Int) == 46) = false := by rw [beq_eq_false_iff_ne]; omega
            have YES := Lib.hid (show okAt (B s) k = true by rw [OK.out]; unfold plnB; rw [hd]; simp)
            clear a1 hd hd2
            go_wp2_with (go_at_call 68; (with_reducible refine (KD.out _).mono ?_); rintro e w' ⟨rfl, rfl⟩)
            go_round
            case rel => exact ⟨k + 1, by omega, by go_num, fun j hj => by rcases (by omega : j < k ∨ j = k) with h | rfl; exact HN.out j h; exact YES.out⟩
            case measure => simp [intOf]; omega
    · have Y := Lib.hid (okAt_yes (s := s) (fun j hj => HN.out j (by omega)))
      by_cases h2 : 2 ≤ s.size
      · rw [decide_eq_true h2, Bool.true_and, show decide (s.size ≤ 40) = decide ((s.size : Int) ≤ 40) by rw [Bool.eq_iff_iff]; simp; omega] at Y
        go_wp2
        go_ret
        exact ⟨by rw [Y.out]; rfl, rfl⟩
      · rw [decide_eq_false h2] at Y
        have h41 : (s.size : Int) < 2 := by omega
        go_wp2
        go_ret
        exact ⟨by rw [Y.out]; rfl, rfl⟩
theorem q3sign_any (op : Int) (w : World) : Calls Tryz.prog 105 #[.int .i64 op] w fun e w' => e = .returned (.string (mk (signL op))) ∧ w = w' := by
  by_cases h : 1 ≤ op ∧ op ≤ 5
  · have : op = 1 ∨ op = 2 ∨ op = 3 ∨ op = 4 ∨ op = 5 := by omega
    clear h
    rcases this with rfl | rfl | rfl | rfl | rfl
    all_goals
      go_enter Tryz.func105, Tryz.ntmps105
      go_wp2
      go_ret
      exact ⟨rfl, rfl⟩
  · have X := Lib.hid (signL_out (op := op) (by omega))
    have o1 : (op == 1) = false := by rw [beq_eq_false_iff_ne]; omega
    have o2 : (op == 2) = false := by rw [beq_eq_false_iff_ne]; omega
    have o3 : (op == 3) = false := by rw [beq_eq_false_iff_ne]; omega
    have o4 : (op == 4) = false := by rw [beq_eq_false_iff_ne]; omega
    have o5 : (op == 5) = false := by rw [beq_eq_false_iff_ne]; omega
    clear h
    go_enter Tryz.func105, Tryz.ntmps105
    go_wp2
    go_ret
    exact ⟨by rw [X.out]; rfl, rfl⟩
theorem q3plain_any (s : ByteArray) (w : World) : Calls Tryz.prog 103 #[.string s] w fun e' w' => e' = .returned (.bool (prB (B s))) ∧ Below w.heap.size w w' := by
  obtain ⟨ep, e, U, R, h1, h2, h3, h4, z2, z3, cp⟩ := parse_opened s
  have X : prB (B s) = (decide (e = 0) && decide (printL ep (B U) (B R) = B s)) := by unfold prB; rw [h1, h2, h3, h4]
  have CP := Lib.hid cp
  have CT := Lib.hid (fun w => print_any ep U R w (by omega) (by omega))
  have hst := strEq (printL ep (B U) (B R)) s (printL_lt ep U R)
  clear cp h1 h2 h3 h4
  by_cases he : e = 0
  · have t1 : (e == 0) = true := by rw [beq_iff_eq]; exact he
    rw [decide_eq_true he, Bool.true_and] at X
    rw [← X] at hst
    generalize prB (B s) = b at *
    generalize mk (printL ep (B U) (B R)) = T at *
    clear X
    go_enter Tryz.func103, Tryz.ntmps103
    go_wp2_with fail
    refine (CP.out _).mono ?_
    rintro e' w1 ⟨rfl, hb1⟩
    have B1 := Lib.hid (show Below w.heap.size w (w1.alloc (.cells #[.int .i64 ep, .string U, .string R] 88)) from hb1.alloc hb1.size _)
    clear hb1
    go_wp2_with fail
    refine (CT.out _).mono ?_
    rintro e' w2 ⟨rfl, hb2⟩
    have B2 := Lib.hid (bel_2 B1.out hb2)
    clear hb2
    go_wp2
    go_ret
    exact ⟨rfl, B2.out⟩
  · have t1 : (e == 0) = false := by rw [beq_eq_false_iff_ne]; exact he
    rw [decide_eq_false he, Bool.false_and] at X
    have XX := Lib.hid X
    clear X hst CT he
    go_enter Tryz.func103, Tryz.ntmps103
    go_wp2_with fail
    refine (CP.out _).mono ?_
    rintro e' w1 ⟨rfl, hb1⟩
    have B1 := Lib.hid (show Below w.heap.size w (w1.alloc (.cells #[.int .i64 ep, .string U, .string R] 88)) from hb1.alloc hb1.size _)
    clear hb1
    go_wp2
    go_ret
    exact ⟨by rw [XX.out]; rfl, B1.out⟩
theorem q3right_any (n : ByteArray) (op : Int) (v : ByteArray) (w : World) (hn : n.size ≤ 65536) : Calls Tryz.prog 71 #[.agg #[.string n, .int .i64 op, .string v]] w fun e' w' => e' = .returned (.bool (rightA (B n) op (B v))) ∧ Below w.heap.size w w' := by
  have B1 := Lib.hid (show Below w.heap.size w (w.alloc (.cells #[.string n, .int .i64 op, .string v] 49)) from (Below.refl _ w).alloc (Nat.le_refl _) _)
  have KN := Lib.hid (fun w => q3name_any n w hn)
  cases hb : nameB (B n)
  · have X := Lib.hid (show rightA (B n) op (B v) = false by unfold rightA; rw [hb]; rfl)
    rw [hb] at KN
    clear hb
    go_enter Tryz.func71, Tryz.ntmps71
    go_wp2_with fail
    refine (KN.out _).mono ?_
    rintro e' w' ⟨rfl, rfl⟩
    go_wp2
    go_ret
    exact ⟨by rw [X.out]; rfl, B1.out⟩
  rw [hb] at KN
  by_cases h0 : op = 0
  · subst h0
    have X := Lib.hid (show v.toList.isEmpty = rightA (B n) 0 (B v) by unfold rightA; rw [hb, if_pos rfl, Bool.true_and, empty_is])
    clear hb
    go_enter Tryz.func71, Tryz.ntmps71
    go_wp2_with fail
    refine (KN.out _).mono ?_
    rintro e' w' ⟨rfl, rfl⟩
    go_wp2
    go_ret
    exact ⟨by rw [← X.out]; rfl, B1.out⟩
  have t0 : (op == 0) = false := by rw [beq_eq_false_iff_ne]; exact h0
  by_cases ho : 1 ≤ op ∧ op ≤ 5
  · have X := Lib.hid (show rightA (B n) op (B v) = prB (B v) by unfold rightA; rw [hb, if_neg h0, Bool.true_and, decide_eq_true ho, Bool.true_and])
    have KP := Lib.hid (fun w => q3plain_any v w)
    have j1 : 0 ≤ op := by omega
    have j2 : op ≤ 5 := ho.2
    clear hb h0 ho
    go_enter Tryz.func71, Tryz.ntmps71
    go_wp2_with fail
    refine (KN.out _).mono ?_
    rintro e' w' ⟨rfl, rfl⟩
    go_wp2_with fail
    refine (KP.out _).mono ?_
    rintro e' w2 ⟨rfl, hb⟩
    have B2 := Lib.hid (bel_2 B1.out hb)
    clear hb
    go_wp2
    go_ret
    exact ⟨by rw [X.out]; rfl, B2.out⟩
  · have X := Lib.hid (show rightA (B n) op (B v) = false by unfold rightA; rw [if_neg h0, decide_eq_false ho, Bool.false_and, Bool.and_false])
    by_cases j1 : op < 0
    · clear hb h0 ho
      go_enter Tryz.func71, Tryz.ntmps71
      go_wp2_with fail
      refine (KN.out _).mono ?_
      rintro e' w' ⟨rfl, rfl⟩
      go_wp2
      go_ret
      exact ⟨by rw [X.out]; rfl, B1.out⟩
    · have j2 : 5 < op := by omega
      have j0 : 0 ≤ op := by omega
      clear hb h0 ho j1
      go_enter Tryz.func71, Tryz.ntmps71
      go_wp2_with fail
      refine (KN.out _).mono ?_
      rintro e' w' ⟨rfl, rfl⟩
      go_wp2
      go_ret
      exact ⟨by rw [X.out]; rfl, B1.out⟩
theorem q3sign_drewN (op : Int) (w : World) (m : Nat) : Calls Tryz.prog 105 #[.int .i64 op] (w.drewN m) fun e w' => e = .returned (.string (mk (signL op))) ∧ w' = w.drewN m :=
  (q3sign_any op (w.drewN m)).mono fun _ _ h => ⟨h.1, h.2.symm⟩
theorem q3print_any (n : ByteArray) (op : Int) (v : ByteArray) (w : World) (hn : n.size ≤ 65536) : Calls Tryz.prog 76 #[.agg #[.string n, .int .i64 op, .string v]] w fun e' w' => e' = .returned (.string (mk (printA (B n) op (B v)))) ∧ Below w.heap.size w w' := by
  have KR := Lib.hid (fun w => q3right_any n op v w hn)
  cases hr : rightA (B n) op (B v)
  · have X := Lib.hid (show printA (B n) op (B v) = [] by unfold printA; rw [hr]; rfl)
    rw [hr] at KR
    clear hr
    go_enter Tryz.func76, Tryz.ntmps76
    go_wp2_with fail
    refine (KR.out _).mono ?_
    rintro e' w1 ⟨rfl, hb⟩
    have B1 := Lib.hid (bel_boxed hb)
    clear hb
    go_wp2
    go_ret
    exact ⟨by rw [X.out]; rfl, B1.out⟩
  · by_cases h0 : op = 0
    · have X := Lib.hid (show mk (printA (B n) op (B v)) = n by unfold printA textA; rw [if_pos hr, if_pos h0, mk_B])
      have t0 : (op == 0) = true := by rw [beq_iff_eq]; exact h0
      rw [hr] at KR
      clear hr h0
      go_enter Tryz.func76, Tryz.ntmps76
      go_wp2_with fail
      refine (KR.out _).mono ?_
      rintro e' w1 ⟨rfl, hb⟩
      have B1 := Lib.hid (bel_boxed hb)
      obtain ⟨c0, c1, c2, s1⟩ := box_cells hb
      clear hb
      go_wp2
      go_ret
      exact ⟨by rw [X.out]; rfl, B1.out⟩
    · have t0 : (op == 0) = false := by rw [beq_eq_false_iff_ne]; exact h0
      have hsz := @printA_size (B n) (B v) op
      have hb0 := (show printA (B n) op (B v) = B n ++ 32 :: 40 :: (signL op ++ 32 :: (B v ++ [41])) by unfold printA textA; rw [if_pos hr, if_neg h0])
      have hls : (mk (signL op)).size = (signL op).length := size_mk _
      have hsl : ∀ c ∈ signL op, c < 256 := by
        have hr2 := hr
        unfold rightA at hr2
        rw [if_neg h0] at hr2
        simp only [Bool.and_eq_true, decide_eq_true_eq] at hr2
        have : op = 1 ∨ op = 2 ∨ op = 3 ∨ op = 4 ∨ op = 5 := by omega
        rcases this with rfl | rfl | rfl | rfl | rfl <;> decide
      have X := Lib.hid (show n ++ { data := #[32, 40] } ++ mk (signL op) ++ { data := #[32] } ++ v ++ { data := #[41] } = mk (printA (B n) op (B v)) by
        rw [hb0]
        refine eq_mk ?_
        simp only [B_append]
        rw [B_mk hsl]
        simp [B])
      rw [hb0] at hsz
      simp only [List.length_append, List.length_cons, B_len] at hsz
      have z1 : n.size ≤ 110 := by omega
      have z2 : v.size ≤ 110 := by omega
      have z3 : (mk (signL op)).size ≤ 110 := by omega
      have KS := Lib.hid (fun w m => q3sign_drewN op w m)
      generalize mk (signL op) = sg at *
      rw [hr] at KR
      clear hr h0 hsz hb0 hls hsl
      obtain ⟨N1, e1, k1⟩ := add_out n { data := #[32, 40] } 110 2 z1 (by decide)
      obtain ⟨N2, e2, k2⟩ := add_out N1 sg 112 110 k1.2 z3
      obtain ⟨N3, e3, k3⟩ := add_out N2 { data := #[32] } 222 1 k2.2 (by decide)
      obtain ⟨N4, e4, k4⟩ := add_out N3 v 223 110 k3.2 z2
      obtain ⟨N5, e5, k5⟩ := add_out N4 { data := #[41] } 333 1 k4.2 (by decide)
      rw [← k1.1, ← k2.1, ← k3.1, ← k4.1, ← k5.1] at X
      clear k1 k2 k3 k4 k5
      go_enter Tryz.func76, Tryz.ntmps76
      go_wp2_with fail
      refine (KR.out _).mono ?_
      rintro e' w1 ⟨rfl, hb⟩
      have B1 := Lib.hid (bel_boxed hb)
      obtain ⟨c0, c1, c2, s1⟩ := box_cells hb
      clear hb
      go_wp2_with fail
      go_quiet (first | (go_at_call 105; refine Calls.quiet_of_same (KS.out _ _)))
      go_wp2
      go_ret
      exact ⟨by rw [← X.out]; rfl, bel_d B1.out _⟩
end Go.Proofs.YtmlakjemgmeffaaGreatDoor
end
