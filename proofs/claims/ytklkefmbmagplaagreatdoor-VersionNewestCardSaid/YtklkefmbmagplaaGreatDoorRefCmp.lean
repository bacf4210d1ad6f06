/- The contract of the document's own CompareText: the order of texts; memory is as it was. -/
import Derived.Test.YtklkefmbmagplaaGreatDoorCmpT
namespace Go.Proofs.YtklkefmbmagplaaGreatDoor
open Go.RowKit
theorem wt_bd {l : List Nat} (h : ∀ c ∈ l, c < 256) : -1 ≤ wt l ∧ wt l ≤ 1255 := by
  cases l with
  | nil => simp [wt]
  | cons c l =>
    have := h c (by simp)
    simp only [wt]
    split
    · omega
    · split
      · omega
      · split <;> omega
theorem mk_size (l : List Nat) : (mk l).size = l.length := by
  unfold mk
  show (List.toArray _).size = _
  simp
theorem digs_lt {l : List Nat} (h : ∀ c ∈ l, c < 256) : ∀ c ∈ digs l, c < 256 := fun c hc => h c ((List.takeWhile_prefix digB).subset ((List.dropWhile_suffix _).subset hc))
theorem digs_len (l : List Nat) : (digs l).length ≤ l.length := by
  unfold digs
  exact Nat.le_trans ((List.dropWhile_suffix _).length_le) ((List.takeWhile_prefix digB).length_le)
theorem drop_lt (s : ByteArray) (i : Nat) : ∀ c ∈ (B s).drop i, c < 256 := fun c hc => B_lt s c (List.mem_of_mem_drop hc)
theorem numbers_mk (s t : ByteArray) (i k : Nat) (hs : s.size ≤ 9223372036854775807) (ht : t.size ≤ 9223372036854775807) (w : World) :
    Calls Tryz.prog 63 #[.string (mk (digs ((B s).drop i))), .string (mk (digs ((B t).drop k)))] w fun e w' => e = .returned (.int .i64 (numC (digs ((B s).drop i)) (digs ((B t).drop k)))) ∧ w = w' := by
  have h1 := digs_len ((B s).drop i)
  have h2 := digs_len ((B t).drop k)
  rw [List.length_drop, B_len] at h1 h2
  have := numbers_any (mk (digs ((B s).drop i))) (mk (digs ((B t).drop k))) w (by rw [mk_size]; omega) (by rw [mk_size]; omega)
  rwa [B_mk (digs_lt (drop_lt s i)), B_mk (digs_lt (drop_lt t k))] at this
theorem endD_le (l : List Nat) (i : Nat) (h : i ≤ l.length) : i ≤ endD l i ∧ endD l i ≤ l.length := by
  unfold endD
  have := numD_le (l.drop i)
  rw [List.length_drop] at this
  omega
theorem steps {s t : ByteArray} {i k : Nat} (h : (nonD ((B s).drop i) || nonD ((B t).drop k)) = false) : (i < s.size ∨ k < t.size) → i + k < endD (B s) i + endD (B t) k := by
  intro hgo
  have hna : nonD ((B s).drop i) = false := by cases hx : nonD ((B s).drop i) <;> simp_all
  have hnb : nonD ((B t).drop k) = false := by cases hx : nonD ((B t).drop k) <;> simp_all
  unfold endD
  rcases hgo with hgo | hgo
  · have := num_len hna (by intro he; have := congrArg List.length he; rw [List.length_drop, B_len] at this; simp at this; omega)
    omega
  · have := num_len hnb (by intro he; have := congrArg List.length he; rw [List.length_drop, B_len] at this; simp at this; omega)
    omega
theorem nums_of {s t : ByteArray} {i k : Nat} (h : (nonD ((B s).drop i) || nonD ((B t).drop k)) = false) :
    cmpS ((B s).drop i) ((B t).drop k) = if numC (digs ((B s).drop i)) (digs ((B t).drop k)) ≠ 0 then numC (digs ((B s).drop i)) (digs ((B t).drop k)) else cmpS ((B s).drop (endD (B s) i)) ((B t).drop (endD (B t) k)) := by
  by_cases h0 : (B s).drop i = [] ∧ (B t).drop k = []
  · have e1 : (B s).drop (endD (B s) i) = [] := by unfold endD; rw [← List.drop_drop, h0.1]; rfl
    have e2 : (B t).drop (endD (B t) k) = [] := by unfold endD; rw [← List.drop_drop, h0.2]; rfl
    rw [e1, e2, h0.1, h0.2, if_neg (by decide)]
  · rw [cmpS_num h0 h, List.drop_drop, List.drop_drop]
    rfl
set_option maxRecDepth 100000 in
set_option maxHeartbeats 8000000 in
theorem refCmp_any (s t : ByteArray) (w : World) (hs : s.size ≤ 9223372036854775807) (ht : t.size ≤ 9223372036854775807) :
    Calls Tryz.prog 39 #[.string s, .string t] w fun e w' => e = .returned (.int .i64 (cmpS (B s) (B t))) ∧ w = w' := by
  go_enter Tryz.func39, Tryz.ntmps39
  go_wp2
  go_loop [5, 6] (fun x y => ∃ i k : Nat, i ≤ s.size ∧ k ≤ t.size ∧ x = .int .i64 i ∧ y = .int .i64 k ∧ cmpS (B s) (B t) = cmpS ((B s).drop i) ((B t).drop k)) (fun x y => (s.size - (intOf x).toNat) + (t.size - (intOf y).toNat))
  case atStart => exact ⟨0, 0, Nat.zero_le _, Nat.zero_le _, rfl, rfl, rfl⟩
  case round =>
    obtain ⟨i, k, hi, hk, rfl, rfl, he⟩ := hrel
    have HE := Lib.hid he
    clear he
    by_cases hgo : i < s.size ∨ k < t.size
    · have HGO := Lib.hid hgo
      have ho : i < s.size ∨ (s.size ≤ i ∧ k < t.size) := by omega
      clear hgo
      rcases ho with ho | ⟨ho, ho2⟩
      all_goals
        go_wp2_with fail
        go_loop [5, 6] (fun x y => ∃ i' k' : Nat, i ≤ i' ∧ i' ≤ s.size ∧ k ≤ k' ∧ k' ≤ t.size ∧ x = .int .i64 i' ∧ y = .int .i64 k' ∧ cmpS (B s) (B t) = cmpS ((B s).drop i') ((B t).drop k')) (fun x y => (s.size - (intOf x).toNat) + (t.size - (intOf y).toNat))
        case atStart => exact ⟨i, k, Nat.le_refl _, hi, Nat.le_refl _, hk, rfl, rfl, HE.out⟩
        case round =>
          obtain ⟨i', k', hi1, hi2, hk1, hk2, rfl, rfl, he'⟩ := hrel
          have HE' := Lib.hid he'
          have bA := wt_bd (drop_lt s i')
          have bB := wt_bd (drop_lt t k')
          obtain ⟨bA1, bA2⟩ := bA
          obtain ⟨bB1, bB2⟩ := bB
          clear he'
          by_cases hiA : i' < s.size
          · cases dA : digB s[i'].toNat
            · skip
              have hA := Lib.hid (show digB s[i'].toNat = false from dA)
              have HNA := Lib.hid (show nonD ((B s).drop i') = true by rw [B_drop s i' hiA]; simp [nonD, dA])
              have NON := Lib.hid (show (nonD ((B s).drop i') || nonD ((B t).drop k')) = true by rw [HNA.out]; rfl)
              clear dA
              by_cases hz : sgn (wt ((B s).drop i') - wt ((B t).drop k')) = 0
              · have hz1 : (sgn (wt ((B s).drop i') - wt ((B t).drop k')) != 0) = false := by simp [hz]
                have HB2 := Lib.hid (both_non NON.out (by simp [hz]))
                have HE2 := Lib.hid (show cmpS (B s) (B t) = cmpS ((B s).drop (i' + 1)) ((B t).drop (k' + 1)) by rw [HE'.out, cmpS_wt NON.out, if_neg (by simp [hz]), List.drop_drop, List.drop_drop])
                have l1 := non_len HB2.out.1
                have l2 := non_len HB2.out.2
                rw [List.length_drop, B_len] at l1 l2
                clear hz
                go_wp2_with (first | first | (go_at_call 56; refine (Digit_any _ _).mono ?_; rw [hA.out]; rintro e w' ⟨rfl, rfl⟩) | (go_at_call 61; refine (weight_any _ _ _).mono ?_; rintro e w' ⟨rfl, rfl⟩) | (go_at_call 60; refine (sign_any _ _).mono ?_; rintro e w' ⟨rfl, rfl⟩))
                go_round
                case rel => exact ⟨i' + 1, k' + 1, by omega, by omega, by omega, by omega, by go_num, by go_num, HE2.out⟩
                case measure => simp [intOf]; omega
              · have hz1 : (sgn (wt ((B s).drop i') - wt ((B t).drop k')) != 0) = true := by rw [bne_iff_ne]; exact hz
                have HE2 := Lib.hid (show cmpS (B s) (B t) = sgn (wt ((B s).drop i') - wt ((B t).drop k')) by rw [HE'.out, cmpS_wt NON.out, if_pos hz])
                clear hz
                go_wp2_with (first | first | (go_at_call 56; refine (Digit_any _ _).mono ?_; rw [hA.out]; rintro e w' ⟨rfl, rfl⟩) | (go_at_call 61; refine (weight_any _ _ _).mono ?_; rintro e w' ⟨rfl, rfl⟩) | (go_at_call 60; refine (sign_any _ _).mono ?_; rintro e w' ⟨rfl, rfl⟩))
                go_ret
                exact ⟨by rw [HE2.out]; rfl, rfl⟩
            · skip
              by_cases hkB : k' < t.size
              · cases dB : digB t[k'].toNat
                · skip
                  have hA := Lib.hid (show digB s[i'].toNat = true from dA)
                  have HNA := Lib.hid (show nonD ((B s).drop i') = false by rw [B_drop s i' hiA]; simp [nonD, dA])
                  have hB := Lib.hid (show digB t[k'].toNat = false from dB)
                  have HNB := Lib.hid (show nonD ((B t).drop k') = true by rw [B_drop t k' hkB]; simp [nonD, dB])
                  clear dA dB
                  have NON := Lib.hid (show (nonD ((B s).drop i') || nonD ((B t).drop k')) = true by rw [HNB.out, Bool.or_true])
                  by_cases hz : sgn (wt ((B s).drop i') - wt ((B t).drop k')) = 0
                  · have hz1 : (sgn (wt ((B s).drop i') - wt ((B t).drop k')) != 0) = false := by simp [hz]
                    have HB2 := Lib.hid (both_non NON.out (by simp [hz]))
                    have HE2 := Lib.hid (show cmpS (B s) (B t) = cmpS ((B s).drop (i' + 1)) ((B t).drop (k' + 1)) by rw [HE'.out, cmpS_wt NON.out, if_neg (by simp [hz]), List.drop_drop, List.drop_drop])
                    have l1 := non_len HB2.out.1
                    have l2 := non_len HB2.out.2
                    rw [List.length_drop, B_len] at l1 l2
                    clear hz
                    go_wp2_with (first | first | (go_at_call 56; refine (Digit_any _ _).mono ?_; rw [hA.out]; rintro e w' ⟨rfl, rfl⟩) | (go_at_call 56; refine (Digit_any _ _).mono ?_; rw [hB.out]; rintro e w' ⟨rfl, rfl⟩) | (go_at_call 61; refine (weight_any _ _ _).mono ?_; rintro e w' ⟨rfl, rfl⟩) | (go_at_call 60; refine (sign_any _ _).mono ?_; rintro e w' ⟨rfl, rfl⟩))
                    go_round
                    case rel => exact ⟨i' + 1, k' + 1, by omega, by omega, by omega, by omega, by go_num, by go_num, HE2.out⟩
                    case measure => simp [intOf]; omega
                  · have hz1 : (sgn (wt ((B s).drop i') - wt ((B t).drop k')) != 0) = true := by rw [bne_iff_ne]; exact hz
                    have HE2 := Lib.hid (show cmpS (B s) (B t) = sgn (wt ((B s).drop i') - wt ((B t).drop k')) by rw [HE'.out, cmpS_wt NON.out, if_pos hz])
                    clear hz
                    go_wp2_with (first | first | (go_at_call 56; refine (Digit_any _ _).mono ?_; rw [hA.out]; rintro e w' ⟨rfl, rfl⟩) | (go_at_call 56; refine (Digit_any _ _).mono ?_; rw [hB.out]; rintro e w' ⟨rfl, rfl⟩) | (go_at_call 61; refine (weight_any _ _ _).mono ?_; rintro e w' ⟨rfl, rfl⟩) | (go_at_call 60; refine (sign_any _ _).mono ?_; rintro e w' ⟨rfl, rfl⟩))
                    go_ret
                    exact ⟨by rw [HE2.out]; rfl, rfl⟩
                · skip
                  have hA := Lib.hid (show digB s[i'].toNat = true from dA)
                  have HNA := Lib.hid (show nonD ((B s).drop i') = false by rw [B_drop s i' hiA]; simp [nonD, dA])
                  have hB := Lib.hid (show digB t[k'].toNat = true from dB)
                  have HNB := Lib.hid (show nonD ((B t).drop k') = false by rw [B_drop t k' hkB]; simp [nonD, dB])
                  clear dA dB
                  have nn : (nonD ((B s).drop i') || nonD ((B t).drop k')) = false := by rw [HNA.out, HNB.out]; rfl
                  have ea := endD_le (B s) i' (by rw [B_len]; omega)
                  have eb := endD_le (B t) k' (by rw [B_len]; omega)
                  rw [B_len] at ea eb
                  have hst := steps (s := s) (t := t) nn
                  have hnum := numbers_mk s t i' k' hs ht
                  have hne := nums_of (s := s) (t := t) nn
                  have d1 := fun w => digits_any s i' w hs hi2
                  have d2 := fun w => digits_any t k' w ht hk2
                  generalize endD (B s) i' = n1 at *
                  generalize endD (B t) k' = m1 at *
                  generalize numC (digs ((B s).drop i')) (digs ((B t).drop k')) = c at *
                  generalize mk (digs ((B s).drop i')) = X at *
                  generalize mk (digs ((B t).drop k')) = Y at *
                  obtain ⟨ea1, ea2⟩ := ea
                  obtain ⟨eb1, eb2⟩ := eb
                  have HST := Lib.hid hst
                  have HNUM := Lib.hid hnum
                  have HNE := Lib.hid hne
                  have D1 := Lib.hid d1
                  have D2 := Lib.hid d2
                  clear nn hst hnum hne d1 d2
                  by_cases hz : c = 0
                  · have hz1 : (c != 0) = false := by simp [hz]
                    have HZ := Lib.hid hz
                    clear hz
                    go_wp2_with (first | first | (go_at_call 56; refine (Digit_any _ _).mono ?_; rw [hA.out]; rintro e w' ⟨rfl, rfl⟩) | (go_at_call 56; refine (Digit_any _ _).mono ?_; rw [hB.out]; rintro e w' ⟨rfl, rfl⟩) | (go_at_call 62; (with_reducible refine (D1.out _).mono ?_); rintro e w' ⟨rfl, rfl⟩) | (go_at_call 62; (with_reducible refine (D2.out _).mono ?_); rintro e w' ⟨rfl, rfl⟩) | (go_at_call 63; (with_reducible refine (HNUM.out _).mono ?_); rintro e w' ⟨rfl, rfl⟩))
                    go_round
                    case rel => exact ⟨n1, m1, by omega, by omega, rfl, rfl, by rw [HE'.out, HNE.out, if_neg (by simp [HZ.out])]⟩
                    case measure =>
                      have h1 := HST.out
                      have h2 := HGO.out
                      simp [intOf]
                      omega
                  · have hz1 : (c != 0) = true := by rw [bne_iff_ne]; exact hz
                    have HZ := Lib.hid hz
                    clear hz
                    go_wp2_with (first | first | (go_at_call 56; refine (Digit_any _ _).mono ?_; rw [hA.out]; rintro e w' ⟨rfl, rfl⟩) | (go_at_call 56; refine (Digit_any _ _).mono ?_; rw [hB.out]; rintro e w' ⟨rfl, rfl⟩) | (go_at_call 62; (with_reducible refine (D1.out _).mono ?_); rintro e w' ⟨rfl, rfl⟩) | (go_at_call 62; (with_reducible refine (D2.out _).mono ?_); rintro e w' ⟨rfl, rfl⟩) | (go_at_call 63; (with_reducible refine (HNUM.out _).mono ?_); rintro e w' ⟨rfl, rfl⟩))
                    go_ret
                    refine ⟨?_, rfl⟩
                    rw [HE'.out, HNE.out, if_pos HZ.out]
                    rfl
              · skip
                have hA := Lib.hid (show digB s[i'].toNat = true from dA)
                have HNA := Lib.hid (show nonD ((B s).drop i') = false by rw [B_drop s i' hiA]; simp [nonD, dA])
                have HNB := Lib.hid (show nonD ((B t).drop k') = false by rw [B_drop_end t k' (by omega)]; rfl)
                clear dA
                have nn : (nonD ((B s).drop i') || nonD ((B t).drop k')) = false := by rw [HNA.out, HNB.out]; rfl
                have ea := endD_le (B s) i' (by rw [B_len]; omega)
                have eb := endD_le (B t) k' (by rw [B_len]; omega)
                rw [B_len] at ea eb
                have hst := steps (s := s) (t := t) nn
                have hnum := numbers_mk s t i' k' hs ht
                have hne := nums_of (s := s) (t := t) nn
                have d1 := fun w => digits_any s i' w hs hi2
                have d2 := fun w => digits_any t k' w ht hk2
                generalize endD (B s) i' = n1 at *
                generalize endD (B t) k' = m1 at *
                generalize numC (digs ((B s).drop i')) (digs ((B t).drop k')) = c at *
                generalize mk (digs ((B s).drop i')) = X at *
                generalize mk (digs ((B t).drop k')) = Y at *
                obtain ⟨ea1, ea2⟩ := ea
                obtain ⟨eb1, eb2⟩ := eb
                have HST := Lib.hid hst
                have HNUM := Lib.hid hnum
                have HNE := Lib.hid hne
                have D1 := Lib.hid d1
                have D2 := Lib.hid d2
                clear nn hst hnum hne d1 d2
                by_cases hz : c = 0
                · have hz1 : (c != 0) = false := by simp [hz]
                  have HZ := Lib.hid hz
                  clear hz
                  go_wp2_with (first | first | (go_at_call 56; refine (Digit_any _ _).mono ?_; rw [hA.out]; rintro e w' ⟨rfl, rfl⟩) | (go_at_call 62; (with_reducible refine (D1.out _).mono ?_); rintro e w' ⟨rfl, rfl⟩) | (go_at_call 62; (with_reducible refine (D2.out _).mono ?_); rintro e w' ⟨rfl, rfl⟩) | (go_at_call 63; (with_reducible refine (HNUM.out _).mono ?_); rintro e w' ⟨rfl, rfl⟩))
                  go_round
                  case rel => exact ⟨n1, m1, by omega, by omega, rfl, rfl, by rw [HE'.out, HNE.out, if_neg (by simp [HZ.out])]⟩
                  case measure =>
                    have h1 := HST.out
                    have h2 := HGO.out
                    simp [intOf]
                    omega
                · have hz1 : (c != 0) = true := by rw [bne_iff_ne]; exact hz
                  have HZ := Lib.hid hz
                  clear hz
                  go_wp2_with (first | first | (go_at_call 56; refine (Digit_any _ _).mono ?_; rw [hA.out]; rintro e w' ⟨rfl, rfl⟩) | (go_at_call 62; (with_reducible refine (D1.out _).mono ?_); rintro e w' ⟨rfl, rfl⟩) | (go_at_call 62; (with_reducible refine (D2.out _).mono ?_); rintro e w' ⟨rfl, rfl⟩) | (go_at_call 63; (with_reducible refine (HNUM.out _).mono ?_); rintro e w' ⟨rfl, rfl⟩))
                  go_ret
                  refine ⟨?_, rfl⟩
                  rw [HE'.out, HNE.out, if_pos HZ.out]
                  rfl
          · skip
            by_cases hkB : k' < t.size
            · cases dB : digB t[k'].toNat
              · skip
                have HNA := Lib.hid (show nonD ((B s).drop i') = false by rw [B_drop_end s i' (by omega)]; rfl)
                have hB := Lib.hid (show digB t[k'].toNat = false from dB)
                have HNB := Lib.hid (show nonD ((B t).drop k') = true by rw [B_drop t k' hkB]; simp [nonD, dB])
                clear dB
                have NON := Lib.hid (show (nonD ((B s).drop i') || nonD ((B t).drop k')) = true by rw [HNB.out, Bool.or_true])
                by_cases hz : sgn (wt ((B s).drop i') - wt ((B t).drop k')) = 0
                · have hz1 : (sgn (wt ((B s).drop i') - wt ((B t).drop k')) != 0) = false := by simp [hz]
                  have HB2 := Lib.hid (both_non NON.out (by simp [hz]))
                  have HE2 := Lib.hid (show cmpS (B s) (B t) = cmpS ((B s).drop (i' + 1)) ((B t).drop (k' + 1)) by rw [HE'.out, cmpS_wt NON.out, if_neg (by simp [hz]), List.drop_drop, List.drop_drop])
                  have l1 := non_len HB2.out.1
                  have l2 := non_len HB2.out.2
                  rw [List.length_drop, B_len] at l1 l2
                  clear hz
                  go_wp2_with (first | first | (go_at_call 56; refine (Digit_any _ _).mono ?_; rw [hB.out]; rintro e w' ⟨rfl, rfl⟩) | (go_at_call 61; refine (weight_any _ _ _).mono ?_; rintro e w' ⟨rfl, rfl⟩) | (go_at_call 60; refine (sign_any _ _).mono ?_; rintro e w' ⟨rfl, rfl⟩))
                  go_round
                  case rel => exact ⟨i' + 1, k' + 1, by omega, by omega, by omega, by omega, by go_num, by go_num, HE2.out⟩
                  case measure => simp [intOf]; omega
                · have hz1 : (sgn (wt ((B s).drop i') - wt ((B t).drop k')) != 0) = true := by rw [bne_iff_ne]; exact hz
                  have HE2 := Lib.hid (show cmpS (B s) (B t) = sgn (wt ((B s).drop i') - wt ((B t).drop k')) by rw [HE'.out, cmpS_wt NON.out, if_pos hz])
                  clear hz
                  go_wp2_with (first | first | (go_at_call 56; refine (Digit_any _ _).mono ?_; rw [hB.out]; rintro e w' ⟨rfl, rfl⟩) | (go_at_call 61; refine (weight_any _ _ _).mono ?_; rintro e w' ⟨rfl, rfl⟩) | (go_at_call 60; refine (sign_any _ _).mono ?_; rintro e w' ⟨rfl, rfl⟩))
                  go_ret
                  exact ⟨by rw [HE2.out]; rfl, rfl⟩
              · skip
                have HNA := Lib.hid (show nonD ((B s).drop i') = false by rw [B_drop_end s i' (by omega)]; rfl)
                have hB := Lib.hid (show digB t[k'].toNat = true from dB)
                have HNB := Lib.hid (show nonD ((B t).drop k') = false by rw [B_drop t k' hkB]; simp [nonD, dB])
                clear dB
                have nn : (nonD ((B s).drop i') || nonD ((B t).drop k')) = false := by rw [HNA.out, HNB.out]; rfl
                have ea := endD_le (B s) i' (by rw [B_len]; omega)
                have eb := endD_le (B t) k' (by rw [B_len]; omega)
                rw [B_len] at ea eb
                have hst := steps (s := s) (t := t) nn
                have hnum := numbers_mk s t i' k' hs ht
                have hne := nums_of (s := s) (t := t) nn
                have d1 := fun w => digits_any s i' w hs hi2
                have d2 := fun w => digits_any t k' w ht hk2
                generalize endD (B s) i' = n1 at *
                generalize endD (B t) k' = m1 at *
                generalize numC (digs ((B s).drop i')) (digs ((B t).drop k')) = c at *
                generalize mk (digs ((B s).drop i')) = X at *
                generalize mk (digs ((B t).drop k')) = Y at *
                obtain ⟨ea1, ea2⟩ := ea
                obtain ⟨eb1, eb2⟩ := eb
                have HST := Lib.hid hst
                have HNUM := Lib.hid hnum
                have HNE := Lib.hid hne
                have D1 := Lib.hid d1
                have D2 := Lib.hid d2
                clear nn hst hnum hne d1 d2
                by_cases hz : c = 0
                · have hz1 : (c != 0) = false := by simp [hz]
                  have HZ := Lib.hid hz
                  clear hz
                  go_wp2_with (first | first | (go_at_call 56; refine (Digit_any _ _).mono ?_; rw [hB.out]; rintro e w' ⟨rfl, rfl⟩) | (go_at_call 62; (with_reducible refine (D1.out _).mono ?_); rintro e w' ⟨rfl, rfl⟩) | (go_at_call 62; (with_reducible refine (D2.out _).mono ?_); rintro e w' ⟨rfl, rfl⟩) | (go_at_call 63; (with_reducible refine (HNUM.out _).mono ?_); rintro e w' ⟨rfl, rfl⟩))
                  go_round
                  case rel => exact ⟨n1, m1, by omega, by omega, rfl, rfl, by rw [HE'.out, HNE.out, if_neg (by simp [HZ.out])]⟩
                  case measure =>
                    have h1 := HST.out
                    have h2 := HGO.out
                    simp [intOf]
                    omega
                · have hz1 : (c != 0) = true := by rw [bne_iff_ne]; exact hz
                  have HZ := Lib.hid hz
                  clear hz
                  go_wp2_with (first | first | (go_at_call 56; refine (Digit_any _ _).mono ?_; rw [hB.out]; rintro e w' ⟨rfl, rfl⟩) | (go_at_call 62; (with_reducible refine (D1.out _).mono ?_); rintro e w' ⟨rfl, rfl⟩) | (go_at_call 62; (with_reducible refine (D2.out _).mono ?_); rintro e w' ⟨rfl, rfl⟩) | (go_at_call 63; (with_reducible refine (HNUM.out _).mono ?_); rintro e w' ⟨rfl, rfl⟩))
                  go_ret
                  refine ⟨?_, rfl⟩
                  rw [HE'.out, HNE.out, if_pos HZ.out]
                  rfl
            · skip
              have HNA := Lib.hid (show nonD ((B s).drop i') = false by rw [B_drop_end s i' (by omega)]; rfl)
              have HNB := Lib.hid (show nonD ((B t).drop k') = false by rw [B_drop_end t k' (by omega)]; rfl)
              have nn : (nonD ((B s).drop i') || nonD ((B t).drop k')) = false := by rw [HNA.out, HNB.out]; rfl
              have ea := endD_le (B s) i' (by rw [B_len]; omega)
              have eb := endD_le (B t) k' (by rw [B_len]; omega)
              rw [B_len] at ea eb
              have hst := steps (s := s) (t := t) nn
              have hnum := numbers_mk s t i' k' hs ht
              have hne := nums_of (s := s) (t := t) nn
              have d1 := fun w => digits_any s i' w hs hi2
              have d2 := fun w => digits_any t k' w ht hk2
              generalize endD (B s) i' = n1 at *
              generalize endD (B t) k' = m1 at *
              generalize numC (digs ((B s).drop i')) (digs ((B t).drop k')) = c at *
              generalize mk (digs ((B s).drop i')) = X at *
              generalize mk (digs ((B t).drop k')) = Y at *
              obtain ⟨ea1, ea2⟩ := ea
              obtain ⟨eb1, eb2⟩ := eb
              have HST := Lib.hid hst
              have HNUM := Lib.hid hnum
              have HNE := Lib.hid hne
              have D1 := Lib.hid d1
              have D2 := Lib.hid d2
              clear nn hst hnum hne d1 d2
              by_cases hz : c = 0
              · have hz1 : (c != 0) = false := by simp [hz]
                have HZ := Lib.hid hz
                clear hz
                go_wp2_with (first | (go_at_call 62; (with_reducible refine (D1.out _).mono ?_); rintro e w' ⟨rfl, rfl⟩) | (go_at_call 62; (with_reducible refine (D2.out _).mono ?_); rintro e w' ⟨rfl, rfl⟩) | (go_at_call 63; (with_reducible refine (HNUM.out _).mono ?_); rintro e w' ⟨rfl, rfl⟩))
                go_round
                case rel => exact ⟨n1, m1, by omega, by omega, rfl, rfl, by rw [HE'.out, HNE.out, if_neg (by simp [HZ.out])]⟩
                case measure =>
                  have h1 := HST.out
                  have h2 := HGO.out
                  simp [intOf]
                  omega
              · have hz1 : (c != 0) = true := by rw [bne_iff_ne]; exact hz
                have HZ := Lib.hid hz
                clear hz
                go_wp2_with (first | (go_at_call 62; (with_reducible refine (D1.out _).mono ?_); rintro e w' ⟨rfl, rfl⟩) | (go_at_call 62; (with_reducible refine (D2.out _).mono ?_); rintro e w' ⟨rfl, rfl⟩) | (go_at_call 63; (with_reducible refine (HNUM.out _).mono ?_); rintro e w' ⟨rfl, rfl⟩))
                go_ret
                refine ⟨?_, rfl⟩
                rw [HE'.out, HNE.out, if_pos HZ.out]
                rfl
    · have hi3 : i = s.size := by omega
      have hk3 : k = t.size := by omega
      have HF := Lib.hid (show cmpS (B s) (B t) = 0 by rw [HE.out, B_drop_end s i (by omega), B_drop_end t k (by omega)]; rfl)
      have hi4 : s.size ≤ i := by omega
      have hk4 : t.size ≤ k := by omega
      clear hi3 hk3 hgo
      go_wp2
      go_ret
      exact ⟨by rw [HF.out]; rfl, rfl⟩
end Go.Proofs.YtklkefmbmagplaaGreatDoor
