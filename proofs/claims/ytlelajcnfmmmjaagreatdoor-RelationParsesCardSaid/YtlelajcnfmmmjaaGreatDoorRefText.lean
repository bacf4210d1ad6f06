/- The contract of the document's own text of a version; memory before is as it was. -/
import Derived.Test.YtlelajcnfmmmjaaGreatDoorRefDec
namespace Go.Proofs.YtlelajcnfmmmjaaGreatDoor
open Go.RowKit
def textL (e : Nat) (u r : List Nat) : List Nat := (if e = 0 then [] else decL e ++ [58]) ++ u ++ (if r = [] then [] else 45 :: r)
theorem decF_len : ∀ (f n : Nat) (l : List Nat), (decF f n l).length ≤ f + l.length
  | 0, _, l => by simp [decF]
  | f + 1, n, l => by
    simp only [decF]
    split
    · simp; omega
    · have := decF_len f (n / 10) ((48 + n % 10) :: l); simp at this; omega
theorem decL_len (n : Nat) : (decL n).length ≤ n + 1 := by have := decF_len (n + 1) n []; simpa [decL] using this
theorem size_mk (l : List Nat) : (mk l).size = l.length := by
  unfold mk
  show (List.toArray _).size = _
  simp
theorem empty_iff (s : ByteArray) : s.toList.isEmpty = true ↔ B s = [] := by
  rw [toList_data, List.isEmpty_iff]
  unfold B
  simp
theorem empty_size {s : ByteArray} (h : B s = []) : s.size = 0 := by rw [← B_len, h]; rfl
theorem B_colon : B { data := #[58] } = [58] := by decide
theorem B_dash : B { data := #[45] } = [45] := by decide
theorem colon_size (x y : ByteArray) : (x ++ { data := #[58] } ++ y).size = x.size + 1 + y.size := by
  rw [← B_len, B_append, B_append, B_colon]; simp [B_len]; omega
theorem text_any (e : Nat) (u r : ByteArray) (w : World) (he : e ≤ 1000000000) (hu : u.size ≤ 65536) (hr : r.size ≤ 65536) :
    Calls Tryz.prog 48 #[.agg #[.int .i64 (e : Int), .string u, .string r]] w fun e' w' => e' = .returned (.string (mk (textL e (B u) (B r)))) ∧ Below w.heap.size w w' := by
  have hmk := decL_len e
  have hsz : (mk (decL e)).size ≤ 1000000001 := by rw [size_mk]; omega
  by_cases h1 : e = 0
  · cases h2 : r.toList.isEmpty
    · skip
      have t1 : ((e : Int) != 0) = false := by rw [bne_eq_false_iff_eq]; omega
      have HE : B r ≠ [] := fun hh => by rw [(empty_iff r).2 hh] at h2; cases h2
      have X := Lib.hid (show u ++ { data := #[45] } ++ r = mk (textL e (B u) (B r)) by
        refine eq_mk ?_
        unfold textL
        rw [if_pos h1, if_neg HE]
        simp [B_append, B_dash])
      clear HE h1
      go_enter Tryz.func48, Tryz.ntmps48
      go_wp2
      go_ret
      exact ⟨by rw [← X.out]; rfl, (Below.refl _ w).alloc (Nat.le_refl _) _⟩
    · skip
      have t1 : ((e : Int) != 0) = false := by rw [bne_eq_false_iff_eq]; omega
      have HE : B r = [] := (empty_iff r).1 h2
      have X := Lib.hid (show u = mk (textL e (B u) (B r)) by
        refine eq_mk ?_
        unfold textL
        rw [if_pos h1, if_pos HE]
        simp)
      clear HE h1
      go_enter Tryz.func48, Tryz.ntmps48
      go_wp2
      go_ret
      exact ⟨by rw [← X.out]; rfl, (Below.refl _ w).alloc (Nat.le_refl _) _⟩
  · cases h2 : r.toList.isEmpty
    · skip
      have t1 : ((e : Int) != 0) = true := by rw [bne_iff_ne]; omega
      have HE : B r ≠ [] := fun hh => by rw [(empty_iff r).2 hh] at h2; cases h2
      have X := Lib.hid (show mk (decL e) ++ { data := #[58] } ++ u ++ { data := #[45] } ++ r = mk (textL e (B u) (B r)) by
        refine eq_mk ?_
        unfold textL
        rw [if_neg h1, if_neg HE]
        simp [B_append, B_colon, B_dash, B_mk (decL_lt e)])
      clear HE h1
      go_enter Tryz.func48, Tryz.ntmps48
      go_wp2_with (go_at_call 66; refine (decimal_any _ _ (by omega)).mono ?_; rintro e w' ⟨rfl, rfl⟩)
      go_ret
      exact ⟨by rw [← X.out]; rfl, (Below.refl _ w).alloc (Nat.le_refl _) _⟩
    · skip
      have t1 : ((e : Int) != 0) = true := by rw [bne_iff_ne]; omega
      have HE : B r = [] := (empty_iff r).1 h2
      have X := Lib.hid (show mk (decL e) ++ { data := #[58] } ++ u = mk (textL e (B u) (B r)) by
        refine eq_mk ?_
        unfold textL
        rw [if_neg h1, if_pos HE]
        simp [B_append, B_colon, B_mk (decL_lt e)])
      clear HE h1
      go_enter Tryz.func48, Tryz.ntmps48
      go_wp2_with (go_at_call 66; refine (decimal_any _ _ (by omega)).mono ?_; rintro e w' ⟨rfl, rfl⟩)
      go_ret
      exact ⟨by rw [← X.out]; rfl, (Below.refl _ w).alloc (Nat.le_refl _) _⟩

/-! ### number -/
def numV (l : List Nat) : Nat := l.foldl (fun n c => 10 * n + (c - 48)) 0
def numL (l : List Nat) : Int := if l ≠ [] ∧ l.length ≤ 9 ∧ l.all digB = true ∧ decL (numV l) = l then (numV l : Int) else -1
theorem numV_snoc (l : List Nat) (c : Nat) : numV (l ++ [c]) = 10 * numV l + (c - 48) := by simp [numV, List.foldl_append]
theorem digB_iff {c : Nat} : digB c = true ↔ 48 ≤ c ∧ c ≤ 57 := by simp [digB]
theorem numV_lt : ∀ (l : List Nat), (∀ c ∈ l, digB c = true) → numV l + 1 ≤ 10 ^ l.length := by
  intro l
  rw [← List.reverse_reverse l]
  induction l.reverse with
  | nil => intro _; simp [numV]
  | cons c l ih =>
    intro h
    rw [List.reverse_cons, numV_snoc, List.length_append]
    have h1 := ih (fun d hd => h d (by simp [hd]))
    have h2 := digB_iff.1 (h c (by simp))
    simp only [List.length_singleton, Nat.pow_succ, List.length_reverse] at h1 ⊢
    omega
theorem B_take_snoc (s : ByteArray) (k : Nat) (hk : k < s.size) : (B s).take (k + 1) = (B s).take k ++ [s[k].toNat] := by
  rw [List.take_add_one, B_at s k hk]; rfl
theorem strEq (a : List Nat) (s : ByteArray) (h : ∀ c ∈ a, c < 256) : ((mk a).toList == s.toList) = decide (a = B s) := by
  rw [Bool.eq_iff_iff, beq_iff_eq, decide_eq_true_eq]
  constructor
  · intro he
    rw [toList_data, toList_data] at he
    rw [← B_mk h]
    unfold B
    rw [he]
  · rintro rfl
    rw [mk_B]
set_option maxHeartbeats 1000000 in
theorem number_any (s : ByteArray) (w : World) (hs : s.size ≤ 9223372036854775807) :
    Calls Tryz.prog 46 #[.string s] w fun e w' => e = .returned (.int .i64 (numL (B s))) ∧ w = w' := by
  go_enter Tryz.func46, Tryz.ntmps46
  go_wp2
  go_loop [3, 4] (fun x y => ∃ k n : Nat, k ≤ s.size ∧ k ≤ 12 ∧ n = numV ((B s).take k) ∧ (∀ c ∈ (B s).take k, digB c = true) ∧ x = .int .i64 n ∧ y = .int .i64 k) (fun _ y => 12 - (intOf y).toNat)
  case atStart => exact ⟨0, 0, Nat.zero_le _, by omega, by simp [numV], by simp, rfl, rfl⟩
  case round =>
    obtain ⟨k, n, hk, hk12, hn, hall, rfl, rfl⟩ := hrel
    have hlt := numV_lt _ hall
    rw [← hn, List.length_take, B_len, Nat.min_eq_left hk] at hlt
    have HN := Lib.hid hn
    have HA := Lib.hid hall
    have hpow : 10 ^ k ≤ 10 ^ 12 := Nat.pow_le_pow_right (by omega) hk12
    have hn12 : n ≤ 1000000000000 := by omega
    clear hn hall hlt hpow
    by_cases hgo : k < s.size ∧ k < 12
    · obtain ⟨h1, h2⟩ := hgo
      cases hd : digB s[k].toNat
      · have HF := Lib.hid (show numL (B s) = -1 by
          unfold numL
          rw [if_neg]
          rintro ⟨_, _, h3, _⟩
          rw [List.all_eq_true] at h3
          have := h3 _ (List.mem_of_getElem? (B_at s k h1))
          rw [hd] at this; cases this)
        have HD := Lib.hid hd
        clear hd
        go_wp2_with (go_at_call 22; refine (Digit_any _ _).mono ?_; rw [HD.out]; rintro e w' ⟨rfl, rfl⟩)
        go_ret
        exact ⟨by rw [HF.out]; rfl, rfl⟩
      · have hc := digB_iff.1 hd
        have hc1 := hc.1
        have hc2 := hc.2
        have HD := Lib.hid hd
        have HS := Lib.hid (B_take_snoc s k h1)
        clear hd hc
        go_wp2_with (go_at_call 22; refine (Digit_any _ _).mono ?_; rw [HD.out]; rintro e w' ⟨rfl, rfl⟩)
        go_round
        case rel =>
          refine ⟨k + 1, 10 * n + (s[k].toNat - 48), by omega, by omega, by rw [HS.out, numV_snoc, ← HN.out], fun c hc => ?_, congrArg (Value.int .i64) (by omega), by go_num⟩
          rw [HS.out] at hc
          rcases List.mem_append.1 hc with hc | hc
          · exact HA.out c hc
          · rw [List.mem_singleton.1 hc]; exact HD.out
        case measure => simp [intOf]; omega
    · have hnot : ¬ k < s.size ∨ ¬ k < 12 := by omega
      clear hgo
      cases he : s.toList.isEmpty
      · have hne : B s ≠ [] := fun hh => by rw [(empty_iff s).2 hh] at he; cases he
        by_cases h9 : 9 < s.size
        · have HF := Lib.hid (show numL (B s) = -1 by unfold numL; rw [if_neg]; rintro ⟨_, h, _⟩; rw [B_len] at h; omega)
          have h9i : (9 : Int) < (s.size : Int) := by omega
          clear hne
          by_cases hks : k < s.size
          · have hk2 : 12 ≤ k := by omega
            clear hnot
            go_wp2
            go_ret
            exact ⟨by rw [HF.out]; rfl, rfl⟩
          · clear hnot
            go_wp2
            go_ret
            exact ⟨by rw [HF.out]; rfl, rfl⟩
        · have hks : ¬ k < s.size := by omega
          have hek : (B s).take k = B s := List.take_of_length_le (by rw [B_len]; omega)
          have hnn : n = numV (B s) := by rw [HN.out, hek]
          have hal : (B s).all digB = true := by rw [List.all_eq_true, ← hek]; exact HA.out
          have hst := strEq (decL n) s (decL_lt n)
          by_cases hd : decL n = B s
          · have HF := Lib.hid (show numL (B s) = (n : Int) by unfold numL; rw [if_pos ⟨hne, by rw [B_len]; omega, hal, by rw [← hnn]; exact hd⟩, ← hnn])
            rw [decide_eq_true hd] at hst
            clear hnn hek hal hne hd hnot
            go_wp2_with (go_at_call 66; refine (decimal_any _ _ (by omega)).mono ?_; rintro e w' ⟨rfl, rfl⟩)
            go_ret
            exact ⟨by rw [HF.out]; rfl, rfl⟩
          · have HF := Lib.hid (show numL (B s) = -1 by unfold numL; rw [if_neg]; rintro ⟨_, _, _, h⟩; rw [← hnn] at h; exact hd h)
            rw [decide_eq_false hd] at hst
            clear hnn hek hal hne hd hnot
            go_wp2_with (go_at_call 66; refine (decimal_any _ _ (by omega)).mono ?_; rintro e w' ⟨rfl, rfl⟩)
            go_ret
            exact ⟨by rw [HF.out]; rfl, rfl⟩
      · have hB := (empty_iff s).1 he
        have HF := Lib.hid (show numL (B s) = -1 by unfold numL; rw [if_neg]; rintro ⟨h, _⟩; exact h hB)
        have hz := empty_size hB
        have hz2 : s.size ≤ 0 := by omega
        clear hB hz hnot
        go_wp2
        go_ret
        exact ⟨by rw [HF.out]; rfl, rfl⟩
end Go.Proofs.YtlelajcnfmmmjaaGreatDoor
