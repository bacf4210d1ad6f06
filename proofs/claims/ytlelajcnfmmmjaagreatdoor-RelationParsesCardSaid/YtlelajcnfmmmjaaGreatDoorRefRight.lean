/- What is a right version, as a plain function; and the refusals that Right makes before its loops. -/
import Derived.Test.YtlelajcnfmmmjaaGreatDoorRefText
set_option maxRecDepth 100000
namespace Go.Proofs.YtlelajcnfmmmjaaGreatDoor
open Go.RowKit
def headD : List Nat → Bool | [] => false | c :: _ => digB c
def chB (x : List Nat) (c : Nat) : Bool := letB c || digB c || hasB x c
def uX : List Nat := [46, 43, 126, 45, 58]
def rX : List Nat := [46, 43, 126]
def rightB (e : Int) (u r : List Nat) : Bool :=
  decide (0 ≤ e ∧ e ≤ 999999999) && headD u && !(hasB u 45 && decide (r = [])) && !(hasB u 58 && decide (e = 0)) && u.all (chB uX) && r.all (chB rX) && decide ((textL e.toNat u r).length ≤ 60)
theorem headD_at (s : ByteArray) (h : 0 < s.size) : headD (B s) = digB s[0].toNat := by
  have := B_drop s 0 h
  rw [List.drop_zero] at this
  rw [this]; rfl
theorem uX_B : B { data := #[46, 43, 126, 45, 58] } = uX := by decide
theorem rX_B : B { data := #[46, 43, 126] } = rX := by decide
theorem has_uX (c : Nat) (w : World) : Calls Tryz.prog 67 #[.string { data := #[46, 43, 126, 45, 58] }, .int .u8 (c : Int)] w fun e w' => e = .returned (.bool (hasB uX c)) ∧ w = w' := by
  have := has_any { data := #[46, 43, 126, 45, 58] } c w (by decide)
  rwa [uX_B] at this
theorem has_rX (c : Nat) (w : World) : Calls Tryz.prog 67 #[.string { data := #[46, 43, 126] }, .int .u8 (c : Int)] w fun e w' => e = .returned (.bool (hasB rX c)) ∧ w = w' := by
  have := has_any { data := #[46, 43, 126] } c w (by decide)
  rwa [rX_B] at this
theorem has_45 (s : ByteArray) (w : World) (hs : s.size ≤ 9223372036854775807) : Calls Tryz.prog 67 #[.string s, .int .u8 45] w fun e w' => e = .returned (.bool (hasB (B s) 45)) ∧ w = w' := has_any s 45 w hs
theorem has_58 (s : ByteArray) (w : World) (hs : s.size ≤ 9223372036854775807) : Calls Tryz.prog 67 #[.string s, .int .u8 58] w fun e w' => e = .returned (.bool (hasB (B s) 58)) ∧ w = w' := has_any s 58 w hs
theorem text_len (e : Nat) (u r : ByteArray) (he : e ≤ 1000000000) (hu : u.size ≤ 65536) (hr : r.size ≤ 65536) :
    ∃ T : ByteArray, T = mk (textL e (B u) (B r)) ∧ T.size = (textL e (B u) (B r)).length ∧ ∀ w, Calls Tryz.prog 48 #[.agg #[.int .i64 (e : Int), .string u, .string r]] w fun e' w' => e' = .returned (.string T) ∧ Below w.heap.size w w' :=
  ⟨_, rfl, size_mk _, fun w => text_any e u r w he hu hr⟩
theorem all_take {s : ByteArray} {p : Nat → Bool} {k : Nat} (hk : k < s.size) (h : ∀ c ∈ (B s).take k, p c = true) (hp : p s[k].toNat = true) : ∀ c ∈ (B s).take (k + 1), p c = true := by
  intro c hc
  rw [B_take_snoc s k hk] at hc
  rcases List.mem_append.1 hc with hc | hc
  · exact h c hc
  · rw [List.mem_singleton.1 hc]; exact hp
theorem all_end {s : ByteArray} {p : Nat → Bool} {k : Nat} (hk : ¬ k < s.size) (h : ∀ c ∈ (B s).take k, p c = true) : (B s).all p = true := by
  rw [List.take_of_length_le (by rw [B_len]; omega)] at h
  exact List.all_eq_true.2 h
theorem all_not {s : ByteArray} {p : Nat → Bool} {k : Nat} (hk : k < s.size) (hp : p s[k].toNat = false) : (B s).all p = false := by
  rw [Bool.eq_false_iff]
  intro h
  rw [List.all_eq_true] at h
  have := h _ (List.mem_of_getElem? (B_at s k hk))
  rw [hp] at this; cases this
theorem right_neg (e : Int) (u r : ByteArray) (w : World) (h : e < 0) :
    Calls Tryz.prog 47 #[.agg #[.int .i64 e, .string u, .string r]] w fun e' w' => e' = .returned (.bool (rightB e (B u) (B r))) ∧ Below w.heap.size w w' := by
  have X := Lib.hid (show rightB e (B u) (B r) = false by unfold rightB; rw [decide_eq_false (by omega)]; rfl)
  go_enter Tryz.func47, Tryz.ntmps47
  go_wp2
  go_ret
  exact ⟨by rw [X.out]; rfl, (Below.refl _ w).alloc (Nat.le_refl _) _⟩
theorem right_big (e : Int) (u r : ByteArray) (w : World) (h : 999999999 < e) :
    Calls Tryz.prog 47 #[.agg #[.int .i64 e, .string u, .string r]] w fun e' w' => e' = .returned (.bool (rightB e (B u) (B r))) ∧ Below w.heap.size w w' := by
  have X := Lib.hid (show rightB e (B u) (B r) = false by unfold rightB; rw [decide_eq_false (by omega)]; rfl)
  go_enter Tryz.func47, Tryz.ntmps47
  go_wp2
  go_ret
  exact ⟨by rw [X.out]; rfl, (Below.refl _ w).alloc (Nat.le_refl _) _⟩
theorem right_empty (e : Int) (u r : ByteArray) (w : World) (h0 : 0 ≤ e) (h1 : e ≤ 999999999) (hu : u.toList.isEmpty = true) :
    Calls Tryz.prog 47 #[.agg #[.int .i64 e, .string u, .string r]] w fun e' w' => e' = .returned (.bool (rightB e (B u) (B r))) ∧ Below w.heap.size w w' := by
  have X := Lib.hid (show rightB e (B u) (B r) = false by unfold rightB; rw [(empty_iff u).1 hu]; simp [headD])
  go_enter Tryz.func47, Tryz.ntmps47
  go_wp2
  go_ret
  exact ⟨by rw [X.out]; rfl, (Below.refl _ w).alloc (Nat.le_refl _) _⟩
theorem right_head (e : Int) (u r : ByteArray) (w : World) (h0 : 0 ≤ e) (h1 : e ≤ 999999999) (hu : u.toList.isEmpty = false) (hs : 0 < u.size) (hd : digB u[0].toNat = false) :
    Calls Tryz.prog 47 #[.agg #[.int .i64 e, .string u, .string r]] w fun e' w' => e' = .returned (.bool (rightB e (B u) (B r))) ∧ Below w.heap.size w w' := by
  have X := Lib.hid (show rightB e (B u) (B r) = false by unfold rightB; rw [headD_at u hs, hd]; simp)
  have HD := Lib.hid hd
  clear hd
  go_enter Tryz.func47, Tryz.ntmps47
  go_wp2_with (go_at_call 22; refine (Digit_any _ _).mono ?_; rw [HD.out]; rintro e' w' ⟨rfl, rfl⟩)
  go_ret
  exact ⟨by rw [X.out]; rfl, (Below.refl _ w).alloc (Nat.le_refl _) _⟩
theorem right_dash (e : Int) (u r : ByteArray) (w : World) (h0 : 0 ≤ e) (h1 : e ≤ 999999999) (hu : u.toList.isEmpty = false) (hs : 0 < u.size) (hsz : u.size ≤ 9223372036854775807) (hd : digB u[0].toNat = true) (h45 : hasB (B u) 45 = true) (hr : r.toList.isEmpty = true) :
    Calls Tryz.prog 47 #[.agg #[.int .i64 e, .string u, .string r]] w fun e' w' => e' = .returned (.bool (rightB e (B u) (B r))) ∧ Below w.heap.size w w' := by
  have X := Lib.hid (show rightB e (B u) (B r) = false by unfold rightB; rw [h45, (empty_iff r).1 hr]; simp)
  have HD := Lib.hid hd
  have C45 := Lib.hid (fun w => has_45 u w hsz)
  have C58 := Lib.hid (fun w => has_58 u w hsz)
  rw [h45] at C45
  clear hd h45
  go_enter Tryz.func47, Tryz.ntmps47
  go_wp2_with (first | (go_at_call 22; refine (Digit_any _ _).mono ?_; rw [HD.out]; rintro e' w' ⟨rfl, rfl⟩) | (go_at_call 67; (with_reducible refine (C45.out _).mono ?_); rintro e' w' ⟨rfl, rfl⟩) | (go_at_call 67; (with_reducible refine (C58.out _).mono ?_); rintro e' w' ⟨rfl, rfl⟩))
  go_ret
  exact ⟨by rw [X.out]; rfl, (Below.refl _ w).alloc (Nat.le_refl _) _⟩
theorem right_colon_true (u r : ByteArray) (w : World) (hu : u.toList.isEmpty = false) (hs : 0 < u.size) (hsz : u.size ≤ 9223372036854775807) (hd : digB u[0].toNat = true) (h45 : hasB (B u) 45 = true) (hr : r.toList.isEmpty = false) (h58 : hasB (B u) 58 = true) :
    Calls Tryz.prog 47 #[.agg #[.int .i64 0, .string u, .string r]] w fun e' w' => e' = .returned (.bool (rightB 0 (B u) (B r))) ∧ Below w.heap.size w w' := by
  have X := Lib.hid (show rightB 0 (B u) (B r) = false by unfold rightB; rw [h58]; simp)
  have HD := Lib.hid hd
  have C45 := Lib.hid (fun w => has_45 u w hsz)
  have C58 := Lib.hid (fun w => has_58 u w hsz)
  rw [h45] at C45
  rw [h58] at C58
  clear hd h45 h58
  go_enter Tryz.func47, Tryz.ntmps47
  go_wp2_with (first | (go_at_call 22; refine (Digit_any _ _).mono ?_; rw [HD.out]; rintro e' w' ⟨rfl, rfl⟩) | (go_at_call 67; (with_reducible refine (C45.out _).mono ?_); rintro e' w' ⟨rfl, rfl⟩) | (go_at_call 67; (with_reducible refine (C58.out _).mono ?_); rintro e' w' ⟨rfl, rfl⟩))
  go_ret
  exact ⟨by rw [X.out]; rfl, (Below.refl _ w).alloc (Nat.le_refl _) _⟩
theorem right_colon_false (u r : ByteArray) (w : World) (hu : u.toList.isEmpty = false) (hs : 0 < u.size) (hsz : u.size ≤ 9223372036854775807) (hd : digB u[0].toNat = true) (h45 : hasB (B u) 45 = false) (h58 : hasB (B u) 58 = true) :
    Calls Tryz.prog 47 #[.agg #[.int .i64 0, .string u, .string r]] w fun e' w' => e' = .returned (.bool (rightB 0 (B u) (B r))) ∧ Below w.heap.size w w' := by
  have X := Lib.hid (show rightB 0 (B u) (B r) = false by unfold rightB; rw [h58]; simp)
  have HD := Lib.hid hd
  have C45 := Lib.hid (fun w => has_45 u w hsz)
  have C58 := Lib.hid (fun w => has_58 u w hsz)
  rw [h45] at C45
  rw [h58] at C58
  clear hd h45 h58
  go_enter Tryz.func47, Tryz.ntmps47
  go_wp2_with (first | (go_at_call 22; refine (Digit_any _ _).mono ?_; rw [HD.out]; rintro e' w' ⟨rfl, rfl⟩) | (go_at_call 67; (with_reducible refine (C45.out _).mono ?_); rintro e' w' ⟨rfl, rfl⟩) | (go_at_call 67; (with_reducible refine (C58.out _).mono ?_); rintro e' w' ⟨rfl, rfl⟩))
  go_ret
  exact ⟨by rw [X.out]; rfl, (Below.refl _ w).alloc (Nat.le_refl _) _⟩
end Go.Proofs.YtlelajcnfmmmjaaGreatDoor
