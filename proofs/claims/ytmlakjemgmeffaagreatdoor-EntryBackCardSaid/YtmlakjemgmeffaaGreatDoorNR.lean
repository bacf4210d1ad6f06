/- What the laws of this seat rest on: Rel1, Rel2. -/
import Derived.Test.YtmlakjemgmeffaaGreatDoorNA
import Derived.Below
import Derived.Test.YtmlakjemgmeffaaGreatDoorND
import Derived.Laws.IdiomStrings

section
set_option maxRecDepth 100000
set_option linter.unusedVariables false
set_option linter.unusedSimpArgs false
namespace Go.Proofs.YtmlakjemgmeffaaGreatDoor
open Go.RowKit
structure Sgn (w : World) : Prop where
  s0 : w.cell? ⟨0, 0, none⟩ = some (.string { data := #[60, 60] })
  s1 : w.cell? ⟨0, 1, none⟩ = some (.string { data := #[60, 61] })
  s2 : w.cell? ⟨0, 2, none⟩ = some (.string { data := #[61] })
  s3 : w.cell? ⟨0, 3, none⟩ = some (.string { data := #[62, 61] })
  s4 : w.cell? ⟨0, 4, none⟩ = some (.string { data := #[62, 62] })
theorem Sgn.below {w w' : World} (E : Sgn w) (h : Below w.heap.size w w') : Sgn w' := by
  obtain ⟨h0, h1, h2, h3, h4⟩ := E
  exact ⟨by rw [h.cell (World.block_lt_of_cell? _ _ h0)]; exact h0, by rw [h.cell (World.block_lt_of_cell? _ _ h1)]; exact h1, by rw [h.cell (World.block_lt_of_cell? _ _ h2)]; exact h2, by rw [h.cell (World.block_lt_of_cell? _ _ h3)]; exact h3, by rw [h.cell (World.block_lt_of_cell? _ _ h4)]; exact h4⟩
theorem signL_out {op : Int} (h : op < 1 ∨ 5 < op) : signL op = [] := by
  unfold signL
  rw [if_neg (by omega), if_neg (by omega), if_neg (by omega), if_neg (by omega), if_neg (by omega)]
theorem rsign_any (op : Int) (w : World) (E : Sgn w) : Calls Tryz.prog 66 #[.int .i64 op] w fun e w' => e = .returned (.string (mk (signL op))) ∧ w = w' := by
  obtain ⟨c0, c1, c2, c3, c4⟩ := E
  by_cases h : op < 1 ∨ 5 < op
  · have X := Lib.hid (signL_out h)
    by_cases h1 : op < 1
    · clear h
      go_enter Tryz.func66, Tryz.ntmps66
      go_wp2
      go_ret
      exact ⟨by rw [X.out]; rfl, rfl⟩
    · have h2 : 5 < op := by omega
      clear h
      go_enter Tryz.func66, Tryz.ntmps66
      go_wp2
      go_ret
      exact ⟨by rw [X.out]; rfl, rfl⟩
  · have : op = 1 ∨ op = 2 ∨ op = 3 ∨ op = 4 ∨ op = 5 := by omega
    clear h
    rcases this with rfl | rfl | rfl | rfl | rfl
    all_goals
      go_enter Tryz.func66, Tryz.ntmps66
      go_wp2
      go_ret
      exact ⟨rfl, rfl⟩
theorem sEq (s : ByteArray) (l : List Nat) (hl : ∀ c ∈ l, c < 256) : (s.toList == (mk l).toList) = decide (B s = l) := by
  have h := strEq l s hl
  rw [Bool.eq_iff_iff] at h ⊢
  simp only [beq_iff_eq, decide_eq_true_eq] at h ⊢
  exact ⟨fun e => (h.1 e.symm).symm, fun e => (h.2 e.symm).symm⟩
theorem sEqL (s : ByteArray) (m : List UInt8) (l : List Nat) (e : m = l.map UInt8.ofNat) (hl : ∀ c ∈ l, c < 256) : (s.toList == m) = decide (B s = l) := by
  rw [← sEq s l hl, toList_data (mk l), e]; rfl
theorem rop_any (s : ByteArray) (w : World) (E : Sgn w) : Calls Tryz.prog 191 #[.string s] w fun e w' => e = .returned (.tuple #[.int .i64 (opI (B s)), .bool (decide (opI (B s) ≠ 0))]) ∧ w = w' := by
  obtain ⟨c0, c1, c2, c3, c4⟩ := E
  have q0 : (s.toList == [60, 60]) = decide (B s = [60, 60]) := sEqL s [60, 60] [60, 60] rfl (by decide)
  have q1 : (s.toList == [60, 61]) = decide (B s = [60, 61]) := sEqL s [60, 61] [60, 61] rfl (by decide)
  have q2 : (s.toList == [61]) = decide (B s = [61]) := sEqL s [61] [61] rfl (by decide)
  have q3 : (s.toList == [62, 61]) = decide (B s = [62, 61]) := sEqL s [62, 61] [62, 61] rfl (by decide)
  have q4 : (s.toList == [62, 62]) = decide (B s = [62, 62]) := sEqL s [62, 62] [62, 62] rfl (by decide)
  have X := Lib.hid (show opI (B s) = if B s = [60, 60] then 1 else if B s = [60, 61] then 2 else if B s = [61] then 3 else if B s = [62, 61] then 4 else if B s = [62, 62] then 5 else 0 from rfl)
  generalize B s = b at *
  have five : ∀ r : Int, opI b = r → (r = 1 ∧ decide (b = [60, 60]) = true ∨ r = 2 ∧ decide (b = [60, 60]) = false ∧ decide (b = [60, 61]) = true ∨ r = 3 ∧ decide (b = [60, 60]) = false ∧ decide (b = [60, 61]) = false ∧ decide (b = [61]) = true ∨
      r = 4 ∧ decide (b = [60, 60]) = false ∧ decide (b = [60, 61]) = false ∧ decide (b = [61]) = false ∧ decide (b = [62, 61]) = true ∨ r = 5 ∧ decide (b = [60, 60]) = false ∧ decide (b = [60, 61]) = false ∧ decide (b = [61]) = false ∧ decide (b = [62, 61]) = false ∧ decide (b = [62, 62]) = true ∨
      r = 0 ∧ decide (b = [60, 60]) = false ∧ decide (b = [60, 61]) = false ∧ decide (b = [61]) = false ∧ decide (b = [62, 61]) = false ∧ decide (b = [62, 62]) = false) := by
    intro r hr
    rw [X.out] at hr
    simp only [decide_eq_true_eq, decide_eq_false_iff_not]
    repeat' split at hr
    all_goals simp_all
  obtain ⟨r, hr⟩ : ∃ r, opI b = r := ⟨_, rfl⟩
  have h5 := five r hr
  rw [hr]
  clear X five hr
  have i0 : ∀ w, (Instr.index 119 (.agg #[.string { data := #[60, 60] }, .string { data := #[60, 61] }, .string { data := #[61] }, .string { data := #[62, 61] }, .string { data := #[62, 62] }]) (.int .i64 0)).run Tryz.prog w = .ok (.string { data := #[60, 60] }) w := fun _ => by kernel_rfl
  have i1 : ∀ w, (Instr.index 119 (.agg #[.string { data := #[60, 60] }, .string { data := #[60, 61] }, .string { data := #[61] }, .string { data := #[62, 61] }, .string { data := #[62, 62] }]) (.int .i64 1)).run Tryz.prog w = .ok (.string { data := #[60, 61] }) w := fun _ => by kernel_rfl
  have i2 : ∀ w, (Instr.index 119 (.agg #[.string { data := #[60, 60] }, .string { data := #[60, 61] }, .string { data := #[61] }, .string { data := #[62, 61] }, .string { data := #[62, 62] }]) (.int .i64 2)).run Tryz.prog w = .ok (.string { data := #[61] }) w := fun _ => by kernel_rfl
  have i3 : ∀ w, (Instr.index 119 (.agg #[.string { data := #[60, 60] }, .string { data := #[60, 61] }, .string { data := #[61] }, .string { data := #[62, 61] }, .string { data := #[62, 62] }]) (.int .i64 3)).run Tryz.prog w = .ok (.string { data := #[62, 61] }) w := fun _ => by kernel_rfl
  have i4 : ∀ w, (Instr.index 119 (.agg #[.string { data := #[60, 60] }, .string { data := #[60, 61] }, .string { data := #[61] }, .string { data := #[62, 61] }, .string { data := #[62, 62] }]) (.int .i64 4)).run Tryz.prog w = .ok (.string { data := #[62, 62] }) w := fun _ => by kernel_rfl
  rcases h5 with ⟨rfl, a0⟩ | ⟨rfl, a0, a1⟩ | ⟨rfl, a0, a1, a2⟩ | ⟨rfl, a0, a1, a2, a3⟩ | ⟨rfl, a0, a1, a2, a3, a4⟩ | ⟨rfl, a0, a1, a2, a3, a4⟩
  · rw [a0] at q0
    clear a0
    go_enter Tryz.func191, Tryz.ntmps191
    go_wp2
    go_loop [7] (fun x => ∃ k : Nat, k ≤ 0 ∧ x = .int .i64 k) (fun x => 5 - (intOf x).toNat)
    case atStart => exact ⟨0, Nat.zero_le _, rfl⟩
    case round =>
      obtain ⟨k, hk, rfl⟩ := hrel
      have hk' : k = 0 := by omega
      clear hk
      obtain rfl := hk'
      · go_wp2
        go_ret2
        exact ⟨rfl, rfl⟩
  · rw [a0] at q0
    rw [a1] at q1
    clear a0 a1
    go_enter Tryz.func191, Tryz.ntmps191
    go_wp2
    go_loop [7] (fun x => ∃ k : Nat, k ≤ 1 ∧ x = .int .i64 k) (fun x => 5 - (intOf x).toNat)
    case atStart => exact ⟨0, Nat.zero_le _, rfl⟩
    case round =>
      obtain ⟨k, hk, rfl⟩ := hrel
      have hk' : k = 0 ∨ k = 1 := by omega
      clear hk
      rcases hk' with rfl | rfl
      · go_wp2
        go_round
        case rel => exact ⟨1, by omega, by go_num⟩
        case measure => simp [intOf]
      · go_wp2
        go_ret2
        exact ⟨rfl, rfl⟩
  · rw [a0] at q0
    rw [a1] at q1
    rw [a2] at q2
    clear a0 a1 a2
    go_enter Tryz.func191, Tryz.ntmps191
    go_wp2
    go_loop [7] (fun x => ∃ k : Nat, k ≤ 2 ∧ x = .int .i64 k) (fun x => 5 - (intOf x).toNat)
    case atStart => exact ⟨0, Nat.zero_le _, rfl⟩
    case round =>
      obtain ⟨k, hk, rfl⟩ := hrel
      have hk' : k = 0 ∨ k = 1 ∨ k = 2 := by omega
      clear hk
      rcases hk' with rfl | rfl | rfl
      · go_wp2
        go_round
        case rel => exact ⟨1, by omega, by go_num⟩
        case measure => simp [intOf]
      · go_wp2
        go_round
        case rel => exact ⟨2, by omega, by go_num⟩
        case measure => simp [intOf]
      · go_wp2
        go_ret2
        exact ⟨rfl, rfl⟩
  · rw [a0] at q0
    rw [a1] at q1
    rw [a2] at q2
    rw [a3] at q3
    clear a0 a1 a2 a3
    go_enter Tryz.func191, Tryz.ntmps191
    go_wp2
    go_loop [7] (fun x => ∃ k : Nat, k ≤ 3 ∧ x = .int .i64 k) (fun x => 5 - (intOf x).toNat)
    case atStart => exact ⟨0, Nat.zero_le _, rfl⟩
    case round =>
      obtain ⟨k, hk, rfl⟩ := hrel
      have hk' : k = 0 ∨ k = 1 ∨ k = 2 ∨ k = 3 := by omega
      clear hk
      rcases hk' with rfl | rfl | rfl | rfl
      · go_wp2
        go_round
        case rel => exact ⟨1, by omega, by go_num⟩
        case measure => simp [intOf]
      · go_wp2
        go_round
        case rel => exact ⟨2, by omega, by go_num⟩
        case measure => simp [intOf]
      · go_wp2
        go_round
        case rel => exact ⟨3, by omega, by go_num⟩
        case measure => simp [intOf]
      · go_wp2
        go_ret2
        exact ⟨rfl, rfl⟩
  · rw [a0] at q0
    rw [a1] at q1
    rw [a2] at q2
    rw [a3] at q3
    rw [a4] at q4
    clear a0 a1 a2 a3 a4
    go_enter Tryz.func191, Tryz.ntmps191
    go_wp2
    go_loop [7] (fun x => ∃ k : Nat, k ≤ 4 ∧ x = .int .i64 k) (fun x => 5 - (intOf x).toNat)
    case atStart => exact ⟨0, Nat.zero_le _, rfl⟩
    case round =>
      obtain ⟨k, hk, rfl⟩ := hrel
      have hk' : k = 0 ∨ k = 1 ∨ k = 2 ∨ k = 3 ∨ k = 4 := by omega
      clear hk
      rcases hk' with rfl | rfl | rfl | rfl | rfl
      · go_wp2
        go_round
        case rel => exact ⟨1, by omega, by go_num⟩
        case measure => simp [intOf]
      · go_wp2
        go_round
        case rel => exact ⟨2, by omega, by go_num⟩
        case measure => simp [intOf]
      · go_wp2
        go_round
        case rel => exact ⟨3, by omega, by go_num⟩
        case measure => simp [intOf]
      · go_wp2
        go_round
        case rel => exact ⟨4, by omega, by go_num⟩
        case measure => simp [intOf]
      · go_wp2
        go_ret2
        exact ⟨rfl, rfl⟩
  · rw [a0] at q0
    rw [a1] at q1
    rw [a2] at q2
    rw [a3] at q3
    rw [a4] at q4
    clear a0 a1 a2 a3 a4
    go_enter Tryz.func191, Tryz.ntmps191
    go_wp2
    go_loop [7] (fun x => ∃ k : Nat, k ≤ 5 ∧ x = .int .i64 k) (fun x => 5 - (intOf x).toNat)
    case atStart => exact ⟨0, Nat.zero_le _, rfl⟩
    case round =>
      obtain ⟨k, hk, rfl⟩ := hrel
      have hk' : k = 0 ∨ k = 1 ∨ k = 2 ∨ k = 3 ∨ k = 4 ∨ k = 5 := by omega
      clear hk
      rcases hk' with rfl | rfl | rfl | rfl | rfl | rfl
      · go_wp2
        go_round
        case rel => exact ⟨1, by omega, by go_num⟩
        case measure => simp [intOf]
      · go_wp2
        go_round
        case rel => exact ⟨2, by omega, by go_num⟩
        case measure => simp [intOf]
      · go_wp2
        go_round
        case rel => exact ⟨3, by omega, by go_num⟩
        case measure => simp [intOf]
      · go_wp2
        go_round
        case rel => exact ⟨4, by omega, by go_num⟩
        case measure => simp [intOf]
      · go_wp2
        go_round
        case rel => exact ⟨5, by omega, by go_num⟩
        case measure => simp [intOf]
      · go_wp2
        go_ret2
        exact ⟨rfl, rfl⟩
end Go.Proofs.YtmlakjemgmeffaaGreatDoor
end

section
set_option maxRecDepth 100000
set_option linter.unusedVariables false
set_option linter.unusedSimpArgs false
namespace Go.Proofs.YtmlakjemgmeffaaGreatDoor
open Go.RowKit
theorem rplain_any (c : Nat) (w : World) : Calls Tryz.prog 62 #[.int .u8 (c : Int)] w fun e w' => e = .returned (.bool (plnB c)) ∧ w = w' := by
  have X := Lib.hid (show plnB c = ((decide ((97 : Int) ≤ c) && decide ((c : Int) ≤ 122)) || (decide ((48 : Int) ≤ c) && decide ((c : Int) ≤ 57))) by unfold plnB digB; rw [Bool.eq_iff_iff]; simp; omega)
  go_enter Tryz.func62, Tryz.ntmps62
  go_wp2
  all_goals
    go_ret
    refine ⟨congrArg (fun b => Ending.returned (.bool b)) ?_, rfl⟩
    rw [X.out, Bool.eq_iff_iff]
    simp
    omega
theorem nameB_is (s : ByteArray) (h2 : 2 ≤ s.size) (h40 : s.size ≤ 40) (h0 : plnB s[0].toNat = true) : nameB (B s) = (B s).all nmcB := by
  unfold nameB
  rw [B_len, B_getD s 0 (by omega), h0, decide_eq_true h2, decide_eq_true h40]; rfl
theorem nm_not {s : ByteArray} {k : Nat} (hk : k < s.size) (h : nmcB s[k].toNat = false) : (B s).all nmcB = false := by
  rw [Bool.eq_false_iff]
  intro ha
  have := List.all_eq_true.1 ha s[k].toNat (List.mem_of_getElem? (B_at s k hk))
  rw [h] at this; cases this
theorem nm_yes {s : ByteArray} (h : ∀ j, j < s.size → nmcB ((B s).getD j 0) = true) : (B s).all nmcB = true := by
  rw [List.all_eq_true]
  intro c hc
  obtain ⟨j, hj, e⟩ := List.getElem_of_mem hc
  rw [B_len] at hj
  have := h j hj
  rwa [List.getD_eq_getElem?_getD, List.getElem?_eq_getElem (by rw [B_len]; exact hj), e] at this
theorem rname_any (s : ByteArray) (w : World) : Calls Tryz.prog 26 #[.string s] w fun e w' => e = .returned (.bool (nameB (B s))) ∧ Below w.heap.size w w' := by
  by_cases h2 : s.size < 2
  · have X := Lib.hid (show nameB (B s) = false by unfold nameB; rw [B_len, decide_eq_false (by omega)]; rfl)
    go_enter Tryz.func26, Tryz.ntmps26
    go_wp2
    go_ret
    exact ⟨by rw [X.out]; rfl, Below.refl _ _⟩
  · by_cases h40 : 40 < s.size
    · have X := Lib.hid (show nameB (B s) = false by unfold nameB; rw [B_len, decide_eq_false (p := s.size ≤ 40) (by omega), Bool.and_false]; rfl)
      have h40' : (40 : Int) < (s.size : Int) := by omega
      go_enter Tryz.func26, Tryz.ntmps26
      go_wp2
      go_ret
      exact ⟨by rw [X.out]; rfl, Below.refl _ _⟩
    · have hs0 : 0 < s.size := by omega
      cases h0 : plnB s[0].toNat
      · have X := Lib.hid (show nameB (B s) = false by unfold nameB; rw [B_getD s 0 hs0, h0, Bool.and_false]; rfl)
        go_enter Tryz.func26, Tryz.ntmps26
        go_wp2_with (go_at_call 62; refine (rplain_any _ _).mono ?_; rw [h0]; rintro e w' ⟨rfl, rfl⟩)
        go_ret
        exact ⟨by rw [X.out]; rfl, Below.refl _ _⟩
      · have X := Lib.hid (nameB_is s (by omega) (by omega) h0)
        obtain ⟨cap, w1, hcv, hb, hcells⟩ := bytes_cells w s
        have HB := Lib.hid hb
        have HC := Lib.hid hcells
        have hlen : s.size ≤ 40 := by omega
        clear hb hcells
        go_enter Tryz.func26, Tryz.ntmps26
        go_wp2_with (go_at_call 62; refine (rplain_any _ _).mono ?_; rw [h0]; rintro e w' ⟨rfl, rfl⟩)
        clear h0 hcv
        go_loop [22] (fun x => ∃ k : Nat, k ≤ s.size ∧ x = .int .i64 k ∧ ∀ j, j < k → nmcB ((B s).getD j 0) = true) (fun x => s.size - (intOf x).toNat)
        case atStart => exact ⟨0, Nat.zero_le _, rfl, fun j hj => by omega⟩
        case round =>
          obtain ⟨k, hk, rfl, hno⟩ := hrel
          have HN := Lib.hid hno
          clear hno
          by_cases hlt : k < s.size
          · have hcell := HC.out k hlt
            have HD := Lib.hid (B_getD s k hlt)
            have NC := Lib.hid (show nmcB s[k].toNat = (plnB s[k].toNat || decide (s[k].toNat = 43) || decide (s[k].toNat = 45) || decide (s[k].toNat = 46)) from rfl)
            have AN := Lib.hid (nm_not hlt)
            have p1 : ((s[k].toNat : Int) != 43) = !decide (s[k].toNat = 43) := by rw [Bool.eq_iff_iff]; simp; omega
            have p2 : ((s[k].toNat : Int) != 45) = !decide (s[k].toNat = 45) := by rw [Bool.eq_iff_iff]; simp; omega
            have p3 : ((s[k].toNat : Int) != 46) = !decide (s[k].toNat = 46) := by rw [Bool.eq_iff_iff]; simp; omega
            generalize s[k].toNat = c at *
            cases g0 : plnB c
            · rw [g0] at NC
              cases g1 : decide (c = 43) <;> rw [g1] at p1 NC
              · cases g2 : decide (c = 45) <;> rw [g2] at p2 NC
                · cases g3 : decide (c = 46) <;> rw [g3] at p3 NC
                  · clear g1 g2 g3
                    go_wp2_with (go_at_call 62; refine (rplain_any _ _).mono ?_; rw [g0]; rintro e w' ⟨rfl, rfl⟩)
                    go_ret
                    exact ⟨by rw [X.out, AN.out (by rw [NC.out]; rfl)]; rfl, HB.out⟩
                  · clear g1 g2 g3
                    go_wp2_with (go_at_call 62; refine (rplain_any _ _).mono ?_; rw [g0]; rintro e w' ⟨rfl, rfl⟩)
                    go_round
                    case rel => exact ⟨k + 1, by omega, by go_num, fun j hj => by rcases (by omega : j < k ∨ j = k) with h | rfl; exact HN.out j h; rw [HD.out, NC.out]; rfl⟩
                    case measure => simp [intOf]; omega
                · clear g1 g2 p3
                  go_wp2_with (go_at_call 62; refine (rplain_any _ _).mono ?_; rw [g0]; rintro e w' ⟨rfl, rfl⟩)
                  go_round
                  case rel => exact ⟨k + 1, by omega, by go_num, fun j hj => by rcases (by omega : j < k ∨ j = k) with h | rfl; exact HN.out j h; rw [HD.out, NC.out]; simp⟩
                  case measure => simp [intOf]; omega
              · clear g1 p2 p3
                go_wp2_with (go_at_call 62; refine (rplain_any _ _).mono ?_; rw [g0]; rintro e w' ⟨rfl, rfl⟩)
                go_round
                case rel => exact ⟨k + 1, by omega, by go_num, fun j hj => by rcases (by omega : j < k ∨ j = k) with h | rfl; exact HN.out j h; rw [HD.out, NC.out]; simp⟩
                case measure => simp [intOf]; omega
            · rw [g0] at NC
              clear p1 p2 p3
              go_wp2_with (go_at_call 62; refine (rplain_any _ _).mono ?_; rw [g0]; rintro e w' ⟨rfl, rfl⟩)
              go_round
              case rel => exact ⟨k + 1, by omega, by go_num, fun j hj => by rcases (by omega : j < k ∨ j = k) with h | rfl; exact HN.out j h; rw [HD.out, NC.out]; simp⟩
              case measure => simp [intOf]; omega
          · have Y := Lib.hid (nm_yes (s := s) (fun j hj => HN.out j (by omega)))
            go_wp2
            go_ret
            exact ⟨by rw [X.out, Y.out]; rfl, HB.out⟩
end Go.Proofs.YtmlakjemgmeffaaGreatDoor
end
