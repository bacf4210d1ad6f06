/- The contract of the program's Name: whether a text is a name. -/
import Derived.Test.YtlelajcnfmmmjaaGreatDoorRel1
import Derived.Laws.IdiomStrings
set_option maxRecDepth 100000
set_option linter.unusedVariables false
set_option linter.unusedSimpArgs false
namespace Go.Proofs.YtlelajcnfmmmjaaGreatDoor
open Go.RowKit
theorem rplain_any (c : Nat) (w : World) : Calls Tryz.prog 21 #[.int .u8 (c : Int)] w fun e w' => e = .returned (.bool (plnB c)) ∧ w = w' := by
  have X := Lib.hid (show plnB c = ((decide ((97 : Int) ≤ c) && decide ((c : Int) ≤ 122)) || (decide ((48 : Int) ≤ c) && decide ((c : Int) ≤ 57))) by unfold plnB digB; rw [Bool.eq_iff_iff]; simp; omega)
  go_enter Tryz.func21, Tryz.ntmps21
  go_wp2
  all_goals
    go_ret
    refine ⟨congrArg (fun b => Ending.returned (.bool b)) ?_, rfl⟩
    rw [X.out, Bool.eq_iff_iff]
    simp
    omega
theorem bytes_cells (w : World) (s : ByteArray) : ∃ (cap : Nat) (w1 : World), (convert 9 40 (.string s)).run Tryz.prog w = .ok (.slice (some ⟨w.heap.size, 0, none⟩) s.size cap) w1 ∧ Below w.heap.size w w1 ∧ ∀ (k : Nat) (hk : k < s.size), w1.cell? ⟨w.heap.size, k, none⟩ = some (.int .u8 (s[k].toNat : Int)) := by
  refine ⟨_, _, run_bytes_of_string w 9 40 5 s Tryz.underlying9 Tryz.underlying40 Tryz.underlying5, (Below.refl _ w).drew.alloc (Nat.le_refl _) _, ?_⟩
  intro k hk
  have hk2 : k < s.data.size := hk
  have : (bytesRow s (grownCap w s.size 0 5))[k]? = some (.int .u8 (s[k].toNat : Int)) := by
    unfold bytesRow
    rw [Array.getElem?_append_left (by simpa using hk2), Array.getElem?_map, Array.getElem?_eq_getElem hk2]
    rfl
  exact (World.cell?_alloc_mark w.drew _ _ _ k).trans this
theorem nameB_is (s : ByteArray) (h2 : 2 ≤ s.size) (h40 : s.size ≤ 40) (h0 : plnB s[0].toNat = true) : nameB (B s) = (B s).all nmcB := by
  unfold nameB
  rw [B_len, B_getD s 0 (by omega), h0, decide_eq_true h2, decide_eq_true h40]; rfl
theorem nm_not {s : ByteArray} {k : Nat} (hk : k < s.size) (h : nmcB s[k].toNat = false) : (B s).all nmcB = false := by
  rw [Bool.eq_false_iff]
  intro ha
  have := List.all_eq_true.1 ha s[k].toNat (List.mem_of_getElem? (B_at s k hk))
  rw [h] at this; cases this
theorem nm_yes {s : ByteArray} (h : ∀ j, j < s.size → nmcB ((B s).getD j 0) = true) : (B s).all nmcB = true := by
  rw [List.all_eq_true]
  intro c hc
  obtain ⟨j, hj, e⟩ := List.getElem_of_mem hc
  rw [B_len] at hj
  have := h j hj
  rwa [List.getD_eq_getElem?_getD, List.getElem?_eq_getElem (by rw [B_len]; exact hj), e] at this
theorem rname_any (s : ByteArray) (w : World) : Calls Tryz.prog 8 #[.string s] w fun e w' => e = .returned (.bool (nameB (B s))) ∧ Below w.heap.size w w' := by
  by_cases h2 : s.size < 2
  · have X := Lib.hid (show nameB (B s) = false by unfold nameB; rw [B_len, decide_eq_false (by omega)]; rfl)
    go_enter Tryz.func8, Tryz.ntmps8
    go_wp2
    go_ret
    exact ⟨by rw [X.out]; rfl, Below.refl _ _⟩
  · by_cases h40 : 40 < s.size
    · have X := Lib.hid (show nameB (B s) = false by unfold nameB; rw [B_len, decide_eq_false (p := s.size ≤ 40) (by omega), Bool.and_false]; rfl)
      have h40' : (40 : Int) < (s.size : Int) := by omega
      go_enter Tryz.func8, Tryz.ntmps8
      go_wp2
      go_ret
      exact ⟨by rw [X.out]; rfl, Below.refl _ _⟩
    · have hs0 : 0 < s.size := by omega
      cases h0 : plnB s[0].toNat
      · have X := Lib.hid (show nameB (B s) = false by unfold nameB; rw [B_getD s 0 hs0, h0, Bool.and_false]; rfl)
        go_enter Tryz.func8, Tryz.ntmps8
        go_wp2_with (go_at_call 21; refine (rplain_any _ _).mono ?_; rw [h0]; rintro e w' ⟨rfl, rfl⟩)
        go_ret
        exact ⟨by rw [X.out]; rfl, Below.refl _ _⟩
      · have X := Lib.hid (nameB_is s (by omega) (by omega) h0)
        obtain ⟨cap, w1, hcv, hb, hcells⟩ := bytes_cells w s
        have HB := Lib.hid hb
        have HC := Lib.hid hcells
        have hlen : s.size ≤ 40 := by omega
        clear hb hcells
        go_enter Tryz.func8, Tryz.ntmps8
        go_wp2_with (go_at_call 21; refine (rplain_any _ _).mono ?_; rw [h0]; rintro e w' ⟨rfl, rfl⟩)
        clear h0 hcv
        go_loop [22] (fun x => ∃ k : Nat, k ≤ s.size ∧ x = .int .i64 k ∧ ∀ j, j < k → nmcB ((B s).getD j 0) = true) (fun x => s.size - (intOf x).toNat)
        case atStart => exact ⟨0, Nat.zero_le _, rfl, fun j hj => by omega⟩
        case round =>
          obtain ⟨k, hk, rfl, hno⟩ := hrel
          have HN := Lib.hid hno
          clear hno
          by_cases hlt : k < s.size
          · have hcell := HC.out k hlt
            have HD := Lib.hid (B_getD s k hlt)
            have NC := Lib.hid (show nmcB s[k].toNat = (plnB s[k].toNat || decide (s[k].toNat = 43) || decide (s[k].toNat = 45) || decide (s[k].toNat = 46)) from rfl)
            have AN := Lib.hid (nm_not hlt)
            have p1 : ((s[k].toNat : Int) != 43) = !decide (s[k].toNat = 43) := by rw [Bool.eq_iff_iff]; simp; omega
            have p2 : ((s[k].toNat : Int) != 45) = !decide (s[k].toNat = 45) := by rw [Bool.eq_iff_iff]; simp; omega
            have p3 : ((s[k].toNat : Int) != 46) = !decide (s[k].toNat = 46) := by rw [Bool.eq_iff_iff]; simp; omega
            generalize s[k].toNat = c at *
            cases g0 : plnB c
            · rw [g0] at NC
              cases g1 : decide (c = 43) <;> rw [g1] at p1 NC
              · cases g2 : decide (c = 45) <;> rw [g2] at p2 NC
                · cases g3 : decide (c = 46) <;> rw [g3] at p3 NC
                  · clear g1 g2 g3
                    go_wp2_with (go_at_call 21; refine (rplain_any _ _).mono ?_; rw [g0]; rintro e w' ⟨rfl, rfl⟩)
                    go_ret
                    exact ⟨by rw [X.out, AN.out (by rw [NC.out]; rfl)]; rfl, HB.out⟩
                  · clear g1 g2 g3
                    go_wp2_with (go_at_call 21; refine (rplain_any _ _).mono ?_; rw [g0]; rintro e w' ⟨rfl, rfl⟩)
                    go_round
                    case rel => exact ⟨k + 1, by omega, by go_num, fun j hj => by rcases (by omega : j < k ∨ j = k) with h | rfl; exact HN.out j h; rw [HD.out, NC.out]; rfl⟩
                    case measure => simp [intOf]; omega
                · clear g1 g2 p3
                  go_wp2_with (go_at_call 21; refine (rplain_any _ _).mono ?_; rw [g0]; rintro e w' ⟨rfl, rfl⟩)
                  go_round
                  case rel => exact ⟨k + 1, by omega, by go_num, fun j hj => by rcases (by omega : j < k ∨ j = k) with h | rfl; exact HN.out j h; rw [HD.out, NC.out]; simp⟩
                  case measure => simp [intOf]; omega
              · clear g1 p2 p3
                go_wp2_with (go_at_call 21; refine (rplain_any _ _).mono ?_; rw [g0]; rintro e w' ⟨rfl, rfl⟩)
                go_round
                case rel => exact ⟨k + 1, by omega, by go_num, fun j hj => by rcases (by omega : j < k ∨ j = k) with h | rfl; exact HN.out j h; rw [HD.out, NC.out]; simp⟩
                case measure => simp [intOf]; omega
            · rw [g0] at NC
              clear p1 p2 p3
              go_wp2_with (go_at_call 21; refine (rplain_any _ _).mono ?_; rw [g0]; rintro e w' ⟨rfl, rfl⟩)
              go_round
              case rel => exact ⟨k + 1, by omega, by go_num, fun j hj => by rcases (by omega : j < k ∨ j = k) with h | rfl; exact HN.out j h; rw [HD.out, NC.out]; simp⟩
              case measure => simp [intOf]; omega
          · have Y := Lib.hid (nm_yes (s := s) (fun j hj => HN.out j (by omega)))
            go_wp2
            go_ret
            exact ⟨by rw [X.out, Y.out]; rfl, HB.out⟩
end Go.Proofs.YtlelajcnfmmmjaaGreatDoor
