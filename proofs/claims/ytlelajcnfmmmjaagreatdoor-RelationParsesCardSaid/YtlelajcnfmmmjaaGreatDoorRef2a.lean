/- The contracts of the document's own small functions on bytes: digits, letters, signs, weights; memory is as it was. -/
import Derived.Test.YtlelajcnfmmmjaaGreatDoorChecked
import Derived.Test.YtlelajcnfmmmjaaGreatDoorStr
import Derived.WalkKit
import Derived.WalkLawsBesides
import Derived.WalkSpells
namespace Go.Proofs.YtlelajcnfmmmjaaGreatDoor
open Go.RowKit
theorem Digit_any (c : Nat) (w : World) : Calls Tryz.prog 22 #[.int .u8 (c : Int)] w fun e w' => e = .returned (.bool (digB c)) ∧ w = w' := by
  have X := Lib.hid (show digB c = (decide ((48 : Int) ≤ c) && decide ((c : Int) ≤ 57)) by unfold digB; rw [Bool.eq_iff_iff]; simp; omega)
  by_cases h : (48 : Int) ≤ c
  · go_enter Tryz.func22, Tryz.ntmps22
    go_wp2
    go_ret
    refine ⟨?_, rfl⟩
    rw [X.out]; simp [h]
  · have h2 : (c : Int) < 48 := by omega
    go_enter Tryz.func22, Tryz.ntmps22
    go_wp2
    go_ret
    refine ⟨?_, rfl⟩
    rw [X.out]; simp; omega
theorem Letter_any (c : Nat) (w : World) : Calls Tryz.prog 68 #[.int .u8 (c : Int)] w fun e w' => e = .returned (.bool (letB c)) ∧ w = w' := by
  have X := Lib.hid (show letB c = ((decide ((97 : Int) ≤ c) && decide ((c : Int) ≤ 122)) || (decide ((65 : Int) ≤ c) && decide ((c : Int) ≤ 90))) by unfold letB; rw [Bool.eq_iff_iff]; simp; omega)
  go_enter Tryz.func68, Tryz.ntmps68
  go_wp2
  all_goals
    go_ret
    refine ⟨congrArg (fun b => Ending.returned (.bool b)) ?_, rfl⟩
    rw [X.out, Bool.eq_iff_iff]
    simp
    omega
def hasB (l : List Nat) (c : Nat) : Bool := l.contains c
theorem hasB_take {l : List Nat} {c k : Nat} (h : ∀ j, j < k → l.getD j 256 ≠ c) (hk : l.length ≤ k) : hasB l c = false := by
  unfold hasB
  rw [Bool.eq_false_iff]
  intro hc
  obtain ⟨j, hj, e⟩ := List.getElem_of_mem (List.contains_iff_mem.1 hc)
  exact h j (by omega) (by rw [List.getD_eq_getElem?_getD, List.getElem?_eq_getElem hj]; exact e)
theorem has_any (s : ByteArray) (c : Nat) (w : World) (hs : s.size ≤ 9223372036854775807) : Calls Tryz.prog 67 #[.string s, .int .u8 (c : Int)] w fun e w' => e = .returned (.bool (hasB (B s) c)) ∧ w = w' := by
  go_enter Tryz.func67, Tryz.ntmps67
  go_wp2
  go_loop [5] (fun i => ∃ k : Nat, k ≤ s.size ∧ i = .int .i64 k ∧ ∀ j, j < k → (B s).getD j 256 ≠ c) (fun i => s.size - (intOf i).toNat)
  case atStart => exact ⟨0, Nat.zero_le _, rfl, fun j hj => by omega⟩
  case round =>
    obtain ⟨k, hk, rfl, hno⟩ := hrel
    have HN := Lib.hid hno
    clear hno
    by_cases hlt : k < s.size
    · have hb := B_at s k hlt
      have HB := Lib.hid hb
      clear hb
      by_cases hc : s[k].toNat = c
      · have h1 : ((s[k].toNat : Int) == (c : Int)) = true := by rw [beq_iff_eq]; omega
        have HC := Lib.hid hc
        clear hc
        go_wp2
        go_ret
        refine ⟨congrArg (fun b => Ending.returned (.bool b)) ?_, rfl⟩
        unfold hasB
        rw [eq_comm, List.contains_iff_mem]
        exact List.mem_of_getElem? (HC.out ▸ HB.out)
      · have h1 : ((s[k].toNat : Int) == (c : Int)) = false := by rw [beq_eq_false_iff_ne]; omega
        have HC := Lib.hid hc
        clear hc
        go_wp2
        go_round
        case rel => exact ⟨k + 1, by omega, by go_num, fun j hj => by rcases (by omega : j < k ∨ j = k) with h | rfl; exact HN.out j h; rw [List.getD_eq_getElem?_getD, HB.out]; exact HC.out⟩
        case measure => simp [intOf]; omega
    · go_wp2
      go_ret
      exact ⟨by rw [hasB_take HN.out (by rw [B_len]; omega)]; rfl, rfl⟩

end Go.Proofs.YtlelajcnfmmmjaaGreatDoor
