/- The contract of the document's own Decimal: a number's digits; memory is as it was. -/
import Derived.Test.YtlelajcnfmmmjaaGreatDoorRef2b
namespace Go.Proofs.YtlelajcnfmmmjaaGreatDoor
open Go.RowKit
/-- A number's digits, put ahead of some bytes. -/
def decF : Nat → Nat → List Nat → List Nat
  | 0, _, l => l
  | f + 1, n, l => if n < 10 then (48 + n) :: l else decF f (n / 10) ((48 + n % 10) :: l)
def decL (n : Nat) : List Nat := decF (n + 1) n []
theorem decF_fuel : ∀ (f g n : Nat) (l : List Nat), n < f → n < g → decF f n l = decF g n l
  | 0, _, _, _, h, _ => by omega
  | _ + 1, 0, _, _, _, h => by omega
  | f + 1, g + 1, n, l, h1, h2 => by
    simp only [decF]
    by_cases h : n < 10
    · rw [if_pos h, if_pos h]
    · rw [if_neg h, if_neg h]
      exact decF_fuel f g _ _ (by omega) (by omega)
theorem decF_lt : ∀ (f n : Nat) (l : List Nat), (∀ c ∈ l, c < 256) → ∀ c ∈ decF f n l, c < 256
  | 0, _, _, h => h
  | f + 1, n, l, h => by
    simp only [decF]
    split
    · intro c hc
      rcases List.mem_cons.1 hc with rfl | hc
      · omega
      · exact h c hc
    · refine decF_lt f _ _ (fun c hc => ?_)
      rcases List.mem_cons.1 hc with rfl | hc
      · omega
      · exact h c hc
theorem decL_lt (n : Nat) : ∀ c ∈ decL n, c < 256 := decF_lt _ _ _ (by simp)
def tenS : ByteArray := { data := #[48, 49, 50, 51, 52, 53, 54, 55, 56, 57] }
theorem digit_at : ∀ d, d < 10 → ((B tenS).drop d).take (d + 1 - d) = [48 + d] := by decide
theorem B_digit (s : ByteArray) (d : Nat) (h : d < 10) : B (tenS.extract d (d + 1) ++ s) = (48 + d) :: B s := by
  rw [B_append, B_extract, digit_at d h]; rfl
theorem digit_size (s : ByteArray) (d : Nat) (h : d < 10) : (tenS.extract d (d + 1) ++ s).size = s.size + 1 := by
  rw [← B_len, B_digit s d h, List.length_cons, B_len]
/-- What has been made of a number: nothing yet, or its last digits. -/
def DecRel (n m : Nat) (s : ByteArray) : Prop := (s.size = 0 ∧ m = n) ∨ (s.size ≠ 0 ∧ decL n = if m = 0 then B s else decF (m + 1) m (B s))
theorem decRel_step {n m : Nat} {s : ByteArray} (h : DecRel n m s) (hg : 0 < m ∨ s.size = 0) : DecRel n (m / 10) (tenS.extract (m % 10) (m % 10 + 1) ++ s) := by
  have hd : m % 10 < 10 := Nat.mod_lt _ (by omega)
  right
  rw [digit_size s _ hd, B_digit s _ hd]
  refine ⟨by omega, ?_⟩
  have e : decL n = decF (m + 1) m (B s) := by
    rcases h with ⟨h1, rfl⟩ | ⟨h1, h2⟩
    · have : B s = [] := List.eq_nil_of_length_eq_zero (by rw [B_len]; exact h1)
      rw [this]; rfl
    · rw [h2, if_neg (by omega)]
  rw [e]
  simp only [decF]
  by_cases h10 : m < 10
  · rw [if_pos h10, if_pos (by omega), Nat.mod_eq_of_lt h10]
  · rw [if_neg h10, if_neg (by omega)]
    have := decF_fuel m (m / 10 + 1) (m / 10) ((48 + m % 10) :: B s) (by omega) (by omega)
    rw [this]
    rfl
def decM (x y : Value) : Nat := (intOf x).toNat + (match y with | .string s => 1 - s.size | _ => 0)
theorem decM_step {m : Nat} {s : ByteArray} (h : 0 < m ∨ s.size = 0) : decM (.int .i64 ((m : Int) / 10)) (.string (tenS.extract (m % 10) (m % 10 + 1) ++ s)) < decM (.int .i64 m) (.string s) := by
  have e := digit_size s (m % 10) (Nat.mod_lt _ (by omega))
  unfold decM intOf
  simp only [e]
  omega
theorem decimal_any (n : Nat) (w : World) (hn : n ≤ 9223372036854775807) :
    Calls Tryz.prog 66 #[.int .i64 (n : Int)] w fun e w' => e = .returned (.string (mk (decL n))) ∧ w = w' := by
  go_enter Tryz.func66, Tryz.ntmps66
  go_wp2
  go_loop [0, 3] (fun x y => ∃ (m : Nat) (s : ByteArray), (s.size + m ≤ n ∨ (m = 0 ∧ s.size ≤ 1)) ∧ x = .int .i64 m ∧ y = .string s ∧ DecRel n m s) (fun x y => decM x y)
  case atStart => exact ⟨n, _, .inl (by show 0 + n ≤ n; omega), rfl, rfl, .inl ⟨rfl, rfl⟩⟩
  case round =>
    obtain ⟨m, s, hm, rfl, rfl, hd⟩ := hrel
    have HD := Lib.hid hd
    have HM := Lib.hid hm
    clear hd
    by_cases h : 0 < m
    · have hmn : m ≤ n := by omega
      have hsz : min (m % 10 + 1) 10 - m % 10 + s.size ≤ 9223372036854775807 := by omega
      clear hm
      go_wp2
      go_round
      case rel => exact ⟨m / 10, _, by have := HM.out; have e := digit_size s (m % 10) (Nat.mod_lt _ (by omega)); show (tenS.extract (m % 10) (m % 10 + 1) ++ s).size + m / 10 ≤ n ∨ _; rw [e]; omega, by go_num, rfl, decRel_step HD.out (.inl h)⟩
      case measure => exact decM_step (.inl h)
    · have hm0 : m ≤ 0 := by omega
      by_cases hs : s.size = 0
      · have t1 : s.toList.isEmpty = true := by rw [toList_data, List.isEmpty_iff]; exact List.eq_nil_of_length_eq_zero (by rw [Array.length_toList]; exact hs)
        have hsz : min (m % 10 + 1) 10 - m % 10 + s.size ≤ 9223372036854775807 := by omega
        have HS := Lib.hid hs
        clear hs hm
        go_wp2
        go_round
        case rel => exact ⟨m / 10, _, by have := HS.out; have e := digit_size s (m % 10) (Nat.mod_lt _ (by omega)); show (tenS.extract (m % 10) (m % 10 + 1) ++ s).size + m / 10 ≤ n ∨ (m / 10 = 0 ∧ (tenS.extract (m % 10) (m % 10 + 1) ++ s).size ≤ 1); rw [e]; omega, by go_num, rfl, decRel_step HD.out (.inr HS.out)⟩
        case measure => exact decM_step (.inr HS.out)
      · have t1 : s.toList.isEmpty = false := by
          rw [toList_data, List.isEmpty_eq_false_iff]
          intro he
          apply hs
          have := congrArg List.length he
          rw [Array.length_toList] at this
          exact this
        have HF := Lib.hid (show s = mk (decL n) by
          refine eq_mk ?_
          rcases HD.out with ⟨h1, _⟩ | ⟨_, h2⟩
          · exact absurd h1 hs
          · rw [h2, if_pos (by omega)])
        clear hs hm
        go_wp2
        go_ret
        exact ⟨by rw [← HF.out]; rfl, rfl⟩
end Go.Proofs.YtlelajcnfmmmjaaGreatDoor
