/- The contracts of sum.Compare and sum.Best: how two costs stand, number for number, and the place of the least; memory before is as it was. -/
import Derived.Test.YtobamjjonkhcfaaTotal
import Derived.WalkSpells
namespace Go.Proofs.Ytobamjjonkhcfaa
open Go.RowKit

def cmp1 (a b : Int) : Int := if a < b then -1 else if b < a then 1 else 0
def cmpL : List Int → List Int → Int
  | x :: a, y :: b => if x < y then -1 else if y < x then 1 else cmpL a b
  | _, _ => 0
def five (l : List Int) : Value := .agg #[.int .i64 (l.getD 0 0), .int .i64 (l.getD 1 0), .int .i64 (l.getD 2 0), .int .i64 (l.getD 3 0), .int .i64 (l.getD 4 0)]

theorem cmpInt_any (a b : Int) (w : World) : Calls Try.prog 33 #[.int .i64 a, .int .i64 b] w fun e w' => e = .returned (.int .i64 (cmp1 a b)) ∧ w = w' := by
  have X := Lib.hid (show (a < b → cmp1 a b = -1) ∧ (¬ a < b → b < a → cmp1 a b = 1) ∧ (¬ a < b → ¬ b < a → cmp1 a b = 0) by
    unfold cmp1; refine ⟨fun h => by simp [h], fun h h2 => by simp [h, h2], fun h h2 => by simp [h, h2]⟩)
  rcases Int.lt_trichotomy a b with h | h | h
  · go_enter Try.func33, Try.ntmps33
    go_wp2
    go_ret
    exact ⟨by rw [X.out.1 h]; rfl, rfl⟩
  · have h1 : a ≤ b := by omega
    have h2 : b ≤ a := by omega
    clear h
    go_enter Try.func33, Try.ntmps33
    go_wp2
    go_ret
    exact ⟨by rw [X.out.2.2 (by omega) (by omega)]; rfl, rfl⟩
  · go_enter Try.func33, Try.ntmps33
    go_wp2
    go_ret
    exact ⟨by rw [X.out.2.1 (by omega) h]; rfl, rfl⟩

theorem compare_five (a0 a1 a2 a3 a4 b0 b1 b2 b3 b4 : Int) (w : World) :
    Calls Try.prog 20 #[.agg #[.int .i64 a0, .int .i64 a1, .int .i64 a2, .int .i64 a3, .int .i64 a4], .agg #[.int .i64 b0, .int .i64 b1, .int .i64 b2, .int .i64 b3, .int .i64 b4]] w fun e w' => e = .returned (.int .i64 (cmpL [a0, a1, a2, a3, a4] [b0, b1, b2, b3, b4])) ∧ Below w.heap.size w w' := by
  obtain ⟨la, hla⟩ : ∃ la, la = [a0, a1, a2, a3, a4] := ⟨_, rfl⟩
  obtain ⟨lb, hlb⟩ : ∃ lb, lb = [b0, b1, b2, b3, b4] := ⟨_, rfl⟩
  have hix : ∀ k : Nat, k < 5 → ∃ x y, (∀ w, (Instr.index 32 (.agg #[.int .i64 a0, .int .i64 a1, .int .i64 a2, .int .i64 a3, .int .i64 a4]) (.int .i64 (k : Int))).run Try.prog w = .ok (.int .i64 x) w) ∧
      ((w.alloc (.cells #[.int .i64 a0, .int .i64 a1, .int .i64 a2, .int .i64 a3, .int .i64 a4] 32)).alloc (.cells #[.int .i64 b0, .int .i64 b1, .int .i64 b2, .int .i64 b3, .int .i64 b4] 32)).cell? ⟨w.heap.size + 1, k, none⟩ = some (.int .i64 y) ∧
      cmpL (la.drop k) (lb.drop k) = if x < y then -1 else if y < x then 1 else cmpL (la.drop (k + 1)) (lb.drop (k + 1)) := by
    intro k hk
    rcases (by omega : k = 0 ∨ k = 1 ∨ k = 2 ∨ k = 3 ∨ k = 4) with rfl | rfl | rfl | rfl | rfl
    · exact ⟨a0, b0, fun _ => by kernel_rfl, by simp [go_sem], by rw [hla, hlb]; rfl⟩
    · exact ⟨a1, b1, fun _ => by kernel_rfl, by simp [go_sem], by rw [hla, hlb]; rfl⟩
    · exact ⟨a2, b2, fun _ => by kernel_rfl, by simp [go_sem], by rw [hla, hlb]; rfl⟩
    · exact ⟨a3, b3, fun _ => by kernel_rfl, by simp [go_sem], by rw [hla, hlb]; rfl⟩
    · exact ⟨a4, b4, fun _ => by kernel_rfl, by simp [go_sem], by rw [hla, hlb]; rfl⟩
  have h5 : cmpL (la.drop 5) (lb.drop 5) = 0 := by rw [hla, hlb]; rfl
  rw [← hla, ← hlb]
  have HX := Lib.hid hix
  have H5 := Lib.hid h5
  clear hix h5 hla hlb
  go_enter Try.func20, Try.ntmps20
  go_wp2
  go_loop [9] (fun i => ∃ k : Nat, k ≤ 5 ∧ i = .int .i64 k ∧ cmpL la lb = cmpL (la.drop k) (lb.drop k)) (fun i => 5 - (intOf i).toNat)
  case atStart => exact ⟨0, by omega, rfl, rfl⟩
  case round =>
    obtain ⟨k, hk, rfl, hc⟩ := hrel
    have HC := Lib.hid hc
    clear hc
    by_cases hlt : k < 5
    · obtain ⟨x, y, hx, hy, hd⟩ := HX.out k hlt
      have HD := Lib.hid hd
      clear hd
      rcases Int.lt_trichotomy x y with h | h | h
      · have E := Lib.hid (show cmp1 x y = -1 by unfold cmp1; simp [h])
        go_wp2_with (go_at_call 33; refine (cmpInt_any _ _ _).mono ?_; rw [E.out]; rintro e w' ⟨rfl, rfl⟩)
        go_ret
        refine ⟨?_, (((Below.refl _ w).alloc (Nat.le_refl _) _).alloc (by simp) _)⟩
        rw [HC.out, HD.out, if_pos h]; rfl
      · have E := Lib.hid (show cmp1 x y = 0 by unfold cmp1; simp [h])
        have H := Lib.hid h
        clear h
        go_wp2_with (go_at_call 33; refine (cmpInt_any _ _ _).mono ?_; rw [E.out]; rintro e w' ⟨rfl, rfl⟩)
        go_round
        case rel => exact ⟨k + 1, by omega, by go_num, by have := H.out; rw [HC.out, HD.out, if_neg (by omega), if_neg (by omega)]⟩
        case measure => simp [intOf]; omega
      · have E := Lib.hid (show cmp1 x y = 1 by unfold cmp1; simp [h]; omega)
        go_wp2_with (go_at_call 33; refine (cmpInt_any _ _ _).mono ?_; rw [E.out]; rintro e w' ⟨rfl, rfl⟩)
        go_ret
        refine ⟨?_, (((Below.refl _ w).alloc (Nat.le_refl _) _).alloc (by simp) _)⟩
        rw [HC.out, HD.out, if_neg (by omega), if_pos h]; rfl
    · have hk5 : k = 5 := by omega
      go_wp2
      go_ret
      refine ⟨?_, (((Below.refl _ w).alloc (Nat.le_refl _) _).alloc (by simp) _)⟩
      rw [HC.out, hk5, H5.out]; rfl
end Go.Proofs.Ytobamjjonkhcfaa
