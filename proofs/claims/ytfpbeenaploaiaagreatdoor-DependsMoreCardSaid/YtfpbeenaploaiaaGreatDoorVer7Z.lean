/- The contracts of the program's own Right, and what it asks of an upstream part. -/
import Derived.Test.YtfpbeenaploaiaaGreatDoorVer6Z
import Derived.Lib.IndexAny
set_option maxRecDepth 100000
set_option linter.unusedVariables false
set_option linter.unusedSimpArgs false
namespace Go.Proofs.YtfpbeenaploaiaaGreatDoor
open Go.RowKit
theorem contains_is (s : ByteArray) (c : UInt8) : decide (0 ≤ Lib.indexByte s.data.toList c) = hasB (B s) c.toNat := by
  rw [← Lib.contains_iff_indexByte]
  unfold hasB B
  rw [Bool.eq_iff_iff, List.contains_iff_mem, List.contains_iff_mem, List.mem_map]
  exact ⟨fun h => ⟨c, h, rfl⟩, fun ⟨d, h, e⟩ => by rwa [← UInt8.toNat_inj.1 e]⟩
theorem has45_any (s : ByteArray) (w : World) : Calls Tryz.prog 104 #[.string s, .string { data := #[45] }] w fun e w' => e = .returned (.bool (hasB (B s) 45)) ∧ w = w' := by
  refine (Tryz.strings_Contains_one s 45 w).mono ?_
  rintro e w' ⟨rfl, rfl⟩
  exact ⟨by rw [contains_is]; rfl, rfl⟩
theorem has58_any (s : ByteArray) (w : World) : Calls Tryz.prog 104 #[.string s, .string { data := #[58] }] w fun e w' => e = .returned (.bool (hasB (B s) 58)) ∧ w = w' := by
  refine (Tryz.strings_Contains_one s 58 w).mono ?_
  rintro e w' ⟨rfl, rfl⟩
  exact ⟨by rw [contains_is]; rfl, rfl⟩
def upB (e : Int) (u r : List Nat) : Bool := headD u && u.all (chB uX) && !(hasB u 45 && decide (r = [])) && !(hasB u 58 && decide (e = 0))
theorem rightB_up (e : Int) (u r : List Nat) : rightB e u r = (decide (0 ≤ e ∧ e ≤ 999999999) && upB e u r && r.all (chB rX) && decide ((textL e.toNat u r).length ≤ 60)) := by
  unfold rightB upB
  generalize decide (0 ≤ e ∧ e ≤ 999999999) = a
  generalize headD u = b
  generalize (hasB u 45 && decide (r = [])) = c
  generalize (hasB u 58 && decide (e = 0)) = d
  generalize u.all (chB uX) = f
  cases a <;> cases b <;> cases c <;> cases d <;> cases f <;> rfl
theorem eachU_any (u : ByteArray) (w : World) (hs : u.size ≤ 65536) : Calls Tryz.prog 86 #[.string u, .func (.func 103) #[] #[]] w fun e w' => e = .returned (.bool ((B u).all (chB uX))) ∧ ∃ n, w' = w.drewN n :=
  each_any _ (chB uX) u w (by omega) (fun _ _ => by kernel_rfl) vup_any
theorem eachR_any (u : ByteArray) (w : World) (hs : u.size ≤ 65536) : Calls Tryz.prog 86 #[.string u, .func (.func 87) #[] #[]] w fun e w' => e = .returned (.bool ((B u).all (chB rX))) ∧ ∃ n, w' = w.drewN n :=
  each_any _ (chB rX) u w (by omega) (fun _ _ => by kernel_rfl) vrev_any
theorem bel_d {w w1 : World} (h : Below w.heap.size w w1) (n : Nat) : Below w.heap.size w (w1.drewN n) := ⟨h.os, h.tape, h.output, h.size, h.block⟩
theorem bel_box (w : World) (o : Obj) : Below w.heap.size w (w.alloc o) := (Below.refl _ w).alloc (Nat.le_refl _) o
theorem vupstream_any (e : Int) (u r : ByteArray) (w : World) (hsz : u.size ≤ 65536) (hrz : r.size ≤ 65536) :
    Calls Tryz.prog 85 #[.agg #[.int .i64 e, .string u, .string r]] w fun e' w' => e' = .returned (.bool (upB e (B u) (B r))) ∧ Below w.heap.size w w' := by
  have KE := Lib.hid (fun w => eachU_any u w hsz)
  have K45 := Lib.hid (has45_any u)
  have K58 := Lib.hid (has58_any u)
  cases hu : u.toList.isEmpty
  · have hs : 0 < u.size := by
      rcases Nat.eq_zero_or_pos u.size with h | h
      · have := (empty_iff u).2 (List.eq_nil_of_length_eq_zero (by rw [B_len]; exact h))
        rw [hu] at this; cases this
      · exact h
    have KD := Lib.hid (vdigit_any u[0].toNat)
    cases hd : digB u[0].toNat
    · have X := Lib.hid (show upB e (B u) (B r) = false by unfold upB; rw [headD_at u hs, hd]; rfl)
      rw [hd] at KD
      clear hd
      go_enter Tryz.func85, Tryz.ntmps85
      go_wp2_with (go_at_call 93; (with_reducible refine (KD.out _).mono ?_); rintro e' w1 ⟨rfl, rfl⟩)
      go_ret
      exact ⟨by rw [X.out]; rfl, bel_box _ _⟩
    · rw [hd] at KD
      have HD := Lib.hid hd
      clear hd
      cases ha : (B u).all (chB uX)
      · have X := Lib.hid (show upB e (B u) (B r) = false by unfold upB; rw [headD_at u hs, HD.out, ha]; rfl)
        rw [ha] at KE
        clear ha
        go_enter Tryz.func85, Tryz.ntmps85
        go_wp2_with (first | (go_at_call 93; (with_reducible refine (KD.out _).mono ?_); rintro e' w1 ⟨rfl, rfl⟩) | (go_at_call 86; (with_reducible refine (KE.out _).mono ?_); rintro e' w1 ⟨rfl, n, rfl⟩))
        go_ret
        exact ⟨by rw [X.out]; rfl, bel_d (bel_box _ _) _⟩
      · have X := Lib.hid (show upB e (B u) (B r) = (!(hasB (B u) 45 && r.toList.isEmpty) && !(hasB (B u) 58 && (e == 0))) by
          unfold upB; rw [headD_at u hs, HD.out, ha]
          have h1 : decide (B r = []) = r.toList.isEmpty := by rw [Bool.eq_iff_iff, decide_eq_true_iff, empty_iff]
          have h2 : decide (e = 0) = (e == 0) := by rw [Bool.eq_iff_iff, decide_eq_true_iff, beq_iff_eq]
          rw [h1, h2]; simp)
        rw [ha] at KE
        clear ha
        cases hre : r.toList.isEmpty <;> cases h45 : hasB (B u) 45 <;> cases h58 : hasB (B u) 58 <;> cases he0 : (e == 0)
        all_goals
          have hn0 : (e != 0) = !(e == 0) := rfl
          rw [he0] at hn0
          rw [h45] at K45
          rw [h58] at K58
          rw [h45, h58, hre, he0] at X
          clear he0 h45 h58
          simp only [Bool.not_true, Bool.not_false] at hn0
          go_enter Tryz.func85, Tryz.ntmps85
          go_wp2_with (first | (go_at_call 93; (with_reducible refine (KD.out _).mono ?_); rintro e' w1 ⟨rfl, rfl⟩) | (go_at_call 86; (with_reducible refine (KE.out _).mono ?_); rintro e' w1 ⟨rfl, n, rfl⟩) | (go_at_call 104; (with_reducible refine (K45.out _).mono ?_); rintro e' w1 ⟨rfl, rfl⟩) | (go_at_call 104; (with_reducible refine (K58.out _).mono ?_); rintro e' w1 ⟨rfl, rfl⟩))
          go_ret
          exact ⟨by rw [X.out]; rfl, bel_d (bel_box _ _) _⟩
  · have X := Lib.hid (show upB e (B u) (B r) = false by unfold upB; rw [(empty_iff u).1 hu]; rfl)
    go_enter Tryz.func85, Tryz.ntmps85
    go_wp2
    go_ret
    exact ⟨by rw [X.out]; rfl, bel_box _ _⟩
end Go.Proofs.YtfpbeenaploaiaaGreatDoor
