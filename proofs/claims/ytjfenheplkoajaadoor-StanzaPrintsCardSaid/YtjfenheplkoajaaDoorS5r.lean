/- The contracts of the program's end with no open stanza, and of its read of a line that is refused. -/
import Derived.Test.YtjfenheplkoajaaDoorS5q
set_option maxRecDepth 100000
set_option linter.unusedVariables false
set_option linter.unusedSimpArgs false
namespace Go.Proofs.YtjfenheplkoajaaDoor
open Go.RowKit
set_option maxHeartbeats 1000000 in
theorem end5_none (N r k : Nat) (p : PS) (vs vo vl : Value) (w : World) (hR : RdP w N r k p vs vo vl) (h : p.op = []) :
    Calls Tryd.prog 44 #[.pointer (some ⟨r, 0, none⟩)] w fun e w' => e = .returned (.tuple #[]) ∧ w = w' := by
  obtain ⟨A, c, rfl, hc1, hc2⟩ := hR.own
  have hc2' : c ≤ 9223372036854775807 := hc2
  have c2 := hR.c2
  rw [h] at c2
  simp only [List.length_nil] at c2
  clear hR h hc1 hc2
  go_enter Tryd.func44, Tryd.ntmps44
  go_wp2
  exact bodyPost_ret_by (results_none (by rfl) _ _ _) rfl ⟨rfl, rfl⟩
set_option maxHeartbeats 2000000 in
theorem read5_no (x : ByteArray) (N r k : Nat) (p : PS) (vs vo vl : Value) (m : Int) (w : World) (hR : RdP w N r k p vs vo vl) (hr : r < w.heap.size) (hx : x.size ≤ 65536) (hm : w.cell? ⟨0, 0, none⟩ = some (.int .i64 m)) (h : lnE p (B x) ≠ 0) :
    Calls Tryd.prog 43 #[.pointer (some ⟨r, 0, none⟩), .string x] w fun e w' => e = erE (lnE p (B x)) ∧ Below w.heap.size w w' := by
  have LW := Lib.hid (low5_any x w (by unfold maxLen; omega))
  unfold lnE at h ⊢
  by_cases h1 : lowB (B x) = true
  · rw [if_pos h1]
    rw [h1] at LW
    clear hR hr hm h h1 hx
    go_enter Tryd.func43, Tryd.ntmps43
    go_wp2_with fail
    refine LW.out.mono ?_
    rintro e w1 ⟨rfl, hb⟩
    go_wp2
    exact ⟨rfl, rfl, hb⟩
  · rw [if_neg h1] at h ⊢
    rw [Bool.eq_false_iff.2 h1] at LW
    clear h1
    have em := emp_eq x
    cases hB : B x with
    | nil => rw [hB] at h; exact absurd rfl h
    | cons c rs =>
      rw [hB] at h
      simp only at h ⊢
      rw [decide_eq_false (show ¬ B x = [] by rw [hB]; simp)] at em
      have hs0 : 0 < x.size := by rw [← B_len, hB]; simp
      have hc : x[0].toNat = c := by rw [← B_getD x 0 hs0, hB]; rfl
      have hE : B (x.extract 1 x.size) = rs := by rw [ext1_B, hB]; rfl
      have HR := Lib.hid hR
      have HRR := Lib.hid hr
      have HM := Lib.hid hm
      have HH := Lib.hid h
      have HX := Lib.hid hx
      have HBX := Lib.hid hB
      clear hR hr hm h hB
      by_cases h32 : c = 32
      · rw [if_pos h32]
        have HG := Lib.hid (show goE p rs ≠ 0 by have := HH.out; rwa [if_pos h32] at this)
        have q0 : ((x[0].toNat : Int) == 32) = true := by rw [hc, h32]; rfl
        have GN := Lib.hid (show p.op = [] ∨ B (x.extract 1 x.size) = [] by
          have := HG.out
          unfold goE at this
          split at this
          · rename_i hh
            rw [Bool.or_eq_true, decide_eq_true_iff, decide_eq_true_iff] at hh
            rw [hE]; exact hh
          · exact absurd rfl this)
        have G5 := Lib.hid (show goE p rs = 5 by
          have := HG.out
          unfold goE at this ⊢
          split at this
          · rename_i hh; rw [if_pos hh]
          · exact absurd rfl this)
        clear hc hE h32 HH
        go_enter Tryd.func43, Tryd.ntmps43
        go_wp2_with fail
        refine LW.out.mono ?_
        rintro e w1 ⟨rfl, hb⟩
        have R1 := Lib.hid (HR.out.below hb HRR.out)
        have HB := Lib.hid hb
        clear hb
        go_wp2_with fail
        refine (goOn5_no (x.extract 1 x.size) N r k p vs vo vl _ R1.out GN.out).mono ?_
        rintro e w2 ⟨rfl, rfl⟩
        go_wp2
        exact ⟨rfl, by rw [G5.out], HB.out⟩
      · rw [if_neg h32]
        have HG := Lib.hid (show begE p (B x) ≠ 0 by have := HH.out; rw [if_neg h32] at this; rw [HBX.out]; exact this)
        have q0 : ((x[0].toNat : Int) == 32) = false := by rw [hc, beq_eq_false_iff_ne]; omega
        clear hc hE h32 HH
        go_enter Tryd.func43, Tryd.ntmps43
        go_wp2_with fail
        refine LW.out.mono ?_
        rintro e w1 ⟨rfl, hb⟩
        have R1 := Lib.hid (HR.out.below hb HRR.out)
        have HB := Lib.hid hb
        have M1 := Lib.hid ((hb.cell (show (⟨0, 0, none⟩ : Addr).block < w.heap.size from Nat.lt_of_le_of_lt (Nat.zero_le r) HRR.out)).trans HM.out)
        clear hb
        go_wp2_with fail
        refine (begin5_no x N r k p vs vo vl m _ R1.out (Nat.lt_of_lt_of_le HRR.out HB.out.size) HX.out M1.out HG.out).mono ?_
        rintro e w2 ⟨rfl, hb2⟩
        have HB2 := Lib.hid (HB.out.trans (hb2.mono HB.out.size))
        clear hb2
        go_wp2
        exact ⟨rfl, by rw [← HBX.out], HB2.out⟩
end Go.Proofs.YtjfenheplkoajaaDoor
