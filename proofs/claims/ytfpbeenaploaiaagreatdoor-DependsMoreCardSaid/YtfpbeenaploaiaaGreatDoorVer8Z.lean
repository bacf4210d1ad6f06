/- The contracts of the program's own Right and Print. -/
import Derived.Test.YtfpbeenaploaiaaGreatDoorVer7Z
set_option maxRecDepth 100000
set_option linter.unusedVariables false
set_option linter.unusedSimpArgs false
namespace Go.Proofs.YtfpbeenaploaiaaGreatDoor
open Go.RowKit
theorem bel_2 {w V W : World} (h : Below w.heap.size w V) (h2 : Below V.heap.size V W) : Below w.heap.size w W := h.trans (h2.mono h.size)
theorem vright_any (e : Int) (u r : ByteArray) (w : World) (hsz : u.size ≤ 65536) (hrz : r.size ≤ 65536) (E : Env w) :
    Calls Tryz.prog 66 #[.agg #[.int .i64 e, .string u, .string r]] w fun e' w' => e' = .returned (.bool (rightB e (B u) (B r))) ∧ Below w.heap.size w w' := by
  have XR := Lib.hid (rightB_up e (B u) (B r))
  by_cases h0 : 0 ≤ e
  · by_cases h1 : e ≤ 999999999
    · have d0 : decide (0 ≤ e) = true := decide_eq_true h0
      have d1 : decide (e ≤ 999999999) = true := decide_eq_true h1
      have KU := Lib.hid (fun w => vupstream_any e u r w hsz hrz)
      have KE := Lib.hid (fun w => eachR_any r w hrz)
      cases hup : upB e (B u) (B r)
      · have X := Lib.hid (show rightB e (B u) (B r) = false by rw [XR.out, hup, Bool.and_false, Bool.false_and, Bool.false_and])
        rw [hup] at KU
        clear hup XR
        go_enter Tryz.func66, Tryz.ntmps66
        go_wp2_with fail
        refine (KU.out _).mono ?_
        rintro e' w1 ⟨rfl, hb⟩
        have hB := Lib.hid (bel_boxed hb)
        clear hb
        go_wp2
        go_ret
        exact ⟨by rw [X.out]; rfl, hB.out⟩
      · rw [hup] at KU
        cases ha : (B r).all (chB rX)
        · have X := Lib.hid (show rightB e (B u) (B r) = false by rw [XR.out, ha, Bool.and_false, Bool.false_and])
          rw [ha] at KE
          clear ha hup XR
          go_enter Tryz.func66, Tryz.ntmps66
          go_wp2_with fail
          refine (KU.out _).mono ?_
          rintro e' w1 ⟨rfl, hb⟩
          obtain ⟨c0, c1, c2, hz⟩ := box_cells hb
          have hB := Lib.hid (bel_boxed hb)
          clear hb
          go_wp2_with fail
          refine (KE.out _).mono ?_
          rintro e' w1 ⟨rfl, n, rfl⟩
          go_wp2
          go_ret
          exact ⟨by rw [X.out]; rfl, bel_d hB.out n⟩
        · obtain ⟨m, rfl⟩ : ∃ m : Nat, e = m := ⟨e.toNat, by omega⟩
          have X := Lib.hid (show rightB m (B u) (B r) = decide ((mk (textL m (B u) (B r))).size ≤ 60) by
            rw [XR.out, ha, hup, decide_eq_true ⟨h0, h1⟩, size_mk]; rfl)
          rw [ha] at KE
          have KT := Lib.hid (fun w E => vtext_any m u r w (by omega) hsz hrz E)
          clear ha hup XR
          have HE := Lib.hid E
          clear E
          generalize mk (textL m (B u) (B r)) = T at *
          generalize rightB m (B u) (B r) = b at *
          go_enter Tryz.func66, Tryz.ntmps66
          go_wp2_with fail
          refine (KU.out _).mono ?_
          rintro e' w1 ⟨rfl, hb⟩
          obtain ⟨c0, c1, c2, hz⟩ := box_cells hb
          have hB := Lib.hid (bel_boxed hb)
          clear hb
          go_wp2_with fail
          refine (KE.out _).mono ?_
          rintro e' w2 ⟨rfl, n, rfl⟩
          go_wp2_with fail
          refine (KT.out _ ((HE.out.below hB.out).drewN n)).mono ?_
          rintro e' w2 ⟨rfl, hb2⟩
          have hB2 := Lib.hid (bel_2 (bel_d hB.out n) hb2)
          clear hb2
          go_wp2
          go_ret
          refine ⟨?_, hB2.out⟩
          rw [X.out]
          show Ending.returned (.bool (decide ((T.size : Int) ≤ 60))) = .returned (.bool (decide (T.size ≤ 60)))
          rw [decide_eq_decide.2 (show (T.size : Int) ≤ 60 ↔ T.size ≤ 60 by omega)]
    · have d1 : decide (e ≤ 999999999) = false := decide_eq_false h1
      have X := Lib.hid (show rightB e (B u) (B r) = false by rw [XR.out, decide_eq_false (by omega)]; rfl)
      go_enter Tryz.func66, Tryz.ntmps66
      go_wp2
      go_ret
      exact ⟨by rw [X.out]; rfl, bel_box _ _⟩
  · have d0 : decide (0 ≤ e) = false := decide_eq_false h0
    have X := Lib.hid (show rightB e (B u) (B r) = false by rw [XR.out, decide_eq_false (by omega)]; rfl)
    go_enter Tryz.func66, Tryz.ntmps66
    go_wp2
    go_ret
    exact ⟨by rw [X.out]; rfl, bel_box _ _⟩
theorem vprint_any (e : Int) (u r : ByteArray) (w : World) (hsz : u.size ≤ 65536) (hrz : r.size ≤ 65536) (E : Env w) :
    Calls Tryz.prog 62 #[.agg #[.int .i64 e, .string u, .string r]] w fun e' w' => e' = .returned (.string (mk (printL e (B u) (B r)))) ∧ Below w.heap.size w w' := by
  have KR := Lib.hid (fun w E => vright_any e u r w hsz hrz E)
  have HE := Lib.hid E
  clear E
  cases hr : rightB e (B u) (B r)
  · have X := Lib.hid (show mk (printL e (B u) (B r)) = { data := #[] } by unfold printL; rw [hr]; rfl)
    rw [hr] at KR
    clear hr
    go_enter Tryz.func62, Tryz.ntmps62
    go_wp2_with fail
    refine (KR.out _ (HE.out.alloc _)).mono ?_
    rintro e' w1 ⟨rfl, hb⟩
    have hB := Lib.hid (bel_boxed hb)
    clear hb
    go_wp2
    go_ret
    exact ⟨by rw [X.out]; rfl, hB.out⟩
  · obtain ⟨m, rfl⟩ : ∃ m : Nat, e = m := ⟨e.toNat, by have := (rightB_epoch hr).1; omega⟩
    have hm := (rightB_epoch hr).2
    have X := Lib.hid (show mk (printL m (B u) (B r)) = mk (textL m (B u) (B r)) by unfold printL; rw [hr]; rfl)
    rw [hr] at KR
    have KT := Lib.hid (fun w E => vtext_any m u r w (by omega) hsz hrz E)
    clear hr
    generalize mk (textL m (B u) (B r)) = T at *
    go_enter Tryz.func62, Tryz.ntmps62
    go_wp2_with fail
    refine (KR.out _ (HE.out.alloc _)).mono ?_
    rintro e' w1 ⟨rfl, hb⟩
    obtain ⟨c0, c1, c2, hz⟩ := box_cells hb
    have hB := Lib.hid (bel_boxed hb)
    clear hb
    go_wp2_with fail
    refine (KT.out _ (HE.out.below hB.out)).mono ?_
    rintro e' w2 ⟨rfl, hb2⟩
    have hB2 := Lib.hid (bel_2 hB.out hb2)
    clear hb2
    go_wp2
    go_ret
    exact ⟨by rw [X.out]; rfl, hB2.out⟩
end Go.Proofs.YtfpbeenaploaiaaGreatDoor
