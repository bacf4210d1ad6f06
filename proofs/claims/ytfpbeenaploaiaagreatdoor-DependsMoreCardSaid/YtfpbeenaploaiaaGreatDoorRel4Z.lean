/- The contracts of the program's Right, Meets and Provides of atoms. -/
import Derived.Test.YtfpbeenaploaiaaGreatDoorRel3Z
import Derived.Test.YtfpbeenaploaiaaGreatDoorVerShownZ
set_option maxRecDepth 100000
set_option linter.unusedVariables false
set_option linter.unusedSimpArgs false
namespace Go.Proofs.YtfpbeenaploaiaaGreatDoor
open Go.RowKit
theorem empty_is (v : ByteArray) : v.toList.isEmpty = decide (B v = []) := by
  rw [toList_data]
  unfold B
  cases h : v.data.toList <;> simp
theorem sign_some {op : Int} (h : 1 ≤ op ∧ op ≤ 5) : (mk (signL op)).toList.isEmpty = false := by
  rw [mk_empty]
  have : op = 1 ∨ op = 2 ∨ op = 3 ∨ op = 4 ∨ op = 5 := by omega
  rcases this with rfl | rfl | rfl | rfl | rfl <;> rfl
theorem sign_none {op : Int} (h : ¬ (1 ≤ op ∧ op ≤ 5)) : (mk (signL op)).toList.isEmpty = true := by
  rw [mk_empty, signL_out (by omega)]; rfl
theorem rright_any (n : ByteArray) (op : Int) (v : ByteArray) (w : World) (E : EnvR w) : Calls Tryz.prog 31 #[.agg #[.string n, .int .i64 op, .string v]] w fun e' w' => e' = .returned (.bool (rightA (B n) op (B v))) ∧ Below w.heap.size w w' := by
  have HE := Lib.hid E
  clear E
  cases hn : nameB (B n)
  · have X := Lib.hid (show rightA (B n) op (B v) = false by unfold rightA; rw [hn]; rfl)
    have KN := Lib.hid (fun w => rname_any n w)
    rw [hn] at KN
    clear hn
    go_enter Tryz.func31, Tryz.ntmps31
    go_wp2_with fail
    refine (KN.out _).mono ?_
    rintro e' w1 ⟨rfl, hb⟩
    have B1 := Lib.hid (bel_boxed hb)
    clear hb
    go_wp2
    go_ret
    exact ⟨by rw [X.out]; rfl, B1.out⟩
  · have KN := Lib.hid (fun w => rname_any n w)
    rw [hn] at KN
    by_cases h0 : op = 0
    · subst h0
      have X := Lib.hid (show v.toList.isEmpty = rightA (B n) 0 (B v) by unfold rightA; rw [hn, if_pos rfl, Bool.true_and, empty_is])
      clear hn
      go_enter Tryz.func31, Tryz.ntmps31
      go_wp2_with fail
      refine (KN.out _).mono ?_
      rintro e' w1 ⟨rfl, hb⟩
      have B1 := Lib.hid (bel_boxed hb)
      obtain ⟨c0, c1, c2, s1⟩ := box_cells hb
      clear hb
      go_wp2
      go_ret
      exact ⟨by rw [← X.out]; rfl, B1.out⟩
    · have t0 : (op == 0) = false := by rw [beq_eq_false_iff_ne]; exact h0
      have KS := Lib.hid (fun w E => rsign_any op w E)
      by_cases ho : 1 ≤ op ∧ op ≤ 5
      · have X := Lib.hid (show rightA (B n) op (B v) = prB (B v) by unfold rightA; rw [hn, if_neg h0, Bool.true_and, decide_eq_true ho, Bool.true_and])
        have KP := Lib.hid (fun w E => rprinted_any v w E)
        have t1 := sign_some ho
        generalize mk (signL op) = sg at *
        clear hn h0 ho
        go_enter Tryz.func31, Tryz.ntmps31
        go_wp2_with fail
        refine (KN.out _).mono ?_
        rintro e' w1 ⟨rfl, hb⟩
        have B1 := Lib.hid (bel_boxed hb)
        obtain ⟨c0, c1, c2, s1⟩ := box_cells hb
        clear hb
        go_wp2_with fail
        refine (KS.out _ (HE.out.below B1.out).sgn).mono ?_
        rintro e' w2 ⟨rfl, rfl⟩
        go_wp2_with fail
        refine (KP.out _ (HE.out.below B1.out).env).mono ?_
        rintro e' w2 ⟨rfl, hb⟩
        have B2 := Lib.hid (bel_2 B1.out hb)
        clear hb
        go_wp2
        go_ret
        exact ⟨by rw [X.out]; rfl, B2.out⟩
      · have X := Lib.hid (show rightA (B n) op (B v) = false by unfold rightA; rw [if_neg h0, decide_eq_false ho, Bool.false_and, Bool.and_false])
        have t1 := sign_none ho
        generalize mk (signL op) = sg at *
        clear hn h0 ho
        go_enter Tryz.func31, Tryz.ntmps31
        go_wp2_with fail
        refine (KN.out _).mono ?_
        rintro e' w1 ⟨rfl, hb⟩
        have B1 := Lib.hid (bel_boxed hb)
        obtain ⟨c0, c1, c2, s1⟩ := box_cells hb
        clear hb
        go_wp2_with fail
        refine (KS.out _ (HE.out.below B1.out).sgn).mono ?_
        rintro e' w2 ⟨rfl, rfl⟩
        go_wp2
        go_ret
        exact ⟨by rw [X.out]; rfl, B1.out⟩
theorem strings_eq (x y : ByteArray) : (x.toList == y.toList) = decide (B x = B y) := by
  have := strEq (B x) y (B_lt x)
  rwa [mk_B] at this
def meetB (n : List Nat) (op : Int) (v name have_ : List Nat) : Bool := decide (n = name) && holdB op have_ v
def provB (n : List Nat) (op : Int) (v gn : List Nat) (gop : Int) (gv : List Nat) : Bool := decide (n = gn) && (decide (op = 0) || (decide (gop = 3) && holdB op gv v))
theorem rprov_any (n : ByteArray) (op : Int) (v gn : ByteArray) (gop : Int) (gv : ByteArray) (w : World) (E : EnvR w) : Calls Tryz.prog 23 #[.agg #[.string n, .int .i64 op, .string v], .agg #[.string gn, .int .i64 gop, .string gv]] w fun e' w' => e' = .returned (.bool (provB (B n) op (B v) (B gn) gop (B gv))) ∧ Below w.heap.size w w' := by
  have HE := Lib.hid E
  clear E
  have hs := strings_eq n gn
  have B0 := Lib.hid (show Below w.heap.size w ((w.alloc (.cells #[.string n, .int .i64 op, .string v] 25)).alloc (.cells #[.string gn, .int .i64 gop, .string gv] 25)) from ((Below.refl _ w).alloc (Nat.le_refl _) _).alloc (by simp) _)
  by_cases hn : B n = B gn
  · rw [decide_eq_true hn] at hs
    by_cases h0 : op = 0
    · have X := Lib.hid (show provB (B n) op (B v) (B gn) gop (B gv) = true by unfold provB; rw [decide_eq_true hn, decide_eq_true h0]; rfl)
      have t0 : (op == 0) = true := by rw [beq_iff_eq]; exact h0
      clear hn h0
      go_enter Tryz.func23, Tryz.ntmps23
      go_wp2
      go_ret
      exact ⟨by rw [X.out]; rfl, B0.out⟩
    · have t0 : (op == 0) = false := by rw [beq_eq_false_iff_ne]; exact h0
      by_cases h3 : gop = 3
      · have X := Lib.hid (show provB (B n) op (B v) (B gn) gop (B gv) = holdB op (B gv) (B v) by unfold provB; rw [decide_eq_true hn, decide_eq_false h0, decide_eq_true h3]; rfl)
        have t3 : (gop == 3) = true := by rw [beq_iff_eq]; exact h3
        have KH := Lib.hid (fun w E => rholds_any op gv v w E)
        clear hn h0 h3
        go_enter Tryz.func23, Tryz.ntmps23
        go_wp2_with fail
        refine (KH.out _ (HE.out.below B0.out).env).mono ?_
        rintro e' w1 ⟨rfl, hb⟩
        have B1 := Lib.hid (bel_2 B0.out hb)
        clear hb
        go_wp2
        go_ret
        exact ⟨by rw [X.out]; rfl, B1.out⟩
      · have X := Lib.hid (show provB (B n) op (B v) (B gn) gop (B gv) = false by unfold provB; rw [decide_eq_true hn, decide_eq_false h0, decide_eq_false h3]; rfl)
        have t3 : (gop == 3) = false := by rw [beq_eq_false_iff_ne]; exact h3
        clear hn h0 h3
        go_enter Tryz.func23, Tryz.ntmps23
        go_wp2
        go_ret
        exact ⟨by rw [X.out]; rfl, B0.out⟩
  · have X := Lib.hid (show provB (B n) op (B v) (B gn) gop (B gv) = false by unfold provB; rw [decide_eq_false hn]; rfl)
    rw [decide_eq_false hn] at hs
    clear hn
    go_enter Tryz.func23, Tryz.ntmps23
    go_wp2
    go_ret
    exact ⟨by rw [X.out]; rfl, B0.out⟩
end Go.Proofs.YtfpbeenaploaiaaGreatDoor
