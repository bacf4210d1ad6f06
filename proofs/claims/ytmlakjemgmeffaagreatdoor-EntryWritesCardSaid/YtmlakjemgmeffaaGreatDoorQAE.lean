/- What the laws of this seat rest on: Rel3, VerShown. -/
import Derived.Test.YtmlakjemgmeffaaGreatDoorNR
import Derived.Test.YtmlakjemgmeffaaGreatDoorQAD
import Derived.Test.YtmlakjemgmeffaaGreatDoorNA
import Derived.Laws.StructEq
import Derived.Outline

section
set_option maxRecDepth 100000
set_option linter.unusedVariables false
set_option linter.unusedSimpArgs false
namespace Go.Proofs.YtmlakjemgmeffaaGreatDoor
open Go.RowKit
structure EnvR (w : World) : Prop where
  env : Env w
  sgn : Sgn w
theorem EnvR.below {w w' : World} (E : EnvR w) (h : Below w.heap.size w w') : EnvR w' := ⟨E.env.below h, E.sgn.below h⟩
theorem EnvR.alloc {w : World} (E : EnvR w) (o : Obj) : EnvR (w.alloc o) := E.below ((Below.refl _ w).alloc (Nat.le_refl _) _)
theorem EnvR.drew {w : World} (E : EnvR w) : EnvR w.drew := E.below ⟨rfl, rfl, rfl, Nat.le_refl _, fun _ _ => rfl⟩
theorem vparse_open3 (s : ByteArray) : ∃ (E e : Int) (U R : ByteArray), E = parse1 (B s) ∧ e = parseE (B s) ∧ B U = parse2 (B s) ∧ B R = parse3 (B s) ∧ U.size ≤ 60 ∧ R.size ≤ 60 ∧
    ∀ w, Env w → Calls Tryz.prog 63 #[.string s] w fun e' w' => e' = .returned (.tuple #[.agg #[.int .i64 E, .string U, .string R], .int .i64 e]) ∧ Below w.heap.size w w' :=
  ⟨_, _, _, _, rfl, rfl, B_mk (parse2_lt s), B_mk (parse3_lt s), by rw [size_mk]; exact parse2_len _, by rw [size_mk]; exact parse3_len _, fun w E => vparse_any s w E⟩
theorem printL_lt (e : Int) (u r : ByteArray) : ∀ c ∈ printL e (B u) (B r), c < 256 := by
  unfold printL
  split
  · exact textL_lt _ u r
  · intro c hc; cases hc
theorem rprinted_any (s : ByteArray) (w : World) (E : Env w) : Calls Tryz.prog 67 #[.string s] w fun e' w' => e' = .returned (.bool (prB (B s))) ∧ Below w.heap.size w w' := by
  obtain ⟨ep, e, U, R, h1, h2, h3, h4, z2, z3, cp⟩ := vparse_open3 s
  have X : prB (B s) = (decide (e = 0) && decide (printL ep (B U) (B R) = B s)) := by unfold prB; rw [h1, h2, h3, h4]
  have CP := Lib.hid cp
  have CT := Lib.hid (fun w E => vprint_any ep U R w (by omega) (by omega) E)
  have hst := strEq (printL ep (B U) (B R)) s (printL_lt ep U R)
  have HE := Lib.hid E
  clear cp E h1 h2 h3 h4
  by_cases he : e = 0
  · have t1 : (e == 0) = true := by rw [beq_iff_eq]; exact he
    rw [decide_eq_true he, Bool.true_and] at X
    rw [← X] at hst
    generalize prB (B s) = b at *
    generalize mk (printL ep (B U) (B R)) = T at *
    clear X
    go_enter Tryz.func67, Tryz.ntmps67
    go_wp2_with fail
    refine (CP.out _ HE.out).mono ?_
    rintro e' w1 ⟨rfl, hb1⟩
    have B1 := Lib.hid (show Below w.heap.size w (w1.alloc (.cells #[.int .i64 ep, .string U, .string R] 88)) from hb1.alloc hb1.size _)
    clear hb1
    go_wp2_with fail
    refine (CT.out _ (HE.out.below B1.out)).mono ?_
    rintro e' w2 ⟨rfl, hb2⟩
    have B2 := Lib.hid (bel_2 B1.out hb2)
    clear hb2
    go_wp2
    go_ret
    exact ⟨rfl, B2.out⟩
  · have t1 : (e == 0) = false := by rw [beq_eq_false_iff_ne]; exact he
    rw [decide_eq_false he, Bool.false_and] at X
    have XX := Lib.hid X
    clear X hst CT he
    go_enter Tryz.func67, Tryz.ntmps67
    go_wp2_with fail
    refine (CP.out _ HE.out).mono ?_
    rintro e' w1 ⟨rfl, hb1⟩
    have B1 := Lib.hid (show Below w.heap.size w (w1.alloc (.cells #[.int .i64 ep, .string U, .string R] 88)) from hb1.alloc hb1.size _)
    clear hb1
    go_wp2
    go_ret
    exact ⟨by rw [XX.out]; rfl, B1.out⟩
theorem rholds_zero (a b : ByteArray) (w : World) : Calls Tryz.prog 129 #[.int .i64 0, .string a, .string b] w fun e' w' => e' = .returned (.bool (holdB 0 (B a) (B b))) ∧ Below w.heap.size w w' := by
  have X := Lib.hid (show holdB 0 (B a) (B b) = true from rfl)
  go_enter Tryz.func129, Tryz.ntmps129
  go_wp2
  go_ret
  exact ⟨by rw [X.out]; rfl, Below.refl _ _⟩
theorem rholds_any (op : Int) (a b : ByteArray) (w : World) (E : Env w) : Calls Tryz.prog 129 #[.int .i64 op, .string a, .string b] w fun e' w' => e' = .returned (.bool (holdB op (B a) (B b))) ∧ Below w.heap.size w w' := by
  by_cases h0 : op = 0
  · subst h0; exact rholds_zero a b w
  obtain ⟨ep, e, U, R, h1, h2, h3, h4, z2, z3, ca⟩ := vparse_open3 a
  obtain ⟨fp, f, V, S, i1, i2, i3, i4, y2, y3, cb⟩ := vparse_open3 b
  have X : holdB op (B a) (B b) = (decide (e = 0) && decide (f = 0) && opB op (if e ≠ 0 then (if f ≠ 0 then 0 else -1) else if f ≠ 0 then 1 else cmpV ep (B U) (B R) fp (B V) (B S))) := by
    unfold holdB orderV; rw [decide_eq_false h0, Bool.false_or, h1, h2, h3, h4, i1, i2, i3, i4]
  have CA := Lib.hid ca
  have CB := Lib.hid cb
  have CV := Lib.hid (fun w => vcompare_any ep fp U R V S w (by omega) (by omega) (by omega) (by omega))
  have HE := Lib.hid E
  have t0 : (op == 0) = false := by rw [beq_eq_false_iff_ne]; exact h0
  clear ca cb E h1 h2 h3 h4 i1 i2 i3 i4
  generalize holdB op (B a) (B b) = O at *
  generalize cmpV ep (B U) (B R) fp (B V) (B S) = C at *
  by_cases he : e = 0
  · have t1 : (e != 0) = false := by rw [bne_eq_false_iff_eq]; exact he
    by_cases hf : f = 0
    · have t2 : (f != 0) = false := by rw [bne_eq_false_iff_eq]; exact hf
      rw [decide_eq_true he, decide_eq_true hf, Bool.true_and, Bool.true_and, if_neg (by simp [he]), if_neg (by simp [hf])] at X
      have XX := Lib.hid X
      clear X he hf h0
      by_cases o1 : op = 1
      · subst o1
        go_enter Tryz.func129, Tryz.ntmps129
        go_wp2_with fail
        refine (CA.out _ HE.out).mono ?_
        rintro e' w1 ⟨rfl, hb1⟩
        have B1 := Lib.hid (show Below w.heap.size w (w1.alloc (.cells #[.int .i64 ep, .string U, .string R] 88)) from hb1.alloc hb1.size _)
        have s1 := hb1.size
        clear hb1
        go_wp2_with fail
        refine (CB.out _ (HE.out.below B1.out)).mono ?_
        rintro e' w2 ⟨rfl, hb2⟩
        obtain ⟨c0, c1, c2, s2⟩ := box_cells hb2
        have B2 := Lib.hid (show Below w.heap.size w (w2.alloc (.cells #[.int .i64 fp, .string V, .string S] 88)) from (bel_2 B1.out hb2).alloc (bel_2 B1.out hb2).size _)
        clear hb2
        have s3 : w1.heap.size < w2.heap.size := by omega
        go_wp2_with fail
        refine (CV.out _).mono ?_
        rintro e' w3 ⟨rfl, hb3⟩
        have B3 := Lib.hid (bel_2 B2.out hb3)
        clear hb3
        go_wp2
        go_ret
        exact ⟨by rw [XX.out]; rfl, B3.out⟩
      by_cases o2 : op = 2
      · subst o2
        go_enter Tryz.func129, Tryz.ntmps129
        go_wp2_with fail
        refine (CA.out _ HE.out).mono ?_
        rintro e' w1 ⟨rfl, hb1⟩
        have B1 := Lib.hid (show Below w.heap.size w (w1.alloc (.cells #[.int .i64 ep, .string U, .string R] 88)) from hb1.alloc hb1.size _)
        have s1 := hb1.size
        clear hb1
        go_wp2_with fail
        refine (CB.out _ (HE.out.below B1.out)).mono ?_
        rintro e' w2 ⟨rfl, hb2⟩
        obtain ⟨c0, c1, c2, s2⟩ := box_cells hb2
        have B2 := Lib.hid (show Below w.heap.size w (w2.alloc (.cells #[.int .i64 fp, .string V, .string S] 88)) from (bel_2 B1.out hb2).alloc (bel_2 B1.out hb2).size _)
        clear hb2
        have s3 : w1.heap.size < w2.heap.size := by omega
        go_wp2_with fail
        refine (CV.out _).mono ?_
        rintro e' w3 ⟨rfl, hb3⟩
        have B3 := Lib.hid (bel_2 B2.out hb3)
        clear hb3
        go_wp2
        go_ret
        exact ⟨by rw [XX.out]; rfl, B3.out⟩
      by_cases o3 : op = 3
      · subst o3
        go_enter Tryz.func129, Tryz.ntmps129
        go_wp2_with fail
        refine (CA.out _ HE.out).mono ?_
        rintro e' w1 ⟨rfl, hb1⟩
        have B1 := Lib.hid (show Below w.heap.size w (w1.alloc (.cells #[.int .i64 ep, .string U, .string R] 88)) from hb1.alloc hb1.size _)
        have s1 := hb1.size
        clear hb1
        go_wp2_with fail
        refine (CB.out _ (HE.out.below B1.out)).mono ?_
        rintro e' w2 ⟨rfl, hb2⟩
        obtain ⟨c0, c1, c2, s2⟩ := box_cells hb2
        have B2 := Lib.hid (show Below w.heap.size w (w2.alloc (.cells #[.int .i64 fp, .string V, .string S] 88)) from (bel_2 B1.out hb2).alloc (bel_2 B1.out hb2).size _)
        clear hb2
        have s3 : w1.heap.size < w2.heap.size := by omega
        go_wp2_with fail
        refine (CV.out _).mono ?_
        rintro e' w3 ⟨rfl, hb3⟩
        have B3 := Lib.hid (bel_2 B2.out hb3)
        clear hb3
        go_wp2
        go_ret
        exact ⟨by rw [XX.out]; rfl, B3.out⟩
      by_cases o4 : op = 4
      · subst o4
        go_enter Tryz.func129, Tryz.ntmps129
        go_wp2_with fail
        refine (CA.out _ HE.out).mono ?_
        rintro e' w1 ⟨rfl, hb1⟩
        have B1 := Lib.hid (show Below w.heap.size w (w1.alloc (.cells #[.int .i64 ep, .string U, .string R] 88)) from hb1.alloc hb1.size _)
        have s1 := hb1.size
        clear hb1
        go_wp2_with fail
        refine (CB.out _ (HE.out.below B1.out)).mono ?_
        rintro e' w2 ⟨rfl, hb2⟩
        obtain ⟨c0, c1, c2, s2⟩ := box_cells hb2
        have B2 := Lib.hid (show Below w.heap.size w (w2.alloc (.cells #[.int .i64 fp, .string V, .string S] 88)) from (bel_2 B1.out hb2).alloc (bel_2 B1.out hb2).size _)
        clear hb2
        have s3 : w1.heap.size < w2.heap.size := by omega
        go_wp2_with fail
        refine (CV.out _).mono ?_
        rintro e' w3 ⟨rfl, hb3⟩
        have B3 := Lib.hid (bel_2 B2.out hb3)
        clear hb3
        go_wp2
        go_ret
        exact ⟨by rw [XX.out]; rfl, B3.out⟩
      by_cases o5 : op = 5
      · subst o5
        go_enter Tryz.func129, Tryz.ntmps129
        go_wp2_with fail
        refine (CA.out _ HE.out).mono ?_
        rintro e' w1 ⟨rfl, hb1⟩
        have B1 := Lib.hid (show Below w.heap.size w (w1.alloc (.cells #[.int .i64 ep, .string U, .string R] 88)) from hb1.alloc hb1.size _)
        have s1 := hb1.size
        clear hb1
        go_wp2_with fail
        refine (CB.out _ (HE.out.below B1.out)).mono ?_
        rintro e' w2 ⟨rfl, hb2⟩
        obtain ⟨c0, c1, c2, s2⟩ := box_cells hb2
        have B2 := Lib.hid (show Below w.heap.size w (w2.alloc (.cells #[.int .i64 fp, .string V, .string S] 88)) from (bel_2 B1.out hb2).alloc (bel_2 B1.out hb2).size _)
        clear hb2
        have s3 : w1.heap.size < w2.heap.size := by omega
        go_wp2_with fail
        refine (CV.out _).mono ?_
        rintro e' w3 ⟨rfl, hb3⟩
        have B3 := Lib.hid (bel_2 B2.out hb3)
        clear hb3
        go_wp2
        go_ret
        exact ⟨by rw [XX.out]; rfl, B3.out⟩
      have ZZ : opB op C = false := by unfold opB; rw [if_neg o1, if_neg o2, if_neg o3, if_neg o4, if_neg o5]
      rw [ZZ] at XX
      have u1 : (op == 1) = false := by rw [beq_eq_false_iff_ne]; exact o1
      have u2 : (op == 2) = false := by rw [beq_eq_false_iff_ne]; exact o2
      have u3 : (op == 3) = false := by rw [beq_eq_false_iff_ne]; exact o3
      have u4 : (op == 4) = false := by rw [beq_eq_false_iff_ne]; exact o4
      have u5 : (op == 5) = false := by rw [beq_eq_false_iff_ne]; exact o5
      clear o1 o2 o3 o4 o5 ZZ
      go_enter Tryz.func129, Tryz.ntmps129
      go_wp2_with fail
      refine (CA.out _ HE.out).mono ?_
      rintro e' w1 ⟨rfl, hb1⟩
      have B1 := Lib.hid (show Below w.heap.size w (w1.alloc (.cells #[.int .i64 ep, .string U, .string R] 88)) from hb1.alloc hb1.size _)
      have s1 := hb1.size
      clear hb1
      go_wp2_with fail
      refine (CB.out _ (HE.out.below B1.out)).mono ?_
      rintro e' w2 ⟨rfl, hb2⟩
      obtain ⟨c0, c1, c2, s2⟩ := box_cells hb2
      have B2 := Lib.hid (show Below w.heap.size w (w2.alloc (.cells #[.int .i64 fp, .string V, .string S] 88)) from (bel_2 B1.out hb2).alloc (bel_2 B1.out hb2).size _)
      clear hb2
      have s3 : w1.heap.size < w2.heap.size := by omega
      go_wp2_with fail
      refine (CV.out _).mono ?_
      rintro e' w3 ⟨rfl, hb3⟩
      have B3 := Lib.hid (bel_2 B2.out hb3)
      clear hb3
      go_wp2
      go_ret
      exact ⟨by rw [XX.out]; rfl, B3.out⟩
    · have t2 : (f != 0) = true := by rw [bne_iff_ne]; exact hf
      rw [decide_eq_false hf, Bool.and_false, Bool.false_and] at X
      have XX := Lib.hid X
      clear X he hf h0
      go_enter Tryz.func129, Tryz.ntmps129
      go_wp2_with fail
      refine (CA.out _ HE.out).mono ?_
      rintro e' w1 ⟨rfl, hb1⟩
      have B1 := Lib.hid (show Below w.heap.size w (w1.alloc (.cells #[.int .i64 ep, .string U, .string R] 88)) from hb1.alloc hb1.size _)
      have s1 := hb1.size
      clear hb1
      go_wp2_with fail
      refine (CB.out _ (HE.out.below B1.out)).mono ?_
      rintro e' w2 ⟨rfl, hb2⟩
      obtain ⟨c0, c1, c2, s2⟩ := box_cells hb2
      have B2 := Lib.hid (show Below w.heap.size w (w2.alloc (.cells #[.int .i64 fp, .string V, .string S] 88)) from (bel_2 B1.out hb2).alloc (bel_2 B1.out hb2).size _)
      clear hb2
      go_wp2
      go_ret
      exact ⟨by rw [XX.out]; rfl, B2.out⟩
  · have t1 : (e != 0) = true := by rw [bne_iff_ne]; exact he
    rw [decide_eq_false he, Bool.false_and, Bool.false_and] at X
    have XX := Lib.hid X
    clear X he h0
    go_enter Tryz.func129, Tryz.ntmps129
    go_wp2_with fail
    refine (CA.out _ HE.out).mono ?_
    rintro e' w1 ⟨rfl, hb1⟩
    have B1 := Lib.hid (show Below w.heap.size w (w1.alloc (.cells #[.int .i64 ep, .string U, .string R] 88)) from hb1.alloc hb1.size _)
    have s1 := hb1.size
    clear hb1
    go_wp2_with fail
    refine (CB.out _ (HE.out.below B1.out)).mono ?_
    rintro e' w2 ⟨rfl, hb2⟩
    obtain ⟨c0, c1, c2, s2⟩ := box_cells hb2
    have B2 := Lib.hid (show Below w.heap.size w (w2.alloc (.cells #[.int .i64 fp, .string V, .string S] 88)) from (bel_2 B1.out hb2).alloc (bel_2 B1.out hb2).size _)
    clear hb2
    go_wp2
    go_ret
    exact ⟨by rw [XX.out]; rfl, B2.out⟩
end Go.Proofs.YtmlakjemgmeffaaGreatDoor
end

section
set_option maxRecDepth 100000
set_option linter.unusedVariables false
set_option linter.unusedSimpArgs false
namespace Go.Proofs.YtmlakjemgmeffaaGreatDoor
open Go.RowKit
theorem p1 : parseV ⟨#[49, 58, 50, 46, 48, 45, 51]⟩ = .tuple #[.agg #[.int .i64 1, .string ⟨#[50, 46, 48]⟩, .string ⟨#[51]⟩], .int .i64 0] := by kernel_rfl
theorem p2 : parseV ⟨#[50, 45, 49, 45, 51]⟩ = .tuple #[.agg #[.int .i64 0, .string ⟨#[50, 45, 49]⟩, .string ⟨#[51]⟩], .int .i64 0] := by kernel_rfl
theorem p3 : parseV ⟨#[50, 45]⟩ = .tuple #[.agg #[.int .i64 0, .string ⟨#[]⟩, .string ⟨#[]⟩], .int .i64 4] := by kernel_rfl
theorem p4 : parseV ⟨#[97]⟩ = .tuple #[.agg #[.int .i64 0, .string ⟨#[]⟩, .string ⟨#[]⟩], .int .i64 4] := by kernel_rfl
theorem q1 : cmpS (B ⟨#[49, 46, 48, 126, 114, 99, 49]⟩) (B ⟨#[49, 46, 48]⟩) = -1 := by kernel_rfl
theorem q2 : cmpS (B ⟨#[49, 46, 49, 48]⟩) (B ⟨#[49, 46, 57]⟩) = 1 := by kernel_rfl
theorem q3 : cmpS (B ⟨#[49, 46, 48]⟩) (B ⟨#[49, 46, 48, 97]⟩) = -1 := by kernel_rfl
theorem q4 : cmpS (B ⟨#[49, 97]⟩) (B ⟨#[49, 43]⟩) = -1 := by kernel_rfl
theorem q5 : cmpS (B ⟨#[48, 48, 55]⟩) (B ⟨#[55]⟩) = 0 := by kernel_rfl
end Go.Proofs.YtmlakjemgmeffaaGreatDoor
end
