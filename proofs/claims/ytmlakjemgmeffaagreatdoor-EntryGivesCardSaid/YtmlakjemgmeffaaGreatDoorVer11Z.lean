/- The contract of the program's own Order of two texts: the document's. -/
import Derived.Test.YtmlakjemgmeffaaGreatDoorVer10Z
import Derived.Test.YtmlakjemgmeffaaGreatDoorMA
set_option maxRecDepth 100000
set_option linter.unusedVariables false
set_option linter.unusedSimpArgs false
namespace Go.Proofs.YtmlakjemgmeffaaGreatDoor
open Go.RowKit
theorem vparse_opened (s : ByteArray) : ∃ (E e : Int) (U R : ByteArray), E = parse1 (B s) ∧ e = parseE (B s) ∧ B U = parse2 (B s) ∧ B R = parse3 (B s) ∧ U.size ≤ 60 ∧ R.size ≤ 60 ∧
    ∀ w, Env w → Calls Tryz.prog 63 #[.string s] w fun e' w' => e' = .returned (.tuple #[.agg #[.int .i64 E, .string U, .string R], .int .i64 e]) ∧ Below w.heap.size w w' :=
  ⟨_, _, _, _, rfl, rfl, B_mk (parse2_lt s), B_mk (parse3_lt s), by rw [size_mk]; exact parse2_len _, by rw [size_mk]; exact parse3_len _, fun w E => vparse_any s w E⟩
theorem vorder_any (a b : ByteArray) (w : World) (EN : Env w) :
    Calls Tryz.prog 60 #[.string a, .string b] w fun e' w' => e' = .returned (.int .i64 (orderV (B a) (B b))) ∧ Below w.heap.size w w' := by
  obtain ⟨E, e, U, R, hE, he, hU, hR, zU, zR, ca⟩ := vparse_opened a
  obtain ⟨F, f, V, S, hF, hf, hV, hS, zV, zS, cb⟩ := vparse_opened b
  have X : orderV (B a) (B b) = if e ≠ 0 then (if f ≠ 0 then 0 else -1) else if f ≠ 0 then 1 else cmpV E (B U) (B R) F (B V) (B S) := by
    unfold orderV; rw [← hE, ← he, ← hU, ← hR, ← hF, ← hf, ← hV, ← hS]
  have XO := Lib.hid X
  have CA := Lib.hid ca
  have CB := Lib.hid cb
  have CV := Lib.hid (fun w => vcompare_any E F U R V S w (by omega) (by omega) (by omega) (by omega))
  have HE := Lib.hid EN
  clear X ca cb hE he hU hR hF hf hV hS EN
  generalize orderV (B a) (B b) = O at XO ⊢
  generalize cmpV E (B U) (B R) F (B V) (B S) = C at XO CV
  go_enter Tryz.func60, Tryz.ntmps60
  go_wp2_with fail
  refine (CA.out _ HE.out).mono ?_
  rintro e' w1 ⟨rfl, hb1⟩
  have s1 := hb1.size
  have E1 := Lib.hid ((HE.out.below hb1).alloc (.cells #[.int .i64 E, .string U, .string R] 88))
  go_wp2_with fail
  refine (CB.out _ E1.out).mono ?_
  rintro e' w2 ⟨rfl, hb2⟩
  obtain ⟨c0, c1, c2, s2⟩ := box_cells hb2
  have b2 : Below w.heap.size w w2 := (hb1.alloc s1 _).trans (hb2.mono (by simp; omega))
  have b3 : Below w.heap.size w (w2.alloc (.cells #[.int .i64 F, .string V, .string S] 88)) := b2.alloc (by omega) _
  by_cases he : e = 0
  · have t1 : (e == 0) = true := by rw [beq_iff_eq]; exact he
    by_cases hf : f = 0
    · have t2 : (f == 0) = true := by rw [beq_iff_eq]; exact hf
      have XF := Lib.hid (show O = C by rw [XO.out, if_neg (by simp [he]), if_neg (by simp [hf])])
      have s3 : w1.heap.size < w2.heap.size := by omega
      clear he hf
      go_wp2_with fail
      refine (CV.out _).mono ?_
      rintro e' w3 ⟨rfl, hb3⟩
      go_wp2
      go_ret
      exact ⟨by rw [XF.out]; rfl, b3.trans (hb3.mono (by simp; omega))⟩
    · have t2 : (f == 0) = false := by rw [beq_eq_false_iff_ne]; exact hf
      have XF := Lib.hid (show O = 1 by rw [XO.out, if_neg (by simp [he]), if_pos hf])
      clear he hf
      go_wp2
      go_ret
      exact ⟨by rw [XF.out]; rfl, b3⟩
  · have t1 : (e == 0) = false := by rw [beq_eq_false_iff_ne]; exact he
    by_cases hf : f = 0
    · have t2 : (f == 0) = true := by rw [beq_iff_eq]; exact hf
      have XF := Lib.hid (show O = -1 by rw [XO.out, if_pos he, if_neg (by simp [hf])])
      clear he hf
      go_wp2
      go_ret
      exact ⟨by rw [XF.out]; rfl, b3⟩
    · have t2 : (f == 0) = false := by rw [beq_eq_false_iff_ne]; exact hf
      have XF := Lib.hid (show O = 0 by rw [XO.out, if_pos he, if_pos hf])
      clear he hf
      go_wp2
      go_ret
      exact ⟨by rw [XF.out]; rfl, b3⟩
end Go.Proofs.YtmlakjemgmeffaaGreatDoor
