/- keelsonlaw2.VersionBack: called with any arguments that can be read it returns true, and its arguments read as before. Condition: the library variables that the row lists hold what the program text lays in them, which the card ties to that text. -/
import Derived.Test.YtklkefmbmagplaaDoorVerShown
import Derived.Test.YtklkefmbmagplaaDoorBackP
import Derived.Test.YtklkefmbmagplaaDoorDoor
import Derived.WalkKit
import Derived.ProofKit
import Derived.OpenShut
import Derived.SevenTiedAt
import Derived.Outline
set_option maxRecDepth 100000
set_option linter.unusedVariables false
set_option linter.unusedSimpArgs false
namespace Go.Proofs.YtklkefmbmagplaaDoor.versionBack
open Go.ChangeShapes Go.WideShapes Go.ChangeAt Go.RowKit

theorem printL_lt (e : Int) (u r : ByteArray) : ∀ c ∈ printL e (B u) (B r), c < 256 := by
  unfold printL
  split
  · exact textL_lt _ u r
  · intro c hc; cases hc
theorem zero_eq (a : List Nat) (s : ByteArray) (h : ∀ c ∈ a, c < 256) : ((ByteArray.mk #[48, 58] ++ mk a).toList == s.toList) = decide (48 :: 58 :: a = B s) := by
  have h1 : ByteArray.mk #[48, 58] ++ mk a = mk (48 :: 58 :: a) := by
    refine eq_mk ?_
    rw [B_append, B_mk h]; rfl
  rw [h1, strEq]
  intro c hc
  rcases List.mem_cons.1 hc with rfl | hc
  · decide
  · rcases List.mem_cons.1 hc with rfl | hc
    · decide
    · exact h c hc
theorem parseV_print {e : Int} (u r : ByteArray) (h : rightB e (B u) (B r) = true) : parseV (mk (printL e (B u) (B r))) = .tuple #[.agg #[.int .i64 e, .string u, .string r], .int .i64 0] := by
  obtain ⟨h0, h1, h2, h3, _⟩ := parse_print h
  unfold parseV
  rw [B_mk (printL_lt e u r), h0, h1, h2, h3, mk_B, mk_B]
theorem keep_al {w : World} {o : Obj} {b : Nat} {x y z : Value} (h0 : w.cell? ⟨b, 0, none⟩ = some x) (h1 : w.cell? ⟨b, 1, none⟩ = some y) (h2 : w.cell? ⟨b, 2, none⟩ = some z) :
    (w.alloc o).cell? ⟨b, 0, none⟩ = some x ∧ (w.alloc o).cell? ⟨b, 1, none⟩ = some y ∧ (w.alloc o).cell? ⟨b, 2, none⟩ = some z := ⟨cell_old' h0, cell_old' h1, cell_old' h2⟩
theorem printL_len (e : Int) (u r : List Nat) : (printL e u r).length ≤ 60 := by
  unfold printL
  split
  · rename_i h; exact rightB_size h
  · exact Nat.zero_le _
set_option maxHeartbeats 4000000 in
theorem walk (s : ByteArray) (e1 : Int) (u1 r1 : ByteArray) (w : World) (hs : s.size ≤ maxLen) (_ : (Lit.int .i64 e1).wf = true) (hu1 : u1.size ≤ maxLen) (hr1 : r1.size ≤ maxLen) (E : Env w) :
    Calls Tryd.prog 5 #[.string s, .agg #[.int .i64 e1, .string u1, .string r1]] w fun e w' => e = .returned (.bool true) ∧ Below w.heap.size w w' := by
  have HE := Lib.hid E
  have S := Lib.hid (fun w E => shown_any w E)
  clear E
  go_enter Tryd.func5, Tryd.ntmps5
  go_wp2_with fail
  refine (S.out _ (HE.out.alloc _)).mono ?_
  rintro e' w1 ⟨rfl, hb1⟩
  obtain ⟨c0, c1, c2, _⟩ := box3 hb1
  have HB1 := Lib.hid (bel_boxed hb1)
  clear hb1
  by_cases g0 : (500 : Int) < (s.size : Int)
  · go_wp2
    go_ret
    exact ⟨rfl, HB1.out⟩
  by_cases g1 : (500 : Int) < (u1.size : Int)
  · go_wp2
    go_ret
    exact ⟨rfl, HB1.out⟩
  by_cases g2 : (500 : Int) < (r1.size : Int)
  · go_wp2
    go_ret
    exact ⟨rfl, HB1.out⟩
  obtain ⟨E, e, U, R, hE, he, hU, hR, zU, zR, ca⟩ := vparse_opened s
  have heq := eq_ver_same
  by_cases hz : e = 0
  · have P1 := Lib.hid ca
    clear ca
    have hpr := print_parse (s := B s) (by rw [← he]; exact hz)
    rw [← hE, ← hU, ← hR] at hpr
    have t0 : (e == 0) = true := by rw [beq_iff_eq]; exact hz
    have t1 : (e != 0) = false := by rw [bne_eq_false_iff_eq]; exact hz
    have hlt := printL_lt E U R
    have q1 := strEq (printL E (B U) (B R)) s hlt
    have q2 := zero_eq (printL E (B U) (B R)) s hlt
    have K1 := Lib.hid (fun w EN => vprint_any E U R w (by omega) (by omega) EN)
    have zt : (mk (printL E (B U) (B R))).size ≤ 60 := by rw [size_mk]; exact printL_len _ _ _
    clear hE hU hR he hz hlt
    by_cases h1 : printL E (B U) (B R) = B s
    · rw [decide_eq_true h1] at q1
      clear hpr h1 q2
      generalize mk (printL E (B U) (B R)) = T at *
      cases hr : rightB e1 (B u1) (B r1)
      · have KV := Lib.hid (fun w E => vprint_any e1 u1 r1 w (by omega) (by omega) E)
        have KR := Lib.hid (fun w E => vright_any e1 u1 r1 w (by omega) (by omega) E)
        rw [hr] at KR
        have hp0 : mk (printL e1 (B u1) (B r1)) = { data := #[] } := by unfold printL; rw [if_neg (by rw [hr]; simp)]; rfl
        rw [hp0] at KV
        obtain ⟨EE, ee, UU, RR, -, -, -, -, -, -, kp⟩ := vparse_opened { data := #[] }
        have KP := Lib.hid kp
        clear hr hp0 kp
        go_wp2_with fail
        refine (P1.out _ (HE.out.below HB1.out)).mono ?_
        rintro e' w2 ⟨rfl, hb⟩
        obtain ⟨c0, c1, c2⟩ := cell3 hb ⟨c0, c1, c2⟩
        have HB2 := Lib.hid (bel_2 HB1.out hb)
        clear hb
        obtain ⟨c0, c1, c2⟩ := keep_al (o := .cells #[.int .i64 E, .string U, .string R] 23) c0 c1 c2
        have HBB := Lib.hid (show Below w.heap.size w (w2.alloc (.cells #[.int .i64 E, .string U, .string R] 23)) from HB2.out.alloc HB2.out.size _)
        go_wp2_with fail
        refine (K1.out _ (HE.out.below HBB.out)).mono ?_
        rintro e' w3 ⟨rfl, hb⟩
        obtain ⟨c0, c1, c2⟩ := cell3 hb ⟨c0, c1, c2⟩
        obtain ⟨a0, a1, a2, _⟩ := box3 hb
        have HB3 := Lib.hid (bel_2 HBB.out hb)
        clear hb
        go_wp2_with fail
        refine (KV.out _ (HE.out.below HB3.out)).mono ?_
        rintro e' w4 ⟨rfl, hb⟩
        obtain ⟨c0, c1, c2⟩ := cell3 hb ⟨c0, c1, c2⟩
        have HB4 := Lib.hid (bel_2 HB3.out hb)
        clear hb
        go_wp2_with fail
        refine (KP.out _ (HE.out.below HB4.out)).mono ?_
        rintro e' w5 ⟨rfl, hb⟩
        obtain ⟨c0, c1, c2⟩ := cell3 hb ⟨c0, c1, c2⟩
        have HB5 := Lib.hid (bel_2 HB4.out hb)
        clear hb
        obtain ⟨c0, c1, c2⟩ := keep_al (o := .cells #[.int .i64 EE, .string UU, .string RR] 23) c0 c1 c2
        have HBA := Lib.hid (show Below w.heap.size w (w5.alloc (.cells #[.int .i64 EE, .string UU, .string RR] 23)) from HB5.out.alloc HB5.out.size _)
        go_wp2_with fail
        refine (KR.out _ (HE.out.below HBA.out)).mono ?_
        rintro e' w6 ⟨rfl, hb⟩
        have HB6 := Lib.hid (bel_2 HBA.out hb)
        clear hb
        go_wp2
        go_ret
        first | exact ⟨rfl, HB6.out⟩ | exact ⟨by show Ending.returned (.bool (decide ((p.size : Int) ≤ 60))) = _; rw [decide_eq_true (by omega)], HB6.out⟩
      · have KV := Lib.hid (fun w E => vprint_any e1 u1 r1 w (by omega) (by omega) E)
        have KR := Lib.hid (fun w E => vright_any e1 u1 r1 w (by omega) (by omega) E)
        rw [hr] at KR
        have KP := Lib.hid (vparse_is (parseV_print u1 r1 hr))
        have zp : (mk (printL e1 (B u1) (B r1))).size ≤ 60 := by rw [size_mk]; unfold printL; rw [if_pos hr]; exact rightB_size hr
        clear hr
        generalize mk (printL e1 (B u1) (B r1)) = p at *
        go_wp2_with fail
        refine (P1.out _ (HE.out.below HB1.out)).mono ?_
        rintro e' w2 ⟨rfl, hb⟩
        obtain ⟨c0, c1, c2⟩ := cell3 hb ⟨c0, c1, c2⟩
        have HB2 := Lib.hid (bel_2 HB1.out hb)
        clear hb
        obtain ⟨c0, c1, c2⟩ := keep_al (o := .cells #[.int .i64 E, .string U, .string R] 23) c0 c1 c2
        have HBB := Lib.hid (show Below w.heap.size w (w2.alloc (.cells #[.int .i64 E, .string U, .string R] 23)) from HB2.out.alloc HB2.out.size _)
        go_wp2_with fail
        refine (K1.out _ (HE.out.below HBB.out)).mono ?_
        rintro e' w3 ⟨rfl, hb⟩
        obtain ⟨c0, c1, c2⟩ := cell3 hb ⟨c0, c1, c2⟩
        obtain ⟨a0, a1, a2, _⟩ := box3 hb
        have HB3 := Lib.hid (bel_2 HBB.out hb)
        clear hb
        go_wp2_with fail
        refine (KV.out _ (HE.out.below HB3.out)).mono ?_
        rintro e' w4 ⟨rfl, hb⟩
        obtain ⟨c0, c1, c2⟩ := cell3 hb ⟨c0, c1, c2⟩
        have HB4 := Lib.hid (bel_2 HB3.out hb)
        clear hb
        go_wp2_with fail
        refine (KP.out _ (HE.out.below HB4.out)).mono ?_
        rintro e' w5 ⟨rfl, hb⟩
        obtain ⟨c0, c1, c2⟩ := cell3 hb ⟨c0, c1, c2⟩
        have HB5 := Lib.hid (bel_2 HB4.out hb)
        clear hb
        obtain ⟨c0, c1, c2⟩ := keep_al (o := .cells #[.int .i64 e1, .string u1, .string r1] 23) c0 c1 c2
        have HBA := Lib.hid (show Below w.heap.size w (w5.alloc (.cells #[.int .i64 e1, .string u1, .string r1] 23)) from HB5.out.alloc HB5.out.size _)
        go_wp2_with fail
        refine (KR.out _ (HE.out.below HBA.out)).mono ?_
        rintro e' w6 ⟨rfl, hb⟩
        obtain ⟨c0, c1, c2⟩ := cell3 hb ⟨c0, c1, c2⟩
        obtain ⟨b0, b1, b2, _⟩ := box3 hb
        have HB6 := Lib.hid (bel_2 HBA.out hb)
        clear hb
        go_wp2
        go_ret
        first | exact ⟨rfl, HB6.out⟩ | exact ⟨by show Ending.returned (.bool (decide ((p.size : Int) ≤ 60))) = _; rw [decide_eq_true (by omega)], HB6.out⟩
    · rw [decide_eq_false h1] at q1
      rw [decide_eq_true (hpr.resolve_left h1)] at q2
      clear hpr h1
      generalize mk (printL E (B U) (B R)) = T at *
      cases hr : rightB e1 (B u1) (B r1)
      · have KV := Lib.hid (fun w E => vprint_any e1 u1 r1 w (by omega) (by omega) E)
        have KR := Lib.hid (fun w E => vright_any e1 u1 r1 w (by omega) (by omega) E)
        rw [hr] at KR
        have hp0 : mk (printL e1 (B u1) (B r1)) = { data := #[] } := by unfold printL; rw [if_neg (by rw [hr]; simp)]; rfl
        rw [hp0] at KV
        obtain ⟨EE, ee, UU, RR, -, -, -, -, -, -, kp⟩ := vparse_opened { data := #[] }
        have KP := Lib.hid kp
        clear hr hp0 kp
        go_wp2_with fail
        refine (P1.out _ (HE.out.below HB1.out)).mono ?_
        rintro e' w2 ⟨rfl, hb⟩
        obtain ⟨c0, c1, c2⟩ := cell3 hb ⟨c0, c1, c2⟩
        have HB2 := Lib.hid (bel_2 HB1.out hb)
        clear hb
        obtain ⟨c0, c1, c2⟩ := keep_al (o := .cells #[.int .i64 E, .string U, .string R] 23) c0 c1 c2
        have HBB := Lib.hid (show Below w.heap.size w (w2.alloc (.cells #[.int .i64 E, .string U, .string R] 23)) from HB2.out.alloc HB2.out.size _)
        go_wp2_with fail
        refine (K1.out _ (HE.out.below HBB.out)).mono ?_
        rintro e' w3 ⟨rfl, hb⟩
        obtain ⟨c0, c1, c2⟩ := cell3 hb ⟨c0, c1, c2⟩
        obtain ⟨a0, a1, a2, _⟩ := box3 hb
        have HB3 := Lib.hid (bel_2 HBB.out hb)
        clear hb
        go_wp2_with fail
        refine (KV.out _ (HE.out.below HB3.out)).mono ?_
        rintro e' w4 ⟨rfl, hb⟩
        obtain ⟨c0, c1, c2⟩ := cell3 hb ⟨c0, c1, c2⟩
        have HB4 := Lib.hid (bel_2 HB3.out hb)
        clear hb
        go_wp2_with fail
        refine (KP.out _ (HE.out.below HB4.out)).mono ?_
        rintro e' w5 ⟨rfl, hb⟩
        obtain ⟨c0, c1, c2⟩ := cell3 hb ⟨c0, c1, c2⟩
        have HB5 := Lib.hid (bel_2 HB4.out hb)
        clear hb
        obtain ⟨c0, c1, c2⟩ := keep_al (o := .cells #[.int .i64 EE, .string UU, .string RR] 23) c0 c1 c2
        have HBA := Lib.hid (show Below w.heap.size w (w5.alloc (.cells #[.int .i64 EE, .string UU, .string RR] 23)) from HB5.out.alloc HB5.out.size _)
        go_wp2_with fail
        refine (KR.out _ (HE.out.below HBA.out)).mono ?_
        rintro e' w6 ⟨rfl, hb⟩
        have HB6 := Lib.hid (bel_2 HBA.out hb)
        clear hb
        go_wp2
        go_ret
        first | exact ⟨rfl, HB6.out⟩ | exact ⟨by show Ending.returned (.bool (decide ((p.size : Int) ≤ 60))) = _; rw [decide_eq_true (by omega)], HB6.out⟩
      · have KV := Lib.hid (fun w E => vprint_any e1 u1 r1 w (by omega) (by omega) E)
        have KR := Lib.hid (fun w E => vright_any e1 u1 r1 w (by omega) (by omega) E)
        rw [hr] at KR
        have KP := Lib.hid (vparse_is (parseV_print u1 r1 hr))
        have zp : (mk (printL e1 (B u1) (B r1))).size ≤ 60 := by rw [size_mk]; unfold printL; rw [if_pos hr]; exact rightB_size hr
        clear hr
        generalize mk (printL e1 (B u1) (B r1)) = p at *
        go_wp2_with fail
        refine (P1.out _ (HE.out.below HB1.out)).mono ?_
        rintro e' w2 ⟨rfl, hb⟩
        obtain ⟨c0, c1, c2⟩ := cell3 hb ⟨c0, c1, c2⟩
        have HB2 := Lib.hid (bel_2 HB1.out hb)
        clear hb
        obtain ⟨c0, c1, c2⟩ := keep_al (o := .cells #[.int .i64 E, .string U, .string R] 23) c0 c1 c2
        have HBB := Lib.hid (show Below w.heap.size w (w2.alloc (.cells #[.int .i64 E, .string U, .string R] 23)) from HB2.out.alloc HB2.out.size _)
        go_wp2_with fail
        refine (K1.out _ (HE.out.below HBB.out)).mono ?_
        rintro e' w3 ⟨rfl, hb⟩
        obtain ⟨c0, c1, c2⟩ := cell3 hb ⟨c0, c1, c2⟩
        obtain ⟨a0, a1, a2, _⟩ := box3 hb
        have HB3 := Lib.hid (bel_2 HBB.out hb)
        clear hb
        go_wp2_with fail
        refine (KV.out _ (HE.out.below HB3.out)).mono ?_
        rintro e' w4 ⟨rfl, hb⟩
        obtain ⟨c0, c1, c2⟩ := cell3 hb ⟨c0, c1, c2⟩
        have HB4 := Lib.hid (bel_2 HB3.out hb)
        clear hb
        go_wp2_with fail
        refine (KP.out _ (HE.out.below HB4.out)).mono ?_
        rintro e' w5 ⟨rfl, hb⟩
        obtain ⟨c0, c1, c2⟩ := cell3 hb ⟨c0, c1, c2⟩
        have HB5 := Lib.hid (bel_2 HB4.out hb)
        clear hb
        obtain ⟨c0, c1, c2⟩ := keep_al (o := .cells #[.int .i64 e1, .string u1, .string r1] 23) c0 c1 c2
        have HBA := Lib.hid (show Below w.heap.size w (w5.alloc (.cells #[.int .i64 e1, .string u1, .string r1] 23)) from HB5.out.alloc HB5.out.size _)
        go_wp2_with fail
        refine (KR.out _ (HE.out.below HBA.out)).mono ?_
        rintro e' w6 ⟨rfl, hb⟩
        obtain ⟨c0, c1, c2⟩ := cell3 hb ⟨c0, c1, c2⟩
        obtain ⟨b0, b1, b2, _⟩ := box3 hb
        have HB6 := Lib.hid (bel_2 HBA.out hb)
        clear hb
        go_wp2
        go_ret
        first | exact ⟨rfl, HB6.out⟩ | exact ⟨by show Ending.returned (.bool (decide ((p.size : Int) ≤ 60))) = _; rw [decide_eq_true (by omega)], HB6.out⟩
  · clear ca
    have t0 : (e == 0) = false := by rw [beq_eq_false_iff_ne]; exact hz
    have t1 : (e != 0) = true := by rw [bne_iff_ne]; exact hz
    have hV := parse_bad (s := s) (by rw [← he]; exact hz)
    rw [← he] at hV
    have P1 := Lib.hid (vparse_is hV)
    have K1 := Lib.hid (fun w EN => vprint_any 0 { data := #[] } { data := #[] } w (by decide) (by decide) EN)
    clear hE hU hR he hz hV
    generalize mk (printL 0 (B { data := #[] }) (B { data := #[] })) = T at *
    cases hr : rightB e1 (B u1) (B r1)
    · have KV := Lib.hid (fun w E => vprint_any e1 u1 r1 w (by omega) (by omega) E)
      have KR := Lib.hid (fun w E => vright_any e1 u1 r1 w (by omega) (by omega) E)
      rw [hr] at KR
      have hp0 : mk (printL e1 (B u1) (B r1)) = { data := #[] } := by unfold printL; rw [if_neg (by rw [hr]; simp)]; rfl
      rw [hp0] at KV
      obtain ⟨EE, ee, UU, RR, -, -, -, -, -, -, kp⟩ := vparse_opened { data := #[] }
      have KP := Lib.hid kp
      clear hr hp0 kp
      go_wp2_with fail
      refine (P1.out _ (HE.out.below HB1.out)).mono ?_
      rintro e' w2 ⟨rfl, hb⟩
      obtain ⟨c0, c1, c2⟩ := cell3 hb ⟨c0, c1, c2⟩
      have HB2 := Lib.hid (bel_2 HB1.out hb)
      clear hb
      obtain ⟨c0, c1, c2⟩ := keep_al (o := .cells #[.int .i64 0, .string { data := #[] }, .string { data := #[] }] 23) c0 c1 c2
      have HBB := Lib.hid (show Below w.heap.size w (w2.alloc (.cells #[.int .i64 0, .string { data := #[] }, .string { data := #[] }] 23)) from HB2.out.alloc HB2.out.size _)
      go_wp2_with fail
      refine (K1.out _ (HE.out.below HBB.out)).mono ?_
      rintro e' w3 ⟨rfl, hb⟩
      obtain ⟨c0, c1, c2⟩ := cell3 hb ⟨c0, c1, c2⟩
      obtain ⟨a0, a1, a2, _⟩ := box3 hb
      have HB3 := Lib.hid (bel_2 HBB.out hb)
      clear hb
      go_wp2_with fail
      refine (KV.out _ (HE.out.below HB3.out)).mono ?_
      rintro e' w4 ⟨rfl, hb⟩
      obtain ⟨c0, c1, c2⟩ := cell3 hb ⟨c0, c1, c2⟩
      have HB4 := Lib.hid (bel_2 HB3.out hb)
      clear hb
      go_wp2_with fail
      refine (KP.out _ (HE.out.below HB4.out)).mono ?_
      rintro e' w5 ⟨rfl, hb⟩
      obtain ⟨c0, c1, c2⟩ := cell3 hb ⟨c0, c1, c2⟩
      have HB5 := Lib.hid (bel_2 HB4.out hb)
      clear hb
      obtain ⟨c0, c1, c2⟩ := keep_al (o := .cells #[.int .i64 EE, .string UU, .string RR] 23) c0 c1 c2
      have HBA := Lib.hid (show Below w.heap.size w (w5.alloc (.cells #[.int .i64 EE, .string UU, .string RR] 23)) from HB5.out.alloc HB5.out.size _)
      go_wp2_with fail
      refine (KR.out _ (HE.out.below HBA.out)).mono ?_
      rintro e' w6 ⟨rfl, hb⟩
      have HB6 := Lib.hid (bel_2 HBA.out hb)
      clear hb
      go_wp2
      go_ret
      first | exact ⟨rfl, HB6.out⟩ | exact ⟨by show Ending.returned (.bool (decide ((p.size : Int) ≤ 60))) = _; rw [decide_eq_true (by omega)], HB6.out⟩
    · have KV := Lib.hid (fun w E => vprint_any e1 u1 r1 w (by omega) (by omega) E)
      have KR := Lib.hid (fun w E => vright_any e1 u1 r1 w (by omega) (by omega) E)
      rw [hr] at KR
      have KP := Lib.hid (vparse_is (parseV_print u1 r1 hr))
      have zp : (mk (printL e1 (B u1) (B r1))).size ≤ 60 := by rw [size_mk]; unfold printL; rw [if_pos hr]; exact rightB_size hr
      clear hr
      generalize mk (printL e1 (B u1) (B r1)) = p at *
      go_wp2_with fail
      refine (P1.out _ (HE.out.below HB1.out)).mono ?_
      rintro e' w2 ⟨rfl, hb⟩
      obtain ⟨c0, c1, c2⟩ := cell3 hb ⟨c0, c1, c2⟩
      have HB2 := Lib.hid (bel_2 HB1.out hb)
      clear hb
      obtain ⟨c0, c1, c2⟩ := keep_al (o := .cells #[.int .i64 0, .string { data := #[] }, .string { data := #[] }] 23) c0 c1 c2
      have HBB := Lib.hid (show Below w.heap.size w (w2.alloc (.cells #[.int .i64 0, .string { data := #[] }, .string { data := #[] }] 23)) from HB2.out.alloc HB2.out.size _)
      go_wp2_with fail
      refine (K1.out _ (HE.out.below HBB.out)).mono ?_
      rintro e' w3 ⟨rfl, hb⟩
      obtain ⟨c0, c1, c2⟩ := cell3 hb ⟨c0, c1, c2⟩
      obtain ⟨a0, a1, a2, _⟩ := box3 hb
      have HB3 := Lib.hid (bel_2 HBB.out hb)
      clear hb
      go_wp2_with fail
      refine (KV.out _ (HE.out.below HB3.out)).mono ?_
      rintro e' w4 ⟨rfl, hb⟩
      obtain ⟨c0, c1, c2⟩ := cell3 hb ⟨c0, c1, c2⟩
      have HB4 := Lib.hid (bel_2 HB3.out hb)
      clear hb
      go_wp2_with fail
      refine (KP.out _ (HE.out.below HB4.out)).mono ?_
      rintro e' w5 ⟨rfl, hb⟩
      obtain ⟨c0, c1, c2⟩ := cell3 hb ⟨c0, c1, c2⟩
      have HB5 := Lib.hid (bel_2 HB4.out hb)
      clear hb
      obtain ⟨c0, c1, c2⟩ := keep_al (o := .cells #[.int .i64 e1, .string u1, .string r1] 23) c0 c1 c2
      have HBA := Lib.hid (show Below w.heap.size w (w5.alloc (.cells #[.int .i64 e1, .string u1, .string r1] 23)) from HB5.out.alloc HB5.out.size _)
      go_wp2_with fail
      refine (KR.out _ (HE.out.below HBA.out)).mono ?_
      rintro e' w6 ⟨rfl, hb⟩
      obtain ⟨c0, c1, c2⟩ := cell3 hb ⟨c0, c1, c2⟩
      obtain ⟨b0, b1, b2, _⟩ := box3 hb
      have HB6 := Lib.hid (bel_2 HBA.out hb)
      clear hb
      go_wp2
      go_ret
      first | exact ⟨rfl, HB6.out⟩ | exact ⟨by show Ending.returned (.bool (decide ((p.size : Int) ≤ 60))) = _; rw [decide_eq_true (by omega)], HB6.out⟩

theorem contract (H : Type) (enc : TypeId × Value → H) (W : World) (base : Nat) (args : Array Value) (ds gs : List (DataW H)) (before : List MemPlace)
    (hval : ∀ (j : Nat) t v, Tryd.f5.params[j]? = some t → args[j]? = some v → Value.okWide Tryd.prog W .any base t v)
    (hW : DataW.Whole enc Tryd.prog Tryd.f5.params.toList Rows.versionBackSpec.vars false W args.toList ds gs before) (E : Env W) :
    Calls Tryd.prog 5 args W fun e W' => ∃ v, e = .returned v ∧ Rows.versionBackSpec.post enc Tryd.prog Tryd.f5 false true false false W args v W' := by
  have hW' := hW
  obtain ⟨p, q, hA0, _, _, _, _⟩ := hW
  have hA : DataW.TrodAll enc Tryd.prog W 0 (fun _ => true) true Tryd.f5.params.toList args.toList ds p := hA0
  rw [Tryd.params5] at hA hval
  obtain ⟨v0, vs0, d0, ds0, p0, q0, hargs, rfl, rfl, h0, r0⟩ := trodAll_cons hA
  obtain ⟨v1, vs1, d1, ds1, p1, q1, rfl, rfl, rfl, h1, r1⟩ := trodAll_cons r0
  obtain ⟨rfl, rfl, rfl⟩ := trodAll_nil r1
  obtain rfl : args = #[v0, v1] := by cases args; simp_all
  obtain ⟨s0, rfl, w0⟩ := open_str_arg (hval 0 9 v0 rfl rfl) h0
  obtain ⟨e1, u1, r1', rfl, w1, wu1, wr1⟩ := open_version_arg (hval 1 23 v1 rfl rfl) h1
  refine (walk s0 e1 u1 r1' W w0 w1 wu1 wr1 E).mono fun e W' ⟨he, hb⟩ => ?_
  subst he
  refine ⟨_, rfl, law_post hW' rfl rfl rfl rfl rfl Tryd.underlying4 laid_out ?_ hb⟩
  rw [Tryd.params5]
  intro t ht
  simp at ht
  rcases ht with rfl | rfl <;> exact ⟨by kernel_rfl, of_decide_eq_true (by kernel_rfl)⟩

theorem reads (os : Os) {H : Type} (enc : TypeId × Value → H) : ∃ x, DataW.whole enc Tryd.prog ((World.laidAll Tryd.prog os laidL).forCall (fun _ _ => 0) ⟨#[], #[.string ⟨#[]⟩, .agg #[.int .i64 0, .string ⟨#[]⟩, .string ⟨#[]⟩]], []⟩).memory Tryd.f5.params.toList Rows.versionBackSpec.vars false ((#[.string ⟨#[]⟩, .agg #[.int .i64 0, .string ⟨#[]⟩, .string ⟨#[]⟩]] : Array Value)).toList 8 = some x :=
  Option.isSome_iff_exists.1 (by kernel_rfl)
theorem readsSized (os : Os) {H : Type} (enc : TypeId × Value → H) : (OpenSpec.ofChange Rows.versionBackSpec).bare.sizedB enc Tryd.prog Tryd.f5 false ((World.laidAll Tryd.prog os laidL).forCall (fun _ _ => 0) ⟨#[], #[.string ⟨#[]⟩, .agg #[.int .i64 0, .string ⟨#[]⟩, .string ⟨#[]⟩]], []⟩).memory #[.string ⟨#[]⟩, .agg #[.int .i64 0, .string ⟨#[]⟩, .string ⟨#[]⟩]] 8 = true := by kernel_rfl
theorem okWit (os : Os) : Input.okWideB Tryd.prog ((World.laidAll Tryd.prog os laidL).forCall (fun _ _ => 0) ⟨#[], #[.string ⟨#[]⟩, .agg #[.int .i64 0, .string ⟨#[]⟩, .string ⟨#[]⟩]], []⟩) 5 ⟨#[], #[.string ⟨#[]⟩, .agg #[.int .i64 0, .string ⟨#[]⟩, .string ⟨#[]⟩]], []⟩ = true := by kernel_rfl
theorem lifted (os : Os) (started : os.Started) (H : Type) (enc : TypeId × Value → H) (F : Stop.Interp) :
    ReturnsInHanded {} Tryd.checked os 5 .any ((OpenSpec.ofChange Rows.versionBackSpec).preRow enc Tryd.prog Tryd.f5 Rows.versionBackRow.domain false Rows.versionBackRow.laid) (((OpenSpec.ofChange Rows.versionBackSpec).at F).post enc Tryd.prog Tryd.f5 false true false false) := by
  obtain ⟨x, hx⟩ := reads os enc
  have hz := readsSized os enc
  refine returnsInHanded_of_row (C := Tryd.checked) (s := OpenSpec.ofChange Rows.versionBackSpec) own' started (by kernel_rfl) Tryd.func5
    ⟨World.laidAll Tryd.prog os laidL, fun _ _ => 0, ⟨#[], #[.string ⟨#[]⟩, .agg #[.int .i64 0, .string ⟨#[]⟩, .string ⟨#[]⟩]], []⟩, door_os os, door_shaped os _, (Input.okWide_of_okWideB (base := 0) (okWit os)).1, (Input.okWide_of_okWideB (okWit os)).2,
      OpenSpec.preRow_of_cond 8 hx rfl (fun k hk => by cases hk) hz (door_met os _), by
        simp only [Assume.holds]
        exact ⟨by simp, by simp, fun _ => Modest.zero, by simp, by simp⟩⟩ ?_
  intro W base args ds gs before hval hW _ _ _ hL hsh _
  exact contract H enc W base args ds gs before hval hW (env_of hL hsh)

theorem said : Rows.VersionBackSaid :=
  OpenClaim.holds_of_cond 5 Tryd.f5 rfl rfl rfl rfl rfl rfl rfl ⟨rfl, rfl, rfl, rfl, rfl⟩ rfl rfl rfl rfl rfl (by kernel_rfl) Tryd.func5 (by kernel_rfl)
    (of_decide_eq_true (by kernel_rfl)) (by unfold Func.isWrapper; first | (rw [if_pos (by decide +kernel)]; kernel_rfl) | (rw [if_neg (by decide +kernel)]; exact ⟨rfl, rfl⟩))
    (fun os started H enc _ F => by rw [OpenClaim.pre_eq_preRow]; exact lifted os started H enc F)

theorem proved : Rows.VersionBackCardSaid :=
  Claim7.holds_tied_plain_at .later [] _ _ _ _ said (fun _ h => by cases h) (by kernel_rfl) (fun _ h => by cases h) versionBack_row_tie rfl ⟨rfl, rfl⟩ (by kernel_rfl) rfl
    (fun f fn hf hfn => by
      obtain rfl : f = 5 := Option.some.inj ((show Tryd.prog.funcNamed "keelson/keelsonlaw2.VersionBack" = some 5 by kernel_rfl).symm.trans hf) |>.symm
      obtain rfl : fn = Tryd.f5 := (Option.some.inj (Tryd.func5.symm.trans hfn)).symm
      exact ⟨by kernel_rfl, fun j t ht => by
        rw [Tryd.params5] at ht
        have hm : t ∈ [9, 23] := by have := Array.mem_of_getElem? ht; simp at this; simp [this]
        have hall : ([9, 23].all fun u => !Tryd.prog.wantsStandIn u) = true := by kernel_rfl
        exact (show Tryd.prog.wantsStandIn t = false by simpa using List.all_eq_true.1 hall t hm)⟩)
    (by kernel_rfl)
#print axioms proved
end Go.Proofs.YtklkefmbmagplaaDoor.versionBack
