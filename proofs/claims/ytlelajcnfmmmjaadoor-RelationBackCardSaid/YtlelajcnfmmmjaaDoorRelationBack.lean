/- keelsonlaw3.RelationBack: called with any arguments that can be read it returns true, and its arguments read as before. Condition: the library variables that the row lists hold what the program text lays in them, which the card ties to that text. -/
import Derived.Test.YtlelajcnfmmmjaaDoorRelShown
import Derived.Test.YtlelajcnfmmmjaaDoorDoor
import Derived.WalkKit
import Derived.ProofKit
import Derived.OpenShut
import Derived.SevenTiedAt
import Derived.Outline
set_option maxRecDepth 100000
set_option linter.unusedVariables false
set_option linter.unusedSimpArgs false
namespace Go.Proofs.YtlelajcnfmmmjaaDoor.relationBack
open Go.ChangeShapes Go.WideShapes Go.ChangeAt Go.RowKit

theorem back_text {s : ByteArray} (h : relE (B s) = 0) : mk (printA (relN (B s)) (relO (B s)) (relV (B s))) = s := by
  obtain ⟨h1, h2⟩ := text_of_rel h
  unfold printA
  rw [if_pos h1, h2, mk_B]
theorem relN_lt (s : ByteArray) : ∀ c ∈ relN (B s), c < 256 := by
  unfold relN
  split
  · exact cutN_lt (B_lt s)
  · intro c hc; cases hc
theorem relV_lt (s : ByteArray) : ∀ c ∈ relV (B s), c < 256 := by
  unfold relV
  split
  · split
    · exact fun c hc => B_lt s c (cutR_mem (inL_mem (cutR_mem hc)))
    · intro c hc; cases hc
  · intro c hc; cases hc
theorem sign_lt {op : Int} (h : op = 1 ∨ op = 2 ∨ op = 3 ∨ op = 4 ∨ op = 5) : ∀ c ∈ signL op, c < 256 := by
  rcases h with rfl | rfl | rfl | rfl | rfl <;> decide
theorem printA_lt (n : ByteArray) (op : Int) (v : ByteArray) (h : rightA (B n) op (B v) = true) : ∀ c ∈ textA (B n) op (B v), c < 256 := by
  intro c hc
  unfold textA at hc
  split at hc
  · exact B_lt n c hc
  · rename_i h0
    rcases List.mem_append.1 hc with hc | hc
    · exact B_lt n c hc
    · simp only [List.mem_cons, List.mem_append, List.not_mem_nil, or_false] at hc
      rcases hc with rfl | rfl | hc | rfl | hc | rfl
      · decide
      · decide
      · unfold rightA at h
        rw [if_neg h0] at h
        simp only [Bool.and_eq_true, decide_eq_true_eq] at h
        have : op = 1 ∨ op = 2 ∨ op = 3 ∨ op = 4 ∨ op = 5 := by omega
        exact sign_lt this c hc
      · decide
      · exact B_lt v c hc
      · decide
theorem parse_print {n v : ByteArray} {op : Int} (h : rightA (B n) op (B v) = true) : relVal (mk (printA (B n) op (B v))) = .tuple #[.agg #[.string n, .int .i64 op, .string v], .int .i64 0] := by
  obtain ⟨h0, h1, h2, h3⟩ := rel_of_text h
  unfold relVal
  have e : printA (B n) op (B v) = textA (B n) op (B v) := by unfold printA; rw [if_pos h]
  rw [e, B_mk (printA_lt n op v h), h0, h1, h2, h3, mk_B, mk_B]
set_option maxHeartbeats 4000000 in
theorem walk (s n : ByteArray) (op : Int) (v : ByteArray) (w : World) (hs : s.size ≤ maxLen) (hn : n.size ≤ maxLen) (_ : (Lit.int .i64 op).wf = true) (hv : v.size ≤ maxLen) (E : EnvR w) :
    Calls Tryd.prog 3 #[.string s, .agg #[.string n, .int .i64 op, .string v]] w fun e w' => e = .returned (.bool true) ∧ Below w.heap.size w w' := by
  have HE := Lib.hid E
  have S := Lib.hid (fun w E => shown3_any w E)
  have KS := Lib.hid (fun w => small_any n op v w)
  have heq := eq_atom_same
  clear E
  by_cases hsm : (n.size : Int) ≤ 300 ∧ (v.size : Int) ≤ 300
  · rw [decide_eq_true hsm.1, decide_eq_true hsm.2] at KS
    by_cases g1 : (500 : Int) < (s.size : Int)
    · have S := S
      go_enter Tryd.func3, Tryd.ntmps3
      have A1 := Lib.hid (show Below w.heap.size w (w.alloc (.cells #[.string n, .int .i64 op, .string v] 23)) from (((Below.refl w.heap.size w)).alloc ((Below.refl w.heap.size w)).size _))
      go_wp2_with fail
      refine (S.out _ (HE.out.below A1.out)).mono ?_
      rintro e' w2 ⟨rfl, hb⟩
      obtain ⟨c0, c1, c2, _⟩ := box3 hb
      have B2 := Lib.hid (bel_2 A1.out hb)
      clear hb
      go_wp2_with fail
      refine (KS.out _).mono ?_
      rintro e' w3 ⟨rfl, hb⟩
      obtain ⟨c0, c1, c2⟩ := cell3 hb ⟨c0, c1, c2⟩
      have B3 := Lib.hid (bel_2 B2.out hb)
      clear hb
      go_wp2
      go_ret
      exact ⟨rfl, B3.out⟩
    have KP := Lib.hid (fun w E => rprint_any n op v w E)
    have KR := Lib.hid (fun w E => rright_any n op v w E)
    have zp : (mk (printA (B n) op (B v))).size ≤ 65536 := by rw [size_mk]; have := @printA_size (B n) (B v) op; omega
    by_cases hz : relE (B s) = 0
    · have hVV : relVal s = .tuple #[.agg #[.string (mk (relN (B s))), .int .i64 (relO (B s)), .string (mk (relV (B s)))], .int .i64 0] := by unfold relVal; rw [hz]
      have P1 := Lib.hid (rparse_is hVV (by omega))
      have KP1 := Lib.hid (fun w E => rprint_any (mk (relN (B s))) (relO (B s)) (mk (relV (B s))) w E)
      have KR1 := Lib.hid (fun w E => rright_any (mk (relN (B s))) (relO (B s)) (mk (relV (B s))) w E)
      rw [B_mk (relN_lt s), B_mk (relV_lt s)] at KP1 KR1
      rw [back_text hz] at KP1
      rw [(text_of_rel hz).1] at KR1
      clear hVV hz
      generalize mk (relN (B s)) = UU at *
      generalize relO (B s) = EE at *
      generalize mk (relV (B s)) = RR at *
      cases hr : rightA (B n) op (B v)
      · have hp0 : mk (printA (B n) op (B v)) = { data := #[] } := by unfold printA; rw [hr]; rfl
        rw [hr] at KR
        rw [hp0] at KP
        clear hr hp0 zp hsm
        go_enter Tryd.func3, Tryd.ntmps3
        have A1 := Lib.hid (show Below w.heap.size w (w.alloc (.cells #[.string n, .int .i64 op, .string v] 23)) from (((Below.refl w.heap.size w)).alloc ((Below.refl w.heap.size w)).size _))
        go_wp2_with fail
        refine (S.out _ (HE.out.below A1.out)).mono ?_
        rintro e' w2 ⟨rfl, hb⟩
        obtain ⟨c0, c1, c2, _⟩ := box3 hb
        have B2 := Lib.hid (bel_2 A1.out hb)
        clear hb
        go_wp2_with fail
        refine (KS.out _).mono ?_
        rintro e' w3 ⟨rfl, hb⟩
        obtain ⟨c0, c1, c2⟩ := cell3 hb ⟨c0, c1, c2⟩
        have B3 := Lib.hid (bel_2 B2.out hb)
        clear hb
        go_wp2_with fail
        refine (P1.out _ (HE.out.below B3.out)).mono ?_
        rintro e' w4 ⟨rfl, hb⟩
        obtain ⟨c0, c1, c2⟩ := cell3 hb ⟨c0, c1, c2⟩
        have B4 := Lib.hid (bel_2 B3.out hb)
        clear hb
        have A5 := Lib.hid (show Below w.heap.size w (w4.alloc (.cells #[.string UU, .int .i64 EE, .string RR] 23)) from ((B4.out).alloc (B4.out).size _))
        go_wp2_with fail
        refine (KP1.out _ (HE.out.below A5.out)).mono ?_
        rintro e' w6 ⟨rfl, hb⟩
        obtain ⟨c0, c1, c2⟩ := keep_al (o := (.cells #[.string UU, .int .i64 EE, .string RR] 23)) c0 c1 c2
        obtain ⟨c0, c1, c2⟩ := cell3 hb ⟨c0, c1, c2⟩
        obtain ⟨a0, a1, a2, _⟩ := box3 hb
        have B6 := Lib.hid (bel_2 A5.out hb)
        clear hb
        go_wp2_with fail
        refine (KR1.out _ (HE.out.below B6.out)).mono ?_
        rintro e' w7 ⟨rfl, hb⟩
        obtain ⟨c0, c1, c2⟩ := cell3 hb ⟨c0, c1, c2⟩
        obtain ⟨a0, a1, a2⟩ := cell3 hb ⟨a0, a1, a2⟩
        have B7 := Lib.hid (bel_2 B6.out hb)
        clear hb
        go_wp2_with fail
        refine (KP.out _ (HE.out.below B7.out)).mono ?_
        rintro e' w8 ⟨rfl, hb⟩
        obtain ⟨c0, c1, c2⟩ := cell3 hb ⟨c0, c1, c2⟩
        obtain ⟨a0, a1, a2⟩ := cell3 hb ⟨a0, a1, a2⟩
        have B8 := Lib.hid (bel_2 B7.out hb)
        clear hb
        go_wp2_with fail
        refine (KR.out _ (HE.out.below B8.out)).mono ?_
        rintro e' w9 ⟨rfl, hb⟩
        obtain ⟨c0, c1, c2⟩ := cell3 hb ⟨c0, c1, c2⟩
        obtain ⟨a0, a1, a2⟩ := cell3 hb ⟨a0, a1, a2⟩
        have B9 := Lib.hid (bel_2 B8.out hb)
        clear hb
        go_wp2
        go_ret
        exact ⟨rfl, B9.out⟩
      · have P2 := Lib.hid (rparse_is (parse_print hr) zp)
        rw [hr] at KR
        clear hr zp hsm
        generalize mk (printA (B n) op (B v)) = p at *
        go_enter Tryd.func3, Tryd.ntmps3
        have A1 := Lib.hid (show Below w.heap.size w (w.alloc (.cells #[.string n, .int .i64 op, .string v] 23)) from (((Below.refl w.heap.size w)).alloc ((Below.refl w.heap.size w)).size _))
        go_wp2_with fail
        refine (S.out _ (HE.out.below A1.out)).mono ?_
        rintro e' w2 ⟨rfl, hb⟩
        obtain ⟨c0, c1, c2, _⟩ := box3 hb
        have B2 := Lib.hid (bel_2 A1.out hb)
        clear hb
        go_wp2_with fail
        refine (KS.out _).mono ?_
        rintro e' w3 ⟨rfl, hb⟩
        obtain ⟨c0, c1, c2⟩ := cell3 hb ⟨c0, c1, c2⟩
        have B3 := Lib.hid (bel_2 B2.out hb)
        clear hb
        go_wp2_with fail
        refine (P1.out _ (HE.out.below B3.out)).mono ?_
        rintro e' w4 ⟨rfl, hb⟩
        obtain ⟨c0, c1, c2⟩ := cell3 hb ⟨c0, c1, c2⟩
        have B4 := Lib.hid (bel_2 B3.out hb)
        clear hb
        have A5 := Lib.hid (show Below w.heap.size w (w4.alloc (.cells #[.string UU, .int .i64 EE, .string RR] 23)) from ((B4.out).alloc (B4.out).size _))
        go_wp2_with fail
        refine (KP1.out _ (HE.out.below A5.out)).mono ?_
        rintro e' w6 ⟨rfl, hb⟩
        obtain ⟨c0, c1, c2⟩ := keep_al (o := (.cells #[.string UU, .int .i64 EE, .string RR] 23)) c0 c1 c2
        obtain ⟨c0, c1, c2⟩ := cell3 hb ⟨c0, c1, c2⟩
        obtain ⟨a0, a1, a2, _⟩ := box3 hb
        have B6 := Lib.hid (bel_2 A5.out hb)
        clear hb
        go_wp2_with fail
        refine (KR1.out _ (HE.out.below B6.out)).mono ?_
        rintro e' w7 ⟨rfl, hb⟩
        obtain ⟨c0, c1, c2⟩ := cell3 hb ⟨c0, c1, c2⟩
        obtain ⟨a0, a1, a2⟩ := cell3 hb ⟨a0, a1, a2⟩
        have B7 := Lib.hid (bel_2 B6.out hb)
        clear hb
        go_wp2_with fail
        refine (KP.out _ (HE.out.below B7.out)).mono ?_
        rintro e' w8 ⟨rfl, hb⟩
        obtain ⟨c0, c1, c2⟩ := cell3 hb ⟨c0, c1, c2⟩
        obtain ⟨a0, a1, a2⟩ := cell3 hb ⟨a0, a1, a2⟩
        have B8 := Lib.hid (bel_2 B7.out hb)
        clear hb
        go_wp2_with fail
        refine (KR.out _ (HE.out.below B8.out)).mono ?_
        rintro e' w9 ⟨rfl, hb⟩
        obtain ⟨c0, c1, c2⟩ := cell3 hb ⟨c0, c1, c2⟩
        obtain ⟨a0, a1, a2⟩ := cell3 hb ⟨a0, a1, a2⟩
        have B9 := Lib.hid (bel_2 B8.out hb)
        clear hb
        go_wp2_with fail
        refine (P2.out _ (HE.out.below B9.out)).mono ?_
        rintro e' w10 ⟨rfl, hb⟩
        obtain ⟨c0, c1, c2⟩ := cell3 hb ⟨c0, c1, c2⟩
        obtain ⟨a0, a1, a2⟩ := cell3 hb ⟨a0, a1, a2⟩
        have B10 := Lib.hid (bel_2 B9.out hb)
        clear hb
        obtain ⟨c0, c1, c2⟩ := keep_al (o := (.cells #[.string n, .int .i64 op, .string v] 23)) c0 c1 c2
        obtain ⟨a0, a1, a2⟩ := keep_al (o := (.cells #[.string n, .int .i64 op, .string v] 23)) a0 a1 a2
        have A11 := Lib.hid (show Below w.heap.size w (w10.alloc (.cells #[.string n, .int .i64 op, .string v] 23)) from ((B10.out).alloc (B10.out).size _))
        go_wp2
        go_ret
        exact ⟨rfl, A11.out⟩
    · have P1 := Lib.hid (rparse_is (relV_bad (s := s) rfl hz) (by omega))
      have t0 : (relE (B s) == 0) = false := by rw [beq_eq_false_iff_ne]; exact hz
      have t1 : (relE (B s) != 0) = true := by rw [bne_iff_ne]; exact hz
      clear hz
      generalize relE (B s) = e at *
      cases hr : rightA (B n) op (B v)
      · have hp0 : mk (printA (B n) op (B v)) = { data := #[] } := by unfold printA; rw [hr]; rfl
        rw [hr] at KR
        rw [hp0] at KP
        clear hr hp0 zp hsm
        go_enter Tryd.func3, Tryd.ntmps3
        have A1 := Lib.hid (show Below w.heap.size w (w.alloc (.cells #[.string n, .int .i64 op, .string v] 23)) from (((Below.refl w.heap.size w)).alloc ((Below.refl w.heap.size w)).size _))
        go_wp2_with fail
        refine (S.out _ (HE.out.below A1.out)).mono ?_
        rintro e' w2 ⟨rfl, hb⟩
        obtain ⟨c0, c1, c2, _⟩ := box3 hb
        have B2 := Lib.hid (bel_2 A1.out hb)
        clear hb
        go_wp2_with fail
        refine (KS.out _).mono ?_
        rintro e' w3 ⟨rfl, hb⟩
        obtain ⟨c0, c1, c2⟩ := cell3 hb ⟨c0, c1, c2⟩
        have B3 := Lib.hid (bel_2 B2.out hb)
        clear hb
        go_wp2_with fail
        refine (P1.out _ (HE.out.below B3.out)).mono ?_
        rintro e' w4 ⟨rfl, hb⟩
        obtain ⟨c0, c1, c2⟩ := cell3 hb ⟨c0, c1, c2⟩
        have B4 := Lib.hid (bel_2 B3.out hb)
        clear hb
        obtain ⟨c0, c1, c2⟩ := keep_al (o := (.cells #[.string { data := #[] }, .int .i64 0, .string { data := #[] }] 23)) c0 c1 c2
        have A5 := Lib.hid (show Below w.heap.size w (w4.alloc (.cells #[.string { data := #[] }, .int .i64 0, .string { data := #[] }] 23)) from ((B4.out).alloc (B4.out).size _))
        go_wp2_with fail
        refine (KP.out _ (HE.out.below A5.out)).mono ?_
        rintro e' w6 ⟨rfl, hb⟩
        obtain ⟨c0, c1, c2⟩ := cell3 hb ⟨c0, c1, c2⟩
        obtain ⟨a0, a1, a2, _⟩ := box3 hb
        have B6 := Lib.hid (bel_2 A5.out hb)
        clear hb
        go_wp2_with fail
        refine (KR.out _ (HE.out.below B6.out)).mono ?_
        rintro e' w7 ⟨rfl, hb⟩
        obtain ⟨c0, c1, c2⟩ := cell3 hb ⟨c0, c1, c2⟩
        obtain ⟨a0, a1, a2⟩ := cell3 hb ⟨a0, a1, a2⟩
        have B7 := Lib.hid (bel_2 B6.out hb)
        clear hb
        go_wp2
        go_ret
        exact ⟨rfl, B7.out⟩
      · have P2 := Lib.hid (rparse_is (parse_print hr) zp)
        rw [hr] at KR
        clear hr zp hsm
        generalize mk (printA (B n) op (B v)) = p at *
        go_enter Tryd.func3, Tryd.ntmps3
        have A1 := Lib.hid (show Below w.heap.size w (w.alloc (.cells #[.string n, .int .i64 op, .string v] 23)) from (((Below.refl w.heap.size w)).alloc ((Below.refl w.heap.size w)).size _))
        go_wp2_with fail
        refine (S.out _ (HE.out.below A1.out)).mono ?_
        rintro e' w2 ⟨rfl, hb⟩
        obtain ⟨c0, c1, c2, _⟩ := box3 hb
        have B2 := Lib.hid (bel_2 A1.out hb)
        clear hb
        go_wp2_with fail
        refine (KS.out _).mono ?_
        rintro e' w3 ⟨rfl, hb⟩
        obtain ⟨c0, c1, c2⟩ := cell3 hb ⟨c0, c1, c2⟩
        have B3 := Lib.hid (bel_2 B2.out hb)
        clear hb
        go_wp2_with fail
        refine (P1.out _ (HE.out.below B3.out)).mono ?_
        rintro e' w4 ⟨rfl, hb⟩
        obtain ⟨c0, c1, c2⟩ := cell3 hb ⟨c0, c1, c2⟩
        have B4 := Lib.hid (bel_2 B3.out hb)
        clear hb
        obtain ⟨c0, c1, c2⟩ := keep_al (o := (.cells #[.string { data := #[] }, .int .i64 0, .string { data := #[] }] 23)) c0 c1 c2
        have A5 := Lib.hid (show Below w.heap.size w (w4.alloc (.cells #[.string { data := #[] }, .int .i64 0, .string { data := #[] }] 23)) from ((B4.out).alloc (B4.out).size _))
        go_wp2_with fail
        refine (KP.out _ (HE.out.below A5.out)).mono ?_
        rintro e' w6 ⟨rfl, hb⟩
        obtain ⟨c0, c1, c2⟩ := cell3 hb ⟨c0, c1, c2⟩
        obtain ⟨a0, a1, a2, _⟩ := box3 hb
        have B6 := Lib.hid (bel_2 A5.out hb)
        clear hb
        go_wp2_with fail
        refine (KR.out _ (HE.out.below B6.out)).mono ?_
        rintro e' w7 ⟨rfl, hb⟩
        obtain ⟨c0, c1, c2⟩ := cell3 hb ⟨c0, c1, c2⟩
        obtain ⟨a0, a1, a2⟩ := cell3 hb ⟨a0, a1, a2⟩
        have B7 := Lib.hid (bel_2 B6.out hb)
        clear hb
        go_wp2_with fail
        refine (P2.out _ (HE.out.below B7.out)).mono ?_
        rintro e' w8 ⟨rfl, hb⟩
        obtain ⟨c0, c1, c2⟩ := cell3 hb ⟨c0, c1, c2⟩
        obtain ⟨a0, a1, a2⟩ := cell3 hb ⟨a0, a1, a2⟩
        have B8 := Lib.hid (bel_2 B7.out hb)
        clear hb
        obtain ⟨c0, c1, c2⟩ := keep_al (o := (.cells #[.string n, .int .i64 op, .string v] 23)) c0 c1 c2
        obtain ⟨a0, a1, a2⟩ := keep_al (o := (.cells #[.string n, .int .i64 op, .string v] 23)) a0 a1 a2
        have A9 := Lib.hid (show Below w.heap.size w (w8.alloc (.cells #[.string n, .int .i64 op, .string v] 23)) from ((B8.out).alloc (B8.out).size _))
        go_wp2
        go_ret
        exact ⟨rfl, A9.out⟩
  · have hb : (decide ((n.size : Int) ≤ 300) && decide ((v.size : Int) ≤ 300)) = false := by
      rw [Bool.and_eq_false_iff, decide_eq_false_iff_not, decide_eq_false_iff_not]; omega
    rw [hb] at KS
    clear hb hsm
    go_enter Tryd.func3, Tryd.ntmps3
    have A1 := Lib.hid (show Below w.heap.size w (w.alloc (.cells #[.string n, .int .i64 op, .string v] 23)) from (((Below.refl w.heap.size w)).alloc ((Below.refl w.heap.size w)).size _))
    go_wp2_with fail
    refine (S.out _ (HE.out.below A1.out)).mono ?_
    rintro e' w2 ⟨rfl, hb⟩
    obtain ⟨c0, c1, c2, _⟩ := box3 hb
    have B2 := Lib.hid (bel_2 A1.out hb)
    clear hb
    go_wp2_with fail
    refine (KS.out _).mono ?_
    rintro e' w3 ⟨rfl, hb⟩
    obtain ⟨c0, c1, c2⟩ := cell3 hb ⟨c0, c1, c2⟩
    have B3 := Lib.hid (bel_2 B2.out hb)
    clear hb
    go_wp2
    go_ret
    exact ⟨rfl, B3.out⟩

theorem contract (H : Type) (enc : TypeId × Value → H) (W : World) (base : Nat) (args : Array Value) (ds gs : List (DataW H)) (before : List MemPlace)
    (hval : ∀ (j : Nat) t v, Tryd.f3.params[j]? = some t → args[j]? = some v → Value.okWide Tryd.prog W .any base t v)
    (hW : DataW.Whole enc Tryd.prog Tryd.f3.params.toList Rows.relationBackSpec.vars false W args.toList ds gs before) (E : EnvR W) :
    Calls Tryd.prog 3 args W fun e W' => ∃ v, e = .returned v ∧ Rows.relationBackSpec.post enc Tryd.prog Tryd.f3 false true false false W args v W' := by
  have hW' := hW
  obtain ⟨p, q, hA0, _, _, _, _⟩ := hW
  have hA : DataW.TrodAll enc Tryd.prog W 0 (fun _ => true) true Tryd.f3.params.toList args.toList ds p := hA0
  rw [Tryd.params3] at hA hval
  obtain ⟨v0, vs0, d0, ds0, p0, q0, hargs, rfl, rfl, h0, r0⟩ := trodAll_cons hA
  obtain ⟨v1, vs1, d1, ds1, p1, q1, rfl, rfl, rfl, h1, r1⟩ := trodAll_cons r0
  obtain ⟨rfl, rfl, rfl⟩ := trodAll_nil r1
  obtain rfl : args = #[v0, v1] := by cases args; simp_all
  obtain ⟨s0, rfl, w0⟩ := open_str_arg (hval 0 9 v0 rfl rfl) h0
  obtain ⟨n1, e1, r1', rfl, wn1, w1, wr1⟩ := open_atom_arg (hval 1 23 v1 rfl rfl) h1
  refine (walk s0 n1 e1 r1' W w0 wn1 w1 wr1 E).mono fun e W' ⟨he, hb⟩ => ?_
  subst he
  refine ⟨_, rfl, law_post hW' rfl rfl rfl rfl rfl Tryd.underlying4 laid_out ?_ hb⟩
  rw [Tryd.params3]
  intro t ht
  simp at ht
  rcases ht with rfl | rfl <;> exact ⟨by kernel_rfl, of_decide_eq_true (by kernel_rfl)⟩

theorem reads (os : Os) {H : Type} (enc : TypeId × Value → H) : ∃ x, DataW.whole enc Tryd.prog ((World.laidAll Tryd.prog os laidL).forCall (fun _ _ => 0) ⟨#[], #[.string ⟨#[]⟩, .agg #[.string ⟨#[]⟩, .int .i64 0, .string ⟨#[]⟩]], []⟩).memory Tryd.f3.params.toList Rows.relationBackSpec.vars false ((#[.string ⟨#[]⟩, .agg #[.string ⟨#[]⟩, .int .i64 0, .string ⟨#[]⟩]] : Array Value)).toList 8 = some x :=
  Option.isSome_iff_exists.1 (by kernel_rfl)
theorem readsSized (os : Os) {H : Type} (enc : TypeId × Value → H) : (OpenSpec.ofChange Rows.relationBackSpec).bare.sizedB enc Tryd.prog Tryd.f3 false ((World.laidAll Tryd.prog os laidL).forCall (fun _ _ => 0) ⟨#[], #[.string ⟨#[]⟩, .agg #[.string ⟨#[]⟩, .int .i64 0, .string ⟨#[]⟩]], []⟩).memory #[.string ⟨#[]⟩, .agg #[.string ⟨#[]⟩, .int .i64 0, .string ⟨#[]⟩]] 8 = true := by kernel_rfl
theorem okWit (os : Os) : Input.okWideB Tryd.prog ((World.laidAll Tryd.prog os laidL).forCall (fun _ _ => 0) ⟨#[], #[.string ⟨#[]⟩, .agg #[.string ⟨#[]⟩, .int .i64 0, .string ⟨#[]⟩]], []⟩) 3 ⟨#[], #[.string ⟨#[]⟩, .agg #[.string ⟨#[]⟩, .int .i64 0, .string ⟨#[]⟩]], []⟩ = true := by kernel_rfl
theorem lifted (os : Os) (started : os.Started) (H : Type) (enc : TypeId × Value → H) (F : Stop.Interp) :
    ReturnsInHanded {} Tryd.checked os 3 .any ((OpenSpec.ofChange Rows.relationBackSpec).preRow enc Tryd.prog Tryd.f3 Rows.relationBackRow.domain false Rows.relationBackRow.laid) (((OpenSpec.ofChange Rows.relationBackSpec).at F).post enc Tryd.prog Tryd.f3 false true false false) := by
  obtain ⟨x, hx⟩ := reads os enc
  have hz := readsSized os enc
  refine returnsInHanded_of_row (C := Tryd.checked) (s := OpenSpec.ofChange Rows.relationBackSpec) own' started (by kernel_rfl) Tryd.func3
    ⟨World.laidAll Tryd.prog os laidL, fun _ _ => 0, ⟨#[], #[.string ⟨#[]⟩, .agg #[.string ⟨#[]⟩, .int .i64 0, .string ⟨#[]⟩]], []⟩, door_os os, door_shaped os _, (Input.okWide_of_okWideB (base := 0) (okWit os)).1, (Input.okWide_of_okWideB (okWit os)).2,
      OpenSpec.preRow_of_cond 8 hx rfl (fun k hk => by cases hk) hz (door_met os _), by
        simp only [Assume.holds]
        exact ⟨by simp, by simp, fun _ => Modest.zero, by simp, by simp⟩⟩ ?_
  intro W base args ds gs before hval hW _ _ _ hL hsh _
  exact contract H enc W base args ds gs before hval hW (env_of hL hsh)

theorem said : Rows.RelationBackSaid :=
  OpenClaim.holds_of_cond 3 Tryd.f3 rfl rfl rfl rfl rfl rfl rfl ⟨rfl, rfl, rfl, rfl, rfl⟩ rfl rfl rfl rfl rfl (by kernel_rfl) Tryd.func3 (by kernel_rfl)
    (of_decide_eq_true (by kernel_rfl)) (by unfold Func.isWrapper; first | (rw [if_pos (by decide +kernel)]; kernel_rfl) | (rw [if_neg (by decide +kernel)]; exact ⟨rfl, rfl⟩))
    (fun os started H enc _ F => by rw [OpenClaim.pre_eq_preRow]; exact lifted os started H enc F)

theorem proved : Rows.RelationBackCardSaid :=
  Claim7.holds_tied_plain_at .later [] _ _ _ _ said (fun _ h => by cases h) (by kernel_rfl) (fun _ h => by cases h) relationBack_row_tie rfl ⟨rfl, rfl⟩ (by kernel_rfl) rfl
    (fun f fn hf hfn => by
      obtain rfl : f = 3 := Option.some.inj ((show Tryd.prog.funcNamed "keelson/keelsonlaw3.RelationBack" = some 3 by kernel_rfl).symm.trans hf) |>.symm
      obtain rfl : fn = Tryd.f3 := (Option.some.inj (Tryd.func3.symm.trans hfn)).symm
      exact ⟨by kernel_rfl, fun j t ht => by
        rw [Tryd.params3] at ht
        have hm : t ∈ [9, 23] := by have := Array.mem_of_getElem? ht; simp at this; simp [this]
        have hall : ([9, 23].all fun u => !Tryd.prog.wantsStandIn u) = true := by kernel_rfl
        exact (show Tryd.prog.wantsStandIn t = false by simpa using List.all_eq_true.1 hall t hm)⟩)
    (by kernel_rfl)
#print axioms proved
end Go.Proofs.YtlelajcnfmmmjaaDoor.relationBack
