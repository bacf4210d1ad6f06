/- The contract of the document's own Parse of an atom: the program's. -/
import Derived.Test.YtnokmgkkefonbaaGreatDoorRelRefZ
set_option maxRecDepth 100000
set_option linter.unusedVariables false
set_option linter.unusedSimpArgs false
namespace Go.Proofs.YtnokmgkkefonbaaGreatDoor
open Go.RowKit
theorem q3cut_is {s : ByteArray} {a b : ByteArray} {h : Bool} (h1 : mk (cutN (B s)) = a) (h2 : mk (cutR (B s)) = b) (h3 : cutH (B s) = h) (hs : s.size ≤ 65536) (w : World) :
    Calls Tryz.prog 48 #[.string s] w fun e w' => e = .returned (.tuple #[.string a, .string b, .bool h]) ∧ ∃ n, w' = w.drewN n := by
  rw [← h1, ← h2, ← h3]; exact q3cut_any s w hs
theorem form_of {r : ByteArray} (h : 2 ≤ r.size) (h0 : r[0].toNat = 40) (h1 : (r[r.size - 1]'(by omega)).toNat = 41) :
    formB (B r) = (cutH (inL (B r)) && decide (opI (cutN (inL (B r))) ≠ 0)) ∧ B (r.extract 1 (r.size - 1)) = inL (B r) := by
  have hl : 2 ≤ (B r).length := by rw [B_len]; exact h
  have g0 : (B r).getD 0 0 = 40 := by rw [B_getD r 0 (by omega)]; exact h0
  have g1 : (B r).getD ((B r).length - 1) 0 = 41 := by rw [B_len, B_getD r (r.size - 1) (by omega)]; exact h1
  refine ⟨?_, ?_⟩
  · unfold formB; rw [decide_eq_true hl, decide_eq_true g0, decide_eq_true g1]; rfl
  · have hf := form_is hl g0 g1
    have hz := congrArg List.length hf
    rw [B_len] at hz
    simp only [List.length_cons, List.length_append, List.length_nil] at hz
    rw [B_extract, show r.size - 1 - 1 = (inL (B r)).length by omega]
    conv => lhs; rw [hf]
    simp only [List.drop_succ_cons, List.drop_zero, inL_of]
    simp
set_option maxHeartbeats 4000000 in
theorem q3parse_any (s : ByteArray) (w : World) (hs : s.size ≤ 65536) : Calls Tryz.prog 32 #[.string s] w fun e w' => e = .returned (relVal s) ∧ Below w.heap.size w w' := by
  obtain ⟨nm, hnm⟩ : ∃ nm, mk (cutN (B s)) = nm := ⟨_, rfl⟩
  obtain ⟨rs, hrs⟩ : ∃ rs, mk (cutR (B s)) = rs := ⟨_, rfl⟩
  have hBN : B nm = cutN (B s) := by rw [← hnm]; exact B_mk (cutN_lt (B_lt s))
  have hBR : B rs = cutR (B s) := by rw [← hrs]; exact B_mk (cutR_lt (B_lt s))
  have zN : nm.size ≤ 65536 := by rw [← B_len, hBN]; have := cutN_len (B s); rw [B_len] at this; omega
  have zR : rs.size ≤ 65536 := by rw [← B_len, hBR]; have := cutR_len (B s); rw [B_len] at this; omega
  have KC := Lib.hid (fun w => q3cut_is hnm hrs rfl hs w)
  have KN := Lib.hid (fun w => q3name_any nm w zN)
  rw [hBN] at KN
  cases hn : nameB (cutN (B s))
  · have X := Lib.hid (relV_bad (s := s) (e := 3) (by unfold relE; rw [hn]; rfl) (by decide))
    rw [hn] at KN
    clear hBN hBR zN zR hn hnm hrs
    generalize cutH (B s) = ch at *
    go_enter Tryz.func32, Tryz.ntmps32
    go_wp2_with fail
    refine (KC.out _).mono ?_
    rintro e' w' ⟨rfl, n, rfl⟩
    have B1 := Lib.hid (bel_d (bel_box w (.cells #[.string { data := #[] }, .int .i64 0, .string { data := #[] }] 41)) n)
    obtain ⟨V, hV⟩ : ∃ V, V = (w.alloc (.cells #[.string { data := #[] }, .int .i64 0, .string { data := #[] }] 41)).drewN n := ⟨_, rfl⟩
    have c0 : V.cell? ⟨w.heap.size, 0, none⟩ = some (.string { data := #[] }) := by rw [hV]; simp [go_sem]
    have c1 : V.cell? ⟨w.heap.size, 1, none⟩ = some (.int .i64 0) := by rw [hV]; simp [go_sem]
    have c2 : V.cell? ⟨w.heap.size, 2, none⟩ = some (.string { data := #[] }) := by rw [hV]; simp [go_sem]
    have f0 : V.frozen? ⟨w.heap.size, 0, none⟩ = false := by rw [hV]; simp [go_sem]
    have f1 : V.frozen? ⟨w.heap.size, 1, none⟩ = false := by rw [hV]; simp [go_sem]
    have f2 : V.frozen? ⟨w.heap.size, 2, none⟩ = false := by rw [hV]; simp [go_sem]
    have s1 : w.heap.size + 1 ≤ V.heap.size := by rw [hV]; simp
    rw [← hV] at B1 ⊢
    clear hV
    go_wp2_with fail
    refine (KN.out _).mono ?_
    rintro e' w' ⟨rfl, rfl⟩
    go_wp2
    obtain ⟨k0, k1, k2, bW⟩ := fin3 (x := .string { data := #[] }) (y := .int .i64 0) (z := .string { data := #[] }) B1.out c0 c1 c2
    exact bodyPost_ret (v := .tuple #[.agg #[.string { data := #[] }, .int .i64 0, .string { data := #[] }], .int .i64 3]) (by simp [results, Tryz.results32, go_sem, k0, k1, k2]) rfl ⟨by rw [X.out], bW⟩
  rw [hn] at KN
  cases hc : cutH (B s)
  · have X := Lib.hid (relV_bare hn hc)
    rw [hnm] at X
    rw [hc] at KC
    clear hBN hBR zN hn hc hnm hrs
    go_enter Tryz.func32, Tryz.ntmps32
    go_wp2_with fail
    refine (KC.out _).mono ?_
    rintro e' w' ⟨rfl, n, rfl⟩
    have B1 := Lib.hid (bel_d (bel_box w (.cells #[.string { data := #[] }, .int .i64 0, .string { data := #[] }] 41)) n)
    obtain ⟨V, hV⟩ : ∃ V, V = (w.alloc (.cells #[.string { data := #[] }, .int .i64 0, .string { data := #[] }] 41)).drewN n := ⟨_, rfl⟩
    have c0 : V.cell? ⟨w.heap.size, 0, none⟩ = some (.string { data := #[] }) := by rw [hV]; simp [go_sem]
    have c1 : V.cell? ⟨w.heap.size, 1, none⟩ = some (.int .i64 0) := by rw [hV]; simp [go_sem]
    have c2 : V.cell? ⟨w.heap.size, 2, none⟩ = some (.string { data := #[] }) := by rw [hV]; simp [go_sem]
    have f0 : V.frozen? ⟨w.heap.size, 0, none⟩ = false := by rw [hV]; simp [go_sem]
    have f1 : V.frozen? ⟨w.heap.size, 1, none⟩ = false := by rw [hV]; simp [go_sem]
    have f2 : V.frozen? ⟨w.heap.size, 2, none⟩ = false := by rw [hV]; simp [go_sem]
    have s1 : w.heap.size + 1 ≤ V.heap.size := by rw [hV]; simp
    rw [← hV] at B1 ⊢
    clear hV
    go_wp2_with fail
    refine (KN.out _).mono ?_
    rintro e' w' ⟨rfl, rfl⟩
    go_wp2
    obtain ⟨k0, k1, k2, bW⟩ := fin3 (x := .string nm) (y := .int .i64 0) (z := .string { data := #[] }) B1.out c0 c1 c2
    exact bodyPost_ret (v := .tuple #[.agg #[.string nm, .int .i64 0, .string { data := #[] }], .int .i64 0]) (by simp [results, Tryz.results32, go_sem, k0, k1, k2]) rfl ⟨by rw [X.out], bW⟩
  rw [hc] at KC
  by_cases h2 : 2 ≤ rs.size
  · have j2 : (2 : Int) ≤ rs.size := by omega
    by_cases h0 : rs[0].toNat = 40
    · have t0 : ((rs[0].toNat : Int) != 40) = false := by rw [bne_eq_false_iff_eq]; omega
      have hlt1 : rs.size - 1 < rs.size := by omega
      by_cases h1 : (rs[rs.size - 1]'hlt1).toNat = 41
      · have t1 : (((rs[rs.size - 1]'hlt1).toNat : Int) != 41) = false := by rw [bne_eq_false_iff_eq]; omega
        obtain ⟨HF, hI⟩ := form_of h2 h0 h1
        rw [hBR] at HF hI
        have zI : (rs.extract 1 (rs.size - 1)).size ≤ 65536 := by rw [ByteArray.size_extract]; omega
        obtain ⟨sg, hsg⟩ : ∃ sg, mk (cutN (B (rs.extract 1 (rs.size - 1)))) = sg := ⟨_, rfl⟩
        obtain ⟨vv, hvv⟩ : ∃ vv, mk (cutR (B (rs.extract 1 (rs.size - 1)))) = vv := ⟨_, rfl⟩
        have KI := Lib.hid (fun w => q3cut_is hsg hvv rfl zI w)
        have KO := Lib.hid (fun w => q3op_any sg w)
        have hBS : B sg = cutN (inL (cutR (B s))) := by rw [← hsg, hI]; exact B_mk (fun c hc => B_lt s c (cutR_mem (inL_mem (cutN_mem hc))))
        have hBV : B vv = verL (cutR (B s)) := by rw [← hvv, hI]; exact B_mk (fun c hc => B_lt s c (cutR_mem (inL_mem (cutR_mem hc))))
        have hvm : mk (verL (cutR (B s))) = vv := by rw [← hBV, mk_B]
        rw [hBS] at KO
        rw [hI] at KI
        have KP := Lib.hid (fun w => q3plain_any vv w)
        rw [hBV] at KP
        cases hh : cutH (inL (cutR (B s)))
        · rw [hh, Bool.false_and] at HF
          have X := Lib.hid (relV_bad (s := s) (e := 5) (by unfold relE; rw [if_pos hn, if_pos hc, if_neg (by rw [HF]; decide)]) (by decide))
          rw [hh] at KI
          generalize opI (cutN (inL (cutR (B s)))) = o at *
          generalize decide (o ≠ 0) = ob at *
          clear hBN hBR zN hn hc hnm hrs h0 h1 hI zI hsg hvv hBS hBV hvm hh HF KP
          go_enter Tryz.func32, Tryz.ntmps32
          go_wp2_with fail
          refine (KC.out _).mono ?_
          rintro e' w' ⟨rfl, n, rfl⟩
          have B1 := Lib.hid (bel_d (bel_box w (.cells #[.string { data := #[] }, .int .i64 0, .string { data := #[] }] 41)) n)
          obtain ⟨V, hV⟩ : ∃ V, V = (w.alloc (.cells #[.string { data := #[] }, .int .i64 0, .string { data := #[] }] 41)).drewN n := ⟨_, rfl⟩
          have c0 : V.cell? ⟨w.heap.size, 0, none⟩ = some (.string { data := #[] }) := by rw [hV]; simp [go_sem]
          have c1 : V.cell? ⟨w.heap.size, 1, none⟩ = some (.int .i64 0) := by rw [hV]; simp [go_sem]
          have c2 : V.cell? ⟨w.heap.size, 2, none⟩ = some (.string { data := #[] }) := by rw [hV]; simp [go_sem]
          have f0 : V.frozen? ⟨w.heap.size, 0, none⟩ = false := by rw [hV]; simp [go_sem]
          have f1 : V.frozen? ⟨w.heap.size, 1, none⟩ = false := by rw [hV]; simp [go_sem]
          have f2 : V.frozen? ⟨w.heap.size, 2, none⟩ = false := by rw [hV]; simp [go_sem]
          have s1 : w.heap.size + 1 ≤ V.heap.size := by rw [hV]; simp
          rw [← hV] at B1 ⊢
          clear hV
          go_wp2_with fail
          refine (KN.out _).mono ?_
          rintro e' w' ⟨rfl, rfl⟩
          go_wp2_with fail
          refine (KI.out _).mono ?_
          rintro e' w' ⟨rfl, m, rfl⟩
          have B2 := Lib.hid (bel_d B1.out m)
          obtain ⟨V2, hV2⟩ : ∃ V2, V2 = V.drewN m := ⟨_, rfl⟩
          replace c0 : V2.cell? ⟨w.heap.size, 0, none⟩ = some (.string { data := #[] }) := by rw [hV2]; exact c0
          replace c1 : V2.cell? ⟨w.heap.size, 1, none⟩ = some (.int .i64 0) := by rw [hV2]; exact c1
          replace c2 : V2.cell? ⟨w.heap.size, 2, none⟩ = some (.string { data := #[] }) := by rw [hV2]; exact c2
          replace f0 : V2.frozen? ⟨w.heap.size, 0, none⟩ = false := by rw [hV2]; exact f0
          replace f1 : V2.frozen? ⟨w.heap.size, 1, none⟩ = false := by rw [hV2]; exact f1
          replace f2 : V2.frozen? ⟨w.heap.size, 2, none⟩ = false := by rw [hV2]; exact f2
          replace s1 : w.heap.size + 1 ≤ V2.heap.size := by rw [hV2]; exact s1
          rw [← hV2] at B2 ⊢
          clear hV2
          go_wp2_with fail
          refine (KO.out _).mono ?_
          rintro e' w' ⟨rfl, rfl⟩
          go_wp2
          obtain ⟨k0, k1, k2, bW⟩ := fin3 (x := .string { data := #[] }) (y := .int .i64 0) (z := .string { data := #[] }) B2.out c0 c1 c2
          exact bodyPost_ret (v := .tuple #[.agg #[.string { data := #[] }, .int .i64 0, .string { data := #[] }], .int .i64 5]) (by simp [results, Tryz.results32, go_sem, k0, k1, k2]) rfl ⟨by rw [X.out], bW⟩
        by_cases ho : opI (cutN (inL (cutR (B s)))) = 0
        · rw [hh, decide_eq_false (p := opI (cutN (inL (cutR (B s)))) ≠ 0) (by simpa using ho), Bool.and_false] at HF
          have X := Lib.hid (relV_bad (s := s) (e := 5) (by unfold relE; rw [if_pos hn, if_pos hc, if_neg (by rw [HF]; decide)]) (by decide))
          rw [hh] at KI
          rw [decide_eq_false (p := opI (cutN (inL (cutR (B s)))) ≠ 0) (by simpa using ho)] at KO
          generalize opI (cutN (inL (cutR (B s)))) = o at *
          clear hBN hBR zN hn hc hnm hrs h0 h1 hI zI hsg hvv hBS hBV hvm hh HF KP ho
          go_enter Tryz.func32, Tryz.ntmps32
          go_wp2_with fail
          refine (KC.out _).mono ?_
          rintro e' w' ⟨rfl, n, rfl⟩
          have B1 := Lib.hid (bel_d (bel_box w (.cells #[.string { data := #[] }, .int .i64 0, .string { data := #[] }] 41)) n)
          obtain ⟨V, hV⟩ : ∃ V, V = (w.alloc (.cells #[.string { data := #[] }, .int .i64 0, .string { data := #[] }] 41)).drewN n := ⟨_, rfl⟩
          have c0 : V.cell? ⟨w.heap.size, 0, none⟩ = some (.string { data := #[] }) := by rw [hV]; simp [go_sem]
          have c1 : V.cell? ⟨w.heap.size, 1, none⟩ = some (.int .i64 0) := by rw [hV]; simp [go_sem]
          have c2 : V.cell? ⟨w.heap.size, 2, none⟩ = some (.string { data := #[] }) := by rw [hV]; simp [go_sem]
          have f0 : V.frozen? ⟨w.heap.size, 0, none⟩ = false := by rw [hV]; simp [go_sem]
          have f1 : V.frozen? ⟨w.heap.size, 1, none⟩ = false := by rw [hV]; simp [go_sem]
          have f2 : V.frozen? ⟨w.heap.size, 2, none⟩ = false := by rw [hV]; simp [go_sem]
          have s1 : w.heap.size + 1 ≤ V.heap.size := by rw [hV]; simp
          rw [← hV] at B1 ⊢
          clear hV
          go_wp2_with fail
          refine (KN.out _).mono ?_
          rintro e' w' ⟨rfl, rfl⟩
          go_wp2_with fail
          refine (KI.out _).mono ?_
          rintro e' w' ⟨rfl, m, rfl⟩
          have B2 := Lib.hid (bel_d B1.out m)
          obtain ⟨V2, hV2⟩ : ∃ V2, V2 = V.drewN m := ⟨_, rfl⟩
          replace c0 : V2.cell? ⟨w.heap.size, 0, none⟩ = some (.string { data := #[] }) := by rw [hV2]; exact c0
          replace c1 : V2.cell? ⟨w.heap.size, 1, none⟩ = some (.int .i64 0) := by rw [hV2]; exact c1
          replace c2 : V2.cell? ⟨w.heap.size, 2, none⟩ = some (.string { data := #[] }) := by rw [hV2]; exact c2
          replace f0 : V2.frozen? ⟨w.heap.size, 0, none⟩ = false := by rw [hV2]; exact f0
          replace f1 : V2.frozen? ⟨w.heap.size, 1, none⟩ = false := by rw [hV2]; exact f1
          replace f2 : V2.frozen? ⟨w.heap.size, 2, none⟩ = false := by rw [hV2]; exact f2
          replace s1 : w.heap.size + 1 ≤ V2.heap.size := by rw [hV2]; exact s1
          rw [← hV2] at B2 ⊢
          clear hV2
          go_wp2_with fail
          refine (KO.out _).mono ?_
          rintro e' w' ⟨rfl, rfl⟩
          go_wp2
          obtain ⟨k0, k1, k2, bW⟩ := fin3 (x := .string { data := #[] }) (y := .int .i64 0) (z := .string { data := #[] }) B2.out c0 c1 c2
          exact bodyPost_ret (v := .tuple #[.agg #[.string { data := #[] }, .int .i64 0, .string { data := #[] }], .int .i64 5]) (by simp [results, Tryz.results32, go_sem, k0, k1, k2]) rfl ⟨by rw [X.out], bW⟩
        rw [hh, decide_eq_true (p := opI (cutN (inL (cutR (B s)))) ≠ 0) (by simpa using ho), Bool.and_true] at HF
        rw [hh] at KI
        rw [decide_eq_true (p := opI (cutN (inL (cutR (B s)))) ≠ 0) (by simpa using ho)] at KO
        cases hp : prB (verL (cutR (B s)))
        · have X := Lib.hid (relV_bad (s := s) (e := 4) (by unfold relE; rw [if_pos hn, if_pos hc, if_pos HF, hp]; rfl) (by decide))
          rw [hp] at KP
          generalize opI (cutN (inL (cutR (B s)))) = o at *
          clear hBN hBR zN hn hc hnm hrs h0 h1 hI zI hsg hvv hBS hBV hvm hh HF ho hp
          go_enter Tryz.func32, Tryz.ntmps32
          go_wp2_with fail
          refine (KC.out _).mono ?_
          rintro e' w' ⟨rfl, n, rfl⟩
          have B1 := Lib.hid (bel_d (bel_box w (.cells #[.string { data := #[] }, .int .i64 0, .string { data := #[] }] 41)) n)
          obtain ⟨V, hV⟩ : ∃ V, V = (w.alloc (.cells #[.string { data := #[] }, .int .i64 0, .string { data := #[] }] 41)).drewN n := ⟨_, rfl⟩
          have c0 : V.cell? ⟨w.heap.size, 0, none⟩ = some (.string { data := #[] }) := by rw [hV]; simp [go_sem]
          have c1 : V.cell? ⟨w.heap.size, 1, none⟩ = some (.int .i64 0) := by rw [hV]; simp [go_sem]
          have c2 : V.cell? ⟨w.heap.size, 2, none⟩ = some (.string { data := #[] }) := by rw [hV]; simp [go_sem]
          have f0 : V.frozen? ⟨w.heap.size, 0, none⟩ = false := by rw [hV]; simp [go_sem]
          have f1 : V.frozen? ⟨w.heap.size, 1, none⟩ = false := by rw [hV]; simp [go_sem]
          have f2 : V.frozen? ⟨w.heap.size, 2, none⟩ = false := by rw [hV]; simp [go_sem]
          have s1 : w.heap.size + 1 ≤ V.heap.size := by rw [hV]; simp
          rw [← hV] at B1 ⊢
          clear hV
          go_wp2_with fail
          refine (KN.out _).mono ?_
          rintro e' w' ⟨rfl, rfl⟩
          go_wp2_with fail
          refine (KI.out _).mono ?_
          rintro e' w' ⟨rfl, m, rfl⟩
          have B2 := Lib.hid (bel_d B1.out m)
          obtain ⟨V2, hV2⟩ : ∃ V2, V2 = V.drewN m := ⟨_, rfl⟩
          replace c0 : V2.cell? ⟨w.heap.size, 0, none⟩ = some (.string { data := #[] }) := by rw [hV2]; exact c0
          replace c1 : V2.cell? ⟨w.heap.size, 1, none⟩ = some (.int .i64 0) := by rw [hV2]; exact c1
          replace c2 : V2.cell? ⟨w.heap.size, 2, none⟩ = some (.string { data := #[] }) := by rw [hV2]; exact c2
          replace f0 : V2.frozen? ⟨w.heap.size, 0, none⟩ = false := by rw [hV2]; exact f0
          replace f1 : V2.frozen? ⟨w.heap.size, 1, none⟩ = false := by rw [hV2]; exact f1
          replace f2 : V2.frozen? ⟨w.heap.size, 2, none⟩ = false := by rw [hV2]; exact f2
          replace s1 : w.heap.size + 1 ≤ V2.heap.size := by rw [hV2]; exact s1
          rw [← hV2] at B2 ⊢
          clear hV2
          go_wp2_with fail
          refine (KO.out _).mono ?_
          rintro e' w' ⟨rfl, rfl⟩
          go_wp2_with fail
          refine (KP.out _).mono ?_
          rintro e' w3 ⟨rfl, hb⟩
          replace c0 := keep_cell hb c0
          replace c1 := keep_cell hb c1
          replace c2 := keep_cell hb c2
          replace f0 := keep_fr hb (by omega) f0
          replace f1 := keep_fr hb (by omega) f1
          replace f2 := keep_fr hb (by omega) f2
          have B3 := Lib.hid (bel_2 B2.out hb)
          clear hb
          go_wp2
          obtain ⟨k0, k1, k2, bW⟩ := fin3 (x := .string { data := #[] }) (y := .int .i64 0) (z := .string { data := #[] }) B3.out c0 c1 c2
          exact bodyPost_ret (v := .tuple #[.agg #[.string { data := #[] }, .int .i64 0, .string { data := #[] }], .int .i64 4]) (by simp [results, Tryz.results32, go_sem, k0, k1, k2]) rfl ⟨by rw [X.out], bW⟩
        · have X := Lib.hid (relV_full hn hc HF hp)
          rw [hnm, hvm] at X
          rw [hp] at KP
          generalize opI (cutN (inL (cutR (B s)))) = o at *
          clear hBN hBR zN hn hc hnm hrs h0 h1 hI zI hsg hvv hBS hBV hvm hh HF ho hp
          go_enter Tryz.func32, Tryz.ntmps32
          go_wp2_with fail
          refine (KC.out _).mono ?_
          rintro e' w' ⟨rfl, n, rfl⟩
          have B1 := Lib.hid (bel_d (bel_box w (.cells #[.string { data := #[] }, .int .i64 0, .string { data := #[] }] 41)) n)
          obtain ⟨V, hV⟩ : ∃ V, V = (w.alloc (.cells #[.string { data := #[] }, .int .i64 0, .string { data := #[] }] 41)).drewN n := ⟨_, rfl⟩
          have c0 : V.cell? ⟨w.heap.size, 0, none⟩ = some (.string { data := #[] }) := by rw [hV]; simp [go_sem]
          have c1 : V.cell? ⟨w.heap.size, 1, none⟩ = some (.int .i64 0) := by rw [hV]; simp [go_sem]
          have c2 : V.cell? ⟨w.heap.size, 2, none⟩ = some (.string { data := #[] }) := by rw [hV]; simp [go_sem]
          have f0 : V.frozen? ⟨w.heap.size, 0, none⟩ = false := by rw [hV]; simp [go_sem]
          have f1 : V.frozen? ⟨w.heap.size, 1, none⟩ = false := by rw [hV]; simp [go_sem]
          have f2 : V.frozen? ⟨w.heap.size, 2, none⟩ = false := by rw [hV]; simp [go_sem]
          have s1 : w.heap.size + 1 ≤ V.heap.size := by rw [hV]; simp
          rw [← hV] at B1 ⊢
          clear hV
          go_wp2_with fail
          refine (KN.out _).mono ?_
          rintro e' w' ⟨rfl, rfl⟩
          go_wp2_with fail
          refine (KI.out _).mono ?_
          rintro e' w' ⟨rfl, m, rfl⟩
          have B2 := Lib.hid (bel_d B1.out m)
          obtain ⟨V2, hV2⟩ : ∃ V2, V2 = V.drewN m := ⟨_, rfl⟩
          replace c0 : V2.cell? ⟨w.heap.size, 0, none⟩ = some (.string { data := #[] }) := by rw [hV2]; exact c0
          replace c1 : V2.cell? ⟨w.heap.size, 1, none⟩ = some (.int .i64 0) := by rw [hV2]; exact c1
          replace c2 : V2.cell? ⟨w.heap.size, 2, none⟩ = some (.string { data := #[] }) := by rw [hV2]; exact c2
          replace f0 : V2.frozen? ⟨w.heap.size, 0, none⟩ = false := by rw [hV2]; exact f0
          replace f1 : V2.frozen? ⟨w.heap.size, 1, none⟩ = false := by rw [hV2]; exact f1
          replace f2 : V2.frozen? ⟨w.heap.size, 2, none⟩ = false := by rw [hV2]; exact f2
          replace s1 : w.heap.size + 1 ≤ V2.heap.size := by rw [hV2]; exact s1
          rw [← hV2] at B2 ⊢
          clear hV2
          go_wp2_with fail
          refine (KO.out _).mono ?_
          rintro e' w' ⟨rfl, rfl⟩
          go_wp2_with fail
          refine (KP.out _).mono ?_
          rintro e' w3 ⟨rfl, hb⟩
          replace c0 := keep_cell hb c0
          replace c1 := keep_cell hb c1
          replace c2 := keep_cell hb c2
          replace f0 := keep_fr hb (by omega) f0
          replace f1 := keep_fr hb (by omega) f1
          replace f2 := keep_fr hb (by omega) f2
          have B3 := Lib.hid (bel_2 B2.out hb)
          clear hb
          go_wp2
          obtain ⟨k0, k1, k2, bW⟩ := fin3 (x := .string nm) (y := .int .i64 o) (z := .string vv) B3.out c0 c1 c2
          exact bodyPost_ret (v := .tuple #[.agg #[.string nm, .int .i64 o, .string vv], .int .i64 0]) (by simp [results, Tryz.results32, go_sem, k0, k1, k2]) rfl ⟨by rw [X.out], bW⟩
      · have t1 : (((rs[rs.size - 1]'hlt1).toNat : Int) != 41) = true := by rw [bne_iff_ne]; omega
        have HF : formB (cutR (B s)) = false := form_suf (by rw [← hBR]; unfold sufB; rw [B_len, B_getD rs _ hlt1]; exact decide_eq_false h1)
        have X := Lib.hid (relV_bad (s := s) (e := 5) (by unfold relE; rw [if_pos hn, if_pos hc, if_neg (by rw [HF]; decide)]) (by decide))
        clear hBN hBR zN hn hc hnm hrs h0 h1 HF
        go_enter Tryz.func32, Tryz.ntmps32
        go_wp2_with fail
        refine (KC.out _).mono ?_
        rintro e' w' ⟨rfl, n, rfl⟩
        have B1 := Lib.hid (bel_d (bel_box w (.cells #[.string { data := #[] }, .int .i64 0, .string { data := #[] }] 41)) n)
        obtain ⟨V, hV⟩ : ∃ V, V = (w.alloc (.cells #[.string { data := #[] }, .int .i64 0, .string { data := #[] }] 41)).drewN n := ⟨_, rfl⟩
        have c0 : V.cell? ⟨w.heap.size, 0, none⟩ = some (.string { data := #[] }) := by rw [hV]; simp [go_sem]
        have c1 : V.cell? ⟨w.heap.size, 1, none⟩ = some (.int .i64 0) := by rw [hV]; simp [go_sem]
        have c2 : V.cell? ⟨w.heap.size, 2, none⟩ = some (.string { data := #[] }) := by rw [hV]; simp [go_sem]
        have f0 : V.frozen? ⟨w.heap.size, 0, none⟩ = false := by rw [hV]; simp [go_sem]
        have f1 : V.frozen? ⟨w.heap.size, 1, none⟩ = false := by rw [hV]; simp [go_sem]
        have f2 : V.frozen? ⟨w.heap.size, 2, none⟩ = false := by rw [hV]; simp [go_sem]
        have s1 : w.heap.size + 1 ≤ V.heap.size := by rw [hV]; simp
        rw [← hV] at B1 ⊢
        clear hV
        go_wp2_with fail
        refine (KN.out _).mono ?_
        rintro e' w' ⟨rfl, rfl⟩
        go_wp2
        obtain ⟨k0, k1, k2, bW⟩ := fin3 (x := .string { data := #[] }) (y := .int .i64 0) (z := .string { data := #[] }) B1.out c0 c1 c2
        exact bodyPost_ret (v := .tuple #[.agg #[.string { data := #[] }, .int .i64 0, .string { data := #[] }], .int .i64 5]) (by simp [results, Tryz.results32, go_sem, k0, k1, k2]) rfl ⟨by rw [X.out], bW⟩
    · have t0 : ((rs[0].toNat : Int) != 40) = true := by rw [bne_iff_ne]; omega
      have HF : formB (cutR (B s)) = false := form_pre (by rw [← hBR]; unfold preB; rw [B_getD rs 0 (by omega)]; exact decide_eq_false h0)
      have X := Lib.hid (relV_bad (s := s) (e := 5) (by unfold relE; rw [if_pos hn, if_pos hc, if_neg (by rw [HF]; decide)]) (by decide))
      clear hBN hBR zN hn hc hnm hrs h0 HF
      go_enter Tryz.func32, Tryz.ntmps32
      go_wp2_with fail
      refine (KC.out _).mono ?_
      rintro e' w' ⟨rfl, n, rfl⟩
      have B1 := Lib.hid (bel_d (bel_box w (.cells #[.string { data := #[] }, .int .i64 0, .string { data := #[] }] 41)) n)
      obtain ⟨V, hV⟩ : ∃ V, V = (w.alloc (.cells #[.string { data := #[] }, .int .i64 0, .string { data := #[] }] 41)).drewN n := ⟨_, rfl⟩
      have c0 : V.cell? ⟨w.heap.size, 0, none⟩ = some (.string { data := #[] }) := by rw [hV]; simp [go_sem]
      have c1 : V.cell? ⟨w.heap.size, 1, none⟩ = some (.int .i64 0) := by rw [hV]; simp [go_sem]
      have c2 : V.cell? ⟨w.heap.size, 2, none⟩ = some (.string { data := #[] }) := by rw [hV]; simp [go_sem]
      have f0 : V.frozen? ⟨w.heap.size, 0, none⟩ = false := by rw [hV]; simp [go_sem]
      have f1 : V.frozen? ⟨w.heap.size, 1, none⟩ = false := by rw [hV]; simp [go_sem]
      have f2 : V.frozen? ⟨w.heap.size, 2, none⟩ = false := by rw [hV]; simp [go_sem]
      have s1 : w.heap.size + 1 ≤ V.heap.size := by rw [hV]; simp
      rw [← hV] at B1 ⊢
      clear hV
      go_wp2_with fail
      refine (KN.out _).mono ?_
      rintro e' w' ⟨rfl, rfl⟩
      go_wp2
      obtain ⟨k0, k1, k2, bW⟩ := fin3 (x := .string { data := #[] }) (y := .int .i64 0) (z := .string { data := #[] }) B1.out c0 c1 c2
      exact bodyPost_ret (v := .tuple #[.agg #[.string { data := #[] }, .int .i64 0, .string { data := #[] }], .int .i64 5]) (by simp [results, Tryz.results32, go_sem, k0, k1, k2]) rfl ⟨by rw [X.out], bW⟩
  · have j2 : (rs.size : Int) < 2 := by omega
    have HF : formB (cutR (B s)) = false := by rw [← hBR]; unfold formB; rw [decide_eq_false (by rw [B_len]; exact h2)]; rfl
    have X := Lib.hid (relV_bad (s := s) (e := 5) (by unfold relE; rw [if_pos hn, if_pos hc, if_neg (by rw [HF]; decide)]) (by decide))
    clear hBN hBR zN hn hc hnm hrs HF
    go_enter Tryz.func32, Tryz.ntmps32
    go_wp2_with fail
    refine (KC.out _).mono ?_
    rintro e' w' ⟨rfl, n, rfl⟩
    have B1 := Lib.hid (bel_d (bel_box w (.cells #[.string { data := #[] }, .int .i64 0, .string { data := #[] }] 41)) n)
    obtain ⟨V, hV⟩ : ∃ V, V = (w.alloc (.cells #[.string { data := #[] }, .int .i64 0, .string { data := #[] }] 41)).drewN n := ⟨_, rfl⟩
    have c0 : V.cell? ⟨w.heap.size, 0, none⟩ = some (.string { data := #[] }) := by rw [hV]; simp [go_sem]
    have c1 : V.cell? ⟨w.heap.size, 1, none⟩ = some (.int .i64 0) := by rw [hV]; simp [go_sem]
    have c2 : V.cell? ⟨w.heap.size, 2, none⟩ = some (.string { data := #[] }) := by rw [hV]; simp [go_sem]
    have f0 : V.frozen? ⟨w.heap.size, 0, none⟩ = false := by rw [hV]; simp [go_sem]
    have f1 : V.frozen? ⟨w.heap.size, 1, none⟩ = false := by rw [hV]; simp [go_sem]
    have f2 : V.frozen? ⟨w.heap.size, 2, none⟩ = false := by rw [hV]; simp [go_sem]
    have s1 : w.heap.size + 1 ≤ V.heap.size := by rw [hV]; simp
    rw [← hV] at B1 ⊢
    clear hV
    go_wp2_with fail
    refine (KN.out _).mono ?_
    rintro e' w' ⟨rfl, rfl⟩
    go_wp2
    obtain ⟨k0, k1, k2, bW⟩ := fin3 (x := .string { data := #[] }) (y := .int .i64 0) (z := .string { data := #[] }) B1.out c0 c1 c2
    exact bodyPost_ret (v := .tuple #[.agg #[.string { data := #[] }, .int .i64 0, .string { data := #[] }], .int .i64 5]) (by simp [results, Tryz.results32, go_sem, k0, k1, k2]) rfl ⟨by rw [X.out], bW⟩
end Go.Proofs.YtnokmgkkefonbaaGreatDoor
