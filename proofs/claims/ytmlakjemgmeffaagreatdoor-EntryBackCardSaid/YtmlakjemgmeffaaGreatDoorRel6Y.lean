/- The contracts of the program's split and Parse of an atom. -/
import Derived.Test.YtmlakjemgmeffaaGreatDoorNT
set_option maxRecDepth 100000
set_option linter.unusedVariables false
set_option linter.unusedSimpArgs false
namespace Go.Proofs.YtmlakjemgmeffaaGreatDoor
open Go.RowKit
def preB (l : List Nat) : Bool := decide (l.getD 0 0 = 40)
def sufB (l : List Nat) : Bool := decide (l.getD (l.length - 1) 0 = 41)
theorem pre_is (s : ByteArray) : Lib.hasPrefix s.data.toList [40] = preB (B s) := by
  unfold Lib.hasPrefix preB B
  cases s.data.toList with
  | nil => rfl
  | cons c l =>
    rw [List.map_cons, List.getD_cons_zero, Bool.eq_iff_iff]
    simp only [List.isPrefixOf, Bool.and_true, beq_iff_eq, decide_eq_true_eq]
    constructor
    · rintro rfl; rfl
    · intro h; exact (UInt8.toNat_inj.1 h).symm
theorem suf_is (s : ByteArray) : Lib.hasSuffix s.data.toList [41] = sufB (B s) := by
  unfold Lib.hasSuffix sufB B
  rcases List.eq_nil_or_concat s.data.toList with h | ⟨l, c, h⟩
  · rw [h]; rfl
  · rw [h, Bool.eq_iff_iff, List.isSuffixOf_iff_suffix, decide_eq_true_eq]
    simp only [List.concat_eq_append, List.map_append, List.map_cons, List.map_nil, List.length_append, List.length_map, List.length_cons, List.length_nil]
    rw [List.getD_eq_getElem?_getD, List.getElem?_append_right (by simp)]
    simp only [List.length_map, Nat.zero_add, Nat.add_sub_cancel, Nat.sub_self, List.getElem?_cons_zero, Option.getD_some]
    constructor
    · rintro ⟨t, ht⟩
      have := congrArg List.getLast? ht
      simp at this
      rw [← this]; rfl
    · intro hc
      have : c = 41 := UInt8.toNat_inj.1 hc
      exact ⟨l, by rw [this]⟩
theorem pre_any (s : ByteArray) (w : World) : Calls Tryz.prog 181 #[.string s, .string { data := #[40] }] w fun e w' => e = .returned (.bool (preB (B s))) ∧ w = w' := by
  refine (Tryz.strings_HasPrefix s { data := #[40] } w).mono ?_
  rintro e w' ⟨rfl, rfl⟩
  exact ⟨by rw [← pre_is], rfl⟩
theorem suf_any (s : ByteArray) (w : World) (hs : s.size ≤ 65536) : Calls Tryz.prog 190 #[.string s, .string { data := #[41] }] w fun e w' => e = .returned (.bool (sufB (B s))) ∧ w = w' := by
  refine (Tryz.strings_HasSuffix s { data := #[41] } w (by omega)).mono ?_
  rintro e w' ⟨rfl, rfl⟩
  exact ⟨by rw [← suf_is], rfl⟩
theorem form_two {l : List Nat} (h : preB l = true) (h2 : sufB l = true) : 2 ≤ l.length := by
  unfold preB at h
  unfold sufB at h2
  rw [decide_eq_true_eq] at h h2
  rcases l with _ | ⟨a, _ | ⟨b, l⟩⟩
  · simp at h
  · simp at h h2; omega
  · simp
theorem form_pre {l : List Nat} (h : preB l = false) : formB l = false := by
  unfold preB at h
  unfold formB
  rw [h]; simp
theorem form_suf {l : List Nat} (h : sufB l = false) : formB l = false := by
  unfold sufB at h
  unfold formB
  rw [h]; simp
theorem form_both {l : List Nat} (h : preB l = true) (h2 : sufB l = true) : formB l = (cutH (inL l) && decide (opI (cutN (inL l)) ≠ 0)) ∧ l = 40 :: (inL l ++ [41]) := by
  have hl := form_two h h2
  constructor
  · unfold preB at h
    unfold sufB at h2
    unfold formB
    rw [h, h2, decide_eq_true hl]; rfl
  · unfold preB at h
    unfold sufB at h2
    rw [decide_eq_true_eq] at h h2
    exact form_is hl h h2
theorem cut_more {m : List Nat} (h : cutH m = true) : cutN (m ++ [41]) = cutN m ∧ cutR (m ++ [41]) = cutR m ++ [41] := by
  have hc := cut_back h
  have h3 := cut_at (r := cutR m ++ [41]) (cutN_no m)
  have e : m ++ [41] = cutN m ++ 32 :: (cutR m ++ [41]) := by
    have := congrArg (· ++ [41]) hc
    simpa using this
  rw [← e] at h3
  exact ⟨h3.1, h3.2.1⟩
theorem cutH_more (m : List Nat) : cutH (m ++ [41]) = cutH m := by
  unfold cutH
  rw [List.any_append]
  simp
theorem ext_last {l : List Nat} (h : ∀ c ∈ l, c < 256) : (mk (l ++ [41])).extract 0 l.length = mk l := by
  refine eq_mk ?_
  rw [B_extract, B_mk (fun c hc => by rcases List.mem_append.1 hc with hc | hc; exact h c hc; rw [List.mem_singleton.1 hc]; decide)]
  simp
theorem inL_lt (s : ByteArray) : ∀ c ∈ inL (B s), c < 256 := fun c hc => B_lt s c (inL_mem hc)
theorem verL_lt (s : ByteArray) : ∀ c ∈ verL (B s), c < 256 := fun c hc => inL_lt s c (cutR_mem hc)
theorem cutN_lt {l : List Nat} (h : ∀ c ∈ l, c < 256) : ∀ c ∈ cutN l, c < 256 := fun c hc => h c (cutN_mem hc)
theorem cutR_lt {l : List Nat} (h : ∀ c ∈ l, c < 256) : ∀ c ∈ cutR l, c < 256 := fun c hc => h c (cutR_mem hc)
def splV (s : ByteArray) : Value := if formB (B s) = true then .tuple #[.int .i64 (opI (cutN (inL (B s)))), .string (mk (verL (B s))), .bool true] else .tuple #[.int .i64 0, .string { data := #[] }, .bool false]
theorem splV_no {s : ByteArray} (h : formB (B s) = false) : splV s = .tuple #[.int .i64 0, .string { data := #[] }, .bool false] := by unfold splV; rw [if_neg (by rw [h]; decide)]
theorem splV_yes {s : ByteArray} (h : formB (B s) = true) : splV s = .tuple #[.int .i64 (opI (cutN (inL (B s)))), .string (mk (verL (B s))), .bool true] := by unfold splV; rw [if_pos h]
set_option maxHeartbeats 2000000 in
theorem rsplit_any (s : ByteArray) (w : World) (hs : s.size ≤ 65536) (E : EnvR w) : Calls Tryz.prog 159 #[.string s] w fun e w' => e = .returned (splV s) ∧ Below w.heap.size w w' := by
  have HE := Lib.hid E
  clear E
  have KA := Lib.hid (fun w => pre_any s w)
  have KB := Lib.hid (fun w => suf_any s w hs)
  cases hp : preB (B s)
  · have X := Lib.hid (splV_no (form_pre hp))
    rw [hp] at KA
    clear hp KB
    go_enter Tryz.func159, Tryz.ntmps159
    go_wp2_with fail
    refine (KA.out _).mono ?_
    rintro e' w' ⟨rfl, rfl⟩
    go_wp2
    go_ret3
    exact ⟨by rw [X.out]; rfl, Below.refl _ _⟩
  cases hq : sufB (B s)
  · have X := Lib.hid (splV_no (form_suf hq))
    rw [hp] at KA
    rw [hq] at KB
    clear hp hq
    go_enter Tryz.func159, Tryz.ntmps159
    go_wp2_with fail
    refine (KA.out _).mono ?_
    rintro e' w' ⟨rfl, rfl⟩
    go_wp2_with fail
    refine (KB.out _).mono ?_
    rintro e' w' ⟨rfl, rfl⟩
    go_wp2
    go_ret3
    exact ⟨by rw [X.out]; rfl, Below.refl _ _⟩
  obtain ⟨hf, hl⟩ := form_both hp hq
  have h2 : 2 ≤ s.size := by rw [← B_len]; exact form_two hp hq
  have hm : B (s.extract 1 s.size) = inL (B s) ++ [41] := by
    rw [B_extract, hl]
    simp only [List.drop_succ_cons, List.drop_zero, inL_of]
    rw [List.take_of_length_le (by have := congrArg List.length hl; rw [B_len] at this; simp at this ⊢; omega)]
  have hms : (s.extract 1 s.size).size ≤ 65536 := by rw [ByteArray.size_extract]; omega
  have KC := Lib.hid (fun w E => blank_any (s.extract 1 s.size) w hms E)
  rw [hm, cutH_more] at KC
  rw [hp] at KA
  rw [hq] at KB
  cases hc : cutH (inL (B s))
  · have X := Lib.hid (splV_no (s := s) (by rw [hf, hc]; rfl))
    have KO := Lib.hid (fun w E => rop_any (mk (cutN (inL (B s) ++ [41]))) w E)
    rw [hc] at KC
    generalize mk (cutN (inL (B s) ++ [41])) = sg at *
    generalize mk (cutR (inL (B s) ++ [41])) = vv at *
    clear hm hms hp hq hf hl hc
    generalize opI (B sg) = o at *
    generalize decide (o ≠ 0) = ob at *
    go_enter Tryz.func159, Tryz.ntmps159
    go_wp2_with fail
    refine (KA.out _).mono ?_
    rintro e' w' ⟨rfl, rfl⟩
    go_wp2_with fail
    refine (KB.out _).mono ?_
    rintro e' w' ⟨rfl, rfl⟩
    go_wp2_with fail
    refine (KC.out _ HE.out.env).mono ?_
    rintro e' w' ⟨rfl, n, rfl⟩
    have B1 := Lib.hid (bel_d (Below.refl w.heap.size w) n)
    go_wp2_with fail
    refine (KO.out _ (HE.out.below B1.out).sgn).mono ?_
    rintro e' w' ⟨rfl, rfl⟩
    go_wp2
    go_ret3
    exact ⟨by rw [X.out]; rfl, B1.out⟩
  · obtain ⟨m1, m2⟩ := cut_more hc
    have hB : B (mk (cutN (inL (B s)))) = cutN (inL (B s)) := B_mk (cutN_lt (inL_lt s))
    have KO := Lib.hid (fun w E => rop_any (mk (cutN (inL (B s)))) w E)
    rw [hB] at KO
    rw [hc, m1, m2] at KC
    by_cases ho : opI (cutN (inL (B s))) = 0
    · have X := Lib.hid (splV_no (s := s) (by rw [hf, hc, decide_eq_false (by simpa using ho)]; rfl))
      rw [decide_eq_false (p := opI (cutN (inL (B s))) ≠ 0) (by simpa using ho)] at KO
      generalize mk (cutN (inL (B s))) = sg at *
      generalize mk (cutR (inL (B s)) ++ [41]) = vv at *
      clear hm hms hp hq hf hl hc m1 m2 hB ho
      generalize opI (cutN (inL (B s))) = o at *
      go_enter Tryz.func159, Tryz.ntmps159
      go_wp2_with fail
      refine (KA.out _).mono ?_
      rintro e' w' ⟨rfl, rfl⟩
      go_wp2_with fail
      refine (KB.out _).mono ?_
      rintro e' w' ⟨rfl, rfl⟩
      go_wp2_with fail
      refine (KC.out _ HE.out.env).mono ?_
      rintro e' w' ⟨rfl, n, rfl⟩
      have B1 := Lib.hid (bel_d (Below.refl w.heap.size w) n)
      go_wp2_with fail
      refine (KO.out _ (HE.out.below B1.out).sgn).mono ?_
      rintro e' w' ⟨rfl, rfl⟩
      go_wp2
      go_ret3
      exact ⟨by rw [X.out]; rfl, B1.out⟩
    · have X := Lib.hid (splV_yes (s := s) (by rw [hf, hc, decide_eq_true (by simpa using ho)]; rfl))
      rw [decide_eq_true (p := opI (cutN (inL (B s))) ≠ 0) (by simpa using ho)] at KO
      have hx := ext_last (verL_lt s)
      have hz : (mk (verL (B s) ++ [41])).size = (verL (B s)).length + 1 := by rw [size_mk]; simp
      have hkk : (verL (B s)).length ≤ 65536 := by
        have a1 := cutR_len (inL (B s))
        have a2 := congrArg List.length hm
        rw [B_len, List.length_append] at a2
        unfold verL
        simp at a2
        omega
      have ev : cutR (inL (B s)) = verL (B s) := rfl
      rw [ev] at KC
      generalize (verL (B s)).length = k at *
      generalize mk (verL (B s)) = ver at *
      generalize mk (cutN (inL (B s))) = sg at *
      generalize mk (verL (B s) ++ [41]) = vv at *
      clear hm hms hp hq hf hl hc m1 m2 hB ho ev
      generalize opI (cutN (inL (B s))) = o at *
      go_enter Tryz.func159, Tryz.ntmps159
      go_wp2_with fail
      refine (KA.out _).mono ?_
      rintro e' w' ⟨rfl, rfl⟩
      go_wp2_with fail
      refine (KB.out _).mono ?_
      rintro e' w' ⟨rfl, rfl⟩
      go_wp2_with fail
      refine (KC.out _ HE.out.env).mono ?_
      rintro e' w' ⟨rfl, n, rfl⟩
      have B1 := Lib.hid (bel_d (Below.refl w.heap.size w) n)
      go_wp2_with fail
      refine (KO.out _ (HE.out.below B1.out).sgn).mono ?_
      rintro e' w' ⟨rfl, rfl⟩
      go_wp2
      go_quiet (fail)
      go_wp2
      go_ret3
      exact ⟨by rw [X.out]; rfl, bel_d B1.out _⟩
theorem box_froz {w w1 : World} {T : TypeId} {x y z : Value} (h : Below (w.alloc (.cells #[x, y, z] T)).heap.size (w.alloc (.cells #[x, y, z] T)) w1) :
    w1.frozen? ⟨w.heap.size, 0, none⟩ = false ∧ w1.frozen? ⟨w.heap.size, 1, none⟩ = false ∧ w1.frozen? ⟨w.heap.size, 2, none⟩ = false :=
  ⟨(h.frozen (by simp)).trans (by simp), (h.frozen (by simp)).trans (by simp), (h.frozen (by simp)).trans (by simp)⟩
theorem keep_fr {w w1 : World} (h : Below w.heap.size w w1) {b o : Nat} (hb : b < w.heap.size) (hf : w.frozen? ⟨b, o, none⟩ = false) : w1.frozen? ⟨b, o, none⟩ = false := (h.frozen (p := ⟨b, o, none⟩) hb).trans hf
theorem relV_bad {s : ByteArray} {e : Int} (h : relE (B s) = e) (h0 : e ≠ 0) : relVal s = .tuple #[.agg #[.string { data := #[] }, .int .i64 0, .string { data := #[] }], .int .i64 e] := by
  obtain ⟨a, b, c⟩ := rel_none (s := B s) (by rw [h]; exact h0)
  unfold relVal
  rw [a, b, c, h]; rfl
theorem relV_bare {s : ByteArray} (hn : nameB (cutN (B s)) = true) (hc : cutH (B s) = false) : relVal s = .tuple #[.agg #[.string (mk (cutN (B s))), .int .i64 0, .string { data := #[] }], .int .i64 0] := by
  have hE : relE (B s) = 0 := by unfold relE; rw [if_pos hn, hc]; rfl
  unfold relVal relN relO relV
  rw [if_pos hE, if_pos hE, if_pos hE, hE, hc]; rfl
theorem relV_full {s : ByteArray} (hn : nameB (cutN (B s)) = true) (hc : cutH (B s) = true) (hf : formB (cutR (B s)) = true) (hp : prB (verL (cutR (B s))) = true) :
    relVal s = .tuple #[.agg #[.string (mk (cutN (B s))), .int .i64 (opI (cutN (inL (cutR (B s))))), .string (mk (verL (cutR (B s))))], .int .i64 0] := by
  have hE : relE (B s) = 0 := by unfold relE; rw [if_pos hn, if_pos hc, if_pos hf, if_pos hp]
  unfold relVal relN relO relV
  rw [if_pos hE, if_pos hE, if_pos hE, hE, if_pos hc, if_pos hc]
set_option maxHeartbeats 1000000 in
theorem rparse_any (s : ByteArray) (w : World) (hs : s.size ≤ 65536) (E : EnvR w) : Calls Tryz.prog 121 #[.string s] w fun e w' => e = .returned (relVal s) ∧ Below w.heap.size w w' := by
  have HE := Lib.hid E
  clear E
  have KC := Lib.hid (fun w E => blank_any s w hs E)
  have KN := Lib.hid (fun w => rname_any (mk (cutN (B s))) w)
  rw [B_mk (cutN_lt (B_lt s))] at KN
  have hBR : B (mk (cutR (B s))) = cutR (B s) := B_mk (cutR_lt (B_lt s))
  have hRs : (mk (cutR (B s))).size ≤ 65536 := by rw [size_mk]; have := cutR_len (B s); rw [B_len] at this; omega
  cases hn : nameB (cutN (B s))
  · have X := Lib.hid (relV_bad (s := s) (e := 3) (by unfold relE; rw [hn]; rfl) (by decide))
    rw [hn] at KN
    clear hBR hRs hn
    generalize mk (cutN (B s)) = nm at *
    generalize mk (cutR (B s)) = rs at *
    generalize cutH (B s) = ch at *
    go_enter Tryz.func121, Tryz.ntmps121
    go_wp2_with fail
    refine (KC.out _ (HE.out.alloc _).env).mono ?_
    rintro e' w0 ⟨rfl, n, rfl⟩
    go_wp2_with fail
    refine (KN.out _).mono ?_
    rintro e' w1 ⟨rfl, hb⟩
    replace hb := bel_2 (bel_d (Below.refl _ (w.alloc (.cells #[.string { data := #[] }, .int .i64 0, .string { data := #[] }] 49))) n) hb
    obtain ⟨c0, c1, c2, s1⟩ := box_cells hb
    obtain ⟨f0, f1, f2⟩ := box_froz hb
    have B1 := Lib.hid (bel_boxed hb)
    clear hb
    go_wp2
    obtain ⟨k0, k1, k2, bW⟩ := fin3 (x := .string { data := #[] }) (y := .int .i64 0) (z := .string { data := #[] }) B1.out c0 c1 c2
    exact bodyPost_ret (v := .tuple #[.agg #[.string { data := #[] }, .int .i64 0, .string { data := #[] }], .int .i64 3]) (by simp [results, Tryz.results121, go_sem, k0, k1, k2]) rfl ⟨by rw [X.out], bW⟩
  rw [hn] at KN
  cases hc : cutH (B s)
  · have X := Lib.hid (relV_bare hn hc)
    rw [hc] at KC
    clear hBR hRs hn hc
    generalize mk (cutN (B s)) = nm at *
    generalize mk (cutR (B s)) = rs at *
    go_enter Tryz.func121, Tryz.ntmps121
    go_wp2_with fail
    refine (KC.out _ (HE.out.alloc _).env).mono ?_
    rintro e' w0 ⟨rfl, n, rfl⟩
    go_wp2_with fail
    refine (KN.out _).mono ?_
    rintro e' w1 ⟨rfl, hb⟩
    replace hb := bel_2 (bel_d (Below.refl _ (w.alloc (.cells #[.string { data := #[] }, .int .i64 0, .string { data := #[] }] 49))) n) hb
    obtain ⟨c0, c1, c2, s1⟩ := box_cells hb
    obtain ⟨f0, f1, f2⟩ := box_froz hb
    have B1 := Lib.hid (bel_boxed hb)
    clear hb
    go_wp2
    obtain ⟨k0, k1, k2, bW⟩ := fin3 (x := .string nm) (y := .int .i64 0) (z := .string { data := #[] }) B1.out c0 c1 c2
    exact bodyPost_ret (v := .tuple #[.agg #[.string nm, .int .i64 0, .string { data := #[] }], .int .i64 0]) (by simp [results, Tryz.results121, go_sem, k0, k1, k2]) rfl ⟨by rw [X.out], bW⟩
  rw [hc] at KC
  have KS := Lib.hid (fun w E => rsplit_any (mk (cutR (B s))) w hRs E)
  cases hf : formB (cutR (B s))
  · have X := Lib.hid (relV_bad (s := s) (e := 5) (by unfold relE; rw [if_pos hn, if_pos hc, hf]; rfl) (by decide))
    rw [splV_no (by rw [hBR]; exact hf)] at KS
    clear hBR hRs hn hc hf
    generalize mk (cutN (B s)) = nm at *
    generalize mk (cutR (B s)) = rs at *
    go_enter Tryz.func121, Tryz.ntmps121
    go_wp2_with fail
    refine (KC.out _ (HE.out.alloc _).env).mono ?_
    rintro e' w0 ⟨rfl, n, rfl⟩
    go_wp2_with fail
    refine (KN.out _).mono ?_
    rintro e' w1 ⟨rfl, hb⟩
    replace hb := bel_2 (bel_d (Below.refl _ (w.alloc (.cells #[.string { data := #[] }, .int .i64 0, .string { data := #[] }] 49))) n) hb
    obtain ⟨c0, c1, c2, s1⟩ := box_cells hb
    obtain ⟨f0, f1, f2⟩ := box_froz hb
    have B1 := Lib.hid (bel_boxed hb)
    clear hb
    go_wp2_with fail
    refine (KS.out _ (HE.out.below B1.out)).mono ?_
    rintro e' w2 ⟨rfl, hb⟩
    replace c0 := keep_cell hb c0
    replace c1 := keep_cell hb c1
    replace c2 := keep_cell hb c2
    replace f0 := keep_fr hb (by omega) f0
    replace f1 := keep_fr hb (by omega) f1
    replace f2 := keep_fr hb (by omega) f2
    have B2 := Lib.hid (bel_2 B1.out hb)
    have s2 : w.heap.size + 1 ≤ w2.heap.size := Nat.le_trans s1 hb.size
    clear hb
    go_wp2
    obtain ⟨k0, k1, k2, bW⟩ := fin3 (x := .string { data := #[] }) (y := .int .i64 0) (z := .string { data := #[] }) B2.out c0 c1 c2
    exact bodyPost_ret (v := .tuple #[.agg #[.string { data := #[] }, .int .i64 0, .string { data := #[] }], .int .i64 5]) (by simp [results, Tryz.results121, go_sem, k0, k1, k2]) rfl ⟨by rw [X.out], bW⟩
  rw [splV_yes (by rw [hBR]; exact hf), hBR] at KS
  have KP := Lib.hid (fun w E => rprinted_any (mk (verL (cutR (B s)))) w E)
  rw [B_mk (l := verL (cutR (B s))) (fun c hc => B_lt s c (cutR_mem (inL_mem (cutR_mem hc))))] at KP
  cases hp : prB (verL (cutR (B s)))
  · have X := Lib.hid (relV_bad (s := s) (e := 4) (by unfold relE; rw [if_pos hn, if_pos hc, if_pos hf, hp]; rfl) (by decide))
    rw [hp] at KP
    clear hBR hRs hn hc hf hp
    generalize mk (cutN (B s)) = nm at *
    generalize mk (verL (cutR (B s))) = ver at *
    generalize opI (cutN (inL (cutR (B s)))) = o at *
    generalize mk (cutR (B s)) = rs at *
    go_enter Tryz.func121, Tryz.ntmps121
    go_wp2_with fail
    refine (KC.out _ (HE.out.alloc _).env).mono ?_
    rintro e' w0 ⟨rfl, n, rfl⟩
    go_wp2_with fail
    refine (KN.out _).mono ?_
    rintro e' w1 ⟨rfl, hb⟩
    replace hb := bel_2 (bel_d (Below.refl _ (w.alloc (.cells #[.string { data := #[] }, .int .i64 0, .string { data := #[] }] 49))) n) hb
    obtain ⟨c0, c1, c2, s1⟩ := box_cells hb
    obtain ⟨f0, f1, f2⟩ := box_froz hb
    have B1 := Lib.hid (bel_boxed hb)
    clear hb
    go_wp2_with fail
    refine (KS.out _ (HE.out.below B1.out)).mono ?_
    rintro e' w2 ⟨rfl, hb⟩
    replace c0 := keep_cell hb c0
    replace c1 := keep_cell hb c1
    replace c2 := keep_cell hb c2
    replace f0 := keep_fr hb (by omega) f0
    replace f1 := keep_fr hb (by omega) f1
    replace f2 := keep_fr hb (by omega) f2
    have B2 := Lib.hid (bel_2 B1.out hb)
    have s2 : w.heap.size + 1 ≤ w2.heap.size := Nat.le_trans s1 hb.size
    clear hb
    go_wp2_with fail
    refine (KP.out _ (HE.out.below B2.out).env).mono ?_
    rintro e' w3 ⟨rfl, hb⟩
    replace c0 := keep_cell hb c0
    replace c1 := keep_cell hb c1
    replace c2 := keep_cell hb c2
    replace f0 := keep_fr hb (by omega) f0
    replace f1 := keep_fr hb (by omega) f1
    replace f2 := keep_fr hb (by omega) f2
    have B3 := Lib.hid (bel_2 B2.out hb)
    clear hb
    go_wp2
    obtain ⟨k0, k1, k2, bW⟩ := fin3 (x := .string { data := #[] }) (y := .int .i64 0) (z := .string { data := #[] }) B3.out c0 c1 c2
    exact bodyPost_ret (v := .tuple #[.agg #[.string { data := #[] }, .int .i64 0, .string { data := #[] }], .int .i64 4]) (by simp [results, Tryz.results121, go_sem, k0, k1, k2]) rfl ⟨by rw [X.out], bW⟩
  · have X := Lib.hid (relV_full hn hc hf hp)
    rw [hp] at KP
    clear hBR hRs hn hc hf hp
    generalize mk (cutN (B s)) = nm at *
    generalize mk (verL (cutR (B s))) = ver at *
    generalize opI (cutN (inL (cutR (B s)))) = o at *
    generalize mk (cutR (B s)) = rs at *
    go_enter Tryz.func121, Tryz.ntmps121
    go_wp2_with fail
    refine (KC.out _ (HE.out.alloc _).env).mono ?_
    rintro e' w0 ⟨rfl, n, rfl⟩
    go_wp2_with fail
    refine (KN.out _).mono ?_
    rintro e' w1 ⟨rfl, hb⟩
    replace hb := bel_2 (bel_d (Below.refl _ (w.alloc (.cells #[.string { data := #[] }, .int .i64 0, .string { data := #[] }] 49))) n) hb
    obtain ⟨c0, c1, c2, s1⟩ := box_cells hb
    obtain ⟨f0, f1, f2⟩ := box_froz hb
    have B1 := Lib.hid (bel_boxed hb)
    clear hb
    go_wp2_with fail
    refine (KS.out _ (HE.out.below B1.out)).mono ?_
    rintro e' w2 ⟨rfl, hb⟩
    replace c0 := keep_cell hb c0
    replace c1 := keep_cell hb c1
    replace c2 := keep_cell hb c2
    replace f0 := keep_fr hb (by omega) f0
    replace f1 := keep_fr hb (by omega) f1
    replace f2 := keep_fr hb (by omega) f2
    have B2 := Lib.hid (bel_2 B1.out hb)
    have s2 : w.heap.size + 1 ≤ w2.heap.size := Nat.le_trans s1 hb.size
    clear hb
    go_wp2_with fail
    refine (KP.out _ (HE.out.below B2.out).env).mono ?_
    rintro e' w3 ⟨rfl, hb⟩
    replace c0 := keep_cell hb c0
    replace c1 := keep_cell hb c1
    replace c2 := keep_cell hb c2
    replace f0 := keep_fr hb (by omega) f0
    replace f1 := keep_fr hb (by omega) f1
    replace f2 := keep_fr hb (by omega) f2
    have B3 := Lib.hid (bel_2 B2.out hb)
    clear hb
    go_wp2
    obtain ⟨k0, k1, k2, bW⟩ := fin3 (x := .string nm) (y := .int .i64 o) (z := .string ver) B3.out c0 c1 c2
    exact bodyPost_ret (v := .tuple #[.agg #[.string nm, .int .i64 o, .string ver], .int .i64 0]) (by simp [results, Tryz.results121, go_sem, k0, k1, k2]) rfl ⟨by rw [X.out], bW⟩
end Go.Proofs.YtmlakjemgmeffaaGreatDoor
