/- What the laws of this seat rest on: Ver5, Ver10. -/
import Derived.Test.YtmlakjemgmeffaaGreatDoorQAC
import Derived.Test.YtmlakjemgmeffaaGreatDoorNA
import Derived.Deep.RegionHeld3
import Derived.Test.YtmlakjemgmeffaaGreatDoorVerQY
import Derived.Deep.RegionWith
import Derived.Outline

section
set_option maxRecDepth 100000
set_option linter.unusedVariables false
namespace Go.Proofs.YtmlakjemgmeffaaGreatDoor
open Go.RowKit
theorem keep_cell {w w1 : World} (h : Below w.heap.size w w1) {b o : Nat} {v : Value} (hc : w.cell? ⟨b, o, none⟩ = some v) : w1.cell? ⟨b, o, none⟩ = some v := by
  rw [h.cell (World.block_lt_of_cell? _ _ hc)]; exact hc
theorem cmpV_or (e1 : Int) (u1 r1 : List Nat) (e2 : Int) (u2 r2 : List Nat) : cmpV e1 u1 r1 e2 u2 r2 = orL [sgn (e1 - e2), cmpS u1 u2, cmpS r1 r2] := by
  unfold cmpV
  simp only [orL]
  by_cases he : e1 = e2
  · have : sgn (e1 - e2) = 0 := sgn_zero.2 (by omega)
    simp only [he, ne_eq, not_true, if_false]
    rw [Int.sub_self, show sgn 0 = 0 from rfl]
    simp only [not_true, if_false]
    split
    · rfl
    · split
      · rfl
      · rename_i hh; exact Classical.not_not.1 hh
  · have h0 : sgn (e1 - e2) ≠ 0 := fun hh => by have := sgn_zero.1 hh; omega
    simp only [he, h0, ne_eq, not_false_iff, if_true]
    split
    · unfold sgn; rw [if_pos (by omega)]
    · unfold sgn; rw [if_neg (by omega), if_pos (by omega)]
theorem cell_old' {w : World} {o : Obj} {p : Addr} {v : Value} (hc : w.cell? p = some v) : (w.alloc o).cell? p = some v := by
  rw [World.cell?_alloc_lt w o p (World.block_lt_of_cell? _ _ hc)]; exact hc
theorem three_cells (W : World) (a b c : Int) (T : TypeId) : ∀ k, k < 3 → (W.alloc (.cells #[.int .i64 a, .int .i64 b, .int .i64 c] T)).cell? ⟨W.heap.size, k, none⟩ = some (.int .i64 ([a, b, c].getD k 0)) := by
  intro k hk
  rcases (by omega : k = 0 ∨ k = 1 ∨ k = 2) with rfl | rfl | rfl <;> simp [go_sem]
theorem bel_al {V W : World} {o : Obj} (h : Below V.heap.size V W) : Below V.heap.size V (W.alloc o) := h.alloc h.size o
theorem bel_tr {w V W : World} (h : Below w.heap.size w V) (h2 : Below V.heap.size V W) : Below w.heap.size w W := h.trans (h2.mono h.size)
set_option maxHeartbeats 1000000 in
theorem vcompare_any (e1 e2 : Int) (u1 r1 u2 r2 : ByteArray) (w : World) (h1 : u1.size ≤ 9223372036854775807) (h2 : r1.size ≤ 9223372036854775807) (h3 : u2.size ≤ 9223372036854775807) (h4 : r2.size ≤ 9223372036854775807) :
    Calls Tryz.prog 91 #[.agg #[.int .i64 e1, .string u1, .string r1], .agg #[.int .i64 e2, .string u2, .string r2]] w fun e' w' => e' = .returned (.int .i64 (cmpV e1 (B u1) (B r1) e2 (B u2) (B r2))) ∧ Below w.heap.size w w' := by
  have X := Lib.hid (cmpV_or e1 (B u1) (B r1) e2 (B u2) (B r2))
  have K1 := Lib.hid (fun w => vcmp_any u1 u2 w h1 h3)
  have K2 := Lib.hid (fun w => vcmp_any r1 r2 w h2 h4)
  have K0 := Lib.hid (cmpInt_any e1 e2)
  generalize cmpS (B u1) (B u2) = c1 at *
  generalize cmpS (B r1) (B r2) = c2 at *
  generalize sgn (e1 - e2) = c0 at *
  generalize cmpV e1 (B u1) (B r1) e2 (B u2) (B r2) = c at *
  go_enter Tryz.func91, Tryz.ntmps91
  go_wp2_with fail
  obtain ⟨V, hV⟩ : ∃ V, V = (w.alloc (.cells #[.int .i64 e1, .string u1, .string r1] 88)).alloc (.cells #[.int .i64 e2, .string u2, .string r2] 88) := ⟨_, rfl⟩
  have a0 : V.cell? ⟨w.heap.size, 0, none⟩ = some (.int .i64 e1) := by rw [hV]; simp [go_sem]
  have a1 : V.cell? ⟨w.heap.size, 1, none⟩ = some (.string u1) := by rw [hV]; simp [go_sem]
  have a2 : V.cell? ⟨w.heap.size, 2, none⟩ = some (.string r1) := by rw [hV]; simp [go_sem]
  have b0 : V.cell? ⟨w.heap.size + 1, 0, none⟩ = some (.int .i64 e2) := by rw [hV]; simp [go_sem]
  have b1 : V.cell? ⟨w.heap.size + 1, 1, none⟩ = some (.string u2) := by rw [hV]; simp [go_sem]
  have b2 : V.cell? ⟨w.heap.size + 1, 2, none⟩ = some (.string r2) := by rw [hV]; simp [go_sem]
  have hB : Below w.heap.size w V := by rw [hV]; exact ((Below.refl _ w).alloc (Nat.le_refl _) _).alloc (by simp) _
  have bb := (Below.refl V.heap.size V).drew
  rw [← hV]
  clear hV
  go_region_held3 (fun W => W.cell? ⟨w.heap.size, 0, none⟩ = some (.int .i64 e1) ∧ W.cell? ⟨w.heap.size, 1, none⟩ = some (.string u1) ∧ W.cell? ⟨w.heap.size, 2, none⟩ = some (.string r1) ∧ W.cell? ⟨w.heap.size + 1, 0, none⟩ = some (.int .i64 e2) ∧ W.cell? ⟨w.heap.size + 1, 1, none⟩ = some (.string u2) ∧ W.cell? ⟨w.heap.size + 1, 2, none⟩ = some (.string r2) ∧ Below V.heap.size V W)
    (first | (go_split_ands; refine ⟨?_, ?_, ?_, ?_, ?_, ?_, ?_⟩ <;> first | assumption | exact keep_cell hbx (by assumption) | exact cell_old' (by assumption) | exact Below.trans (by assumption) (hbx.mono (Below.size (by assumption))) | exact bel_al (by assumption)) | go_keep)
    ((first | (go_at_call 127; (with_reducible refine (K1.out _).mono ?_); rintro e wx ⟨rfl, hbx⟩) | (go_at_call 127; (with_reducible refine (K2.out _).mono ?_); rintro e wx ⟨rfl, hbx⟩) | (go_at_call 126; (with_reducible refine (K0.out _).mono ?_); rintro e wx ⟨rfl, rfl⟩) | (go_at_call 58; (refine (or_any _ 3 [c0, c1, c2] _ rfl (by decide) (three_cells _ _ _ _ _)).mono ?_); rintro e wx ⟨rfl, rfl⟩)))
  all_goals
    go_wp2
    go_ret
    go_split_ands
    exact ⟨by rw [X.out]; rfl, bel_tr hB (by assumption)⟩
end Go.Proofs.YtmlakjemgmeffaaGreatDoor
end

section
set_option maxRecDepth 100000
set_option linter.unusedVariables false
set_option linter.unusedSimpArgs false
namespace Go.Proofs.YtmlakjemgmeffaaGreatDoor
open Go.RowKit
theorem trimP_any (s : ByteArray) (w : World) : Calls Tryz.prog 98 #[.string s, .string { data := #[48, 58] }] w fun e w' => e = .returned (.string (mk (trim0 (B s)))) ∧ w = w' := by
  refine (Tryz.strings_TrimPrefix s { data := #[48, 58] } w).mono ?_
  rintro e w' ⟨rfl, rfl⟩
  exact ⟨by rw [← trimP_is], rfl⟩
theorem vparse_long (s : ByteArray) (w : World) (hs : 60 < s.size) :
    Calls Tryz.prog 63 #[.string s] w fun e' w' => e' = .returned (parseV s) ∧ Below w.heap.size w w' := by
  have h9 : parseE (B s) = 9 := by unfold parseE; rw [if_pos (by rw [B_len]; exact hs)]
  have X := Lib.hid (parse_bad (s := s) (by rw [h9]; decide))
  have H9 := Lib.hid h9
  clear h9
  have hs2 : (60 : Int) < (s.size : Int) := by omega
  go_enter Tryz.func63, Tryz.ntmps63
  go_wp2
  exact bodyPost_ret (v := .tuple #[.agg #[.int .i64 0, .string { data := #[] }, .string { data := #[] }], .int .i64 9]) (by simp [results, Tryz.results63, go_sem]) rfl ⟨by rw [X.out, H9.out], (Below.refl _ w).alloc (Nat.le_refl _) _⟩
theorem trim0_lt {l : List Nat} (h : ∀ c ∈ l, c < 256) : ∀ c ∈ trim0 l, c < 256 := by
  rcases trim0_is l with ⟨q, hq, e⟩ | ⟨_, e⟩
  · rw [e]; intro c hc; exact h c (by rw [hq]; simp [hc])
  · rw [e]; exact h
theorem vtext_int (e : Int) (u r : ByteArray) (w : World) (h0 : 0 ≤ e) (h1 : e ≤ 999999999) (hu : u.size ≤ 65536) (hr : r.size ≤ 65536) (E : Env w) :
    Calls Tryz.prog 99 #[.agg #[.int .i64 e, .string u, .string r]] w fun e' w' => e' = .returned (.string (mk (textL e.toNat (B u) (B r)))) ∧ Below w.heap.size w w' := by
  have := vtext_any e.toNat u r w (by omega) hu hr E
  rw [Int.toNat_of_nonneg h0] at this
  exact this
theorem res_cells {w w1 V W : World} {T T' : TypeId} {x y z a b c : Value} (hb : Below (w.alloc (.cells #[x, y, z] T)).heap.size (w.alloc (.cells #[x, y, z] T)) w1)
    (hV : V = w1.alloc (.cells #[a, b, c] T')) (h2 : Below V.heap.size V W) :
    (W.cell? ⟨w.heap.size, 0, none⟩ = some x ∧ W.cell? ⟨w.heap.size, 1, none⟩ = some y ∧ W.cell? ⟨w.heap.size, 2, none⟩ = some z) ∧
    (W.frozen? ⟨w.heap.size, 0, none⟩ = false ∧ W.frozen? ⟨w.heap.size, 1, none⟩ = false ∧ W.frozen? ⟨w.heap.size, 2, none⟩ = false) ∧
    (W.cell? ⟨w1.heap.size, 0, none⟩ = some a ∧ W.cell? ⟨w1.heap.size, 1, none⟩ = some b ∧ W.cell? ⟨w1.heap.size, 2, none⟩ = some c) ∧ Below w.heap.size w W := by
  have hs : w.heap.size + 1 ≤ w1.heap.size := by have := hb.size; simpa using this
  have hB1 : Below (w.heap.size + 1) (w.alloc (.cells #[x, y, z] T)) V := by rw [hV]; exact (hb.mono (by simp)).alloc hs _
  have hv : V.heap.size = w1.heap.size + 1 := by rw [hV]; simp
  have hB : Below (w.heap.size + 1) (w.alloc (.cells #[x, y, z] T)) W := hB1.trans (h2.mono (by omega))
  refine ⟨⟨?_, ?_, ?_⟩, ⟨?_, ?_, ?_⟩, ⟨?_, ?_, ?_⟩, ((Below.refl _ w).alloc (Nat.le_refl _) _).trans (hB.mono (by omega))⟩
  · exact (hB.cell (by simp)).trans (by simp)
  · exact (hB.cell (by simp)).trans (by simp)
  · exact (hB.cell (by simp)).trans (by simp)
  · exact (hB.frozen (by simp)).trans (by simp)
  · exact (hB.frozen (by simp)).trans (by simp)
  · exact (hB.frozen (by simp)).trans (by simp)
  · exact (h2.cell (by simp only; omega)).trans (by rw [hV]; simp)
  · exact (h2.cell (by simp only; omega)).trans (by rw [hV]; simp)
  · exact (h2.cell (by simp only; omega)).trans (by rw [hV]; simp)
theorem env_keep {w w' : World} (h : Below w.heap.size w w') (E : Env w) : Env w' := E.below h
theorem env_drew {w : World} (E : Env w) : Env w.drew := E.below ⟨rfl, rfl, rfl, Nat.le_refl _, fun _ _ => rfl⟩
set_option maxHeartbeats 1000000 in
theorem vparse_short (s : ByteArray) (w : World) (hs : s.size ≤ 60) (E : Env w) :
    Calls Tryz.prog 63 #[.string s] w fun e' w' => e' = .returned (parseV s) ∧ Below w.heap.size w w' := by
  have hs2 : ¬ (60 : Int) < (s.size : Int) := by omega
  have hUl : (dashU (colU (B s))).length ≤ 60 := by have h1 := dashU_len (colU (B s)); have h2 := colU_len (B s); rw [B_len] at h2; omega
  have hRl : (dashR (colU (B s))).length ≤ 60 := by have h1 := dashR_len (colU (B s)); have h2 := colU_len (B s); rw [B_len] at h2; omega
  have KS := Lib.hid (fun w E => vsplit_any s w (by omega) E)
  have BU := Lib.hid (B_mk (l := dashU (colU (B s))) (fun c hc => B_lt s c (colU_mem (dashU_mem hc))))
  have BR := Lib.hid (B_mk (l := dashR (colU (B s))) (fun c hc => B_lt s c (colU_mem (dashR_mem hc))))
  obtain ⟨dv, de⟩ := dev_is s
  have DV := Lib.hid dv
  have DE := Lib.hid de
  have KT0 := Lib.hid (trimP_any s)
  have hU : (mk (dashU (colU (B s)))).size ≤ 65536 := by rw [size_mk]; omega
  have hR : (mk (dashR (colU (B s)))).size ≤ 65536 := by rw [size_mk]; omega
  have DB := Lib.hid (show devB s = (rightB (splE s) (B (mk (dashU (colU (B s))))) (B (mk (dashR (colU (B s))))) && decide (trim0 (B s) = textL (splE s).toNat (B (mk (dashU (colU (B s))))) (B (mk (dashR (colU (B s))))))) by
    rw [BU.out, BR.out]; rfl)
  have HE := Lib.hid E
  clear dv de E hUl hRl
  have GOOD := Lib.hid (fun h => parse_good (s := s) hs (DE.out h) BU.out BR.out (by rw [← DV.out]; exact h))
  have BAD := Lib.hid (fun h => parse_wrong (s := s) hs (by rw [← DV.out]; exact h))
  clear BU BR DE DV
  generalize mk (dashU (colU (B s))) = U at *
  generalize mk (dashR (colU (B s))) = R at *
  generalize splE s = ep at *
  have KR := Lib.hid (fun w E => vright_any ep U R w hU hR E)
  cases hr : rightB ep (B U) (B R)
  · have X := Lib.hid (BAD.out (by rw [DB.out, hr]; rfl))
    rw [hr] at KR
    clear hr GOOD BAD DB KT0
    go_enter Tryz.func63, Tryz.ntmps63
    go_wp2_with fail
    refine (KS.out _ (HE.out.alloc _)).mono ?_
    rintro e' w1 ⟨rfl, hb⟩
    go_wp2_with fail
    obtain ⟨V, hV⟩ : ∃ V, V = w1.alloc (.cells #[.int .i64 ep, .string U, .string R] 88) := ⟨_, rfl⟩
    have HC := Lib.hid (fun W h => res_cells (W := W) hb hV h)
    have e0 : V.cell? ⟨w1.heap.size, 0, none⟩ = some (.int .i64 ep) := by rw [hV]; simp [go_sem]
    have e1 : V.cell? ⟨w1.heap.size, 1, none⟩ = some (.string U) := by rw [hV]; simp [go_sem]
    have e2 : V.cell? ⟨w1.heap.size, 2, none⟩ = some (.string R) := by rw [hV]; simp [go_sem]
    have EV : Env V := HE.out.below (HC.out V (Below.refl _ _)).2.2.2
    have bb := (Below.refl V.heap.size V).drew
    rw [← hV]
    clear hV hb
    first | (go_region_with (go_at_call 97; (with_reducible refine (KR.out _ (env_drew EV)).mono ?_); rintro e' wx ⟨rfl, hbx⟩)) | fail
    all_goals
      obtain ⟨⟨c0, c1, c2⟩, ⟨f0, f1, f2⟩, ⟨d0, d1, d2⟩, hB⟩ := HC.out _ (bb.trans hbx)
      have HB := Lib.hid hB
      clear hB
      go_wp2
      obtain ⟨k0, k1, k2, bW⟩ := fin3 (x := .int .i64 0) (y := .string { data := #[] }) (z := .string { data := #[] }) HB.out c0 c1 c2
      exact bodyPost_ret (v := .tuple #[.agg #[.int .i64 0, .string { data := #[] }, .string { data := #[] }], .int .i64 4]) (by simp [results, Tryz.results63, go_sem, k0, k1, k2]) rfl ⟨by rw [X.out], bW⟩
  · obtain ⟨q0, q1⟩ := rightB_epoch hr
    have KX := Lib.hid (fun w E => vtext_int ep U R w q0 q1 hU hR E)
    have hst := strEq (trim0 (B s)) (mk (textL ep.toNat (B U) (B R))) (trim0_lt (B_lt s))
    rw [B_mk (textL_lt ep.toNat U R)] at hst
    by_cases hq : trim0 (B s) = textL ep.toNat (B U) (B R)
    · have X := Lib.hid (GOOD.out (by rw [DB.out, hr, decide_eq_true hq]; rfl))
      rw [decide_eq_true hq] at hst
      rw [hr] at KR
      clear hr GOOD BAD DB hq
      generalize mk (textL ep.toNat (B U) (B R)) = T at *
      generalize mk (trim0 (B s)) = T0 at *
      go_enter Tryz.func63, Tryz.ntmps63
      go_wp2_with fail
      refine (KS.out _ (HE.out.alloc _)).mono ?_
      rintro e' w1 ⟨rfl, hb⟩
      go_wp2_with fail
      obtain ⟨V, hV⟩ : ∃ V, V = w1.alloc (.cells #[.int .i64 ep, .string U, .string R] 88) := ⟨_, rfl⟩
      have HC := Lib.hid (fun W h => res_cells (W := W) hb hV h)
      have e0 : V.cell? ⟨w1.heap.size, 0, none⟩ = some (.int .i64 ep) := by rw [hV]; simp [go_sem]
      have e1 : V.cell? ⟨w1.heap.size, 1, none⟩ = some (.string U) := by rw [hV]; simp [go_sem]
      have e2 : V.cell? ⟨w1.heap.size, 2, none⟩ = some (.string R) := by rw [hV]; simp [go_sem]
      have EV : Env V := HE.out.below (HC.out V (Below.refl _ _)).2.2.2
      have bb := (Below.refl V.heap.size V).drew
      rw [← hV]
      clear hV hb
      go_region_held3 (fun W => W.cell? ⟨w1.heap.size, 0, none⟩ = some (.int .i64 ep) ∧ W.cell? ⟨w1.heap.size, 1, none⟩ = some (.string U) ∧ W.cell? ⟨w1.heap.size, 2, none⟩ = some (.string R) ∧ Env W ∧ Below V.heap.size V W)
        (first | (go_split_ands; refine ⟨?_, ?_, ?_, ?_, ?_⟩ <;> first | assumption | exact keep_cell hbx (by assumption) | exact env_keep hbx (by assumption) | exact Below.trans (by assumption) (hbx.mono (Below.size (by assumption))) | exact env_drew (by assumption)) | go_keep)
        ((first | (go_at_call 97; (with_reducible refine (KR.out _ (by go_split_ands; assumption)).mono ?_); rintro e' wx ⟨rfl, hbx⟩) | (go_at_call 98; (with_reducible refine (KT0.out _).mono ?_); rintro e' wx ⟨rfl, rfl⟩) | (go_at_call 99; (with_reducible refine (KX.out _ (by go_split_ands; assumption)).mono ?_); rintro e' wx ⟨rfl, hbx⟩)))
      all_goals
        go_split_ands
        obtain ⟨⟨c0, c1, c2⟩, ⟨f0, f1, f2⟩, ⟨d0, d1, d2⟩, hB⟩ := HC.out _ (by assumption)
        have HB := Lib.hid hB
        clear hB
        go_wp2
        obtain ⟨k0, k1, k2, bW⟩ := fin3 (x := .int .i64 ep) (y := .string U) (z := .string R) HB.out c0 c1 c2
        exact bodyPost_ret (v := .tuple #[.agg #[.int .i64 ep, .string U, .string R], .int .i64 0]) (by simp [results, Tryz.results63, go_sem, k0, k1, k2]) rfl ⟨by rw [X.out], bW⟩
    · have X := Lib.hid (BAD.out (by rw [DB.out, hr, decide_eq_false hq]; rfl))
      rw [decide_eq_false hq] at hst
      rw [hr] at KR
      clear hr GOOD BAD DB hq
      generalize mk (textL ep.toNat (B U) (B R)) = T at *
      generalize mk (trim0 (B s)) = T0 at *
      go_enter Tryz.func63, Tryz.ntmps63
      go_wp2_with fail
      refine (KS.out _ (HE.out.alloc _)).mono ?_
      rintro e' w1 ⟨rfl, hb⟩
      go_wp2_with fail
      obtain ⟨V, hV⟩ : ∃ V, V = w1.alloc (.cells #[.int .i64 ep, .string U, .string R] 88) := ⟨_, rfl⟩
      have HC := Lib.hid (fun W h => res_cells (W := W) hb hV h)
      have e0 : V.cell? ⟨w1.heap.size, 0, none⟩ = some (.int .i64 ep) := by rw [hV]; simp [go_sem]
      have e1 : V.cell? ⟨w1.heap.size, 1, none⟩ = some (.string U) := by rw [hV]; simp [go_sem]
      have e2 : V.cell? ⟨w1.heap.size, 2, none⟩ = some (.string R) := by rw [hV]; simp [go_sem]
      have EV : Env V := HE.out.below (HC.out V (Below.refl _ _)).2.2.2
      have bb := (Below.refl V.heap.size V).drew
      rw [← hV]
      clear hV hb
      go_region_held3 (fun W => W.cell? ⟨w1.heap.size, 0, none⟩ = some (.int .i64 ep) ∧ W.cell? ⟨w1.heap.size, 1, none⟩ = some (.string U) ∧ W.cell? ⟨w1.heap.size, 2, none⟩ = some (.string R) ∧ Env W ∧ Below V.heap.size V W)
        (first | (go_split_ands; refine ⟨?_, ?_, ?_, ?_, ?_⟩ <;> first | assumption | exact keep_cell hbx (by assumption) | exact env_keep hbx (by assumption) | exact Below.trans (by assumption) (hbx.mono (Below.size (by assumption))) | exact env_drew (by assumption)) | go_keep)
        ((first | (go_at_call 97; (with_reducible refine (KR.out _ (by go_split_ands; assumption)).mono ?_); rintro e' wx ⟨rfl, hbx⟩) | (go_at_call 98; (with_reducible refine (KT0.out _).mono ?_); rintro e' wx ⟨rfl, rfl⟩) | (go_at_call 99; (with_reducible refine (KX.out _ (by go_split_ands; assumption)).mono ?_); rintro e' wx ⟨rfl, hbx⟩)))
      all_goals
        go_split_ands
        obtain ⟨⟨c0, c1, c2⟩, ⟨f0, f1, f2⟩, ⟨d0, d1, d2⟩, hB⟩ := HC.out _ (by assumption)
        have HB := Lib.hid hB
        clear hB
        go_wp2
        obtain ⟨k0, k1, k2, bW⟩ := fin3 (x := .int .i64 0) (y := .string { data := #[] }) (z := .string { data := #[] }) HB.out c0 c1 c2
        exact bodyPost_ret (v := .tuple #[.agg #[.int .i64 0, .string { data := #[] }, .string { data := #[] }], .int .i64 4]) (by simp [results, Tryz.results63, go_sem, k0, k1, k2]) rfl ⟨by rw [X.out], bW⟩
theorem vparse_any (s : ByteArray) (w : World) (E : Env w) :
    Calls Tryz.prog 63 #[.string s] w fun e' w' => e' = .returned (parseV s) ∧ Below w.heap.size w w' := by
  by_cases h : s.size ≤ 60
  · exact vparse_short s w h E
  · exact vparse_long s w (by omega)
end Go.Proofs.YtmlakjemgmeffaaGreatDoor
end
