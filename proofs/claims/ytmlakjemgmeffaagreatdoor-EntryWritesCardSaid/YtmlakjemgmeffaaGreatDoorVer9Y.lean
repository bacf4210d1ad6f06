/- The contract of split: a text taken apart at its marks. -/
import Derived.Test.YtmlakjemgmeffaaGreatDoorNV
import Derived.Test.YtmlakjemgmeffaaGreatDoorNA
import Derived.Lib.IndexBytes
import Derived.RegionTactic
import Derived.BigRegion
import Derived.Outline
set_option maxRecDepth 100000
set_option linter.unusedVariables false
set_option linter.unusedSimpArgs false
namespace Go.Proofs.YtmlakjemgmeffaaGreatDoor
open Go.RowKit
def atoiV (s : ByteArray) : Int := match Lib.atoiAll s.data.toList with | .ok v => v | .range => Lib.atoiSat s.data.toList | _ => 0
def splE (s : ByteArray) : Int := match firstI (B s) 0 with | none => 0 | some i => atoiV (mk ((B s).take i))
theorem atoi_any (s : ByteArray) (w : World) (hs : s.size ≤ 65536) (E : Env w) : Calls Tryz.prog 130 #[.string s] w fun e w' => (∃ ev, e = .returned (.tuple #[.int .i64 (atoiV s), ev])) ∧ Below w.heap.size w w' := by
  unfold atoiV
  cases h : Lib.atoiAll s.data.toList
  · rename_i v
    refine (Tryz.strconv_Atoi_ok s (by omega) v h w).mono ?_
    rintro e w' ⟨rfl, hw⟩
    refine ⟨⟨_, rfl⟩, ?_⟩
    rcases hw with rfl | ⟨t, rfl⟩
    · exact Below.refl _ _
    · exact Lib.bytesWorld_below _ _ _
  · obtain ⟨tp, p, hv⟩ := E.syn
    refine (Any.strconv_Atoi_syntax_var Tryz.laysC172 s (by omega) h tp p w hv).mono ?_
    rintro e w' ⟨N, rfl, _, _, hb⟩
    exact ⟨⟨_, rfl⟩, hb⟩
  · obtain ⟨tp, p, hv⟩ := E.rng
    refine (Tryz.strconv_Atoi_range_var s (by omega) h tp p w hv).mono ?_
    rintro e w' ⟨N, rfl, _, _, hb⟩
    exact ⟨⟨_, rfl⟩, hb⟩
theorem index_first : ∀ (l : List UInt8) (n : Nat), firstI (l.map UInt8.toNat) n = if 0 ≤ Lib.indexByte l 58 then some (n + (Lib.indexByte l 58).toNat) else none
  | [], n => by simp [firstI, Lib.indexByte]
  | c :: l, n => by
    have ih := index_first l (n + 1)
    have hg := Lib.indexByte_ge l 58
    simp only [List.map_cons, firstI, Lib.indexByte]
    by_cases h : c = 58
    · subst h; simp
    · have h2 : c.toNat ≠ 58 := fun hh => h (UInt8.toNat_inj.1 hh)
      have h3 : (c == 58) = false := by rw [beq_eq_false_iff_ne]; exact h
      rw [if_neg h2, ih]
      simp only [h3, Bool.false_eq_true, if_false]
      by_cases h4 : 0 ≤ Lib.indexByte l 58
      · have h5 : (Lib.indexByte l 58 == -1) = false := by rw [beq_eq_false_iff_ne]; omega
        simp only [h5, Bool.false_eq_true, if_false]
        rw [if_pos h4, if_pos (by omega)]
        congr 1; omega
      · have h5 : (Lib.indexByte l 58 == -1) = true := by rw [beq_iff_eq]; omega
        simp only [h5, if_true]
        rw [if_neg h4, if_neg (by omega)]
theorem cut_none {s : ByteArray} (h : firstI (B s) 0 = none) (w : World) (hs : s.size ≤ 65536) (E : Env w) :
    Calls Tryz.prog 119 #[.string s, .string { data := #[58] }] w fun e w' => e = .returned (.tuple #[.string s, .string { data := #[] }, .bool false]) ∧ ∃ n, w' = w.drewN n := by
  obtain ⟨m, hm⟩ := E.max
  refine (Tryz.strings_Cut s { data := #[58] } m w (by omega) hm).mono ?_
  rintro e w' ⟨rfl, n, rfl⟩
  refine ⟨?_, n, rfl⟩
  unfold B at h
  rw [index_first] at h
  have hn : ¬ 0 ≤ Lib.indexByte s.data.toList 58 := fun hh => by rw [if_pos hh] at h; cases h
  have e0 : Lib.cut s.data.toList [58] = (s.data.toList, [], false) := by
    unfold Lib.cut; rw [Lib.index_one, if_neg hn]
  show Ending.returned (.tuple #[.string ⟨(Lib.cut s.data.toList [58]).1.toArray⟩, .string ⟨(Lib.cut s.data.toList [58]).2.1.toArray⟩, .bool (Lib.cut s.data.toList [58]).2.2]) = _
  rw [e0]
theorem cut_some {s : ByteArray} {i : Nat} (h : firstI (B s) 0 = some i) (w : World) (hs : s.size ≤ 65536) (E : Env w) :
    Calls Tryz.prog 119 #[.string s, .string { data := #[58] }] w fun e w' => e = .returned (.tuple #[.string (mk ((B s).take i)), .string (mk ((B s).drop (i + 1))), .bool true]) ∧ ∃ n, w' = w.drewN n := by
  obtain ⟨m, hm⟩ := E.max
  refine (Tryz.strings_Cut s { data := #[58] } m w (by omega) hm).mono ?_
  rintro e w' ⟨rfl, n, rfl⟩
  refine ⟨?_, n, rfl⟩
  unfold B at h
  rw [index_first] at h
  have hn : 0 ≤ Lib.indexByte s.data.toList 58 := by
    rcases Int.lt_or_le (Lib.indexByte s.data.toList 58) 0 with hh | hh
    · rw [if_neg (by omega)] at h; cases h
    · exact hh
  rw [if_pos hn] at h
  injection h with h
  have e0 : Lib.cut s.data.toList [58] = (s.data.toList.take i, s.data.toList.drop (i + 1), true) := by
    unfold Lib.cut; rw [Lib.index_one, if_pos hn, show (Lib.indexByte s.data.toList 58).toNat = i by omega]; rfl
  show Ending.returned (.tuple #[.string ⟨(Lib.cut s.data.toList [58]).1.toArray⟩, .string ⟨(Lib.cut s.data.toList [58]).2.1.toArray⟩, .bool (Lib.cut s.data.toList [58]).2.2]) = _
  rw [e0, ← take_mk, ← drop_mk]
theorem last_is (s : ByteArray) : ∀ k, k ≤ s.size → Lib.lastIdx s 45 k = match lastI (B s) k with | none => -1 | some i => (i : Int)
  | 0, _ => rfl
  | k + 1, h => by
    have hk : k < s.size := by omega
    rw [lastI_step hk]
    simp only [Lib.lastIdx]
    rw [LastIndex.byteBang s k hk]
    by_cases h2 : s[k].toNat = 45
    · rw [if_pos h2, if_pos (by omega)]
    · rw [if_neg h2, if_neg (by omega)]
      exact last_is s k (by omega)
theorem dash_none {s : ByteArray} (h : lastI (B s) s.size = none) (w : World) (hs : s.size ≤ 65536) : Calls Tryz.prog 131 #[.string s, .int .u8 45] w fun e w' => e = .returned (.int .i64 (-1)) ∧ w = w' := by
  refine (Tryz.strings_LastIndexByte s 45 (by omega) w).mono ?_
  rintro e w' ⟨rfl, rfl⟩
  exact ⟨by unfold Lib.lastIndexByte; rw [last_is s _ (Nat.le_refl _), h], rfl⟩
theorem dash_some {s : ByteArray} {i : Nat} (h : lastI (B s) s.size = some i) (w : World) (hs : s.size ≤ 65536) : Calls Tryz.prog 131 #[.string s, .int .u8 45] w fun e w' => e = .returned (.int .i64 (i : Int)) ∧ w = w' := by
  refine (Tryz.strings_LastIndexByte s 45 (by omega) w).mono ?_
  rintro e w' ⟨rfl, rfl⟩
  exact ⟨by unfold Lib.lastIndexByte; rw [last_is s _ (Nat.le_refl _), h], rfl⟩
theorem dashU_none {u : ByteArray} (h : lastI (B u) u.size = none) : mk (dashU (B u)) = u ∧ mk (dashR (B u)) = { data := #[] } := by
  unfold dashU dashR
  rw [B_len, h]
  exact ⟨mk_B u, rfl⟩
theorem dashU_some {u : ByteArray} {i : Nat} (h : lastI (B u) u.size = some i) : mk (dashU (B u)) = u.extract 0 i ∧ mk (dashR (B u)) = u.extract (i + 1) u.size := by
  unfold dashU dashR
  rw [B_len, h]
  exact ⟨ext_take.symm, ext_drop.symm⟩
theorem str_cells {w V w1 : World} {T T' : TypeId} {a b c x y z : Value} (hV : V = (w.alloc (.cells #[a, b, c] T)).alloc (.cells #[x, y, z] T')) (h : Below V.heap.size V w1) :
    (w1.cell? ⟨w.heap.size, 0, none⟩ = some a ∧ w1.cell? ⟨w.heap.size, 1, none⟩ = some b ∧ w1.cell? ⟨w.heap.size, 2, none⟩ = some c) ∧
    (w1.frozen? ⟨w.heap.size, 0, none⟩ = false ∧ w1.frozen? ⟨w.heap.size, 1, none⟩ = false ∧ w1.frozen? ⟨w.heap.size, 2, none⟩ = false) ∧
    (w1.cell? ⟨w.heap.size + 1, 0, none⟩ = some x ∧ w1.cell? ⟨w.heap.size + 1, 1, none⟩ = some y ∧ w1.cell? ⟨w.heap.size + 1, 2, none⟩ = some z) ∧
    (w1.frozen? ⟨w.heap.size + 1, 0, none⟩ = false ∧ w1.frozen? ⟨w.heap.size + 1, 1, none⟩ = false ∧ w1.frozen? ⟨w.heap.size + 1, 2, none⟩ = false) ∧ Below w.heap.size w w1 := by
  have hs : V.heap.size = w.heap.size + 2 := by rw [hV]; simp
  refine ⟨⟨(h.cell (by simp only; omega)).trans ?_, (h.cell (by simp only; omega)).trans ?_, (h.cell (by simp only; omega)).trans ?_⟩, ⟨(h.frozen (by simp only; omega)).trans ?_, (h.frozen (by simp only; omega)).trans ?_, (h.frozen (by simp only; omega)).trans ?_⟩, ⟨(h.cell (by simp only; omega)).trans ?_, (h.cell (by simp only; omega)).trans ?_, (h.cell (by simp only; omega)).trans ?_⟩, ⟨(h.frozen (by simp only; omega)).trans ?_, (h.frozen (by simp only; omega)).trans ?_, (h.frozen (by simp only; omega)).trans ?_⟩, ?_⟩
  all_goals first | (rw [hV]; simp [go_sem]; done) | skip
  have hB : Below w.heap.size w V := by rw [hV]; exact ((Below.refl _ w).alloc (Nat.le_refl _) _).alloc (by simp) _
  exact hB.trans (h.mono hB.size)
theorem split_some_some (s : ByteArray) (i : Nat) (j : Nat) (w : World) (hs : s.size ≤ 65536) (E : Env w) (h1 : firstI (B s) 0 = some i) (h2 : lastI (B (mk ((B s).drop (i + 1)))) ((mk ((B s).drop (i + 1)))).size = some j) :
    Calls Tryz.prog 96 #[.string s] w fun e' w' => e' = .returned (.agg #[.int .i64 (splE s), .string (mk (dashU (colU (B s)))), .string (mk (dashR (colU (B s))))]) ∧ Below w.heap.size w w' := by
  have KC := Lib.hid (fun w E => cut_some h1 w hs E)
  have hp : (mk ((B s).take i)).size ≤ 65536 := by rw [size_mk, List.length_take, B_len]; omega
  have hU : (mk ((B s).drop (i + 1))).size ≤ 65536 := by rw [size_mk, List.length_drop, B_len]; omega
  have KA := Lib.hid (fun w E => atoi_any (mk ((B s).take i)) w hp E)
  have XE := Lib.hid (show splE s = atoiV (mk ((B s).take i)) by unfold splE; rw [h1])
  have XC := Lib.hid (show colU (B s) = B (mk ((B s).drop (i + 1))) by
    unfold colU; rw [h1, B_mk (fun c hc => B_lt s c (List.mem_of_mem_drop hc))])
  have KD := Lib.hid (fun w => dash_some h2 w hU)
  have XD := Lib.hid (dashU_some h2)
  have hj := lastI_lt h2
  have hj0 : (0 : Int) ≤ (j : Int) := by omega
  rw [XE.out, XC.out, XD.out.1, XD.out.2]
  have HE := Lib.hid E
  clear h1 h2 E XE XC XD
  generalize mk ((B s).drop (i + 1)) = U at *
  generalize mk ((B s).take i) = p at *
  generalize atoiV p = ep at *
  go_enter Tryz.func96, Tryz.ntmps96
  go_wp2_with fail
  refine (KC.out _ ((HE.out.alloc _).alloc _)).mono ?_
  rintro e' w1 ⟨rfl, n, rfl⟩
  go_wp2_with fail
  refine (KA.out _ (((HE.out.alloc _).alloc _).drewN n)).mono ?_
  rintro e' w1 ⟨⟨ev, rfl⟩, hb⟩
  have hb0 := hb
  replace hb := (bel_d (Below.refl _ ((w.alloc (.cells #[.int .i64 0, .string { data := #[] }, .string { data := #[] }] 88)).alloc (.cells #[.int .i64 0, .string { data := #[] }, .string { data := #[] }] 88))) n).trans hb
  obtain ⟨⟨c0, c1, c2⟩, ⟨f0, f1, f2⟩, ⟨d0, d1, d2⟩, ⟨g0, g1, g2⟩, hB⟩ := str_cells rfl hb
  have HB := Lib.hid hB
  clear hb hb0 hB
  go_wp2_with fail
  refine (KD.out _).mono ?_
  rintro e' w2 ⟨rfl, rfl⟩
  obtain ⟨V, hV⟩ : ∃ V, V = (w1.setCell ⟨w.heap.size + 1, 0, none⟩ (.int .i64 ep)).setCell ⟨w.heap.size + 1, 1, none⟩ (.string U) := ⟨_, rfl⟩
  have c0' : V.cell? ⟨w.heap.size, 0, none⟩ = some (.int .i64 0) := by rw [hV]; simp [go_sem, c0]
  have c1' : V.cell? ⟨w.heap.size, 1, none⟩ = some (.string { data := #[] }) := by rw [hV]; simp [go_sem, c1]
  have c2' : V.cell? ⟨w.heap.size, 2, none⟩ = some (.string { data := #[] }) := by rw [hV]; simp [go_sem, c2]
  have d0' : V.cell? ⟨w.heap.size + 1, 0, none⟩ = some (.int .i64 ep) := by rw [hV]; simp [go_sem, d0]
  have d1' : V.cell? ⟨w.heap.size + 1, 1, none⟩ = some (.string U) := by rw [hV]; simp [go_sem, d1]
  have d2' : V.cell? ⟨w.heap.size + 1, 2, none⟩ = some (.string { data := #[] }) := by rw [hV]; simp [go_sem, d2]
  have f0' : V.frozen? ⟨w.heap.size, 0, none⟩ = false := by rw [hV]; simp [go_sem, f0]
  have f1' : V.frozen? ⟨w.heap.size, 1, none⟩ = false := by rw [hV]; simp [go_sem, f1]
  have f2' : V.frozen? ⟨w.heap.size, 2, none⟩ = false := by rw [hV]; simp [go_sem, f2]
  have g0' : V.frozen? ⟨w.heap.size + 1, 0, none⟩ = false := by rw [hV]; simp [go_sem, g0]
  have g1' : V.frozen? ⟨w.heap.size + 1, 1, none⟩ = false := by rw [hV]; simp [go_sem, g1]
  have g2' : V.frozen? ⟨w.heap.size + 1, 2, none⟩ = false := by rw [hV]; simp [go_sem, g2]
  have HB' := Lib.hid (show Below w.heap.size w V by rw [hV]; exact (HB.out.setCell (by simp) _).setCell (by simp) _)
  rw [← hV]
  clear hV c0 c1 c2 d0 d1 d2 f0 f1 f2 g0 g1 g2 HB
  go_wp2
  go_region
  all_goals go_wp2
  generalize hX : U.extract 0 j = X at *
  generalize hY : U.extract (j + 1) U.size = Y at *
  clear hX hY
  obtain ⟨V2, hV2⟩ : ∃ V2, V2 = ((V).setCell ⟨w.heap.size + 1, 1, none⟩ (.string X)).setCell ⟨w.heap.size + 1, 2, none⟩ (.string Y) := ⟨_, rfl⟩
  have k0 : V2.cell? ⟨w.heap.size, 0, none⟩ = some (.int .i64 0) := by rw [hV2]; simp [go_sem, c0']
  have k1 : V2.cell? ⟨w.heap.size, 1, none⟩ = some (.string { data := #[] }) := by rw [hV2]; simp [go_sem, c1']
  have k2 : V2.cell? ⟨w.heap.size, 2, none⟩ = some (.string { data := #[] }) := by rw [hV2]; simp [go_sem, c2']
  have kB : Below w.heap.size w V2 := by rw [hV2]; repeat (first | exact HB'.out | with_reducible refine Below.setCell ?_ (by simp) _)
  rw [← hV2]
  clear hV2
  obtain ⟨e0, e1, e2, bW⟩ := fin3 (x := .int .i64 ep) (y := .string X) (z := .string Y) kB k0 k1 k2
  exact bodyPost_ret (v := .agg #[.int .i64 ep, .string X, .string Y]) (by simp [results, Tryz.results96, go_sem, e0, e1, e2]) rfl ⟨rfl, bW.drew⟩
theorem split_some_none (s : ByteArray) (i : Nat) (w : World) (hs : s.size ≤ 65536) (E : Env w) (h1 : firstI (B s) 0 = some i) (h2 : lastI (B (mk ((B s).drop (i + 1)))) ((mk ((B s).drop (i + 1)))).size = none) :
    Calls Tryz.prog 96 #[.string s] w fun e' w' => e' = .returned (.agg #[.int .i64 (splE s), .string (mk (dashU (colU (B s)))), .string (mk (dashR (colU (B s))))]) ∧ Below w.heap.size w w' := by
  have KC := Lib.hid (fun w E => cut_some h1 w hs E)
  have hp : (mk ((B s).take i)).size ≤ 65536 := by rw [size_mk, List.length_take, B_len]; omega
  have hU : (mk ((B s).drop (i + 1))).size ≤ 65536 := by rw [size_mk, List.length_drop, B_len]; omega
  have KA := Lib.hid (fun w E => atoi_any (mk ((B s).take i)) w hp E)
  have XE := Lib.hid (show splE s = atoiV (mk ((B s).take i)) by unfold splE; rw [h1])
  have XC := Lib.hid (show colU (B s) = B (mk ((B s).drop (i + 1))) by
    unfold colU; rw [h1, B_mk (fun c hc => B_lt s c (List.mem_of_mem_drop hc))])
  have KD := Lib.hid (fun w => dash_none h2 w hU)
  have XD := Lib.hid (dashU_none h2)
  rw [XE.out, XC.out, XD.out.1, XD.out.2]
  have HE := Lib.hid E
  clear h1 h2 E XE XC XD
  generalize mk ((B s).drop (i + 1)) = U at *
  generalize mk ((B s).take i) = p at *
  generalize atoiV p = ep at *
  go_enter Tryz.func96, Tryz.ntmps96
  go_wp2_with fail
  refine (KC.out _ ((HE.out.alloc _).alloc _)).mono ?_
  rintro e' w1 ⟨rfl, n, rfl⟩
  go_wp2_with fail
  refine (KA.out _ (((HE.out.alloc _).alloc _).drewN n)).mono ?_
  rintro e' w1 ⟨⟨ev, rfl⟩, hb⟩
  have hb0 := hb
  replace hb := (bel_d (Below.refl _ ((w.alloc (.cells #[.int .i64 0, .string { data := #[] }, .string { data := #[] }] 88)).alloc (.cells #[.int .i64 0, .string { data := #[] }, .string { data := #[] }] 88))) n).trans hb
  obtain ⟨⟨c0, c1, c2⟩, ⟨f0, f1, f2⟩, ⟨d0, d1, d2⟩, ⟨g0, g1, g2⟩, hB⟩ := str_cells rfl hb
  have HB := Lib.hid hB
  clear hb hb0 hB
  go_wp2_with fail
  refine (KD.out _).mono ?_
  rintro e' w2 ⟨rfl, rfl⟩
  go_wp2
  all_goals exact bodyPost_ret (v := .agg #[.int .i64 ep, .string (U), .string ({ data := #[] })]) (by simp [results, Tryz.results96, go_sem, c0, c1, c2]) rfl ⟨rfl, by repeat (first | exact HB.out | with_reducible refine Below.drew ?_ | with_reducible refine Below.setCell ?_ (by simp) _)⟩
theorem split_none_some (s : ByteArray) (j : Nat) (w : World) (hs : s.size ≤ 65536) (E : Env w) (h1 : firstI (B s) 0 = none) (h2 : lastI (B s) (s).size = some j) :
    Calls Tryz.prog 96 #[.string s] w fun e' w' => e' = .returned (.agg #[.int .i64 (splE s), .string (mk (dashU (colU (B s)))), .string (mk (dashR (colU (B s))))]) ∧ Below w.heap.size w w' := by
  have KC := Lib.hid (fun w E => cut_none h1 w hs E)
  have hU : s.size ≤ 65536 := hs
  have XE := Lib.hid (show splE s = 0 by unfold splE; rw [h1])
  have XC := Lib.hid (show colU (B s) = B s by unfold colU; rw [h1])
  have KD := Lib.hid (fun w => dash_some h2 w hU)
  have XD := Lib.hid (dashU_some h2)
  have hj := lastI_lt h2
  have hj0 : (0 : Int) ≤ (j : Int) := by omega
  rw [XE.out, XC.out, XD.out.1, XD.out.2]
  have HE := Lib.hid E
  clear h1 h2 E XE XC XD
  go_enter Tryz.func96, Tryz.ntmps96
  go_wp2_with fail
  refine (KC.out _ ((HE.out.alloc _).alloc _)).mono ?_
  rintro e' w1 ⟨rfl, n, rfl⟩
  obtain ⟨w1, hw1⟩ : ∃ w1, w1 = ((w.alloc (.cells #[.int .i64 0, .string { data := #[] }, .string { data := #[] }] 88)).alloc (.cells #[.int .i64 0, .string { data := #[] }, .string { data := #[] }] 88)).drewN n := ⟨_, rfl⟩
  have hb := bel_d (Below.refl _ ((w.alloc (.cells #[.int .i64 0, .string { data := #[] }, .string { data := #[] }] 88)).alloc (.cells #[.int .i64 0, .string { data := #[] }, .string { data := #[] }] 88))) n
  rw [← hw1] at hb
  rw [← hw1]
  obtain ⟨⟨c0, c1, c2⟩, ⟨f0, f1, f2⟩, ⟨d0, d1, d2⟩, ⟨g0, g1, g2⟩, hB⟩ := str_cells rfl hb
  have HB := Lib.hid hB
  clear hb hB hw1
  go_wp2_with fail
  refine (KD.out _).mono ?_
  rintro e' w2 ⟨rfl, rfl⟩
  go_wp2
  go_region
  all_goals go_wp2
  generalize hX : s.extract 0 j = X at *
  generalize hY : s.extract (j + 1) s.size = Y at *
  clear hX hY
  obtain ⟨V2, hV2⟩ : ∃ V2, V2 = (((w1.setCell ⟨w.heap.size + 1, 1, none⟩ (.string s))).setCell ⟨w.heap.size + 1, 1, none⟩ (.string X)).setCell ⟨w.heap.size + 1, 2, none⟩ (.string Y) := ⟨_, rfl⟩
  have k0 : V2.cell? ⟨w.heap.size, 0, none⟩ = some (.int .i64 0) := by rw [hV2]; simp [go_sem, c0]
  have k1 : V2.cell? ⟨w.heap.size, 1, none⟩ = some (.string { data := #[] }) := by rw [hV2]; simp [go_sem, c1]
  have k2 : V2.cell? ⟨w.heap.size, 2, none⟩ = some (.string { data := #[] }) := by rw [hV2]; simp [go_sem, c2]
  have kB : Below w.heap.size w V2 := by rw [hV2]; repeat (first | exact HB.out | with_reducible refine Below.setCell ?_ (by simp) _)
  rw [← hV2]
  clear hV2
  obtain ⟨e0, e1, e2, bW⟩ := fin3 (x := .int .i64 0) (y := .string X) (z := .string Y) kB k0 k1 k2
  exact bodyPost_ret (v := .agg #[.int .i64 0, .string X, .string Y]) (by simp [results, Tryz.results96, go_sem, e0, e1, e2]) rfl ⟨rfl, bW.drew⟩
theorem split_none_none (s : ByteArray) (w : World) (hs : s.size ≤ 65536) (E : Env w) (h1 : firstI (B s) 0 = none) (h2 : lastI (B s) (s).size = none) :
    Calls Tryz.prog 96 #[.string s] w fun e' w' => e' = .returned (.agg #[.int .i64 (splE s), .string (mk (dashU (colU (B s)))), .string (mk (dashR (colU (B s))))]) ∧ Below w.heap.size w w' := by
  have KC := Lib.hid (fun w E => cut_none h1 w hs E)
  have hU : s.size ≤ 65536 := hs
  have XE := Lib.hid (show splE s = 0 by unfold splE; rw [h1])
  have XC := Lib.hid (show colU (B s) = B s by unfold colU; rw [h1])
  have KD := Lib.hid (fun w => dash_none h2 w hU)
  have XD := Lib.hid (dashU_none h2)
  rw [XE.out, XC.out, XD.out.1, XD.out.2]
  have HE := Lib.hid E
  clear h1 h2 E XE XC XD
  go_enter Tryz.func96, Tryz.ntmps96
  go_wp2_with fail
  refine (KC.out _ ((HE.out.alloc _).alloc _)).mono ?_
  rintro e' w1 ⟨rfl, n, rfl⟩
  obtain ⟨w1, hw1⟩ : ∃ w1, w1 = ((w.alloc (.cells #[.int .i64 0, .string { data := #[] }, .string { data := #[] }] 88)).alloc (.cells #[.int .i64 0, .string { data := #[] }, .string { data := #[] }] 88)).drewN n := ⟨_, rfl⟩
  have hb := bel_d (Below.refl _ ((w.alloc (.cells #[.int .i64 0, .string { data := #[] }, .string { data := #[] }] 88)).alloc (.cells #[.int .i64 0, .string { data := #[] }, .string { data := #[] }] 88))) n
  rw [← hw1] at hb
  rw [← hw1]
  obtain ⟨⟨c0, c1, c2⟩, ⟨f0, f1, f2⟩, ⟨d0, d1, d2⟩, ⟨g0, g1, g2⟩, hB⟩ := str_cells rfl hb
  have HB := Lib.hid hB
  clear hb hB hw1
  go_wp2_with fail
  refine (KD.out _).mono ?_
  rintro e' w2 ⟨rfl, rfl⟩
  go_wp2
  all_goals exact bodyPost_ret (v := .agg #[.int .i64 0, .string (s), .string ({ data := #[] })]) (by simp [results, Tryz.results96, go_sem, c0, c1, c2]) rfl ⟨rfl, by repeat (first | exact HB.out | with_reducible refine Below.drew ?_ | with_reducible refine Below.setCell ?_ (by simp) _)⟩
theorem vsplit_any (s : ByteArray) (w : World) (hs : s.size ≤ 65536) (E : Env w) :
    Calls Tryz.prog 96 #[.string s] w fun e' w' => e' = .returned (.agg #[.int .i64 (splE s), .string (mk (dashU (colU (B s)))), .string (mk (dashR (colU (B s))))]) ∧ Below w.heap.size w w' := by
  cases h1 : firstI (B s) 0 with
  | none =>
    cases h2 : lastI (B s) s.size with
    | none => exact split_none_none s w hs E h1 h2
    | some j => exact split_none_some s j w hs E h1 h2
  | some i =>
    cases h2 : lastI (B (mk ((B s).drop (i + 1)))) (mk ((B s).drop (i + 1))).size with
    | none => exact split_some_none s i w hs E h1 h2
    | some j => exact split_some_some s i j w hs E h1 h2
end Go.Proofs.YtmlakjemgmeffaaGreatDoor
