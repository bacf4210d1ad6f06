/- What the laws of this seat rest on: S5k6, S5k7. -/
import Derived.Test.YtmlakjemgmeffaaGreatDoorS5k5Y
import Derived.Laws.IdiomStrings
import Derived.Lib.AppendStr

section
set_option maxRecDepth 100000
set_option linter.unusedVariables false
set_option linter.unusedSimpArgs false
namespace Go.Proofs.YtmlakjemgmeffaaGreatDoor
open Go.RowKit
def fbT (n : List Nat) (L : List (List Nat)) (k : Nat) : List Nat := n ++ (58 :: ((if L.getD 0 [] = [] then [] else 32 :: L.getD 0 []) ++ 10 :: (((L.take k).drop 1).map fun l => 32 :: (l ++ [10])).flatten))
theorem fb_end (f : Fd) : fbT (B f.n) (cutBy 10 (B f.v)) (cutBy 10 (B f.v)).length = fldT f := by
  unfold fbT fldT
  rw [List.take_length]
  cases h : cutBy 10 (B f.v) with
  | nil => exact absurd h (cutBy_ne _ _)
  | cons x r => rfl
theorem fb_step {n : List Nat} {L : List (List Nat)} {k : Nat} (h1 : 1 ≤ k) (hk : k < L.length) : fbT n L (k + 1) = fbT n L k ++ ([32] ++ (L[k] ++ [10])) := by
  unfold fbT
  have : (L.take (k + 1)).drop 1 = (L.take k).drop 1 ++ [L[k]] := by
    rw [List.take_succ_eq_append_getElem hk, List.drop_append_of_le_length (by rw [List.length_take]; omega)]
  rw [this, List.map_append, List.flatten_append]
  simp
set_option maxHeartbeats 4000000 in
theorem q5field_any (f : Fd) (w : World) (hn : f.n.size ≤ 65536) (hv : f.v.size ≤ 65536) :
    Calls Tryz.prog 114 #[.agg #[.string f.n, .string f.v]] w fun e w' => (∃ y : ByteArray, e = .returned (.string y) ∧ B y = fldT f ∧ y.size ≤ 4400000000) ∧ Below w.heap.size w w' := by
  have FE := Lib.hid (fb_end f)
  obtain ⟨fn, fv⟩ := f
  have BA := Lib.hid ((Below.refl w.heap.size w).alloc (Nat.le_refl _) (.cells #[.string fn, .string fv] 41))
  have Z := Lib.hid (show (w.alloc (.cells #[.string fn, .string fv] 41)).heap.size = w.heap.size + 1 by rw [World.size_alloc])
  have Q := Lib.hid (show (w.alloc (.cells #[.string fn, .string fv] 41)).cell? ⟨w.heap.size, 0, none⟩ = some (.string fn) ∧ (w.alloc (.cells #[.string fn, .string fv] 41)).cell? ⟨w.heap.size, 1, none⟩ = some (.string fv) from ⟨by simp [go_sem], by simp [go_sem]⟩)
  have KL := Lib.hid (q5lines_any fv (w.alloc (.cells #[.string fn, .string fv] 41)) hv)
  have HLL := Lib.hid (show (cutBy 10 (B fv)).length ≤ 65537 by rw [cutBy_len]; have := List.count_le_length (a := 10) (l := B fv); rw [B_len] at this; have hv : fv.size ≤ 65536 := hv; omega)
  have HL0 := Lib.hid (cut_zero 10 (B fv))
  have HLB := Lib.hid (fun l (hl : l ∈ cutBy 10 (B fv)) => (show l.length ≤ 65536 from by have := cutBy_mem_len hl; rw [B_len] at this; have hv : fv.size ≤ 65536 := hv; omega))
  have HN := Lib.hid (show fn.size ≤ 65536 from hn)
  clear hn hv
  generalize cutBy 10 (B fv) = L at *
  go_enter Tryz.func114, Tryz.ntmps114
  go_wp2_with fail
  refine KL.out.mono ?_
  rintro e w1 ⟨⟨A1, n1, c1, rfl, hr⟩, hb⟩
  obtain ⟨rfl, hnc1, hcm1, ha⟩ := rdStrs_at hr
  have hcm1' : c1 ≤ 9223372036854775807 := hcm1
  have x0 := (hb.cell (show (⟨w.heap.size, 0, none⟩ : Addr).block < _ by rw [Z.out]; exact Nat.lt_succ_self _)).trans Q.out.1
  have HB := Lib.hid (BA.out.trans (hb.mono BA.out.size))
  have HA := Lib.hid ha
  obtain ⟨ad, l0, rfl, had, g0, hB0⟩ := ha 0 HL0.out
  rw [add_0] at g0
  have L0 := Lib.hid (show L.getD 0 [] = B l0 by rw [List.getD_eq_getElem?_getD, List.getElem?_eq_getElem HL0.out]; exact hB0.symm)
  have Z0 := Lib.hid (show l0.size ≤ 65536 by rw [← B_len, hB0]; exact HLB.out _ (List.getElem_mem HL0.out))
  have i0 : (0 : Int) < (L.length : Int) := by have := HL0.out; omega
  have hll := HLL.out
  obtain ⟨y1, a1, p1, z1⟩ := add_out fn { data := #[58] } 65536 1 HN.out (by decide)
  have em := emp_eq l0
  have P1 := Lib.hid p1
  clear hr hb ha hB0 hcm1 p1
  rcases (by
    by_cases h0 : B l0 = []
    · exact Or.inl h0
    · exact Or.inr h0 : B l0 = [] ∨ ¬ B l0 = []) with h0 | h0
  · rw [decide_eq_true h0] at em
    obtain ⟨y4, a4, p4, z4⟩ := add_out y1 { data := #[10] } 65537 1 z1 (by decide)
    have ST := Lib.hid (show B y4 = fbT (B fn) L 1 ∧ y4.size ≤ 200000 from ⟨by
      rw [p4, P1.out, B_append, B_append]
      unfold fbT
      rw [L0.out, if_pos h0, show (L.take 1).drop 1 = [] from List.drop_eq_nil_of_le (by rw [List.length_take]; omega)]
      show B fn ++ [58] ++ [10] = B fn ++ (58 :: ([] ++ 10 :: []))
      simp, by omega⟩)
    clear p4 z4 h0 z1
    go_wp2
    clear x0
    go_loop [4, 5] (fun v i => ∃ (k : Nat) (y : ByteArray), 1 ≤ k ∧ k ≤ L.length ∧ i = .int .i64 k ∧ v = .string y ∧ B y = fbT (B fn) L k ∧ y.size ≤ 200000 + k * 65538) (fun _ i => L.length - (intOf i).toNat)
    case atStart => exact ⟨1, y4, Nat.le_refl _, HL0.out, by go_num, rfl, ST.out.1, by have := ST.out.2; omega⟩
    case round =>
      obtain ⟨k, y, hk1, hk, rfl, rfl, hy, hys⟩ := hrel
      have HY := Lib.hid (And.intro hy hys)
      clear hy hys
      by_cases hlt : k < L.length
      · obtain ⟨ad', s, e', _, gk, hB⟩ := HA.out k hlt
        injection e' with e'
        subst e'
        have FS := Lib.hid (fb_step (n := B fn) hk1 hlt)
        have SZ := Lib.hid (show s.size ≤ 65536 by rw [← B_len, hB]; exact HLB.out _ (List.getElem_mem hlt))
        obtain ⟨u1, b1, r1, t1⟩ := add_out y { data := #[32] } (200000 + k * 65538) 1 HY.out.2 (by decide) (by omega)
        obtain ⟨u2, b2, r2, t2⟩ := add_out u1 s (200000 + k * 65538 + 1) 65536 t1 SZ.out (by omega)
        obtain ⟨u3, b3, r3, t3⟩ := add_out u2 { data := #[10] } (200000 + k * 65538 + 1 + 65536) 1 t2 (by decide) (by omega)
        have NX := Lib.hid (show B u3 = fbT (B fn) L (k + 1) ∧ u3.size ≤ 200000 + (k + 1) * 65538 from ⟨by
          rw [r3, r2, r1, B_append, B_append, B_append, HY.out.1, FS.out, hB]
          show _ ++ [32] ++ _ ++ [10] = _
          simp, by omega⟩)
        clear r1 r2 r3 t1 t2 t3 hB
        go_wp2
        go_round
        case rel => exact ⟨k + 1, u3, by omega, by omega, by go_num, rfl, NX.out.1, NX.out.2⟩
        case measure => simp [intOf]; omega
      · obtain rfl : k = L.length := by omega
        have FIN := Lib.hid (show B y = fldT ⟨fn, fv⟩ ∧ y.size ≤ 4400000000 from ⟨HY.out.1.trans FE.out, by have h1 := HY.out.2; have := HLL.out; omega⟩)
        go_wp2
        go_ret
        exact ⟨⟨y, rfl, FIN.out.1, FIN.out.2⟩, HB.out⟩
  · rw [decide_eq_false h0] at em
    obtain ⟨y2, a2, p2, z2⟩ := add_out y1 { data := #[32] } 65537 1 z1 (by decide)
    obtain ⟨y3, a3, p3, z3⟩ := add_out y2 l0 65538 65536 z2 Z0.out
    obtain ⟨y4, a4, p4, z4⟩ := add_out y3 { data := #[10] } 131074 1 z3 (by decide)
    have ST := Lib.hid (show B y4 = fbT (B fn) L 1 ∧ y4.size ≤ 200000 from ⟨by
      rw [p4, p3, p2, P1.out, B_append, B_append, B_append, B_append]
      unfold fbT
      rw [L0.out, if_neg h0, show (L.take 1).drop 1 = [] from List.drop_eq_nil_of_le (by rw [List.length_take]; omega)]
      show B fn ++ [58] ++ [32] ++ B l0 ++ [10] = B fn ++ (58 :: ((32 :: B l0) ++ 10 :: []))
      simp, by omega⟩)
    clear p2 p3 p4 z4 z3 z2 h0 z1
    go_wp2
    clear x0
    go_loop [4, 5] (fun v i => ∃ (k : Nat) (y : ByteArray), 1 ≤ k ∧ k ≤ L.length ∧ i = .int .i64 k ∧ v = .string y ∧ B y = fbT (B fn) L k ∧ y.size ≤ 200000 + k * 65538) (fun _ i => L.length - (intOf i).toNat)
    case atStart => exact ⟨1, y4, Nat.le_refl _, HL0.out, by go_num, rfl, ST.out.1, by have := ST.out.2; omega⟩
    case round =>
      obtain ⟨k, y, hk1, hk, rfl, rfl, hy, hys⟩ := hrel
      have HY := Lib.hid (And.intro hy hys)
      clear hy hys
      by_cases hlt : k < L.length
      · obtain ⟨ad', s, e', _, gk, hB⟩ := HA.out k hlt
        injection e' with e'
        subst e'
        have FS := Lib.hid (fb_step (n := B fn) hk1 hlt)
        have SZ := Lib.hid (show s.size ≤ 65536 by rw [← B_len, hB]; exact HLB.out _ (List.getElem_mem hlt))
        obtain ⟨u1, b1, r1, t1⟩ := add_out y { data := #[32] } (200000 + k * 65538) 1 HY.out.2 (by decide) (by omega)
        obtain ⟨u2, b2, r2, t2⟩ := add_out u1 s (200000 + k * 65538 + 1) 65536 t1 SZ.out (by omega)
        obtain ⟨u3, b3, r3, t3⟩ := add_out u2 { data := #[10] } (200000 + k * 65538 + 1 + 65536) 1 t2 (by decide) (by omega)
        have NX := Lib.hid (show B u3 = fbT (B fn) L (k + 1) ∧ u3.size ≤ 200000 + (k + 1) * 65538 from ⟨by
          rw [r3, r2, r1, B_append, B_append, B_append, HY.out.1, FS.out, hB]
          show _ ++ [32] ++ _ ++ [10] = _
          simp, by omega⟩)
        clear r1 r2 r3 t1 t2 t3 hB
        go_wp2
        go_round
        case rel => exact ⟨k + 1, u3, by omega, by omega, by go_num, rfl, NX.out.1, NX.out.2⟩
        case measure => simp [intOf]; omega
      · obtain rfl : k = L.length := by omega
        have FIN := Lib.hid (show B y = fldT ⟨fn, fv⟩ ∧ y.size ≤ 4400000000 from ⟨HY.out.1.trans FE.out, by have h1 := HY.out.2; have := HLL.out; omega⟩)
        go_wp2
        go_ret
        exact ⟨⟨y, rfl, FIN.out.1, FIN.out.2⟩, HB.out⟩
end Go.Proofs.YtmlakjemgmeffaaGreatDoor
end

section
set_option maxRecDepth 100000
set_option linter.unusedVariables false
set_option linter.unusedSimpArgs false
namespace Go.Proofs.YtmlakjemgmeffaaGreatDoor
open Go.RowKit
set_option maxHeartbeats 8000000 in
theorem q5stanza_any (A : Option Addr) (n c : Nat) (l : List Fd) (w : World) (h : rdFds w (lt_ w.heap.size) l [.slice A n c]) (hs : ∀ f ∈ l, f.n.size ≤ maxLen ∧ f.v.size ≤ 65536) :
    Calls Tryz.prog 113 #[.slice A n c] w fun e w' => e = .returned (.bool (stzR l)) ∧ Below w.heap.size w w' := by
  obtain ⟨rfl, hnc, hcm, _⟩ := rdFds_at h
  have hcm' : c ≤ 9223372036854775807 := hcm
  have H := Lib.hid h
  have HS := Lib.hid hs
  have SD := Lib.hid (show stzR l = (l.all fdR && noDup [] l && (decide (1 ≤ l.length) && decide (l.length ≤ 40))) from rfl)
  clear hcm h hs
  go_enter Tryz.func113, Tryz.ntmps113
  go_wp2
  go_loopw [3] (fun i wr => ∃ k : Nat, k ≤ l.length ∧ i = .int .i64 k ∧ (l.take k).all fdR = true ∧ noDup [] l = noDup (l.take k) (l.drop k) ∧ Below w.heap.size w wr) (fun i _ => l.length - (intOf i).toNat)
  case atStart => exact ⟨0, Nat.zero_le _, rfl, rfl, rfl, Below.refl _ _⟩
  case round =>
    obtain ⟨k, hk, rfl, hall, hdup, hbel⟩ := hrel
    have HA := Lib.hid hall
    have HD := Lib.hid hdup
    have HB := Lib.hid hbel
    clear hall hdup
    by_cases hlt : k < l.length
    · obtain ⟨_, _, _, ha⟩ := rdFds_at (rdFds_good.below H.out hbel)
      obtain ⟨ad, rfl, had, x0, x1⟩ := ha k hlt
      have hf := HS.out l[k] (List.getElem_mem hlt)
      have KN := Lib.hid (fun w => q5name_any l[k].n w hf.1)
      have KV := Lib.hid (fun w => q5value_any l[k].v w hf.2)
      have AS := Lib.hid (all_snoc fdR l k hlt)
      have AN := Lib.hid (fun h => all_not5 (p := fdR) (l := l) (k := k) hlt h)
      have DS := Lib.hid (noDup_step hlt)
      have FDK := Lib.hid (show fdR l[k] = (fnB (B l[k].n) && valB (B l[k].v)) from rfl)
      have i0 : (0 : Int) ≤ (k : Int) := by omega
      have i1 : (k : Int) < (l.length : Int) := by omega
      have hki : k < l.length := hlt
      clear ha hbel hf
      cases h1 : fnB (B l[k].n)
      · have X := Lib.hid (show stzR l = false by rw [SD.out, AN.out (by rw [FDK.out, h1]; rfl)]; rfl)
        rw [h1] at KN
        clear h1
        go_wp2_with fail
        refine (KN.out _).mono ?_
        rintro e w' ⟨rfl, rfl⟩
        go_wp2_with fail
        refine (KV.out _).mono ?_
        rintro e w2 ⟨rfl, hb2⟩
        have HB2 := Lib.hid (HB.out.trans (hb2.mono HB.out.size))
        clear hb2
        go_wp2
        go_ret
        exact ⟨by rw [X.out]; try rfl, HB2.out⟩
      · rw [h1] at KN
        cases h2 : valB (B l[k].v)
        · have X := Lib.hid (show stzR l = false by rw [SD.out, AN.out (by rw [FDK.out, h1, h2]; rfl)]; rfl)
          rw [h2] at KV
          clear h1 h2
          go_wp2_with fail
          refine (KN.out _).mono ?_
          rintro e w' ⟨rfl, rfl⟩
          go_wp2_with fail
          refine (KV.out _).mono ?_
          rintro e w2 ⟨rfl, hb2⟩
          have HB2 := Lib.hid (HB.out.trans (hb2.mono HB.out.size))
          clear hb2
          go_wp2
          go_ret
          exact ⟨by rw [X.out]; try rfl, HB2.out⟩
        · rw [h2] at KV
          have FOK := Lib.hid (show fdR l[k] = true by rw [FDK.out, h1, h2]; rfl)
          clear h1 h2 FDK
          go_wp2_with fail
          refine (KN.out _).mono ?_
          rintro e w' ⟨rfl, rfl⟩
          go_wp2_with fail
          refine (KV.out _).mono ?_
          rintro e w2 ⟨rfl, hb2⟩
          have HB2 := Lib.hid (HB.out.trans (hb2.mono HB.out.size))
          clear hb2 x0 x1
          go_wp2
          go_loopw [6] (fun i wr => ∃ q : Nat, q ≤ k ∧ i = .int .i64 q ∧ getV (l.take q) l[k].n = false ∧ Dr w2 wr) (fun i _ => k - (intOf i).toNat)
          case atStart => exact ⟨0, Nat.zero_le _, rfl, rfl, Dr.refl _⟩
          case round =>
            obtain ⟨q, hq, rfl, hg, hdr⟩ := hrel
            have HG := Lib.hid hg
            have HDR := Lib.hid hdr
            clear hg
            by_cases hlq : q < k
            · have hql : q < l.length := by omega
              have BX := hdr.below w.heap.size
              obtain ⟨_, _, _, ha⟩ := rdFds_at (rdFds_good.below H.out (HB2.out.trans BX))
              obtain ⟨ad1, e1, had1, c0, _⟩ := ha k hlt
              obtain ⟨ad2, e2, had2, g0, _⟩ := ha q hql
              injection e1 with e1
              injection e2 with e2
              subst e1
              subst e2
              have GS := Lib.hid (show getV (l.take (q + 1)) l[k].n = (getV (l.take q) l[k].n || decide (l[q].n = l[k].n)) from any_snoc (fun f : Fd => decide (f.n = l[k].n)) l q hql)
              have GH := Lib.hid (fun (h : l[q].n = l[k].n) => (show getV (l.take k) l[k].n = true from by
                unfold getV
                rw [List.any_eq_true]
                exact ⟨l[q], by rw [List.mem_take_iff_getElem]; exact ⟨q, by omega, rfl⟩, decide_eq_true h⟩))
              have he := str_eq l[q].n l[k].n
              have j0 : (0 : Int) ≤ (q : Int) := by omega
              have j1 : (q : Int) < (l.length : Int) := by omega
              clear ha hdr BX had1 had2
              by_cases hn : l[q].n = l[k].n
              · have X := Lib.hid (show stzR l = false by rw [SD.out, HD.out, DS.out, GH.out hn]; simp)
                rw [decide_eq_true hn] at he
                clear hn
                generalize l[q].n = s1 at *
                generalize l[k].n = s2 at *
                go_wp2_with fail
                go_quiet (fail)
                go_wp2
                go_ret
                exact ⟨by rw [X.out]; try rfl, HB2.out.trans ((HDR.out.more _).below _)⟩
              · have Y := Lib.hid (show getV (l.take (q + 1)) l[k].n = false by rw [GS.out, HG.out, decide_eq_false hn]; rfl)
                rw [decide_eq_false hn] at he
                clear hn
                go_wp2_with fail
                go_quiet (fail)
                go_wp2
                go_roundw
                case rel => exact ⟨q + 1, by omega, by go_num, Y.out, HDR.out.more _⟩
                case measure => simp [intOf]; omega
            · obtain rfl : q = k := by omega
              have Y := Lib.hid (show (l.take (q + 1)).all fdR = true ∧ noDup [] l = noDup (l.take (q + 1)) (l.drop (q + 1)) from ⟨by rw [AS.out, HA.out, FOK.out]; rfl, by rw [HD.out, DS.out, HG.out]; rfl⟩)
              clear hdr
              go_wp2
              go_roundw
              case rel => exact ⟨q + 1, by omega, by go_num, Y.out.1, Y.out.2, HB2.out.trans (HDR.out.below _)⟩
              case measure => simp [intOf]; omega
    · obtain rfl : k = l.length := by omega
      have X := Lib.hid (show stzR l = (decide (1 ≤ l.length) && decide (l.length ≤ 40)) by
        have h1 := HA.out
        have h2 := HD.out
        rw [List.take_length] at h1 h2
        rw [SD.out, h1, h2, List.drop_length]; rfl)
      clear hbel
      by_cases h0 : 1 ≤ l.length
      · have z0 : (1 : Int) ≤ (l.length : Int) := by omega
        by_cases h40 : l.length ≤ 40
        · have z1 : (l.length : Int) ≤ 40 := by omega
          go_wp2
          go_ret
          exact ⟨by rw [X.out, decide_eq_true h0, decide_eq_true h40]; try rfl, HB.out⟩
        · have z1 : ¬ (l.length : Int) ≤ 40 := by omega
          go_wp2
          go_ret
          exact ⟨by rw [X.out, decide_eq_true h0, decide_eq_false h40]; try rfl, HB.out⟩
      · have z0 : ¬ (1 : Int) ≤ (l.length : Int) := by omega
        go_wp2
        go_ret
        exact ⟨by rw [X.out, decide_eq_false h0]; try rfl, HB.out⟩
end Go.Proofs.YtmlakjemgmeffaaGreatDoor
end
