/- What the laws of this seat rest on: P6o, P6p. -/
import Derived.Test.YtmlakjemgmeffaaGreatDoorP6kY
import Derived.Test.YtmlakjemgmeffaaGreatDoorP6mY
import Derived.Test.YtmlakjemgmeffaaGreatDoorQAS
import Derived.Test.YtmlakjemgmeffaaGreatDoorQAM
import Derived.Test.YtmlakjemgmeffaaGreatDoorNA

section
set_option maxRecDepth 100000
set_option linter.unusedVariables false
set_option linter.unusedSimpArgs false
namespace Go.Proofs.YtmlakjemgmeffaaGreatDoor
open Go.RowKit
theorem ent_info : (Tryz.prog.info? 25).map (fun i => (i.zero, i.size, i.bytes)) = some (some (.agg #[.string { data := #[] }, .string { data := #[] }, .slice none 0 0, .slice none 0 0, .slice none 0 0, .slice none 0 0]), 6, 128) := by kernel_rfl
def idP (t : List Nat) : List Ent × Int × Int := if stE t ≠ 0 then ([], stN t, stE t) else if 64 < (stL t).length then ([], 0, 8) else goI rdP (stL t) 0 []
theorem goI_at {RD : List Fd → Int × Ent} {L : List (List Fd)} {k : Nat} (hk : k < L.length) (out : List Ent) :
    goI RD (L.drop k) k out = if (RD L[k]).1 ≠ 0 then ([], (k : Int) + 1, (RD L[k]).1) else if thB out (RD L[k]).2 = true then ([], (k : Int) + 1, 7) else goI RD (L.drop (k + 1)) (k + 1) (out ++ [(RD L[k]).2]) := by
  rw [List.drop_eq_getElem_cons hk]; rfl
theorem le_sum {l : List Nat} {a : Nat} (h : a ∈ l) : a ≤ l.sum := by
  induction l with
  | nil => cases h
  | cons b r ih =>
    rw [List.sum_cons]
    rcases List.mem_cons.1 h with rfl | h
    · omega
    · have := ih h; omega
theorem val_dW {L : List (List Fd)} {st : List Fd} {f : Fd} (hs : st ∈ L) (hf : f ∈ st) : f.v.size ≤ dW L :=
  Nat.le_trans (le_sum (List.mem_map.2 ⟨f, hf, rfl⟩) : f.v.size ≤ vW st) (le_sum (List.mem_map.2 ⟨st, hs, rfl⟩))
theorem fst_size6 {N : Nat} : ∀ {l : List Fd} (nm : ByteArray), (∀ f ∈ l, f.v.size ≤ N) → (fstV l nm).size ≤ N
  | [], _, _ => Nat.zero_le _
  | f :: r, nm, h => by
    unfold fstV
    split
    · exact h f (by simp)
    · exact fst_size6 nm fun g hg => h g (by simp [hg])
theorem stE_len {t : List Nat} (h : stE t = 0) : t.length ≤ 60000 := by
  rcases Nat.lt_or_ge 60000 t.length with hl | hl
  · unfold stE at h; rw [if_pos hl] at h; exact absurd h (by decide)
  · exact hl
set_option maxHeartbeats 16000000 in
theorem eindex_any (s : ByteArray) (w : World) (E : EnvR w) :
    Calls Tryz.prog 19 #[.string s] w fun e w' => (∃ A n c, e = .returned (.tuple #[.slice A n c, .int .i64 (idP (B s)).2.1, .int .i64 (idP (B s)).2.2]) ∧ rdEnts w' (lt_ w'.heap.size) (idP (B s)).1 [.slice A n c]) ∧ Below w.heap.size w w' := by
  have HE := Lib.hid E
  have KP := Lib.hid (parse5_any s w E.five)
  have X := Lib.hid (show idP (B s) = if stE (B s) ≠ 0 then (([] : List Ent), ((stN (B s) : Nat) : Int), stE (B s)) else if 64 < (stL (B s)).length then (([] : List Ent), (0 : Int), (8 : Int)) else goI rdP (stL (B s)) 0 [] from rfl)
  have HV := Lib.hid (fun (h : stE (B s) = 0) st (hs : st ∈ stL (B s)) nm => (show (fstV st nm).size ≤ 65536 from fst_size6 nm fun f hf => Nat.le_trans (val_dW hs hf) (Nat.le_trans (stL_W _) (Nat.le_trans (stE_len h) (by decide)))))
  obtain ⟨fi, hi, hz0, hz1, hz2⟩ := info_parts ent_info
  clear E
  generalize idP (B s) = R at *
  generalize stE (B s) = er at *
  generalize stN (B s) = ln at *
  generalize stL (B s) = L at *
  by_cases h0 : er ≠ 0
  · have X1 := Lib.hid (show R = ([], (ln : Int), er) from X.out.trans (if_pos h0))
    have t0 : (er != 0) = true := by rw [bne_iff_ne]; exact h0
    clear h0 X
    go_enter Tryz.func19, Tryz.ntmps19
    go_wp2_with fail
    refine KP.out.mono ?_
    rintro e w1 ⟨⟨A, n, c, rfl, hr⟩, hb⟩
    have HB := Lib.hid hb
    clear hr hb
    go_wp2
    go_ret3
    exact ⟨⟨none, 0, 0, by rw [X1.out]; try rfl, by rw [X1.out]; exact rdRow_nil _ _⟩, HB.out⟩
  have t0 : (er != 0) = false := by rw [bne_eq_false_iff_eq]; exact Decidable.not_not.1 h0
  have HV := Lib.hid (HV.out (Decidable.not_not.1 h0))
  have X := Lib.hid (X.out.trans (if_neg h0))
  by_cases h64 : 64 < L.length
  · have X1 := Lib.hid (show R = ([], 0, 8) from X.out.trans (if_pos h64))
    have i8 : (64 : Int) < (L.length : Int) := by omega
    clear h0 h64 X
    go_enter Tryz.func19, Tryz.ntmps19
    go_wp2_with fail
    refine KP.out.mono ?_
    rintro e w1 ⟨⟨A, n, c, rfl, hr⟩, hb⟩
    obtain ⟨rfl, -, hcm, -⟩ := rdStzs_at hr
    have HB := Lib.hid hb
    clear hr hb hcm
    go_wp2
    go_ret3
    exact ⟨⟨none, 0, 0, by rw [X1.out]; try rfl, by rw [X1.out]; exact rdRow_nil _ _⟩, HB.out⟩
  have X := Lib.hid (X.out.trans (if_neg h64))
  have i8 : ¬ (64 : Int) < (L.length : Int) := by omega
  have H64 := Lib.hid (show L.length ≤ 64 by omega)
  clear h0 h64
  go_enter Tryz.func19, Tryz.ntmps19
  go_wp2_with fail
  refine KP.out.mono ?_
  rintro e w1 ⟨⟨A, n, c, rfl, hr⟩, hb⟩
  obtain ⟨rfl, hnc, hcm, -⟩ := rdStzs_at hr
  have hcm' : c ≤ 9223372036854775807 := hcm
  have B1 := Lib.hid hb
  have HL := Lib.hid hr
  clear hr hb hcm KP
  go_wp2
  go_loopw [8, 9, 10, 11, 12, 28] (fun u _ _ _ _ i wr => ∃ (k : Nat) (out : List Ent), k ≤ L.length ∧ out.length = k ∧ i = .int .i64 k ∧ R = goI rdP (L.drop k) k out ∧ Grow rdEnt 6 (fun _ => True) wr w1.heap.size 25 u out ∧ Below w1.heap.size w1 wr) (fun _ _ _ _ _ i _ => L.length - (intOf i).toNat)
  case atStart => exact ⟨0, [], Nat.zero_le _, rfl, rfl, X.out, Grow.nil _ _ _ _, Below.refl _ _⟩
  case round =>
    obtain ⟨k, out, hk, hout, rfl, hR, hG, hb1⟩ := hrel
    have HB := Lib.hid (B1.out.trans (hb1.mono B1.out.size))
    have HB1 := Lib.hid hb1
    have HG := Lib.hid hG
    have HR := Lib.hid hR
    have HO := Lib.hid hout
    clear hG hb1 hR hout
    by_cases hlt : k < L.length
    · obtain ⟨-, -, -, hat⟩ := rdStzs_at (rdStzs_good.up (rdStzs_good.below HL.out HB1.out) HB1.out.size)
      obtain ⟨ad, A', c', rfl, -, h0, h1⟩ := hat k hlt
      have i0 : (0 : Int) ≤ (k : Int) := by omega
      have i1 : (k : Int) < (L.length : Int) := by omega
      have hk64 := H64.out
      have i2 : (k : Int) ≤ 64 := by omega
      have GA := Lib.hid (HR.out.trans (goI_at hlt out))
      have KR := Lib.hid (eread_any A' L[k].length c' L[k] wr h1 (HV.out _ (List.getElem_mem hlt)) (HE.out.below HB.out))
      clear hat h1
      generalize L[k] = st at *
      generalize hsx : rdP st = sx at *
      obtain ⟨er2, x⟩ := sx
      clear hsx
      simp only at GA
      go_wp2_with fail
      refine KR.out.mono ?_
      rintro e w2 ⟨⟨A1, c1, A2, c2, A3, c3, A4, c4, rfl, hv⟩, hb⟩
      have V2 := Lib.hid hb
      have W2 := Lib.hid (HB.out.trans (hb.mono HB.out.size))
      have W21 := Lib.hid (HB1.out.trans (hb.mono HB1.out.size))
      have HX := Lib.hid hv
      clear hb hv h0 KR
      by_cases hz : er2 ≠ 0
      · have X1 := Lib.hid (show R = ([], (k : Int) + 1, er2) from GA.out.trans (if_pos hz))
        have t1 : (er2 == 0) = false := by rw [beq_eq_false_iff_ne]; exact hz
        have t2 : (er2 != 0) = true := by rw [bne_iff_ne]; exact hz
        have BX := Lib.hid (show Below w.heap.size w (w2.alloc (.cells #[.string x.n, .string x.v, .slice A1 x.d.length c1, .slice A2 x.r.length c2, .slice A3 x.c.length c3, .slice A4 x.p.length c4] 25)) from W2.out.alloc W2.out.size _)
        clear hz GA
        go_wp2
        go_ret3
        exact ⟨⟨none, 0, 0, by rw [X1.out]; try rfl, by rw [X1.out]; exact rdRow_nil _ _⟩, BX.out⟩
      have GA := Lib.hid (GA.out.trans (if_neg hz))
      obtain rfl : er2 = 0 := Decidable.not_not.1 hz
      clear hz
      obtain ⟨wb, hwb⟩ : ∃ W, W = w2.alloc (.cells #[.string x.n, .string x.v, .slice A1 x.d.length c1, .slice A2 x.r.length c2, .slice A3 x.c.length c3, .slice A4 x.p.length c4] 25) := ⟨_, rfl⟩
      have hbb : Below w2.heap.size w2 wb := by rw [hwb]; exact (Below.refl _ _).alloc (Nat.le_refl _) _
      have VB := Lib.hid (V2.out.trans (hbb.mono V2.out.size))
      have WB := Lib.hid (W2.out.trans (hbb.mono W2.out.size))
      have WB1 := Lib.hid (W21.out.trans (hbb.mono W21.out.size))
      have KC := Lib.hid (fun (W : World) (hb : Below wb.heap.size wb W) => (show W.cell? ⟨w2.heap.size, 0, none⟩ = some (.string x.n) ∧ W.cell? ⟨w2.heap.size, 1, none⟩ = some (.string x.v) ∧ W.cell? ⟨w2.heap.size, 2, none⟩ = some (.slice A1 x.d.length c1) ∧ W.cell? ⟨w2.heap.size, 3, none⟩ = some (.slice A2 x.r.length c2) ∧ W.cell? ⟨w2.heap.size, 4, none⟩ = some (.slice A3 x.c.length c3) ∧ W.cell? ⟨w2.heap.size, 5, none⟩ = some (.slice A4 x.p.length c4) from by
        refine ⟨?_, ?_, ?_, ?_, ?_, ?_⟩ <;> exact keep6 hb (by rw [hwb]; simp [go_sem])))
      have GB := Lib.hid (HG.out.below rdEnt_good VB.out)
      obtain ⟨Au, cu, hu, _, _⟩ := HG.out.own
      have KT := Lib.hid (by have := among6_any Au out.length cu out x A1 c1 A2 c2 A3 c3 A4 c4 wb (by have := GB.out.read rdEnt_good; rw [hu] at this; exact this); rw [← hu] at this; exact this)
      have SZ := Lib.hid hbb.size
      have VBX := Lib.hid (fun b (hb : b < w2.heap.size) => hbb.block b hb)
      clear hu hbb
      generalize hth : thB out x = bt at *
      clear hth
      obtain ⟨xn, xv, xd, xr, xc, xp⟩ := x
      simp only at KT KC hwb
      go_wp2_with fail
      rw [← hwb]
      clear hwb
      refine KT.out.mono ?_
      rintro e w3 ⟨rfl, hb⟩
      have V3 := Lib.hid hb
      have W3 := Lib.hid (WB.out.trans (hb.mono WB.out.size))
      have W31 := Lib.hid (WB1.out.trans (hb.mono WB1.out.size))
      clear hb
      cases bt
      · have NX := Lib.hid (show R = goI rdP (L.drop (k + 1)) (k + 1) (out ++ [⟨xn, xv, xd, xr, xc, xp⟩]) from GA.out)
        obtain ⟨a0, a1, a2, a3, a4, a5⟩ := KC.out _ V3.out
        have G3 := Lib.hid (GB.out.below rdEnt_good V3.out)
        have hE := (show rdEnt w3 (fun b => True ∧ b < w3.heap.size ∧ u8.ownBlock ≠ some b) ⟨xn, xv, xd, xr, xc, xp⟩ (#[.string xn, .string xv, .slice A1 xd.length c1, .slice A2 xr.length c2, .slice A3 xc.length c3, .slice A4 xp.length c4] : Array Value).toList from by
          have hk2 : ∀ b, (wr.heap.size ≤ b ∧ b < w2.heap.size) → w3.heap[b]? = w2.heap[b]? ∧ (True ∧ b < w3.heap.size ∧ u8.ownBlock ≠ some b) := fun b hb => by
            have e1 := V3.out.block b (by have := SZ.out; omega)
            have e2 := VBX.out b hb.2
            exact ⟨e1.trans e2, trivial, by have := V3.out.size; have := SZ.out; omega, fun hh => by have := (HG.out.lt b hh).2; omega⟩
          exact ⟨_, _, _, _, rfl, rdGrps_good.both HX.out.d (fun b hb => (hk2 b hb).1) (fun b hb => (hk2 b hb).2), rdGrps_good.both HX.out.r (fun b hb => (hk2 b hb).1) (fun b hb => (hk2 b hb).2), rdAtms_good.both HX.out.c (fun b hb => (hk2 b hb).1) (fun b hb => (hk2 b hb).2), rdAtms_good.both HX.out.p (fun b hb => (hk2 b hb).1) (fun b hb => (hk2 b hb).2)⟩)
        have hn1 : out.length + 1 ≤ maxLen := by rw [HO.out]; unfold maxLen; omega
        have hn2 : (out.length + 1) * 128 ≤ 140737488355328 := by rw [HO.out]; omega
        have hs4 : w1.heap.size ≤ w3.heap.size := W31.out.size
        go_wp2_with (at_builtin; refine wpList_grow1 w3 rfl _ _ 26 rfl rdEnt_good (by decide) (fun _ => True) w1.heap.size 25 fi _ 128 Tryz.underlying26 hi hz0 hz1 hz2 rfl u8 _ rfl G3.out ⟨xn, xv, xd, xr, xc, xp⟩ _ 25 hE _ rfl rfl hn1 hn2 hs4 ?_)
        intro v7 w7 hG7 hg7
        have HB7 := Lib.hid (grow_below G3.out hg7 W31.out (Nat.le_refl _) hs4)
        have G7 := Lib.hid hG7
        clear hG7 hg7 hE a0 a1 a2 a3 a4 a5
        go_wp2
        go_roundw
        case rel => exact ⟨k + 1, _, by omega, by rw [List.length_append, HO.out]; rfl, by go_num, NX.out, G7.out, HB7.out⟩
        case measure => simp [intOf]; omega
      · have X1 := Lib.hid (show R = ([], (k : Int) + 1, 7) from GA.out)
        clear GA
        go_wp2
        go_ret3
        exact ⟨⟨none, 0, 0, by rw [X1.out]; try rfl, by rw [X1.out]; exact rdRow_nil _ _⟩, W3.out⟩
    · obtain rfl : k = L.length := by omega
      have X1 := Lib.hid (show R = (out, 0, 0) by rw [HR.out, List.drop_eq_nil_of_le (Nat.le_refl _)]; rfl)
      have hrd := HG.out.read rdEnt_good
      obtain ⟨Au, cu, hu, _, _⟩ := HG.out.own
      rw [hu] at hrd
      have HRD := Lib.hid hrd
      subst hu
      clear hrd HG
      go_wp2
      go_ret3
      exact ⟨⟨Au, out.length, cu, by rw [X1.out]; try rfl, by rw [X1.out]; exact HRD.out⟩, HB.out⟩
end Go.Proofs.YtmlakjemgmeffaaGreatDoor
end

section
set_option linter.unusedVariables false
namespace Go.Proofs.YtmlakjemgmeffaaGreatDoor
open Go.RowKit
def Good1 (f : Fd) : Prop := fnB (B f.n) = true ∧ (∀ c ∈ B f.v, 32 ≤ c) ∧ hd32 (B f.v) = false ∧ B f.v ≠ []
def ln1 (f : Fd) : List Nat := B f.n ++ 58 :: 32 :: B f.v
theorem nm_ge {n : List Nat} (h : fnB n = true) : (∀ c ∈ n, 45 ≤ c ∧ c ≠ 58) ∧ ∃ a r, n = a :: r ∧ a ≠ 32 := by
  cases n with
  | nil => cases h
  | cons a r =>
    rw [fnB_cons, Bool.and_eq_true, Bool.and_eq_true] at h
    obtain ⟨⟨h1, h2⟩, _⟩ := h
    have hl : ∀ c, letB c = true → 65 ≤ c := fun c hc => by
      unfold letB at hc
      simp only [decide_eq_true_eq] at hc
      omega
    refine ⟨fun c hc => ?_, a, r, rfl, by have := hl a h1; omega⟩
    rcases List.mem_cons.1 hc with rfl | hc
    · have := hl _ h1; omega
    · have := List.all_eq_true.1 h2 c hc
      unfold nmC at this
      rw [Bool.or_eq_true, Bool.or_eq_true] at this
      rcases this with (h | h) | h
      · have := hl c h; omega
      · unfold digB at h; rw [decide_eq_true_eq] at h; omega
      · rw [decide_eq_true_eq] at h; omega
theorem ln1_ge {f : Fd} (h : Good1 f) : ∀ c ∈ ln1 f, 32 ≤ c := by
  intro c hc
  unfold ln1 at hc
  rcases List.mem_append.1 hc with hc | hc
  · have := ((nm_ge h.1).1 c hc).1; omega
  · rcases List.mem_cons.1 hc with rfl | hc
    · omega
    · rcases List.mem_cons.1 hc with rfl | hc
      · omega
      · exact h.2.1 c hc
theorem ln1_low {f : Fd} (h : Good1 f) : lowB (ln1 f) = false := by
  unfold lowB
  rw [List.any_eq_false]
  intro c hc
  have := ln1_ge h c hc
  simp only [decide_eq_true_eq]; omega
theorem tw_name {n r : List Nat} (h : ∀ c ∈ n, c ≠ 58) : (n ++ 58 :: r).takeWhile (fun c => c != 58) = n := by
  induction n with
  | nil => rfl
  | cons a n ih =>
    rw [List.cons_append, List.takeWhile_cons, ih fun c hc => h c (by simp [hc])]
    have : (a != 58) = true := by rw [bne_iff_ne]; exact h a (by simp)
    rw [if_pos this]
theorem ln1_nm {f : Fd} (h : Good1 f) : nmOf (ln1 f) = B f.n := tw_name fun c hc => ((nm_ge h.1).1 c hc).2
theorem ln1_vl {f : Fd} (h : Good1 f) : vlOf (ln1 f) = B f.v := by
  unfold vlOf
  rw [ln1_nm h]
  unfold ln1
  have : (B f.n ++ 58 :: 32 :: B f.v).drop ((B f.n).length + 1) = 32 :: B f.v := by
    rw [List.drop_append, List.drop_of_length_le (by omega), List.nil_append]
    simp
  rw [this, List.dropWhile_cons, if_pos (by decide)]
  have h2 := h.2.2.1
  have h3 := h.2.2.2
  generalize B f.v = v at *
  cases v with
  | nil => exact absurd rfl h3
  | cons a r =>
    unfold hd32 at h2
    rw [decide_eq_false_iff_not] at h2
    rw [List.dropWhile_cons, if_neg (by simpa using h2)]
theorem fld1 {f : Fd} (h : Good1 f) : fldT f = ln1 f ++ [10] := by
  unfold fldT ln1
  have hc : cutBy 10 (B f.v) = [B f.v] := cutBy_none fun c hc => by have := h.2.1 c hc; omega
  rw [hc]
  show B f.n ++ 58 :: ((if B f.v = [] then [] else 32 :: B f.v) ++ 10 :: ([] : List (List Nat)).flatten) = _
  rw [if_neg h.2.2.2]
  simp
theorem cut_st {st : List Fd} (h : ∀ f ∈ st, Good1 f) (r : List Nat) : cutBy 10 (stT st ++ r) = st.map ln1 ++ cutBy 10 r := by
  induction st with
  | nil => rfl
  | cons f st ih =>
    have e : stT (f :: st) = fldT f ++ stT st := by unfold stT; rw [List.map_cons, List.flatten_cons]
    rw [e, fld1 (h f (by simp)), List.append_assoc, List.append_assoc]
    show cutBy 10 (ln1 f ++ 10 :: (stT st ++ r)) = _
    rw [cutBy_at (fun c hc => by have := ln1_ge (h f (by simp)) c hc; omega), ih fun g hg => h g (by simp [hg])]; rfl
def op1 (f : Fd) : Opn := (f.n, [B f.v])
theorem cl_op1 (st : List Fd) : (st.map op1).map clF = st := by
  rw [List.map_map]
  have : ∀ f : Fd, (clF ∘ op1) f = f := fun f => by
    show (⟨f.n, joinB [B f.v]⟩ : Fd) = f
    unfold joinB
    rw [show joinL [10] [B f.v] = B f.v from rfl, mk_B]
  rw [List.map_congr_left fun f _ => this f, List.map_id']
theorem ln1_run {f : Fd} (h : Good1 f) (D : List (List Fd)) (seen : List Fd) (hd : D.length < 200) (hs : seen.length < 40) (hn : getV seen f.n = false) :
    lnE ⟨D, seen.map op1⟩ (ln1 f) = 0 ∧ lnS ⟨D, seen.map op1⟩ (ln1 f) = ⟨D, (seen ++ [f]).map op1⟩ := by
  have hnm := ln1_nm h
  have hvl := ln1_vl h
  have hlow := ln1_low h
  have h58 : 58 ∈ ln1 f := by unfold ln1; simp
  obtain ⟨a, r, ha, ha32⟩ := (nm_ge h.1).2
  have hln : ln1 f = a :: (r ++ 58 :: 32 :: B f.v) := by unfold ln1; rw [ha]; rfl
  have hany : ((seen.map op1).any fun g => decide (g.1 = mk (nmOf (ln1 f)))) = false := by
    rw [hnm, mk_B, ← any_cl, cl_op1]; exact hn
  refine ⟨?_, ?_⟩
  · have e : lnE ⟨D, seen.map op1⟩ (ln1 f) = begE ⟨D, seen.map op1⟩ (ln1 f) := by
      unfold lnE
      rw [hlow, hln]
      rw [if_neg (by decide)]
      simp only
      rw [if_neg ha32]
    rw [e]
    unfold begE
    rw [if_pos (by rw [decide_eq_true h58, hnm, h.1]; rfl)]
    simp only
    rw [hany, if_neg (by decide), if_neg]
    rw [List.length_map, decide_eq_false (by omega), decide_eq_false (by omega)]; decide
  · have e : lnS ⟨D, seen.map op1⟩ (ln1 f) = ⟨D, seen.map op1 ++ [(mk (nmOf (ln1 f)), [vlOf (ln1 f)])]⟩ := by
      rw [hln]
      unfold lnS
      simp only
      rw [if_neg ha32]
    rw [e, hnm, hvl, mk_B, List.map_append]; rfl
theorem st_run (D : List (List Fd)) (hd : D.length < 200) : ∀ (st seen : List Fd), (∀ f ∈ st, Good1 f) → noDup seen st = true → seen.length + st.length ≤ 40 →
    rnE ⟨D, seen.map op1⟩ (st.map ln1) = 0 ∧ rnS ⟨D, seen.map op1⟩ (st.map ln1) = ⟨D, (seen ++ st).map op1⟩
  | [], seen, _, _, _ => ⟨rfl, by rw [List.append_nil]; rfl⟩
  | f :: st, seen, h, hn, hl => by
    have hn' : getV seen f.n = false ∧ noDup (seen ++ [f]) st = true := by
      have : (!getV seen f.n && noDup (seen ++ [f]) st) = true := hn
      rw [Bool.and_eq_true, Bool.not_eq_true'] at this; exact this
    rw [List.length_cons] at hl
    obtain ⟨h1, h2⟩ := ln1_run (h f (by simp)) D seen hd (by omega) hn'.1
    obtain ⟨h3, h4⟩ := st_run D hd st (seen ++ [f]) (fun g hg => h g (by simp [hg])) hn'.2 (by rw [List.length_append, List.length_singleton]; omega)
    rw [List.map_cons, rnE_ok h1]
    refine ⟨by rw [h2]; exact h3, ?_⟩
    show rnS (lnS _ _) _ = _
    rw [h2, h4, List.append_assoc]; rfl
theorem fin_op1 (D : List (List Fd)) {st : List Fd} (h : st ≠ []) : (PS.mk D (st.map op1)).fin = ⟨D ++ [st], []⟩ := by
  unfold PS.fin
  rw [if_neg (by simpa using h)]
  simp only
  rw [cl_op1]
structure Stz1 (st : List Fd) : Prop where
  f : ∀ f ∈ st, Good1 f
  d : noDup [] st = true
  n : st ≠ []
  l : st.length ≤ 40
theorem tx_run : ∀ (L D : List (List Fd)), L ≠ [] → (∀ st ∈ L, Stz1 st) → D.length + L.length ≤ 200 → rnE ⟨D, []⟩ (cutBy 10 (txL L)) = 0 ∧ (rnS ⟨D, []⟩ (cutBy 10 (txL L))).fin.dn = D ++ L
  | [], _, h, _, _ => absurd rfl h
  | [st], D, _, h, hl => by
    have hs := h st (by simp)
    have e : txL [st] = stT st ++ [] := by rw [List.append_nil]; rfl
    obtain ⟨h1, h2⟩ := st_run D (by simp at hl; omega) st [] hs.f hs.d (by simpa using hs.l)
    have h1 : rnE ⟨D, []⟩ (st.map ln1) = 0 := h1
    rw [e, cut_st hs.f]
    refine ⟨?_, ?_⟩
    · rw [rnE_app _ _ _ h1]; rfl
    · rw [rnS_app]
      have h2' : rnS ⟨D, []⟩ (st.map ln1) = ⟨D, st.map op1⟩ := h2
      rw [h2']
      show ((PS.mk D (st.map op1)).fin).fin.dn = _
      rw [fin_fin, fin_op1 D hs.n]
  | st :: st' :: r, D, _, h, hl => by
    have hs := h st (by simp)
    have e : txL (st :: st' :: r) = stT st ++ 10 :: txL (st' :: r) := rfl
    simp only [List.length_cons] at hl
    obtain ⟨h1, h2⟩ := st_run D (by omega) st [] hs.f hs.d (by simpa using hs.l)
    have h1 : rnE ⟨D, []⟩ (st.map ln1) = 0 := h1
    have h2' : rnS ⟨D, []⟩ (st.map ln1) = ⟨D, st.map op1⟩ := h2
    have hc : cutBy 10 (10 :: txL (st' :: r)) = [] :: cutBy 10 (txL (st' :: r)) := by
      have := cutBy_at (c := 10) (p := []) (fun x hx => by cases hx) (txL (st' :: r))
      exact this
    obtain ⟨h3, h4⟩ := tx_run (st' :: r) (D ++ [st]) (by simp) (fun s hs' => h s (by simp only [List.mem_cons] at hs' ⊢; exact .inr hs')) (by rw [List.length_append, List.length_singleton]; simp only [List.length_cons]; omega)
    have hf : lnS (PS.mk D (st.map op1)) [] = ⟨D ++ [st], []⟩ := fin_op1 D hs.n
    rw [e, cut_st hs.f, hc]
    refine ⟨?_, ?_⟩
    · rw [rnE_app _ _ _ h1, h2', rnE_ok (lnE_nil _), hf]; exact h3
    · rw [rnS_app, h2']
      show (rnS (lnS _ []) _).fin.dn = _
      rw [hf, h4, List.append_assoc]; rfl
theorem tx_back {L : List (List Fd)} (h : ∀ st ∈ L, Stz1 st) (hl : L.length ≤ 200) (ht : (txL L).length ≤ 60000) : stE (txL L) = 0 ∧ stL (txL L) = L := by
  by_cases h0 : L = []
  · subst h0
    exact ⟨by kernel_rfl, by kernel_rfl⟩
  · obtain ⟨h1, h2⟩ := tx_run L [] h0 h (by simpa using hl)
    have e : stE (txL L) = 0 := by unfold stE; rw [if_neg (by omega)]; exact h1
    refine ⟨e, ?_⟩
    unfold stL
    rw [if_pos e]
    exact h2
end Go.Proofs.YtmlakjemgmeffaaGreatDoor
end
