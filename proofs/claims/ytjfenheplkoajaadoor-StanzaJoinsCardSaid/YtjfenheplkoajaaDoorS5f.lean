/- The contract of the document's own line. -/
import Derived.Test.YtjfenheplkoajaaDoorS5e2
import Derived.StillTailTactics
set_option maxRecDepth 100000
set_option linter.unusedVariables false
set_option linter.unusedSimpArgs false
namespace Go.Proofs.YtjfenheplkoajaaDoor
open Go.RowKit
theorem lnER_low {t : RS} {l : List Nat} (h : lowB l = true) : lnER t l = 5 := by unfold lnER; rw [if_pos h]
theorem lnER_nil (t : RS) : lnER t [] = 0 := rfl
theorem lnER_go {t : RS} {r : List Nat} (h : lowB (32 :: r) = false) : lnER t (32 :: r) = if (!t.o || decide (r = [])) = true then 5 else 0 := by
  unfold lnER
  rw [if_neg (by rw [h]; decide)]; rfl
theorem lnER_beg {t : RS} {c : Nat} {r : List Nat} (h : lowB (c :: r) = false) (hc : c ≠ 32) : lnER t (c :: r) = begER t (c :: r) := by
  unfold lnER
  rw [if_neg (by rw [h]; decide)]
  simp only
  rw [if_neg hc]
theorem lnSR_beg {t : RS} {c : Nat} {r : List Nat} (hc : c ≠ 32) : lnSR t (c :: r) = begSR t (c :: r) := by
  unfold lnSR begSR
  simp only
  rw [if_neg hc]
theorem lnSR_go (t : RS) (r : List Nat) : lnSR t (32 :: r) = ⟨setLast t.l (setLast (lastD t.l) (addV ((lastD t.l).getLastD ⟨mk [], mk []⟩) r)), t.o⟩ := rfl
theorem RdR.shut {w : World} {N r : Nat} {t : RS} (hR : RdR w N r t) (hr : r < N) : RdR (w.setCell ⟨r, 1, none⟩ (.bool false)) N r ⟨t.l, false⟩ := by
  obtain ⟨v, c0, hG⟩ := hR.g
  exact ⟨by rw [World.frozen?_setCell]; exact hR.f0, by rw [World.frozen?_setCell]; exact hR.f1, World.cell?_setCell_same' _ _ _ (by rw [hR.c1]; rfl), v, by rw [World.cell?_setCell_other _ _ _ _ (by simp)]; exact c0,
    hG.setCell rdFds_good (p := ⟨r, 1, none⟩) hr (by simp only; omega) (.bool false)⟩
set_option maxHeartbeats 4000000 in
theorem q5line_any (s : ByteArray) (t : RS) (N r : Nat) (w : World) (hs : s.size ≤ 65536) (hR : RdR w N r t) (hr : r < N) (hN : N ≤ w.heap.size) (hne : t.o = true → t.l ≠ [] ∧ lastD t.l ≠ []) (hl : t.l.length ≤ 200) (hll : (lastD t.l).length ≤ 40) (hv : ∀ f ∈ lastD t.l, f.v.size ≤ 200000) :
    Calls Tryd.prog 31 #[.pointer (some ⟨r, 0, none⟩), .string s] w fun e w' => e = .returned (.int .i64 (lnER t (B s))) ∧ (lnER t (B s) = 0 → RdR w' N r (lnSR t (B s))) ∧ Fr N r w w' := by
  have hlen := B_len s
  have KC := Lib.hid (fun w => q5clean_any s w (by unfold maxLen; omega))
  have KB := Lib.hid (q5begins_any s t N r w hs hR hr hN (fun h => (hne h).1) hl hll)
  have HR := Lib.hid hR
  have HNE := Lib.hid hne
  have HV := Lib.hid hv
  clear hR hne hv
  cases hlow : lowB (B s)
  · rw [hlow] at KC
    have em := emp_eq s
    by_cases h0 : B s = []
    · rw [decide_eq_true h0] at em
      have X := Lib.hid (show lnER t (B s) = 0 by rw [h0]; rfl)
      have X2 := Lib.hid (show lnSR t (B s) = ⟨t.l, false⟩ by rw [h0]; rfl)
      obtain ⟨f0, f1, c1, v, c0, hG⟩ := HR.out
      have RR := Lib.hid (HR.out.shut hr)
      have FF := Lib.hid ((Fr.refl N r w).set (p := ⟨r, 1, none⟩) (.inl rfl) (Nat.le_of_lt hr) (.bool false))
      clear h0 hlow hG
      go_enter Tryd.func31, Tryd.ntmps31
      go_wp2_with (go_at_call 45; (with_reducible refine (KC.out _).mono ?_); rintro e w' ⟨rfl, rfl⟩)
      go_ret
      exact ⟨by rw [X.out]; try rfl, fun _ => by rw [X2.out]; exact RR.out, FF.out⟩
    · rw [decide_eq_false h0] at em
      have hs0 : 0 < s.size := by
        rcases Nat.eq_zero_or_pos s.size with h | h
        · exact absurd (List.eq_nil_of_length_eq_zero (by rw [B_len]; exact h)) h0
        · exact h
      have hBc := B_drop s 0 hs0
      rw [List.drop_zero] at hBc
      have hb := byte_le s 0 hs0
      by_cases h32 : s[0].toNat = 32
      · have p1 : ((s[0].toNat : Int) != 32) = false := by rw [h32]; rfl
        rw [h32] at hBc
        have X := Lib.hid (show lnER t (B s) = if (!t.o || decide ((B s).drop (0 + 1) = [])) = true then 5 else 0 by
          conv => lhs; rw [hBc]
          exact lnER_go (by rw [← hBc]; exact hlow))
        have X2 := Lib.hid (show lnSR t (B s) = ⟨setLast t.l (setLast (lastD t.l) (addV ((lastD t.l).getLastD ⟨mk [], mk []⟩) ((B s).drop (0 + 1)))), t.o⟩ by
          conv => lhs; rw [hBc]
          exact lnSR_go _ _)
        clear h32 hBc h0 hlow
        skip
        cases ho : t.o
        · have X3 := Lib.hid (show lnER t (B s) = 5 by rw [X.out, ho]; rfl)
          obtain ⟨f0, f1, c1, v, c0, hG⟩ := HR.out
          rw [ho] at c1
          clear ho hG c0
          go_enter Tryd.func31, Tryd.ntmps31
          go_wp2_with (go_at_call 45; (with_reducible refine (KC.out _).mono ?_); rintro e w' ⟨rfl, rfl⟩)
          go_ret
          exact ⟨by rw [X3.out]; try rfl, fun h => absurd h (by rw [X3.out]; decide), Fr.refl _ _ _⟩
        · have hne := HNE.out ho
          obtain ⟨f0, f1, c1, v, c0, hG⟩ := HR.out
          rw [ho] at c1
          by_cases h1 : s.size = 1
          · have X3 := Lib.hid (show lnER t (B s) = 5 by
              rw [X.out, ho, List.drop_eq_nil_of_le (by rw [hlen]; omega)]; rfl)
            have q1 : ((s.size : Int) == 1) = true := by rw [h1]; rfl
            clear ho hG c0 h1 hne
            go_enter Tryd.func31, Tryd.ntmps31
            go_wp2_with (go_at_call 45; (with_reducible refine (KC.out _).mono ?_); rintro e w' ⟨rfl, rfl⟩)
            go_ret
            exact ⟨by rw [X3.out]; try rfl, fun h => absurd h (by rw [X3.out]; decide), Fr.refl _ _ _⟩
          · have X3 := Lib.hid (show lnER t (B s) = 0 by
              rw [X.out, ho, decide_eq_false (fun e => by have := congrArg List.length e; rw [List.length_drop, hlen] at this; simp only [List.length_nil] at this; omega)]; rfl)
            have q1 : ((s.size : Int) == 1) = false := by rw [beq_eq_false_iff_ne]; omega
            obtain ⟨fi, hi, hz0, hz1, hz2⟩ := info_parts fd_info
            obtain ⟨m, hmt⟩ : ∃ m, t.l.length = m + 1 := ⟨t.l.length - 1, by have := List.length_pos_iff.2 hne.1; omega⟩
            obtain ⟨p, hpt⟩ : ∃ p, (lastD t.l).length = p + 1 := ⟨(lastD t.l).length - 1, by have := List.length_pos_iff.2 hne.2; omega⟩
            obtain ⟨A, cp, rfl, hnc, hcm⟩ := hG.own
            have hcm' : cp ≤ 9223372036854775807 := hcm
            have hml : m < t.l.length := by omega
            obtain ⟨ad, A', c', hA, had, cm, hrl⟩ := (rdStzs_at (hG.read rdFds_good)).2.2.2 m hml
            subst hA
            have hla := lastD_at hmt
            rw [← hla] at cm hrl
            have hcl := (rdFds_at hrl).2.1
            have hcm2 : c' ≤ 9223372036854775807 := (rdFds_at hrl).2.2.1
            have w1m : IntKind.i64.wrap ((t.l.length : Int) - 1) = (m : Int) := by rw [hmt]; rw [IntWalk.i64_in _ (by omega)]; omega
            have i2 : (0 : Int) ≤ (m : Int) := by omega
            have i3 : (m : Int) < (t.l.length : Int) := by omega
            have w1p : IntKind.i64.wrap (((lastD t.l).length : Int) - 1) = (p : Int) := by rw [hpt]; rw [IntWalk.i64_in _ (by omega)]; omega
            have j2 : (0 : Int) ≤ (p : Int) := by omega
            have j3 : (p : Int) < ((lastD t.l).length : Int) := by omega
            have hpl : p < (lastD t.l).length := by omega
            have LG := Lib.hid (show (lastD t.l).getLastD ⟨mk [], mk []⟩ = (lastD t.l)[p] by
              rw [List.getLastD_eq_getLast?, List.getLast?_eq_getElem?, show (lastD t.l).length - 1 = p by omega, List.getElem?_eq_getElem hpl]; rfl)
            have SL := Lib.hid (fun y => (setLast_at (l := lastD t.l) hpt y))
            have HVP := Lib.hid (HV.out _ (List.getElem_mem hpl))
            have CM := Lib.hid (And.intro cm (And.intro (hG.frz m) (hG.spot).2.2.1))
            have HMT := Lib.hid hmt
            have AA := Lib.hid (apA hrl)
            have hm1 : ([] : List Fd).length + (lastD t.l).length ≤ maxLen := by simp only [List.length_nil]; unfold maxLen; omega
            have hm2 : (([] : List Fd).length + (lastD t.l).length) * 32 ≤ 140737488355328 := by simp only [List.length_nil]; omega
            have KS := Lib.hid (fun (W : World) (hb : Below w.heap.size w W) => (show W.cell? ⟨r, 0, none⟩ = some (.slice (some ad) t.l.length cp) ∧ W.cell? (ad.add m) = some (.slice A' (lastD t.l).length c') from
              ⟨(blk_of (hb.block r (by omega)) 0).1.trans c0, (World.cell?_of_block (w := w) (w' := W) (a := ad.add m) (by rw [blk_add]; exact hb.block _ CM.out.2.2)).trans cm⟩))
            have BL := Lib.hid hlen
            clear ho hG h1 hne hla hrl hmt hpt had hcm
            generalize hlast : lastD t.l = last at *
            have HLAST := Lib.hid hlast
            clear hlast
            go_enter Tryd.func31, Tryd.ntmps31
            go_wp2_with (go_at_call 45; (with_reducible refine (KC.out _).mono ?_); rintro e w' ⟨rfl, rfl⟩)
            first | (go_region_held3 (fun W => W.cell? ⟨r, 0, none⟩ = some (.slice (some ad) t.l.length cp) ∧ W.cell? (ad.add m) = some (.slice A' last.length c')) (first | go_keep | exact KS.out _ B3.out | exact KS.out _ AA.out.bel) ((refine step_growN _ rfl _ _ 38 38 rfl rdFd_good (by decide) (fun _ => True) w.heap.size 54 54 fi (.agg #[.string { data := #[] }, .string { data := #[] }]) 32 Tryd.underlying38 Tryd.underlying38 hi hz0 hz1 hz2 rfl _ _ rfl AA.out.g _ _ _ _ _ rfl AA.out.x AA.out.s hm1 hm2 AA.out.bs ?_; intro v3 w3 hG3 hg3 hm3; have B3 := Lib.hid (ap_next AA.out hG3 hg3).2; have G3 := Lib.hid hG3; clear hG3 hg3 hm3))) | fail
            have G3' : Grow rdFd 2 (fun _ => True) w3 w.heap.size 54 v3 last := G3.out
            obtain ⟨A3, c3, rfl, hnc3, hcm3⟩ := G3'.own
            have hcm3' : c3 ≤ 9223372036854775807 := hcm3
            obtain ⟨ad3, hA3, had3, x0, x1⟩ := (rdFds_at (G3'.read rdFd_good)).2.2.2 p hpl
            subst hA3
            obtain ⟨e0, hba, hbb, _, hfz⟩ := G3'.spot
            have fz : w3.frozen? ⟨(ad3.add (p * 2)).block, (ad3.add (p * 2)).off + 1, none⟩ = false := by rw [blk_add]; exact hfz _
            obtain ⟨y1, a1, q1', z1⟩ := add_out last[p].v { data := #[10] } 200000 1 HVP.out (by decide)
            obtain ⟨y2, a2, q2', z2⟩ := add_out y1 (s.extract 1 s.size) 200001 65536 z1 (by rw [ByteArray.size_extract]; omega)
            have hy : addV last[p] ((B s).drop (0 + 1)) = ⟨last[p].n, y2⟩ := by
              unfold addV
              congr 1
              refine (eq_mk ?_).symm
              rw [q2', q1', B_append, B_append, B_extract, List.take_of_length_le (by rw [List.length_drop, hlen]; exact Nat.le_refl _), List.append_assoc]; rfl
            have Y2 := Lib.hid hy
            obtain ⟨S1, S2⟩ := G3'.set rdFd_good hpl (j := 1) (by decide) (.string y2) ⟨last[p].n, y2⟩ (fun cs hcs => by rw [show cs = last[p].cells from hcs]; rfl)
            rw [← off2_add ad3 (p * 2) 1 (by omega), SL.out] at S1
            have S1' := Lib.hid S1
            have B4 := Lib.hid (B3.out.setCell (p := ⟨(ad3.add (p * 2)).block, (ad3.add (p * 2)).off + 1, none⟩) (by rw [blk_add]; exact hba) (.string y2))
            have i4 : (1 : Int) ≤ (s.size : Int) := by omega
            have KS3 := KS.out _ B3.out
            obtain ⟨k0, k1⟩ := KS3
            clear hy q1' q2' S1 S2 e0 hfz G3'
            go_wp2
            go_still_tail 17, (by kernel_rfl)
            go_wp2
            obtain ⟨W5, hW5⟩ : ∃ W5, W5 = (w3.setCell ⟨(ad3.add (p * 2)).block, (ad3.add (p * 2)).off + 1, none⟩ (.string y2)).drew := ⟨_, rfl⟩
            have hB5 : Below w.heap.size w W5 := by rw [hW5]; exact belD B4.out 1
            have hG5 : Grow rdFd 2 (fun _ => True) W5 w.heap.size 54 (.slice (some ad3) last.length c3) (setLast last ⟨last[p].n, y2⟩) := by rw [hW5]; exact S1'.out.below rdFd_good (belD (Below.refl _ _) 1)
            rw [← hW5]
            clear hW5 x0 x1 fz k0 k1 a1 a2
            obtain ⟨k0, k1⟩ := KS.out _ hB5
            have kf := (World.frozen?_of_block (w := w) (w' := W5) (a := ad.add m) (by rw [blk_add]; exact hB5.block _ CM.out.2.2)).trans CM.out.2.1
            have hrd : rdFds W5 (fun b => w.heap.size ≤ b ∧ b < W5.heap.size) (setLast last ⟨last[p].n, y2⟩) [.slice (some ad3) last.length c3] := by
              have h2 : Grow rdFd 2 (fun _ => False) W5 w.heap.size 54 (.slice (some ad3) last.length c3) (setLast last ⟨last[p].n, y2⟩) := hG5.flat fun _ _ _ _ _ h => h
              exact rdFds_good.more (h2.reads rdFd_good) fun b hb => ⟨hb.2.resolve_right id, hb.1⟩
            have FIN := Lib.hid (RdR.setlast HR.out hr hN c0 HMT.out hB5 hrd)
            clear hG5 hrd
            go_wp2
            go_still_tail 12, (by kernel_rfl)
            go_wp2
            go_ret
            exact ⟨by rw [X3.out]; try rfl, fun _ => by rw [X2.out, LG.out, Y2.out]; exact FIN.out.1.below (belD (Below.refl _ _) 1) (by have := hB5.size; simp; omega), FIN.out.2.drewN 1⟩
      · have p1 : ((s[0].toNat : Int) != 32) = true := by rw [bne_iff_ne]; omega
        have X := Lib.hid (show lnER t (B s) = begER t (B s) by rw [hBc]; exact lnER_beg (by rw [← hBc]; exact hlow) h32)
        have X2 := Lib.hid (show lnSR t (B s) = begSR t (B s) by rw [hBc]; exact lnSR_beg h32)
        clear h32 hBc h0 hlow
        generalize begER t (B s) = eb at *
        go_enter Tryd.func31, Tryd.ntmps31
        go_wp2_with (first | (go_at_call 45; (with_reducible refine (KC.out _).mono ?_); rintro e w' ⟨rfl, rfl⟩) | (go_at_call 46; (with_reducible refine KB.out.mono ?_); rintro e w' ⟨rfl, hz, hfr⟩))
        go_ret
        exact ⟨by rw [X.out]; try rfl, fun h => by rw [X2.out]; exact hz (by rw [← X.out]; exact h), hfr⟩
  · rw [hlow] at KC
    have X := Lib.hid (lnER_low (t := t) hlow)
    clear hlow
    go_enter Tryd.func31, Tryd.ntmps31
    go_wp2_with (go_at_call 45; (with_reducible refine (KC.out _).mono ?_); rintro e w' ⟨rfl, rfl⟩)
    go_ret
    exact ⟨by rw [X.out]; try rfl, fun h => absurd h (by rw [X.out]; decide), Fr.refl _ _ _⟩
end Go.Proofs.YtjfenheplkoajaaDoor
