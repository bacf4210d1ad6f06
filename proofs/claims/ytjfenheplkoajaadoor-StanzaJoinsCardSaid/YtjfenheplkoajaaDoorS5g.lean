/- The contract of the document's own Parse of stanzas. -/
import Derived.Test.YtjfenheplkoajaaDoorS5f
set_option maxRecDepth 100000
set_option linter.unusedVariables false
set_option linter.unusedSimpArgs false
namespace Go.Proofs.YtjfenheplkoajaaDoor
open Go.RowKit
theorem mk_size (l : List Nat) : (mk l).size = l.length := by unfold mk ByteArray.size; simp
/-- No stanza has more than 40 fields, no value more than c bytes. -/
def SzR (t : RS) (c : Nat) : Prop := ∀ st ∈ t.l, st.length ≤ 40 ∧ ∀ f ∈ st, f.v.size ≤ c
theorem lastD_mem {l : List (List Fd)} (h : l ≠ []) : lastD l ∈ l := by
  rcases List.eq_nil_or_concat l with rfl | ⟨i, z, rfl⟩
  · exact absurd rfl h
  · rw [List.concat_eq_append]; unfold lastD; simp
theorem mem_setLast {α : Type} {l : List α} {x y : α} (h : y ∈ setLast l x) : y ∈ l ∨ y = x := by
  unfold setLast at h
  rw [List.mem_append, List.mem_singleton] at h
  exact h.imp (fun h => List.dropLast_subset _ h) id
theorem len_setLast {α : Type} {l : List α} (h : l ≠ []) (x : α) : (setLast l x).length = l.length := by
  unfold setLast
  have := List.length_pos_iff.2 h
  simp; omega
theorem sz_fd (l : List Nat) : (fdOf l).v.size ≤ l.length := by
  show (mk (vlOf l)).size ≤ _
  rw [mk_size]
  unfold vlOf
  refine Nat.le_trans (List.dropWhile_sublist _).length_le ?_
  rw [List.length_drop]; omega
theorem sz_line {t : RS} {l : List Nat} {c : Nat} (h : SzR t c) (ho : t.o = true → t.l ≠ [] ∧ lastD t.l ≠ []) (h0 : lnER t l = 0) : SzR (lnSR t l) (c + (l.length + 1)) := by
  have up : ∀ st ∈ t.l, st.length ≤ 40 ∧ ∀ f ∈ st, f.v.size ≤ c + (l.length + 1) := fun st hst => ⟨(h st hst).1, fun f hf => Nat.le_trans ((h st hst).2 f hf) (by omega)⟩
  cases l with
  | nil => exact up
  | cons b r =>
    unfold lnER at h0
    split at h0
    · cases h0
    · unfold lnSR
      simp only at h0 ⊢
      split at h0
      · rename_i hc
        rw [if_pos hc]
        split at h0
        · cases h0
        · rename_i hg
          simp only [Bool.or_eq_true, Bool.not_eq_true', decide_eq_true_eq] at hg
          have hto : t.o = true := by
            cases hh : t.o
            · exact absurd (.inl hh) hg
            · rfl
          obtain ⟨h1, h2⟩ := ho hto
          intro st hst
          rcases mem_setLast hst with hst | rfl
          · exact up st hst
          · obtain ⟨u1, u2⟩ := up _ (lastD_mem h1)
            refine ⟨by rw [len_setLast h2]; exact u1, fun f hf => ?_⟩
            rcases mem_setLast hf with hf | rfl
            · exact u2 f hf
            · have hm : (lastD t.l).getLastD ⟨mk [], mk []⟩ ∈ lastD t.l := by
                rcases List.eq_nil_or_concat (lastD t.l) with e | ⟨i, z, e⟩
                · exact absurd e h2
                · rw [e, List.concat_eq_append]; simp
              have := (h _ (lastD_mem h1)).2 _ hm
              show (mk _).size ≤ _
              rw [mk_size, List.length_append, B_len, List.length_cons]
              simp only [List.length_cons]
              omega
      · rename_i hc
        rw [if_neg hc]
        have hf := sz_fd (b :: r)
        by_cases hto : t.o = true
        · rw [if_pos hto]
          obtain ⟨h1, h2⟩ := ho hto
          have h40 : (lastD t.l).length < 40 := by
            unfold begER at h0
            split at h0
            · split at h0
              · cases h0
              · split at h0
                · cases h0
                · omega
            · cases h0
          intro st hst
          rcases mem_setLast hst with hst | rfl
          · exact up st hst
          · refine ⟨by simp; omega, fun f hff => ?_⟩
            rw [List.mem_append, List.mem_singleton] at hff
            rcases hff with hff | rfl
            · exact (up _ (lastD_mem h1)).2 f hff
            · omega
        · rw [if_neg hto]
          intro st hst
          simp only [List.mem_append, List.mem_singleton] at hst
          rcases hst with hst | rfl
          · exact up st hst
          · exact ⟨by simp, fun f hff => by rw [List.mem_singleton.1 hff]; omega⟩
def sumL (L : List (List Nat)) : Nat := (L.map fun l => l.length + 1).sum
theorem sumL_cons (l : List Nat) (r : List (List Nat)) : sumL (l :: r) = (l.length + 1) + sumL r := by unfold sumL; simp
theorem sumL_cut (c : Nat) : ∀ l : List Nat, sumL (cutBy c l) = l.length + 1
  | [] => rfl
  | x :: l => by
    have ih := sumL_cut c l
    unfold cutBy
    split
    · rw [sumL_cons, ih, List.length_cons, show ([] : List Nat).length = 0 from rfl]; omega
    · cases hL : cutBy c l with
      | nil => exact absurd hL (cutBy_ne _ _)
      | cons q r =>
        rw [hL, sumL_cons] at ih
        show sumL (([x] ++ q) :: r) = _
        rw [sumL_cons]
        rw [List.length_append, List.length_cons, List.length_cons, show ([] : List Nat).length = 0 from rfl]
        omega
theorem twin_open {p : PS} {t : RS} (hF : Fit p) (hT : Twin p t) : t.l.length ≤ 200 ∧ (t.o = true → t.l ≠ [] ∧ lastD t.l ≠ []) := by
  obtain ⟨h1, h2⟩ := hT
  refine ⟨by rw [h1]; exact fin_len p hF, fun ho => ?_⟩
  rw [h2] at ho
  have hne : p.op ≠ [] := by simpa using ho
  have e : p.fin.dn = p.dn ++ [p.op.map clF] := by unfold PS.fin; rw [if_neg hne]
  rw [h1, e]
  refine ⟨by simp, ?_⟩
  unfold lastD
  simp [hne]
theorem rnER_ok {s : RS} {l : List Nat} (h0 : lnER s l = 0) (r : List (List Nat)) : rnER s (l :: r) = rnER (lnSR s l) r := by
  show (if lnER s l = 0 then rnER (lnSR s l) r else lnER s l) = _
  rw [if_pos h0]
theorem rnER_no {s : RS} {l : List Nat} (h0 : lnER s l ≠ 0) (r : List (List Nat)) : rnER s (l :: r) = lnER s l := by
  show (if lnER s l = 0 then rnER (lnSR s l) r else lnER s l) = _
  rw [if_neg h0]
theorem rnNR_ok {s : RS} {l : List Nat} (h0 : lnER s l = 0) (k : Nat) (r : List (List Nat)) : rnNR s k (l :: r) = rnNR (lnSR s l) (k + 1) r := by
  show (if lnER s l = 0 then rnNR (lnSR s l) (k + 1) r else k + 1) = _
  rw [if_pos h0]
theorem rnNR_no {s : RS} {l : List Nat} (h0 : lnER s l ≠ 0) (k : Nat) (r : List (List Nat)) : rnNR s k (l :: r) = k + 1 := by
  show (if lnER s l = 0 then rnNR (lnSR s l) (k + 1) r else k + 1) = _
  rw [if_neg h0]
set_option maxHeartbeats 4000000 in
theorem q5parse_any (s : ByteArray) (w : World) (hs : s.size ≤ maxLen) :
    Calls Tryd.prog 11 #[.string s] w fun e w' => (∃ v, e = .returned (.tuple #[v, .int .i64 (stN (B s)), .int .i64 (stE (B s))]) ∧ rdStzs w' (lt_ w'.heap.size) (stL (B s)) [v]) ∧ Below w.heap.size w w' := by
  unfold maxLen at hs
  have hlen := B_len s
  by_cases hbig : 60000 < s.size
  · have p0 : (60000 : Int) < (s.size : Int) := by omega
    have X1 := Lib.hid (show stE (B s) = 9 by unfold stE; rw [if_pos (by rw [hlen]; exact hbig)])
    have X2 := Lib.hid (show stN (B s) = 0 by unfold stN; rw [if_pos (by rw [hlen]; exact hbig)])
    have X3 := Lib.hid (show stL (B s) = [] by unfold stL; rw [if_neg (by rw [X1.out]; decide)])
    clear hbig
    go_enter Tryd.func11, Tryd.ntmps11
    go_wp2
    go_ret3
    exact ⟨⟨_, by rw [X1.out, X2.out]; rfl, by rw [X3.out]; exact rdRow_nil _ _⟩, Below.refl _ _⟩
  · have p0 : ¬ (60000 : Int) < (s.size : Int) := by omega
    have XE := Lib.hid (show stE (B s) = rnE ps0 (cutBy 10 (B s)) by unfold stE; rw [if_neg (by rw [hlen]; exact hbig)])
    have XN := Lib.hid (show stN (B s) = rnN ps0 0 (cutBy 10 (B s)) by unfold stN; rw [if_neg (by rw [hlen]; exact hbig)])
    obtain ⟨tw1, tw2, tw3⟩ := twin_run (cutBy 10 (B s)) ps0 ⟨[], false⟩ 0 (fun l hl c hc => B_lt s c (cutBy_mem hl c hc).1) fit0 twin0
    have XL := Lib.hid (show stE (B s) = 0 → stL (B s) = (rnSR ⟨[], false⟩ (cutBy 10 (B s))).l from fun h => by
      unfold stL; rw [if_pos h, tw3 (by rw [← XE.out]; exact h)])
    have XL0 := Lib.hid (show stE (B s) ≠ 0 → stL (B s) = [] from fun h => by unfold stL; rw [if_neg h])
    have hsum := sumL_cut 10 (B s)
    have hb256 := Lib.hid (fun l (hl : l ∈ cutBy 10 (B s)) c hc => B_lt s c (cutBy_mem hl c hc).1)
    rw [← tw1] at XE
    rw [← tw2] at XN
    rw [hlen] at hsum
    have KL := Lib.hid (fun w => q5lines_any s w (by omega))
    clear tw1 tw2 tw3 hbig
    generalize stE (B s) = ee at *
    generalize stN (B s) = nn at *
    generalize stL (B s) = ll at *
    generalize cutBy 10 (B s) = L at *
    go_enter Tryd.func11, Tryd.ntmps11
    go_wp2_with fail
    refine (KL.out _).mono ?_
    rintro e w2 ⟨⟨A, n, cp, rfl, hrd⟩, hb2⟩
    obtain ⟨rfl, hnc, hcm, _⟩ := rdStrs_at hrd
    have hcm' : cp ≤ 9223372036854775807 := hcm
    have hz2 := hb2.size
    rw [World.size_alloc] at hz2
    have HB2 := Lib.hid (((Below.refl w.heap.size w).alloc (Nat.le_refl _) (Obj.cells #[Value.slice none 0 0, Value.bool false] 62)).trans (hb2.mono (by simp)))
    have hRR : RdR w2 w2.heap.size w.heap.size ⟨[], false⟩ := by
      obtain ⟨a0, a1⟩ := blk_of (hb2.block w.heap.size (by simp)) 0
      obtain ⟨a2, a3⟩ := blk_of (hb2.block w.heap.size (by simp)) 1
      exact ⟨a1.trans (by simp [go_sem]), a3.trans (by simp [go_sem]), a2.trans (by simp [go_sem]), _, a0.trans (by simp [go_sem]), Grow.nil _ _ _ _⟩
    have HRD := Lib.hid (rdStrs_good.more hrd (S' := fun b => w.heap.size < b ∧ b < w2.heap.size) fun b hb => ⟨by have := hb.1; rw [World.size_alloc] at this; omega, hb.2⟩)
    have HR0 := Lib.hid hRR
    clear hrd hb2 hRR hcm
    go_wp2
    go_loopw [7, 8] (fun i _ wr => ∃ (k c : Nat) (p : PS) (t : RS), k ≤ L.length ∧ i = .int .i64 k ∧ Fit p ∧ Twin p t ∧ SzR t c ∧ c + sumL (L.drop k) ≤ 60001 ∧ rnER ⟨[], false⟩ L = rnER t (L.drop k) ∧ rnNR ⟨[], false⟩ 0 L = rnNR t k (L.drop k) ∧ rnSR ⟨[], false⟩ L = rnSR t (L.drop k) ∧
      RdR wr w2.heap.size w.heap.size t ∧ Fr w2.heap.size w.heap.size w2 wr) (fun i _ _ => L.length - (intOf i).toNat)
    case atStart => exact ⟨0, 0, ps0, ⟨[], false⟩, Nat.zero_le _, rfl, fit0, twin0, fun st hst => by simp at hst, by rw [List.drop_zero]; omega, rfl, rfl, rfl, HR0.out, Fr.refl _ _ _⟩
    case round =>
      obtain ⟨k, c, p, t, hk, rfl, hF, hT, hZ, hc, h1, h2, h3, hR, hfr⟩ := hrel
      have hzr := hfr.bel.size
      have H1 := Lib.hid h1
      have H2 := Lib.hid h2
      have H3 := Lib.hid h3
      have HF := Lib.hid hF
      have HT := Lib.hid hT
      have HZ := Lib.hid hZ
      have HR := Lib.hid hR
      have HFR := Lib.hid hfr
      obtain ⟨o1, o2⟩ := twin_open hF hT
      have O2 := Lib.hid o2
      clear h1 h2 h3 hF hT hZ hR hfr o2
      by_cases hlt : k < L.length
      · have hst := rdStrs_good.keep HRD.out (w' := wr) (fun b hb => HFR.out.mid b hb.1 hb.2)
        obtain ⟨_, _, _, hat⟩ := rdStrs_at hst
        obtain ⟨ad, x, rfl, had, hcx, hBx⟩ := hat k hlt
        have hdr := List.drop_eq_getElem_cons hlt
        have DR := Lib.hid hdr
        rw [hdr, sumL_cons] at hc
        have hxs : x.size ≤ 65536 := by rw [← B_len, hBx]; omega
        have KX := Lib.hid (q5line_any x t w2.heap.size w.heap.size wr hxs HR.out (by omega) hzr (fun h => O2.out h) o1 (by
            by_cases hn : t.l = []
            · rw [hn]; simp [lastD]
            · exact (HZ.out _ (lastD_mem hn)).1) (by
            by_cases hn : t.l = []
            · rw [hn]; simp [lastD]
            · exact fun f hf => Nat.le_trans ((HZ.out _ (lastD_mem hn)).2 f hf) (by omega)))
        rw [hBx] at KX
        have HX := Lib.hid hBx
        have HTE := Lib.hid (twin_err HF.out HT.out L[k])
        have hmem := List.getElem_mem hlt
        have HMM := Lib.hid hmem
        clear hst hat hdr hBx hmem
        by_cases h0 : lnER t L[k] = 0
        · have q0 : (lnER t L[k] != 0) = false := by rw [h0]; rfl
          have E0 := Lib.hid h0
          have F2 := Lib.hid (fit_line HF.out (by rw [← HTE.out]; exact h0))
          have T2 := Lib.hid (twin_line (hb256.out _ HMM.out) HF.out HT.out (by rw [← HTE.out]; exact h0))
          have Z2 := Lib.hid (sz_line HZ.out (fun h => O2.out h) h0)
          have S1 := Lib.hid (show rnER ⟨[], false⟩ L = rnER (lnSR t L[k]) (L.drop (k + 1)) by rw [H1.out, DR.out, rnER_ok h0])
          have S2 := Lib.hid (show rnNR ⟨[], false⟩ 0 L = rnNR (lnSR t L[k]) (k + 1) (L.drop (k + 1)) by rw [H2.out, DR.out, rnNR_ok h0])
          have S3 := Lib.hid (show rnSR ⟨[], false⟩ L = rnSR (lnSR t L[k]) (L.drop (k + 1)) by rw [H3.out, DR.out]; rfl)
          have LL := Lib.hid (show L[k].length = L[k].length from rfl)
          clear h0
          generalize hle : lnER t L[k] = le at *
          have HLE := Lib.hid hle
          clear hle
          go_wp2_with (go_at_call 31; (with_reducible refine KX.out.mono ?_); rintro e w3 ⟨rfl, hz, hfr⟩)
          go_roundw
          case rel => exact ⟨k + 1, c + (L[k].length + 1), _, _, by omega, by go_num, F2.out, T2.out, Z2.out, by omega, S1.out, S2.out, S3.out, hz E0.out, HFR.out.trans hfr⟩
          case measure => simp [intOf]; omega
        · have q0 : (lnER t L[k] != 0) = true := by rw [bne_iff_ne]; exact h0
          have S1 := Lib.hid (show ee = lnER t L[k] by rw [XE.out, H1.out, DR.out, rnER_no h0])
          have S2 := Lib.hid (show nn = k + 1 by rw [XN.out, H2.out, DR.out, rnNR_no h0])
          have S3 := Lib.hid (show ll = [] from XL0.out (by rw [S1.out]; exact h0))
          clear h0
          generalize lnER t L[k] = le at *
          go_wp2_with (go_at_call 31; (with_reducible refine KX.out.mono ?_); rintro e w3 ⟨rfl, hz, hfr⟩)
          go_ret3
          exact ⟨⟨_, by rw [S1.out, S2.out]; rfl, by rw [S3.out]; exact rdRow_nil _ _⟩, HB2.out.trans (HFR.out.trans hfr).bel⟩
      · obtain rfl : k = L.length := by omega
        have S1 := Lib.hid (show ee = 0 by rw [XE.out, H1.out, List.drop_length]; rfl)
        have S2 := Lib.hid (show nn = 0 by rw [XN.out, H2.out, List.drop_length]; rfl)
        have S3 := Lib.hid (show ll = t.l by rw [XL.out S1.out, H3.out, List.drop_length]; rfl)
        obtain ⟨v, c0, hG⟩ := HR.out.g
        have GR := Lib.hid (hG.read rdFds_good)
        clear hG
        go_wp2
        go_ret3
        exact ⟨⟨_, by rw [S1.out, S2.out]; rfl, by rw [S3.out]; exact GR.out⟩, HB2.out.trans HFR.out.bel⟩
end Go.Proofs.YtjfenheplkoajaaDoor
