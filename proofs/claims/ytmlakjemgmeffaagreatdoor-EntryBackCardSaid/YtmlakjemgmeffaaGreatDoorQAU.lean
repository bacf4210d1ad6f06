/- What the laws of this seat rest on: E6n, E6o, E6r, D4v. -/
import Derived.Test.YtmlakjemgmeffaaGreatDoorE6kY
import Derived.Test.YtmlakjemgmeffaaGreatDoorQAS
import Derived.Test.YtmlakjemgmeffaaGreatDoorQAO
import Derived.Test.YtmlakjemgmeffaaGreatDoorQAR

section
set_option maxRecDepth 100000
set_option linter.unusedVariables false
set_option linter.unusedSimpArgs false
namespace Go.Proofs.YtmlakjemgmeffaaGreatDoor
open Go.RowKit
theorem name_vis {n : List Nat} (h : nameB n = true) : ∀ c ∈ n, 33 ≤ c := by
  intro c hc
  unfold nameB at h
  simp only [Bool.and_eq_true, List.all_eq_true] at h
  have := h.2 c hc
  unfold nmcB plnB digB at this
  simp only [Bool.or_eq_true, decide_eq_true_eq] at this
  omega
theorem ch_vis {x : List Nat} {c : Nat} (h : chB x c = true) (hx : ∀ d ∈ x, 33 ≤ d) : 33 ≤ c := by
  unfold chB letB digB hasB at h
  simp only [Bool.or_eq_true, decide_eq_true_eq, List.contains_iff_mem] at h
  rcases h with h | h
  · omega
  · exact hx c h
theorem pr_vis {v : List Nat} (h : prB v = true) : ∀ c ∈ v, 33 ≤ c := by
  unfold prB at h
  simp only [Bool.and_eq_true, decide_eq_true_eq] at h
  intro c hc
  rw [← h.2] at hc
  unfold printL at hc
  split at hc
  · rename_i hr
    unfold rightB at hr
    simp only [Bool.and_eq_true, List.all_eq_true] at hr
    unfold textL at hc
    simp only [List.mem_append] at hc
    rcases hc with (hc | hc) | hc
    · split at hc
      · simp at hc
      · rcases List.mem_append.1 hc with hc | hc
        · have := decL_dig _ c hc
          unfold digB at this
          simp only [decide_eq_true_eq] at this
          omega
        · simp at hc; subst hc; omega
    · exact ch_vis (hr.1.1.2 c hc) (by unfold uX; simp)
    · split at hc
      · simp at hc
      · rcases List.mem_cons.1 hc with rfl | hc
        · omega
        · exact ch_vis (hr.1.2 c hc) (by unfold rX; simp)
  · simp at hc
theorem sign_vis (op : Int) : ∀ c ∈ signL op, 33 ≤ c := by
  intro c hc
  unfold signL at hc
  repeat' split at hc
  all_goals first | (simp at hc; done) | (simp at hc; omega)
theorem txt_vis {a : Atm} (h : rgt a = true) : (∀ c ∈ txt a, 32 ≤ c) ∧ hd32 (txt a) = false ∧ txt a ≠ [] := by
  unfold rgt rightA at h
  simp only [Bool.and_eq_true] at h
  have hn := name_vis h.1
  have hl : 2 ≤ (B a.n).length := by
    have := h.1
    unfold nameB at this
    simp only [Bool.and_eq_true, decide_eq_true_eq] at this
    exact this.1.1.1
  have hd : ∀ r, hd32 (B a.n ++ r) = false ∧ B a.n ++ r ≠ [] := by
    intro r
    cases hh : B a.n with
    | nil => rw [hh] at hl; simp at hl
    | cons c q =>
      refine ⟨?_, by simp⟩
      have := hn c (by rw [hh]; simp)
      show decide (c = 32) = false
      exact decide_eq_false (by omega)
  unfold txt textA
  split
  · refine ⟨fun c hc => by have := hn c hc; omega, ?_⟩
    have := hd []
    rw [List.append_nil] at this
    exact this
  · rename_i h0
    rw [if_neg h0] at h
    simp only [Bool.and_eq_true] at h
    have hv := pr_vis h.2.2
    have hs := sign_vis a.o
    refine ⟨fun c hc => ?_, ?_⟩
    · simp only [List.mem_append, List.mem_cons, List.not_mem_nil, or_false] at hc
      rcases hc with hc | rfl | rfl | hc | rfl | hc | rfl
      · exact Nat.le_trans (by decide) (hn c hc)
      · decide
      · decide
      · exact Nat.le_trans (by decide) (hs c hc)
      · decide
      · exact Nat.le_trans (by decide) (hv c hc)
      · decide
    · first | exact hd _ | (simp only [List.append_assoc]; exact hd _)
theorem joinL_vis {sep : List Nat} {l : List (List Nat)} (hs : ∀ c ∈ sep, 32 ≤ c) (hl : ∀ t ∈ l, ∀ c ∈ t, 32 ≤ c) : ∀ c ∈ joinL sep l, 32 ≤ c := by
  intro c hc
  rcases joinL_mem hc with h | ⟨t, ht, h⟩
  · exact hs c h
  · exact hl t ht c h
theorem hd_app {a b : List Nat} (ha : a ≠ []) : hd32 (a ++ b) = hd32 a := by
  cases a with
  | nil => exact absurd rfl ha
  | cons c r => rfl
theorem joinL_hd {sep : List Nat} : ∀ {l : List (List Nat)}, (∀ t ∈ l, hd32 t = false ∧ t ≠ []) → hd32 (joinL sep l) = false
  | [], _ => rfl
  | [x], h => (h x (by simp)).1
  | x :: y :: r, h => by
    show hd32 (x ++ (sep ++ joinL sep (y :: r))) = false
    rw [hd_app (h x (by simp)).2]; exact (h x (by simp)).1
theorem grpS_vis {g : List Atm} (h : rgtOne g = true) : (∀ c ∈ grpS g, 32 ≤ c) ∧ hd32 (grpS g) = false ∧ grpS g ≠ [] := by
  unfold rgtOne at h
  simp only [Bool.and_eq_true, decide_eq_true_eq, List.all_eq_true] at h
  have ht : ∀ t ∈ g.map txt, (∀ c ∈ t, 32 ≤ c) ∧ hd32 t = false ∧ t ≠ [] := fun t ht => by
    obtain ⟨a, ha, rfl⟩ := List.mem_map.1 ht
    exact txt_vis (h.2 a ha)
  refine ⟨joinL_vis (by decide) fun t h => (ht t h).1, joinL_hd fun t h => (ht t h).2, ?_⟩
  unfold grpS
  cases g with
  | nil => exact absurd h.1.1 (by decide)
  | cons a r =>
    obtain ⟨_, _, h3⟩ := ht (txt a) (by simp)
    cases r with
    | nil => exact h3
    | cons b r => intro hh; exact h3 (List.append_eq_nil_iff.1 hh).1
theorem prtG_vis (L : List (List Atm)) : (∀ c ∈ prtG L, 32 ≤ c) ∧ hd32 (prtG L) = false := by
  unfold prtG
  split
  · rename_i h
    unfold rightG at h
    simp only [Bool.and_eq_true, List.all_eq_true] at h
    have ht : ∀ t ∈ L.map grpS, (∀ c ∈ t, 32 ≤ c) ∧ hd32 t = false ∧ t ≠ [] := fun t ht => by
      obtain ⟨g, hg, rfl⟩ := List.mem_map.1 ht
      exact grpS_vis (h.2 g hg)
    exact ⟨joinL_vis (by decide) fun t h => (ht t h).1, joinL_hd fun t h => (ht t h).2⟩
  · exact ⟨fun c hc => by simp at hc, rfl⟩
theorem val_vis {v : List Nat} (h : ∀ c ∈ v, 32 ≤ c) (h2 : hd32 v = false) : valB v = true := by
  unfold valB
  rw [cutBy_none fun x hx => by have := h x hx; omega]
  rw [valL_cons, h2]
  have : lowB v = false := by
    unfold lowB
    rw [List.any_eq_false]
    intro c hc
    rw [decide_eq_true_eq]
    have := h c hc
    omega
  rw [this]; rfl
end Go.Proofs.YtmlakjemgmeffaaGreatDoor
end

section
set_option maxRecDepth 100000
set_option linter.unusedVariables false
set_option linter.unusedSimpArgs false
namespace Go.Proofs.YtmlakjemgmeffaaGreatDoor
open Go.RowKit
theorem hd_vis {v : List Nat} (h : ∀ c ∈ v, 33 ≤ c) : hd32 v = false := by
  cases v with
  | nil => rfl
  | cons c r =>
    have := h c (by simp)
    show decide (c = 32) = false
    exact decide_eq_false (by omega)
theorem val_33 {v : List Nat} (h : ∀ c ∈ v, 33 ≤ c) : valB v = true := val_vis (fun c hc => Nat.le_trans (by decide) (h c hc)) (hd_vis h)
theorem opt_all {n v : ByteArray} (h : fdR ⟨n, v⟩ = true) : (opt n v).all fdR = true := by
  unfold opt; split
  · rfl
  · rw [List.all_cons, h]; rfl
theorem noDup_wr (a b c d e f : ByteArray) : noDup [] (⟨nPk, a⟩ :: ⟨nVe, b⟩ :: (opt nDe c ++ (opt nRe d ++ (opt nCo e ++ (opt nPr f ++ []))))) = true := by
  have knPknVe : nPk ≠ nVe := by decide
  have knPknDe : nPk ≠ nDe := by decide
  have knPknRe : nPk ≠ nRe := by decide
  have knPknCo : nPk ≠ nCo := by decide
  have knPknPr : nPk ≠ nPr := by decide
  have knVenPk : nVe ≠ nPk := by decide
  have knVenDe : nVe ≠ nDe := by decide
  have knVenRe : nVe ≠ nRe := by decide
  have knVenCo : nVe ≠ nCo := by decide
  have knVenPr : nVe ≠ nPr := by decide
  have knDenPk : nDe ≠ nPk := by decide
  have knDenVe : nDe ≠ nVe := by decide
  have knDenRe : nDe ≠ nRe := by decide
  have knDenCo : nDe ≠ nCo := by decide
  have knDenPr : nDe ≠ nPr := by decide
  have knRenPk : nRe ≠ nPk := by decide
  have knRenVe : nRe ≠ nVe := by decide
  have knRenDe : nRe ≠ nDe := by decide
  have knRenCo : nRe ≠ nCo := by decide
  have knRenPr : nRe ≠ nPr := by decide
  have knConPk : nCo ≠ nPk := by decide
  have knConVe : nCo ≠ nVe := by decide
  have knConDe : nCo ≠ nDe := by decide
  have knConRe : nCo ≠ nRe := by decide
  have knConPr : nCo ≠ nPr := by decide
  have knPrnPk : nPr ≠ nPk := by decide
  have knPrnVe : nPr ≠ nVe := by decide
  have knPrnDe : nPr ≠ nDe := by decide
  have knPrnRe : nPr ≠ nRe := by decide
  have knPrnCo : nPr ≠ nCo := by decide
  unfold opt
  by_cases h1 : c.size = 0 <;> by_cases h2 : d.size = 0 <;> by_cases h3 : e.size = 0 <;> by_cases h4 : f.size = 0 <;> simp only [h1, h2, h3, h4, if_true, if_false, List.nil_append, List.singleton_append, List.append_nil, List.cons_append] <;> simp [noDup, getV, knPknVe, knPknDe, knPknRe, knPknCo, knPknPr, knVenPk, knVenDe, knVenRe, knVenCo, knVenPr, knDenPk, knDenVe, knDenRe, knDenCo, knDenPr, knRenPk, knRenVe, knRenDe, knRenCo, knRenPr, knConPk, knConVe, knConDe, knConRe, knConPr, knPrnPk, knPrnVe, knPrnDe, knPrnRe, knPrnCo]
theorem stz_wr (BK : ∀ L, B (mk (prtG L)) = prtG L) {x : Ent} (h : rgtE x = true) : stzR (wr4 x) = true := by
  obtain ⟨p1, p2, _⟩ := rgtE_parts h
  have e := wr4_list x []
  rw [List.append_nil] at e
  have hl := (wr_len x).2.2.2.2
  have h1 : 1 ≤ (wr4 x).length := by rw [e]; simp
  have hv : ∀ L n, fnB (B n) = true → (opt n (mk (prtG L))).all fdR = true := fun L n hn => opt_all (by
    show (fnB (B n) && valB (B (mk (prtG L)))) = true
    rw [hn, BK, val_vis (prtG_vis L).1 (prtG_vis L).2]; rfl)
  have ha : (wr4 x).all fdR = true := by
    rw [e]
    simp only [List.all_cons, List.all_append, List.all_nil, Bool.and_true]
    rw [hv _ _ (by kernel_rfl), hv _ _ (by kernel_rfl), hv _ _ (by kernel_rfl), hv _ _ (by kernel_rfl)]
    have f1 : fdR ⟨nPk, x.n⟩ = true := by
      show (fnB (B nPk) && valB (B x.n)) = true
      rw [val_33 (name_vis p1), show fnB (B nPk) = true by kernel_rfl]; rfl
    have f2 : fdR ⟨nVe, x.v⟩ = true := by
      show (fnB (B nVe) && valB (B x.v)) = true
      rw [val_33 (pr_vis p2), show fnB (B nVe) = true by kernel_rfl]; rfl
    rw [f1, f2]; rfl
  have hd : noDup [] (wr4 x) = true := by rw [e]; exact noDup_wr _ _ _ _ _ _
  unfold stzR
  rw [ha, hd, decide_eq_true h1, decide_eq_true (show (wr4 x).length ≤ 40 by omega)]; rfl
end Go.Proofs.YtmlakjemgmeffaaGreatDoor
end

section
set_option maxRecDepth 100000
set_option linter.unusedVariables false
set_option linter.unusedSimpArgs false
namespace Go.Proofs.YtmlakjemgmeffaaGreatDoor
open Go.RowKit
theorem vW_cons (f : Fd) (r : List Fd) : vW (f :: r) = f.v.size + vW r := by unfold vW; rw [List.map_cons, List.sum_cons]
theorem fst_sum : ∀ st : List Fd, (fstV st nPk).size + (fstV st nVe).size + (fstV st nDe).size + (fstV st nRe).size + (fstV st nCo).size + (fstV st nPr).size ≤ vW st
  | [] => Nat.le_refl 0
  | f :: r => by
    have ih := fst_sum r
    have knPknVe : nPk ≠ nVe := by decide
    have knPknDe : nPk ≠ nDe := by decide
    have knPknRe : nPk ≠ nRe := by decide
    have knPknCo : nPk ≠ nCo := by decide
    have knPknPr : nPk ≠ nPr := by decide
    have knVenPk : nVe ≠ nPk := by decide
    have knVenDe : nVe ≠ nDe := by decide
    have knVenRe : nVe ≠ nRe := by decide
    have knVenCo : nVe ≠ nCo := by decide
    have knVenPr : nVe ≠ nPr := by decide
    have knDenPk : nDe ≠ nPk := by decide
    have knDenVe : nDe ≠ nVe := by decide
    have knDenRe : nDe ≠ nRe := by decide
    have knDenCo : nDe ≠ nCo := by decide
    have knDenPr : nDe ≠ nPr := by decide
    have knRenPk : nRe ≠ nPk := by decide
    have knRenVe : nRe ≠ nVe := by decide
    have knRenDe : nRe ≠ nDe := by decide
    have knRenCo : nRe ≠ nCo := by decide
    have knRenPr : nRe ≠ nPr := by decide
    have knConPk : nCo ≠ nPk := by decide
    have knConVe : nCo ≠ nVe := by decide
    have knConDe : nCo ≠ nDe := by decide
    have knConRe : nCo ≠ nRe := by decide
    have knConPr : nCo ≠ nPr := by decide
    have knPrnPk : nPr ≠ nPk := by decide
    have knPrnVe : nPr ≠ nVe := by decide
    have knPrnDe : nPr ≠ nDe := by decide
    have knPrnRe : nPr ≠ nRe := by decide
    have knPrnCo : nPr ≠ nCo := by decide
    rw [vW_cons, fstV_cons, fstV_cons, fstV_cons, fstV_cons, fstV_cons, fstV_cons]
    by_cases h0 : f.n = nPk
    · rw [if_pos h0, if_neg (show ¬ f.n = nVe from fun e => knPknVe (h0.symm.trans e)), if_neg (show ¬ f.n = nDe from fun e => knPknDe (h0.symm.trans e)), if_neg (show ¬ f.n = nRe from fun e => knPknRe (h0.symm.trans e)), if_neg (show ¬ f.n = nCo from fun e => knPknCo (h0.symm.trans e)), if_neg (show ¬ f.n = nPr from fun e => knPknPr (h0.symm.trans e))]; omega
    by_cases h1 : f.n = nVe
    · rw [if_neg (show ¬ f.n = nPk from fun e => knVenPk (h1.symm.trans e)), if_pos h1, if_neg (show ¬ f.n = nDe from fun e => knVenDe (h1.symm.trans e)), if_neg (show ¬ f.n = nRe from fun e => knVenRe (h1.symm.trans e)), if_neg (show ¬ f.n = nCo from fun e => knVenCo (h1.symm.trans e)), if_neg (show ¬ f.n = nPr from fun e => knVenPr (h1.symm.trans e))]; omega
    by_cases h2 : f.n = nDe
    · rw [if_neg (show ¬ f.n = nPk from fun e => knDenPk (h2.symm.trans e)), if_neg (show ¬ f.n = nVe from fun e => knDenVe (h2.symm.trans e)), if_pos h2, if_neg (show ¬ f.n = nRe from fun e => knDenRe (h2.symm.trans e)), if_neg (show ¬ f.n = nCo from fun e => knDenCo (h2.symm.trans e)), if_neg (show ¬ f.n = nPr from fun e => knDenPr (h2.symm.trans e))]; omega
    by_cases h3 : f.n = nRe
    · rw [if_neg (show ¬ f.n = nPk from fun e => knRenPk (h3.symm.trans e)), if_neg (show ¬ f.n = nVe from fun e => knRenVe (h3.symm.trans e)), if_neg (show ¬ f.n = nDe from fun e => knRenDe (h3.symm.trans e)), if_pos h3, if_neg (show ¬ f.n = nCo from fun e => knRenCo (h3.symm.trans e)), if_neg (show ¬ f.n = nPr from fun e => knRenPr (h3.symm.trans e))]; omega
    by_cases h4 : f.n = nCo
    · rw [if_neg (show ¬ f.n = nPk from fun e => knConPk (h4.symm.trans e)), if_neg (show ¬ f.n = nVe from fun e => knConVe (h4.symm.trans e)), if_neg (show ¬ f.n = nDe from fun e => knConDe (h4.symm.trans e)), if_neg (show ¬ f.n = nRe from fun e => knConRe (h4.symm.trans e)), if_pos h4, if_neg (show ¬ f.n = nPr from fun e => knConPr (h4.symm.trans e))]; omega
    by_cases h5 : f.n = nPr
    · rw [if_neg (show ¬ f.n = nPk from fun e => knPrnPk (h5.symm.trans e)), if_neg (show ¬ f.n = nVe from fun e => knPrnVe (h5.symm.trans e)), if_neg (show ¬ f.n = nDe from fun e => knPrnDe (h5.symm.trans e)), if_neg (show ¬ f.n = nRe from fun e => knPrnRe (h5.symm.trans e)), if_neg (show ¬ f.n = nCo from fun e => knPrnCo (h5.symm.trans e)), if_pos h5]; omega
    rw [if_neg h0, if_neg h1, if_neg h2, if_neg h3, if_neg h4, if_neg h5]; omega
theorem fld_len6 {n v : ByteArray} (h : ∀ c ∈ B v, c ≠ 10) : (fldT ⟨n, v⟩).length ≤ n.size + v.size + 3 := by
  show (B n ++ 58 :: bodyT (cutBy 10 (B v))).length ≤ _
  have hj : (joinL [10, 32] [B v]).length = v.size := by show (B v).length = _; exact B_len v
  rw [cutBy_none h, body_join, List.length_append, List.length_cons, List.length_append, List.length_append, B_len, hj]
  split
  · simp only [List.length_nil, List.length_singleton]; omega
  · simp only [List.length_singleton]; omega
theorem stT_app (a b : List Fd) : stT (a ++ b) = stT a ++ stT b := by unfold stT; rw [List.map_append, List.flatten_append]
theorem stT_cons (f : Fd) (r : List Fd) : stT (f :: r) = fldT f ++ stT r := by unfold stT; rw [List.map_cons, List.flatten_cons]
theorem opt_len6 {n v : ByteArray} (h : ∀ c ∈ B v, c ≠ 10) : (stT (opt n v)).length ≤ n.size + v.size + 3 := by
  unfold opt
  split
  · exact Nat.zero_le _
  · rw [stT_cons, List.length_append]
    have := fld_len6 (n := n) h
    show _ + (stT []).length ≤ _
    show _ + 0 ≤ _
    omega
theorem wr4_len (BK : ∀ L, B (mk (prtG L)) = prtG L) {x : Ent} (h : rgtE x = true) : (stT (wr4 x)).length ≤ 66 + x.n.size + x.v.size + (prtG x.d).length + (prtG x.r).length + (prtG (x.c.map fun a => [a])).length + (prtG (x.p.map fun a => [a])).length := by
  obtain ⟨p1, p2, _⟩ := rgtE_parts h
  have e := wr4_list x []
  rw [List.append_nil] at e
  have hv : ∀ L, ∀ c ∈ B (mk (prtG L)), c ≠ 10 := fun L c hc => by rw [BK] at hc; have := (prtG_vis L).1 c hc; omega
  have a1 := fld_len6 (n := nPk) (v := x.n) fun c hc => by have := name_vis p1 c hc; omega
  have a2 := fld_len6 (n := nVe) (v := x.v) fun c hc => by have := pr_vis p2 c hc; omega
  have a3 := opt_len6 (n := nDe) (hv x.d)
  have a4 := opt_len6 (n := nRe) (hv x.r)
  have a5 := opt_len6 (n := nCo) (hv (x.c.map fun a => [a]))
  have a6 := opt_len6 (n := nPr) (hv (x.p.map fun a => [a]))
  rw [size_mk] at a3 a4 a5 a6
  have s1 : nPk.size = 7 := rfl
  have s2 : nVe.size = 7 := rfl
  have s3 : nDe.size = 7 := rfl
  have s4 : nRe.size = 10 := rfl
  have s5 : nCo.size = 9 := rfl
  have s6 : nPr.size = 8 := rfl
  have s7 : (stT []).length = 0 := rfl
  rw [e, stT_cons, stT_cons, stT_app, stT_app, stT_app, stT_app]
  simp only [List.length_append]
  omega
theorem rd_len6 (BK : ∀ L, B (mk (prtG L)) = prtG L) (AE : List Nat → Int) (AL : List Nat → List Atm) (JR : ∀ s : List Nat, AE s = 0 → (AL s).length ≤ 12 ∧ ∀ a ∈ AL s, rgt a = true) (JL : ∀ s : List Nat, (∀ c ∈ s, c < 256) → (prtG ((AL s).map fun a => [a])).length ≤ 5 * (s.length + 1))
    (st : List Fd) (h : (rdE AE AL st).1 = 0) : (stT (wr4 (rdE AE AL st).2)).length ≤ 5 * vW st + 86 := by
  have hr := rdE_right AE AL JR st h
  have hs := fst_sum st
  have e : (rdE AE AL st).2 = ⟨fstV st nPk, fstV st nVe, depL (B (fstV st nDe)), depL (B (fstV st nRe)), AL (B (fstV st nCo)), AL (B (fstV st nPr))⟩ := by
    unfold rdE at h ⊢
    repeat' split at h
    all_goals first | (exfalso; revert h; decide) | contradiction | skip
    all_goals simp_all
    all_goals first | (rw [if_neg (by omega)]; done) | (rw [if_neg (by omega)]; simp_all)
  have hw := wr4_len BK hr
  rw [e] at hw ⊢
  have d1 := prtG_depL (B_lt (fstV st nDe))
  have d2 := prtG_depL (B_lt (fstV st nRe))
  have d3 := JL _ (B_lt (fstV st nCo))
  have d4 := JL _ (B_lt (fstV st nPr))
  rw [B_len] at d1 d2 d3 d4
  simp only at hw
  omega
theorem goI_map {RD : List Fd → Int × Ent} : ∀ (L : List (List Fd)) (i : Nat) (out a : List Ent) (n : Int), goI RD L i out = (a, n, 0) → a = out ++ L.map (fun st => (RD st).2) ∧ ∀ st ∈ L, (RD st).1 = 0
  | [], i, out, a, n, h => by
    simp only [goI, Prod.mk.injEq] at h
    exact ⟨by rw [← h.1]; simp, by simp⟩
  | st :: r, i, out, a, n, h => by
    unfold goI at h
    by_cases h1 : (RD st).1 = 0
    · rw [if_neg (fun hh => hh h1)] at h
      by_cases h2 : thB out (RD st).2 = true
      · rw [if_pos h2] at h
        simp only [Prod.mk.injEq] at h
        exact absurd h.2.2 (by decide)
      · rw [if_neg h2] at h
        obtain ⟨b1, b2⟩ := goI_map r (i + 1) _ a n h
        refine ⟨by rw [b1]; simp, fun s hs => ?_⟩
        rcases List.mem_cons.1 hs with rfl | hs
        · exact h1
        · exact b2 s hs
    · rw [if_pos h1] at h
      simp only [Prod.mk.injEq] at h
      exact absurd h.2.2 h1
theorem txt_len6 (BK : ∀ L, B (mk (prtG L)) = prtG L) (AE : List Nat → Int) (AL : List Nat → List Atm) (JR : ∀ s : List Nat, AE s = 0 → (AL s).length ≤ 12 ∧ ∀ a ∈ AL s, rgt a = true) (JL : ∀ s : List Nat, (∀ c ∈ s, c < 256) → (prtG ((AL s).map fun a => [a])).length ≤ 5 * (s.length + 1))
    (L : List (List Fd)) (h : ∀ st ∈ L, (rdE AE AL st).1 = 0) : (txL (L.map fun st => wr4 (rdE AE AL st).2)).length ≤ 5 * dW L + 87 * L.length := by
  have key : ∀ L : List (List Fd), (∀ st ∈ L, (rdE AE AL st).1 = 0) → tot6 1 ((L.map fun st => wr4 (rdE AE AL st).2).map stT) ≤ 5 * dW L + 87 * L.length := by
    intro L
    induction L with
    | nil => exact fun _ => Nat.zero_le _
    | cons st r ih =>
      intro h
      have a := rd_len6 BK AE AL JR JL st (h st (by simp))
      have b := ih fun s hs => h s (by simp [hs])
      rw [List.map_cons, List.map_cons, tot6_cons]
      have : dW (st :: r) = vW st + dW r := by unfold dW; rw [List.map_cons, List.sum_cons]
      rw [this, List.length_cons]
      omega
  exact Nat.le_trans (joinL_tot6 [10] _) (key L h)
end Go.Proofs.YtmlakjemgmeffaaGreatDoor
end

section
set_option linter.unusedVariables false
namespace Go.Proofs.YtmlakjemgmeffaaGreatDoor
open Go.RowKit
theorem rightG_single {l : List Atm} (h12 : l.length ≤ 12) (hr : ∀ a ∈ l, rgt a = true) : rightG (l.map fun a => [a]) = true := by
  unfold rightG
  simp only [Bool.and_eq_true, decide_eq_true_eq, List.all_eq_true, List.length_map]
  refine ⟨h12, fun g hg => ?_⟩
  obtain ⟨a, ha, rfl⟩ := List.mem_map.1 hg
  unfold rgtOne
  simp [hr a ha]
theorem single_all (l : List Atm) : (l.map fun a => [a]).all oneB = true := by
  rw [List.all_eq_true]
  intro g hg
  obtain ⟨a, _, rfl⟩ := List.mem_map.1 hg
  rfl
theorem single_flat (l : List Atm) : (l.map fun a => [a]).flatten = l := by
  induction l with
  | nil => rfl
  | cons a l ih => rw [List.map_cons, List.flatten_cons, ih]; rfl
theorem join_ok {l : List Atm} (h12 : l.length ≤ 12) (hr : ∀ a ∈ l, rgt a = true) : atE (prtG (l.map fun a => [a])) = 0 ∧ atL (prtG (l.map fun a => [a])) = l := by
  obtain ⟨h1, h2⟩ := parse_prtG (rightG_single h12 hr)
  have h3 : (depL (prtG (l.map fun a => [a]))).all oneB = true := by rw [h2]; exact single_all l
  obtain ⟨h4, h5⟩ := atE_ok h1 h3
  exact ⟨h4, by rw [h5, h2, single_flat]⟩
end Go.Proofs.YtmlakjemgmeffaaGreatDoor
end
