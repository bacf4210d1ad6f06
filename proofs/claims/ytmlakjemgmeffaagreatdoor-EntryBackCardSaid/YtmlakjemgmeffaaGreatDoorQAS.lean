/- What the laws of this seat rest on: E6l, E6p, E6q. -/
import Derived.Test.YtmlakjemgmeffaaGreatDoorE6kY
import Derived.Test.YtmlakjemgmeffaaGreatDoorQAH
import Derived.Test.YtmlakjemgmeffaaGreatDoorNP
import Derived.Test.YtmlakjemgmeffaaGreatDoorNA

section
set_option maxRecDepth 100000
set_option linter.unusedVariables false
set_option linter.unusedSimpArgs false
namespace Go.Proofs.YtmlakjemgmeffaaGreatDoor
open Go.RowKit
def goI (RD : List Fd → Int × Ent) : List (List Fd) → Nat → List Ent → List Ent × Int × Int
  | [], _, out => (out, 0, 0)
  | st :: r, i, out => if (RD st).1 ≠ 0 then ([], (i : Int) + 1, (RD st).1) else if thB out (RD st).2 = true then ([], (i : Int) + 1, 7) else goI RD r (i + 1) (out ++ [(RD st).2])
theorem okPk_le {l : List Ent} (h : okPk l l.length = true) {k : Nat} (hk : k ≤ l.length) : okPk l k = true := by
  cases hh : okPk l k
  · rw [okPk_stop hh l.length hk] at h; cases h
  · rfl
theorem okPk_at {l : List Ent} (h : okPk l l.length = true) {k : Nat} (hk : k < l.length) : rgtE l[k] = true ∧ thB (l.take k) l[k] = false := by
  have h1 := okPk_le h (show k + 1 ≤ l.length from hk)
  rw [okPk_step hk] at h1
  simp only [Bool.and_eq_true, Bool.not_eq_true'] at h1
  exact h1.2
theorem goI_wr {RD : List Fd → Int × Ent} (hR : ∀ x, rgtE x = true → RD (wrE x) = (0, x)) {l : List Ent} (h : okPk l l.length = true) : ∀ (n k : Nat), n + k = l.length → goI RD ((l.drop k).map wrE) k (l.take k) = (l, 0, 0)
  | 0, k, hn => by
    obtain rfl : k = l.length := by omega
    rw [List.drop_length, List.take_length]; rfl
  | n + 1, k, hn => by
    have hk : k < l.length := by omega
    obtain ⟨h1, h2⟩ := okPk_at h hk
    rw [List.drop_eq_getElem_cons hk, List.map_cons]
    show (if (RD (wrE l[k])).1 ≠ 0 then _ else if thB (l.take k) (RD (wrE l[k])).2 = true then _ else goI RD ((l.drop (k + 1)).map wrE) (k + 1) (l.take k ++ [(RD (wrE l[k])).2])) = _
    rw [hR _ h1, if_neg (fun hh => hh rfl), if_neg (by rw [h2]; exact Bool.false_ne_true)]
    show goI RD ((l.drop (k + 1)).map wrE) (k + 1) (l.take k ++ [l[k]]) = _
    rw [← List.take_succ_eq_append_getElem hk]
    exact goI_wr hR h n (k + 1) (by omega)
theorem okPk_app (l y : List Ent) : ∀ k, k ≤ l.length → okPk (l ++ y) k = okPk l k
  | 0, _ => rfl
  | k + 1, hk => by
    have h1 : k < l.length := by omega
    rw [okPk_step h1, okPk_step (l := l ++ y) (by rw [List.length_append]; omega), okPk_app l y k (by omega), List.getElem_append_left h1, List.take_append_of_le_length (by omega)]
theorem okPk_snoc (l : List Ent) (x : Ent) : okPk (l ++ [x]) (l ++ [x]).length = (okPk l l.length && (rgtE x && !thB l x)) := by
  have h1 : (l ++ [x]).length = l.length + 1 := by simp
  rw [h1, okPk_step (by rw [h1]; omega), okPk_app l [x] l.length (Nat.le_refl _)]
  simp
theorem goI_ok {RD : List Fd → Int × Ent} (hR : ∀ st, (RD st).1 = 0 → rgtE (RD st).2 = true) : ∀ (L : List (List Fd)) (i : Nat) (out : List Ent) (a : List Ent) (n e : Int), okPk out out.length = true → goI RD L i out = (a, n, e) → (e = 0 → n = 0 ∧ okPk a a.length = true ∧ a.length = out.length + L.length) ∧ (e ≠ 0 → a = [])
  | [], i, out, a, n, e, ho, h => by
    simp only [goI, Prod.mk.injEq] at h
    obtain ⟨rfl, rfl, rfl⟩ := h
    exact ⟨fun _ => ⟨rfl, ho, rfl⟩, fun h => absurd rfl h⟩
  | st :: r, i, out, a, n, e, ho, h => by
    unfold goI at h
    by_cases h1 : (RD st).1 = 0
    · rw [if_neg (fun hh => hh h1)] at h
      by_cases h2 : thB out (RD st).2 = true
      · rw [if_pos h2] at h
        simp only [Prod.mk.injEq] at h
        obtain ⟨rfl, rfl, rfl⟩ := h
        exact ⟨fun h => absurd h (by decide), fun _ => rfl⟩
      · rw [if_neg h2] at h
        have h3 : thB out (RD st).2 = false := by cases hh : thB out (RD st).2; rfl; exact absurd hh h2
        have := goI_ok hR r (i + 1) (out ++ [(RD st).2]) a n e (by rw [okPk_snoc, ho, hR st h1, h3]; rfl) h
        refine ⟨fun he => ?_, this.2⟩
        obtain ⟨b1, b2, b3⟩ := this.1 he
        exact ⟨b1, b2, by rw [b3, List.length_append]; simp; omega⟩
    · rw [if_pos h1] at h
      simp only [Prod.mk.injEq] at h
      obtain ⟨rfl, rfl, rfl⟩ := h
      exact ⟨fun h => absurd h h1, fun _ => rfl⟩
theorem rdE_right (AE : List Nat → Int) (AL : List Nat → List Atm) (JR : ∀ s : List Nat, AE s = 0 → (AL s).length ≤ 12 ∧ ∀ a ∈ AL s, rgt a = true) (st : List Fd) (h : (rdE AE AL st).1 = 0) : rgtE (rdE AE AL st).2 = true := by
  unfold rdE at h ⊢
  by_cases g1 : getV st nPk = false ∨ getV st nVe = false
  · rw [if_pos g1] at h; exact absurd h (by decide)
  rw [if_neg g1] at h ⊢
  by_cases g2 : nameB (B (fstV st nPk)) = false
  · rw [if_pos g2] at h; exact absurd h (by decide)
  rw [if_neg g2] at h ⊢
  by_cases g3 : prB (B (fstV st nVe)) = false
  · rw [if_pos g3] at h; exact absurd h (by decide)
  rw [if_neg g3] at h ⊢
  by_cases g4 : depE (B (fstV st nDe)) ≠ 0
  · rw [if_pos g4] at h; exact absurd h g4
  rw [if_neg g4] at h ⊢
  by_cases g5 : depE (B (fstV st nRe)) ≠ 0
  · rw [if_pos g5] at h; exact absurd h g5
  rw [if_neg g5] at h ⊢
  by_cases g6 : AE (B (fstV st nCo)) ≠ 0
  · rw [if_pos g6] at h; exact absurd h g6
  rw [if_neg g6] at h ⊢
  by_cases g7 : AE (B (fstV st nPr)) ≠ 0
  · rw [if_pos g7] at h; exact absurd h g7
  rw [if_neg g7] at h ⊢
  by_cases g8 : 8 < (AL (B (fstV st nPr))).length
  · rw [if_pos g8] at h; exact absurd h (by decide)
  rw [if_neg g8] at h ⊢
  by_cases g9 : givs6 (AL (B (fstV st nPr))) = false
  · rw [if_pos g9] at h; exact absurd h (by decide)
  rw [if_neg g9]
  have j1 := JR _ (Decidable.not_not.1 g6)
  have j2 := JR _ (Decidable.not_not.1 g7)
  have d1 := right_of_parse (B_lt (fstV st nDe)) (Decidable.not_not.1 g4)
  have d2 := right_of_parse (B_lt (fstV st nRe)) (Decidable.not_not.1 g5)
  rw [Bool.not_eq_false] at g2 g3 g9
  unfold rgtE
  simp only [Bool.and_eq_true, decide_eq_true_eq, List.all_eq_true]
  exact ⟨g2, g3, d1, d2, j1.2, j2.2, g9, j1.1, by omega⟩
end Go.Proofs.YtmlakjemgmeffaaGreatDoor
end

section
set_option maxRecDepth 100000
set_option linter.unusedVariables false
set_option linter.unusedSimpArgs false
namespace Go.Proofs.YtmlakjemgmeffaaGreatDoor
open Go.RowKit
def tot6 (k : Nat) (L : List (List Nat)) : Nat := (L.map fun p => p.length + k).sum
theorem tot6_cons (k : Nat) (p : List Nat) (L : List (List Nat)) : tot6 k (p :: L) = p.length + k + tot6 k L := by unfold tot6; rw [List.map_cons, List.sum_cons]
theorem tot6_preH (x : Nat) {L : List (List Nat)} (h : L ≠ []) : tot6 1 (preH [x] L) = tot6 1 L + 1 := by
  cases L with
  | nil => exact absurd rfl h
  | cons q r =>
    show tot6 1 (([x] ++ q) :: r) = _
    rw [tot6_cons, tot6_cons, List.length_append, List.length_singleton]; omega
theorem tot6_cut (c : Nat) : ∀ t : List Nat, tot6 1 (cutBy c t) = t.length + 1
  | [] => rfl
  | x :: l => by
    unfold cutBy
    split
    · rw [tot6_cons, tot6_cut c l, List.length_nil, List.length_cons]; omega
    · rw [tot6_preH x (cutBy_ne c l), tot6_cut c l, List.length_cons]
theorem joinL_tot6 (sep : List Nat) : ∀ ts : List (List Nat), (joinL sep ts).length ≤ tot6 sep.length ts
  | [] => Nat.zero_le _
  | [x] => by rw [tot6_cons]; show x.length ≤ _; omega
  | x :: y :: r => by
    have := joinL_tot6 sep (y :: r)
    rw [tot6_cons]
    show (x ++ (sep ++ joinL sep (y :: r))).length ≤ _
    rw [List.length_append, List.length_append]; omega
theorem tot6_mono (a b : Nat) (f : List Nat → List Nat) : ∀ L : List (List Nat), (∀ q ∈ L, (f q).length + a ≤ b * (q.length + 1)) → tot6 a (L.map f) ≤ b * tot6 1 L
  | [], _ => Nat.zero_le _
  | q :: L, h => by
    have h1 := h q (by simp)
    have h2 := tot6_mono a b f L fun p hp => h p (by simp [hp])
    rw [List.map_cons, tot6_cons, tot6_cons, Nat.mul_add]; omega
theorem trm_le6 (l : List Nat) : (trm l).length ≤ l.length := by
  unfold trm trmR
  have h1 := ((List.dropWhile_sublist (fun c => c == 32) (l := (l.reverse.dropWhile (fun c => c == 32)).reverse))).length_le
  have h2 := ((List.dropWhile_sublist (fun c => c == 32) (l := l.reverse))).length_le
  rw [List.length_reverse] at h1 h2
  omega
theorem txt_same {p : List Nat} (hp : ∀ c ∈ p, c < 256) (h : relE p = 0) : txt (atmOf p) = p := by
  have := (text_of_rel h).2
  unfold txt atmOf
  have hn : ∀ c ∈ relN p, c < 256 := fun c hc => by
    unfold relN at hc; rw [if_pos h] at hc; exact hp c (cutN_mem hc)
  have hv : ∀ c ∈ relV p, c < 256 := fun c hc => by
    unfold relV at hc; rw [if_pos h] at hc
    split at hc
    · exact hp c (cutR_mem (inL_mem (cutR_mem hc)))
    · simp at hc
  simp only [B_mk hn, B_mk hv]
  exact this
theorem grp_len6 {p : List Nat} (hp : ∀ c ∈ p, c < 256) (h : ∀ q ∈ grpT p, relE q = 0) : (grpS ((grpT p).map atmOf)).length + 2 ≤ 5 * (p.length + 1) := by
  have e : ((grpT p).map atmOf).map txt = grpT p := by
    rw [List.map_map]
    refine (List.map_congr_left fun q hq => ?_).trans (List.map_id _)
    have hq' := hq
    unfold grpT at hq'
    obtain ⟨q', hq2, rfl⟩ := List.mem_map.1 hq'
    exact txt_same (fun c hc => hp c (cutBy_mem hq2 c (trm_mem hc)).1) (h _ hq)
  have h1 : (grpS ((grpT p).map atmOf)).length ≤ tot6 3 (grpT p) := by
    unfold grpS
    rw [e]; exact joinL_tot6 [32, 124, 32] _
  have h2 : tot6 3 (grpT p) ≤ 3 * tot6 1 (cutBy 124 p) := tot6_mono 3 3 trm _ fun q _ => by have := trm_le6 q; omega
  rw [tot6_cut] at h2
  omega
theorem prtG_depL {t : List Nat} (ht : ∀ c ∈ t, c < 256) : (prtG (depL t)).length ≤ 5 * (t.length + 1) := by
  by_cases h0 : t = []
  · subst h0; exact Nat.zero_le _
  by_cases h : depE t = 0
  · have hd : depL t = (fld t).map fun g => g.map atmOf := by unfold depL; rw [if_neg h0, if_pos h]
    have he : errF (fld t).flatten = 0 := by
      unfold depE at h
      rw [if_neg h0] at h
      split at h
      · contradiction
      · exact h
    unfold prtG
    split
    · have h1 := joinL_tot6 [44, 32] ((depL t).map grpS)
      have h2 : tot6 2 ((depL t).map grpS) ≤ 5 * tot6 1 (cutBy 44 t) := by
        have e : (depL t).map grpS = (cutBy 44 t).map fun p => grpS ((grpT p).map atmOf) := by
          rw [hd]; unfold fld; rw [List.map_map, List.map_map]; rfl
        rw [e]
        refine tot6_mono 2 5 _ _ fun p hp => grp_len6 (fun c hc => ht c (cutBy_mem hp c hc).1) fun q hq => errF_mem he q (List.mem_flatten.2 ⟨grpT p, ?_, hq⟩)
        unfold fld
        exact List.mem_map.2 ⟨p, hp, rfl⟩
      rw [tot6_cut] at h2
      exact Nat.le_trans h1 h2
    · exact Nat.zero_le _
  · rw [depL_bad h]; exact Nat.zero_le _
end Go.Proofs.YtmlakjemgmeffaaGreatDoor
end

section
set_option maxRecDepth 100000
set_option linter.unusedVariables false
set_option linter.unusedSimpArgs false
namespace Go.Proofs.YtmlakjemgmeffaaGreatDoor
open Go.RowKit
def vW (st : List Fd) : Nat := (st.map fun f => f.v.size).sum
def dW (L : List (List Fd)) : Nat := (L.map vW).sum
def oW (op : List Opn) : Nat := (op.map fun f => (joinL [10] f.2).length).sum
def psW (s : PS) : Nat := dW s.dn + oW s.op
theorem vW_cl (op : List Opn) : vW (op.map clF) = oW op := by
  unfold vW oW
  rw [List.map_map]
  congr 1
  refine List.map_congr_left fun f _ => ?_
  show (mk (joinL [10] f.2)).size = _
  rw [size_mk]
theorem fin_W (s : PS) : psW s.fin = psW s := by
  unfold PS.fin
  split
  · rfl
  · unfold psW dW
    rw [List.map_append, List.sum_append, List.map_singleton, List.sum_singleton, vW_cl]
    show _ + oW [] = _
    show _ + 0 = _
    omega
theorem onLast_W (x : List Nat) : ∀ op : List Opn, oW (onLast x op) ≤ oW op + (x.length + 1)
  | [] => by unfold onLast; exact Nat.le_add_right _ _
  | [f] => by
    unfold onLast oW
    simp only [List.map_cons, List.map_nil, List.sum_cons, List.sum_nil, joinL_snoc]
    split
    · omega
    · simp only [List.length_append, List.length_singleton]; omega
  | f :: g :: r => by
    have := onLast_W x (g :: r)
    unfold onLast
    unfold oW at this ⊢
    rw [List.map_cons, List.sum_cons, List.map_cons, List.sum_cons]
    omega
theorem vl_len (l : List Nat) : (vlOf l).length ≤ l.length := by
  unfold vlOf
  have h1 := (List.dropWhile_sublist (fun c => c == 32) (l := l.drop ((nmOf l).length + 1))).length_le
  rw [List.length_drop] at h1
  omega
theorem lnS_W (s : PS) (l : List Nat) : psW (lnS s l) ≤ psW s + l.length := by
  cases l with
  | nil => show psW s.fin ≤ _; rw [fin_W]; exact Nat.le_add_right _ _
  | cons c r =>
    show psW (if c = 32 then ⟨s.dn, onLast r s.op⟩ else ⟨s.dn, s.op ++ [(mk (nmOf (c :: r)), [vlOf (c :: r)])]⟩) ≤ _
    split
    · have := onLast_W r s.op
      unfold psW
      rw [List.length_cons]
      show dW s.dn + oW (onLast r s.op) ≤ _
      omega
    · have := vl_len (c :: r)
      unfold psW oW
      show dW s.dn + ((s.op ++ [(mk (nmOf (c :: r)), [vlOf (c :: r)])]).map fun f => (joinL [10] f.2).length).sum ≤ _
      rw [List.map_append, List.sum_append, List.map_singleton, List.sum_singleton]
      show dW s.dn + (_ + (vlOf (c :: r)).length) ≤ _
      omega
theorem rnS_W : ∀ (ls : List (List Nat)) (s : PS), psW (rnS s ls) ≤ psW s + (ls.map List.length).sum
  | [], s => Nat.le_add_right _ _
  | l :: r, s => by
    have h1 := rnS_W r (lnS s l)
    have h2 := lnS_W s l
    rw [List.map_cons, List.sum_cons]
    show psW (rnS (lnS s l) r) ≤ _
    omega
theorem cut_lens (c : Nat) (t : List Nat) : ((cutBy c t).map List.length).sum ≤ t.length := by
  have h := tot6_cut c t
  have hne := cutBy_ne c t
  have key : ∀ L : List (List Nat), tot6 1 L = (L.map List.length).sum + L.length := by
    intro L
    induction L with
    | nil => rfl
    | cons p r ih => rw [tot6_cons, ih, List.map_cons, List.sum_cons, List.length_cons]; omega
  rw [key] at h
  have := List.length_pos_iff.2 hne
  omega
theorem stL_W (t : List Nat) : dW (stL t) ≤ t.length := by
  unfold stL
  split
  · have h1 := rnS_W (cutBy 10 t) ps0
    have h2 := cut_lens 10 t
    have h3 := fin_W (rnS ps0 (cutBy 10 t))
    have h4 : psW ps0 = 0 := rfl
    have h5 : dW (rnS ps0 (cutBy 10 t)).fin.dn ≤ psW (rnS ps0 (cutBy 10 t)).fin := Nat.le_add_right _ _
    omega
  · exact Nat.zero_le _
end Go.Proofs.YtmlakjemgmeffaaGreatDoor
end
