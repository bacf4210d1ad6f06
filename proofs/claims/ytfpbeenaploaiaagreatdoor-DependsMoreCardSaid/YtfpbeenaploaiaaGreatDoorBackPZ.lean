/- What is printed of a right version is parsed as it: pure. -/
import Derived.Test.YtfpbeenaploaiaaGreatDoorM1
set_option linter.unusedSimpArgs false
namespace Go.Proofs.YtfpbeenaploaiaaGreatDoor
open Go.RowKit
theorem firstI_none : ∀ (l : List Nat) (n : Nat), (∀ c ∈ l, c ≠ 58) → firstI l n = none
  | [], _, _ => rfl
  | c :: l, n, h => by
    show (if c = 58 then some n else firstI l (n + 1)) = none
    rw [if_neg (h c (by simp))]
    exact firstI_none l _ (fun d hd => h d (by simp [hd]))
theorem firstI_at : ∀ (a b : List Nat) (n : Nat), (∀ c ∈ a, c ≠ 58) → firstI (a ++ 58 :: b) n = some (n + a.length)
  | [], b, n, _ => rfl
  | c :: a, b, n, h => by
    show (if c = 58 then some n else firstI (a ++ 58 :: b) (n + 1)) = _
    rw [if_neg (h c (by simp)), firstI_at a b _ (fun d hd => h d (by simp [hd])), List.length_cons]
    congr 1; omega
theorem lastI_none (u : List Nat) (h : ∀ c ∈ u, c ≠ 45) : ∀ n, n ≤ u.length → lastI u n = none
  | 0, _ => rfl
  | n + 1, hn => by
    show (if u.getD n 0 = 45 then some n else lastI u n) = none
    rw [if_neg, lastI_none u h n (by omega)]
    rw [List.getD_eq_getElem?_getD, List.getElem?_eq_getElem (show n < u.length by omega)]
    exact h _ (List.getElem_mem _)
theorem lastI_at (u r : List Nat) (h : ∀ c ∈ r, c ≠ 45) : ∀ k, k ≤ r.length → lastI (u ++ 45 :: r) (u.length + 1 + k) = some u.length
  | 0, _ => by
    show (if (u ++ 45 :: r).getD u.length 0 = 45 then some u.length else _) = _
    rw [if_pos]
    simp [List.getD_eq_getElem?_getD]
  | k + 1, hk => by
    show (if (u ++ 45 :: r).getD (u.length + 1 + k) 0 = 45 then some (u.length + 1 + k) else lastI (u ++ 45 :: r) (u.length + 1 + k)) = _
    rw [if_neg, lastI_at u r h k (by omega)]
    have e : (u ++ 45 :: r)[u.length + 1 + k]? = some (r[k]'(by omega)) := by
      rw [List.getElem?_append_right (by omega), show u.length + 1 + k - u.length = k + 1 by omega, List.getElem?_cons_succ, List.getElem?_eq_getElem (by omega)]
    rw [List.getD_eq_getElem?_getD, e]
    exact h _ (List.getElem_mem _)
theorem numF_dec : ∀ (f n : Nat) (l : List Nat), n < f → (decF f n l).foldl (fun n c => 10 * n + (c - 48)) 0 = l.foldl (fun n c => 10 * n + (c - 48)) n
  | 0, _, _, h => by omega
  | f + 1, n, l, h => by
    simp only [decF]
    split
    · simp only [List.foldl_cons]; congr 1; omega
    · rw [numF_dec f (n / 10) _ (by omega)]
      simp only [List.foldl_cons]; congr 1; omega
theorem numV_dec (n : Nat) : numV (decL n) = n := by unfold numV decL; rw [numF_dec _ _ _ (by omega)]; rfl
theorem decF_short : ∀ (f n k : Nat) (l : List Nat), n < 10 ^ (k + 1) → (decF f n l).length ≤ k + 1 + l.length
  | 0, _, _, l, _ => by simp only [decF]; omega
  | f + 1, n, k, l, h => by
    simp only [decF]
    split
    · simp; omega
    · match k with
      | 0 => simp at h; omega
      | k + 1 =>
        have := decF_short f (n / 10) k ((48 + n % 10) :: l) (by rw [Nat.pow_succ] at h; omega)
        simp at this; omega
theorem decF_dig2 : ∀ (f n : Nat) (l : List Nat), (∀ c ∈ l, digB c = true) → ∀ c ∈ decF f n l, digB c = true
  | 0, _, _, h => h
  | f + 1, n, l, h => by
    simp only [decF]
    split
    · intro c hc
      rcases List.mem_cons.1 hc with rfl | hc
      · simp only [digB, decide_eq_true_eq]; omega
      · exact h c hc
    · refine decF_dig2 f _ _ (fun c hc => ?_)
      rcases List.mem_cons.1 hc with rfl | hc
      · simp only [digB, decide_eq_true_eq]; omega
      · exact h c hc
theorem decF_ne2 : ∀ (f n : Nat) (l : List Nat), l ≠ [] → decF f n l ≠ []
  | 0, _, _, h => h
  | f + 1, n, l, h => by
    simp only [decF]
    split
    · simp
    · exact decF_ne2 f _ _ (by simp)
theorem decL_ne2 (n : Nat) : decL n ≠ [] := by
  unfold decL
  simp only [decF]
  split
  · simp
  · exact decF_ne2 _ _ _ (by simp)
theorem numL_dec (n : Nat) (h : n ≤ 999999999) : numL (decL n) = n := by
  unfold numL
  have h9 := decF_short (n + 1) n 8 [] (by omega)
  rw [if_pos ⟨decL_ne2 n, by simpa [decL] using h9, List.all_eq_true.2 (decF_dig2 _ _ _ (by simp)), by rw [numV_dec]⟩, numV_dec]
theorem colons {e : Int} {u r : List Nat} (h : rightB e u r = true) : colE (textL e.toNat u r) = e ∧ colU (textL e.toNat u r) = u ++ (if r = [] then [] else 45 :: r) := by
  obtain ⟨h0, h1⟩ := rightB_epoch h
  have h' := h
  unfold rightB at h'
  simp only [Bool.and_eq_true, Bool.not_eq_true', Bool.and_eq_false_iff] at h'
  obtain ⟨⟨⟨⟨⟨⟨_, _⟩, _⟩, h58⟩, hu⟩, hr⟩, _⟩ := h'
  by_cases he : e = 0
  · subst he
    have hu58 : ∀ c ∈ u, c ≠ 58 := by
      rintro c hc rfl
      rcases h58 with h58 | h58
      · unfold hasB at h58
        rw [Bool.eq_false_iff] at h58
        exact h58 (List.contains_iff_mem.2 hc)
      · exact absurd h58 (by decide)
    have hr58 : ∀ c ∈ r, c ≠ 58 := by
      rintro c hc rfl
      exact absurd (List.all_eq_true.1 hr 58 hc) (by decide)
    have e1 : textL (0 : Int).toNat u r = u ++ (if r = [] then [] else 45 :: r) := by unfold textL; rw [if_pos (show (0 : Int).toNat = 0 from rfl), List.nil_append]
    have hno : ∀ c ∈ u ++ (if r = [] then [] else 45 :: r), c ≠ 58 := by
      intro c hc
      rcases List.mem_append.1 hc with hc | hc
      · exact hu58 c hc
      · split at hc
        · cases hc
        · rcases List.mem_cons.1 hc with rfl | hc
          · decide
          · exact hr58 c hc
    rw [e1]
    unfold colE colU
    rw [firstI_none _ 0 hno]
    exact ⟨rfl, rfl⟩
  · have e1 : textL e.toNat u r = decL e.toNat ++ 58 :: (u ++ (if r = [] then [] else 45 :: r)) := by unfold textL; rw [if_neg (by omega)]; simp
    have hno : ∀ c ∈ decL e.toNat, c ≠ 58 := by
      rintro c hc rfl
      exact absurd (decF_dig2 _ _ _ (by simp) 58 hc) (by decide)
    rw [e1]
    unfold colE colU
    rw [firstI_at _ _ 0 hno]
    refine ⟨?_, ?_⟩
    · show numL (List.take (0 + (decL e.toNat).length) _) = e
      rw [Nat.zero_add, List.take_left, numL_dec _ (by omega)]; omega
    · show List.drop (0 + (decL e.toNat).length + 1) _ = _
      rw [Nat.zero_add, List.drop_length_add_append]; rfl
theorem dashes {e : Int} {u r : List Nat} (h : rightB e u r = true) : dashU (u ++ (if r = [] then [] else 45 :: r)) = u ∧ dashR (u ++ (if r = [] then [] else 45 :: r)) = r := by
  have h' := h
  unfold rightB at h'
  simp only [Bool.and_eq_true, Bool.not_eq_true', Bool.and_eq_false_iff] at h'
  obtain ⟨⟨⟨⟨⟨⟨_, _⟩, h45⟩, _⟩, hu⟩, hr⟩, _⟩ := h'
  have hr45 : ∀ c ∈ r, c ≠ 45 := by
    rintro c hc rfl
    exact absurd (List.all_eq_true.1 hr 45 hc) (by decide)
  by_cases hn : r = []
  · subst hn
    have hu45 : ∀ c ∈ u, c ≠ 45 := by
      rintro c hc rfl
      rcases h45 with h45 | h45
      · unfold hasB at h45
        rw [Bool.eq_false_iff] at h45
        exact h45 (List.contains_iff_mem.2 hc)
      · exact absurd h45 (by decide)
    rw [if_pos rfl, List.append_nil]
    unfold dashU dashR
    rw [lastI_none u hu45 _ (Nat.le_refl _)]
    exact ⟨rfl, rfl⟩
  · rw [if_neg hn]
    have hl : (u ++ 45 :: r).length = u.length + 1 + r.length := by simp; omega
    unfold dashU dashR
    rw [hl, lastI_at u r hr45 _ (Nat.le_refl _)]
    refine ⟨?_, ?_⟩
    · show List.take u.length _ = u
      exact List.take_left
    · show List.drop (u.length + 1) _ = r
      rw [List.drop_length_add_append]; rfl
theorem parse_print {e : Int} {u r : List Nat} (h : rightB e u r = true) :
    parseE (printL e u r) = 0 ∧ parse1 (printL e u r) = e ∧ parse2 (printL e u r) = u ∧ parse3 (printL e u r) = r ∧ (printL e u r).length ≤ 60 := by
  have hp : printL e u r = textL e.toNat u r := by unfold printL; rw [if_pos h]
  obtain ⟨c1, c2⟩ := colons h
  obtain ⟨d1, d2⟩ := dashes h
  have hs := rightB_size h
  rw [hp]
  have hb : parseB (textL e.toNat u r) = true := by unfold parseB; rw [c1, c2, d1, d2, h]; simp
  have he : parseE (textL e.toNat u r) = 0 := by unfold parseE; rw [if_neg (by omega), hb]; rfl
  refine ⟨he, ?_, ?_, ?_, hs⟩
  · unfold parse1; rw [if_pos he]; exact c1
  · unfold parse2; rw [if_pos he, c2]; exact d1
  · unfold parse3; rw [if_pos he, c2]; exact d2
/-- What was parsed is printed as the text, but for a nought ahead. -/
theorem print_parse {s : List Nat} (h : parseE s = 0) : printL (parse1 s) (parse2 s) (parse3 s) = s ∨ 48 :: 58 :: printL (parse1 s) (parse2 s) (parse3 s) = s := by
  have hb : parseB s = true := by
    unfold parseE at h
    split at h
    · cases h
    · split at h
      · assumption
      · cases h
  have h' := hb
  unfold parseB at h'
  simp only [Bool.and_eq_true, Bool.or_eq_true, decide_eq_true_eq] at h'
  unfold parse1 parse2 parse3
  rw [if_pos h, if_pos h, if_pos h]
  unfold printL
  rw [if_pos h'.1]
  exact h'.2
end Go.Proofs.YtfpbeenaploaiaaGreatDoor
