/- Names, signs and atoms as plain functions; what is printed is read as it, and back (pure). -/
import Derived.Test.YtlelajcnfmmmjaaGreatDoorRefOrder
set_option maxRecDepth 100000
namespace Go.Proofs.YtlelajcnfmmmjaaGreatDoor
open Go.RowKit
def plnB (c : Nat) : Bool := decide (97 ≤ c ∧ c ≤ 122) || digB c
def nmcB (c : Nat) : Bool := plnB c || decide (c = 43) || decide (c = 45) || decide (c = 46)
def nameB (l : List Nat) : Bool := decide (2 ≤ l.length) && decide (l.length ≤ 40) && plnB (l.getD 0 0) && l.all nmcB
def signL (op : Int) : List Nat := if op = 1 then [60, 60] else if op = 2 then [60, 61] else if op = 3 then [61] else if op = 4 then [62, 61] else if op = 5 then [62, 62] else []
def opI (l : List Nat) : Int := if l = [60, 60] then 1 else if l = [60, 61] then 2 else if l = [61] then 3 else if l = [62, 61] then 4 else if l = [62, 62] then 5 else 0
/-- Whether a text is that of a right version, as it is printed. -/
def prB (l : List Nat) : Bool := decide (parseE l = 0) && decide (printL (parse1 l) (parse2 l) (parse3 l) = l)
def rightA (n : List Nat) (op : Int) (v : List Nat) : Bool := nameB n && (if op = 0 then decide (v = []) else decide (1 ≤ op ∧ op ≤ 5) && prB v)
def textA (n : List Nat) (op : Int) (v : List Nat) : List Nat := if op = 0 then n else n ++ 32 :: 40 :: (signL op ++ 32 :: (v ++ [41]))
def printA (n : List Nat) (op : Int) (v : List Nat) : List Nat := if rightA n op v = true then textA n op v else []
def cutN (l : List Nat) : List Nat := l.takeWhile (fun c => c != 32)
def cutR (l : List Nat) : List Nat := (l.dropWhile (fun c => c != 32)).drop 1
def cutH (l : List Nat) : Bool := l.any (fun c => c == 32)
def inL (r : List Nat) : List Nat := (r.drop 1).dropLast
def formB (r : List Nat) : Bool := decide (2 ≤ r.length) && decide (r.getD 0 0 = 40) && decide (r.getD (r.length - 1) 0 = 41) && (cutH (inL r) && decide (opI (cutN (inL r)) ≠ 0))
def verL (r : List Nat) : List Nat := cutR (inL r)
def relE (s : List Nat) : Int := if nameB (cutN s) = true then (if cutH s = true then (if formB (cutR s) = true then (if prB (verL (cutR s)) = true then 0 else 4) else 5) else 0) else 3
def relN (s : List Nat) : List Nat := if relE s = 0 then cutN s else []
def relO (s : List Nat) : Int := if relE s = 0 then (if cutH s = true then opI (cutN (inL (cutR s))) else 0) else 0
def relV (s : List Nat) : List Nat := if relE s = 0 then (if cutH s = true then verL (cutR s) else []) else []
/-- What Parse hands back. -/
def relVal (s : ByteArray) : Value := .tuple #[.agg #[.string (mk (relN (B s))), .int .i64 (relO (B s)), .string (mk (relV (B s)))], .int .i64 (relE (B s))]
theorem cut_at {n r : List Nat} (h : ∀ c ∈ n, c ≠ 32) : cutN (n ++ 32 :: r) = n ∧ cutR (n ++ 32 :: r) = r ∧ cutH (n ++ 32 :: r) = true := by
  induction n with
  | nil => exact ⟨by simp [cutN], by simp [cutR], by simp [cutH]⟩
  | cons c n ih =>
    obtain ⟨a, b, d⟩ := ih (fun x hx => h x (by simp [hx]))
    have hc : (c != 32) = true := by rw [bne_iff_ne]; exact h c (by simp)
    refine ⟨?_, ?_, by simp [cutH]⟩
    · show (List.takeWhile _ (c :: (n ++ 32 :: r))) = _
      rw [List.takeWhile_cons, if_pos hc]
      exact congrArg (c :: ·) a
    · show (List.dropWhile _ (c :: (n ++ 32 :: r))).drop 1 = _
      rw [List.dropWhile_cons, if_pos hc]
      exact b
theorem cut_no {l : List Nat} (h : ∀ c ∈ l, c ≠ 32) : cutN l = l ∧ cutR l = [] ∧ cutH l = false := by
  induction l with
  | nil => exact ⟨rfl, rfl, rfl⟩
  | cons c l ih =>
    obtain ⟨a, b, d⟩ := ih (fun x hx => h x (by simp [hx]))
    have hc : (c != 32) = true := by rw [bne_iff_ne]; exact h c (by simp)
    have hc2 : (c == 32) = false := by rw [beq_eq_false_iff_ne]; exact h c (by simp)
    refine ⟨?_, ?_, ?_⟩
    · show (List.takeWhile _ (c :: l)) = _
      rw [List.takeWhile_cons, if_pos hc]
      exact congrArg (c :: ·) a
    · show (List.dropWhile _ (c :: l)).drop 1 = _
      rw [List.dropWhile_cons, if_pos hc]
      exact b
    · show (List.any (c :: l) _) = _
      rw [List.any_cons, hc2, Bool.false_or]
      exact d
theorem cut_back : ∀ {l : List Nat}, cutH l = true → l = cutN l ++ 32 :: cutR l
  | [], h => by simp [cutH] at h
  | c :: l, h => by
    by_cases hc : c = 32
    · subst hc; simp [cutN, cutR]
    · have h1 : (c == 32) = false := by rw [beq_eq_false_iff_ne]; exact hc
      have h2 : (c != 32) = true := by rw [bne_iff_ne]; exact hc
      have h3 : cutH l = true := by
        have : (List.any (c :: l) fun c => c == 32) = true := h
        rw [List.any_cons, h1, Bool.false_or] at this
        exact this
      have ih := cut_back h3
      show c :: l = List.takeWhile _ (c :: l) ++ 32 :: (List.dropWhile _ (c :: l)).drop 1
      rw [List.takeWhile_cons, List.dropWhile_cons, if_pos h2, if_pos h2]
      exact congrArg (c :: ·) ih
theorem cutN_no (l : List Nat) : ∀ c ∈ cutN l, c ≠ 32 := by
  induction l with
  | nil => intro c hc; cases hc
  | cons d l ih =>
    intro c hc
    unfold cutN at hc
    rw [List.takeWhile_cons] at hc
    split at hc
    · rename_i h
      rcases List.mem_cons.1 hc with rfl | hc
      · rwa [bne_iff_ne] at h
      · exact ih c hc
    · cases hc
theorem cutH_no {l : List Nat} (h : cutH l = false) : ∀ c ∈ l, c ≠ 32 := by
  intro c hc e
  subst e
  have : cutH l = true := List.any_eq_true.2 ⟨32, hc, rfl⟩
  rw [h] at this; cases this
theorem cutN_len (l : List Nat) : (cutN l).length ≤ l.length := List.Sublist.length_le (List.takeWhile_sublist _)
theorem cutR_len (l : List Nat) : (cutR l).length ≤ l.length := by
  unfold cutR
  rw [List.length_drop]
  have := List.Sublist.length_le (List.dropWhile_sublist (fun c => c != 32) (l := l))
  omega
theorem cutN_mem {l : List Nat} {c : Nat} (h : c ∈ cutN l) : c ∈ l := (List.takeWhile_sublist _).subset h
theorem cutR_mem {l : List Nat} {c : Nat} (h : c ∈ cutR l) : c ∈ l := (List.dropWhile_sublist _).subset (List.mem_of_mem_drop h)
theorem inL_mem {l : List Nat} {c : Nat} (h : c ∈ inL l) : c ∈ l := List.mem_of_mem_drop ((List.dropLast_sublist _).subset h)
theorem inL_of (m : List Nat) (a b : Nat) : inL (a :: (m ++ [b])) = m := by simp [inL]
theorem form_is {r : List Nat} (h : 2 ≤ r.length) (h0 : r.getD 0 0 = 40) (h1 : r.getD (r.length - 1) 0 = 41) : r = 40 :: (inL r ++ [41]) := by
  rcases r with _ | ⟨a, r⟩
  · simp at h
  · simp only [List.getD_cons_zero] at h0
    subst h0
    have hr : r ≠ [] := by rintro rfl; simp at h
    have hl : r.getLast hr = 41 := by
      rw [List.getLast_eq_getElem]
      have e : (40 :: r).length - 1 = (r.length - 1) + 1 := by have := List.length_pos_iff.2 hr; simp; omega
      rw [e, List.getD_cons_succ, List.getD_eq_getElem?_getD, List.getElem?_eq_getElem (by have := List.length_pos_iff.2 hr; omega)] at h1
      exact h1
    show 40 :: r = 40 :: (r.dropLast ++ [41])
    congr 1
    rw [← hl]
    exact (List.dropLast_concat_getLast hr).symm
theorem op_sign (op : Int) (h : 1 ≤ op ∧ op ≤ 5) : opI (signL op) = op ∧ ∀ c ∈ signL op, c ≠ 32 := by
  have : op = 1 ∨ op = 2 ∨ op = 3 ∨ op = 4 ∨ op = 5 := by omega
  rcases this with rfl | rfl | rfl | rfl | rfl <;> exact ⟨by decide, by decide⟩
theorem sign_op {l : List Nat} (h : opI l ≠ 0) : signL (opI l) = l ∧ 1 ≤ opI l ∧ opI l ≤ 5 := by
  unfold opI at *
  split at h
  · rename_i e; rw [if_pos e, e]; decide
  · rename_i e1
    rw [if_neg e1]
    split at h
    · rename_i e; rw [if_pos e, e]; decide
    · rename_i e2
      rw [if_neg e2]
      split at h
      · rename_i e; rw [if_pos e, e]; decide
      · rename_i e3
        rw [if_neg e3]
        split at h
        · rename_i e; rw [if_pos e, e]; decide
        · rename_i e4
          rw [if_neg e4]
          split at h
          · rename_i e; rw [if_pos e, e]; decide
          · exact absurd rfl h
theorem opI_is (l : List Nat) : 0 ≤ opI l ∧ opI l ≤ 5 := by
  unfold opI
  split
  · decide
  · split
    · decide
    · split
      · decide
      · split
        · decide
        · split <;> decide
theorem name_no {n : List Nat} (h : nameB n = true) : ∀ c ∈ n, c ≠ 32 := by
  unfold nameB at h
  simp only [Bool.and_eq_true] at h
  intro c hc e
  subst e
  have := List.all_eq_true.1 h.2 32 hc
  revert this; decide
theorem name_len {n : List Nat} (h : nameB n = true) : 2 ≤ n.length ∧ n.length ≤ 40 := by
  unfold nameB at h
  simp only [Bool.and_eq_true, decide_eq_true_eq] at h
  exact h.1.1
theorem pr_len {v : List Nat} (h : prB v = true) : v.length ≤ 60 := by
  unfold prB at h
  simp only [Bool.and_eq_true, decide_eq_true_eq] at h
  exact parseE_len h.1
/-- What is printed is read as it. -/
theorem rel_of_text {n v : List Nat} {op : Int} (h : rightA n op v = true) : relE (textA n op v) = 0 ∧ relN (textA n op v) = n ∧ relO (textA n op v) = op ∧ relV (textA n op v) = v := by
  unfold rightA at h
  simp only [Bool.and_eq_true] at h
  obtain ⟨hn, h⟩ := h
  unfold textA
  by_cases h0 : op = 0
  · rw [if_pos h0] at h ⊢
    obtain ⟨c0, c1, c2⟩ := cut_no (name_no hn)
    have hE : relE n = 0 := by unfold relE; rw [c0, if_pos hn, c2, if_neg (by decide)]
    refine ⟨hE, ?_, ?_, ?_⟩
    · unfold relN; rw [if_pos hE, c0]
    · unfold relO; rw [if_pos hE, c2, if_neg (by decide), h0]
    · unfold relV; rw [if_pos hE, c2, if_neg (by decide)]; exact (of_decide_eq_true h).symm
  · rw [if_neg h0] at h ⊢
    simp only [Bool.and_eq_true, decide_eq_true_eq] at h
    obtain ⟨ho, hv⟩ := h
    obtain ⟨so, sn⟩ := op_sign op ho
    obtain ⟨c0, c1, c2⟩ := cut_at (r := 40 :: (signL op ++ 32 :: (v ++ [41]))) (name_no hn)
    have hin : inL (40 :: (signL op ++ 32 :: (v ++ [41]))) = signL op ++ 32 :: v := by
      rw [show (40 : Nat) :: (signL op ++ 32 :: (v ++ [41])) = 40 :: ((signL op ++ 32 :: v) ++ [41]) by simp]
      exact inL_of _ _ _
    obtain ⟨d0, d1, d2⟩ := cut_at (r := v) sn
    have hver : verL (40 :: (signL op ++ 32 :: (v ++ [41]))) = v := by unfold verL; rw [hin, d1]
    have hF : formB (40 :: (signL op ++ 32 :: (v ++ [41]))) = true := by
      unfold formB
      rw [hin, d0, d2, so]
      have e1 : (40 :: (signL op ++ 32 :: (v ++ [41]))).getD ((40 :: (signL op ++ 32 :: (v ++ [41]))).length - 1) 0 = 41 := by
        rw [show (40 : Nat) :: (signL op ++ 32 :: (v ++ [41])) = (40 :: (signL op ++ 32 :: v)) ++ [41] by simp, List.length_append]
        simp [List.getD_eq_getElem?_getD]
      simp only [e1, List.getD_cons_zero, decide_true, Bool.true_and, Bool.and_true, Bool.and_eq_true, decide_eq_true_eq]
      exact ⟨by simp; omega, by omega⟩
    have hE : relE (n ++ 32 :: 40 :: (signL op ++ 32 :: (v ++ [41]))) = 0 := by
      unfold relE; rw [c0, if_pos hn, c2, if_pos rfl, c1, if_pos hF, hver, if_pos hv]
    refine ⟨hE, ?_, ?_, ?_⟩
    · unfold relN; rw [if_pos hE, c0]
    · unfold relO; rw [if_pos hE, c2, if_pos rfl, c1, hin, d0, so]
    · unfold relV; rw [if_pos hE, c2, if_pos rfl, c1, hver]
/-- What is read is right, and its text is what was read. -/
theorem text_of_rel {s : List Nat} (h : relE s = 0) : rightA (relN s) (relO s) (relV s) = true ∧ textA (relN s) (relO s) (relV s) = s := by
  have h' := h
  have hN : relN s = cutN s := by unfold relN; rw [if_pos h]
  have hO : relO s = if cutH s = true then opI (cutN (inL (cutR s))) else 0 := by unfold relO; rw [if_pos h]
  have hV : relV s = if cutH s = true then verL (cutR s) else [] := by unfold relV; rw [if_pos h]
  unfold relE at h'
  split at h'
  · rename_i hn
    split at h'
    · rename_i hc
      split at h'
      · rename_i hf
        split at h'
        · rename_i hp
          rw [if_pos hc] at hO hV
          unfold formB at hf
          simp only [Bool.and_eq_true, decide_eq_true_eq] at hf
          obtain ⟨⟨⟨f0, f1⟩, f2⟩, f3, f4⟩ := hf
          have hr := form_is f0 f1 f2
          obtain ⟨g0, g1⟩ := sign_op f4
          have hi := cut_back f3
          rw [hN, hO, hV]
          constructor
          · unfold rightA
            rw [hn, if_neg f4, hp, decide_eq_true g1]; rfl
          · unfold textA
            rw [if_neg f4, g0]
            have e : (cutN (inL (cutR s)) ++ 32 :: (verL (cutR s) ++ [41]) : List Nat) = inL (cutR s) ++ [41] := by
              conv => rhs; rw [hi]
              unfold verL
              simp
            rw [e, ← hr]
            exact (cut_back hc).symm
        · cases h'
      · cases h'
    · rename_i hc
      rw [if_neg hc] at hO hV
      rw [hN, hO, hV]
      obtain ⟨c0, _, _⟩ := cut_no (cutH_no (by simpa using hc))
      refine ⟨?_, ?_⟩
      · unfold rightA; rw [hn, if_pos rfl]; rfl
      · unfold textA; rw [if_pos rfl, c0]
  · cases h'
theorem rel_none {s : List Nat} (h : relE s ≠ 0) : relN s = [] ∧ relO s = 0 ∧ relV s = [] := ⟨by unfold relN; rw [if_neg h], by unfold relO; rw [if_neg h], by unfold relV; rw [if_neg h]⟩
theorem relE_is (s : List Nat) : relE s = 0 ∨ relE s = 3 ∨ relE s = 4 ∨ relE s = 5 := by
  unfold relE
  split
  · split
    · split
      · split
        · exact .inl rfl
        · exact .inr (.inr (.inl rfl))
      · exact .inr (.inr (.inr rfl))
    · exact .inl rfl
  · exact .inr (.inl rfl)
/-- What the operators ask of how two versions stand. -/
def opB (op c : Int) : Bool := if op = 1 then decide (c < 0) else if op = 2 then decide (c ≤ 0) else if op = 3 then decide (c = 0) else if op = 4 then decide (0 ≤ c) else if op = 5 then decide (0 < c) else false
def holdB (op : Int) (a b : List Nat) : Bool := decide (op = 0) || (decide (parseE a = 0) && decide (parseE b = 0) && opB op (orderV a b))
end Go.Proofs.YtlelajcnfmmmjaaGreatDoor
