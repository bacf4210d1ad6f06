/- The order of texts as the program goes through them, word by word and number by number, is the document's: pure. -/
import Derived.Test.YtmlakjemgmeffaaGreatDoorVer2Z
set_option linter.unusedSimpArgs false
namespace Go.Proofs.YtmlakjemgmeffaaGreatDoor
open Go.RowKit
def ndB (c : Nat) : Bool := !digB c
def wordL (l : List Nat) : List Nat := l.takeWhile ndB
def behL (l : List Nat) : List Nat := l.dropWhile ndB
theorem wordL_nil {l : List Nat} (h : nonD l = false) : wordL l = [] ∧ behL l = l := by
  cases l with
  | nil => exact ⟨rfl, rfl⟩
  | cons c l =>
    simp only [nonD, Bool.not_eq_false'] at h
    simp [wordL, behL, ndB, h]
theorem wordL_cons {l : List Nat} (h : nonD l = true) : ∃ c, l = c :: l.drop 1 ∧ digB c = false ∧ wordL l = c :: wordL (l.drop 1) ∧ behL l = behL (l.drop 1) := by
  cases l with
  | nil => simp [nonD] at h
  | cons c l =>
    simp only [nonD, Bool.not_eq_true'] at h
    exact ⟨c, by simp, h, by simp [wordL, ndB, h], by simp [behL, ndB, h]⟩
theorem behL_non (l : List Nat) : nonD (behL l) = false := by
  unfold behL
  induction l with
  | nil => rfl
  | cons c l ih =>
    rw [List.dropWhile_cons]
    split
    · exact ih
    · rename_i h; simp only [ndB, Bool.not_eq_true', Bool.not_eq_false] at h; simp [nonD, h]
/-- One step of two words. -/
theorem cwL_step (a b : List Nat) (h : a ≠ [] ∨ b ≠ []) : cwL a b = if sgn (vw a - vw b) ≠ 0 then sgn (vw a - vw b) else cwL (a.drop 1) (b.drop 1) := by
  have hm : ∃ f, max a.length b.length = f + 1 ∧ max (a.drop 1).length (b.drop 1).length = f := by
    rcases a with _ | ⟨x, a⟩ <;> rcases b with _ | ⟨y, b⟩
    · simp at h
    · exact ⟨b.length, by simp, by simp⟩
    · exact ⟨a.length, by simp, by simp⟩
    · exact ⟨max a.length b.length, by simp only [List.length_cons]; omega, by simp⟩
  obtain ⟨f, h1, h2⟩ := hm
  unfold cwL
  rw [h1, h2]
  rfl
theorem cwL_nil : cwL [] [] = 0 := rfl
def wtc (c : Nat) : Int := if c = 126 then -1 else if letB c then c else 1000 + c
def vwc (c : Nat) : Int := if c = 126 then -1 else if letB c then c else c + 256
theorem let_bd {c : Nat} (h : letB c = true) : 65 ≤ c ∧ c ≤ 122 := by simp [letB] at h; omega
theorem same_iff (c d : Nat) : (wtc c < wtc d ↔ vwc c < vwc d) ∧ (wtc d < wtc c ↔ vwc d < vwc c) := by
  unfold wtc vwc
  by_cases h1 : c = 126 <;> by_cases h2 : d = 126 <;> by_cases h3 : letB c = true <;> by_cases h4 : letB d = true <;> simp only [h1, h2, h3, h4, if_true, if_false, Bool.false_eq_true] <;> (try have := let_bd h3) <;> (try have := let_bd h4) <;> constructor <;> constructor <;> intro _ <;> omega
theorem zero_iff (c : Nat) : (wtc c < 0 ↔ vwc c < 0) ∧ (0 < wtc c ↔ 0 < vwc c) := by
  unfold wtc vwc
  by_cases h1 : c = 126 <;> by_cases h3 : letB c = true <;> simp only [h1, h3, if_true, if_false, Bool.false_eq_true] <;> (try have := let_bd h3) <;> constructor <;> constructor <;> intro _ <;> omega
theorem sgn_same {x y u v : Int} (h1 : x < y ↔ u < v) (h2 : y < x ↔ v < u) : sgn (x - y) = sgn (u - v) := by
  rcases sgn_is (x - y) with h | h | h <;> rcases sgn_is (u - v) with k | k | k <;> rw [h.2, k.2] <;> exfalso <;> omega
theorem head_same (a b : List Nat) : sgn (wt a - wt b) = sgn (vw (wordL a) - vw (wordL b)) := by
  have key : ∀ l : List Nat, (nonD l = false ∧ wt l = 0 ∧ vw (wordL l) = 0) ∨ ∃ c, wt l = wtc c ∧ vw (wordL l) = vwc c := by
    intro l
    cases h : nonD l
    · exact .inl ⟨rfl, wt_end h, by rw [(wordL_nil h).1]; rfl⟩
    · obtain ⟨c, e, hd, hw, _⟩ := wordL_cons h
      refine .inr ⟨c, ?_, by rw [hw]; rfl⟩
      rw [e]; simp [wt, wtc, hd]
  rcases key a with ⟨_, a1, a2⟩ | ⟨c, a1, a2⟩ <;> rcases key b with ⟨_, b1, b2⟩ | ⟨d, b1, b2⟩ <;> rw [a1, a2, b1, b2]
  · exact sgn_same ⟨fun h => (zero_iff d).2.1 h, fun h => (zero_iff d).2.2 h⟩ ⟨fun h => (zero_iff d).1.1 h, fun h => (zero_iff d).1.2 h⟩
  · exact sgn_same ⟨fun h => (zero_iff c).1.1 h, fun h => (zero_iff c).1.2 h⟩ ⟨fun h => (zero_iff c).2.1 h, fun h => (zero_iff c).2.2 h⟩
  · exact sgn_same (same_iff c d).1 (same_iff c d).2
theorem drop_word {l : List Nat} (h : nonD l = true) : (wordL l).drop 1 = wordL (l.drop 1) := by
  obtain ⟨c, _, _, hw, _⟩ := wordL_cons h
  rw [hw]; simp
theorem cmp_words : ∀ (n : Nat) (a b : List Nat), a.length + b.length ≤ n → cmpS a b = if cwL (wordL a) (wordL b) ≠ 0 then cwL (wordL a) (wordL b) else cmpS (behL a) (behL b)
  | 0, a, b, h => by
    have h1 : a = [] := List.eq_nil_of_length_eq_zero (by omega)
    have h2 : b = [] := List.eq_nil_of_length_eq_zero (by omega)
    subst h1; subst h2
    rfl
  | n + 1, a, b, h => by
    by_cases hn : nonD a = false ∧ nonD b = false
    · obtain ⟨a1, a2⟩ := wordL_nil hn.1
      obtain ⟨b1, b2⟩ := wordL_nil hn.2
      rw [a1, a2, b1, b2, cwL_nil, if_neg (by simp)]
    · have hne : wordL a ≠ [] ∨ wordL b ≠ [] := by
        cases ha : nonD a
        · cases hb : nonD b
          · exact absurd ⟨ha, hb⟩ hn
          · obtain ⟨c, _, _, hw, _⟩ := wordL_cons hb
            exact .inr (by rw [hw]; simp)
        · obtain ⟨c, _, _, hw, _⟩ := wordL_cons ha
          exact .inl (by rw [hw]; simp)
      rw [cwL_step _ _ hne, ← head_same]
      by_cases hs : sgn (wt a - wt b) ≠ 0
      · rw [if_pos hs, if_pos hs]
        exact cmpS_ne (fun e => hs (by rw [e, Int.sub_self]; rfl))
      · rw [if_neg hs]
        have hor : (nonD a || nonD b) = true := by
          cases ha : nonD a <;> cases hb : nonD b <;> simp_all
        obtain ⟨ha, hb⟩ := both_non hor hs
        have e : wt a = wt b := by have := sgn_zero.1 (Classical.not_not.1 hs); omega
        rw [cmpS_eq e (wt_non ha), drop_word ha, drop_word hb]
        obtain ⟨c, ea, _, _, ba⟩ := wordL_cons ha
        obtain ⟨d, eb, _, _, bb⟩ := wordL_cons hb
        rw [ba, bb]
        refine cmp_words n _ _ ?_
        have := drop1_len (wt_non ha)
        have := drop1_len (wt_non hb)
        omega
/-- The first number of a text behind its first word, noughts ahead and all; and what is behind. -/
def numA (l : List Nat) : List Nat := (behL l).takeWhile digB
def restA (l : List Nat) : List Nat := (behL l).dropWhile digB
def dz (l : List Nat) : List Nat := l.dropWhile (fun c => c == 48)
theorem dz_numA (l : List Nat) : dz (numA l) = digs (behL l) := rfl
theorem dw_drop (p : Nat → Bool) : ∀ l : List Nat, l.dropWhile p = l.drop (l.takeWhile p).length
  | [] => rfl
  | c :: l => by
    cases h : p c
    · simp [h]
    · simp [h]; exact dw_drop p l
theorem restA_is (l : List Nat) : restA l = (behL l).drop (numD (behL l)) := by
  unfold restA numD
  exact dw_drop digB (behL l)
def stepC (a b : List Nat) : Int := orL [cwL (wordL a) (wordL b), numC (dz (numA a)) (dz (numA b))]
theorem cmp_round (a b : List Nat) : cmpS a b = if stepC a b ≠ 0 then stepC a b else cmpS (restA a) (restA b) := by
  rw [cmp_words _ a b (Nat.le_refl _)]
  have wa : wt (behL a) = 0 := wt_end (behL_non a)
  have wb : wt (behL b) = 0 := wt_end (behL_non b)
  rw [cmpS_no wa wb, ← restA_is, ← restA_is]
  unfold stepC
  simp only [orL, dz_numA]
  by_cases h1 : cwL (wordL a) (wordL b) = 0
  · by_cases h2 : numC (digs (behL a)) (digs (behL b)) = 0
    · simp [h1, h2]
    · simp [h1, h2]
  · simp [h1]
theorem restA_len (l : List Nat) : (restA l).length ≤ l.length := by
  unfold restA behL
  exact Nat.le_trans (List.dropWhile_suffix _).length_le (List.dropWhile_suffix _).length_le
theorem restA_lt {l : List Nat} (h : l ≠ []) : (restA l).length < l.length := by
  cases hn : nonD l
  · obtain ⟨_, b⟩ := wordL_nil hn
    rw [restA_is, b]
    exact dropN_lt (wt_end hn) h
  · obtain ⟨c, e, _, _, hb⟩ := wordL_cons hn
    have h1 : (restA l).length ≤ (l.drop 1).length := by
      unfold restA; rw [hb]; exact restA_len (l.drop 1)
    have h2 : (l.drop 1).length < l.length := by rw [List.length_drop]; cases l with | nil => exact absurd rfl h | cons _ _ => simp
    omega
end Go.Proofs.YtmlakjemgmeffaaGreatDoor
