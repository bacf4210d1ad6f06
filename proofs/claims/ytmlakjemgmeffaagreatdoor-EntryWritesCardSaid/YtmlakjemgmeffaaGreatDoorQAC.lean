/- What the laws of this seat rest on: VerP, Ver3, Ver4. -/
import Derived.Test.YtmlakjemgmeffaaGreatDoorVer2Y
import Derived.Test.YtmlakjemgmeffaaGreatDoorShelfY
import Derived.Outline

section
set_option linter.unusedSimpArgs false
namespace Go.Proofs.YtmlakjemgmeffaaGreatDoor
open Go.RowKit
def ndB (c : Nat) : Bool := !digB c
def wordL (l : List Nat) : List Nat := l.takeWhile ndB
def behL (l : List Nat) : List Nat := l.dropWhile ndB
theorem wordL_nil {l : List Nat} (h : nonD l = false) : wordL l = [] ∧ behL l = l := by
  cases l with
  | nil => exact ⟨rfl, rfl⟩
  | cons c l =>
    simp only [nonD, Bool.not_eq_false'] at h
    simp [wordL, behL, ndB, h]
theorem wordL_cons {l : List Nat} (h : nonD l = true) : ∃ c, l = c :: l.drop 1 ∧ digB c = false ∧ wordL l = c :: wordL (l.drop 1) ∧ behL l = behL (l.drop 1) := by
  cases l with
  | nil => simp [nonD] at h
  | cons c l =>
    simp only [nonD, Bool.not_eq_true'] at h
    exact ⟨c, by simp, h, by simp [wordL, ndB, h], by simp [behL, ndB, h]⟩
theorem behL_non (l : List Nat) : nonD (behL l) = false := by
  unfold behL
  induction l with
  | nil => rfl
  | cons c l ih =>
    rw [List.dropWhile_cons]
    split
    · exact ih
    · rename_i h; simp only [ndB, Bool.not_eq_true', Bool.not_eq_false] at h; simp [nonD, h]
theorem cwL_step (a b : List Nat) (h : a ≠ [] ∨ b ≠ []) : cwL a b = if sgn (vw a - vw b) ≠ 0 then sgn (vw a - vw b) else cwL (a.drop 1) (b.drop 1) := by
  have hm : ∃ f, max a.length b.length = f + 1 ∧ max (a.drop 1).length (b.drop 1).length = f := by
    rcases a with _ | ⟨x, a⟩ <;> rcases b with _ | ⟨y, b⟩
    · simp at h
    · exact ⟨b.length, by simp, by simp⟩
    · exact ⟨a.length, by simp, by simp⟩
    · exact ⟨max a.length b.length, by simp only [List.length_cons]; omega, by simp⟩
  obtain ⟨f, h1, h2⟩ := hm
  unfold cwL
  rw [h1, h2]
  rfl
theorem cwL_nil : cwL [] [] = 0 := rfl
def wtc (c : Nat) : Int := if c = 126 then -1 else if letB c then c else 1000 + c
def vwc (c : Nat) : Int := if c = 126 then -1 else if letB c then c else c + 256
theorem let_bd {c : Nat} (h : letB c = true) : 65 ≤ c ∧ c ≤ 122 := by simp [letB] at h; omega
theorem same_iff (c d : Nat) : (wtc c < wtc d ↔ vwc c < vwc d) ∧ (wtc d < wtc c ↔ vwc d < vwc c) := by
  unfold wtc vwc
  by_cases h1 : c = 126 <;> by_cases h2 : d = 126 <;> by_cases h3 : letB c = true <;> by_cases h4 : letB d = true <;> simp only [h1, h2, h3, h4, if_true, if_false, Bool.false_eq_true] <;> (try have := let_bd h3) <;> (try have := let_bd h4) <;> constructor <;> constructor <;> intro _ <;> omega
theorem zero_iff (c : Nat) : (wtc c < 0 ↔ vwc c < 0) ∧ (0 < wtc c ↔ 0 < vwc c) := by
  unfold wtc vwc
  by_cases h1 : c = 126 <;> by_cases h3 : letB c = true <;> simp only [h1, h3, if_true, if_false, Bool.false_eq_true] <;> (try have := let_bd h3) <;> constructor <;> constructor <;> intro _ <;> omega
theorem sgn_same {x y u v : Int} (h1 : x < y ↔ u < v) (h2 : y < x ↔ v < u) : sgn (x - y) = sgn (u - v) := by
  rcases sgn_is (x - y) with h | h | h <;> rcases sgn_is (u - v) with k | k | k <;> rw [h.2, k.2] <;> exfalso <;> omega
theorem head_same (a b : List Nat) : sgn (wt a - wt b) = sgn (vw (wordL a) - vw (wordL b)) := by
  have key : ∀ l : List Nat, (nonD l = false ∧ wt l = 0 ∧ vw (wordL l) = 0) ∨ ∃ c, wt l = wtc c ∧ vw (wordL l) = vwc c := by
    intro l
    cases h : nonD l
    · exact .inl ⟨rfl, wt_end h, by rw [(wordL_nil h).1]; rfl⟩
    · obtain ⟨c, e, hd, hw, _⟩ := wordL_cons h
      refine .inr ⟨c, ?_, by rw [hw]; rfl⟩
      rw [e]; simp [wt, wtc, hd]
  rcases key a with ⟨_, a1, a2⟩ | ⟨c, a1, a2⟩ <;> rcases key b with ⟨_, b1, b2⟩ | ⟨d, b1, b2⟩ <;> rw [a1, a2, b1, b2]
  · exact sgn_same ⟨fun h => (zero_iff d).2.1 h, fun h => (zero_iff d).2.2 h⟩ ⟨fun h => (zero_iff d).1.1 h, fun h => (zero_iff d).1.2 h⟩
  · exact sgn_same ⟨fun h => (zero_iff c).1.1 h, fun h => (zero_iff c).1.2 h⟩ ⟨fun h => (zero_iff c).2.1 h, fun h => (zero_iff c).2.2 h⟩
  · exact sgn_same (same_iff c d).1 (same_iff c d).2
theorem drop_word {l : List Nat} (h : nonD l = true) : (wordL l).drop 1 = wordL (l.drop 1) := by
  obtain ⟨c, _, _, hw, _⟩ := wordL_cons h
  rw [hw]; simp
theorem cmp_words : ∀ (n : Nat) (a b : List Nat), a.length + b.length ≤ n → cmpS a b = if cwL (wordL a) (wordL b) ≠ 0 then cwL (wordL a) (wordL b) else cmpS (behL a) (behL b)
  | 0, a, b, h => by
    have h1 : a = [] := List.eq_nil_of_length_eq_zero (by omega)
    have h2 : b = [] := List.eq_nil_of_length_eq_zero (by omega)
    subst h1; subst h2
    rfl
  | n + 1, a, b, h => by
    by_cases hn : nonD a = false ∧ nonD b = false
    · obtain ⟨a1, a2⟩ := wordL_nil hn.1
      obtain ⟨b1, b2⟩ := wordL_nil hn.2
      rw [a1, a2, b1, b2, cwL_nil, if_neg (by simp)]
    · have hne : wordL a ≠ [] ∨ wordL b ≠ [] := by
        cases ha : nonD a
        · cases hb : nonD b
          · exact absurd ⟨ha, hb⟩ hn
          · obtain ⟨c, _, _, hw, _⟩ := wordL_cons hb
            exact .inr (by rw [hw]; simp)
        · obtain ⟨c, _, _, hw, _⟩ := wordL_cons ha
          exact .inl (by rw [hw]; simp)
      rw [cwL_step _ _ hne, ← head_same]
      by_cases hs : sgn (wt a - wt b) ≠ 0
      · rw [if_pos hs, if_pos hs]
        exact cmpS_ne (fun e => hs (by rw [e, Int.sub_self]; rfl))
      · rw [if_neg hs]
        have hor : (nonD a || nonD b) = true := by
          cases ha : nonD a <;> cases hb : nonD b <;> simp_all
        obtain ⟨ha, hb⟩ := both_non hor hs
        have e : wt a = wt b := by have := sgn_zero.1 (Classical.not_not.1 hs); omega
        rw [cmpS_eq e (wt_non ha), drop_word ha, drop_word hb]
        obtain ⟨c, ea, _, _, ba⟩ := wordL_cons ha
        obtain ⟨d, eb, _, _, bb⟩ := wordL_cons hb
        rw [ba, bb]
        refine cmp_words n _ _ ?_
        have := drop1_len (wt_non ha)
        have := drop1_len (wt_non hb)
        omega
def numA (l : List Nat) : List Nat := (behL l).takeWhile digB
def restA (l : List Nat) : List Nat := (behL l).dropWhile digB
def dz (l : List Nat) : List Nat := l.dropWhile (fun c => c == 48)
theorem dz_numA (l : List Nat) : dz (numA l) = digs (behL l) := rfl
theorem dw_drop (p : Nat → Bool) : ∀ l : List Nat, l.dropWhile p = l.drop (l.takeWhile p).length
  | [] => rfl
  | c :: l => by
    cases h : p c
    · simp [h]
    · simp [h]; exact dw_drop p l
theorem restA_is (l : List Nat) : restA l = (behL l).drop (numD (behL l)) := by
  unfold restA numD
  exact dw_drop digB (behL l)
def stepC (a b : List Nat) : Int := orL [cwL (wordL a) (wordL b), numC (dz (numA a)) (dz (numA b))]
theorem cmp_round (a b : List Nat) : cmpS a b = if stepC a b ≠ 0 then stepC a b else cmpS (restA a) (restA b) := by
  rw [cmp_words _ a b (Nat.le_refl _)]
  have wa : wt (behL a) = 0 := wt_end (behL_non a)
  have wb : wt (behL b) = 0 := wt_end (behL_non b)
  rw [cmpS_no wa wb, ← restA_is, ← restA_is]
  unfold stepC
  simp only [orL, dz_numA]
  by_cases h1 : cwL (wordL a) (wordL b) = 0
  · by_cases h2 : numC (digs (behL a)) (digs (behL b)) = 0
    · simp [h1, h2]
    · simp [h1, h2]
  · simp [h1]
theorem restA_len (l : List Nat) : (restA l).length ≤ l.length := by
  unfold restA behL
  exact Nat.le_trans (List.dropWhile_suffix _).length_le (List.dropWhile_suffix _).length_le
theorem restA_lt {l : List Nat} (h : l ≠ []) : (restA l).length < l.length := by
  cases hn : nonD l
  · obtain ⟨_, b⟩ := wordL_nil hn
    rw [restA_is, b]
    exact dropN_lt (wt_end hn) h
  · obtain ⟨c, e, _, _, hb⟩ := wordL_cons hn
    have h1 : (restA l).length ≤ (l.drop 1).length := by
      unfold restA; rw [hb]; exact restA_len (l.drop 1)
    have h2 : (l.drop 1).length < l.length := by rw [List.length_drop]; cases l with | nil => exact absurd rfl h | cons _ _ => simp
    omega
end Go.Proofs.YtmlakjemgmeffaaGreatDoor
end

section
set_option maxRecDepth 100000
set_option linter.unusedVariables false
namespace Go.Proofs.YtmlakjemgmeffaaGreatDoor
open Go.RowKit
def csV (s t : ByteArray) : Int := if Op.bytesLess s.toList t.toList = true then -1 else if s.toList = t.toList then 0 else 1
theorem cmpStr_any (s t : ByteArray) (w : World) : Calls Tryz.prog 59 #[.string s, .string t] w fun e w' => e = .returned (.int .i64 (csV s t)) ∧ w = w' := by
  have N := Lib.hid (show (Op.bytesLess s.toList t.toList = true → csV s t = -1) ∧ (Op.bytesLess s.toList t.toList = false → ¬ s.toList = t.toList → csV s t = 1) ∧ (Op.bytesLess s.toList t.toList = false → s.toList = t.toList → csV s t = 0) by
    unfold csV
    refine ⟨fun h => by rw [if_pos h], fun h h2 => by rw [if_neg (by simp [h]), if_neg h2], fun h h2 => by rw [if_neg (by simp [h]), if_pos h2]⟩)
  go_enter Tryz.func59, Tryz.ntmps59
  go_wp2
  · have h1 : Op.bytesLess s.toList t.toList = true := by assumption
    go_ret
    exact ⟨by rw [N.out.1 h1]; rfl, rfl⟩
  · have h1 : Op.bytesLess s.toList t.toList = false := by assumption
    have h2 : (!s.toList == t.toList) = true := by assumption
    go_ret
    exact ⟨by rw [N.out.2.1 h1 (by simpa using h2)]; rfl, rfl⟩
  · have h1 : Op.bytesLess s.toList t.toList = false := by assumption
    have h2 : (!s.toList == t.toList) = false := by assumption
    go_ret
    exact ⟨by rw [N.out.2.2 h1 (by simpa using h2)]; rfl, rfl⟩
theorem csV_lex {s t : ByteArray} (h : s.size = t.size) : csV s t = lexL (B s) (B t) := by
  have hll : s.toList.length = t.toList.length := by rw [toList_data, toList_data, Array.length_toList, Array.length_toList]; exact h
  obtain ⟨i1, i2, i3⟩ := bytesLess_lex s.toList t.toList hll
  have e1 : s.toList.map UInt8.toNat = B s := by rw [toList_data]; rfl
  have e2 : t.toList.map UInt8.toNat = B t := by rw [toList_data]; rfl
  rw [e1, e2] at i1 i2 i3
  unfold csV
  rcases i3 with h | h | h
  · rw [if_pos (i1.2 h), h]
  · have h2 := i2.2 h
    rw [if_neg (fun hh => by have := i1.1 hh; omega), if_pos h2, h]
  · rw [if_neg (fun hh => by have := i1.1 hh; omega), if_neg (fun hh => by have := i2.1 hh; omega), h]
theorem or_numC (s t : ByteArray) : orL [sgn ((s.size : Int) - t.size), csV s t] = numC (B s) (B t) := by
  unfold numC
  rw [B_len, B_len]
  simp only [orL]
  by_cases h : s.size = t.size
  · have e0 : sgn ((s.size : Int) - t.size) = 0 := sgn_zero.2 (by omega)
    rw [e0, csV_lex h]
    simp only [h, ne_eq, not_true, if_false]
    split
    · rfl
    · rename_i hh; exact (Classical.not_not.1 hh).symm
  · have h0 : sgn ((s.size : Int) - t.size) ≠ 0 := fun hh => by have := sgn_zero.1 hh; omega
    simp only [h0, h, ne_eq, not_false_iff, if_true]
theorem trim_is (s : ByteArray) : (⟨(Lib.trimLeftB s.data.toList 48).toArray⟩ : ByteArray) = mk (dz (B s)) := by
  apply eq_mk
  unfold Lib.trimLeftB dz B
  simp only
  rw [List.dropWhile_map]
  congr 2
  funext c
  simp only [Function.comp]
  rw [Bool.eq_iff_iff, beq_iff_eq, beq_iff_eq]
  exact ⟨fun h => by rw [h]; rfl, fun h => UInt8.toNat_inj.1 h⟩
theorem trimL_any (s : ByteArray) (w : World) : Calls Tryz.prog 195 #[.string s, .string { data := #[48] }] w fun e w' => e = .returned (.string (mk (dz (B s)))) ∧ w = w' := by
  refine (Tryz.strings_TrimLeft_one s 48 (by decide) w).mono ?_
  rintro e w' ⟨rfl, rfl⟩
  exact ⟨by rw [trim_is], rfl⟩
theorem dz_lt {l : List Nat} (h : ∀ c ∈ l, c < 256) : ∀ c ∈ dz l, c < 256 := fun c hc => h c ((List.dropWhile_suffix _).subset hc)
theorem dz_len (l : List Nat) : (dz l).length ≤ l.length := (List.dropWhile_suffix _).length_le
theorem vnum_any (s t : ByteArray) (w : World) (hs : s.size ≤ 9223372036854775807) (ht : t.size ≤ 9223372036854775807) :
    Calls Tryz.prog 169 #[.string s, .string t] w fun e w' => e = .returned (.int .i64 (numC (dz (B s)) (dz (B t)))) ∧ Below w.heap.size w w' := by
  have X := Lib.hid (show orL [sgn (((mk (dz (B s))).size : Int) - (mk (dz (B t))).size), csV (mk (dz (B s))) (mk (dz (B t)))] = numC (dz (B s)) (dz (B t)) by
    rw [or_numC, B_mk (dz_lt (B_lt s)), B_mk (dz_lt (B_lt t))])
  have b1 : (mk (dz (B s))).size ≤ 9223372036854775807 := by rw [size_mk]; have := dz_len (B s); rw [B_len] at this; omega
  have b2 : (mk (dz (B t))).size ≤ 9223372036854775807 := by rw [size_mk]; have := dz_len (B t); rw [B_len] at this; omega
  have T1 := Lib.hid (trimL_any s w)
  have T2 := Lib.hid (trimL_any t w)
  have C1 := Lib.hid (cmpInt_any)
  generalize mk (dz (B s)) = x at *
  generalize mk (dz (B t)) = y at *
  generalize numC (dz (B s)) (dz (B t)) = z at *
  have C2 := Lib.hid (cmpStr_any x y)
  go_enter Tryz.func169, Tryz.ntmps169
  go_wp2_with (first | (go_at_call 195; (with_reducible refine T1.out.mono ?_); rintro e w' ⟨rfl, rfl⟩) | (go_at_call 195; (with_reducible refine T2.out.mono ?_); rintro e w' ⟨rfl, rfl⟩) | (go_at_call 126; (with_reducible refine (C1.out _ _ _).mono ?_); rintro e w' ⟨rfl, rfl⟩) | (go_at_call 59; (with_reducible refine (C2.out _).mono ?_); rintro e w' ⟨rfl, rfl⟩))
  refine (or_any w.heap.size 2 [sgn ((x.size : Int) - y.size), csV x y] _ rfl (by decide) ?_).mono ?_
  · intro k hk
    rcases (by omega : k = 0 ∨ k = 1) with rfl | rfl <;> simp [go_sem]
  rintro e w' ⟨rfl, rfl⟩
  rw [X.out]
  go_wp2
  go_ret
  exact ⟨rfl, (Below.refl _ w).alloc (Nat.le_refl _) _⟩
end Go.Proofs.YtmlakjemgmeffaaGreatDoor
end

section
set_option maxRecDepth 100000
set_option linter.unusedVariables false
namespace Go.Proofs.YtmlakjemgmeffaaGreatDoor
open Go.RowKit
def wS (s : ByteArray) : ByteArray := mk (wordL (B s))
def bS (s : ByteArray) : ByteArray := mk (behL (B s))
def nS (s : ByteArray) : ByteArray := mk (numA (B s))
def rS (s : ByteArray) : ByteArray := mk (restA (B s))
theorem sub_lt {p : Nat → Bool} {l : List Nat} (h : ∀ c ∈ l, c < 256) : (∀ c ∈ l.takeWhile p, c < 256) ∧ (∀ c ∈ l.dropWhile p, c < 256) :=
  ⟨fun c hc => h c ((List.takeWhile_prefix p).subset hc), fun c hc => h c ((List.dropWhile_suffix p).subset hc)⟩
theorem B_wS (s : ByteArray) : B (wS s) = wordL (B s) := B_mk (sub_lt (B_lt s)).1
theorem B_bS (s : ByteArray) : B (bS s) = behL (B s) := B_mk (sub_lt (B_lt s)).2
theorem B_nS (s : ByteArray) : B (nS s) = numA (B s) := B_mk (sub_lt (sub_lt (B_lt s)).2).1
theorem B_rS (s : ByteArray) : B (rS s) = restA (B s) := B_mk (sub_lt (sub_lt (B_lt s)).2).2
theorem len_wS (s : ByteArray) : (wS s).size ≤ s.size := by rw [← B_len, B_wS, ← B_len]; exact (List.takeWhile_prefix _).length_le
theorem len_bS (s : ByteArray) : (bS s).size ≤ s.size := by rw [← B_len, B_bS, ← B_len]; exact (List.dropWhile_suffix _).length_le
theorem len_nS (s : ByteArray) : (nS s).size ≤ s.size := by rw [← B_len, B_nS]; refine Nat.le_trans (List.takeWhile_prefix _).length_le ?_; rw [← B_bS, B_len]; exact len_bS s
theorem len_rS (s : ByteArray) : (rS s).size ≤ s.size := by rw [← B_len, B_rS, ← B_len]; exact restA_len _
theorem cut_word (s : ByteArray) (w : World) (hs : s.size ≤ 9223372036854775807) :
    Calls Tryz.prog 165 #[.string s, .func (.func 166) #[] #[]] w fun e w' => e = .returned (.tuple #[.string (wS s), .string (bS s)]) ∧ ∃ n, w' = w.drewN n :=
  cut_any _ ndB s w hs (fun _ _ => by kernel_rfl) vnotDigit_any
theorem cut_num (s : ByteArray) (w : World) (hs : s.size ≤ 9223372036854775807) :
    Calls Tryz.prog 165 #[.string (bS s), .func (.func 167) #[] #[]] w fun e w' => e = .returned (.tuple #[.string (nS s), .string (rS s)]) ∧ ∃ n, w' = w.drewN n := by
  have := cut_any 167 digB (bS s) w (Nat.le_trans (len_bS s) hs) (fun _ _ => by kernel_rfl) vdigit_any
  rw [B_bS] at this
  exact this
theorem bel_dr {N : Nat} {a w : World} (h : Below N a w) (n : Nat) : Below N a (w.drewN n) := ⟨h.os, h.tape, h.output, h.size, h.block⟩
theorem vround (x y : ByteArray) : cmpS (B x) (B y) = if orL [cwL (B (wS x)) (B (wS y)), numC (dz (B (nS x))) (dz (B (nS y)))] ≠ 0 then orL [cwL (B (wS x)) (B (wS y)), numC (dz (B (nS x))) (dz (B (nS y)))] else cmpS (B (rS x)) (B (rS y)) := by
  rw [B_wS, B_wS, B_nS, B_nS, B_rS, B_rS]
  exact cmp_round _ _
def sizeV : Value → Nat | .string s => s.size | _ => 0
theorem ne_of {s : ByteArray} (h : s.toList.isEmpty = false) : 0 < s.size := by
  rcases Nat.eq_zero_or_pos s.size with h0 | h0
  · exfalso
    have : B s = [] := List.eq_nil_of_length_eq_zero (by rw [B_len]; exact h0)
    have := (empty_iff s).2 this
    rw [h] at this; cases this
  · exact h0
theorem rS_lt {s : ByteArray} (h : 0 < s.size) : (rS s).size < s.size := by
  rw [← B_len, B_rS]
  have := restA_lt (l := B s) (fun hh => by have := B_len s; rw [hh] at this; simp at this; omega)
  rw [B_len] at this; exact this
def RelT (s t : ByteArray) (w : World) (a b : Value) (wr : World) : Prop :=
  ∃ x y : ByteArray, a = .string x ∧ b = .string y ∧ x.size ≤ s.size ∧ y.size ≤ t.size ∧ cmpS (B s) (B t) = cmpS (B x) (B y) ∧ Below w.heap.size w wr
theorem vcmp_any (s t : ByteArray) (w : World) (hs : s.size ≤ 9223372036854775807) (ht : t.size ≤ 9223372036854775807) :
    Calls Tryz.prog 127 #[.string s, .string t] w fun e w' => e = .returned (.int .i64 (cmpS (B s) (B t))) ∧ Below w.heap.size w w' := by
  go_enter Tryz.func127, Tryz.ntmps127
  go_wp2
  go_loopw [0, 1] (fun a b wr => RelT s t w a b wr) (fun a b _ => sizeV a + sizeV b)
  case atStart => exact ⟨s, t, rfl, rfl, Nat.le_refl _, Nat.le_refl _, rfl, Below.refl _ _⟩
  case round =>
    obtain ⟨x, y, rfl, rfl, hx, hy, hr, hb⟩ := hrel
    have HR := Lib.hid hr
    have HV := Lib.hid (vround x y)
    have HB := Lib.hid hb
    clear hr hb
    have dec : (x.toList.isEmpty = true ∧ y.toList.isEmpty = true) ∨ (x.toList.isEmpty = false ∨ (x.toList.isEmpty = true ∧ y.toList.isEmpty = false)) := by
      cases x.toList.isEmpty <;> cases y.toList.isEmpty <;> simp
    rcases dec with ⟨h1, h2⟩ | hne
    · have X := Lib.hid (show cmpS (B s) (B t) = 0 by rw [HR.out, (empty_iff x).1 h1, (empty_iff y).1 h2]; rfl)
      go_wp2
      go_ret
      exact ⟨by rw [X.out]; rfl, HB.out⟩
    · have hpos : (rS x).size + (rS y).size < x.size + y.size := by
        rcases hne with h | ⟨_, h⟩
        · have := rS_lt (ne_of h); have := len_rS y; omega
        · have := rS_lt (ne_of h); have := len_rS x; omega
      have lx := len_rS x
      have ly := len_rS y
      have K1 := Lib.hid (fun w => cut_word x w (by omega))
      have K2 := Lib.hid (fun w => cut_word y w (by omega))
      have K3 := Lib.hid (fun w => cut_num x w (by omega))
      have K4 := Lib.hid (fun w => cut_num y w (by omega))
      have K5 := Lib.hid (fun w => words_any (wS x) (wS y) w (by have := len_wS x; omega) (by have := len_wS y; omega))
      have K6 := Lib.hid (fun w => vnum_any (nS x) (nS y) w (by have := len_nS x; omega) (by have := len_nS y; omega))
      generalize cwL (B (wS x)) (B (wS y)) = c1 at *
      generalize numC (dz (B (nS x))) (dz (B (nS y))) = c2 at *
      rcases hne with h | ⟨h', h⟩
      all_goals
        go_wp2_with fail
        refine (K1.out _).mono ?_
        rintro e w1 ⟨rfl, n1, rfl⟩
        go_wp2_with fail
        refine (K2.out _).mono ?_
        rintro e w1 ⟨rfl, n2, rfl⟩
        go_wp2_with fail
        refine (K3.out _).mono ?_
        rintro e w1 ⟨rfl, n3, rfl⟩
        go_wp2_with fail
        refine (K4.out _).mono ?_
        rintro e w1 ⟨rfl, n4, rfl⟩
        go_wp2_with fail
        refine (K5.out _).mono ?_
        rintro e w1 ⟨rfl, hb1⟩
        go_wp2_with fail
        refine (K6.out _).mono ?_
        rintro e w2 ⟨rfl, hb2⟩
        go_wp2_with fail
        refine (or_any w2.heap.size 2 [c1, c2] _ rfl (by decide) ?_).mono ?_
        · intro k hk
          rcases (by omega : k = 0 ∨ k = 1) with rfl | rfl <;> simp [go_sem]
        rintro e w' ⟨rfl, rfl⟩
        have B1 := Lib.hid (show Below w.heap.size w w1 from (bel_dr HB.out (n1 + n2 + n3 + n4)).trans (hb1.mono (by simpa using HB.out.size)))
        have B2 := Lib.hid (show Below w.heap.size w (w2.alloc (.cells #[.int .i64 c1, .int .i64 c2] 3)) from (B1.out.trans (hb2.mono B1.out.size)).alloc (Nat.le_trans B1.out.size hb2.size) _)
        clear hb1 hb2
        by_cases hz : orL [c1, c2] = 0
        · have t1 : (orL [c1, c2] != 0) = false := by rw [bne_eq_false_iff_eq]; exact hz
          have X := Lib.hid (show cmpS (B s) (B t) = cmpS (B (rS x)) (B (rS y)) by rw [HR.out, HV.out, if_neg (by simp [hz])])
          clear hz
          go_wp2
          go_roundw
          case rel => exact ⟨_, _, rfl, rfl, by omega, by omega, X.out, B2.out⟩
          case measure => exact hpos
        · have t1 : (orL [c1, c2] != 0) = true := by rw [bne_iff_ne]; exact hz
          have X := Lib.hid (show cmpS (B s) (B t) = orL [c1, c2] by rw [HR.out, HV.out, if_pos hz])
          clear hz
          go_wp2
          go_ret
          exact ⟨by rw [X.out]; rfl, B2.out⟩
end Go.Proofs.YtmlakjemgmeffaaGreatDoor
end
