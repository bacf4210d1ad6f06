/- What the program takes for a version's text is what the document does: pure. -/
import Derived.Test.YtmlakjemgmeffaaGreatDoorVer9Y
import Derived.Test.YtmlakjemgmeffaaGreatDoorNA
set_option linter.unusedSimpArgs false
namespace Go.Proofs.YtmlakjemgmeffaaGreatDoor
open Go.RowKit
def trim0 : List Nat → List Nat
  | 48 :: 58 :: q => q
  | l => l
theorem trim0_is (l : List Nat) : (∃ q, l = 48 :: 58 :: q ∧ trim0 l = q) ∨ ((∀ q, l ≠ 48 :: 58 :: q) ∧ trim0 l = l) := by
  match l with
  | [] => exact .inr ⟨(fun _ h => by cases h), rfl⟩
  | [a] => exact .inr ⟨(fun _ h => by cases h), by unfold trim0; split <;> simp_all⟩
  | a :: b :: q =>
    by_cases h : a = 48 ∧ b = 58
    · obtain ⟨rfl, rfl⟩ := h
      exact .inl ⟨q, rfl, rfl⟩
    · refine .inr ⟨fun q' hq => h (by injection hq with h1 h2; injection h2 with h2 _; exact ⟨h1, h2⟩), ?_⟩
      unfold trim0
      split
      · rename_i q' hq
        exact absurd (by injection hq with h1 h2; injection h2 with h2 _; exact ⟨h1, h2⟩) h
      · rfl
theorem uint_dig : ∀ (l : List Nat) (acc : Nat), (∀ c ∈ l, digB c = true) → (acc + 1) * 10 ^ l.length ≤ 1000000000000 → Lib.parseUint10 acc (l.map UInt8.ofNat) = .ok (l.foldl (fun n c => 10 * n + (c - 48)) acc)
  | [], acc, _, _ => rfl
  | c :: l, acc, hd, hb => by
    have hc := digB_iff.1 (hd c (by simp))
    have e : (UInt8.ofNat c).toNat = c := by rw [UInt8.toNat_ofNat']; exact Nat.mod_eq_of_lt (by omega)
    have hp : 1 ≤ 10 ^ l.length := Nat.one_le_pow _ _ (by omega)
    have h10 : (acc + 1) * 10 ^ (l.length + 1) = (10 * acc + 10) * 10 ^ l.length := by rw [Nat.pow_succ, Nat.mul_comm (10 ^ l.length) 10, ← Nat.mul_assoc]; congr 1; omega
    have hb' : (acc + 1) * 10 ^ (l.length + 1) ≤ 1000000000000 := hb
    rw [h10] at hb'
    have hle : (10 * acc + (c - 48) + 1) * 10 ^ l.length ≤ 1000000000000 := Nat.le_trans (Nat.mul_le_mul_right _ (by omega)) hb'
    have hacc : 10 * acc + 10 ≤ 1000000000000 := Nat.le_trans (Nat.le_mul_of_pos_right _ hp) hb'
    simp only [List.map_cons, Lib.parseUint10, List.foldl_cons, e]
    rw [if_pos ⟨hc.1, hc.2⟩, if_neg (by omega), if_neg (by omega), show acc * 10 + (c - 48) = 10 * acc + (c - 48) by omega]
    exact uint_dig l _ (fun x hx => hd x (by simp [hx])) hle
theorem data_mk (l : List Nat) : (mk l).data.toList = l.map UInt8.ofNat := rfl
theorem atoi_num {p : List Nat} {n : Int} (h : numL p = n) (h0 : 0 ≤ n) : atoiV (mk p) = n := by
  unfold numL at h
  split at h
  · rename_i hc
    obtain ⟨hne, hlen, hall, hdec⟩ := hc
    have hd : ∀ c ∈ p, digB c = true := List.all_eq_true.1 hall
    have hlt := numV_lt p hd
    have hpow : 10 ^ p.length ≤ 10 ^ 9 := Nat.pow_le_pow_right (by omega) hlen
    have hU : Lib.parseMag (p.map UInt8.ofNat) = .ok (numV p) := by
      unfold Lib.parseMag
      rw [if_neg (by simpa using hne)]
      exact uint_dig p 0 hd (by omega)
    unfold atoiV
    rw [data_mk]
    match p, hne, hd, hU, h, hlt, hpow with
    | c :: q, _, hd, hU, h, hlt, hpow =>
      have hc := digB_iff.1 (hd c (by simp))
      have e : (UInt8.ofNat c).toNat = c := by rw [UInt8.toNat_ofNat']; exact Nat.mod_eq_of_lt (by omega)
      have hA : Lib.atoiAll ((c :: q).map UInt8.ofNat) = .ok (numV (c :: q) : Int) := by
        rw [List.map_cons] at hU ⊢
        simp only [Lib.atoiAll, e]
        rw [if_neg (by omega), hU]
        simp only
        rw [if_neg (by omega), if_neg (by omega), if_neg (by omega)]
      rw [hA]
      exact h
  · omega
theorem zero_num : numL [48] = 0 := by decide
theorem first_zero (q : List Nat) : firstI (48 :: 58 :: q) 0 = some 1 := rfl
theorem spl_zero {s : ByteArray} {q : List Nat} (h : B s = 48 :: 58 :: q) : splE s = 0 ∧ colE (B s) = 0 := by
  constructor
  · unfold splE; rw [h, first_zero]; exact atoi_num zero_num (by omega)
  · unfold colE; rw [h, first_zero]; exact zero_num
def devB (s : ByteArray) : Bool := rightB (splE s) (dashU (colU (B s))) (dashR (colU (B s))) && decide (trim0 (B s) = textL (splE s).toNat (dashU (colU (B s))) (dashR (colU (B s))))
theorem textL_zero (u r : List Nat) : textL 0 u r = u ++ (if r = [] then [] else 45 :: r) := by simp [textL]
theorem dev_is (s : ByteArray) : devB s = parseB (B s) ∧ (devB s = true → splE s = colE (B s)) := by
  have h1 : devB s = true → splE s = colE (B s) ∧ parseB (B s) = true := by
    intro h
    unfold devB at h
    simp only [Bool.and_eq_true, decide_eq_true_eq] at h
    obtain ⟨hr, ht⟩ := h
    rcases trim0_is (B s) with ⟨q, hq, e⟩ | ⟨_, e⟩
    · obtain ⟨z1, z2⟩ := spl_zero hq
      refine ⟨by rw [z1, z2], ?_⟩
      rw [z1] at hr ht
      unfold parseB
      rw [z2, hr, Bool.true_and, Bool.or_eq_true, decide_eq_true_eq, decide_eq_true_eq]
      rw [e] at ht
      exact .inr (by rw [← ht]; exact hq.symm)
    · rw [e] at ht
      have hc := (colons hr).1
      rw [← ht] at hc
      refine ⟨hc.symm, ?_⟩
      unfold parseB
      rw [hc, hr, Bool.true_and, Bool.or_eq_true, decide_eq_true_eq, decide_eq_true_eq]
      exact .inl ht.symm
  have h2 : parseB (B s) = true → devB s = true := by
    intro h
    unfold parseB at h
    simp only [Bool.and_eq_true, Bool.or_eq_true, decide_eq_true_eq] at h
    obtain ⟨hr, ht⟩ := h
    have h0 := (rightB_epoch hr).1
    have hE : splE s = colE (B s) := by
      unfold splE
      generalize hc : colE (B s) = c at *
      unfold colE at hc
      cases hf : firstI (B s) 0 with
      | none => rw [hf] at hc; exact hc
      | some i => rw [hf] at hc; exact atoi_num hc h0
    unfold devB
    rw [hE, hr, Bool.true_and, decide_eq_true_eq]
    rcases trim0_is (B s) with ⟨q, hq, e⟩ | ⟨hno, e⟩
    · obtain ⟨_, z2⟩ := spl_zero hq
      rw [e]
      rcases ht with ht | ht
      · exfalso
        have hc := (colons hr).2
        rw [z2] at hc ht
        rw [show (0 : Int).toNat = 0 from rfl] at hc ht
        rw [← textL_zero, ht] at hc
        rw [hq] at hc
        have : colU (48 :: 58 :: q) = q := rfl
        rw [this] at hc
        have := congrArg List.length hc
        simp at this
        omega
      · rw [hq] at ht
        injection ht with _ ht
        injection ht with _ ht
        rw [hq]
        exact ht.symm
    · rw [e]
      rcases ht with ht | ht
      · exact ht.symm
      · exact absurd ht.symm (hno _)
  refine ⟨?_, fun h => (h1 h).1⟩
  cases hd : devB s
  · cases hp : parseB (B s)
    · rfl
    · rw [h2 hp] at hd; cases hd
  · exact (h1 hd).2.symm
theorem trimP_is (s : ByteArray) : (⟨(Lib.trimPrefix s.data.toList [48, 58]).toArray⟩ : ByteArray) = mk (trim0 (B s)) := by
  apply eq_mk
  unfold Lib.trimPrefix Lib.hasPrefix B
  match hl : s.data.toList with
  | [] => rfl
  | [a] =>
    have : ([48, 58] : List UInt8).isPrefixOf [a] = false := by simp [List.isPrefixOf]
    rw [this]
    simp only [Bool.false_eq_true, if_false, List.map_cons, List.map_nil]
    unfold trim0; split <;> simp_all
  | a :: b :: q =>
    rcases trim0_is ((a :: b :: q).map UInt8.toNat) with ⟨q', hq, e⟩ | ⟨hno, e⟩
    · simp only [List.map_cons] at hq
      injection hq with h1 h2
      injection h2 with h2 h3
      have ha : a = 48 := UInt8.toNat_inj.1 h1
      have hb : b = 58 := UInt8.toNat_inj.1 h2
      subst ha; subst hb
      rw [e, ← h3]
      simp [List.isPrefixOf]
    · rw [e]
      have : ([48, 58] : List UInt8).isPrefixOf (a :: b :: q) = false := by
        rw [Bool.eq_false_iff]
        intro hh
        simp only [List.isPrefixOf, Bool.and_eq_true, beq_iff_eq] at hh
        exact hno (q.map UInt8.toNat) (by rw [← hh.1, ← hh.2.1]; rfl)
      rw [this]
      simp
end Go.Proofs.YtmlakjemgmeffaaGreatDoor
