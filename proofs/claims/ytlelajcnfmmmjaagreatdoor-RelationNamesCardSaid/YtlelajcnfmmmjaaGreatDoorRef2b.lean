/- The contracts of the document's own digits and numbers: the digits from a place on without noughts ahead, and how two stand; memory is as it was. -/
import Derived.Test.YtlelajcnfmmmjaaGreatDoorRef2a
namespace Go.Proofs.YtlelajcnfmmmjaaGreatDoor
open Go.RowKit

/-- The digits ahead, without noughts ahead of them. -/
def digs (l : List Nat) : List Nat := (l.takeWhile digB).dropWhile (fun c => c == 48)
def numD (l : List Nat) : Nat := (l.takeWhile digB).length
def endD (l : List Nat) (i : Nat) : Nat := i + numD (l.drop i)
theorem takeWhile_is {p : Nat → Bool} : ∀ {l : List Nat} {n : Nat}, n ≤ l.length → (∀ j, j < n → p (l.getD j 0) = true) → (n = l.length ∨ p (l.getD n 0) = false) → l.takeWhile p = l.take n
  | [], n, hn, _, _ => by simp
  | c :: l, 0, _, _, h => by
    have : p c = false := by simpa using h
    simp [this]
  | c :: l, n + 1, hn, h1, h2 => by
    have hc : p c = true := by simpa using h1 0 (by omega)
    rw [List.takeWhile_cons, if_pos hc, List.take_succ_cons]
    congr 1
    exact takeWhile_is (by simpa using hn) (fun j hj => by simpa using h1 (j + 1) (by omega)) (by simpa using h2)
theorem dropWhile_is {p : Nat → Bool} : ∀ {l : List Nat} {n : Nat}, n ≤ l.length → (∀ j, j < n → p (l.getD j 0) = true) → (n = l.length ∨ p (l.getD n 0) = false) → l.dropWhile p = l.drop n
  | [], n, hn, _, _ => by simp
  | c :: l, 0, _, _, h => by
    have : p c = false := by simpa using h
    simp [this]
  | c :: l, n + 1, hn, h1, h2 => by
    have hc : p c = true := by simpa using h1 0 (by omega)
    rw [List.dropWhile_cons, if_pos hc, List.drop_succ_cons]
    exact dropWhile_is (by simpa using hn) (fun j hj => by simpa using h1 (j + 1) (by omega)) (by simpa using h2)
theorem getD_drop (l : List Nat) (i j : Nat) : (l.drop i).getD j 0 = l.getD (i + j) 0 := by
  rw [List.getD_eq_getElem?_getD, List.getD_eq_getElem?_getD, List.getElem?_drop]
theorem getD_take (l : List Nat) (n j : Nat) (h : j < n) : (l.take n).getD j 0 = l.getD j 0 := by
  rw [List.getD_eq_getElem?_getD, List.getD_eq_getElem?_getD, List.getElem?_take, if_pos h]
theorem digits_ends {s : ByteArray} {i k : Nat} (hi : i ≤ k) (hk : k ≤ s.size) (h : ∀ j, i ≤ j → j < k → digB ((B s).getD j 0) = true) (he : k = s.size ∨ digB ((B s).getD k 0) = false) :
    ((B s).drop i).takeWhile digB = ((B s).drop i).take (k - i) := by
  refine takeWhile_is (by rw [List.length_drop, B_len]; omega) (fun j hj => by rw [getD_drop]; exact h _ (by omega) (by omega)) ?_
  rcases he with he | he
  · left; rw [List.length_drop, B_len]; omega
  · right; rw [getD_drop, show i + (k - i) = k by omega]; exact he
theorem digits_of {s : ByteArray} {i k m : Nat} (hi : i ≤ m) (hm : m ≤ k) (hk : k ≤ s.size) (h1 : ((B s).drop i).takeWhile digB = ((B s).drop i).take (k - i)) (h : ∀ j, i ≤ j → j < m → (B s).getD j 0 = 48) (he : m = k ∨ (B s).getD m 0 ≠ 48) :
    s.extract m k = mk (digs ((B s).drop i)) := by
  refine eq_mk ?_
  have hl : (((B s).drop i).take (k - i)).length = k - i := by rw [List.length_take, List.length_drop, B_len]; omega
  unfold digs
  rw [h1, B_extract, dropWhile_is (n := m - i) (by omega) (fun j hj => by rw [getD_take _ _ _ (by omega), getD_drop, h _ (by omega) (by omega)]; rfl)]
  · rw [List.drop_take, List.drop_drop, show i + (m - i) = m by omega, show k - i - (m - i) = k - m by omega]
  · rcases he with he | he
    · left; omega
    · by_cases hmk : m = k
      · left; omega
      · right
        rw [getD_take _ _ _ (by omega), getD_drop, show i + (m - i) = m by omega]
        simpa using he
theorem numD_of {s : ByteArray} {i k : Nat} (hi : i ≤ k) (hk : k ≤ s.size) (h1 : ((B s).drop i).takeWhile digB = ((B s).drop i).take (k - i)) : endD (B s) i = k := by
  unfold endD numD
  rw [h1, List.length_take, List.length_drop, B_len]
  omega

theorem toList_data (s : ByteArray) : s.toList = s.data.toList := ByteArray.toList_eq s
/-- How two numbers without noughts ahead stand. -/
def lexL : List Nat → List Nat → Int
  | x :: a, y :: b => if x < y then -1 else if y < x then 1 else lexL a b
  | [], [] => 0
  | [], _ => -1
  | _, [] => 1
def numC (a b : List Nat) : Int := if a.length ≠ b.length then sgn ((a.length : Int) - b.length) else lexL a b
theorem bytesLess_lex : ∀ (x y : List UInt8), x.length = y.length → (Op.bytesLess x y = true ↔ lexL (x.map UInt8.toNat) (y.map UInt8.toNat) = -1) ∧ (x = y ↔ lexL (x.map UInt8.toNat) (y.map UInt8.toNat) = 0) ∧ (lexL (x.map UInt8.toNat) (y.map UInt8.toNat) = -1 ∨ lexL (x.map UInt8.toNat) (y.map UInt8.toNat) = 0 ∨ lexL (x.map UInt8.toNat) (y.map UInt8.toNat) = 1)
  | [], [], _ => by simp [Op.bytesLess, lexL]
  | [], _ :: _, h => by simp at h
  | _ :: _, [], h => by simp at h
  | a :: x, b :: y, h => by
    obtain ⟨i1, i2, i3⟩ := bytesLess_lex x y (by simpa using h)
    simp only [Op.bytesLess, List.map_cons, lexL, Bool.or_eq_true, Bool.and_eq_true, decide_eq_true_eq, beq_iff_eq, List.cons.injEq]
    rcases Nat.lt_trichotomy a.toNat b.toNat with hl | he | hg
    · have h1 : a < b := UInt8.lt_iff_toNat_lt.2 hl
      have h2 : a ≠ b := by rintro rfl; omega
      rw [if_pos hl]
      exact ⟨⟨fun _ => rfl, fun _ => .inl h1⟩, ⟨fun hh => absurd hh.1 h2, fun hh => by omega⟩, .inl rfl⟩
    · have h1 : a = b := UInt8.toNat_inj.1 he
      subst h1
      rw [if_neg (by omega), if_neg (by omega)]
      refine ⟨⟨fun hh => ?_, fun hh => .inr ⟨rfl, i1.2 hh⟩⟩, ⟨fun hh => i2.1 hh.2, fun hh => ⟨rfl, i2.2 hh⟩⟩, i3⟩
      rcases hh with hh | hh
      · exact absurd (UInt8.lt_iff_toNat_lt.1 hh) (by omega)
      · exact i1.1 hh.2
    · have h1 : ¬ a < b := fun hh => by have := UInt8.lt_iff_toNat_lt.1 hh; omega
      have h2 : a ≠ b := by rintro rfl; omega
      rw [if_neg (by omega), if_pos hg]
      refine ⟨⟨fun hh => ?_, fun hh => by omega⟩, ⟨fun hh => absurd hh.1 h2, fun hh => by omega⟩, .inr (.inr rfl)⟩
      rcases hh with hh | hh
      · exact absurd hh h1
      · exact absurd hh.1 h2
end Go.Proofs.YtlelajcnfmmmjaaGreatDoor
