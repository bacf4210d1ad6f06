/- What the laws of this seat rest on: Str, CutP, Ref2a, Ref2b, RefDec, RefText, RefRight, RefRight2, RefPrint, RefParse0, RefParse, CmpT, RefCmp, RefCmpV, RefOrder, RelP, Rel1, Rel2, Ver1. -/
import Derived.WalkKit
import Derived.Lib.Hide
import Derived.Test.YtfpbeenaploaiaaGreatDoorChecked
import Derived.WalkLawsBesides
import Derived.WalkSpells
import Derived.Below
import Derived.Laws.IdiomStrings
import Derived.StillTailTactics
import Derived.BigQuiet
import Derived.Deep.QuietTactic

section
/- Strings as lists of numbers: what the walks read of a string, and back. -/
namespace Go.Proofs.YtfpbeenaploaiaaGreatDoor
open Go.RowKit
/-- A string's bytes as numbers. -/
def B (s : ByteArray) : List Nat := s.data.toList.map UInt8.toNat
/-- The string of some bytes. -/
def mk (l : List Nat) : ByteArray := ⟨(l.map UInt8.ofNat).toArray⟩
theorem B_len (s : ByteArray) : (B s).length = s.size := by unfold B; rw [List.length_map, Array.length_toList]; rfl
theorem B_lt (s : ByteArray) : ∀ c ∈ B s, c < 256 := by
  intro c hc
  obtain ⟨u, _, rfl⟩ := List.mem_map.1 hc
  exact u.toNat_lt
theorem mk_B (s : ByteArray) : mk (B s) = s := by
  obtain ⟨⟨l⟩⟩ := s
  simp only [mk, B, List.map_map]
  congr 2
  rw [List.map_congr_left (g := id) (by intro u _; simp), List.map_id]
theorem B_mk {l : List Nat} (h : ∀ c ∈ l, c < 256) : B (mk l) = l := by
  simp only [mk, B, List.map_map]
  rw [List.map_congr_left (g := id) (by intro c hc; have := h c hc; simp; omega), List.map_id]
theorem B_inj {s t : ByteArray} (h : B s = B t) : s = t := by rw [← mk_B s, h, mk_B]
theorem eq_mk {s : ByteArray} {l : List Nat} (h : B s = l) : s = mk l := by rw [← h, mk_B]
theorem B_at (s : ByteArray) (k : Nat) (hk : k < s.size) : (B s)[k]? = some s[k].toNat := by
  unfold B
  rw [List.getElem?_map, List.getElem?_eq_getElem (by rw [Array.length_toList]; exact hk)]
  rfl
theorem B_getD (s : ByteArray) (k : Nat) (hk : k < s.size) : (B s).getD k 0 = s[k].toNat := by
  rw [List.getD_eq_getElem?_getD, B_at s k hk]; rfl
theorem B_drop (s : ByteArray) (k : Nat) (hk : k < s.size) : (B s).drop k = s[k].toNat :: (B s).drop (k + 1) := by
  have h := B_at s k hk
  have hl : k < (B s).length := by rw [B_len]; exact hk
  rw [List.drop_eq_getElem_cons hl]
  rw [List.getElem?_eq_getElem hl] at h
  injection h with h
  rw [h]
theorem B_drop_end (s : ByteArray) (k : Nat) (hk : s.size ≤ k) : (B s).drop k = [] := List.drop_eq_nil_of_le (by rw [B_len]; exact hk)
theorem B_extract (s : ByteArray) (i j : Nat) : B (s.extract i j) = ((B s).drop i).take (j - i) := by
  unfold B
  rw [ByteArray.data_extract, Array.toList_extract]
  simp [List.extract, List.map_take, List.map_drop]
theorem B_append (s t : ByteArray) : B (s ++ t) = B s ++ B t := by
  unfold B
  rw [ByteArray.data_append, Array.toList_append, List.map_append]
theorem byte_le (s : ByteArray) (k : Nat) (hk : k < s.size) : s[k].toNat < 256 := s[k].toNat_lt

def digB (c : Nat) : Bool := decide (48 ≤ c ∧ c ≤ 57)
def letB (c : Nat) : Bool := decide (97 ≤ c ∧ c ≤ 122 ∨ 65 ≤ c ∧ c ≤ 90)
def sgn (n : Int) : Int := if n < 0 then -1 else if 0 < n then 1 else 0
/-- The weight of what a text begins with: of a digit, or nothing: that of the end. -/
def wt : List Nat → Int
  | [] => 0
  | c :: _ => if digB c then 0 else if c = 126 then -1 else if letB c then c else 1000 + c
theorem toList_data (s : ByteArray) : s.toList = s.data.toList := ByteArray.toList_eq s
theorem B_take_snoc (s : ByteArray) (k : Nat) (hk : k < s.size) : (B s).take (k + 1) = (B s).take k ++ [s[k].toNat] := by
  rw [List.take_add_one, B_at s k hk]; rfl
theorem strEq (a : List Nat) (s : ByteArray) (h : ∀ c ∈ a, c < 256) : ((mk a).toList == s.toList) = decide (a = B s) := by
  rw [Bool.eq_iff_iff, beq_iff_eq, decide_eq_true_eq]
  constructor
  · intro he
    rw [toList_data, toList_data] at he
    rw [← B_mk h]
    unfold B
    rw [he]
  · rintro rfl
    rw [mk_B]
end Go.Proofs.YtfpbeenaploaiaaGreatDoor
end

section
/- A text cut at a byte, and texts joined: plain functions on lists of numbers. -/
set_option linter.unusedVariables false
namespace Go.Proofs.YtfpbeenaploaiaaGreatDoor
open Go.RowKit
def preH (p : List Nat) : List (List Nat) → List (List Nat)
  | [] => [p]
  | q :: r => (p ++ q) :: r
/-- A text cut at each c. -/
def cutBy (c : Nat) : List Nat → List (List Nat)
  | [] => [[]]
  | x :: l => if x = c then [] :: cutBy c l else preH [x] (cutBy c l)
theorem preH_ne (p : List Nat) (L : List (List Nat)) : preH p L ≠ [] := by cases L <;> simp [preH]
theorem cutBy_ne (c : Nat) (l : List Nat) : cutBy c l ≠ [] := by
  cases l with
  | nil => simp [cutBy]
  | cons x l => unfold cutBy; split; simp; exact preH_ne _ _
theorem preH_nil {L : List (List Nat)} (h : L ≠ []) : preH [] L = L := by cases L with
  | nil => exact absurd rfl h
  | cons q r => simp [preH]
theorem preH_preH (p q : List Nat) (L : List (List Nat)) : preH p (preH q L) = preH (p ++ q) L := by cases L <;> simp [preH]
theorem preH_len (p : List Nat) {L : List (List Nat)} (h : L ≠ []) : (preH p L).length = L.length := by cases L with
  | nil => exact absurd rfl h
  | cons q r => simp [preH]
theorem cutBy_app {c : Nat} {p : List Nat} (h : ∀ x ∈ p, x ≠ c) (l : List Nat) : cutBy c (p ++ l) = preH p (cutBy c l) := by
  induction p with
  | nil => rw [List.nil_append, preH_nil (cutBy_ne _ _)]
  | cons x p ih =>
    rw [List.cons_append]
    conv => lhs; unfold cutBy
    rw [if_neg (h x (by simp)), ih (fun y hy => h y (by simp [hy])), preH_preH]; rfl
theorem cutBy_none {c : Nat} {p : List Nat} (h : ∀ x ∈ p, x ≠ c) : cutBy c p = [p] := by
  have := cutBy_app h []
  rw [List.append_nil] at this
  rw [this]; simp [cutBy, preH]
theorem cutBy_at {c : Nat} {p : List Nat} (h : ∀ x ∈ p, x ≠ c) (l : List Nat) : cutBy c (p ++ c :: l) = p :: cutBy c l := by
  rw [cutBy_app h]
  conv => lhs; unfold cutBy
  rw [if_pos rfl]; simp [preH]
theorem cutBy_snoc {c : Nat} {x : Nat} (h : x ≠ c) : ∀ l : List Nat, ∃ i z, cutBy c l = i ++ [z] ∧ cutBy c (l ++ [x]) = i ++ [z ++ [x]]
  | [] => ⟨[], [], rfl, by simp [cutBy, h, preH]⟩
  | y :: l => by
    obtain ⟨i, z, h1, h2⟩ := cutBy_snoc h l
    rw [List.cons_append]
    unfold cutBy
    rw [h1, h2]
    by_cases hy : y = c
    · rw [if_pos hy, if_pos hy]; exact ⟨[] :: i, z, rfl, rfl⟩
    · rw [if_neg hy, if_neg hy]
      cases i with
      | nil => exact ⟨[], y :: z, rfl, rfl⟩
      | cons a i => exact ⟨(y :: a) :: i, z, rfl, rfl⟩
theorem cutBy_mem {c : Nat} : ∀ {l : List Nat} {p : List Nat}, p ∈ cutBy c l → ∀ x ∈ p, x ∈ l ∧ x ≠ c
  | [], p, hp, x, hx => by simp [cutBy] at hp; subst hp; simp at hx
  | y :: l, p, hp, x, hx => by
    unfold cutBy at hp
    split at hp
    · rcases List.mem_cons.1 hp with rfl | hp
      · simp at hx
      · exact ⟨List.mem_cons_of_mem _ (cutBy_mem hp x hx).1, (cutBy_mem hp x hx).2⟩
    · rename_i hy
      cases hL : cutBy c l with
      | nil => exact absurd hL (cutBy_ne _ _)
      | cons q r =>
        rw [hL] at hp
        rcases List.mem_cons.1 hp with rfl | hp
        · rcases List.mem_cons.1 hx with rfl | hx
          · exact ⟨by simp, hy⟩
          · have := cutBy_mem (c := c) (l := l) (p := q) (by rw [hL]; simp) x hx
            exact ⟨List.mem_cons_of_mem _ this.1, this.2⟩
        · have := cutBy_mem (c := c) (l := l) (p := p) (by rw [hL]; simp [hp]) x hx
          exact ⟨List.mem_cons_of_mem _ this.1, this.2⟩
theorem cutBy_mem_len {c : Nat} : ∀ {l : List Nat} {p : List Nat}, p ∈ cutBy c l → p.length ≤ l.length
  | [], p, hp => by simp [cutBy] at hp; subst hp; simp
  | y :: l, p, hp => by
    unfold cutBy at hp
    split at hp
    · rcases List.mem_cons.1 hp with rfl | hp
      · simp
      · have := cutBy_mem_len hp; simp; omega
    · cases hL : cutBy c l with
      | nil => exact absurd hL (cutBy_ne _ _)
      | cons q r =>
        rw [hL] at hp
        rcases List.mem_cons.1 hp with rfl | hp
        · have := cutBy_mem_len (c := c) (l := l) (p := q) (by rw [hL]; simp)
          simp; omega
        · have := cutBy_mem_len (c := c) (l := l) (p := p) (by rw [hL]; simp [hp])
          simp; omega
theorem cutBy_len (c : Nat) : ∀ l : List Nat, (cutBy c l).length = l.count c + 1
  | [] => by simp [cutBy]
  | y :: l => by
    unfold cutBy
    split
    · rename_i h; rw [h, List.length_cons, cutBy_len c l, List.count_cons_self]
    · rename_i h; rw [preH_len _ (cutBy_ne _ _), cutBy_len c l, List.count_cons_of_ne (by simpa using fun e => h e)]
theorem twl_all {p : Nat → Bool} : ∀ {l : List Nat} {x : Nat}, x ∈ l.takeWhile p → p x = true
  | [], x, h => by simp at h
  | y :: l, x, h => by
    rw [List.takeWhile_cons] at h
    split at h
    · rcases List.mem_cons.1 h with rfl | h
      · assumption
      · exact twl_all h
    · simp at h
def joinL (sep : List Nat) : List (List Nat) → List Nat
  | [] => []
  | [x] => x
  | x :: y :: r => x ++ (sep ++ joinL sep (y :: r))
theorem joinL_snoc (sep : List Nat) : ∀ (l : List (List Nat)) (x : List Nat), joinL sep (l ++ [x]) = if l = [] then x else joinL sep l ++ (sep ++ x)
  | [], x => rfl
  | [y], x => by simp [joinL]
  | y :: z :: r, x => by
    have := joinL_snoc sep (z :: r) x
    rw [if_neg (by simp)] at this
    rw [if_neg (by simp), List.cons_append, List.cons_append]
    simp only [joinL]
    rw [← List.cons_append, this]; simp
theorem take_mk (s : ByteArray) (i : Nat) : (⟨(s.data.toList.take i).toArray⟩ : ByteArray) = mk ((B s).take i) := by
  apply eq_mk; unfold B; rw [← List.map_take]
theorem drop_mk (s : ByteArray) (i : Nat) : (⟨(s.data.toList.drop i).toArray⟩ : ByteArray) = mk ((B s).drop i) := by
  apply eq_mk; unfold B; rw [← List.map_drop]
/-- The pieces so far: i is where the walk stands, fr where the piece began. -/
def PcInv (c : Nat) (l : List Nat) (out : List (List Nat)) (fr i : Nat) : Prop := fr ≤ i ∧ cutBy c l = out ++ preH ((l.drop fr).take (i - fr)) (cutBy c (l.drop i))
theorem pc_start (c : Nat) (l : List Nat) : PcInv c l [] 0 0 := ⟨Nat.le_refl _, by simp [preH_nil (cutBy_ne _ _)]⟩
theorem pc_cut {c : Nat} {l : List Nat} {out : List (List Nat)} {fr i : Nat} (h : PcInv c l out fr i) (hi : i < l.length) (hc : l.getD i 0 = c) : PcInv c l (out ++ [(l.drop fr).take (i - fr)]) (i + 1) (i + 1) := by
  refine ⟨Nat.le_refl _, ?_⟩
  obtain ⟨h1, h2⟩ := h
  rw [List.getD_eq_getElem?_getD, List.getElem?_eq_getElem hi, Option.getD_some] at hc
  rw [List.drop_eq_getElem_cons hi] at h2
  conv at h2 => rhs; unfold cutBy
  rw [if_pos hc] at h2
  rw [h2, Nat.sub_self, List.take_zero, preH_nil (cutBy_ne _ _)]
  simp [preH]
theorem pc_on {c : Nat} {l : List Nat} {out : List (List Nat)} {fr i : Nat} (h : PcInv c l out fr i) (hi : i < l.length) (hc : l.getD i 0 ≠ c) : PcInv c l out fr (i + 1) := by
  obtain ⟨h1, h2⟩ := h
  refine ⟨by omega, ?_⟩
  rw [List.getD_eq_getElem?_getD, List.getElem?_eq_getElem hi, Option.getD_some] at hc
  rw [List.drop_eq_getElem_cons hi] at h2
  conv at h2 => rhs; unfold cutBy
  rw [if_neg hc, preH_preH] at h2
  rw [h2]
  congr 2
  rw [show i + 1 - fr = (i - fr) + 1 by omega, List.take_succ_eq_append_getElem (by rw [List.length_drop]; omega)]
  congr 2
  rw [List.getElem_drop]
  congr 1
  omega
theorem pc_end {c : Nat} {l : List Nat} {out : List (List Nat)} {fr : Nat} (h : PcInv c l out fr l.length) : cutBy c l = out ++ [l.drop fr] := by
  obtain ⟨h1, h2⟩ := h
  rw [h2, List.drop_length]
  simp only [cutBy, preH, List.append_nil]
  rw [List.take_of_length_le (by rw [List.length_drop]; omega)]
theorem pc_len {c : Nat} {l : List Nat} {out : List (List Nat)} {fr i : Nat} (h : PcInv c l out fr i) : out.length ≤ l.length := by
  have := congrArg List.length h.2
  rw [cutBy_len, List.length_append, preH_len _ (cutBy_ne _ _), cutBy_len] at this
  have h2 := List.count_le_length (a := c) (l := l)
  omega
end Go.Proofs.YtfpbeenaploaiaaGreatDoor
end

section
/- The contracts of the document's own small functions on bytes: digits, letters, signs, weights; memory is as it was. -/
namespace Go.Proofs.YtfpbeenaploaiaaGreatDoor
open Go.RowKit
def hasB (l : List Nat) (c : Nat) : Bool := l.contains c
theorem hasB_take {l : List Nat} {c k : Nat} (h : ∀ j, j < k → l.getD j 256 ≠ c) (hk : l.length ≤ k) : hasB l c = false := by
  unfold hasB
  rw [Bool.eq_false_iff]
  intro hc
  obtain ⟨j, hj, e⟩ := List.getElem_of_mem (List.contains_iff_mem.1 hc)
  exact h j (by omega) (by rw [List.getD_eq_getElem?_getD, List.getElem?_eq_getElem hj]; exact e)
end Go.Proofs.YtfpbeenaploaiaaGreatDoor
end

section
/- The contracts of the document's own digits and numbers: the digits from a place on without noughts ahead, and how two stand; memory is as it was. -/
namespace Go.Proofs.YtfpbeenaploaiaaGreatDoor
open Go.RowKit

/-- The digits ahead, without noughts ahead of them. -/
def digs (l : List Nat) : List Nat := (l.takeWhile digB).dropWhile (fun c => c == 48)
def numD (l : List Nat) : Nat := (l.takeWhile digB).length
def endD (l : List Nat) (i : Nat) : Nat := i + numD (l.drop i)
theorem takeWhile_is {p : Nat → Bool} : ∀ {l : List Nat} {n : Nat}, n ≤ l.length → (∀ j, j < n → p (l.getD j 0) = true) → (n = l.length ∨ p (l.getD n 0) = false) → l.takeWhile p = l.take n
  | [], n, hn, _, _ => by simp
  | c :: l, 0, _, _, h => by
    have : p c = false := by simpa using h
    simp [this]
  | c :: l, n + 1, hn, h1, h2 => by
    have hc : p c = true := by simpa using h1 0 (by omega)
    rw [List.takeWhile_cons, if_pos hc, List.take_succ_cons]
    congr 1
    exact takeWhile_is (by simpa using hn) (fun j hj => by simpa using h1 (j + 1) (by omega)) (by simpa using h2)
theorem dropWhile_is {p : Nat → Bool} : ∀ {l : List Nat} {n : Nat}, n ≤ l.length → (∀ j, j < n → p (l.getD j 0) = true) → (n = l.length ∨ p (l.getD n 0) = false) → l.dropWhile p = l.drop n
  | [], n, hn, _, _ => by simp
  | c :: l, 0, _, _, h => by
    have : p c = false := by simpa using h
    simp [this]
  | c :: l, n + 1, hn, h1, h2 => by
    have hc : p c = true := by simpa using h1 0 (by omega)
    rw [List.dropWhile_cons, if_pos hc, List.drop_succ_cons]
    exact dropWhile_is (by simpa using hn) (fun j hj => by simpa using h1 (j + 1) (by omega)) (by simpa using h2)
theorem getD_drop (l : List Nat) (i j : Nat) : (l.drop i).getD j 0 = l.getD (i + j) 0 := by
  rw [List.getD_eq_getElem?_getD, List.getD_eq_getElem?_getD, List.getElem?_drop]
theorem getD_take (l : List Nat) (n j : Nat) (h : j < n) : (l.take n).getD j 0 = l.getD j 0 := by
  rw [List.getD_eq_getElem?_getD, List.getD_eq_getElem?_getD, List.getElem?_take, if_pos h]
theorem digits_ends {s : ByteArray} {i k : Nat} (hi : i ≤ k) (hk : k ≤ s.size) (h : ∀ j, i ≤ j → j < k → digB ((B s).getD j 0) = true) (he : k = s.size ∨ digB ((B s).getD k 0) = false) :
    ((B s).drop i).takeWhile digB = ((B s).drop i).take (k - i) := by
  refine takeWhile_is (by rw [List.length_drop, B_len]; omega) (fun j hj => by rw [getD_drop]; exact h _ (by omega) (by omega)) ?_
  rcases he with he | he
  · left; rw [List.length_drop, B_len]; omega
  · right; rw [getD_drop, show i + (k - i) = k by omega]; exact he
theorem digits_of {s : ByteArray} {i k m : Nat} (hi : i ≤ m) (hm : m ≤ k) (hk : k ≤ s.size) (h1 : ((B s).drop i).takeWhile digB = ((B s).drop i).take (k - i)) (h : ∀ j, i ≤ j → j < m → (B s).getD j 0 = 48) (he : m = k ∨ (B s).getD m 0 ≠ 48) :
    s.extract m k = mk (digs ((B s).drop i)) := by
  refine eq_mk ?_
  have hl : (((B s).drop i).take (k - i)).length = k - i := by rw [List.length_take, List.length_drop, B_len]; omega
  unfold digs
  rw [h1, B_extract, dropWhile_is (n := m - i) (by omega) (fun j hj => by rw [getD_take _ _ _ (by omega), getD_drop, h _ (by omega) (by omega)]; rfl)]
  · rw [List.drop_take, List.drop_drop, show i + (m - i) = m by omega, show k - i - (m - i) = k - m by omega]
  · rcases he with he | he
    · left; omega
    · by_cases hmk : m = k
      · left; omega
      · right
        rw [getD_take _ _ _ (by omega), getD_drop, show i + (m - i) = m by omega]
        simpa using he
theorem numD_of {s : ByteArray} {i k : Nat} (hi : i ≤ k) (hk : k ≤ s.size) (h1 : ((B s).drop i).takeWhile digB = ((B s).drop i).take (k - i)) : endD (B s) i = k := by
  unfold endD numD
  rw [h1, List.length_take, List.length_drop, B_len]
  omega

/-- How two numbers without noughts ahead stand. -/
def lexL : List Nat → List Nat → Int
  | x :: a, y :: b => if x < y then -1 else if y < x then 1 else lexL a b
  | [], [] => 0
  | [], _ => -1
  | _, [] => 1
def numC (a b : List Nat) : Int := if a.length ≠ b.length then sgn ((a.length : Int) - b.length) else lexL a b
theorem bytesLess_lex : ∀ (x y : List UInt8), x.length = y.length → (Op.bytesLess x y = true ↔ lexL (x.map UInt8.toNat) (y.map UInt8.toNat) = -1) ∧ (x = y ↔ lexL (x.map UInt8.toNat) (y.map UInt8.toNat) = 0) ∧ (lexL (x.map UInt8.toNat) (y.map UInt8.toNat) = -1 ∨ lexL (x.map UInt8.toNat) (y.map UInt8.toNat) = 0 ∨ lexL (x.map UInt8.toNat) (y.map UInt8.toNat) = 1)
  | [], [], _ => by simp [Op.bytesLess, lexL]
  | [], _ :: _, h => by simp at h
  | _ :: _, [], h => by simp at h
  | a :: x, b :: y, h => by
    obtain ⟨i1, i2, i3⟩ := bytesLess_lex x y (by simpa using h)
    simp only [Op.bytesLess, List.map_cons, lexL, Bool.or_eq_true, Bool.and_eq_true, decide_eq_true_eq, beq_iff_eq, List.cons.injEq]
    rcases Nat.lt_trichotomy a.toNat b.toNat with hl | he | hg
    · have h1 : a < b := UInt8.lt_iff_toNat_lt.2 hl
      have h2 : a ≠ b := by rintro rfl; omega
      rw [if_pos hl]
      exact ⟨⟨fun _ => rfl, fun _ => .inl h1⟩, ⟨fun hh => absurd hh.1 h2, fun hh => by omega⟩, .inl rfl⟩
    · have h1 : a = b := UInt8.toNat_inj.1 he
      subst h1
      rw [if_neg (by omega), if_neg (by omega)]
      refine ⟨⟨fun hh => ?_, fun hh => .inr ⟨rfl, i1.2 hh⟩⟩, ⟨fun hh => i2.1 hh.2, fun hh => ⟨rfl, i2.2 hh⟩⟩, i3⟩
      rcases hh with hh | hh
      · exact absurd (UInt8.lt_iff_toNat_lt.1 hh) (by omega)
      · exact i1.1 hh.2
    · have h1 : ¬ a < b := fun hh => by have := UInt8.lt_iff_toNat_lt.1 hh; omega
      have h2 : a ≠ b := by rintro rfl; omega
      rw [if_neg (by omega), if_pos hg]
      refine ⟨⟨fun hh => ?_, fun hh => by omega⟩, ⟨fun hh => absurd hh.1 h2, fun hh => by omega⟩, .inr (.inr rfl)⟩
      rcases hh with hh | hh
      · exact absurd hh h1
      · exact absurd hh.1 h2
end Go.Proofs.YtfpbeenaploaiaaGreatDoor
end

section
/- The contract of the document's own Decimal: a number's digits; memory is as it was. -/
namespace Go.Proofs.YtfpbeenaploaiaaGreatDoor
open Go.RowKit
/-- A number's digits, put ahead of some bytes. -/
def decF : Nat → Nat → List Nat → List Nat
  | 0, _, l => l
  | f + 1, n, l => if n < 10 then (48 + n) :: l else decF f (n / 10) ((48 + n % 10) :: l)
def decL (n : Nat) : List Nat := decF (n + 1) n []
theorem decF_fuel : ∀ (f g n : Nat) (l : List Nat), n < f → n < g → decF f n l = decF g n l
  | 0, _, _, _, h, _ => by omega
  | _ + 1, 0, _, _, _, h => by omega
  | f + 1, g + 1, n, l, h1, h2 => by
    simp only [decF]
    by_cases h : n < 10
    · rw [if_pos h, if_pos h]
    · rw [if_neg h, if_neg h]
      exact decF_fuel f g _ _ (by omega) (by omega)
theorem decF_lt : ∀ (f n : Nat) (l : List Nat), (∀ c ∈ l, c < 256) → ∀ c ∈ decF f n l, c < 256
  | 0, _, _, h => h
  | f + 1, n, l, h => by
    simp only [decF]
    split
    · intro c hc
      rcases List.mem_cons.1 hc with rfl | hc
      · omega
      · exact h c hc
    · refine decF_lt f _ _ (fun c hc => ?_)
      rcases List.mem_cons.1 hc with rfl | hc
      · omega
      · exact h c hc
theorem decL_lt (n : Nat) : ∀ c ∈ decL n, c < 256 := decF_lt _ _ _ (by simp)
def tenS : ByteArray := { data := #[48, 49, 50, 51, 52, 53, 54, 55, 56, 57] }
theorem digit_at : ∀ d, d < 10 → ((B tenS).drop d).take (d + 1 - d) = [48 + d] := by decide
theorem B_digit (s : ByteArray) (d : Nat) (h : d < 10) : B (tenS.extract d (d + 1) ++ s) = (48 + d) :: B s := by
  rw [B_append, B_extract, digit_at d h]; rfl
theorem digit_size (s : ByteArray) (d : Nat) (h : d < 10) : (tenS.extract d (d + 1) ++ s).size = s.size + 1 := by
  rw [← B_len, B_digit s d h, List.length_cons, B_len]
/-- What has been made of a number: nothing yet, or its last digits. -/
def DecRel (n m : Nat) (s : ByteArray) : Prop := (s.size = 0 ∧ m = n) ∨ (s.size ≠ 0 ∧ decL n = if m = 0 then B s else decF (m + 1) m (B s))
theorem decRel_step {n m : Nat} {s : ByteArray} (h : DecRel n m s) (hg : 0 < m ∨ s.size = 0) : DecRel n (m / 10) (tenS.extract (m % 10) (m % 10 + 1) ++ s) := by
  have hd : m % 10 < 10 := Nat.mod_lt _ (by omega)
  right
  rw [digit_size s _ hd, B_digit s _ hd]
  refine ⟨by omega, ?_⟩
  have e : decL n = decF (m + 1) m (B s) := by
    rcases h with ⟨h1, rfl⟩ | ⟨h1, h2⟩
    · have : B s = [] := List.eq_nil_of_length_eq_zero (by rw [B_len]; exact h1)
      rw [this]; rfl
    · rw [h2, if_neg (by omega)]
  rw [e]
  simp only [decF]
  by_cases h10 : m < 10
  · rw [if_pos h10, if_pos (by omega), Nat.mod_eq_of_lt h10]
  · rw [if_neg h10, if_neg (by omega)]
    have := decF_fuel m (m / 10 + 1) (m / 10) ((48 + m % 10) :: B s) (by omega) (by omega)
    rw [this]
    rfl
def decM (x y : Value) : Nat := (intOf x).toNat + (match y with | .string s => 1 - s.size | _ => 0)
theorem decM_step {m : Nat} {s : ByteArray} (h : 0 < m ∨ s.size = 0) : decM (.int .i64 ((m : Int) / 10)) (.string (tenS.extract (m % 10) (m % 10 + 1) ++ s)) < decM (.int .i64 m) (.string s) := by
  have e := digit_size s (m % 10) (Nat.mod_lt _ (by omega))
  unfold decM intOf
  simp only [e]
  omega
end Go.Proofs.YtfpbeenaploaiaaGreatDoor
end

section
/- The contract of the document's own text of a version; memory before is as it was. -/
namespace Go.Proofs.YtfpbeenaploaiaaGreatDoor
open Go.RowKit
def textL (e : Nat) (u r : List Nat) : List Nat := (if e = 0 then [] else decL e ++ [58]) ++ u ++ (if r = [] then [] else 45 :: r)
theorem decF_len : ∀ (f n : Nat) (l : List Nat), (decF f n l).length ≤ f + l.length
  | 0, _, l => by simp [decF]
  | f + 1, n, l => by
    simp only [decF]
    split
    · simp; omega
    · have := decF_len f (n / 10) ((48 + n % 10) :: l); simp at this; omega
theorem decL_len (n : Nat) : (decL n).length ≤ n + 1 := by have := decF_len (n + 1) n []; simpa [decL] using this
theorem size_mk (l : List Nat) : (mk l).size = l.length := by
  unfold mk
  show (List.toArray _).size = _
  simp
theorem empty_iff (s : ByteArray) : s.toList.isEmpty = true ↔ B s = [] := by
  rw [toList_data, List.isEmpty_iff]
  unfold B
  simp
theorem empty_size {s : ByteArray} (h : B s = []) : s.size = 0 := by rw [← B_len, h]; rfl
theorem B_colon : B { data := #[58] } = [58] := by decide
theorem B_dash : B { data := #[45] } = [45] := by decide
theorem colon_size (x y : ByteArray) : (x ++ { data := #[58] } ++ y).size = x.size + 1 + y.size := by
  rw [← B_len, B_append, B_append, B_colon]; simp [B_len]; omega
/-! ### number -/
def numV (l : List Nat) : Nat := l.foldl (fun n c => 10 * n + (c - 48)) 0
def numL (l : List Nat) : Int := if l ≠ [] ∧ l.length ≤ 9 ∧ l.all digB = true ∧ decL (numV l) = l then (numV l : Int) else -1
theorem numV_snoc (l : List Nat) (c : Nat) : numV (l ++ [c]) = 10 * numV l + (c - 48) := by simp [numV, List.foldl_append]
theorem digB_iff {c : Nat} : digB c = true ↔ 48 ≤ c ∧ c ≤ 57 := by simp [digB]
theorem numV_lt : ∀ (l : List Nat), (∀ c ∈ l, digB c = true) → numV l + 1 ≤ 10 ^ l.length := by
  intro l
  rw [← List.reverse_reverse l]
  induction l.reverse with
  | nil => intro _; simp [numV]
  | cons c l ih =>
    intro h
    rw [List.reverse_cons, numV_snoc, List.length_append]
    have h1 := ih (fun d hd => h d (by simp [hd]))
    have h2 := digB_iff.1 (h c (by simp))
    simp only [List.length_singleton, Nat.pow_succ, List.length_reverse] at h1 ⊢
    omega
end Go.Proofs.YtfpbeenaploaiaaGreatDoor
end

section
/- What is a right version, as a plain function; and the refusals that Right makes before its loops. -/
set_option maxRecDepth 100000
namespace Go.Proofs.YtfpbeenaploaiaaGreatDoor
open Go.RowKit
def headD : List Nat → Bool | [] => false | c :: _ => digB c
def chB (x : List Nat) (c : Nat) : Bool := letB c || digB c || hasB x c
def uX : List Nat := [46, 43, 126, 45, 58]
def rX : List Nat := [46, 43, 126]
def rightB (e : Int) (u r : List Nat) : Bool :=
  decide (0 ≤ e ∧ e ≤ 999999999) && headD u && !(hasB u 45 && decide (r = [])) && !(hasB u 58 && decide (e = 0)) && u.all (chB uX) && r.all (chB rX) && decide ((textL e.toNat u r).length ≤ 60)
theorem headD_at (s : ByteArray) (h : 0 < s.size) : headD (B s) = digB s[0].toNat := by
  have := B_drop s 0 h
  rw [List.drop_zero] at this
  rw [this]; rfl
theorem uX_B : B { data := #[46, 43, 126, 45, 58] } = uX := by decide
theorem rX_B : B { data := #[46, 43, 126] } = rX := by decide
theorem all_take {s : ByteArray} {p : Nat → Bool} {k : Nat} (hk : k < s.size) (h : ∀ c ∈ (B s).take k, p c = true) (hp : p s[k].toNat = true) : ∀ c ∈ (B s).take (k + 1), p c = true := by
  intro c hc
  rw [B_take_snoc s k hk] at hc
  rcases List.mem_append.1 hc with hc | hc
  · exact h c hc
  · rw [List.mem_singleton.1 hc]; exact hp
theorem all_end {s : ByteArray} {p : Nat → Bool} {k : Nat} (hk : ¬ k < s.size) (h : ∀ c ∈ (B s).take k, p c = true) : (B s).all p = true := by
  rw [List.take_of_length_le (by rw [B_len]; omega)] at h
  exact List.all_eq_true.2 h
theorem all_not {s : ByteArray} {p : Nat → Bool} {k : Nat} (hk : k < s.size) (hp : p s[k].toNat = false) : (B s).all p = false := by
  rw [Bool.eq_false_iff]
  intro h
  rw [List.all_eq_true] at h
  have := h _ (List.mem_of_getElem? (B_at s k hk))
  rw [hp] at this; cases this
end Go.Proofs.YtfpbeenaploaiaaGreatDoor
end

section
/- Right behind its refusals: the two loops and the text's length. -/
set_option maxRecDepth 100000
namespace Go.Proofs.YtfpbeenaploaiaaGreatDoor
open Go.RowKit
end Go.Proofs.YtfpbeenaploaiaaGreatDoor
end

section
/- The contract of the document's own Print of a version. -/
namespace Go.Proofs.YtfpbeenaploaiaaGreatDoor
open Go.RowKit
def printL (e : Int) (u r : List Nat) : List Nat := if rightB e u r = true then textL e.toNat u r else []
theorem rightB_epoch {e : Int} {u r : List Nat} (h : rightB e u r = true) : 0 ≤ e ∧ e ≤ 999999999 := by
  unfold rightB at h
  simp only [Bool.and_eq_true] at h
  exact of_decide_eq_true h.1.1.1.1.1.1
theorem box_cells {w w1 : World} {T : TypeId} {x y z : Value} (h : Below (w.alloc (.cells #[x, y, z] T)).heap.size (w.alloc (.cells #[x, y, z] T)) w1) :
    w1.cell? ⟨w.heap.size, 0, none⟩ = some x ∧ w1.cell? ⟨w.heap.size, 1, none⟩ = some y ∧ w1.cell? ⟨w.heap.size, 2, none⟩ = some z ∧ w.heap.size + 1 ≤ w1.heap.size := by
  refine ⟨(h.cell (by simp)).trans (by simp), (h.cell (by simp)).trans (by simp), (h.cell (by simp)).trans (by simp), ?_⟩
  have := h.size
  simpa using this
end Go.Proofs.YtfpbeenaploaiaaGreatDoor
end

section
/- What the document's own Parse answers, as a plain function. -/
namespace Go.Proofs.YtfpbeenaploaiaaGreatDoor
open Go.RowKit
/-- The place of the first colon. -/
def firstI : List Nat → Nat → Option Nat
  | [], _ => none
  | c :: l, n => if c = 58 then some n else firstI l (n + 1)
/-- The place of the last dash below one. -/
def lastI (u : List Nat) : Nat → Option Nat
  | 0 => none
  | n + 1 => if u.getD n 0 = 45 then some n else lastI u n
def colE (s : List Nat) : Int := match firstI s 0 with | none => 0 | some i => numL (s.take i)
def colU (s : List Nat) : List Nat := match firstI s 0 with | none => s | some i => s.drop (i + 1)
def dashU (u : List Nat) : List Nat := match lastI u u.length with | none => u | some i => u.take i
def dashR (u : List Nat) : List Nat := match lastI u u.length with | none => [] | some i => u.drop (i + 1)
/-- Whether a text of a bearable length is a version's. -/
def parseB (s : List Nat) : Bool :=
  rightB (colE s) (dashU (colU s)) (dashR (colU s)) && (decide (textL (colE s).toNat (dashU (colU s)) (dashR (colU s)) = s) || decide (48 :: 58 :: textL (colE s).toNat (dashU (colU s)) (dashR (colU s)) = s))
def parseE (s : List Nat) : Int := if s.length > 60 then 9 else if parseB s then 0 else 4
def parse1 (s : List Nat) : Int := if parseE s = 0 then colE s else 0
def parse2 (s : List Nat) : List Nat := if parseE s = 0 then dashU (colU s) else []
def parse3 (s : List Nat) : List Nat := if parseE s = 0 then dashR (colU s) else []
theorem firstI_step {s : ByteArray} {k : Nat} (hk : k < s.size) : firstI ((B s).drop k) k = if s[k].toNat = 58 then some k else firstI ((B s).drop (k + 1)) (k + 1) := by
  rw [B_drop s k hk]; rfl
theorem lastI_step {s : ByteArray} {k : Nat} (hk : k < s.size) : lastI (B s) (k + 1) = if s[k].toNat = 45 then some k else lastI (B s) k := by
  show (if (B s).getD k 0 = 45 then some k else lastI (B s) k) = _
  rw [B_getD s k hk]
theorem lastI_lt {u : List Nat} : ∀ {n i : Nat}, lastI u n = some i → i < n
  | 0, _, h => by cases h
  | n + 1, i, h => by
    simp only [lastI] at h
    split at h
    · injection h with h; omega
    · have := lastI_lt h; omega
/-- What Parse hands back. -/
def parseV (s : ByteArray) : Value := .tuple #[.agg #[.int .i64 (parse1 (B s)), .string (mk (parse2 (B s))), .string (mk (parse3 (B s)))], .int .i64 (parseE (B s))]
theorem parse_bad {s : ByteArray} (h : parseE (B s) ≠ 0) : parseV s = .tuple #[.agg #[.int .i64 0, .string { data := #[] }, .string { data := #[] }], .int .i64 (parseE (B s))] := by
  unfold parseV parse1 parse2 parse3
  rw [if_neg h, if_neg h, if_neg h]; rfl
end Go.Proofs.YtfpbeenaploaiaaGreatDoor
end

section
/- The contract of the document's own Parse. -/
set_option maxRecDepth 100000
namespace Go.Proofs.YtfpbeenaploaiaaGreatDoor
open Go.RowKit
theorem two_boxes {w w1 : World} {T T' : TypeId} {a b c x y z : Value} (h : Below (w.heap.size + 2) ((w.alloc (.cells #[a, b, c] T)).alloc (.cells #[x, y, z] T')) w1) :
    (w1.cell? ⟨w.heap.size, 0, none⟩ = some a ∧ w1.cell? ⟨w.heap.size, 1, none⟩ = some b ∧ w1.cell? ⟨w.heap.size, 2, none⟩ = some c) ∧
    (w1.frozen? ⟨w.heap.size, 0, none⟩ = false ∧ w1.frozen? ⟨w.heap.size, 1, none⟩ = false ∧ w1.frozen? ⟨w.heap.size, 2, none⟩ = false) ∧
    (w1.cell? ⟨w.heap.size + 1, 0, none⟩ = some x ∧ w1.cell? ⟨w.heap.size + 1, 1, none⟩ = some y ∧ w1.cell? ⟨w.heap.size + 1, 2, none⟩ = some z) ∧ w.heap.size + 2 ≤ w1.heap.size ∧ Below w.heap.size w w1 := by
  refine ⟨⟨(h.cell (by simp)).trans (by simp [go_sem]), (h.cell (by simp)).trans (by simp [go_sem]), (h.cell (by simp)).trans (by simp [go_sem])⟩, ⟨(h.frozen (by simp)).trans (by simp [go_sem]), (h.frozen (by simp)).trans (by simp [go_sem]), (h.frozen (by simp)).trans (by simp [go_sem])⟩, ⟨(h.cell (by simp)).trans (by simp [go_sem]), (h.cell (by simp)).trans (by simp [go_sem]), (h.cell (by simp)).trans (by simp [go_sem])⟩, ?_, (((Below.refl _ w).alloc (Nat.le_refl _) _).alloc (by simp) _).trans (h.mono (by omega))⟩
  have := h.size
  simpa using this
theorem fin3 {w W : World} {a b c x y z : Value} (hb : Below w.heap.size w W) (h0 : W.cell? ⟨w.heap.size, 0, none⟩ = some a) (h1 : W.cell? ⟨w.heap.size, 1, none⟩ = some b) (h2 : W.cell? ⟨w.heap.size, 2, none⟩ = some c) :
    (((W.setCell ⟨w.heap.size, 0, none⟩ x).setCell ⟨w.heap.size, 1, none⟩ y).setCell ⟨w.heap.size, 2, none⟩ z).cell? ⟨w.heap.size, 0, none⟩ = some x ∧
    (((W.setCell ⟨w.heap.size, 0, none⟩ x).setCell ⟨w.heap.size, 1, none⟩ y).setCell ⟨w.heap.size, 2, none⟩ z).cell? ⟨w.heap.size, 1, none⟩ = some y ∧
    (((W.setCell ⟨w.heap.size, 0, none⟩ x).setCell ⟨w.heap.size, 1, none⟩ y).setCell ⟨w.heap.size, 2, none⟩ z).cell? ⟨w.heap.size, 2, none⟩ = some z ∧
    Below w.heap.size w (((W.setCell ⟨w.heap.size, 0, none⟩ x).setCell ⟨w.heap.size, 1, none⟩ y).setCell ⟨w.heap.size, 2, none⟩ z) :=
  ⟨by simp [go_sem, h0], by simp [go_sem, h1], by simp [go_sem, h2], ((hb.setCell (by simp) _).setCell (by simp) _).setCell (by simp) _⟩
theorem parseE_of {s : ByteArray} (h : s.size ≤ 60) : parseE (B s) = if parseB (B s) then 0 else 4 := by unfold parseE; rw [if_neg (by rw [B_len]; omega)]
theorem textL_lt (e : Nat) (u r : ByteArray) : ∀ c ∈ textL e (B u) (B r), c < 256 := by
  intro c hc
  unfold textL at hc
  rcases List.mem_append.1 hc with hc | hc
  · rcases List.mem_append.1 hc with hc | hc
    · split at hc
      · cases hc
      · rcases List.mem_append.1 hc with hc | hc
        · exact decL_lt e c hc
        · rw [List.mem_singleton.1 hc]; decide
    · exact B_lt u c hc
  · split at hc
    · cases hc
    · rcases List.mem_cons.1 hc with rfl | hc
      · decide
      · exact B_lt r c hc
theorem rightB_size {e : Int} {u r : List Nat} (h : rightB e u r = true) : (textL e.toNat u r).length ≤ 60 := by
  unfold rightB at h
  simp only [Bool.and_eq_true] at h
  exact of_decide_eq_true h.2
theorem parse_good {s U R : ByteArray} {E : Int} (h : s.size ≤ 60) (hE : E = colE (B s)) (hU : B U = dashU (colU (B s))) (hR : B R = dashR (colU (B s))) (hp : parseB (B s) = true) : parseV s = .tuple #[.agg #[.int .i64 E, .string U, .string R], .int .i64 0] := by
  have h0 : parseE (B s) = 0 := by rw [parseE_of h, hp]; rfl
  unfold parseV parse1 parse2 parse3
  rw [if_pos h0, if_pos h0, if_pos h0, ← hE, ← hU, ← hR, mk_B, mk_B, h0]
theorem parse_wrong {s : ByteArray} (h : s.size ≤ 60) (hp : parseB (B s) = false) : parseV s = .tuple #[.agg #[.int .i64 0, .string { data := #[] }, .string { data := #[] }], .int .i64 4] := by
  have h0 : parseE (B s) = 4 := by rw [parseE_of h, hp]; rfl
  rw [parse_bad (by rw [h0]; decide), h0]
theorem zero_text (e : Nat) (u r s : ByteArray) : ((ByteArray.mk #[48, 58] ++ mk (textL e (B u) (B r))).toList == s.toList) = decide (48 :: 58 :: textL e (B u) (B r) = B s) := by
  have h1 : ByteArray.mk #[48, 58] ++ mk (textL e (B u) (B r)) = mk (48 :: 58 :: textL e (B u) (B r)) := by
    refine eq_mk ?_
    rw [B_append, B_mk (textL_lt e u r)]; rfl
  rw [h1, strEq]
  intro c hc
  rcases List.mem_cons.1 hc with rfl | hc
  · decide
  · rcases List.mem_cons.1 hc with rfl | hc
    · decide
    · exact textL_lt e u r c hc
end Go.Proofs.YtfpbeenaploaiaaGreatDoor
end

section
/- The order of texts on lists of numbers: the weights of what is no digit, then numbers, by turns. -/
namespace Go.Proofs.YtfpbeenaploaiaaGreatDoor
open Go.RowKit
def nonD : List Nat → Bool
  | [] => false
  | c :: _ => !digB c
def cmpT : Nat → List Nat → List Nat → Int
  | 0, _, _ => 0
  | f + 1, a, b =>
    if a = [] ∧ b = [] then 0
    else if (nonD a || nonD b) = true then if sgn (wt a - wt b) ≠ 0 then sgn (wt a - wt b) else cmpT f (a.drop 1) (b.drop 1)
    else if numC (digs a) (digs b) ≠ 0 then numC (digs a) (digs b) else cmpT f (a.drop (numD a)) (b.drop (numD b))
def cmpS (a b : List Nat) : Int := cmpT (a.length + b.length + 1) a b
theorem wt_non {l : List Nat} (h : nonD l = true) : wt l ≠ 0 := by
  cases l with
  | nil => simp [nonD] at h
  | cons c l =>
    simp only [nonD, Bool.not_eq_true'] at h
    simp only [wt, h]
    by_cases h1 : c = 126
    · simp [h1]
    · by_cases h2 : letB c = true
      · simp [h1, h2]
        rintro rfl
        simp [letB] at h2
      · simp [h1, h2]; omega
theorem wt_end {l : List Nat} (h : nonD l = false) : wt l = 0 := by
  cases l with
  | nil => rfl
  | cons c l =>
    simp only [nonD, Bool.not_eq_false'] at h
    simp [wt, h]
theorem sgn_zero {n : Int} : sgn n = 0 ↔ n = 0 := by unfold sgn; split <;> (try split) <;> omega
/-- Where neither weight is the greater one, both texts go on with what is no digit. -/
theorem both_non {a b : List Nat} (h : (nonD a || nonD b) = true) (h0 : ¬ sgn (wt a - wt b) ≠ 0) : nonD a = true ∧ nonD b = true := by
  have h1 : wt a = wt b := by have := sgn_zero.1 (Classical.not_not.1 h0); omega
  cases ha : nonD a <;> cases hb : nonD b
  · simp [ha, hb] at h
  · have := wt_end ha; have := wt_non hb; omega
  · have := wt_non ha; have := wt_end hb; omega
  · exact ⟨rfl, rfl⟩
theorem non_len {l : List Nat} (h : nonD l = true) : 1 ≤ l.length := by
  cases l with
  | nil => simp [nonD] at h
  | cons c l => simp
theorem num_len {l : List Nat} (h : nonD l = false) (hl : l ≠ []) : 1 ≤ numD l := by
  cases l with
  | nil => exact absurd rfl hl
  | cons c l =>
    simp only [nonD, Bool.not_eq_false'] at h
    simp [numD, h]
theorem numD_le (l : List Nat) : numD l ≤ l.length := by unfold numD; exact (List.takeWhile_prefix digB).length_le
theorem cmpT_fuel : ∀ (f g : Nat) (a b : List Nat), a.length + b.length < f → a.length + b.length < g → cmpT f a b = cmpT g a b
  | 0, _, _, _, h, _ => by omega
  | _ + 1, 0, _, _, _, h => by omega
  | f + 1, g + 1, a, b, hf, hg => by
    simp only [cmpT]
    by_cases h0 : a = [] ∧ b = []
    · rw [if_pos h0, if_pos h0]
    · rw [if_neg h0, if_neg h0]
      by_cases h1 : (nonD a || nonD b) = true
      · rw [if_pos h1, if_pos h1]
        by_cases h2 : sgn (wt a - wt b) ≠ 0
        · rw [if_pos h2, if_pos h2]
        · rw [if_neg h2, if_neg h2]
          obtain ⟨ha, hb⟩ := both_non h1 h2
          have := non_len ha
          have := non_len hb
          exact cmpT_fuel f g _ _ (by simp; omega) (by simp; omega)
      · rw [if_neg h1, if_neg h1]
        by_cases h2 : numC (digs a) (digs b) ≠ 0
        · rw [if_pos h2, if_pos h2]
        · rw [if_neg h2, if_neg h2]
          have hna : nonD a = false := by cases h : nonD a <;> simp_all
          have hnb : nonD b = false := by cases h : nonD b <;> simp_all
          have la := numD_le a
          have lb := numD_le b
          have hs : 1 ≤ numD a + numD b := by
            by_cases ha : a = []
            · have := num_len hnb (fun hb => h0 ⟨ha, hb⟩); omega
            · have := num_len hna ha; omega
          exact cmpT_fuel f g _ _ (by simp; omega) (by simp; omega)
theorem cmpS_nil : cmpS [] [] = 0 := rfl
theorem cmpS_wt {a b : List Nat} (h1 : (nonD a || nonD b) = true) : cmpS a b = if sgn (wt a - wt b) ≠ 0 then sgn (wt a - wt b) else cmpS (a.drop 1) (b.drop 1) := by
  have h0 : ¬ (a = [] ∧ b = []) := by rintro ⟨rfl, rfl⟩; simp [nonD] at h1
  unfold cmpS
  rw [cmpT, if_neg h0, if_pos h1]
  by_cases h2 : sgn (wt a - wt b) ≠ 0
  · rw [if_pos h2, if_pos h2]
  · rw [if_neg h2, if_neg h2]
    obtain ⟨ha, hb⟩ := both_non h1 h2
    have := non_len ha
    have := non_len hb
    exact cmpT_fuel _ _ _ _ (by simp; omega) (by omega)
theorem cmpS_num {a b : List Nat} (h0 : ¬ (a = [] ∧ b = [])) (h1 : (nonD a || nonD b) = false) : cmpS a b = if numC (digs a) (digs b) ≠ 0 then numC (digs a) (digs b) else cmpS (a.drop (numD a)) (b.drop (numD b)) := by
  unfold cmpS
  rw [cmpT, if_neg h0, if_neg (by simp [h1])]
  by_cases h2 : numC (digs a) (digs b) ≠ 0
  · rw [if_pos h2, if_pos h2]
  · rw [if_neg h2, if_neg h2]
    have hna : nonD a = false := by cases h : nonD a <;> simp_all
    have hnb : nonD b = false := by cases h : nonD b <;> simp_all
    have la := numD_le a
    have lb := numD_le b
    have hs : 1 ≤ numD a + numD b := by
      by_cases ha : a = []
      · have := num_len hnb (fun hb => h0 ⟨ha, hb⟩); omega
      · have := num_len hna ha; omega
    exact cmpT_fuel _ _ _ _ (by simp; omega) (by omega)
end Go.Proofs.YtfpbeenaploaiaaGreatDoor
end

section
/- The contract of the document's own CompareText: the order of texts; memory is as it was. -/
namespace Go.Proofs.YtfpbeenaploaiaaGreatDoor
open Go.RowKit
theorem wt_bd {l : List Nat} (h : ∀ c ∈ l, c < 256) : -1 ≤ wt l ∧ wt l ≤ 1255 := by
  cases l with
  | nil => simp [wt]
  | cons c l =>
    have := h c (by simp)
    simp only [wt]
    split
    · omega
    · split
      · omega
      · split <;> omega
theorem mk_size (l : List Nat) : (mk l).size = l.length := by
  unfold mk
  show (List.toArray _).size = _
  simp
theorem digs_lt {l : List Nat} (h : ∀ c ∈ l, c < 256) : ∀ c ∈ digs l, c < 256 := fun c hc => h c ((List.takeWhile_prefix digB).subset ((List.dropWhile_suffix _).subset hc))
theorem digs_len (l : List Nat) : (digs l).length ≤ l.length := by
  unfold digs
  exact Nat.le_trans ((List.dropWhile_suffix _).length_le) ((List.takeWhile_prefix digB).length_le)
theorem drop_lt (s : ByteArray) (i : Nat) : ∀ c ∈ (B s).drop i, c < 256 := fun c hc => B_lt s c (List.mem_of_mem_drop hc)
theorem endD_le (l : List Nat) (i : Nat) (h : i ≤ l.length) : i ≤ endD l i ∧ endD l i ≤ l.length := by
  unfold endD
  have := numD_le (l.drop i)
  rw [List.length_drop] at this
  omega
theorem steps {s t : ByteArray} {i k : Nat} (h : (nonD ((B s).drop i) || nonD ((B t).drop k)) = false) : (i < s.size ∨ k < t.size) → i + k < endD (B s) i + endD (B t) k := by
  intro hgo
  have hna : nonD ((B s).drop i) = false := by cases hx : nonD ((B s).drop i) <;> simp_all
  have hnb : nonD ((B t).drop k) = false := by cases hx : nonD ((B t).drop k) <;> simp_all
  unfold endD
  rcases hgo with hgo | hgo
  · have := num_len hna (by intro he; have := congrArg List.length he; rw [List.length_drop, B_len] at this; simp at this; omega)
    omega
  · have := num_len hnb (by intro he; have := congrArg List.length he; rw [List.length_drop, B_len] at this; simp at this; omega)
    omega
theorem nums_of {s t : ByteArray} {i k : Nat} (h : (nonD ((B s).drop i) || nonD ((B t).drop k)) = false) :
    cmpS ((B s).drop i) ((B t).drop k) = if numC (digs ((B s).drop i)) (digs ((B t).drop k)) ≠ 0 then numC (digs ((B s).drop i)) (digs ((B t).drop k)) else cmpS ((B s).drop (endD (B s) i)) ((B t).drop (endD (B t) k)) := by
  by_cases h0 : (B s).drop i = [] ∧ (B t).drop k = []
  · have e1 : (B s).drop (endD (B s) i) = [] := by unfold endD; rw [← List.drop_drop, h0.1]; rfl
    have e2 : (B t).drop (endD (B t) k) = [] := by unfold endD; rw [← List.drop_drop, h0.2]; rfl
    rw [e1, e2, h0.1, h0.2, if_neg (by decide)]
  · rw [cmpS_num h0 h, List.drop_drop, List.drop_drop]
    rfl
end Go.Proofs.YtfpbeenaploaiaaGreatDoor
end

section
/- The contract of the document's own Compare of two versions. -/
namespace Go.Proofs.YtfpbeenaploaiaaGreatDoor
open Go.RowKit
def cmpV (e1 : Int) (u1 r1 : List Nat) (e2 : Int) (u2 r2 : List Nat) : Int :=
  if e1 ≠ e2 then (if e1 < e2 then -1 else 1) else if cmpS u1 u2 ≠ 0 then cmpS u1 u2 else cmpS r1 r2
end Go.Proofs.YtfpbeenaploaiaaGreatDoor
end

section
/- The contract of the document's own Order of two texts. -/
namespace Go.Proofs.YtfpbeenaploaiaaGreatDoor
open Go.RowKit
def orderV (a b : List Nat) : Int :=
  if parseE a ≠ 0 then (if parseE b ≠ 0 then 0 else -1) else if parseE b ≠ 0 then 1 else cmpV (parse1 a) (parse2 a) (parse3 a) (parse1 b) (parse2 b) (parse3 b)
theorem colU_mem {s : List Nat} {c : Nat} (h : c ∈ colU s) : c ∈ s := by
  unfold colU at h
  split at h
  · exact h
  · exact List.mem_of_mem_drop h
theorem dashU_mem {s : List Nat} {c : Nat} (h : c ∈ dashU s) : c ∈ s := by
  unfold dashU at h
  split at h
  · exact h
  · exact List.mem_of_mem_take h
theorem dashR_mem {s : List Nat} {c : Nat} (h : c ∈ dashR s) : c ∈ s := by
  unfold dashR at h
  split at h
  · cases h
  · exact List.mem_of_mem_drop h
theorem colU_len (s : List Nat) : (colU s).length ≤ s.length := by
  unfold colU
  split
  · exact Nat.le_refl _
  · rw [List.length_drop]; omega
theorem dashU_len (s : List Nat) : (dashU s).length ≤ s.length := by
  unfold dashU
  split
  · exact Nat.le_refl _
  · rw [List.length_take]; omega
theorem dashR_len (s : List Nat) : (dashR s).length ≤ s.length := by
  unfold dashR
  split
  · exact Nat.zero_le _
  · rw [List.length_drop]; omega
theorem parse2_lt (s : ByteArray) : ∀ c ∈ parse2 (B s), c < 256 := by
  intro c hc
  unfold parse2 at hc
  split at hc
  · exact B_lt s c (colU_mem (dashU_mem hc))
  · cases hc
theorem parse3_lt (s : ByteArray) : ∀ c ∈ parse3 (B s), c < 256 := by
  intro c hc
  unfold parse3 at hc
  split at hc
  · exact B_lt s c (colU_mem (dashR_mem hc))
  · cases hc
theorem parseE_len {s : List Nat} (h : parseE s = 0) : s.length ≤ 60 := by
  unfold parseE at h
  split at h
  · cases h
  · omega
theorem parse2_len (s : List Nat) : (parse2 s).length ≤ 60 := by
  unfold parse2
  split
  · rename_i h
    have := parseE_len h; have := colU_len s; have := dashU_len (colU s); omega
  · exact Nat.zero_le _
theorem parse3_len (s : List Nat) : (parse3 s).length ≤ 60 := by
  unfold parse3
  split
  · rename_i h
    have := parseE_len h; have := colU_len s; have := dashR_len (colU s); omega
  · exact Nat.zero_le _
end Go.Proofs.YtfpbeenaploaiaaGreatDoor
end

section
/- Names, signs and atoms as plain functions; what is printed is read as it, and back (pure). -/
set_option maxRecDepth 100000
namespace Go.Proofs.YtfpbeenaploaiaaGreatDoor
open Go.RowKit
def plnB (c : Nat) : Bool := decide (97 ≤ c ∧ c ≤ 122) || digB c
def nmcB (c : Nat) : Bool := plnB c || decide (c = 43) || decide (c = 45) || decide (c = 46)
def nameB (l : List Nat) : Bool := decide (2 ≤ l.length) && decide (l.length ≤ 40) && plnB (l.getD 0 0) && l.all nmcB
def signL (op : Int) : List Nat := if op = 1 then [60, 60] else if op = 2 then [60, 61] else if op = 3 then [61] else if op = 4 then [62, 61] else if op = 5 then [62, 62] else []
def opI (l : List Nat) : Int := if l = [60, 60] then 1 else if l = [60, 61] then 2 else if l = [61] then 3 else if l = [62, 61] then 4 else if l = [62, 62] then 5 else 0
/-- Whether a text is that of a right version, as it is printed. -/
def prB (l : List Nat) : Bool := decide (parseE l = 0) && decide (printL (parse1 l) (parse2 l) (parse3 l) = l)
def rightA (n : List Nat) (op : Int) (v : List Nat) : Bool := nameB n && (if op = 0 then decide (v = []) else decide (1 ≤ op ∧ op ≤ 5) && prB v)
def textA (n : List Nat) (op : Int) (v : List Nat) : List Nat := if op = 0 then n else n ++ 32 :: 40 :: (signL op ++ 32 :: (v ++ [41]))
def printA (n : List Nat) (op : Int) (v : List Nat) : List Nat := if rightA n op v = true then textA n op v else []
def cutN (l : List Nat) : List Nat := l.takeWhile (fun c => c != 32)
def cutR (l : List Nat) : List Nat := (l.dropWhile (fun c => c != 32)).drop 1
def cutH (l : List Nat) : Bool := l.any (fun c => c == 32)
def inL (r : List Nat) : List Nat := (r.drop 1).dropLast
def formB (r : List Nat) : Bool := decide (2 ≤ r.length) && decide (r.getD 0 0 = 40) && decide (r.getD (r.length - 1) 0 = 41) && (cutH (inL r) && decide (opI (cutN (inL r)) ≠ 0))
def verL (r : List Nat) : List Nat := cutR (inL r)
def relE (s : List Nat) : Int := if nameB (cutN s) = true then (if cutH s = true then (if formB (cutR s) = true then (if prB (verL (cutR s)) = true then 0 else 4) else 5) else 0) else 3
def relN (s : List Nat) : List Nat := if relE s = 0 then cutN s else []
def relO (s : List Nat) : Int := if relE s = 0 then (if cutH s = true then opI (cutN (inL (cutR s))) else 0) else 0
def relV (s : List Nat) : List Nat := if relE s = 0 then (if cutH s = true then verL (cutR s) else []) else []
/-- What Parse hands back. -/
def relVal (s : ByteArray) : Value := .tuple #[.agg #[.string (mk (relN (B s))), .int .i64 (relO (B s)), .string (mk (relV (B s)))], .int .i64 (relE (B s))]
theorem cut_at {n r : List Nat} (h : ∀ c ∈ n, c ≠ 32) : cutN (n ++ 32 :: r) = n ∧ cutR (n ++ 32 :: r) = r ∧ cutH (n ++ 32 :: r) = true := by
  induction n with
  | nil => exact ⟨by simp [cutN], by simp [cutR], by simp [cutH]⟩
  | cons c n ih =>
    obtain ⟨a, b, d⟩ := ih (fun x hx => h x (by simp [hx]))
    have hc : (c != 32) = true := by rw [bne_iff_ne]; exact h c (by simp)
    refine ⟨?_, ?_, by simp [cutH]⟩
    · show (List.takeWhile _ (c :: (n ++ 32 :: r))) = _
      rw [List.takeWhile_cons, if_pos hc]
      exact congrArg (c :: ·) a
    · show (List.dropWhile _ (c :: (n ++ 32 :: r))).drop 1 = _
      rw [List.dropWhile_cons, if_pos hc]
      exact b
theorem cut_no {l : List Nat} (h : ∀ c ∈ l, c ≠ 32) : cutN l = l ∧ cutR l = [] ∧ cutH l = false := by
  induction l with
  | nil => exact ⟨rfl, rfl, rfl⟩
  | cons c l ih =>
    obtain ⟨a, b, d⟩ := ih (fun x hx => h x (by simp [hx]))
    have hc : (c != 32) = true := by rw [bne_iff_ne]; exact h c (by simp)
    have hc2 : (c == 32) = false := by rw [beq_eq_false_iff_ne]; exact h c (by simp)
    refine ⟨?_, ?_, ?_⟩
    · show (List.takeWhile _ (c :: l)) = _
      rw [List.takeWhile_cons, if_pos hc]
      exact congrArg (c :: ·) a
    · show (List.dropWhile _ (c :: l)).drop 1 = _
      rw [List.dropWhile_cons, if_pos hc]
      exact b
    · show (List.any (c :: l) _) = _
      rw [List.any_cons, hc2, Bool.false_or]
      exact d
theorem cut_back : ∀ {l : List Nat}, cutH l = true → l = cutN l ++ 32 :: cutR l
  | [], h => by simp [cutH] at h
  | c :: l, h => by
    by_cases hc : c = 32
    · subst hc; simp [cutN, cutR]
    · have h1 : (c == 32) = false := by rw [beq_eq_false_iff_ne]; exact hc
      have h2 : (c != 32) = true := by rw [bne_iff_ne]; exact hc
      have h3 : cutH l = true := by
        have : (List.any (c :: l) fun c => c == 32) = true := h
        rw [List.any_cons, h1, Bool.false_or] at this
        exact this
      have ih := cut_back h3
      show c :: l = List.takeWhile _ (c :: l) ++ 32 :: (List.dropWhile _ (c :: l)).drop 1
      rw [List.takeWhile_cons, List.dropWhile_cons, if_pos h2, if_pos h2]
      exact congrArg (c :: ·) ih
theorem cutN_no (l : List Nat) : ∀ c ∈ cutN l, c ≠ 32 := by
  induction l with
  | nil => intro c hc; cases hc
  | cons d l ih =>
    intro c hc
    unfold cutN at hc
    rw [List.takeWhile_cons] at hc
    split at hc
    · rename_i h
      rcases List.mem_cons.1 hc with rfl | hc
      · rwa [bne_iff_ne] at h
      · exact ih c hc
    · cases hc
theorem cutH_no {l : List Nat} (h : cutH l = false) : ∀ c ∈ l, c ≠ 32 := by
  intro c hc e
  subst e
  have : cutH l = true := List.any_eq_true.2 ⟨32, hc, rfl⟩
  rw [h] at this; cases this
theorem cutN_len (l : List Nat) : (cutN l).length ≤ l.length := List.Sublist.length_le (List.takeWhile_sublist _)
theorem cutR_len (l : List Nat) : (cutR l).length ≤ l.length := by
  unfold cutR
  rw [List.length_drop]
  have := List.Sublist.length_le (List.dropWhile_sublist (fun c => c != 32) (l := l))
  omega
theorem cutN_mem {l : List Nat} {c : Nat} (h : c ∈ cutN l) : c ∈ l := (List.takeWhile_sublist _).subset h
theorem cutR_mem {l : List Nat} {c : Nat} (h : c ∈ cutR l) : c ∈ l := (List.dropWhile_sublist _).subset (List.mem_of_mem_drop h)
theorem inL_mem {l : List Nat} {c : Nat} (h : c ∈ inL l) : c ∈ l := List.mem_of_mem_drop ((List.dropLast_sublist _).subset h)
theorem inL_of (m : List Nat) (a b : Nat) : inL (a :: (m ++ [b])) = m := by simp [inL]
theorem form_is {r : List Nat} (h : 2 ≤ r.length) (h0 : r.getD 0 0 = 40) (h1 : r.getD (r.length - 1) 0 = 41) : r = 40 :: (inL r ++ [41]) := by
  rcases r with _ | ⟨a, r⟩
  · simp at h
  · simp only [List.getD_cons_zero] at h0
    subst h0
    have hr : r ≠ [] := by rintro rfl; simp at h
    have hl : r.getLast hr = 41 := by
      rw [List.getLast_eq_getElem]
      have e : (40 :: r).length - 1 = (r.length - 1) + 1 := by have := List.length_pos_iff.2 hr; simp; omega
      rw [e, List.getD_cons_succ, List.getD_eq_getElem?_getD, List.getElem?_eq_getElem (by have := List.length_pos_iff.2 hr; omega)] at h1
      exact h1
    show 40 :: r = 40 :: (r.dropLast ++ [41])
    congr 1
    rw [← hl]
    exact (List.dropLast_concat_getLast hr).symm
theorem op_sign (op : Int) (h : 1 ≤ op ∧ op ≤ 5) : opI (signL op) = op ∧ ∀ c ∈ signL op, c ≠ 32 := by
  have : op = 1 ∨ op = 2 ∨ op = 3 ∨ op = 4 ∨ op = 5 := by omega
  rcases this with rfl | rfl | rfl | rfl | rfl <;> exact ⟨by decide, by decide⟩
theorem sign_op {l : List Nat} (h : opI l ≠ 0) : signL (opI l) = l ∧ 1 ≤ opI l ∧ opI l ≤ 5 := by
  unfold opI at *
  split at h
  · rename_i e; rw [if_pos e, e]; decide
  · rename_i e1
    rw [if_neg e1]
    split at h
    · rename_i e; rw [if_pos e, e]; decide
    · rename_i e2
      rw [if_neg e2]
      split at h
      · rename_i e; rw [if_pos e, e]; decide
      · rename_i e3
        rw [if_neg e3]
        split at h
        · rename_i e; rw [if_pos e, e]; decide
        · rename_i e4
          rw [if_neg e4]
          split at h
          · rename_i e; rw [if_pos e, e]; decide
          · exact absurd rfl h
theorem opI_is (l : List Nat) : 0 ≤ opI l ∧ opI l ≤ 5 := by
  unfold opI
  split
  · decide
  · split
    · decide
    · split
      · decide
      · split
        · decide
        · split <;> decide
theorem name_no {n : List Nat} (h : nameB n = true) : ∀ c ∈ n, c ≠ 32 := by
  unfold nameB at h
  simp only [Bool.and_eq_true] at h
  intro c hc e
  subst e
  have := List.all_eq_true.1 h.2 32 hc
  revert this; decide
theorem name_len {n : List Nat} (h : nameB n = true) : 2 ≤ n.length ∧ n.length ≤ 40 := by
  unfold nameB at h
  simp only [Bool.and_eq_true, decide_eq_true_eq] at h
  exact h.1.1
theorem pr_len {v : List Nat} (h : prB v = true) : v.length ≤ 60 := by
  unfold prB at h
  simp only [Bool.and_eq_true, decide_eq_true_eq] at h
  exact parseE_len h.1
/-- What is printed is read as it. -/
theorem rel_of_text {n v : List Nat} {op : Int} (h : rightA n op v = true) : relE (textA n op v) = 0 ∧ relN (textA n op v) = n ∧ relO (textA n op v) = op ∧ relV (textA n op v) = v := by
  unfold rightA at h
  simp only [Bool.and_eq_true] at h
  obtain ⟨hn, h⟩ := h
  unfold textA
  by_cases h0 : op = 0
  · rw [if_pos h0] at h ⊢
    obtain ⟨c0, c1, c2⟩ := cut_no (name_no hn)
    have hE : relE n = 0 := by unfold relE; rw [c0, if_pos hn, c2, if_neg (by decide)]
    refine ⟨hE, ?_, ?_, ?_⟩
    · unfold relN; rw [if_pos hE, c0]
    · unfold relO; rw [if_pos hE, c2, if_neg (by decide), h0]
    · unfold relV; rw [if_pos hE, c2, if_neg (by decide)]; exact (of_decide_eq_true h).symm
  · rw [if_neg h0] at h ⊢
    simp only [Bool.and_eq_true, decide_eq_true_eq] at h
    obtain ⟨ho, hv⟩ := h
    obtain ⟨so, sn⟩ := op_sign op ho
    obtain ⟨c0, c1, c2⟩ := cut_at (r := 40 :: (signL op ++ 32 :: (v ++ [41]))) (name_no hn)
    have hin : inL (40 :: (signL op ++ 32 :: (v ++ [41]))) = signL op ++ 32 :: v := by
      rw [show (40 : Nat) :: (signL op ++ 32 :: (v ++ [41])) = 40 :: ((signL op ++ 32 :: v) ++ [41]) by simp]
      exact inL_of _ _ _
    obtain ⟨d0, d1, d2⟩ := cut_at (r := v) sn
    have hver : verL (40 :: (signL op ++ 32 :: (v ++ [41]))) = v := by unfold verL; rw [hin, d1]
    have hF : formB (40 :: (signL op ++ 32 :: (v ++ [41]))) = true := by
      unfold formB
      rw [hin, d0, d2, so]
      have e1 : (40 :: (signL op ++ 32 :: (v ++ [41]))).getD ((40 :: (signL op ++ 32 :: (v ++ [41]))).length - 1) 0 = 41 := by
        rw [show (40 : Nat) :: (signL op ++ 32 :: (v ++ [41])) = (40 :: (signL op ++ 32 :: v)) ++ [41] by simp, List.length_append]
        simp [List.getD_eq_getElem?_getD]
      simp only [e1, List.getD_cons_zero, decide_true, Bool.true_and, Bool.and_true, Bool.and_eq_true, decide_eq_true_eq]
      exact ⟨by simp; omega, by omega⟩
    have hE : relE (n ++ 32 :: 40 :: (signL op ++ 32 :: (v ++ [41]))) = 0 := by
      unfold relE; rw [c0, if_pos hn, c2, if_pos rfl, c1, if_pos hF, hver, if_pos hv]
    refine ⟨hE, ?_, ?_, ?_⟩
    · unfold relN; rw [if_pos hE, c0]
    · unfold relO; rw [if_pos hE, c2, if_pos rfl, c1, hin, d0, so]
    · unfold relV; rw [if_pos hE, c2, if_pos rfl, c1, hver]
/-- What is read is right, and its text is what was read. -/
theorem text_of_rel {s : List Nat} (h : relE s = 0) : rightA (relN s) (relO s) (relV s) = true ∧ textA (relN s) (relO s) (relV s) = s := by
  have h' := h
  have hN : relN s = cutN s := by unfold relN; rw [if_pos h]
  have hO : relO s = if cutH s = true then opI (cutN (inL (cutR s))) else 0 := by unfold relO; rw [if_pos h]
  have hV : relV s = if cutH s = true then verL (cutR s) else [] := by unfold relV; rw [if_pos h]
  unfold relE at h'
  split at h'
  · rename_i hn
    split at h'
    · rename_i hc
      split at h'
      · rename_i hf
        split at h'
        · rename_i hp
          rw [if_pos hc] at hO hV
          unfold formB at hf
          simp only [Bool.and_eq_true, decide_eq_true_eq] at hf
          obtain ⟨⟨⟨f0, f1⟩, f2⟩, f3, f4⟩ := hf
          have hr := form_is f0 f1 f2
          obtain ⟨g0, g1⟩ := sign_op f4
          have hi := cut_back f3
          rw [hN, hO, hV]
          constructor
          · unfold rightA
            rw [hn, if_neg f4, hp, decide_eq_true g1]; rfl
          · unfold textA
            rw [if_neg f4, g0]
            have e : (cutN (inL (cutR s)) ++ 32 :: (verL (cutR s) ++ [41]) : List Nat) = inL (cutR s) ++ [41] := by
              conv => rhs; rw [hi]
              unfold verL
              simp
            rw [e, ← hr]
            exact (cut_back hc).symm
        · cases h'
      · cases h'
    · rename_i hc
      rw [if_neg hc] at hO hV
      rw [hN, hO, hV]
      obtain ⟨c0, _, _⟩ := cut_no (cutH_no (by simpa using hc))
      refine ⟨?_, ?_⟩
      · unfold rightA; rw [hn, if_pos rfl]; rfl
      · unfold textA; rw [if_pos rfl, c0]
  · cases h'
theorem rel_none {s : List Nat} (h : relE s ≠ 0) : relN s = [] ∧ relO s = 0 ∧ relV s = [] := ⟨by unfold relN; rw [if_neg h], by unfold relO; rw [if_neg h], by unfold relV; rw [if_neg h]⟩
theorem relE_is (s : List Nat) : relE s = 0 ∨ relE s = 3 ∨ relE s = 4 ∨ relE s = 5 := by
  unfold relE
  split
  · split
    · split
      · split
        · exact .inl rfl
        · exact .inr (.inr (.inl rfl))
      · exact .inr (.inr (.inr rfl))
    · exact .inl rfl
  · exact .inr (.inl rfl)
/-- What the operators ask of how two versions stand. -/
def opB (op c : Int) : Bool := if op = 1 then decide (c < 0) else if op = 2 then decide (c ≤ 0) else if op = 3 then decide (c = 0) else if op = 4 then decide (0 ≤ c) else if op = 5 then decide (0 < c) else false
def holdB (op : Int) (a b : List Nat) : Bool := decide (op = 0) || (decide (parseE a = 0) && decide (parseE b = 0) && opB op (orderV a b))
end Go.Proofs.YtfpbeenaploaiaaGreatDoor
end

section
/- The contracts of the program's signs and operators, and of the bytes of names. -/
set_option maxRecDepth 100000
set_option linter.unusedVariables false
set_option linter.unusedSimpArgs false
namespace Go.Proofs.YtfpbeenaploaiaaGreatDoor
open Go.RowKit
/-- The program's own table of signs. -/
structure Sgn (w : World) : Prop where
  s0 : w.cell? ⟨0, 0, none⟩ = some (.string { data := #[60, 60] })
  s1 : w.cell? ⟨0, 1, none⟩ = some (.string { data := #[60, 61] })
  s2 : w.cell? ⟨0, 2, none⟩ = some (.string { data := #[61] })
  s3 : w.cell? ⟨0, 3, none⟩ = some (.string { data := #[62, 61] })
  s4 : w.cell? ⟨0, 4, none⟩ = some (.string { data := #[62, 62] })
theorem Sgn.below {w w' : World} (E : Sgn w) (h : Below w.heap.size w w') : Sgn w' := by
  obtain ⟨h0, h1, h2, h3, h4⟩ := E
  exact ⟨by rw [h.cell (World.block_lt_of_cell? _ _ h0)]; exact h0, by rw [h.cell (World.block_lt_of_cell? _ _ h1)]; exact h1, by rw [h.cell (World.block_lt_of_cell? _ _ h2)]; exact h2, by rw [h.cell (World.block_lt_of_cell? _ _ h3)]; exact h3, by rw [h.cell (World.block_lt_of_cell? _ _ h4)]; exact h4⟩
theorem signL_out {op : Int} (h : op < 1 ∨ 5 < op) : signL op = [] := by
  unfold signL
  rw [if_neg (by omega), if_neg (by omega), if_neg (by omega), if_neg (by omega), if_neg (by omega)]
theorem rsign_any (op : Int) (w : World) (E : Sgn w) : Calls Tryz.prog 32 #[.int .i64 op] w fun e w' => e = .returned (.string (mk (signL op))) ∧ w = w' := by
  obtain ⟨c0, c1, c2, c3, c4⟩ := E
  by_cases h : op < 1 ∨ 5 < op
  · have X := Lib.hid (signL_out h)
    by_cases h1 : op < 1
    · clear h
      go_enter Tryz.func32, Tryz.ntmps32
      go_wp2
      go_ret
      exact ⟨by rw [X.out]; rfl, rfl⟩
    · have h2 : 5 < op := by omega
      clear h
      go_enter Tryz.func32, Tryz.ntmps32
      go_wp2
      go_ret
      exact ⟨by rw [X.out]; rfl, rfl⟩
  · have : op = 1 ∨ op = 2 ∨ op = 3 ∨ op = 4 ∨ op = 5 := by omega
    clear h
    rcases this with rfl | rfl | rfl | rfl | rfl
    all_goals
      go_enter Tryz.func32, Tryz.ntmps32
      go_wp2
      go_ret
      exact ⟨rfl, rfl⟩
theorem sEq (s : ByteArray) (l : List Nat) (hl : ∀ c ∈ l, c < 256) : (s.toList == (mk l).toList) = decide (B s = l) := by
  have h := strEq l s hl
  rw [Bool.eq_iff_iff] at h ⊢
  simp only [beq_iff_eq, decide_eq_true_eq] at h ⊢
  exact ⟨fun e => (h.1 e.symm).symm, fun e => (h.2 e.symm).symm⟩
theorem sEqL (s : ByteArray) (m : List UInt8) (l : List Nat) (e : m = l.map UInt8.ofNat) (hl : ∀ c ∈ l, c < 256) : (s.toList == m) = decide (B s = l) := by
  rw [← sEq s l hl, toList_data (mk l), e]; rfl
theorem rop_any (s : ByteArray) (w : World) (E : Sgn w) : Calls Tryz.prog 61 #[.string s] w fun e w' => e = .returned (.tuple #[.int .i64 (opI (B s)), .bool (decide (opI (B s) ≠ 0))]) ∧ w = w' := by
  obtain ⟨c0, c1, c2, c3, c4⟩ := E
  have q0 : (s.toList == [60, 60]) = decide (B s = [60, 60]) := sEqL s [60, 60] [60, 60] rfl (by decide)
  have q1 : (s.toList == [60, 61]) = decide (B s = [60, 61]) := sEqL s [60, 61] [60, 61] rfl (by decide)
  have q2 : (s.toList == [61]) = decide (B s = [61]) := sEqL s [61] [61] rfl (by decide)
  have q3 : (s.toList == [62, 61]) = decide (B s = [62, 61]) := sEqL s [62, 61] [62, 61] rfl (by decide)
  have q4 : (s.toList == [62, 62]) = decide (B s = [62, 62]) := sEqL s [62, 62] [62, 62] rfl (by decide)
  have X := Lib.hid (show opI (B s) = if B s = [60, 60] then 1 else if B s = [60, 61] then 2 else if B s = [61] then 3 else if B s = [62, 61] then 4 else if B s = [62, 62] then 5 else 0 from rfl)
  generalize B s = b at *
  have five : ∀ r : Int, opI b = r → (r = 1 ∧ decide (b = [60, 60]) = true ∨ r = 2 ∧ decide (b = [60, 60]) = false ∧ decide (b = [60, 61]) = true ∨ r = 3 ∧ decide (b = [60, 60]) = false ∧ decide (b = [60, 61]) = false ∧ decide (b = [61]) = true ∨
      r = 4 ∧ decide (b = [60, 60]) = false ∧ decide (b = [60, 61]) = false ∧ decide (b = [61]) = false ∧ decide (b = [62, 61]) = true ∨ r = 5 ∧ decide (b = [60, 60]) = false ∧ decide (b = [60, 61]) = false ∧ decide (b = [61]) = false ∧ decide (b = [62, 61]) = false ∧ decide (b = [62, 62]) = true ∨
      r = 0 ∧ decide (b = [60, 60]) = false ∧ decide (b = [60, 61]) = false ∧ decide (b = [61]) = false ∧ decide (b = [62, 61]) = false ∧ decide (b = [62, 62]) = false) := by
    intro r hr
    rw [X.out] at hr
    simp only [decide_eq_true_eq, decide_eq_false_iff_not]
    repeat' split at hr
    all_goals simp_all
  obtain ⟨r, hr⟩ : ∃ r, opI b = r := ⟨_, rfl⟩
  have h5 := five r hr
  rw [hr]
  clear X five hr
  have i0 : ∀ w, (Instr.index 87 (.agg #[.string { data := #[60, 60] }, .string { data := #[60, 61] }, .string { data := #[61] }, .string { data := #[62, 61] }, .string { data := #[62, 62] }]) (.int .i64 0)).run Tryz.prog w = .ok (.string { data := #[60, 60] }) w := fun _ => by kernel_rfl
  have i1 : ∀ w, (Instr.index 87 (.agg #[.string { data := #[60, 60] }, .string { data := #[60, 61] }, .string { data := #[61] }, .string { data := #[62, 61] }, .string { data := #[62, 62] }]) (.int .i64 1)).run Tryz.prog w = .ok (.string { data := #[60, 61] }) w := fun _ => by kernel_rfl
  have i2 : ∀ w, (Instr.index 87 (.agg #[.string { data := #[60, 60] }, .string { data := #[60, 61] }, .string { data := #[61] }, .string { data := #[62, 61] }, .string { data := #[62, 62] }]) (.int .i64 2)).run Tryz.prog w = .ok (.string { data := #[61] }) w := fun _ => by kernel_rfl
  have i3 : ∀ w, (Instr.index 87 (.agg #[.string { data := #[60, 60] }, .string { data := #[60, 61] }, .string { data := #[61] }, .string { data := #[62, 61] }, .string { data := #[62, 62] }]) (.int .i64 3)).run Tryz.prog w = .ok (.string { data := #[62, 61] }) w := fun _ => by kernel_rfl
  have i4 : ∀ w, (Instr.index 87 (.agg #[.string { data := #[60, 60] }, .string { data := #[60, 61] }, .string { data := #[61] }, .string { data := #[62, 61] }, .string { data := #[62, 62] }]) (.int .i64 4)).run Tryz.prog w = .ok (.string { data := #[62, 62] }) w := fun _ => by kernel_rfl
  rcases h5 with ⟨rfl, a0⟩ | ⟨rfl, a0, a1⟩ | ⟨rfl, a0, a1, a2⟩ | ⟨rfl, a0, a1, a2, a3⟩ | ⟨rfl, a0, a1, a2, a3, a4⟩ | ⟨rfl, a0, a1, a2, a3, a4⟩
  · rw [a0] at q0
    clear a0
    go_enter Tryz.func61, Tryz.ntmps61
    go_wp2
    go_loop [7] (fun x => ∃ k : Nat, k ≤ 0 ∧ x = .int .i64 k) (fun x => 5 - (intOf x).toNat)
    case atStart => exact ⟨0, Nat.zero_le _, rfl⟩
    case round =>
      obtain ⟨k, hk, rfl⟩ := hrel
      have hk' : k = 0 := by omega
      clear hk
      obtain rfl := hk'
      · go_wp2
        go_ret2
        exact ⟨rfl, rfl⟩
  · rw [a0] at q0
    rw [a1] at q1
    clear a0 a1
    go_enter Tryz.func61, Tryz.ntmps61
    go_wp2
    go_loop [7] (fun x => ∃ k : Nat, k ≤ 1 ∧ x = .int .i64 k) (fun x => 5 - (intOf x).toNat)
    case atStart => exact ⟨0, Nat.zero_le _, rfl⟩
    case round =>
      obtain ⟨k, hk, rfl⟩ := hrel
      have hk' : k = 0 ∨ k = 1 := by omega
      clear hk
      rcases hk' with rfl | rfl
      · go_wp2
        go_round
        case rel => exact ⟨1, by omega, by go_num⟩
        case measure => simp [intOf]
      · go_wp2
        go_ret2
        exact ⟨rfl, rfl⟩
  · rw [a0] at q0
    rw [a1] at q1
    rw [a2] at q2
    clear a0 a1 a2
    go_enter Tryz.func61, Tryz.ntmps61
    go_wp2
    go_loop [7] (fun x => ∃ k : Nat, k ≤ 2 ∧ x = .int .i64 k) (fun x => 5 - (intOf x).toNat)
    case atStart => exact ⟨0, Nat.zero_le _, rfl⟩
    case round =>
      obtain ⟨k, hk, rfl⟩ := hrel
      have hk' : k = 0 ∨ k = 1 ∨ k = 2 := by omega
      clear hk
      rcases hk' with rfl | rfl | rfl
      · go_wp2
        go_round
        case rel => exact ⟨1, by omega, by go_num⟩
        case measure => simp [intOf]
      · go_wp2
        go_round
        case rel => exact ⟨2, by omega, by go_num⟩
        case measure => simp [intOf]
      · go_wp2
        go_ret2
        exact ⟨rfl, rfl⟩
  · rw [a0] at q0
    rw [a1] at q1
    rw [a2] at q2
    rw [a3] at q3
    clear a0 a1 a2 a3
    go_enter Tryz.func61, Tryz.ntmps61
    go_wp2
    go_loop [7] (fun x => ∃ k : Nat, k ≤ 3 ∧ x = .int .i64 k) (fun x => 5 - (intOf x).toNat)
    case atStart => exact ⟨0, Nat.zero_le _, rfl⟩
    case round =>
      obtain ⟨k, hk, rfl⟩ := hrel
      have hk' : k = 0 ∨ k = 1 ∨ k = 2 ∨ k = 3 := by omega
      clear hk
      rcases hk' with rfl | rfl | rfl | rfl
      · go_wp2
        go_round
        case rel => exact ⟨1, by omega, by go_num⟩
        case measure => simp [intOf]
      · go_wp2
        go_round
        case rel => exact ⟨2, by omega, by go_num⟩
        case measure => simp [intOf]
      · go_wp2
        go_round
        case rel => exact ⟨3, by omega, by go_num⟩
        case measure => simp [intOf]
      · go_wp2
        go_ret2
        exact ⟨rfl, rfl⟩
  · rw [a0] at q0
    rw [a1] at q1
    rw [a2] at q2
    rw [a3] at q3
    rw [a4] at q4
    clear a0 a1 a2 a3 a4
    go_enter Tryz.func61, Tryz.ntmps61
    go_wp2
    go_loop [7] (fun x => ∃ k : Nat, k ≤ 4 ∧ x = .int .i64 k) (fun x => 5 - (intOf x).toNat)
    case atStart => exact ⟨0, Nat.zero_le _, rfl⟩
    case round =>
      obtain ⟨k, hk, rfl⟩ := hrel
      have hk' : k = 0 ∨ k = 1 ∨ k = 2 ∨ k = 3 ∨ k = 4 := by omega
      clear hk
      rcases hk' with rfl | rfl | rfl | rfl | rfl
      · go_wp2
        go_round
        case rel => exact ⟨1, by omega, by go_num⟩
        case measure => simp [intOf]
      · go_wp2
        go_round
        case rel => exact ⟨2, by omega, by go_num⟩
        case measure => simp [intOf]
      · go_wp2
        go_round
        case rel => exact ⟨3, by omega, by go_num⟩
        case measure => simp [intOf]
      · go_wp2
        go_round
        case rel => exact ⟨4, by omega, by go_num⟩
        case measure => simp [intOf]
      · go_wp2
        go_ret2
        exact ⟨rfl, rfl⟩
  · rw [a0] at q0
    rw [a1] at q1
    rw [a2] at q2
    rw [a3] at q3
    rw [a4] at q4
    clear a0 a1 a2 a3 a4
    go_enter Tryz.func61, Tryz.ntmps61
    go_wp2
    go_loop [7] (fun x => ∃ k : Nat, k ≤ 5 ∧ x = .int .i64 k) (fun x => 5 - (intOf x).toNat)
    case atStart => exact ⟨0, Nat.zero_le _, rfl⟩
    case round =>
      obtain ⟨k, hk, rfl⟩ := hrel
      have hk' : k = 0 ∨ k = 1 ∨ k = 2 ∨ k = 3 ∨ k = 4 ∨ k = 5 := by omega
      clear hk
      rcases hk' with rfl | rfl | rfl | rfl | rfl | rfl
      · go_wp2
        go_round
        case rel => exact ⟨1, by omega, by go_num⟩
        case measure => simp [intOf]
      · go_wp2
        go_round
        case rel => exact ⟨2, by omega, by go_num⟩
        case measure => simp [intOf]
      · go_wp2
        go_round
        case rel => exact ⟨3, by omega, by go_num⟩
        case measure => simp [intOf]
      · go_wp2
        go_round
        case rel => exact ⟨4, by omega, by go_num⟩
        case measure => simp [intOf]
      · go_wp2
        go_round
        case rel => exact ⟨5, by omega, by go_num⟩
        case measure => simp [intOf]
      · go_wp2
        go_ret2
        exact ⟨rfl, rfl⟩
end Go.Proofs.YtfpbeenaploaiaaGreatDoor
end

section
/- The contract of the program's Name: whether a text is a name. -/
set_option maxRecDepth 100000
set_option linter.unusedVariables false
set_option linter.unusedSimpArgs false
namespace Go.Proofs.YtfpbeenaploaiaaGreatDoor
open Go.RowKit
theorem rplain_any (c : Nat) (w : World) : Calls Tryz.prog 58 #[.int .u8 (c : Int)] w fun e w' => e = .returned (.bool (plnB c)) ∧ w = w' := by
  have X := Lib.hid (show plnB c = ((decide ((97 : Int) ≤ c) && decide ((c : Int) ≤ 122)) || (decide ((48 : Int) ≤ c) && decide ((c : Int) ≤ 57))) by unfold plnB digB; rw [Bool.eq_iff_iff]; simp; omega)
  go_enter Tryz.func58, Tryz.ntmps58
  go_wp2
  all_goals
    go_ret
    refine ⟨congrArg (fun b => Ending.returned (.bool b)) ?_, rfl⟩
    rw [X.out, Bool.eq_iff_iff]
    simp
    omega
theorem bytes_cells (w : World) (s : ByteArray) : ∃ (cap : Nat) (w1 : World), (convert 9 78 (.string s)).run Tryz.prog w = .ok (.slice (some ⟨w.heap.size, 0, none⟩) s.size cap) w1 ∧ Below w.heap.size w w1 ∧ ∀ (k : Nat) (hk : k < s.size), w1.cell? ⟨w.heap.size, k, none⟩ = some (.int .u8 (s[k].toNat : Int)) := by
  refine ⟨_, _, run_bytes_of_string w 9 78 5 s Tryz.underlying9 Tryz.underlying78 Tryz.underlying5, (Below.refl _ w).drew.alloc (Nat.le_refl _) _, ?_⟩
  intro k hk
  have hk2 : k < s.data.size := hk
  have : (bytesRow s (grownCap w s.size 0 5))[k]? = some (.int .u8 (s[k].toNat : Int)) := by
    unfold bytesRow
    rw [Array.getElem?_append_left (by simpa using hk2), Array.getElem?_map, Array.getElem?_eq_getElem hk2]
    rfl
  exact (World.cell?_alloc_mark w.drew _ _ _ k).trans this
theorem nameB_is (s : ByteArray) (h2 : 2 ≤ s.size) (h40 : s.size ≤ 40) (h0 : plnB s[0].toNat = true) : nameB (B s) = (B s).all nmcB := by
  unfold nameB
  rw [B_len, B_getD s 0 (by omega), h0, decide_eq_true h2, decide_eq_true h40]; rfl
theorem nm_not {s : ByteArray} {k : Nat} (hk : k < s.size) (h : nmcB s[k].toNat = false) : (B s).all nmcB = false := by
  rw [Bool.eq_false_iff]
  intro ha
  have := List.all_eq_true.1 ha s[k].toNat (List.mem_of_getElem? (B_at s k hk))
  rw [h] at this; cases this
theorem nm_yes {s : ByteArray} (h : ∀ j, j < s.size → nmcB ((B s).getD j 0) = true) : (B s).all nmcB = true := by
  rw [List.all_eq_true]
  intro c hc
  obtain ⟨j, hj, e⟩ := List.getElem_of_mem hc
  rw [B_len] at hj
  have := h j hj
  rwa [List.getD_eq_getElem?_getD, List.getElem?_eq_getElem (by rw [B_len]; exact hj), e] at this
theorem rname_any (s : ByteArray) (w : World) : Calls Tryz.prog 45 #[.string s] w fun e w' => e = .returned (.bool (nameB (B s))) ∧ Below w.heap.size w w' := by
  by_cases h2 : s.size < 2
  · have X := Lib.hid (show nameB (B s) = false by unfold nameB; rw [B_len, decide_eq_false (by omega)]; rfl)
    go_enter Tryz.func45, Tryz.ntmps45
    go_wp2
    go_ret
    exact ⟨by rw [X.out]; rfl, Below.refl _ _⟩
  · by_cases h40 : 40 < s.size
    · have X := Lib.hid (show nameB (B s) = false by unfold nameB; rw [B_len, decide_eq_false (p := s.size ≤ 40) (by omega), Bool.and_false]; rfl)
      have h40' : (40 : Int) < (s.size : Int) := by omega
      go_enter Tryz.func45, Tryz.ntmps45
      go_wp2
      go_ret
      exact ⟨by rw [X.out]; rfl, Below.refl _ _⟩
    · have hs0 : 0 < s.size := by omega
      cases h0 : plnB s[0].toNat
      · have X := Lib.hid (show nameB (B s) = false by unfold nameB; rw [B_getD s 0 hs0, h0, Bool.and_false]; rfl)
        go_enter Tryz.func45, Tryz.ntmps45
        go_wp2_with (go_at_call 58; refine (rplain_any _ _).mono ?_; rw [h0]; rintro e w' ⟨rfl, rfl⟩)
        go_ret
        exact ⟨by rw [X.out]; rfl, Below.refl _ _⟩
      · have X := Lib.hid (nameB_is s (by omega) (by omega) h0)
        obtain ⟨cap, w1, hcv, hb, hcells⟩ := bytes_cells w s
        have HB := Lib.hid hb
        have HC := Lib.hid hcells
        have hlen : s.size ≤ 40 := by omega
        clear hb hcells
        go_enter Tryz.func45, Tryz.ntmps45
        go_wp2_with (go_at_call 58; refine (rplain_any _ _).mono ?_; rw [h0]; rintro e w' ⟨rfl, rfl⟩)
        clear h0 hcv
        go_loop [22] (fun x => ∃ k : Nat, k ≤ s.size ∧ x = .int .i64 k ∧ ∀ j, j < k → nmcB ((B s).getD j 0) = true) (fun x => s.size - (intOf x).toNat)
        case atStart => exact ⟨0, Nat.zero_le _, rfl, fun j hj => by omega⟩
        case round =>
          obtain ⟨k, hk, rfl, hno⟩ := hrel
          have HN := Lib.hid hno
          clear hno
          by_cases hlt : k < s.size
          · have hcell := HC.out k hlt
            have HD := Lib.hid (B_getD s k hlt)
            have NC := Lib.hid (show nmcB s[k].toNat = (plnB s[k].toNat || decide (s[k].toNat = 43) || decide (s[k].toNat = 45) || decide (s[k].toNat = 46)) from rfl)
            have AN := Lib.hid (nm_not hlt)
            have p1 : ((s[k].toNat : Int) != 43) = !decide (s[k].toNat = 43) := by rw [Bool.eq_iff_iff]; simp; omega
            have p2 : ((s[k].toNat : Int) != 45) = !decide (s[k].toNat = 45) := by rw [Bool.eq_iff_iff]; simp; omega
            have p3 : ((s[k].toNat : Int) != 46) = !decide (s[k].toNat = 46) := by rw [Bool.eq_iff_iff]; simp; omega
            generalize s[k].toNat = c at *
            cases g0 : plnB c
            · rw [g0] at NC
              cases g1 : decide (c = 43) <;> rw [g1] at p1 NC
              · cases g2 : decide (c = 45) <;> rw [g2] at p2 NC
                · cases g3 : decide (c = 46) <;> rw [g3] at p3 NC
                  · clear g1 g2 g3
                    go_wp2_with (go_at_call 58; refine (rplain_any _ _).mono ?_; rw [g0]; rintro e w' ⟨rfl, rfl⟩)
                    go_ret
                    exact ⟨by rw [X.out, AN.out (by rw [NC.out]; rfl)]; rfl, HB.out⟩
                  · clear g1 g2 g3
                    go_wp2_with (go_at_call 58; refine (rplain_any _ _).mono ?_; rw [g0]; rintro e w' ⟨rfl, rfl⟩)
                    go_round
                    case rel => exact ⟨k + 1, by omega, by go_num, fun j hj => by rcases (by omega : j < k ∨ j = k) with h | rfl; exact HN.out j h; rw [HD.out, NC.out]; rfl⟩
                    case measure => simp [intOf]; omega
                · clear g1 g2 p3
                  go_wp2_with (go_at_call 58; refine (rplain_any _ _).mono ?_; rw [g0]; rintro e w' ⟨rfl, rfl⟩)
                  go_round
                  case rel => exact ⟨k + 1, by omega, by go_num, fun j hj => by rcases (by omega : j < k ∨ j = k) with h | rfl; exact HN.out j h; rw [HD.out, NC.out]; simp⟩
                  case measure => simp [intOf]; omega
              · clear g1 p2 p3
                go_wp2_with (go_at_call 58; refine (rplain_any _ _).mono ?_; rw [g0]; rintro e w' ⟨rfl, rfl⟩)
                go_round
                case rel => exact ⟨k + 1, by omega, by go_num, fun j hj => by rcases (by omega : j < k ∨ j = k) with h | rfl; exact HN.out j h; rw [HD.out, NC.out]; simp⟩
                case measure => simp [intOf]; omega
            · rw [g0] at NC
              clear p1 p2 p3
              go_wp2_with (go_at_call 58; refine (rplain_any _ _).mono ?_; rw [g0]; rintro e w' ⟨rfl, rfl⟩)
              go_round
              case rel => exact ⟨k + 1, by omega, by go_num, fun j hj => by rcases (by omega : j < k ∨ j = k) with h | rfl; exact HN.out j h; rw [HD.out, NC.out]; simp⟩
              case measure => simp [intOf]; omega
          · have Y := Lib.hid (nm_yes (s := s) (fun j hj => HN.out j (by omega)))
            go_wp2
            go_ret
            exact ⟨by rw [X.out, Y.out]; rfl, HB.out⟩
end Go.Proofs.YtfpbeenaploaiaaGreatDoor
end

section
/- The contracts of the program's own small functions on bytes, and of a text parted behind its first bytes that are so. -/
set_option maxRecDepth 100000
namespace Go.Proofs.YtfpbeenaploaiaaGreatDoor
open Go.RowKit
theorem vdigit_any (c : Nat) (w : World) : Calls Tryz.prog 93 #[.int .u8 (c : Int)] w fun e w' => e = .returned (.bool (digB c)) ∧ w = w' := by
  have X := Lib.hid (show digB c = (decide ((48 : Int) ≤ c) && decide ((c : Int) ≤ 57)) by unfold digB; rw [Bool.eq_iff_iff]; simp; omega)
  by_cases h : (48 : Int) ≤ c
  · go_enter Tryz.func93, Tryz.ntmps93
    go_wp2
    go_ret
    refine ⟨?_, rfl⟩
    rw [X.out]; simp [h]
  · have h2 : (c : Int) < 48 := by omega
    go_enter Tryz.func93, Tryz.ntmps93
    go_wp2
    go_ret
    refine ⟨?_, rfl⟩
    rw [X.out]; simp; omega
theorem vnotDigit_any (c : Nat) (w : World) : Calls Tryz.prog 92 #[.int .u8 (c : Int)] w fun e w' => e = .returned (.bool (!digB c)) ∧ w = w' := by
  cases h : digB c
  all_goals
    go_enter Tryz.func92, Tryz.ntmps92
    go_wp2_with (go_at_call 93; refine (vdigit_any _ _).mono ?_; rw [h]; rintro e w' ⟨rfl, rfl⟩)
    go_ret
    exact ⟨rfl, rfl⟩
theorem vletter_any (c : Nat) (w : World) : Calls Tryz.prog 105 #[.int .u8 (c : Int)] w fun e w' => e = .returned (.bool (letB c)) ∧ w = w' := by
  have X := Lib.hid (show letB c = ((decide ((65 : Int) ≤ c) && decide ((c : Int) ≤ 90)) || (decide ((97 : Int) ≤ c) && decide ((c : Int) ≤ 122))) by unfold letB; rw [Bool.eq_iff_iff]; simp; omega)
  go_enter Tryz.func105, Tryz.ntmps105
  go_wp2
  all_goals
    go_ret
    refine ⟨congrArg (fun b => Ending.returned (.bool b)) ?_, rfl⟩
    rw [X.out, Bool.eq_iff_iff]
    simp
    omega
theorem rX_is (c : Nat) : hasB rX c = (decide (c = 46) || decide (c = 43) || decide (c = 126)) := by
  unfold hasB rX
  rw [Bool.eq_iff_iff]
  simp
  omega
theorem uX_is (c : Nat) : chB uX c = (chB rX c || decide (c = 45) || decide (c = 58)) := by
  unfold chB hasB uX rX
  cases letB c <;> cases digB c <;> rw [Bool.eq_iff_iff] <;> simp
  omega
theorem vrev_any (c : Nat) (w : World) : Calls Tryz.prog 87 #[.int .u8 (c : Int)] w fun e w' => e = .returned (.bool (chB rX c)) ∧ w = w' := by
  have X := Lib.hid (show chB rX c = (letB c || digB c || decide (c = 46) || decide (c = 43) || decide (c = 126)) by unfold chB; rw [rX_is, ← Bool.or_assoc, ← Bool.or_assoc])
  have p1 : ((c : Int) == 46) = decide (c = 46) := by rw [Bool.eq_iff_iff]; simp; omega
  have p2 : ((c : Int) == 43) = decide (c = 43) := by rw [Bool.eq_iff_iff]; simp; omega
  have p3 : ((c : Int) == 126) = decide (c = 126) := by rw [Bool.eq_iff_iff]; simp; omega
  cases h1 : letB c <;> cases h2 : digB c <;> rw [h1, h2] at X <;> cases h3 : decide (c = 46) <;> rw [h3] at X p1 <;> cases h4 : decide (c = 43) <;> rw [h4] at X p2 <;> cases h5 : decide (c = 126) <;> rw [h5] at X p3
  all_goals
    clear h3 h4 h5
    go_enter Tryz.func87, Tryz.ntmps87
    go_wp2_with (first | (go_at_call 105; refine (vletter_any _ _).mono ?_; rw [h1]; rintro e w' ⟨rfl, rfl⟩) | (go_at_call 93; refine (vdigit_any _ _).mono ?_; rw [h2]; rintro e w' ⟨rfl, rfl⟩))
    go_ret
    exact ⟨by rw [X.out]; rfl, rfl⟩
theorem vup_any (c : Nat) (w : World) : Calls Tryz.prog 103 #[.int .u8 (c : Int)] w fun e w' => e = .returned (.bool (chB uX c)) ∧ w = w' := by
  have X := Lib.hid (uX_is c)
  have p1 : ((c : Int) == 45) = decide (c = 45) := by rw [Bool.eq_iff_iff]; simp; omega
  have p2 : ((c : Int) == 58) = decide (c = 58) := by rw [Bool.eq_iff_iff]; simp; omega
  cases h1 : chB rX c <;> rw [h1] at X <;> cases h3 : decide (c = 45) <;> rw [h3] at X p1 <;> cases h4 : decide (c = 58) <;> rw [h4] at X p2
  all_goals
    clear h3 h4
    go_enter Tryz.func103, Tryz.ntmps103
    go_wp2_with (go_at_call 87; refine (vrev_any _ _).mono ?_; rw [h1]; rintro e w' ⟨rfl, rfl⟩)
    go_ret
    exact ⟨by rw [X.out]; rfl, rfl⟩
theorem ext_take {s : ByteArray} {k : Nat} : s.extract 0 k = mk ((B s).take k) := by
  apply eq_mk; rw [B_extract]; simp
theorem ext_drop {s : ByteArray} {k : Nat} : s.extract k s.size = mk ((B s).drop k) := by
  apply eq_mk; rw [B_extract]
  rw [List.take_of_length_le (by rw [List.length_drop, B_len]; omega)]
theorem cut_any (f : Nat) (p : Nat → Bool) (s : ByteArray) (w : World) (hs : s.size ≤ 9223372036854775807)
    (hk : ∀ (args : Array Value) (w : World), (callFunc f args).run Tryz.prog w = .ok (.enter f args) w)
    (hf : ∀ (c : Nat) (w : World), Calls Tryz.prog f #[.int .u8 (c : Int)] w fun e w' => e = .returned (.bool (p c)) ∧ w = w') :
    Calls Tryz.prog 91 #[.string s, .func (.func f) #[] #[]] w fun e w' => e = .returned (.tuple #[.string (mk ((B s).takeWhile p)), .string (mk ((B s).dropWhile p))]) ∧ ∃ n, w' = w.drewN n := by
  have HF := Lib.hid hf
  clear hf
  go_enter Tryz.func91, Tryz.ntmps91
  go_wp2
  go_loop [6] (fun i => ∃ k : Nat, k ≤ s.size ∧ i = .int .i64 k ∧ ∀ j, j < k → p ((B s).getD j 0) = true) (fun i => s.size - (intOf i).toNat)
  case atStart => exact ⟨0, Nat.zero_le _, rfl, fun j hj => by omega⟩
  case round =>
    obtain ⟨k, hk', rfl, hno⟩ := hrel
    have HN := Lib.hid hno
    clear hno
    by_cases hlt : k < s.size
    · have HB := Lib.hid (B_getD s k hlt)
      cases hc : p s[k].toNat
      · have HT := Lib.hid (takeWhile_is (p := p) (l := B s) (n := k) (by rw [B_len]; omega) HN.out (.inr (by rw [HB.out]; exact hc)))
        have HD := Lib.hid (dropWhile_is (p := p) (l := B s) (n := k) (by rw [B_len]; omega) HN.out (.inr (by rw [HB.out]; exact hc)))
        have HC := Lib.hid hc
        clear hc
        go_wp2_with fail
        refine (HF.out _ _).mono ?_
        rw [HC.out]
        rintro e w' ⟨rfl, rfl⟩
        go_wp2
        go_quiet (fail)
        go_wp2
        go_ret2
        exact ⟨by rw [HT.out, HD.out, ← ext_take, ← ext_drop]; rfl, _, rfl⟩
      · have HC := Lib.hid hc
        clear hc
        go_wp2_with fail
        refine (HF.out _ _).mono ?_
        rw [HC.out]
        rintro e w' ⟨rfl, rfl⟩
        go_wp2
        go_round
        case rel => exact ⟨k + 1, by omega, by go_num, fun j hj => by rcases (by omega : j < k ∨ j = k) with h | rfl; exact HN.out j h; rw [HB.out]; exact HC.out⟩
        case measure => simp [intOf]; omega
    · have HT := Lib.hid (takeWhile_is (p := p) (l := B s) (n := k) (by rw [B_len]; omega) HN.out (.inl (by rw [B_len]; omega)))
      have HD := Lib.hid (dropWhile_is (p := p) (l := B s) (n := k) (by rw [B_len]; omega) HN.out (.inl (by rw [B_len]; omega)))
      go_wp2
      go_quiet (fail)
      go_wp2
      go_ret2
      exact ⟨by rw [HT.out, HD.out, ← ext_take, ← ext_drop]; rfl, _, rfl⟩
theorem all_drop (p : Nat → Bool) : ∀ l : List Nat, l.all p = true ↔ l.dropWhile p = []
  | [] => by simp
  | c :: l => by
    cases h : p c
    · simp [h]
    · simp only [List.all_cons, h, Bool.true_and, List.dropWhile_cons, if_true]
      exact all_drop p l
theorem mk_empty (l : List Nat) : (mk l).toList.isEmpty = l.isEmpty := by
  rw [toList_data]
  cases l <;> simp [mk]
theorem each_any (f : Nat) (p : Nat → Bool) (s : ByteArray) (w : World) (hs : s.size ≤ 9223372036854775807)
    (hk : ∀ (args : Array Value) (w : World), (callFunc f args).run Tryz.prog w = .ok (.enter f args) w)
    (hf : ∀ (c : Nat) (w : World), Calls Tryz.prog f #[.int .u8 (c : Int)] w fun e w' => e = .returned (.bool (p c)) ∧ w = w') :
    Calls Tryz.prog 86 #[.string s, .func (.func f) #[] #[]] w fun e w' => e = .returned (.bool ((B s).all p)) ∧ ∃ n, w' = w.drewN n := by
  have X := Lib.hid (show ((mk ((B s).dropWhile p)).toList.isEmpty) = (B s).all p by
    rw [mk_empty, Bool.eq_iff_iff, all_drop, List.isEmpty_iff])
  have C := Lib.hid (fun w => cut_any f p s w hs hk hf)
  clear hf hk
  go_enter Tryz.func86, Tryz.ntmps86
  go_wp2_with (go_at_call 91; (with_reducible refine (C.out _).mono ?_); rintro e w' ⟨rfl, n, rfl⟩)
  go_ret
  refine ⟨?_, n, rfl⟩
  rw [← X.out]
  rfl
end Go.Proofs.YtfpbeenaploaiaaGreatDoor
end
