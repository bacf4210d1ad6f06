/- A text cut at a byte, and texts joined: plain functions on lists of numbers. -/
import Derived.Test.YtjfenheplkoajaaDoorStr
set_option linter.unusedVariables false
namespace Go.Proofs.YtjfenheplkoajaaDoor
open Go.RowKit
def preH (p : List Nat) : List (List Nat) → List (List Nat)
  | [] => [p]
  | q :: r => (p ++ q) :: r
/-- A text cut at each c. -/
def cutBy (c : Nat) : List Nat → List (List Nat)
  | [] => [[]]
  | x :: l => if x = c then [] :: cutBy c l else preH [x] (cutBy c l)
theorem preH_ne (p : List Nat) (L : List (List Nat)) : preH p L ≠ [] := by cases L <;> simp [preH]
theorem cutBy_ne (c : Nat) (l : List Nat) : cutBy c l ≠ [] := by
  cases l with
  | nil => simp [cutBy]
  | cons x l => unfold cutBy; split; simp; exact preH_ne _ _
theorem preH_nil {L : List (List Nat)} (h : L ≠ []) : preH [] L = L := by cases L with
  | nil => exact absurd rfl h
  | cons q r => simp [preH]
theorem preH_preH (p q : List Nat) (L : List (List Nat)) : preH p (preH q L) = preH (p ++ q) L := by cases L <;> simp [preH]
theorem preH_len (p : List Nat) {L : List (List Nat)} (h : L ≠ []) : (preH p L).length = L.length := by cases L with
  | nil => exact absurd rfl h
  | cons q r => simp [preH]
theorem cutBy_app {c : Nat} {p : List Nat} (h : ∀ x ∈ p, x ≠ c) (l : List Nat) : cutBy c (p ++ l) = preH p (cutBy c l) := by
  induction p with
  | nil => rw [List.nil_append, preH_nil (cutBy_ne _ _)]
  | cons x p ih =>
    rw [List.cons_append]
    conv => lhs; unfold cutBy
    rw [if_neg (h x (by simp)), ih (fun y hy => h y (by simp [hy])), preH_preH]; rfl
theorem cutBy_none {c : Nat} {p : List Nat} (h : ∀ x ∈ p, x ≠ c) : cutBy c p = [p] := by
  have := cutBy_app h []
  rw [List.append_nil] at this
  rw [this]; simp [cutBy, preH]
theorem cutBy_at {c : Nat} {p : List Nat} (h : ∀ x ∈ p, x ≠ c) (l : List Nat) : cutBy c (p ++ c :: l) = p :: cutBy c l := by
  rw [cutBy_app h]
  conv => lhs; unfold cutBy
  rw [if_pos rfl]; simp [preH]
theorem cutBy_snoc {c : Nat} {x : Nat} (h : x ≠ c) : ∀ l : List Nat, ∃ i z, cutBy c l = i ++ [z] ∧ cutBy c (l ++ [x]) = i ++ [z ++ [x]]
  | [] => ⟨[], [], rfl, by simp [cutBy, h, preH]⟩
  | y :: l => by
    obtain ⟨i, z, h1, h2⟩ := cutBy_snoc h l
    rw [List.cons_append]
    unfold cutBy
    rw [h1, h2]
    by_cases hy : y = c
    · rw [if_pos hy, if_pos hy]; exact ⟨[] :: i, z, rfl, rfl⟩
    · rw [if_neg hy, if_neg hy]
      cases i with
      | nil => exact ⟨[], y :: z, rfl, rfl⟩
      | cons a i => exact ⟨(y :: a) :: i, z, rfl, rfl⟩
theorem cutBy_mem {c : Nat} : ∀ {l : List Nat} {p : List Nat}, p ∈ cutBy c l → ∀ x ∈ p, x ∈ l ∧ x ≠ c
  | [], p, hp, x, hx => by simp [cutBy] at hp; subst hp; simp at hx
  | y :: l, p, hp, x, hx => by
    unfold cutBy at hp
    split at hp
    · rcases List.mem_cons.1 hp with rfl | hp
      · simp at hx
      · exact ⟨List.mem_cons_of_mem _ (cutBy_mem hp x hx).1, (cutBy_mem hp x hx).2⟩
    · rename_i hy
      cases hL : cutBy c l with
      | nil => exact absurd hL (cutBy_ne _ _)
      | cons q r =>
        rw [hL] at hp
        rcases List.mem_cons.1 hp with rfl | hp
        · rcases List.mem_cons.1 hx with rfl | hx
          · exact ⟨by simp, hy⟩
          · have := cutBy_mem (c := c) (l := l) (p := q) (by rw [hL]; simp) x hx
            exact ⟨List.mem_cons_of_mem _ this.1, this.2⟩
        · have := cutBy_mem (c := c) (l := l) (p := p) (by rw [hL]; simp [hp]) x hx
          exact ⟨List.mem_cons_of_mem _ this.1, this.2⟩
theorem cutBy_mem_len {c : Nat} : ∀ {l : List Nat} {p : List Nat}, p ∈ cutBy c l → p.length ≤ l.length
  | [], p, hp => by simp [cutBy] at hp; subst hp; simp
  | y :: l, p, hp => by
    unfold cutBy at hp
    split at hp
    · rcases List.mem_cons.1 hp with rfl | hp
      · simp
      · have := cutBy_mem_len hp; simp; omega
    · cases hL : cutBy c l with
      | nil => exact absurd hL (cutBy_ne _ _)
      | cons q r =>
        rw [hL] at hp
        rcases List.mem_cons.1 hp with rfl | hp
        · have := cutBy_mem_len (c := c) (l := l) (p := q) (by rw [hL]; simp)
          simp; omega
        · have := cutBy_mem_len (c := c) (l := l) (p := p) (by rw [hL]; simp [hp])
          simp; omega
theorem cutBy_len (c : Nat) : ∀ l : List Nat, (cutBy c l).length = l.count c + 1
  | [] => by simp [cutBy]
  | y :: l => by
    unfold cutBy
    split
    · rename_i h; rw [h, List.length_cons, cutBy_len c l, List.count_cons_self]
    · rename_i h; rw [preH_len _ (cutBy_ne _ _), cutBy_len c l, List.count_cons_of_ne (by simpa using fun e => h e)]
theorem twl_all {p : Nat → Bool} : ∀ {l : List Nat} {x : Nat}, x ∈ l.takeWhile p → p x = true
  | [], x, h => by simp at h
  | y :: l, x, h => by
    rw [List.takeWhile_cons] at h
    split at h
    · rcases List.mem_cons.1 h with rfl | h
      · assumption
      · exact twl_all h
    · simp at h
def joinL (sep : List Nat) : List (List Nat) → List Nat
  | [] => []
  | [x] => x
  | x :: y :: r => x ++ (sep ++ joinL sep (y :: r))
theorem joinL_snoc (sep : List Nat) : ∀ (l : List (List Nat)) (x : List Nat), joinL sep (l ++ [x]) = if l = [] then x else joinL sep l ++ (sep ++ x)
  | [], x => rfl
  | [y], x => by simp [joinL]
  | y :: z :: r, x => by
    have := joinL_snoc sep (z :: r) x
    rw [if_neg (by simp)] at this
    rw [if_neg (by simp), List.cons_append, List.cons_append]
    simp only [joinL]
    rw [← List.cons_append, this]; simp
theorem take_mk (s : ByteArray) (i : Nat) : (⟨(s.data.toList.take i).toArray⟩ : ByteArray) = mk ((B s).take i) := by
  apply eq_mk; unfold B; rw [← List.map_take]
theorem drop_mk (s : ByteArray) (i : Nat) : (⟨(s.data.toList.drop i).toArray⟩ : ByteArray) = mk ((B s).drop i) := by
  apply eq_mk; unfold B; rw [← List.map_drop]
/-- The pieces so far: i is where the walk stands, fr where the piece began. -/
def PcInv (c : Nat) (l : List Nat) (out : List (List Nat)) (fr i : Nat) : Prop := fr ≤ i ∧ cutBy c l = out ++ preH ((l.drop fr).take (i - fr)) (cutBy c (l.drop i))
theorem pc_start (c : Nat) (l : List Nat) : PcInv c l [] 0 0 := ⟨Nat.le_refl _, by simp [preH_nil (cutBy_ne _ _)]⟩
theorem pc_cut {c : Nat} {l : List Nat} {out : List (List Nat)} {fr i : Nat} (h : PcInv c l out fr i) (hi : i < l.length) (hc : l.getD i 0 = c) : PcInv c l (out ++ [(l.drop fr).take (i - fr)]) (i + 1) (i + 1) := by
  refine ⟨Nat.le_refl _, ?_⟩
  obtain ⟨h1, h2⟩ := h
  rw [List.getD_eq_getElem?_getD, List.getElem?_eq_getElem hi, Option.getD_some] at hc
  rw [List.drop_eq_getElem_cons hi] at h2
  conv at h2 => rhs; unfold cutBy
  rw [if_pos hc] at h2
  rw [h2, Nat.sub_self, List.take_zero, preH_nil (cutBy_ne _ _)]
  simp [preH]
theorem pc_on {c : Nat} {l : List Nat} {out : List (List Nat)} {fr i : Nat} (h : PcInv c l out fr i) (hi : i < l.length) (hc : l.getD i 0 ≠ c) : PcInv c l out fr (i + 1) := by
  obtain ⟨h1, h2⟩ := h
  refine ⟨by omega, ?_⟩
  rw [List.getD_eq_getElem?_getD, List.getElem?_eq_getElem hi, Option.getD_some] at hc
  rw [List.drop_eq_getElem_cons hi] at h2
  conv at h2 => rhs; unfold cutBy
  rw [if_neg hc, preH_preH] at h2
  rw [h2]
  congr 2
  rw [show i + 1 - fr = (i - fr) + 1 by omega, List.take_succ_eq_append_getElem (by rw [List.length_drop]; omega)]
  congr 2
  rw [List.getElem_drop]
  congr 1
  omega
theorem pc_end {c : Nat} {l : List Nat} {out : List (List Nat)} {fr : Nat} (h : PcInv c l out fr l.length) : cutBy c l = out ++ [l.drop fr] := by
  obtain ⟨h1, h2⟩ := h
  rw [h2, List.drop_length]
  simp only [cutBy, preH, List.append_nil]
  rw [List.take_of_length_le (by rw [List.length_drop]; omega)]
theorem pc_len {c : Nat} {l : List Nat} {out : List (List Nat)} {fr i : Nat} (h : PcInv c l out fr i) : out.length ≤ l.length := by
  have := congrArg List.length h.2
  rw [cutBy_len, List.length_append, preH_len _ (cutBy_ne _ _), cutBy_len] at this
  have h2 := List.count_le_length (a := c) (l := l)
  omega
end Go.Proofs.YtjfenheplkoajaaDoor
