/- Stanzas as texts: which of them are right, and their text, as plain functions. Pure. -/
import Derived.Test.YtjfenheplkoajaaDoorStzP
set_option linter.unusedVariables false
set_option linter.unusedSimpArgs false
namespace Go.Proofs.YtjfenheplkoajaaDoor
open Go.RowKit
theorem low_cons (c : Nat) (r : List Nat) : lowB (c :: r) = (decide (c < 32) || lowB r) := by unfold lowB; rw [List.any_cons]
/-! ### Names -/
def okF (l : List Nat) (j : Nat) : Bool := letB (l.getD j 0) || (decide (0 < j) && (digB (l.getD j 0) || decide (l.getD j 0 = 45)))
theorem fnB_cons (c : Nat) (r : List Nat) : fnB (c :: r) = (letB c && r.all nmC && decide (r.length < 40)) := rfl
theorem fn_all {r : List Nat} (h : ∀ j, j < r.length → nmC (r.getD j 0) = true) : r.all nmC = true := by
  rw [List.all_eq_true]
  intro x hx
  obtain ⟨j, hj, rfl⟩ := List.getElem_of_mem hx
  have := h j hj
  rwa [List.getD_eq_getElem?_getD, List.getElem?_eq_getElem hj] at this
theorem fn_no {l : List Nat} {k : Nat} (hk : k < l.length) (h : okF l k = false) : fnB l = false := by
  cases l with
  | nil => rfl
  | cons c r =>
    unfold okF at h
    rw [Bool.or_eq_false_iff] at h
    cases k with
    | zero =>
      have h1 := h.1
      simp only [List.getD_cons_zero] at h1
      rw [fnB_cons]
      rw [h1]; rfl
    | succ k =>
      simp only [List.getD_cons_succ] at h
      have hn : nmC (r.getD k 0) = false := by
        unfold nmC
        have h2 := h.2
        rw [decide_eq_true (Nat.succ_pos k), Bool.true_and] at h2
        rw [Bool.or_assoc, h2, Bool.or_false]; exact h.1
      have : r.all nmC = false := by
        rw [List.all_eq_false]
        have hk' : k < r.length := by simpa using hk
        exact ⟨r[k], List.getElem_mem hk', by rw [List.getD_eq_getElem?_getD, List.getElem?_eq_getElem hk'] at hn; simp only [Option.getD_some] at hn; rw [hn]; decide⟩
      rw [fnB_cons]
      rw [this, Bool.and_false, Bool.false_and]
theorem fn_yes {l : List Nat} (h : ∀ j, j < l.length → okF l j = true) : fnB l = (decide (1 ≤ l.length) && decide (l.length ≤ 40)) := by
  cases l with
  | nil => rfl
  | cons c r =>
    have h0 := h 0 (by simp)
    unfold okF at h0
    simp only [List.getD_cons_zero, decide_eq_false (Nat.lt_irrefl 0), Bool.false_and, Bool.or_false] at h0
    have ha : r.all nmC = true := fn_all fun j hj => by
      have := h (j + 1) (by simpa using hj)
      unfold okF at this
      simp only [List.getD_cons_succ, decide_eq_true (Nat.succ_pos j), Bool.true_and] at this
      unfold nmC
      rw [Bool.or_assoc]; exact this
    rw [fnB_cons]
    rw [h0, ha]
    simp
    omega
/-! ### Values -/
def hd32 : List Nat → Bool
  | [] => false
  | c :: _ => decide (c = 32)
def lnOk (l : List Nat) : Bool := !lowB l && !decide (l = [])
def valL : List (List Nat) → Bool
  | [] => false
  | f :: r => !lowB f && !hd32 f && r.all lnOk
theorem valL_cons (f : List Nat) (r : List (List Nat)) : valL (f :: r) = (!lowB f && !hd32 f && r.all lnOk) := rfl
def valB (v : List Nat) : Bool := valL (cutBy 10 v)
theorem valL_no {L : List (List Nat)} {k : Nat} (hk : k < L.length) (h : lowB L[k] = true ∨ (0 < k ∧ L[k] = [])) : valL L = false := by
  cases L with
  | nil => rfl
  | cons f r =>
    cases k with
    | zero =>
      rcases h with h | h
      · rw [valL_cons]
        rw [show lowB f = true from h]; rfl
      · exact absurd h.1 (Nat.lt_irrefl 0)
    | succ k =>
      have hk' : k < r.length := by simpa using hk
      simp only [List.getElem_cons_succ] at h
      have : r.all lnOk = false := by
        rw [List.all_eq_false]
        refine ⟨r[k], List.getElem_mem hk', ?_⟩
        unfold lnOk
        rcases h with h | h
        · rw [h]; simp
        · rw [h.2]; simp
      rw [valL_cons]
      rw [this, Bool.and_false]
theorem valL_hd {L : List (List Nat)} (h0 : 0 < L.length) (h : hd32 L[0] = true) : valL L = false := by
  cases L with
  | nil => rfl
  | cons f r =>
    rw [valL_cons]
    rw [show hd32 f = true from h]; simp
theorem valL_yes {L : List (List Nat)} (h0 : 0 < L.length) (h : ∀ k (hk : k < L.length), lowB L[k] = false ∧ (0 < k → L[k] ≠ [])) : valL L = !hd32 L[0] := by
  cases L with
  | nil => exact absurd h0 (by simp)
  | cons f r =>
    have hf := (h 0 (by simp)).1
    simp only [List.getElem_cons_zero] at hf
    have ha : r.all lnOk = true := by
      rw [List.all_eq_true]
      intro x hx
      obtain ⟨j, hj, rfl⟩ := List.getElem_of_mem hx
      obtain ⟨h1, h2⟩ := h (j + 1) (by simpa using hj)
      simp only [List.getElem_cons_succ] at h1 h2
      unfold lnOk
      rw [h1, decide_eq_false (h2 (Nat.succ_pos _))]; rfl
    rw [valL_cons]
    rw [hf, ha]; simp
/-! ### Stanzas -/
def bodyT : List (List Nat) → List Nat
  | [] => []
  | f :: r => (if f = [] then [] else 32 :: f) ++ 10 :: (r.map fun l => 32 :: (l ++ [10])).flatten
def fldT (f : Fd) : List Nat := B f.n ++ 58 :: bodyT (cutBy 10 (B f.v))
theorem body_join (f : List Nat) (r : List (List Nat)) : bodyT (f :: r) = (if f = [] then [] else [32]) ++ (joinL [10, 32] (f :: r) ++ [10]) := by
  have key : ∀ (r : List (List Nat)) (f : List Nat), f ++ 10 :: (r.map fun l => 32 :: (l ++ [10])).flatten = joinL [10, 32] (f :: r) ++ [10] := by
    intro r
    induction r with
    | nil => intro f; simp [joinL]
    | cons x r ih =>
      intro f
      rw [show joinL [10, 32] (f :: x :: r) = f ++ ([10, 32] ++ joinL [10, 32] (x :: r)) from rfl]
      have := ih x
      rw [List.map_cons, List.flatten_cons, List.append_assoc, List.append_assoc, ← this]
      simp
  rw [← key r f]
  show (if f = [] then [] else 32 :: f) ++ _ = _
  by_cases h : f = []
  · rw [if_pos h, if_pos h, h]; rfl
  · rw [if_neg h, if_neg h]; rfl
def stT (st : List Fd) : List Nat := (st.map fldT).flatten
def txL (L : List (List Fd)) : List Nat := joinL [10] (L.map stT)
def noDup : List Fd → List Fd → Bool
  | _, [] => true
  | seen, f :: r => !getV seen f.n && noDup (seen ++ [f]) r
/-- A right field, as the document tells it; and one whose value is no longer than a text may be. -/
def fdR (f : Fd) : Bool := fnB (B f.n) && valB (B f.v)
def fdP (f : Fd) : Bool := fnB (B f.n) && (decide (f.v.size ≤ 60000) && valB (B f.v))
def stzR (st : List Fd) : Bool := st.all fdR && noDup [] st && (decide (1 ≤ st.length) && decide (st.length ≤ 40))
def stzP (st : List Fd) : Bool := st.all fdP && noDup [] st && (decide (1 ≤ st.length) && decide (st.length ≤ 40))
def okR (L : List (List Fd)) : Bool := L.all stzR && (decide (L.length ≤ 200) && decide ((txL L).length ≤ 60000))
def okP (L : List (List Fd)) : Bool := L.all stzP && (decide (L.length ≤ 200) && decide ((txL L).length ≤ 60000))
def prR (L : List (List Fd)) : List Nat := if okR L = true then txL L else []
theorem all_eq {α : Type} {p q : α → Bool} {l : List α} (h : ∀ x ∈ l, p x = q x) : l.all p = l.all q := by
  induction l with
  | nil => rfl
  | cons x r ih => rw [List.all_cons, List.all_cons, h x (by simp), ih fun y hy => h y (by simp [hy])]
theorem okP_eq {L : List (List Fd)} (h : ∀ st ∈ L, ∀ f ∈ st, f.v.size ≤ 60000) : okP L = okR L := by
  unfold okP okR
  rw [all_eq (q := stzR) fun st hst => by
    unfold stzP stzR
    rw [all_eq (q := fdR) fun f hf => by unfold fdP fdR; rw [decide_eq_true (h st hst f hf), Bool.true_and]]]
/-- What is written so far: i stanzas, and k fields of the next one. -/
def ptT (L : List (List Fd)) (i : Nat) : List Nat := if i = 0 then [] else joinL [10] ((L.take i).map stT) ++ [10]
theorem joinL_pre (sep : List Nat) : ∀ (a b : List (List Nat)), joinL sep a <+: joinL sep (a ++ b)
  | [], b => List.nil_prefix
  | [x], [] => List.prefix_rfl
  | [x], y :: r => List.prefix_append _ _
  | x :: y :: r, b => by
    have ih := joinL_pre sep (y :: r) b
    rw [List.cons_append, List.cons_append]
    simp only [joinL]
    exact (List.prefix_append_right_inj _).2 ((List.prefix_append_right_inj _).2 ih)
theorem pt_next {L : List (List Fd)} {i : Nat} (hi : i < L.length) : ptT L i ++ stT L[i] = joinL [10] ((L.take (i + 1)).map stT) := by
  rw [List.take_succ_eq_append_getElem hi, List.map_append, List.map_singleton, joinL_snoc]
  unfold ptT
  by_cases h : i = 0
  · rw [if_pos h, if_pos (by simp [h])]; rfl
  · rw [if_neg h, if_neg (by intro e; have := congrArg List.length e; rw [List.length_map, List.length_take] at this; simp only [List.length_nil] at this; omega)]; simp
theorem pt_len {L : List (List Fd)} {i k : Nat} (hi : i < L.length) : (ptT L i ++ stT (L[i].take k)).length ≤ (txL L).length := by
  have h1 : ptT L i ++ stT (L[i].take k) <+: ptT L i ++ stT L[i] := by
    refine (List.prefix_append_right_inj _).2 ?_
    conv => rhs; rw [← List.take_append_drop k L[i]]
    unfold stT
    rw [List.map_append, List.flatten_append]; exact List.prefix_append _ _
  rw [pt_next hi] at h1
  have h2 : joinL [10] ((L.take (i + 1)).map stT) <+: txL L := by
    unfold txL
    conv => rhs; rw [← List.take_append_drop (i + 1) L, List.map_append]
    exact joinL_pre _ _ _
  exact (h1.trans h2).length_le
theorem pt_all (L : List (List Fd)) : joinL [10] ((L.take L.length).map stT) = txL L := by rw [List.take_length]; rfl
theorem stT_snoc (st : List Fd) (k : Nat) (hk : k < st.length) : stT (st.take (k + 1)) = stT (st.take k) ++ fldT st[k] := by
  unfold stT
  rw [List.take_succ_eq_append_getElem hk, List.map_append, List.flatten_append]; simp
theorem noDup_step {st : List Fd} {k : Nat} (hk : k < st.length) : noDup (st.take k) (st.drop k) = (!getV (st.take k) st[k].n && noDup (st.take (k + 1)) (st.drop (k + 1))) := by
  rw [List.drop_eq_getElem_cons hk, List.take_succ_eq_append_getElem hk]; rfl
theorem okR_long {L : List (List Fd)} (h : 200 < L.length) : okR L = false := by unfold okR; rw [decide_eq_false (by omega)]; simp
theorem okP_long {L : List (List Fd)} (h : 200 < L.length) : okP L = false := by unfold okP; rw [decide_eq_false (by omega)]; simp
theorem okP_stz {L : List (List Fd)} {k : Nat} (hk : k < L.length) (h : stzP L[k] = false) : okP L = false := by
  have : L.all stzP = false := by rw [List.all_eq_false]; exact ⟨L[k], List.getElem_mem hk, by rw [h]; decide⟩
  unfold okP; rw [this]; rfl
theorem okP_big {L : List (List Fd)} (h : 60000 < (txL L).length) : okP L = false := by unfold okP; rw [decide_eq_false (show ¬ (txL L).length ≤ 60000 by omega)]; simp
end Go.Proofs.YtjfenheplkoajaaDoor
