/- Fields of groups as texts: cut, trimmed, read and written, as plain functions on lists of numbers; what is written is read again. -/
import Derived.Test.YtfpbeenaploaiaaGreatDoorM1
import Derived.Test.YtfpbeenaploaiaaGreatDoorD4aZ
set_option linter.unusedVariables false
namespace Go.Proofs.YtfpbeenaploaiaaGreatDoor
open Go.RowKit
/-! ### Trimmed -/
def trmR (l : List Nat) : List Nat := (l.reverse.dropWhile (fun c => c == 32)).reverse
def trm (l : List Nat) : List Nat := (trmR l).dropWhile (fun c => c == 32)
theorem trmR_snoc (l : List Nat) : trmR (l ++ [32]) = trmR l := by unfold trmR; rw [List.reverse_append]; rfl
theorem trmR_last (l : List Nat) {x : Nat} (h : x ≠ 32) : trmR (l ++ [x]) = l ++ [x] := by
  unfold trmR
  rw [List.reverse_append, List.reverse_singleton, List.singleton_append, List.dropWhile_cons, if_neg (by simpa using h)]; simp
theorem trm_snoc (l : List Nat) : trm (l ++ [32]) = trm l := by unfold trm; rw [trmR_snoc]
theorem trmR_cons (l : List Nat) : trmR (32 :: l) = if trmR l = [] then [] else 32 :: trmR l := by
  rcases List.eq_nil_or_concat l with rfl | ⟨m, x, rfl⟩
  · rfl
  · rw [List.concat_eq_append]
    by_cases hx : x = 32
    · subst hx
      rw [← List.cons_append, trmR_snoc, trmR_snoc]
      exact trmR_cons m
    · rw [← List.cons_append, trmR_last _ hx, trmR_last _ hx, if_neg (by simp)]; rfl
termination_by l.length
decreasing_by all_goals simp_all
theorem trm_cons (l : List Nat) : trm (32 :: l) = trm l := by
  unfold trm
  rw [trmR_cons]
  split
  · rename_i h; rw [h]
  · rfl
theorem trm_blanks {a b : List Nat} (ha : ∀ x ∈ a, x = 32) (hb : ∀ x ∈ b, x = 32) (m : List Nat) : trm (a ++ (m ++ b)) = trm m := by
  induction a with
  | nil =>
    rw [List.nil_append]
    induction b generalizing m with
    | nil => rw [List.append_nil]
    | cons x b ih =>
      obtain rfl := hb x (by simp)
      rw [show m ++ 32 :: b = (m ++ [32]) ++ b by simp, ih (fun y hy => hb y (by simp [hy])), trm_snoc]
  | cons x a ih =>
    obtain rfl := ha x (by simp)
    rw [List.cons_append, trm_cons, ih (fun y hy => ha y (by simp [hy]))]
theorem trm_full {m : List Nat} (h0 : ∀ x r, m = x :: r → x ≠ 32) (h1 : ∀ x r, m = r ++ [x] → x ≠ 32) : trm m = m := by
  rcases List.eq_nil_or_concat m with rfl | ⟨r, x, rfl⟩
  · rfl
  · rw [List.concat_eq_append] at *
    unfold trm
    rw [trmR_last _ (h1 x r rfl)]
    cases hr : r ++ [x] with
    | nil => rfl
    | cons y t => rw [List.dropWhile_cons, if_neg (by simpa using h0 y t hr)]
theorem trm_unique {a m b : List Nat} (ha : ∀ x ∈ a, x = 32) (hb : ∀ x ∈ b, x = 32) (h0 : ∀ x r, m = x :: r → x ≠ 32) (h1 : ∀ x r, m = r ++ [x] → x ≠ 32) : trm (a ++ (m ++ b)) = m := by
  rw [trm_blanks ha hb, trm_full h0 h1]
theorem trm_parts (l : List Nat) : ∃ a b, (∀ x ∈ a, x = 32) ∧ (∀ x ∈ b, x = 32) ∧ l = a ++ (trm l ++ b) := by
  have h1 : ∃ b, (∀ x ∈ b, x = 32) ∧ l = trmR l ++ b := by
    refine ⟨(l.reverse.takeWhile (fun c => c == 32)).reverse, fun x hx => ?_, ?_⟩
    · have := twl_all (List.mem_reverse.1 hx); simpa using this
    · unfold trmR
      rw [← List.reverse_append, List.takeWhile_append_dropWhile, List.reverse_reverse]
  obtain ⟨b, hb, e⟩ := h1
  refine ⟨(trmR l).takeWhile (fun c => c == 32), b, fun x hx => ?_, hb, ?_⟩
  · have := twl_all hx; simpa using this
  · unfold trm
    rw [← List.append_assoc, List.takeWhile_append_dropWhile]; exact e
theorem trm_mem {l : List Nat} {x : Nat} (h : x ∈ trm l) : x ∈ l := by
  obtain ⟨a, b, _, _, e⟩ := trm_parts l
  rw [e]; simp [h]
theorem trm_len (l : List Nat) : (trm l).length ≤ l.length := by
  obtain ⟨a, b, _, _, e⟩ := trm_parts l
  have := congrArg List.length e
  simp at this; omega
/-! ### Groups -/
def grpT (p : List Nat) : List (List Nat) := (cutBy 124 p).map trm
theorem grpT_cons (l : List Nat) : grpT (32 :: l) = grpT l := by
  unfold grpT
  rw [show 32 :: l = [32] ++ l from rfl, cutBy_app (by simp)]
  cases hL : cutBy 124 l with
  | nil => exact absurd hL (cutBy_ne _ _)
  | cons q r => simp only [preH, List.map_cons]; rw [show [32] ++ q = 32 :: q from rfl, trm_cons]
theorem grpT_snoc (l : List Nat) : grpT (l ++ [32]) = grpT l := by
  unfold grpT
  obtain ⟨i, z, h1, h2⟩ := cutBy_snoc (c := 124) (x := 32) (by decide) l
  rw [h1, h2, List.map_append, List.map_append, List.map_singleton, List.map_singleton, trm_snoc]
theorem grpT_blanks {a b : List Nat} (ha : ∀ x ∈ a, x = 32) (hb : ∀ x ∈ b, x = 32) (m : List Nat) : grpT (a ++ (m ++ b)) = grpT m := by
  induction a with
  | nil =>
    rw [List.nil_append]
    induction b generalizing m with
    | nil => rw [List.append_nil]
    | cons x b ih =>
      obtain rfl := hb x (by simp)
      rw [show m ++ 32 :: b = (m ++ [32]) ++ b by simp, ih (fun y hy => hb y (by simp [hy])), grpT_snoc]
  | cons x a ih =>
    obtain rfl := ha x (by simp)
    rw [List.cons_append, grpT_cons, ih (fun y hy => ha y (by simp [hy]))]
theorem grpT_trm (p : List Nat) : grpT (trm p) = grpT p := by
  obtain ⟨a, b, ha, hb, e⟩ := trm_parts p
  conv => rhs; rw [e]
  rw [grpT_blanks ha hb]
def fld (s : List Nat) : List (List (List Nat)) := (cutBy 44 s).map grpT
def errF : List (List Nat) → Int
  | [] => 0
  | p :: r => if relE p = 0 then errF r else relE p
theorem errF_app (a b : List (List Nat)) : errF (a ++ b) = if errF a = 0 then errF b else errF a := by
  induction a with
  | nil => rfl
  | cons p r ih =>
    by_cases h : relE p = 0
    · have e1 : errF (p :: r ++ b) = errF (r ++ b) := by rw [List.cons_append]; simp only [errF, if_pos h]
      have e2 : errF (p :: r) = errF r := by simp only [errF, if_pos h]
      rw [e1, e2, ih]
    · have e1 : errF (p :: r ++ b) = relE p := by rw [List.cons_append]; simp only [errF, if_neg h]
      have e2 : errF (p :: r) = relE p := by simp only [errF, if_neg h]
      rw [e1, e2, if_neg h]
def atmOf (p : List Nat) : Atm := ⟨mk (relN p), relO p, mk (relV p)⟩
def manyF (F : List (List (List Nat))) : Bool := decide (12 < F.length) || F.any fun g => decide (6 < g.length)
def depE (s : List Nat) : Int := if s = [] then 0 else if manyF (fld s) = true then 8 else errF (fld s).flatten
def depL (s : List Nat) : List (List Atm) := if s = [] then [] else if depE s = 0 then (fld s).map fun g => g.map atmOf else []
/-! ### Written -/
def rgt (a : Atm) : Bool := rightA (B a.n) a.o (B a.v)
def txt (a : Atm) : List Nat := textA (B a.n) a.o (B a.v)
def rgtOne (g : List Atm) : Bool := decide (1 ≤ g.length) && decide (g.length ≤ 6) && g.all rgt
def rightG (L : List (List Atm)) : Bool := decide (L.length ≤ 12) && L.all rgtOne
def grpS (g : List Atm) : List Nat := joinL [32, 124, 32] (g.map txt)
def prtG (L : List (List Atm)) : List Nat := if rightG L = true then joinL [44, 32] (L.map grpS) else []
end Go.Proofs.YtfpbeenaploaiaaGreatDoor
