/- What the document's Read of an entry answers, as a plain function; of a written stanza it is the entry. AE, AL: what its Atoms answers. -/
import Derived.Test.YtmlakjemgmeffaaGreatDoorNF
import Derived.Test.YtmlakjemgmeffaaGreatDoorNS
set_option maxRecDepth 100000
set_option linter.unusedVariables false
set_option linter.unusedSimpArgs false
namespace Go.Proofs.YtmlakjemgmeffaaGreatDoor
open Go.RowKit
def nPk : ByteArray := { data := #[80, 97, 99, 107, 97, 103, 101] }
def nVe : ByteArray := { data := #[86, 101, 114, 115, 105, 111, 110] }
def nDe : ByteArray := { data := #[68, 101, 112, 101, 110, 100, 115] }
def nRe : ByteArray := { data := #[82, 101, 99, 111, 109, 109, 101, 110, 100, 115] }
def nCo : ByteArray := { data := #[67, 111, 110, 102, 108, 105, 99, 116, 115] }
def nPr : ByteArray := { data := #[80, 114, 111, 118, 105, 100, 101, 115] }
def emp : Ent := ⟨{ data := #[] }, { data := #[] }, [], [], [], []⟩
def rdE (AE : List Nat → Int) (AL : List Nat → List Atm) (st : List Fd) : Int × Ent :=
  if getV st nPk = false ∨ getV st nVe = false then (6, emp)
  else if nameB (B (fstV st nPk)) = false then (3, emp)
  else if prB (B (fstV st nVe)) = false then (4, emp)
  else if depE (B (fstV st nDe)) ≠ 0 then (depE (B (fstV st nDe)), emp)
  else if depE (B (fstV st nRe)) ≠ 0 then (depE (B (fstV st nRe)), emp)
  else if AE (B (fstV st nCo)) ≠ 0 then (AE (B (fstV st nCo)), emp)
  else if AE (B (fstV st nPr)) ≠ 0 then (AE (B (fstV st nPr)), emp)
  else if 8 < (AL (B (fstV st nPr))).length then (8, emp)
  else if givs6 (AL (B (fstV st nPr))) = false then (5, emp)
  else (0, ⟨fstV st nPk, fstV st nVe, depL (B (fstV st nDe)), depL (B (fstV st nRe)), AL (B (fstV st nCo)), AL (B (fstV st nPr))⟩)
def opt (n v : ByteArray) : List Fd := if v.size = 0 then [] else [⟨n, v⟩]
theorem wth_opt (l : List Fd) (n v : ByteArray) : wth l n v = l ++ opt n v := by
  unfold wth opt; split <;> simp
theorem size0 {v : ByteArray} (h : v.size = 0) : v = { data := #[] } := by
  obtain ⟨a⟩ := v
  have : a = #[] := Array.eq_empty_of_size_eq_zero h
  rw [this]
theorem fst_hit {n v : ByteArray} {r : List Fd} (hr : fstV r n = { data := #[] }) : fstV (opt n v ++ r) n = v := by
  unfold opt
  split
  · rename_i h; rw [List.nil_append, hr, size0 h]
  · rw [List.singleton_append, fstV_cons, if_pos rfl]
theorem fst_miss {n v m : ByteArray} {r : List Fd} (h : n ≠ m) : fstV (opt n v ++ r) m = fstV r m := by
  unfold opt
  split
  · rfl
  · rw [List.singleton_append, fstV_cons, if_neg h]
theorem fst_none {m : ByteArray} : ∀ {y : List Fd}, (∀ f ∈ y, f.n ≠ m) → fstV y m = { data := #[] }
  | [], _ => rfl
  | f :: r, h => by
    rw [fstV_cons, if_neg (h f (by simp))]; exact fst_none fun g hg => h g (by simp [hg])
theorem wr4_list (x : Ent) (y : List Fd) : wr4 x ++ y = ⟨nPk, x.n⟩ :: ⟨nVe, x.v⟩ :: (opt nDe (mk (prtG x.d)) ++ (opt nRe (mk (prtG x.r)) ++ (opt nCo (mk (prtG (x.c.map fun a => [a]))) ++ (opt nPr (mk (prtG (x.p.map fun a => [a]))) ++ y)))) := by
  unfold wr4 wr3 wr2 wr1 wr0
  rw [wth_opt, wth_opt, wth_opt, wth_opt]
  simp [List.append_assoc, nPk, nVe, nDe, nRe, nCo, nPr]
def othr (f : Fd) : Prop := f.n ≠ nDe ∧ f.n ≠ nRe ∧ f.n ≠ nCo ∧ f.n ≠ nPr
theorem wr4_get (x : Ent) (y : List Fd) (hy : ∀ f ∈ y, othr f) : getV (wr4 x ++ y) nPk = true ∧ getV (wr4 x ++ y) nVe = true ∧ fstV (wr4 x ++ y) nPk = x.n ∧ fstV (wr4 x ++ y) nVe = x.v ∧
    fstV (wr4 x ++ y) nDe = mk (prtG x.d) ∧ fstV (wr4 x ++ y) nRe = mk (prtG x.r) ∧ fstV (wr4 x ++ y) nCo = mk (prtG (x.c.map fun a => [a])) ∧ fstV (wr4 x ++ y) nPr = mk (prtG (x.p.map fun a => [a])) := by
  rw [wr4_list]
  have k1 : nPk ≠ nVe := by decide
  have k2 : nPk ≠ nDe := by decide
  have k3 : nPk ≠ nRe := by decide
  have k4 : nPk ≠ nCo := by decide
  have k5 : nPk ≠ nPr := by decide
  have v2 : nVe ≠ nDe := by decide
  have v3 : nVe ≠ nRe := by decide
  have v4 : nVe ≠ nCo := by decide
  have v5 : nVe ≠ nPr := by decide
  have d3 : nDe ≠ nRe := by decide
  have d4 : nDe ≠ nCo := by decide
  have d5 : nDe ≠ nPr := by decide
  have r4 : nRe ≠ nCo := by decide
  have r5 : nRe ≠ nPr := by decide
  have c5 : nCo ≠ nPr := by decide
  refine ⟨by rw [getV_cons, decide_eq_true rfl, Bool.true_or], by rw [getV_cons, getV_cons, decide_eq_true (show (⟨nVe, x.v⟩ : Fd).n = nVe from rfl), Bool.true_or, Bool.or_true], by rw [fstV_cons, if_pos rfl], by rw [fstV_cons, if_neg k1, fstV_cons, if_pos rfl], ?_, ?_, ?_, ?_⟩
  · rw [fstV_cons, if_neg k2, fstV_cons, if_neg v2]
    exact fst_hit (by rw [fst_miss d3.symm, fst_miss d4.symm, fst_miss d5.symm]; exact fst_none fun f hf => (hy f hf).1)
  · rw [fstV_cons, if_neg k3, fstV_cons, if_neg v3, fst_miss d3]
    exact fst_hit (by rw [fst_miss r4.symm, fst_miss r5.symm]; exact fst_none fun f hf => (hy f hf).2.1)
  · rw [fstV_cons, if_neg k4, fstV_cons, if_neg v4, fst_miss d4, fst_miss r4]
    exact fst_hit (by rw [fst_miss c5.symm]; exact fst_none fun f hf => (hy f hf).2.2.1)
  · rw [fstV_cons, if_neg k5, fstV_cons, if_neg v5, fst_miss d5, fst_miss r5, fst_miss c5]
    exact fst_hit (fst_none fun f hf => (hy f hf).2.2.2)
theorem rgtE_parts {x : Ent} (h : rgtE x = true) : nameB (B x.n) = true ∧ prB (B x.v) = true ∧ rightG x.d = true ∧ rightG x.r = true ∧ (∀ a ∈ x.c, rgt a = true) ∧ (∀ a ∈ x.p, rgt a = true) ∧ givs6 x.p = true ∧ x.c.length ≤ 12 ∧ x.p.length ≤ 8 := by
  unfold rgtE at h
  simp only [Bool.and_eq_true, decide_eq_true_eq, List.all_eq_true] at h
  obtain ⟨a, b, c, d, e, f, g, i, j⟩ := h
  exact ⟨a, b, c, d, e, f, g, i, j⟩
theorem rdE_wr (AE : List Nat → Int) (AL : List Nat → List Atm) (BK : ∀ L, B (mk (prtG L)) = prtG L) (JK : ∀ l : List Atm, l.length ≤ 12 → (∀ a ∈ l, rgt a = true) → AE (prtG (l.map fun a => [a])) = 0 ∧ AL (prtG (l.map fun a => [a])) = l)
    {x : Ent} (h : rgtE x = true) (y : List Fd) (hy : ∀ f ∈ y, othr f) : rdE AE AL (wr4 x ++ y) = (0, x) := by
  obtain ⟨g1, g2, f1, f2, f3, f4, f5, f6⟩ := wr4_get x y hy
  obtain ⟨p1, p2, p3, p4, p5, p6, p7, p8, p9⟩ := rgtE_parts h
  obtain ⟨q1, q2⟩ := parse_prtG p3
  obtain ⟨q3, q4⟩ := parse_prtG p4
  obtain ⟨q5, q6⟩ := JK x.c p8 p5
  obtain ⟨q7, q8⟩ := JK x.p (by omega) p6
  unfold rdE
  rw [g1, g2, f1, f2, f3, f4, f5, f6, BK, BK, BK, BK, q1, q2, q3, q4, q5, q6, q7, q8, p1, p2, p7]
  rw [if_neg (by decide), if_neg (by decide), if_neg (by decide), if_neg (by decide), if_neg (by decide), if_neg (by decide), if_neg (by decide), if_neg (by omega), if_neg (by decide)]
end Go.Proofs.YtmlakjemgmeffaaGreatDoor
