/- Atoms with blanks about them, joined by commas, are read as the atoms. -/
import Derived.Test.YtnokmgkkefonbaaGreatDoorD4uZ
import Derived.Test.YtnokmgkkefonbaaGreatDoorD4gZ
set_option linter.unusedVariables false
namespace Go.Proofs.YtnokmgkkefonbaaGreatDoor
open Go.RowKit
theorem cutComma1 : ∀ {gs : List (List Nat)}, gs ≠ [] → (∀ t ∈ gs, ∀ c ∈ t, c ≠ 44) → fld (joinL [44] gs) = gs.map grpT
  | [], h, _ => absurd rfl h
  | [x], _, hn => by rw [joinL]; unfold fld; rw [cutBy_none (hn x (by simp))]; try rfl
  | x :: y :: r, _, hn => by
    have ih := cutComma1 (gs := y :: r) (by simp) (fun t ht => hn t (by simp [ht]))
    have e : joinL [44] (x :: y :: r) = x ++ 44 :: joinL [44] (y :: r) := by simp [joinL]
    unfold fld at ih ⊢
    rw [e, cutBy_at (hn x (by simp)), List.map_cons, List.map_cons, ih]
def blk1 (bl : List Nat) (a : Atm) : List Nat := bl ++ (txt a ++ bl)
theorem grpT_txt {a : Atm} (h : rgt a = true) : grpT (txt a) = [txt a] := by
  unfold grpT
  rw [cutBy_none (fun c hc => (txt_txC h c hc).2), List.map_singleton, txt_trm h]
theorem rightG_single {l : List Atm} (h12 : l.length ≤ 12) (hr : ∀ a ∈ l, rgt a = true) : rightG (l.map fun a => [a]) = true := by
  unfold rightG
  simp only [Bool.and_eq_true, decide_eq_true_eq, List.all_eq_true, List.length_map]
  refine ⟨h12, fun g hg => ?_⟩
  obtain ⟨a, ha, rfl⟩ := List.mem_map.1 hg
  unfold rgtOne
  simp [hr a ha]
theorem single_all (l : List Atm) : (l.map fun a => [a]).all oneB = true := by
  rw [List.all_eq_true]
  intro g hg
  obtain ⟨a, _, rfl⟩ := List.mem_map.1 hg
  rfl
theorem single_flat (l : List Atm) : (l.map fun a => [a]).flatten = l := by
  induction l with
  | nil => rfl
  | cons a l ih => rw [List.map_cons, List.flatten_cons, ih]; rfl
theorem blanks_ok {l : List Atm} {bl : List Nat} (h0 : l ≠ []) (h12 : l.length ≤ 12) (hr : ∀ a ∈ l, rgt a = true) (hb : ∀ c ∈ bl, c = 32) : atE (joinL [44] (l.map (blk1 bl))) = 0 ∧ atL (joinL [44] (l.map (blk1 bl))) = l := by
  have hf : fld (joinL [44] (l.map (blk1 bl))) = (l.map fun a => [a]).map fun g => g.map txt := by
    rw [cutComma1 (by simpa using h0) (fun t ht c hc => by
      obtain ⟨a, ha, rfl⟩ := List.mem_map.1 ht
      unfold blk1 at hc
      simp only [List.mem_append] at hc
      rcases hc with hc | hc | hc
      · have := hb c hc; omega
      · exact (txt_txC (hr a ha) c hc).1
      · have := hb c hc; omega), List.map_map, List.map_map]
    refine List.map_congr_left fun a ha => ?_
    show grpT (blk1 bl a) = [txt a]
    unfold blk1
    rw [grpT_blanks hb hb, grpT_txt (hr a ha)]
  have hne : joinL [44] (l.map (blk1 bl)) ≠ [] := by
    cases l with
    | nil => exact absurd rfl h0
    | cons a l =>
      refine joinL_ne ?_
      obtain ⟨x, r, e, _⟩ := txt_ne (hr a (by simp))
      unfold blk1
      rw [e]; simp
  obtain ⟨h1, h2⟩ := dep_of_fld hne (rightG_single h12 hr) hf
  have h3 : (depL (joinL [44] (l.map (blk1 bl)))).all oneB = true := by rw [h2]; exact single_all l
  obtain ⟨h4, h5⟩ := atE_ok h1 h3
  exact ⟨h4, by rw [h5, h2, single_flat]⟩
theorem join_ok {l : List Atm} (h12 : l.length ≤ 12) (hr : ∀ a ∈ l, rgt a = true) : atE (prtG (l.map fun a => [a])) = 0 ∧ atL (prtG (l.map fun a => [a])) = l := by
  obtain ⟨h1, h2⟩ := parse_prtG (rightG_single h12 hr)
  have h3 : (depL (prtG (l.map fun a => [a]))).all oneB = true := by rw [h2]; exact single_all l
  obtain ⟨h4, h5⟩ := atE_ok h1 h3
  exact ⟨h4, by rw [h5, h2, single_flat]⟩
theorem q3right_atom (x : Atm) (w : World) (h : x.n.size ≤ 65536) : Calls Tryz.prog 24 #[.agg #[.string x.n, .int .i64 x.o, .string x.v]] w fun e' w' => e' = .returned (.bool (rgt x)) ∧ Below w.heap.size w w' := q3right_any x.n x.o x.v w h
end Go.Proofs.YtnokmgkkefonbaaGreatDoor
