/- What the laws of this seat rest on: OrderP, D4w, D4x. -/
import Derived.Test.YtnokmgkkefonbaaGreatDoorCmpPZ
import Derived.Test.YtnokmgkkefonbaaGreatDoorM1
import Derived.Test.YtnokmgkkefonbaaGreatDoorD4vZ
import Derived.Test.YtnokmgkkefonbaaGreatDoorDeep3Z

section
/- Versions, and texts as versions, stand in an order of classes; the newest of some: pure. -/
set_option linter.unusedSimpArgs false
namespace Go.Proofs.YtnokmgkkefonbaaGreatDoor
open Go.RowKit
theorem cmpV_is (e1 : Int) (u1 r1 : List Nat) (e2 : Int) (u2 r2 : List Nat) : cmpV e1 u1 r1 e2 u2 r2 = -1 ∨ cmpV e1 u1 r1 e2 u2 r2 = 0 ∨ cmpV e1 u1 r1 e2 u2 r2 = 1 := by
  have h1 := cmpS_is u1 u2
  have h2 := cmpS_is r1 r2
  unfold cmpV
  split
  · split <;> omega
  · split <;> omega
theorem cmpV_neg (e1 : Int) (u1 r1 : List Nat) (e2 : Int) (u2 r2 : List Nat) : cmpV e2 u2 r2 e1 u1 r1 = -cmpV e1 u1 r1 e2 u2 r2 := by
  have h1 := cmpS_neg u1 u2
  have h2 := cmpS_neg r1 r2
  unfold cmpV
  by_cases he : e1 = e2
  · subst he
    rw [if_neg (show ¬ e1 ≠ e1 by omega), if_neg (show ¬ e1 ≠ e1 by omega)]
    by_cases hu : cmpS u1 u2 = 0
    · rw [if_neg (show ¬ cmpS u2 u1 ≠ 0 by omega), if_neg (show ¬ cmpS u1 u2 ≠ 0 by omega)]; exact h2
    · rw [if_pos (show cmpS u2 u1 ≠ 0 by omega), if_pos (show cmpS u1 u2 ≠ 0 by omega)]; exact h1
  · rw [if_pos (show e2 ≠ e1 by omega), if_pos (show e1 ≠ e2 by omega)]
    by_cases hl : e1 < e2
    · rw [if_neg (show ¬ e2 < e1 by omega), if_pos hl]; decide
    · rw [if_pos (show e2 < e1 by omega), if_neg hl]
theorem cmpV_tr (e1 : Int) (u1 r1 : List Nat) (e2 : Int) (u2 r2 : List Nat) (e3 : Int) (u3 r3 : List Nat) :
    cmpV e1 u1 r1 e2 u2 r2 ≤ 0 → cmpV e2 u2 r2 e3 u3 r3 ≤ 0 → cmpV e1 u1 r1 e3 u3 r3 ≤ 0 ∧ (cmpV e1 u1 r1 e2 u2 r2 < 0 ∨ cmpV e2 u2 r2 e3 u3 r3 < 0 → cmpV e1 u1 r1 e3 u3 r3 < 0) := by
  have hu := cmpS_tr u1 u2 u3
  have hu' := cmpS_tr u3 u2 u1
  rw [cmpS_neg u2 u3, cmpS_neg u1 u2, cmpS_neg u1 u3] at hu'
  have hr := cmpS_tr r1 r2 r3
  unfold cmpV
  by_cases h1 : e1 = e2
  · by_cases h2 : e2 = e3
    · rw [if_neg (show ¬ e1 ≠ e2 by omega), if_neg (show ¬ e2 ≠ e3 by omega), if_neg (show ¬ e1 ≠ e3 by omega)]
      by_cases q1 : cmpS u1 u2 = 0
      · by_cases q2 : cmpS u2 u3 = 0
        · have q3 : cmpS u1 u3 = 0 := by omega
          rw [if_neg (by omega), if_neg (by omega), if_neg (by omega)]; exact hr
        · rw [if_neg (show ¬ cmpS u1 u2 ≠ 0 by omega), if_pos (show cmpS u2 u3 ≠ 0 by omega)]
          intro _ p2
          rw [if_pos (by omega)]; omega
      · rw [if_pos (show cmpS u1 u2 ≠ 0 by omega)]
        intro p1
        by_cases q2 : cmpS u2 u3 = 0
        · rw [if_neg (show ¬ cmpS u2 u3 ≠ 0 by omega)]
          intro p2
          rw [if_pos (by omega)]; omega
        · rw [if_pos (show cmpS u2 u3 ≠ 0 by omega)]
          intro p2
          rw [if_pos (by omega)]; omega
    · rw [if_neg (show ¬ e1 ≠ e2 by omega), if_pos (show e2 ≠ e3 by omega), if_pos (show e1 ≠ e3 by omega)]
      by_cases h3 : e2 < e3
      · rw [if_pos h3, if_pos (show e1 < e3 by omega)]; intro _ _; omega
      · rw [if_neg h3]; intro _ p; omega
  · rw [if_pos (show e1 ≠ e2 by omega)]
    by_cases h3 : e1 < e2
    · rw [if_pos h3]
      intro _
      by_cases h2 : e2 = e3
      · rw [if_neg (show ¬ e2 ≠ e3 by omega), if_pos (show e1 ≠ e3 by omega), if_pos (show e1 < e3 by omega)]; intro _; omega
      · rw [if_pos (show e2 ≠ e3 by omega)]
        by_cases h4 : e2 < e3
        · rw [if_pos h4, if_pos (show e1 ≠ e3 by omega), if_pos (show e1 < e3 by omega)]; intro _; omega
        · rw [if_neg h4]; intro p; omega
    · rw [if_neg h3]; intro p; omega
theorem orderV_is (a b : List Nat) : orderV a b = -1 ∨ orderV a b = 0 ∨ orderV a b = 1 := by
  have h := cmpV_is (parse1 a) (parse2 a) (parse3 a) (parse1 b) (parse2 b) (parse3 b)
  unfold orderV
  split <;> split <;> omega
theorem orderV_neg (a b : List Nat) : orderV b a = -orderV a b := by
  have h := cmpV_neg (parse1 a) (parse2 a) (parse3 a) (parse1 b) (parse2 b) (parse3 b)
  unfold orderV
  by_cases h1 : parseE a = 0
  · by_cases h2 : parseE b = 0
    · simp only [h1, h2, ne_eq, not_true, if_false]; exact h
    · simp only [h1, h2, ne_eq, not_true, not_false_iff, if_false, if_true]
  · by_cases h2 : parseE b = 0
    · simp only [h1, h2, ne_eq, not_true, not_false_iff, if_false, if_true]; decide
    · simp only [h1, h2, ne_eq, not_true, not_false_iff, if_false, if_true]; decide
theorem orderV_self (a : List Nat) : orderV a a = 0 := by have := orderV_neg a a; omega
theorem orderV_tr (a b c : List Nat) : orderV a b ≤ 0 → orderV b c ≤ 0 → orderV a c ≤ 0 ∧ (orderV a b < 0 ∨ orderV b c < 0 → orderV a c < 0) := by
  have h := cmpV_tr (parse1 a) (parse2 a) (parse3 a) (parse1 b) (parse2 b) (parse3 b) (parse1 c) (parse2 c) (parse3 c)
  unfold orderV
  by_cases h1 : parseE a = 0
  · by_cases h2 : parseE b = 0
    · by_cases h3 : parseE c = 0
      · simp only [h1, h2, h3, ne_eq, not_true, if_false]; exact h
      · simp only [h1, h2, h3, ne_eq, not_true, not_false_iff, if_false, if_true]; intro _ p; omega
    · by_cases h3 : parseE c = 0
      · simp only [h1, h2, h3, ne_eq, not_true, not_false_iff, if_false, if_true]; intro p; omega
      · simp only [h1, h2, h3, ne_eq, not_true, not_false_iff, if_false, if_true]; intro p; omega
  · by_cases h2 : parseE b = 0
    · by_cases h3 : parseE c = 0
      · simp only [h1, h2, h3, ne_eq, not_true, not_false_iff, if_false, if_true]; intro _ _; omega
      · simp only [h1, h2, h3, ne_eq, not_true, not_false_iff, if_false, if_true]; intro _ p; omega
    · by_cases h3 : parseE c = 0
      · simp only [h1, h2, h3, ne_eq, not_true, not_false_iff, if_false, if_true]; intro _ _; omega
      · simp only [h1, h2, h3, ne_eq, not_true, not_false_iff, if_false, if_true]; intro _ _; omega
end Go.Proofs.YtnokmgkkefonbaaGreatDoor
end

section
/- What all that are given leave open of single groups. Pure. -/
set_option linter.unusedVariables false
namespace Go.Proofs.YtnokmgkkefonbaaGreatDoor
open Go.RowKit
theorem openF_mem (hv : List Atm) : ∀ (i : Nat) (L : List (List Atm)) (p : Int), p ∈ openF hv i L → ∃ q, p = ((i + q : Nat) : Int) ∧ ∃ hq : q < L.length, metB L[q] hv = false
  | i, [], p, h => by simp [openF] at h
  | i, g :: r, p, h => by
    simp only [openF] at h
    split at h
    · obtain ⟨q, h1, h2, h3⟩ := openF_mem hv (i + 1) r p h
      exact ⟨q + 1, by rw [h1]; congr 1; omega, by simp; omega, h3⟩
    · rename_i hm
      rcases List.mem_cons.1 h with h | h
      · exact ⟨0, by rw [h]; rfl, by simp, by simpa using hm⟩
      · obtain ⟨q, h1, h2, h3⟩ := openF_mem hv (i + 1) r p h
        exact ⟨q + 1, by rw [h1]; congr 1; omega, by simp; omega, h3⟩
def gvB (a : Atm) : Bool := decide (a.o = 0) || decide (a.o = 3)
theorem prv_self {a : Atm} (hr : rgt a = true) (h : gvB a = true) : prv a a = true := by
  unfold gvB at h
  rw [Bool.or_eq_true, decide_eq_true_eq, decide_eq_true_eq] at h
  unfold prv provB
  rcases h with h | h
  · rw [h]; simp
  · unfold rgt rightA at hr
    rw [h] at hr ⊢
    simp only [Bool.and_eq_true] at hr
    have hp := hr.2
    simp at hp
    have hv : prB (B a.v) = true := hp
    unfold prB at hv
    simp only [Bool.and_eq_true, decide_eq_true_eq] at hv
    simp [holdB, hv.1, orderV_self, opB]
theorem open_gv {l : List Atm} (hr : ∀ a ∈ l, rgt a = true) {p : Int} (hp : p ∈ openF (l.filter gvB) 0 (l.map fun a => [a])) : ∃ q : Nat, p = (q : Int) ∧ ∃ hq : q < l.length, gvB l[q] = false := by
  obtain ⟨q, h1, h2, h3⟩ := openF_mem _ _ _ _ hp
  rw [List.length_map] at h2
  refine ⟨q, by rw [h1]; congr 1; omega, h2, ?_⟩
  rw [List.getElem_map] at h3
  by_cases hg : gvB l[q] = true
  · have hx : l[q] ∈ l.filter gvB := List.mem_filter.2 ⟨List.getElem_mem h2, hg⟩
    have : metB [l[q]] (l.filter gvB) = true := by
      unfold metB
      simp only [List.any_cons, List.any_nil, Bool.or_false]
      rw [List.any_eq_true]
      exact ⟨_, hx, prv_self (hr _ (List.getElem_mem h2)) hg⟩
    rw [this] at h3; cases h3
  · simpa using hg
/-- The right ones of the first k. -/
def rtK (l : List Atm) (k : Nat) : List Atm := (l.take k).filter rgt
theorem rtK_no {l : List Atm} {k : Nat} (hk : k < l.length) (h : rgt l[k] = false) : rtK l (k + 1) = rtK l k := by
  unfold rtK
  rw [List.take_succ_eq_append_getElem hk, List.filter_append]
  simp [h]
theorem rtK_yes {l : List Atm} {k : Nat} (hk : k < l.length) (h : rgt l[k] = true) : rtK l (k + 1) = rtK l k ++ [l[k]] := by
  unfold rtK
  rw [List.take_succ_eq_append_getElem hk, List.filter_append]
  simp [h]
theorem rtK_all (l : List Atm) (k : Nat) : ∀ a ∈ rtK l k, rgt a = true := fun a ha => (List.mem_filter.1 ha).2
theorem filt_yes {l : List Atm} {a : Atm} (h : gvB a = true) : (l ++ [a]).filter gvB = l.filter gvB ++ [a] := by rw [List.filter_append]; simp [h]
theorem filt_no {l : List Atm} {a : Atm} (h : gvB a = false) : (l ++ [a]).filter gvB = l.filter gvB := by rw [List.filter_append]; simp [h]
end Go.Proofs.YtnokmgkkefonbaaGreatDoor
end

section
/- Three slices of the call's own that grow side by side: atoms, atoms, groups of one atom each. No condition. -/
set_option linter.unusedVariables false
namespace Go.Proofs.YtnokmgkkefonbaaGreatDoor
open Go.RowKit
structure Tri (base : Nat) (W : World) (u v x : Value) (l m : List Atm) (L : List (List Atm)) : Prop where
  gu : Grow rdAtm 3 (fun _ => True) W base 41 u l
  gv : Grow rdAtm 3 (fun _ => True) W base 41 v m
  gx : Grow rdAtms 1 (fun b => u.ownBlock ≠ some b ∧ v.ownBlock ≠ some b) W base 48 x L
  uv : Off u v
  ux : Off u x
  vx : Off v x
theorem atm_flat : ∀ (w : World) (S S' : Nat → Prop) (a : Atm) (cs : List Value), rdAtm w S a cs → rdAtm w S' a cs := fun _ _ _ _ _ h => h
section
variable {base : Nat} {W w' : World} {u v x u' v' x' : Value} {l m l' : List Atm} {L L' : List (List Atm)}
theorem Tri.nil (base : Nat) (W : World) : Tri base W (.slice none 0 0) (.slice none 0 0) (.slice none 0 0) [] [] [] := ⟨Grow.nil _ _ _ _, Grow.nil _ _ _ _, Grow.nil _ _ _ _, Off.nil _, Off.nil _, Off.nil _⟩
theorem Tri.below (h : Tri base W u v x l m L) (hb : Below W.heap.size W w') : Tri base w' u v x l m L := ⟨h.gu.below rdAtm_good hb, h.gv.below rdAtm_good hb, h.gx.below rdAtms_good hb, h.uv, h.ux, h.vx⟩
theorem Tri.new (h : Tri base W u v x l m L) (o : Obj) : Tri base (W.alloc o) u v x l m L := h.below ((Below.refl _ _).alloc (Nat.le_refl _) o)
theorem Tri.atU (h : Tri base W u v x l m L) (hG : Grow rdAtm 3 (fun _ => True) w' base 41 u' l') (hg : W.grownBy w' u.ownBlock) (hm : Moved W u u') : Tri base w' u' v x l' m L := by
  obtain ⟨b1, o1⟩ := Grow.beside rdAtm_good (T := fun _ => True) (h.gv.flat atm_flat) h.uv.symm hg hm
  obtain ⟨b2, o2⟩ := Grow.beside rdAtms_good (T := fun b => v.ownBlock ≠ some b) (h.gx.retag rdAtms_good fun b hb _ => ⟨hb.2, hb.1⟩) h.ux.symm hg hm
  exact ⟨hG, b1.flat atm_flat, b2.retag rdAtms_good fun b hb _ => ⟨hb.2, hb.1⟩, o1.symm, o2.symm, h.vx⟩
theorem Tri.atV (h : Tri base W u v x l m L) (hG : Grow rdAtm 3 (fun _ => True) w' base 41 v' l') (hg : W.grownBy w' v.ownBlock) (hm : Moved W v v') : Tri base w' u v' x l l' L := by
  obtain ⟨b1, o1⟩ := Grow.beside rdAtm_good (T := fun _ => True) (h.gu.flat atm_flat) h.uv hg hm
  obtain ⟨b2, o2⟩ := Grow.beside rdAtms_good (T := fun b => u.ownBlock ≠ some b) (h.gx.retag rdAtms_good fun b hb _ => ⟨hb.1, hb.2⟩) h.vx.symm hg hm
  exact ⟨b1.flat atm_flat, hG, b2.retag rdAtms_good fun b hb _ => ⟨hb.1, hb.2⟩, o1, h.ux, o2.symm⟩
theorem Tri.atX (h : Tri base W u v x l m L) (hG : Grow rdAtms 1 (fun b => u.ownBlock ≠ some b ∧ v.ownBlock ≠ some b) w' base 48 x' L') (hg : W.grownBy w' x.ownBlock) (hm : Moved W x x') : Tri base w' u v x' l m L' := by
  obtain ⟨b1, o1⟩ := Grow.beside rdAtm_good (T := fun _ => True) (h.gu.flat atm_flat) h.ux hg hm
  obtain ⟨b2, o2⟩ := Grow.beside rdAtm_good (T := fun _ => True) (h.gv.flat atm_flat) h.vx hg hm
  exact ⟨b1.flat atm_flat, b2.flat atm_flat, hG, h.uv, o1, o2⟩
theorem Tri.one (h : Tri base W u v x l m L) (y : Atm) (T : TypeId) : rdAtms (W.alloc (.cells #[.string y.n, .int .i64 y.o, .string y.v] T)) (fun b => (u.ownBlock ≠ some b ∧ v.ownBlock ≠ some b) ∧ b < (W.alloc (.cells #[.string y.n, .int .i64 y.o, .string y.v] T)).heap.size ∧ x.ownBlock ≠ some b) [y] [.slice (some ⟨W.heap.size, 0, none⟩) 1 1] :=
  rd_single W y T _ ⟨⟨fun e => absurd (h.gu.lt _ e).2 (by omega), fun e => absurd (h.gv.lt _ e).2 (by omega)⟩, by simp, fun e => absurd (h.gx.lt _ e).2 (by omega)⟩
end
theorem join_none (w : World) (E : EnvR w) : Calls Tryz.prog 22 #[.slice none 0 0] w fun e w' => e = .returned (.string { data := #[] }) ∧ Below w.heap.size w w' := join4_any none 0 0 [] w (rdRow_nil _ _) (by decide) E
theorem atoms_again {l : List Atm} (h12 : l.length ≤ 12) (hr : ∀ a ∈ l, rgt a = true) (w : World) (E : EnvR w) : Calls Tryz.prog 12 #[.string (mk (prtG (l.map fun a => [a])))] w fun e' w' => (∃ A c, e' = .returned (.tuple #[.slice A l.length c, .int .i64 0]) ∧ rdAtms w' (lt_ w'.heap.size) l [.slice A l.length c]) ∧ Below w.heap.size w w' := by
  have hb : B (mk (prtG (l.map fun a => [a]))) = prtG (l.map fun a => [a]) := B_mk (prtG_lt _)
  exact atoms4_is (by rw [hb]; exact (join_ok h12 hr).1) (by rw [hb]; exact (join_ok h12 hr).2) (by rw [size_mk]; have := prtG_len (l.map fun a => [a]); omega) w E
end Go.Proofs.YtnokmgkkefonbaaGreatDoor
end
