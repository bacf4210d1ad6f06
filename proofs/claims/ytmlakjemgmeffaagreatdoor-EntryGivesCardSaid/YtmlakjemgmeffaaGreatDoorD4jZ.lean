/- The contract of the program's tooMany. -/
import Derived.Test.YtmlakjemgmeffaaGreatDoorD4iZ
set_option maxRecDepth 100000
set_option linter.unusedVariables false
set_option linter.unusedSimpArgs false
namespace Go.Proofs.YtmlakjemgmeffaaGreatDoor
open Go.RowKit Go.Shelf
attribute [local go_sem] Oper.semAt_some
theorem count_is (s : ByteArray) (c : UInt8) : Lib.countByte s.data.toList c = (B s).count c.toNat := by
  unfold Lib.countByte B
  generalize s.data.toList = l
  induction l with
  | nil => rfl
  | cons x l ih =>
    rw [List.map_cons]
    by_cases h : x = c
    · subst h; rw [List.count_cons_self, List.count_cons_self, ih]
    · have h2 : x.toNat ≠ c.toNat := fun hh => h (UInt8.toNat_inj.1 hh)
      rw [List.count_cons_of_ne h, List.count_cons_of_ne h2, ih]
theorem count_any (s : ByteArray) (c : UInt8) (w : World) : Calls Tryz.prog 117 #[.string s, .string { data := #[c] }] w fun e w' => e = .returned (.int .i64 ((B s).count c.toNat : Nat)) ∧ w' = w := by
  refine (Tryz.strings_Count_one s c w).mono ?_
  rintro e w' ⟨rfl, rfl⟩
  exact ⟨by rw [count_is], rfl⟩
/-- Has a part too many pieces? -/
def over (p : List Nat) : Bool := decide (6 ≤ p.count 124)
theorem over_is (p : List Nat) : over (trm p) = decide (6 < (grpT p).length) := by
  unfold over
  rw [decide_eq_decide, ← grpT_trm]
  unfold grpT
  rw [List.length_map, cutBy_len]; omega
theorem many_is (s : List Nat) : manyF (fld s) = (decide (12 ≤ s.count 44) || (ptsL 44 s).any over) := by
  unfold manyF fld ptsL
  rw [List.any_map, List.any_map, List.length_map, cutBy_len]
  congr 1
  · rw [decide_eq_decide]; omega
  · congr 1
    funext p
    exact (over_is p).symm
theorem pts_lt {c : Nat} {s : ByteArray} {p : List Nat} (h : p ∈ ptsL c (B s)) : (∀ x ∈ p, x < 256) ∧ p.length ≤ s.size := by
  unfold ptsL at h
  obtain ⟨q, hq, rfl⟩ := List.mem_map.1 h
  refine ⟨fun x hx => B_lt s x (cutBy_mem hq x (trm_mem hx)).1, ?_⟩
  have := cutBy_mem_len hq
  rw [B_len] at this
  exact Nat.le_trans (trm_len q) this
set_option maxHeartbeats 2000000 in
theorem tooMany_any (s : ByteArray) (w : World) (hs : s.size ≤ 65536) (E : Env w) :
    Calls Tryz.prog 85 #[.string s] w fun e w' => e = .returned (.bool (manyF (fld (B s)))) ∧ Below w.heap.size w w' := by
  have HE := Lib.hid E
  have KC := Lib.hid (fun w => count_any s 44 w)
  have hcl := List.count_le_length (a := 44) (l := B s)
  rw [B_len] at hcl
  clear E
  refine (callsIn_wide (n := 5)).1 ?_
  refine callsIn_of_wp_marks Tryz.func85 rfl trivial ?_ rfl
  simp only [Tryz.ntmps85, List.size_toArray, List.length_cons, List.length_nil, Nat.reduceAdd, Nat.reduceSub, Array.replicate_succ, Array.replicate_zero, List.push_toArray, List.append_toArray, List.nil_append, List.cons_append]
  by_cases h12 : 12 ≤ (B s).count 44
  · have X := Lib.hid (show manyF (fld (B s)) = true by rw [many_is, decide_eq_true h12]; rfl)
    have h12' : (12 : Int) ≤ ((B s).count 44 : Nat) := by omega
    gi_wp2_with fail
    refine ⟨trivial, ?_⟩
    refine (callsIn_wide.2 (KC.out _)).mono ?_
    rintro e w1 ⟨rfl, rfl⟩
    gi_wp2
    refine ⟨.bool true, ?_, by rw [X.out], (Below.refl _ _).alloc (Nat.le_refl _) _⟩
    simp [results, Tryz.f85, go_sem]
  · have h12' : ¬ (12 : Int) ≤ ((B s).count 44 : Nat) := by omega
    have X := Lib.hid (show manyF (fld (B s)) = (ptsL 44 (B s)).any over by rw [many_is, decide_eq_false h12]; rfl)
    gi_wp2_with fail
    refine ⟨trivial, ?_⟩
    refine (callsIn_wide.2 (KC.out _)).mono ?_
    rintro e w1 ⟨rfl, rfl⟩
    gi_wp2_with fail
    refine ⟨trivial, ?_⟩
    refine (callsIn_wide.2 (pieces_any _ _ _)).mono ?_
    rintro e w2 ⟨rfl, rfl⟩
    obtain ⟨W0, hW0⟩ : ∃ W0, ((w.alloc (.cells #[.bool false] 4)).alloc (.cells #[.string s] 9)).alloc (.cells #[.string { data := #[44] }] 9) = W0 := ⟨_, rfl⟩
    have c0 : W0.cell? ⟨w.heap.size, 0, none⟩ = some (.bool false) := by rw [← hW0]; simp [go_sem]
    have f0 : W0.frozen? ⟨w.heap.size, 0, none⟩ = false := by rw [← hW0]; simp [go_sem]
    have c1 : W0.cell? ⟨w.heap.size + 1, 0, none⟩ = some (.string s) := by rw [← hW0]; simp [go_sem]
    have c2 : W0.cell? ⟨w.heap.size + 2, 0, none⟩ = some (.string { data := #[44] }) := by rw [← hW0]; simp [go_sem]
    have z0 : W0.heap.size = w.heap.size + 3 := by rw [← hW0]; simp
    have hB0 : Below w.heap.size w W0 := by rw [← hW0]; exact (((Below.refl _ w).alloc (Nat.le_refl _) _).alloc (by simp) _).alloc (by simp; omega) _
    simp only [World.size_alloc] at *
    rw [hW0]
    clear hW0
    have Z0 := Lib.hid z0
    have zz := hB0.size
    have hbm : w.heap.size + 1 + 1 < W0.heap.size := by omega
    clear z0
    gi_wp2
    refine wpIn_rangeFunc_ownG rfl (by omega) (gf := 118) (lb := #[.pointer (some ⟨w.heap.size + 1, 0, none⟩), .pointer (some ⟨w.heap.size + 1 + 1, 0, none⟩)]) rfl trivial (enters_of Tryz.func118 (by kernel_rfl) rfl)
      (pieces_stops w HE.out _ (by omega) (w.heap.size + 1) (w.heap.size + 1 + 1) s 44 hs W0 hB0 c1 c2) kpM_t (kpM_b zz hbm) (Below.refl _ _) (fun _ => rfl)
      (fun pre W => ((pre.map pcB).any over = false ∧ W.cell? ⟨w.heap.size, 0, none⟩ = some (.bool false) ∧ W.frozen? ⟨w.heap.size, 0, none⟩ = false) ∧ Below w.heap.size w W)
      (fun c pre W => (c = .ret ∧ (pre.map pcB).any over = true ∧ W.cell? ⟨w.heap.size, 0, none⟩ = some (.bool true)) ∧ Below w.heap.size w W)
      (OwnFrom.and (Own.from (fun s A B row hs hg hr => ⟨hs.1, cell_kept hs.2.1 hg hr, (frozen_kept hs.2.1 hg hr).trans hs.2.2⟩) _) (ownFrom_below (Nat.le_refl _) zz))
      (fun c => OwnFrom.and (Own.from (fun s A B row hs hg hr => ⟨hs.1, hs.2.1, cell_kept hs.2.2 hg hr⟩) _) (ownFrom_below (Nat.le_refl _) zz))
      ⟨⟨rfl, c0, f0⟩, hB0⟩
      (fun x => { tmps := #[.string s, undef, .pointer (some ⟨w.heap.size, 0, none⟩), .string x.1, .string s, .int .i64 ((B s).count 44 : Nat), .bool (decide ((12 : Int) ≤ ((B s).count 44 : Nat))), .string s, .func (.func 118) #[] #[.pointer (some ⟨w.heap.size + 1, 0, none⟩), .pointer (some ⟨w.heap.size + 1 + 1, 0, none⟩)], .string x.1, undef, undef, undef], defers := [] }) ?assign ?body ?done ?stop
    case assign =>
      intro l x W K hK
      gi_wp2
      exact hK
    case body =>
      rintro l pre x W ⟨⟨hp, hc, hf⟩, hB⟩ _
      have K := Lib.hid (fun w => count_any x.1 124 w)
      have hov : over (pcB x) = decide (6 ≤ (B x.1).count 124) := rfl
      gi_wp2_with fail
      refine ⟨trivial, ?_⟩
      refine (CallsIn.inRound l (callsIn_wide.2 (K.out _))).mono ?_
      rintro e w' ⟨rfl, rfl⟩
      by_cases h6 : 6 ≤ (B x.1).count 124
      · have h6' : (6 : Int) ≤ ((B x.1).count 124 : Nat) := by omega
        rw [decide_eq_true h6] at hov
        gi_wp2
        exact ⟨(KeepsOthers.setCell _ _ _).from _, ⟨rfl, by rw [List.map_append, List.any_append, List.map_singleton]; simp [hov], World.cell?_setCell_same' _ _ _ (by rw [hc]; rfl)⟩, hB.setCell (p := ⟨w.heap.size, 0, none⟩) (by simp) _⟩
      · have h6' : ¬ (6 : Int) ≤ ((B x.1).count 124 : Nat) := by omega
        rw [decide_eq_false h6] at hov
        gi_wp2
        exact ⟨KeepsFrom.refl _ _, ⟨rfl, Below.refl _ _⟩, ⟨by rw [List.map_append, List.any_append, List.map_singleton, hp]; simp [hov], hc, hf⟩, hB⟩
    case done =>
      rintro D ys W hD hS ⟨⟨hp, hc, hf⟩, hB⟩ hK
      have X2 := Lib.hid (show manyF (fld (B s)) = false from X.out.trans (by rw [show ptsL 44 (B s) = ys.map pcB from hS.symm]; exact hp))
      gi_wp2
      have hK' := (KeepsOthers.setCell W ⟨w.heap.size, 0, none⟩ (.bool false)).same D _ hK rfl
      refine ⟨by simp, .inl ⟨_, _, rfl, run_takeDeferred hK', ?_⟩⟩
      have hc5 := cell_kept (World.cell?_setCell_same' W ⟨w.heap.size, 0, none⟩ (.bool false) (by rw [hc]; rfl)) (grownBy_putObj' _ D (.deferred none)) (fun r e => by cases e; exact ⟨_, hK', rfl⟩)
      refine ⟨.bool false, ?_, by rw [X2.out], (hB.setCell (p := ⟨w.heap.size, 0, none⟩) (by simp) _).trans (belowK_b (w := w) (Nat.le_refl _) _ D _ _ (by omega) hK' rfl rfl)⟩
      simp [results, Tryz.f85, go_sem, hc5]
    case stop =>
      rintro D c pre W hD hpre ⟨⟨rfl, hin, hc⟩, hB⟩ hK
      have X2 := Lib.hid (X.out.trans (show (ptsL 44 (B s)).any over = true by
        rw [List.any_eq_true] at hin ⊢
        obtain ⟨y, hy, ho⟩ := hin
        exact ⟨y, hpre.subset hy, ho⟩))
      gi_wp2
      refine ⟨by simp, .inl ⟨_, _, rfl, run_takeDeferred hK, ?_⟩⟩
      have hc5 := cell_kept hc (grownBy_putObj' _ D (.deferred none)) (fun r e => by cases e; exact ⟨_, hK, rfl⟩)
      refine ⟨.bool true, ?_, by rw [X2.out], hB.trans (belowK_b (w := w) (Nat.le_refl _) W D _ _ (by omega) hK rfl rfl)⟩
      simp [results, Tryz.f85, go_sem, hc5]
end Go.Proofs.YtmlakjemgmeffaaGreatDoor
