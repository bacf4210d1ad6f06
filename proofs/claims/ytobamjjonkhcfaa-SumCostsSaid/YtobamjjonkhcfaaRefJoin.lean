/- The contract of the document own Join: as that of package sum; memory before is as it was. -/
import Derived.Test.YtobamjjonkhcfaaRefTot
import Derived.Test.YtobamjjonkhcfaaJoin
import Derived.Test.YtobamjjonkhcfaaBest
import Derived.WalkSpells
import Derived.BigQuiet
import Derived.Deep.QuietTactic
import Derived.Laws.Rows
namespace Go.Proofs.Ytobamjjonkhcfaa
open Go.RowKit

def outs (a0 a1 a2 a3 a4 b0 b1 b2 b3 b4 : Int) (k : Nat) : Array Value := #[.int .i64 (if 0 < k then a0 + b0 else 0), .int .i64 (if 1 < k then a1 + b1 else 0), .int .i64 (if 2 < k then a2 + b2 else 0), .int .i64 (if 3 < k then a3 + b3 else 0), .int .i64 (if 4 < k then a4 + b4 else 0)]
def smL (a0 a1 a2 a3 a4 b0 b1 b2 b3 b4 : Int) : List Int := [a0 + b0, a1 + b1, a2 + b2, a3 + b3, a4 + b4]
theorem outs_set (a0 a1 a2 a3 a4 b0 b1 b2 b3 b4 : Int) (k : Nat) (hk : k < 5) {x y : Int} (h : (smL a0 a1 a2 a3 a4 b0 b1 b2 b3 b4).getD k 0 = x + y) : (outs a0 a1 a2 a3 a4 b0 b1 b2 b3 b4 k).setIfInBounds k (.int .i64 (x + y)) = outs a0 a1 a2 a3 a4 b0 b1 b2 b3 b4 (k + 1) := by
  rw [← h]
  rcases (by omega : k = 0 ∨ k = 1 ∨ k = 2 ∨ k = 3 ∨ k = 4) with rfl | rfl | rfl | rfl | rfl <;> simp [outs, smL]
theorem outs_at (a0 a1 a2 a3 a4 b0 b1 b2 b3 b4 : Int) (k : Nat) (hk : k < 5) : ∃ v, (outs a0 a1 a2 a3 a4 b0 b1 b2 b3 b4 k)[k]? = some (.int .i64 v) := by
  rcases (by omega : k = 0 ∨ k = 1 ∨ k = 2 ∨ k = 3 ∨ k = 4) with rfl | rfl | rfl | rfl | rfl <;> exact ⟨_, rfl⟩
theorem blk_cell {w : World} {g : Nat} {t : TypeId} {cs : Array Value} (h : w.heap[g]? = some (.cells cs t (0, 0))) (i : Nat) : w.cell? ⟨g, i, none⟩ = cs[i]? := cell_of_row w g i cs t (0, 0) h
theorem blk_frozen {w : World} {g : Nat} {t : TypeId} {cs : Array Value} (h : w.heap[g]? = some (.cells cs t (0, 0))) (i : Nat) : w.frozen? ⟨g, i, none⟩ = false := by simp [World.frozen?, h]
theorem blk_set {w : World} {g : Nat} {t : TypeId} {cs : Array Value} (h : w.heap[g]? = some (.cells cs t (0, 0))) (i : Nat) (u : Value) : (w.setCell ⟨g, i, none⟩ u).heap[g]? = some (.cells (cs.setIfInBounds i u) t (0, 0)) := by
  simp [World.setCell, Array.getElem?_modify, h]
def W4 (a0 a1 a2 a3 a4 b0 b1 b2 b3 b4 : Int) (w : World) : World := ((((w.alloc (.cells #[.int .i64 a0, .int .i64 a1, .int .i64 a2, .int .i64 a3, .int .i64 a4] 32)).alloc (.cells #[.int .i64 b0, .int .i64 b1, .int .i64 b2, .int .i64 b3, .int .i64 b4] 32)).alloc (.cells #[.int .i64 0, .int .i64 0, .int .i64 0, .int .i64 0, .int .i64 0] 32)).alloc (.cells #[.int .i64 0, .int .i64 0, .int .i64 0, .int .i64 0, .int .i64 0] 32))
set_option maxHeartbeats 2000000 in
theorem refJoin_any (a0 a1 a2 a3 a4 b0 b1 b2 b3 b4 : Int) (w : World) (ra0 : InR a0) (rb0 : InR b0) (ra1 : InR a1) (rb1 : InR b1) (ra2 : InR a2) (rb2 : InR b2) (ra3 : InR a3) (rb3 : InR b3) (ra4 : InR a4) (rb4 : InR b4) :
    Calls Try.prog 19 #[.agg #[.int .i64 a0, .int .i64 a1, .int .i64 a2, .int .i64 a3, .int .i64 a4], .agg #[.int .i64 b0, .int .i64 b1, .int .i64 b2, .int .i64 b3, .int .i64 b4]] w fun e w' => e = .returned (.tuple #[joinV a0 a1 a2 a3 a4 b0 b1 b2 b3 b4, .int .i64 (joinE a0 a1 a2 a3 a4 b0 b1 b2 b3 b4)]) ∧ Below w.heap.size w w' := by
  have hix : ∀ k : Nat, k < 5 → ∃ x y, (W4 a0 a1 a2 a3 a4 b0 b1 b2 b3 b4 w).cell? ⟨w.heap.size, k, none⟩ = some (.int .i64 x) ∧ (W4 a0 a1 a2 a3 a4 b0 b1 b2 b3 b4 w).cell? ⟨w.heap.size + 1, k, none⟩ = some (.int .i64 y) ∧ InR x ∧ InR y ∧ (smL a0 a1 a2 a3 a4 b0 b1 b2 b3 b4).getD k 0 = x + y ∧ (¬ InR (x + y) → ¬ (InR (a0 + b0) ∧ InR (a1 + b1) ∧ InR (a2 + b2) ∧ InR (a3 + b3) ∧ InR (a4 + b4))) := by
    intro k hk
    rcases (by omega : k = 0 ∨ k = 1 ∨ k = 2 ∨ k = 3 ∨ k = 4) with rfl | rfl | rfl | rfl | rfl
    · exact ⟨a0, b0, by simp [W4, go_sem], by simp [W4, go_sem], ra0, rb0, rfl, fun h hh => h hh.1⟩
    · exact ⟨a1, b1, by simp [W4, go_sem], by simp [W4, go_sem], ra1, rb1, rfl, fun h hh => h hh.2.1⟩
    · exact ⟨a2, b2, by simp [W4, go_sem], by simp [W4, go_sem], ra2, rb2, rfl, fun h hh => h hh.2.2.1⟩
    · exact ⟨a3, b3, by simp [W4, go_sem], by simp [W4, go_sem], ra3, rb3, rfl, fun h hh => h hh.2.2.2.1⟩
    · exact ⟨a4, b4, by simp [W4, go_sem], by simp [W4, go_sem], ra4, rb4, rfl, fun h hh => h hh.2.2.2.2⟩
  have hz : ∀ k : Nat, k < 5 → (W4 a0 a1 a2 a3 a4 b0 b1 b2 b3 b4 w).cell? ⟨w.heap.size + 1 + 1, k, none⟩ = some (.int .i64 0) ∧ (W4 a0 a1 a2 a3 a4 b0 b1 b2 b3 b4 w).frozen? ⟨w.heap.size + 1 + 1, k, none⟩ = false := by
    intro k hk
    rcases (by omega : k = 0 ∨ k = 1 ∨ k = 2 ∨ k = 3 ∨ k = 4) with rfl | rfl | rfl | rfl | rfl <;> exact ⟨by simp [W4, go_sem], by simp [W4, go_sem]⟩
  have hblk : (W4 a0 a1 a2 a3 a4 b0 b1 b2 b3 b4 w).heap[w.heap.size + 1 + 1 + 1]? = some (.cells (outs a0 a1 a2 a3 a4 b0 b1 b2 b3 b4 0) 32 (0, 0)) := by
    have := heap_alloc_new (((w.alloc (.cells #[.int .i64 a0, .int .i64 a1, .int .i64 a2, .int .i64 a3, .int .i64 a4] 32)).alloc (.cells #[.int .i64 b0, .int .i64 b1, .int .i64 b2, .int .i64 b3, .int .i64 b4] 32)).alloc (.cells #[.int .i64 0, .int .i64 0, .int .i64 0, .int .i64 0, .int .i64 0] 32)) (.cells #[.int .i64 0, .int .i64 0, .int .i64 0, .int .i64 0, .int .i64 0] 32)
    simp at this
    simpa [W4, outs] using this
  have hbW : Below w.heap.size w (W4 a0 a1 a2 a3 a4 b0 b1 b2 b3 b4 w) := (((((Below.refl _ w).alloc (Nat.le_refl _) _).alloc (by simp) _).alloc (by simp; omega) _).alloc (by simp; omega) _)
  have HX := Lib.hid hix
  have HZ := Lib.hid hz
  have hin : (InR (a0 + b0) ∧ InR (a1 + b1) ∧ InR (a2 + b2) ∧ InR (a3 + b3) ∧ InR (a4 + b4)) → joinV a0 a1 a2 a3 a4 b0 b1 b2 b3 b4 = .agg #[.int .i64 (a0 + b0), .int .i64 (a1 + b1), .int .i64 (a2 + b2), .int .i64 (a3 + b3), .int .i64 (a4 + b4)] ∧ joinE a0 a1 a2 a3 a4 b0 b1 b2 b3 b4 = 0 := fun h => ⟨by unfold joinV; rw [if_pos h], by unfold joinE; rw [if_pos h]⟩
  have hout : ¬ (InR (a0 + b0) ∧ InR (a1 + b1) ∧ InR (a2 + b2) ∧ InR (a3 + b3) ∧ InR (a4 + b4)) → joinV a0 a1 a2 a3 a4 b0 b1 b2 b3 b4 = .agg #[.int .i64 0, .int .i64 0, .int .i64 0, .int .i64 0, .int .i64 0] ∧ joinE a0 a1 a2 a3 a4 b0 b1 b2 b3 b4 = 2 := fun h => ⟨by unfold joinV; rw [if_neg h], by unfold joinE; rw [if_neg h]⟩
  have HI := Lib.hid hin
  have HO := Lib.hid hout
  clear hix hz hin hout ra0 ra1 ra2 ra3 ra4 rb0 rb1 rb2 rb3 rb4
  go_enter Try.func19, Try.ntmps19
  go_wp2
  change Code.wp _ _ _ _ (W4 a0 a1 a2 a3 a4 b0 b1 b2 b3 b4 w)
  generalize W4 a0 a1 a2 a3 a4 b0 b1 b2 b3 b4 w = W at *
  go_loopw [7] (fun i wr => ∃ k : Nat, k ≤ 5 ∧ i = .int .i64 k ∧ Below (w.heap.size + 3) W wr ∧ wr.heap[w.heap.size + 1 + 1 + 1]? = some (.cells (outs a0 a1 a2 a3 a4 b0 b1 b2 b3 b4 k) 32 (0, 0)) ∧ (∀ i, i < k → InR ((smL a0 a1 a2 a3 a4 b0 b1 b2 b3 b4).getD i 0))) (fun i _ => 5 - (intOf i).toNat)
  case atStart => exact ⟨0, by omega, rfl, Below.refl _ _, hblk, fun i hi => by omega⟩
  case round =>
    obtain ⟨k, hk, rfl, hb, hout, hfit⟩ := hrel
    have HB := Lib.hid hb
    have HOUT := Lib.hid hout
    have HF := Lib.hid hfit
    have keepc : ∀ g o, g < w.heap.size + 3 → wr.cell? ⟨g, o, none⟩ = W.cell? ⟨g, o, none⟩ := fun g o h => hb.cell (p := ⟨g, o, none⟩) h
    have keepf : ∀ g o, g < w.heap.size + 3 → wr.frozen? ⟨g, o, none⟩ = W.frozen? ⟨g, o, none⟩ := fun g o h => hb.frozen (p := ⟨g, o, none⟩) h
    have KC := Lib.hid keepc
    have KF := Lib.hid keepf
    clear hb hout hfit hblk keepc keepf
    by_cases hlt : k < 5
    · obtain ⟨x, y, hx, hy, rx, ry, hs, hno⟩ := HX.out k hlt
      have HS := Lib.hid hs
      have HN := Lib.hid hno
      have hki : (k : Int) < 5 := by omega
      have cx : wr.cell? ⟨w.heap.size, k, none⟩ = some (.int .i64 x) := by rw [KC.out _ _ (by omega)]; exact hx
      have cy : wr.cell? ⟨w.heap.size + 1, k, none⟩ = some (.int .i64 y) := by rw [KC.out _ _ (by omega)]; exact hy
      clear hs hno hx hy
      by_cases hfitk : InR (x + y)
      · obtain ⟨v0, hv0⟩ := outs_at a0 a1 a2 a3 a4 b0 b1 b2 b3 b4 k hlt
        have co : wr.cell? ⟨w.heap.size + 1 + 1 + 1, k, none⟩ = some (.int .i64 v0) := by rw [blk_cell HOUT.out]; exact hv0
        have fo : wr.frozen? ⟨w.heap.size + 1 + 1 + 1, k, none⟩ = false := blk_frozen HOUT.out k
        clear hv0
        go_wp2_with fail
        go_quiet ((go_at_call 11; exact quiet_left (refAdd_in _ _ _ rx ry hfitk)))
        have co2 : (wr.drewN nq).cell? ⟨w.heap.size + 1 + 1 + 1, k, none⟩ = some (.int .i64 v0) := co
        have fo2 : (wr.drewN nq).frozen? ⟨w.heap.size + 1 + 1 + 1, k, none⟩ = false := fo
        have hb2 := Lib.hid (bel_drewN HB.out nq)
        have o2 : Hid ((wr.drewN nq).heap[w.heap.size + 1 + 1 + 1]? = some (.cells (outs a0 a1 a2 a3 a4 b0 b1 b2 b3 b4 k) 32 (0, 0))) := HOUT
        clear cx cy co fo HB HOUT KC KF
        generalize wr.drewN nq = w2 at *
        go_wp2
        go_roundw
        case rel => exact ⟨k + 1, by omega, by go_num, hb2.out.setCell (Nat.le_refl _) _, by rw [← outs_set a0 a1 a2 a3 a4 b0 b1 b2 b3 b4 k hlt HS.out]; exact blk_set o2.out k _, fun i hi => by rcases (by omega : i < k ∨ i = k) with h | rfl; exact HF.out i h; rw [HS.out]; exact hfitk⟩
        case measure => simp [intOf]; omega
      · have hve := Lib.hid (HO.out (HN.out hfitk))
        have r0 : wr.cell? ⟨w.heap.size + 1 + 1, 0, none⟩ = some (.int .i64 0) := by rw [KC.out _ _ (by omega)]; exact (HZ.out 0 (by omega)).1
        have fr0 : wr.frozen? ⟨w.heap.size + 1 + 1, 0, none⟩ = false := by rw [KF.out _ _ (by omega)]; exact (HZ.out 0 (by omega)).2
        have r1 : wr.cell? ⟨w.heap.size + 1 + 1, 1, none⟩ = some (.int .i64 0) := by rw [KC.out _ _ (by omega)]; exact (HZ.out 1 (by omega)).1
        have fr1 : wr.frozen? ⟨w.heap.size + 1 + 1, 1, none⟩ = false := by rw [KF.out _ _ (by omega)]; exact (HZ.out 1 (by omega)).2
        have r2 : wr.cell? ⟨w.heap.size + 1 + 1, 2, none⟩ = some (.int .i64 0) := by rw [KC.out _ _ (by omega)]; exact (HZ.out 2 (by omega)).1
        have fr2 : wr.frozen? ⟨w.heap.size + 1 + 1, 2, none⟩ = false := by rw [KF.out _ _ (by omega)]; exact (HZ.out 2 (by omega)).2
        have r3 : wr.cell? ⟨w.heap.size + 1 + 1, 3, none⟩ = some (.int .i64 0) := by rw [KC.out _ _ (by omega)]; exact (HZ.out 3 (by omega)).1
        have fr3 : wr.frozen? ⟨w.heap.size + 1 + 1, 3, none⟩ = false := by rw [KF.out _ _ (by omega)]; exact (HZ.out 3 (by omega)).2
        have r4 : wr.cell? ⟨w.heap.size + 1 + 1, 4, none⟩ = some (.int .i64 0) := by rw [KC.out _ _ (by omega)]; exact (HZ.out 4 (by omega)).1
        have fr4 : wr.frozen? ⟨w.heap.size + 1 + 1, 4, none⟩ = false := by rw [KF.out _ _ (by omega)]; exact (HZ.out 4 (by omega)).2
        go_wp2_with fail
        go_quiet ((go_at_call 11; exact quiet_left (refAdd_out _ _ _ rx ry hfitk)))
        have r0 : (wr.drewN nq).cell? ⟨w.heap.size + 1 + 1, 0, none⟩ = some (.int .i64 0) := r0
        have fr0 : (wr.drewN nq).frozen? ⟨w.heap.size + 1 + 1, 0, none⟩ = false := fr0
        have r1 : (wr.drewN nq).cell? ⟨w.heap.size + 1 + 1, 1, none⟩ = some (.int .i64 0) := r1
        have fr1 : (wr.drewN nq).frozen? ⟨w.heap.size + 1 + 1, 1, none⟩ = false := fr1
        have r2 : (wr.drewN nq).cell? ⟨w.heap.size + 1 + 1, 2, none⟩ = some (.int .i64 0) := r2
        have fr2 : (wr.drewN nq).frozen? ⟨w.heap.size + 1 + 1, 2, none⟩ = false := fr2
        have r3 : (wr.drewN nq).cell? ⟨w.heap.size + 1 + 1, 3, none⟩ = some (.int .i64 0) := r3
        have fr3 : (wr.drewN nq).frozen? ⟨w.heap.size + 1 + 1, 3, none⟩ = false := fr3
        have r4 : (wr.drewN nq).cell? ⟨w.heap.size + 1 + 1, 4, none⟩ = some (.int .i64 0) := r4
        have fr4 : (wr.drewN nq).frozen? ⟨w.heap.size + 1 + 1, 4, none⟩ = false := fr4
        have hb2 := Lib.hid (bel_drewN HB.out nq)
        clear cx cy HB HOUT KC KF
        generalize wr.drewN nq = w2 at *
        go_wp2
        obtain ⟨V, hV⟩ : ∃ V, V = (((((w2.setCell ⟨w.heap.size + 1 + 1, 0, none⟩ (.int .i64 0)).setCell ⟨w.heap.size + 1 + 1, 1, none⟩ (.int .i64 0)).setCell ⟨w.heap.size + 1 + 1, 2, none⟩ (.int .i64 0)).setCell ⟨w.heap.size + 1 + 1, 3, none⟩ (.int .i64 0)).setCell ⟨w.heap.size + 1 + 1, 4, none⟩ (.int .i64 0)) := ⟨_, rfl⟩
        have bV : Below w.heap.size w V := by
          rw [hV]
          exact (((((hbW.trans (hb2.out.mono (by omega))).setCell (by simp; omega) _).setCell (by simp; omega) _).setCell (by simp; omega) _).setCell (by simp; omega) _).setCell (by simp; omega) _
        have d0 : V.cell? ⟨w.heap.size + 1 + 1, 0, none⟩ = some (.int .i64 0) := by rw [hV]; simp [go_sem, r0]
        have d1 : V.cell? ⟨w.heap.size + 1 + 1, 1, none⟩ = some (.int .i64 0) := by rw [hV]; simp [go_sem, r1]
        have d2 : V.cell? ⟨w.heap.size + 1 + 1, 2, none⟩ = some (.int .i64 0) := by rw [hV]; simp [go_sem, r2]
        have d3 : V.cell? ⟨w.heap.size + 1 + 1, 3, none⟩ = some (.int .i64 0) := by rw [hV]; simp [go_sem, r3]
        have d4 : V.cell? ⟨w.heap.size + 1 + 1, 4, none⟩ = some (.int .i64 0) := by rw [hV]; simp [go_sem, r4]
        rw [← hV]
        clear hV r0 r1 r2 r3 r4 fr0 fr1 fr2 fr3 fr4
        exact bodyPost_ret (v := .tuple #[.agg #[.int .i64 0, .int .i64 0, .int .i64 0, .int .i64 0, .int .i64 0], .int .i64 2]) (by simp [results, Try.results19, go_sem, d0, d1, d2, d3, d4]) rfl ⟨by rw [hve.out.1, hve.out.2], bV⟩
    · have hk5 : k = 5 := by omega
      have hall : InR (a0 + b0) ∧ InR (a1 + b1) ∧ InR (a2 + b2) ∧ InR (a3 + b3) ∧ InR (a4 + b4) := by
        have q0 := HF.out 0 (by omega); have q1 := HF.out 1 (by omega); have q2 := HF.out 2 (by omega); have q3 := HF.out 3 (by omega); have q4 := HF.out 4 (by omega)
        exact ⟨q0, q1, q2, q3, q4⟩
      have hve := Lib.hid (HI.out hall)
      have o0 : wr.cell? ⟨w.heap.size + 1 + 1 + 1, 0, none⟩ = some (.int .i64 (a0 + b0)) := by rw [blk_cell HOUT.out, hk5]; rfl
      have o1 : wr.cell? ⟨w.heap.size + 1 + 1 + 1, 1, none⟩ = some (.int .i64 (a1 + b1)) := by rw [blk_cell HOUT.out, hk5]; rfl
      have o2 : wr.cell? ⟨w.heap.size + 1 + 1 + 1, 2, none⟩ = some (.int .i64 (a2 + b2)) := by rw [blk_cell HOUT.out, hk5]; rfl
      have o3 : wr.cell? ⟨w.heap.size + 1 + 1 + 1, 3, none⟩ = some (.int .i64 (a3 + b3)) := by rw [blk_cell HOUT.out, hk5]; rfl
      have o4 : wr.cell? ⟨w.heap.size + 1 + 1 + 1, 4, none⟩ = some (.int .i64 (a4 + b4)) := by rw [blk_cell HOUT.out, hk5]; rfl
      have r0 : wr.cell? ⟨w.heap.size + 1 + 1, 0, none⟩ = some (.int .i64 0) := by rw [KC.out _ _ (by omega)]; exact (HZ.out 0 (by omega)).1
      have fr0 : wr.frozen? ⟨w.heap.size + 1 + 1, 0, none⟩ = false := by rw [KF.out _ _ (by omega)]; exact (HZ.out 0 (by omega)).2
      have r1 : wr.cell? ⟨w.heap.size + 1 + 1, 1, none⟩ = some (.int .i64 0) := by rw [KC.out _ _ (by omega)]; exact (HZ.out 1 (by omega)).1
      have fr1 : wr.frozen? ⟨w.heap.size + 1 + 1, 1, none⟩ = false := by rw [KF.out _ _ (by omega)]; exact (HZ.out 1 (by omega)).2
      have r2 : wr.cell? ⟨w.heap.size + 1 + 1, 2, none⟩ = some (.int .i64 0) := by rw [KC.out _ _ (by omega)]; exact (HZ.out 2 (by omega)).1
      have fr2 : wr.frozen? ⟨w.heap.size + 1 + 1, 2, none⟩ = false := by rw [KF.out _ _ (by omega)]; exact (HZ.out 2 (by omega)).2
      have r3 : wr.cell? ⟨w.heap.size + 1 + 1, 3, none⟩ = some (.int .i64 0) := by rw [KC.out _ _ (by omega)]; exact (HZ.out 3 (by omega)).1
      have fr3 : wr.frozen? ⟨w.heap.size + 1 + 1, 3, none⟩ = false := by rw [KF.out _ _ (by omega)]; exact (HZ.out 3 (by omega)).2
      have r4 : wr.cell? ⟨w.heap.size + 1 + 1, 4, none⟩ = some (.int .i64 0) := by rw [KC.out _ _ (by omega)]; exact (HZ.out 4 (by omega)).1
      have fr4 : wr.frozen? ⟨w.heap.size + 1 + 1, 4, none⟩ = false := by rw [KF.out _ _ (by omega)]; exact (HZ.out 4 (by omega)).2
      have hge : 5 ≤ k := by omega
      clear hk5 hall HOUT KC KF
      go_wp2
      obtain ⟨V, hV⟩ : ∃ V, V = (((((wr.setCell ⟨w.heap.size + 1 + 1, 0, none⟩ (.int .i64 (a0 + b0))).setCell ⟨w.heap.size + 1 + 1, 1, none⟩ (.int .i64 (a1 + b1))).setCell ⟨w.heap.size + 1 + 1, 2, none⟩ (.int .i64 (a2 + b2))).setCell ⟨w.heap.size + 1 + 1, 3, none⟩ (.int .i64 (a3 + b3))).setCell ⟨w.heap.size + 1 + 1, 4, none⟩ (.int .i64 (a4 + b4))) := ⟨_, rfl⟩
      have bV : Below w.heap.size w V := by
        rw [hV]
        exact (((((hbW.trans (HB.out.mono (by omega))).setCell (by simp; omega) _).setCell (by simp; omega) _).setCell (by simp; omega) _).setCell (by simp; omega) _).setCell (by simp; omega) _
      have d0 : V.cell? ⟨w.heap.size + 1 + 1, 0, none⟩ = some (.int .i64 (a0 + b0)) := by rw [hV]; simp [go_sem, r0]
      have d1 : V.cell? ⟨w.heap.size + 1 + 1, 1, none⟩ = some (.int .i64 (a1 + b1)) := by rw [hV]; simp [go_sem, r1]
      have d2 : V.cell? ⟨w.heap.size + 1 + 1, 2, none⟩ = some (.int .i64 (a2 + b2)) := by rw [hV]; simp [go_sem, r2]
      have d3 : V.cell? ⟨w.heap.size + 1 + 1, 3, none⟩ = some (.int .i64 (a3 + b3)) := by rw [hV]; simp [go_sem, r3]
      have d4 : V.cell? ⟨w.heap.size + 1 + 1, 4, none⟩ = some (.int .i64 (a4 + b4)) := by rw [hV]; simp [go_sem, r4]
      rw [← hV]
      clear hV r0 r1 r2 r3 r4 fr0 fr1 fr2 fr3 fr4
      exact bodyPost_ret (v := .tuple #[.agg #[.int .i64 (a0 + b0), .int .i64 (a1 + b1), .int .i64 (a2 + b2), .int .i64 (a3 + b3), .int .i64 (a4 + b4)], .int .i64 0]) (by simp [results, Try.results19, go_sem, d0, d1, d2, d3, d4]) rfl ⟨by rw [hve.out.1, hve.out.2], bV⟩
end Go.Proofs.Ytobamjjonkhcfaa
