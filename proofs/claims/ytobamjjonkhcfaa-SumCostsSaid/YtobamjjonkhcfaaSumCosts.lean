/- keelsonlaw1.SumCosts: called with any arguments that can be read it returns true, and its arguments read as before. No condition. -/
import Derived.Test.YtobamjjonkhcfaaShown
import Derived.Test.YtobamjjonkhcfaaBest
import Derived.Test.YtobamjjonkhcfaaRefCost
import Derived.Test.YtobamjjonkhcfaaJoin
import Derived.Test.YtobamjjonkhcfaaRefJoin
import Derived.Test.YtobamjjonkhcfaaEq5
import Derived.Test.YtobamjjonkhcfaaPost
import Derived.Test.YtobamjjonkhcfaaPostC
import Derived.Deep.RegionHeld3
import Derived.OpenShut
namespace Go.Proofs.Ytobamjjonkhcfaa.sumCosts
open Go.ChangeShapes Go.WideShapes Go.ChangeAt Go.RowKit

theorem boxes2 (a0 a1 a2 a3 a4 b0 b1 b2 b3 b4 : Int) (w W : World) (hb : Below (w.heap.size + 2) ((w.alloc (.cells #[.int .i64 a0, .int .i64 a1, .int .i64 a2, .int .i64 a3, .int .i64 a4] 32)).alloc (.cells #[.int .i64 b0, .int .i64 b1, .int .i64 b2, .int .i64 b3, .int .i64 b4] 32)) W) : W.cell? ⟨w.heap.size, 0, none⟩ = some (.int .i64 a0) ∧ W.cell? ⟨w.heap.size, 1, none⟩ = some (.int .i64 a1) ∧ W.cell? ⟨w.heap.size, 2, none⟩ = some (.int .i64 a2) ∧ W.cell? ⟨w.heap.size, 3, none⟩ = some (.int .i64 a3) ∧ W.cell? ⟨w.heap.size, 4, none⟩ = some (.int .i64 a4) ∧ W.cell? ⟨w.heap.size + 1, 0, none⟩ = some (.int .i64 b0) ∧ W.cell? ⟨w.heap.size + 1, 1, none⟩ = some (.int .i64 b1) ∧ W.cell? ⟨w.heap.size + 1, 2, none⟩ = some (.int .i64 b2) ∧ W.cell? ⟨w.heap.size + 1, 3, none⟩ = some (.int .i64 b3) ∧ W.cell? ⟨w.heap.size + 1, 4, none⟩ = some (.int .i64 b4) := by
  have h : ∀ b o, b < w.heap.size + 2 → W.cell? ⟨b, o, none⟩ = ((w.alloc (.cells #[.int .i64 a0, .int .i64 a1, .int .i64 a2, .int .i64 a3, .int .i64 a4] 32)).alloc (.cells #[.int .i64 b0, .int .i64 b1, .int .i64 b2, .int .i64 b3, .int .i64 b4] 32)).cell? ⟨b, o, none⟩ := fun b o hl => hb.cell (p := ⟨b, o, none⟩) hl
  refine ⟨?_, ?_, ?_, ?_, ?_, ?_, ?_, ?_, ?_, ?_⟩ <;> (rw [h _ _ (by omega)]; simp [go_sem])
theorem keep_cell {W W' : World} {p : Addr} {v : Value} (hb : Below W.heap.size W W') (h : W.cell? p = some v) : W'.cell? p = some v := (hb.cell (cell_lt h)).trans h
theorem readsC_more {w : World} {B B' n : Nat} {A : Option Addr} {cl : List (List Int)} (h : ReadsC w B A n cl) (hB : B ≤ B') : ReadsC w B' A n cl := by
  refine ⟨h.1, fun k hk => ?_⟩
  obtain ⟨ad, a0, a1, a2, a3, a4, hA, hlt, hr⟩ := h.2 k hk
  exact ⟨ad, a0, a1, a2, a3, a4, hA, by omega, hr⟩
theorem walk_long (a0 a1 a2 a3 a4 b0 b1 b2 b3 b4 : Int) (A : Option Addr) (n c : Nat) (w : World) (h : 1000 < n) :
    Calls Try.prog 5 #[.agg #[.int .i64 a0, .int .i64 a1, .int .i64 a2, .int .i64 a3, .int .i64 a4], .agg #[.int .i64 b0, .int .i64 b1, .int .i64 b2, .int .i64 b3, .int .i64 b4], .slice A n c] w fun e w' => e = .returned (.bool true) ∧ Below w.heap.size w w' := by
  have t1 : decide ((1000 : Int) < (n : Int)) = true := by simp; omega
  clear h
  go_enter Try.func5, Try.ntmps5
  go_wp2_with fail
  refine (shown_any _).mono ?_
  rintro e w1 ⟨rfl, hb1⟩
  go_wp2
  go_ret
  exact ⟨rfl, (((Below.refl _ w).alloc (Nat.le_refl _) _).alloc (by simp) _).trans (hb1.mono (by simp; omega))⟩
set_option maxHeartbeats 8000000 in
theorem walk_short (a0 a1 a2 a3 a4 b0 b1 b2 b3 b4 : Int) (A : Option Addr) (n c : Nat) (cl : List (List Int)) (w : World) (ha : InR a0 ∧ InR a1 ∧ InR a2 ∧ InR a3 ∧ InR a4) (hb : InR b0 ∧ InR b1 ∧ InR b2 ∧ InR b3 ∧ InR b4) (hr : ReadsC w w.heap.size A n cl) (hn : n ≤ 1000) :
    Calls Try.prog 5 #[.agg #[.int .i64 a0, .int .i64 a1, .int .i64 a2, .int .i64 a3, .int .i64 a4], .agg #[.int .i64 b0, .int .i64 b1, .int .i64 b2, .int .i64 b3, .int .i64 b4], .slice A n c] w fun e w' => e = .returned (.bool true) ∧ Below w.heap.size w w' := by
  have t1 : decide ((1000 : Int) < (n : Int)) = false := by simp; omega
  obtain ⟨s0, s1, s2, s3, s4, hs⟩ := joinV_eq a0 a1 a2 a3 a4 b0 b1 b2 b3 b4
  have CJ : ∀ W, Calls Try.prog 18 #[.agg #[.int .i64 a0, .int .i64 a1, .int .i64 a2, .int .i64 a3, .int .i64 a4], .agg #[.int .i64 b0, .int .i64 b1, .int .i64 b2, .int .i64 b3, .int .i64 b4]] W fun e w' => e = .returned (.tuple #[.agg #[.int .i64 s0, .int .i64 s1, .int .i64 s2, .int .i64 s3, .int .i64 s4], .int .i64 (joinE a0 a1 a2 a3 a4 b0 b1 b2 b3 b4)]) ∧ Below W.heap.size W w' := by
    intro W; rw [← hs]; exact Join_any a0 a1 a2 a3 a4 b0 b1 b2 b3 b4 W ha.1 hb.1 ha.2.1 hb.2.1 ha.2.2.1 hb.2.2.1 ha.2.2.2.1 hb.2.2.2.1 ha.2.2.2.2 hb.2.2.2.2
  have CR : ∀ W, Calls Try.prog 19 #[.agg #[.int .i64 a0, .int .i64 a1, .int .i64 a2, .int .i64 a3, .int .i64 a4], .agg #[.int .i64 b0, .int .i64 b1, .int .i64 b2, .int .i64 b3, .int .i64 b4]] W fun e w' => e = .returned (.tuple #[.agg #[.int .i64 s0, .int .i64 s1, .int .i64 s2, .int .i64 s3, .int .i64 s4], .int .i64 (joinE a0 a1 a2 a3 a4 b0 b1 b2 b3 b4)]) ∧ Below W.heap.size W w' := by
    intro W; rw [← hs]; exact refJoin_any a0 a1 a2 a3 a4 b0 b1 b2 b3 b4 W ha.1 hb.1 ha.2.1 hb.2.1 ha.2.2.1 hb.2.2.1 ha.2.2.2.1 hb.2.2.2.1 ha.2.2.2.2 hb.2.2.2.2
  have heq : ∀ W, (Op.equalIn 10000 32 (.agg #[.int .i64 s0, .int .i64 s1, .int .i64 s2, .int .i64 s3, .int .i64 s4]) (.agg #[.int .i64 s0, .int .i64 s1, .int .i64 s2, .int .i64 s3, .int .i64 s4])).run Try.prog W = .ok true W := by
    intro W; have := eq_five s0 s1 s2 s3 s4 s0 s1 s2 s3 s4 W; simpa using this
  have HJ := Lib.hid CJ
  have HR := Lib.hid CR
  have HRD := Lib.hid hr
  have bA := Lib.hid (show Below w.heap.size w ((w.alloc (.cells #[.int .i64 a0, .int .i64 a1, .int .i64 a2, .int .i64 a3, .int .i64 a4] 32)).alloc (.cells #[.int .i64 b0, .int .i64 b1, .int .i64 b2, .int .i64 b3, .int .i64 b4] 32)) from ((Below.refl _ w).alloc (Nat.le_refl _) _).alloc (by simp) _)
  clear CJ CR hs ha hb hr
  generalize joinE a0 a1 a2 a3 a4 b0 b1 b2 b3 b4 = je at *
  go_enter Try.func5, Try.ntmps5
  go_wp2_with fail
  refine (shown_any _).mono ?_
  rintro e w1 ⟨rfl, h1⟩
  have bw1 : Below (w.heap.size + 2) ((w.alloc (.cells #[.int .i64 a0, .int .i64 a1, .int .i64 a2, .int .i64 a3, .int .i64 a4] 32)).alloc (.cells #[.int .i64 b0, .int .i64 b1, .int .i64 b2, .int .i64 b3, .int .i64 b4] 32)) w1 := h1.mono (by simp)
  have z1 : w.heap.size + 2 ≤ w1.heap.size := by have := bw1.size; simp at this; omega
  clear h1
  obtain ⟨fa0, fa1, fa2, fa3, fa4, fb0, fb1, fb2, fb3, fb4⟩ := boxes2 a0 a1 a2 a3 a4 b0 b1 b2 b3 b4 w w1 bw1
  go_wp2_with fail
  refine (HJ.out w1).mono ?_
  rintro e w2 ⟨rfl, h2⟩
  have bw2 : Below (w.heap.size + 2) ((w.alloc (.cells #[.int .i64 a0, .int .i64 a1, .int .i64 a2, .int .i64 a3, .int .i64 a4] 32)).alloc (.cells #[.int .i64 b0, .int .i64 b1, .int .i64 b2, .int .i64 b3, .int .i64 b4] 32)) w2 := bw1.trans (h2.mono z1)
  have z2 : w.heap.size + 2 ≤ w2.heap.size := by have := bw2.size; simp at this; omega
  have bw2a := bw2.alloc z2 (.cells #[.int .i64 s0, .int .i64 s1, .int .i64 s2, .int .i64 s3, .int .i64 s4] 32)
  clear fa0 fa1 fa2 fa3 fa4 fb0 fb1 fb2 fb3 fb4
  clear h2
  obtain ⟨fa0, fa1, fa2, fa3, fa4, fb0, fb1, fb2, fb3, fb4⟩ := boxes2 a0 a1 a2 a3 a4 b0 b1 b2 b3 b4 w _ bw2a
  go_wp2_with fail
  refine (HR.out _).mono ?_
  rintro e w3 ⟨rfl, h3⟩
  have h3' : Below (w2.heap.size + 1) (w2.alloc (.cells #[.int .i64 s0, .int .i64 s1, .int .i64 s2, .int .i64 s3, .int .i64 s4] 32)) w3 := h3.mono (by simp)
  have bw3 : Below (w.heap.size + 2) ((w.alloc (.cells #[.int .i64 a0, .int .i64 a1, .int .i64 a2, .int .i64 a3, .int .i64 a4] 32)).alloc (.cells #[.int .i64 b0, .int .i64 b1, .int .i64 b2, .int .i64 b3, .int .i64 b4] 32)) w3 := bw2a.trans (h3'.mono (by omega))
  have z3 : w2.heap.size + 1 ≤ w3.heap.size := by have := h3'.size; simp at this; omega
  have x0 : w3.cell? ⟨w2.heap.size, 0, none⟩ = some (.int .i64 s0) := by rw [h3'.cell (by simp)]; simp [go_sem]
  have x1 : w3.cell? ⟨w2.heap.size, 1, none⟩ = some (.int .i64 s1) := by rw [h3'.cell (by simp)]; simp [go_sem]
  have x2 : w3.cell? ⟨w2.heap.size, 2, none⟩ = some (.int .i64 s2) := by rw [h3'.cell (by simp)]; simp [go_sem]
  have x3 : w3.cell? ⟨w2.heap.size, 3, none⟩ = some (.int .i64 s3) := by rw [h3'.cell (by simp)]; simp [go_sem]
  have x4 : w3.cell? ⟨w2.heap.size, 4, none⟩ = some (.int .i64 s4) := by rw [h3'.cell (by simp)]; simp [go_sem]
  have bw3a := bw3.alloc (by omega) (.cells #[.int .i64 s0, .int .i64 s1, .int .i64 s2, .int .i64 s3, .int .i64 s4] 32)
  clear fa0 fa1 fa2 fa3 fa4 fb0 fb1 fb2 fb3 fb4
  clear h3 h3' bw2a
  obtain ⟨fa0, fa1, fa2, fa3, fa4, fb0, fb1, fb2, fb3, fb4⟩ := boxes2 a0 a1 a2 a3 a4 b0 b1 b2 b3 b4 w _ bw3a
  have x0 : (w3.alloc (.cells #[.int .i64 s0, .int .i64 s1, .int .i64 s2, .int .i64 s3, .int .i64 s4] 32)).cell? ⟨w2.heap.size, 0, none⟩ = some (.int .i64 s0) := cell_old x0 _
  have y0 : (w3.alloc (.cells #[.int .i64 s0, .int .i64 s1, .int .i64 s2, .int .i64 s3, .int .i64 s4] 32)).cell? ⟨w3.heap.size, 0, none⟩ = some (.int .i64 s0) := by simp [go_sem]
  have x1 : (w3.alloc (.cells #[.int .i64 s0, .int .i64 s1, .int .i64 s2, .int .i64 s3, .int .i64 s4] 32)).cell? ⟨w2.heap.size, 1, none⟩ = some (.int .i64 s1) := cell_old x1 _
  have y1 : (w3.alloc (.cells #[.int .i64 s0, .int .i64 s1, .int .i64 s2, .int .i64 s3, .int .i64 s4] 32)).cell? ⟨w3.heap.size, 1, none⟩ = some (.int .i64 s1) := by simp [go_sem]
  have x2 : (w3.alloc (.cells #[.int .i64 s0, .int .i64 s1, .int .i64 s2, .int .i64 s3, .int .i64 s4] 32)).cell? ⟨w2.heap.size, 2, none⟩ = some (.int .i64 s2) := cell_old x2 _
  have y2 : (w3.alloc (.cells #[.int .i64 s0, .int .i64 s1, .int .i64 s2, .int .i64 s3, .int .i64 s4] 32)).cell? ⟨w3.heap.size, 2, none⟩ = some (.int .i64 s2) := by simp [go_sem]
  have x3 : (w3.alloc (.cells #[.int .i64 s0, .int .i64 s1, .int .i64 s2, .int .i64 s3, .int .i64 s4] 32)).cell? ⟨w2.heap.size, 3, none⟩ = some (.int .i64 s3) := cell_old x3 _
  have y3 : (w3.alloc (.cells #[.int .i64 s0, .int .i64 s1, .int .i64 s2, .int .i64 s3, .int .i64 s4] 32)).cell? ⟨w3.heap.size, 3, none⟩ = some (.int .i64 s3) := by simp [go_sem]
  have x4 : (w3.alloc (.cells #[.int .i64 s0, .int .i64 s1, .int .i64 s2, .int .i64 s3, .int .i64 s4] 32)).cell? ⟨w2.heap.size, 4, none⟩ = some (.int .i64 s4) := cell_old x4 _
  have y4 : (w3.alloc (.cells #[.int .i64 s0, .int .i64 s1, .int .i64 s2, .int .i64 s3, .int .i64 s4] 32)).cell? ⟨w3.heap.size, 4, none⟩ = some (.int .i64 s4) := by simp [go_sem]
  go_wp2_with fail
  generalize (w3.alloc (.cells #[.int .i64 s0, .int .i64 s1, .int .i64 s2, .int .i64 s3, .int .i64 s4] 32)) = W7 at *
  have bb := (Below.refl W7.heap.size W7).drew
  have bwW : Below w.heap.size w W7 := bA.out.trans (bw3a.mono (by omega))
  have hb1 : ∀ W, Below W7.heap.size W7 W → Calls Try.prog 22 #[.slice A n c] W fun e w' => e = .returned (.int .i64 (bestN cl n)) ∧ Below W.heap.size W w' := by
    intro W h
    have hw := bwW.trans (h.mono bwW.size)
    exact Best_any A n c cl W (readsC_more (HRD.out.below hw) hw.size) (by omega)
  have hb2 : ∀ W, Below W7.heap.size W7 W → Calls Try.prog 23 #[.slice A n c] W fun e w' => e = .returned (.int .i64 (bestN cl n)) ∧ Below W.heap.size W w' := by
    intro W h
    have hw := bwW.trans (h.mono bwW.size)
    exact refBest_any A n c cl W (readsC_more (HRD.out.below hw) hw.size) (by omega)
  have HB1 := Lib.hid hb1
  have HB2 := Lib.hid hb2
  have HW := Lib.hid bwW
  clear bw1 bw2 bw3 bw3a z1 z2 z3 hb1 hb2 bwW HJ HR HRD bA
  go_region_held3 (fun W => W.cell? ⟨w.heap.size, 0, none⟩ = some (.int .i64 a0) ∧ W.cell? ⟨w.heap.size, 1, none⟩ = some (.int .i64 a1) ∧ W.cell? ⟨w.heap.size, 2, none⟩ = some (.int .i64 a2) ∧ W.cell? ⟨w.heap.size, 3, none⟩ = some (.int .i64 a3) ∧ W.cell? ⟨w.heap.size, 4, none⟩ = some (.int .i64 a4) ∧ W.cell? ⟨w.heap.size + 1, 0, none⟩ = some (.int .i64 b0) ∧ W.cell? ⟨w.heap.size + 1, 1, none⟩ = some (.int .i64 b1) ∧ W.cell? ⟨w.heap.size + 1, 2, none⟩ = some (.int .i64 b2) ∧ W.cell? ⟨w.heap.size + 1, 3, none⟩ = some (.int .i64 b3) ∧ W.cell? ⟨w.heap.size + 1, 4, none⟩ = some (.int .i64 b4) ∧ W.cell? ⟨w2.heap.size, 0, none⟩ = some (.int .i64 s0) ∧ W.cell? ⟨w2.heap.size, 1, none⟩ = some (.int .i64 s1) ∧ W.cell? ⟨w2.heap.size, 2, none⟩ = some (.int .i64 s2) ∧ W.cell? ⟨w2.heap.size, 3, none⟩ = some (.int .i64 s3) ∧ W.cell? ⟨w2.heap.size, 4, none⟩ = some (.int .i64 s4) ∧ W.cell? ⟨w3.heap.size, 0, none⟩ = some (.int .i64 s0) ∧ W.cell? ⟨w3.heap.size, 1, none⟩ = some (.int .i64 s1) ∧ W.cell? ⟨w3.heap.size, 2, none⟩ = some (.int .i64 s2) ∧ W.cell? ⟨w3.heap.size, 3, none⟩ = some (.int .i64 s3) ∧ W.cell? ⟨w3.heap.size, 4, none⟩ = some (.int .i64 s4) ∧ Below W7.heap.size W7 W) (first | go_keep | (go_split_ands; refine ⟨?_, ?_, ?_, ?_, ?_, ?_, ?_, ?_, ?_, ?_, ?_, ?_, ?_, ?_, ?_, ?_, ?_, ?_, ?_, ?_, ?_⟩ <;> first | exact keep_cell hbx (by assumption) | exact Below.trans (by assumption) (hbx.mono (Below.size (by assumption))))) (first | (go_at_call 20; refine (compare_five _ _ _ _ _ _ _ _ _ _ _).mono ?_; rintro e wx ⟨rfl, hbx⟩) | (go_at_call 21; refine (refCompare_five _ _ _ _ _ _ _ _ _ _ _).mono ?_; rintro e wx ⟨rfl, hbx⟩) | (go_at_call 22; refine (HB1.out _ ?_).mono ?_; (go_split_ands; assumption); rintro e wx ⟨rfl, hbx⟩) | (go_at_call 23; refine (HB2.out _ ?_).mono ?_; (go_split_ands; assumption); rintro e wx ⟨rfl, hbx⟩))
  go_wp2
  go_ret
  have hfin : Below W7.heap.size W7 wx := by go_split_ands; assumption
  exact ⟨rfl, HW.out.trans (hfin.mono HW.out.size)⟩
theorem walk (a0 a1 a2 a3 a4 : Int) (b0 b1 b2 b3 b4 : Int) (A : Option Addr) (n c : Nat) (cl : List (List Int)) (w : World) (ha : InR a0 ∧ InR a1 ∧ InR a2 ∧ InR a3 ∧ InR a4) (hb : InR b0 ∧ InR b1 ∧ InR b2 ∧ InR b3 ∧ InR b4) (hr : ReadsC w w.heap.size A n cl) :
    Calls Try.prog 5 #[.agg #[.int .i64 a0, .int .i64 a1, .int .i64 a2, .int .i64 a3, .int .i64 a4], .agg #[.int .i64 b0, .int .i64 b1, .int .i64 b2, .int .i64 b3, .int .i64 b4], .slice A n c] w fun e w' => e = .returned (.bool true) ∧ Below w.heap.size w w' := by
  by_cases h : 1000 < n
  · exact walk_long a0 a1 a2 a3 a4 b0 b1 b2 b3 b4 A n c w h
  · exact walk_short a0 a1 a2 a3 a4 b0 b1 b2 b3 b4 A n c cl w ha hb hr (by omega)

set_option maxRecDepth 100000 in
theorem lifted (os : Os) (started : os.Started) (H : Type) (enc : TypeId × Value → H) :
    ReturnsInHanded {} Try.checked os 5 .any (Rows.sumCostsSpec.pre6 enc Try.prog Try.f5 Rows.sumCostsRow.domain false) (Rows.sumCostsSpec.post enc Try.prog Try.f5 false true false false) := by
  refine returnsInHanded_of_change (C := Try.checked) own_none started (by kernel_rfl) Try.func5
    (ChangeSpec.witness6 (enc := enc) (C := Try.checked) false ⟨#[], #[.agg #[.int .i64 0, .int .i64 0, .int .i64 0, .int .i64 0, .int .i64 0], .agg #[.int .i64 0, .int .i64 0, .int .i64 0, .int .i64 0, .int .i64 0], .slice none 0 0], []⟩ 8 (by kernel_rfl) (by kernel_rfl) (by kernel_rfl) (by kernel_rfl)) ?_
  intro W base args ds gs before hval0 hW hcnd _
  have hval : ∀ (j : Nat) t v, Try.f5.params[j]? = some t → args[j]? = some v → Value.okWide Try.prog W .any base t v := hval0
  have hW' := hW
  obtain ⟨p, q, hA0, _, _, _, _⟩ := hW
  have hA : DataW.TrodAll enc Try.prog W 0 (fun _ => true) true Try.f5.params.toList args.toList ds p := hA0
  rw [Try.params5] at hA hval
  obtain ⟨v0, vs0, d0, ds0, p0, q0, hargs, rfl, rfl, h0, r0⟩ := trodAll_cons hA
  obtain ⟨v1, vs1, d1, ds1, p1, q1, rfl, rfl, rfl, h1, r1⟩ := trodAll_cons r0
  obtain ⟨v2, vs2, d2, ds2, p2, q2, rfl, rfl, rfl, h2, r2⟩ := trodAll_cons r1
  obtain ⟨rfl, rfl, rfl⟩ := trodAll_nil r2
  obtain rfl : args = #[v0, v1, v2] := by cases args; simp_all
  obtain ⟨x00, x01, x02, x03, x04, rfl, hw0⟩ := open_cost_arg (hval 0 32 v0 rfl rfl) h0
  obtain ⟨x10, x11, x12, x13, x14, rfl, hw1⟩ := open_cost_arg (hval 1 32 v1 rfl rfl) h1
  obtain ⟨A2, n2, c2, l2, rfl, hr2, _⟩ := open_costs_arg (hval 2 33 v2 rfl rfl) h2
  refine (walk x00 x01 x02 x03 x04 x10 x11 x12 x13 x14 A2 n2 c2 l2 W hw0 hw1 hr2).mono fun e W' ⟨he, hb⟩ => ?_
  subst he
  refine ⟨_, rfl, law_post hW' rfl rfl rfl rfl rfl Try.underlying4 laid_out ?_ hb⟩
  rw [Try.params5]
  intro t ht
  simp at ht
  rcases ht with rfl | rfl | rfl <;> exact ⟨by kernel_rfl, of_decide_eq_true (by kernel_rfl)⟩

theorem over : Rows.sumCostsRow.holds Try.pinned (OpenSpec.ofChange Rows.sumCostsSpec) :=
  OpenClaim.holds_of_wide 5 Try.f5 rfl rfl rfl rfl rfl rfl rfl ⟨rfl, rfl, rfl, rfl, rfl⟩ rfl rfl rfl rfl rfl (by kernel_rfl) Try.func5 (by kernel_rfl)
    (of_decide_eq_true (by kernel_rfl)) (by unfold Func.isWrapper; first | (rw [if_pos (by decide +kernel)]; kernel_rfl) | (rw [if_neg (by decide +kernel)]; exact ⟨rfl, rfl⟩))
    (fun os started H enc _ => lifted os started H enc)

theorem proved : Rows.SumCostsSaid := over
#print axioms proved
end Go.Proofs.Ytobamjjonkhcfaa.sumCosts
