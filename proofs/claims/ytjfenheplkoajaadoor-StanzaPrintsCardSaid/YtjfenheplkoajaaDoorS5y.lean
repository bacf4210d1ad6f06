/- The contract of the program's Parse of stanzas. Condition: the library's MaxLen holds a number. -/
import Derived.Test.YtjfenheplkoajaaDoorS5x2
set_option maxRecDepth 100000
set_option linter.unusedVariables false
set_option linter.unusedSimpArgs false
namespace Go.Proofs.YtjfenheplkoajaaDoor
open Go.RowKit
/-- What the library's variable holds. -/
def Env5 (w : World) : Prop := ∃ m : Int, w.cell? ⟨0, 0, none⟩ = some (.int .i64 m)
theorem Env5.below {w w' : World} {N : Nat} (h : Env5 w) (hb : Below N w w') (hN : 0 < N) : Env5 w' := by
  obtain ⟨m, h⟩ := h
  exact ⟨m, (hb.cell (show (⟨0, 0, none⟩ : Addr).block < N from hN)).trans h⟩
theorem Env5.pos {w : World} (h : Env5 w) : 0 < w.heap.size := by
  obtain ⟨m, h⟩ := h
  exact World.block_lt_of_cell? _ _ h
set_option maxHeartbeats 2000000 in
theorem parse5_any (s : ByteArray) (w : World) (E : Env5 w) :
    Calls Tryd.prog 10 #[.string s] w fun e w' => (∃ A n c, e = .returned (.tuple #[.slice A n c, .int .i64 (stN (B s)), .int .i64 (stE (B s))]) ∧ rdStzs w' (lt_ w'.heap.size) (stL (B s)) [.slice A n c]) ∧ Below w.heap.size w w' := by
  have hE0 := E.pos
  obtain ⟨m, hm⟩ := E
  by_cases hl : 60000 < (B s).length
  · have q0 : (60000 : Int) < (s.size : Int) := by rw [← B_len]; omega
    have e1 : stE (B s) = 9 := by unfold stE; rw [if_pos hl]
    have e2 : stN (B s) = 0 := by unfold stN; rw [if_pos hl]
    have e3 : stL (B s) = [] := by unfold stL; rw [e1]; rfl
    rw [e1, e2, e3]
    clear e1 e2 e3 hl hm
    go_enter Tryd.func10, Tryd.ntmps10
    go_wp2
    go_ret3
    exact ⟨⟨none, 0, 0, rfl, rdRow_nil _ _⟩, Below.refl _ _⟩
  · have q0 : ¬ (60000 : Int) < (s.size : Int) := by rw [← B_len]; omega
    have e1 : stE (B s) = rnE ps0 (cutBy 10 (B s)) := by unfold stE; rw [if_neg hl]
    have e2 : stN (B s) = rnN ps0 0 (cutBy 10 (B s)) := by unfold stN; rw [if_neg hl]
    have hba : Below w.heap.size w (w.alloc (.cells #[.int .i64 0, .slice none 0 0, .slice none 0 0] 58)) := (Below.refl _ w).alloc (Nat.le_refl _) _
    have BA := Lib.hid hba
    have RA := Lib.hid (readAll5_any s w.heap.size m (w.alloc (.cells #[.int .i64 0, .slice none 0 0, .slice none 0 0] 58)) (by simp) (by rw [← B_len]; omega)
      ((hba.cell (show (⟨0, 0, none⟩ : Addr).block < w.heap.size from hE0)).trans hm) hE0 (fun o => frozen_of_row _ _ _ _ _ (new_heap _ _)) (by simp [go_sem]) (by simp [go_sem]) (by simp [go_sem]))
    rw [e1, e2]
    have E3 := Lib.hid (show stL (B s) = if rnE ps0 (cutBy 10 (B s)) = 0 then (rnS ps0 (cutBy 10 (B s))).fin.dn else [] by unfold stL; rw [e1])
    have N0 := Lib.hid (rnN_zero (cutBy 10 (B s)) ps0 0)
    clear e1 e2 hba hm hl
    generalize rnE ps0 (cutBy 10 (B s)) = er at *
    generalize rnN ps0 0 (cutBy 10 (B s)) = ln at *
    go_enter Tryd.func10, Tryd.ntmps10
    go_wp2_with fail
    refine RA.out.mono ?_
    rintro e w1 ⟨rfl, hb, hok, her⟩
    have HB := Lib.hid (BA.out.trans hb)
    clear hb RA BA
    by_cases h0 : er = 0
    · subst h0
      obtain ⟨N, k, vs, vo, vl, hN1, hN2, hR⟩ := hok rfl
      have x1 := hR.c1
      obtain ⟨As, cs, rfl, _, _⟩ := hR.gs.own
      have RD := Lib.hid (hR.gs.read rdFds_good)
      have N00 := N0.out rfl
      subst N00
      clear hok her hR N0
      go_wp2
      go_ret3
      exact ⟨⟨_, _, _, rfl, by rw [E3.out, if_pos trivial]; exact RD.out⟩, HB.out⟩
    · have x0 := her h0
      have q1 : (er == 0) = false := by rw [beq_eq_false_iff_ne]; exact h0
      have E4 := Lib.hid (show stL (B s) = [] by rw [E3.out, if_neg h0])
      clear hok her h0 E3
      go_wp2
      go_quiet (fail)
      go_wp2
      go_ret3
      exact ⟨⟨none, 0, 0, rfl, by rw [E4.out]; exact rdRow_nil _ _⟩, belD HB.out _⟩
end Go.Proofs.YtjfenheplkoajaaDoor
