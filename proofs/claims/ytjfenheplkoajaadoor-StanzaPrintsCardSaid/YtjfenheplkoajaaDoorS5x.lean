/- The contract of the program's readAll: the text's lines one by one; what is wrong with one is caught. No condition. -/
import Derived.Test.YtjfenheplkoajaaDoorS5w
set_option maxRecDepth 100000
set_option linter.unusedVariables false
set_option linter.unusedSimpArgs false
namespace Go.Proofs.YtjfenheplkoajaaDoor
open Go.RowKit
theorem as5_errno (n : Int) (w : World) : (Instr.typeAssert (.iface 24 (.int .i64 n)) 20 24 true).run Tryd.prog w = .ok (.tuple #[.int .i64 n, .bool true]) w := by kernel_rfl
theorem catch5_idle (p : Addr) (w : World) :
    CallsD Tryd.prog 41 #[.pointer (some p)] .returning w fun e u' w' => e = .returned (.tuple #[]) ∧ u' = .returning ∧ w' = w := by
  refine callsD_of_wpS Tryd.func41 rfl fun c₀ cs hu => ?_
  apply wpS_seq
  apply wpS_region
  simp [wpOpsS, go_sem, recoverD, hu, Tryd.ntmps41, Exit.thenS]
  refine wpS_of_wp ?_
  go_wp2
  cases c₀
  simp_all [bodyPostS, results, Tryd.results41]
set_option maxHeartbeats 400000 in
theorem catch5_errno (p : Addr) (x n : Int) (older : List PanicEntry) (w : World) (hc : w.cell? p = some (.int .i64 x)) (hz : w.frozen? p = false) :
    CallsD Tryd.prog 41 #[.pointer (some p)] (.panicking ({ v := .iface 24 (.int .i64 n), recovered := false } :: older)) w fun e u' w' =>
      e = .returned (.tuple #[]) ∧ u' = .panicking ({ v := .iface 24 (.int .i64 n), recovered := true } :: older) ∧ w' = w.setCell p (.int .i64 n) := by
  have hta := as5_errno
  refine callsD_of_wpS Tryd.func41 rfl fun c₀ cs hu => ?_
  apply wpS_seq
  apply wpS_region
  simp [wpOpsS, go_sem, recoverD, hu, Tryd.ntmps41, Exit.thenS]
  refine wpS_of_wp ?_
  clear hu
  go_wp2
  simp [bodyPostS, results, Tryd.results41]
/-- A line more counted. -/
theorem RdP.line {W : World} {N r k : Nat} {p : PS} {vs vo vl : Value} (h : RdP W N r k p vs vo vl) (hr : r < N) : RdP (W.setCell ⟨r, 0, none⟩ (.int .i64 ((k + 1 : Nat) : Int))) N r (k + 1) p vs vo vl := by
  obtain ⟨f0, c0, c1, c2, gs, go, gl, so, sl, ol⟩ := h
  have hset : ∀ o, o ≠ 0 → (⟨r, 0, none⟩ : Addr) ≠ ⟨r, o, none⟩ := fun o ho e => ho (congrArg Addr.off e).symm
  refine ⟨fun o => ?_, World.cell?_setCell_same _ _ _ c0, ?_, ?_, gs.setCell rdFds_good hr (fun h => by have := h.1.1; simp only at this; omega) _, go.setCell rdOpX_good hr (fun h => by have := h.1; simp only at this; omega) _, gl.setCell rdStr_good hr (fun h => by simp only at h; omega) _, so, sl, ol⟩
  · rw [World.frozen?_setCell]; exact f0 o
  · rw [World.cell?_setCell_other _ _ _ _ (hset 1 (by decide))]; exact c1
  · rw [World.cell?_setCell_other _ _ _ _ (hset 2 (by decide))]; exact c2
theorem rd0 {W : World} {N r : Nat} (f0 : ∀ o, W.frozen? ⟨r, o, none⟩ = false) (c0 : W.cell? ⟨r, 0, none⟩ = some (.int .i64 (0 : Nat))) (c1 : W.cell? ⟨r, 1, none⟩ = some (.slice none 0 0)) (c2 : W.cell? ⟨r, 2, none⟩ = some (.slice none 0 0)) :
    RdP W N r 0 ps0 (.slice none 0 0) (.slice none 0 0) (.slice none 0 0) :=
  ⟨f0, c0, c1, c2, Grow.nil _ _ _ _, Grow.nil _ _ _ _, Grow.nil _ _ _ _, Off.nil _, Off.nil _, Off.nil _⟩
theorem rnS_snoc (s : PS) (a : List (List Nat)) (l : List Nat) : rnS s (a ++ [l]) = lnS (rnS s a) l := by rw [rnS_app]; rfl
theorem rnE_snoc {s : PS} {a : List (List Nat)} {l : List Nat} (h : rnE s a = 0) : rnE s (a ++ [l]) = lnE (rnS s a) l := by
  rw [rnE_app _ _ _ h]
  show (if lnE _ l = 0 then 0 else lnE _ l) = _
  split
  · rename_i h; exact h.symm
  · rfl
/-- Where the first error is told. -/
theorem rn_at : ∀ (a : List (List Nat)) (l : List Nat) (b : List (List Nat)) (s : PS) (k : Nat), rnE s a = 0 → lnE (rnS s a) l ≠ 0 → rnE s (a ++ l :: b) = lnE (rnS s a) l ∧ rnN s k (a ++ l :: b) = k + a.length + 1
  | [], l, b, s, k, _, h => ⟨rnE_no h _, rnN_no h _ _⟩
  | x :: a, l, b, s, k, h0, h => by
    by_cases hx : lnE s x = 0
    · rw [rnE_ok hx] at h0
      obtain ⟨h1, h2⟩ := rn_at a l b (lnS s x) (k + 1) h0 h
      rw [List.cons_append, rnE_ok hx, rnN_ok hx]
      exact ⟨h1, by rw [h2, List.length_cons]; omega⟩
    · rw [rnE_no hx] at h0
      exact absurd h0 hx
end Go.Proofs.YtjfenheplkoajaaDoor
