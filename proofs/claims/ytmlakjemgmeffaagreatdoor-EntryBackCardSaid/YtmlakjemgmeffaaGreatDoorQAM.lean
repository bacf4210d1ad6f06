/- What the laws of this seat rest on: S5x, S5x2, S5y. -/
import Derived.Test.YtmlakjemgmeffaaGreatDoorQAL

section
set_option maxRecDepth 100000
set_option linter.unusedVariables false
set_option linter.unusedSimpArgs false
namespace Go.Proofs.YtmlakjemgmeffaaGreatDoor
open Go.RowKit
theorem as5_errno (n : Int) (w : World) : (Instr.typeAssert (.iface 37 (.int .i64 n)) 20 37 true).run Tryz.prog w = .ok (.tuple #[.int .i64 n, .bool true]) w := by kernel_rfl
theorem catch5_idle (p : Addr) (w : World) :
    CallsD Tryz.prog 122 #[.pointer (some p)] .returning w fun e u' w' => e = .returned (.tuple #[]) ∧ u' = .returning ∧ w' = w := by
  refine callsD_of_wpS Tryz.func122 rfl fun c₀ cs hu => ?_
  apply wpS_seq
  apply wpS_region
  simp [wpOpsS, go_sem, recoverD, hu, Tryz.ntmps122, Exit.thenS]
  refine wpS_of_wp ?_
  go_wp2
  cases c₀
  simp_all [bodyPostS, results, Tryz.results122]
set_option maxHeartbeats 400000 in
theorem catch5_errno (p : Addr) (x n : Int) (older : List PanicEntry) (w : World) (hc : w.cell? p = some (.int .i64 x)) (hz : w.frozen? p = false) :
    CallsD Tryz.prog 122 #[.pointer (some p)] (.panicking ({ v := .iface 37 (.int .i64 n), recovered := false } :: older)) w fun e u' w' =>
      e = .returned (.tuple #[]) ∧ u' = .panicking ({ v := .iface 37 (.int .i64 n), recovered := true } :: older) ∧ w' = w.setCell p (.int .i64 n) := by
  have hta := as5_errno
  refine callsD_of_wpS Tryz.func122 rfl fun c₀ cs hu => ?_
  apply wpS_seq
  apply wpS_region
  simp [wpOpsS, go_sem, recoverD, hu, Tryz.ntmps122, Exit.thenS]
  refine wpS_of_wp ?_
  clear hu
  go_wp2
  simp [bodyPostS, results, Tryz.results122]
theorem RdP.line {W : World} {N r k : Nat} {p : PS} {vs vo vl : Value} (h : RdP W N r k p vs vo vl) (hr : r < N) : RdP (W.setCell ⟨r, 0, none⟩ (.int .i64 ((k + 1 : Nat) : Int))) N r (k + 1) p vs vo vl := by
  obtain ⟨f0, c0, c1, c2, gs, go, gl, so, sl, ol⟩ := h
  have hset : ∀ o, o ≠ 0 → (⟨r, 0, none⟩ : Addr) ≠ ⟨r, o, none⟩ := fun o ho e => ho (congrArg Addr.off e).symm
  refine ⟨fun o => ?_, World.cell?_setCell_same _ _ _ c0, ?_, ?_, gs.setCell rdFds_good hr (fun h => by have := h.1.1; simp only at this; omega) _, go.setCell rdOpX_good hr (fun h => by have := h.1; simp only at this; omega) _, gl.setCell rdStr_good hr (fun h => by simp only at h; omega) _, so, sl, ol⟩
  · rw [World.frozen?_setCell]; exact f0 o
  · rw [World.cell?_setCell_other _ _ _ _ (hset 1 (by decide))]; exact c1
  · rw [World.cell?_setCell_other _ _ _ _ (hset 2 (by decide))]; exact c2
theorem rd0 {W : World} {N r : Nat} (f0 : ∀ o, W.frozen? ⟨r, o, none⟩ = false) (c0 : W.cell? ⟨r, 0, none⟩ = some (.int .i64 (0 : Nat))) (c1 : W.cell? ⟨r, 1, none⟩ = some (.slice none 0 0)) (c2 : W.cell? ⟨r, 2, none⟩ = some (.slice none 0 0)) :
    RdP W N r 0 ps0 (.slice none 0 0) (.slice none 0 0) (.slice none 0 0) :=
  ⟨f0, c0, c1, c2, Grow.nil _ _ _ _, Grow.nil _ _ _ _, Grow.nil _ _ _ _, Off.nil _, Off.nil _, Off.nil _⟩
theorem rnS_snoc (s : PS) (a : List (List Nat)) (l : List Nat) : rnS s (a ++ [l]) = lnS (rnS s a) l := by rw [rnS_app]; rfl
theorem rnE_snoc {s : PS} {a : List (List Nat)} {l : List Nat} (h : rnE s a = 0) : rnE s (a ++ [l]) = lnE (rnS s a) l := by
  rw [rnE_app _ _ _ h]
  show (if lnE _ l = 0 then 0 else lnE _ l) = _
  split
  · rename_i h; exact h.symm
  · rfl
theorem rn_at : ∀ (a : List (List Nat)) (l : List Nat) (b : List (List Nat)) (s : PS) (k : Nat), rnE s a = 0 → lnE (rnS s a) l ≠ 0 → rnE s (a ++ l :: b) = lnE (rnS s a) l ∧ rnN s k (a ++ l :: b) = k + a.length + 1
  | [], l, b, s, k, _, h => ⟨rnE_no h _, rnN_no h _ _⟩
  | x :: a, l, b, s, k, h0, h => by
    by_cases hx : lnE s x = 0
    · rw [rnE_ok hx] at h0
      obtain ⟨h1, h2⟩ := rn_at a l b (lnS s x) (k + 1) h0 h
      rw [List.cons_append, rnE_ok hx, rnN_ok hx]
      exact ⟨h1, by rw [h2, List.length_cons]; omega⟩
    · rw [rnE_no hx] at h0
      exact absurd h0 hx
end Go.Proofs.YtmlakjemgmeffaaGreatDoor
end

section
set_option maxRecDepth 100000
set_option linter.unusedVariables false
set_option linter.unusedSimpArgs false
namespace Go.Proofs.YtmlakjemgmeffaaGreatDoor
open Go.RowKit
theorem RdP.elsewhere {W : World} {N r k : Nat} {p : PS} {vs vo vl : Value} (h : RdP W N r k p vs vo vl) {b : Nat} (hb : b ≠ r) (hN : b < N) (u : Value) : RdP (W.setCell ⟨b, 0, none⟩ u) N r k p vs vo vl := by
  obtain ⟨f0, c0, c1, c2, gs, go, gl, so, sl, ol⟩ := h
  have hset : ∀ o, (⟨b, 0, none⟩ : Addr) ≠ ⟨r, o, none⟩ := fun o e => hb (congrArg Addr.block e)
  refine ⟨fun o => ?_, ?_, ?_, ?_, gs.setCell rdFds_good hN (fun h => by have := h.1.1; simp only at this; omega) _, go.setCell rdOpX_good hN (fun h => by have := h.1; simp only at this; omega) _, gl.setCell rdStr_good hN (fun h => by simp only at h; omega) _, so, sl, ol⟩
  · rw [World.frozen?_setCell]; exact f0 o
  · rw [World.cell?_setCell_other _ _ _ _ (hset 0)]; exact c0
  · rw [World.cell?_setCell_other _ _ _ _ (hset 1)]; exact c1
  · rw [World.cell?_setCell_other _ _ _ _ (hset 2)]; exact c2
theorem end5_any (N r k : Nat) (p : PS) (vs vo vl : Value) (w : World) (hR : RdP w N r k p vs vo vl) (hr : r < N) (hN : N ≤ w.heap.size) (hol : p.op.length ≤ 1000) (hdl : p.dn.length ≤ 1000) (hln : ∀ f ∈ p.op, f.2.length ≤ 1000000 ∧ ∀ x ∈ f.2, x.length ≤ 1000000) :
    Calls Tryz.prog 125 #[.pointer (some ⟨r, 0, none⟩)] w fun e w' => e = .returned (.tuple #[]) ∧ (∃ vs' vo' vl', RdP w' N r k p.fin vs' vo' vl') ∧ Fr N r w w' := by
  by_cases h0 : p.op = []
  · refine (end5_none N r k p vs vo vl w hR h0).mono ?_
    rintro e w' ⟨rfl, rfl⟩
    exact ⟨rfl, ⟨_, _, _, by rw [fin_of h0]; exact hR⟩, Fr.refl _ _ _⟩
  · exact end5_ok N r k p vs vo vl w hR hr hN h0 hol hdl hln
set_option maxHeartbeats 4000000 in
theorem readAll5_any (s : ByteArray) (r : Nat) (m : Int) (w : World) (hr : r < w.heap.size) (hs : s.size ≤ 60000) (hm : w.cell? ⟨1, 0, none⟩ = some (.int .i64 m)) (hmr : 1 < r)
    (f0 : ∀ o, w.frozen? ⟨r, o, none⟩ = false) (c0 : w.cell? ⟨r, 0, none⟩ = some (.int .i64 (0 : Nat))) (c1 : w.cell? ⟨r, 1, none⟩ = some (.slice none 0 0)) (c2 : w.cell? ⟨r, 2, none⟩ = some (.slice none 0 0)) :
    Calls Tryz.prog 89 #[.pointer (some ⟨r, 0, none⟩), .string s] w fun e w' => e = .returned (.int .i64 (rnE ps0 (cutBy 10 (B s)))) ∧ Below r w w' ∧
      (rnE ps0 (cutBy 10 (B s)) = 0 → ∃ N k vs vo vl, w.heap.size ≤ N ∧ N ≤ w'.heap.size ∧ RdP w' N r k (rnS ps0 (cutBy 10 (B s))).fin vs vo vl) ∧
      (rnE ps0 (cutBy 10 (B s)) ≠ 0 → w'.cell? ⟨r, 0, none⟩ = some (.int .i64 (rnN ps0 0 (cutBy 10 (B s))))) := by
  suffices hh : ∀ Q : Ending → World → Prop, (∀ w', Below r w w' → (rnE ps0 (cutBy 10 (B s)) = 0 → ∃ N k vs vo vl, w.heap.size ≤ N ∧ N ≤ w'.heap.size ∧ RdP w' N r k (rnS ps0 (cutBy 10 (B s))).fin vs vo vl) →
      (rnE ps0 (cutBy 10 (B s)) ≠ 0 → w'.cell? ⟨r, 0, none⟩ = some (.int .i64 (rnN ps0 0 (cutBy 10 (B s))))) → Q (.returned (.int .i64 (rnE ps0 (cutBy 10 (B s))))) w') → Calls Tryz.prog 89 #[.pointer (some ⟨r, 0, none⟩), .string s] w Q from hh _ fun w' a b c => ⟨rfl, a, b, c⟩
  intro Q hQ
  have HQ := Lib.hid hQ
  clear hQ
  have hmf : ∀ (fn : Fn) (first cap : Array Value) (w : World), (Instr.makeFunc fn first cap).run Tryz.prog w = .ok (.func fn first cap) w := fun _ _ _ _ => rfl
  have hba : Below w.heap.size w (w.alloc (.cells #[.int .i64 0] 37)) := (Below.refl _ w).alloc (Nat.le_refl _) _
  have BA := Lib.hid hba
  have SP := Lib.hid (split5_any s m (w.alloc (.cells #[.int .i64 0] 37)) (by omega) ((hba.cell (show (⟨1, 0, none⟩ : Addr).block < w.heap.size from Nat.lt_trans hmr hr)).trans hm))
  have HLL := Lib.hid (show (cutBy 10 (B s)).length ≤ 60001 by rw [cutBy_len]; have := List.count_le_length (a := 10) (l := B s); rw [B_len] at this; omega)
  have HLB := Lib.hid (fun l (hl : l ∈ cutBy 10 (B s)) => (show l.length ≤ 60000 ∧ B (mk l) = l from ⟨by have := cutBy_mem_len hl; rw [B_len] at this; omega, B_mk fun c hc => B_lt s c (cutBy_mem hl c hc).1⟩))
  have HCR := Lib.hid (show RdP w (w.heap.size + 2) r 0 ps0 (.slice none 0 0) (.slice none 0 0) (.slice none 0 0) from rd0 f0 c0 c1 c2)
  have HR := Lib.hid hr
  have HM := Lib.hid (And.intro hm hmr)
  generalize cutBy 10 (B s) = L at *
  clear hm f0 c0 c1 c2 hba hs hr hmr
  go_enter_defers Tryz.func89, Tryz.ntmps89
  go_wp2_with fail
  refine SP.out.mono ?_
  rintro e w1 ⟨rfl, rfl⟩
  obtain ⟨W1, hW1⟩ : ∃ W1, W1 = (w.alloc (.cells #[.int .i64 0] 37)).alloc (.cells ((L.map mk).map Value.string).toArray 9) := ⟨_, rfl⟩
  have B1 := Lib.hid (show Below w.heap.size w W1 by rw [hW1]; exact BA.out.alloc BA.out.size _)
  have z1 : W1.heap.size = w.heap.size + 2 := by rw [hW1, World.size_alloc, World.size_alloc]
  have Z1 := Lib.hid z1
  have e1 : (w.alloc (.cells #[.int .i64 0] 37)).heap.size = w.heap.size + 1 := by rw [World.size_alloc]
  have LC := Lib.hid (fun (k : Nat) (hk : k < L.length) => (show W1.cell? ⟨w.heap.size + 1, k, none⟩ = some (.string (mk L[k])) by
    rw [hW1]
    have h := cells_new (w.alloc (.cells #[.int .i64 0] 37)) ((L.map mk).map Value.string).toArray 9 k (.string (mk L[k])) (by simp [hk])
    have ea : (⟨w.heap.size + 1, 0, none⟩ : Addr).add k = ⟨w.heap.size + 1, k, none⟩ := by unfold Addr.add; split <;> simp_all
    rw [e1, ea] at h; exact h))
  have EC := Lib.hid (show W1.cell? ⟨w.heap.size, 0, none⟩ = some (.int .i64 0) ∧ W1.frozen? ⟨w.heap.size, 0, none⟩ = false by rw [hW1]; exact ⟨by simp [go_sem], by simp [go_sem]⟩)
  rw [e1, ← hW1]
  clear hW1 e1 SP BA z1
  go_wp2
  go_loopw [11] (fun i wr => ∃ j : Nat, j ≤ L.length ∧ i = .int .i64 j ∧ rnE ps0 (L.take j) = 0 ∧ Fit (rnS ps0 (L.take j)) ∧ Lim (rnS ps0 (L.take j)).op j ∧ (∃ vs vo vl, RdP wr (w.heap.size + 2) r j (rnS ps0 (L.take j)) vs vo vl) ∧ Fr (w.heap.size + 2) r W1 wr) (fun i _ => L.length - (intOf i).toNat)
  case atStart => exact ⟨0, Nat.zero_le _, rfl, rfl, fit0, lim_nil _, ⟨_, _, _, HCR.out.below B1.out HR.out⟩, Fr.refl _ _ _⟩
  case round =>
    obtain ⟨j, hj, rfl, he, hf, hl, ⟨vs, vo, vl, hRd⟩, hfr⟩ := hrel
    have HE := Lib.hid he
    have HF := Lib.hid hf
    have HL := Lib.hid hl
    have FR := Lib.hid hfr
    have x0 := hRd.c0
    have y0 := hRd.f0 0
    have RL := Lib.hid (hRd.line (Nat.lt_trans HR.out (by omega)))
    have ecell := (World.cell?_of_block (a := ⟨w.heap.size, 0, none⟩) (hfr.mid w.heap.size HR.out (by omega))).trans EC.out.1
    have efroz := (World.frozen?_of_block (a := ⟨w.heap.size, 0, none⟩) (hfr.mid w.heap.size HR.out (by omega))).trans EC.out.2
    have WS := Lib.hid (show w.heap.size + 2 ≤ wr.heap.size by rw [← Z1.out]; exact hfr.bel.size)
    have MC := Lib.hid ((hfr.bel.cell (show (⟨1, 0, none⟩ : Addr).block < r from HM.out.2)).trans ((B1.out.cell (show (⟨1, 0, none⟩ : Addr).block < w.heap.size from Nat.lt_trans HM.out.2 HR.out)).trans HM.out.1))
    clear he hf hl
    by_cases hlt : j < L.length
    · have lcell : wr.cell? ⟨w.heap.size + 1, j, none⟩ = some (.string (mk L[j])) := (World.cell?_of_block (a := ⟨w.heap.size + 1, j, none⟩) (hfr.mid (w.heap.size + 1) (Nat.lt_trans HR.out (by omega)) (by omega))).trans (LC.out j hlt)
      have hlb := HLB.out L[j] (List.getElem_mem hlt)
      have HX := Lib.hid (show (mk L[j]).size ≤ 65536 by rw [← B_len, hlb.2]; omega)
      have HBX := Lib.hid hlb.2
      have HXL := Lib.hid hlb.1
      have TK := Lib.hid (show L.take (j + 1) = L.take j ++ [L[j]] from (List.take_succ_eq_append_getElem hlt))
      have DR := Lib.hid (show L = L.take j ++ L[j] :: L.drop (j + 1) by rw [← List.drop_eq_getElem_cons hlt, List.take_append_drop])
      have wj : IntKind.i64.wrap ((j : Int) + 1) = ((j + 1 : Nat) : Int) := by have := HLL.out; rw [IntWalk.i64_in _ (by omega)]; omega
      generalize hP : rnS ps0 (L.take j) = P at *
      have HP := Lib.hid hP
      generalize hY : L[j] = y at *
      clear hRd hfr hlb hP hY
      have rlv := RL.out
      rw [show ((j + 1 : Nat) : Int) = (j : Int) + 1 by omega] at rlv
      have FV := Lib.hid (FR.out.set (p := ⟨r, 0, none⟩) (.inl rfl) (Nat.le_of_lt (Nat.lt_trans HR.out (by omega))) (.int .i64 ((j : Int) + 1)))
      have wsv : w.heap.size + 2 ≤ (wr.setCell ⟨r, 0, none⟩ (.int .i64 ((j : Int) + 1))).heap.size := by simpa using WS.out
      go_wp2_with fail
      generalize wr.setCell ⟨r, 0, none⟩ (.int .i64 ((j : Int) + 1)) = V at *
      have MV := Lib.hid ((FV.out.bel.cell (show (⟨1, 0, none⟩ : Addr).block < r from HM.out.2)).trans ((B1.out.cell (show (⟨1, 0, none⟩ : Addr).block < w.heap.size from Nat.lt_trans HM.out.2 HR.out)).trans HM.out.1))
      have RV := Lib.hid rlv
      have WV := Lib.hid wsv
      clear lcell rlv wsv x0 y0 ecell efroz RL MC FR WS
      by_cases hn : lnE P y = 0
      · refine (read5_ok (mk y) (w.heap.size + 2) r (j + 1) P vs vo vl m V RV.out (Nat.lt_trans HR.out (by omega)) WV.out HX.out MV.out (by rw [HBX.out]; exact hn) HF.out (fun f hf => ⟨by have := (HL.out f hf).1; have := HLL.out; omega, (HL.out f hf).2⟩)).mono ?_
        rintro e w2 ⟨rfl, hex, hfr⟩
        have HN := Lib.hid (And.intro hn (And.intro hex hfr))
        rw [HBX.out] at HN
        clear hn hex hfr
        go_wp2
        go_roundw
        case rel => exact ⟨j + 1, by omega, by go_num, by rw [TK.out, rnE_snoc HE.out, HP.out]; exact HN.out.1, by rw [TK.out, rnS_snoc, HP.out]; exact fit_line HF.out HN.out.1, by rw [TK.out, rnS_snoc, HP.out]; exact lim_line HL.out (by have := HXL.out; omega), by rw [TK.out, rnS_snoc, HP.out]; exact HN.out.2.1, FV.out.trans HN.out.2.2⟩
        case measure => simp [intOf]; omega
      · refine (read5_no (mk y) (w.heap.size + 2) r (j + 1) P vs vo vl m V RV.out (Nat.lt_of_lt_of_le HR.out (by have := WV.out; omega)) HX.out MV.out (by rw [HBX.out]; exact hn)).mono ?_
        rintro e w2 ⟨rfl, hb2⟩
        rw [HBX.out]
        have ER := Lib.hid (rn_at (L.take j) y (L.drop (j + 1)) ps0 0 HE.out (by rw [HP.out]; exact hn))
        rw [← DR.out, HP.out] at ER
        have HNE := Lib.hid hn
        have HB2 := Lib.hid hb2
        clear hn hb2
        have ec : w2.cell? ⟨w.heap.size, 0, none⟩ = some (.int .i64 0) := (World.cell?_of_block (a := ⟨w.heap.size, 0, none⟩) ((HB2.out.block w.heap.size (by have := WV.out; omega)).trans (FV.out.mid w.heap.size HR.out (by omega)))).trans EC.out.1
        have ef : w2.frozen? ⟨w.heap.size, 0, none⟩ = false := (World.frozen?_of_block (a := ⟨w.heap.size, 0, none⟩) ((HB2.out.block w.heap.size (by have := WV.out; omega)).trans (FV.out.mid w.heap.size HR.out (by omega)))).trans EC.out.2
        go_wp2
        refine leaves_cons (f := 122) (args := #[.pointer (some ⟨w.heap.size, 0, none⟩)]) (by simp) (by simp [go_sem]) ?_
        refine (catch5_errno ⟨w.heap.size, 0, none⟩ 0 (lnE P y) [] w2 ec ef).mono ?_
        rintro e u' w'' ⟨rfl, rfl, rfl⟩
        have d1 : (w2.setCell ⟨w.heap.size, 0, none⟩ (.int .i64 (lnE P y))).cell? ⟨w.heap.size, 0, none⟩ = some (.int .i64 (lnE P y)) := World.cell?_setCell_same _ _ _ ec
        simp [Leaves, settle, results, Tryz.results89, go_sem, d1]
        have hq := HQ.out (w2.setCell ⟨w.heap.size, 0, none⟩ (.int .i64 (lnE P y))) ((((B1.out.mono (Nat.le_of_lt HR.out)).trans FV.out.bel).trans (HB2.out.mono (by have := WV.out; have := HR.out; omega))).setCell (p := ⟨w.heap.size, 0, none⟩) (Nat.le_of_lt HR.out) _)
          (fun h => absurd h (by rw [ER.out.1]; exact HNE.out)) (fun _ => by
            rw [World.cell?_setCell_other _ _ _ _ (fun e => by have := congrArg Addr.block e; have := HR.out; simp only at *; omega), ER.out.2, (HB2.out.cell (show (⟨r, 0, none⟩ : Addr).block < V.heap.size from Nat.lt_of_lt_of_le HR.out (by have := WV.out; omega))), RV.out.c0, List.length_take, Nat.min_eq_left (by omega), Nat.zero_add])
        rw [ER.out.1] at hq
        exact hq
    · obtain rfl : j = L.length := by omega
      rw [List.take_length] at HE HF HL hRd
      have RW := Lib.hid hRd
      clear hRd x0 y0 ecell efroz RL MC hfr
      go_wp2_with fail
      refine (end5_any (w.heap.size + 2) r L.length (rnS ps0 L) vs vo vl wr RW.out (Nat.lt_trans HR.out (by omega)) WS.out (by have := HF.out.f; omega) (by have := HF.out.d; omega) (fun f hf => ⟨by have := (HL.out f hf).1; have := HLL.out; omega, fun x hx => by have := (HL.out f hf).2 x hx; omega⟩)).mono ?_
      rintro e w2 ⟨rfl, hex, hfr2⟩
      have FR2 := Lib.hid (FR.out.trans hfr2)
      have EX := Lib.hid hex
      clear hex hfr2
      have ec : w2.cell? ⟨w.heap.size, 0, none⟩ = some (.int .i64 0) := (World.cell?_of_block (a := ⟨w.heap.size, 0, none⟩) (FR2.out.mid w.heap.size HR.out (by omega))).trans EC.out.1
      have ef : w2.frozen? ⟨w.heap.size, 0, none⟩ = false := (World.frozen?_of_block (a := ⟨w.heap.size, 0, none⟩) (FR2.out.mid w.heap.size HR.out (by omega))).trans EC.out.2
      go_wp2
      refine leaves_cons (f := 122) (args := #[.pointer (some ⟨w.heap.size, 0, none⟩)]) (by simp) (by simp [go_sem]) ?_
      refine (catch5_idle ⟨w.heap.size, 0, none⟩ _).mono ?_
      rintro e u' w'' ⟨rfl, rfl, rfl⟩
      have d1 : (w2.setCell ⟨w.heap.size, 0, none⟩ (.int .i64 0)).cell? ⟨w.heap.size, 0, none⟩ = some (.int .i64 0) := World.cell?_setCell_same _ _ _ ec
      simp [Leaves, settle, results, Tryz.results89, go_sem, d1]
      have hq := HQ.out (w2.setCell ⟨w.heap.size, 0, none⟩ (.int .i64 0)) (((B1.out.mono (Nat.le_of_lt HR.out)).trans FR2.out.bel).setCell (p := ⟨w.heap.size, 0, none⟩) (Nat.le_of_lt HR.out) _)
        (fun _ => by
          obtain ⟨vs', vo', vl', h⟩ := EX.out
          exact ⟨w.heap.size + 2, L.length, vs', vo', vl', by omega, by have := FR2.out.bel.size; have := Z1.out; simp; omega, h.elsewhere (Nat.ne_of_gt HR.out) (by omega) _⟩) (fun h => absurd HE.out h)
      rw [HE.out] at hq
      exact hq
end Go.Proofs.YtmlakjemgmeffaaGreatDoor
end

section
set_option maxRecDepth 100000
set_option linter.unusedVariables false
set_option linter.unusedSimpArgs false
namespace Go.Proofs.YtmlakjemgmeffaaGreatDoor
open Go.RowKit
def Env5 (w : World) : Prop := ∃ m : Int, w.cell? ⟨1, 0, none⟩ = some (.int .i64 m)
theorem Env5.below {w w' : World} {N : Nat} (h : Env5 w) (hb : Below N w w') (hN : 1 < N) : Env5 w' := by
  obtain ⟨m, h⟩ := h
  exact ⟨m, (hb.cell (show (⟨1, 0, none⟩ : Addr).block < N from hN)).trans h⟩
theorem Env5.pos {w : World} (h : Env5 w) : 1 < w.heap.size := by
  obtain ⟨m, h⟩ := h
  exact World.block_lt_of_cell? _ _ h
set_option maxHeartbeats 2000000 in
theorem parse5_any (s : ByteArray) (w : World) (E : Env5 w) :
    Calls Tryz.prog 57 #[.string s] w fun e w' => (∃ A n c, e = .returned (.tuple #[.slice A n c, .int .i64 (stN (B s)), .int .i64 (stE (B s))]) ∧ rdStzs w' (lt_ w'.heap.size) (stL (B s)) [.slice A n c]) ∧ Below w.heap.size w w' := by
  have hE0 := E.pos
  obtain ⟨m, hm⟩ := E
  by_cases hl : 60000 < (B s).length
  · have q0 : (60000 : Int) < (s.size : Int) := by rw [← B_len]; omega
    have e1 : stE (B s) = 9 := by unfold stE; rw [if_pos hl]
    have e2 : stN (B s) = 0 := by unfold stN; rw [if_pos hl]
    have e3 : stL (B s) = [] := by unfold stL; rw [e1]; rfl
    rw [e1, e2, e3]
    clear e1 e2 e3 hl hm
    go_enter Tryz.func57, Tryz.ntmps57
    go_wp2
    go_ret3
    exact ⟨⟨none, 0, 0, rfl, rdRow_nil _ _⟩, Below.refl _ _⟩
  · have q0 : ¬ (60000 : Int) < (s.size : Int) := by rw [← B_len]; omega
    have e1 : stE (B s) = rnE ps0 (cutBy 10 (B s)) := by unfold stE; rw [if_neg hl]
    have e2 : stN (B s) = rnN ps0 0 (cutBy 10 (B s)) := by unfold stN; rw [if_neg hl]
    have hba : Below w.heap.size w (w.alloc (.cells #[.int .i64 0, .slice none 0 0, .slice none 0 0] 112)) := (Below.refl _ w).alloc (Nat.le_refl _) _
    have BA := Lib.hid hba
    have RA := Lib.hid (readAll5_any s w.heap.size m (w.alloc (.cells #[.int .i64 0, .slice none 0 0, .slice none 0 0] 112)) (by simp) (by rw [← B_len]; omega)
      ((hba.cell (show (⟨1, 0, none⟩ : Addr).block < w.heap.size from hE0)).trans hm) hE0 (fun o => frozen_of_row _ _ _ _ _ (new_heap _ _)) (by simp [go_sem]) (by simp [go_sem]) (by simp [go_sem]))
    rw [e1, e2]
    have E3 := Lib.hid (show stL (B s) = if rnE ps0 (cutBy 10 (B s)) = 0 then (rnS ps0 (cutBy 10 (B s))).fin.dn else [] by unfold stL; rw [e1])
    have N0 := Lib.hid (rnN_zero (cutBy 10 (B s)) ps0 0)
    clear e1 e2 hba hm hl
    generalize rnE ps0 (cutBy 10 (B s)) = er at *
    generalize rnN ps0 0 (cutBy 10 (B s)) = ln at *
    go_enter Tryz.func57, Tryz.ntmps57
    go_wp2_with fail
    refine RA.out.mono ?_
    rintro e w1 ⟨rfl, hb, hok, her⟩
    have HB := Lib.hid (BA.out.trans hb)
    clear hb RA BA
    by_cases h0 : er = 0
    · subst h0
      obtain ⟨N, k, vs, vo, vl, hN1, hN2, hR⟩ := hok rfl
      have x1 := hR.c1
      obtain ⟨As, cs, rfl, _, _⟩ := hR.gs.own
      have RD := Lib.hid (hR.gs.read rdFds_good)
      have N00 := N0.out rfl
      subst N00
      clear hok her hR N0
      go_wp2
      go_ret3
      exact ⟨⟨_, _, _, rfl, by rw [E3.out, if_pos trivial]; exact RD.out⟩, HB.out⟩
    · have x0 := her h0
      have q1 : (er == 0) = false := by rw [beq_eq_false_iff_ne]; exact h0
      have E4 := Lib.hid (show stL (B s) = [] by rw [E3.out, if_neg h0])
      clear hok her h0 E3
      go_wp2
      go_quiet (fail)
      go_wp2
      go_ret3
      exact ⟨⟨none, 0, 0, rfl, by rw [E4.out]; exact rdRow_nil _ _⟩, belD HB.out _⟩
end Go.Proofs.YtmlakjemgmeffaaGreatDoor
end
