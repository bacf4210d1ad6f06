/- What the laws of this seat rest on: S5v, S5w. -/
import Derived.Test.YtmlakjemgmeffaaGreatDoorQAK

section
set_option maxRecDepth 100000
set_option linter.unusedVariables false
set_option linter.unusedSimpArgs false
namespace Go.Proofs.YtmlakjemgmeffaaGreatDoor
open Go.RowKit
theorem RdP.closed {W w1 : World} {N r k : Nat} {p : PS} {vs vo vl vs' : Value} (hR : RdP W N r k p vs vo vl) (hr : r < N) (hN : N ≤ W.heap.size) (d : List (List Fd))
    (hG : Grow rdFds 1 (fun b => N ≤ b) w1 N 32 vs' d) (hg : W.grownBy w1 vs.ownBlock) :
    RdP ((w1.setCell ⟨r, 1, none⟩ vs').setCell ⟨r, 2, none⟩ (.slice none 0 0)) N r k ⟨d, []⟩ vs' (.slice none 0 0) (.slice none 0 0) ∧ Fr N r W ((w1.setCell ⟨r, 1, none⟩ vs').setCell ⟨r, 2, none⟩ (.slice none 0 0)) ∧
      w1.cell? ⟨r, 1, none⟩ = some vs ∧ w1.frozen? ⟨r, 1, none⟩ = false ∧ w1.cell? ⟨r, 2, none⟩ = some vo ∧ w1.frozen? ⟨r, 2, none⟩ = false := by
  obtain ⟨f0, c0, c1, c2, gs, go, gl, so, sl, ol⟩ := hR
  have hrl : some r ≠ vs.ownBlock := fun h => by have := (gs.lt r h.symm).1; omega
  have hk := hg.block r (by omega) hrl
  have hB1 : Below N W w1 := grow_below gs hg (Below.refl N W) (Nat.le_refl _) hN
  have a0 := blk_of hk 0
  have a1 := blk_of hk 1
  have a2 := blk_of hk 2
  have hset : ∀ o o' : Nat, o ≠ o' → (⟨r, o, none⟩ : Addr) ≠ ⟨r, o', none⟩ := fun o o' ho e => ho (congrArg Addr.off e)
  have hnr : ∀ {o : Nat}, (⟨r, o, none⟩ : Addr).block < N := hr
  refine ⟨⟨fun o => ?_, ?_, ?_, ?_, ?_, ?_, ?_, fun b hb e => ?_, fun b hb e => ?_, fun b hb e => ?_⟩, ((Fr.of hB1 (Nat.le_of_lt hr)).set (.inl rfl) (Nat.le_of_lt hr) _).set (.inl rfl) (Nat.le_of_lt hr) _, a1.1.trans c1, a1.2.trans (f0 1), a2.1.trans c2, a2.2.trans (f0 2)⟩
  · rw [World.frozen?_setCell, World.frozen?_setCell]; exact ((blk_of hk o).2).trans (f0 o)
  · rw [World.cell?_setCell_other _ _ _ _ (hset 2 0 (by decide)), World.cell?_setCell_other _ _ _ _ (hset 1 0 (by decide))]; exact a0.1.trans c0
  · rw [World.cell?_setCell_other _ _ _ _ (hset 2 1 (by decide))]; exact World.cell?_setCell_same _ _ _ (a1.1.trans c1)
  · exact World.cell?_setCell_same _ _ _ (show (w1.setCell ⟨r, 1, none⟩ vs').cell? ⟨r, 2, none⟩ = some vo by rw [World.cell?_setCell_other _ _ _ _ (hset 1 2 (by decide))]; exact a2.1.trans c2)
  · refine Grow.setCell rdFds_good (Grow.setCell rdFds_good (hG.retag rdFds_good fun b h1 h2 => ⟨⟨h1, fun e => by simp [Value.ownBlock] at e⟩, fun e => by simp [Value.ownBlock] at e⟩) hnr (fun h => by have := h.1.1; simp only at this; omega) _) hnr (fun h => by have := h.1.1; simp only at this; omega) _
  · exact Grow.nil _ _ _ _
  · exact Grow.nil _ _ _ _
  · simp [Value.ownBlock] at e
  · simp [Value.ownBlock] at e
  · simp [Value.ownBlock] at e
structure EndA (w V W : World) (v : Value) (l : List Fd) (nm vv : ByteArray) (b : Nat) : Prop where
  g : Grow rdFd 2 (fun _ => True) W w.heap.size 41 v l
  x : rdFds W (fun c => c = b) [⟨nm, vv⟩] [.slice (some ⟨b, 0, none⟩) 1 1]
  s : ∀ c, c = b → True ∧ c < W.heap.size ∧ v.ownBlock ≠ some c
  bs : w.heap.size ≤ W.heap.size
  bel : Below V.heap.size V W
theorem end_app {w V w4 : World} {v : Value} {l : List Fd} (hG : Grow rdFd 2 (fun _ => True) V w.heap.size 41 v l) (hs : w.heap.size ≤ V.heap.size) (hb : Below V.heap.size V w4) (nm vv : ByteArray) : EndA w V (w4.alloc (Obj.cells #[Value.string nm, Value.string vv] 41)) v l nm vv w4.heap.size := by
  have hb2 : Below V.heap.size V (w4.alloc (Obj.cells #[Value.string nm, Value.string vv] 41)) := hb.alloc hb.size _
  refine ⟨hG.below rdFd_good hb2, one_fd (new_heap _ _) rfl, ?_, Nat.le_trans hs hb2.size, hb2⟩
  rintro c rfl
  refine ⟨trivial, by rw [World.size_alloc]; omega, fun e => ?_⟩
  have := (hG.lt _ e).2
  have := hb.size
  omega
set_option maxHeartbeats 4000000 in
theorem end5_ok (N r k : Nat) (p : PS) (vs vo vl : Value) (w : World) (hR : RdP w N r k p vs vo vl) (hr : r < N) (hN : N ≤ w.heap.size) (h0 : p.op ≠ []) (hol : p.op.length ≤ 1000) (hdl : p.dn.length ≤ 1000) (hln : ∀ f ∈ p.op, f.2.length ≤ 1000000 ∧ ∀ x ∈ f.2, x.length ≤ 1000000) :
    Calls Tryz.prog 125 #[.pointer (some ⟨r, 0, none⟩)] w fun e w' => e = .returned (.tuple #[]) ∧ (∃ vs' vo' vl', RdP w' N r k p.fin vs' vo' vl') ∧ Fr N r w w' := by
  have FIN := Lib.hid (show p.fin = ⟨p.dn ++ [p.op.map clF], []⟩ by unfold PS.fin; rw [if_neg h0])
  obtain ⟨A, c, rfl, hc1, hc2⟩ := hR.own
  have hc2' : c ≤ 9223372036854775807 := hc2
  obtain ⟨As, cs, hvs, _, hs2⟩ := hR.gs.own
  have hs2' : cs ≤ 9223372036854775807 := hs2
  have hl := List.length_pos_iff.2 h0
  have q00 : ((p.op.length : Int) == 0) = false := by rw [beq_eq_false_iff_ne]; omega
  obtain ⟨fi, hi, hi0, hi1, hi2⟩ := info_parts fd_info
  obtain ⟨si, hs, hs0, hs1, hsz⟩ := info_parts stz_info
  have HR := Lib.hid hR
  have HRN := Lib.hid hr
  have HN := Lib.hid hN
  have HLN := Lib.hid hln
  have HOL := Lib.hid hol
  have HDL := Lib.hid hdl
  have c2 := hR.c2
  clear hR hr hN h0 hln hol hdl hc2 hs2 hc1 hl
  go_enter Tryz.func125, Tryz.ntmps125
  go_wp2
  go_loopw [2, 16] (fun v i wr => ∃ j : Nat, j ≤ p.op.length ∧ i = .int .i64 j ∧ Grow rdFd 2 (fun _ => True) wr w.heap.size 41 v ((p.op.take j).map clF) ∧ Below w.heap.size w wr) (fun _ i _ => p.op.length - (intOf i).toNat)
  case atStart => exact ⟨0, Nat.zero_le _, rfl, Grow.nil _ _ _ _, Below.refl _ _⟩
  case round =>
    obtain ⟨j, hj, rfl, hG, hbel⟩ := hrel
    clear c2
    obtain ⟨A5, c5, hv5, _, hcm5⟩ := hG.own
    rw [show ((p.op.take j).map clF).length = j by rw [List.length_map, List.length_take]; omega] at hv5
    have hcm5' : c5 ≤ 9223372036854775807 := hcm5
    clear hcm5
    subst hv5
    by_cases hlt : j < p.op.length
    · have hRr := HR.out.below hbel (Nat.lt_of_lt_of_le HRN.out HN.out)
      obtain ⟨_, _, _, ha⟩ := rdOp_at (hRr.go.read rdOpX_good) (hRr.gl.read rdStr_good) hRr.gl.plain
      obtain ⟨ad, A2, n2, c2, rfl, had, x0, x1, hst, hpl⟩ := ha j hlt
      have hpj := HLN.out p.op[j] (List.getElem_mem hlt)
      have CLF := Lib.hid (show clF p.op[j] = ⟨p.op[j].1, mk (joinL (B { data := #[10] }) p.op[j].2)⟩ from rfl)
      have SJ := Lib.hid (fun (W : World) (hb : Below wr.heap.size wr W) => sjoin5_any W (rdStrs_good.up (rdStrs_good.below hst hb) hb.size) hpl { data := #[10] } (by have := hpj.1; omega) (by
        refine Nat.le_trans (joinL_len hpj.2) (Nat.le_trans (Nat.mul_le_mul_right _ hpj.1) ?_)
        rw [B_len]; show 1000000 * (1000000 + 1) ≤ _; omega))
      have HTK := Lib.hid (show (p.op.take (j + 1)).map clF = (p.op.take j).map clF ++ [clF p.op[j]] from take_snoc clF p.op j hlt)
      have HG := Lib.hid hG
      have HB := Lib.hid hbel
      have hq1 : ((p.op.take j).map clF).length + [clF p.op[j]].length ≤ maxLen := by have := HOL.out; rw [List.length_map, List.length_take, List.length_singleton]; unfold maxLen; omega
      have hq2 : (((p.op.take j).map clF).length + [clF p.op[j]].length) * 32 ≤ 140737488355328 := by have := HOL.out; rw [List.length_map, List.length_take, List.length_singleton]; omega
      rw [CLF.out] at hq1 hq2 HTK
      generalize p.op[j].1 = nm at *
      generalize mk (joinL (B { data := #[10] }) p.op[j].2) = vv at *
      clear hRr ha hst hpl hpj hG hbel
      obtain ⟨V3, hV3⟩ : ∃ V3, V3 = (wr.alloc (Obj.cells #[Value.string nm, Value.slice A2 n2 c2] 167)).drew := ⟨_, rfl⟩
      have bv : Below wr.heap.size wr V3 := by rw [hV3]; exact belD ((Below.refl _ _).alloc (Nat.le_refl _) _) 1
      have BV := Lib.hid bv
      have BWV := Lib.hid (HB.out.trans (bv.mono HB.out.size))
      have GV := Lib.hid (HG.out.below rdFd_good bv)
      have QV := Lib.hid (show wr.heap.size < V3.heap.size by rw [hV3]; show _ < (wr.alloc _).heap.size; rw [World.size_alloc]; omega)
      have KS := Lib.hid (fun (W : World) (hb : Below V3.heap.size V3 W) => (show W.cell? ⟨wr.heap.size, 0, none⟩ = some (.string nm) ∧ W.cell? ⟨wr.heap.size, 1, none⟩ = some (.slice A2 n2 c2) from
        ⟨(hb.cell (show (⟨wr.heap.size, 0, none⟩ : Addr).block < V3.heap.size from QV.out)).trans (by rw [hV3]; simp [go_sem]), (hb.cell (show (⟨wr.heap.size, 1, none⟩ : Addr).block < V3.heap.size from QV.out)).trans (by rw [hV3]; simp [go_sem])⟩))
      clear bv
      go_wp2_with fail
      refine wp_region_noPanic ?_
      refine wp_region_L (fun W => W.cell? ⟨wr.heap.size, 0, none⟩ = some (.string nm) ∧ W.cell? ⟨wr.heap.size, 1, none⟩ = some (.slice A2 n2 c2)) 9 (by kernel_rfl) (by rw [← hV3]; exact KS.out V3 (Below.refl _ _)) (fun hHeld => ?_)
      rw [← hV3] at hHeld ⊢
      clear hV3
      refine wpAnyL_take (i := 0) (v := ?_) [8] rfl (by kernel_rfl) (by kernel_rfl) (by kernel_rfl) (fun _ _ _ h => h) (by kernel_rfl) (by kernel_rfl) (by kernel_rfl) (Or.inl ⟨by rfl, ?_⟩) (by assumption) ?_
      rotate_left
      · intro w hSw
        try dsimp only at hSw
        go_simp
        first | done | with_reducible rfl
      try simp only [Act.put, List.setIfInBounds_toArray, List.set_cons_zero, List.set_cons_succ]
      refine wpAnyL_take (i := 1) (v := ?_) [8, 7, 6, 2] rfl (by kernel_rfl) (by kernel_rfl) (by kernel_rfl) (fun _ _ _ h => h) (by kernel_rfl) (by kernel_rfl) (by kernel_rfl) (Or.inl ⟨by rfl, ?_⟩) (by assumption) ?_
      rotate_left
      · intro w hSw
        try dsimp only at hSw
        go_simp
        first | done | with_reducible rfl
      try simp only [Act.put, List.setIfInBounds_toArray, List.set_cons_zero, List.set_cons_succ]
      refine wpAnyL_take (i := 2) (v := ?_) [8, 7, 6] rfl (by kernel_rfl) (by kernel_rfl) (by kernel_rfl) (fun _ _ _ h => h) (by kernel_rfl) (by kernel_rfl) (by kernel_rfl) (Or.inl ⟨by rfl, ?_⟩) (by assumption) ?_
      rotate_left
      · intro w hSw
        try dsimp only at hSw
        go_simp
        first | done | with_reducible rfl
      try simp only [Act.put, List.setIfInBounds_toArray, List.set_cons_zero, List.set_cons_succ]
      refine wpAnyL_take (i := 3) (v := ?_) [8, 7, 6, 5, 4] rfl (by kernel_rfl) (by kernel_rfl) (by kernel_rfl) (fun _ _ _ h => h) (by kernel_rfl) (by kernel_rfl) (by kernel_rfl) (Or.inl ⟨by rfl, ?_⟩) (by assumption) ?_
      rotate_left
      · intro w hSw
        try dsimp only at hSw
        go_simp
        first | done | with_reducible rfl
      try simp only [Act.put, List.setIfInBounds_toArray, List.set_cons_zero, List.set_cons_succ]
      refine wpAnyL_take (i := 4) (v := ?_) [8, 7, 6, 5] rfl (by kernel_rfl) (by kernel_rfl) (by kernel_rfl) (fun _ _ _ h => h) (by kernel_rfl) (by kernel_rfl) (by kernel_rfl) (Or.inl ⟨by rfl, ?_⟩) (by assumption) ?_
      rotate_left
      · intro w hSw
        try dsimp only at hSw
        go_simp
        first | done | with_reducible rfl
      try simp only [Act.put, List.setIfInBounds_toArray, List.set_cons_zero, List.set_cons_succ]
      refine wpAnyL_one (i := 5) (by kernel_rfl) rfl (fun K hK => ?_)
      go_simp
      refine (SJ.out _ BV.out).mono ?_
      rintro e w4 ⟨rfl, hb4⟩
      have HB4 := Lib.hid hb4
      clear hb4
      go_wp2_with fail
      refine hK.out _ _ (KS.out _ HB4.out) (fun hHeld => ?_)
      clear hK K
      try simp only [Act.put, List.setIfInBounds_toArray, List.set_cons_zero, List.set_cons_succ]
      refine wpAnyL_one (i := 6) (by kernel_rfl) rfl (fun K hK => ?_)
      go_simp
      refine hK.out _ _ (KS.out _ HB4.out) (fun hHeld => ?_)
      clear hK K
      try simp only [Act.put, List.setIfInBounds_toArray, List.set_cons_zero, List.set_cons_succ]
      have O := Lib.hid (end_app GV.out (BWV.out.size) HB4.out nm vv)
      refine wpAnyL_one (i := 7) (by kernel_rfl) rfl (fun K hK => ?_)
      go_simp
      refine hK.out _ _ (KS.out _ (HB4.out.alloc HB4.out.size _)) (fun hHeld => ?_)
      clear hK K
      try simp only [Act.put, List.setIfInBounds_toArray, List.set_cons_zero, List.set_cons_succ]
      refine wpAnyL_one (i := 8) (by kernel_rfl) rfl (fun K hK => ?_)
      refine step_growN _ (by rfl) _ _ 32 32 (by rfl) rdFd_good (by decide) (fun _ => True) w.heap.size 41 41 fi (.agg #[.string { data := #[] }, .string { data := #[] }]) 32 Tryz.underlying32 Tryz.underlying32 hi hi0 hi1 hi2 rfl _ _ (by rfl) O.out.g [⟨nm, vv⟩] _ _ _ _ (by rfl) O.out.x O.out.s hq1 hq2 O.out.bs ?_
      intro v5 w5 hG5 hg5 _
      rw [← HTK.out] at hG5
      have B5 := Lib.hid (BWV.out.trans ((show Below w.heap.size V3 w5 from grow_below O.out.g hg5 (O.out.bel.mono BWV.out.size) (Nat.le_refl _) O.out.bs)))
      have S5 := Lib.hid (show w5.cell? ⟨wr.heap.size, 0, none⟩ = some (.string nm) ∧ w5.cell? ⟨wr.heap.size, 1, none⟩ = some (.slice A2 n2 c2) from ⟨(World.cell?_of_block (a := ⟨wr.heap.size, 0, none⟩) (hg5.block wr.heap.size (Nat.lt_of_lt_of_le QV.out O.out.bel.size) (fun hh => by have := (HG.out.lt _ hh.symm).2; omega))).trans (KS.out _ O.out.bel).1, (World.cell?_of_block (a := ⟨wr.heap.size, 1, none⟩) (hg5.block wr.heap.size (Nat.lt_of_lt_of_le QV.out O.out.bel.size) (fun hh => by have := (HG.out.lt _ hh.symm).2; omega))).trans (KS.out _ O.out.bel).2⟩)
      have G5 := Lib.hid hG5
      clear hG5 hg5
      refine hK.out _ _ S5.out (fun hHeld => ?_)
      clear hK K
      try simp only [Act.put, List.setIfInBounds_toArray, List.set_cons_zero, List.set_cons_succ]
      refine wpAnyL_last (by kernel_rfl) rfl (by kernel_rfl) (fun K hK => ?_)
      go_simp
      refine hK.out _ _ ?_
      clear hK K
      refine NoPanic.normal ?_
      go_wp2
      go_roundw
      case rel => exact ⟨j + 1, by omega, by go_num, G5.out, B5.out⟩
      case measure => simp [intOf]; omega
    · obtain rfl : j = p.op.length := by omega
      rw [List.take_length] at hG
      have R1 := Lib.hid (HR.out.below hbel (Nat.lt_of_lt_of_le HRN.out HN.out))
      have hvs' := hvs
      subst hvs
      have x1 := R1.out.c1
      have hNW : N ≤ wr.heap.size := Nat.le_trans HN.out hbel.size
      have hgs : Grow rdFds 1 (fun b => N ≤ b) wr N 32 (.slice As p.dn.length cs) p.dn := R1.out.gs.retag rdFds_good fun b h1 _ => h1.1.1
      have hE : rdFds wr (fun b => N ≤ b ∧ b < wr.heap.size ∧ (Value.slice As p.dn.length cs).ownBlock ≠ some b) (p.op.map clF) (#[Value.slice A5 p.op.length c5] : Array Value).toList :=
        rdFds_good.more (hG.inOwn rdFd_good fun _ _ _ _ _ h => h) fun b hb => ⟨Nat.le_trans HN.out hb.2.1, hb.2.2, fun e => by have := (HR.out.gs.lt b e).2; omega⟩
      have hn1 : p.dn.length + 1 ≤ maxLen := by have := HDL.out; unfold maxLen; omega
      have hn2 : (p.dn.length + 1) * 24 ≤ 140737488355328 := by have := HDL.out; omega
      have HB := Lib.hid hbel
      clear hG hbel
      go_wp2_with (at_builtin; refine wpList_grow1_at wr rfl _ _ 62 rfl rdFds_good (by decide) (fun b => N ≤ b) N 32 si (.slice none 0 0) 24 Tryz.underlying62 hs hs0 hs1 hsz rfl (.slice As p.dn.length cs) p.dn rfl hgs (p.op.map clF) _ 32 hE _ rfl rfl hn1 hn2 hNW ?_)
      intro v' w1 hG' hgr hmv
      obtain ⟨A', c', hv', _, _⟩ := hG'.own
      rw [List.length_append, List.length_singleton] at hv'
      subst hv'
      obtain ⟨o1, o2, o3, o4, o5, o6⟩ := RdP.closed R1.out HRN.out hNW _ hG' hgr
      have O1 := Lib.hid o1
      have O2 := Lib.hid o2
      have o7 : (w1.setCell ⟨r, 1, none⟩ (Value.slice A' (p.dn.length + 1) c')).cell? ⟨r, 2, none⟩ = some (.slice A p.op.length c) := by rw [World.cell?_setCell_other _ _ _ _ (fun e => by have := congrArg Addr.off e; simp at this)]; exact o5
      clear o1 o2 hG' hgr hmv hE hgs
      go_wp2
      go_end0
      exact ⟨rfl, ⟨_, _, _, by rw [FIN.out]; exact O1.out⟩, (Fr.of (HB.out.mono HN.out) (Nat.le_of_lt HRN.out)).trans O2.out⟩
end Go.Proofs.YtmlakjemgmeffaaGreatDoor
end

section
set_option maxRecDepth 100000
set_option linter.unusedVariables false
set_option linter.unusedSimpArgs false
namespace Go.Proofs.YtmlakjemgmeffaaGreatDoor
open Go.RowKit
def Lim (op : List Opn) (k : Nat) : Prop := ∀ f ∈ op, f.2.length ≤ k ∧ ∀ x ∈ f.2, x.length ≤ 65536
theorem lim_nil (k : Nat) : Lim [] k := fun f hf => by simp at hf
theorem lim_last {op : List Opn} {k : Nat} (h : Lim op k) : (lastLn op).length ≤ k := by
  rcases List.eq_nil_or_concat op with rfl | ⟨i, f, rfl⟩
  · exact Nat.zero_le _
  · rw [List.concat_eq_append] at h ⊢
    rw [lastLn_snoc]
    exact (h f (by simp)).1
theorem lim_line {p : PS} {l : List Nat} {k : Nat} (h : Lim p.op k) (hl : l.length ≤ 65536) : Lim (lnS p l).op (k + 1) := by
  cases l with
  | nil => show Lim p.fin.op _; rw [fin_closed]; exact lim_nil _
  | cons c r =>
    unfold lnS
    simp only
    split
    · rcases List.eq_nil_or_concat p.op with e | ⟨i, f, e⟩
      · rw [e]; exact lim_nil _
      · rw [List.concat_eq_append] at e
        rw [e, onLast_snoc]
        intro g hg
        rw [List.mem_append, List.mem_singleton] at hg
        rcases hg with hg | rfl
        · obtain ⟨a, b⟩ := h g (by rw [e]; simp [hg])
          exact ⟨by omega, b⟩
        · obtain ⟨a, b⟩ := h f (by rw [e]; simp)
          refine ⟨by rw [List.length_append, List.length_singleton]; omega, fun x hx => ?_⟩
          rw [List.mem_append, List.mem_singleton] at hx
          rcases hx with hx | rfl
          · exact b x hx
          · rw [List.length_cons] at hl; omega
    · intro g hg
      rw [List.mem_append, List.mem_singleton] at hg
      rcases hg with hg | rfl
      · obtain ⟨a, b⟩ := h g hg
        exact ⟨by omega, b⟩
      · refine ⟨by simp, fun x hx => ?_⟩
        rw [List.mem_singleton] at hx
        subst hx
        unfold vlOf
        have h1 := (List.dropWhile_sublist (fun c => c == 32) (l := (c :: r).drop ((nmOf (c :: r)).length + 1))).length_le
        rw [List.length_drop] at h1
        omega
set_option maxHeartbeats 2000000 in
theorem read5_ok (x : ByteArray) (N r k : Nat) (p : PS) (vs vo vl : Value) (m : Int) (w : World) (hR : RdP w N r k p vs vo vl) (hr : r < N) (hN : N ≤ w.heap.size) (hx : x.size ≤ 65536) (hm : w.cell? ⟨1, 0, none⟩ = some (.int .i64 m)) (h : lnE p (B x) = 0) (hf : Fit p) (hl : Lim p.op 100000) :
    Calls Tryz.prog 124 #[.pointer (some ⟨r, 0, none⟩), .string x] w fun e w' => e = .returned (.tuple #[]) ∧ (∃ vs' vo' vl', RdP w' N r k (lnS p (B x)) vs' vo' vl') ∧ Fr N r w w' := by
  have LW := Lib.hid (low5_any x w (by unfold maxLen; omega))
  have hrw : r < w.heap.size := by omega
  have HRW := Lib.hid hrw
  unfold lnE at h
  by_cases h1 : lowB (B x) = true
  · rw [if_pos h1] at h; cases h
  rw [if_neg h1] at h
  rw [Bool.eq_false_iff.2 h1] at LW
  clear h1
  have HR := Lib.hid hR
  have HRN := Lib.hid hr
  have HN := Lib.hid hN
  have HX := Lib.hid hx
  have HF := Lib.hid hf
  have HL := Lib.hid hl
  have em := emp_eq x
  cases hB : B x with
  | nil =>
    rw [decide_eq_true hB] at em
    by_cases h0 : p.op = []
    · have E := Lib.hid (show lnS p [] = p from fin_of h0)
      have H0 := Lib.hid h0
      clear hR hr hN hx hf hl hm h hB h0 hrw
      go_enter Tryz.func124, Tryz.ntmps124
      go_wp2_with fail
      refine LW.out.mono ?_
      rintro e w1 ⟨rfl, hb⟩
      have R1 := Lib.hid (HR.out.below hb HRW.out)
      have HB := Lib.hid hb
      clear hb
      go_wp2_with fail
      refine (end5_none N r k p vs vo vl _ R1.out H0.out).mono ?_
      rintro e w2 ⟨rfl, rfl⟩
      go_wp2
      go_end0
      exact ⟨rfl, ⟨_, _, _, by rw [E.out]; exact R1.out⟩, Fr.of (HB.out.mono HN.out) (Nat.le_of_lt HRN.out)⟩
    · have H0 := Lib.hid h0
      clear hR hr hN hx hf hl hm h hB h0 hrw
      go_enter Tryz.func124, Tryz.ntmps124
      go_wp2_with fail
      refine LW.out.mono ?_
      rintro e w1 ⟨rfl, hb⟩
      have R1 := Lib.hid (HR.out.below hb HRW.out)
      have HB := Lib.hid hb
      clear hb
      go_wp2_with fail
      refine (end5_ok N r k p vs vo vl _ R1.out HRN.out (Nat.le_trans HN.out HB.out.size) H0.out (by have := HF.out.f; omega) (by have := HF.out.d; omega) (fun f hf => ⟨by have := (HL.out f hf).1; omega, fun x hx => by have := (HL.out f hf).2 x hx; omega⟩)).mono ?_
      rintro e w2 ⟨rfl, hex, hfr⟩
      have EX := Lib.hid hex
      have FR := Lib.hid hfr
      clear hex hfr
      go_wp2
      go_end0
      exact ⟨rfl, EX.out, (Fr.of (HB.out.mono HN.out) (Nat.le_of_lt HRN.out)).trans FR.out⟩
  | cons c rs =>
    rw [hB] at h
    simp only at h
    rw [decide_eq_false (show ¬ B x = [] by rw [hB]; simp)] at em
    have hs0 : 0 < x.size := by rw [← B_len, hB]; simp
    have hc : x[0].toNat = c := by rw [← B_getD x 0 hs0, hB]; rfl
    have hE : B (x.extract 1 x.size) = rs := by rw [ext1_B, hB]; rfl
    have HM := Lib.hid hm
    have HH := Lib.hid h
    have HBX := Lib.hid hB
    clear hR hr hN hx hf hl hm h hB hrw
    by_cases h32 : c = 32
    · have HG := Lib.hid (show goE p rs = 0 by have := HH.out; rwa [if_pos h32] at this)
      have q0 : ((x[0].toNat : Int) == 32) = true := by rw [hc, h32]; rfl
      have GN := Lib.hid (show p.op ≠ [] ∧ B (x.extract 1 x.size) ≠ [] by
        have := HG.out
        unfold goE at this
        split at this
        · cases this
        · rename_i hh
          rw [Bool.or_eq_true, decide_eq_true_iff, decide_eq_true_iff] at hh
          rw [hE]; exact ⟨fun e => hh (.inl e), fun e => hh (.inr e)⟩)
      have SN := Lib.hid (show lnS p (c :: rs) = ⟨p.dn, onLast (B (x.extract 1 x.size)) p.op⟩ by
        unfold lnS; simp only; rw [if_pos h32, hE])
      clear hc hE h32 HH
      go_enter Tryz.func124, Tryz.ntmps124
      go_wp2_with fail
      refine LW.out.mono ?_
      rintro e w1 ⟨rfl, hb⟩
      have R1 := Lib.hid (HR.out.below hb HRW.out)
      have HB := Lib.hid hb
      clear hb
      go_wp2_with fail
      refine (goOn5_ok (x.extract 1 x.size) N r k p vs vo vl _ R1.out HRN.out (Nat.le_trans HN.out HB.out.size) GN.out.1 GN.out.2 (by have := HF.out.f; omega) (by have := lim_last HL.out; omega)).mono ?_
      rintro e w2 ⟨rfl, hex, hfr⟩
      have EX := Lib.hid hex
      have FR := Lib.hid hfr
      clear hex hfr
      go_wp2
      go_end0
      refine ⟨rfl, ?_, (Fr.of (HB.out.mono HN.out) (Nat.le_of_lt HRN.out)).trans FR.out⟩
      obtain ⟨vl', h⟩ := EX.out
      exact ⟨_, _, _, by rw [SN.out]; exact h⟩
    · have HG := Lib.hid (show begE p (B x) = 0 by have := HH.out; rw [if_neg h32] at this; rw [HBX.out]; exact this)
      have q0 : ((x[0].toNat : Int) == 32) = false := by rw [hc, beq_eq_false_iff_ne]; omega
      have SN := Lib.hid (show lnS p (c :: rs) = ⟨p.dn, p.op ++ [(mk (nmOf (B x)), [vlOf (B x)])]⟩ by
        unfold lnS; simp only; rw [if_neg h32, HBX.out])
      clear hc hE h32 HH
      go_enter Tryz.func124, Tryz.ntmps124
      go_wp2_with fail
      refine LW.out.mono ?_
      rintro e w1 ⟨rfl, hb⟩
      have R1 := Lib.hid (HR.out.below hb HRW.out)
      have HB := Lib.hid hb
      have M1 := Lib.hid ((hb.cell (show (⟨1, 0, none⟩ : Addr).block < w.heap.size from World.block_lt_of_cell? _ _ HM.out)).trans HM.out)
      clear hb
      go_wp2_with fail
      refine (begin5_ok x N r k p vs vo vl m _ R1.out HRN.out (Nat.le_trans HN.out HB.out.size) HX.out M1.out HG.out (by have := HF.out.f; omega)).mono ?_
      rintro e w2 ⟨rfl, hex, hfr⟩
      have EX := Lib.hid hex
      have FR := Lib.hid hfr
      clear hex hfr
      go_wp2
      go_end0
      refine ⟨rfl, ?_, (Fr.of (HB.out.mono HN.out) (Nat.le_of_lt HRN.out)).trans FR.out⟩
      obtain ⟨vo', vl', h⟩ := EX.out
      exact ⟨_, _, _, by rw [SN.out]; exact h⟩
end Go.Proofs.YtmlakjemgmeffaaGreatDoor
end
