/- The contract of the program's Parse of a field. -/
import Derived.Test.YtmlakjemgmeffaaGreatDoorD4kY
set_option maxRecDepth 100000
set_option linter.unusedVariables false
set_option linter.unusedSimpArgs false
namespace Go.Proofs.YtmlakjemgmeffaaGreatDoor
open Go.RowKit Go.Shelf
attribute [local go_sem] Oper.semAt_some
theorem grp_info : (Tryz.prog.info? 54).map (fun i => (i.zero, i.size, i.bytes)) = some (some (.slice none 0 0), 1, 24) := by kernel_rfl
def gF (l : List (List Nat)) : List (List Nat) := (l.map grpT).flatten
theorem fld_pts (s : List Nat) : fld s = (ptsL 44 s).map grpT := by
  unfold fld ptsL
  rw [List.map_map]
  exact List.map_congr_left fun p _ => (grpT_trm p).symm
theorem gF_snoc (l : List (List Nat)) (x : List Nat) : gF (l ++ [x]) = gF l ++ grpT x := by unfold gF; rw [List.map_append, List.flatten_append]; simp
theorem gF_pts (s : List Nat) : (fld s).flatten = gF (ptsL 44 s) := by rw [fld_pts]; rfl
theorem gF_prefix {p l : List (List Nat)} (h : p <+: l) : gF p <+: gF l := by
  obtain ⟨r, rfl⟩ := h
  unfold gF
  rw [List.map_append, List.flatten_append]; exact List.prefix_append _ _
theorem gF_mem {l : List (List Nat)} (h : errF (gF l) = 0) : ∀ p ∈ l, errF (grpT p) = 0 := by
  induction l with
  | nil => intro p hp; simp at hp
  | cons q r ih =>
    have e : gF (q :: r) = grpT q ++ gF r := by unfold gF; rw [List.map_cons, List.flatten_cons]
    rw [e, errF_app] at h
    intro p hp
    by_cases hq : errF (grpT q) = 0
    · rw [if_pos hq] at h
      rcases List.mem_cons.1 hp with rfl | hp
      · exact hq
      · exact ih h p hp
    · rw [if_neg hq] at h; exact absurd h hq
set_option maxHeartbeats 4000000 in
theorem parse4_new (s : ByteArray) (w : World) (hs : s.size ≤ 65536) (E : EnvR w) :
    Calls Tryz.prog 52 #[.string s] w fun e w' => (∃ v, e = .returned (.tuple #[v, .int .i64 (depE (B s))]) ∧ rdGrps w' (fun b => w.heap.size ≤ b ∧ b < w'.heap.size) (depL (B s)) [v]) ∧ Below w.heap.size w w' := by
  obtain ⟨i0, hi, hz0, hz1, hz2⟩ := info_parts grp_info
  have hpl : (ptsL 44 (B s)).length ≤ 65537 := by
    unfold ptsL
    rw [List.length_map, cutBy_len]
    have := List.count_le_length (a := 44) (l := B s)
    rw [B_len] at this; omega
  have HE := Lib.hid E
  clear E
  refine (callsIn_wide (n := 5)).1 ?_
  refine callsIn_of_wp_marks Tryz.func52 rfl trivial ?_ rfl
  simp only [Tryz.ntmps52, List.size_toArray, List.length_cons, List.length_nil, Nat.reduceAdd, Nat.reduceSub, Array.replicate_succ, Array.replicate_zero, List.push_toArray, List.append_toArray, List.nil_append, List.cons_append]
  by_cases hnil : B s = []
  · have X := Lib.hid (show depE (B s) = 0 by unfold depE; rw [if_pos hnil])
    have X2 := Lib.hid (show depL (B s) = [] by unfold depL; rw [if_pos hnil])
    obtain rfl : s = { data := #[] } := by rw [eq_mk hnil]; rfl
    gi_wp2
    refine ⟨.tuple #[.slice none 0 0, .int .i64 0], ?_, ⟨.slice none 0 0, by rw [X.out], by rw [X2.out]; exact rdRow_nil _ _⟩, ((Below.refl _ _).alloc (Nat.le_refl _) _).alloc (by simp) _⟩
    simp [results, Tryz.f52, go_sem]
  · have hne : s.toList.isEmpty = false := by
      rw [toList_data, List.isEmpty_eq_false_iff]
      intro h
      exact hnil (by unfold B; rw [h]; rfl)
    have KM := Lib.hid (fun w E => tooMany_any s w hs E)
    cases hm : manyF (fld (B s))
    · rw [hm] at KM
      have X := Lib.hid (show depE (B s) = errF (gF (ptsL 44 (B s))) by unfold depE; rw [if_neg hnil, hm, gF_pts]; rfl)
      have X2 := Lib.hid (show depE (B s) = 0 → depL (B s) = (ptsL 44 (B s)).map grpL from fun h0 => by
        have hz := gF_mem (X.out.symm.trans h0)
        unfold depL
        rw [if_neg hnil, if_pos h0, fld_pts, List.map_map]
        refine List.map_congr_left fun p hp => ?_
        unfold grpL
        rw [if_pos (hz p hp)]; rfl)
      clear hm hnil
      gi_wp2_with fail
      refine ⟨trivial, ?_⟩
      refine (callsIn_wide.2 (KM.out _ ((HE.out.alloc _).alloc _).env)).mono ?_
      rintro e V ⟨rfl, hbV⟩
      have v0 : V.cell? ⟨w.heap.size, 0, none⟩ = some (.slice none 0 0) := (hbV.cell (p := ⟨w.heap.size, 0, none⟩) (by simp; omega)).trans (by simp [go_sem])
      have v1 : V.cell? ⟨w.heap.size + 1, 0, none⟩ = some (.int .i64 0) := (hbV.cell (p := ⟨w.heap.size + 1, 0, none⟩) (by simp)).trans (by simp [go_sem])
      have q0 : V.frozen? ⟨w.heap.size, 0, none⟩ = false := (hbV.frozen (p := ⟨w.heap.size, 0, none⟩) (by simp; omega)).trans (by simp [go_sem])
      have q1 : V.frozen? ⟨w.heap.size + 1, 0, none⟩ = false := (hbV.frozen (p := ⟨w.heap.size + 1, 0, none⟩) (by simp)).trans (by simp [go_sem])
      have hzV : w.heap.size + 2 ≤ V.heap.size := by have := hbV.size; simp at this; omega
      have HV := Lib.hid (show Below w.heap.size w V from bel2 (((Below.refl _ _).alloc (Nat.le_refl _) _).alloc (by simp) _) hbV (Nat.le_refl _))
      clear hbV
      gi_wp2_with fail
      refine ⟨trivial, ?_⟩
      refine (callsIn_wide.2 (pieces_any _ _ _)).mono ?_
      rintro e w2 ⟨rfl, rfl⟩
      obtain ⟨W0, hW0⟩ : ∃ W0, ((V.alloc (.cells #[.slice none 0 0] 22)).alloc (.cells #[.string s] 9)).alloc (.cells #[.string { data := #[44] }] 9) = W0 := ⟨_, rfl⟩
      have hBV : Below V.heap.size V W0 := by rw [← hW0]; exact (((Below.refl _ V).alloc (Nat.le_refl _) _).alloc (by simp) _).alloc (by simp; omega) _
      have c0 : W0.cell? ⟨w.heap.size, 0, none⟩ = some (.slice none 0 0) := (hBV.cell (World.block_lt_of_cell? _ _ v0)).trans v0
      have f0 : W0.frozen? ⟨w.heap.size, 0, none⟩ = false := (hBV.frozen (p := ⟨w.heap.size, 0, none⟩) (World.block_lt_of_cell? _ _ v0)).trans q0
      have c1 : W0.cell? ⟨w.heap.size + 1, 0, none⟩ = some (.int .i64 0) := (hBV.cell (World.block_lt_of_cell? _ _ v1)).trans v1
      have f1 : W0.frozen? ⟨w.heap.size + 1, 0, none⟩ = false := (hBV.frozen (p := ⟨w.heap.size + 1, 0, none⟩) (World.block_lt_of_cell? _ _ v1)).trans q1
      have c2 : W0.cell? ⟨V.heap.size, 0, none⟩ = some (.slice none 0 0) := by rw [← hW0]; simp [go_sem]
      have f2 : W0.frozen? ⟨V.heap.size, 0, none⟩ = false := by rw [← hW0]; simp [go_sem]
      have c3 : W0.cell? ⟨V.heap.size + 1, 0, none⟩ = some (.string s) := by rw [← hW0]; simp [go_sem]
      have c4 : W0.cell? ⟨V.heap.size + 1 + 1, 0, none⟩ = some (.string { data := #[44] }) := by rw [← hW0]; simp [go_sem]
      have z0 : W0.heap.size = V.heap.size + 3 := by rw [← hW0]; simp
      have hB0 : Below w.heap.size w W0 := bel2 HV.out hBV (Nat.le_refl _)
      simp only [World.size_alloc]
      rw [hW0]
      clear hW0 hBV
      have Z0 := Lib.hid z0
      have zz := hB0.size
      have hbm : V.heap.size + 1 + 1 < W0.heap.size := by omega
      clear z0 v0 v1 q0 q1
      gi_wp2
      refine wpIn_rangeFunc_ownG rfl (by omega) (gf := 118) (lb := #[.pointer (some ⟨V.heap.size + 1, 0, none⟩), .pointer (some ⟨V.heap.size + 1 + 1, 0, none⟩)]) rfl trivial (enters_of Tryz.func118 (by kernel_rfl) rfl)
        (pieces_stops w HE.out.env _ (by omega) (V.heap.size + 1) (V.heap.size + 1 + 1) s 44 hs W0 hB0 c3 c4) kpM_t (kpM_b zz hbm) (Below.refl _ _) (fun _ => rfl)
        (fun pre W => ((∃ v, W.cell? ⟨V.heap.size, 0, none⟩ = some v ∧ W.frozen? ⟨V.heap.size, 0, none⟩ = false ∧ Grow rdAtms 1 (fun b => W0.heap.size ≤ b) W W0.heap.size 54 v ((pre.map pcB).map grpL)) ∧ (errF (gF (pre.map pcB)) = 0 ∧
          W.cell? ⟨w.heap.size, 0, none⟩ = some (.slice none 0 0) ∧ W.frozen? ⟨w.heap.size, 0, none⟩ = false ∧ W.cell? ⟨w.heap.size + 1, 0, none⟩ = some (.int .i64 0) ∧ W.frozen? ⟨w.heap.size + 1, 0, none⟩ = false ∧ W0.heap.size ≤ W.heap.size)) ∧ Below w.heap.size w W)
        (fun c pre W => (c = .ret ∧ errF (gF (pre.map pcB)) ≠ 0 ∧ W.cell? ⟨w.heap.size, 0, none⟩ = some (.slice none 0 0) ∧ W.cell? ⟨w.heap.size + 1, 0, none⟩ = some (.int .i64 (errF (gF (pre.map pcB))))) ∧ Below w.heap.size w W)
        (OwnFrom.and (Own.from (fun s A B row hs hg hr => ⟨by obtain ⟨⟨v, h1, h2, h3⟩, _⟩ := hs; exact ⟨v, cell_kept h1 hg hr, (frozen_kept h1 hg hr).trans h2, h3.turn rdAtms_good hg hr⟩, hs.2.1, cell_kept hs.2.2.1 hg hr, (frozen_kept hs.2.2.1 hg hr).trans hs.2.2.2.1, cell_kept hs.2.2.2.2.1 hg hr, (frozen_kept hs.2.2.2.2.1 hg hr).trans hs.2.2.2.2.2.1, Nat.le_trans hs.2.2.2.2.2.2 hg.size⟩) _) (ownFrom_below (Nat.le_refl _) zz))
        (fun c => OwnFrom.and (Own.from (fun s A B row hs hg hr => ⟨hs.1, hs.2.1, cell_kept hs.2.2.1 hg hr, cell_kept hs.2.2.2 hg hr⟩) _) (ownFrom_below (Nat.le_refl _) zz))
        ⟨⟨⟨_, c2, f2, Grow.nil _ _ _ _⟩, rfl, c0, f0, c1, f1, Nat.le_refl _⟩, hB0⟩
        (fun x => { tmps := #[.string s, undef, .pointer (some ⟨w.heap.size, 0, none⟩), .pointer (some ⟨w.heap.size + 1, 0, none⟩), .pointer (some ⟨V.heap.size, 0, none⟩), .string x.1, undef, undef, .string s, .bool false, .string s, .bool false, .string s, .func (.func 118) #[] #[.pointer (some ⟨V.heap.size + 1, 0, none⟩), .pointer (some ⟨V.heap.size + 1 + 1, 0, none⟩)], .string x.1, undef, undef, undef, undef, undef, undef, undef, undef, undef, undef, undef, undef, undef], defers := [] }) ?assign ?body ?done ?stop
      case assign =>
        intro l x W K hK
        gi_wp2
        exact hK
      case body =>
        rintro l pre x W ⟨⟨⟨v, hv, hvf, hG⟩, hp, hc0, hf0, hc1, hf1, hsz⟩, hB⟩ hlen
        have K := Lib.hid (parseGroup_any x.1 W x.2 (HE.out.below hB))
        have hsn : errF (gF (pre.map pcB ++ [pcB x])) = errF (grpT (pcB x)) := by rw [gF_snoc, errF_app, if_pos hp]
        have HSN := Lib.hid hsn
        have HP := Lib.hid hp
        have HB := Lib.hid hB
        clear hsn hp hB
        have hln : pre.length ≤ 65537 := Nat.le_trans (Nat.le_of_lt hlen) hpl
        obtain ⟨ee, he⟩ : ∃ ee, ee = errF (grpT (B x.1)) := ⟨_, rfl⟩
        have HEE := Lib.hid he
        rw [← he] at K
        clear he
        have hlt0 := World.block_lt_of_cell? _ _ hc0
        have hlt1 := World.block_lt_of_cell? _ _ hc1
        have hlt2 := World.block_lt_of_cell? _ _ hv
        by_cases h0 : ee = 0
        · have hq : (ee != 0) = false := by rw [h0]; rfl
          have H0 := Lib.hid h0
          clear h0
          gi_wp2_with fail
          refine ⟨trivial, ?_⟩
          refine (CallsIn.inRound l (callsIn_wide.2 K.out)).mono ?_
          rintro e W1 ⟨⟨gv, rfl, hrd⟩, hb1⟩
          obtain ⟨gA, gc, hgv, _⟩ := id hrd
          simp only [List.cons.injEq, and_true] at hgv
          subst hgv
          have hz1' := hb1.size
          have hzW := HB.out.size
          have d0 := (hb1.cell hlt0).trans hc0
          have d1 := (hb1.cell hlt1).trans hc1
          have d2 := (hb1.cell hlt2).trans hv
          have g0 := (hb1.frozen (p := ⟨w.heap.size, 0, none⟩) hlt0).trans hf0
          have g1 := (hb1.frozen (p := ⟨w.heap.size + 1, 0, none⟩) hlt1).trans hf1
          have g2 := (hb1.frozen (p := ⟨V.heap.size, 0, none⟩) hlt2).trans hvf
          have HB1 := Lib.hid hb1
          clear hc0 hc1 hf0 hf1 hv hvf hlt0 hlt1 hlt2
          have hG2 := hG.below rdAtms_good hb1
          have hE := (show rdAtms W1 (fun b => W0.heap.size ≤ b ∧ b < W1.heap.size ∧ v.ownBlock ≠ some b) (grpL (B x.1)) (#[.slice gA (grpL (B x.1)).length gc] : Array Value).toList from
            rdAtms_good.more hrd fun b hb => ⟨by omega, hb.1, fun hh => by have := (hG.lt b hh).2; omega⟩)
          have hn1 : ((pre.map pcB).map grpL).length + 1 ≤ maxLen := by rw [List.length_map, List.length_map]; unfold maxLen; omega
          have hn2 : (((pre.map pcB).map grpL).length + 1) * 24 ≤ 140737488355328 := by rw [List.length_map, List.length_map]; omega
          have hbs : W0.heap.size ≤ W1.heap.size := by omega
          clear hG hb1 hrd
          generalize hgl : grpL (B x.1) = gl at *
          have HGL := Lib.hid hgl
          clear hgl
          gi_wp2_with (gi_at_builtin; refine wpListIn_grow1 W1 rfl _ _ 22 rfl rdAtms_good (by decide) (fun b => W0.heap.size ≤ b) W0.heap.size 54 i0 _ 24 Tryz.underlying22 hi hz0 hz1 hz2 rfl v _ rfl hG2 gl _ 54 hE _ rfl rfl hn1 hn2 hbs ?_)
          intro v' w' hG' hgr
          have e0 := (World.cell?_of_block (a := ⟨w.heap.size, 0, none⟩) (heap_grow hG2 hgr (k := w.heap.size) (by omega) hbs)).trans d0
          have e1 := (World.cell?_of_block (a := ⟨w.heap.size + 1, 0, none⟩) (heap_grow hG2 hgr (k := w.heap.size + 1) (by omega) hbs)).trans d1
          have e2 := (World.cell?_of_block (a := ⟨V.heap.size, 0, none⟩) (heap_grow hG2 hgr (k := V.heap.size) (by omega) hbs)).trans d2
          have j0 := (World.frozen?_of_block (a := ⟨w.heap.size, 0, none⟩) (heap_grow hG2 hgr (k := w.heap.size) (by omega) hbs)).trans g0
          have j1 := (World.frozen?_of_block (a := ⟨w.heap.size + 1, 0, none⟩) (heap_grow hG2 hgr (k := w.heap.size + 1) (by omega) hbs)).trans g1
          have j2 := (World.frozen?_of_block (a := ⟨V.heap.size, 0, none⟩) (heap_grow hG2 hgr (k := V.heap.size) (by omega) hbs)).trans g2
          have hM := (heap_grow hG2 hgr (k := V.heap.size + 1 + 1) (by omega) hbs)
          have KO := Lib.hid ((keeps_below HB1.out).trans (keeps_grow hG2 hgr))
          have BB := Lib.hid (grow_below hG2 hgr (bel2 HB.out HB1.out (Nat.le_refl _)) zz (by omega))
          have BB2 := Lib.hid (grow_below hG2 hgr (HB1.out.mono (show w.heap.size ≤ W.heap.size by omega)) zz (by omega))
          have SZ := Lib.hid hgr.size
          have GG := Lib.hid hG'
          have MM := Lib.hid (show w'.heap[V.heap.size + 1 + 1]? = W.heap[V.heap.size + 1 + 1]? from hM.trans (HB1.out.block _ (by omega)))
          obtain ⟨A', cp', hv', _, _⟩ := hG'.own
          simp only [List.length_append, List.length_map, List.length_singleton] at hv'
          clear hG' hgr hG2 hE d0 d1 d2 g0 g1 g2 hM
          subst hv'
          have LX := Lib.hid (show ((pre ++ [x]).map pcB).map grpL = (pre.map pcB).map grpL ++ [gl] by rw [← HGL.out]; simp [pcB])
          gi_wp2
          refine ⟨(KO.out.trans (KeepsOthers.setCell _ _ _)).from _, ⟨?_, ?_⟩, ⟨⟨.slice A' (pre.length + 1) cp', ?_, ?_, ?_⟩, ?_, ?_, ?_, ?_, ?_, ?_⟩, ?_⟩
          · rw [heap_setCell_other _ _ _ _ (by simp only; omega)]; exact MM.out
          · exact BB2.out.setCell (p := ⟨V.heap.size, 0, none⟩) (by simp only; omega) _
          · exact World.cell?_setCell_same' _ _ _ (by rw [e2]; rfl)
          · rw [World.frozen?_setCell]; exact j2
          · rw [LX.out, List.map_map]; exact GG.out.setCell rdAtms_good (p := ⟨V.heap.size, 0, none⟩) (by simp only; omega) (by simp only; omega) _
          · rw [List.map_append, List.map_singleton, HSN.out, ← H0.out, HEE.out]; rfl
          · rw [World.cell?_setCell_other _ _ _ _ (ne_blk (by omega))]; exact e0
          · rw [World.frozen?_setCell]; exact j0
          · rw [World.cell?_setCell_other _ _ _ _ (ne_blk (by omega))]; exact e1
          · rw [World.frozen?_setCell]; exact j1
          · have := SZ.out; simp at this ⊢; omega
          · exact BB.out.setCell (p := ⟨V.heap.size, 0, none⟩) (by simp only; omega) _
        · have hq : (ee != 0) = true := by rw [bne_iff_ne]; exact h0
          have H0 := Lib.hid h0
          clear h0
          gi_wp2_with fail
          refine ⟨trivial, ?_⟩
          refine (CallsIn.inRound l (callsIn_wide.2 K.out)).mono ?_
          rintro e W1 ⟨⟨gv, rfl, hrd⟩, hb1⟩
          have d0 := (hb1.cell hlt0).trans hc0
          have d1 := (hb1.cell hlt1).trans hc1
          have g0 := (hb1.frozen (p := ⟨w.heap.size, 0, none⟩) hlt0).trans hf0
          have g1 := (hb1.frozen (p := ⟨w.heap.size + 1, 0, none⟩) hlt1).trans hf1
          have HB1 := Lib.hid hb1
          clear hc0 hc1 hf0 hf1 hb1 hv hvf hrd hG hlt0 hlt1 hlt2
          gi_wp2
          obtain ⟨r0, r1⟩ := two_sets (p := ⟨w.heap.size, 0, none⟩) (q := ⟨w.heap.size + 1, 0, none⟩) (by simp) (.slice none 0 0) (.int .i64 ee) d0 d1
          exact ⟨(((keeps_below HB1.out).trans (KeepsOthers.setCell _ _ _)).trans (KeepsOthers.setCell _ _ _)).from _, ⟨rfl, by rw [List.map_append, List.map_singleton, HSN.out]; exact HEE.out ▸ H0.out, r0, by rw [List.map_append, List.map_singleton, HSN.out, r1, HEE.out]; rfl⟩,
            ((bel2 HB.out HB1.out (Nat.le_refl _)).setCell (p := ⟨w.heap.size, 0, none⟩) (by simp) _).setCell (p := ⟨w.heap.size + 1, 0, none⟩) (by simp) _⟩
      case done =>
        rintro D ys W hD hS ⟨⟨⟨v, hv, hvf, hG⟩, hp, hc0, hf0, hc1, hf1, hsz⟩, hB⟩ hK
        have X0 := Lib.hid (show depE (B s) = 0 by rw [X.out, show ptsL 44 (B s) = ys.map pcB from hS.symm, hp])
        have XL := Lib.hid (show depL (B s) = (ys.map pcB).map grpL by rw [X2.out X0.out, show ptsL 44 (B s) = ys.map pcB from hS.symm])
        obtain ⟨A', cp', hv', _, _⟩ := hG.own
        simp only [List.length_map] at hv'
        have GG := Lib.hid hG
        clear hG hS hp
        subst hv'
        gi_wp2
        obtain ⟨r0, r1⟩ := two_sets (p := ⟨w.heap.size, 0, none⟩) (q := ⟨w.heap.size + 1, 0, none⟩) (by simp) (.slice A' ys.length cp') (.int .i64 0) hc0 hc1
        have hK' := ((KeepsOthers.setCell W ⟨w.heap.size, 0, none⟩ (.slice A' ys.length cp')).trans (KeepsOthers.setCell _ ⟨w.heap.size + 1, 0, none⟩ (.int .i64 0))).same D _ hK rfl
        refine ⟨by simp, .inl ⟨_, _, rfl, run_takeDeferred hK', ?_⟩⟩
        have h0 := cell_kept r0 (grownBy_putObj' _ D (.deferred none)) (fun r e => by cases e; exact ⟨_, hK', rfl⟩)
        have h1 := cell_kept r1 (grownBy_putObj' _ D (.deferred none)) (fun r e => by cases e; exact ⟨_, hK', rfl⟩)
        have G2 := ((GG.out.setCell rdAtms_good (p := ⟨w.heap.size, 0, none⟩) (by simp only; omega) (by simp only; omega) (.slice A' ys.length cp')).setCell rdAtms_good (p := ⟨w.heap.size + 1, 0, none⟩) (by simp only; omega) (by simp only; omega) (.int .i64 0)).turn rdAtms_good (grownBy_putObj' _ D (.deferred none)) (fun r e => by cases e; exact ⟨_, hK', rfl⟩)
        refine ⟨.tuple #[.slice A' ys.length cp', .int .i64 0], ?_, ⟨.slice A' ys.length cp', by rw [X0.out], ?_⟩, ((hB.setCell (p := ⟨w.heap.size, 0, none⟩) (by simp) _).setCell (p := ⟨w.heap.size + 1, 0, none⟩) (by simp) _).trans (belowK_b (w := w) (Nat.le_refl _) _ D _ _ (by omega) hK' rfl rfl)⟩
        · simp [results, Tryz.f52, go_sem, h0, h1]
        · rw [XL.out]; exact rdGrps_good.more (G2.reads rdAtms_good) fun b hb => ⟨by rcases hb.2 with h | h <;> exact Nat.le_trans zz h, hb.1⟩
      case stop =>
        rintro D c pre W hD hpre ⟨⟨rfl, hin, hc0, hc1⟩, hB⟩ hK
        have X0 := Lib.hid (show depE (B s) = errF (gF (pre.map pcB)) by rw [X.out]; exact errF_prefix (gF_prefix hpre) hin)
        have XL := Lib.hid (show depL (B s) = [] from depL_bad (by rw [X0.out]; exact hin))
        gi_wp2
        refine ⟨by simp, .inl ⟨_, _, rfl, run_takeDeferred hK, ?_⟩⟩
        have h0 := cell_kept hc0 (grownBy_putObj' _ D (.deferred none)) (fun r e => by cases e; exact ⟨_, hK, rfl⟩)
        have h1 := cell_kept hc1 (grownBy_putObj' _ D (.deferred none)) (fun r e => by cases e; exact ⟨_, hK, rfl⟩)
        refine ⟨.tuple #[.slice none 0 0, .int .i64 (errF (gF (pre.map pcB)))], ?_, ⟨.slice none 0 0, by rw [X0.out], by rw [XL.out]; exact rdRow_nil _ _⟩, hB.trans (belowK_b (w := w) (Nat.le_refl _) W D _ _ (by omega) hK rfl rfl)⟩
        simp [results, Tryz.f52, go_sem, h0, h1]
    · rw [hm] at KM
      have X := Lib.hid (show depE (B s) = 8 by unfold depE; rw [if_neg hnil, if_pos hm])
      have X2 := Lib.hid (depL_bad (s := B s) (by rw [X.out]; decide))
      clear hm hnil
      gi_wp2_with fail
      refine ⟨trivial, ?_⟩
      refine (callsIn_wide.2 (KM.out _ ((HE.out.alloc _).alloc _).env)).mono ?_
      rintro e V ⟨rfl, hbV⟩
      have v0 : V.cell? ⟨w.heap.size, 0, none⟩ = some (.slice none 0 0) := (hbV.cell (p := ⟨w.heap.size, 0, none⟩) (by simp; omega)).trans (by simp [go_sem])
      have v1 : V.cell? ⟨w.heap.size + 1, 0, none⟩ = some (.int .i64 0) := (hbV.cell (p := ⟨w.heap.size + 1, 0, none⟩) (by simp)).trans (by simp [go_sem])
      have q0 : V.frozen? ⟨w.heap.size, 0, none⟩ = false := (hbV.frozen (p := ⟨w.heap.size, 0, none⟩) (by simp; omega)).trans (by simp [go_sem])
      have q1 : V.frozen? ⟨w.heap.size + 1, 0, none⟩ = false := (hbV.frozen (p := ⟨w.heap.size + 1, 0, none⟩) (by simp)).trans (by simp [go_sem])
      have HV := Lib.hid (show Below w.heap.size w V from bel2 (((Below.refl _ _).alloc (Nat.le_refl _) _).alloc (by simp) _) hbV (Nat.le_refl _))
      clear hbV
      gi_wp2
      obtain ⟨r0, r1⟩ := two_sets (p := ⟨w.heap.size, 0, none⟩) (q := ⟨w.heap.size + 1, 0, none⟩) (by simp) (.slice none 0 0) (.int .i64 8) v0 v1
      refine ⟨.tuple #[.slice none 0 0, .int .i64 8], ?_, ⟨.slice none 0 0, by rw [X.out], by rw [X2.out]; exact rdRow_nil _ _⟩, (HV.out.setCell (p := ⟨w.heap.size, 0, none⟩) (by simp) _).setCell (p := ⟨w.heap.size + 1, 0, none⟩) (by simp) _⟩
      simp [results, Tryz.f52, go_sem, r0, r1]
theorem parse4_any (s : ByteArray) (w : World) (hs : s.size ≤ 65536) (E : EnvR w) :
    Calls Tryz.prog 52 #[.string s] w fun e w' => (∃ v, e = .returned (.tuple #[v, .int .i64 (depE (B s))]) ∧ rdGrps w' (lt_ w'.heap.size) (depL (B s)) [v]) ∧ Below w.heap.size w w' :=
  (parse4_new s w hs E).mono fun _ _ ⟨⟨v, h1, h2⟩, h3⟩ => ⟨⟨v, h1, rdGrps_good.more h2 fun _ hb => hb.2⟩, h3⟩
end Go.Proofs.YtmlakjemgmeffaaGreatDoor
