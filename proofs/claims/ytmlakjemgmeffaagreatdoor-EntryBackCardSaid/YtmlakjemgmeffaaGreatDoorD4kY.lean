/- The contract of the program's parseGroup. -/
import Derived.Test.YtmlakjemgmeffaaGreatDoorQAG
import Derived.Test.YtmlakjemgmeffaaGreatDoorNP
import Derived.Test.YtmlakjemgmeffaaGreatDoorND
import Derived.WalkSpells
import Derived.RegionTactic
import Derived.Test.YtmlakjemgmeffaaGreatDoorRel6Y
set_option maxRecDepth 100000
set_option linter.unusedVariables false
set_option linter.unusedSimpArgs false
namespace Go.Proofs.YtmlakjemgmeffaaGreatDoor
open Go.RowKit Go.Shelf
attribute [local go_sem] Oper.semAt_some
theorem cell_al {w : World} {p : Addr} {v : Value} (o : Obj) (h : w.cell? p = some v) : (w.alloc o).cell? p = some v := (((Below.refl w.heap.size w).alloc (Nat.le_refl _) o).cell (World.block_lt_of_cell? _ _ h)).trans h
theorem fr_al {w : World} {p : Addr} {v : Value} (o : Obj) (h : w.cell? p = some v) (hf : w.frozen? p = false) : (w.alloc o).frozen? p = false := (((Below.refl w.heap.size w).alloc (Nat.le_refl _) o).frozen (World.block_lt_of_cell? _ _ h)).trans hf
theorem keeps_below {W W' : World} (h : Below W.heap.size W W') : KeepsOthers W W' := ⟨h.size, fun k o hk _ => (h.block k (Array.getElem?_eq_some_iff.1 hk).1).trans hk⟩
theorem keeps_grow {α : Type} {E : Rd α} {sz : Nat} {T : Nat → Prop} {W w' : World} {base : Nat} {e : TypeId} {v : Value} {l : List α} (hG : Grow E sz T W base e v l) (hg : W.grownBy w' v.ownBlock) : KeepsOthers W w' := by
  refine ⟨hg.size, fun k o hk ho => (hg.block k (Array.getElem?_eq_some_iff.1 hk).1 fun hh => ?_).trans hk⟩
  obtain ⟨css, hl, hown, _⟩ := hG
  rcases hown.2 with ⟨rfl, _⟩ | ⟨gb, cap, cur, rfl, hb, hgg, _⟩
  · simp [Value.ownBlock] at hh
  · simp only [Value.ownBlock, Option.some.injEq] at hh
    subst hh
    rw [hgg] at hk
    injection hk with hk
    subst hk
    cases ho
theorem atm_info : (Tryz.prog.info? 49).map (fun i => (i.zero, i.size, i.bytes)) = some (some (.agg #[.string { data := #[] }, .int .i64 0, .string { data := #[] }]), 3, 40) := by kernel_rfl
theorem rparse_atm (s : ByteArray) (w : World) (hs : s.size ≤ 65536) (E : EnvR w) : Calls Tryz.prog 121 #[.string s] w fun e w' => e = .returned (.tuple #[.agg #[.string (atmOf (B s)).n, .int .i64 (atmOf (B s)).o, .string (atmOf (B s)).v], .int .i64 (relE (B s))]) ∧ Below w.heap.size w w' := rparse_any s w hs E
theorem grp_snoc (l : List (List Nat)) (x : List Nat) : errF (l ++ [x]) = if errF l = 0 then relE x else errF l := by
  rw [errF_app]
  have : errF [x] = relE x := by unfold errF; split; rename_i h; rw [h]; rfl; rfl
  rw [this]
theorem errF_prefix {p l : List (List Nat)} (h : p <+: l) (he : errF p ≠ 0) : errF l = errF p := by
  obtain ⟨r, rfl⟩ := h
  rw [errF_app, if_neg he]
def grpL (s : List Nat) : List Atm := if errF (grpT s) = 0 then (grpT s).map atmOf else []
set_option maxHeartbeats 4000000 in
theorem parseGroup_any (s : ByteArray) (w : World) (hs : s.size ≤ 65536) (E : EnvR w) :
    Calls Tryz.prog 87 #[.string s] w fun e w' => (∃ v, e = .returned (.tuple #[v, .int .i64 (errF (grpT (B s)))]) ∧ rdAtms w' (fun b => b < w'.heap.size ∧ w.heap.size ≤ b) (grpL (B s)) [v]) ∧ Below w.heap.size w w' := by
  obtain ⟨i0, hi, hz0, hz1, hz2⟩ := info_parts atm_info
  have hpl : (ptsL 124 (B s)).length ≤ 65537 := by
    unfold ptsL
    rw [List.length_map, cutBy_len]
    have := List.count_le_length (a := 124) (l := B s)
    rw [B_len] at this; omega
  have HE := Lib.hid E
  clear E
  refine (callsIn_wide (n := 5)).1 ?_
  refine callsIn_of_wp_marks Tryz.func87 rfl trivial ?_ rfl
  simp only [Tryz.ntmps87, List.size_toArray, List.length_cons, List.length_nil, Nat.reduceAdd, Nat.reduceSub, Array.replicate_succ, Array.replicate_zero, List.push_toArray, List.append_toArray, List.nil_append, List.cons_append]
  gi_wp2_with fail
  refine ⟨trivial, ?_⟩
  refine (callsIn_wide.2 (pieces_any _ _ _)).mono ?_
  rintro e w2 ⟨rfl, rfl⟩
  obtain ⟨W0, hW0⟩ : ∃ W0, ((((w.alloc (.cells #[.slice none 0 0] 54)).alloc (.cells #[.int .i64 0] 37)).alloc (.cells #[.slice none 0 0] 54)).alloc (.cells #[.string s] 9)).alloc (.cells #[.string { data := #[124] }] 9) = W0 := ⟨_, rfl⟩
  have c0 : W0.cell? ⟨w.heap.size, 0, none⟩ = some (.slice none 0 0) := by rw [← hW0]; simp [go_sem]
  have f0 : W0.frozen? ⟨w.heap.size, 0, none⟩ = false := by rw [← hW0]; simp [go_sem]
  have c1 : W0.cell? ⟨w.heap.size + 1, 0, none⟩ = some (.int .i64 0) := by rw [← hW0]; simp [go_sem]
  have f1 : W0.frozen? ⟨w.heap.size + 1, 0, none⟩ = false := by rw [← hW0]; simp [go_sem]
  have c2 : W0.cell? ⟨w.heap.size + 1 + 1, 0, none⟩ = some (.slice none 0 0) := by rw [← hW0]; simp [go_sem]
  have f2 : W0.frozen? ⟨w.heap.size + 1 + 1, 0, none⟩ = false := by rw [← hW0]; simp [go_sem]
  have c3 : W0.cell? ⟨w.heap.size + 1 + 1 + 1, 0, none⟩ = some (.string s) := by rw [← hW0]; simp [go_sem]
  have c4 : W0.cell? ⟨w.heap.size + 1 + 1 + 1 + 1, 0, none⟩ = some (.string { data := #[124] }) := by rw [← hW0]; simp [go_sem]
  have z0 : W0.heap.size = w.heap.size + 5 := by rw [← hW0]; simp
  have hB0 : Below w.heap.size w W0 := by rw [← hW0]; exact (((((Below.refl _ w).alloc (Nat.le_refl _) _).alloc (by simp) _).alloc (by simp; omega) _).alloc (by simp; omega) _).alloc (by simp; omega) _
  simp only [World.size_alloc]
  rw [hW0]
  clear hW0
  have Z0 := Lib.hid z0
  have zz := hB0.size
  have hbm : w.heap.size + 1 + 1 + 1 + 1 < W0.heap.size := by omega
  clear z0
  gi_wp2
  refine wpIn_rangeFunc_ownG rfl (by omega) (gf := 118) (lb := #[.pointer (some ⟨w.heap.size + 1 + 1 + 1, 0, none⟩), .pointer (some ⟨w.heap.size + 1 + 1 + 1 + 1, 0, none⟩)]) rfl trivial (enters_of Tryz.func118 (by kernel_rfl) rfl)
    (pieces_stops w HE.out.env _ (by omega) (w.heap.size + 1 + 1 + 1) (w.heap.size + 1 + 1 + 1 + 1) s 124 hs W0 hB0 c3 c4) kpM_t (kpM_b zz hbm) (Below.refl _ _) (fun _ => rfl)
    (fun pre W => ((∃ v, W.cell? ⟨w.heap.size + 1 + 1, 0, none⟩ = some v ∧ W.frozen? ⟨w.heap.size + 1 + 1, 0, none⟩ = false ∧ Grow rdAtm 3 (fun b => W0.heap.size ≤ b) W W0.heap.size 49 v ((pre.map pcB).map atmOf)) ∧ (errF (pre.map pcB) = 0 ∧
      W.cell? ⟨w.heap.size, 0, none⟩ = some (.slice none 0 0) ∧ W.frozen? ⟨w.heap.size, 0, none⟩ = false ∧ W.cell? ⟨w.heap.size + 1, 0, none⟩ = some (.int .i64 0) ∧ W.frozen? ⟨w.heap.size + 1, 0, none⟩ = false ∧ W0.heap.size ≤ W.heap.size)) ∧ Below w.heap.size w W)
    (fun c pre W => (c = .ret ∧ errF (pre.map pcB) ≠ 0 ∧ W.cell? ⟨w.heap.size, 0, none⟩ = some (.slice none 0 0) ∧ W.cell? ⟨w.heap.size + 1, 0, none⟩ = some (.int .i64 (errF (pre.map pcB)))) ∧ Below w.heap.size w W)
    (OwnFrom.and (Own.from (fun s A B row hs hg hr => ⟨by obtain ⟨⟨v, h1, h2, h3⟩, _⟩ := hs; exact ⟨v, cell_kept h1 hg hr, (frozen_kept h1 hg hr).trans h2, h3.turn rdAtm_good hg hr⟩, hs.2.1, cell_kept hs.2.2.1 hg hr, (frozen_kept hs.2.2.1 hg hr).trans hs.2.2.2.1, cell_kept hs.2.2.2.2.1 hg hr, (frozen_kept hs.2.2.2.2.1 hg hr).trans hs.2.2.2.2.2.1, Nat.le_trans hs.2.2.2.2.2.2 hg.size⟩) _) (ownFrom_below (Nat.le_refl _) zz))
    (fun c => OwnFrom.and (Own.from (fun s A B row hs hg hr => ⟨hs.1, hs.2.1, cell_kept hs.2.2.1 hg hr, cell_kept hs.2.2.2 hg hr⟩) _) (ownFrom_below (Nat.le_refl _) zz))
    ⟨⟨⟨_, c2, f2, Grow.nil _ _ _ _⟩, rfl, c0, f0, c1, f1, Nat.le_refl _⟩, hB0⟩
    (fun x => { tmps := #[.string s, undef, .pointer (some ⟨w.heap.size, 0, none⟩), .pointer (some ⟨w.heap.size + 1, 0, none⟩), .pointer (some ⟨w.heap.size + 1 + 1, 0, none⟩), .string x.1, undef, undef, .string s, .func (.func 118) #[] #[.pointer (some ⟨w.heap.size + 1 + 1 + 1, 0, none⟩), .pointer (some ⟨w.heap.size + 1 + 1 + 1 + 1, 0, none⟩)], .string x.1, undef, undef, undef, undef, undef, undef, undef, undef, undef, undef, undef, undef, undef], defers := [] }) ?assign ?body ?done ?stop
  case assign =>
    intro l x W K hK
    gi_wp2
    exact hK
  case body =>
    rintro l pre x W ⟨⟨⟨v, hv, hvf, hG⟩, hp, hc0, hf0, hc1, hf1, hsz⟩, hB⟩ hlen
    have K := Lib.hid (rparse_atm x.1 W x.2 (HE.out.below hB))
    have hsn := grp_snoc (pre.map pcB) (pcB x)
    rw [if_pos hp] at hsn
    have HSN := Lib.hid hsn
    have HP := Lib.hid hp
    have HG := Lib.hid hG
    have HB := Lib.hid hB
    clear hsn hp hB
    have hln : pre.length ≤ 65537 := Nat.le_trans (Nat.le_of_lt hlen) hpl
    obtain ⟨a, ha⟩ : ∃ a, a = atmOf (B x.1) := ⟨_, rfl⟩
    have HA := Lib.hid ha
    rw [← ha] at K
    clear ha
    obtain ⟨ee, he⟩ : ∃ ee, ee = relE (B x.1) := ⟨_, rfl⟩
    have HEE := Lib.hid he
    rw [← he] at K
    clear he
    by_cases h0 : ee = 0
    · have hq : (ee != 0) = false := by rw [h0]; rfl
      have H0 := Lib.hid h0
      clear h0
      gi_wp2_with fail
      refine ⟨trivial, ?_⟩
      refine (CallsIn.inRound l (callsIn_wide.2 K.out)).mono ?_
      rintro e W1 ⟨rfl, hb1⟩
      have hz1' := hb1.size
      have hzW := HB.out.size
      have hlt0 := World.block_lt_of_cell? _ _ hc0
      have hlt1 := World.block_lt_of_cell? _ _ hc1
      have hlt2 := World.block_lt_of_cell? _ _ hv
      have d0 := cell_al (.cells #[.string a.n, .int .i64 a.o, .string a.v] 49) ((hb1.cell hlt0).trans hc0)
      have d1 := cell_al (.cells #[.string a.n, .int .i64 a.o, .string a.v] 49) ((hb1.cell hlt1).trans hc1)
      have d2 := cell_al (.cells #[.string a.n, .int .i64 a.o, .string a.v] 49) ((hb1.cell hlt2).trans hv)
      have g0 := fr_al (.cells #[.string a.n, .int .i64 a.o, .string a.v] 49) ((hb1.cell hlt0).trans hc0) ((hb1.frozen (p := ⟨w.heap.size, 0, none⟩) hlt0).trans hf0)
      have g1 := fr_al (.cells #[.string a.n, .int .i64 a.o, .string a.v] 49) ((hb1.cell hlt1).trans hc1) ((hb1.frozen (p := ⟨w.heap.size + 1, 0, none⟩) hlt1).trans hf1)
      have g2 := fr_al (.cells #[.string a.n, .int .i64 a.o, .string a.v] 49) ((hb1.cell hlt2).trans hv) ((hb1.frozen (p := ⟨w.heap.size + 1 + 1, 0, none⟩) hlt2).trans hvf)
      have HB1 := Lib.hid hb1
      clear hc0 hc1 hf0 hf1 hv hvf hlt0 hlt1 hlt2
      have hG2 := (hG.below rdAtm_good hb1).alloc rdAtm_good (.cells #[.string a.n, .int .i64 a.o, .string a.v] 49)
      have hE := (show rdAtm (W1.alloc (.cells #[.string a.n, .int .i64 a.o, .string a.v] 49)) (fun b => W0.heap.size ≤ b ∧ b < (W1.alloc (.cells #[.string a.n, .int .i64 a.o, .string a.v] 49)).heap.size ∧ v.ownBlock ≠ some b) a (#[Value.string a.n, .int .i64 a.o, .string a.v] : Array Value).toList from rfl)
      have hn1 : ((pre.map pcB).map atmOf).length + 1 ≤ maxLen := by rw [List.length_map, List.length_map]; unfold maxLen; omega
      have hn2 : (((pre.map pcB).map atmOf).length + 1) * 40 ≤ 140737488355328 := by rw [List.length_map, List.length_map]; omega
      have hbs : W0.heap.size ≤ (W1.alloc (.cells #[.string a.n, .int .i64 a.o, .string a.v] 49)).heap.size := by rw [World.size_alloc]; omega
      have HN := Lib.hid (World.size_alloc W1 (.cells #[.string a.n, .int .i64 a.o, .string a.v] 49)).symm
      clear hG hb1
      gi_wp2_with (gi_at_builtin; refine wpListIn_grow1 (W1.alloc (.cells #[.string a.n, .int .i64 a.o, .string a.v] 49)) rfl _ _ 54 rfl rdAtm_good (by decide) (fun b => W0.heap.size ≤ b) W0.heap.size 49 i0 _ 40 Tryz.underlying54 hi hz0 hz1 hz2 rfl v _ rfl hG2 a _ 49 hE _ HN.out rfl hn1 hn2 hbs ?_)
      intro v' w' hG' hgr
      have e0 := (World.cell?_of_block (a := ⟨w.heap.size, 0, none⟩) (heap_grow hG2 hgr (k := w.heap.size) (by omega) hbs)).trans d0
      have e1 := (World.cell?_of_block (a := ⟨w.heap.size + 1, 0, none⟩) (heap_grow hG2 hgr (k := w.heap.size + 1) (by omega) hbs)).trans d1
      have e2 := (World.cell?_of_block (a := ⟨w.heap.size + 1 + 1, 0, none⟩) (heap_grow hG2 hgr (k := w.heap.size + 1 + 1) (by omega) hbs)).trans d2
      have j0 := (World.frozen?_of_block (a := ⟨w.heap.size, 0, none⟩) (heap_grow hG2 hgr (k := w.heap.size) (by omega) hbs)).trans g0
      have j1 := (World.frozen?_of_block (a := ⟨w.heap.size + 1, 0, none⟩) (heap_grow hG2 hgr (k := w.heap.size + 1) (by omega) hbs)).trans g1
      have j2 := (World.frozen?_of_block (a := ⟨w.heap.size + 1 + 1, 0, none⟩) (heap_grow hG2 hgr (k := w.heap.size + 1 + 1) (by omega) hbs)).trans g2
      have hM := (heap_grow hG2 hgr (k := w.heap.size + 1 + 1 + 1 + 1) (by omega) hbs)
      have KO := Lib.hid (((keeps_below HB1.out).trans (KeepsOthers.alloc _ _)).trans (keeps_grow hG2 hgr))
      have BB := Lib.hid (grow_below hG2 hgr ((bel2 HB.out HB1.out (Nat.le_refl _)).alloc (by omega) (.cells #[.string a.n, .int .i64 a.o, .string a.v] 49)) zz (by rw [World.size_alloc]; omega))
      have SZ := Lib.hid hgr.size
      have BB2 := Lib.hid (grow_below hG2 hgr (Below.refl w.heap.size (W1.alloc (.cells #[.string a.n, .int .i64 a.o, .string a.v] 49))) zz (by rw [World.size_alloc]; omega))
      have GG := Lib.hid hG'
      have MM := Lib.hid (show w'.heap[w.heap.size + 1 + 1 + 1 + 1]? = W.heap[w.heap.size + 1 + 1 + 1 + 1]? from hM.trans ((Below.heap_alloc _ _ _ (by omega)).trans (HB1.out.block _ (by omega))))
      obtain ⟨A', cp', hv', _, _⟩ := hG'.own
      simp only [List.length_append, List.length_map, List.length_singleton] at hv'
      clear hG' hgr hG2 hE d0 d1 d2 g0 g1 g2 hM
      subst hv'
      have LX := Lib.hid (show ((pre ++ [x]).map pcB).map atmOf = (pre.map pcB).map atmOf ++ [a] by rw [HA.out]; simp [pcB])
      gi_wp2
      refine ⟨(KO.out.trans (KeepsOthers.setCell _ _ _)).from _, ⟨?_, ?_⟩, ⟨⟨.slice A' (pre.length + 1) cp', ?_, ?_, ?_⟩, ?_, ?_, ?_, ?_, ?_, ?_⟩, ?_⟩
      · rw [heap_setCell_other _ _ _ _ (by simp only; omega)]; exact MM.out
      · exact (((HB1.out.mono (show w.heap.size ≤ W.heap.size by omega)).alloc (by omega) (.cells #[.string a.n, .int .i64 a.o, .string a.v] 49)).trans (BB2.out)).setCell (p := ⟨w.heap.size + 1 + 1, 0, none⟩) (by simp; omega) _
      · exact World.cell?_setCell_same' _ _ _ (by rw [e2]; rfl)
      · rw [World.frozen?_setCell]; exact j2
      · rw [LX.out, List.map_map]; exact GG.out.setCell rdAtm_good (p := ⟨w.heap.size + 1 + 1, 0, none⟩) (by simp only; omega) (by simp only; omega) _
      · rw [List.map_append, List.map_singleton, HSN.out, ← H0.out, HEE.out]; rfl
      · rw [World.cell?_setCell_other _ _ _ _ (ne_blk (by omega))]; exact e0
      · rw [World.frozen?_setCell]; exact j0
      · rw [World.cell?_setCell_other _ _ _ _ (ne_blk (by omega))]; exact e1
      · rw [World.frozen?_setCell]; exact j1
      · have := SZ.out; simp at this ⊢; omega
      · exact BB.out.setCell (p := ⟨w.heap.size + 1 + 1, 0, none⟩) (by simp; omega) _
    · have hq : (ee != 0) = true := by rw [bne_iff_ne]; exact h0
      have H0 := Lib.hid h0
      clear h0
      gi_wp2_with fail
      refine ⟨trivial, ?_⟩
      refine (CallsIn.inRound l (callsIn_wide.2 K.out)).mono ?_
      rintro e W1 ⟨rfl, hb1⟩
      have d0 := (hb1.cell (World.block_lt_of_cell? _ _ hc0)).trans hc0
      have d1 := (hb1.cell (World.block_lt_of_cell? _ _ hc1)).trans hc1
      have g0 := (hb1.frozen (p := ⟨w.heap.size, 0, none⟩) (World.block_lt_of_cell? _ _ hc0)).trans hf0
      have g1 := (hb1.frozen (p := ⟨w.heap.size + 1, 0, none⟩) (World.block_lt_of_cell? _ _ hc1)).trans hf1
      have HB1 := Lib.hid hb1
      clear hc0 hc1 hf0 hf1 hb1 hv hvf
      have k0 := cell_al (.cells #[.string a.n, .int .i64 a.o, .string a.v] 49) d0
      have k1 := cell_al (.cells #[.string a.n, .int .i64 a.o, .string a.v] 49) d1
      have n0 := fr_al (.cells #[.string a.n, .int .i64 a.o, .string a.v] 49) d0 g0
      have n1 := fr_al (.cells #[.string a.n, .int .i64 a.o, .string a.v] 49) d1 g1
      gi_wp2
      obtain ⟨r0, r1⟩ := two_sets (p := ⟨w.heap.size, 0, none⟩) (q := ⟨w.heap.size + 1, 0, none⟩) (by simp) (.slice none 0 0) (.int .i64 ee) k0 k1
      have hz1 := HB1.out.size
      have hzW := HB.out.size
      exact ⟨((((keeps_below HB1.out).trans (KeepsOthers.alloc _ _)).trans (KeepsOthers.setCell _ _ _)).trans (KeepsOthers.setCell _ _ _)).from _, ⟨rfl, by rw [List.map_append, List.map_singleton, HSN.out]; exact HEE.out ▸ H0.out, r0, by rw [List.map_append, List.map_singleton, HSN.out, r1, HEE.out]; rfl⟩,
        (((bel2 HB.out HB1.out (Nat.le_refl _)).alloc (by omega) _).setCell (p := ⟨w.heap.size, 0, none⟩) (by simp) _).setCell (p := ⟨w.heap.size + 1, 0, none⟩) (by simp) _⟩
  case done =>
    rintro D ys W hD hS ⟨⟨⟨v, hv, hvf, hG⟩, hp, hc0, hf0, hc1, hf1, hsz⟩, hB⟩ hK
    have X := Lib.hid (show grpL (B s) = (ys.map pcB).map atmOf by unfold grpL; rw [show grpT (B s) = ys.map pcB from hS.symm, if_pos hp])
    have X0 := Lib.hid (show errF (grpT (B s)) = 0 by rw [show grpT (B s) = ys.map pcB from hS.symm, hp])
    obtain ⟨A', cp', hv', _, _⟩ := hG.own
    simp only [List.length_map] at hv'
    have GG := Lib.hid hG
    clear hG hS hp
    subst hv'
    gi_wp2
    obtain ⟨r0, r1⟩ := two_sets (p := ⟨w.heap.size, 0, none⟩) (q := ⟨w.heap.size + 1, 0, none⟩) (by simp) (.slice A' ys.length cp') (.int .i64 0) hc0 hc1
    have hK' := ((KeepsOthers.setCell W ⟨w.heap.size, 0, none⟩ (.slice A' ys.length cp')).trans (KeepsOthers.setCell _ ⟨w.heap.size + 1, 0, none⟩ (.int .i64 0))).same D _ hK rfl
    refine ⟨by simp, .inl ⟨_, _, rfl, run_takeDeferred hK', ?_⟩⟩
    have h0 := cell_kept r0 (grownBy_putObj' _ D (.deferred none)) (fun r e => by cases e; exact ⟨_, hK', rfl⟩)
    have h1 := cell_kept r1 (grownBy_putObj' _ D (.deferred none)) (fun r e => by cases e; exact ⟨_, hK', rfl⟩)
    have G2 := ((GG.out.setCell rdAtm_good (p := ⟨w.heap.size, 0, none⟩) (by simp only; omega) (by simp only; omega) (.slice A' ys.length cp')).setCell rdAtm_good (p := ⟨w.heap.size + 1, 0, none⟩) (by simp only; omega) (by simp only; omega) (.int .i64 0)).turn rdAtm_good (grownBy_putObj' _ D (.deferred none)) (fun r e => by cases e; exact ⟨_, hK', rfl⟩)
    refine ⟨.tuple #[.slice A' ys.length cp', .int .i64 0], ?_, ⟨.slice A' ys.length cp', by rw [X0.out], ?_⟩, ((hB.setCell (p := ⟨w.heap.size, 0, none⟩) (by simp) _).setCell (p := ⟨w.heap.size + 1, 0, none⟩) (by simp) _).trans (belowK_b (w := w) (Nat.le_refl _) _ D _ _ (by omega) hK' rfl rfl)⟩
    · simp [results, Tryz.f87, go_sem, h0, h1]
    · rw [X.out]; exact rdAtms_good.more (G2.reads rdAtm_good) fun b hb => ⟨hb.1, by rcases hb.2 with h | h <;> omega⟩
  case stop =>
    rintro D c pre W hD hpre ⟨⟨rfl, hin, hc0, hc1⟩, hB⟩ hK
    have X0 := Lib.hid (errF_prefix hpre hin)
    gi_wp2
    refine ⟨by simp, .inl ⟨_, _, rfl, run_takeDeferred hK, ?_⟩⟩
    have h0 := cell_kept hc0 (grownBy_putObj' _ D (.deferred none)) (fun r e => by cases e; exact ⟨_, hK, rfl⟩)
    have h1 := cell_kept hc1 (grownBy_putObj' _ D (.deferred none)) (fun r e => by cases e; exact ⟨_, hK, rfl⟩)
    refine ⟨.tuple #[.slice none 0 0, .int .i64 (errF (pre.map pcB))], ?_, ⟨.slice none 0 0, by rw [← X0.out]; try rfl, ?_⟩, hB.trans (belowK_b (w := w) (Nat.le_refl _) W D _ _ (by omega) hK rfl rfl)⟩
    · simp [results, Tryz.f87, go_sem, h0, h1]
    · have : grpL (B s) = [] := by unfold grpL; rw [if_neg (show errF (grpT (B s)) ≠ 0 from by show errF (ptsL (UInt8.toNat 124) (B s)) ≠ 0; rw [X0.out]; exact hin)]
      rw [this]; exact rdRow_nil _ _
end Go.Proofs.YtmlakjemgmeffaaGreatDoor
