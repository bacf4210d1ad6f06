/- The contract of the program's Print of entries. Conditions: what the library's variables hold; at most 1000 entries. -/
import Derived.Test.YtmlakjemgmeffaaGreatDoorP6dY
import Derived.Test.YtmlakjemgmeffaaGreatDoorQAH
import Derived.Test.YtmlakjemgmeffaaGreatDoorS5k5Y
set_option maxRecDepth 100000
set_option linter.unusedVariables false
set_option linter.unusedSimpArgs false
namespace Go.Proofs.YtmlakjemgmeffaaGreatDoor
open Go.RowKit
theorem wth_names {l : List Fd} {n v : ByteArray} {N : Nat} (h : ∀ f ∈ l, f.n.size ≤ N) (hn : n.size ≤ N) : ∀ f ∈ wth l n v, f.n.size ≤ N := by
  unfold wth
  split
  · exact h
  · intro f hf
    rcases List.mem_append.1 hf with hf | hf
    · exact h f hf
    · rw [List.mem_singleton.1 hf]; exact hn
theorem wrE_names (x : Ent) : ∀ f ∈ wrE x, f.n.size ≤ 10 := by
  unfold wrE
  split
  · unfold wr4 wr3 wr2 wr1
    refine wth_names (wth_names (wth_names (wth_names ?_ (by decide)) (by decide)) (by decide)) (by decide)
    intro f hf
    simp only [wr0, List.mem_cons, List.not_mem_nil, or_false] at hf
    rcases hf with rfl | rfl <;> exact (by decide : (7 : Nat) ≤ 10)
  · intro f hf; cases hf
theorem wrE_len (x : Ent) : (wrE x).length ≤ 1000 := by
  unfold wrE
  split
  · exact Nat.le_trans (wr_len x).2.2.2.2 (by decide)
  · exact Nat.zero_le _
theorem EnvR.five {w : World} (E : EnvR w) : Env5 w := E.env.max
set_option maxHeartbeats 16000000 in
theorem eprint_any (A : Option Addr) (m cc : Nat) (l : List Ent) (w : World) (h : rdEnts w (lt_ w.heap.size) l [.slice A m cc]) (E : EnvR w) :
    Calls Tryz.prog 15 #[.slice A m cc] w fun e w' => e = .returned (.string (prE prP l)) ∧ Below w.heap.size w w' := by
  obtain ⟨rfl, hnc, hcm, -⟩ := rdEnts_at h
  have hcm' : cc ≤ 9223372036854775807 := hcm
  obtain ⟨fi, hi, hz0, hz1, hz2⟩ := info_parts stz_info
  have HE := Lib.hid E
  have H := Lib.hid h
  clear h hcm E
  by_cases g64 : (64 : Int) < (l.length : Int)
  · have X := Lib.hid (show prE prP l = { data := #[] } from if_neg fun hh => by have := hh.2; omega)
    go_enter Tryz.func15, Tryz.ntmps15
    go_wp2
    go_ret
    exact ⟨by rw [X.out]; try rfl, Below.refl _ _⟩
  go_enter Tryz.func15, Tryz.ntmps15
  go_wp2
  go_loopw [3, 4, 5, 11] (fun v _ _ i wr => ∃ k : Nat, k ≤ l.length ∧ i = .int .i64 k ∧ okPk l k = true ∧ Grow rdFds 1 (fun _ => True) wr w.heap.size 32 v ((l.take k).map wrE) ∧ Below w.heap.size w wr) (fun _ _ _ i _ => l.length - (intOf i).toNat)
  case atStart => exact ⟨0, Nat.zero_le _, rfl, rfl, Grow.nil _ _ _ _, Below.refl _ _⟩
  case round =>
    obtain ⟨k, hk, rfl, hok, hG, hbel⟩ := hrel
    have HB := Lib.hid hbel
    have HG := Lib.hid hG
    have HO := Lib.hid hok
    clear hok hG
    by_cases hlt : k < l.length
    · have HR := Lib.hid (rdEnts_good.up (rdEnts_good.below H.out hbel) hbel.size)
      obtain ⟨-, -, -, hat⟩ := rdEnts_at HR.out
      obtain ⟨ad, A1, c1, A2, c2, A3, c3, A4, c4, rfl, had, hv, h0, h1, h2, h3, h4, h5⟩ := hat k hlt
      have i0 : (0 : Int) ≤ (k : Int) := by omega
      have i1 : (k : Int) < (l.length : Int) := by omega
      have i2 : (k : Int) ≤ (cc : Int) := by omega
      have i3 : k ≤ cc := by omega
      have i4 : (k : Int) ≤ (l.length : Int) := by omega
      have OS := Lib.hid (okPk_step (l := l) hlt)
      have TS := Lib.hid (take_snoc wrE l k hlt)
      have HTK := Lib.hid (fun (W : World) (hb : Below wr.heap.size wr W) => rdEnts_take (rdEnts_good.up (rdEnts_good.below HR.out hb) hb.size) hk)
      clear had hat hbel
      have HX := Lib.hid (fun (W : World) (hb : Below wr.heap.size wr W) => hv.on hb)
      clear hv
      generalize l[k] = x at *
      obtain ⟨V3, hV3⟩ : ∃ V3, V3 = (wr.alloc (.cells #[.string x.n, .string x.v, .slice A1 x.d.length c1, .slice A2 x.r.length c2, .slice A3 x.c.length c3, .slice A4 x.p.length c4] 25)).drew := ⟨_, rfl⟩
      have bv : Below wr.heap.size wr V3 := by rw [hV3]; exact belD ((Below.refl _ _).alloc (Nat.le_refl _) _) 1
      have BV := Lib.hid bv
      have BWV := Lib.hid (HB.out.trans (bv.mono HB.out.size))
      have KRt := Lib.hid (fun (W : World) (hb : Below V3.heap.size V3 W) => eright_any x A1 c1 A2 c2 A3 c3 A4 c4 W (HX.out W (BV.out.trans (hb.mono BV.out.size))) (HE.out.below (BWV.out.trans (hb.mono BWV.out.size))))
      have KT := Lib.hid (fun (W : World) (hb : Below V3.heap.size V3 W) => among6_any (some ad) k cc (l.take k) x A1 c1 A2 c2 A3 c3 A4 c4 W (HTK.out W (BV.out.trans (hb.mono BV.out.size))))
      have KW := Lib.hid (fun (W : World) (hb : Below V3.heap.size V3 W) => ewrite_any x A1 c1 A2 c2 A3 c3 A4 c4 W (HX.out W (BV.out.trans (hb.mono BV.out.size))) (HE.out.below (BWV.out.trans (hb.mono BWV.out.size))))
      have WL := Lib.hid (show (wrE x).length ≤ 1000 from wrE_len x)
      generalize thB (l.take k) x = bt at *
      generalize rgtE x = br at *
      generalize wrE x = wx at *
      obtain ⟨xn, xv, xd, xr, xc, xp⟩ := x
      simp only at h0 h1 h2 h3 h4 h5 hV3
      have KS := Lib.hid (fun (W : World) (hb : Below V3.heap.size V3 W) => (show W.cell? ⟨wr.heap.size, 0, none⟩ = some (.string xn) ∧ W.cell? ⟨wr.heap.size, 1, none⟩ = some (.string xv) ∧ W.cell? ⟨wr.heap.size, 2, none⟩ = some (.slice A1 xd.length c1) ∧ W.cell? ⟨wr.heap.size, 3, none⟩ = some (.slice A2 xr.length c2) ∧ W.cell? ⟨wr.heap.size, 4, none⟩ = some (.slice A3 xc.length c3) ∧ W.cell? ⟨wr.heap.size, 5, none⟩ = some (.slice A4 xp.length c4) from by
        refine ⟨?_, ?_, ?_, ?_, ?_, ?_⟩ <;> exact keep6 hb (by rw [hV3]; simp [go_sem])))
      clear bv
      cases br
      · have X := Lib.hid (show prE prP l = { data := #[] } from if_neg fun hh => by rw [okPk_stop (OS.out.trans (by rw [HO.out]; rfl)) l.length (by omega)] at hh; exact absurd hh.1 (by decide))
        go_wp2_with fail
        refine wp_region_noPanic ?_
        refine wp_region_L (fun W => W.cell? ⟨wr.heap.size, 0, none⟩ = some (.string xn) ∧ W.cell? ⟨wr.heap.size, 1, none⟩ = some (.string xv) ∧ W.cell? ⟨wr.heap.size, 2, none⟩ = some (.slice A1 xd.length c1) ∧ W.cell? ⟨wr.heap.size, 3, none⟩ = some (.slice A2 xr.length c2) ∧ W.cell? ⟨wr.heap.size, 4, none⟩ = some (.slice A3 xc.length c3) ∧ W.cell? ⟨wr.heap.size, 5, none⟩ = some (.slice A4 xp.length c4)) 9 (by kernel_rfl) (by rw [← hV3]; exact KS.out V3 (Below.refl _ _)) (fun hHeld => ?_)
        rw [← hV3] at hHeld ⊢
        clear hV3
        refine wpAnyL_take (i := 0) (v := ?_) [3, 2, 1] rfl (by kernel_rfl) (by kernel_rfl) (by kernel_rfl) (fun _ _ _ h => h) (by kernel_rfl) (by kernel_rfl) (by kernel_rfl) (Or.inl ⟨by rfl, ?_⟩) (by assumption) ?_
        rotate_left
        · intro w hSw
          try dsimp only at hSw
          go_simp
          first | done | with_reducible rfl
        try simp only [Act.put, List.setIfInBounds_toArray, List.set_cons_zero, List.set_cons_succ]
        refine wpAnyL_one (i := 1) (by kernel_rfl) rfl (fun K hK => ?_)
        go_simp
        refine (KRt.out V3 (Below.refl _ _)).mono ?_
        rintro e w4 ⟨rfl, hb4⟩
        have HB4 := Lib.hid hb4
        clear hb4
        go_wp2_with fail
        refine hK.out _ _ (KS.out _ HB4.out) (fun hHeld => ?_)
        clear hK K
        try simp only [Act.put, List.setIfInBounds_toArray, List.set_cons_zero, List.set_cons_succ]
        refine wpAnyL_one (i := 2) (by kernel_rfl) rfl (fun K hK => ?_)
        go_simp
        refine hK.out _ _ (KS.out _ HB4.out) (fun hHeld => ?_)
        clear hK K
        try simp only [Act.put, List.setIfInBounds_toArray, List.set_cons_zero, List.set_cons_succ]
        refine wpAnyL_one (i := 3) (by kernel_rfl) rfl (fun K hK => ?_)
        go_simp
        refine hK.out _ _ (KS.out _ HB4.out) (fun hHeld => ?_)
        clear hK K
        try simp only [Act.put, List.setIfInBounds_toArray, List.set_cons_zero, List.set_cons_succ]
        refine wpAnyL_take (i := 4) (v := undef) [8, 6] rfl (by kernel_rfl) (by kernel_rfl) (by kernel_rfl) (fun _ _ _ h => h) (by kernel_rfl) (by kernel_rfl) (by kernel_rfl) (Or.inr ⟨by rfl, by rfl⟩) (by assumption) ?_
        try simp only [Act.put, List.setIfInBounds_toArray, List.set_cons_zero, List.set_cons_succ]
        refine wpAnyL_take (i := 5) (v := undef) [8, 6] rfl (by kernel_rfl) (by kernel_rfl) (by kernel_rfl) (fun _ _ _ h => h) (by kernel_rfl) (by kernel_rfl) (by kernel_rfl) (Or.inr ⟨by rfl, by rfl⟩) (by assumption) ?_
        try simp only [Act.put, List.setIfInBounds_toArray, List.set_cons_zero, List.set_cons_succ]
        refine wpAnyL_take (i := 6) (v := undef) [8] rfl (by kernel_rfl) (by kernel_rfl) (by kernel_rfl) (fun _ _ _ h => h) (by kernel_rfl) (by kernel_rfl) (by kernel_rfl) (Or.inr ⟨by rfl, by rfl⟩) (by assumption) ?_
        try simp only [Act.put, List.setIfInBounds_toArray, List.set_cons_zero, List.set_cons_succ]
        refine wpAnyL_take (i := 7) (v := undef) [8] rfl (by kernel_rfl) (by kernel_rfl) (by kernel_rfl) (fun _ _ _ h => h) (by kernel_rfl) (by kernel_rfl) (by kernel_rfl) (Or.inr ⟨by rfl, by rfl⟩) (by assumption) ?_
        try simp only [Act.put, List.setIfInBounds_toArray, List.set_cons_zero, List.set_cons_succ]
        refine wpAnyL_one (i := 8) (by kernel_rfl) rfl (fun K hK => ?_)
        go_simp
        refine hK.out _ _ (KS.out _ HB4.out) (fun hHeld => ?_)
        clear hK K
        try simp only [Act.put, List.setIfInBounds_toArray, List.set_cons_zero, List.set_cons_succ]
        refine wpAnyL_last (by kernel_rfl) rfl (by kernel_rfl) (fun K hK => ?_)
        go_simp
        refine hK.out _ _ ?_
        clear hK K
        refine NoPanic.normal ?_
        go_wp2
        go_ret
        exact ⟨by rw [X.out]; try rfl, BWV.out.trans (HB4.out.mono BWV.out.size)⟩
      · go_wp2_with fail
        refine wp_region_noPanic ?_
        refine wp_region_L (fun W => W.cell? ⟨wr.heap.size, 0, none⟩ = some (.string xn) ∧ W.cell? ⟨wr.heap.size, 1, none⟩ = some (.string xv) ∧ W.cell? ⟨wr.heap.size, 2, none⟩ = some (.slice A1 xd.length c1) ∧ W.cell? ⟨wr.heap.size, 3, none⟩ = some (.slice A2 xr.length c2) ∧ W.cell? ⟨wr.heap.size, 4, none⟩ = some (.slice A3 xc.length c3) ∧ W.cell? ⟨wr.heap.size, 5, none⟩ = some (.slice A4 xp.length c4)) 9 (by kernel_rfl) (by rw [← hV3]; exact KS.out V3 (Below.refl _ _)) (fun hHeld => ?_)
        rw [← hV3] at hHeld ⊢
        clear hV3
        refine wpAnyL_take (i := 0) (v := ?_) [3, 2, 1] rfl (by kernel_rfl) (by kernel_rfl) (by kernel_rfl) (fun _ _ _ h => h) (by kernel_rfl) (by kernel_rfl) (by kernel_rfl) (Or.inl ⟨by rfl, ?_⟩) (by assumption) ?_
        rotate_left
        · intro w hSw
          try dsimp only at hSw
          go_simp
          first | done | with_reducible rfl
        try simp only [Act.put, List.setIfInBounds_toArray, List.set_cons_zero, List.set_cons_succ]
        refine wpAnyL_one (i := 1) (by kernel_rfl) rfl (fun K hK => ?_)
        go_simp
        refine (KRt.out V3 (Below.refl _ _)).mono ?_
        rintro e w4 ⟨rfl, hb4⟩
        have HB4 := Lib.hid hb4
        clear hb4
        go_wp2_with fail
        refine hK.out _ _ (KS.out _ HB4.out) (fun hHeld => ?_)
        clear hK K
        try simp only [Act.put, List.setIfInBounds_toArray, List.set_cons_zero, List.set_cons_succ]
        refine wpAnyL_one (i := 2) (by kernel_rfl) rfl (fun K hK => ?_)
        go_simp
        refine hK.out _ _ (KS.out _ HB4.out) (fun hHeld => ?_)
        clear hK K
        try simp only [Act.put, List.setIfInBounds_toArray, List.set_cons_zero, List.set_cons_succ]
        refine wpAnyL_one (i := 3) (by kernel_rfl) rfl (fun K hK => ?_)
        go_simp
        refine hK.out _ _ (KS.out _ HB4.out) (fun hHeld => ?_)
        clear hK K
        try simp only [Act.put, List.setIfInBounds_toArray, List.set_cons_zero, List.set_cons_succ]
        refine wpAnyL_take (i := 4) (v := ?_) [8, 6] rfl (by kernel_rfl) (by kernel_rfl) (by kernel_rfl) (fun _ _ _ h => h) (by kernel_rfl) (by kernel_rfl) (by kernel_rfl) (Or.inl ⟨by rfl, ?_⟩) (by assumption) ?_
        rotate_left
        · intro w hSw
          try dsimp only at hSw
          go_simp
          first | done | with_reducible rfl
        try simp only [Act.put, List.setIfInBounds_toArray, List.set_cons_zero, List.set_cons_succ]
        refine wpAnyL_take (i := 5) (v := ?_) [8, 6] rfl (by kernel_rfl) (by kernel_rfl) (by kernel_rfl) (fun _ _ _ h => h) (by kernel_rfl) (by kernel_rfl) (by kernel_rfl) (Or.inl ⟨by rfl, ?_⟩) (by assumption) ?_
        rotate_left
        · intro w hSw
          try dsimp only at hSw
          go_simp
          first | done | with_reducible rfl
        try simp only [Act.put, List.setIfInBounds_toArray, List.set_cons_zero, List.set_cons_succ]
        refine wpAnyL_take (i := 6) (v := ?_) [8] rfl (by kernel_rfl) (by kernel_rfl) (by kernel_rfl) (fun _ _ _ h => h) (by kernel_rfl) (by kernel_rfl) (by kernel_rfl) (Or.inl ⟨by rfl, ?_⟩) (by assumption) ?_
        rotate_left
        · intro w hSw
          try dsimp only at hSw
          go_simp
          first | done | with_reducible rfl
        try simp only [Act.put, List.setIfInBounds_toArray, List.set_cons_zero, List.set_cons_succ]
        refine wpAnyL_take (i := 7) (v := ?_) [8] rfl (by kernel_rfl) (by kernel_rfl) (by kernel_rfl) (fun _ _ _ h => h) (by kernel_rfl) (by kernel_rfl) (by kernel_rfl) (Or.inl ⟨by rfl, ?_⟩) (by assumption) ?_
        rotate_left
        · intro w hSw
          try dsimp only at hSw
          go_simp
          first | done | with_reducible rfl
        try simp only [Act.put, List.setIfInBounds_toArray, List.set_cons_zero, List.set_cons_succ]
        refine wpAnyL_one (i := 8) (by kernel_rfl) rfl (fun K hK => ?_)
        go_simp
        refine (KT.out _ HB4.out).mono ?_
        rintro e w5 ⟨rfl, hb5⟩
        have HB5 := Lib.hid (HB4.out.trans (hb5.mono HB4.out.size))
        clear hb5
        go_wp2_with fail
        refine hK.out _ _ (KS.out _ HB5.out) (fun hHeld => ?_)
        clear hK K
        try simp only [Act.put, List.setIfInBounds_toArray, List.set_cons_zero, List.set_cons_succ]
        refine wpAnyL_last (by kernel_rfl) rfl (by kernel_rfl) (fun K hK => ?_)
        go_simp
        refine hK.out _ _ ?_
        clear hK K
        refine NoPanic.normal ?_
        cases bt
        · have NX := Lib.hid (show okPk l (k + 1) = true from OS.out.trans (by rw [HO.out]; rfl))
          obtain ⟨a0, a1, a2, a3, a4, a5⟩ := KS.out _ HB5.out
          go_wp2_with fail
          refine (KW.out w5 HB5.out).mono ?_
          rintro e w6 ⟨⟨Aw, cw, rfl, hrw⟩, hb⟩
          have V6 := Lib.hid (HB5.out.trans (hb.mono HB5.out.size))
          have W6 := Lib.hid (BV.out.trans (V6.out.mono BV.out.size))
          have G6 := Lib.hid (HG.out.below rdFds_good W6.out)
          have hs5 := Lib.hid (show wr.heap.size ≤ w5.heap.size from (BV.out.trans (HB5.out.mono BV.out.size)).size)
          have hE := (show rdFds w6 (fun b => True ∧ b < w6.heap.size ∧ u3.ownBlock ≠ some b) wx (#[.slice Aw wx.length cw] : Array Value).toList from rdFds_good.more hrw fun b hb => ⟨trivial, hb.2, fun hh => by have h8 := (HG.out.lt b hh).2; have h9 := hs5.out; have h7 := hb.1; omega⟩)
          have hlm : ((l.take k).map wrE).length = k := by rw [List.length_map, List.length_take]; omega
          have hn1 : ((l.take k).map wrE).length + 1 ≤ maxLen := by rw [hlm]; unfold maxLen; omega
          have hn2 : (((l.take k).map wrE).length + 1) * 24 ≤ 140737488355328 := by rw [hlm]; omega
          have hs4 : w.heap.size ≤ w6.heap.size := Nat.le_trans HB.out.size W6.out.size
          clear hb hrw hlm a0 a1 a2 a3 a4 a5
          go_wp2_with (at_builtin; refine wpList_grow1 w6 rfl _ _ 62 rfl rdFds_good (by decide) (fun _ => True) w.heap.size 32 fi _ 24 Tryz.underlying62 hi hz0 hz1 hz2 rfl u3 _ rfl G6.out wx _ 32 hE _ rfl rfl hn1 hn2 hs4 ?_)
          intro v7 w7 hG7 hg7
          have HB7 := Lib.hid (grow_below G6.out hg7 (HB.out.trans (W6.out.mono HB.out.size)) (Nat.le_refl _) hs4)
          have G7 := Lib.hid hG7
          clear hG7 hg7 hE
          go_wp2
          go_roundw
          case rel => exact ⟨k + 1, by omega, by go_num, NX.out, by rw [TS.out]; first | exact G7.out | (rw [List.map_take]; exact G7.out), HB7.out⟩
          case measure => simp [intOf]; omega
        · have X := Lib.hid (show prE prP l = { data := #[] } from if_neg fun hh => by rw [okPk_stop (OS.out.trans (by rw [HO.out]; rfl)) l.length (by omega)] at hh; exact absurd hh.1 (by decide))
          go_wp2
          go_ret
          exact ⟨by rw [X.out]; try rfl, BWV.out.trans (HB5.out.mono BWV.out.size)⟩
    · obtain rfl : k = l.length := by omega
      have HG2 := HG.out
      rw [List.take_length] at HG2
      have X := Lib.hid (show prE prP l = prP (l.map wrE) from if_pos ⟨HO.out, by omega⟩)
      have hrd := HG2.read rdFds_good
      obtain ⟨A', cp', hv', _, _⟩ := HG2.own
      rw [hv'] at hrd
      have K := Lib.hid (print5_any _ _ _ _ wr hrd (HE.out.below HB.out).five (fun st hst f hf => by
        obtain ⟨x, _, rfl⟩ := List.mem_map.1 hst
        have := wrE_names x f hf; unfold maxLen; omega))
      rw [List.length_map] at hv' K
      subst hv'
      clear HG2 HG hbel hrd
      go_wp2_with fail
      refine K.out.mono ?_
      rintro e w3 ⟨rfl, hb3⟩
      go_wp2
      go_ret
      exact ⟨by rw [X.out]; try rfl, bel66 HB.out hb3 HB.out.size⟩
end Go.Proofs.YtmlakjemgmeffaaGreatDoor
