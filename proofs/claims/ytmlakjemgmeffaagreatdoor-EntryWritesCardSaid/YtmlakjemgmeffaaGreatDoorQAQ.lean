/- What the laws of this seat rest on: P6l, D4f. -/
import Derived.Test.YtmlakjemgmeffaaGreatDoorP6dY
import Derived.Test.YtmlakjemgmeffaaGreatDoorQAP
import Derived.Test.YtmlakjemgmeffaaGreatDoorP6kY
import Derived.Test.YtmlakjemgmeffaaGreatDoorNE
import Derived.Test.YtmlakjemgmeffaaGreatDoorQAF
import Derived.Test.YtmlakjemgmeffaaGreatDoorD4lY
import Derived.Test.YtmlakjemgmeffaaGreatDoorD4nY
import Derived.Test.YtmlakjemgmeffaaGreatDoorD4qY

section
set_option maxRecDepth 100000
set_option linter.unusedVariables false
set_option linter.unusedSimpArgs false
namespace Go.Proofs.YtmlakjemgmeffaaGreatDoor
open Go.RowKit
def exSt : List Fd := [⟨{ data := #[80, 97, 99, 107, 97, 103, 101] }, { data := #[97, 98] }⟩, ⟨{ data := #[86, 101, 114, 115, 105, 111, 110] }, { data := #[49] }⟩, ⟨{ data := #[68, 101, 112, 101, 110, 100, 115] }, { data := #[99, 100] }⟩, ⟨{ data := #[88] }, { data := #[121] }⟩]
def exA : Ent := ⟨{ data := #[97, 98] }, { data := #[49] }, [[⟨{ data := #[99, 100] }, 0, { data := #[] }⟩]], [], [], []⟩
def exB : Ent := ⟨{ data := #[97, 98] }, { data := #[49] }, [], [], [⟨{ data := #[118, 118] }, 0, { data := #[] }⟩], []⟩
def exC : Ent := ⟨{ data := #[99, 100] }, { data := #[49] }, [], [], [], [⟨{ data := #[118, 118] }, 0, { data := #[] }⟩]⟩
theorem ex6_read : rdP exSt = (0, exA) := by kernel_rfl
theorem ex6_write : wrE exA = exSt.take 3 := by kernel_rfl
theorem ex6_bc : fgt exB exC = true := by kernel_rfl
theorem ex6_cb : fgt exC exB = true := by kernel_rfl
theorem ex6_bb : fgt exB exB = false := by kernel_rfl
theorem fst_size {N : Nat} : ∀ {l : List Fd} (nm : ByteArray), (∀ f ∈ l, f.v.size ≤ N) → (fstV l nm).size ≤ N
  | [], _, _ => Nat.zero_le _
  | f :: r, nm, h => by
    unfold fstV
    split
    · exact h f (by simp)
    · exact fst_size nm fun g hg => h g (by simp [hg])
theorem rd_exSt (W : World) (S : Nat → Prop) (hS : S W.heap.size) : rdFds (W.alloc (.cells #[.string { data := #[80, 97, 99, 107, 97, 103, 101] }, .string { data := #[97, 98] }, .string { data := #[86, 101, 114, 115, 105, 111, 110] }, .string { data := #[49] }, .string { data := #[68, 101, 112, 101, 110, 100, 115] }, .string { data := #[99, 100] }, .string { data := #[88] }, .string { data := #[121] }] 41)) S exSt [.slice (some ⟨W.heap.size, 0, none⟩) 4 4] :=
  rd_block rdFd_good (b := W.heap.size) (l := exSt) (css := [[.string { data := #[80, 97, 99, 107, 97, 103, 101] }, .string { data := #[97, 98] }], [.string { data := #[86, 101, 114, 115, 105, 111, 110] }, .string { data := #[49] }], [.string { data := #[68, 101, 112, 101, 110, 100, 115] }, .string { data := #[99, 100] }], [.string { data := #[88] }, .string { data := #[121] }]]) (heap_alloc_new W _) hS rfl rfl (fun k hk => by
    rcases k with _ | _ | _ | _ | k
    · exact ⟨_, rfl, rfl⟩
    · exact ⟨_, rfl, rfl⟩
    · exact ⟨_, rfl, rfl⟩
    · exact ⟨_, rfl, rfl⟩
    · simp [exSt] at hk; omega) (by simp [exSt])
theorem rd_grp1 {W : World} {S : Nat → Prop} {b : Nat} {A : Option Addr} {g : List Atm} {n c : Nat} {T : TypeId} (hb : W.heap[b]? = some (.cells #[.slice A n c] T (0, 0))) (hS : S b) (hg : rdAtms W S g [.slice A n c]) : rdGrps W S [g] [.slice (some ⟨b, 0, none⟩) 1 1] :=
  rd_block rdAtms_good (b := b) (l := [g]) (css := [[.slice A n c]]) hb hS rfl rfl (fun k hk => by
    simp only [List.length_singleton] at hk
    obtain rfl : k = 0 := by omega
    exact ⟨_, rfl, hg⟩) (by simp)
set_option maxHeartbeats 16000000 in
theorem shown6_any (w : World) (E : EnvR w) : Calls Tryz.prog 7 #[] w fun e w' => e = .returned (.bool true) ∧ Below w.heap.size w w' := by
  have HE := Lib.hid E
  obtain ⟨W1, hW1⟩ : ∃ W, W = w.alloc (.cells #[.string { data := #[80, 97, 99, 107, 97, 103, 101] }, .string { data := #[97, 98] }, .string { data := #[86, 101, 114, 115, 105, 111, 110] }, .string { data := #[49] }, .string { data := #[68, 101, 112, 101, 110, 100, 115] }, .string { data := #[99, 100] }, .string { data := #[88] }, .string { data := #[121] }] 41) := ⟨_, rfl⟩
  have B1 := Lib.hid (show Below w.heap.size w W1 by rw [hW1]; exact (Below.refl _ w).alloc (Nat.le_refl _) _)
  have HST := Lib.hid (show rdFds W1 (lt_ W1.heap.size) exSt [.slice (some ⟨w.heap.size, 0, none⟩) 4 4] by rw [hW1]; exact rd_exSt w _ (by unfold lt_; rw [World.size_alloc]; omega))
  have KR := Lib.hid (by have := eread_any (some ⟨w.heap.size, 0, none⟩) 4 4 exSt W1 HST.out (fun nm => fst_size nm (by intro f hf; simp [exSt] at hf; rcases hf with rfl | rfl | rfl | rfl <;> decide)) (HE.out.below B1.out); rw [ex6_read] at this; exact this)
  clear E
  go_enter Tryz.func7, Tryz.ntmps7
  go_wp2_with fail
  rw [← hW1]
  clear hW1
  refine KR.out.mono ?_
  rintro e w2 ⟨⟨A1, c1, A2, c2, A3, c3, A4, c4, rfl, hv⟩, hb⟩
  have B2 := Lib.hid (B1.out.trans (hb.mono B1.out.size))
  obtain ⟨V, hV⟩ : ∃ V, V = w2.alloc (.cells #[.string exA.n, .string exA.v, .slice A1 exA.d.length c1, .slice A2 exA.r.length c2, .slice A3 exA.c.length c3, .slice A4 exA.p.length c4] 25) := ⟨_, rfl⟩
  have hbV : Below w2.heap.size w2 V := by rw [hV]; exact (Below.refl _ _).alloc (Nat.le_refl _) _
  obtain ⟨V3, hV3⟩ : ∃ V3, V3 = V.drew := ⟨_, rfl⟩
  have hb3 : Below V.heap.size V V3 := by rw [hV3]; exact belD (Below.refl _ _) 1
  have QV := Lib.hid (show w2.heap.size < V3.heap.size from Nat.lt_of_lt_of_le (by rw [hV, World.size_alloc]; omega) hb3.size)
  have BW := Lib.hid (show Below w.heap.size w V3 from (B2.out.trans (hbV.mono B2.out.size)).trans (hb3.mono (Nat.le_trans B2.out.size hbV.size)))
  have V1X := Lib.hid (show Below W1.heap.size W1 V3 from (hb.trans (hbV.mono hb.size)).trans (hb3.mono (Nat.le_trans hb.size hbV.size)))
  have HX := Lib.hid (show EntV V3 (lt_ V3.heap.size) exA A1 c1 A2 c2 A3 c3 A4 c4 from by
    have h1 : EntV w2 (lt_ w2.heap.size) exA A1 c1 A2 c2 A3 c3 A4 c4 := ⟨rdGrps_good.more hv.d fun b hb => hb.2, rdGrps_good.more hv.r fun b hb => hb.2, rdAtms_good.more hv.c fun b hb => hb.2, rdAtms_good.more hv.p fun b hb => hb.2⟩
    exact (h1.on hbV).on hb3)
  have KS := Lib.hid (fun (W : World) (hb : Below V3.heap.size V3 W) => (show W.cell? ⟨w2.heap.size, 0, none⟩ = some (.string exA.n) ∧ W.cell? ⟨w2.heap.size, 1, none⟩ = some (.string exA.v) ∧ W.cell? ⟨w2.heap.size, 2, none⟩ = some (.slice A1 exA.d.length c1) ∧ W.cell? ⟨w2.heap.size, 3, none⟩ = some (.slice A2 exA.r.length c2) ∧ W.cell? ⟨w2.heap.size, 4, none⟩ = some (.slice A3 exA.c.length c3) ∧ W.cell? ⟨w2.heap.size, 5, none⟩ = some (.slice A4 exA.p.length c4) from by
    refine ⟨?_, ?_, ?_, ?_, ?_, ?_⟩ <;> exact keep6 hb (keep6 hb3 (by rw [hV]; simp [go_sem]))))
  have BA1 := Lib.hid (show Below V3.heap.size V3 (V3.alloc (.cells #[.string { data := #[99, 100] }, .int .i64 0, .string { data := #[] }] 49)) from (Below.refl _ _).alloc (Nat.le_refl _) _)
  have BA2 := Lib.hid (show Below V3.heap.size V3 ((V3.alloc (.cells #[.string { data := #[99, 100] }, .int .i64 0, .string { data := #[] }] 49)).alloc (.cells #[.slice (some ⟨V3.heap.size, 0, none⟩) 1 1] 54)) from ((Below.refl _ _).alloc (Nat.le_refl _) _).alloc (by simp) _)
  have KSA := Lib.hid (by
    have h0 : ((V3.alloc (.cells #[.string { data := #[99, 100] }, .int .i64 0, .string { data := #[] }] 49)).alloc (.cells #[.slice (some ⟨V3.heap.size, 0, none⟩) 1 1] 54)).heap[V3.heap.size]? = some (.cells #[.string { data := #[99, 100] }, .int .i64 0, .string { data := #[] }] 49) := old_heap _ (heap_alloc_new V3 _)
    have h1 := heap_alloc_new (V3.alloc (.cells #[.string { data := #[99, 100] }, .int .i64 0, .string { data := #[] }] 49)) (.cells #[.slice (some ⟨V3.heap.size, 0, none⟩) 1 1] 54)
    rw [World.size_alloc] at h1
    have := same6_any exA exA A1 c1 A2 c2 A3 c3 A4 c4 (some ⟨V3.heap.size + 1, 0, none⟩) 1 none 0 none 0 none 0 ((V3.alloc (.cells #[.string { data := #[99, 100] }, .int .i64 0, .string { data := #[] }] 49)).alloc (.cells #[.slice (some ⟨V3.heap.size, 0, none⟩) 1 1] 54)) (HX.out.on BA2.out)
      ⟨rd_grp1 h1 (by unfold lt_; rw [World.size_alloc, World.size_alloc]; omega) (one_atm h0 (by unfold lt_; rw [World.size_alloc, World.size_alloc]; omega)), rdRow_nil _ _, rdRow_nil _ _, rdRow_nil _ _⟩
    rw [decide_eq_true rfl] at this
    exact this)
  have KW := Lib.hid (fun (W : World) (hb : Below V3.heap.size V3 W) => ewrite_any exA A1 c1 A2 c2 A3 c3 A4 c4 W (HX.out.on hb) (HE.out.below (BW.out.trans (hb.mono BW.out.size))))
  have KF := Lib.hid (fun (W : World) (hb : Below V3.heap.size V3 W) (Aw : Option Addr) (cw : Nat) (hr : rdFds W (lt_ W.heap.size) (wrE exA) [.slice Aw (wrE exA).length cw]) => by
    have hT : rdFds W (lt_ W.heap.size) (exSt.take 3) [.slice (some ⟨w.heap.size, 0, none⟩) 3 4] := rdFds_take6 (rdFds_good.up (rdFds_good.below HST.out (V1X.out.trans (hb.mono V1X.out.size))) (Nat.le_trans V1X.out.size hb.size)) (by decide)
    have := sameFields6_any Aw (some ⟨w.heap.size, 0, none⟩) (wrE exA).length cw 3 4 (wrE exA) (exSt.take 3) W hr hT
    rw [decide_eq_true ex6_write] at this
    exact this)
  generalize wrE exA = F3 at *
  clear hb hv hbV hb3
  go_upto_region 3 with fail
  go_cut [4] from 17 to 33 (fun s4 wx => s4 = .bool true ∧ Below w.heap.size w wx)
  case first =>
    rw [← hV]
    clear hV
    refine wp_region_noPanic ?_
    refine wp_region_L (fun W => W.cell? ⟨w2.heap.size, 0, none⟩ = some (.string exA.n) ∧ W.cell? ⟨w2.heap.size, 1, none⟩ = some (.string exA.v) ∧ W.cell? ⟨w2.heap.size, 2, none⟩ = some (.slice A1 exA.d.length c1) ∧ W.cell? ⟨w2.heap.size, 3, none⟩ = some (.slice A2 exA.r.length c2) ∧ W.cell? ⟨w2.heap.size, 4, none⟩ = some (.slice A3 exA.c.length c3) ∧ W.cell? ⟨w2.heap.size, 5, none⟩ = some (.slice A4 exA.p.length c4)) 17 (by kernel_rfl) (by rw [← hV3]; exact KS.out V3 (Below.refl _ _)) (fun hHeld => ?_)
    rw [← hV3] at hHeld ⊢
    clear hV3
    refine wpAnyL_take (i := 0) (v := ?_) [16, 15, 12, 10, 6, 5] rfl (by kernel_rfl) (by kernel_rfl) (by kernel_rfl) (fun _ _ _ h => h) (by kernel_rfl) (by kernel_rfl) (by kernel_rfl) (Or.inl ⟨by rfl, ?_⟩) (by assumption) ?_
    rotate_left
    · intro w hSw
      try dsimp only at hSw
      go_simp
      first | done | with_reducible rfl
    try simp only [Act.put, List.setIfInBounds_toArray, List.set_cons_zero, List.set_cons_succ]
    refine wpAnyL_take (i := 1) (v := ?_) [16, 15, 12, 10, 6, 5, 4, 3, 2] rfl (by kernel_rfl) (by kernel_rfl) (by kernel_rfl) (fun _ _ _ h => h) (by kernel_rfl) (by kernel_rfl) (by kernel_rfl) (Or.inl ⟨by rfl, ?_⟩) (by assumption) ?_
    rotate_left
    · intro w hSw
      try dsimp only at hSw
      go_simp
      first | done | with_reducible rfl
    try simp only [Act.put, List.setIfInBounds_toArray, List.set_cons_zero, List.set_cons_succ]
    refine wpAnyL_one (i := 2) (by kernel_rfl) rfl (fun K hK => ?_)
    go_simp
    refine hK.out _ _ (KS.out _ BA1.out) (fun hHeld => ?_)
    clear hK K
    try simp only [Act.put, List.setIfInBounds_toArray, List.set_cons_zero, List.set_cons_succ]
    refine wpAnyL_one (i := 3) (by kernel_rfl) rfl (fun K hK => ?_)
    go_simp
    refine hK.out _ _ (KS.out _ BA2.out) (fun hHeld => ?_)
    clear hK K
    try simp only [Act.put, List.setIfInBounds_toArray, List.set_cons_zero, List.set_cons_succ]
    refine wpAnyL_one (i := 4) (by kernel_rfl) rfl (fun K hK => ?_)
    go_simp
    refine hK.out _ _ (KS.out _ BA2.out) (fun hHeld => ?_)
    clear hK K
    try simp only [Act.put, List.setIfInBounds_toArray, List.set_cons_zero, List.set_cons_succ]
    refine wpAnyL_one (i := 5) (by kernel_rfl) rfl (fun K hK => ?_)
    go_simp
    refine KSA.out.mono ?_
    rintro e w4 ⟨rfl, hb4⟩
    have HB4 := Lib.hid (BA2.out.trans (hb4.mono BA2.out.size))
    clear hb4
    go_wp2_with fail
    refine hK.out _ _ (KS.out _ HB4.out) (fun hHeld => ?_)
    clear hK K
    try simp only [Act.put, List.setIfInBounds_toArray, List.set_cons_zero, List.set_cons_succ]
    refine wpAnyL_one (i := 6) (by kernel_rfl) rfl (fun K hK => ?_)
    go_simp
    refine hK.out _ _ (KS.out _ HB4.out) (fun hHeld => ?_)
    clear hK K
    try simp only [Act.put, List.setIfInBounds_toArray, List.set_cons_zero, List.set_cons_succ]
    refine wpAnyL_one (i := 7) (by kernel_rfl) rfl (fun K hK => ?_)
    go_simp
    refine hK.out _ _ (KS.out _ HB4.out) (fun hHeld => ?_)
    clear hK K
    try simp only [Act.put, List.setIfInBounds_toArray, List.set_cons_zero, List.set_cons_succ]
    refine wpAnyL_one (i := 8) (by kernel_rfl) rfl (fun K hK => ?_)
    go_simp
    refine hK.out _ _ (KS.out _ HB4.out) (fun hHeld => ?_)
    clear hK K
    try simp only [Act.put, List.setIfInBounds_toArray, List.set_cons_zero, List.set_cons_succ]
    refine wpAnyL_one (i := 9) (by kernel_rfl) rfl (fun K hK => ?_)
    go_simp
    refine hK.out _ _ (KS.out _ HB4.out) (fun hHeld => ?_)
    clear hK K
    try simp only [Act.put, List.setIfInBounds_toArray, List.set_cons_zero, List.set_cons_succ]
    refine wpAnyL_one (i := 10) (by kernel_rfl) rfl (fun K hK => ?_)
    go_simp
    refine hK.out _ _ (KS.out _ HB4.out) (fun hHeld => ?_)
    clear hK K
    try simp only [Act.put, List.setIfInBounds_toArray, List.set_cons_zero, List.set_cons_succ]
    refine wpAnyL_take (i := 13) (v := ?_) [16, 15, 14] rfl (by kernel_rfl) (by kernel_rfl) (by kernel_rfl) (fun _ _ _ h => h) (by kernel_rfl) (by kernel_rfl) (by kernel_rfl) (Or.inl ⟨by rfl, ?_⟩) (by assumption) ?_
    rotate_left
    · intro w hSw
      try dsimp only at hSw
      go_simp
      first | done | with_reducible rfl
    try simp only [Act.put, List.setIfInBounds_toArray, List.set_cons_zero, List.set_cons_succ]
    refine wpAnyL_take (i := 14) (v := ?_) [16, 15] rfl (by kernel_rfl) (by kernel_rfl) (by kernel_rfl) (fun _ _ _ h => h) (by kernel_rfl) (by kernel_rfl) (by kernel_rfl) (Or.inl ⟨by rfl, ?_⟩) (by assumption) ?_
    rotate_left
    · intro w hSw
      try dsimp only at hSw
      go_simp
      first | done | with_reducible rfl
    try simp only [Act.put, List.setIfInBounds_toArray, List.set_cons_zero, List.set_cons_succ]
    refine wpAnyL_one (i := 11) (by kernel_rfl) rfl (fun K hK => ?_)
    go_simp
    refine hK.out _ _ (KS.out _ HB4.out) (fun hHeld => ?_)
    clear hK K
    try simp only [Act.put, List.setIfInBounds_toArray, List.set_cons_zero, List.set_cons_succ]
    refine wpAnyL_one (i := 12) (by kernel_rfl) rfl (fun K hK => ?_)
    go_simp
    refine (KW.out _ HB4.out).mono ?_
    rintro e w6 ⟨⟨Aw, cw, rfl, hrw⟩, hb6⟩
    have HB6 := Lib.hid (HB4.out.trans (hb6.mono HB4.out.size))
    have SF := Lib.hid (KF.out w6 HB6.out Aw cw (rdFds_good.more hrw fun b hb => hb.2))
    clear hb6 hrw
    go_wp2_with fail
    refine hK.out _ _ (KS.out _ HB6.out) (fun hHeld => ?_)
    clear hK K
    try simp only [Act.put, List.setIfInBounds_toArray, List.set_cons_zero, List.set_cons_succ]
    refine wpAnyL_one (i := 15) (by kernel_rfl) rfl (fun K hK => ?_)
    go_simp
    refine SF.out.mono ?_
    rintro e w7 ⟨rfl, q7, rfl⟩
    have HB7 := Lib.hid (belD HB6.out q7)
    clear SF
    go_wp2_with fail
    refine hK.out _ _ (KS.out _ HB7.out) (fun hHeld => ?_)
    clear hK K
    try simp only [Act.put, List.setIfInBounds_toArray, List.set_cons_zero, List.set_cons_succ]
    refine wpAnyL_one (i := 16) (by kernel_rfl) rfl (fun K hK => ?_)
    go_simp
    refine hK.out _ _ (KS.out _ HB7.out) (fun hHeld => ?_)
    clear hK K
    try simp only [Act.put, List.setIfInBounds_toArray, List.set_cons_zero, List.set_cons_succ]
    refine wpAnyL_last (by kernel_rfl) rfl (by kernel_rfl) (fun K hK => ?_)
    go_simp
    refine hK.out _ _ ?_
    clear hK K
    refine NoPanic.normal ?_
    go_wp2_with fail
    go_meet
    exact ⟨rfl, BW.out.trans (HB7.out.mono BW.out.size)⟩
  case rest =>
    obtain ⟨rfl, hbx⟩ := hcut
    obtain ⟨U, rfl⟩ : ∃ U : World, U = wc := ⟨_, rfl⟩
    have BU := Lib.hid hbx
    clear hbx hV hV3 KS BA1 BA2 KSA KW KF HX V1X BW QV B2 HST KR
    obtain ⟨W9, hW9⟩ : ∃ W, W = (((U.alloc (.cells #[.string { data := #[118, 118] }, .int .i64 0, .string { data := #[] }] 49)).alloc (.cells #[.string { data := #[97, 98] }, .string { data := #[49] }, .slice none 0 0, .slice none 0 0, .slice (some ⟨U.heap.size, 0, none⟩) 1 1, .slice none 0 0] 25)).alloc (.cells #[.string { data := #[118, 118] }, .int .i64 0, .string { data := #[] }] 49)).alloc (.cells #[.string { data := #[99, 100] }, .string { data := #[49] }, .slice none 0 0, .slice none 0 0, .slice none 0 0, .slice (some ⟨U.heap.size + 2, 0, none⟩) 1 1] 25) := ⟨_, rfl⟩
    have h4 : W9.heap[U.heap.size]? = some (.cells #[.string { data := #[118, 118] }, .int .i64 0, .string { data := #[] }] 49) ∧ W9.heap[U.heap.size + 2]? = some (.cells #[.string { data := #[118, 118] }, .int .i64 0, .string { data := #[] }] 49) ∧ W9.heap.size = U.heap.size + 4 := by
      rw [hW9]
      refine ⟨old_heap _ (old_heap _ (old_heap _ (heap_alloc_new U _))), old_heap _ ?_, by simp only [World.size_alloc]⟩
      have := heap_alloc_new ((U.alloc (.cells #[.string { data := #[118, 118] }, .int .i64 0, .string { data := #[] }] 49)).alloc (.cells #[.string { data := #[97, 98] }, .string { data := #[49] }, .slice none 0 0, .slice none 0 0, .slice (some ⟨U.heap.size, 0, none⟩) 1 1, .slice none 0 0] 25)) (.cells #[.string { data := #[118, 118] }, .int .i64 0, .string { data := #[] }] 49)
      rw [World.size_alloc, World.size_alloc] at this
      exact this
    have B9 := Lib.hid (show Below U.heap.size U W9 by rw [hW9]; exact ((((Below.refl _ U).alloc (Nat.le_refl _) _).alloc (by simp) _).alloc (by simp; omega) _).alloc (by simp; omega) _)
    have KX := Lib.hid (fun (W : World) (hb : Below W9.heap.size W9 W) => (show W.cell? ⟨U.heap.size + 1, 0, none⟩ = some (.string { data := #[97, 98] }) ∧ W.cell? ⟨U.heap.size + 1, 1, none⟩ = some (.string { data := #[49] }) ∧ W.cell? ⟨U.heap.size + 1, 2, none⟩ = some (.slice none 0 0) ∧ W.cell? ⟨U.heap.size + 1, 3, none⟩ = some (.slice none 0 0) ∧ W.cell? ⟨U.heap.size + 1, 4, none⟩ = some (.slice (some ⟨U.heap.size, 0, none⟩) 1 1) ∧ W.cell? ⟨U.heap.size + 1, 5, none⟩ = some (.slice none 0 0) ∧ W.cell? ⟨U.heap.size + 3, 0, none⟩ = some (.string { data := #[99, 100] }) ∧ W.cell? ⟨U.heap.size + 3, 1, none⟩ = some (.string { data := #[49] }) ∧ W.cell? ⟨U.heap.size + 3, 2, none⟩ = some (.slice none 0 0) ∧ W.cell? ⟨U.heap.size + 3, 3, none⟩ = some (.slice none 0 0) ∧ W.cell? ⟨U.heap.size + 3, 4, none⟩ = some (.slice none 0 0) ∧ W.cell? ⟨U.heap.size + 3, 5, none⟩ = some (.slice (some ⟨U.heap.size + 2, 0, none⟩) 1 1) from by
      refine ⟨?_, ?_, ?_, ?_, ?_, ?_, ?_, ?_, ?_, ?_, ?_, ?_⟩ <;> exact keep6 hb (by rw [hW9]; simp [go_sem])))
    have HB := Lib.hid (show EntV W9 (lt_ W9.heap.size) exB none 0 none 0 (some ⟨U.heap.size, 0, none⟩) 1 none 0 from ⟨rdRow_nil _ _, rdRow_nil _ _, one_atm h4.1 (by unfold lt_; omega), rdRow_nil _ _⟩)
    have HC := Lib.hid (show EntV W9 (lt_ W9.heap.size) exC none 0 none 0 none 0 (some ⟨U.heap.size + 2, 0, none⟩) 1 from ⟨rdRow_nil _ _, rdRow_nil _ _, rdRow_nil _ _, one_atm h4.2.1 (by unfold lt_; omega)⟩)
    have E9 := Lib.hid (fun (W : World) (hb : Below W9.heap.size W9 W) => (HE.out.below (BU.out.trans (B9.out.mono BU.out.size))).below hb)
    have K1 := Lib.hid (fun (W : World) (hb : Below W9.heap.size W9 W) => by have := fights6_any exB exC _ _ _ _ _ _ _ _ _ _ _ _ _ _ _ _ W (HB.out.on hb) (HC.out.on hb) (by decide) (by decide) (E9.out W hb); rw [ex6_bc] at this; exact this)
    have K2 := Lib.hid (fun (W : World) (hb : Below W9.heap.size W9 W) => by have := fights6_any exC exB _ _ _ _ _ _ _ _ _ _ _ _ _ _ _ _ W (HC.out.on hb) (HB.out.on hb) (by decide) (by decide) (E9.out W hb); rw [ex6_cb] at this; exact this)
    have K3 := Lib.hid (fun (W : World) (hb : Below W9.heap.size W9 W) => by have := fights6_any exB exB _ _ _ _ _ _ _ _ _ _ _ _ _ _ _ _ W (HB.out.on hb) (HB.out.on hb) (by decide) (by decide) (E9.out W hb); rw [ex6_bb] at this; exact this)
    clear h4
    have V9 := Lib.hid (Below.refl W9.heap.size W9)
    go_wp2_with fail
    rw [← hW9]
    clear hW9
    refine (K1.out _ V9.out).mono ?_
    rintro e w3 ⟨rfl, hb⟩
    have V10 := Lib.hid hb
    clear hb
    obtain ⟨x0, x1, x2, x3, x4, x5, y0, y1, y2, y3, y4, y5⟩ := KX.out _ V10.out
    go_wp2_with fail
    refine (K2.out _ V10.out).mono ?_
    rintro e w4 ⟨rfl, hb⟩
    have V11 := Lib.hid (V10.out.trans (hb.mono V10.out.size))
    clear hb x0 x1 x2 x3 x4 x5 y0 y1 y2 y3 y4 y5
    obtain ⟨x0, x1, x2, x3, x4, x5, y0, y1, y2, y3, y4, y5⟩ := KX.out _ V11.out
    go_wp2_with fail
    refine (K3.out _ V11.out).mono ?_
    rintro e w5 ⟨rfl, hb⟩
    have V12 := Lib.hid (V11.out.trans (hb.mono V11.out.size))
    clear hb x0 x1 x2 x3 x4 x5 y0 y1 y2 y3 y4 y5
    go_wp2
    go_ret
    exact ⟨rfl, BU.out.trans ((B9.out.trans (V12.out.mono B9.out.size)).mono BU.out.size)⟩
end Go.Proofs.YtmlakjemgmeffaaGreatDoor
end

section
set_option maxRecDepth 100000
set_option linter.unusedVariables false
set_option linter.unusedSimpArgs false
namespace Go.Proofs.YtmlakjemgmeffaaGreatDoor
open Go.RowKit
theorem mk_app (a b : List Nat) : mk a ++ mk b = mk (a ++ b) := by
  unfold mk
  rw [List.map_append]
  apply ByteArray.ext
  simp
theorem q3print_atom (x : Atm) (w : World) (h : rgt x = true) : Calls Tryz.prog 76 #[.agg #[.string x.n, .int .i64 x.o, .string x.v]] w fun e' w' => e' = .returned (.string (mk (txt x))) ∧ Below w.heap.size w w' := by
  have hn : x.n.size ≤ 65536 := by
    unfold rgt rightA at h
    simp only [Bool.and_eq_true] at h
    have := (name_len h.1).2
    rw [B_len] at this; omega
  have := q3print_any x.n x.o x.v w hn
  unfold printA at this
  rw [if_pos (show rightA (B x.n) x.o (B x.v) = true from h)] at this
  exact this
end Go.Proofs.YtmlakjemgmeffaaGreatDoor
end
