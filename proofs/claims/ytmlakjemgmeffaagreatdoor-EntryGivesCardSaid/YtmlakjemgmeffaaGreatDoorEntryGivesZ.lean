/- keelsonlaw6.EntryGives: called with any arguments that can be read it returns true, and its arguments read as before. Condition: the library variables that the row lists hold what the program text lays in them, which the card ties to that text. -/
import Derived.Test.YtmlakjemgmeffaaGreatDoorP6lZ
import Derived.Test.YtmlakjemgmeffaaGreatDoorP6eZ
import Derived.Test.YtmlakjemgmeffaaGreatDoorME
import Derived.Test.YtmlakjemgmeffaaGreatDoorMG
import Derived.Test.YtmlakjemgmeffaaGreatDoorMB
import Derived.Test.YtmlakjemgmeffaaGreatDoorDoorZ
import Derived.Deep.CutRange
import Derived.IntWalk
import Derived.Test.YtmlakjemgmeffaaGreatDoorMD
import Derived.WalkKit
import Derived.ProofKit
import Derived.OpenShut
import Derived.SevenTiedAt
import Derived.Outline
set_option maxRecDepth 100000
set_option linter.unusedVariables false
set_option linter.unusedSimpArgs false
namespace Go.Proofs.YtmlakjemgmeffaaGreatDoor.entryGives
open Go.ChangeShapes Go.WideShapes Go.ChangeAt Go.RowKit

theorem rdAtms_take6 {w : World} {S : Nat → Prop} {l : List Atm} {A : Option Addr} {n c k : Nat} (h : rdAtms w S l [.slice A n c]) (hk : k ≤ l.length) : rdAtms w S (l.take k) [.slice A k c] := by
  obtain ⟨A', c', e, h1, h2, h3⟩ := h
  simp only [List.cons.injEq, Value.slice.injEq, and_true] at e
  obtain ⟨rfl, rfl, rfl⟩ := e
  have hl : (l.take k).length = k := by rw [List.length_take]; omega
  refine ⟨A, c, by rw [hl], by omega, h2, fun j hj => ?_⟩
  rw [hl] at hj
  obtain ⟨ad, es, a1, a2, a3, a4, a5⟩ := h3 j (by omega)
  exact ⟨ad, es, a1, a2, by rw [List.getElem_take]; exact a3, a4, a5⟩
theorem gvs_more (x : Ent) (m : Atm) : gvs { x with p := x.p ++ [m] } = gvs x ++ [m] := rfl
theorem brs_more (x y : Ent) (m : Atm) : brs { x with p := x.p ++ [m] } y = brs x y := rfl
theorem any_app {α : Type} (f : α → Bool) (l k : List α) (h : l.any f = true) : (l ++ k).any f = true := by rw [List.any_append, h, Bool.true_or]
theorem brs_into (x y : Ent) (m : Atm) (h : brs y x = true) : brs y { x with p := x.p ++ [m] } = true := by
  unfold brs at h ⊢
  obtain ⟨k, hk, h2⟩ := List.any_eq_true.1 h
  exact List.any_eq_true.2 ⟨k, hk, by rw [gvs_more]; exact any_app _ _ _ h2⟩
theorem fgt_more (x y : Ent) (m : Atm) (h : fgt x y = true) : fgt { x with p := x.p ++ [m] } y = true ∧ fgt y { x with p := x.p ++ [m] } = true := by
  unfold fgt at h
  rw [Bool.and_eq_true, Bool.not_eq_true', decide_eq_false_iff_not] at h
  obtain ⟨h1, h2⟩ := h
  have h3 : (brs { x with p := x.p ++ [m] } y || brs y { x with p := x.p ++ [m] }) = true := by
    rw [Bool.or_eq_true] at h2 ⊢
    rcases h2 with h2 | h2
    · exact .inl h2
    · exact .inr (brs_into x y m h2)
  refine ⟨?_, ?_⟩
  · unfold fgt
    rw [h3, Bool.and_true, Bool.not_eq_true', decide_eq_false_iff_not]; exact h1
  · unfold fgt
    rw [Bool.or_comm] at h3
    rw [h3, Bool.and_true, Bool.not_eq_true', decide_eq_false_iff_not]; exact fun e => h1 e.symm
set_option maxHeartbeats 16000000 in
theorem walk (x : Ent) (A1 : Option Addr) (c1 : Nat) (A2 : Option Addr) (c2 : Nat) (A3 : Option Addr) (c3 : Nat) (A4 : Option Addr) (c4 : Nat) (y : Ent) (A1y : Option Addr) (c1y : Nat) (A2y : Option Addr) (c2y : Nat) (A3y : Option Addr) (c3y : Nat) (A4y : Option Addr) (c4y : Nat) (mn : ByteArray) (mo : Int) (mv : ByteArray) (w : World) (hx : EntV w (lt_ w.heap.size) x A1 c1 A2 c2 A3 c3 A4 c4) (_ : EntOk x) (hy : EntV w (lt_ w.heap.size) y A1y c1y A2y c2y A3y c3y A4y c4y) (_ : EntOk y) (_ : mn.size ≤ maxLen) (_ : (Lit.int .i64 mo).wf = true) (_ : mv.size ≤ maxLen) (E : EnvR w) :
    Calls Tryz.prog 6 #[x.val A1 c1 A2 c2 A3 c3 A4 c4, y.val A1y c1y A2y c2y A3y c3y A4y c4y, .agg #[.string mn, .int .i64 mo, .string mv]] w fun e w' => e = .returned (.bool true) ∧ Below w.heap.size w w' := by
  have HE := Lib.hid E
  have S := Lib.hid (fun w E => shown6_any w E)
  have KX1 := Lib.hid (fun (W : World) (hb : Below w.heap.size w W) => small6_any x A1 c1 A2 c2 A3 c3 A4 c4 W (hx.on hb))
  have KX2 := Lib.hid (fun (W : World) (hb : Below w.heap.size w W) => small6_any y A1y c1y A2y c2y A3y c3y A4y c4y W (hy.on hb))
  have HX := Lib.hid hx
  have HY := Lib.hid hy
  have PX := Lib.hid (fun h : Sm x => (show x.p.length ≤ 20 from h.2.1.1))
  have PY := Lib.hid (fun h : Sm y => (show y.p.length ≤ 20 from h.2.1.1))
  clear hx hy E
  generalize Sm x = S1 at *
  generalize Sm y = S2 at *
  obtain ⟨i1, hj, hy0, hy1, hy2⟩ := info_parts atm_info
  obtain ⟨n, v, d, r, c, p⟩ := x
  obtain ⟨ny, vy, dy, ry, cy, py⟩ := y
  show Calls Tryz.prog 6 #[.agg #[.string n, .string v, .slice A1 d.length c1, .slice A2 r.length c2, .slice A3 c.length c3, .slice A4 p.length c4], .agg #[.string ny, .string vy, .slice A1y dy.length c1y, .slice A2y ry.length c2y, .slice A3y cy.length c3y, .slice A4y py.length c4y], .agg #[.string mn, .int .i64 mo, .string mv]] w _
  obtain ⟨W1, hW1⟩ : ∃ W, W = ((w.alloc (.cells #[.string n, .string v, .slice A1 d.length c1, .slice A2 r.length c2, .slice A3 c.length c3, .slice A4 p.length c4] 25)).alloc (.cells #[.string ny, .string vy, .slice A1y dy.length c1y, .slice A2y ry.length c2y, .slice A3y cy.length c3y, .slice A4y py.length c4y] 25)).alloc (.cells #[.string mn, .int .i64 mo, .string mv] 49) := ⟨_, rfl⟩
  have B1 := Lib.hid (show Below w.heap.size w W1 by rw [hW1]; exact (((Below.refl _ w).alloc (Nat.le_refl _) _).alloc (by simp) _).alloc (by simp; omega) _)
  have Q1 := Lib.hid (show W1.heap.size = w.heap.size + 3 by rw [hW1]; simp only [World.size_alloc])
  have KC := Lib.hid (fun (W : World) (hb : Below W1.heap.size W1 W) => (show (W.cell? ⟨w.heap.size, 0, none⟩ = some (.string n) ∧ W.cell? ⟨w.heap.size, 1, none⟩ = some (.string v) ∧ W.cell? ⟨w.heap.size, 2, none⟩ = some (.slice A1 d.length c1) ∧ W.cell? ⟨w.heap.size, 3, none⟩ = some (.slice A2 r.length c2) ∧ W.cell? ⟨w.heap.size, 4, none⟩ = some (.slice A3 c.length c3) ∧ W.cell? ⟨w.heap.size, 5, none⟩ = some (.slice A4 p.length c4)) ∧ (W.cell? ⟨w.heap.size + 1, 0, none⟩ = some (.string ny) ∧ W.cell? ⟨w.heap.size + 1, 1, none⟩ = some (.string vy) ∧ W.cell? ⟨w.heap.size + 1, 2, none⟩ = some (.slice A1y dy.length c1y) ∧ W.cell? ⟨w.heap.size + 1, 3, none⟩ = some (.slice A2y ry.length c2y) ∧ W.cell? ⟨w.heap.size + 1, 4, none⟩ = some (.slice A3y cy.length c3y) ∧ W.cell? ⟨w.heap.size + 1, 5, none⟩ = some (.slice A4y py.length c4y)) ∧ (W.cell? ⟨w.heap.size + 2, 0, none⟩ = some (.string mn) ∧ W.cell? ⟨w.heap.size + 2, 1, none⟩ = some (.int .i64 mo) ∧ W.cell? ⟨w.heap.size + 2, 2, none⟩ = some (.string mv)) from by
    refine ⟨⟨?_, ?_, ?_, ?_, ?_, ?_⟩, ⟨?_, ?_, ?_, ?_, ?_, ?_⟩, ⟨?_, ?_, ?_⟩⟩ <;> exact keep6 hb (by rw [hW1]; simp [go_sem])))
  go_enter Tryz.func6, Tryz.ntmps6
  go_wp2_with fail
  rw [← hW1]
  clear hW1
  refine (S.out _ (HE.out.below B1.out)).mono ?_
  rintro e w1 ⟨rfl, hb⟩
  have V1 := Lib.hid hb
  have C1 := Lib.hid (B1.out.trans (hb.mono B1.out.size))
  clear hb
  obtain ⟨⟨x0, x1, x2, x3, x4, x5⟩, ⟨y0, y1, y2, y3, y4, y5⟩, ⟨z0, z1, z2⟩⟩ := KC.out _ V1.out
  go_wp2_with fail
  refine (KX1.out _ C1.out).mono ?_
  rintro e w2 ⟨⟨b1, rfl, hs1⟩, hb⟩
  have V2 := Lib.hid (V1.out.trans (hb.mono V1.out.size))
  have C2 := Lib.hid (C1.out.trans (hb.mono C1.out.size))
  clear hb x0 x1 x2 x3 x4 x5 y0 y1 y2 y3 y4 y5 z0 z1 z2
  obtain ⟨⟨x0, x1, x2, x3, x4, x5⟩, ⟨y0, y1, y2, y3, y4, y5⟩, ⟨z0, z1, z2⟩⟩ := KC.out _ V2.out
  go_wp2_with fail
  refine (KX2.out _ C2.out).mono ?_
  rintro e w3 ⟨⟨b2, rfl, hs2⟩, hb⟩
  have V3 := Lib.hid (V2.out.trans (hb.mono V2.out.size))
  have C3 := Lib.hid (C2.out.trans (hb.mono C2.out.size))
  clear hb x0 x1 x2 x3 x4 x5 y0 y1 y2 y3 y4 y5 z0 z1 z2
  have PX := Lib.hid (fun h : b1 = true => PX.out (hs1 h))
  have PY := Lib.hid (fun h : b2 = true => PY.out (hs2 h))
  clear hs1 hs2 KX1 KX2
  obtain ⟨⟨x0, x1, x2, x3, x4, x5⟩, ⟨y0, y1, y2, y3, y4, y5⟩, ⟨z0, z1, z2⟩⟩ := KC.out _ V3.out
  obtain ⟨wl, hwl⟩ : ∃ W, W = w3.alloc (.cells #[.string mn, .int .i64 mo, .string mv] 49) := ⟨_, rfl⟩
  have hbl : Below w3.heap.size w3 wl := by rw [hwl]; exact (Below.refl _ _).alloc (Nat.le_refl _) _
  have VL := Lib.hid (V3.out.trans (hbl.mono V3.out.size))
  have CL := Lib.hid (C3.out.trans (hbl.mono C3.out.size))
  have KL := Lib.hid (light6_any (some ⟨w3.heap.size, 0, none⟩) 1 1 [⟨mn, mo, mv⟩] wl (one_atm (by rw [hwl]; exact heap_alloc_new w3 _) (by unfold lt_; rw [hwl, World.size_alloc]; omega)))
  generalize Lt [(⟨mn, mo, mv⟩ : Atm)] = S3 at *
  clear hbl
  go_wp2_with fail
  rw [← hwl]
  refine KL.out.mono ?_
  clear hwl
  rintro e w' ⟨⟨b3, rfl, -⟩, rfl⟩
  clear x0 x1 x2 x3 x4 x5 y0 y1 y2 y3 y4 y5 z0 z1 z2
  cases b1
  · go_wp2
    go_ret
    exact ⟨rfl, CL.out⟩
  cases b2
  · go_wp2
    go_ret
    exact ⟨rfl, CL.out⟩
  cases b3
  · go_wp2
    go_ret
    exact ⟨rfl, CL.out⟩
  have hp20 : p.length ≤ 20 := PX.out rfl
  have hq20 : py.length ≤ 20 := PY.out rfl
  obtain ⟨wb, hwb⟩ : ∃ W, W = (wl.alloc (.cells #[.string n, .string v, .slice A1 d.length c1, .slice A2 r.length c2, .slice A3 c.length c3, .slice A4 p.length c4] 25)) := ⟨_, rfl⟩
  have hbb : Below wl.heap.size wl wb := by rw [hwb]; exact (Below.refl _ _).alloc (Nat.le_refl _) _
  have VB := Lib.hid (VL.out.trans (hbb.mono VL.out.size))
  have CB := Lib.hid (CL.out.trans (hbb.mono CL.out.size))
  have QB := Lib.hid (show wb.heap.size = wl.heap.size + 1 by rw [hwb]; exact World.size_alloc _ _)
  have BC6 := Lib.hid (show (wb.cell? ⟨wl.heap.size, 0, none⟩ = some (.string n) ∧ wb.cell? ⟨wl.heap.size, 1, none⟩ = some (.string v) ∧ wb.cell? ⟨wl.heap.size, 2, none⟩ = some (.slice A1 d.length c1) ∧ wb.cell? ⟨wl.heap.size, 3, none⟩ = some (.slice A2 r.length c2) ∧ wb.cell? ⟨wl.heap.size, 4, none⟩ = some (.slice A3 c.length c3) ∧ wb.cell? ⟨wl.heap.size, 5, none⟩ = some (.slice A4 p.length c4)) by rw [hwb]; exact ⟨by simp [go_sem], by simp [go_sem], by simp [go_sem], by simp [go_sem], by simp [go_sem], by simp [go_sem]⟩)
  have OC := Lib.hid (show wb.cell? ⟨wl.heap.size, 5, none⟩ = some (.slice A4 p.length c4) ∧ wb.frozen? ⟨wl.heap.size, 5, none⟩ = false ∧ wl.heap.size < wb.heap.size by rw [hwb]; exact ⟨by simp [go_sem], by simp [go_sem], by rw [World.size_alloc]; omega⟩)
  have hpb : rdAtms wb (lt_ wb.heap.size) p [.slice A4 p.length c4] := rdAtms_good.up (rdAtms_good.below HX.out.p CB.out) CB.out.size
  have KS := Lib.hid (fun (W : World) (hb : Below wb.heap.size wb W) => (show W.cell? ⟨w.heap.size, 5, none⟩ = some (.slice A4 p.length c4) ∧ W.cell? ⟨w.heap.size + 2, 0, none⟩ = some (.string mn) ∧ W.cell? ⟨w.heap.size + 2, 1, none⟩ = some (.int .i64 mo) ∧ W.cell? ⟨w.heap.size + 2, 2, none⟩ = some (.string mv) from ⟨keep6 hb (KC.out _ VB.out).1.2.2.2.2.2, keep6 hb (KC.out _ VB.out).2.2.1, keep6 hb (KC.out _ VB.out).2.2.2.1, keep6 hb (KC.out _ VB.out).2.2.2.2⟩))
  have AA := Lib.hid (mpA hpb)
  have AB := Lib.hid (mpB mn mo mv hpb)
  have AC := Lib.hid (mpC mn mo mv hpb)
  have BC := Lib.hid (show Below wb.heap.size wb (wb.alloc (Obj.cells #[Value.string mn, Value.int .i64 mo, Value.string mv] 49)).drew from belD ((Below.refl _ _).alloc (Nat.le_refl _) _) 1)
  have hm1 : ([] : List Atm).length + p.length ≤ maxLen := by simp only [List.length_nil]; unfold maxLen; omega
  have hm2 : (([] : List Atm).length + p.length) * 40 ≤ 140737488355328 := by simp only [List.length_nil]; omega
  have hm3' : p.length + ([(⟨mn, mo, mv⟩ : Atm)]).length ≤ maxLen := by simp only [List.length_singleton]; unfold maxLen; omega
  have hm4 : (p.length + ([(⟨mn, mo, mv⟩ : Atm)]).length) * 40 ≤ 140737488355328 := by simp only [List.length_singleton]; omega
  obtain ⟨q, hq⟩ : ∃ q, q = p ++ [(⟨mn, mo, mv⟩ : Atm)] := ⟨_, rfl⟩
  have HQ := Lib.hid (show q = p ++ [⟨mn, mo, mv⟩] ∧ q.length = p.length + 1 from ⟨hq, by rw [hq, List.length_append]; rfl⟩)
  have HP20 := Lib.hid hp20
  have HQ20 := Lib.hid hq20
  clear hq hbb hpb hp20 hq20
  obtain ⟨⟨x0, x1, x2, x3, x4, x5⟩, ⟨y0, y1, y2, y3, y4, y5⟩, ⟨z0, z1, z2⟩⟩ := KC.out _ VL.out
  go_upto_region 8 with fail
  go_cut [44] from 38 to 45 (fun s44 wx => ∃ (A5 : Option Addr) (c5 : Nat) (w5 : World), wx = w5.setCell ⟨wl.heap.size, 5, none⟩ (.slice A5 q.length c5) ∧ Below wb.heap.size wb w5 ∧ rdAtms w5 (fun b => wb.heap.size ≤ b ∧ b < w5.heap.size) q [.slice A5 q.length c5])
  case first =>
    rw [← hwb]
    clear hwb x0 x1 x2 x3 x4 x5 y0 y1 y2 y3 y4 y5 z0 z1 z2
    refine wp_region_noPanic ?_
    refine wp_region_L (fun W => W.cell? ⟨w.heap.size, 5, none⟩ = some (.slice A4 p.length c4) ∧ W.cell? ⟨w.heap.size + 2, 0, none⟩ = some (.string mn) ∧ W.cell? ⟨w.heap.size + 2, 1, none⟩ = some (.int .i64 mo) ∧ W.cell? ⟨w.heap.size + 2, 2, none⟩ = some (.string mv)) 8 (by kernel_rfl) (KS.out _ (belD (Below.refl _ _) 1)) (fun hHeld => ?_)
    refine wpAnyL_take (i := 1) (v := ?_) [6, 3, 2] rfl (by kernel_rfl) (by kernel_rfl) (by kernel_rfl) (fun _ _ _ h => h) (by kernel_rfl) (by kernel_rfl) (by kernel_rfl) (Or.inl ⟨by rfl, ?_⟩) (by assumption) ?_
    rotate_left
    · intro w hSw
      try dsimp only at hSw
      go_simp
      first | done | with_reducible rfl
    try simp only [Act.put, List.setIfInBounds_toArray, List.set_cons_zero, List.set_cons_succ]
    refine wpAnyL_take (i := 2) (v := ?_) [6, 3] rfl (by kernel_rfl) (by kernel_rfl) (by kernel_rfl) (fun _ _ _ h => h) (by kernel_rfl) (by kernel_rfl) (by kernel_rfl) (Or.inl ⟨by rfl, ?_⟩) (by assumption) ?_
    rotate_left
    · intro w hSw
      try dsimp only at hSw
      go_simp
      first | done | with_reducible rfl
    try simp only [Act.put, List.setIfInBounds_toArray, List.set_cons_zero, List.set_cons_succ]
    refine wpAnyL_take (i := 4) (v := ?_) [6, 5] rfl (by kernel_rfl) (by kernel_rfl) (by kernel_rfl) (fun _ _ _ h => h) (by kernel_rfl) (by kernel_rfl) (by kernel_rfl) (Or.inl ⟨by rfl, ?_⟩) (by assumption) ?_
    rotate_left
    · intro w hSw
      try dsimp only at hSw
      go_simp
      first | done | with_reducible rfl
    try simp only [Act.put, List.setIfInBounds_toArray, List.set_cons_zero, List.set_cons_succ]
    refine wpAnyL_two (i := 0) (k := 5) (by kernel_rfl) rfl rfl (fun K hK => ?_) (fun K hK => ?_)
    · go_simp
      refine hK.out _ _ (KS.out _ AA.out.bel) (fun hHeld => ?_)
      clear hK K
      try simp only [Act.put, List.setIfInBounds_toArray, List.set_cons_zero, List.set_cons_succ]
      refine wpAnyL_two (i := 3) (k := 5) (by kernel_rfl) rfl rfl (fun K hK => ?_) (fun K hK => ?_)
      · refine step_growN _ (by rfl) _ _ 23 23 (by rfl) rdAtm_good (by decide) (fun _ => True) wb.heap.size 49 49 i1 _ 40 Tryz.underlying23 Tryz.underlying23 hj hy0 hy1 hy2 rfl _ _ (by rfl) AA.out.g _ _ _ _ _ (by rfl) AA.out.x AA.out.s hm1 hm2 AA.out.bs ?_
        intro v3 w3 hG3 hg3 hm3
        have B3 := Lib.hid (mp_next AA.out hG3 hg3).2
        have Y2 := Lib.hid (mp2A mn mo mv AA.out hG3 hg3)
        obtain ⟨A3, c3', rfl, _, _⟩ := hG3.own
        clear hG3 hg3 hm3
        refine hK.out _ _ (KS.out _ B3.out) (fun hHeld => ?_)
        clear hK K
        try simp only [Act.put, List.setIfInBounds_toArray, List.set_cons_zero, List.set_cons_succ]
        refine wpAnyL_one (i := 5) (by kernel_rfl) rfl (fun K hK => ?_)
        go_simp
        refine hK.out _ _ (KS.out _ Y2.out.bel) (fun hHeld => ?_)
        clear hK K
        try simp only [Act.put, List.setIfInBounds_toArray, List.set_cons_zero, List.set_cons_succ]
        refine wpAnyL_one (i := 6) (by kernel_rfl) rfl (fun K hK => ?_)
        refine step_growN _ (by rfl) _ _ 23 23 (by rfl) rdAtm_good (by decide) (fun _ => True) wb.heap.size 49 49 i1 _ 40 Tryz.underlying23 Tryz.underlying23 hj hy0 hy1 hy2 rfl _ _ (by rfl) Y2.out.g _ _ _ _ _ (by rfl) Y2.out.x Y2.out.s hm3' hm4 Y2.out.bs ?_
        intro v5 w5 hG5 hg5 _
        have EN := Lib.hid (mp_end Y2.out hG5 hg5)
        clear hG5 hg5
        obtain ⟨A5, c5, hv5, _⟩ := id EN.out.2
        simp only [List.cons.injEq, and_true] at hv5
        rw [List.length_append, List.length_singleton] at hv5
        subst hv5
        refine hK.out _ _ (KS.out _ EN.out.1) (fun hHeld => ?_)
        clear hK K
        try simp only [Act.put, List.setIfInBounds_toArray, List.set_cons_zero, List.set_cons_succ]
        refine wpAnyL_one (i := 7) (by kernel_rfl) rfl (fun K hK => ?_)
        have o8 := keep6 EN.out.1 OC.out.1
        have f8 := (EN.out.1.frozen (p := ⟨wl.heap.size, 5, none⟩) OC.out.2.2).trans OC.out.2.1
        go_simp
        refine hK.out _ _ (KS.out _ EN.out.1) (fun hHeld => ?_)
        clear hK K
        try simp only [Act.put, List.setIfInBounds_toArray, List.set_cons_zero, List.set_cons_succ]
        refine wpAnyL_last (by kernel_rfl) rfl (by kernel_rfl) (fun K hK => ?_)
        go_simp
        refine hK.out _ _ ?_
        clear hK K
        refine NoPanic.normal ?_
        go_wp2_with fail
        go_meet
        exact ⟨_, _, w5, by rw [HQ.out.2]; try rfl, EN.out.1, by rw [HQ.out.2, HQ.out.1]; exact EN.out.2⟩

      · go_simp
        refine hK.out _ _ (KS.out _ AB.out.bel) (fun hHeld => ?_)
        clear hK K
        try simp only [Act.put, List.setIfInBounds_toArray, List.set_cons_zero, List.set_cons_succ]
        refine wpAnyL_one (i := 3) (by kernel_rfl) rfl (fun K hK => ?_)
        refine step_growN _ (by rfl) _ _ 23 23 (by rfl) rdAtm_good (by decide) (fun _ => True) wb.heap.size 49 49 i1 _ 40 Tryz.underlying23 Tryz.underlying23 hj hy0 hy1 hy2 rfl _ _ (by rfl) AB.out.g _ _ _ _ _ (by rfl) AB.out.x AB.out.s hm1 hm2 AB.out.bs ?_
        intro v3 w3 hG3 hg3 hm3
        have B3 := Lib.hid (mp_next AB.out hG3 hg3).2
        have Y2 := Lib.hid (mp2B AB.out hG3 hg3 hm3)
        obtain ⟨A3, c3', rfl, _, _⟩ := hG3.own
        clear hG3 hg3 hm3
        refine hK.out _ _ (KS.out _ B3.out) (fun hHeld => ?_)
        clear hK K
        try simp only [Act.put, List.setIfInBounds_toArray, List.set_cons_zero, List.set_cons_succ]
        refine wpAnyL_one (i := 6) (by kernel_rfl) rfl (fun K hK => ?_)
        refine step_growN _ (by rfl) _ _ 23 23 (by rfl) rdAtm_good (by decide) (fun _ => True) wb.heap.size 49 49 i1 _ 40 Tryz.underlying23 Tryz.underlying23 hj hy0 hy1 hy2 rfl _ _ (by rfl) Y2.out.g _ _ _ _ _ (by rfl) Y2.out.x Y2.out.s hm3' hm4 Y2.out.bs ?_
        intro v5 w5 hG5 hg5 _
        have EN := Lib.hid (mp_end Y2.out hG5 hg5)
        clear hG5 hg5
        obtain ⟨A5, c5, hv5, _⟩ := id EN.out.2
        simp only [List.cons.injEq, and_true] at hv5
        rw [List.length_append, List.length_singleton] at hv5
        subst hv5
        refine hK.out _ _ (KS.out _ EN.out.1) (fun hHeld => ?_)
        clear hK K
        try simp only [Act.put, List.setIfInBounds_toArray, List.set_cons_zero, List.set_cons_succ]
        refine wpAnyL_one (i := 7) (by kernel_rfl) rfl (fun K hK => ?_)
        have o8 := keep6 EN.out.1 OC.out.1
        have f8 := (EN.out.1.frozen (p := ⟨wl.heap.size, 5, none⟩) OC.out.2.2).trans OC.out.2.1
        go_simp
        refine hK.out _ _ (KS.out _ EN.out.1) (fun hHeld => ?_)
        clear hK K
        try simp only [Act.put, List.setIfInBounds_toArray, List.set_cons_zero, List.set_cons_succ]
        refine wpAnyL_last (by kernel_rfl) rfl (by kernel_rfl) (fun K hK => ?_)
        go_simp
        refine hK.out _ _ ?_
        clear hK K
        refine NoPanic.normal ?_
        go_wp2_with fail
        go_meet
        exact ⟨_, _, w5, by rw [HQ.out.2]; try rfl, EN.out.1, by rw [HQ.out.2, HQ.out.1]; exact EN.out.2⟩


    · go_simp
      refine hK.out _ _ (KS.out _ BC.out) (fun hHeld => ?_)
      clear hK K
      try simp only [Act.put, List.setIfInBounds_toArray, List.set_cons_zero, List.set_cons_succ]
      refine wpAnyL_one (i := 0) (by kernel_rfl) rfl (fun K hK => ?_)
      go_simp
      refine hK.out _ _ (KS.out _ AC.out.bel) (fun hHeld => ?_)
      clear hK K
      try simp only [Act.put, List.setIfInBounds_toArray, List.set_cons_zero, List.set_cons_succ]
      refine wpAnyL_one (i := 3) (by kernel_rfl) rfl (fun K hK => ?_)
      refine step_growN _ (by rfl) _ _ 23 23 (by rfl) rdAtm_good (by decide) (fun _ => True) wb.heap.size 49 49 i1 _ 40 Tryz.underlying23 Tryz.underlying23 hj hy0 hy1 hy2 rfl _ _ (by rfl) AC.out.g _ _ _ _ _ (by rfl) AC.out.x AC.out.s hm1 hm2 AC.out.bs ?_
      intro v3 w3 hG3 hg3 hm3
      have B3 := Lib.hid (mp_next AC.out hG3 hg3).2
      have Y2 := Lib.hid (mp2C AC.out hG3 hg3 hm3)
      obtain ⟨A3, c3', rfl, _, _⟩ := hG3.own
      clear hG3 hg3 hm3
      refine hK.out _ _ (KS.out _ B3.out) (fun hHeld => ?_)
      clear hK K
      try simp only [Act.put, List.setIfInBounds_toArray, List.set_cons_zero, List.set_cons_succ]
      refine wpAnyL_one (i := 6) (by kernel_rfl) rfl (fun K hK => ?_)
      refine step_growN _ (by rfl) _ _ 23 23 (by rfl) rdAtm_good (by decide) (fun _ => True) wb.heap.size 49 49 i1 _ 40 Tryz.underlying23 Tryz.underlying23 hj hy0 hy1 hy2 rfl _ _ (by rfl) Y2.out.g _ _ _ _ _ (by rfl) Y2.out.x Y2.out.s hm3' hm4 Y2.out.bs ?_
      intro v5 w5 hG5 hg5 _
      have EN := Lib.hid (mp_end Y2.out hG5 hg5)
      clear hG5 hg5
      obtain ⟨A5, c5, hv5, _⟩ := id EN.out.2
      simp only [List.cons.injEq, and_true] at hv5
      rw [List.length_append, List.length_singleton] at hv5
      subst hv5
      refine hK.out _ _ (KS.out _ EN.out.1) (fun hHeld => ?_)
      clear hK K
      try simp only [Act.put, List.setIfInBounds_toArray, List.set_cons_zero, List.set_cons_succ]
      refine wpAnyL_one (i := 7) (by kernel_rfl) rfl (fun K hK => ?_)
      have o8 := keep6 EN.out.1 OC.out.1
      have f8 := (EN.out.1.frozen (p := ⟨wl.heap.size, 5, none⟩) OC.out.2.2).trans OC.out.2.1
      go_simp
      refine hK.out _ _ (KS.out _ EN.out.1) (fun hHeld => ?_)
      clear hK K
      try simp only [Act.put, List.setIfInBounds_toArray, List.set_cons_zero, List.set_cons_succ]
      refine wpAnyL_last (by kernel_rfl) rfl (by kernel_rfl) (fun K hK => ?_)
      go_simp
      refine hK.out _ _ ?_
      clear hK K
      refine NoPanic.normal ?_
      go_wp2_with fail
      go_meet
      exact ⟨_, _, w5, by rw [HQ.out.2]; try rfl, EN.out.1, by rw [HQ.out.2, HQ.out.1]; exact EN.out.2⟩
  case rest =>
    obtain ⟨A5, c5, w5, hwc, hb5, hr5⟩ := hcut
    obtain ⟨w6, rfl⟩ : ∃ w6 : World, w6 = wc := ⟨_, rfl⟩
    have V5 := Lib.hid (VB.out.trans (hb5.mono VB.out.size))
    have hl1 : W1.heap.size ≤ wl.heap.size := VL.out.size
    have V6 := Lib.hid (show Below W1.heap.size W1 w6 by rw [hwc]; exact V5.out.setCell (p := ⟨wl.heap.size, 5, none⟩) hl1 _)
    have C6 := Lib.hid (B1.out.trans (V6.out.mono B1.out.size))
    have KC2 := Lib.hid (show w6.cell? ⟨wl.heap.size, 0, none⟩ = some (.string n) ∧ w6.cell? ⟨wl.heap.size, 1, none⟩ = some (.string v) ∧ w6.cell? ⟨wl.heap.size, 2, none⟩ = some (.slice A1 d.length c1) ∧ w6.cell? ⟨wl.heap.size, 3, none⟩ = some (.slice A2 r.length c2) ∧ w6.cell? ⟨wl.heap.size, 4, none⟩ = some (.slice A3 c.length c3) ∧ w6.cell? ⟨wl.heap.size, 5, none⟩ = some (.slice A5 q.length c5) from by
      obtain ⟨k0, k1, k2, k3, k4, k5⟩ := BC6.out
      have ho : ∀ i, i ≠ 5 → (⟨wl.heap.size, 5, none⟩ : Addr) ≠ ⟨wl.heap.size, i, none⟩ := fun i hi e => hi (congrArg Addr.off e).symm
      rw [hwc]
      exact ⟨set_ne (keep6 hb5 k0) (ho 0 (by decide)), set_ne (keep6 hb5 k1) (ho 1 (by decide)), set_ne (keep6 hb5 k2) (ho 2 (by decide)), set_ne (keep6 hb5 k3) (ho 3 (by decide)), set_ne (keep6 hb5 k4) (ho 4 (by decide)), World.cell?_setCell_same _ _ _ (keep6 hb5 k5)⟩)
    have HX2 := Lib.hid (show EntV w6 (lt_ w6.heap.size) ⟨n, v, d, r, c, q⟩ A1 c1 A2 c2 A3 c3 A5 c5 from ⟨(HX.out.on C6.out).d, (HX.out.on C6.out).r, (HX.out.on C6.out).c, by
      rw [hwc]
      exact rdAtms_good.both hr5 (fun b hb => heap_setCell_other _ _ _ _ (by have := hb.1; have := QB.out; show b ≠ wl.heap.size; omega)) fun b hb => by unfold lt_; rw [World.size_setCell]; exact hb.2⟩)
    obtain ⟨_, hcc5, hcm5, _⟩ := rdAtms_at HX2.out.p
    have hcm5' : c5 ≤ 9223372036854775807 := hcm5
    have HG1 := Lib.hid (show (gvs ⟨n, v, d, r, c, p⟩).length = p.length + 1 ∧ (gvs ⟨n, v, d, r, c, q⟩) = gvs ⟨n, v, d, r, c, p⟩ ++ [⟨mn, mo, mv⟩] ∧ (gvs ⟨n, v, d, r, c, p⟩)[0]? = some ⟨n, 3, v⟩ from ⟨rfl, by rw [HQ.out.1]; rfl, rfl⟩)
    have GX := Lib.hid (fun (W : World) (hb : Below w.heap.size w W) => gives6_any ⟨n, v, d, r, c, p⟩ A1 c1 A2 c2 A3 c3 A4 c4 W (HX.out.on hb) (by have := HP20.out; show p.length ≤ 1000; omega))
    have GX2 := Lib.hid (fun (W : World) (hb : Below w6.heap.size w6 W) => gives6_any ⟨n, v, d, r, c, q⟩ A1 c1 A2 c2 A3 c3 A5 c5 W (HX2.out.on hb) (by have := HP20.out; have := HQ.out.2; show q.length ≤ 1000; omega))
    have FXY := Lib.hid (fun (W : World) (hb : Below w.heap.size w W) => fights6_any ⟨n, v, d, r, c, p⟩ ⟨ny, vy, dy, ry, cy, py⟩ A1 c1 A2 c2 A3 c3 A4 c4 A1y c1y A2y c2y A3y c3y A4y c4y W (HX.out.on hb) (HY.out.on hb) (by have := HP20.out; show p.length ≤ 1000; omega) (by have := HQ20.out; show py.length ≤ 1000; omega) (HE.out.below hb))
    have FX2Y := Lib.hid (fun (W : World) (hb : Below w6.heap.size w6 W) => fights6_any ⟨n, v, d, r, c, q⟩ ⟨ny, vy, dy, ry, cy, py⟩ A1 c1 A2 c2 A3 c3 A5 c5 A1y c1y A2y c2y A3y c3y A4y c4y W (HX2.out.on hb) (HY.out.on (C6.out.trans (hb.mono C6.out.size))) (by have := HP20.out; have := HQ.out.2; show q.length ≤ 1000; omega) (by have := HQ20.out; show py.length ≤ 1000; omega) (HE.out.below (C6.out.trans (hb.mono C6.out.size))))
    have FYX2 := Lib.hid (fun (W : World) (hb : Below w6.heap.size w6 W) => fights6_any ⟨ny, vy, dy, ry, cy, py⟩ ⟨n, v, d, r, c, q⟩ A1y c1y A2y c2y A3y c3y A4y c4y A1 c1 A2 c2 A3 c3 A5 c5 W (HY.out.on (C6.out.trans (hb.mono C6.out.size))) (HX2.out.on hb) (by have := HQ20.out; show py.length ≤ 1000; omega) (by have := HP20.out; have := HQ.out.2; show q.length ≤ 1000; omega) (HE.out.below (C6.out.trans (hb.mono C6.out.size))))
    have FM := Lib.hid (show fgt ⟨n, v, d, r, c, p⟩ ⟨ny, vy, dy, ry, cy, py⟩ = true → fgt ⟨n, v, d, r, c, q⟩ ⟨ny, vy, dy, ry, cy, py⟩ = true ∧ fgt ⟨ny, vy, dy, ry, cy, py⟩ ⟨n, v, d, r, c, q⟩ = true from fun h => by rw [HQ.out.1]; exact fgt_more ⟨n, v, d, r, c, p⟩ ⟨ny, vy, dy, ry, cy, py⟩ ⟨mn, mo, mv⟩ h)
    generalize gvs ⟨n, v, d, r, c, p⟩ = g1 at *
    generalize gvs ⟨n, v, d, r, c, q⟩ = g2 at *
    generalize fgt ⟨n, v, d, r, c, p⟩ ⟨ny, vy, dy, ry, cy, py⟩ = f1 at *
    generalize fgt ⟨n, v, d, r, c, q⟩ ⟨ny, vy, dy, ry, cy, py⟩ = f2 at *
    generalize fgt ⟨ny, vy, dy, ry, cy, py⟩ ⟨n, v, d, r, c, q⟩ = f3 at *
    clear hwc hb5 hr5 hcc5 hcm5 KS AA AB AC BC BC6 OC V5 hl1 hwb hm1 hm2 hm3' hm4 x0 x1 x2 x3 x4 x5 y0 y1 y2 y3 y4 y5 z0 z1 z2
    have VC6 := Lib.hid (Below.refl w6.heap.size w6)
    obtain ⟨⟨x0, x1, x2, x3, x4, x5⟩, ⟨y0, y1, y2, y3, y4, y5⟩, ⟨z0, z1, z2⟩⟩ := KC.out _ V6.out
    go_wp2_with fail
    refine (GX.out _ C6.out).mono ?_
    rintro e w7 ⟨⟨Ag, cg, rfl, hg⟩, hb⟩
    have V7 := Lib.hid (V6.out.trans (hb.mono V6.out.size))
    have C7 := Lib.hid (C6.out.trans (hb.mono C6.out.size))
    have VC7 := Lib.hid hb
    have HG := Lib.hid hg
    clear hb hg x0 x1 x2 x3 x4 x5 y0 y1 y2 y3 y4 y5 z0 z1 z2
    have k0 := keep6 VC7.out KC2.out.1
    have k1 := keep6 VC7.out KC2.out.2.1
    have k2 := keep6 VC7.out KC2.out.2.2.1
    have k3 := keep6 VC7.out KC2.out.2.2.2.1
    have k4 := keep6 VC7.out KC2.out.2.2.2.2.1
    have k5 := keep6 VC7.out KC2.out.2.2.2.2.2
    go_wp2_with fail
    refine (GX2.out _ VC7.out).mono ?_
    rintro e w8 ⟨⟨Ah, ch, rfl, hh⟩, hb⟩
    have V8 := Lib.hid (V7.out.trans (hb.mono V7.out.size))
    have C8 := Lib.hid (C7.out.trans (hb.mono C7.out.size))
    have VC8 := Lib.hid (VC7.out.trans (hb.mono VC7.out.size))
    have RG := Lib.hid (show rdAtms w8 (lt_ w8.heap.size) g1 [.slice Ag g1.length cg] from rdAtms_good.both HG.out (fun b h => hb.block b h.2) fun b h => Nat.lt_of_lt_of_le h.2 hb.size)
    have RH := Lib.hid (show rdAtms w8 (lt_ w8.heap.size) g2 [.slice Ah g2.length ch] from rdAtms_good.more hh fun b h => h.2)
    clear hb hh k0 k1 k2 k3 k4 k5 HG GX GX2
    have l1 := HG1.out.1
    have l2 : g2.length = g1.length + 1 := by rw [HG1.out.2.1, List.length_append]; rfl
    obtain ⟨-, hcg, hcgm, hag⟩ := rdAtms_at RG.out
    obtain ⟨-, hch, hchm, hah⟩ := rdAtms_at RH.out
    obtain ⟨ag, rfl, -, a0, a1, a2⟩ := hag 0 (by omega)
    obtain ⟨ah, rfl, -, e0, e1, e2⟩ := hah g1.length (by omega)
    have ge0 : g1[0]'(by omega) = ⟨n, 3, v⟩ := by have := HG1.out.2.2; rw [List.getElem?_eq_getElem (by omega)] at this; injection this
    have ge1 : g2[g1.length]'(by omega) = ⟨mn, mo, mv⟩ := by
      have : g2[g1.length]? = some ⟨mn, mo, mv⟩ := by rw [HG1.out.2.1, List.getElem?_append_right (Nat.le_refl _), Nat.sub_self]; rfl
      rw [List.getElem?_eq_getElem (by omega)] at this; injection this
    rw [ge0, Nat.zero_mul, Addr.add_zero'] at a0 a1 a2
    rw [ge1] at e0 e1 e2
    have KSA := Lib.hid (fun (nq : Nat) => by
      have hT : rdAtms w8 (lt_ w8.heap.size) (g2.take g1.length) [.slice (some ah) g1.length ch] := rdAtms_take6 RH.out (by omega)
      have hE : g2.take g1.length = g1 := by rw [HG1.out.2.1, List.take_left]
      have := sameAtoms6_any (some ah) (some ag) g1.length ch g1.length cg (g2.take g1.length) g1 (w8.drewN nq) (rdAtms_good.below hT (belD (Below.refl _ _) nq)) (rdAtms_good.below RG.out (belD (Below.refl _ _) nq))
      rw [decide_eq_true hE] at this
      exact this)
    have hP20 := HP20.out
    have hW1 : IntKind.i64.wrap ((p.length : Int) + 1) = (g1.length : Int) := by rw [IntWalk.i64_in _ (by omega)]; omega
    have hW2 : IntKind.i64.wrap ((g1.length : Int) + 1) = (g2.length : Int) := by rw [IntWalk.i64_in _ (by omega)]; omega
    have eq1 : ∀ W : World, (Op.equalIn 10000 49 (.agg #[.string n, .int .i64 3, .string v]) (.agg #[.string n, .int .i64 3, .string v])).run Tryz.prog W = .ok true W := fun W => by have := neq_atm ⟨n, 3, v⟩ ⟨n, 3, v⟩ W; rw [decide_eq_true rfl] at this; exact this
    have eq2 : ∀ W : World, (Op.equalIn 10000 49 (.agg #[.string mn, .int .i64 mo, .string mv]) (.agg #[.string mn, .int .i64 mo, .string mv])).run Tryz.prog W = .ok true W := fun W => by have := neq_atm ⟨mn, mo, mv⟩ ⟨mn, mo, mv⟩ W; rw [decide_eq_true rfl] at this; exact this
    have i0 : (0 : Int) < (g1.length : Int) := by omega
    have i1' : (g1.length : Int) < (g2.length : Int) := by omega
    have i2 : (g1.length : Int) ≤ (ch : Int) := by omega
    have i3 : g1.length ≤ ch := by omega
    have i4 : (0 : Int) ≤ (g1.length : Int) := by omega
    have i5 : (g1.length : Int) ≤ (g2.length : Int) := by omega
    have hch' : ch ≤ 9223372036854775807 := hchm
    have hcg' : cg ≤ 9223372036854775807 := hcgm
    clear hag hah ge0 ge1 RG RH l1 l2 hchm hcgm hP20 hcg hch HG1
    have n0 : 0 < g1.length := by omega
    generalize g1.length = lg at *
    generalize g2.length = lh at *
    obtain ⟨⟨x0, x1, x2, x3, x4, x5⟩, ⟨y0, y1, y2, y3, y4, y5⟩, ⟨z0, z1, z2⟩⟩ := KC.out _ V8.out
    go_wp2_with fail
    go_quiet (first | (go_at_call 24; refine Calls.quiet_of (KSA.out _)))
    clear KSA a0 a1 a2 e0 e1 e2 eq1 eq2 hW1 hW2 i0 i1' i2 i3 i4 i5 hch' hcg' n0
    go_wp2_with fail
    refine (FXY.out _ (belD C8.out _)).mono ?_
    rintro e w9 ⟨rfl, hb⟩
    have V9 := Lib.hid (show Below W1.heap.size W1 w9 from (belD V8.out _).trans (hb.mono (belD V8.out _).size))
    have C9 := Lib.hid (show Below w.heap.size w w9 from (belD C8.out _).trans (hb.mono (belD C8.out _).size))
    have VC9 := Lib.hid (show Below w6.heap.size w6 w9 from (belD VC8.out _).trans (hb.mono (belD VC8.out _).size))
    clear hb x0 x1 x2 x3 x4 x5 y0 y1 y2 y3 y4 y5 z0 z1 z2
    cases f1
    · go_wp2
      go_ret
      exact ⟨rfl, C9.out⟩
    obtain ⟨rfl, rfl⟩ := FM.out rfl
    obtain ⟨⟨x0, x1, x2, x3, x4, x5⟩, ⟨y0, y1, y2, y3, y4, y5⟩, ⟨z0, z1, z2⟩⟩ := KC.out _ V9.out
    have k0 := keep6 VC9.out KC2.out.1
    have k1 := keep6 VC9.out KC2.out.2.1
    have k2 := keep6 VC9.out KC2.out.2.2.1
    have k3 := keep6 VC9.out KC2.out.2.2.2.1
    have k4 := keep6 VC9.out KC2.out.2.2.2.2.1
    have k5 := keep6 VC9.out KC2.out.2.2.2.2.2
    go_wp2_with fail
    refine (FX2Y.out _ VC9.out).mono ?_
    rintro e w10 ⟨rfl, hb⟩
    have V10 := Lib.hid (V9.out.trans (hb.mono V9.out.size))
    have C10 := Lib.hid (C9.out.trans (hb.mono C9.out.size))
    have VC10 := Lib.hid (VC9.out.trans (hb.mono VC9.out.size))
    clear hb k0 k1 k2 k3 k4 k5 x0 x1 x2 x3 x4 x5 y0 y1 y2 y3 y4 y5 z0 z1 z2
    obtain ⟨⟨x0, x1, x2, x3, x4, x5⟩, ⟨y0, y1, y2, y3, y4, y5⟩, ⟨z0, z1, z2⟩⟩ := KC.out _ V10.out
    have k0 := keep6 VC10.out KC2.out.1
    have k1 := keep6 VC10.out KC2.out.2.1
    have k2 := keep6 VC10.out KC2.out.2.2.1
    have k3 := keep6 VC10.out KC2.out.2.2.2.1
    have k4 := keep6 VC10.out KC2.out.2.2.2.2.1
    have k5 := keep6 VC10.out KC2.out.2.2.2.2.2
    go_wp2_with fail
    refine (FYX2.out _ VC10.out).mono ?_
    rintro e w11 ⟨rfl, hb⟩
    have C11 := Lib.hid (C10.out.trans (hb.mono C10.out.size))
    clear hb k0 k1 k2 k3 k4 k5 x0 x1 x2 x3 x4 x5 y0 y1 y2 y3 y4 y5 z0 z1 z2
    go_wp2
    go_ret
    exact ⟨rfl, C11.out⟩

theorem contract (H : Type) (enc : TypeId × Value → H) (W : World) (base : Nat) (args : Array Value) (ds gs : List (DataW H)) (before : List MemPlace)
    (hval : ∀ (j : Nat) t v, Tryz.f6.params[j]? = some t → args[j]? = some v → Value.okWide Tryz.prog W .any base t v)
    (hW : DataW.Whole enc Tryz.prog Tryz.f6.params.toList Rows.entryGivesSpec.vars false W args.toList ds gs before) (E : EnvR W) :
    Calls Tryz.prog 6 args W fun e W' => ∃ v, e = .returned v ∧ Rows.entryGivesSpec.post enc Tryz.prog Tryz.f6 false true false false W args v W' := by
  have hW' := hW
  obtain ⟨p, q, hA0, _, _, _, _⟩ := hW
  have hA : DataW.TrodAll enc Tryz.prog W 0 (fun _ => true) true Tryz.f6.params.toList args.toList ds p := hA0
  rw [Tryz.params6] at hA hval
  obtain ⟨v0, vs0, d0, ds0, p0, q0, hargs, rfl, rfl, h0, r0⟩ := trodAll_cons hA
  obtain ⟨v1, vs1, d1, ds1, p1, q1, rfl, rfl, rfl, h1, r1⟩ := trodAll_cons r0
  obtain ⟨v2, vs2, d2, ds2, p2, q2, rfl, rfl, rfl, h2, r2⟩ := trodAll_cons r1
  obtain ⟨rfl, rfl, rfl⟩ := trodAll_nil r2
  obtain rfl : args = #[v0, v1, v2] := by cases args; simp_all
  obtain ⟨x0, A10, c10, A20, c20, A30, c30, A40, c40, rfl, hr0, hk0⟩ := open_ent_arg (hval 0 25 v0 rfl rfl) h0
  obtain ⟨x1, A11, c11, A21, c21, A31, c31, A41, c41, rfl, hr1, hk1⟩ := open_ent_arg (hval 1 25 v1 rfl rfl) h1
  obtain ⟨n2, e2, r2', rfl, wn2, w2, wr2⟩ := open_atom_arg (hval 2 49 v2 rfl rfl) h2
  refine (walk x0 A10 c10 A20 c20 A30 c30 A40 c40 x1 A11 c11 A21 c21 A31 c31 A41 c41 n2 e2 r2' W hr0 hk0 hr1 hk1 wn2 w2 wr2 E).mono fun e W' ⟨he, hb⟩ => ?_
  subst he
  refine ⟨_, rfl, law_post hW' rfl rfl rfl rfl rfl Tryz.underlying4 laid_out ?_ hb⟩
  rw [Tryz.params6]
  intro t ht
  simp at ht
  rcases ht with rfl | rfl | rfl <;> exact ⟨by kernel_rfl, of_decide_eq_true (by kernel_rfl)⟩

theorem reads (os : Os) {H : Type} (enc : TypeId × Value → H) : ∃ x, DataW.whole enc Tryz.prog ((World.laidAll Tryz.prog os laidL).forCall (fun _ _ => 0) ⟨#[], #[.agg #[.string ⟨#[]⟩, .string ⟨#[]⟩, .slice none 0 0, .slice none 0 0, .slice none 0 0, .slice none 0 0], .agg #[.string ⟨#[]⟩, .string ⟨#[]⟩, .slice none 0 0, .slice none 0 0, .slice none 0 0, .slice none 0 0], .agg #[.string ⟨#[]⟩, .int .i64 0, .string ⟨#[]⟩]], []⟩).memory Tryz.f6.params.toList Rows.entryGivesSpec.vars false ((#[.agg #[.string ⟨#[]⟩, .string ⟨#[]⟩, .slice none 0 0, .slice none 0 0, .slice none 0 0, .slice none 0 0], .agg #[.string ⟨#[]⟩, .string ⟨#[]⟩, .slice none 0 0, .slice none 0 0, .slice none 0 0, .slice none 0 0], .agg #[.string ⟨#[]⟩, .int .i64 0, .string ⟨#[]⟩]] : Array Value)).toList 8 = some x :=
  Option.isSome_iff_exists.1 (by kernel_rfl)
theorem readsSized (os : Os) {H : Type} (enc : TypeId × Value → H) : (OpenSpec.ofChange Rows.entryGivesSpec).bare.sizedB enc Tryz.prog Tryz.f6 false ((World.laidAll Tryz.prog os laidL).forCall (fun _ _ => 0) ⟨#[], #[.agg #[.string ⟨#[]⟩, .string ⟨#[]⟩, .slice none 0 0, .slice none 0 0, .slice none 0 0, .slice none 0 0], .agg #[.string ⟨#[]⟩, .string ⟨#[]⟩, .slice none 0 0, .slice none 0 0, .slice none 0 0, .slice none 0 0], .agg #[.string ⟨#[]⟩, .int .i64 0, .string ⟨#[]⟩]], []⟩).memory #[.agg #[.string ⟨#[]⟩, .string ⟨#[]⟩, .slice none 0 0, .slice none 0 0, .slice none 0 0, .slice none 0 0], .agg #[.string ⟨#[]⟩, .string ⟨#[]⟩, .slice none 0 0, .slice none 0 0, .slice none 0 0, .slice none 0 0], .agg #[.string ⟨#[]⟩, .int .i64 0, .string ⟨#[]⟩]] 8 = true := by kernel_rfl
theorem okWit (os : Os) : Input.okWideB Tryz.prog ((World.laidAll Tryz.prog os laidL).forCall (fun _ _ => 0) ⟨#[], #[.agg #[.string ⟨#[]⟩, .string ⟨#[]⟩, .slice none 0 0, .slice none 0 0, .slice none 0 0, .slice none 0 0], .agg #[.string ⟨#[]⟩, .string ⟨#[]⟩, .slice none 0 0, .slice none 0 0, .slice none 0 0, .slice none 0 0], .agg #[.string ⟨#[]⟩, .int .i64 0, .string ⟨#[]⟩]], []⟩) 6 ⟨#[], #[.agg #[.string ⟨#[]⟩, .string ⟨#[]⟩, .slice none 0 0, .slice none 0 0, .slice none 0 0, .slice none 0 0], .agg #[.string ⟨#[]⟩, .string ⟨#[]⟩, .slice none 0 0, .slice none 0 0, .slice none 0 0, .slice none 0 0], .agg #[.string ⟨#[]⟩, .int .i64 0, .string ⟨#[]⟩]], []⟩ = true := by kernel_rfl
theorem lifted (os : Os) (started : os.Started) (H : Type) (enc : TypeId × Value → H) (F : Stop.Interp) :
    ReturnsInHanded {} Tryz.checked os 6 .any ((OpenSpec.ofChange Rows.entryGivesSpec).preRow enc Tryz.prog Tryz.f6 Rows.entryGivesRow.domain false Rows.entryGivesRow.laid) (((OpenSpec.ofChange Rows.entryGivesSpec).at F).post enc Tryz.prog Tryz.f6 false true false false) := by
  obtain ⟨x, hx⟩ := reads os enc
  have hz := readsSized os enc
  refine returnsInHanded_of_row (C := Tryz.checked) (s := OpenSpec.ofChange Rows.entryGivesSpec) own' started (by kernel_rfl) Tryz.func6
    ⟨World.laidAll Tryz.prog os laidL, fun _ _ => 0, ⟨#[], #[.agg #[.string ⟨#[]⟩, .string ⟨#[]⟩, .slice none 0 0, .slice none 0 0, .slice none 0 0, .slice none 0 0], .agg #[.string ⟨#[]⟩, .string ⟨#[]⟩, .slice none 0 0, .slice none 0 0, .slice none 0 0, .slice none 0 0], .agg #[.string ⟨#[]⟩, .int .i64 0, .string ⟨#[]⟩]], []⟩, door_os os, door_shaped os _, (Input.okWide_of_okWideB (base := 0) (okWit os)).1, (Input.okWide_of_okWideB (okWit os)).2,
      OpenSpec.preRow_of_cond 8 hx rfl (fun k hk => by cases hk) hz (door_met os _), by
        simp only [Assume.holds]
        exact ⟨by simp, by simp, fun _ => Modest.zero, by simp, by simp⟩⟩ ?_
  intro W base args ds gs before hval hW _ _ _ hL hsh _
  exact contract H enc W base args ds gs before hval hW (env_of hL hsh)

theorem said : Rows.EntryGivesSaid :=
  OpenClaim.holds_of_cond 6 Tryz.f6 rfl rfl rfl rfl rfl rfl rfl ⟨rfl, rfl, rfl, rfl, rfl⟩ rfl rfl rfl rfl rfl (by kernel_rfl) Tryz.func6 (by kernel_rfl)
    (of_decide_eq_true (by kernel_rfl)) (by unfold Func.isWrapper; first | (rw [if_pos (by decide +kernel)]; kernel_rfl) | (rw [if_neg (by decide +kernel)]; exact ⟨rfl, rfl⟩))
    (fun os started H enc _ F => by rw [OpenClaim.pre_eq_preRow]; exact lifted os started H enc F)

theorem proved : Rows.EntryGivesCardSaid :=
  Claim7.holds_tied_plain_at .later [] _ _ _ _ said (fun _ h => by cases h) (by kernel_rfl) (fun _ h => by cases h) entryGives_row_tie rfl ⟨rfl, rfl⟩ (by kernel_rfl) rfl
    (fun f fn hf hfn => by
      obtain rfl : f = 6 := Option.some.inj ((show Tryz.prog.funcNamed "keelson/keelsonlaw6.EntryGives" = some 6 by kernel_rfl).symm.trans hf) |>.symm
      obtain rfl : fn = Tryz.f6 := (Option.some.inj (Tryz.func6.symm.trans hfn)).symm
      exact ⟨by kernel_rfl, fun j t ht => by
        rw [Tryz.params6] at ht
        have hm : t ∈ [25, 49] := by have := Array.mem_of_getElem? ht; simp at this; simp [this]
        have hall : ([25, 49].all fun u => !Tryz.prog.wantsStandIn u) = true := by kernel_rfl
        exact (show Tryz.prog.wantsStandIn t = false by simpa using List.all_eq_true.1 hall t hm)⟩)
    (by kernel_rfl)
#print axioms proved
end Go.Proofs.YtmlakjemgmeffaaGreatDoor.entryGives
