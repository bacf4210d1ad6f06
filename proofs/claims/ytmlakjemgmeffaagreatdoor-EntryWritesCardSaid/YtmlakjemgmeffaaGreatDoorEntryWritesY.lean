/- keelsonlaw6.EntryWrites: called with any arguments that can be read it returns true, and its arguments read as before. Condition: the library variables that the row lists hold what the program text lays in them, which the card ties to that text. -/
import Derived.Test.YtmlakjemgmeffaaGreatDoorQAP
import Derived.Test.YtmlakjemgmeffaaGreatDoorQAQ
import Derived.Test.YtmlakjemgmeffaaGreatDoorE6dY
import Derived.Test.YtmlakjemgmeffaaGreatDoorNE
import Derived.Test.YtmlakjemgmeffaaGreatDoorQAR
import Derived.Test.YtmlakjemgmeffaaGreatDoorND
import Derived.WalkKit
import Derived.ProofKit
import Derived.OpenShut
import Derived.SevenTiedAt
import Derived.Outline
set_option maxRecDepth 100000
set_option linter.unusedVariables false
set_option linter.unusedSimpArgs false
namespace Go.Proofs.YtmlakjemgmeffaaGreatDoor.entryWrites
open Go.ChangeShapes Go.WideShapes Go.ChangeAt Go.RowKit
set_option maxHeartbeats 16000000 in
theorem walk (x : Ent) (A1 : Option Addr) (c1 : Nat) (A2 : Option Addr) (c2 : Nat) (A3 : Option Addr) (c3 : Nat) (A4 : Option Addr) (c4 : Nat) (A : Option Addr) (m cc : Nat) (l : List Ent) (w : World) (hx : EntV w (lt_ w.heap.size) x A1 c1 A2 c2 A3 c3 A4 c4) (_ : EntOk x) (hl : rdEnts w (lt_ w.heap.size) l [.slice A m cc]) (_ : ∀ x ∈ l, EntOk x) (E : EnvR w) :
    Calls Tryz.prog 3 #[x.val A1 c1 A2 c2 A3 c3 A4 c4, .slice A m cc] w fun e w' => e = .returned (.bool true) ∧ Below w.heap.size w w' := by
  have HE := Lib.hid E
  have S := Lib.hid (fun w E => shown6_any w E)
  obtain ⟨rfl, hnc, hcm, -⟩ := rdEnts_at hl
  have hcm' : cc ≤ 9223372036854775807 := hcm
  have HX := Lib.hid hx
  have HL := Lib.hid hl
  have KX1 := Lib.hid (fun (W : World) (hb : Below w.heap.size w W) => small6_any x A1 c1 A2 c2 A3 c3 A4 c4 W (hx.on hb))
  have KX2 := Lib.hid (fun (W : World) (hb : Below w.heap.size w W) => few6_any A l.length cc l W (rdEnts_good.up (rdEnts_good.below hl hb) hb.size))
  have KRp := Lib.hid (fun (W : World) (hb : Below w.heap.size w W) => eright_any x A1 c1 A2 c2 A3 c3 A4 c4 W (HX.out.on hb) (HE.out.below hb))
  have KRd := Lib.hid (fun (hs : Sm x) (W : World) (hb : Below w.heap.size w W) => q6right_any q3name_any q4r_atom q4right_any x A1 c1 A2 c2 A3 c3 A4 c4 W (HX.out.on hb) hs.sz)
  have KWp := Lib.hid (fun (W : World) (hb : Below w.heap.size w W) => ewrite_any x A1 c1 A2 c2 A3 c3 A4 c4 W (HX.out.on hb) (HE.out.below hb))
  have KWd := Lib.hid (fun (hs : Sm x) (W : World) (hb : Below w.heap.size w W) => q6write_any q3name_any q4r_atom q4right_any q4print_any q4join_any x A1 c1 A2 c2 A3 c3 A4 c4 W (HX.out.on hb) hs.sz)
  have KPp := Lib.hid (fun (hs : Fw l) (W : World) (hb : Below w.heap.size w W) => by have := eprint_any A l.length cc l W (rdEnts_good.up (rdEnts_good.below HL.out hb) hb.size) (HE.out.below hb); rw [prE_doc hs.2] at this; exact this)
  have KPd := Lib.hid (fun (hs : Fw l) (W : World) (hb : Below w.heap.size w W) => q6print_any q3name_any q4r_atom q4right_any q4print_any q4join_any prD Sml q5print_any A l.length cc l W (rdEnts_good.up (rdEnts_good.below HL.out hb) hb.size) (Nat.le_trans hs.1 (by decide)) (fun x hx => (hs.2 x hx).sz) (fun _ h64 => sml_wr hs.2 h64))
  clear hx hl hcm E
  generalize wrE x = LE at *
  generalize rgtE x = br at *
  generalize prE prD l = T at *
  generalize Sm x = S1 at *
  generalize Fw l = S2 at *
  have hbb : (br == br) = true := by cases br <;> rfl
  have hst : (T.toList == T.toList) = true := by rw [str_eq]; exact decide_eq_true rfl
  obtain ⟨n, v, d, r, c, p⟩ := x
  show Calls Tryz.prog 3 #[.agg #[.string n, .string v, .slice A1 d.length c1, .slice A2 r.length c2, .slice A3 c.length c3, .slice A4 p.length c4], .slice A l.length cc] w _
  obtain ⟨W1, hW1⟩ : ∃ W, W = (w.alloc (.cells #[.string n, .string v, .slice A1 d.length c1, .slice A2 r.length c2, .slice A3 c.length c3, .slice A4 p.length c4] 25)) := ⟨_, rfl⟩
  have B1 := Lib.hid (show Below w.heap.size w W1 by rw [hW1]; exact (Below.refl _ w).alloc (Nat.le_refl _) _)
  have KC := Lib.hid (fun (W : World) (hb : Below W1.heap.size W1 W) => (show W.cell? ⟨w.heap.size, 0, none⟩ = some (.string n) ∧ W.cell? ⟨w.heap.size, 1, none⟩ = some (.string v) ∧ W.cell? ⟨w.heap.size, 2, none⟩ = some (.slice A1 d.length c1) ∧ W.cell? ⟨w.heap.size, 3, none⟩ = some (.slice A2 r.length c2) ∧ W.cell? ⟨w.heap.size, 4, none⟩ = some (.slice A3 c.length c3) ∧ W.cell? ⟨w.heap.size, 5, none⟩ = some (.slice A4 p.length c4) from by
    refine ⟨?_, ?_, ?_, ?_, ?_, ?_⟩ <;> exact keep6 hb (by rw [hW1]; simp [go_sem])))
  go_enter Tryz.func3, Tryz.ntmps3
  go_wp2_with fail
  rw [← hW1]
  clear hW1
  refine (S.out _ (HE.out.below B1.out)).mono ?_
  rintro e w1 ⟨rfl, hb⟩
  have V1 := Lib.hid hb
  have C1 := Lib.hid (B1.out.trans (hb.mono B1.out.size))
  clear hb
  obtain ⟨x0, x1, x2, x3, x4, x5⟩ := KC.out _ V1.out
  go_wp2_with fail
  refine (KX1.out _ C1.out).mono ?_
  rintro e w2 ⟨⟨b1, rfl, hs1⟩, hb⟩
  have V2 := Lib.hid (V1.out.trans (hb.mono V1.out.size))
  have C2 := Lib.hid (C1.out.trans (hb.mono C1.out.size))
  have HS1 := Lib.hid hs1
  clear hb hs1 x0 x1 x2 x3 x4 x5
  go_wp2_with fail
  refine (KX2.out _ C2.out).mono ?_
  rintro e w3 ⟨⟨b2, rfl, hs2⟩, hb⟩
  have V3' := Lib.hid (V2.out.trans (hb.mono V2.out.size))
  have C3 := Lib.hid (C2.out.trans (hb.mono C2.out.size))
  have HS2 := Lib.hid hs2
  clear hb hs2
  cases b1
  · go_wp2
    go_ret
    exact ⟨rfl, C3.out⟩
  cases b2
  · go_wp2
    go_ret
    exact ⟨rfl, C3.out⟩
  obtain ⟨V3, hV3⟩ : ∃ V3, V3 = w3.drew := ⟨_, rfl⟩
  have BV := Lib.hid (show Below w3.heap.size w3 V3 by rw [hV3]; exact belD (Below.refl _ _) 1)
  have VV := Lib.hid (V3'.out.trans (BV.out.mono V3'.out.size))
  have CV := Lib.hid (C3.out.trans (BV.out.mono C3.out.size))
  have KS := Lib.hid (fun (W : World) (hb : Below V3.heap.size V3 W) => KC.out W (VV.out.trans (hb.mono VV.out.size)))
  have TR := Lib.hid (fun (W : World) (hb : Below V3.heap.size V3 W) => (show Below w.heap.size w W from CV.out.trans (hb.mono CV.out.size)))
  have KRp := Lib.hid (fun (W : World) (hb : Below V3.heap.size V3 W) => KRp.out W (TR.out W hb))
  have KRd := Lib.hid (fun (W : World) (hb : Below V3.heap.size V3 W) => KRd.out (HS1.out rfl) W (TR.out W hb))
  have KWp := Lib.hid (fun (W : World) (hb : Below V3.heap.size V3 W) => KWp.out W (TR.out W hb))
  have KWd := Lib.hid (fun (W : World) (hb : Below V3.heap.size V3 W) => KWd.out (HS1.out rfl) W (TR.out W hb))
  have KPp := Lib.hid (fun (W : World) (hb : Below V3.heap.size V3 W) => KPp.out (HS2.out rfl) W (TR.out W hb))
  have KPd := Lib.hid (fun (W : World) (hb : Below V3.heap.size V3 W) => KPd.out (HS2.out rfl) W (TR.out W hb))
  go_wp2_with fail
  refine wp_region_noPanic ?_
  refine wp_region_L (fun W => W.cell? ⟨w.heap.size, 0, none⟩ = some (.string n) ∧ W.cell? ⟨w.heap.size, 1, none⟩ = some (.string v) ∧ W.cell? ⟨w.heap.size, 2, none⟩ = some (.slice A1 d.length c1) ∧ W.cell? ⟨w.heap.size, 3, none⟩ = some (.slice A2 r.length c2) ∧ W.cell? ⟨w.heap.size, 4, none⟩ = some (.slice A3 c.length c3) ∧ W.cell? ⟨w.heap.size, 5, none⟩ = some (.slice A4 p.length c4)) 19 (by kernel_rfl) (by rw [← hV3]; exact KS.out V3 (Below.refl _ _)) (fun hHeld => ?_)
  rw [← hV3] at hHeld ⊢
  clear hV3
  refine wpAnyL_take (i := 0) (v := ?_) [18, 17, 16, 14, 12, 10, 9, 7, 5, 3, 1] rfl (by kernel_rfl) (by kernel_rfl) (by kernel_rfl) (fun _ _ _ h => h) (by kernel_rfl) (by kernel_rfl) (by kernel_rfl) (Or.inl ⟨by rfl, ?_⟩) (by assumption) ?_
  rotate_left
  · intro w hSw
    try dsimp only at hSw
    go_simp
    first | done | with_reducible rfl
  try simp only [Act.put, List.setIfInBounds_toArray, List.set_cons_zero, List.set_cons_succ]
  refine wpAnyL_take (i := 2) (v := ?_) [18, 17, 16, 14, 12, 10, 9, 7, 5, 3] rfl (by kernel_rfl) (by kernel_rfl) (by kernel_rfl) (fun _ _ _ h => h) (by kernel_rfl) (by kernel_rfl) (by kernel_rfl) (Or.inl ⟨by rfl, ?_⟩) (by assumption) ?_
  rotate_left
  · intro w hSw
    try dsimp only at hSw
    go_simp
    first | done | with_reducible rfl
  try simp only [Act.put, List.setIfInBounds_toArray, List.set_cons_zero, List.set_cons_succ]
  have HB3 := Lib.hid (Below.refl V3.heap.size V3)
  refine wpAnyL_one (i := 1) (by kernel_rfl) rfl (fun K hK => ?_)
  go_simp
  refine (KRp.out V3 HB3.out).mono ?_
  rintro e w4 ⟨rfl, hb⟩
  have HB4 := Lib.hid (HB3.out.trans (hb.mono HB3.out.size))
  clear hb
  go_wp2_with fail
  refine hK.out _ _ (KS.out _ HB4.out) (fun hHeld => ?_)
  clear hK K
  try simp only [Act.put, List.setIfInBounds_toArray, List.set_cons_zero, List.set_cons_succ]
  refine wpAnyL_one (i := 3) (by kernel_rfl) rfl (fun K hK => ?_)
  go_simp
  refine (KRd.out _ HB4.out).mono ?_
  rintro e w5 ⟨rfl, hb⟩
  have HB5 := Lib.hid (HB4.out.trans (hb.mono HB4.out.size))
  clear hb
  go_wp2_with fail
  refine hK.out _ _ (KS.out _ HB5.out) (fun hHeld => ?_)
  clear hK K
  try simp only [Act.put, List.setIfInBounds_toArray, List.set_cons_zero, List.set_cons_succ]
  refine wpAnyL_one (i := 4) (by kernel_rfl) rfl (fun K hK => ?_)
  go_simp
  refine hK.out _ _ (KS.out _ HB5.out) (fun hHeld => ?_)
  clear hK K
  try simp only [Act.put, List.setIfInBounds_toArray, List.set_cons_zero, List.set_cons_succ]
  refine wpAnyL_one (i := 5) (by kernel_rfl) rfl (fun K hK => ?_)
  go_simp
  refine hK.out _ _ (KS.out _ HB5.out) (fun hHeld => ?_)
  clear hK K
  try simp only [Act.put, List.setIfInBounds_toArray, List.set_cons_zero, List.set_cons_succ]
  refine wpAnyL_take (i := 6) (v := ?_) [18, 17, 16, 14, 12, 10, 9, 7] rfl (by kernel_rfl) (by kernel_rfl) (by kernel_rfl) (fun _ _ _ h => h) (by kernel_rfl) (by kernel_rfl) (by kernel_rfl) (Or.inl ⟨by rfl, ?_⟩) (by assumption) ?_
  rotate_left
  · intro w hSw
    try dsimp only at hSw
    go_simp
    first | done | with_reducible rfl
  try simp only [Act.put, List.setIfInBounds_toArray, List.set_cons_zero, List.set_cons_succ]
  refine wpAnyL_take (i := 8) (v := ?_) [18, 17, 16, 14, 12, 10, 9] rfl (by kernel_rfl) (by kernel_rfl) (by kernel_rfl) (fun _ _ _ h => h) (by kernel_rfl) (by kernel_rfl) (by kernel_rfl) (Or.inl ⟨by rfl, ?_⟩) (by assumption) ?_
  rotate_left
  · intro w hSw
    try dsimp only at hSw
    go_simp
    first | done | with_reducible rfl
  try simp only [Act.put, List.setIfInBounds_toArray, List.set_cons_zero, List.set_cons_succ]
  refine wpAnyL_one (i := 7) (by kernel_rfl) rfl (fun K hK => ?_)
  go_simp
  refine (KWp.out _ HB5.out).mono ?_
  rintro e w6 ⟨⟨Aw, cw, rfl, hrw⟩, hb⟩
  have R6 := Lib.hid (show rdFds w6 (lt_ w6.heap.size) LE [.slice Aw LE.length cw] from rdFds_good.more hrw fun b hb => hb.2)
  clear hrw
  have HB6 := Lib.hid (HB5.out.trans (hb.mono HB5.out.size))
  clear hb
  go_wp2_with fail
  refine hK.out _ _ (KS.out _ HB6.out) (fun hHeld => ?_)
  clear hK K
  try simp only [Act.put, List.setIfInBounds_toArray, List.set_cons_zero, List.set_cons_succ]
  refine wpAnyL_one (i := 9) (by kernel_rfl) rfl (fun K hK => ?_)
  go_simp
  refine (KWd.out _ HB6.out).mono ?_
  rintro e w7 ⟨⟨Ax, cx, rfl, hrx⟩, hb⟩
  have SF := Lib.hid (sf6_self Aw Ax LE.length cw LE.length cx LE w7 (rdFds_good.up (rdFds_good.below R6.out hb) hb.size) (rdFds_good.more hrx fun b hb => hb.2))
  clear hrx
  have HB7 := Lib.hid (HB6.out.trans (hb.mono HB6.out.size))
  clear hb
  go_wp2_with fail
  refine hK.out _ _ (KS.out _ HB7.out) (fun hHeld => ?_)
  clear hK K
  try simp only [Act.put, List.setIfInBounds_toArray, List.set_cons_zero, List.set_cons_succ]
  refine wpAnyL_one (i := 10) (by kernel_rfl) rfl (fun K hK => ?_)
  go_simp
  refine SF.out.mono ?_
  rintro e w8 ⟨rfl, q8, rfl⟩
  have HB8 := Lib.hid (belD HB7.out q8)
  clear SF
  go_wp2_with fail
  refine hK.out _ _ (KS.out _ HB8.out) (fun hHeld => ?_)
  clear hK K
  try simp only [Act.put, List.setIfInBounds_toArray, List.set_cons_zero, List.set_cons_succ]
  refine wpAnyL_one (i := 11) (by kernel_rfl) rfl (fun K hK => ?_)
  go_simp
  refine hK.out _ _ (KS.out _ HB8.out) (fun hHeld => ?_)
  clear hK K
  try simp only [Act.put, List.setIfInBounds_toArray, List.set_cons_zero, List.set_cons_succ]
  refine wpAnyL_one (i := 12) (by kernel_rfl) rfl (fun K hK => ?_)
  go_simp
  refine hK.out _ _ (KS.out _ HB8.out) (fun hHeld => ?_)
  clear hK K
  try simp only [Act.put, List.setIfInBounds_toArray, List.set_cons_zero, List.set_cons_succ]
  refine wpAnyL_take (i := 13) (v := ?_) [18, 17, 16, 14] rfl (by kernel_rfl) (by kernel_rfl) (by kernel_rfl) (fun _ _ _ h => h) (by kernel_rfl) (by kernel_rfl) (by kernel_rfl) (Or.inl ⟨by rfl, ?_⟩) (by assumption) ?_
  rotate_left
  · intro w hSw
    try dsimp only at hSw
    go_simp
    first | done | with_reducible rfl
  try simp only [Act.put, List.setIfInBounds_toArray, List.set_cons_zero, List.set_cons_succ]
  refine wpAnyL_take (i := 15) (v := ?_) [18, 17, 16] rfl (by kernel_rfl) (by kernel_rfl) (by kernel_rfl) (fun _ _ _ h => h) (by kernel_rfl) (by kernel_rfl) (by kernel_rfl) (Or.inl ⟨by rfl, ?_⟩) (by assumption) ?_
  rotate_left
  · intro w hSw
    try dsimp only at hSw
    go_simp
    first | done | with_reducible rfl
  try simp only [Act.put, List.setIfInBounds_toArray, List.set_cons_zero, List.set_cons_succ]
  refine wpAnyL_one (i := 14) (by kernel_rfl) rfl (fun K hK => ?_)
  go_simp
  refine (KPp.out _ HB8.out).mono ?_
  rintro e w9 ⟨rfl, hb⟩
  have HB9 := Lib.hid (HB8.out.trans (hb.mono HB8.out.size))
  clear hb
  go_wp2_with fail
  refine hK.out _ _ (KS.out _ HB9.out) (fun hHeld => ?_)
  clear hK K
  try simp only [Act.put, List.setIfInBounds_toArray, List.set_cons_zero, List.set_cons_succ]
  refine wpAnyL_one (i := 16) (by kernel_rfl) rfl (fun K hK => ?_)
  go_simp
  refine (KPd.out _ HB9.out).mono ?_
  rintro e w10 ⟨rfl, hb⟩
  have HB10 := Lib.hid (HB9.out.trans (hb.mono HB9.out.size))
  clear hb
  go_wp2_with fail
  refine hK.out _ _ (KS.out _ HB10.out) (fun hHeld => ?_)
  clear hK K
  try simp only [Act.put, List.setIfInBounds_toArray, List.set_cons_zero, List.set_cons_succ]
  refine wpAnyL_one (i := 17) (by kernel_rfl) rfl (fun K hK => ?_)
  go_simp
  refine hK.out _ _ (KS.out _ HB10.out) (fun hHeld => ?_)
  clear hK K
  try simp only [Act.put, List.setIfInBounds_toArray, List.set_cons_zero, List.set_cons_succ]
  refine wpAnyL_one (i := 18) (by kernel_rfl) rfl (fun K hK => ?_)
  go_simp
  refine hK.out _ _ (KS.out _ HB10.out) (fun hHeld => ?_)
  clear hK K
  try simp only [Act.put, List.setIfInBounds_toArray, List.set_cons_zero, List.set_cons_succ]
  refine wpAnyL_last (by kernel_rfl) rfl (by kernel_rfl) (fun K hK => ?_)
  go_simp
  refine hK.out _ _ ?_
  clear hK K
  refine NoPanic.normal ?_
  go_wp2
  go_ret
  exact ⟨rfl, TR.out _ HB10.out⟩
theorem contract (H : Type) (enc : TypeId × Value → H) (W : World) (base : Nat) (args : Array Value) (ds gs : List (DataW H)) (before : List MemPlace)
    (hval : ∀ (j : Nat) t v, Tryz.f3.params[j]? = some t → args[j]? = some v → Value.okWide Tryz.prog W .any base t v)
    (hW : DataW.Whole enc Tryz.prog Tryz.f3.params.toList Rows.entryWritesSpec.vars false W args.toList ds gs before) (E : EnvR W) :
    Calls Tryz.prog 3 args W fun e W' => ∃ v, e = .returned v ∧ Rows.entryWritesSpec.post enc Tryz.prog Tryz.f3 false true false false W args v W' := by
  have hW' := hW
  obtain ⟨p, q, hA0, _, _, _, _⟩ := hW
  have hA : DataW.TrodAll enc Tryz.prog W 0 (fun _ => true) true Tryz.f3.params.toList args.toList ds p := hA0
  rw [Tryz.params3] at hA hval
  obtain ⟨v0, vs0, d0, ds0, p0, q0, hargs, rfl, rfl, h0, r0⟩ := trodAll_cons hA
  obtain ⟨v1, vs1, d1, ds1, p1, q1, rfl, rfl, rfl, h1, r1⟩ := trodAll_cons r0
  obtain ⟨rfl, rfl, rfl⟩ := trodAll_nil r1
  obtain rfl : args = #[v0, v1] := by cases args; simp_all
  obtain ⟨x0, A10, c10, A20, c20, A30, c30, A40, c40, rfl, hr0, hk0⟩ := open_ent_arg (hval 0 25 v0 rfl rfl) h0
  obtain ⟨A1, n1, c1, L1, rfl, hr1, hk1⟩ := open_ents_arg (hval 1 26 v1 rfl rfl) h1
  refine (walk x0 A10 c10 A20 c20 A30 c30 A40 c40 A1 n1 c1 L1 W hr0 hk0 hr1 hk1 E).mono fun e W' ⟨he, hb⟩ => ?_
  subst he
  refine ⟨_, rfl, law_post hW' rfl rfl rfl rfl rfl Tryz.underlying4 laid_out ?_ hb⟩
  rw [Tryz.params3]
  intro t ht
  simp at ht
  rcases ht with rfl | rfl <;> exact ⟨by kernel_rfl, of_decide_eq_true (by kernel_rfl)⟩
theorem reads (os : Os) {H : Type} (enc : TypeId × Value → H) : ∃ x, DataW.whole enc Tryz.prog ((World.laidAll Tryz.prog os laidL).forCall (fun _ _ => 0) ⟨#[], #[.agg #[.string ⟨#[]⟩, .string ⟨#[]⟩, .slice none 0 0, .slice none 0 0, .slice none 0 0, .slice none 0 0], .slice none 0 0], []⟩).memory Tryz.f3.params.toList Rows.entryWritesSpec.vars false ((#[.agg #[.string ⟨#[]⟩, .string ⟨#[]⟩, .slice none 0 0, .slice none 0 0, .slice none 0 0, .slice none 0 0], .slice none 0 0] : Array Value)).toList 8 = some x :=
  Option.isSome_iff_exists.1 (by kernel_rfl)
theorem readsSized (os : Os) {H : Type} (enc : TypeId × Value → H) : (OpenSpec.ofChange Rows.entryWritesSpec).bare.sizedB enc Tryz.prog Tryz.f3 false ((World.laidAll Tryz.prog os laidL).forCall (fun _ _ => 0) ⟨#[], #[.agg #[.string ⟨#[]⟩, .string ⟨#[]⟩, .slice none 0 0, .slice none 0 0, .slice none 0 0, .slice none 0 0], .slice none 0 0], []⟩).memory #[.agg #[.string ⟨#[]⟩, .string ⟨#[]⟩, .slice none 0 0, .slice none 0 0, .slice none 0 0, .slice none 0 0], .slice none 0 0] 8 = true := by kernel_rfl
theorem okWit (os : Os) : Input.okWideB Tryz.prog ((World.laidAll Tryz.prog os laidL).forCall (fun _ _ => 0) ⟨#[], #[.agg #[.string ⟨#[]⟩, .string ⟨#[]⟩, .slice none 0 0, .slice none 0 0, .slice none 0 0, .slice none 0 0], .slice none 0 0], []⟩) 3 ⟨#[], #[.agg #[.string ⟨#[]⟩, .string ⟨#[]⟩, .slice none 0 0, .slice none 0 0, .slice none 0 0, .slice none 0 0], .slice none 0 0], []⟩ = true := by kernel_rfl
theorem lifted (os : Os) (started : os.Started) (H : Type) (enc : TypeId × Value → H) (F : Stop.Interp) :
    ReturnsInHanded {} Tryz.checked os 3 .any ((OpenSpec.ofChange Rows.entryWritesSpec).preRow enc Tryz.prog Tryz.f3 Rows.entryWritesRow.domain false Rows.entryWritesRow.laid) (((OpenSpec.ofChange Rows.entryWritesSpec).at F).post enc Tryz.prog Tryz.f3 false true false false) := by
  obtain ⟨x, hx⟩ := reads os enc
  have hz := readsSized os enc
  refine returnsInHanded_of_row (C := Tryz.checked) (s := OpenSpec.ofChange Rows.entryWritesSpec) own' started (by kernel_rfl) Tryz.func3
    ⟨World.laidAll Tryz.prog os laidL, fun _ _ => 0, ⟨#[], #[.agg #[.string ⟨#[]⟩, .string ⟨#[]⟩, .slice none 0 0, .slice none 0 0, .slice none 0 0, .slice none 0 0], .slice none 0 0], []⟩, door_os os, door_shaped os _, (Input.okWide_of_okWideB (base := 0) (okWit os)).1, (Input.okWide_of_okWideB (okWit os)).2,
      OpenSpec.preRow_of_cond 8 hx rfl (fun k hk => by cases hk) hz (door_met os _), by
        simp only [Assume.holds]
        exact ⟨by simp, by simp, fun _ => Modest.zero, by simp, by simp⟩⟩ ?_
  intro W base args ds gs before hval hW _ _ _ hL hsh _
  exact contract H enc W base args ds gs before hval hW (env_of hL hsh)
theorem said : Rows.EntryWritesSaid :=
  OpenClaim.holds_of_cond 3 Tryz.f3 rfl rfl rfl rfl rfl rfl rfl ⟨rfl, rfl, rfl, rfl, rfl⟩ rfl rfl rfl rfl rfl (by kernel_rfl) Tryz.func3 (by kernel_rfl)
    (of_decide_eq_true (by kernel_rfl)) (by unfold Func.isWrapper; first | (rw [if_pos (by decide +kernel)]; kernel_rfl) | (rw [if_neg (by decide +kernel)]; exact ⟨rfl, rfl⟩))
    (fun os started H enc _ F => by rw [OpenClaim.pre_eq_preRow]; exact lifted os started H enc F)
theorem proved : Rows.EntryWritesCardSaid :=
  Claim7.holds_tied_plain_at .later [] _ _ _ _ said (fun _ h => by cases h) (by kernel_rfl) (fun _ h => by cases h) entryWrites_row_tie rfl ⟨rfl, rfl⟩ (by kernel_rfl) rfl
    (fun f fn hf hfn => by
      obtain rfl : f = 3 := Option.some.inj ((show Tryz.prog.funcNamed "keelson/keelsonlaw6.EntryWrites" = some 3 by kernel_rfl).symm.trans hf) |>.symm
      obtain rfl : fn = Tryz.f3 := (Option.some.inj (Tryz.func3.symm.trans hfn)).symm
      exact ⟨by kernel_rfl, fun j t ht => by
        rw [Tryz.params3] at ht
        have hm : t ∈ [25, 26] := by have := Array.mem_of_getElem? ht; simp at this; simp [this]
        have hall : ([25, 26].all fun u => !Tryz.prog.wantsStandIn u) = true := by kernel_rfl
        exact (show Tryz.prog.wantsStandIn t = false by simpa using List.all_eq_true.1 hall t hm)⟩)
    (by kernel_rfl)
#print axioms proved
end Go.Proofs.YtmlakjemgmeffaaGreatDoor.entryWrites
