/- keelsonlaw6.EntryLess: called with any arguments that can be read it returns true, and its arguments read as before. Condition: the library variables that the row lists hold what the program text lays in them, which the card ties to that text. -/
import Derived.Test.YtmlakjemgmeffaaGreatDoorP6lZ
import Derived.Test.YtmlakjemgmeffaaGreatDoorP6fZ
import Derived.Test.YtmlakjemgmeffaaGreatDoorME
import Derived.Test.YtmlakjemgmeffaaGreatDoorDoorZ
import Derived.WalkKit
import Derived.ProofKit
import Derived.OpenShut
import Derived.SevenTiedAt
import Derived.Outline
set_option maxRecDepth 100000
set_option linter.unusedVariables false
set_option linter.unusedSimpArgs false
namespace Go.Proofs.YtmlakjemgmeffaaGreatDoor.entryLess
open Go.ChangeShapes Go.WideShapes Go.ChangeAt Go.RowKit

theorem les_no {x y : Ent} (h : lesB x y = true) : lesB y x = false := Bool.eq_false_iff.2 fun k => Les.asym ((lesB_iff _ _).1 h) ((lesB_iff _ _).1 k)
theorem les_self (x : Ent) : lesB x x = false := Bool.eq_false_iff.2 fun k => Les.asym ((lesB_iff _ _).1 k) ((lesB_iff _ _).1 k)
theorem les_tr {x y z : Ent} (h : lesB x y = true) (k : lesB y z = true) : lesB x z = true := (lesB_iff _ _).2 (Les.tr ((lesB_iff _ _).1 h) ((lesB_iff _ _).1 k))
theorem les_one (x y : Ent) : (decide (x.n = y.n) && decide (x.v = y.v)) = !(lesB x y || lesB y x) := by
  rcases Les.tot x y with h | h | ⟨h1, h2⟩
  · have e := (lesB_iff _ _).2 h
    rw [e, Bool.true_or]
    show _ = false
    rw [Bool.eq_false_iff]; intro hh
    rw [Bool.and_eq_true, decide_eq_true_iff, decide_eq_true_iff] at hh
    exact Les.alike hh.1 hh.2 h
  · have e := (lesB_iff _ _).2 h
    rw [e, Bool.or_true]
    show _ = false
    rw [Bool.eq_false_iff]; intro hh
    rw [Bool.and_eq_true, decide_eq_true_iff, decide_eq_true_iff] at hh
    exact Les.alike hh.1.symm hh.2.symm h
  · have e1 : lesB x y = false := Bool.eq_false_iff.2 fun k => Les.alike h1 h2 ((lesB_iff _ _).1 k)
    have e2 : lesB y x = false := Bool.eq_false_iff.2 fun k => Les.alike h1.symm h2.symm ((lesB_iff _ _).1 k)
    rw [e1, e2, decide_eq_true h1, decide_eq_true h2]; rfl
set_option maxHeartbeats 16000000 in
theorem walk (x : Ent) (A1 : Option Addr) (c1 : Nat) (A2 : Option Addr) (c2 : Nat) (A3 : Option Addr) (c3 : Nat) (A4 : Option Addr) (c4 : Nat) (y : Ent) (A1y : Option Addr) (c1y : Nat) (A2y : Option Addr) (c2y : Nat) (A3y : Option Addr) (c3y : Nat) (A4y : Option Addr) (c4y : Nat) (z : Ent) (A1z : Option Addr) (c1z : Nat) (A2z : Option Addr) (c2z : Nat) (A3z : Option Addr) (c3z : Nat) (A4z : Option Addr) (c4z : Nat) (w : World) (hx : EntV w (lt_ w.heap.size) x A1 c1 A2 c2 A3 c3 A4 c4) (_ : EntOk x) (hy : EntV w (lt_ w.heap.size) y A1y c1y A2y c2y A3y c3y A4y c4y) (_ : EntOk y) (hz : EntV w (lt_ w.heap.size) z A1z c1z A2z c2z A3z c3z A4z c4z) (_ : EntOk z) (E : EnvR w) :
    Calls Tryz.prog 5 #[x.val A1 c1 A2 c2 A3 c3 A4 c4, y.val A1y c1y A2y c2y A3y c3y A4y c4y, z.val A1z c1z A2z c2z A3z c3z A4z c4z] w fun e w' => e = .returned (.bool true) ∧ Below w.heap.size w w' := by
  have HE := Lib.hid E
  have S := Lib.hid (fun w E => shown6_any w E)
  have KX1 := Lib.hid (fun (W : World) (hb : Below w.heap.size w W) => small6_any x A1 c1 A2 c2 A3 c3 A4 c4 W (hx.on hb))
  have KX2 := Lib.hid (fun (W : World) (hb : Below w.heap.size w W) => small6_any y A1y c1y A2y c2y A3y c3y A4y c4y W (hy.on hb))
  have KX3 := Lib.hid (fun (W : World) (hb : Below w.heap.size w W) => small6_any z A1z c1z A2z c2z A3z c3z A4z c4z W (hz.on hb))
  have L12 := Lib.hid (fun (W : World) (hb : Below w.heap.size w W) => less6_any x y A1 c1 A2 c2 A3 c3 A4 c4 A1y c1y A2y c2y A3y c3y A4y c4y W (HE.out.below hb).env)
  have L21 := Lib.hid (fun (W : World) (hb : Below w.heap.size w W) => less6_any y x A1y c1y A2y c2y A3y c3y A4y c4y A1 c1 A2 c2 A3 c3 A4 c4 W (HE.out.below hb).env)
  have L23 := Lib.hid (fun (W : World) (hb : Below w.heap.size w W) => less6_any y z A1y c1y A2y c2y A3y c3y A4y c4y A1z c1z A2z c2z A3z c3z A4z c4z W (HE.out.below hb).env)
  have L13 := Lib.hid (fun (W : World) (hb : Below w.heap.size w W) => less6_any x z A1 c1 A2 c2 A3 c3 A4 c4 A1z c1z A2z c2z A3z c3z A4z c4z W (HE.out.below hb).env)
  have L11 := Lib.hid (fun (W : World) (hb : Below w.heap.size w W) => less6_any x x A1 c1 A2 c2 A3 c3 A4 c4 A1 c1 A2 c2 A3 c3 A4 c4 W (HE.out.below hb).env)
  have e0 := str_eq x.n y.n
  have e1 := str_eq x.v y.v
  have P1 := Lib.hid (les_one x y)
  have P2 := Lib.hid (fun h => les_no (x := x) (y := y) h)
  have P3 := Lib.hid (fun h k => les_tr (x := x) (y := y) (z := z) h k)
  rw [les_self x] at L11
  clear hx hy hz E
  generalize Sm x = S1 at *
  generalize Sm y = S2 at *
  generalize Sm z = S3 at *
  generalize lesB x y = l12 at *
  generalize lesB y x = l21 at *
  generalize lesB y z = l23 at *
  generalize lesB x z = l13 at *
  generalize decide (x.n = y.n) = q0 at *
  generalize decide (x.v = y.v) = q1 at *
  obtain ⟨n, v, d, r, c, p⟩ := x
  obtain ⟨ny, vy, dy, ry, cy, py⟩ := y
  obtain ⟨nz, vz, dz, rz, cz, pz⟩ := z
  simp only at e0 e1
  show Calls Tryz.prog 5 #[.agg #[.string n, .string v, .slice A1 d.length c1, .slice A2 r.length c2, .slice A3 c.length c3, .slice A4 p.length c4], .agg #[.string ny, .string vy, .slice A1y dy.length c1y, .slice A2y ry.length c2y, .slice A3y cy.length c3y, .slice A4y py.length c4y], .agg #[.string nz, .string vz, .slice A1z dz.length c1z, .slice A2z rz.length c2z, .slice A3z cz.length c3z, .slice A4z pz.length c4z]] w _
  obtain ⟨W1, hW1⟩ : ∃ W, W = (((w.alloc (.cells #[.string n, .string v, .slice A1 d.length c1, .slice A2 r.length c2, .slice A3 c.length c3, .slice A4 p.length c4] 25)).alloc (.cells #[.string ny, .string vy, .slice A1y dy.length c1y, .slice A2y ry.length c2y, .slice A3y cy.length c3y, .slice A4y py.length c4y] 25)).alloc (.cells #[.string nz, .string vz, .slice A1z dz.length c1z, .slice A2z rz.length c2z, .slice A3z cz.length c3z, .slice A4z pz.length c4z] 25)) := ⟨_, rfl⟩
  have B1 := Lib.hid (show Below w.heap.size w W1 by rw [hW1]; exact (((Below.refl _ w).alloc (Nat.le_refl _) _).alloc (by simp) _).alloc (by simp; omega) _)
  have KC := Lib.hid (fun (W : World) (hb : Below W1.heap.size W1 W) => (show (W.cell? ⟨w.heap.size, 0, none⟩ = some (.string n) ∧ W.cell? ⟨w.heap.size, 1, none⟩ = some (.string v) ∧ W.cell? ⟨w.heap.size, 2, none⟩ = some (.slice A1 d.length c1) ∧ W.cell? ⟨w.heap.size, 3, none⟩ = some (.slice A2 r.length c2) ∧ W.cell? ⟨w.heap.size, 4, none⟩ = some (.slice A3 c.length c3) ∧ W.cell? ⟨w.heap.size, 5, none⟩ = some (.slice A4 p.length c4)) ∧ (W.cell? ⟨w.heap.size + 1, 0, none⟩ = some (.string ny) ∧ W.cell? ⟨w.heap.size + 1, 1, none⟩ = some (.string vy) ∧ W.cell? ⟨w.heap.size + 1, 2, none⟩ = some (.slice A1y dy.length c1y) ∧ W.cell? ⟨w.heap.size + 1, 3, none⟩ = some (.slice A2y ry.length c2y) ∧ W.cell? ⟨w.heap.size + 1, 4, none⟩ = some (.slice A3y cy.length c3y) ∧ W.cell? ⟨w.heap.size + 1, 5, none⟩ = some (.slice A4y py.length c4y)) ∧ (W.cell? ⟨w.heap.size + 2, 0, none⟩ = some (.string nz) ∧ W.cell? ⟨w.heap.size + 2, 1, none⟩ = some (.string vz) ∧ W.cell? ⟨w.heap.size + 2, 2, none⟩ = some (.slice A1z dz.length c1z) ∧ W.cell? ⟨w.heap.size + 2, 3, none⟩ = some (.slice A2z rz.length c2z) ∧ W.cell? ⟨w.heap.size + 2, 4, none⟩ = some (.slice A3z cz.length c3z) ∧ W.cell? ⟨w.heap.size + 2, 5, none⟩ = some (.slice A4z pz.length c4z)) from by
    refine ⟨⟨?_, ?_, ?_, ?_, ?_, ?_⟩, ⟨?_, ?_, ?_, ?_, ?_, ?_⟩, ⟨?_, ?_, ?_, ?_, ?_, ?_⟩⟩ <;> exact keep6 hb (by rw [hW1]; simp [go_sem])))
  go_enter Tryz.func5, Tryz.ntmps5
  go_wp2_with fail
  rw [← hW1]
  clear hW1
  refine (S.out _ (HE.out.below B1.out)).mono ?_
  rintro e w1 ⟨rfl, hb⟩
  have V1 := Lib.hid hb
  have C1 := Lib.hid (B1.out.trans (hb.mono B1.out.size))
  clear hb
  obtain ⟨⟨x0, x1, x2, x3, x4, x5⟩, ⟨y0, y1, y2, y3, y4, y5⟩, ⟨z0, z1, z2, z3, z4, z5⟩⟩ := KC.out _ V1.out
  go_wp2_with fail
  refine (KX1.out _ C1.out).mono ?_
  rintro e w2 ⟨⟨b1, rfl, -⟩, hb⟩
  have V2 := Lib.hid (V1.out.trans (hb.mono V1.out.size))
  have C2 := Lib.hid (C1.out.trans (hb.mono C1.out.size))
  clear hb x0 x1 x2 x3 x4 x5 y0 y1 y2 y3 y4 y5 z0 z1 z2 z3 z4 z5
  obtain ⟨⟨x0, x1, x2, x3, x4, x5⟩, ⟨y0, y1, y2, y3, y4, y5⟩, ⟨z0, z1, z2, z3, z4, z5⟩⟩ := KC.out _ V2.out
  go_wp2_with fail
  refine (KX2.out _ C2.out).mono ?_
  rintro e w3 ⟨⟨b2, rfl, -⟩, hb⟩
  have V3 := Lib.hid (V2.out.trans (hb.mono V2.out.size))
  have C3 := Lib.hid (C2.out.trans (hb.mono C2.out.size))
  clear hb x0 x1 x2 x3 x4 x5 y0 y1 y2 y3 y4 y5 z0 z1 z2 z3 z4 z5
  obtain ⟨⟨x0, x1, x2, x3, x4, x5⟩, ⟨y0, y1, y2, y3, y4, y5⟩, ⟨z0, z1, z2, z3, z4, z5⟩⟩ := KC.out _ V3.out
  go_wp2_with fail
  refine (KX3.out _ C3.out).mono ?_
  rintro e w4 ⟨⟨b3, rfl, -⟩, hb⟩
  have V4 := Lib.hid (V3.out.trans (hb.mono V3.out.size))
  have C4 := Lib.hid (C3.out.trans (hb.mono C3.out.size))
  clear hb x0 x1 x2 x3 x4 x5 y0 y1 y2 y3 y4 y5 z0 z1 z2 z3 z4 z5
  cases b1
  · go_wp2
    go_ret
    exact ⟨rfl, C4.out⟩
  cases b2
  · go_wp2
    go_ret
    exact ⟨rfl, C4.out⟩
  cases b3
  · go_wp2
    go_ret
    exact ⟨rfl, C4.out⟩
  obtain ⟨⟨x0, x1, x2, x3, x4, x5⟩, ⟨y0, y1, y2, y3, y4, y5⟩, ⟨z0, z1, z2, z3, z4, z5⟩⟩ := KC.out _ V4.out
  go_wp2_with fail
  refine (L12.out _ C4.out).mono ?_
  rintro e w5 ⟨rfl, hb⟩
  have V5 := Lib.hid (V4.out.trans (hb.mono V4.out.size))
  have C5 := Lib.hid (C4.out.trans (hb.mono C4.out.size))
  clear hb x0 x1 x2 x3 x4 x5 y0 y1 y2 y3 y4 y5 z0 z1 z2 z3 z4 z5
  obtain ⟨⟨x0, x1, x2, x3, x4, x5⟩, ⟨y0, y1, y2, y3, y4, y5⟩, ⟨z0, z1, z2, z3, z4, z5⟩⟩ := KC.out _ V5.out
  go_wp2_with fail
  refine (L21.out _ C5.out).mono ?_
  rintro e w6 ⟨rfl, hb⟩
  have V6 := Lib.hid (V5.out.trans (hb.mono V5.out.size))
  have C6 := Lib.hid (C5.out.trans (hb.mono C5.out.size))
  clear hb x0 x1 x2 x3 x4 x5 y0 y1 y2 y3 y4 y5 z0 z1 z2 z3 z4 z5
  cases l12
  · cases l21
    · obtain ⟨rfl, rfl⟩ : q0 = true ∧ q1 = true := by have := P1.out; cases q0 <;> cases q1 <;> first | exact ⟨rfl, rfl⟩ | exact absurd this (by decide)
      obtain ⟨⟨x0, x1, x2, x3, x4, x5⟩, ⟨y0, y1, y2, y3, y4, y5⟩, ⟨z0, z1, z2, z3, z4, z5⟩⟩ := KC.out _ V6.out
      go_wp2_with fail
      refine (L11.out _ C6.out).mono ?_
      rintro e w7 ⟨rfl, hb⟩
      have V7 := Lib.hid (V6.out.trans (hb.mono V6.out.size))
      have C7 := Lib.hid (C6.out.trans (hb.mono C6.out.size))
      clear hb x0 x1 x2 x3 x4 x5 y0 y1 y2 y3 y4 y5 z0 z1 z2 z3 z4 z5
      go_wp2
      go_ret
      exact ⟨rfl, C7.out⟩
    · have Q := Lib.hid (show (q0 && q1) = false from P1.out)
      cases q0
      · obtain ⟨⟨x0, x1, x2, x3, x4, x5⟩, ⟨y0, y1, y2, y3, y4, y5⟩, ⟨z0, z1, z2, z3, z4, z5⟩⟩ := KC.out _ V6.out
        go_wp2_with fail
        refine (L11.out _ C6.out).mono ?_
        rintro e w7 ⟨rfl, hb⟩
        have V7 := Lib.hid (V6.out.trans (hb.mono V6.out.size))
        have C7 := Lib.hid (C6.out.trans (hb.mono C6.out.size))
        clear hb x0 x1 x2 x3 x4 x5 y0 y1 y2 y3 y4 y5 z0 z1 z2 z3 z4 z5
        go_wp2
        go_ret
        exact ⟨rfl, C7.out⟩
      · obtain rfl : q1 = false := Q.out
        obtain ⟨⟨x0, x1, x2, x3, x4, x5⟩, ⟨y0, y1, y2, y3, y4, y5⟩, ⟨z0, z1, z2, z3, z4, z5⟩⟩ := KC.out _ V6.out
        go_wp2_with fail
        refine (L11.out _ C6.out).mono ?_
        rintro e w7 ⟨rfl, hb⟩
        have V7 := Lib.hid (V6.out.trans (hb.mono V6.out.size))
        have C7 := Lib.hid (C6.out.trans (hb.mono C6.out.size))
        clear hb x0 x1 x2 x3 x4 x5 y0 y1 y2 y3 y4 y5 z0 z1 z2 z3 z4 z5
        go_wp2
        go_ret
        exact ⟨rfl, C7.out⟩
  · obtain rfl : l21 = false := P2.out rfl
    have Q := Lib.hid (show (q0 && q1) = false from P1.out)
    cases l23
    · cases q0
      · obtain ⟨⟨x0, x1, x2, x3, x4, x5⟩, ⟨y0, y1, y2, y3, y4, y5⟩, ⟨z0, z1, z2, z3, z4, z5⟩⟩ := KC.out _ V6.out
        go_wp2_with fail
        refine (L23.out _ C6.out).mono ?_
        rintro e w7 ⟨rfl, hb⟩
        have V7 := Lib.hid (V6.out.trans (hb.mono V6.out.size))
        have C7 := Lib.hid (C6.out.trans (hb.mono C6.out.size))
        clear hb x0 x1 x2 x3 x4 x5 y0 y1 y2 y3 y4 y5 z0 z1 z2 z3 z4 z5
        obtain ⟨⟨x0, x1, x2, x3, x4, x5⟩, ⟨y0, y1, y2, y3, y4, y5⟩, ⟨z0, z1, z2, z3, z4, z5⟩⟩ := KC.out _ V7.out
        go_wp2_with fail
        refine (L11.out _ C7.out).mono ?_
        rintro e w8 ⟨rfl, hb⟩
        have V8 := Lib.hid (V7.out.trans (hb.mono V7.out.size))
        have C8 := Lib.hid (C7.out.trans (hb.mono C7.out.size))
        clear hb x0 x1 x2 x3 x4 x5 y0 y1 y2 y3 y4 y5 z0 z1 z2 z3 z4 z5
        go_wp2
        go_ret
        exact ⟨rfl, C8.out⟩
      · obtain rfl : q1 = false := Q.out
        obtain ⟨⟨x0, x1, x2, x3, x4, x5⟩, ⟨y0, y1, y2, y3, y4, y5⟩, ⟨z0, z1, z2, z3, z4, z5⟩⟩ := KC.out _ V6.out
        go_wp2_with fail
        refine (L23.out _ C6.out).mono ?_
        rintro e w7 ⟨rfl, hb⟩
        have V7 := Lib.hid (V6.out.trans (hb.mono V6.out.size))
        have C7 := Lib.hid (C6.out.trans (hb.mono C6.out.size))
        clear hb x0 x1 x2 x3 x4 x5 y0 y1 y2 y3 y4 y5 z0 z1 z2 z3 z4 z5
        obtain ⟨⟨x0, x1, x2, x3, x4, x5⟩, ⟨y0, y1, y2, y3, y4, y5⟩, ⟨z0, z1, z2, z3, z4, z5⟩⟩ := KC.out _ V7.out
        go_wp2_with fail
        refine (L11.out _ C7.out).mono ?_
        rintro e w8 ⟨rfl, hb⟩
        have V8 := Lib.hid (V7.out.trans (hb.mono V7.out.size))
        have C8 := Lib.hid (C7.out.trans (hb.mono C7.out.size))
        clear hb x0 x1 x2 x3 x4 x5 y0 y1 y2 y3 y4 y5 z0 z1 z2 z3 z4 z5
        go_wp2
        go_ret
        exact ⟨rfl, C8.out⟩
    · obtain rfl : l13 = true := P3.out rfl rfl
      cases q0
      · obtain ⟨⟨x0, x1, x2, x3, x4, x5⟩, ⟨y0, y1, y2, y3, y4, y5⟩, ⟨z0, z1, z2, z3, z4, z5⟩⟩ := KC.out _ V6.out
        go_wp2_with fail
        refine (L23.out _ C6.out).mono ?_
        rintro e w7 ⟨rfl, hb⟩
        have V7 := Lib.hid (V6.out.trans (hb.mono V6.out.size))
        have C7 := Lib.hid (C6.out.trans (hb.mono C6.out.size))
        clear hb x0 x1 x2 x3 x4 x5 y0 y1 y2 y3 y4 y5 z0 z1 z2 z3 z4 z5
        obtain ⟨⟨x0, x1, x2, x3, x4, x5⟩, ⟨y0, y1, y2, y3, y4, y5⟩, ⟨z0, z1, z2, z3, z4, z5⟩⟩ := KC.out _ V7.out
        go_wp2_with fail
        refine (L13.out _ C7.out).mono ?_
        rintro e w8 ⟨rfl, hb⟩
        have V8 := Lib.hid (V7.out.trans (hb.mono V7.out.size))
        have C8 := Lib.hid (C7.out.trans (hb.mono C7.out.size))
        clear hb x0 x1 x2 x3 x4 x5 y0 y1 y2 y3 y4 y5 z0 z1 z2 z3 z4 z5
        obtain ⟨⟨x0, x1, x2, x3, x4, x5⟩, ⟨y0, y1, y2, y3, y4, y5⟩, ⟨z0, z1, z2, z3, z4, z5⟩⟩ := KC.out _ V8.out
        go_wp2_with fail
        refine (L11.out _ C8.out).mono ?_
        rintro e w9 ⟨rfl, hb⟩
        have V9 := Lib.hid (V8.out.trans (hb.mono V8.out.size))
        have C9 := Lib.hid (C8.out.trans (hb.mono C8.out.size))
        clear hb x0 x1 x2 x3 x4 x5 y0 y1 y2 y3 y4 y5 z0 z1 z2 z3 z4 z5
        go_wp2
        go_ret
        exact ⟨rfl, C9.out⟩
      · obtain rfl : q1 = false := Q.out
        obtain ⟨⟨x0, x1, x2, x3, x4, x5⟩, ⟨y0, y1, y2, y3, y4, y5⟩, ⟨z0, z1, z2, z3, z4, z5⟩⟩ := KC.out _ V6.out
        go_wp2_with fail
        refine (L23.out _ C6.out).mono ?_
        rintro e w7 ⟨rfl, hb⟩
        have V7 := Lib.hid (V6.out.trans (hb.mono V6.out.size))
        have C7 := Lib.hid (C6.out.trans (hb.mono C6.out.size))
        clear hb x0 x1 x2 x3 x4 x5 y0 y1 y2 y3 y4 y5 z0 z1 z2 z3 z4 z5
        obtain ⟨⟨x0, x1, x2, x3, x4, x5⟩, ⟨y0, y1, y2, y3, y4, y5⟩, ⟨z0, z1, z2, z3, z4, z5⟩⟩ := KC.out _ V7.out
        go_wp2_with fail
        refine (L13.out _ C7.out).mono ?_
        rintro e w8 ⟨rfl, hb⟩
        have V8 := Lib.hid (V7.out.trans (hb.mono V7.out.size))
        have C8 := Lib.hid (C7.out.trans (hb.mono C7.out.size))
        clear hb x0 x1 x2 x3 x4 x5 y0 y1 y2 y3 y4 y5 z0 z1 z2 z3 z4 z5
        obtain ⟨⟨x0, x1, x2, x3, x4, x5⟩, ⟨y0, y1, y2, y3, y4, y5⟩, ⟨z0, z1, z2, z3, z4, z5⟩⟩ := KC.out _ V8.out
        go_wp2_with fail
        refine (L11.out _ C8.out).mono ?_
        rintro e w9 ⟨rfl, hb⟩
        have V9 := Lib.hid (V8.out.trans (hb.mono V8.out.size))
        have C9 := Lib.hid (C8.out.trans (hb.mono C8.out.size))
        clear hb x0 x1 x2 x3 x4 x5 y0 y1 y2 y3 y4 y5 z0 z1 z2 z3 z4 z5
        go_wp2
        go_ret
        exact ⟨rfl, C9.out⟩

theorem contract (H : Type) (enc : TypeId × Value → H) (W : World) (base : Nat) (args : Array Value) (ds gs : List (DataW H)) (before : List MemPlace)
    (hval : ∀ (j : Nat) t v, Tryz.f5.params[j]? = some t → args[j]? = some v → Value.okWide Tryz.prog W .any base t v)
    (hW : DataW.Whole enc Tryz.prog Tryz.f5.params.toList Rows.entryLessSpec.vars false W args.toList ds gs before) (E : EnvR W) :
    Calls Tryz.prog 5 args W fun e W' => ∃ v, e = .returned v ∧ Rows.entryLessSpec.post enc Tryz.prog Tryz.f5 false true false false W args v W' := by
  have hW' := hW
  obtain ⟨p, q, hA0, _, _, _, _⟩ := hW
  have hA : DataW.TrodAll enc Tryz.prog W 0 (fun _ => true) true Tryz.f5.params.toList args.toList ds p := hA0
  rw [Tryz.params5] at hA hval
  obtain ⟨v0, vs0, d0, ds0, p0, q0, hargs, rfl, rfl, h0, r0⟩ := trodAll_cons hA
  obtain ⟨v1, vs1, d1, ds1, p1, q1, rfl, rfl, rfl, h1, r1⟩ := trodAll_cons r0
  obtain ⟨v2, vs2, d2, ds2, p2, q2, rfl, rfl, rfl, h2, r2⟩ := trodAll_cons r1
  obtain ⟨rfl, rfl, rfl⟩ := trodAll_nil r2
  obtain rfl : args = #[v0, v1, v2] := by cases args; simp_all
  obtain ⟨x0, A10, c10, A20, c20, A30, c30, A40, c40, rfl, hr0, hk0⟩ := open_ent_arg (hval 0 25 v0 rfl rfl) h0
  obtain ⟨x1, A11, c11, A21, c21, A31, c31, A41, c41, rfl, hr1, hk1⟩ := open_ent_arg (hval 1 25 v1 rfl rfl) h1
  obtain ⟨x2, A12, c12, A22, c22, A32, c32, A42, c42, rfl, hr2, hk2⟩ := open_ent_arg (hval 2 25 v2 rfl rfl) h2
  refine (walk x0 A10 c10 A20 c20 A30 c30 A40 c40 x1 A11 c11 A21 c21 A31 c31 A41 c41 x2 A12 c12 A22 c22 A32 c32 A42 c42 W hr0 hk0 hr1 hk1 hr2 hk2 E).mono fun e W' ⟨he, hb⟩ => ?_
  subst he
  refine ⟨_, rfl, law_post hW' rfl rfl rfl rfl rfl Tryz.underlying4 laid_out ?_ hb⟩
  rw [Tryz.params5]
  intro t ht
  simp at ht
  subst ht
  exact ⟨by kernel_rfl, of_decide_eq_true (by kernel_rfl)⟩

theorem reads (os : Os) {H : Type} (enc : TypeId × Value → H) : ∃ x, DataW.whole enc Tryz.prog ((World.laidAll Tryz.prog os laidL).forCall (fun _ _ => 0) ⟨#[], #[.agg #[.string ⟨#[]⟩, .string ⟨#[]⟩, .slice none 0 0, .slice none 0 0, .slice none 0 0, .slice none 0 0], .agg #[.string ⟨#[]⟩, .string ⟨#[]⟩, .slice none 0 0, .slice none 0 0, .slice none 0 0, .slice none 0 0], .agg #[.string ⟨#[]⟩, .string ⟨#[]⟩, .slice none 0 0, .slice none 0 0, .slice none 0 0, .slice none 0 0]], []⟩).memory Tryz.f5.params.toList Rows.entryLessSpec.vars false ((#[.agg #[.string ⟨#[]⟩, .string ⟨#[]⟩, .slice none 0 0, .slice none 0 0, .slice none 0 0, .slice none 0 0], .agg #[.string ⟨#[]⟩, .string ⟨#[]⟩, .slice none 0 0, .slice none 0 0, .slice none 0 0, .slice none 0 0], .agg #[.string ⟨#[]⟩, .string ⟨#[]⟩, .slice none 0 0, .slice none 0 0, .slice none 0 0, .slice none 0 0]] : Array Value)).toList 8 = some x :=
  Option.isSome_iff_exists.1 (by kernel_rfl)
theorem readsSized (os : Os) {H : Type} (enc : TypeId × Value → H) : (OpenSpec.ofChange Rows.entryLessSpec).bare.sizedB enc Tryz.prog Tryz.f5 false ((World.laidAll Tryz.prog os laidL).forCall (fun _ _ => 0) ⟨#[], #[.agg #[.string ⟨#[]⟩, .string ⟨#[]⟩, .slice none 0 0, .slice none 0 0, .slice none 0 0, .slice none 0 0], .agg #[.string ⟨#[]⟩, .string ⟨#[]⟩, .slice none 0 0, .slice none 0 0, .slice none 0 0, .slice none 0 0], .agg #[.string ⟨#[]⟩, .string ⟨#[]⟩, .slice none 0 0, .slice none 0 0, .slice none 0 0, .slice none 0 0]], []⟩).memory #[.agg #[.string ⟨#[]⟩, .string ⟨#[]⟩, .slice none 0 0, .slice none 0 0, .slice none 0 0, .slice none 0 0], .agg #[.string ⟨#[]⟩, .string ⟨#[]⟩, .slice none 0 0, .slice none 0 0, .slice none 0 0, .slice none 0 0], .agg #[.string ⟨#[]⟩, .string ⟨#[]⟩, .slice none 0 0, .slice none 0 0, .slice none 0 0, .slice none 0 0]] 8 = true := by kernel_rfl
theorem okWit (os : Os) : Input.okWideB Tryz.prog ((World.laidAll Tryz.prog os laidL).forCall (fun _ _ => 0) ⟨#[], #[.agg #[.string ⟨#[]⟩, .string ⟨#[]⟩, .slice none 0 0, .slice none 0 0, .slice none 0 0, .slice none 0 0], .agg #[.string ⟨#[]⟩, .string ⟨#[]⟩, .slice none 0 0, .slice none 0 0, .slice none 0 0, .slice none 0 0], .agg #[.string ⟨#[]⟩, .string ⟨#[]⟩, .slice none 0 0, .slice none 0 0, .slice none 0 0, .slice none 0 0]], []⟩) 5 ⟨#[], #[.agg #[.string ⟨#[]⟩, .string ⟨#[]⟩, .slice none 0 0, .slice none 0 0, .slice none 0 0, .slice none 0 0], .agg #[.string ⟨#[]⟩, .string ⟨#[]⟩, .slice none 0 0, .slice none 0 0, .slice none 0 0, .slice none 0 0], .agg #[.string ⟨#[]⟩, .string ⟨#[]⟩, .slice none 0 0, .slice none 0 0, .slice none 0 0, .slice none 0 0]], []⟩ = true := by kernel_rfl
theorem lifted (os : Os) (started : os.Started) (H : Type) (enc : TypeId × Value → H) (F : Stop.Interp) :
    ReturnsInHanded {} Tryz.checked os 5 .any ((OpenSpec.ofChange Rows.entryLessSpec).preRow enc Tryz.prog Tryz.f5 Rows.entryLessRow.domain false Rows.entryLessRow.laid) (((OpenSpec.ofChange Rows.entryLessSpec).at F).post enc Tryz.prog Tryz.f5 false true false false) := by
  obtain ⟨x, hx⟩ := reads os enc
  have hz := readsSized os enc
  refine returnsInHanded_of_row (C := Tryz.checked) (s := OpenSpec.ofChange Rows.entryLessSpec) own' started (by kernel_rfl) Tryz.func5
    ⟨World.laidAll Tryz.prog os laidL, fun _ _ => 0, ⟨#[], #[.agg #[.string ⟨#[]⟩, .string ⟨#[]⟩, .slice none 0 0, .slice none 0 0, .slice none 0 0, .slice none 0 0], .agg #[.string ⟨#[]⟩, .string ⟨#[]⟩, .slice none 0 0, .slice none 0 0, .slice none 0 0, .slice none 0 0], .agg #[.string ⟨#[]⟩, .string ⟨#[]⟩, .slice none 0 0, .slice none 0 0, .slice none 0 0, .slice none 0 0]], []⟩, door_os os, door_shaped os _, (Input.okWide_of_okWideB (base := 0) (okWit os)).1, (Input.okWide_of_okWideB (okWit os)).2,
      OpenSpec.preRow_of_cond 8 hx rfl (fun k hk => by cases hk) hz (door_met os _), by
        simp only [Assume.holds]
        exact ⟨by simp, by simp, fun _ => Modest.zero, by simp, by simp⟩⟩ ?_
  intro W base args ds gs before hval hW _ _ _ hL hsh _
  exact contract H enc W base args ds gs before hval hW (env_of hL hsh)

theorem said : Rows.EntryLessSaid :=
  OpenClaim.holds_of_cond 5 Tryz.f5 rfl rfl rfl rfl rfl rfl rfl ⟨rfl, rfl, rfl, rfl, rfl⟩ rfl rfl rfl rfl rfl (by kernel_rfl) Tryz.func5 (by kernel_rfl)
    (of_decide_eq_true (by kernel_rfl)) (by unfold Func.isWrapper; first | (rw [if_pos (by decide +kernel)]; kernel_rfl) | (rw [if_neg (by decide +kernel)]; exact ⟨rfl, rfl⟩))
    (fun os started H enc _ F => by rw [OpenClaim.pre_eq_preRow]; exact lifted os started H enc F)

theorem proved : Rows.EntryLessCardSaid :=
  Claim7.holds_tied_plain_at .later [] _ _ _ _ said (fun _ h => by cases h) (by kernel_rfl) (fun _ h => by cases h) entryLess_row_tie rfl ⟨rfl, rfl⟩ (by kernel_rfl) rfl
    (fun f fn hf hfn => by
      obtain rfl : f = 5 := Option.some.inj ((show Tryz.prog.funcNamed "keelson/keelsonlaw6.EntryLess" = some 5 by kernel_rfl).symm.trans hf) |>.symm
      obtain rfl : fn = Tryz.f5 := (Option.some.inj (Tryz.func5.symm.trans hfn)).symm
      exact ⟨by kernel_rfl, fun j t ht => by
        rw [Tryz.params5] at ht
        have hm : t ∈ [25] := by have := Array.mem_of_getElem? ht; simp at this; simp [this]
        have hall : ([25].all fun u => !Tryz.prog.wantsStandIn u) = true := by kernel_rfl
        exact (show Tryz.prog.wantsStandIn t = false by simpa using List.all_eq_true.1 hall t hm)⟩)
    (by kernel_rfl)
#print axioms proved
end Go.Proofs.YtmlakjemgmeffaaGreatDoor.entryLess
