/- What the laws of this seat rest on: P6a, P6b, P6c. -/
import Derived.Test.YtmlakjemgmeffaaGreatDoorNF
import Derived.Test.YtmlakjemgmeffaaGreatDoorQAF

section
set_option maxRecDepth 100000
set_option linter.unusedVariables false
set_option linter.unusedSimpArgs false
namespace Go.Proofs.YtmlakjemgmeffaaGreatDoor
open Go.RowKit
set_option maxHeartbeats 1000000 in
theorem eprinted_any (s : ByteArray) (w : World) (E : Env w) : Calls Tryz.prog 27 #[.string s] w fun e' w' => e' = .returned (.bool (prB (B s))) ∧ Below w.heap.size w w' := by
  obtain ⟨ep, e, U, R, h1, h2, h3, h4, z2, z3, cp⟩ := vparse_open3 s
  have X : prB (B s) = (decide (e = 0) && decide (printL ep (B U) (B R) = B s)) := by unfold prB; rw [h1, h2, h3, h4]
  have CP := Lib.hid cp
  have CT := Lib.hid (fun w E => vprint_any ep U R w (by omega) (by omega) E)
  have hst := strEq (printL ep (B U) (B R)) s (printL_lt ep U R)
  have HE := Lib.hid E
  clear cp E h1 h2 h3 h4
  by_cases he : e = 0
  · have t1 : (e == 0) = true := by rw [beq_iff_eq]; exact he
    rw [decide_eq_true he, Bool.true_and] at X
    rw [← X] at hst
    generalize prB (B s) = b at *
    generalize mk (printL ep (B U) (B R)) = T at *
    clear X
    go_enter Tryz.func27, Tryz.ntmps27
    go_wp2_with fail
    refine (CP.out _ HE.out).mono ?_
    rintro e' w1 ⟨rfl, hb1⟩
    have B1 := Lib.hid (show Below w.heap.size w (w1.alloc (.cells #[.int .i64 ep, .string U, .string R] 88)) from hb1.alloc hb1.size _)
    clear hb1
    go_wp2_with fail
    refine (CT.out _ (HE.out.below B1.out)).mono ?_
    rintro e' w2 ⟨rfl, hb2⟩
    have B2 := Lib.hid (bel_2 B1.out hb2)
    clear hb2
    go_wp2
    go_ret
    exact ⟨rfl, B2.out⟩
  · have t1 : (e == 0) = false := by rw [beq_eq_false_iff_ne]; exact he
    rw [decide_eq_false he, Bool.false_and] at X
    have XX := Lib.hid X
    clear X hst CT he
    go_enter Tryz.func27, Tryz.ntmps27
    go_wp2_with fail
    refine (CP.out _ HE.out).mono ?_
    rintro e' w1 ⟨rfl, hb1⟩
    have B1 := Lib.hid (show Below w.heap.size w (w1.alloc (.cells #[.int .i64 ep, .string U, .string R] 88)) from hb1.alloc hb1.size _)
    clear hb1
    go_wp2
    go_ret
    exact ⟨by rw [XX.out]; rfl, B1.out⟩
set_option maxHeartbeats 1000000 in
theorem givable6_any (x : Atm) (w : World) : Calls Tryz.prog 31 #[.agg #[.string x.n, .int .i64 x.o, .string x.v]] w fun e w' => e = .returned (.bool (giv6 x)) ∧ Below w.heap.size w w' := by
  have B1 := Lib.hid (show Below w.heap.size w (w.alloc (.cells #[.string x.n, .int .i64 x.o, .string x.v] 49)) from (Below.refl _ w).alloc (Nat.le_refl _) _)
  have X := Lib.hid (show giv6 x = (x.o == 0 || x.o == 3) from rfl)
  obtain ⟨n, o, v⟩ := x
  simp only at X ⊢
  by_cases h0 : o = 0
  · have t0 : (o == 0) = true := by rw [beq_iff_eq]; exact h0
    have XX := Lib.hid (show giv6 ⟨n, o, v⟩ = true by rw [X.out, t0]; rfl)
    clear X h0
    go_enter Tryz.func31, Tryz.ntmps31
    go_wp2
    go_ret
    exact ⟨by rw [XX.out]; try rfl, B1.out⟩
  · have t0 : (o == 0) = false := by rw [beq_eq_false_iff_ne]; exact h0
    have XX := Lib.hid (show giv6 ⟨n, o, v⟩ = (o == 3) by rw [X.out, t0]; rfl)
    clear X h0
    generalize giv6 ⟨n, o, v⟩ = q at *
    go_enter Tryz.func31, Tryz.ntmps31
    go_wp2
    go_ret
    exact ⟨by rw [XX.out]; try rfl, B1.out⟩
set_option maxHeartbeats 4000000 in
theorem each6_any (f : Nat) (p : Atm → Bool) (hcf : ∀ (args : Array Value) (w : World), (callFunc f args).run Tryz.prog w = .ok (.enter f args) w)
    (hf : ∀ (x : Atm) (w : World), EnvR w → Calls Tryz.prog f #[.agg #[.string x.n, .int .i64 x.o, .string x.v]] w fun e w' => e = .returned (.bool (p x)) ∧ Below w.heap.size w w')
    (A : Option Addr) (n c : Nat) (l : List Atm) (w : World) (h : rdAtms w (lt_ w.heap.size) l [.slice A n c]) (E : EnvR w) :
    Calls Tryz.prog 29 #[.slice A n c, .func (.func f) #[] #[]] w fun e w' => e = .returned (.bool (l.all p)) ∧ Below w.heap.size w w' := by
  obtain ⟨rfl, hnc, hcm, _⟩ := rdAtms_at h
  have hcm' : c ≤ 9223372036854775807 := hcm
  have HE := Lib.hid E
  have H := Lib.hid h
  have KF := Lib.hid hf
  clear hcm E h hf
  go_enter Tryz.func29, Tryz.ntmps29
  go_wp2
  go_loopw [6, 9] (fun _ i wr => ∃ k : Nat, k ≤ l.length ∧ i = .int .i64 k ∧ (l.take k).all p = true ∧ Below w.heap.size w wr) (fun _ i _ => l.length - (intOf i).toNat)
  case atStart => exact ⟨0, Nat.zero_le _, rfl, rfl, Below.refl _ _⟩
  case round =>
    obtain ⟨k, hk, rfl, hall, hbel⟩ := hrel
    have HA := Lib.hid hall
    have HB := Lib.hid hbel
    clear hall
    by_cases hlt : k < l.length
    · obtain ⟨_, _, _, hat⟩ := rdAtms_at (rdAtms_good.below H.out hbel)
      obtain ⟨ad, rfl, had, h0, h1, h2⟩ := hat k hlt
      have i0 : (0 : Int) ≤ (k : Int) := by omega
      have i1 : (k : Int) < (l.length : Int) := by omega
      have ST := Lib.hid (fun hf => all_step6 (f := p) hlt HA.out hf)
      have SP := Lib.hid (fun hf => all_stop6 (f := p) hlt hf)
      generalize l[k] = x at *
      have BX := Lib.hid (show Below wr.heap.size wr (wr.alloc (.cells #[.string x.n, .int .i64 x.o, .string x.v] 49)) from (Below.refl _ wr).alloc (Nat.le_refl _) _)
      have K := Lib.hid (KF.out x (wr.alloc (.cells #[.string x.n, .int .i64 x.o, .string x.v] 49)) ((HE.out.below HB.out).below BX.out))
      generalize p x = b at *
      clear had hat hbel
      go_wp2_with fail
      refine K.out.mono ?_
      rintro e w' ⟨rfl, hb⟩
      have HB2 := Lib.hid (HB.out.trans ((BX.out.trans (hb.mono BX.out.size)).mono HB.out.size))
      clear hb h0 h1 h2
      cases b
      · have XX := Lib.hid (SP.out rfl)
        go_wp2
        go_ret
        exact ⟨by rw [XX.out]; try rfl, HB2.out⟩
      have NX := Lib.hid (ST.out rfl)
      go_wp2
      go_roundw
      case rel => exact ⟨k + 1, by omega, by go_num, NX.out, HB2.out⟩
      case measure => simp [intOf]; omega
    · obtain rfl : k = l.length := by omega
      have FIN := Lib.hid (show l.all p = true by have := HA.out; rw [List.take_length] at this; exact this)
      clear hbel
      go_wp2
      go_ret
      exact ⟨by rw [FIN.out]; try rfl, HB.out⟩
end Go.Proofs.YtmlakjemgmeffaaGreatDoor
end

section
set_option maxRecDepth 100000
set_option linter.unusedVariables false
set_option linter.unusedSimpArgs false
namespace Go.Proofs.YtmlakjemgmeffaaGreatDoor
open Go.RowKit
def ixP {α : Type} (p : α → Bool) : List α → Nat → Int
  | [], _ => -1
  | f :: r, i => if p f = true then i else ixP p r (i + 1)
theorem ixP_at {α : Type} {p : α → Bool} {l : List α} {k : Nat} (hk : k < l.length) : (p l[k] = true → ixP p (l.drop k) k = k) ∧ (p l[k] = false → ixP p (l.drop k) k = ixP p (l.drop (k + 1)) (k + 1)) := by
  rw [List.drop_eq_getElem_cons hk]
  exact ⟨fun h => if_pos h, fun h => if_neg (by rw [h]; decide)⟩
theorem ixP_any {α : Type} {p : α → Bool} : ∀ {l : List α} {i : Nat}, decide (0 ≤ ixP p l i) = l.any p
  | [], _ => rfl
  | f :: r, i => by
    unfold ixP
    rw [List.any_cons]
    cases h : p f
    · rw [if_neg (by decide), Bool.false_or]; exact ixP_any
    · rw [if_pos rfl, Bool.true_or, decide_eq_true_iff]; omega
set_option maxHeartbeats 1000000 in
theorem among1_any (y : Ent) (A1 : Option Addr) (c1 : Nat) (A2 : Option Addr) (c2 : Nat) (A3 : Option Addr) (c3 : Nat) (A4 : Option Addr) (c4 : Nat) (n v : ByteArray) (q : Nat) (w : World) (h0 : w.cell? ⟨q, 0, none⟩ = some (.string n)) (h1 : w.cell? ⟨q, 1, none⟩ = some (.string v)) :
    Calls Tryz.prog 78 #[y.val A1 c1 A2 c2 A3 c3 A4 c4, .pointer (some ⟨q, 0, none⟩)] w fun e w' => e = .returned (.bool (thr n v y)) ∧ Below w.heap.size w w' := by
  have B1 := (Below.refl w.heap.size w).alloc (Nat.le_refl _) (.cells #[.string y.n, .string y.v, .slice A1 y.d.length c1, .slice A2 y.r.length c2, .slice A3 y.c.length c3, .slice A4 y.p.length c4] 25)
  have g0 := keep6 B1 h0
  have g1 := keep6 B1 h1
  have HB := Lib.hid B1
  have e0 := str_eq y.n n
  have e1 := str_eq y.v v
  have X := Lib.hid (show thr n v y = (decide (y.n = n) && decide (y.v = v)) from rfl)
  generalize decide (y.n = n) = d0 at *
  generalize decide (y.v = v) = d1 at *
  generalize thr n v y = b at *
  obtain ⟨yn, yv, yd, yr, yc, yp⟩ := y
  clear B1 h0 h1
  show Calls Tryz.prog 78 #[.agg #[.string yn, .string yv, .slice A1 yd.length c1, .slice A2 yr.length c2, .slice A3 yc.length c3, .slice A4 yp.length c4], .pointer (some ⟨q, 0, none⟩)] w _
  cases d0
  · go_enter Tryz.func78, Tryz.ntmps78
    go_wp2
    go_ret
    exact ⟨by rw [X.out]; try rfl, HB.out⟩
  · go_enter Tryz.func78, Tryz.ntmps78
    go_wp2
    go_ret
    exact ⟨by rw [X.out]; try rfl, HB.out⟩
set_option maxHeartbeats 4000000 in
theorem ixEnt_any (A : Option Addr) (m cc : Nat) (l : List Ent) (n v : ByteArray) (q : Nat) (w : World) (h : rdEnts w (lt_ w.heap.size) l [.slice A m cc]) (h0 : w.cell? ⟨q, 0, none⟩ = some (.string n)) (h1 : w.cell? ⟨q, 1, none⟩ = some (.string v)) :
    Calls Tryz.prog 106 #[.slice A m cc, .func (.func 78) #[] #[.pointer (some ⟨q, 0, none⟩)]] w fun e w' => e = .returned (.int .i64 (ixP (thr n v) l 0)) ∧ Below w.heap.size w w' := by
  have hcf : ∀ (args : Array Value) (w : World), (callFunc 78 args).run Tryz.prog w = .ok (.enter 78 args) w := fun _ _ => by kernel_rfl
  obtain ⟨rfl, hnc, hcm, _⟩ := rdEnts_at h
  have hcm' : cc ≤ 9223372036854775807 := hcm
  have H := Lib.hid h
  have H0 := Lib.hid h0
  have H1 := Lib.hid h1
  clear h hcm h0 h1
  go_enter Tryz.func106, Tryz.ntmps106
  go_wp2
  go_loopw [8] (fun i wr => ∃ k : Nat, k ≤ l.length ∧ i = .int .i64 k ∧ ixP (thr n v) l 0 = ixP (thr n v) (l.drop k) k ∧ Below w.heap.size w wr) (fun i _ => l.length - (intOf i).toNat)
  case atStart => exact ⟨0, Nat.zero_le _, rfl, rfl, Below.refl _ _⟩
  case round =>
    obtain ⟨k, hk, rfl, hx, hbel⟩ := hrel
    have HX := Lib.hid hx
    have HB := Lib.hid hbel
    clear hx
    by_cases hlt : k < l.length
    · obtain ⟨_, _, _, ha⟩ := rdEnts_at (rdEnts_good.below H.out hbel)
      obtain ⟨ad, A1, c1, A2, c2, A3, c3, A4, c4, rfl, had, hv, g0, g1, g2, g3, g4, g5⟩ := ha k hlt
      have i0 : (0 : Int) ≤ (k : Int) := by omega
      have i1 : (k : Int) < (l.length : Int) := by omega
      have CL := Lib.hid (among1_any l[k] A1 c1 A2 c2 A3 c3 A4 c4 n v q wr (keep6 hbel H0.out) (keep6 hbel H1.out))
      have PA := Lib.hid (ixP_at (p := thr n v) hlt)
      clear ha hbel hv had
      have SZ := Lib.hid HB.out.size
      generalize l[k] = x at *
      cases he : thr n v x
      · have X := Lib.hid (PA.out.2 he)
        rw [he] at CL
        clear he
        go_wp2_with fail
        refine CL.out.mono ?_
        rintro e w' ⟨rfl, hb2⟩
        have HB2 := Lib.hid hb2
        clear hb2
        go_wp2
        go_roundw
        case rel => exact ⟨k + 1, by omega, by go_num, by rw [HX.out, X.out], HB.out.trans (HB2.out.mono SZ.out)⟩
        case measure => simp [intOf]; omega
      · have X := Lib.hid (PA.out.1 he)
        rw [he] at CL
        clear he
        go_wp2_with fail
        refine CL.out.mono ?_
        rintro e w' ⟨rfl, hb2⟩
        have HB2 := Lib.hid hb2
        clear hb2
        go_wp2
        go_ret
        exact ⟨by rw [HX.out, X.out]; try rfl, HB.out.trans (HB2.out.mono SZ.out)⟩
    · have X := Lib.hid (show ixP (thr n v) l 0 = -1 by rw [HX.out, List.drop_eq_nil_of_le (by omega)]; rfl)
      go_wp2
      go_ret
      exact ⟨by rw [X.out]; try rfl, HB.out⟩
set_option maxHeartbeats 2000000 in
theorem hasEnt_any (A : Option Addr) (m cc : Nat) (l : List Ent) (n v : ByteArray) (q : Nat) (w : World) (h : rdEnts w (lt_ w.heap.size) l [.slice A m cc]) (h0 : w.cell? ⟨q, 0, none⟩ = some (.string n)) (h1 : w.cell? ⟨q, 1, none⟩ = some (.string v)) :
    Calls Tryz.prog 77 #[.slice A m cc, .func (.func 78) #[] #[.pointer (some ⟨q, 0, none⟩)]] w fun e w' => e = .returned (.bool (l.any (thr n v))) ∧ Below w.heap.size w w' := by
  have C := Lib.hid (ixEnt_any A m cc l n v q w h h0 h1)
  have X := Lib.hid (ixP_any (p := thr n v) (l := l) (i := 0))
  clear h h0 h1
  go_enter Tryz.func77, Tryz.ntmps77
  go_wp2_with (go_at_call 106; (with_reducible refine C.out.mono ?_); rintro e w' ⟨rfl, hb2⟩)
  go_ret
  exact ⟨by rw [← X.out]; rfl, hb2⟩
set_option maxHeartbeats 2000000 in
theorem among6_any (A : Option Addr) (m cc : Nat) (l : List Ent) (x : Ent) (A1 : Option Addr) (c1 : Nat) (A2 : Option Addr) (c2 : Nat) (A3 : Option Addr) (c3 : Nat) (A4 : Option Addr) (c4 : Nat) (w : World) (h : rdEnts w (lt_ w.heap.size) l [.slice A m cc]) :
    Calls Tryz.prog 42 #[.slice A m cc, x.val A1 c1 A2 c2 A3 c3 A4 c4] w fun e w' => e = .returned (.bool (thB l x)) ∧ Below w.heap.size w w' := by
  have B1 := (Below.refl w.heap.size w).alloc (Nat.le_refl _) (.cells #[.string x.n, .string x.v, .slice A1 x.d.length c1, .slice A2 x.r.length c2, .slice A3 x.c.length c3, .slice A4 x.p.length c4] 25)
  have C := Lib.hid (hasEnt_any A m cc l x.n x.v w.heap.size (w.alloc (.cells #[.string x.n, .string x.v, .slice A1 x.d.length c1, .slice A2 x.r.length c2, .slice A3 x.c.length c3, .slice A4 x.p.length c4] 25)) (rdEnts_good.up (rdEnts_good.below h B1) B1.size) (by simp [go_sem]) (by simp [go_sem]))
  have HB := Lib.hid B1
  have X := Lib.hid (show l.any (thr x.n x.v) = thB l x from rfl)
  generalize l.any (thr x.n x.v) = b at *
  generalize thB l x = b' at *
  have hmf : ∀ (fn : Fn) (first cap : Array Value) (w : World), (Instr.makeFunc fn first cap).run Tryz.prog w = .ok (.func fn first cap) w := fun _ _ _ _ => rfl
  obtain ⟨n, v, d, r, c, p⟩ := x
  clear h B1
  show Calls Tryz.prog 42 #[.slice A m cc, .agg #[.string n, .string v, .slice A1 d.length c1, .slice A2 r.length c2, .slice A3 c.length c3, .slice A4 p.length c4]] w _
  go_enter Tryz.func42, Tryz.ntmps42
  go_wp2_with (go_at_call 77; (with_reducible refine C.out.mono ?_); rintro e w' ⟨rfl, hb2⟩)
  have HB2 := Lib.hid hb2
  clear hb2
  go_wp2
  go_ret
  exact ⟨by rw [X.out]; try rfl, HB.out.trans (HB2.out.mono HB.out.size)⟩
end Go.Proofs.YtmlakjemgmeffaaGreatDoor
end

section
set_option maxRecDepth 100000
set_option linter.unusedVariables false
set_option linter.unusedSimpArgs false
namespace Go.Proofs.YtmlakjemgmeffaaGreatDoor
open Go.RowKit
theorem rgtE_turn (x : Ent) : rgtE x = (nameB (B x.n) && (prB (B x.v) && (rightG x.d && (rightG x.r && (decide (x.c.length ≤ 12) && (x.c.all rgt && (decide (x.p.length ≤ 8) && (x.p.all rgt && givs6 x.p)))))))) := by
  unfold rgtE
  generalize nameB (B x.n) = b1
  generalize prB (B x.v) = b2
  generalize rightG x.d = b3
  generalize rightG x.r = b4
  generalize x.c.all rgt = b5
  generalize x.p.all rgt = b6
  generalize givs6 x.p = b7
  generalize decide (x.c.length ≤ 12) = b8
  generalize decide (x.p.length ≤ 8) = b9
  cases b1 <;> cases b2 <;> cases b3 <;> cases b4 <;> cases b5 <;> cases b6 <;> cases b7 <;> cases b8 <;> cases b9 <;> rfl
set_option maxHeartbeats 8000000 in
theorem eright_any (x : Ent) (A1 : Option Addr) (c1 : Nat) (A2 : Option Addr) (c2 : Nat) (A3 : Option Addr) (c3 : Nat) (A4 : Option Addr) (c4 : Nat) (w : World) (hx : EntV w (lt_ w.heap.size) x A1 c1 A2 c2 A3 c3 A4 c4) (E : EnvR w) :
    Calls Tryz.prog 10 #[x.val A1 c1 A2 c2 A3 c3 A4 c4] w fun e w' => e = .returned (.bool (rgtE x)) ∧ Below w.heap.size w w' := by
  have XE := Lib.hid (rgtE_turn x)
  obtain ⟨n, v, d, r, c, p⟩ := x
  have B1 := Lib.hid (show Below w.heap.size w (w.alloc (.cells #[.string n, .string v, .slice A1 d.length c1, .slice A2 r.length c2, .slice A3 c.length c3, .slice A4 p.length c4] 25)) from (Below.refl _ w).alloc (Nat.le_refl _) _)
  have KX := Lib.hid (fun (W : World) (hb : Below (w.alloc (.cells #[.string n, .string v, .slice A1 d.length c1, .slice A2 r.length c2, .slice A3 c.length c3, .slice A4 p.length c4] 25)).heap.size (w.alloc (.cells #[.string n, .string v, .slice A1 d.length c1, .slice A2 r.length c2, .slice A3 c.length c3, .slice A4 p.length c4] 25)) W) => box6 hb)
  have HX := Lib.hid hx
  have HE := Lib.hid E
  have KN := Lib.hid (fun W => rname_any n W)
  have KV := Lib.hid (fun W (hb : Below w.heap.size w W) => eprinted_any v W ((HE.out.below hb).env))
  have KD := Lib.hid (fun W (hb : Below w.heap.size w W) => right4_any A1 d.length c1 d W (HX.out.on hb).d (HE.out.below hb))
  have KR := Lib.hid (fun W (hb : Below w.heap.size w W) => right4_any A2 r.length c2 r W (HX.out.on hb).r (HE.out.below hb))
  have KC := Lib.hid (fun W (hb : Below w.heap.size w W) => each6_any 30 rgt (fun _ _ => by kernel_rfl) (fun x W E => rright_atom x W E) A3 c.length c3 c W (HX.out.on hb).c (HE.out.below hb))
  have KP := Lib.hid (fun W (hb : Below w.heap.size w W) => each6_any 30 rgt (fun _ _ => by kernel_rfl) (fun x W E => rright_atom x W E) A4 p.length c4 p W (HX.out.on hb).p (HE.out.below hb))
  have KG := Lib.hid (fun W (hb : Below w.heap.size w W) => each6_any 31 giv6 (fun _ _ => by kernel_rfl) (fun x W _ => givable6_any x W) A4 p.length c4 p W (HX.out.on hb).p (HE.out.below hb))
  show Calls Tryz.prog 10 #[.agg #[.string n, .string v, .slice A1 d.length c1, .slice A2 r.length c2, .slice A3 c.length c3, .slice A4 p.length c4]] w _
  unfold givs6 at XE
  simp only at XE
  clear hx E
  generalize rgtE ⟨n, v, d, r, c, p⟩ = bE at *
  generalize nameB (B n) = b1 at *
  generalize prB (B v) = b2 at *
  generalize rightG d = b3 at *
  generalize rightG r = b4 at *
  generalize c.all rgt = b5 at *
  generalize p.all rgt = b6 at *
  generalize p.all giv6 = b7 at *
  obtain ⟨W1, hW1⟩ : ∃ W, W = (w.alloc (.cells #[.string n, .string v, .slice A1 d.length c1, .slice A2 r.length c2, .slice A3 c.length c3, .slice A4 p.length c4] 25)) := ⟨_, rfl⟩
  rw [← hW1] at B1 KX
  have V0 := Lib.hid (Below.refl W1.heap.size W1)
  have C0 := Lib.hid B1.out
  go_enter Tryz.func10, Tryz.ntmps10
  go_wp2_with fail
  rw [← hW1]
  refine (KN.out _).mono ?_
  clear hW1
  rintro e w1 ⟨rfl, hb⟩
  have V1 := Lib.hid (V0.out.trans (hb.mono V0.out.size))
  have C1 := Lib.hid (C0.out.trans (hb.mono C0.out.size))
  clear hb
  cases b1
  · go_wp2
    go_ret
    exact ⟨by rw [XE.out]; try rfl, C1.out⟩
  obtain ⟨a0, a1, a2, a3, a4, a5⟩ := KX.out _ V1.out
  go_wp2_with fail
  refine (KV.out _ C1.out).mono ?_
  rintro e w2 ⟨rfl, hb⟩
  have V2 := Lib.hid (V1.out.trans (hb.mono V1.out.size))
  have C2 := Lib.hid (C1.out.trans (hb.mono C1.out.size))
  clear hb a0 a1 a2 a3 a4 a5
  cases b2
  · go_wp2
    go_ret
    exact ⟨by rw [XE.out]; try rfl, C2.out⟩
  obtain ⟨a0, a1, a2, a3, a4, a5⟩ := KX.out _ V2.out
  go_wp2_with fail
  refine (KD.out _ C2.out).mono ?_
  rintro e w3 ⟨rfl, hb⟩
  have V3 := Lib.hid (V2.out.trans (hb.mono V2.out.size))
  have C3 := Lib.hid (C2.out.trans (hb.mono C2.out.size))
  clear hb a0 a1 a2 a3 a4 a5
  cases b3
  · go_wp2
    go_ret
    exact ⟨by rw [XE.out]; try rfl, C3.out⟩
  obtain ⟨a0, a1, a2, a3, a4, a5⟩ := KX.out _ V3.out
  go_wp2_with fail
  refine (KR.out _ C3.out).mono ?_
  rintro e w4 ⟨rfl, hb⟩
  have V4 := Lib.hid (V3.out.trans (hb.mono V3.out.size))
  have C4 := Lib.hid (C3.out.trans (hb.mono C3.out.size))
  clear hb a0 a1 a2 a3 a4 a5
  cases b4
  · go_wp2
    go_ret
    exact ⟨by rw [XE.out]; try rfl, C4.out⟩
  by_cases q0 : ¬ (c.length : Int) ≤ 12
  · have Q := Lib.hid (show decide (c.length ≤ 12) = false from decide_eq_false (by omega))
    obtain ⟨a0, a1, a2, a3, a4, a5⟩ := KX.out _ V4.out
    go_wp2
    go_ret
    exact ⟨by rw [XE.out, Q.out]; try rfl, C4.out⟩
  have q0 := Decidable.not_not.1 q0
  have QC := Lib.hid (show decide (c.length ≤ 12) = true from decide_eq_true (by omega))
  obtain ⟨a0, a1, a2, a3, a4, a5⟩ := KX.out _ V4.out
  go_wp2_with fail
  refine (KC.out _ C4.out).mono ?_
  rintro e w5 ⟨rfl, hb⟩
  have V5 := Lib.hid (V4.out.trans (hb.mono V4.out.size))
  have C5 := Lib.hid (C4.out.trans (hb.mono C4.out.size))
  clear hb a0 a1 a2 a3 a4 a5
  cases b5
  · go_wp2
    go_ret
    exact ⟨by rw [XE.out, QC.out]; try rfl, C5.out⟩
  by_cases q1 : ¬ (p.length : Int) ≤ 8
  · have Q := Lib.hid (show decide (p.length ≤ 8) = false from decide_eq_false (by omega))
    obtain ⟨a0, a1, a2, a3, a4, a5⟩ := KX.out _ V5.out
    go_wp2
    go_ret
    exact ⟨by rw [XE.out, QC.out, Q.out]; try rfl, C5.out⟩
  have q1 := Decidable.not_not.1 q1
  have QP := Lib.hid (show decide (p.length ≤ 8) = true from decide_eq_true (by omega))
  obtain ⟨a0, a1, a2, a3, a4, a5⟩ := KX.out _ V5.out
  go_wp2_with fail
  refine (KP.out _ C5.out).mono ?_
  rintro e w6 ⟨rfl, hb⟩
  have V6 := Lib.hid (V5.out.trans (hb.mono V5.out.size))
  have C6 := Lib.hid (C5.out.trans (hb.mono C5.out.size))
  clear hb a0 a1 a2 a3 a4 a5
  cases b6
  · go_wp2
    go_ret
    exact ⟨by rw [XE.out, QC.out, QP.out]; try rfl, C6.out⟩
  obtain ⟨a0, a1, a2, a3, a4, a5⟩ := KX.out _ V6.out
  go_wp2_with fail
  refine (KG.out _ C6.out).mono ?_
  rintro e w7 ⟨rfl, hb⟩
  have V7 := Lib.hid (V6.out.trans (hb.mono V6.out.size))
  have C7 := Lib.hid (C6.out.trans (hb.mono C6.out.size))
  clear hb a0 a1 a2 a3 a4 a5
  go_wp2
  go_ret
  exact ⟨by rw [XE.out, QC.out, QP.out]; try rfl, C7.out⟩
end Go.Proofs.YtmlakjemgmeffaaGreatDoor
end
