/- What the laws of this seat rest on: E6e, E6f, E6g, E6h. -/
import Derived.Test.YtmlakjemgmeffaaGreatDoorE6dY
import Derived.Test.YtmlakjemgmeffaaGreatDoorNP
import Derived.Test.YtmlakjemgmeffaaGreatDoorND

section
set_option maxRecDepth 100000
set_option linter.unusedVariables false
set_option linter.unusedSimpArgs false
namespace Go.Proofs.YtmlakjemgmeffaaGreatDoor
open Go.RowKit
def giv6 (a : Atm) : Bool := a.o == 0 || a.o == 3
def givs6 (l : List Atm) : Bool := l.all giv6
theorem all_step6 {α : Type} {f : α → Bool} {l : List α} {k : Nat} (h : k < l.length) (ha : (l.take k).all f = true) (hf : f l[k] = true) : (l.take (k + 1)).all f = true := by
  rw [List.take_succ_eq_append_getElem h, List.all_append, ha]; simp [hf]
theorem all_stop6 {α : Type} {f : α → Bool} {l : List α} {k : Nat} (h : k < l.length) (hf : f l[k] = false) : l.all f = false := by
  rw [List.all_eq_false]; exact ⟨_, List.getElem_mem h, by rw [hf]; simp⟩
set_option maxHeartbeats 8000000 in
theorem q6given_any (A : Option Addr) (n c : Nat) (l : List Atm) (w : World) (h : rdAtms w (lt_ w.heap.size) l [.slice A n c]) :
    Calls Tryz.prog 36 #[.slice A n c] w fun e w' => e = .returned (.bool (givs6 l)) ∧ w = w' := by
  obtain ⟨rfl, hnc, hcm, hat⟩ := rdAtms_at h
  have hcm' : c ≤ 9223372036854775807 := hcm
  have HAT := Lib.hid hat
  clear h hat hcm
  go_enter Tryz.func36, Tryz.ntmps36
  go_wp2
  go_loop [3] (fun i => ∃ k : Nat, k ≤ l.length ∧ i = .int .i64 k ∧ (l.take k).all giv6 = true) (fun i => l.length - (intOf i).toNat)
  case atStart => exact ⟨0, Nat.zero_le _, rfl, rfl⟩
  case round =>
    obtain ⟨k, hk, rfl, hall⟩ := hrel
    have HA := Lib.hid hall
    clear hall
    by_cases hlt : k < l.length
    · obtain ⟨ad, rfl, had, h0, h1, h2⟩ := HAT.out k hlt
      have i0 : (0 : Int) ≤ (k : Int) := by omega
      have i1 : (k : Int) < (l.length : Int) := by omega
      have ST := Lib.hid (fun hf => all_step6 (f := giv6) hlt HA.out hf)
      have SP := Lib.hid (fun hf => all_stop6 (f := giv6) hlt hf)
      have G := Lib.hid (show giv6 l[k] = (l[k].o == 0 || l[k].o == 3) from rfl)
      clear had h0 h2
      generalize l[k] = x at *
      rcases (by
        by_cases g0 : x.o = 0
        · exact .inl g0
        · by_cases g3 : x.o = 3
          · exact .inr (.inl ⟨g0, g3⟩)
          · exact .inr (.inr ⟨g0, g3⟩) : x.o = 0 ∨ (x.o ≠ 0 ∧ x.o = 3) ∨ (x.o ≠ 0 ∧ x.o ≠ 3)) with g | ⟨g, g'⟩ | ⟨g, g'⟩
      · have t1 : (x.o != 0) = false := by rw [g]; rfl
        have NX := Lib.hid (ST.out (by rw [G.out, g]; rfl))
        clear g
        go_wp2
        go_round
        case rel => exact ⟨k + 1, by omega, by go_num, NX.out⟩
        case measure => simp [intOf]; omega
      · have t1 : (x.o != 0) = true := by rw [g']; rfl
        have t2 : (x.o != 3) = false := by rw [g']; rfl
        have NX := Lib.hid (ST.out (by rw [G.out, g']; rfl))
        clear g g'
        go_wp2
        go_round
        case rel => exact ⟨k + 1, by omega, by go_num, NX.out⟩
        case measure => simp [intOf]; omega
      · have t1 : (x.o != 0) = true := by rw [bne_iff_ne]; exact g
        have t2 : (x.o != 3) = true := by rw [bne_iff_ne]; exact g'
        have XX := Lib.hid (show givs6 l = false from SP.out (by rw [G.out, beq_eq_false_iff_ne.2 g, beq_eq_false_iff_ne.2 g']; rfl))
        clear g g'
        go_wp2
        go_ret
        exact ⟨by rw [XX.out]; try rfl, rfl⟩
    · obtain rfl : k = l.length := by omega
      have FIN := Lib.hid (show givs6 l = true by have := HA.out; rw [List.take_length] at this; exact this)
      go_wp2
      go_ret
      exact ⟨by rw [FIN.out]; try rfl, rfl⟩
def thr (n v : ByteArray) (y : Ent) : Bool := decide (y.n = n) && decide (y.v = v)
def thB (l : List Ent) (x : Ent) : Bool := l.any (thr x.n x.v)
theorem none_step6 {α : Type} {f : α → Bool} {l : List α} {k : Nat} (h : k < l.length) (ha : (l.take k).any f = false) (hf : f l[k] = false) : (l.take (k + 1)).any f = false := by
  rw [List.take_succ_eq_append_getElem h, List.any_append, ha]; simp [hf]
theorem any_stop6 {α : Type} {f : α → Bool} {l : List α} {k : Nat} (h : k < l.length) (hf : f l[k] = true) : l.any f = true := List.any_eq_true.2 ⟨_, List.getElem_mem h, hf⟩
set_option maxHeartbeats 8000000 in
theorem q6there_any (A : Option Addr) (m cc : Nat) (l : List Ent) (x : Ent) (A1 : Option Addr) (c1 : Nat) (A2 : Option Addr) (c2 : Nat) (A3 : Option Addr) (c3 : Nat) (A4 : Option Addr) (c4 : Nat) (w : World) (h : rdEnts w (lt_ w.heap.size) l [.slice A m cc]) :
    Calls Tryz.prog 44 #[.slice A m cc, x.val A1 c1 A2 c2 A3 c3 A4 c4] w fun e w' => e = .returned (.bool (thB l x)) ∧ Below w.heap.size w w' := by
  obtain ⟨rfl, hnc, hcm, _⟩ := rdEnts_at h
  have hcm' : cc ≤ 9223372036854775807 := hcm
  obtain ⟨n, v, d, r, c, p⟩ := x
  show Calls Tryz.prog 44 #[.slice A l.length cc, .agg #[.string n, .string v, .slice A1 d.length c1, .slice A2 r.length c2, .slice A3 c.length c3, .slice A4 p.length c4]] w _
  have B1 := Lib.hid (show Below w.heap.size w (w.alloc (.cells #[.string n, .string v, .slice A1 d.length c1, .slice A2 r.length c2, .slice A3 c.length c3, .slice A4 p.length c4] 25)) from (Below.refl _ w).alloc (Nat.le_refl _) _)
  obtain ⟨W1, hW1⟩ : ∃ W, W = (w.alloc (.cells #[.string n, .string v, .slice A1 d.length c1, .slice A2 r.length c2, .slice A3 c.length c3, .slice A4 p.length c4] 25)) := ⟨_, rfl⟩
  go_enter Tryz.func44, Tryz.ntmps44
  go_wp2
  rw [← hW1]
  rw [← hW1] at B1
  have b0 : W1.cell? ⟨w.heap.size, 0, none⟩ = some (.string n) := by rw [hW1]; simp [go_sem]
  have b1 : W1.cell? ⟨w.heap.size, 1, none⟩ = some (.string v) := by rw [hW1]; simp [go_sem]
  clear hW1
  go_loopw [5] (fun i wr => ∃ k : Nat, k ≤ l.length ∧ i = .int .i64 k ∧ (l.take k).any (thr n v) = false ∧ Dr W1 wr) (fun i _ => l.length - (intOf i).toNat)
  case atStart => exact ⟨0, Nat.zero_le _, rfl, rfl, Dr.refl _⟩
  case round =>
    obtain ⟨k, hk, rfl, hall, hbel⟩ := hrel
    have HA := Lib.hid hall
    have HB := Lib.hid hbel
    clear hall
    obtain ⟨b0, b1⟩ : wr.cell? ⟨w.heap.size, 0, none⟩ = some (.string n) ∧ wr.cell? ⟨w.heap.size, 1, none⟩ = some (.string v) := ⟨keep6 (hbel.below _) b0, keep6 (hbel.below _) b1⟩
    have HF := Lib.hid (show Below w.heap.size w wr from B1.out.trans ((hbel.below _).mono B1.out.size))
    by_cases hlt : k < l.length
    · obtain ⟨_, _, _, hat⟩ := rdEnts_at (rdEnts_good.below h HF.out)
      obtain ⟨ad, D1, e1, D2, e2, D3, e3, D4, e4, rfl, had, hv, h0, h1, _⟩ := hat k hlt
      have i0 : (0 : Int) ≤ (k : Int) := by omega
      have i1 : (k : Int) < (l.length : Int) := by omega
      have ST := Lib.hid (fun hf => none_step6 (f := thr n v) hlt HA.out hf)
      have SP := Lib.hid (fun hf => any_stop6 (f := thr n v) hlt hf)
      have G := Lib.hid (show thr n v l[k] = (decide (l[k].n = n) && decide (l[k].v = v)) from rfl)
      have en := str_eq l[k].n n
      have ev := str_eq l[k].v v
      clear had hat hv hbel h
      generalize l[k] = y at *
      rcases (by
        by_cases g0 : y.n = n
        · by_cases g3 : y.v = v
          · exact .inl ⟨g0, g3⟩
          · exact .inr (.inl ⟨g0, g3⟩)
        · exact .inr (.inr g0) : (y.n = n ∧ y.v = v) ∨ (y.n = n ∧ y.v ≠ v) ∨ y.n ≠ n) with ⟨g, g'⟩ | ⟨g, g'⟩ | g
      · rw [decide_eq_true g] at en
        rw [decide_eq_true g'] at ev
        have XX := Lib.hid (show thB l ⟨n, v, d, r, c, p⟩ = true from SP.out (by rw [G.out, decide_eq_true g, decide_eq_true g']; rfl))
        clear g g'
        go_wp2_with fail
        go_quiet (fail)
        go_wp2
        go_ret
        exact ⟨by rw [XX.out]; try rfl, B1.out.trans ((Dr.below (HB.out.more _) _).mono B1.out.size)⟩
      · rw [decide_eq_true g] at en
        rw [decide_eq_false g'] at ev
        have NX := Lib.hid (ST.out (by rw [G.out, decide_eq_true g, decide_eq_false g']; rfl))
        clear g g'
        go_wp2_with fail
        go_quiet (fail)
        go_wp2
        go_roundw
        case rel => exact ⟨k + 1, by omega, by go_num, NX.out, HB.out.more _⟩
        case measure => simp [intOf]; omega
      · rw [decide_eq_false g] at en
        have NX := Lib.hid (ST.out (by rw [G.out, decide_eq_false g]; rfl))
        clear g ev
        go_wp2_with fail
        go_quiet (fail)
        go_wp2
        go_roundw
        case rel => exact ⟨k + 1, by omega, by go_num, NX.out, HB.out.more _⟩
        case measure => simp [intOf]; omega
    · obtain rfl : k = l.length := by omega
      have FIN := Lib.hid (show thB l ⟨n, v, d, r, c, p⟩ = false by have := HA.out; rw [List.take_length] at this; exact this)
      clear h hbel
      go_wp2
      go_ret
      exact ⟨by rw [FIN.out]; try rfl, HF.out⟩
end Go.Proofs.YtmlakjemgmeffaaGreatDoor
end

section
set_option maxRecDepth 100000
set_option linter.unusedVariables false
set_option linter.unusedSimpArgs false
namespace Go.Proofs.YtmlakjemgmeffaaGreatDoor
open Go.RowKit
theorem printL_lt6 (e : Int) (u r : ByteArray) : ∀ c ∈ printL e (B u) (B r), c < 256 := by
  unfold printL
  split
  · exact textL_lt _ u r
  · intro c hc; cases hc
set_option maxHeartbeats 2000000 in
theorem q6plain_any (s : ByteArray) (w : World) : Calls Tryz.prog 33 #[.string s] w fun e' w' => e' = .returned (.bool (prB (B s))) ∧ Below w.heap.size w w' := by
  obtain ⟨ep, e, U, R, h1, h2, h3, h4, z2, z3, cp⟩ := parse_opened s
  have X : prB (B s) = (decide (e = 0) && decide (printL ep (B U) (B R) = B s)) := by unfold prB; rw [h1, h2, h3, h4]
  have CP := Lib.hid (cp)
  have CT := Lib.hid (fun w => print_any ep U R w (by omega) (by omega))
  have hst := strEq (printL ep (B U) (B R)) s (printL_lt6 ep U R)
  clear cp h1 h2 h3 h4
  by_cases he : e = 0
  · have t1 : (e == 0) = true := by rw [beq_iff_eq]; exact he
    rw [decide_eq_true he, Bool.true_and] at X
    rw [← X] at hst
    generalize prB (B s) = b at *
    generalize mk (printL ep (B U) (B R)) = T at *
    clear X
    go_enter Tryz.func33, Tryz.ntmps33
    go_wp2_with fail
    refine (CP.out _).mono ?_
    rintro e' w1 ⟨rfl, hb1⟩
    have B1 := Lib.hid (show Below w.heap.size w (w1.alloc (.cells #[.int .i64 ep, .string U, .string R] 88)) from hb1.alloc hb1.size _)
    clear hb1
    go_wp2_with fail
    refine (CT.out _).mono ?_
    rintro e' w2 ⟨rfl, hb2⟩
    have B2 := Lib.hid (B1.out.trans (hb2.mono B1.out.size))
    clear hb2
    go_wp2
    go_ret
    exact ⟨rfl, B2.out⟩
  · have t1 : (e == 0) = false := by rw [beq_eq_false_iff_ne]; exact he
    rw [decide_eq_false he, Bool.false_and] at X
    have XX := Lib.hid X
    clear X hst CT he
    go_enter Tryz.func33, Tryz.ntmps33
    go_wp2_with fail
    refine (CP.out _).mono ?_
    rintro e' w1 ⟨rfl, hb1⟩
    have B1 := Lib.hid (show Below w.heap.size w (w1.alloc (.cells #[.int .i64 ep, .string U, .string R] 88)) from hb1.alloc hb1.size _)
    clear hb1
    go_wp2
    go_ret
    exact ⟨by rw [XX.out]; rfl, B1.out⟩
set_option maxHeartbeats 8000000 in
theorem q6atoms_any (KA : ∀ (x : Atm) (w : World), x.n.size ≤ 65536 → Calls Tryz.prog 71 #[.agg #[.string x.n, .int .i64 x.o, .string x.v]] w fun e' w' => e' = .returned (.bool (rgt x)) ∧ Below w.heap.size w w') (A : Option Addr) (n c : Nat) (l : List Atm) (w : World) (h : rdAtms w (lt_ w.heap.size) l [.slice A n c]) (hz : ∀ a ∈ l, a.n.size ≤ 65536) :
    Calls Tryz.prog 35 #[.slice A n c] w fun e w' => e = .returned (.bool (l.all rgt)) ∧ Below w.heap.size w w' := by
  obtain ⟨rfl, hnc, hcm, _⟩ := rdAtms_at h
  have hcm' : c ≤ 9223372036854775807 := hcm
  have KA := Lib.hid KA
  have HZ := Lib.hid hz
  clear hz hcm
  go_enter Tryz.func35, Tryz.ntmps35
  go_wp2
  go_loopw [3] (fun i wr => ∃ k : Nat, k ≤ l.length ∧ i = .int .i64 k ∧ (l.take k).all rgt = true ∧ Below w.heap.size w wr) (fun i _ => l.length - (intOf i).toNat)
  case atStart => exact ⟨0, Nat.zero_le _, rfl, rfl, Below.refl _ _⟩
  case round =>
    obtain ⟨k, hk, rfl, hall, hbel⟩ := hrel
    have HA := Lib.hid hall
    have HB := Lib.hid hbel
    clear hall
    by_cases hlt : k < l.length
    · obtain ⟨_, _, _, hat⟩ := rdAtms_at (rdAtms_good.below h hbel)
      obtain ⟨ad, rfl, had, h0, h1, h2⟩ := hat k hlt
      have i0 : (0 : Int) ≤ (k : Int) := by omega
      have i1 : (k : Int) < (l.length : Int) := by omega
      have ST := Lib.hid (fun hf => all_step6 (f := rgt) hlt HA.out hf)
      have SP := Lib.hid (fun hf => all_stop6 (f := rgt) hlt hf)
      have K := Lib.hid (fun W => KA.out l[k] W (HZ.out _ (List.getElem_mem hlt)))
      clear had hat hbel h
      generalize l[k] = x at *
      generalize rgt x = b at *
      go_wp2_with fail
      refine (K.out _).mono ?_
      rintro e w' ⟨rfl, hb⟩
      have HB2 := Lib.hid (HB.out.trans (hb.mono HB.out.size))
      clear hb h0 h1 h2
      cases b
      · have XX := Lib.hid (SP.out rfl)
        go_wp2
        go_ret
        exact ⟨by rw [XX.out]; try rfl, HB2.out⟩
      have NX := Lib.hid (ST.out rfl)
      go_wp2
      go_roundw
      case rel => exact ⟨k + 1, by omega, by go_num, NX.out, HB2.out⟩
      case measure => simp [intOf]; omega
    · obtain rfl : k = l.length := by omega
      have FIN := Lib.hid (show l.all rgt = true by have := HA.out; rw [List.take_length] at this; exact this)
      clear h hbel
      go_wp2
      go_ret
      exact ⟨by rw [FIN.out]; try rfl, HB.out⟩
def rgtE (x : Ent) : Bool := nameB (B x.n) && (prB (B x.v) && (rightG x.d && (rightG x.r && (x.c.all rgt && (x.p.all rgt && (givs6 x.p && (decide (x.c.length ≤ 12) && decide (x.p.length ≤ 8))))))))
theorem box6 {w W : World} {T : TypeId} {x0 x1 x2 x3 x4 x5 : Value} (hb : Below (w.alloc (.cells #[x0, x1, x2, x3, x4, x5] T)).heap.size (w.alloc (.cells #[x0, x1, x2, x3, x4, x5] T)) W) :
    W.cell? ⟨w.heap.size, 0, none⟩ = some x0 ∧ W.cell? ⟨w.heap.size, 1, none⟩ = some x1 ∧ W.cell? ⟨w.heap.size, 2, none⟩ = some x2 ∧ W.cell? ⟨w.heap.size, 3, none⟩ = some x3 ∧ W.cell? ⟨w.heap.size, 4, none⟩ = some x4 ∧ W.cell? ⟨w.heap.size, 5, none⟩ = some x5 :=
  ⟨(hb.cell (by simp)).trans (by simp [go_sem]), (hb.cell (by simp)).trans (by simp [go_sem]), (hb.cell (by simp)).trans (by simp [go_sem]), (hb.cell (by simp)).trans (by simp [go_sem]), (hb.cell (by simp)).trans (by simp [go_sem]), (hb.cell (by simp)).trans (by simp [go_sem])⟩
def Sz (x : Ent) : Prop := x.n.size ≤ 65536 ∧ (∀ g ∈ x.d, ∀ a ∈ g, a.n.size ≤ 65536) ∧ (∀ g ∈ x.r, ∀ a ∈ g, a.n.size ≤ 65536) ∧ (∀ a ∈ x.c, a.n.size ≤ 65536) ∧ (∀ a ∈ x.p, a.n.size ≤ 65536)
theorem Sm.sz {x : Ent} (h : Sm x) : Sz x := by
  obtain ⟨hc, hp, hn, hv, _, _, hd, hr⟩ := h
  exact ⟨by omega, fun g hg a ha => by have := (hd g hg).2 a ha; omega, fun g hg a ha => by have := (hr g hg).2 a ha; omega, fun a ha => by have := hc.2 a ha; omega, fun a ha => by have := hp.2 a ha; omega⟩
set_option maxHeartbeats 8000000 in
theorem q6right_any (KN : ∀ (s : ByteArray) (w : World), s.size ≤ 65536 → Calls Tryz.prog 32 #[.string s] w fun e w' => e = .returned (.bool (nameB (B s))) ∧ w = w') (KA : ∀ (x : Atm) (w : World), x.n.size ≤ 65536 → Calls Tryz.prog 71 #[.agg #[.string x.n, .int .i64 x.o, .string x.v]] w fun e' w' => e' = .returned (.bool (rgt x)) ∧ Below w.heap.size w w') (K4 : ∀ (A : Option Addr) (n c : Nat) (L : List (List Atm)) (w : World), rdGrps w (lt_ w.heap.size) L [.slice A n c] → (∀ g ∈ L, ∀ a ∈ g, a.n.size ≤ 65536) → Calls Tryz.prog 34 #[.slice A n c] w fun e w' => e = .returned (.bool (rightG L)) ∧ Below w.heap.size w w')
    (x : Ent) (A1 : Option Addr) (c1 : Nat) (A2 : Option Addr) (c2 : Nat) (A3 : Option Addr) (c3 : Nat) (A4 : Option Addr) (c4 : Nat) (w : World) (hx : EntV w (lt_ w.heap.size) x A1 c1 A2 c2 A3 c3 A4 c4) (hz : Sz x) :
    Calls Tryz.prog 11 #[x.val A1 c1 A2 c2 A3 c3 A4 c4] w fun e w' => e = .returned (.bool (rgtE x)) ∧ Below w.heap.size w w' := by
  obtain ⟨n, v, d, r, c, p⟩ := x
  obtain ⟨z1, z2, z3, z4, z5⟩ := hz
  have B1 := Lib.hid (show Below w.heap.size w (w.alloc (.cells #[.string n, .string v, .slice A1 d.length c1, .slice A2 r.length c2, .slice A3 c.length c3, .slice A4 p.length c4] 25)) from (Below.refl _ w).alloc (Nat.le_refl _) _)
  have KX := Lib.hid (fun (W : World) (hb : Below (w.alloc (.cells #[.string n, .string v, .slice A1 d.length c1, .slice A2 r.length c2, .slice A3 c.length c3, .slice A4 p.length c4] 25)).heap.size (w.alloc (.cells #[.string n, .string v, .slice A1 d.length c1, .slice A2 r.length c2, .slice A3 c.length c3, .slice A4 p.length c4] 25)) W) => box6 hb)
  have HX := Lib.hid hx
  have KN := Lib.hid (fun W => KN n W z1)
  have KV := Lib.hid (fun W => q6plain_any v W)
  have KD := Lib.hid (fun W (hb : Below w.heap.size w W) => K4 A1 d.length c1 d W (HX.out.on hb).d z2)
  have KR := Lib.hid (fun W (hb : Below w.heap.size w W) => K4 A2 r.length c2 r W (HX.out.on hb).r z3)
  have KC := Lib.hid (fun W (hb : Below w.heap.size w W) => q6atoms_any KA A3 c.length c3 c W (HX.out.on hb).c z4)
  have KP := Lib.hid (fun W (hb : Below w.heap.size w W) => q6atoms_any KA A4 p.length c4 p W (HX.out.on hb).p z5)
  have KG := Lib.hid (fun W (hb : Below w.heap.size w W) => q6given_any A4 p.length c4 p W (HX.out.on hb).p)
  have XE := Lib.hid (show rgtE ⟨n, v, d, r, c, p⟩ = (nameB (B n) && (prB (B v) && (rightG d && (rightG r && (c.all rgt && (p.all rgt && (givs6 p && (decide (c.length ≤ 12) && decide (p.length ≤ 8)))))))) ) from rfl)
  show Calls Tryz.prog 11 #[.agg #[.string n, .string v, .slice A1 d.length c1, .slice A2 r.length c2, .slice A3 c.length c3, .slice A4 p.length c4]] w _
  clear hx z1 z2 z3 z4 z5 K4 KA
  generalize nameB (B n) = b1 at *
  generalize prB (B v) = b2 at *
  generalize rightG d = b3 at *
  generalize rightG r = b4 at *
  generalize c.all rgt = b5 at *
  generalize p.all rgt = b6 at *
  generalize givs6 p = b7 at *
  obtain ⟨W1, hW1⟩ : ∃ W, W = (w.alloc (.cells #[.string n, .string v, .slice A1 d.length c1, .slice A2 r.length c2, .slice A3 c.length c3, .slice A4 p.length c4] 25)) := ⟨_, rfl⟩
  rw [← hW1] at B1 KX
  have V0 := Lib.hid (Below.refl W1.heap.size W1)
  go_enter Tryz.func11, Tryz.ntmps11
  go_wp2_with fail
  refine (KN.out _).mono ?_
  rintro e w' ⟨rfl, rfl⟩
  rw [← hW1]
  obtain ⟨a0, a1, a2, a3, a4, a5⟩ := KX.out W1 (Below.refl _ _)
  clear hW1
  go_wp2_with fail
  refine (KV.out _).mono ?_
  rintro e w2 ⟨rfl, hb⟩
  have V1 := Lib.hid (V0.out.trans (hb.mono V0.out.size))
  have C1 := Lib.hid (B1.out.trans (hb.mono B1.out.size))
  clear hb a0 a1 a2 a3 a4 a5
  obtain ⟨a0, a1, a2, a3, a4, a5⟩ := KX.out _ V1.out
  go_wp2_with fail
  refine (KD.out _ C1.out).mono ?_
  rintro e w3 ⟨rfl, hb⟩
  have V2 := Lib.hid (V1.out.trans (hb.mono V1.out.size))
  have C2 := Lib.hid (C1.out.trans (hb.mono C1.out.size))
  clear hb a0 a1 a2 a3 a4 a5
  obtain ⟨a0, a1, a2, a3, a4, a5⟩ := KX.out _ V2.out
  go_wp2_with fail
  refine (KR.out _ C2.out).mono ?_
  rintro e w4 ⟨rfl, hb⟩
  have V3 := Lib.hid (V2.out.trans (hb.mono V2.out.size))
  have C3 := Lib.hid (C2.out.trans (hb.mono C2.out.size))
  clear hb a0 a1 a2 a3 a4 a5
  obtain ⟨a0, a1, a2, a3, a4, a5⟩ := KX.out _ V3.out
  go_wp2_with fail
  refine (KC.out _ C3.out).mono ?_
  rintro e w5 ⟨rfl, hb⟩
  have V4 := Lib.hid (V3.out.trans (hb.mono V3.out.size))
  have C4 := Lib.hid (C3.out.trans (hb.mono C3.out.size))
  clear hb a0 a1 a2 a3 a4 a5
  obtain ⟨a0, a1, a2, a3, a4, a5⟩ := KX.out _ V4.out
  go_wp2_with fail
  refine (KP.out _ C4.out).mono ?_
  rintro e w6 ⟨rfl, hb⟩
  have V5 := Lib.hid (V4.out.trans (hb.mono V4.out.size))
  have C5 := Lib.hid (C4.out.trans (hb.mono C4.out.size))
  clear hb a0 a1 a2 a3 a4 a5
  obtain ⟨a0, a1, a2, a3, a4, a5⟩ := KX.out _ V5.out
  go_wp2_with fail
  refine (KG.out _ C5.out).mono ?_
  rintro e w' ⟨rfl, rfl⟩
  cases b1
  · go_wp2
    go_ret
    exact ⟨by rw [XE.out]; try rfl, C5.out⟩
  cases b2
  · go_wp2
    go_ret
    exact ⟨by rw [XE.out]; try rfl, C5.out⟩
  cases b3
  · go_wp2
    go_ret
    exact ⟨by rw [XE.out]; try rfl, C5.out⟩
  cases b4
  · go_wp2
    go_ret
    exact ⟨by rw [XE.out]; try rfl, C5.out⟩
  cases b5
  · go_wp2
    go_ret
    exact ⟨by rw [XE.out]; try rfl, C5.out⟩
  cases b6
  · go_wp2
    go_ret
    exact ⟨by rw [XE.out]; try rfl, C5.out⟩
  cases b7
  · go_wp2
    go_ret
    exact ⟨by rw [XE.out]; try rfl, C5.out⟩
  by_cases q0 : ¬ (c.length : Int) ≤ 12
  · have Q := Lib.hid (show decide (c.length ≤ 12) = false from decide_eq_false (by omega))
    go_wp2
    go_ret
    exact ⟨by rw [XE.out, Q.out]; try rfl, C5.out⟩
  have q0 := Decidable.not_not.1 q0
  by_cases q1 : ¬ (p.length : Int) ≤ 8
  · have Q0 := Lib.hid (show decide (c.length ≤ 12) = true from decide_eq_true (by omega))
    have Q := Lib.hid (show decide (p.length ≤ 8) = false from decide_eq_false (by omega))
    have QI := Lib.hid (show decide ((p.length : Int) ≤ 8) = false from decide_eq_false (by omega))
    go_wp2
    go_ret
    exact ⟨by rw [XE.out, Q0.out, Q.out]; exact congrArg (fun b => Ending.returned (.bool b)) QI.out, C5.out⟩
  have q1 := Decidable.not_not.1 q1
  have Q0 := Lib.hid (show decide (c.length ≤ 12) = true from decide_eq_true (by omega))
  have Q := Lib.hid (show decide (p.length ≤ 8) = true from decide_eq_true (by omega))
  go_wp2
  go_ret
  exact ⟨by rw [XE.out, Q0.out, Q.out]; try rfl, C5.out⟩
end Go.Proofs.YtmlakjemgmeffaaGreatDoor
end

section
set_option maxRecDepth 100000
set_option linter.unusedVariables false
set_option linter.unusedSimpArgs false
namespace Go.Proofs.YtmlakjemgmeffaaGreatDoor
open Go.RowKit
theorem rdFds_on {N : Nat} {w w' : World} {l : List Fd} {cs : List Value} (h : rdFds w (fun b => N ≤ b ∧ b < w.heap.size) l cs) (hb : Below w.heap.size w w') : rdFds w' (fun b => N ≤ b ∧ b < w'.heap.size) l cs :=
  rdFds_good.more (rdFds_good.keep h fun b hb' => hb.block b hb'.2) fun b hb' => ⟨hb'.1, Nat.lt_of_lt_of_le hb'.2 hb.size⟩
def wth (l : List Fd) (n v : ByteArray) : List Fd := if v.size = 0 then l else l ++ [⟨n, v⟩]
set_option maxHeartbeats 4000000 in
theorem q6with_any (A : Option Addr) (n c : Nat) (l : List Fd) (name value : ByteArray) (w : World) (N : Nat) (hN : N ≤ w.heap.size) (h : rdFds w (fun b => N ≤ b ∧ b < w.heap.size) l [.slice A n c]) (hl : l.length ≤ 1000) :
    Calls Tryz.prog 39 #[.slice A n c, .string name, .string value] w fun e w' => (∃ A' c', e = .returned (.slice A' (wth l name value).length c') ∧ rdFds w' (fun b => N ≤ b ∧ b < w'.heap.size) (wth l name value) [.slice A' (wth l name value).length c']) ∧ Below w.heap.size w w' := by
  obtain ⟨rfl, hnc, hcm, _⟩ := rdFds_at h
  have hcm' : c ≤ 9223372036854775807 := hcm
  by_cases hv : value.size = 0
  · have ev : value.toList.isEmpty = true := by rw [toList_data, List.isEmpty_iff]; exact List.eq_nil_of_length_eq_zero (by rw [Array.length_toList]; exact hv)
    have X := Lib.hid (show wth l name value = l from if_pos hv)
    have H := Lib.hid h
    clear h hv
    rw [X.out]
    go_enter Tryz.func39, Tryz.ntmps39
    go_wp2
    go_ret
    exact ⟨⟨A, c, rfl, H.out⟩, Below.refl _ _⟩
  · have ev : value.toList.isEmpty = false := by
      rw [toList_data, List.isEmpty_eq_false_iff]
      intro h0
      have := congrArg List.length h0
      rw [Array.length_toList] at this
      exact hv this
    have X := Lib.hid (show wth l name value = l ++ [⟨name, value⟩] from if_neg hv)
    rw [X.out]
    obtain ⟨fi, hi, hz0, hz1, hz2⟩ := info_parts fd_info
    have GE := Lib.hid (show Grow rdFd 2 (fun _ => True) (w.alloc (Obj.cells #[] 41)) w.heap.size 41 (.slice (some ⟨w.heap.size, 0, none⟩) 0 0) [] from Grow.empty _ (heap_alloc_new w _) (Nat.le_refl _))
    have BE := Lib.hid (show Below w.heap.size w (w.alloc (Obj.cells #[] 41)) from (Below.refl _ _).alloc (Nat.le_refl _) _)
    have XE := Lib.hid (rdFds_good.below (rdFds_good.more h fun b hb => hb.2) BE.out)
    have SE := Lib.hid (show ∀ b, lt_ w.heap.size b → True ∧ b < (w.alloc (Obj.cells #[] 41)).heap.size ∧ (Value.slice (some ⟨w.heap.size, 0, none⟩) 0 0).ownBlock ≠ some b from fun b hb => ⟨trivial, by simp; unfold lt_ at hb; omega, fun hh => by simp only [Value.ownBlock, Option.some.injEq] at hh; unfold lt_ at hb; omega⟩)
    have hs0 : w.heap.size ≤ (w.alloc (Obj.cells #[] 41)).heap.size := BE.out.size
    have hq1 : ([] : List Fd).length + l.length ≤ maxLen := by simp only [List.length_nil]; unfold maxLen; omega
    have hq2 : (([] : List Fd).length + l.length) * 32 ≤ 140737488355328 := by simp only [List.length_nil]; omega
    have hq3 : l.length + 1 ≤ maxLen := by unfold maxLen; omega
    have hq4 : (l.length + 1) * 32 ≤ 140737488355328 := by omega
    clear h hv
    go_enter Tryz.func39, Tryz.ntmps39
    go_wp2_with (at_builtin; refine wpList_growN _ rfl _ _ 31 31 rfl rdFd_good (by decide) (fun _ => True) w.heap.size 41 41 fi (.agg #[.string { data := #[] }, .string { data := #[] }]) 32 Tryz.underlying31 Tryz.underlying31 hi hz0 hz1 hz2 rfl _ _ rfl GE.out l _ A l.length c rfl XE.out SE.out hq1 hq2 hs0 ?_)
    intro v3 w3 hG3 hg3
    have B3 := Lib.hid (grow_below GE.out hg3 BE.out (Nat.le_refl _) hs0)
    have G3 := Lib.hid (show Grow rdFd 2 (fun _ => True) w3 w.heap.size 41 v3 l from hG3)
    have hs3 : w.heap.size ≤ w3.heap.size := B3.out.size
    have hE := (show rdFd w3 (fun b => True ∧ b < w3.heap.size ∧ v3.ownBlock ≠ some b) ⟨name, value⟩ (#[.string name, .string value] : Array Value).toList from rfl)
    clear hG3 hg3
    go_wp2_with (at_builtin; refine wpList_grow1 w3 rfl _ _ 31 rfl rdFd_good (by decide) (fun _ => True) w.heap.size 41 fi _ 32 Tryz.underlying31 hi hz0 hz1 hz2 rfl v3 l rfl G3.out ⟨name, value⟩ _ 41 hE _ rfl rfl hq3 hq4 hs3 ?_)
    intro v5 w5 hG5 hg5
    have B5 := Lib.hid (grow_below G3.out hg5 B3.out (Nat.le_refl _) hs3)
    have R5 := Lib.hid (show rdFds w5 (fun b => N ≤ b ∧ b < w5.heap.size) (l ++ [⟨name, value⟩]) [v5] from by
      have h2 : Grow rdFd 2 (fun _ => False) w5 w.heap.size 41 v5 (l ++ [⟨name, value⟩]) := Grow.flat (fun _ _ _ _ _ h => h) (show Grow rdFd 2 (fun _ => True) w5 w.heap.size 41 v5 (l ++ [⟨name, value⟩]) from hG5)
      exact rdFds_good.more (h2.reads rdFd_good) fun b hb => ⟨Nat.le_trans hN (hb.2.resolve_right id), hb.1⟩)
    obtain ⟨A5, c5, hv5, _⟩ := id R5.out
    simp only [List.cons.injEq, and_true] at hv5
    subst hv5
    clear hG5 hg5 GE BE XE SE hE
    go_wp2
    go_ret
    have hlen : (l ++ [(⟨name, value⟩ : Fd)]).length = l.length + 1 := by simp
    have R6 := R5.out
    rw [hlen] at R6
    exact ⟨⟨A5, c5, by first | rfl | (rw [hlen]; rfl), by first | exact R6 | exact R5.out⟩, B5.out⟩
theorem q6with_is {l L : List Fd} {name value : ByteArray} (hL : wth l name value = L) (A : Option Addr) (n c : Nat) (w : World) (N : Nat) (hN : N ≤ w.heap.size) (h : rdFds w (fun b => N ≤ b ∧ b < w.heap.size) l [.slice A n c]) (hl : l.length ≤ 1000) :
    Calls Tryz.prog 39 #[.slice A n c, .string name, .string value] w fun e w' => (∃ A' c', e = .returned (.slice A' L.length c') ∧ rdFds w' (fun b => N ≤ b ∧ b < w'.heap.size) L [.slice A' L.length c']) ∧ Below w.heap.size w w' := by
  subst hL; exact q6with_any A n c l name value w N hN h hl
theorem wth_len (l : List Fd) (n v : ByteArray) : (wth l n v).length ≤ l.length + 1 := by
  unfold wth; split
  · omega
  · rw [List.length_append]; exact Nat.le_refl _
end Go.Proofs.YtmlakjemgmeffaaGreatDoor
end

section
set_option maxRecDepth 100000
set_option linter.unusedVariables false
set_option linter.unusedSimpArgs false
namespace Go.Proofs.YtmlakjemgmeffaaGreatDoor
open Go.RowKit
def wr0 (x : Ent) : List Fd := [⟨{ data := #[80, 97, 99, 107, 97, 103, 101] }, x.n⟩, ⟨{ data := #[86, 101, 114, 115, 105, 111, 110] }, x.v⟩]
def wr1 (x : Ent) : List Fd := wth (wr0 x) { data := #[68, 101, 112, 101, 110, 100, 115] } (mk (prtG x.d))
def wr2 (x : Ent) : List Fd := wth (wr1 x) { data := #[82, 101, 99, 111, 109, 109, 101, 110, 100, 115] } (mk (prtG x.r))
def wr3 (x : Ent) : List Fd := wth (wr2 x) { data := #[67, 111, 110, 102, 108, 105, 99, 116, 115] } (mk (prtG (x.c.map fun a => [a])))
def wr4 (x : Ent) : List Fd := wth (wr3 x) { data := #[80, 114, 111, 118, 105, 100, 101, 115] } (mk (prtG (x.p.map fun a => [a])))
def wrE (x : Ent) : List Fd := if rgtE x = true then wr4 x else []
theorem wr_len (x : Ent) : (wr0 x).length = 2 ∧ (wr1 x).length ≤ 3 ∧ (wr2 x).length ≤ 4 ∧ (wr3 x).length ≤ 5 ∧ (wr4 x).length ≤ 6 := by
  have h1 := wth_len (wr0 x) { data := #[68, 101, 112, 101, 110, 100, 115] } (mk (prtG x.d))
  have h2 := wth_len (wr1 x) { data := #[82, 101, 99, 111, 109, 109, 101, 110, 100, 115] } (mk (prtG x.r))
  have h3 := wth_len (wr2 x) { data := #[67, 111, 110, 102, 108, 105, 99, 116, 115] } (mk (prtG (x.c.map fun a => [a])))
  have h4 := wth_len (wr3 x) { data := #[80, 114, 111, 118, 105, 100, 101, 115] } (mk (prtG (x.p.map fun a => [a])))
  have h0 : (wr0 x).length = 2 := rfl
  refine ⟨h0, ?_, ?_, ?_, ?_⟩
  · exact Nat.le_trans h1 (by omega)
  · exact Nat.le_trans h2 (Nat.succ_le_succ (Nat.le_trans h1 (by omega)))
  · exact Nat.le_trans h3 (Nat.succ_le_succ (Nat.le_trans h2 (Nat.succ_le_succ (Nat.le_trans h1 (by omega)))))
  · exact Nat.le_trans h4 (Nat.succ_le_succ (Nat.le_trans h3 (Nat.succ_le_succ (Nat.le_trans h2 (Nat.succ_le_succ (Nat.le_trans h1 (by omega)))))))
theorem rgtE_lens {x : Ent} (h : rgtE x = true) : x.c.length ≤ 12 ∧ x.p.length ≤ 8 := by
  unfold rgtE at h
  simp only [Bool.and_eq_true, decide_eq_true_eq] at h
  exact h.2.2.2.2.2.2.2
theorem rd_wr0 (W : World) (N : Nat) (hN : N ≤ W.heap.size) (a b c d : ByteArray) (T : TypeId) : rdFds (W.alloc (.cells #[.string a, .string b, .string c, .string d] T)) (fun k => N ≤ k ∧ k < (W.alloc (.cells #[.string a, .string b, .string c, .string d] T)).heap.size) [⟨a, b⟩, ⟨c, d⟩] [.slice (some ⟨W.heap.size, 0, none⟩) 2 2] :=
  rd_block rdFd_good (b := W.heap.size) (T := T) (blk := #[.string a, .string b, .string c, .string d]) (css := [[.string a, .string b], [.string c, .string d]]) (heap_alloc_new W _) ⟨hN, by simp⟩ rfl rfl (fun k hk => by
    rcases k with _ | _ | k
    · exact ⟨_, rfl, rfl⟩
    · exact ⟨_, rfl, rfl⟩
    · simp at hk; omega) (by simp)
set_option maxHeartbeats 8000000 in
theorem q6write_any (KN : ∀ (s : ByteArray) (w : World), s.size ≤ 65536 → Calls Tryz.prog 32 #[.string s] w fun e w' => e = .returned (.bool (nameB (B s))) ∧ w = w') (KA : ∀ (x : Atm) (w : World), x.n.size ≤ 65536 → Calls Tryz.prog 71 #[.agg #[.string x.n, .int .i64 x.o, .string x.v]] w fun e' w' => e' = .returned (.bool (rgt x)) ∧ Below w.heap.size w w') (K4 : ∀ (A : Option Addr) (n c : Nat) (L : List (List Atm)) (w : World), rdGrps w (lt_ w.heap.size) L [.slice A n c] → (∀ g ∈ L, ∀ a ∈ g, a.n.size ≤ 65536) → Calls Tryz.prog 34 #[.slice A n c] w fun e w' => e = .returned (.bool (rightG L)) ∧ Below w.heap.size w w')
    (KQ : ∀ (A : Option Addr) (n c : Nat) (L : List (List Atm)) (w : World), rdGrps w (lt_ w.heap.size) L [.slice A n c] → (∀ g ∈ L, ∀ a ∈ g, a.n.size ≤ 65536) → Calls Tryz.prog 40 #[.slice A n c] w fun e w' => e = .returned (.string (mk (prtG L))) ∧ Below w.heap.size w w') (KJ : ∀ (A : Option Addr) (n c : Nat) (l : List Atm) (w : World), rdAtms w (lt_ w.heap.size) l [.slice A n c] → l.length ≤ 1000 → (∀ a ∈ l, a.n.size ≤ 65536) → Calls Tryz.prog 41 #[.slice A n c] w fun e w' => e = .returned (.string (mk (prtG (l.map fun a => [a])))) ∧ Below w.heap.size w w')
    (x : Ent) (A1 : Option Addr) (c1 : Nat) (A2 : Option Addr) (c2 : Nat) (A3 : Option Addr) (c3 : Nat) (A4 : Option Addr) (c4 : Nat) (w : World) (hx : EntV w (lt_ w.heap.size) x A1 c1 A2 c2 A3 c3 A4 c4) (hz : Sz x) :
    Calls Tryz.prog 14 #[x.val A1 c1 A2 c2 A3 c3 A4 c4] w fun e w' => (∃ A c, e = .returned (.slice A (wrE x).length c) ∧ rdFds w' (fun b => w.heap.size ≤ b ∧ b < w'.heap.size) (wrE x) [.slice A (wrE x).length c]) ∧ Below w.heap.size w w' := by
  have KRt := Lib.hid (fun (W : World) (hb : Below w.heap.size w W) => q6right_any KN KA K4 x A1 c1 A2 c2 A3 c3 A4 c4 W (hx.on hb) hz)
  have HL := Lib.hid (wr_len x)
  have XL := Lib.hid (fun h => rgtE_lens (x := x) h)
  have XE := Lib.hid (show wrE x = if rgtE x = true then wr4 x else [] from rfl)
  have E1 := Lib.hid (show wth (wr0 x) { data := #[68, 101, 112, 101, 110, 100, 115] } (mk (prtG x.d)) = wr1 x from rfl)
  have E2 := Lib.hid (show wth (wr1 x) { data := #[82, 101, 99, 111, 109, 109, 101, 110, 100, 115] } (mk (prtG x.r)) = wr2 x from rfl)
  have E3 := Lib.hid (show wth (wr2 x) { data := #[67, 111, 110, 102, 108, 105, 99, 116, 115] } (mk (prtG (x.c.map fun a => [a]))) = wr3 x from rfl)
  have E4 := Lib.hid (show wth (wr3 x) { data := #[80, 114, 111, 118, 105, 100, 101, 115] } (mk (prtG (x.p.map fun a => [a]))) = wr4 x from rfl)
  have RD0 := Lib.hid (show ∀ W : World, w.heap.size ≤ W.heap.size → rdFds (W.alloc (.cells #[.string { data := #[80, 97, 99, 107, 97, 103, 101] }, .string x.n, .string { data := #[86, 101, 114, 115, 105, 111, 110] }, .string x.v] 41)) (fun b => w.heap.size ≤ b ∧ b < (W.alloc (.cells #[.string { data := #[80, 97, 99, 107, 97, 103, 101] }, .string x.n, .string { data := #[86, 101, 114, 115, 105, 111, 110] }, .string x.v] 41)).heap.size) (wr0 x) [.slice (some ⟨W.heap.size, 0, none⟩) 2 2] from fun W hW => rd_wr0 W _ hW _ _ _ _ _)
  have KD := Lib.hid (fun (W : World) (hb : Below w.heap.size w W) => KQ A1 x.d.length c1 x.d W (hx.on hb).d hz.2.1)
  have KR := Lib.hid (fun (W : World) (hb : Below w.heap.size w W) => KQ A2 x.r.length c2 x.r W (hx.on hb).r hz.2.2.1)
  have KC := Lib.hid (fun (W : World) (hb : Below w.heap.size w W) (h : x.c.length ≤ 1000) => KJ A3 x.c.length c3 x.c W (hx.on hb).c h hz.2.2.2.1)
  have KP := Lib.hid (fun (W : World) (hb : Below w.heap.size w W) (h : x.p.length ≤ 1000) => KJ A4 x.p.length c4 x.p W (hx.on hb).p h hz.2.2.2.2)
  generalize wrE x = LE at *
  generalize wr4 x = L4 at *
  generalize wr3 x = L3 at *
  generalize wr2 x = L2 at *
  generalize wr1 x = L1 at *
  generalize wr0 x = L0 at *
  generalize rgtE x = b at *
  generalize mk (prtG (x.p.map fun a => [a])) = T4 at *
  generalize mk (prtG (x.c.map fun a => [a])) = T3 at *
  generalize mk (prtG x.r) = T2 at *
  generalize mk (prtG x.d) = T1 at *
  obtain ⟨n, v, d, r, c, p⟩ := x
  have B1 := Lib.hid (show Below w.heap.size w (w.alloc (.cells #[.string n, .string v, .slice A1 d.length c1, .slice A2 r.length c2, .slice A3 c.length c3, .slice A4 p.length c4] 25)) from (Below.refl _ w).alloc (Nat.le_refl _) _)
  have KX := Lib.hid (fun (W : World) (hb : Below (w.alloc (.cells #[.string n, .string v, .slice A1 d.length c1, .slice A2 r.length c2, .slice A3 c.length c3, .slice A4 p.length c4] 25)).heap.size (w.alloc (.cells #[.string n, .string v, .slice A1 d.length c1, .slice A2 r.length c2, .slice A3 c.length c3, .slice A4 p.length c4] 25)) W) => box6 hb)
  show Calls Tryz.prog 14 #[.agg #[.string n, .string v, .slice A1 d.length c1, .slice A2 r.length c2, .slice A3 c.length c3, .slice A4 p.length c4]] w _
  clear hx hz KN KA K4 KQ KJ
  obtain ⟨W1, hW1⟩ : ∃ W, W = (w.alloc (.cells #[.string n, .string v, .slice A1 d.length c1, .slice A2 r.length c2, .slice A3 c.length c3, .slice A4 p.length c4] 25)) := ⟨_, rfl⟩
  rw [← hW1] at B1 KX
  have V0 := Lib.hid (Below.refl W1.heap.size W1)
  go_enter Tryz.func14, Tryz.ntmps14
  go_wp2_with fail
  rw [← hW1]
  refine (KRt.out _ B1.out).mono ?_
  clear hW1
  rintro e w2 ⟨rfl, hb⟩
  have V1 := Lib.hid (V0.out.trans (hb.mono V0.out.size))
  have C1 := Lib.hid (B1.out.trans (hb.mono B1.out.size))
  clear hb
  obtain ⟨a0, a1, a2, a3, a4, a5⟩ := KX.out _ V1.out
  cases b
  · have XX := Lib.hid (show LE = [] from XE.out)
    go_wp2
    go_ret
    exact ⟨⟨none, 0, by rw [XX.out]; try rfl, by rw [XX.out]; exact rdRow_nil _ _⟩, C1.out⟩
  have XX := Lib.hid (show LE = L4 from XE.out)
  obtain ⟨l12, l8⟩ := XL.out rfl
  have HC := Lib.hid (show c.length ≤ 1000 from Nat.le_trans l12 (by omega))
  have HP := Lib.hid (show p.length ≤ 1000 from Nat.le_trans l8 (by omega))
  clear l12 l8
  have V2 := Lib.hid (show Below W1.heap.size W1 (w2.alloc (.cells #[.string { data := #[80, 97, 99, 107, 97, 103, 101] }, .string n, .string { data := #[86, 101, 114, 115, 105, 111, 110] }, .string v] 41)) from V1.out.alloc V1.out.size _)
  have C2 := Lib.hid (show Below w.heap.size w (w2.alloc (.cells #[.string { data := #[80, 97, 99, 107, 97, 103, 101] }, .string n, .string { data := #[86, 101, 114, 115, 105, 111, 110] }, .string v] 41)) from C1.out.alloc C1.out.size _)
  have R0 := Lib.hid (RD0.out w2 C1.out.size)
  have a2' := (KX.out _ V2.out).2.2.1
  go_wp2_with fail
  refine (KD.out _ C2.out).mono ?_
  rintro e w3 ⟨rfl, hb⟩
  have V3 := Lib.hid (V2.out.trans (hb.mono V2.out.size))
  have C3 := Lib.hid (C2.out.trans (hb.mono C2.out.size))
  have R1 := Lib.hid (rdFds_on R0.out hb)
  clear hb a0 a1 a2 a3 a4 a5 a2'
  go_wp2_with fail
  refine (q6with_is E1.out _ _ _ _ _ C3.out.size R1.out (by have := HL.out.1; omega)).mono ?_
  rintro e w4 ⟨⟨B1', d1, rfl, hr⟩, hb⟩
  have V4 := Lib.hid (V3.out.trans (hb.mono V3.out.size))
  have C4 := Lib.hid (C3.out.trans (hb.mono C3.out.size))
  have R2 := Lib.hid hr
  clear hb hr
  obtain ⟨a0, a1, a2, a3, a4, a5⟩ := KX.out _ V4.out
  go_wp2_with fail
  refine (KR.out _ C4.out).mono ?_
  rintro e w5 ⟨rfl, hb⟩
  have V5 := Lib.hid (V4.out.trans (hb.mono V4.out.size))
  have C5 := Lib.hid (C4.out.trans (hb.mono C4.out.size))
  have R3 := Lib.hid (rdFds_on R2.out hb)
  clear hb a0 a1 a2 a3 a4 a5
  go_wp2_with fail
  refine (q6with_is E2.out _ _ _ _ _ C5.out.size R3.out (by have := HL.out.2.1; omega)).mono ?_
  rintro e w6 ⟨⟨B2', d2, rfl, hr⟩, hb⟩
  have V6 := Lib.hid (V5.out.trans (hb.mono V5.out.size))
  have C6 := Lib.hid (C5.out.trans (hb.mono C5.out.size))
  have R4 := Lib.hid hr
  clear hb hr
  obtain ⟨a0, a1, a2, a3, a4, a5⟩ := KX.out _ V6.out
  go_wp2_with fail
  refine (KC.out _ C6.out HC.out).mono ?_
  rintro e w7 ⟨rfl, hb⟩
  have V7 := Lib.hid (V6.out.trans (hb.mono V6.out.size))
  have C7 := Lib.hid (C6.out.trans (hb.mono C6.out.size))
  have R5 := Lib.hid (rdFds_on R4.out hb)
  clear hb a0 a1 a2 a3 a4 a5
  go_wp2_with fail
  refine (q6with_is E3.out _ _ _ _ _ C7.out.size R5.out (by have := HL.out.2.2.1; omega)).mono ?_
  rintro e w8 ⟨⟨B3', d3, rfl, hr⟩, hb⟩
  have V8 := Lib.hid (V7.out.trans (hb.mono V7.out.size))
  have C8 := Lib.hid (C7.out.trans (hb.mono C7.out.size))
  have R6 := Lib.hid hr
  clear hb hr
  obtain ⟨a0, a1, a2, a3, a4, a5⟩ := KX.out _ V8.out
  go_wp2_with fail
  refine (KP.out _ C8.out HP.out).mono ?_
  rintro e w9 ⟨rfl, hb⟩
  have C9 := Lib.hid (C8.out.trans (hb.mono C8.out.size))
  have R7 := Lib.hid (rdFds_on R6.out hb)
  clear hb a0 a1 a2 a3 a4 a5
  go_wp2_with fail
  refine (q6with_is E4.out _ _ _ _ _ C9.out.size R7.out (by have := HL.out.2.2.2.1; omega)).mono ?_
  rintro e w10 ⟨⟨B4', d4, rfl, hr⟩, hb⟩
  have C10 := Lib.hid (C9.out.trans (hb.mono C9.out.size))
  have R8 := Lib.hid hr
  clear hb hr
  go_wp2
  go_ret
  rw [XX.out]
  exact ⟨⟨B4', d4, rfl, R8.out⟩, C10.out⟩
end Go.Proofs.YtmlakjemgmeffaaGreatDoor
end
