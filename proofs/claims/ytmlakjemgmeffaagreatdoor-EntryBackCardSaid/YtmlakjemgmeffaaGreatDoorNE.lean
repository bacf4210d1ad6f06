/- What the laws of this seat rest on: E6a, E6b, E6c, E6j. -/
import Derived.Test.YtmlakjemgmeffaaGreatDoorNS
import Derived.Test.YtmlakjemgmeffaaGreatDoorQAA

section
set_option maxRecDepth 100000
set_option linter.unusedVariables false
set_option linter.unusedSimpArgs false
namespace Go.Proofs.YtmlakjemgmeffaaGreatDoor
open Go.RowKit
structure Ent where
  n : ByteArray
  v : ByteArray
  d : List (List Atm)
  r : List (List Atm)
  c : List Atm
  p : List Atm
deriving instance DecidableEq for Ent
def rdEnt : Rd Ent := fun w S x cs => ∃ dv rv cv pv, cs = [.string x.n, .string x.v, dv, rv, cv, pv] ∧ rdGrps w S x.d [dv] ∧ rdGrps w S x.r [rv] ∧ rdAtms w S x.c [cv] ∧ rdAtms w S x.p [pv]
theorem rdEnt_good : Good rdEnt 6 where
  keep := by
    rintro w w' S x cs ⟨dv, rv, cv, pv, e, h1, h2, h3, h4⟩ hk
    exact ⟨dv, rv, cv, pv, e, rdGrps_good.keep h1 hk, rdGrps_good.keep h2 hk, rdAtms_good.keep h3 hk, rdAtms_good.keep h4 hk⟩
  more := by
    rintro w S S' x cs ⟨dv, rv, cv, pv, e, h1, h2, h3, h4⟩ hm
    exact ⟨dv, rv, cv, pv, e, rdGrps_good.more h1 hm, rdGrps_good.more h2 hm, rdAtms_good.more h3 hm, rdAtms_good.more h4 hm⟩
  turn := by
    rintro w w' S x cs row ⟨dv, rv, cv, pv, e, h1, h2, h3, h4⟩ hg hr
    exact ⟨dv, rv, cv, pv, e, rdGrps_good.turn h1 hg hr, rdGrps_good.turn h2 hg hr, rdAtms_good.turn h3 hg hr, rdAtms_good.turn h4 hg hr⟩
  len := by rintro w S x cs ⟨dv, rv, cv, pv, rfl, _⟩; rfl
  one := by
    rintro w S x cs ⟨dv, rv, cv, pv, rfl, h1, h2, h3, h4⟩ u hu
    simp only [List.mem_cons, List.not_mem_nil, or_false] at hu
    rcases hu with rfl | rfl | rfl | rfl | rfl | rfl
    · rfl
    · rfl
    · exact rdGrps_good.one h1 _ (by simp)
    · exact rdGrps_good.one h2 _ (by simp)
    · exact rdAtms_good.one h3 _ (by simp)
    · exact rdAtms_good.one h4 _ (by simp)
abbrev rdEnts : Rd (List Ent) := rdRow 6 rdEnt
theorem rdEnts_good : Good rdEnts 1 := rdRow_good rdEnt_good
structure EntV (w : World) (S : Nat → Prop) (x : Ent) (A1 : Option Addr) (c1 : Nat) (A2 : Option Addr) (c2 : Nat) (A3 : Option Addr) (c3 : Nat) (A4 : Option Addr) (c4 : Nat) : Prop where
  d : rdGrps w S x.d [.slice A1 x.d.length c1]
  r : rdGrps w S x.r [.slice A2 x.r.length c2]
  c : rdAtms w S x.c [.slice A3 x.c.length c3]
  p : rdAtms w S x.p [.slice A4 x.p.length c4]
theorem EntV.below {w w' : World} {N : Nat} {x : Ent} {A1 A2 A3 A4 : Option Addr} {c1 c2 c3 c4 : Nat} (h : EntV w (lt_ N) x A1 c1 A2 c2 A3 c3 A4 c4) (hb : Below N w w') : EntV w' (lt_ N) x A1 c1 A2 c2 A3 c3 A4 c4 :=
  ⟨rdGrps_good.below h.d hb, rdGrps_good.below h.r hb, rdAtms_good.below h.c hb, rdAtms_good.below h.p hb⟩
theorem EntV.up {w : World} {N N' : Nat} {x : Ent} {A1 A2 A3 A4 : Option Addr} {c1 c2 c3 c4 : Nat} (h : EntV w (lt_ N) x A1 c1 A2 c2 A3 c3 A4 c4) (hn : N ≤ N') : EntV w (lt_ N') x A1 c1 A2 c2 A3 c3 A4 c4 :=
  ⟨rdGrps_good.up h.d hn, rdGrps_good.up h.r hn, rdAtms_good.up h.c hn, rdAtms_good.up h.p hn⟩
theorem EntV.on {w w' : World} {x : Ent} {A1 A2 A3 A4 : Option Addr} {c1 c2 c3 c4 : Nat} (h : EntV w (lt_ w.heap.size) x A1 c1 A2 c2 A3 c3 A4 c4) (hb : Below w.heap.size w w') : EntV w' (lt_ w'.heap.size) x A1 c1 A2 c2 A3 c3 A4 c4 := (h.below hb).up hb.size
abbrev Ent.val (x : Ent) (A1 : Option Addr) (c1 : Nat) (A2 : Option Addr) (c2 : Nat) (A3 : Option Addr) (c3 : Nat) (A4 : Option Addr) (c4 : Nat) : Value :=
  .agg #[.string x.n, .string x.v, .slice A1 x.d.length c1, .slice A2 x.r.length c2, .slice A3 x.c.length c3, .slice A4 x.p.length c4]
theorem rdEnts_at {w : World} {S : Nat → Prop} {l : List Ent} {A : Option Addr} {n c : Nat} (h : rdEnts w S l [.slice A n c]) : n = l.length ∧ n ≤ c ∧ c ≤ maxLen ∧ ∀ k (hk : k < l.length), ∃ ad A1 c1 A2 c2 A3 c3 A4 c4, A = some ad ∧ S ad.block ∧ EntV w S l[k] A1 c1 A2 c2 A3 c3 A4 c4 ∧
    w.cell? (ad.add (k * 6)) = some (.string l[k].n) ∧ w.cell? ⟨(ad.add (k * 6)).block, (ad.add (k * 6)).off + 1, none⟩ = some (.string l[k].v) ∧ w.cell? ⟨(ad.add (k * 6)).block, (ad.add (k * 6)).off + 2, none⟩ = some (.slice A1 l[k].d.length c1) ∧
    w.cell? ⟨(ad.add (k * 6)).block, (ad.add (k * 6)).off + 3, none⟩ = some (.slice A2 l[k].r.length c2) ∧ w.cell? ⟨(ad.add (k * 6)).block, (ad.add (k * 6)).off + 4, none⟩ = some (.slice A3 l[k].c.length c3) ∧ w.cell? ⟨(ad.add (k * 6)).block, (ad.add (k * 6)).off + 5, none⟩ = some (.slice A4 l[k].p.length c4) := by
  obtain ⟨A', c', e, h1, h2, h⟩ := h
  simp only [List.cons.injEq, Value.slice.injEq, and_true] at e
  obtain ⟨rfl, rfl, rfl⟩ := e
  refine ⟨rfl, h1, h2, fun k hk => ?_⟩
  obtain ⟨ad, es, e, hS, ⟨dv, rv, cv, pv, rfl, g1, g2, g3, g4⟩, hl, hc⟩ := h k hk
  obtain ⟨A1, c1, e1, _⟩ := id g1
  obtain ⟨A2, c2, e2, _⟩ := id g2
  obtain ⟨A3, c3, e3, _⟩ := id g3
  obtain ⟨A4, c4, e4, _⟩ := id g4
  simp only [List.cons.injEq, and_true] at e1 e2 e3 e4
  subst e1
  subst e2
  subst e3
  subst e4
  exact ⟨ad, A1, c1, A2, c2, A3, c3, A4, c4, e, hS, ⟨g1, g2, g3, g4⟩, hc 0 _ rfl, by rw [off_add ad (k * 6) 1 (by omega)]; exact hc 1 _ rfl, by rw [off_add ad (k * 6) 2 (by omega)]; exact hc 2 _ rfl, by rw [off_add ad (k * 6) 3 (by omega)]; exact hc 3 _ rfl, by rw [off_add ad (k * 6) 4 (by omega)]; exact hc 4 _ rfl, by rw [off_add ad (k * 6) 5 (by omega)]; exact hc 5 _ rfl⟩
set_option maxHeartbeats 1000000 in
theorem sameFields6_any (A A' : Option Addr) (n c n' c' : Nat) (l m : List Fd) (w : World) (h : rdFds w (lt_ w.heap.size) l [.slice A n c]) (h' : rdFds w (lt_ w.heap.size) m [.slice A' n' c']) :
    Calls Tryz.prog 12 #[.slice A n c, .slice A' n' c'] w fun e w' => e = .returned (.bool (decide (l = m))) ∧ Dr w w' := by
  obtain ⟨rfl, hnc, hcm, _⟩ := rdFds_at h
  obtain ⟨rfl, hnc', hcm', _⟩ := rdFds_at h'
  have hcm1 : c ≤ 9223372036854775807 := hcm
  have hcm2 : c' ≤ 9223372036854775807 := hcm'
  by_cases hlen : l.length = m.length
  · have hd : ((l.length : Int) != (m.length : Int)) = false := by rw [hlen]; simp
    have HL := Lib.hid hlen
    clear hlen
    go_enter Tryz.func12, Tryz.ntmps12
    go_wp2
    go_loopw [5] (fun i wr => ∃ k : Nat, k ≤ l.length ∧ i = .int .i64 k ∧ l.take k = m.take k ∧ Dr w wr) (fun i _ => l.length - (intOf i).toNat)
    case atStart => exact ⟨0, Nat.zero_le _, rfl, rfl, Dr.refl _⟩
    case round =>
      obtain ⟨k, hk, rfl, htk, hbel⟩ := hrel
      by_cases hlt : k < l.length
      · obtain ⟨_, _, _, ha⟩ := rdFds_at (rdFds_good.below h (hbel.below _))
        obtain ⟨_, _, _, hb⟩ := rdFds_at (rdFds_good.below h' (hbel.below _))
        have hltm : k < m.length := by rw [← HL.out]; exact hlt
        obtain ⟨ad, rfl, had, h0, h1⟩ := ha k hlt
        obtain ⟨ad', rfl, had', g0, g1⟩ := hb k hltm
        have T := Lib.hid (same_take5 (l := l) (m := m) HL.out hlt hltm htk)
        have Z := Lib.hid (show l[k] ≠ m[k] → l ≠ m from fun hn e => hn (by subst e; rfl))
        have HB := Lib.hid hbel
        have hki : (k : Int) < (m.length : Int) := by omega
        clear htk ha hb hbel h h'
        have hq := eq_fd l[k] m[k]
        generalize l[k] = x at *
        generalize m[k] = y at *
        by_cases he : x = y
        · rw [decide_eq_true he] at hq
          have HE := Lib.hid he
          clear he
          go_wp2_with fail
          go_quiet (fail)
          go_wp2
          go_roundw
          case rel => exact ⟨k + 1, by omega, by go_num, T.out HE.out, HB.out.more _⟩
          case measure => simp [intOf]; omega
        · rw [decide_eq_false he] at hq
          have HE := Lib.hid he
          clear he
          go_wp2_with fail
          go_quiet (fail)
          go_wp2
          go_ret
          exact ⟨by rw [decide_eq_false (Z.out HE.out)]; try rfl, HB.out.more _⟩
      · obtain rfl : k = l.length := by omega
        have X := Lib.hid (show l = m by rw [List.take_length] at htk; rw [htk, HL.out, List.take_length])
        clear htk h h'
        go_wp2
        go_ret
        exact ⟨by rw [decide_eq_true X.out]; try rfl, hbel⟩
  · have hd : ((l.length : Int) != (m.length : Int)) = true := by rw [bne_iff_ne]; omega
    have X := Lib.hid (show l ≠ m by rintro rfl; exact hlen rfl)
    clear hlen
    go_enter Tryz.func12, Tryz.ntmps12
    go_wp2
    go_ret
    exact ⟨by rw [decide_eq_false X.out]; try rfl, Dr.refl _⟩
set_option maxHeartbeats 1000000 in
theorem sameAtoms6_any (A A' : Option Addr) (n c n' c' : Nat) (l m : List Atm) (w : World) (h : rdAtms w (lt_ w.heap.size) l [.slice A n c]) (h' : rdAtms w (lt_ w.heap.size) m [.slice A' n' c']) :
    Calls Tryz.prog 24 #[.slice A n c, .slice A' n' c'] w fun e w' => e = .returned (.bool (decide (l = m))) ∧ Dr w w' := by
  obtain ⟨rfl, hnc, hcm, _⟩ := rdAtms_at h
  obtain ⟨rfl, hnc', hcm', _⟩ := rdAtms_at h'
  have hcm1 : c ≤ 9223372036854775807 := hcm
  have hcm2 : c' ≤ 9223372036854775807 := hcm'
  by_cases hlen : l.length = m.length
  · have hd : ((l.length : Int) != (m.length : Int)) = false := by rw [hlen]; simp
    have HL := Lib.hid hlen
    clear hlen
    go_enter Tryz.func24, Tryz.ntmps24
    go_wp2
    go_loopw [5] (fun i wr => ∃ k : Nat, k ≤ l.length ∧ i = .int .i64 k ∧ l.take k = m.take k ∧ Dr w wr) (fun i _ => l.length - (intOf i).toNat)
    case atStart => exact ⟨0, Nat.zero_le _, rfl, rfl, Dr.refl _⟩
    case round =>
      obtain ⟨k, hk, rfl, htk, hbel⟩ := hrel
      by_cases hlt : k < l.length
      · obtain ⟨_, _, _, ha⟩ := rdAtms_at (rdAtms_good.below h (hbel.below _))
        obtain ⟨_, _, _, hb⟩ := rdAtms_at (rdAtms_good.below h' (hbel.below _))
        have hltm : k < m.length := by rw [← HL.out]; exact hlt
        obtain ⟨ad, rfl, had, h0, h1, h2⟩ := ha k hlt
        obtain ⟨ad', rfl, had', g0, g1, g2⟩ := hb k hltm
        have T := Lib.hid (same_take (l := l) (m := m) HL.out hlt hltm htk)
        have Z := Lib.hid (show l[k] ≠ m[k] → l ≠ m from fun hn e => hn (by subst e; rfl))
        have HB := Lib.hid hbel
        have hki : (k : Int) < (m.length : Int) := by omega
        clear htk ha hb hbel h h'
        have hq := neq_atm l[k] m[k]
        generalize l[k] = x at *
        generalize m[k] = y at *
        by_cases he : x = y
        · rw [decide_eq_true he] at hq
          have HE := Lib.hid he
          clear he
          go_wp2_with fail
          go_quiet (fail)
          go_wp2
          go_roundw
          case rel => exact ⟨k + 1, by omega, by go_num, T.out HE.out, HB.out.more _⟩
          case measure => simp [intOf]; omega
        · rw [decide_eq_false he] at hq
          have HE := Lib.hid he
          clear he
          go_wp2_with fail
          go_quiet (fail)
          go_wp2
          go_ret
          exact ⟨by rw [decide_eq_false (Z.out HE.out)]; try rfl, HB.out.more _⟩
      · obtain rfl : k = l.length := by omega
        have X := Lib.hid (show l = m by rw [List.take_length] at htk; rw [htk, HL.out, List.take_length])
        clear htk h h'
        go_wp2
        go_ret
        exact ⟨by rw [decide_eq_true X.out]; try rfl, hbel⟩
  · have hd : ((l.length : Int) != (m.length : Int)) = true := by rw [bne_iff_ne]; omega
    have X := Lib.hid (show l ≠ m by rintro rfl; exact hlen rfl)
    clear hlen
    go_enter Tryz.func24, Tryz.ntmps24
    go_wp2
    go_ret
    exact ⟨by rw [decide_eq_false X.out]; try rfl, Dr.refl _⟩
set_option maxHeartbeats 1000000 in
theorem sameGroups6_any (A A' : Option Addr) (n c n' c' : Nat) (l m : List (List Atm)) (w : World) (h : rdGrps w (lt_ w.heap.size) l [.slice A n c]) (h' : rdGrps w (lt_ w.heap.size) m [.slice A' n' c']) :
    Calls Tryz.prog 56 #[.slice A n c, .slice A' n' c'] w fun e w' => e = .returned (.bool (decide (l = m))) ∧ Dr w w' := by
  obtain ⟨rfl, hnc, hcm, _⟩ := rdGrps_at h
  obtain ⟨rfl, hnc', hcm', _⟩ := rdGrps_at h'
  have hcm1 : c ≤ 9223372036854775807 := hcm
  have hcm2 : c' ≤ 9223372036854775807 := hcm'
  by_cases hlen : l.length = m.length
  · have hd : ((l.length : Int) != (m.length : Int)) = false := by rw [hlen]; simp
    have HL := Lib.hid hlen
    clear hlen
    go_enter Tryz.func56, Tryz.ntmps56
    go_wp2
    go_loopw [5] (fun i wr => ∃ k : Nat, k ≤ l.length ∧ i = .int .i64 k ∧ l.take k = m.take k ∧ Dr w wr) (fun i _ => l.length - (intOf i).toNat)
    case atStart => exact ⟨0, Nat.zero_le _, rfl, rfl, Dr.refl _⟩
    case round =>
      obtain ⟨k, hk, rfl, htk, hbel⟩ := hrel
      by_cases hlt : k < l.length
      · obtain ⟨_, _, _, ha⟩ := rdGrps_at (rdGrps_good.below h (hbel.below _))
        obtain ⟨_, _, _, hb⟩ := rdGrps_at (rdGrps_good.below h' (hbel.below _))
        have hltm : k < m.length := by rw [← HL.out]; exact hlt
        obtain ⟨ad, X, cx, rfl, had, h0, h1⟩ := ha k hlt
        obtain ⟨ad', Y, cy, rfl, had', g0, g1⟩ := hb k hltm
        have T := Lib.hid (same_take (l := l) (m := m) HL.out hlt hltm htk)
        have Z := Lib.hid (show l[k] ≠ m[k] → l ≠ m from fun hn e => hn (by subst e; rfl))
        have HB := Lib.hid hbel
        have hki : (k : Int) < (m.length : Int) := by omega
        have hsz := hbel.size
        have K := Lib.hid (fun nq => sameAtoms6_any _ _ _ _ _ _ _ _ (wr.drewN nq) (rdAtms_good.below (rdAtms_good.up h1 (Nat.le_of_eq hsz.symm)) (belD (Below.refl _ _) nq)) (rdAtms_good.below (rdAtms_good.up g1 (Nat.le_of_eq hsz.symm)) (belD (Below.refl _ _) nq)))
        clear htk ha hb hbel h h' h1 g1 hsz
        generalize l[k] = x at *
        generalize m[k] = y at *
        by_cases he : x = y
        · rw [decide_eq_true he] at K
          have HE := Lib.hid he
          clear he
          go_wp2_with fail
          go_quiet (first | (go_at_call 24; refine Calls.quiet_of (K.out _)))
          go_wp2
          go_roundw
          case rel => exact ⟨k + 1, by omega, by go_num, T.out HE.out, HB.out.more _⟩
          case measure => simp [intOf]; omega
        · rw [decide_eq_false he] at K
          have HE := Lib.hid he
          clear he
          go_wp2_with fail
          go_quiet (first | (go_at_call 24; refine Calls.quiet_of (K.out _)))
          go_wp2
          go_ret
          exact ⟨by rw [decide_eq_false (Z.out HE.out)]; try rfl, HB.out.more _⟩
      · obtain rfl : k = l.length := by omega
        have X := Lib.hid (show l = m by rw [List.take_length] at htk; rw [htk, HL.out, List.take_length])
        clear htk h h'
        go_wp2
        go_ret
        exact ⟨by rw [decide_eq_true X.out]; try rfl, hbel⟩
  · have hd : ((l.length : Int) != (m.length : Int)) = true := by rw [bne_iff_ne]; omega
    have X := Lib.hid (show l ≠ m by rintro rfl; exact hlen rfl)
    clear hlen
    go_enter Tryz.func56, Tryz.ntmps56
    go_wp2
    go_ret
    exact ⟨by rw [decide_eq_false X.out]; try rfl, Dr.refl _⟩
end Go.Proofs.YtmlakjemgmeffaaGreatDoor
end

section
set_option maxRecDepth 100000
set_option linter.unusedVariables false
set_option linter.unusedSimpArgs false
namespace Go.Proofs.YtmlakjemgmeffaaGreatDoor
open Go.RowKit
set_option maxHeartbeats 8000000 in
theorem same6_any (x y : Ent) (A1 : Option Addr) (c1 : Nat) (A2 : Option Addr) (c2 : Nat) (A3 : Option Addr) (c3 : Nat) (A4 : Option Addr) (c4 : Nat) (B1 : Option Addr) (d1 : Nat) (B2v : Option Addr) (d2 : Nat) (B3 : Option Addr) (d3 : Nat) (B4 : Option Addr) (d4 : Nat) (w : World) (hx : EntV w (lt_ w.heap.size) x A1 c1 A2 c2 A3 c3 A4 c4) (hy : EntV w (lt_ w.heap.size) y B1 d1 B2v d2 B3 d3 B4 d4) :
    Calls Tryz.prog 18 #[x.val A1 c1 A2 c2 A3 c3 A4 c4, y.val B1 d1 B2v d2 B3 d3 B4 d4] w fun e w' => e = .returned (.bool (decide (x = y))) ∧ Below w.heap.size w w' := by
  obtain ⟨n, v, d, r, c, p⟩ := x
  obtain ⟨n', v', d', r', c', p'⟩ := y
  have B2 := Lib.hid (show Below w.heap.size w ((w.alloc (.cells #[.string n, .string v, .slice A1 d.length c1, .slice A2 r.length c2, .slice A3 c.length c3, .slice A4 p.length c4] 25)).alloc (.cells #[.string n', .string v', .slice B1 d'.length d1, .slice B2v r'.length d2, .slice B3 c'.length d3, .slice B4 p'.length d4] 25)) from ((Below.refl _ w).alloc (Nat.le_refl _) _).alloc (by simp) _)
  have KX := Lib.hid (fun (W : World) (hb : Below ((w.alloc (.cells #[.string n, .string v, .slice A1 d.length c1, .slice A2 r.length c2, .slice A3 c.length c3, .slice A4 p.length c4] 25)).alloc (.cells #[.string n', .string v', .slice B1 d'.length d1, .slice B2v r'.length d2, .slice B3 c'.length d3, .slice B4 p'.length d4] 25)).heap.size ((w.alloc (.cells #[.string n, .string v, .slice A1 d.length c1, .slice A2 r.length c2, .slice A3 c.length c3, .slice A4 p.length c4] 25)).alloc (.cells #[.string n', .string v', .slice B1 d'.length d1, .slice B2v r'.length d2, .slice B3 c'.length d3, .slice B4 p'.length d4] 25)) W) => (show W.cell? ⟨w.heap.size, 2, none⟩ = some (.slice A1 d.length c1) ∧ W.cell? ⟨w.heap.size, 3, none⟩ = some (.slice A2 r.length c2) ∧ W.cell? ⟨w.heap.size, 4, none⟩ = some (.slice A3 c.length c3) ∧ W.cell? ⟨w.heap.size, 5, none⟩ = some (.slice A4 p.length c4) ∧ W.cell? ⟨w.heap.size + 1, 2, none⟩ = some (.slice B1 d'.length d1) ∧ W.cell? ⟨w.heap.size + 1, 3, none⟩ = some (.slice B2v r'.length d2) ∧ W.cell? ⟨w.heap.size + 1, 4, none⟩ = some (.slice B3 c'.length d3) ∧ W.cell? ⟨w.heap.size + 1, 5, none⟩ = some (.slice B4 p'.length d4) from by
    have z : ((w.alloc (.cells #[.string n, .string v, .slice A1 d.length c1, .slice A2 r.length c2, .slice A3 c.length c3, .slice A4 p.length c4] 25)).alloc (.cells #[.string n', .string v', .slice B1 d'.length d1, .slice B2v r'.length d2, .slice B3 c'.length d3, .slice B4 p'.length d4] 25)).heap.size = w.heap.size + 2 := by rw [World.size_alloc, World.size_alloc]
    refine ⟨(hb.cell (show (⟨w.heap.size, 2, none⟩ : Addr).block < _ by rw [z]; show w.heap.size < _; omega)).trans (by simp [go_sem]), (hb.cell (show (⟨w.heap.size, 3, none⟩ : Addr).block < _ by rw [z]; show w.heap.size < _; omega)).trans (by simp [go_sem]), (hb.cell (show (⟨w.heap.size, 4, none⟩ : Addr).block < _ by rw [z]; show w.heap.size < _; omega)).trans (by simp [go_sem]), (hb.cell (show (⟨w.heap.size, 5, none⟩ : Addr).block < _ by rw [z]; show w.heap.size < _; omega)).trans (by simp [go_sem]), (hb.cell (show (⟨w.heap.size + 1, 2, none⟩ : Addr).block < _ by rw [z]; show w.heap.size + 1 < _; omega)).trans (by simp [go_sem]), (hb.cell (show (⟨w.heap.size + 1, 3, none⟩ : Addr).block < _ by rw [z]; show w.heap.size + 1 < _; omega)).trans (by simp [go_sem]), (hb.cell (show (⟨w.heap.size + 1, 4, none⟩ : Addr).block < _ by rw [z]; show w.heap.size + 1 < _; omega)).trans (by simp [go_sem]), (hb.cell (show (⟨w.heap.size + 1, 5, none⟩ : Addr).block < _ by rw [z]; show w.heap.size + 1 < _; omega)).trans (by simp [go_sem])⟩))
  have HX := Lib.hid hx
  have HY := Lib.hid hy
  have KD := Lib.hid (fun W (hb : Below w.heap.size w W) => sameGroups6_any A1 B1 d.length c1 d'.length d1 d d' W (HX.out.on hb).d (HY.out.on hb).d)
  have KR := Lib.hid (fun W (hb : Below w.heap.size w W) => sameGroups6_any A2 B2v r.length c2 r'.length d2 r r' W (HX.out.on hb).r (HY.out.on hb).r)
  have KC := Lib.hid (fun W (hb : Below w.heap.size w W) => sameAtoms6_any A3 B3 c.length c3 c'.length d3 c c' W (HX.out.on hb).c (HY.out.on hb).c)
  have KP := Lib.hid (fun W (hb : Below w.heap.size w W) => sameAtoms6_any A4 B4 p.length c4 p'.length d4 p p' W (HX.out.on hb).p (HY.out.on hb).p)
  show Calls Tryz.prog 18 #[.agg #[.string n, .string v, .slice A1 d.length c1, .slice A2 r.length c2, .slice A3 c.length c3, .slice A4 p.length c4], .agg #[.string n', .string v', .slice B1 d'.length d1, .slice B2v r'.length d2, .slice B3 c'.length d3, .slice B4 p'.length d4]] w _
  clear hx hy
  have en := str_eq n n'
  have ev := str_eq v v'
  by_cases q0 : ¬ n = n'
  · have X := Lib.hid (show decide ((⟨n, v, d, r, c, p⟩ : Ent) = ⟨n', v', d', r', c', p'⟩) = false from decide_eq_false fun e => q0 (congrArg Ent.n e))
    rw [decide_eq_false q0] at en
    clear q0 ev
    go_enter Tryz.func18, Tryz.ntmps18
    go_wp2
    go_ret
    exact ⟨by rw [X.out]; try rfl, B2.out⟩
  have q0 := Decidable.not_not.1 q0
  by_cases q1 : ¬ v = v'
  · have X := Lib.hid (show decide ((⟨n, v, d, r, c, p⟩ : Ent) = ⟨n', v', d', r', c', p'⟩) = false from decide_eq_false fun e => q1 (congrArg Ent.v e))
    rw [decide_eq_true q0] at en
    rw [decide_eq_false q1] at ev
    clear q0 q1
    go_enter Tryz.func18, Tryz.ntmps18
    go_wp2
    go_ret
    exact ⟨by rw [X.out]; try rfl, B2.out⟩
  have q1 := Decidable.not_not.1 q1
  by_cases q2 : ¬ d = d'
  · have X := Lib.hid (show decide ((⟨n, v, d, r, c, p⟩ : Ent) = ⟨n', v', d', r', c', p'⟩) = false from decide_eq_false fun e => q2 (congrArg Ent.d e))
    rw [decide_eq_true q0] at en
    rw [decide_eq_true q1] at ev
    rw [decide_eq_false q2] at KD
    clear q0 q1 q2
    go_enter Tryz.func18, Tryz.ntmps18
    go_wp2_with fail
    refine (KD.out _ B2.out).mono ?_
    rintro e w3 ⟨rfl, hdr⟩
    have C0 := Lib.hid (B2.out.trans ((hdr.below _).mono B2.out.size))
    have V0 := Lib.hid (show Below ((w.alloc (.cells #[.string n, .string v, .slice A1 d.length c1, .slice A2 r.length c2, .slice A3 c.length c3, .slice A4 p.length c4] 25)).alloc (.cells #[.string n', .string v', .slice B1 d'.length d1, .slice B2v r'.length d2, .slice B3 c'.length d3, .slice B4 p'.length d4] 25)).heap.size ((w.alloc (.cells #[.string n, .string v, .slice A1 d.length c1, .slice A2 r.length c2, .slice A3 c.length c3, .slice A4 p.length c4] 25)).alloc (.cells #[.string n', .string v', .slice B1 d'.length d1, .slice B2v r'.length d2, .slice B3 c'.length d3, .slice B4 p'.length d4] 25)) w3 from (Below.refl ((w.alloc (.cells #[.string n, .string v, .slice A1 d.length c1, .slice A2 r.length c2, .slice A3 c.length c3, .slice A4 p.length c4] 25)).alloc (.cells #[.string n', .string v', .slice B1 d'.length d1, .slice B2v r'.length d2, .slice B3 c'.length d3, .slice B4 p'.length d4] 25)).heap.size ((w.alloc (.cells #[.string n, .string v, .slice A1 d.length c1, .slice A2 r.length c2, .slice A3 c.length c3, .slice A4 p.length c4] 25)).alloc (.cells #[.string n', .string v', .slice B1 d'.length d1, .slice B2v r'.length d2, .slice B3 c'.length d3, .slice B4 p'.length d4] 25))).trans ((hdr.below _).mono (Below.refl ((w.alloc (.cells #[.string n, .string v, .slice A1 d.length c1, .slice A2 r.length c2, .slice A3 c.length c3, .slice A4 p.length c4] 25)).alloc (.cells #[.string n', .string v', .slice B1 d'.length d1, .slice B2v r'.length d2, .slice B3 c'.length d3, .slice B4 p'.length d4] 25)).heap.size ((w.alloc (.cells #[.string n, .string v, .slice A1 d.length c1, .slice A2 r.length c2, .slice A3 c.length c3, .slice A4 p.length c4] 25)).alloc (.cells #[.string n', .string v', .slice B1 d'.length d1, .slice B2v r'.length d2, .slice B3 c'.length d3, .slice B4 p'.length d4] 25))).size))
    clear hdr
    obtain ⟨a2, a3, a4, a5, b2, b3, b4, b5⟩ := KX.out _ V0.out
    go_wp2
    go_ret
    exact ⟨by rw [X.out]; try rfl, C0.out⟩
  have q2 := Decidable.not_not.1 q2
  by_cases q3 : ¬ r = r'
  · have X := Lib.hid (show decide ((⟨n, v, d, r, c, p⟩ : Ent) = ⟨n', v', d', r', c', p'⟩) = false from decide_eq_false fun e => q3 (congrArg Ent.r e))
    rw [decide_eq_true q0] at en
    rw [decide_eq_true q1] at ev
    rw [decide_eq_true q2] at KD
    rw [decide_eq_false q3] at KR
    clear q0 q1 q2 q3
    go_enter Tryz.func18, Tryz.ntmps18
    go_wp2_with fail
    refine (KD.out _ B2.out).mono ?_
    rintro e w3 ⟨rfl, hdr⟩
    have C0 := Lib.hid (B2.out.trans ((hdr.below _).mono B2.out.size))
    have V0 := Lib.hid (show Below ((w.alloc (.cells #[.string n, .string v, .slice A1 d.length c1, .slice A2 r.length c2, .slice A3 c.length c3, .slice A4 p.length c4] 25)).alloc (.cells #[.string n', .string v', .slice B1 d'.length d1, .slice B2v r'.length d2, .slice B3 c'.length d3, .slice B4 p'.length d4] 25)).heap.size ((w.alloc (.cells #[.string n, .string v, .slice A1 d.length c1, .slice A2 r.length c2, .slice A3 c.length c3, .slice A4 p.length c4] 25)).alloc (.cells #[.string n', .string v', .slice B1 d'.length d1, .slice B2v r'.length d2, .slice B3 c'.length d3, .slice B4 p'.length d4] 25)) w3 from (Below.refl ((w.alloc (.cells #[.string n, .string v, .slice A1 d.length c1, .slice A2 r.length c2, .slice A3 c.length c3, .slice A4 p.length c4] 25)).alloc (.cells #[.string n', .string v', .slice B1 d'.length d1, .slice B2v r'.length d2, .slice B3 c'.length d3, .slice B4 p'.length d4] 25)).heap.size ((w.alloc (.cells #[.string n, .string v, .slice A1 d.length c1, .slice A2 r.length c2, .slice A3 c.length c3, .slice A4 p.length c4] 25)).alloc (.cells #[.string n', .string v', .slice B1 d'.length d1, .slice B2v r'.length d2, .slice B3 c'.length d3, .slice B4 p'.length d4] 25))).trans ((hdr.below _).mono (Below.refl ((w.alloc (.cells #[.string n, .string v, .slice A1 d.length c1, .slice A2 r.length c2, .slice A3 c.length c3, .slice A4 p.length c4] 25)).alloc (.cells #[.string n', .string v', .slice B1 d'.length d1, .slice B2v r'.length d2, .slice B3 c'.length d3, .slice B4 p'.length d4] 25)).heap.size ((w.alloc (.cells #[.string n, .string v, .slice A1 d.length c1, .slice A2 r.length c2, .slice A3 c.length c3, .slice A4 p.length c4] 25)).alloc (.cells #[.string n', .string v', .slice B1 d'.length d1, .slice B2v r'.length d2, .slice B3 c'.length d3, .slice B4 p'.length d4] 25))).size))
    clear hdr
    obtain ⟨a2, a3, a4, a5, b2, b3, b4, b5⟩ := KX.out _ V0.out
    go_wp2_with fail
    refine (KR.out _ C0.out).mono ?_
    rintro e w4 ⟨rfl, hdr⟩
    have C1 := Lib.hid (C0.out.trans ((hdr.below _).mono C0.out.size))
    have V1 := Lib.hid (show Below ((w.alloc (.cells #[.string n, .string v, .slice A1 d.length c1, .slice A2 r.length c2, .slice A3 c.length c3, .slice A4 p.length c4] 25)).alloc (.cells #[.string n', .string v', .slice B1 d'.length d1, .slice B2v r'.length d2, .slice B3 c'.length d3, .slice B4 p'.length d4] 25)).heap.size ((w.alloc (.cells #[.string n, .string v, .slice A1 d.length c1, .slice A2 r.length c2, .slice A3 c.length c3, .slice A4 p.length c4] 25)).alloc (.cells #[.string n', .string v', .slice B1 d'.length d1, .slice B2v r'.length d2, .slice B3 c'.length d3, .slice B4 p'.length d4] 25)) w4 from V0.out.trans ((hdr.below _).mono V0.out.size))
    clear hdr
    clear a2 b2 a3 b3 a4 b4 a5 b5
    obtain ⟨a2, a3, a4, a5, b2, b3, b4, b5⟩ := KX.out _ V1.out
    go_wp2
    go_ret
    exact ⟨by rw [X.out]; try rfl, C1.out⟩
  have q3 := Decidable.not_not.1 q3
  by_cases q4 : ¬ c = c'
  · have X := Lib.hid (show decide ((⟨n, v, d, r, c, p⟩ : Ent) = ⟨n', v', d', r', c', p'⟩) = false from decide_eq_false fun e => q4 (congrArg Ent.c e))
    rw [decide_eq_true q0] at en
    rw [decide_eq_true q1] at ev
    rw [decide_eq_true q2] at KD
    rw [decide_eq_true q3] at KR
    rw [decide_eq_false q4] at KC
    clear q0 q1 q2 q3 q4
    go_enter Tryz.func18, Tryz.ntmps18
    go_wp2_with fail
    refine (KD.out _ B2.out).mono ?_
    rintro e w3 ⟨rfl, hdr⟩
    have C0 := Lib.hid (B2.out.trans ((hdr.below _).mono B2.out.size))
    have V0 := Lib.hid (show Below ((w.alloc (.cells #[.string n, .string v, .slice A1 d.length c1, .slice A2 r.length c2, .slice A3 c.length c3, .slice A4 p.length c4] 25)).alloc (.cells #[.string n', .string v', .slice B1 d'.length d1, .slice B2v r'.length d2, .slice B3 c'.length d3, .slice B4 p'.length d4] 25)).heap.size ((w.alloc (.cells #[.string n, .string v, .slice A1 d.length c1, .slice A2 r.length c2, .slice A3 c.length c3, .slice A4 p.length c4] 25)).alloc (.cells #[.string n', .string v', .slice B1 d'.length d1, .slice B2v r'.length d2, .slice B3 c'.length d3, .slice B4 p'.length d4] 25)) w3 from (Below.refl ((w.alloc (.cells #[.string n, .string v, .slice A1 d.length c1, .slice A2 r.length c2, .slice A3 c.length c3, .slice A4 p.length c4] 25)).alloc (.cells #[.string n', .string v', .slice B1 d'.length d1, .slice B2v r'.length d2, .slice B3 c'.length d3, .slice B4 p'.length d4] 25)).heap.size ((w.alloc (.cells #[.string n, .string v, .slice A1 d.length c1, .slice A2 r.length c2, .slice A3 c.length c3, .slice A4 p.length c4] 25)).alloc (.cells #[.string n', .string v', .slice B1 d'.length d1, .slice B2v r'.length d2, .slice B3 c'.length d3, .slice B4 p'.length d4] 25))).trans ((hdr.below _).mono (Below.refl ((w.alloc (.cells #[.string n, .string v, .slice A1 d.length c1, .slice A2 r.length c2, .slice A3 c.length c3, .slice A4 p.length c4] 25)).alloc (.cells #[.string n', .string v', .slice B1 d'.length d1, .slice B2v r'.length d2, .slice B3 c'.length d3, .slice B4 p'.length d4] 25)).heap.size ((w.alloc (.cells #[.string n, .string v, .slice A1 d.length c1, .slice A2 r.length c2, .slice A3 c.length c3, .slice A4 p.length c4] 25)).alloc (.cells #[.string n', .string v', .slice B1 d'.length d1, .slice B2v r'.length d2, .slice B3 c'.length d3, .slice B4 p'.length d4] 25))).size))
    clear hdr
    obtain ⟨a2, a3, a4, a5, b2, b3, b4, b5⟩ := KX.out _ V0.out
    go_wp2_with fail
    refine (KR.out _ C0.out).mono ?_
    rintro e w4 ⟨rfl, hdr⟩
    have C1 := Lib.hid (C0.out.trans ((hdr.below _).mono C0.out.size))
    have V1 := Lib.hid (show Below ((w.alloc (.cells #[.string n, .string v, .slice A1 d.length c1, .slice A2 r.length c2, .slice A3 c.length c3, .slice A4 p.length c4] 25)).alloc (.cells #[.string n', .string v', .slice B1 d'.length d1, .slice B2v r'.length d2, .slice B3 c'.length d3, .slice B4 p'.length d4] 25)).heap.size ((w.alloc (.cells #[.string n, .string v, .slice A1 d.length c1, .slice A2 r.length c2, .slice A3 c.length c3, .slice A4 p.length c4] 25)).alloc (.cells #[.string n', .string v', .slice B1 d'.length d1, .slice B2v r'.length d2, .slice B3 c'.length d3, .slice B4 p'.length d4] 25)) w4 from V0.out.trans ((hdr.below _).mono V0.out.size))
    clear hdr
    clear a2 b2 a3 b3 a4 b4 a5 b5
    obtain ⟨a2, a3, a4, a5, b2, b3, b4, b5⟩ := KX.out _ V1.out
    go_wp2_with fail
    refine (KC.out _ C1.out).mono ?_
    rintro e w5 ⟨rfl, hdr⟩
    have C2 := Lib.hid (C1.out.trans ((hdr.below _).mono C1.out.size))
    have V2 := Lib.hid (show Below ((w.alloc (.cells #[.string n, .string v, .slice A1 d.length c1, .slice A2 r.length c2, .slice A3 c.length c3, .slice A4 p.length c4] 25)).alloc (.cells #[.string n', .string v', .slice B1 d'.length d1, .slice B2v r'.length d2, .slice B3 c'.length d3, .slice B4 p'.length d4] 25)).heap.size ((w.alloc (.cells #[.string n, .string v, .slice A1 d.length c1, .slice A2 r.length c2, .slice A3 c.length c3, .slice A4 p.length c4] 25)).alloc (.cells #[.string n', .string v', .slice B1 d'.length d1, .slice B2v r'.length d2, .slice B3 c'.length d3, .slice B4 p'.length d4] 25)) w5 from V1.out.trans ((hdr.below _).mono V1.out.size))
    clear hdr
    clear a2 b2 a3 b3 a4 b4 a5 b5
    obtain ⟨a2, a3, a4, a5, b2, b3, b4, b5⟩ := KX.out _ V2.out
    go_wp2
    go_ret
    exact ⟨by rw [X.out]; try rfl, C2.out⟩
  have q4 := Decidable.not_not.1 q4
  by_cases q5 : ¬ p = p'
  · have X := Lib.hid (show decide ((⟨n, v, d, r, c, p⟩ : Ent) = ⟨n', v', d', r', c', p'⟩) = false from decide_eq_false fun e => q5 (congrArg Ent.p e))
    rw [decide_eq_true q0] at en
    rw [decide_eq_true q1] at ev
    rw [decide_eq_true q2] at KD
    rw [decide_eq_true q3] at KR
    rw [decide_eq_true q4] at KC
    rw [decide_eq_false q5] at KP
    clear q0 q1 q2 q3 q4 q5
    go_enter Tryz.func18, Tryz.ntmps18
    go_wp2_with fail
    refine (KD.out _ B2.out).mono ?_
    rintro e w3 ⟨rfl, hdr⟩
    have C0 := Lib.hid (B2.out.trans ((hdr.below _).mono B2.out.size))
    have V0 := Lib.hid (show Below ((w.alloc (.cells #[.string n, .string v, .slice A1 d.length c1, .slice A2 r.length c2, .slice A3 c.length c3, .slice A4 p.length c4] 25)).alloc (.cells #[.string n', .string v', .slice B1 d'.length d1, .slice B2v r'.length d2, .slice B3 c'.length d3, .slice B4 p'.length d4] 25)).heap.size ((w.alloc (.cells #[.string n, .string v, .slice A1 d.length c1, .slice A2 r.length c2, .slice A3 c.length c3, .slice A4 p.length c4] 25)).alloc (.cells #[.string n', .string v', .slice B1 d'.length d1, .slice B2v r'.length d2, .slice B3 c'.length d3, .slice B4 p'.length d4] 25)) w3 from (Below.refl ((w.alloc (.cells #[.string n, .string v, .slice A1 d.length c1, .slice A2 r.length c2, .slice A3 c.length c3, .slice A4 p.length c4] 25)).alloc (.cells #[.string n', .string v', .slice B1 d'.length d1, .slice B2v r'.length d2, .slice B3 c'.length d3, .slice B4 p'.length d4] 25)).heap.size ((w.alloc (.cells #[.string n, .string v, .slice A1 d.length c1, .slice A2 r.length c2, .slice A3 c.length c3, .slice A4 p.length c4] 25)).alloc (.cells #[.string n', .string v', .slice B1 d'.length d1, .slice B2v r'.length d2, .slice B3 c'.length d3, .slice B4 p'.length d4] 25))).trans ((hdr.below _).mono (Below.refl ((w.alloc (.cells #[.string n, .string v, .slice A1 d.length c1, .slice A2 r.length c2, .slice A3 c.length c3, .slice A4 p.length c4] 25)).alloc (.cells #[.string n', .string v', .slice B1 d'.length d1, .slice B2v r'.length d2, .slice B3 c'.length d3, .slice B4 p'.length d4] 25)).heap.size ((w.alloc (.cells #[.string n, .string v, .slice A1 d.length c1, .slice A2 r.length c2, .slice A3 c.length c3, .slice A4 p.length c4] 25)).alloc (.cells #[.string n', .string v', .slice B1 d'.length d1, .slice B2v r'.length d2, .slice B3 c'.length d3, .slice B4 p'.length d4] 25))).size))
    clear hdr
    obtain ⟨a2, a3, a4, a5, b2, b3, b4, b5⟩ := KX.out _ V0.out
    go_wp2_with fail
    refine (KR.out _ C0.out).mono ?_
    rintro e w4 ⟨rfl, hdr⟩
    have C1 := Lib.hid (C0.out.trans ((hdr.below _).mono C0.out.size))
    have V1 := Lib.hid (show Below ((w.alloc (.cells #[.string n, .string v, .slice A1 d.length c1, .slice A2 r.length c2, .slice A3 c.length c3, .slice A4 p.length c4] 25)).alloc (.cells #[.string n', .string v', .slice B1 d'.length d1, .slice B2v r'.length d2, .slice B3 c'.length d3, .slice B4 p'.length d4] 25)).heap.size ((w.alloc (.cells #[.string n, .string v, .slice A1 d.length c1, .slice A2 r.length c2, .slice A3 c.length c3, .slice A4 p.length c4] 25)).alloc (.cells #[.string n', .string v', .slice B1 d'.length d1, .slice B2v r'.length d2, .slice B3 c'.length d3, .slice B4 p'.length d4] 25)) w4 from V0.out.trans ((hdr.below _).mono V0.out.size))
    clear hdr
    clear a2 b2 a3 b3 a4 b4 a5 b5
    obtain ⟨a2, a3, a4, a5, b2, b3, b4, b5⟩ := KX.out _ V1.out
    go_wp2_with fail
    refine (KC.out _ C1.out).mono ?_
    rintro e w5 ⟨rfl, hdr⟩
    have C2 := Lib.hid (C1.out.trans ((hdr.below _).mono C1.out.size))
    have V2 := Lib.hid (show Below ((w.alloc (.cells #[.string n, .string v, .slice A1 d.length c1, .slice A2 r.length c2, .slice A3 c.length c3, .slice A4 p.length c4] 25)).alloc (.cells #[.string n', .string v', .slice B1 d'.length d1, .slice B2v r'.length d2, .slice B3 c'.length d3, .slice B4 p'.length d4] 25)).heap.size ((w.alloc (.cells #[.string n, .string v, .slice A1 d.length c1, .slice A2 r.length c2, .slice A3 c.length c3, .slice A4 p.length c4] 25)).alloc (.cells #[.string n', .string v', .slice B1 d'.length d1, .slice B2v r'.length d2, .slice B3 c'.length d3, .slice B4 p'.length d4] 25)) w5 from V1.out.trans ((hdr.below _).mono V1.out.size))
    clear hdr
    clear a2 b2 a3 b3 a4 b4 a5 b5
    obtain ⟨a2, a3, a4, a5, b2, b3, b4, b5⟩ := KX.out _ V2.out
    go_wp2_with fail
    refine (KP.out _ C2.out).mono ?_
    rintro e w6 ⟨rfl, hdr⟩
    have C3 := Lib.hid (C2.out.trans ((hdr.below _).mono C2.out.size))
    have V3 := Lib.hid (show Below ((w.alloc (.cells #[.string n, .string v, .slice A1 d.length c1, .slice A2 r.length c2, .slice A3 c.length c3, .slice A4 p.length c4] 25)).alloc (.cells #[.string n', .string v', .slice B1 d'.length d1, .slice B2v r'.length d2, .slice B3 c'.length d3, .slice B4 p'.length d4] 25)).heap.size ((w.alloc (.cells #[.string n, .string v, .slice A1 d.length c1, .slice A2 r.length c2, .slice A3 c.length c3, .slice A4 p.length c4] 25)).alloc (.cells #[.string n', .string v', .slice B1 d'.length d1, .slice B2v r'.length d2, .slice B3 c'.length d3, .slice B4 p'.length d4] 25)) w6 from V2.out.trans ((hdr.below _).mono V2.out.size))
    clear hdr
    clear a2 b2 a3 b3 a4 b4 a5 b5
    obtain ⟨a2, a3, a4, a5, b2, b3, b4, b5⟩ := KX.out _ V3.out
    go_wp2
    go_ret
    exact ⟨by rw [X.out]; try rfl, C3.out⟩
  have q5 := Decidable.not_not.1 q5
  have X := Lib.hid (show decide ((⟨n, v, d, r, c, p⟩ : Ent) = ⟨n', v', d', r', c', p'⟩) = true from decide_eq_true (by rw [q0, q1, q2, q3, q4, q5]))
  rw [decide_eq_true q0] at en
  rw [decide_eq_true q1] at ev
  rw [decide_eq_true q2] at KD
  rw [decide_eq_true q3] at KR
  rw [decide_eq_true q4] at KC
  rw [decide_eq_true q5] at KP
  clear q0 q1 q2 q3 q4 q5
  go_enter Tryz.func18, Tryz.ntmps18
  go_wp2_with fail
  refine (KD.out _ B2.out).mono ?_
  rintro e w3 ⟨rfl, hdr⟩
  have C0 := Lib.hid (B2.out.trans ((hdr.below _).mono B2.out.size))
  have V0 := Lib.hid (show Below ((w.alloc (.cells #[.string n, .string v, .slice A1 d.length c1, .slice A2 r.length c2, .slice A3 c.length c3, .slice A4 p.length c4] 25)).alloc (.cells #[.string n', .string v', .slice B1 d'.length d1, .slice B2v r'.length d2, .slice B3 c'.length d3, .slice B4 p'.length d4] 25)).heap.size ((w.alloc (.cells #[.string n, .string v, .slice A1 d.length c1, .slice A2 r.length c2, .slice A3 c.length c3, .slice A4 p.length c4] 25)).alloc (.cells #[.string n', .string v', .slice B1 d'.length d1, .slice B2v r'.length d2, .slice B3 c'.length d3, .slice B4 p'.length d4] 25)) w3 from (Below.refl ((w.alloc (.cells #[.string n, .string v, .slice A1 d.length c1, .slice A2 r.length c2, .slice A3 c.length c3, .slice A4 p.length c4] 25)).alloc (.cells #[.string n', .string v', .slice B1 d'.length d1, .slice B2v r'.length d2, .slice B3 c'.length d3, .slice B4 p'.length d4] 25)).heap.size ((w.alloc (.cells #[.string n, .string v, .slice A1 d.length c1, .slice A2 r.length c2, .slice A3 c.length c3, .slice A4 p.length c4] 25)).alloc (.cells #[.string n', .string v', .slice B1 d'.length d1, .slice B2v r'.length d2, .slice B3 c'.length d3, .slice B4 p'.length d4] 25))).trans ((hdr.below _).mono (Below.refl ((w.alloc (.cells #[.string n, .string v, .slice A1 d.length c1, .slice A2 r.length c2, .slice A3 c.length c3, .slice A4 p.length c4] 25)).alloc (.cells #[.string n', .string v', .slice B1 d'.length d1, .slice B2v r'.length d2, .slice B3 c'.length d3, .slice B4 p'.length d4] 25)).heap.size ((w.alloc (.cells #[.string n, .string v, .slice A1 d.length c1, .slice A2 r.length c2, .slice A3 c.length c3, .slice A4 p.length c4] 25)).alloc (.cells #[.string n', .string v', .slice B1 d'.length d1, .slice B2v r'.length d2, .slice B3 c'.length d3, .slice B4 p'.length d4] 25))).size))
  clear hdr
  obtain ⟨a2, a3, a4, a5, b2, b3, b4, b5⟩ := KX.out _ V0.out
  go_wp2_with fail
  refine (KR.out _ C0.out).mono ?_
  rintro e w4 ⟨rfl, hdr⟩
  have C1 := Lib.hid (C0.out.trans ((hdr.below _).mono C0.out.size))
  have V1 := Lib.hid (show Below ((w.alloc (.cells #[.string n, .string v, .slice A1 d.length c1, .slice A2 r.length c2, .slice A3 c.length c3, .slice A4 p.length c4] 25)).alloc (.cells #[.string n', .string v', .slice B1 d'.length d1, .slice B2v r'.length d2, .slice B3 c'.length d3, .slice B4 p'.length d4] 25)).heap.size ((w.alloc (.cells #[.string n, .string v, .slice A1 d.length c1, .slice A2 r.length c2, .slice A3 c.length c3, .slice A4 p.length c4] 25)).alloc (.cells #[.string n', .string v', .slice B1 d'.length d1, .slice B2v r'.length d2, .slice B3 c'.length d3, .slice B4 p'.length d4] 25)) w4 from V0.out.trans ((hdr.below _).mono V0.out.size))
  clear hdr
  clear a2 b2 a3 b3 a4 b4 a5 b5
  obtain ⟨a2, a3, a4, a5, b2, b3, b4, b5⟩ := KX.out _ V1.out
  go_wp2_with fail
  refine (KC.out _ C1.out).mono ?_
  rintro e w5 ⟨rfl, hdr⟩
  have C2 := Lib.hid (C1.out.trans ((hdr.below _).mono C1.out.size))
  have V2 := Lib.hid (show Below ((w.alloc (.cells #[.string n, .string v, .slice A1 d.length c1, .slice A2 r.length c2, .slice A3 c.length c3, .slice A4 p.length c4] 25)).alloc (.cells #[.string n', .string v', .slice B1 d'.length d1, .slice B2v r'.length d2, .slice B3 c'.length d3, .slice B4 p'.length d4] 25)).heap.size ((w.alloc (.cells #[.string n, .string v, .slice A1 d.length c1, .slice A2 r.length c2, .slice A3 c.length c3, .slice A4 p.length c4] 25)).alloc (.cells #[.string n', .string v', .slice B1 d'.length d1, .slice B2v r'.length d2, .slice B3 c'.length d3, .slice B4 p'.length d4] 25)) w5 from V1.out.trans ((hdr.below _).mono V1.out.size))
  clear hdr
  clear a2 b2 a3 b3 a4 b4 a5 b5
  obtain ⟨a2, a3, a4, a5, b2, b3, b4, b5⟩ := KX.out _ V2.out
  go_wp2_with fail
  refine (KP.out _ C2.out).mono ?_
  rintro e w6 ⟨rfl, hdr⟩
  have C3 := Lib.hid (C2.out.trans ((hdr.below _).mono C2.out.size))
  have V3 := Lib.hid (show Below ((w.alloc (.cells #[.string n, .string v, .slice A1 d.length c1, .slice A2 r.length c2, .slice A3 c.length c3, .slice A4 p.length c4] 25)).alloc (.cells #[.string n', .string v', .slice B1 d'.length d1, .slice B2v r'.length d2, .slice B3 c'.length d3, .slice B4 p'.length d4] 25)).heap.size ((w.alloc (.cells #[.string n, .string v, .slice A1 d.length c1, .slice A2 r.length c2, .slice A3 c.length c3, .slice A4 p.length c4] 25)).alloc (.cells #[.string n', .string v', .slice B1 d'.length d1, .slice B2v r'.length d2, .slice B3 c'.length d3, .slice B4 p'.length d4] 25)) w6 from V2.out.trans ((hdr.below _).mono V2.out.size))
  clear hdr
  clear a2 b2 a3 b3 a4 b4 a5 b5
  obtain ⟨a2, a3, a4, a5, b2, b3, b4, b5⟩ := KX.out _ V3.out
  go_wp2
  go_ret
  exact ⟨by rw [X.out]; try rfl, C3.out⟩
def Lt (l : List Atm) : Prop := l.length ≤ 20 ∧ ∀ a ∈ l, a.n.size ≤ 100 ∧ a.v.size ≤ 100
def LtR (P : Prop) (e : Ending) : Prop := ∃ b : Bool, e = .returned (.bool b) ∧ (b = true → P)
theorem ltR_no (P : Prop) : LtR P (.returned (.bool false)) := ⟨false, rfl, fun h => by cases h⟩
theorem ltR_yes {P : Prop} (h : P) : LtR P (.returned (.bool true)) := ⟨true, rfl, fun _ => h⟩
set_option maxHeartbeats 4000000 in
theorem light6_any (A : Option Addr) (n c : Nat) (l : List Atm) (w : World) (h : rdAtms w (lt_ w.heap.size) l [.slice A n c]) :
    Calls Tryz.prog 22 #[.slice A n c] w fun e w' => LtR (Lt l) e ∧ w = w' := by
  obtain ⟨rfl, hnc, hcm, hat⟩ := rdAtms_at h
  have hcm' : c ≤ 9223372036854775807 := hcm
  have HAT := Lib.hid hat
  clear h hat hcm
  by_cases g0 : (20 : Int) < (l.length : Int)
  · go_enter Tryz.func22, Tryz.ntmps22
    go_wp2
    go_ret
    exact ⟨ltR_no _, rfl⟩
  have HL := Lib.hid (show l.length ≤ 20 by omega)
  go_enter Tryz.func22, Tryz.ntmps22
  go_wp2
  go_loop [3] (fun i => ∃ k : Nat, k ≤ l.length ∧ i = .int .i64 k ∧ (∀ j (hj : j < l.length), j < k → l[j].n.size ≤ 100 ∧ l[j].v.size ≤ 100)) (fun i => l.length - (intOf i).toNat)
  case atStart => exact ⟨0, Nat.zero_le _, rfl, fun j _ hj => absurd hj (Nat.not_lt_zero _)⟩
  case round =>
    obtain ⟨k, hk, rfl, hall⟩ := hrel
    have HA := Lib.hid hall
    clear hall
    by_cases hlt : k < l.length
    · obtain ⟨ad, rfl, had, h0, h1, h2⟩ := HAT.out k hlt
      have i0 : (0 : Int) ≤ (k : Int) := by omega
      have i1 : (k : Int) < (l.length : Int) := by omega
      clear had h1
      by_cases g1 : (100 : Int) < (l[k].n.size : Int)
      · go_wp2
        go_ret
        exact ⟨ltR_no _, rfl⟩
      by_cases g2 : (100 : Int) < (l[k].v.size : Int)
      · go_wp2
        go_ret
        exact ⟨ltR_no _, rfl⟩
      have NX := Lib.hid (show l[k].n.size ≤ 100 ∧ l[k].v.size ≤ 100 from ⟨by omega, by omega⟩)
      go_wp2
      go_round
      case rel => exact ⟨k + 1, by omega, by go_num, fun j hj h => by
        by_cases hjk : j = k
        · subst hjk; exact NX.out
        · exact HA.out j hj (by omega)⟩
      case measure => simp [intOf]; omega
    · obtain rfl : k = l.length := by omega
      have FIN := Lib.hid (show Lt l from ⟨HL.out, fun a ha => by
        obtain ⟨j, hj, rfl⟩ := List.getElem_of_mem ha
        exact HA.out j hj hj⟩)
      go_wp2
      go_ret
      exact ⟨ltR_yes FIN.out, rfl⟩
end Go.Proofs.YtmlakjemgmeffaaGreatDoor
end

section
set_option maxRecDepth 100000
set_option linter.unusedVariables false
set_option linter.unusedSimpArgs false
namespace Go.Proofs.YtmlakjemgmeffaaGreatDoor
open Go.RowKit
def Sm (x : Ent) : Prop := Lt x.c ∧ Lt x.p ∧ x.n.size ≤ 100 ∧ x.v.size ≤ 100 ∧ x.d.length ≤ 15 ∧ x.r.length ≤ 15 ∧ (∀ g ∈ x.d, Lt g) ∧ (∀ g ∈ x.r, Lt g)
set_option maxHeartbeats 8000000 in
theorem small6_any (x : Ent) (A1 : Option Addr) (c1 : Nat) (A2 : Option Addr) (c2 : Nat) (A3 : Option Addr) (c3 : Nat) (A4 : Option Addr) (c4 : Nat) (w : World) (hx : EntV w (lt_ w.heap.size) x A1 c1 A2 c2 A3 c3 A4 c4) :
    Calls Tryz.prog 8 #[x.val A1 c1 A2 c2 A3 c3 A4 c4] w fun e w' => LtR (Sm x) e ∧ Below w.heap.size w w' := by
  obtain ⟨n, v, d, r, c, p⟩ := x
  have B1 := Lib.hid (show Below w.heap.size w (w.alloc (.cells #[.string n, .string v, .slice A1 d.length c1, .slice A2 r.length c2, .slice A3 c.length c3, .slice A4 p.length c4] 25)) from (Below.refl _ w).alloc (Nat.le_refl _) _)
  have hy := hx.on B1.out
  obtain ⟨hd1, hd2, hd3, hd⟩ := rdGrps_at hy.d
  obtain ⟨hr1, hr2, hr3, hr⟩ := rdGrps_at hy.r
  have hcm1 : c1 ≤ 9223372036854775807 := hd3
  have hcm2 : c2 ≤ 9223372036854775807 := hr3
  have KC := Lib.hid (light6_any A3 c.length c3 c _ hy.c)
  have KP := Lib.hid (light6_any A4 p.length c4 p _ hy.p)
  have HD := Lib.hid hd
  have HR := Lib.hid hr
  clear hx hy hd hr hd1 hr1 hd3 hr3
  show Calls Tryz.prog 8 #[.agg #[.string n, .string v, .slice A1 d.length c1, .slice A2 r.length c2, .slice A3 c.length c3, .slice A4 p.length c4]] w _
  go_enter Tryz.func8, Tryz.ntmps8
  go_wp2_with fail
  refine KC.out.mono ?_
  rintro e w' ⟨⟨b1, rfl, hb1⟩, rfl⟩
  go_wp2_with fail
  refine KP.out.mono ?_
  rintro e w' ⟨⟨b2, rfl, hb2⟩, rfl⟩
  cases b1
  · go_wp2
    go_ret
    exact ⟨ltR_no _, B1.out⟩
  cases b2
  · go_wp2
    go_ret
    exact ⟨ltR_no _, B1.out⟩
  have HC := Lib.hid (hb1 rfl)
  have HP := Lib.hid (hb2 rfl)
  clear hb1 hb2
  by_cases g0 : (100 : Int) < (n.size : Int)
  · go_wp2
    go_ret
    exact ⟨ltR_no _, B1.out⟩
  by_cases g1 : (100 : Int) < (v.size : Int)
  · go_wp2
    go_ret
    exact ⟨ltR_no _, B1.out⟩
  by_cases g2 : (15 : Int) < (d.length : Int)
  · go_wp2
    go_ret
    exact ⟨ltR_no _, B1.out⟩
  by_cases g3 : (15 : Int) < (r.length : Int)
  · go_wp2
    go_ret
    exact ⟨ltR_no _, B1.out⟩
  have HS := Lib.hid (show n.size ≤ 100 ∧ v.size ≤ 100 ∧ d.length ≤ 15 ∧ r.length ≤ 15 from ⟨by omega, by omega, by omega, by omega⟩)
  go_wp2
  go_loop [5] (fun i => ∃ k : Nat, k ≤ d.length ∧ i = .int .i64 k ∧ (∀ j (hj : j < d.length), j < k → Lt d[j])) (fun i => d.length - (intOf i).toNat)
  case atStart => exact ⟨0, Nat.zero_le _, rfl, fun j _ hj => absurd hj (Nat.not_lt_zero _)⟩
  case round =>
    obtain ⟨k, hk, rfl, hall⟩ := hrel
    have HA := Lib.hid hall
    clear hall
    by_cases hlt : k < d.length
    · obtain ⟨ad, Y, cy, rfl, had, h0, h1⟩ := HD.out k hlt
      have i0 : (0 : Int) ≤ (k : Int) := by omega
      have i1 : (k : Int) < (d.length : Int) := by omega
      have K := Lib.hid (light6_any _ _ _ _ _ h1)
      clear had h1
      go_wp2_with fail
      refine K.out.mono ?_
      rintro e w' ⟨⟨b, rfl, hb⟩, rfl⟩
      cases b
      · go_wp2
        go_ret
        exact ⟨ltR_no _, B1.out⟩
      have NX := Lib.hid (hb rfl)
      clear hb
      go_wp2
      go_round
      case rel => exact ⟨k + 1, by omega, by go_num, fun j hj h => by
        by_cases hjk : j = k
        · subst hjk; exact NX.out
        · exact HA.out j hj (by omega)⟩
      case measure => simp [intOf]; omega
    · obtain rfl : k = d.length := by omega
      have F5 := Lib.hid (show ∀ g ∈ d, Lt g from fun g hg => by
        obtain ⟨j, hj, rfl⟩ := List.getElem_of_mem hg
        exact HA.out j hj hj)
      clear HA
      go_wp2
      go_loop [7] (fun i => ∃ k : Nat, k ≤ r.length ∧ i = .int .i64 k ∧ (∀ j (hj : j < r.length), j < k → Lt r[j])) (fun i => r.length - (intOf i).toNat)
      case atStart => exact ⟨0, Nat.zero_le _, rfl, fun j _ hj => absurd hj (Nat.not_lt_zero _)⟩
      case round =>
        obtain ⟨k, hk, rfl, hall⟩ := hrel
        have HA := Lib.hid hall
        clear hall
        by_cases hlt : k < r.length
        · obtain ⟨ad, Y, cy, rfl, had, h0, h1⟩ := HR.out k hlt
          have i0 : (0 : Int) ≤ (k : Int) := by omega
          have i1 : (k : Int) < (r.length : Int) := by omega
          have K := Lib.hid (light6_any _ _ _ _ _ h1)
          clear had h1
          go_wp2_with fail
          refine K.out.mono ?_
          rintro e w' ⟨⟨b, rfl, hb⟩, rfl⟩
          cases b
          · go_wp2
            go_ret
            exact ⟨ltR_no _, B1.out⟩
          have NX := Lib.hid (hb rfl)
          clear hb
          go_wp2
          go_round
          case rel => exact ⟨k + 1, by omega, by go_num, fun j hj h => by
            by_cases hjk : j = k
            · subst hjk; exact NX.out
            · exact HA.out j hj (by omega)⟩
          case measure => simp [intOf]; omega
        · obtain rfl : k = r.length := by omega
          have F7 := Lib.hid (show ∀ g ∈ r, Lt g from fun g hg => by
            obtain ⟨j, hj, rfl⟩ := List.getElem_of_mem hg
            exact HA.out j hj hj)
          clear HA
          go_wp2
          go_ret
          exact ⟨ltR_yes ⟨HC.out, HP.out, HS.out.1, HS.out.2.1, HS.out.2.2.1, HS.out.2.2.2, F5.out, F7.out⟩, B1.out⟩
end Go.Proofs.YtmlakjemgmeffaaGreatDoor
end

section
set_option maxRecDepth 100000
set_option linter.unusedVariables false
set_option linter.unusedSimpArgs false
namespace Go.Proofs.YtmlakjemgmeffaaGreatDoor
open Go.RowKit Go.WideShapes Go.ChangeShapes Go.ChangeAt Go.WideMaps Go.WideElems Go.Joins Go.Deep
section
variable {H : Type} {enc : TypeId × Value → H} {W : World}
def EntOk (x : Ent) : Prop := x.n.size ≤ maxLen ∧ x.v.size ≤ maxLen ∧ (∀ g ∈ x.d, ∀ a ∈ g, AtmOk a) ∧ (∀ g ∈ x.r, ∀ a ∈ g, AtmOk a) ∧ (∀ a ∈ x.c, AtmOk a) ∧ (∀ a ∈ x.p, AtmOk a)
theorem cells_ent : Tryz.prog.cellsOf 25 = 6 := by kernel_rfl
theorem open_grps_trod {base n : Nat} {sp : Nat → Bool} {held : Bool} {t : TypeId} {cs : List Value} {y : DataW H × List MemPlace} (ht : Tryz.prog.underlying t = some (.slice 54)) (hf : DataW.trod enc Tryz.prog W base sp held n t cs = some y) :
    ∃ A len c L, cs = [.slice A len c] ∧ rdGrps W (lt_ W.heap.size) L [.slice A len c] ∧ (∀ g ∈ L, ∀ a ∈ g, AtmOk a) := by
  rcases open_slice ht hf with ⟨rfl, _⟩ | ⟨a, len, cap, m, k, D, Pl, rfl, hb, hl, hm, hmm, _, hx⟩
  · exact ⟨none, 0, 0, [], rfl, rdRow_nil _ _, by simp⟩
  · have hlm : len ≤ m := by rw [hmm]; split <;> omega
    have hat : ∀ i, i < len → ∃ (g : List Atm) (u : Value), (∀ x ∈ g, AtmOk x) ∧ a.block < W.heap.size ∧ rdAtms W (lt_ W.heap.size) g [u] ∧ W.cell? (a.add (i * 1 + 0)) = some u := by
      intro i hi
      obtain ⟨cs', hc, ht'⟩ := hx i (by omega)
      rw [cells_grp] at hc
      obtain ⟨A, n, c, l, rfl, h1, h2⟩ := open_atoms_trod Tryz.underlying54 ht'
      obtain ⟨_, hcl, hcell⟩ := World.cells?_some hc
      have h0 := hcell 0 (by omega)
      have hadd : ((a.add (i * 1)).add 0) = a.add (i * 1 + 0) := by unfold Addr.add; simp
      rw [hadd] at h0
      have hb' := World.block_lt_of_cell? W (a.add (i * 1 + 0)) h0
      rw [blk_add] at hb'
      exact ⟨l, _, h2, hb', h1, h0⟩
    refine ⟨some a, len, cap, List.ofFn fun i : Fin len => Classical.choose (hat i.1 i.2), rfl, ⟨some a, cap, by simp, by simpa using hl, hm, fun i hi => ?_⟩, fun g hg => ?_⟩
    · simp only [List.length_ofFn] at hi
      have hs := Classical.choose_spec (Classical.choose_spec (hat i hi))
      refine ⟨a, [Classical.choose (Classical.choose_spec (hat i hi))], rfl, hs.2.1, ?_, rfl, fun j u hu => ?_⟩
      · rw [List.getElem_ofFn]; exact hs.2.2.1
      · have hj : j = 0 := by have := (List.getElem?_eq_some_iff.1 hu).1; simpa using this
        subst hj
        simp only [List.getElem?_cons_zero, Option.some.injEq] at hu
        rw [← hu]; exact hs.2.2.2
    · obtain ⟨i, hi⟩ := List.mem_ofFn.1 hg
      rw [← hi]; exact (Classical.choose_spec (Classical.choose_spec (hat i.1 i.2))).1
theorem trod_ent {base n : Nat} {sp : Nat → Bool} {held : Bool} {cs : List Value} {y : DataW H × List MemPlace} (h : DataW.trod enc Tryz.prog W base sp held n 25 cs = some y) : ∃ x : Ent, rdEnt W (lt_ W.heap.size) x cs ∧ EntOk x := by
  obtain ⟨xs, m, _, rfl, hl, hlen, hf⟩ := DataW.trod_struct Tryz.underlying25 h
  rw [cells_ent] at hl
  rcases cs with _ | ⟨c0, _ | ⟨c1, _ | ⟨c2, _ | ⟨c3, _ | ⟨c4, _ | ⟨c5, _ | ⟨c6, cs⟩⟩⟩⟩⟩⟩⟩
  · simp at hl
  · simp at hl
  · simp at hl
  · simp at hl
  · simp at hl
  · simp at hl
  · rcases xs with _ | ⟨y0, _ | ⟨y1, _ | ⟨y2, _ | ⟨y3, _ | ⟨y4, _ | ⟨y5, _ | ⟨y6, xs⟩⟩⟩⟩⟩⟩⟩
    · simp at hlen
    · simp at hlen
    · simp at hlen
    · simp at hlen
    · simp at hlen
    · simp at hlen
    · have e0 : DataW.trod enc Tryz.prog W base sp held m 9 [c0] = some y0 := hf 0 _ rfl
      have e1 : DataW.trod enc Tryz.prog W base sp held m 9 [c1] = some y1 := hf 1 _ rfl
      have e2 : DataW.trod enc Tryz.prog W base sp held m 22 [c2] = some y2 := hf 2 _ rfl
      have e3 : DataW.trod enc Tryz.prog W base sp held m 22 [c3] = some y3 := hf 3 _ rfl
      have e4 : DataW.trod enc Tryz.prog W base sp held m 23 [c4] = some y4 := hf 4 _ rfl
      have e5 : DataW.trod enc Tryz.prog W base sp held m 23 [c5] = some y5 := hf 5 _ rfl
      obtain ⟨n, rfl, wn⟩ := one_string e0
      obtain ⟨v, rfl, wv⟩ := one_string e1
      obtain ⟨A1, n1, k1, d, h1, r1, o1⟩ := open_grps_trod Tryz.underlying22 e2
      obtain ⟨A2, n2, k2, r, h2, r2, o2⟩ := open_grps_trod Tryz.underlying22 e3
      obtain ⟨A3, n3, k3, c, h3, r3, o3⟩ := open_atoms_trod Tryz.underlying23 e4
      obtain ⟨A4, n4, k4, p, h4, r4, o4⟩ := open_atoms_trod Tryz.underlying23 e5
      simp only [List.cons.injEq, and_true] at h1 h2 h3 h4
      subst h1
      subst h2
      subst h3
      subst h4
      exact ⟨⟨n, v, d, r, c, p⟩, ⟨_, _, _, _, rfl, r1, r2, r3, r4⟩, wn, wv, o1, o2, o3, o4⟩
    · simp at hlen
  · simp at hl
theorem ent_val {x : Ent} {S : Nat → Prop} {cs : List Value} (h : rdEnt W S x cs) : ∃ A1 c1 A2 c2 A3 c3 A4 c4, cs = (x.val A1 c1 A2 c2 A3 c3 A4 c4).cells.toList ∧ EntV W S x A1 c1 A2 c2 A3 c3 A4 c4 := by
  obtain ⟨dv, rv, cv, pv, rfl, g1, g2, g3, g4⟩ := h
  obtain ⟨A1, c1, e1, _⟩ := id g1
  obtain ⟨A2, c2, e2, _⟩ := id g2
  obtain ⟨A3, c3, e3, _⟩ := id g3
  obtain ⟨A4, c4, e4, _⟩ := id g4
  simp only [List.cons.injEq, and_true] at e1 e2 e3 e4
  subst e1
  subst e2
  subst e3
  subst e4
  exact ⟨A1, c1, A2, c2, A3, c3, A4, c4, rfl, ⟨g1, g2, g3, g4⟩⟩
theorem open_ent_arg {v : Value} {d : DataW H} {p : List MemPlace} {base : Nat} (hv : Value.okWide Tryz.prog W .any base 25 v) (h : DataW.Trod enc Tryz.prog W 0 (fun _ => true) true 25 v d p) :
    ∃ (x : Ent), ∃ A1 c1 A2 c2 A3 c3 A4 c4, v = x.val A1 c1 A2 c2 A3 c3 A4 c4 ∧ EntV W (lt_ W.heap.size) x A1 c1 A2 c2 A3 c3 A4 c4 ∧ EntOk x := by
  obtain ⟨cs, rfl, hsz⟩ := okWide_struct Tryz.underlying25 hv
  obtain ⟨fuel, hf⟩ := h
  obtain ⟨x, hx, ok⟩ := trod_ent hf
  obtain ⟨A1, c1, A2, c2, A3, c3, A4, c4, hcs, hE⟩ := ent_val hx
  refine ⟨x, A1, c1, A2, c2, A3, c3, A4, c4, ?_, hE, ok⟩
  simp [Value.cells] at hcs
  obtain ⟨cl⟩ := cs
  have hcl : cl = _ := hcs
  rw [hcl]
theorem open_ents_arg {v : Value} {d : DataW H} {p : List MemPlace} {base : Nat} (hv : Value.okWide Tryz.prog W .any base 26 v) (h : DataW.Trod enc Tryz.prog W 0 (fun _ => true) true 26 v d p) :
    ∃ A n c l, v = .slice A n c ∧ rdEnts W (lt_ W.heap.size) l [.slice A n c] ∧ (∀ x ∈ l, EntOk x) := by
  obtain ⟨a0, len0, cap0, rfl⟩ := okWide_slice Tryz.underlying26 hv
  obtain ⟨fuel, hf⟩ := h
  rcases open_slice Tryz.underlying26 hf with ⟨hcs, _⟩ | ⟨a, len, cap, m, k, D, Pl, hcs, hb, hl, hm, hmm, _, hx⟩
  · simp [Value.cells] at hcs
    obtain ⟨rfl, rfl, rfl⟩ := hcs
    exact ⟨none, 0, 0, [], rfl, rdRow_nil _ _, by simp⟩
  · simp [Value.cells] at hcs
    obtain ⟨rfl, rfl, rfl⟩ := hcs
    have hlm : len0 ≤ m := by rw [hmm]; split <;> omega
    have hat : ∀ i, i < len0 → ∃ (x : Ent) (es : List Value), EntOk x ∧ a.block < W.heap.size ∧ rdEnt W (lt_ W.heap.size) x es ∧ es.length = 6 ∧ ∀ j u, es[j]? = some u → W.cell? (a.add (i * 6 + j)) = some u := by
      intro i hi
      obtain ⟨cs', hc, ht'⟩ := hx i (by omega)
      rw [cells_ent] at hc
      obtain ⟨x, hrd, hok⟩ := trod_ent ht'
      obtain ⟨_, hcl, hcell⟩ := World.cells?_some hc
      have hlen := rdEnt_good.len hrd
      have key : ∀ j u, cs'[j]? = some u → W.cell? (a.add (i * 6 + j)) = some u := fun j u hu => by
        have hj : j < 6 := by have := (List.getElem?_eq_some_iff.1 hu).1; omega
        have := hcell j hj
        rw [hu] at this
        rw [← this]
        congr 1
        unfold Addr.add
        by_cases h1 : i * 6 = 0 <;> by_cases h2 : j = 0 <;> simp [h1, h2, Nat.add_assoc]
      have hb' := World.block_lt_of_cell? _ _ (key 0 _ (List.getElem?_eq_getElem (by omega)))
      rw [blk_add] at hb'
      exact ⟨x, cs', hok, hb', hrd, hlen, key⟩
    refine ⟨some a, len0, cap0, List.ofFn fun i : Fin len0 => Classical.choose (hat i.1 i.2), rfl, ⟨some a, cap0, by simp, by simpa using hl, hm, fun i hi => ?_⟩, fun x hx => ?_⟩
    · simp only [List.length_ofFn] at hi
      have hs := Classical.choose_spec (Classical.choose_spec (hat i hi))
      refine ⟨a, Classical.choose (Classical.choose_spec (hat i hi)), rfl, hs.2.1, ?_, hs.2.2.2.1, hs.2.2.2.2⟩
      rw [List.getElem_ofFn]; exact hs.2.2.1
    · obtain ⟨i, hi⟩ := List.mem_ofFn.1 hx
      rw [← hi]; exact (Classical.choose_spec (Classical.choose_spec (hat i.1 i.2))).1
end
end Go.Proofs.YtmlakjemgmeffaaGreatDoor
end
