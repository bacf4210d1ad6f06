/- The contracts of the program's rightGroup and Right of groups. -/
import Derived.Test.YtmlakjemgmeffaaGreatDoorD4dZ
import Derived.Test.YtmlakjemgmeffaaGreatDoorRel6Z
set_option maxRecDepth 100000
set_option linter.unusedVariables false
set_option linter.unusedSimpArgs false
namespace Go.Proofs.YtmlakjemgmeffaaGreatDoor
open Go.RowKit
theorem rright_atom (x : Atm) (w : World) (E : EnvR w) : Calls Tryz.prog 30 #[.agg #[.string x.n, .int .i64 x.o, .string x.v]] w fun e' w' => e' = .returned (.bool (rgt x)) ∧ Below w.heap.size w w' := rright_any x.n x.o x.v w E
/-- An atom in a box of its own, behind a call. -/
theorem atm_box {w w1 : World} {T : TypeId} {x y z : Value} (h : Below (w.alloc (.cells #[x, y, z] T)).heap.size (w.alloc (.cells #[x, y, z] T)) w1) : Below w.heap.size w w1 := (((Below.refl _ w).alloc (Nat.le_refl _) _).trans (h.mono (by simp)))
set_option maxHeartbeats 1000000 in
theorem rightGroup_any (A : Option Addr) (n c : Nat) (g : List Atm) (w : World) (h : rdAtms w (lt_ w.heap.size) g [.slice A n c]) (E : EnvR w) :
    Calls Tryz.prog 65 #[.slice A n c] w fun e w' => e = .returned (.bool (rgtOne g)) ∧ Below w.heap.size w w' := by
  obtain ⟨rfl, hnc, hcm, _⟩ := rdAtms_at h
  have hcm' : c ≤ 9223372036854775807 := hcm
  have HE := Lib.hid E
  have HR := Lib.hid h
  clear E h
  by_cases hl0 : g.length = 0
  · have X := Lib.hid (rgtOne_len (g := g) (by omega))
    have t0 : ((g.length : Int) == 0) = true := by rw [beq_iff_eq]; omega
    have HL := Lib.hid hl0
    clear hl0
    go_enter Tryz.func65, Tryz.ntmps65
    go_wp2
    go_ret
    exact ⟨by rw [X.out]; try rfl, Below.refl _ _⟩
  by_cases hl6 : 6 < g.length
  · have X := Lib.hid (rgtOne_len (g := g) (by omega))
    have t0 : ((g.length : Int) == 0) = false := by rw [beq_eq_false_iff_ne]; omega
    have t1 : (6 : Int) < g.length := by omega
    go_enter Tryz.func65, Tryz.ntmps65
    go_wp2
    go_ret
    exact ⟨by rw [X.out]; try rfl, Below.refl _ _⟩
  have t0 : ((g.length : Int) == 0) = false := by rw [beq_eq_false_iff_ne]; omega
  have t1 : ¬ (6 : Int) < g.length := by omega
  go_enter Tryz.func65, Tryz.ntmps65
  go_wp2
  go_loopw [4, 15] (fun b i wr => ∃ k : Nat, k ≤ g.length ∧ i = .int .i64 k ∧ (g.take k).all rgt = true ∧ Below w.heap.size w wr) (fun _ i _ => g.length - (intOf i).toNat)
  case atStart => exact ⟨0, Nat.zero_le _, rfl, rfl, Below.refl _ _⟩
  case round =>
    obtain ⟨k, hk, rfl, hall, hbel⟩ := hrel
    by_cases hlt : k < g.length
    · obtain ⟨ad, rfl, had, e0, e1, e2⟩ := (rdAtms_at (rdAtms_good.below HR.out hbel)).2.2.2 k hlt
      have T2 := Lib.hid (all_takeL rgt g k hlt)
      have Z2 := Lib.hid (rgtOne_stop (g := g) (k := k) hlt)
      have A2 := Lib.hid hall
      have HB := Lib.hid hbel
      have EE := Lib.hid (HE.out.below hbel)
      clear hall hbel
      generalize g[k] = x at *
      have K := Lib.hid (fun w E => rright_atom x w E)
      cases hr : rgt x
      · have R := Lib.hid hr
        rw [hr] at K
        clear hr
        go_wp2_with (go_at_call 30; refine (K.out _ (EE.out.alloc _)).mono ?_; rintro e w3 ⟨rfl, hb3⟩)
        go_ret
        exact ⟨by rw [Z2.out R.out]; try rfl, bel2 HB.out (atm_box hb3) (Nat.le_refl _)⟩
      · have R := Lib.hid hr
        rw [hr] at K
        clear hr
        go_wp2_with (go_at_call 30; refine (K.out _ (EE.out.alloc _)).mono ?_; rintro e w3 ⟨rfl, hb3⟩)
        go_roundw
        case rel => exact ⟨k + 1, by omega, by go_num, by rw [T2.out, A2.out, R.out]; rfl, bel2 HB.out (atm_box hb3) (Nat.le_refl _)⟩
        case measure => simp [intOf]; omega
    · obtain rfl : k = g.length := by omega
      have X := Lib.hid (rgtOne_yes (g := g) (by omega) (by omega) hall)
      clear hall
      go_wp2
      go_ret
      exact ⟨by rw [X.out]; try rfl, hbel⟩
set_option maxHeartbeats 1000000 in
theorem right4_any (A : Option Addr) (n c : Nat) (L : List (List Atm)) (w : World) (h : rdGrps w (lt_ w.heap.size) L [.slice A n c]) (E : EnvR w) :
    Calls Tryz.prog 28 #[.slice A n c] w fun e w' => e = .returned (.bool (rightG L)) ∧ Below w.heap.size w w' := by
  obtain ⟨rfl, hnc, hcm, _⟩ := rdGrps_at h
  have hcm' : c ≤ 9223372036854775807 := hcm
  have HE := Lib.hid E
  have HR := Lib.hid h
  clear E h
  by_cases h12 : L.length ≤ 12
  · have t1 : ¬ (12 : Int) < L.length := by omega
    go_enter Tryz.func28, Tryz.ntmps28
    go_wp2
    go_loopw [4, 10] (fun b i wr => ∃ k : Nat, k ≤ L.length ∧ i = .int .i64 k ∧ (L.take k).all rgtOne = true ∧ Below w.heap.size w wr) (fun _ i _ => L.length - (intOf i).toNat)
    case atStart => exact ⟨0, Nat.zero_le _, rfl, rfl, Below.refl _ _⟩
    case round =>
      obtain ⟨k, hk, rfl, hall, hbel⟩ := hrel
      by_cases hlt : k < L.length
      · obtain ⟨ad, A', c', rfl, had, e0, e1⟩ := (rdGrps_at (rdGrps_good.below HR.out hbel)).2.2.2 k hlt
        have T2 := Lib.hid (all_takeL rgtOne L k hlt)
        have Z2 := Lib.hid (right_stop (L := L) (k := k) hlt)
        have A2 := Lib.hid hall
        have HB := Lib.hid hbel
        have K := Lib.hid (rightGroup_any _ _ _ _ _ (rdAtms_good.up e1 hbel.size) (HE.out.below hbel))
        clear hall hbel e1
        generalize L[k] = g at *
        cases hr : rgtOne g
        · have R := Lib.hid hr
          rw [hr] at K
          clear hr
          go_wp2_with (go_at_call 65; refine (K.out).mono ?_; rintro e w3 ⟨rfl, hb3⟩)
          go_ret
          exact ⟨by rw [Z2.out R.out]; try rfl, bel2 HB.out hb3 (Nat.le_refl _)⟩
        · have R := Lib.hid hr
          rw [hr] at K
          clear hr
          go_wp2_with (go_at_call 65; refine (K.out).mono ?_; rintro e w3 ⟨rfl, hb3⟩)
          go_roundw
          case rel => exact ⟨k + 1, by omega, by go_num, by rw [T2.out, A2.out, R.out]; rfl, bel2 HB.out hb3 (Nat.le_refl _)⟩
          case measure => simp [intOf]; omega
      · obtain rfl : k = L.length := by omega
        have X := Lib.hid (show rightG L = true by rw [right_all hall, decide_eq_true h12])
        clear hall
        go_wp2
        go_ret
        exact ⟨by rw [X.out]; try rfl, hbel⟩
  · have X := Lib.hid (right_no_many (L := L) h12)
    have t1 : (12 : Int) < L.length := by omega
    go_enter Tryz.func28, Tryz.ntmps28
    go_wp2
    go_ret
    exact ⟨by rw [X.out]; try rfl, Below.refl _ _⟩
end Go.Proofs.YtmlakjemgmeffaaGreatDoor
