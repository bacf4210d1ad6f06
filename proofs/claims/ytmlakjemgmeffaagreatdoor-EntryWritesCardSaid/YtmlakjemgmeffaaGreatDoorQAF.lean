/- What the laws of this seat rest on: D4d, D4m. -/
import Derived.Test.YtmlakjemgmeffaaGreatDoorNP
import Derived.Test.YtmlakjemgmeffaaGreatDoorND
import Derived.WalkSpells
import Derived.RegionTactic
import Derived.Test.YtmlakjemgmeffaaGreatDoorNU
import Derived.Test.YtmlakjemgmeffaaGreatDoorRel6Y

section
set_option maxRecDepth 100000
set_option linter.unusedVariables false
set_option linter.unusedSimpArgs false
namespace Go.Proofs.YtmlakjemgmeffaaGreatDoor
open Go.RowKit
theorem q4r_atom (x : Atm) (w : World) (h : x.n.size ≤ 65536) : Calls Tryz.prog 71 #[.agg #[.string x.n, .int .i64 x.o, .string x.v]] w fun e' w' => e' = .returned (.bool (rgt x)) ∧ Below w.heap.size w w' := q3right_any x.n x.o x.v w h
theorem right_no_many {L : List (List Atm)} (h : ¬ L.length ≤ 12) : rightG L = false := by unfold rightG; rw [decide_eq_false h]; rfl
theorem right_stop {L : List (List Atm)} {k : Nat} (hk : k < L.length) (h : rgtOne L[k] = false) : rightG L = false := by unfold rightG; rw [all_stopL hk h]; simp
theorem right_all {L : List (List Atm)} (h : (L.take L.length).all rgtOne = true) : rightG L = decide (L.length ≤ 12) := by rw [List.take_length] at h; unfold rightG; rw [h]; simp
theorem rgtOne_stop {g : List Atm} {k : Nat} (hk : k < g.length) (h : rgt g[k] = false) : rgtOne g = false := by unfold rgtOne; rw [all_stopL hk h]; simp
theorem rgtOne_len {g : List Atm} (h : ¬ (1 ≤ g.length ∧ g.length ≤ 6)) : rgtOne g = false := by
  unfold rgtOne
  rw [Bool.and_eq_false_iff, Bool.and_eq_false_iff, decide_eq_false_iff_not, decide_eq_false_iff_not]; omega
theorem rgtOne_yes {g : List Atm} (h1 : 1 ≤ g.length) (h2 : g.length ≤ 6) (h : (g.take g.length).all rgt = true) : rgtOne g = true := by
  rw [List.take_length] at h; unfold rgtOne; rw [decide_eq_true h1, decide_eq_true h2, h]; rfl
set_option maxHeartbeats 2000000 in
theorem q4right_any (A : Option Addr) (n c : Nat) (L : List (List Atm)) (w : World) (h : rdGrps w (lt_ w.heap.size) L [.slice A n c]) (hz : ∀ g ∈ L, ∀ a ∈ g, a.n.size ≤ 65536) :
    Calls Tryz.prog 34 #[.slice A n c] w fun e w' => e = .returned (.bool (rightG L)) ∧ Below w.heap.size w w' := by
  obtain ⟨rfl, hnc, hcm, _⟩ := rdGrps_at h
  have hcm1 : c ≤ 9223372036854775807 := hcm
  have HZ := Lib.hid hz
  clear hz
  go_enter Tryz.func34, Tryz.ntmps34
  go_wp2
  go_loopw [3, 4, 5] (fun i n v wr => ∃ k : Nat, k ≤ L.length ∧ i = .int .i64 k ∧ (L.take k).all rgtOne = true ∧ Below w.heap.size w wr) (fun i _ _ _ => L.length - (intOf i).toNat)
  case atStart => exact ⟨0, Nat.zero_le _, rfl, rfl, Below.refl _ _⟩
  case round =>
    obtain ⟨k, hk, rfl, htk, hbel⟩ := hrel
    by_cases hlt : k < L.length
    · have T := Lib.hid (all_takeL rgtOne L k hlt)
      have Z := Lib.hid (right_stop (L := L) (k := k) hlt)
      have H := Lib.hid htk
      have HB := Lib.hid hbel
      have hcell := fun W (hW : Below w.heap.size w W) => (rdGrps_at (rdGrps_good.below h hW)).2.2.2 k hlt
      have HC := Lib.hid hcell
      have hzg := HZ.out L[k] (List.getElem_mem hlt)
      obtain ⟨ad, A', c', rfl, had, h0, h1⟩ := hcell wr hbel
      clear htk hcell hbel
      have hc' : c' ≤ 9223372036854775807 := (rdAtms_at h1).2.2.1
      have hgc := (rdAtms_at h1).2.1
      have HC2 := Lib.hid (show ∀ W, Below w.heap.size w W → W.cell? (ad.add k) = some (.slice A' L[k].length c') ∧ rdAtms W (lt_ w.heap.size) L[k] [.slice A' L[k].length c'] from fun W hW => by
        refine ⟨?_, ?_⟩
        · rw [World.cell?_of_block (w := wr) (by rw [blk_add]; rw [hW.block _ had, HB.out.block _ had])]; exact h0
        · exact rdAtms_good.keep h1 fun b hb => by rw [hW.block _ hb, HB.out.block _ hb])
      clear h1 HC h
      generalize L[k] = g at *
      go_wp2
      go_loopw [4, 5] (fun n v wr2 => ∃ q : Nat, q ≤ g.length ∧ n = .int .i64 q ∧ (g.take q).all rgt = true ∧ Below w.heap.size w wr2) (fun n _ _ => g.length - (intOf n).toNat)
      case atStart => exact ⟨0, Nat.zero_le _, rfl, rfl, HB.out⟩
      case round =>
        obtain ⟨q, hq, rfl, hall, hbel2⟩ := hrel
        obtain ⟨g0, g1⟩ := HC2.out _ hbel2
        have H2 := Lib.hid hbel2
        clear h0 hbel2
        by_cases hlt2 : q < g.length
        · obtain ⟨ad2, rfl, had2, e0, e1, e2⟩ := (rdAtms_at g1).2.2.2 q hlt2
          have T2 := Lib.hid (all_takeL rgt g q hlt2)
          have Z2 := Lib.hid (rgtOne_stop (g := g) (k := q) hlt2)
          have A2 := Lib.hid hall
          have hx := hzg g[q] (List.getElem_mem hlt2)
          clear hall g1 hzg
          generalize g[q] = x at *
          have K := Lib.hid (fun W => q4r_atom x W hx)
          clear hx
          cases hr : rgt x
          · have R := Lib.hid hr
            rw [hr] at K
            clear hr
            go_wp2_with (go_at_call 71; refine (K.out _).mono ?_; rintro e w3 ⟨rfl, hb3⟩)
            go_ret
            exact ⟨by rw [Z.out (Z2.out R.out)]; try rfl, bel2 H2.out hb3 (Nat.le_refl _)⟩
          · have R := Lib.hid hr
            rw [hr] at K
            clear hr
            go_wp2_with (go_at_call 71; refine (K.out _).mono ?_; rintro e w3 ⟨rfl, hb3⟩)
            go_roundw
            case rel => exact ⟨q + 1, by omega, by go_num, by rw [T2.out, A2.out, R.out]; rfl, bel2 H2.out hb3 (Nat.le_refl _)⟩
            case measure => simp [intOf]; omega
        · obtain rfl : q = g.length := by omega
          have A2 := Lib.hid hall
          clear hall g1 hzg
          by_cases hl1 : g.length < 1
          · have X := Lib.hid (Z.out (rgtOne_len (g := g) (by omega)))
            have hl1' : (g.length : Int) < 1 := by omega
            go_wp2
            go_ret
            exact ⟨by rw [X.out]; try rfl, H2.out⟩
          · by_cases hl6 : 6 < g.length
            · have X := Lib.hid (Z.out (rgtOne_len (g := g) (by omega)))
              have hl1' : ¬ (g.length : Int) < 1 := by omega
              have hl6' : (6 : Int) < g.length := by omega
              go_wp2
              go_ret
              exact ⟨by rw [X.out]; try rfl, H2.out⟩
            · have X := Lib.hid (show (L.take (k + 1)).all rgtOne = true by rw [T.out, H.out, rgtOne_yes (by omega) (by omega) A2.out]; rfl)
              have hl1' : ¬ (g.length : Int) < 1 := by omega
              have hl6' : ¬ (6 : Int) < g.length := by omega
              go_wp2
              go_roundw
              case rel => exact ⟨k + 1, by omega, by go_num, X.out, H2.out⟩
              case measure => simp [intOf]; omega
    · obtain rfl : k = L.length := by omega
      have X := Lib.hid (right_all htk)
      clear htk h
      by_cases h12 : L.length ≤ 12
      · have hd : decide ((L.length : Int) ≤ 12) = true := by rw [decide_eq_true_eq]; omega
        have X2 := Lib.hid (X.out.trans (decide_eq_true h12))
        go_wp2
        go_ret
        exact ⟨by rw [X2.out]; try rfl, hbel⟩
      · have hd : decide ((L.length : Int) ≤ 12) = false := by rw [decide_eq_false_iff_not]; omega
        have X2 := Lib.hid (X.out.trans (decide_eq_false h12))
        go_wp2
        go_ret
        exact ⟨by rw [X2.out]; try rfl, hbel⟩
end Go.Proofs.YtmlakjemgmeffaaGreatDoor
end

section
set_option maxRecDepth 100000
set_option linter.unusedVariables false
set_option linter.unusedSimpArgs false
namespace Go.Proofs.YtmlakjemgmeffaaGreatDoor
open Go.RowKit
theorem rright_atom (x : Atm) (w : World) (E : EnvR w) : Calls Tryz.prog 30 #[.agg #[.string x.n, .int .i64 x.o, .string x.v]] w fun e' w' => e' = .returned (.bool (rgt x)) ∧ Below w.heap.size w w' := rright_any x.n x.o x.v w E
theorem atm_box {w w1 : World} {T : TypeId} {x y z : Value} (h : Below (w.alloc (.cells #[x, y, z] T)).heap.size (w.alloc (.cells #[x, y, z] T)) w1) : Below w.heap.size w w1 := (((Below.refl _ w).alloc (Nat.le_refl _) _).trans (h.mono (by simp)))
set_option maxHeartbeats 1000000 in
theorem rightGroup_any (A : Option Addr) (n c : Nat) (g : List Atm) (w : World) (h : rdAtms w (lt_ w.heap.size) g [.slice A n c]) (E : EnvR w) :
    Calls Tryz.prog 65 #[.slice A n c] w fun e w' => e = .returned (.bool (rgtOne g)) ∧ Below w.heap.size w w' := by
  obtain ⟨rfl, hnc, hcm, _⟩ := rdAtms_at h
  have hcm' : c ≤ 9223372036854775807 := hcm
  have HE := Lib.hid E
  have HR := Lib.hid h
  clear E h
  by_cases hl0 : g.length = 0
  · have X := Lib.hid (rgtOne_len (g := g) (by omega))
    have t0 : ((g.length : Int) == 0) = true := by rw [beq_iff_eq]; omega
    have HL := Lib.hid hl0
    clear hl0
    go_enter Tryz.func65, Tryz.ntmps65
    go_wp2
    go_ret
    exact ⟨by rw [X.out]; try rfl, Below.refl _ _⟩
  by_cases hl6 : 6 < g.length
  · have X := Lib.hid (rgtOne_len (g := g) (by omega))
    have t0 : ((g.length : Int) == 0) = false := by rw [beq_eq_false_iff_ne]; omega
    have t1 : (6 : Int) < g.length := by omega
    go_enter Tryz.func65, Tryz.ntmps65
    go_wp2
    go_ret
    exact ⟨by rw [X.out]; try rfl, Below.refl _ _⟩
  have t0 : ((g.length : Int) == 0) = false := by rw [beq_eq_false_iff_ne]; omega
  have t1 : ¬ (6 : Int) < g.length := by omega
  go_enter Tryz.func65, Tryz.ntmps65
  go_wp2
  go_loopw [4, 15] (fun b i wr => ∃ k : Nat, k ≤ g.length ∧ i = .int .i64 k ∧ (g.take k).all rgt = true ∧ Below w.heap.size w wr) (fun _ i _ => g.length - (intOf i).toNat)
  case atStart => exact ⟨0, Nat.zero_le _, rfl, rfl, Below.refl _ _⟩
  case round =>
    obtain ⟨k, hk, rfl, hall, hbel⟩ := hrel
    by_cases hlt : k < g.length
    · obtain ⟨ad, rfl, had, e0, e1, e2⟩ := (rdAtms_at (rdAtms_good.below HR.out hbel)).2.2.2 k hlt
      have T2 := Lib.hid (all_takeL rgt g k hlt)
      have Z2 := Lib.hid (rgtOne_stop (g := g) (k := k) hlt)
      have A2 := Lib.hid hall
      have HB := Lib.hid hbel
      have EE := Lib.hid (HE.out.below hbel)
      clear hall hbel
      generalize g[k] = x at *
      have K := Lib.hid (fun w E => rright_atom x w E)
      cases hr : rgt x
      · have R := Lib.hid hr
        rw [hr] at K
        clear hr
        go_wp2_with (go_at_call 30; refine (K.out _ (EE.out.alloc _)).mono ?_; rintro e w3 ⟨rfl, hb3⟩)
        go_ret
        exact ⟨by rw [Z2.out R.out]; try rfl, bel2 HB.out (atm_box hb3) (Nat.le_refl _)⟩
      · have R := Lib.hid hr
        rw [hr] at K
        clear hr
        go_wp2_with (go_at_call 30; refine (K.out _ (EE.out.alloc _)).mono ?_; rintro e w3 ⟨rfl, hb3⟩)
        go_roundw
        case rel => exact ⟨k + 1, by omega, by go_num, by rw [T2.out, A2.out, R.out]; rfl, bel2 HB.out (atm_box hb3) (Nat.le_refl _)⟩
        case measure => simp [intOf]; omega
    · obtain rfl : k = g.length := by omega
      have X := Lib.hid (rgtOne_yes (g := g) (by omega) (by omega) hall)
      clear hall
      go_wp2
      go_ret
      exact ⟨by rw [X.out]; try rfl, hbel⟩
set_option maxHeartbeats 1000000 in
theorem right4_any (A : Option Addr) (n c : Nat) (L : List (List Atm)) (w : World) (h : rdGrps w (lt_ w.heap.size) L [.slice A n c]) (E : EnvR w) :
    Calls Tryz.prog 28 #[.slice A n c] w fun e w' => e = .returned (.bool (rightG L)) ∧ Below w.heap.size w w' := by
  obtain ⟨rfl, hnc, hcm, _⟩ := rdGrps_at h
  have hcm' : c ≤ 9223372036854775807 := hcm
  have HE := Lib.hid E
  have HR := Lib.hid h
  clear E h
  by_cases h12 : L.length ≤ 12
  · have t1 : ¬ (12 : Int) < L.length := by omega
    go_enter Tryz.func28, Tryz.ntmps28
    go_wp2
    go_loopw [4, 10] (fun b i wr => ∃ k : Nat, k ≤ L.length ∧ i = .int .i64 k ∧ (L.take k).all rgtOne = true ∧ Below w.heap.size w wr) (fun _ i _ => L.length - (intOf i).toNat)
    case atStart => exact ⟨0, Nat.zero_le _, rfl, rfl, Below.refl _ _⟩
    case round =>
      obtain ⟨k, hk, rfl, hall, hbel⟩ := hrel
      by_cases hlt : k < L.length
      · obtain ⟨ad, A', c', rfl, had, e0, e1⟩ := (rdGrps_at (rdGrps_good.below HR.out hbel)).2.2.2 k hlt
        have T2 := Lib.hid (all_takeL rgtOne L k hlt)
        have Z2 := Lib.hid (right_stop (L := L) (k := k) hlt)
        have A2 := Lib.hid hall
        have HB := Lib.hid hbel
        have K := Lib.hid (rightGroup_any _ _ _ _ _ (rdAtms_good.up e1 hbel.size) (HE.out.below hbel))
        clear hall hbel e1
        generalize L[k] = g at *
        cases hr : rgtOne g
        · have R := Lib.hid hr
          rw [hr] at K
          clear hr
          go_wp2_with (go_at_call 65; refine (K.out).mono ?_; rintro e w3 ⟨rfl, hb3⟩)
          go_ret
          exact ⟨by rw [Z2.out R.out]; try rfl, bel2 HB.out hb3 (Nat.le_refl _)⟩
        · have R := Lib.hid hr
          rw [hr] at K
          clear hr
          go_wp2_with (go_at_call 65; refine (K.out).mono ?_; rintro e w3 ⟨rfl, hb3⟩)
          go_roundw
          case rel => exact ⟨k + 1, by omega, by go_num, by rw [T2.out, A2.out, R.out]; rfl, bel2 HB.out hb3 (Nat.le_refl _)⟩
          case measure => simp [intOf]; omega
      · obtain rfl : k = L.length := by omega
        have X := Lib.hid (show rightG L = true by rw [right_all hall, decide_eq_true h12])
        clear hall
        go_wp2
        go_ret
        exact ⟨by rw [X.out]; try rfl, hbel⟩
  · have X := Lib.hid (right_no_many (L := L) h12)
    have t1 : (12 : Int) < L.length := by omega
    go_enter Tryz.func28, Tryz.ntmps28
    go_wp2
    go_ret
    exact ⟨by rw [X.out]; try rfl, Below.refl _ _⟩
end Go.Proofs.YtmlakjemgmeffaaGreatDoor
end
