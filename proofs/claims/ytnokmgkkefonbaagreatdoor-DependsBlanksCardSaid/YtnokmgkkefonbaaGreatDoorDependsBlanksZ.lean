/- keelsonlaw4.DependsBlanks: called with any arguments that can be read it returns true, and its arguments read as before. Condition: the library variables that the row lists hold what the program text lays in them, which the card ties to that text. -/
import Derived.Test.YtnokmgkkefonbaaGreatDoorD4vZ
import Derived.Test.YtnokmgkkefonbaaGreatDoorMB
import Derived.Test.YtnokmgkkefonbaaGreatDoorDoorZ
import Derived.WalkKit
import Derived.ProofKit
import Derived.OpenShut
import Derived.SevenTiedAt
import Derived.Outline
set_option maxRecDepth 100000
set_option linter.unusedVariables false
set_option linter.unusedSimpArgs false
namespace Go.Proofs.YtnokmgkkefonbaaGreatDoor.dependsBlanks
open Go.ChangeShapes Go.WideShapes Go.ChangeAt Go.RowKit

theorem tail_blank (q : Nat) (hq : q ≤ 8) : (∀ c ∈ B (({ data := #[32, 32, 32, 32, 32, 32, 32, 32] } : ByteArray).extract 0 q), c = 32) ∧ (({ data := #[32, 32, 32, 32, 32, 32, 32, 32] } : ByteArray).extract 0 q).size ≤ 8 := by
  refine ⟨fun c hc => ?_, ?_⟩
  · rw [B_extract] at hc
    have := List.mem_of_mem_take hc
    simp [B] at this
    omega
  · rw [ByteArray.size_extract]
    have : (({ data := #[32, 32, 32, 32, 32, 32, 32, 32] } : ByteArray)).size = 8 := rfl
    omega
theorem hpfl {k : Nat} {J pf : List Nat} (h0 : k = 0 → J = pf) (h1 : ¬ k = 0 → J ++ [44] = pf) (hJ : J.length ≤ 12 * 127) : pf.length ≤ 1600 := by
  by_cases h : k = 0
  · rw [← h0 h]; omega
  · rw [← h1 h, List.length_append]; simp; omega
set_option maxHeartbeats 8000000 in
theorem walk (A : Option Addr) (n0 c : Nat) (l : List Atm) (n : Int) (w : World) (hr : rdAtms w (lt_ w.heap.size) l [.slice A n0 c]) (_ : ∀ a ∈ l, AtmOk a) (wn : (Lit.int .i64 n).wf = true) (E : EnvR w) :
    Calls Tryz.prog 6 #[.slice A n0 c, .int .i64 n] w fun e w' => e = .returned (.bool true) ∧ Below w.heap.size w w' := by
  obtain ⟨rfl, hnc, hcm, _⟩ := rdAtms_at hr
  have hcm' : c ≤ 9223372036854775807 := hcm
  have HE := Lib.hid E
  have HA := Lib.hid hr
  have S := Lib.hid (fun w E => shown4_any w E)
  have KL := Lib.hid (fun w h => light_any A l.length c l w h)
  clear E hr
  cases hlm : lightB l
  · rw [hlm] at KL
    clear hlm
    go_enter Tryz.func6, Tryz.ntmps6
    have B0 := Lib.hid (Below.refl w.heap.size w)
    go_wp2_with fail
    refine (S.out _ (HE.out.below B0.out)).mono ?_
    rintro e' w1 ⟨rfl, hb⟩
    have C1 := Lib.hid (bel2 B0.out hb (Nat.le_refl _))
    clear hb
    go_wp2_with fail
    refine (KL.out _ (rdAtms_good.up (rdAtms_good.below HA.out C1.out) C1.out.size)).mono ?_
    rintro e' w' ⟨rfl, rfl⟩
    go_wp2
    go_ret
    exact ⟨rfl, C1.out⟩
  have HLS := Lib.hid (show ∀ a ∈ l, a.n.size ≤ 100 from fun a ha => ((light_size hlm).2 a ha).1)
  rw [hlm] at KL
  clear hlm
  by_cases h12 : (12 : Int) < l.length
  · have S := S
    go_enter Tryz.func6, Tryz.ntmps6
    have B0 := Lib.hid (Below.refl w.heap.size w)
    go_wp2_with fail
    refine (S.out _ (HE.out.below B0.out)).mono ?_
    rintro e' w1 ⟨rfl, hb⟩
    have C1 := Lib.hid (bel2 B0.out hb (Nat.le_refl _))
    clear hb
    go_wp2_with fail
    refine (KL.out _ (rdAtms_good.up (rdAtms_good.below HA.out C1.out) C1.out.size)).mono ?_
    rintro e' w' ⟨rfl, rfl⟩
    go_wp2
    go_ret
    exact ⟨rfl, C1.out⟩
  by_cases h00 : l.length = 0
  · have h0 : ((l.length : Int) == 0) = true := by rw [beq_iff_eq]; omega
    clear h00
    go_enter Tryz.func6, Tryz.ntmps6
    have B0 := Lib.hid (Below.refl w.heap.size w)
    go_wp2_with fail
    refine (S.out _ (HE.out.below B0.out)).mono ?_
    rintro e' w1 ⟨rfl, hb⟩
    have C1 := Lib.hid (bel2 B0.out hb (Nat.le_refl _))
    clear hb
    go_wp2_with fail
    refine (KL.out _ (rdAtms_good.up (rdAtms_good.below HA.out C1.out) C1.out.size)).mono ?_
    rintro e' w' ⟨rfl, rfl⟩
    go_wp2
    go_ret
    exact ⟨rfl, C1.out⟩
  have h0 : ((l.length : Int) == 0) = false := by rw [beq_eq_false_iff_ne]; omega
  have hn1 : -9223372036854775808 ≤ n ∧ n ≤ 9223372036854775807 := by
    unfold Lit.wf at wn
    rw [Bool.and_eq_true, decide_eq_true_eq, decide_eq_true_eq] at wn
    exact ⟨wn.1, wn.2⟩
  by_cases hneg : n < 0
  · obtain ⟨q, hq8, hqe⟩ : ∃ q : Nat, q ≤ 8 ∧ -((n + 1).tmod 9) = (q : Int) := by
      have h1 : -((n + 1).tmod 9) = (-(n + 1)) % 9 := by rw [← Int.neg_tmod, Int.tmod_eq_emod_of_nonneg (by omega)]
      exact ⟨((-(n + 1)) % 9).toNat, by omega, by rw [h1]; omega⟩
    obtain ⟨hb32, hb8⟩ := tail_blank q hq8
    obtain ⟨bs, hbs⟩ : ∃ bs, ({ data := #[32, 32, 32, 32, 32, 32, 32, 32] } : ByteArray).extract 0 q = bs := ⟨_, rfl⟩
    rw [hbs] at hb32 hb8
    have hq8' : (q : Int) ≤ 8 := by omega
    go_enter Tryz.func6, Tryz.ntmps6
    have B0 := Lib.hid (Below.refl w.heap.size w)
    go_wp2_with fail
    refine (S.out _ (HE.out.below B0.out)).mono ?_
    rintro e' w1 ⟨rfl, hb⟩
    have C1 := Lib.hid (bel2 B0.out hb (Nat.le_refl _))
    clear hb
    go_wp2_with fail
    refine (KL.out _ (rdAtms_good.up (rdAtms_good.below HA.out C1.out) C1.out.size)).mono ?_
    rintro e' w' ⟨rfl, rfl⟩
    go_wp2
    go_loopw [8, 9, 10] (fun sv i rv wr => ∃ k : Nat, k ≤ l.length ∧ i = .int .i64 k ∧ (l.take k).all rgt = true ∧ sv = .string (mk (joinL [44] ((l.take k).map (blk1 (B bs))))) ∧ Below w.heap.size w wr) (fun _ i _ _ => l.length - (intOf i).toNat)
    case atStart => exact ⟨0, Nat.zero_le _, rfl, rfl, rfl, C1.out⟩
    case round =>
      obtain ⟨k, hk, rfl, hall, rfl, hbel⟩ := hrel
      by_cases hlt : k < l.length
      · obtain ⟨ad, rfl, had, m0, m1, m2⟩ := (rdAtms_at (rdAtms_good.below HA.out hbel)).2.2.2 k hlt
        have TK := Lib.hid (all_takeL rgt l k hlt)
        have TJ := Lib.hid (joinL_take [44] (blk1 (B bs)) l k hlt)
        have AK := Lib.hid hall
        have HB := Lib.hid hbel
        have hsx := (HLS.out l[k] (List.getElem_mem hlt))
        have K := Lib.hid (fun w => q3right_atom l[k] w (by omega))
        have KP := Lib.hid (fun w (h : rgt l[k] = true) => q3print_atom l[k] w h)
        have HTX := Lib.hid (fun (h : rgt l[k] = true) => txt_len h)
        have HJ := Lib.hid (show (l.take k).all rgt = true → (joinL [44] ((l.take k).map (blk1 (B bs)))).length ≤ 12 * 127 from fun h => by
          have h1 := joinL_len (sep := [44]) (l := (l.take k).map (blk1 (B bs))) (M := 126) (fun t ht => by
            obtain ⟨a, ha, rfl⟩ := List.mem_map.1 ht
            have := txt_len (List.all_eq_true.1 h a ha)
            unfold blk1
            rw [List.length_append, List.length_append, B_len]
            omega)
          refine Nat.le_trans h1 ?_
          rw [List.length_map, List.length_take]
          exact Nat.mul_le_mul (by omega) (by decide))
        have hJ := HJ.out hall
        have E0 := Lib.hid (show k = 0 → joinL [44] ((l.take k).map (blk1 (B bs))) = pfx [44] k ((l.take k).map (blk1 (B bs))) from fun h => by subst h; rfl)
        have E1 := Lib.hid (show ¬ k = 0 → joinL [44] ((l.take k).map (blk1 (B bs))) ++ [44] = pfx [44] k ((l.take k).map (blk1 (B bs))) from fun h => by unfold pfx; rw [if_neg h])
        clear hall hbel HJ
        generalize l[k] = x at *
        generalize joinL [44] ((l.take k).map (blk1 (B bs))) = J at *
        generalize pfx [44] k ((l.take k).map (blk1 (B bs))) = pf at *
        cases hrx : rgt x
        · rw [hrx] at K
          clear hrx
          go_wp2_with fail
          refine (K.out _).mono ?_
          rintro e w3 ⟨rfl, hb3⟩
          have HB3 := Lib.hid (bel2 HB.out hb3 (Nat.le_refl _))
          clear hb3
          go_wp2
          go_ret
          exact ⟨rfl, HB3.out⟩
        · have hlx := HTX.out hrx
          have KQ := Lib.hid (fun w => KP.out w hrx)
          have TR := Lib.hid (show (l.take (k + 1)).all rgt = true by rw [TK.out, AK.out, hrx]; rfl)
          rw [hrx] at K
          clear hrx KP HTX TK AK
          have hbl : B bs = B bs := rfl
          have hbz : (B bs).length ≤ 8 := by rw [B_len]; exact hb8
          have eJ := add_mk J { data := #[44] } [44] rfl (by omega) (by decide)
          have e1 := add_mk pf bs (B bs) (mk_B bs).symm (by have := hpfl E0.out E1.out hJ; omega) (by omega)
          have e2 := add_mk (pf ++ B bs) (mk (txt x)) (txt x) rfl (by have := hpfl E0.out E1.out hJ; rw [List.length_append]; omega) (by omega)
          have e3 := add_mk ((pf ++ B bs) ++ txt x) bs (B bs) (mk_B bs).symm (by have := hpfl E0.out E1.out hJ; rw [List.length_append, List.length_append]; omega) (by omega)
          have Y := Lib.hid (show ((pf ++ B bs) ++ txt x) ++ B bs = joinL [44] ((l.take (k + 1)).map (blk1 (B bs))) by rw [TJ.out]; unfold blk1; simp)
          generalize ((pf ++ B bs) ++ txt x) ++ B bs = R3 at *
          generalize (pf ++ B bs) ++ txt x = R2 at *
          generalize pf ++ B bs = R1 at *
          generalize mk (txt x) = sx at *
          clear hlx hbl hbz TJ
          by_cases k0 : k = 0
          · have EE := Lib.hid (E0.out k0)
            have hk0 : ¬ (0 : Int) < k := by omega
            clear eJ k0
            obtain rfl : J = pf := EE.out
            go_wp2_with fail
            refine (K.out _).mono ?_
            rintro e w3 ⟨rfl, hb3⟩
            have HB3 := Lib.hid (bel2 HB.out hb3 (Nat.le_refl _))
            have q0 := (hb3.cell (World.block_lt_of_cell? _ _ m0)).trans m0
            have q1 := (hb3.cell (World.block_lt_of_cell? _ _ m1)).trans m1
            have q2 := (hb3.cell (World.block_lt_of_cell? _ _ m2)).trans m2
            clear hb3 m0 m1 m2
            go_wp2_with fail
            refine (KQ.out _).mono ?_
            rintro e w4 ⟨rfl, hb4⟩
            have HB4 := Lib.hid (bel2 HB3.out hb4 (Nat.le_refl _))
            clear hb4
            go_wp2
            go_roundw
            case rel => exact ⟨k + 1, by omega, by go_num, TR.out, by rw [← Y.out], HB4.out⟩
            case measure => simp [intOf]; omega
          · have EE := Lib.hid (E1.out k0)
            have hk0 : (0 : Int) < k := by omega
            have hk0n : 0 < k := by omega
            clear k0
            rw [EE.out] at eJ
            go_wp2_with fail
            refine (K.out _).mono ?_
            rintro e w3 ⟨rfl, hb3⟩
            have HB3 := Lib.hid (bel2 HB.out hb3 (Nat.le_refl _))
            have q0 := (hb3.cell (World.block_lt_of_cell? _ _ m0)).trans m0
            have q1 := (hb3.cell (World.block_lt_of_cell? _ _ m1)).trans m1
            have q2 := (hb3.cell (World.block_lt_of_cell? _ _ m2)).trans m2
            clear hb3 m0 m1 m2
            go_wp2_with fail
            refine (KQ.out _).mono ?_
            rintro e w4 ⟨rfl, hb4⟩
            have HB4 := Lib.hid (bel2 HB3.out hb4 (Nat.le_refl _))
            clear hb4
            go_wp2
            go_roundw
            case rel => exact ⟨k + 1, by omega, by go_num, TR.out, by rw [← Y.out], HB4.out⟩
            case measure => simp [intOf]; omega
      · obtain rfl : k = l.length := by omega
        rw [List.take_length] at hall
        obtain ⟨hE, hL⟩ := blanks_ok (bl := B bs) (by intro h; rw [h] at h0; simp at h0) (by omega) (List.all_eq_true.1 hall) hb32
        have hzs : (joinL [44] (l.map (blk1 (B bs)))).length ≤ 65536 := by
          have h1 := joinL_len (sep := [44]) (l := l.map (blk1 (B bs))) (M := 126) (fun t ht => by
            obtain ⟨a, ha, rfl⟩ := List.mem_map.1 ht
            have := txt_len (List.all_eq_true.1 hall a ha)
            unfold blk1
            rw [List.length_append, List.length_append, B_len]
            omega)
          rw [List.length_map] at h1
          have h2 : l.length * (126 + [44].length) ≤ 12 * 127 := Nat.mul_le_mul (by omega) (by decide)
          omega
        have hBm : B (mk (joinL [44] (l.map (blk1 (B bs))))) = joinL [44] (l.map (blk1 (B bs))) := B_mk (joinL_lt (by decide) (fun t ht => by
          obtain ⟨a, ha, rfl⟩ := List.mem_map.1 ht
          intro c hc
          unfold blk1 at hc
          simp only [List.mem_append] at hc
          rcases hc with hc | hc | hc
          · exact B_lt bs c hc
          · exact txt_lt a (List.all_eq_true.1 hall a ha) c hc
          · exact B_lt bs c hc))
        have P := Lib.hid (fun w E => atoms4_is (s := mk (joinL [44] (l.map (blk1 (B bs))))) (e := 0) (L := l) (by rw [hBm]; exact hE) (by rw [hBm]; exact hL) (by rw [size_mk]; exact hzs) w E)
        have HB := Lib.hid hbel
        rw [List.take_length]
        clear hE hL hzs hBm hall hbel
        generalize mk (joinL [44] (l.map (blk1 (B bs)))) = ss at *
        go_wp2_with fail
        refine (P.out _ (HE.out.below HB.out)).mono ?_
        rintro e w3 ⟨⟨A3, c3, rfl, hr3⟩, hb3⟩
        have HB3 := Lib.hid (bel2 HB.out hb3 (Nat.le_refl _))
        have KS := Lib.hid (sameAtoms_self _ _ _ _ _ _ hr3 (rdAtms_good.up (rdAtms_good.below HA.out HB3.out) HB3.out.size))
        clear hb3 hr3
        go_wp2_with fail
        refine KS.out.mono ?_
        rintro e w4 ⟨rfl, hdr⟩
        have HB4 := Lib.hid (bel2 HB3.out (hdr.below _) (Nat.le_refl _))
        clear hdr
        go_wp2
        go_ret
        exact ⟨rfl, HB4.out⟩
  · obtain ⟨q, hq8, hqe⟩ : ∃ q : Nat, q ≤ 8 ∧ n.tmod 9 = (q : Int) := by
      have h1 : n.tmod 9 = n % 9 := Int.tmod_eq_emod_of_nonneg (by omega)
      exact ⟨(n % 9).toNat, by omega, by rw [h1]; omega⟩
    obtain ⟨hb32, hb8⟩ := tail_blank q hq8
    obtain ⟨bs, hbs⟩ : ∃ bs, ({ data := #[32, 32, 32, 32, 32, 32, 32, 32] } : ByteArray).extract 0 q = bs := ⟨_, rfl⟩
    rw [hbs] at hb32 hb8
    have hq8' : (q : Int) ≤ 8 := by omega
    go_enter Tryz.func6, Tryz.ntmps6
    have B0 := Lib.hid (Below.refl w.heap.size w)
    go_wp2_with fail
    refine (S.out _ (HE.out.below B0.out)).mono ?_
    rintro e' w1 ⟨rfl, hb⟩
    have C1 := Lib.hid (bel2 B0.out hb (Nat.le_refl _))
    clear hb
    go_wp2_with fail
    refine (KL.out _ (rdAtms_good.up (rdAtms_good.below HA.out C1.out) C1.out.size)).mono ?_
    rintro e' w' ⟨rfl, rfl⟩
    go_wp2
    go_loopw [8, 9, 10] (fun sv i rv wr => ∃ k : Nat, k ≤ l.length ∧ i = .int .i64 k ∧ (l.take k).all rgt = true ∧ sv = .string (mk (joinL [44] ((l.take k).map (blk1 (B bs))))) ∧ Below w.heap.size w wr) (fun _ i _ _ => l.length - (intOf i).toNat)
    case atStart => exact ⟨0, Nat.zero_le _, rfl, rfl, rfl, C1.out⟩
    case round =>
      obtain ⟨k, hk, rfl, hall, rfl, hbel⟩ := hrel
      by_cases hlt : k < l.length
      · obtain ⟨ad, rfl, had, m0, m1, m2⟩ := (rdAtms_at (rdAtms_good.below HA.out hbel)).2.2.2 k hlt
        have TK := Lib.hid (all_takeL rgt l k hlt)
        have TJ := Lib.hid (joinL_take [44] (blk1 (B bs)) l k hlt)
        have AK := Lib.hid hall
        have HB := Lib.hid hbel
        have hsx := (HLS.out l[k] (List.getElem_mem hlt))
        have K := Lib.hid (fun w => q3right_atom l[k] w (by omega))
        have KP := Lib.hid (fun w (h : rgt l[k] = true) => q3print_atom l[k] w h)
        have HTX := Lib.hid (fun (h : rgt l[k] = true) => txt_len h)
        have HJ := Lib.hid (show (l.take k).all rgt = true → (joinL [44] ((l.take k).map (blk1 (B bs)))).length ≤ 12 * 127 from fun h => by
          have h1 := joinL_len (sep := [44]) (l := (l.take k).map (blk1 (B bs))) (M := 126) (fun t ht => by
            obtain ⟨a, ha, rfl⟩ := List.mem_map.1 ht
            have := txt_len (List.all_eq_true.1 h a ha)
            unfold blk1
            rw [List.length_append, List.length_append, B_len]
            omega)
          refine Nat.le_trans h1 ?_
          rw [List.length_map, List.length_take]
          exact Nat.mul_le_mul (by omega) (by decide))
        have hJ := HJ.out hall
        have E0 := Lib.hid (show k = 0 → joinL [44] ((l.take k).map (blk1 (B bs))) = pfx [44] k ((l.take k).map (blk1 (B bs))) from fun h => by subst h; rfl)
        have E1 := Lib.hid (show ¬ k = 0 → joinL [44] ((l.take k).map (blk1 (B bs))) ++ [44] = pfx [44] k ((l.take k).map (blk1 (B bs))) from fun h => by unfold pfx; rw [if_neg h])
        clear hall hbel HJ
        generalize l[k] = x at *
        generalize joinL [44] ((l.take k).map (blk1 (B bs))) = J at *
        generalize pfx [44] k ((l.take k).map (blk1 (B bs))) = pf at *
        cases hrx : rgt x
        · rw [hrx] at K
          clear hrx
          go_wp2_with fail
          refine (K.out _).mono ?_
          rintro e w3 ⟨rfl, hb3⟩
          have HB3 := Lib.hid (bel2 HB.out hb3 (Nat.le_refl _))
          clear hb3
          go_wp2
          go_ret
          exact ⟨rfl, HB3.out⟩
        · have hlx := HTX.out hrx
          have KQ := Lib.hid (fun w => KP.out w hrx)
          have TR := Lib.hid (show (l.take (k + 1)).all rgt = true by rw [TK.out, AK.out, hrx]; rfl)
          rw [hrx] at K
          clear hrx KP HTX TK AK
          have hbl : B bs = B bs := rfl
          have hbz : (B bs).length ≤ 8 := by rw [B_len]; exact hb8
          have eJ := add_mk J { data := #[44] } [44] rfl (by omega) (by decide)
          have e1 := add_mk pf bs (B bs) (mk_B bs).symm (by have := hpfl E0.out E1.out hJ; omega) (by omega)
          have e2 := add_mk (pf ++ B bs) (mk (txt x)) (txt x) rfl (by have := hpfl E0.out E1.out hJ; rw [List.length_append]; omega) (by omega)
          have e3 := add_mk ((pf ++ B bs) ++ txt x) bs (B bs) (mk_B bs).symm (by have := hpfl E0.out E1.out hJ; rw [List.length_append, List.length_append]; omega) (by omega)
          have Y := Lib.hid (show ((pf ++ B bs) ++ txt x) ++ B bs = joinL [44] ((l.take (k + 1)).map (blk1 (B bs))) by rw [TJ.out]; unfold blk1; simp)
          generalize ((pf ++ B bs) ++ txt x) ++ B bs = R3 at *
          generalize (pf ++ B bs) ++ txt x = R2 at *
          generalize pf ++ B bs = R1 at *
          generalize mk (txt x) = sx at *
          clear hlx hbl hbz TJ
          by_cases k0 : k = 0
          · have EE := Lib.hid (E0.out k0)
            have hk0 : ¬ (0 : Int) < k := by omega
            clear eJ k0
            obtain rfl : J = pf := EE.out
            go_wp2_with fail
            refine (K.out _).mono ?_
            rintro e w3 ⟨rfl, hb3⟩
            have HB3 := Lib.hid (bel2 HB.out hb3 (Nat.le_refl _))
            have q0 := (hb3.cell (World.block_lt_of_cell? _ _ m0)).trans m0
            have q1 := (hb3.cell (World.block_lt_of_cell? _ _ m1)).trans m1
            have q2 := (hb3.cell (World.block_lt_of_cell? _ _ m2)).trans m2
            clear hb3 m0 m1 m2
            go_wp2_with fail
            refine (KQ.out _).mono ?_
            rintro e w4 ⟨rfl, hb4⟩
            have HB4 := Lib.hid (bel2 HB3.out hb4 (Nat.le_refl _))
            clear hb4
            go_wp2
            go_roundw
            case rel => exact ⟨k + 1, by omega, by go_num, TR.out, by rw [← Y.out], HB4.out⟩
            case measure => simp [intOf]; omega
          · have EE := Lib.hid (E1.out k0)
            have hk0 : (0 : Int) < k := by omega
            have hk0n : 0 < k := by omega
            clear k0
            rw [EE.out] at eJ
            go_wp2_with fail
            refine (K.out _).mono ?_
            rintro e w3 ⟨rfl, hb3⟩
            have HB3 := Lib.hid (bel2 HB.out hb3 (Nat.le_refl _))
            have q0 := (hb3.cell (World.block_lt_of_cell? _ _ m0)).trans m0
            have q1 := (hb3.cell (World.block_lt_of_cell? _ _ m1)).trans m1
            have q2 := (hb3.cell (World.block_lt_of_cell? _ _ m2)).trans m2
            clear hb3 m0 m1 m2
            go_wp2_with fail
            refine (KQ.out _).mono ?_
            rintro e w4 ⟨rfl, hb4⟩
            have HB4 := Lib.hid (bel2 HB3.out hb4 (Nat.le_refl _))
            clear hb4
            go_wp2
            go_roundw
            case rel => exact ⟨k + 1, by omega, by go_num, TR.out, by rw [← Y.out], HB4.out⟩
            case measure => simp [intOf]; omega
      · obtain rfl : k = l.length := by omega
        rw [List.take_length] at hall
        obtain ⟨hE, hL⟩ := blanks_ok (bl := B bs) (by intro h; rw [h] at h0; simp at h0) (by omega) (List.all_eq_true.1 hall) hb32
        have hzs : (joinL [44] (l.map (blk1 (B bs)))).length ≤ 65536 := by
          have h1 := joinL_len (sep := [44]) (l := l.map (blk1 (B bs))) (M := 126) (fun t ht => by
            obtain ⟨a, ha, rfl⟩ := List.mem_map.1 ht
            have := txt_len (List.all_eq_true.1 hall a ha)
            unfold blk1
            rw [List.length_append, List.length_append, B_len]
            omega)
          rw [List.length_map] at h1
          have h2 : l.length * (126 + [44].length) ≤ 12 * 127 := Nat.mul_le_mul (by omega) (by decide)
          omega
        have hBm : B (mk (joinL [44] (l.map (blk1 (B bs))))) = joinL [44] (l.map (blk1 (B bs))) := B_mk (joinL_lt (by decide) (fun t ht => by
          obtain ⟨a, ha, rfl⟩ := List.mem_map.1 ht
          intro c hc
          unfold blk1 at hc
          simp only [List.mem_append] at hc
          rcases hc with hc | hc | hc
          · exact B_lt bs c hc
          · exact txt_lt a (List.all_eq_true.1 hall a ha) c hc
          · exact B_lt bs c hc))
        have P := Lib.hid (fun w E => atoms4_is (s := mk (joinL [44] (l.map (blk1 (B bs))))) (e := 0) (L := l) (by rw [hBm]; exact hE) (by rw [hBm]; exact hL) (by rw [size_mk]; exact hzs) w E)
        have HB := Lib.hid hbel
        rw [List.take_length]
        clear hE hL hzs hBm hall hbel
        generalize mk (joinL [44] (l.map (blk1 (B bs)))) = ss at *
        go_wp2_with fail
        refine (P.out _ (HE.out.below HB.out)).mono ?_
        rintro e w3 ⟨⟨A3, c3, rfl, hr3⟩, hb3⟩
        have HB3 := Lib.hid (bel2 HB.out hb3 (Nat.le_refl _))
        have KS := Lib.hid (sameAtoms_self _ _ _ _ _ _ hr3 (rdAtms_good.up (rdAtms_good.below HA.out HB3.out) HB3.out.size))
        clear hb3 hr3
        go_wp2_with fail
        refine KS.out.mono ?_
        rintro e w4 ⟨rfl, hdr⟩
        have HB4 := Lib.hid (bel2 HB3.out (hdr.below _) (Nat.le_refl _))
        clear hdr
        go_wp2
        go_ret
        exact ⟨rfl, HB4.out⟩

theorem contract (H : Type) (enc : TypeId × Value → H) (W : World) (base : Nat) (args : Array Value) (ds gs : List (DataW H)) (before : List MemPlace)
    (hval : ∀ (j : Nat) t v, Tryz.f6.params[j]? = some t → args[j]? = some v → Value.okWide Tryz.prog W .any base t v)
    (hW : DataW.Whole enc Tryz.prog Tryz.f6.params.toList Rows.dependsBlanksSpec.vars false W args.toList ds gs before) (E : EnvR W) :
    Calls Tryz.prog 6 args W fun e W' => ∃ v, e = .returned v ∧ Rows.dependsBlanksSpec.post enc Tryz.prog Tryz.f6 false true false false W args v W' := by
  have hW' := hW
  obtain ⟨p, q, hA0, _, _, _, _⟩ := hW
  have hA : DataW.TrodAll enc Tryz.prog W 0 (fun _ => true) true Tryz.f6.params.toList args.toList ds p := hA0
  rw [Tryz.params6] at hA hval
  obtain ⟨v0, vs0, d0, ds0, p0, q0, hargs, rfl, rfl, h0, r0⟩ := trodAll_cons hA
  obtain ⟨v1, vs1, d1, ds1, p1, q1, rfl, rfl, rfl, h1, r1⟩ := trodAll_cons r0
  obtain ⟨rfl, rfl, rfl⟩ := trodAll_nil r1
  obtain rfl : args = #[v0, v1] := by cases args; simp_all
  obtain ⟨A0, n0, c0, L0, rfl, hr0, hk0⟩ := open_atoms_arg (hval 0 27 v0 rfl rfl) h0
  obtain ⟨a1, rfl, _, _, w1⟩ := open_int Tryz.underlying3 (hval 1 3 v1 rfl rfl) h1
  refine (walk A0 n0 c0 L0 a1 W hr0 hk0 w1 E).mono fun e W' ⟨he, hb⟩ => ?_
  subst he
  refine ⟨_, rfl, law_post hW' rfl rfl rfl rfl rfl Tryz.underlying4 laid_out ?_ hb⟩
  rw [Tryz.params6]
  intro t ht
  simp at ht
  rcases ht with rfl | rfl <;> exact ⟨by kernel_rfl, of_decide_eq_true (by kernel_rfl)⟩

theorem reads (os : Os) {H : Type} (enc : TypeId × Value → H) : ∃ x, DataW.whole enc Tryz.prog ((World.laidAll Tryz.prog os laidL).forCall (fun _ _ => 0) ⟨#[], #[.slice none 0 0, .int .i64 0], []⟩).memory Tryz.f6.params.toList Rows.dependsBlanksSpec.vars false ((#[.slice none 0 0, .int .i64 0] : Array Value)).toList 8 = some x :=
  Option.isSome_iff_exists.1 (by kernel_rfl)
theorem readsSized (os : Os) {H : Type} (enc : TypeId × Value → H) : (OpenSpec.ofChange Rows.dependsBlanksSpec).bare.sizedB enc Tryz.prog Tryz.f6 false ((World.laidAll Tryz.prog os laidL).forCall (fun _ _ => 0) ⟨#[], #[.slice none 0 0, .int .i64 0], []⟩).memory #[.slice none 0 0, .int .i64 0] 8 = true := by kernel_rfl
theorem okWit (os : Os) : Input.okWideB Tryz.prog ((World.laidAll Tryz.prog os laidL).forCall (fun _ _ => 0) ⟨#[], #[.slice none 0 0, .int .i64 0], []⟩) 6 ⟨#[], #[.slice none 0 0, .int .i64 0], []⟩ = true := by kernel_rfl
theorem lifted (os : Os) (started : os.Started) (H : Type) (enc : TypeId × Value → H) (F : Stop.Interp) :
    ReturnsInHanded {} Tryz.checked os 6 .any ((OpenSpec.ofChange Rows.dependsBlanksSpec).preRow enc Tryz.prog Tryz.f6 Rows.dependsBlanksRow.domain false Rows.dependsBlanksRow.laid) (((OpenSpec.ofChange Rows.dependsBlanksSpec).at F).post enc Tryz.prog Tryz.f6 false true false false) := by
  obtain ⟨x, hx⟩ := reads os enc
  have hz := readsSized os enc
  refine returnsInHanded_of_row (C := Tryz.checked) (s := OpenSpec.ofChange Rows.dependsBlanksSpec) own' started (by kernel_rfl) Tryz.func6
    ⟨World.laidAll Tryz.prog os laidL, fun _ _ => 0, ⟨#[], #[.slice none 0 0, .int .i64 0], []⟩, door_os os, door_shaped os _, (Input.okWide_of_okWideB (base := 0) (okWit os)).1, (Input.okWide_of_okWideB (okWit os)).2,
      OpenSpec.preRow_of_cond 8 hx rfl (fun k hk => by cases hk) hz (door_met os _), by
        simp only [Assume.holds]
        exact ⟨by simp, by simp, fun _ => Modest.zero, by simp, by simp⟩⟩ ?_
  intro W base args ds gs before hval hW _ _ _ hL hsh _
  exact contract H enc W base args ds gs before hval hW (env_of hL hsh)

theorem said : Rows.DependsBlanksSaid :=
  OpenClaim.holds_of_cond 6 Tryz.f6 rfl rfl rfl rfl rfl rfl rfl ⟨rfl, rfl, rfl, rfl, rfl⟩ rfl rfl rfl rfl rfl (by kernel_rfl) Tryz.func6 (by kernel_rfl)
    (of_decide_eq_true (by kernel_rfl)) (by unfold Func.isWrapper; first | (rw [if_pos (by decide +kernel)]; kernel_rfl) | (rw [if_neg (by decide +kernel)]; exact ⟨rfl, rfl⟩))
    (fun os started H enc _ F => by rw [OpenClaim.pre_eq_preRow]; exact lifted os started H enc F)

theorem proved : Rows.DependsBlanksCardSaid :=
  Claim7.holds_tied_plain_at .later [] _ _ _ _ said (fun _ h => by cases h) (by kernel_rfl) (fun _ h => by cases h) dependsBlanks_row_tie rfl ⟨rfl, rfl⟩ (by kernel_rfl) rfl
    (fun f fn hf hfn => by
      obtain rfl : f = 6 := Option.some.inj ((show Tryz.prog.funcNamed "keelson/keelsonlaw4.DependsBlanks" = some 6 by kernel_rfl).symm.trans hf) |>.symm
      obtain rfl : fn = Tryz.f6 := (Option.some.inj (Tryz.func6.symm.trans hfn)).symm
      exact ⟨by kernel_rfl, fun j t ht => by
        rw [Tryz.params6] at ht
        have hm : t ∈ [27, 3] := by have := Array.mem_of_getElem? ht; simp at this; simp [this]
        have hall : ([27, 3].all fun u => !Tryz.prog.wantsStandIn u) = true := by kernel_rfl
        exact (show Tryz.prog.wantsStandIn t = false by simpa using List.all_eq_true.1 hall t hm)⟩)
    (by kernel_rfl)
#print axioms proved
end Go.Proofs.YtnokmgkkefonbaaGreatDoor.dependsBlanks
