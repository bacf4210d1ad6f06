/- keelsonlaw4.DependsJoins: called with any arguments that can be read it returns true, and its arguments read as before. Condition: the library variables that the row lists hold what the program text lays in them, which the card ties to that text. -/
import Derived.Test.YtnokmgkkefonbaaGreatDoorMW
import Derived.Test.YtnokmgkkefonbaaGreatDoorMB
import Derived.Test.YtnokmgkkefonbaaGreatDoorDoorZ
import Derived.WalkKit
import Derived.ProofKit
import Derived.OpenShut
import Derived.SevenTiedAt
import Derived.Outline
set_option maxRecDepth 100000
set_option linter.unusedVariables false
set_option linter.unusedSimpArgs false
namespace Go.Proofs.YtnokmgkkefonbaaGreatDoor.dependsJoins
open Go.ChangeShapes Go.WideShapes Go.ChangeAt Go.RowKit

set_option maxHeartbeats 8000000 in
theorem walk (A : Option Addr) (n0 c : Nat) (l : List Atm) (w : World) (hr : rdAtms w (lt_ w.heap.size) l [.slice A n0 c]) (_ : ∀ a ∈ l, AtmOk a) (E : EnvR w) :
    Calls Tryz.prog 8 #[.slice A n0 c] w fun e w' => e = .returned (.bool true) ∧ Below w.heap.size w w' := by
  obtain ⟨i0, hi, hz0, hz1, hz2⟩ := info_parts grp_info
  obtain ⟨i1, hj, hy0, hy1, hy2⟩ := info_parts atm_info
  obtain ⟨rfl, hnc, hcm, _⟩ := rdAtms_at hr
  have hcm' : c ≤ 9223372036854775807 := hcm
  have HE := Lib.hid E
  have HA := Lib.hid hr
  have S := Lib.hid (fun w E => shown4_any w E)
  have KL := Lib.hid (fun w h => light_any A l.length c l w h)
  clear E hr
  cases hlm : lightB l
  · rw [hlm] at KL
    clear hlm
    go_enter Tryz.func8, Tryz.ntmps8
    have B0 := Lib.hid (Below.refl w.heap.size w)
    go_wp2_with fail
    refine (S.out _ (HE.out.below B0.out)).mono ?_
    rintro e' w1 ⟨rfl, hb⟩
    have C1 := Lib.hid (bel2 B0.out hb (Nat.le_refl _))
    clear hb
    go_wp2_with fail
    refine (KL.out _ (rdAtms_good.up (rdAtms_good.below HA.out C1.out) C1.out.size)).mono ?_
    rintro e' w' ⟨rfl, rfl⟩
    go_wp2
    go_ret
    exact ⟨rfl, C1.out⟩
  have HLS := Lib.hid (show ∀ a ∈ l, a.n.size ≤ 100 from fun a ha => ((light_size hlm).2 a ha).1)
  rw [hlm] at KL
  clear hlm
  go_enter Tryz.func8, Tryz.ntmps8
  have B0 := Lib.hid (Below.refl w.heap.size w)
  go_wp2_with fail
  refine (S.out _ (HE.out.below B0.out)).mono ?_
  rintro e' w1 ⟨rfl, hb⟩
  have C1 := Lib.hid (bel2 B0.out hb (Nat.le_refl _))
  clear hb
  go_wp2_with fail
  refine (KL.out _ (rdAtms_good.up (rdAtms_good.below HA.out C1.out) C1.out.size)).mono ?_
  rintro e' w' ⟨rfl, rfl⟩
  go_wp2
  go_loopw [5, 6, 7, 8, 9] (fun u v x i rv wr => ∃ k : Nat, k ≤ l.length ∧ i = .int .i64 k ∧ Tri w.heap.size wr u v x (rtK l k) ((rtK l k).filter gvB) ((rtK l k).map fun a => [a]) ∧ (rtK l k).length ≤ 12 ∧ Below w.heap.size w wr) (fun _ _ _ i _ _ => l.length - (intOf i).toNat)
  case atStart => exact ⟨0, Nat.zero_le _, rfl, Tri.nil _ _, by simp [rtK], C1.out⟩
  case round =>
    obtain ⟨k, hk, rfl, T, hP, hbel⟩ := hrel
    obtain ⟨Au, cu, rfl, hcu1, hcu2⟩ := T.gu.own
    have hcu3 : cu ≤ 9223372036854775807 := hcu2
    by_cases hlt : k < l.length
    · by_cases h12 : (rtK l k).length < 12
      · have T := T
        obtain ⟨ad, rfl, had, q0, q1, q2⟩ := (rdAtms_at HA.out).2.2.2 k hlt
        have hbk : (ad.add (k * 3)).block < w.heap.size := by rw [blk_add]; exact had
        have CE := Lib.hid (show ∀ W, Below w.heap.size w W → _ ∧ _ ∧ _ from fun W (h : Below w.heap.size w W) => ⟨(h.cell (p := ad.add (k * 3)) hbk).trans q0, (h.cell (p := ⟨(ad.add (k * 3)).block, (ad.add (k * 3)).off + 1, none⟩) hbk).trans q1, (h.cell (p := ⟨(ad.add (k * 3)).block, (ad.add (k * 3)).off + 2, none⟩) hbk).trans q2⟩)
        have HT := Lib.hid T
        have HB := Lib.hid hbel
        have TN := Lib.hid (fun h => rtK_no hlt h)
        have TY0 := Lib.hid (fun h => rtK_yes hlt h)
        have hsx := (HLS.out l[k] (List.getElem_mem hlt))
        have K := Lib.hid (fun w => q3right_atom l[k] w (by omega))
        clear q0 q1 q2 hbk T hbel hcu1
        generalize l[k] = x at *
        generalize rtK l k = P at *
        obtain ⟨m0, m1, m2⟩ := CE.out _ HB.out
        cases hrx : rgt x
        · rw [hrx] at K
          have TX := Lib.hid (TN.out hrx)
          clear hrx TN TY0
          go_wp2_with fail
          refine (K.out _).mono ?_
          rintro e w3 ⟨rfl, hb3⟩
          have HB3 := Lib.hid (bel2 HB.out hb3 (Nat.le_refl _))
          have T3 := Lib.hid (HT.out.below hb3)
          clear hb3 m0 m1 m2
          go_wp2
          go_roundw
          case rel => exact ⟨k + 1, by omega, by go_num, by rw [TX.out]; exact T3.out, by rw [TX.out]; omega, HB3.out⟩
          case measure => simp [intOf]; omega
        · rw [hrx] at K
          have TY := Lib.hid (TY0.out hrx)
          have FY := Lib.hid (show gvB x = true → (P ++ [x]).filter gvB = P.filter gvB ++ [x] from filt_yes)
          have FN := Lib.hid (show gvB x = false → (P ++ [x]).filter gvB = P.filter gvB from filt_no)
          have MY := Lib.hid (show (P ++ [x]).map (fun a => [a]) = P.map (fun a => [a]) ++ [[x]] by rw [List.map_append]; rfl)
          have hfl : (P.filter gvB).length ≤ P.length := List.length_filter_le _ _
          have hml : (P.map fun a => [a]).length = P.length := List.length_map _
          clear hrx TN TY0
          go_wp2_with fail
          refine (K.out _).mono ?_
          rintro e w3 ⟨rfl, hb3⟩
          have HB3 := Lib.hid (bel2 HB.out hb3 (Nat.le_refl _))
          have T3 := Lib.hid (HT.out.below hb3)
          have hbs3 : w.heap.size ≤ w3.heap.size := HB3.out.size
          have hn1 : P.length + 1 ≤ maxLen := by unfold maxLen; omega
          have hn2 : (P.length + 1) * 40 ≤ 140737488355328 := by omega
          clear hb3 m0 m1 m2
          obtain ⟨m0, m1, m2⟩ := CE.out _ HB3.out
          have hE3 := (show rdAtm w3 (fun b => True ∧ b < w3.heap.size ∧ (Value.slice Au P.length cu).ownBlock ≠ some b) x (#[.string x.n, .int .i64 x.o, .string x.v] : Array Value).toList from rfl)
          go_wp2_with (at_builtin; refine wpList_grow1_at w3 rfl _ _ 27 rfl rdAtm_good (by decide) (fun _ => True) w.heap.size 41 i1 _ 40 Tryz.underlying27 hj hy0 hy1 hy2 rfl (.slice Au P.length cu) P rfl T3.out.gu x _ 41 hE3 _ rfl rfl hn1 hn2 hbs3 ?_)
          intro v1 w4 hG4 hg4 hm4
          have T4 := Lib.hid (T3.out.atU hG4 hg4 hm4)
          have HB4 := Lib.hid (grow_below T3.out.gu hg4 HB3.out (Nat.le_refl _) hbs3)
          clear hG4 hg4 hm4 hE3 m0 m1 m2
          obtain ⟨m0, m1, m2⟩ := CE.out _ HB4.out
          have T5 := Lib.hid (T4.out.new (.cells #[.string x.n, .int .i64 x.o, .string x.v] 41))
          have HB5 := Lib.hid (HB4.out.alloc HB4.out.size (.cells #[.string x.n, .int .i64 x.o, .string x.v] 41))
          have hN := Lib.hid (World.size_alloc w4 (.cells #[.string x.n, .int .i64 x.o, .string x.v] 41)).symm
          have hbs5 : w.heap.size ≤ (w4.alloc (.cells #[.string x.n, .int .i64 x.o, .string x.v] 41)).heap.size := HB5.out.size
          have hE5 := (show rdAtms (w4.alloc (.cells #[.string x.n, .int .i64 x.o, .string x.v] 41)) (fun b => (v1.ownBlock ≠ some b ∧ u6.ownBlock ≠ some b) ∧ b < (w4.alloc (.cells #[.string x.n, .int .i64 x.o, .string x.v] 41)).heap.size ∧ u7.ownBlock ≠ some b) [x] (#[.slice (some ⟨w4.heap.size, 0, none⟩) 1 1] : Array Value).toList from T4.out.one x 41)
          have hn3 : (P.map fun a => [a]).length + 1 ≤ maxLen := by rw [hml]; exact hn1
          have hn4 : ((P.map fun a => [a]).length + 1) * 24 ≤ 140737488355328 := by omega
          go_wp2_with (at_builtin; refine wpList_grow1_at (w4.alloc (.cells #[.string x.n, .int .i64 x.o, .string x.v] 41)) rfl _ _ 23 rfl rdAtms_good (by decide) (fun b => v1.ownBlock ≠ some b ∧ u6.ownBlock ≠ some b) w.heap.size 48 i0 _ 24 Tryz.underlying23 hi hz0 hz1 hz2 rfl u7 _ rfl T5.out.gx [x] _ 48 hE5 _ hN.out rfl hn3 hn4 hbs5 ?_)
          intro v2 w6 hG6 hg6 hm6
          have T6 := Lib.hid (show Tri w.heap.size w6 v1 u6 v2 (P ++ [x]) (P.filter gvB) ((P ++ [x]).map fun a => [a]) by rw [MY.out]; exact T5.out.atX hG6 hg6 hm6)
          have HB6 := Lib.hid (grow_below T5.out.gx hg6 HB5.out (Nat.le_refl _) hbs5)
          have hbs6 : w.heap.size ≤ w6.heap.size := HB6.out.size
          have hv1 : (P.filter gvB).length + 1 ≤ maxLen := by unfold maxLen; omega
          have hv2 : ((P.filter gvB).length + 1) * 40 ≤ 140737488355328 := by omega
          clear hG6 hg6 hm6 hE5 m0 m1 m2 hn3 hn4 hn1 hn2 MY
          obtain ⟨m0, m1, m2⟩ := CE.out _ HB6.out
          by_cases h0 : x.o = 0
          · have t0 : (x.o == 0) = true := by rw [beq_iff_eq]; exact h0
            have G := Lib.hid (show gvB x = true by unfold gvB; rw [h0]; rfl)
            clear h0
            have hE7 := (show rdAtm w6 (fun b => True ∧ b < w6.heap.size ∧ u6.ownBlock ≠ some b) x (#[.string x.n, .int .i64 x.o, .string x.v] : Array Value).toList from rfl)
            go_wp2_with (at_builtin; refine wpList_grow1_at w6 rfl _ _ 27 rfl rdAtm_good (by decide) (fun _ => True) w.heap.size 41 i1 _ 40 Tryz.underlying27 hj hy0 hy1 hy2 rfl u6 _ rfl T6.out.gv x _ 41 hE7 _ rfl rfl hv1 hv2 hbs6 ?_)
            intro v3 w7 hG7 hg7 hm7
            have T7 := Lib.hid (T6.out.atV hG7 hg7 hm7)
            have HB7 := Lib.hid (grow_below T6.out.gv hg7 HB6.out (Nat.le_refl _) hbs6)
            clear hG7 hg7 hm7 hE7 m0 m1 m2
            go_wp2
            go_roundw
            case rel => exact ⟨k + 1, by omega, by go_num, by rw [TY.out, FY.out G.out]; exact T7.out, by rw [TY.out]; simp; omega, HB7.out⟩
            case measure => simp [intOf]; omega
          · have t0 : (x.o == 0) = false := by rw [beq_eq_false_iff_ne]; exact h0
            by_cases h3 : x.o = 3
            · have t3 : (x.o == 3) = true := by rw [beq_iff_eq]; exact h3
              have G := Lib.hid (show gvB x = true by unfold gvB; rw [h3]; rfl)
              clear h0 h3
              have hE7 := (show rdAtm w6 (fun b => True ∧ b < w6.heap.size ∧ u6.ownBlock ≠ some b) x (#[.string x.n, .int .i64 x.o, .string x.v] : Array Value).toList from rfl)
              go_wp2_with (at_builtin; refine wpList_grow1_at w6 rfl _ _ 27 rfl rdAtm_good (by decide) (fun _ => True) w.heap.size 41 i1 _ 40 Tryz.underlying27 hj hy0 hy1 hy2 rfl u6 _ rfl T6.out.gv x _ 41 hE7 _ rfl rfl hv1 hv2 hbs6 ?_)
              intro v3 w7 hG7 hg7 hm7
              have T7 := Lib.hid (T6.out.atV hG7 hg7 hm7)
              have HB7 := Lib.hid (grow_below T6.out.gv hg7 HB6.out (Nat.le_refl _) hbs6)
              clear hG7 hg7 hm7 hE7 m0 m1 m2
              go_wp2
              go_roundw
              case rel => exact ⟨k + 1, by omega, by go_num, by rw [TY.out, FY.out G.out]; exact T7.out, by rw [TY.out]; simp; omega, HB7.out⟩
              case measure => simp [intOf]; omega
            · have t3 : (x.o == 3) = false := by rw [beq_eq_false_iff_ne]; exact h3
              have G := Lib.hid (show gvB x = false by unfold gvB; rw [decide_eq_false h0, decide_eq_false h3]; rfl)
              clear h0 h3
              go_wp2
              go_roundw
              case rel => exact ⟨k + 1, by omega, by go_num, by rw [TY.out, FN.out G.out]; exact T6.out, by rw [TY.out]; simp; omega, HB6.out⟩
              case measure => simp [intOf]; omega
      · have T := T
        have hall := rtK_all l k
        generalize rtK l k = P at *
        obtain ⟨Av, cv, rfl, _, _⟩ := T.gv.own
        obtain ⟨Ax, cx, rfl, _, _⟩ := T.gx.own
        have R5 := Lib.hid (T.gu.read rdAtm_good)
        have R6 := Lib.hid (T.gv.read rdAtm_good)
        have R7 := Lib.hid (T.gx.read rdAtms_good)
        have K1 := Lib.hid (fun E => join4_any Au P.length cu P wr R5.out (by omega) E)
        have K2 := Lib.hid (fun w E => atoms_again (l := P) (by omega) hall w E)
        have K3 := Lib.hid (fun w h h' E => open_any Ax Av (P.map fun a => [a]).length cx (P.filter gvB).length cv (P.map fun a => [a]) (P.filter gvB) w h h' (by rw [List.length_map]; omega) E)
        have hol := openF_len (P.filter gvB) 0 (P.map fun a => [a])
        rw [List.length_map] at hol
        have OG := Lib.hid (fun p hp => open_gv (l := P) (p := p) hall hp)
        have HB := Lib.hid hbel
        have Z0 := Lib.hid (Below.refl wr.heap.size wr)
        clear T hbel hall
        generalize mk (prtG (P.map fun a => [a])) = ss at *
        generalize P.filter gvB = Pv at *
        generalize P.map (fun a => [a]) = Pg at *
        generalize openF Pv 0 Pg = O at *
        go_wp2_with fail
        refine (K1.out (HE.out.below HB.out)).mono ?_
        rintro e w2 ⟨rfl, hb⟩
        have C2 := Lib.hid (bel2 HB.out hb (Nat.le_refl _))
        have Z2 := Lib.hid (bel2 Z0.out hb (Nat.le_refl _))
        clear hb
        go_wp2_with fail
        refine (K2.out _ (HE.out.below C2.out)).mono ?_
        rintro e w3 ⟨⟨A3, c3, rfl, hr3⟩, hb⟩
        have C3 := Lib.hid (bel2 C2.out hb (Nat.le_refl _))
        have Z3 := Lib.hid (bel2 Z2.out hb (Nat.le_refl _))
        have R3 := Lib.hid hr3
        clear hb hr3
        go_wp2_with fail
        refine (K3.out _ (rdGrps_good.up (rdGrps_good.below R7.out Z3.out) Z3.out.size) (rdAtms_good.up (rdAtms_good.below R6.out Z3.out) Z3.out.size) (HE.out.below C3.out)).mono ?_
        rintro e w4 ⟨⟨A4, c4, rfl, hr4⟩, hb⟩
        have C4 := Lib.hid (bel2 C3.out hb (Nat.le_refl _))
        have Z4 := Lib.hid (bel2 Z3.out hb (Nat.le_refl _))
        have D4 := Lib.hid hb
        have R4 := Lib.hid hr4
        obtain ⟨_, hoc, hom, _⟩ := rdInts_at hr4
        have hom' : c4 ≤ 9223372036854775807 := hom
        clear hb hr4 K1 K2 K3
        go_wp2
        go_loopw [13] (fun i wr2 => ∃ q : Nat, q ≤ O.length ∧ i = .int .i64 q ∧ Below w4.heap.size w4 wr2) (fun i _ => O.length - (intOf i).toNat)
        case atStart => exact ⟨0, Nat.zero_le _, rfl, Below.refl _ _⟩
        case round =>
          obtain ⟨q, hq, rfl, hbq⟩ := hrel
          by_cases hlt2 : q < O.length
          · obtain ⟨ad4, rfl, had4, j0⟩ := (rdInts_at (rdInts_good.below R4.out hbq)).2.2.2 q hlt2
            obtain ⟨p, hp, hpl, hgv⟩ := OG.out O[q] (List.getElem_mem hlt2)
            obtain ⟨ad5, rfl, had5, m0, m1, m2⟩ := (rdAtms_at (rdAtms_good.below R5.out (bel2 Z4.out hbq (Nat.le_refl _)))).2.2.2 p hpl
            rw [hp] at j0
            have HQ := Lib.hid hbq
            unfold gvB at hgv
            rw [Bool.or_eq_false_iff, decide_eq_false_iff_not, decide_eq_false_iff_not] at hgv
            have t0 : (P[p].o == 0) = false := by rw [beq_eq_false_iff_ne]; exact hgv.1
            have t3 : (P[p].o == 3) = false := by rw [beq_eq_false_iff_ne]; exact hgv.2
            clear hp hgv hbq m0 m2 had4 had5
            generalize P[p] = y at *
            go_wp2
            go_roundw
            case rel => exact ⟨q + 1, by omega, by go_num, HQ.out⟩
            case measure => simp [intOf]; omega
          · obtain rfl : q = O.length := by omega
            have KS := Lib.hid (sameAtoms_self A3 Au c3 cu P wr (rdAtms_good.up (rdAtms_good.below R3.out (bel2 D4.out hbq (Nat.le_refl _))) (bel2 D4.out hbq (Nat.le_refl _)).size) (rdAtms_good.up (rdAtms_good.below R5.out (bel2 Z4.out hbq (Nat.le_refl _))) (bel2 Z4.out hbq (Nat.le_refl _)).size))
            have C5 := Lib.hid (bel2 C4.out hbq (Nat.le_refl _))
            clear hbq
            go_wp2_with fail
            refine KS.out.mono ?_
            rintro e w6 ⟨rfl, hdr⟩
            have C6 := Lib.hid (bel2 C5.out (hdr.below _) (Nat.le_refl _))
            clear hdr
            go_wp2_with fail
            refine (join_none _ (HE.out.below C6.out)).mono ?_
            rintro e w7 ⟨rfl, hb⟩
            have C7 := Lib.hid (bel2 C6.out hb (Nat.le_refl _))
            clear hb
            go_wp2
            go_ret
            exact ⟨rfl, C7.out⟩
    · obtain rfl : k = l.length := by omega
      have hall := rtK_all l l.length
      generalize rtK l l.length = P at *
      obtain ⟨Av, cv, rfl, _, _⟩ := T.gv.own
      obtain ⟨Ax, cx, rfl, _, _⟩ := T.gx.own
      have R5 := Lib.hid (T.gu.read rdAtm_good)
      have R6 := Lib.hid (T.gv.read rdAtm_good)
      have R7 := Lib.hid (T.gx.read rdAtms_good)
      have K1 := Lib.hid (fun E => join4_any Au P.length cu P wr R5.out (by omega) E)
      have K2 := Lib.hid (fun w E => atoms_again (l := P) (by omega) hall w E)
      have K3 := Lib.hid (fun w h h' E => open_any Ax Av (P.map fun a => [a]).length cx (P.filter gvB).length cv (P.map fun a => [a]) (P.filter gvB) w h h' (by rw [List.length_map]; omega) E)
      have hol := openF_len (P.filter gvB) 0 (P.map fun a => [a])
      rw [List.length_map] at hol
      have OG := Lib.hid (fun p hp => open_gv (l := P) (p := p) hall hp)
      have HB := Lib.hid hbel
      have Z0 := Lib.hid (Below.refl wr.heap.size wr)
      clear T hbel hall
      generalize mk (prtG (P.map fun a => [a])) = ss at *
      generalize P.filter gvB = Pv at *
      generalize P.map (fun a => [a]) = Pg at *
      generalize openF Pv 0 Pg = O at *
      go_wp2_with fail
      refine (K1.out (HE.out.below HB.out)).mono ?_
      rintro e w2 ⟨rfl, hb⟩
      have C2 := Lib.hid (bel2 HB.out hb (Nat.le_refl _))
      have Z2 := Lib.hid (bel2 Z0.out hb (Nat.le_refl _))
      clear hb
      go_wp2_with fail
      refine (K2.out _ (HE.out.below C2.out)).mono ?_
      rintro e w3 ⟨⟨A3, c3, rfl, hr3⟩, hb⟩
      have C3 := Lib.hid (bel2 C2.out hb (Nat.le_refl _))
      have Z3 := Lib.hid (bel2 Z2.out hb (Nat.le_refl _))
      have R3 := Lib.hid hr3
      clear hb hr3
      go_wp2_with fail
      refine (K3.out _ (rdGrps_good.up (rdGrps_good.below R7.out Z3.out) Z3.out.size) (rdAtms_good.up (rdAtms_good.below R6.out Z3.out) Z3.out.size) (HE.out.below C3.out)).mono ?_
      rintro e w4 ⟨⟨A4, c4, rfl, hr4⟩, hb⟩
      have C4 := Lib.hid (bel2 C3.out hb (Nat.le_refl _))
      have Z4 := Lib.hid (bel2 Z3.out hb (Nat.le_refl _))
      have D4 := Lib.hid hb
      have R4 := Lib.hid hr4
      obtain ⟨_, hoc, hom, _⟩ := rdInts_at hr4
      have hom' : c4 ≤ 9223372036854775807 := hom
      clear hb hr4 K1 K2 K3
      go_wp2
      go_loopw [13] (fun i wr2 => ∃ q : Nat, q ≤ O.length ∧ i = .int .i64 q ∧ Below w4.heap.size w4 wr2) (fun i _ => O.length - (intOf i).toNat)
      case atStart => exact ⟨0, Nat.zero_le _, rfl, Below.refl _ _⟩
      case round =>
        obtain ⟨q, hq, rfl, hbq⟩ := hrel
        by_cases hlt2 : q < O.length
        · obtain ⟨ad4, rfl, had4, j0⟩ := (rdInts_at (rdInts_good.below R4.out hbq)).2.2.2 q hlt2
          obtain ⟨p, hp, hpl, hgv⟩ := OG.out O[q] (List.getElem_mem hlt2)
          obtain ⟨ad5, rfl, had5, m0, m1, m2⟩ := (rdAtms_at (rdAtms_good.below R5.out (bel2 Z4.out hbq (Nat.le_refl _)))).2.2.2 p hpl
          rw [hp] at j0
          have HQ := Lib.hid hbq
          unfold gvB at hgv
          rw [Bool.or_eq_false_iff, decide_eq_false_iff_not, decide_eq_false_iff_not] at hgv
          have t0 : (P[p].o == 0) = false := by rw [beq_eq_false_iff_ne]; exact hgv.1
          have t3 : (P[p].o == 3) = false := by rw [beq_eq_false_iff_ne]; exact hgv.2
          clear hp hgv hbq m0 m2 had4 had5
          generalize P[p] = y at *
          go_wp2
          go_roundw
          case rel => exact ⟨q + 1, by omega, by go_num, HQ.out⟩
          case measure => simp [intOf]; omega
        · obtain rfl : q = O.length := by omega
          have KS := Lib.hid (sameAtoms_self A3 Au c3 cu P wr (rdAtms_good.up (rdAtms_good.below R3.out (bel2 D4.out hbq (Nat.le_refl _))) (bel2 D4.out hbq (Nat.le_refl _)).size) (rdAtms_good.up (rdAtms_good.below R5.out (bel2 Z4.out hbq (Nat.le_refl _))) (bel2 Z4.out hbq (Nat.le_refl _)).size))
          have C5 := Lib.hid (bel2 C4.out hbq (Nat.le_refl _))
          clear hbq
          go_wp2_with fail
          refine KS.out.mono ?_
          rintro e w6 ⟨rfl, hdr⟩
          have C6 := Lib.hid (bel2 C5.out (hdr.below _) (Nat.le_refl _))
          clear hdr
          go_wp2_with fail
          refine (join_none _ (HE.out.below C6.out)).mono ?_
          rintro e w7 ⟨rfl, hb⟩
          have C7 := Lib.hid (bel2 C6.out hb (Nat.le_refl _))
          clear hb
          go_wp2
          go_ret
          exact ⟨rfl, C7.out⟩

theorem contract (H : Type) (enc : TypeId × Value → H) (W : World) (base : Nat) (args : Array Value) (ds gs : List (DataW H)) (before : List MemPlace)
    (hval : ∀ (j : Nat) t v, Tryz.f8.params[j]? = some t → args[j]? = some v → Value.okWide Tryz.prog W .any base t v)
    (hW : DataW.Whole enc Tryz.prog Tryz.f8.params.toList Rows.dependsJoinsSpec.vars false W args.toList ds gs before) (E : EnvR W) :
    Calls Tryz.prog 8 args W fun e W' => ∃ v, e = .returned v ∧ Rows.dependsJoinsSpec.post enc Tryz.prog Tryz.f8 false true false false W args v W' := by
  have hW' := hW
  obtain ⟨p, q, hA0, _, _, _, _⟩ := hW
  have hA : DataW.TrodAll enc Tryz.prog W 0 (fun _ => true) true Tryz.f8.params.toList args.toList ds p := hA0
  rw [Tryz.params8] at hA hval
  obtain ⟨v0, vs0, d0, ds0, p0, q0, hargs, rfl, rfl, h0, r0⟩ := trodAll_cons hA
  obtain ⟨rfl, rfl, rfl⟩ := trodAll_nil r0
  obtain rfl : args = #[v0] := by cases args; simp_all
  obtain ⟨A0, n0, c0, L0, rfl, hr0, hk0⟩ := open_atoms_arg (hval 0 27 v0 rfl rfl) h0
  refine (walk A0 n0 c0 L0 W hr0 hk0 E).mono fun e W' ⟨he, hb⟩ => ?_
  subst he
  refine ⟨_, rfl, law_post hW' rfl rfl rfl rfl rfl Tryz.underlying4 laid_out ?_ hb⟩
  rw [Tryz.params8]
  intro t ht
  simp at ht
  subst ht
  exact ⟨by kernel_rfl, of_decide_eq_true (by kernel_rfl)⟩

theorem reads (os : Os) {H : Type} (enc : TypeId × Value → H) : ∃ x, DataW.whole enc Tryz.prog ((World.laidAll Tryz.prog os laidL).forCall (fun _ _ => 0) ⟨#[], #[.slice none 0 0], []⟩).memory Tryz.f8.params.toList Rows.dependsJoinsSpec.vars false ((#[.slice none 0 0] : Array Value)).toList 8 = some x :=
  Option.isSome_iff_exists.1 (by kernel_rfl)
theorem readsSized (os : Os) {H : Type} (enc : TypeId × Value → H) : (OpenSpec.ofChange Rows.dependsJoinsSpec).bare.sizedB enc Tryz.prog Tryz.f8 false ((World.laidAll Tryz.prog os laidL).forCall (fun _ _ => 0) ⟨#[], #[.slice none 0 0], []⟩).memory #[.slice none 0 0] 8 = true := by kernel_rfl
theorem okWit (os : Os) : Input.okWideB Tryz.prog ((World.laidAll Tryz.prog os laidL).forCall (fun _ _ => 0) ⟨#[], #[.slice none 0 0], []⟩) 8 ⟨#[], #[.slice none 0 0], []⟩ = true := by kernel_rfl
theorem lifted (os : Os) (started : os.Started) (H : Type) (enc : TypeId × Value → H) (F : Stop.Interp) :
    ReturnsInHanded {} Tryz.checked os 8 .any ((OpenSpec.ofChange Rows.dependsJoinsSpec).preRow enc Tryz.prog Tryz.f8 Rows.dependsJoinsRow.domain false Rows.dependsJoinsRow.laid) (((OpenSpec.ofChange Rows.dependsJoinsSpec).at F).post enc Tryz.prog Tryz.f8 false true false false) := by
  obtain ⟨x, hx⟩ := reads os enc
  have hz := readsSized os enc
  refine returnsInHanded_of_row (C := Tryz.checked) (s := OpenSpec.ofChange Rows.dependsJoinsSpec) own' started (by kernel_rfl) Tryz.func8
    ⟨World.laidAll Tryz.prog os laidL, fun _ _ => 0, ⟨#[], #[.slice none 0 0], []⟩, door_os os, door_shaped os _, (Input.okWide_of_okWideB (base := 0) (okWit os)).1, (Input.okWide_of_okWideB (okWit os)).2,
      OpenSpec.preRow_of_cond 8 hx rfl (fun k hk => by cases hk) hz (door_met os _), by
        simp only [Assume.holds]
        exact ⟨by simp, by simp, fun _ => Modest.zero, by simp, by simp⟩⟩ ?_
  intro W base args ds gs before hval hW _ _ _ hL hsh _
  exact contract H enc W base args ds gs before hval hW (env_of hL hsh)

theorem said : Rows.DependsJoinsSaid :=
  OpenClaim.holds_of_cond 8 Tryz.f8 rfl rfl rfl rfl rfl rfl rfl ⟨rfl, rfl, rfl, rfl, rfl⟩ rfl rfl rfl rfl rfl (by kernel_rfl) Tryz.func8 (by kernel_rfl)
    (of_decide_eq_true (by kernel_rfl)) (by unfold Func.isWrapper; first | (rw [if_pos (by decide +kernel)]; kernel_rfl) | (rw [if_neg (by decide +kernel)]; exact ⟨rfl, rfl⟩))
    (fun os started H enc _ F => by rw [OpenClaim.pre_eq_preRow]; exact lifted os started H enc F)

theorem proved : Rows.DependsJoinsCardSaid :=
  Claim7.holds_tied_plain_at .later [] _ _ _ _ said (fun _ h => by cases h) (by kernel_rfl) (fun _ h => by cases h) dependsJoins_row_tie rfl ⟨rfl, rfl⟩ (by kernel_rfl) rfl
    (fun f fn hf hfn => by
      obtain rfl : f = 8 := Option.some.inj ((show Tryz.prog.funcNamed "keelson/keelsonlaw4.DependsJoins" = some 8 by kernel_rfl).symm.trans hf) |>.symm
      obtain rfl : fn = Tryz.f8 := (Option.some.inj (Tryz.func8.symm.trans hfn)).symm
      exact ⟨by kernel_rfl, fun j t ht => by
        rw [Tryz.params8] at ht
        have hm : t ∈ [27] := by have := Array.mem_of_getElem? ht; simp at this; simp [this]
        have hall : ([27].all fun u => !Tryz.prog.wantsStandIn u) = true := by kernel_rfl
        exact (show Tryz.prog.wantsStandIn t = false by simpa using List.all_eq_true.1 hall t hm)⟩)
    (by kernel_rfl)
#print axioms proved
end Go.Proofs.YtnokmgkkefonbaaGreatDoor.dependsJoins
