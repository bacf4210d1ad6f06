/- The contracts of the document's own Atoms, Print, Join. -/
import Derived.Test.YtnokmgkkefonbaaGreatDoorD4eZ
import Derived.Test.YtnokmgkkefonbaaGreatDoorD4qZ
set_option maxRecDepth 100000
set_option linter.unusedVariables false
set_option linter.unusedSimpArgs false
namespace Go.Proofs.YtnokmgkkefonbaaGreatDoor
open Go.RowKit
set_option maxHeartbeats 2000000 in
theorem q4atoms_any (s : ByteArray) (w : World) (hs : s.size ≤ 65536) :
    Calls Tryz.prog 13 #[.string s] w fun e w' => (∃ v, e = .returned (.tuple #[v, .int .i64 (atE (B s))]) ∧ rdAtms w' (lt_ w'.heap.size) (atL (B s)) [v]) ∧ Below w.heap.size w w' := by
  obtain ⟨i0, hi, hz0, hz1, hz2⟩ := info_parts atm_info
  have K := Lib.hid (q4parse_any s w hs)
  by_cases h0 : depE (B s) = 0
  · have hR := (right_parts (right_of_parse (B_lt s) h0)).2
    have hone := one_is h0
    have XY := Lib.hid (fun h => atE_ok (s := B s) h0 h)
    have XN := Lib.hid (fun h => atE_many (s := B s) h0 h)
    rw [h0] at K
    clear h0
    generalize depL (B s) = L at *
    go_enter Tryz.func13, Tryz.ntmps13
    go_wp2_with fail
    refine K.out.mono ?_
    rintro e w1 ⟨⟨v, rfl, hrd⟩, hb1⟩
    obtain ⟨A, c, hv, _⟩ := id hrd
    simp only [List.cons.injEq, and_true] at hv
    subst hv
    obtain ⟨_, hnc, hcm, _⟩ := rdGrps_at hrd
    have hcm' : c ≤ 9223372036854775807 := hcm
    have HR := Lib.hid hrd
    have HB1 := Lib.hid hb1
    clear hrd hb1
    go_wp2
    go_loopw [6, 7] (fun v i wr => ∃ k : Nat, k ≤ L.length ∧ i = .int .i64 k ∧ (L.take k).all oneB = true ∧ Grow rdAtm 3 (fun _ => True) wr w1.heap.size 41 v (L.take k).flatten ∧ Below w1.heap.size w1 wr) (fun _ i _ => L.length - (intOf i).toNat)
    case atStart => exact ⟨0, Nat.zero_le _, rfl, rfl, by rw [List.take_zero]; exact Grow.nil _ _ _ _, Below.refl _ _⟩
    case round =>
      obtain ⟨k, hk, rfl, hall, hG, hbel⟩ := hrel
      by_cases hlt : k < L.length
      · obtain ⟨ad, gA, gc, rfl, had, e0, e1⟩ := (rdGrps_at (rdGrps_good.below HR.out hbel)).2.2.2 k hlt
        have T2 := Lib.hid (all_takeL oneB L k hlt)
        have Z2 := Lib.hid (one_stop (L := L) (k := k) hlt)
        have TF := Lib.hid (take_flat L k hlt)
        have A2 := Lib.hid hall
        have HB := Lib.hid hbel
        have hfl := flat_len hall
        rw [List.length_take] at hfl
        have hbs := hbel.size
        have h1g := hone _ (List.getElem_mem hlt)
        clear hall hbel
        generalize L[k] = g at *
        generalize (L.take k).flatten = fl at *
        by_cases h1 : g.length ≤ 1
        · obtain ⟨x, rfl⟩ := List.length_eq_one_iff.1 (show g.length = 1 by omega)
          have hat := (rdAtms_at e1).2.2.2 0 (by simp)
          obtain ⟨ga, rfl, _, m0, m1, m2⟩ := hat
          simp only [Nat.zero_mul, List.getElem_cons_zero] at m0 m1 m2
          have hadd : ga.add 0 = ga := by unfold Addr.add; simp
          rw [hadd] at m0 m1 m2
          have t1 : (((1 : Nat) : Int) != 1) = false := by decide
          have hn1 : fl.length + 1 ≤ maxLen := by unfold maxLen; omega
          have hn2 : (fl.length + 1) * 40 ≤ 140737488355328 := by omega
          have hE := (show rdAtm wr (fun b => True ∧ b < wr.heap.size ∧ u6.ownBlock ≠ some b) x (#[.string x.n, .int .i64 x.o, .string x.v] : Array Value).toList from rfl)
          clear e1 h1g h1
          simp only [List.length_singleton] at e0
          go_wp2_with (at_builtin; refine wpList_grow1 wr rfl _ _ 27 rfl rdAtm_good (by decide) (fun _ => True) w1.heap.size 41 i0 _ 40 Tryz.underlying27 hi hz0 hz1 hz2 rfl u6 fl rfl hG x _ 41 hE _ rfl rfl hn1 hn2 hbs ?_)
          intro v' w' hG' hgr
          have HB' := Lib.hid (grow_below hG hgr HB.out (Nat.le_refl _) hbs)
          clear hG hgr hE
          go_wp2
          go_roundw
          case rel => exact ⟨k + 1, by omega, by go_num, by rw [T2.out, A2.out]; rfl, by rw [TF.out]; exact hG', HB'.out⟩
          case measure => simp [intOf]; omega
        · have t1 : ((g.length : Int) != 1) = true := by rw [bne_iff_ne]; omega
          have X := Lib.hid (XN.out (Z2.out (show oneB g = false by unfold oneB; rw [decide_eq_false h1])))
          go_wp2
          go_ret2
          exact ⟨⟨.slice none 0 0, by rw [X.out.1]; rfl, by rw [X.out.2]; exact rdRow_nil _ _⟩, bel2 HB1.out HB.out (Nat.le_refl _)⟩
      · obtain rfl : k = L.length := by omega
        rw [List.take_length] at hG hall
        have X := Lib.hid (XY.out hall)
        have GG := Lib.hid (hG.read rdAtm_good)
        clear hall hG
        go_wp2
        go_ret2
        exact ⟨⟨u6, by rw [X.out.1]; rfl, by rw [X.out.2]; exact GG.out⟩, bel2 HB1.out hbel (Nat.le_refl _)⟩
  · have X := Lib.hid (atE_bad (s := B s) h0)
    have t0 : (depE (B s) != 0) = true := by rw [bne_iff_ne]; exact h0
    clear h0
    generalize depE (B s) = ee at *
    go_enter Tryz.func13, Tryz.ntmps13
    go_wp2_with fail
    refine K.out.mono ?_
    rintro e w1 ⟨⟨v, rfl, hrd⟩, hb1⟩
    clear hrd
    go_wp2
    go_ret2
    exact ⟨⟨.slice none 0 0, by rw [X.out.1]; rfl, by rw [X.out.2]; exact rdRow_nil _ _⟩, hb1⟩
theorem mk_app (a b : List Nat) : mk a ++ mk b = mk (a ++ b) := by
  unfold mk
  rw [List.map_append]
  apply ByteArray.ext
  simp
theorem q3print_atom (x : Atm) (w : World) (h : rgt x = true) : Calls Tryz.prog 25 #[.agg #[.string x.n, .int .i64 x.o, .string x.v]] w fun e' w' => e' = .returned (.string (mk (txt x))) ∧ Below w.heap.size w w' := by
  have hn : x.n.size ≤ 65536 := by
    unfold rgt rightA at h
    simp only [Bool.and_eq_true] at h
    have := (name_len h.1).2
    rw [B_len] at this; omega
  have := q3print_any x.n x.o x.v w hn
  unfold printA at this
  rw [if_pos (show rightA (B x.n) x.o (B x.v) = true from h)] at this
  exact this
theorem q4parse_sh (s : ByteArray) (w : World) (hs : s.size ≤ 65536) : Calls Tryz.prog 11 #[.string s] w fun e' w' => (∃ A c, e' = .returned (.tuple #[.slice A (depL (B s)).length c, .int .i64 (depE (B s))]) ∧ rdGrps w' (lt_ w'.heap.size) (depL (B s)) [.slice A (depL (B s)).length c]) ∧ Below w.heap.size w w' := by
  refine (q4parse_any s w hs).mono ?_
  rintro e' w' ⟨⟨v, rfl, hrd⟩, hb⟩
  obtain ⟨A, c, hv, _⟩ := id hrd
  simp only [List.cons.injEq, and_true] at hv
  subst hv
  exact ⟨⟨A, c, rfl, hrd⟩, hb⟩
theorem q4atoms_sh (s : ByteArray) (w : World) (hs : s.size ≤ 65536) : Calls Tryz.prog 13 #[.string s] w fun e' w' => (∃ A c, e' = .returned (.tuple #[.slice A (atL (B s)).length c, .int .i64 (atE (B s))]) ∧ rdAtms w' (lt_ w'.heap.size) (atL (B s)) [.slice A (atL (B s)).length c]) ∧ Below w.heap.size w w' := by
  refine (q4atoms_any s w hs).mono ?_
  rintro e' w' ⟨⟨v, rfl, hrd⟩, hb⟩
  obtain ⟨A, c, hv, _⟩ := id hrd
  simp only [List.cons.injEq, and_true] at hv
  subst hv
  exact ⟨⟨A, c, rfl, hrd⟩, hb⟩
end Go.Proofs.YtnokmgkkefonbaaGreatDoor
