/- The contracts of the program's Atoms and Join. -/
import Derived.Test.YtmlakjemgmeffaaGreatDoorD4lY
import Derived.Test.YtmlakjemgmeffaaGreatDoorD4nY
import Derived.Test.YtmlakjemgmeffaaGreatDoorQAA
import Derived.Test.YtmlakjemgmeffaaGreatDoorND
set_option maxRecDepth 100000
set_option linter.unusedVariables false
set_option linter.unusedSimpArgs false
namespace Go.Proofs.YtmlakjemgmeffaaGreatDoor
open Go.RowKit
def oneB (g : List Atm) : Bool := decide (g.length ≤ 1)
def atE (s : List Nat) : Int := if depE s = 0 then (if (depL s).all oneB = true then 0 else 5) else depE s
def atL (s : List Nat) : List Atm := if atE s = 0 then (depL s).flatten else []
theorem flat_len {L : List (List Atm)} (h : L.all oneB = true) : L.flatten.length ≤ L.length := by
  induction L with
  | nil => simp
  | cons g r ih =>
    rw [List.all_cons, Bool.and_eq_true] at h
    have h1 := h.1
    unfold oneB at h1
    rw [decide_eq_true_eq] at h1
    have := ih h.2
    rw [List.flatten_cons, List.length_append, List.length_cons]; omega
theorem take_flat (L : List (List Atm)) (k : Nat) (hk : k < L.length) : (L.take (k + 1)).flatten = (L.take k).flatten ++ L[k] := by
  rw [List.take_succ_eq_append_getElem hk, List.flatten_append]; simp
theorem one_stop {L : List (List Atm)} {k : Nat} (hk : k < L.length) (h : oneB L[k] = false) : L.all oneB = false := all_stopL hk h
theorem atE_bad {s : List Nat} (h : depE s ≠ 0) : atE s = depE s ∧ atL s = [] := by
  have : atE s = depE s := by unfold atE; rw [if_neg h]
  exact ⟨this, by unfold atL; rw [if_neg (by rw [this]; exact h)]⟩
theorem atE_many {s : List Nat} (h : depE s = 0) (h2 : (depL s).all oneB = false) : atE s = 5 ∧ atL s = [] := by
  have : atE s = 5 := by unfold atE; rw [if_pos h, h2]; rfl
  exact ⟨this, by unfold atL; rw [if_neg (by rw [this]; decide)]⟩
theorem atE_ok {s : List Nat} (h : depE s = 0) (h2 : (depL s).all oneB = true) : atE s = 0 ∧ atL s = (depL s).flatten := by
  have : atE s = 0 := by unfold atE; rw [if_pos h, if_pos h2]
  exact ⟨this, by unfold atL; rw [if_pos this]⟩
set_option maxHeartbeats 2000000 in
theorem atoms4_new (s : ByteArray) (w : World) (hs : s.size ≤ 65536) (E : EnvR w) :
    Calls Tryz.prog 54 #[.string s] w fun e w' => (∃ v, e = .returned (.tuple #[v, .int .i64 (atE (B s))]) ∧ rdAtms w' (fun b => w.heap.size ≤ b ∧ b < w'.heap.size) (atL (B s)) [v]) ∧ Below w.heap.size w w' := by
  obtain ⟨i0, hi, hz0, hz1, hz2⟩ := info_parts atm_info
  have K := Lib.hid (parse4_any s w hs E)
  by_cases h0 : depE (B s) = 0
  · have hR := (right_parts (right_of_parse (B_lt s) h0)).2
    have XY := Lib.hid (fun h => atE_ok (s := B s) h0 h)
    have XN := Lib.hid (fun h => atE_many (s := B s) h0 h)
    rw [h0] at K
    clear h0
    generalize depL (B s) = L at *
    go_enter Tryz.func54, Tryz.ntmps54
    go_wp2_with fail
    refine K.out.mono ?_
    rintro e w1 ⟨⟨v, rfl, hrd⟩, hb1⟩
    obtain ⟨A, c, hv, _⟩ := id hrd
    simp only [List.cons.injEq, and_true] at hv
    subst hv
    obtain ⟨_, hnc, hcm, _⟩ := rdGrps_at hrd
    have hcm' : c ≤ 9223372036854775807 := hcm
    have HR := Lib.hid hrd
    have HB1 := Lib.hid hb1
    clear hrd hb1
    go_wp2
    go_loopw [6, 8, 19] (fun v gg i wr => ∃ k : Nat, k ≤ L.length ∧ i = .int .i64 k ∧ (L.take k).all oneB = true ∧ Grow rdAtm 3 (fun _ => True) wr w1.heap.size 49 v (L.take k).flatten ∧ Below w1.heap.size w1 wr) (fun _ _ i _ => L.length - (intOf i).toNat)
    case atStart => exact ⟨0, Nat.zero_le _, rfl, rfl, by rw [List.take_zero]; exact Grow.nil _ _ _ _, Below.refl _ _⟩
    case round =>
      obtain ⟨k, hk, rfl, hall, hG, hbel⟩ := hrel
      by_cases hlt : k < L.length
      · obtain ⟨ad, gA, gc, rfl, had, e0, e1⟩ := (rdGrps_at (rdGrps_good.below HR.out hbel)).2.2.2 k hlt
        have T2 := Lib.hid (all_takeL oneB L k hlt)
        have Z2 := Lib.hid (one_stop (L := L) (k := k) hlt)
        have TF := Lib.hid (take_flat L k hlt)
        have A2 := Lib.hid hall
        have HB := Lib.hid hbel
        have hfl := flat_len hall
        rw [List.length_take] at hfl
        have hbs := hbel.size
        clear hall hbel
        generalize L[k] = g at *
        generalize (L.take k).flatten = fl at *
        by_cases h1 : g.length ≤ 1
        · have h1' : ¬ (1 : Int) < g.length := by omega
          have O := Lib.hid (show oneB g = true by unfold oneB; rw [decide_eq_true h1])
          have hn1 : fl.length + g.length ≤ maxLen := by unfold maxLen; omega
          have hn2 : (fl.length + g.length) * 40 ≤ 140737488355328 := by omega
          have hS : ∀ b, lt_ w1.heap.size b → True ∧ b < wr.heap.size ∧ u6.ownBlock ≠ some b := fun b hb => ⟨trivial, Nat.lt_of_lt_of_le hb hbs, fun hh => by have := (hG.lt b hh).1; unfold lt_ at hb; omega⟩
          go_wp2_with (at_builtin; refine wpList_growN wr rfl _ _ 23 54 rfl rdAtm_good (by decide) (fun _ => True) w1.heap.size 49 49 i0 _ 40 Tryz.underlying23 Tryz.underlying54 hi hz0 hz1 hz2 rfl u6 fl rfl hG g _ gA g.length gc rfl e1 hS hn1 hn2 hbs ?_)
          intro v' w' hG' hgr
          have HB' := Lib.hid (grow_below hG hgr HB.out (Nat.le_refl _) hbs)
          clear hG hgr hS e1
          go_wp2
          go_roundw
          case rel => exact ⟨k + 1, by omega, by go_num, by rw [T2.out, A2.out, O.out]; rfl, by rw [TF.out]; exact hG', HB'.out⟩
          case measure => simp [intOf]; omega
        · have h1' : (1 : Int) < g.length := by omega
          have X := Lib.hid (XN.out (Z2.out (show oneB g = false by unfold oneB; rw [decide_eq_false h1])))
          go_wp2
          go_ret2
          exact ⟨⟨.slice none 0 0, by rw [X.out.1]; rfl, by rw [X.out.2]; exact rdRow_nil _ _⟩, bel2 HB1.out HB.out (Nat.le_refl _)⟩
      · obtain rfl : k = L.length := by omega
        rw [List.take_length] at hG hall
        have X := Lib.hid (XY.out hall)
        have GG := Lib.hid (show rdAtms wr (fun b => w.heap.size ≤ b ∧ b < wr.heap.size) L.flatten [u6] from rdAtms_good.more ((Grow.flat (T' := fun _ => False) (fun _ _ _ _ _ h => h) hG).reads rdAtm_good) fun b hb => ⟨Nat.le_trans HB1.out.size (hb.2.resolve_right id), hb.1⟩)
        clear hall hG
        go_wp2
        go_ret2
        exact ⟨⟨u6, by rw [X.out.1]; rfl, by rw [X.out.2]; exact GG.out⟩, bel2 HB1.out hbel (Nat.le_refl _)⟩
  · have X := Lib.hid (atE_bad (s := B s) h0)
    have t0 : (depE (B s) != 0) = true := by rw [bne_iff_ne]; exact h0
    clear h0
    generalize depE (B s) = ee at *
    go_enter Tryz.func54, Tryz.ntmps54
    go_wp2_with fail
    refine K.out.mono ?_
    rintro e w1 ⟨⟨v, rfl, hrd⟩, hb1⟩
    clear hrd
    go_wp2
    go_ret2
    exact ⟨⟨.slice none 0 0, by rw [X.out.1]; rfl, by rw [X.out.2]; exact rdRow_nil _ _⟩, hb1⟩
theorem rd_single (w : World) (x : Atm) (T : TypeId) (S : Nat → Prop) (hS : S w.heap.size) : rdAtms (w.alloc (.cells #[.string x.n, .int .i64 x.o, .string x.v] T)) S [x] [.slice (some ⟨w.heap.size, 0, none⟩) 1 1] := by
  refine ⟨_, 1, rfl, by simp, by unfold maxLen; omega, fun k hk => ?_⟩
  simp only [List.length_singleton] at hk
  obtain rfl : k = 0 := by omega
  refine ⟨_, x.cells, rfl, hS, rfl, rfl, fun j u hu => ?_⟩
  rw [Nat.zero_mul, Nat.zero_add]
  exact cells_new w #[.string x.n, .int .i64 x.o, .string x.v] T j u hu
theorem single_len (l : List Atm) (k : Nat) (hk : k ≤ l.length) : ((l.take k).map fun a => [a]).length = k := by rw [List.length_map, List.length_take]; omega
set_option maxHeartbeats 2000000 in
theorem join4_any (A : Option Addr) (n c : Nat) (l : List Atm) (w : World) (h : rdAtms w (lt_ w.heap.size) l [.slice A n c]) (hl : l.length ≤ 1000) (E : EnvR w) :
    Calls Tryz.prog 38 #[.slice A n c] w fun e w' => e = .returned (.string (mk (prtG (l.map fun a => [a])))) ∧ Below w.heap.size w w' := by
  obtain ⟨i0, hi, hz0, hz1, hz2⟩ := info_parts grp_info
  obtain ⟨rfl, hnc, hcm, _⟩ := rdAtms_at h
  have hcm' : c ≤ 9223372036854775807 := hcm
  have HE := Lib.hid E
  have HR := Lib.hid h
  clear E h
  go_enter Tryz.func38, Tryz.ntmps38
  go_wp2
  go_loopw [3, 5, 8] (fun v b i wr => ∃ k : Nat, k ≤ l.length ∧ i = .int .i64 k ∧ Grow rdAtms 1 (fun _ => True) wr w.heap.size 54 v ((l.take k).map fun a => [a]) ∧ Below w.heap.size w wr) (fun _ _ i _ => l.length - (intOf i).toNat)
  case atStart => exact ⟨0, Nat.zero_le _, rfl, Grow.nil _ _ _ _, Below.refl _ _⟩
  case round =>
    obtain ⟨k, hk, rfl, hG, hbel⟩ := hrel
    by_cases hlt : k < l.length
    · obtain ⟨ad, rfl, had, e0, e1, e2⟩ := (rdAtms_at (rdAtms_good.below HR.out hbel)).2.2.2 k hlt
      have TS := Lib.hid (take_snoc (fun a => [a]) l k hlt)
      have HB := Lib.hid hbel
      have hl2 := single_len l k hk
      have hbs := hbel.size
      generalize l[k] = x at *
      have hG2 := (hG.alloc rdAtms_good (.cells #[.string x.n, .int .i64 x.o, .string x.v] 49)).alloc rdAtms_good (.cells #[.string x.n, .int .i64 x.o, .string x.v] 49)
      have hE := (show rdAtms ((wr.alloc (.cells #[.string x.n, .int .i64 x.o, .string x.v] 49)).alloc (.cells #[.string x.n, .int .i64 x.o, .string x.v] 49)) (fun b => True ∧ b < ((wr.alloc (.cells #[.string x.n, .int .i64 x.o, .string x.v] 49)).alloc (.cells #[.string x.n, .int .i64 x.o, .string x.v] 49)).heap.size ∧ u3.ownBlock ≠ some b) [x] (#[.slice (some ⟨wr.heap.size + 1, 0, none⟩) 1 1] : Array Value).toList from by
        have := rd_single (wr.alloc (.cells #[.string x.n, .int .i64 x.o, .string x.v] 49)) x 49 (fun b => b = wr.heap.size + 1) (World.size_alloc _ _)
        rw [World.size_alloc] at this
        refine rdAtms_good.more this fun b hb => ⟨trivial, by rw [World.size_alloc, World.size_alloc, hb]; omega, fun hh => by have := (hG.lt b hh).2; omega⟩)
      have hN := Lib.hid (show wr.heap.size + 1 + 1 = ((wr.alloc (.cells #[.string x.n, .int .i64 x.o, .string x.v] 49)).alloc (.cells #[.string x.n, .int .i64 x.o, .string x.v] 49)).heap.size by rw [World.size_alloc, World.size_alloc])
      have HB2 := Lib.hid ((hbel.alloc hbs (.cells #[.string x.n, .int .i64 x.o, .string x.v] 49)).alloc (by rw [World.size_alloc]; omega) (.cells #[.string x.n, .int .i64 x.o, .string x.v] 49))
      have hn1 : ((l.take k).map fun a => [a]).length + 1 ≤ maxLen := by rw [hl2]; unfold maxLen; omega
      have hn2 : (((l.take k).map fun a => [a]).length + 1) * 24 ≤ 140737488355328 := by rw [hl2]; omega
      have hbs2 : w.heap.size ≤ ((wr.alloc (.cells #[.string x.n, .int .i64 x.o, .string x.v] 49)).alloc (.cells #[.string x.n, .int .i64 x.o, .string x.v] 49)).heap.size := by rw [World.size_alloc, World.size_alloc]; omega
      clear hG hbel hl2
      go_wp2_with (at_builtin; refine wpList_grow1 ((wr.alloc (.cells #[.string x.n, .int .i64 x.o, .string x.v] 49)).alloc (.cells #[.string x.n, .int .i64 x.o, .string x.v] 49)) rfl _ _ 22 rfl rdAtms_good (by decide) (fun _ => True) w.heap.size 54 i0 _ 24 Tryz.underlying22 hi hz0 hz1 hz2 rfl u3 _ rfl hG2 [x] _ 54 hE _ hN.out rfl hn1 hn2 hbs2 ?_)
      intro v' w' hG' hgr
      have HB' := Lib.hid (grow_below hG2 hgr HB2.out (Nat.le_refl _) hbs2)
      clear hG2 hgr hE
      go_wp2
      go_roundw
      case rel => exact ⟨k + 1, by omega, by go_num, by rw [TS.out, List.map_take]; first | exact hG' | (rw [List.map_take] at hG'; exact hG'), HB'.out⟩
      case measure => simp [intOf]; omega
    · obtain rfl : k = l.length := by omega
      rw [List.take_length] at hG
      have hrd := hG.read rdAtms_good
      obtain ⟨A', cp', hv', _, _⟩ := hG.own
      rw [hv'] at hrd
      have K := Lib.hid (print4_any _ _ _ _ wr hrd (HE.out.below hbel))
      rw [List.length_map] at hv' K
      have HB := Lib.hid hbel
      subst hv'
      clear hG hbel hrd
      go_wp2_with fail
      refine K.out.mono ?_
      rintro e w3 ⟨rfl, hb3⟩
      go_wp2
      go_ret
      exact ⟨rfl, bel2 HB.out hb3 (Nat.le_refl _)⟩
end Go.Proofs.YtmlakjemgmeffaaGreatDoor
