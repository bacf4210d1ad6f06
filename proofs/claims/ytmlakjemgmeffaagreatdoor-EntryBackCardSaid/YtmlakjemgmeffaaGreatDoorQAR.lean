/- What the laws of this seat rest on: D4g, Door. -/
import Derived.Test.YtmlakjemgmeffaaGreatDoorQAQ
import Derived.Test.YtmlakjemgmeffaaGreatDoorVer9Y
import Derived.Test.YtmlakjemgmeffaaGreatDoorQAE
import Derived.Test.YtmlakjemgmeffaaGreatDoorQAA
import Derived.Test.YtmlakjemgmeffaaGreatDoorTie
import Derived.Test.YtmlakjemgmeffaaGreatDoorCards
import Derived.LaidMore
import Derived.Lay
import Derived.Stop.Joined
import Derived.Stop.LaidErr
import Derived.Deep.DeepHandedRow
import Derived.Lib.LaidTab

section
set_option maxRecDepth 100000
set_option linter.unusedVariables false
set_option linter.unusedSimpArgs false
namespace Go.Proofs.YtmlakjemgmeffaaGreatDoor
open Go.RowKit
theorem add_mk (a : List Nat) (y : ByteArray) (b : List Nat) (hy : y = mk b) (ha : a.length ≤ 1000000) (hb : b.length ≤ 1000000) : ∀ w, (Op.stringOp .add (mk a) y).run Tryz.prog w = .ok (.string (mk (a ++ b))) w := by
  intro w
  subst hy
  rw [← mk_app]
  exact run_string_add_sum w (mk a) (mk b) (by rw [size_mk, size_mk]; omega)
theorem lit_comma : ({ data := #[44, 32] } : ByteArray) = mk [44, 32] := rfl
theorem lit_bar : ({ data := #[32, 124, 32] } : ByteArray) = mk [32, 124, 32] := rfl
def pfx (sep : List Nat) (k : Nat) (l : List (List Nat)) : List Nat := if k = 0 then [] else joinL sep l ++ sep
theorem joinL_take {α : Type} (sep : List Nat) (f : α → List Nat) (l : List α) (k : Nat) (hk : k < l.length) : joinL sep ((l.take (k + 1)).map f) = pfx sep k ((l.take k).map f) ++ f l[k] := by
  rw [take_snoc f l k hk, joinL_snoc]
  unfold pfx
  by_cases h0 : k = 0
  · subst h0; simp
  · have hne : (l.take k).map f ≠ [] := by
      intro h
      have := congrArg List.length h
      rw [List.length_map, List.length_take, List.length_nil] at this
      omega
    rw [if_neg hne, if_neg h0]; simp
theorem joinL_short {α : Type} (sep : List Nat) (f : α → List Nat) (l : List α) (M N : Nat) (h : ∀ a ∈ l, (f a).length ≤ M) (hl : l.length ≤ N) (k : Nat) : (joinL sep ((l.take k).map f)).length ≤ N * (M + sep.length) := by
  have := joinL_len (sep := sep) (l := (l.take k).map f) (M := M) (fun t ht => by obtain ⟨a, ha, rfl⟩ := List.mem_map.1 ht; exact h a (List.mem_of_mem_take ha))
  refine Nat.le_trans this (Nat.mul_le_mul_right _ ?_)
  rw [List.length_map, List.length_take]; omega
set_option maxHeartbeats 4000000 in
theorem q4print_any (A : Option Addr) (n c : Nat) (L : List (List Atm)) (w : World) (h : rdGrps w (lt_ w.heap.size) L [.slice A n c]) (hz : ∀ g ∈ L, ∀ a ∈ g, a.n.size ≤ 65536) :
    Calls Tryz.prog 40 #[.slice A n c] w fun e w' => e = .returned (.string (mk (prtG L))) ∧ Below w.heap.size w w' := by
  have KR := Lib.hid (q4right_any A n c L w h hz)
  obtain ⟨rfl, hnc, hcm, _⟩ := rdGrps_at h
  have hcm1 : c ≤ 9223372036854775807 := hcm
  have HR := Lib.hid h
  clear h hz
  cases hr : rightG L
  · have X := Lib.hid (show prtG L = [] by unfold prtG; rw [hr]; rfl)
    rw [hr] at KR
    clear hr
    go_enter Tryz.func40, Tryz.ntmps40
    go_wp2_with fail
    refine KR.out.mono ?_
    rintro e w3 ⟨rfl, hb3⟩
    go_wp2
    go_ret
    exact ⟨by rw [X.out]; rfl, hb3⟩
  have X := Lib.hid (show prtG L = joinL [44, 32] (L.map grpS) by unfold prtG; rw [hr]; rfl)
  have hp := right_parts hr
  have HP := Lib.hid hp.1
  have HJ := Lib.hid (joinL_short [44, 32] grpS L 678 12 (fun g hg => grpS_len (hp.1 g hg).1 (hp.1 g hg).2) hp.2)
  rw [hr] at KR
  clear hr hp
  go_enter Tryz.func40, Tryz.ntmps40
  go_wp2_with fail
  refine KR.out.mono ?_
  rintro e w1 ⟨rfl, hb1⟩
  have HB1 := Lib.hid hb1
  clear hb1 KR
  go_wp2
  go_loopw [4, 5, 6] (fun sv i j wr => ∃ k : Nat, k ≤ L.length ∧ i = .int .i64 k ∧ sv = .string (mk (joinL [44, 32] ((L.take k).map grpS))) ∧ Below w.heap.size w wr) (fun _ i _ _ => L.length - (intOf i).toNat)
  case atStart => exact ⟨0, Nat.zero_le _, rfl, rfl, HB1.out⟩
  case round =>
    obtain ⟨k, hk, rfl, rfl, hbel⟩ := hrel
    by_cases hlt : k < L.length
    · have TJ := Lib.hid (joinL_take [44, 32] grpS L k hlt)
      have hcell := (rdGrps_at (rdGrps_good.below HR.out hbel)).2.2.2 k hlt
      obtain ⟨ad, A', c', rfl, had, h0, h1⟩ := hcell
      have hg := HP.out L[k] (List.getElem_mem hlt)
      have HGL := Lib.hid (show joinL [32, 124, 32] (L[k].map txt) = grpS L[k] from rfl)
      have HB := Lib.hid hbel
      have HC2 := Lib.hid (show ∀ W, Below w.heap.size w W → W.cell? (ad.add k) = some (.slice A' L[k].length c') ∧ rdAtms W (lt_ w.heap.size) L[k] [.slice A' L[k].length c'] from fun W hW => by
        refine ⟨?_, ?_⟩
        · rw [World.cell?_of_block (w := wr) (by rw [blk_add]; rw [hW.block _ had, hbel.block _ had])]; exact h0
        · exact rdAtms_good.keep h1 fun b hb => by rw [hW.block _ hb, hbel.block _ hb])
      have hc' : c' ≤ 9223372036854775807 := (rdAtms_at h1).2.2.1
      have hl1 := HJ.out k
      have hpl : (pfx [44, 32] k ((L.take k).map grpS)).length ≤ 8162 := by
        unfold pfx
        split
        · simp
        · rw [List.length_append]; simp only [List.length_cons, List.length_nil] at hl1 ⊢; omega
      have eA := add_mk (joinL [44, 32] ((L.take k).map grpS)) { data := #[44, 32] } [44, 32] lit_comma (by simp only [List.length_cons, List.length_nil] at hl1; omega) (by decide)
      have HS := Lib.hid (joinL_short [32, 124, 32] txt L[k] 110 6 (fun a ha => txt_len (hg.1 a ha)) hg.2)
      have HG := Lib.hid hg.1
      have hgl := hg.2
      have E0 := Lib.hid (show k = 0 → joinL [44, 32] ((L.take k).map grpS) = pfx [44, 32] k ((L.take k).map grpS) from fun h => by subst h; rfl)
      have E1 := Lib.hid (show ¬ k = 0 → joinL [44, 32] ((L.take k).map grpS) ++ [44, 32] = pfx [44, 32] k ((L.take k).map grpS) from fun h => by unfold pfx; rw [if_neg h])
      clear h1 hg hbel hl1
      generalize L[k] = g at *
      generalize joinL [44, 32] ((L.take k).map grpS) = J at *
      generalize pfx [44, 32] k ((L.take k).map grpS) = pf at *
      by_cases k0 : k = 0
      · have EE := Lib.hid (E0.out k0)
        have hk0 : ¬ (0 : Int) < k := by omega
        clear k0 eA
        go_wp2
        go_loopw [4, 6] (fun sv j wr => ∃ q : Nat, q ≤ g.length ∧ j = .int .i64 q ∧ sv = .string (mk (pf ++ joinL [32, 124, 32] ((g.take q).map txt))) ∧ Below w.heap.size w wr) (fun _ j _ => g.length - (intOf j).toNat)
        case atStart => exact ⟨0, Nat.zero_le _, rfl, (by rw [EE.out]; simp [joinL]), HB.out⟩
        case round =>
          obtain ⟨q, hq, rfl, rfl, hbel2⟩ := hrel
          obtain ⟨c0, r0⟩ := HC2.out _ hbel2
          have H2 := Lib.hid hbel2
          clear h0 hbel2
          by_cases hlt2 : q < g.length
          · obtain ⟨ad2, rfl, had2, m0, m1, m2⟩ := (rdAtms_at r0).2.2.2 q hlt2
            have T2 := Lib.hid (joinL_take [32, 124, 32] txt g q hlt2)
            have hrx := HG.out g[q] (List.getElem_mem hlt2)
            have K := Lib.hid (fun w => q3print_atom g[q] w hrx)
            have hlx := txt_len hrx
            have hl2 := HS.out q
            have Z0 := Lib.hid (show q = 0 → joinL [32, 124, 32] ((g.take q).map txt) = pfx [32, 124, 32] q ((g.take q).map txt) from fun h => by subst h; rfl)
            have Z1 := Lib.hid (show ¬ q = 0 → joinL [32, 124, 32] ((g.take q).map txt) ++ [32, 124, 32] = pfx [32, 124, 32] q ((g.take q).map txt) from fun h => by unfold pfx; rw [if_neg h])
            simp only [List.length_cons, List.length_nil] at hl2
            clear r0 hrx
            generalize g[q] = x at *
            generalize joinL [32, 124, 32] ((g.take q).map txt) = IJ at *
            generalize txt x = tx at *
            have e1 := add_mk (pf ++ IJ) { data := #[32, 124, 32] } [32, 124, 32] lit_bar (by rw [List.length_append]; omega) (by decide)
            have e2 := add_mk (pf ++ IJ) (mk tx) tx rfl (by rw [List.length_append]; omega) (by omega)
            have e3 := add_mk ((pf ++ IJ) ++ [32, 124, 32]) (mk tx) tx rfl (by simp only [List.length_append, List.length_cons, List.length_nil]; omega) (by omega)
            by_cases q0 : q = 0
            · have Y := Lib.hid (show (pf ++ IJ) ++ tx = pf ++ joinL [32, 124, 32] ((g.take (q + 1)).map txt) by rw [T2.out, ← Z0.out q0, List.append_assoc])
              have hq0 : ¬ (0 : Int) < q := by omega
              generalize (pf ++ IJ) ++ tx = R at *
              generalize pf ++ IJ = bq at *
              generalize mk tx = sx at *
              clear q0 e1 e3
              go_wp2_with fail
              refine (K.out _).mono ?_
              rintro e w3 ⟨rfl, hb3⟩
              have HB3 := Lib.hid (bel2 H2.out hb3 (Nat.le_refl _))
              clear hb3
              go_wp2
              go_roundw
              case rel => exact ⟨q + 1, by omega, by go_num, by rw [← Y.out], HB3.out⟩
              case measure => simp [intOf]; omega
            · have Y := Lib.hid (show ((pf ++ IJ) ++ [32, 124, 32]) ++ tx = pf ++ joinL [32, 124, 32] ((g.take (q + 1)).map txt) by rw [T2.out, ← Z1.out q0]; simp)
              have hq0 : (0 : Int) < q := by omega
              generalize ((pf ++ IJ) ++ [32, 124, 32]) ++ tx = R at *
              generalize (pf ++ IJ) ++ [32, 124, 32] = bq2 at *
              generalize pf ++ IJ = bq at *
              generalize mk tx = sx at *
              clear q0 e2
              go_wp2_with fail
              refine (K.out _).mono ?_
              rintro e w3 ⟨rfl, hb3⟩
              have HB3 := Lib.hid (bel2 H2.out hb3 (Nat.le_refl _))
              clear hb3
              go_wp2
              go_roundw
              case rel => exact ⟨q + 1, by omega, by go_num, by rw [← Y.out], HB3.out⟩
              case measure => simp [intOf]; omega
          · obtain rfl : q = g.length := by omega
            have Y := Lib.hid (show pf ++ joinL [32, 124, 32] ((g.take g.length).map txt) = joinL [44, 32] ((L.take (k + 1)).map grpS) by rw [List.take_length, TJ.out, HGL.out])
            clear r0
            generalize pf ++ joinL [32, 124, 32] ((g.take g.length).map txt) = R at *
            go_wp2
            go_roundw
            case rel => exact ⟨k + 1, by omega, by go_num, by rw [← Y.out], H2.out⟩
            case measure => simp [intOf]; omega
      · have EE := Lib.hid (E1.out k0)
        have hk0 : (0 : Int) < k := by omega
        have hk0n : 0 < k := by omega
        have hd0 : decide (0 < k) = true := decide_eq_true hk0n
        clear k0
        generalize J ++ [44, 32] = JS at *
        go_wp2
        clear eA
        go_loopw [4, 6] (fun sv j wr => ∃ q : Nat, q ≤ g.length ∧ j = .int .i64 q ∧ sv = .string (mk (pf ++ joinL [32, 124, 32] ((g.take q).map txt))) ∧ Below w.heap.size w wr) (fun _ j _ => g.length - (intOf j).toNat)
        case atStart => exact ⟨0, Nat.zero_le _, rfl, by rw [EE.out]; simp [joinL], HB.out⟩
        case round =>
          obtain ⟨q, hq, rfl, rfl, hbel2⟩ := hrel
          obtain ⟨c0, r0⟩ := HC2.out _ hbel2
          have H2 := Lib.hid hbel2
          clear h0 hbel2
          by_cases hlt2 : q < g.length
          · obtain ⟨ad2, rfl, had2, m0, m1, m2⟩ := (rdAtms_at r0).2.2.2 q hlt2
            have T2 := Lib.hid (joinL_take [32, 124, 32] txt g q hlt2)
            have hrx := HG.out g[q] (List.getElem_mem hlt2)
            have K := Lib.hid (fun w => q3print_atom g[q] w hrx)
            have hlx := txt_len hrx
            have hl2 := HS.out q
            have Z0 := Lib.hid (show q = 0 → joinL [32, 124, 32] ((g.take q).map txt) = pfx [32, 124, 32] q ((g.take q).map txt) from fun h => by subst h; rfl)
            have Z1 := Lib.hid (show ¬ q = 0 → joinL [32, 124, 32] ((g.take q).map txt) ++ [32, 124, 32] = pfx [32, 124, 32] q ((g.take q).map txt) from fun h => by unfold pfx; rw [if_neg h])
            simp only [List.length_cons, List.length_nil] at hl2
            clear r0 hrx
            generalize g[q] = x at *
            generalize joinL [32, 124, 32] ((g.take q).map txt) = IJ at *
            generalize txt x = tx at *
            have e1 := add_mk (pf ++ IJ) { data := #[32, 124, 32] } [32, 124, 32] lit_bar (by rw [List.length_append]; omega) (by decide)
            have e2 := add_mk (pf ++ IJ) (mk tx) tx rfl (by rw [List.length_append]; omega) (by omega)
            have e3 := add_mk ((pf ++ IJ) ++ [32, 124, 32]) (mk tx) tx rfl (by simp only [List.length_append, List.length_cons, List.length_nil]; omega) (by omega)
            by_cases q0 : q = 0
            · have Y := Lib.hid (show (pf ++ IJ) ++ tx = pf ++ joinL [32, 124, 32] ((g.take (q + 1)).map txt) by rw [T2.out, ← Z0.out q0, List.append_assoc])
              have hq0 : ¬ (0 : Int) < q := by omega
              generalize (pf ++ IJ) ++ tx = R at *
              generalize pf ++ IJ = bq at *
              generalize mk tx = sx at *
              clear q0 e1 e3
              go_wp2_with fail
              refine (K.out _).mono ?_
              rintro e w3 ⟨rfl, hb3⟩
              have HB3 := Lib.hid (bel2 H2.out hb3 (Nat.le_refl _))
              clear hb3
              go_wp2
              go_roundw
              case rel => exact ⟨q + 1, by omega, by go_num, by rw [← Y.out], HB3.out⟩
              case measure => simp [intOf]; omega
            · have Y := Lib.hid (show ((pf ++ IJ) ++ [32, 124, 32]) ++ tx = pf ++ joinL [32, 124, 32] ((g.take (q + 1)).map txt) by rw [T2.out, ← Z1.out q0]; simp)
              have hq0 : (0 : Int) < q := by omega
              generalize ((pf ++ IJ) ++ [32, 124, 32]) ++ tx = R at *
              generalize (pf ++ IJ) ++ [32, 124, 32] = bq2 at *
              generalize pf ++ IJ = bq at *
              generalize mk tx = sx at *
              clear q0 e2
              go_wp2_with fail
              refine (K.out _).mono ?_
              rintro e w3 ⟨rfl, hb3⟩
              have HB3 := Lib.hid (bel2 H2.out hb3 (Nat.le_refl _))
              clear hb3
              go_wp2
              go_roundw
              case rel => exact ⟨q + 1, by omega, by go_num, by rw [← Y.out], HB3.out⟩
              case measure => simp [intOf]; omega
          · obtain rfl : q = g.length := by omega
            have Y := Lib.hid (show pf ++ joinL [32, 124, 32] ((g.take g.length).map txt) = joinL [44, 32] ((L.take (k + 1)).map grpS) by rw [List.take_length, TJ.out, HGL.out])
            clear r0
            generalize pf ++ joinL [32, 124, 32] ((g.take g.length).map txt) = R at *
            go_wp2
            go_roundw
            case rel => exact ⟨k + 1, by omega, by go_num, by rw [← Y.out], H2.out⟩
            case measure => simp [intOf]; omega
    · obtain rfl : k = L.length := by omega
      rw [List.take_length]
      go_wp2
      go_ret
      exact ⟨by rw [X.out]; try rfl, hbel⟩
set_option maxHeartbeats 2000000 in
theorem q4join_any (A : Option Addr) (n c : Nat) (l : List Atm) (w : World) (h : rdAtms w (lt_ w.heap.size) l [.slice A n c]) (hl : l.length ≤ 1000) (hz : ∀ a ∈ l, a.n.size ≤ 65536) :
    Calls Tryz.prog 41 #[.slice A n c] w fun e w' => e = .returned (.string (mk (prtG (l.map fun a => [a])))) ∧ Below w.heap.size w w' := by
  obtain ⟨i0, hi, hz0, hz1, hz2⟩ := info_parts grp_info
  obtain ⟨rfl, hnc, hcm, _⟩ := rdAtms_at h
  have hcm' : c ≤ 9223372036854775807 := hcm
  have HR := Lib.hid h
  have HZ := Lib.hid (show ∀ g ∈ (l.map fun a => [a]), ∀ a ∈ g, a.n.size ≤ 65536 from fun g hg a ha => by
    obtain ⟨b, hb, rfl⟩ := List.mem_map.1 hg
    rw [List.mem_singleton.1 ha]; exact hz b hb)
  clear h hz
  go_enter Tryz.func41, Tryz.ntmps41
  go_wp2
  go_loopw [3, 4] (fun v i wr => ∃ k : Nat, k ≤ l.length ∧ i = .int .i64 k ∧ Grow rdAtms 1 (fun _ => True) wr w.heap.size 54 v ((l.take k).map fun a => [a]) ∧ Below w.heap.size w wr) (fun _ i _ => l.length - (intOf i).toNat)
  case atStart => exact ⟨0, Nat.zero_le _, rfl, Grow.nil _ _ _ _, Below.refl _ _⟩
  case round =>
    obtain ⟨k, hk, rfl, hG, hbel⟩ := hrel
    by_cases hlt : k < l.length
    · obtain ⟨ad, rfl, had, e0, e1, e2⟩ := (rdAtms_at (rdAtms_good.below HR.out hbel)).2.2.2 k hlt
      have TS := Lib.hid (take_snoc (fun a => [a]) l k hlt)
      have HB := Lib.hid hbel
      have hl2 := single_len l k hk
      have hbs := hbel.size
      generalize l[k] = x at *
      have hG2 := hG.alloc rdAtms_good (.cells #[.string x.n, .int .i64 x.o, .string x.v] 49)
      have hE := (show rdAtms (wr.alloc (.cells #[.string x.n, .int .i64 x.o, .string x.v] 49)) (fun b => True ∧ b < (wr.alloc (.cells #[.string x.n, .int .i64 x.o, .string x.v] 49)).heap.size ∧ u3.ownBlock ≠ some b) [x] (#[.slice (some ⟨wr.heap.size, 0, none⟩) 1 1] : Array Value).toList from by
        have := rd_single wr x 49 (fun b => b = wr.heap.size) rfl
        refine rdAtms_good.more this fun b hb => ⟨trivial, by rw [World.size_alloc, hb]; omega, fun hh => by have := (hG.lt b hh).2; omega⟩)
      have hN := Lib.hid (show wr.heap.size + 1 = (wr.alloc (.cells #[.string x.n, .int .i64 x.o, .string x.v] 49)).heap.size by rw [World.size_alloc])
      have HB2 := Lib.hid (hbel.alloc hbs (.cells #[.string x.n, .int .i64 x.o, .string x.v] 49))
      have hn1 : ((l.take k).map fun a => [a]).length + 1 ≤ maxLen := by rw [hl2]; unfold maxLen; omega
      have hn2 : (((l.take k).map fun a => [a]).length + 1) * 24 ≤ 140737488355328 := by rw [hl2]; omega
      have hbs2 : w.heap.size ≤ (wr.alloc (.cells #[.string x.n, .int .i64 x.o, .string x.v] 49)).heap.size := by rw [World.size_alloc]; omega
      clear hG hbel hl2
      go_wp2_with (at_builtin; refine wpList_grow1 (wr.alloc (.cells #[.string x.n, .int .i64 x.o, .string x.v] 49)) rfl _ _ 22 rfl rdAtms_good (by decide) (fun _ => True) w.heap.size 54 i0 _ 24 Tryz.underlying22 hi hz0 hz1 hz2 rfl u3 _ rfl hG2 [x] _ 54 hE _ hN.out rfl hn1 hn2 hbs2 ?_)
      intro v' w' hG' hgr
      have HB' := Lib.hid (grow_below hG2 hgr HB2.out (Nat.le_refl _) hbs2)
      clear hG2 hgr hE
      go_wp2
      go_roundw
      case rel => exact ⟨k + 1, by omega, by go_num, by rw [TS.out, List.map_take]; first | exact hG' | (rw [List.map_take] at hG'; exact hG'), HB'.out⟩
      case measure => simp [intOf]; omega
    · obtain rfl : k = l.length := by omega
      rw [List.take_length] at hG
      have hrd := hG.read rdAtms_good
      obtain ⟨A', cp', hv', _, _⟩ := hG.own
      rw [hv'] at hrd
      have K := Lib.hid (q4print_any _ _ _ _ wr hrd HZ.out)
      rw [List.length_map] at hv' K
      have HB := Lib.hid hbel
      subst hv'
      clear hG hbel hrd
      go_wp2_with fail
      refine K.out.mono ?_
      rintro e w3 ⟨rfl, hb3⟩
      go_wp2
      go_ret
      exact ⟨rfl, bel2 HB.out hb3 (Nat.le_refl _)⟩
end Go.Proofs.YtmlakjemgmeffaaGreatDoor
end

section
set_option maxRecDepth 100000
set_option linter.unusedVariables false
namespace Go.Proofs.YtmlakjemgmeffaaGreatDoor
open Go.RowKit Go.ChangeShapes Go.WideShapes Go.ChangeAt
def laidL : List (String × DataW Unit) := [("math/bits.deBruijn32tab", Rows.laid_math_bits_deBruijn32tab), ("math/bits.deBruijn64tab", Rows.laid_math_bits_deBruijn64tab), ("internal/strconv.uint64pow10", Rows.laid_internal_strconv_uint64pow10), ("unicode/utf8.acceptRanges", Rows.laid_unicode_utf8_acceptRanges), ("strconv.ErrRange", Rows.laid_strconv_ErrRange), ("strconv.ErrSyntax", Rows.laid_strconv_ErrSyntax), ("keelson/relation.signs", Rows.laid_keelson_relation_signs), ("unicode/utf8.first", Rows.laid_unicode_utf8_first)]
theorem g_pow : Tryz.prog.globalNamed "internal/strconv.uint64pow10" = some 6 := by kernel_rfl
theorem t_pow : (Tryz.prog.globals[6]?).map (·.type) = some 223 := by kernel_rfl
theorem c_pow : Tryz.prog.cellsOf 223 = 20 := by kernel_rfl
theorem c_u64 : Tryz.prog.cellsOf 198 = 1 := by kernel_rfl
theorem d_pow : (Rows.laid_internal_strconv_uint64pow10 : DataW Unit) = Lib.tabData .u64 Lib.pow10Tab := by kernel_rfl
theorem g_rng : Tryz.prog.globalNamed "strconv.ErrRange" = some 3 := by kernel_rfl
theorem t_rng : (Tryz.prog.globals[3]?).map (·.type) = some 129 := by kernel_rfl
theorem g_syn : Tryz.prog.globalNamed "strconv.ErrSyntax" = some 2 := by kernel_rfl
theorem t_syn : (Tryz.prog.globals[2]?).map (·.type) = some 129 := by kernel_rfl
theorem c_es : Tryz.prog.cellsOf 221 = 1 := by kernel_rfl
theorem c_str : Tryz.prog.cellsOf 9 = 1 := by kernel_rfl
theorem g_sgn : Tryz.prog.globalNamed "keelson/relation.signs" = some 0 := by kernel_rfl
theorem t_sgn : (Tryz.prog.globals[0]?).map (·.type) = some 119 := by kernel_rfl
theorem c_sgn : Tryz.prog.cellsOf 119 = 5 := by kernel_rfl
theorem d_sgn : (Rows.laid_keelson_relation_signs : DataW Unit) = strTab [[60, 60], [60, 61], [61], [62, 61], [62, 62]] := by kernel_rfl
theorem star : "*" ++ "errors.errorString" = "*errors.errorString" := by decide
theorem row_es (u : TypeId) (h : Tryz.prog.typeName? 3 u = some "*errors.errorString") : u = 219 :=
  typeName_ptr_named (nm := "errors.errorString") (by rw [star]; kernel_rfl) (by kernel_rfl) (by decide) u (by rw [star]; exact h)
theorem env_of {W : World} (h0 : laidMetH Tryz.prog laidL W) (hsh : W.ShapedOpen Tryz.prog) : EnvR W := by
  rw [MakeChecks.laidMetH_plain _ _ _ (by kernel_rfl)] at h0
  have h1 := h0.tail
  have h2 := h1.tail
  have h3 := h2.tail
  have h4 := h3.tail
  have h5 := h4.tail
  have h6 := h5.tail
  obtain ⟨a0, s0, hv0, -, -, -⟩ := laid_sentinel h4 g_rng t_rng Tryz.underlying129 row_es Tryz.underlying219 Tryz.underlying221 rfl rfl Tryz.underlying9 c_es c_str
  obtain ⟨a1, s1, hv1, -, -, -⟩ := laid_sentinel h5 g_syn t_syn Tryz.underlying129 row_es Tryz.underlying219 Tryz.underlying221 rfl rfl Tryz.underlying9 c_es c_str
  have hs := fun i z hi => strs_of_head g_sgn t_sgn Tryz.underlying119 Tryz.underlying9 c_str c_sgn (d_sgn ▸ h6) i z hi
  have hp := h2
  rw [d_pow] at hp
  exact ⟨⟨Tryz.laysM144.s1_3 W hsh, Lib.tabIs_of_head g_pow t_pow Tryz.underlying223 Tryz.underlying198 c_u64 c_pow hp, ⟨_, _, hv1⟩, ⟨_, _, hv0⟩⟩, ⟨hs 0 _ rfl, hs 1 _ rfl, hs 2 _ rfl, hs 3 _ rfl, hs 4 _ rfl⟩⟩
theorem own' : ownKnob Tryz.prog.godebug = none := by kernel_rfl
theorem door_os (os : Os) : (World.laidAll Tryz.prog os laidL).os = os := World.laidAll_os _ _ _
theorem door_shaped (os : Os) (args : Array Value) : ((World.laidAll Tryz.prog os laidL).forCall (fun _ _ => 0) ⟨#[], args, []⟩).Shaped Tryz.prog := World.shaped_of_ZipB (by kernel_rfl) (by kernel_rfl)
theorem door_met (os : Os) (args : Array Value) : laidMetH Tryz.prog laidL ((World.laidAll Tryz.prog os laidL).forCall (fun _ _ => 0) ⟨#[], args, []⟩).memory := by
  rw [MakeChecks.laidMetH_plain _ _ _ (by kernel_rfl)]
  exact laidMet_laidAll _ (by kernel_rfl) (by kernel_rfl)
end Go.Proofs.YtmlakjemgmeffaaGreatDoor
end
