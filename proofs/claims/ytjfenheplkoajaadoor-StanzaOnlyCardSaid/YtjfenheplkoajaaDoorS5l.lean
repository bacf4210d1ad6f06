/- The contracts of the program's Clone and Put. -/
import Derived.Test.YtjfenheplkoajaaDoorS5k
import Derived.Lib.SliceRun
set_option maxRecDepth 100000
set_option linter.unusedVariables false
set_option linter.unusedSimpArgs false
namespace Go.Proofs.YtjfenheplkoajaaDoor
open Go.RowKit
set_option maxHeartbeats 2000000 in
theorem clone5_any (A : Option Addr) (n c : Nat) (l : List Fd) (w : World) (h : rdFds w (lt_ w.heap.size) l [.slice A n c]) (hl : l.length ≤ 100000) :
    Calls Tryd.prog 40 #[.slice A n c] w fun e w' => (∃ v', e = .returned v' ∧ Grow rdFd 2 (fun _ => True) w' w.heap.size 54 v' l) ∧ Below w.heap.size w w' := by
  have qT : ∀ (w : World) (a : Option Addr) (n c n' c' : Nat), (binOp .eql 39 (.slice a n c) (.slice none n' c')).run Tryd.prog w = .ok (.bool a.isNone) w := fun w a n c n' c' => Lib.run_eql_slice_nil w _ _ a n c n' c' Tryd.underlying39
  obtain ⟨i0, hi, hz0, hz1, hz2⟩ := info_parts fd_info
  obtain ⟨rfl, hnc, hcm, hat⟩ := rdFds_at h
  have hcm' : c ≤ 9223372036854775807 := hcm
  cases A with
  | none =>
    obtain rfl : l = [] := by
      rcases Nat.eq_zero_or_pos l.length with h0 | h0
      · exact List.eq_nil_of_length_eq_zero h0
      · obtain ⟨_, e, _⟩ := hat 0 h0
        cases e
    clear h hat hcm
    go_enter Tryd.func40, Tryd.ntmps40
    go_wp2
    go_ret
    exact ⟨⟨_, rfl, Grow.nil _ _ _ _⟩, Below.refl _ _⟩
  | some ad =>
    have B1 := (Below.refl w.heap.size w).alloc (Nat.le_refl _) (.cells #[] 54)
    have hG := Grow.empty (E := rdFd) (sz := 2) (fun _ => True) (W := w.alloc (.cells #[] 54)) (base := w.heap.size) (heap_alloc_new w _) (Nat.le_refl _)
    have hX := rdFds_good.below h B1
    have hn1 : ([] : List Fd).length + l.length ≤ maxLen := by simp only [List.length_nil]; unfold maxLen; omega
    have hn2 : (([] : List Fd).length + l.length) * 32 ≤ 140737488355328 := by simp only [List.length_nil]; omega
    have hS : ∀ b, lt_ w.heap.size b → True ∧ b < (w.alloc (.cells #[] 54)).heap.size ∧ (Value.slice (some ⟨w.heap.size, 0, none⟩) 0 0).ownBlock ≠ some b := fun b hb => ⟨trivial, by rw [World.size_alloc]; unfold lt_ at hb; omega, fun hh => by simp only [Value.ownBlock, Option.some.injEq] at hh; unfold lt_ at hb; omega⟩
    have hbs : w.heap.size ≤ (w.alloc (.cells #[] 54)).heap.size := by rw [World.size_alloc]; omega
    have HB1 := Lib.hid B1
    clear h B1 hcm hat
    go_enter Tryd.func40, Tryd.ntmps40
    go_wp2_with (at_builtin; refine wpList_growN _ rfl _ _ 39 39 rfl rdFd_good (by decide) (fun _ => True) w.heap.size 54 54 i0 (.agg #[.string { data := #[] }, .string { data := #[] }]) 32 Tryd.underlying39 Tryd.underlying39 hi hz0 hz1 hz2 rfl _ _ rfl hG l _ (some ad) l.length c rfl hX hS hn1 hn2 hbs ?_)
    intro v' w1 hG1 hg1
    have HB2 := Lib.hid (grow_below hG hg1 HB1.out (Nat.le_refl _) hbs)
    have HG := Lib.hid hG1
    clear hG hX hg1 hn1 hn2 hS hbs hG1
    go_wp2
    go_ret
    exact ⟨⟨_, rfl, HG.out⟩, HB2.out⟩
set_option maxHeartbeats 2000000 in
theorem put5_any (A : Option Addr) (n c : Nat) (l : List Fd) (nm v : ByteArray) (w : World) (h : rdFds w (lt_ w.heap.size) l [.slice A n c]) (hl : l.length ≤ 100000) :
    Calls Tryd.prog 24 #[.slice A n c, .string nm, .string v] w fun e w' => (∃ A n c, e = .returned (.slice A n c) ∧ rdFds w' (lt_ w'.heap.size) (putF nm v l) [.slice A n c]) ∧ Below w.heap.size w w' := by
  obtain ⟨i0, hi, hz0, hz1, hz2⟩ := info_parts fd_info
  have C := Lib.hid (clone5_any A n c l w h hl)
  have P := Lib.hid (fun (w1 : World) (hb : Below w.heap.size w w1) => place_any A n c l nm w1 (rdFds_good.more (rdFds_good.below h hb) fun b hh => Nat.lt_of_lt_of_le hh hb.size))
  have HL := Lib.hid hl
  clear h hl
  cases hg : getV l nm
  · obtain ⟨e1, _, e2⟩ := pl_no (i := 0) hg
    rw [e1] at P
    have X := Lib.hid (e2 v)
    clear e1 e2 hg
    go_enter Tryd.func24, Tryd.ntmps24
    go_wp2_with fail
    refine C.out.mono ?_
    rintro e w1 ⟨⟨v1, rfl, hG1⟩, hb1⟩
    obtain ⟨A1, c1, rfl, hnc1, hcm1⟩ := hG1.own
    have hcm1' : c1 ≤ 9223372036854775807 := hcm1
    have HG1 := Lib.hid hG1
    have HB1 := Lib.hid hb1
    clear hG1 hb1 hcm1
    go_wp2_with fail
    refine (P.out _ HB1.out).mono ?_
    rintro e w2 ⟨rfl, hb2⟩
    have hG := HG1.out.below rdFd_good hb2
    have HB2 := Lib.hid (HB1.out.trans (hb2.mono HB1.out.size))
    have hbs := HB2.out.size
    clear hb2
    have hE := (show rdFd w2 (fun b => True ∧ b < w2.heap.size ∧ (Value.slice A1 l.length c1).ownBlock ≠ some b) ⟨nm, v⟩ (#[.string nm, .string v] : Array Value).toList from rfl)
    have hn1 : l.length + 1 ≤ maxLen := by have := HL.out; unfold maxLen; omega
    have hn2 : (l.length + 1) * 32 ≤ 140737488355328 := by have := HL.out; omega
    go_wp2_with (at_builtin; refine wpList_grow1 _ rfl _ _ 39 rfl rdFd_good (by decide) (fun _ => True) w.heap.size 54 i0 (.agg #[.string { data := #[] }, .string { data := #[] }]) 32 Tryd.underlying39 hi hz0 hz1 hz2 rfl _ _ rfl hG ⟨nm, v⟩ _ 54 hE _ rfl rfl hn1 hn2 hbs ?_)
    intro v' w3 hG2 hg2
    have HB3 := Lib.hid (grow_below hG hg2 HB2.out (Nat.le_refl _) hbs)
    clear hG hg2 hE
    obtain ⟨A2, c2, rfl, _, _⟩ := hG2.own
    go_wp2
    go_ret
    exact ⟨⟨_, _, _, rfl, by rw [X.out]; exact hG2.read rdFd_good⟩, HB3.out⟩
  · obtain ⟨k, hk, e1, _, _, e2⟩ := pl_yes (i := 0) hg
    rw [Nat.zero_add] at e1
    rw [e1] at P
    have X := Lib.hid (e2 v)
    clear e1 e2 hg
    have t0 : (0 : Int) ≤ (k : Int) := by omega
    have t1 : (k : Int) < (l.length : Int) := by omega
    go_enter Tryd.func24, Tryd.ntmps24
    go_wp2_with fail
    refine C.out.mono ?_
    rintro e w1 ⟨⟨v1, rfl, hG1⟩, hb1⟩
    obtain ⟨A1, c1, rfl, hnc1, hcm1⟩ := hG1.own
    have hcm1' : c1 ≤ 9223372036854775807 := hcm1
    have HG1 := Lib.hid hG1
    have HB1 := Lib.hid hb1
    clear hG1 hb1 hcm1
    go_wp2_with fail
    refine (P.out _ HB1.out).mono ?_
    rintro e w2 ⟨rfl, hb2⟩
    have HG := Lib.hid (HG1.out.below rdFd_good hb2)
    have HB2 := Lib.hid (HB1.out.trans (hb2.mono HB1.out.size))
    have hat := (rdFds_at (HG.out.read rdFd_good)).2.2.2
    obtain ⟨ad, rfl, had, c0, cv⟩ := hat k hk
    obtain ⟨e0, hba, hbb, _, hfz⟩ := HG.out.spot
    have f0 : w2.frozen? ⟨(ad.add (k * 2)).block, (ad.add (k * 2)).off + 1, none⟩ = false := by rw [blk_add]; exact hfz _
    obtain ⟨S1, S2⟩ := HG.out.set rdFd_good hk (j := 1) (by decide) (.string v) ⟨l[k].n, v⟩ (fun cs hcs => by rw [show cs = l[k].cells from hcs]; rfl)
    rw [← off2_add ad (k * 2) 1 (by omega)] at S1
    have R1 := Lib.hid (S1.read rdFd_good)
    have R2 := Lib.hid (set_below HB2.out (a := ⟨(ad.add (k * 2)).block, (ad.add (k * 2)).off + 1, none⟩) (by rw [blk_add]; exact hba) (.string v))
    clear S1 S2 e0 hfz hba hbb hb2 hat
    go_wp2
    go_ret
    exact ⟨⟨_, _, _, rfl, by rw [X.out]; first | exact R1.out | (have := R1.out; rw [List.length_set] at this; exact this)⟩, R2.out⟩
end Go.Proofs.YtjfenheplkoajaaDoor
