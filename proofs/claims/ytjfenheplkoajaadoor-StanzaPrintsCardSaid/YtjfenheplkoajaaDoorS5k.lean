/- The contracts of the program's place and Get. No condition. -/
import Derived.Test.YtjfenheplkoajaaDoorS5c
set_option maxRecDepth 100000
set_option linter.unusedVariables false
set_option linter.unusedSimpArgs false
namespace Go.Proofs.YtjfenheplkoajaaDoor
open Go.RowKit
/-- The place of the first field of a name, told from i on; -1, if there is none. -/
def plX : List Fd → ByteArray → Nat → Int
  | [], _, _ => -1
  | f :: r, n, i => if f.n = n then i else plX r n (i + 1)
theorem pl_at {l : List Fd} {n : ByteArray} {k : Nat} (hk : k < l.length) : (l[k].n = n → plX (l.drop k) n k = k) ∧ (l[k].n ≠ n → plX (l.drop k) n k = plX (l.drop (k + 1)) n (k + 1)) := by
  rw [List.drop_eq_getElem_cons hk]
  exact ⟨fun h => if_pos h, fun h => if_neg h⟩
theorem pl_no {n : ByteArray} : ∀ {l : List Fd} {i : Nat}, getV l n = false → plX l n i = -1 ∧ fstV l n = { data := #[] } ∧ ∀ v, putF n v l = l ++ [⟨n, v⟩]
  | [], _, _ => ⟨rfl, rfl, fun _ => rfl⟩
  | f :: r, i, h => by
    rw [getV_cons, Bool.or_eq_false_iff, decide_eq_false_iff_not] at h
    obtain ⟨a, b, c⟩ := pl_no (i := i + 1) h.2
    exact ⟨(if_neg h.1).trans a, (if_neg h.1).trans b, fun v => (if_neg h.1).trans (by rw [c]; rfl)⟩
theorem pl_yes {n : ByteArray} : ∀ {l : List Fd} {i : Nat}, getV l n = true → ∃ k, ∃ hk : k < l.length, plX l n i = ((i + k : Nat) : Int) ∧ l[k].n = n ∧ fstV l n = l[k].v ∧ ∀ v, putF n v l = l.set k ⟨l[k].n, v⟩
  | [], _, h => by simp [getV] at h
  | f :: r, i, h => by
    by_cases hf : f.n = n
    · exact ⟨0, by simp, if_pos hf, hf, if_pos hf, fun v => if_pos hf⟩
    · rw [getV_cons, decide_eq_false hf, Bool.false_or] at h
      obtain ⟨k, hk, a, b, c, d⟩ := pl_yes (i := i + 1) h
      exact ⟨k + 1, by simp only [List.length_cons]; omega, (if_neg hf).trans (by rw [a]; congr 1; omega), b, (if_neg hf).trans c, fun v => (if_neg hf).trans (by rw [d]; rfl)⟩
set_option maxHeartbeats 1000000 in
theorem place1_any (f : Fd) (nm : ByteArray) (q : Addr) (w : World) (hq : q.block < w.heap.size) (hc : w.cell? q = some (.string nm)) :
    Calls Tryd.prog 56 #[f.val, .pointer (some q)] w fun e w' => e = .returned (.bool (decide (f.n = nm))) ∧ Below w.heap.size w w' := by
  have B1 := (Below.refl w.heap.size w).alloc (Nat.le_refl _) (.cells #[.string f.n, .string f.v] 54)
  have hc1 := ((B1.cell hq).trans hc)
  have HB := Lib.hid B1
  have he := str_eq f.n nm
  generalize decide (f.n = nm) = d at *
  clear B1 hc
  unfold Fd.val
  go_enter Tryd.func56, Tryd.ntmps56
  go_wp2
  go_ret
  exact ⟨rfl, HB.out⟩
set_option maxHeartbeats 2000000 in
theorem ixFd_any (A : Option Addr) (n c : Nat) (l : List Fd) (nm : ByteArray) (q : Addr) (w : World) (h : rdFds w (lt_ w.heap.size) l [.slice A n c]) (hq : q.block < w.heap.size) (hc : w.cell? q = some (.string nm)) :
    Calls Tryd.prog 55 #[.slice A n c, .func (.func 56) #[] #[.pointer (some q)]] w fun e w' => e = .returned (.int .i64 (plX l nm 0)) ∧ Below w.heap.size w w' := by
  have hcf : ∀ (args : Array Value) (w : World), (callFunc 56 args).run Tryd.prog w = .ok (.enter 56 args) w := fun _ _ => by kernel_rfl
  obtain ⟨rfl, hnc, hcm, _⟩ := rdFds_at h
  have hcm' : c ≤ 9223372036854775807 := hcm
  have H := Lib.hid h
  have HQ := Lib.hid hq
  have HC := Lib.hid hc
  clear h hcm hc hq
  go_enter Tryd.func55, Tryd.ntmps55
  go_wp2
  go_loopw [8] (fun i wr => ∃ k : Nat, k ≤ l.length ∧ i = .int .i64 k ∧ plX l nm 0 = plX (l.drop k) nm k ∧ Below w.heap.size w wr) (fun i _ => l.length - (intOf i).toNat)
  case atStart => exact ⟨0, Nat.zero_le _, rfl, rfl, Below.refl _ _⟩
  case round =>
    obtain ⟨k, hk, rfl, h1, hbel⟩ := hrel
    have H1 := Lib.hid h1
    have HB := Lib.hid hbel
    clear h1
    by_cases hlt : k < l.length
    · obtain ⟨_, _, _, ha⟩ := rdFds_at (rdFds_good.below H.out hbel)
      obtain ⟨ad, rfl, had, c0, c1⟩ := ha k hlt
      have hqr : q.block < wr.heap.size := Nat.lt_of_lt_of_le HQ.out hbel.size
      have CL := Lib.hid (place1_any l[k] nm q wr hqr ((hbel.cell HQ.out).trans HC.out))
      have PA := Lib.hid (pl_at (l := l) (n := nm) hlt)
      clear ha hbel hqr
      have SZ := Lib.hid HB.out.size
      by_cases he : l[k].n = nm
      · have X := Lib.hid (PA.out.1 he)
        have DT := Lib.hid (decide_eq_true he)
        clear he
        go_wp2_with fail
        refine CL.out.mono ?_
        rw [DT.out]
        rintro e w' ⟨rfl, hb2⟩
        have HB2 := Lib.hid hb2
        clear hb2
        go_wp2
        go_ret
        exact ⟨by rw [H1.out, X.out]; try rfl, HB.out.trans (HB2.out.mono SZ.out)⟩
      · have X := Lib.hid (PA.out.2 he)
        have DT := Lib.hid (decide_eq_false he)
        clear he
        go_wp2_with fail
        refine CL.out.mono ?_
        rw [DT.out]
        rintro e w' ⟨rfl, hb2⟩
        have HB2 := Lib.hid hb2
        clear hb2
        go_wp2
        go_roundw
        case rel => exact ⟨k + 1, by omega, by go_num, by rw [H1.out, X.out], HB.out.trans (HB2.out.mono SZ.out)⟩
        case measure => simp [intOf]; omega
    · have X := Lib.hid (show plX l nm 0 = -1 by rw [H1.out, List.drop_eq_nil_of_le (by omega)]; rfl)
      go_wp2
      go_ret
      exact ⟨by rw [X.out]; try rfl, HB.out⟩
set_option maxHeartbeats 2000000 in
theorem place_any (A : Option Addr) (n c : Nat) (l : List Fd) (nm : ByteArray) (w : World) (h : rdFds w (lt_ w.heap.size) l [.slice A n c]) :
    Calls Tryd.prog 39 #[.slice A n c, .string nm] w fun e w' => e = .returned (.int .i64 (plX l nm 0)) ∧ Below w.heap.size w w' := by
  have B1 := (Below.refl w.heap.size w).alloc (Nat.le_refl _) (.cells #[.string nm] 9)
  have hq : (⟨w.heap.size, 0, none⟩ : Addr).block < (w.alloc (.cells #[.string nm] 9)).heap.size := by rw [World.size_alloc]; exact Nat.lt_succ_self _
  have hc : (w.alloc (.cells #[.string nm] 9)).cell? ⟨w.heap.size, 0, none⟩ = some (.string nm) := by simp [go_sem]
  have C := Lib.hid (ixFd_any A n c l nm ⟨w.heap.size, 0, none⟩ (w.alloc (.cells #[.string nm] 9)) (rdFds_good.more (rdFds_good.below h B1) fun b hb => Nat.lt_of_lt_of_le hb B1.size) hq hc)
  have HB := Lib.hid B1
  have hmf : ∀ (fn : Fn) (first cap : Array Value) (w : World), (Instr.makeFunc fn first cap).run Tryd.prog w = .ok (.func fn first cap) w := fun _ _ _ _ => rfl
  clear h B1 hq hc
  go_enter Tryd.func39, Tryd.ntmps39
  go_wp2_with (go_at_call 55; (with_reducible refine C.out.mono ?_); rintro e w' ⟨rfl, hb2⟩)
  have HB2 := Lib.hid hb2
  clear hb2
  go_wp2
  go_ret
  exact ⟨rfl, HB.out.trans (HB2.out.mono HB.out.size)⟩
set_option maxHeartbeats 2000000 in
theorem get5_any (A : Option Addr) (n c : Nat) (l : List Fd) (nm : ByteArray) (w : World) (h : rdFds w (lt_ w.heap.size) l [.slice A n c]) :
    Calls Tryd.prog 21 #[.slice A n c, .string nm] w fun e w' => e = .returned (.tuple #[.string (fstV l nm), .bool (getV l nm)]) ∧ Below w.heap.size w w' := by
  obtain ⟨rfl, hnc, hcm, _⟩ := rdFds_at h
  have hcm' : c ≤ 9223372036854775807 := hcm
  have C := Lib.hid (place_any A l.length c l nm w h)
  have H := Lib.hid h
  clear h hcm
  cases hg : getV l nm
  · obtain ⟨e1, e2, _⟩ := pl_no (i := 0) hg
    rw [e1] at C
    rw [e2]
    clear e1 e2 hg
    go_enter Tryd.func21, Tryd.ntmps21
    go_wp2_with (go_at_call 39; (with_reducible refine C.out.mono ?_); rintro e w' ⟨rfl, hb2⟩)
    go_ret2
    exact ⟨rfl, hb2⟩
  · obtain ⟨k, hk, e1, _, e2, _⟩ := pl_yes (i := 0) hg
    rw [Nat.zero_add] at e1
    rw [e1] at C
    rw [e2]
    clear e1 e2 hg
    have t0 : ¬ ((k : Int) < 0) := by omega
    go_enter Tryd.func21, Tryd.ntmps21
    go_wp2_with (go_at_call 39; (with_reducible refine C.out.mono ?_); rintro e w' ⟨rfl, hb2⟩)
    obtain ⟨_, _, _, ha⟩ := rdFds_at (rdFds_good.below H.out hb2)
    obtain ⟨ad, rfl, had, c0, c1⟩ := ha k hk
    have HB2 := Lib.hid hb2
    clear hb2 ha
    go_wp2
    go_ret2
    exact ⟨rfl, HB2.out⟩
end Go.Proofs.YtjfenheplkoajaaDoor
