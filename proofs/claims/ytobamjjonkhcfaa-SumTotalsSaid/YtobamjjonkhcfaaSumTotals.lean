/- keelsonlaw1.SumTotals: called with any arguments that can be read it returns true, and its arguments read as before. No condition. -/
import Derived.Test.YtobamjjonkhcfaaShown
import Derived.Test.YtobamjjonkhcfaaRefTot
import Derived.Test.YtobamjjonkhcfaaPost
import Derived.OpenShut
namespace Go.Proofs.Ytobamjjonkhcfaa.sumTotals
open Go.ChangeShapes Go.WideShapes Go.ChangeAt Go.RowKit

theorem walk_long (A : Option Addr) (n c : Nat) (A' : Option Addr) (m c' : Nat) (w : World) (h : 2000 < n ∨ 2000 < m) :
    Calls Try.prog 4 #[.slice A n c, .slice A' m c'] w fun e w' => e = .returned (.bool true) ∧ Below w.heap.size w w' := by
  by_cases hn : 2000 < n
  · have t1 : decide ((2000 : Int) < (n : Int)) = true := by simp; omega
    clear h hn
    go_enter Try.func4, Try.ntmps4
    go_wp2_with fail
    refine (shown_any _).mono ?_
    rintro e w1 ⟨rfl, hb1⟩
    go_wp2
    go_ret
    exact ⟨rfl, hb1⟩
  · have t1 : decide ((2000 : Int) < (n : Int)) = false := by simp; omega
    have t2 : decide ((2000 : Int) < (m : Int)) = true := by simp; omega
    clear h hn
    go_enter Try.func4, Try.ntmps4
    go_wp2_with fail
    refine (shown_any _).mono ?_
    rintro e w1 ⟨rfl, hb1⟩
    go_wp2
    go_ret
    exact ⟨rfl, hb1⟩
theorem walk_short (A : Option Addr) (n c : Nat) (l : List Int) (A' : Option Addr) (m c' : Nat) (l' : List Int) (w : World) (hr : Reads w w.heap.size 1 A n (ints l)) (hw : ∀ x ∈ l, InR x) (hr' : Reads w w.heap.size 1 A' m (ints l')) (hw' : ∀ x ∈ l', InR x) (hn : n ≤ 2000) (hm : m ≤ 2000) :
    Calls Try.prog 4 #[.slice A n c, .slice A' m c'] w fun e w' => e = .returned (.bool true) ∧ Below w.heap.size w w' := by
  have t1 : decide ((2000 : Int) < (n : Int)) = false := by simp; omega
  have t2 : decide ((2000 : Int) < (m : Int)) = false := by simp; omega
  have R := fun (W : World) (h : Below w.heap.size w W) => hr.below h
  have R' := fun (W : World) (h : Below w.heap.size w W) => hr'.below h
  have HR := Lib.hid R
  have HR' := Lib.hid R'
  have HW := Lib.hid hw
  have HW' := Lib.hid hw'
  clear R R' hr hr' hw hw'
  go_enter Try.func4, Try.ntmps4
  go_wp2_with fail
  refine (shown_any _).mono ?_
  rintro e w1 ⟨rfl, b1⟩
  go_wp2_with fail
  refine (Total_any _ _ _ w.heap.size l _ (HR.out _ b1) b1.size (by omega) HW.out).mono ?_
  rintro e w2 ⟨rfl, h2⟩
  have b2 := b1.trans (h2.mono b1.size)
  clear h2
  go_wp2_with fail
  refine (refTotal_any _ _ _ w.heap.size l _ (HR.out _ b2) (by omega) HW.out).mono ?_
  rintro e w3 ⟨rfl, rfl⟩
  go_wp2_with fail
  refine (Dot_any _ _ _ _ _ _ w.heap.size l l' _ (HR.out _ b2) (HR'.out _ b2) b2.size (by omega) (by omega) HW.out HW'.out).mono ?_
  rintro e w4 ⟨rfl, h4⟩
  have b4 := b2.trans (h4.mono b2.size)
  clear h4
  go_wp2_with fail
  refine (refDot_any _ _ _ _ _ _ l l' _ ((HR.out _ b4).more b4.size) ((HR'.out _ b4).more b4.size) (by omega) (by omega) HW.out HW'.out).mono ?_
  rintro e w5 ⟨rfl, h5⟩
  have b5 := b4.trans (h5.mono b4.size)
  clear h5
  go_wp2_with fail
  refine (Dot_any _ _ _ _ _ _ w.heap.size l l _ (HR.out _ b5) (HR.out _ b5) b5.size (by omega) (by omega) HW.out HW.out).mono ?_
  rintro e w6 ⟨rfl, h6⟩
  have b6 := b5.trans (h6.mono b5.size)
  clear h6
  go_wp2_with fail
  refine (refDot_any _ _ _ _ _ _ l l _ ((HR.out _ b6).more b6.size) ((HR.out _ b6).more b6.size) (by omega) (by omega) HW.out HW.out).mono ?_
  rintro e w7 ⟨rfl, h7⟩
  have b7 := b6.trans (h7.mono b6.size)
  clear h7
  go_wp2
  go_ret
  exact ⟨rfl, b7⟩
theorem walk (A : Option Addr) (n c : Nat) (l : List Int) (A' : Option Addr) (m c' : Nat) (l' : List Int) (w : World) (hr : Reads w w.heap.size 1 A n (ints l)) (hw : ∀ x ∈ l, InR x) (hr' : Reads w w.heap.size 1 A' m (ints l')) (hw' : ∀ x ∈ l', InR x) :
    Calls Try.prog 4 #[.slice A n c, .slice A' m c'] w fun e w' => e = .returned (.bool true) ∧ Below w.heap.size w w' := by
  by_cases h : 2000 < n ∨ 2000 < m
  · exact walk_long A n c A' m c' w h
  · exact walk_short A n c l A' m c' l' w hr hw hr' hw' (by omega) (by omega)

set_option maxRecDepth 100000 in
theorem lifted (os : Os) (started : os.Started) (H : Type) (enc : TypeId × Value → H) :
    ReturnsInHanded {} Try.checked os 4 .any (Rows.sumTotalsSpec.pre6 enc Try.prog Try.f4 Rows.sumTotalsRow.domain false) (Rows.sumTotalsSpec.post enc Try.prog Try.f4 false true false false) := by
  refine returnsInHanded_of_change (C := Try.checked) own_none started (by kernel_rfl) Try.func4
    (ChangeSpec.witness6 (enc := enc) (C := Try.checked) false ⟨#[], #[.slice none 0 0, .slice none 0 0], []⟩ 8 (by kernel_rfl) (by kernel_rfl) (by kernel_rfl) (by kernel_rfl)) ?_
  intro W base args ds gs before hval0 hW hcnd _
  have hval : ∀ (j : Nat) t v, Try.f4.params[j]? = some t → args[j]? = some v → Value.okWide Try.prog W .any base t v := hval0
  have hW' := hW
  obtain ⟨p, q, hA0, _, _, _, _⟩ := hW
  have hA : DataW.TrodAll enc Try.prog W 0 (fun _ => true) true Try.f4.params.toList args.toList ds p := hA0
  rw [Try.params4] at hA hval
  obtain ⟨v0, vs0, d0, ds0, p0, q0, hargs, rfl, rfl, h0, r0⟩ := trodAll_cons hA
  obtain ⟨v1, vs1, d1, ds1, p1, q1, rfl, rfl, rfl, h1, r1⟩ := trodAll_cons r0
  obtain ⟨rfl, rfl, rfl⟩ := trodAll_nil r1
  obtain rfl : args = #[v0, v1] := by cases args; simp_all
  obtain ⟨A0, n0, c0, l0, rfl, hr0, hw0⟩ := open_ints_arg Try.underlying27 Try.underlying3 (by kernel_rfl) (hval 0 27 v0 rfl rfl) h0
  obtain ⟨A1, n1, c1, l1, rfl, hr1, hw1⟩ := open_ints_arg Try.underlying27 Try.underlying3 (by kernel_rfl) (hval 1 27 v1 rfl rfl) h1
  refine (walk A0 n0 c0 l0 A1 n1 c1 l1 W hr0 hw0 hr1 hw1).mono fun e W' ⟨he, hb⟩ => ?_
  subst he
  refine ⟨_, rfl, law_post hW' rfl rfl rfl rfl rfl Try.underlying4 laid_out ?_ hb⟩
  rw [Try.params4]
  intro t ht
  simp at ht
  subst ht
  exact ⟨by kernel_rfl, of_decide_eq_true (by kernel_rfl)⟩

theorem over : Rows.sumTotalsRow.holds Try.pinned (OpenSpec.ofChange Rows.sumTotalsSpec) :=
  OpenClaim.holds_of_wide 4 Try.f4 rfl rfl rfl rfl rfl rfl rfl ⟨rfl, rfl, rfl, rfl, rfl⟩ rfl rfl rfl rfl rfl (by kernel_rfl) Try.func4 (by kernel_rfl)
    (of_decide_eq_true (by kernel_rfl)) (by unfold Func.isWrapper; first | (rw [if_pos (by decide +kernel)]; kernel_rfl) | (rw [if_neg (by decide +kernel)]; exact ⟨rfl, rfl⟩))
    (fun os started H enc _ => lifted os started H enc)

theorem proved : Rows.SumTotalsSaid := over
#print axioms proved
end Go.Proofs.Ytobamjjonkhcfaa.sumTotals
