/- keelsonlaw1.SumOrders: called with any arguments that can be read it returns true, and its arguments read as before. No condition. -/
import Derived.Test.YtobamjjonkhcfaaOrdWalk0
import Derived.Test.YtobamjjonkhcfaaOrdWalk1
import Derived.Test.YtobamjjonkhcfaaOrdWalk2
import Derived.Test.YtobamjjonkhcfaaPost
import Derived.Test.YtobamjjonkhcfaaPostC
import Derived.OpenShut
namespace Go.Proofs.Ytobamjjonkhcfaa.sumOrders
open Go.ChangeShapes Go.WideShapes Go.ChangeAt Go.RowKit

theorem walk (a0 a1 a2 a3 a4 : Int) (b0 b1 b2 b3 b4 : Int) (c0 c1 c2 c3 c4 : Int) (w : World) :
    Calls Try.prog 7 #[.agg #[.int .i64 a0, .int .i64 a1, .int .i64 a2, .int .i64 a3, .int .i64 a4], .agg #[.int .i64 b0, .int .i64 b1, .int .i64 b2, .int .i64 b3, .int .i64 b4], .agg #[.int .i64 c0, .int .i64 c1, .int .i64 c2, .int .i64 c3, .int .i64 c4]] w fun e w' => e = .returned (.bool true) ∧ Below w.heap.size w w' := by
  have gx := cmpL_range [a0, a1, a2, a3, a4] [b0, b1, b2, b3, b4]
  have gy := cmpL_range [b0, b1, b2, b3, b4] [c0, c1, c2, c3, c4]
  have gz := cmpL_range [a0, a1, a2, a3, a4] [c0, c1, c2, c3, c4]
  have ht := cmpL_trans [a0, a1, a2, a3, a4] [b0, b1, b2, b3, b4] [c0, c1, c2, c3, c4] rfl rfl
  have hv : 1 ≤ cmpL [a0, a1, a2, a3, a4] [b0, b1, b2, b3, b4] ∨ (cmpL [a0, a1, a2, a3, a4] [b0, b1, b2, b3, b4] ≤ 0 ∧ 1 ≤ cmpL [b0, b1, b2, b3, b4] [c0, c1, c2, c3, c4]) ∨ (cmpL [a0, a1, a2, a3, a4] [b0, b1, b2, b3, b4] ≤ 0 ∧ cmpL [b0, b1, b2, b3, b4] [c0, c1, c2, c3, c4] ≤ 0 ∧ cmpL [a0, a1, a2, a3, a4] [c0, c1, c2, c3, c4] ≤ 0) := by
    by_cases h1 : cmpL [a0, a1, a2, a3, a4] [b0, b1, b2, b3, b4] ≤ 0
    · by_cases h2 : cmpL [b0, b1, b2, b3, b4] [c0, c1, c2, c3, c4] ≤ 0
      · exact .inr (.inr ⟨h1, h2, ht h1 h2⟩)
      · exact .inr (.inl ⟨h1, by omega⟩)
    · exact .inl (by omega)
  have heq : ∀ W, (Op.equalIn 10000 32 (.agg #[.int .i64 a0, .int .i64 a1, .int .i64 a2, .int .i64 a3, .int .i64 a4]) (.agg #[.int .i64 b0, .int .i64 b1, .int .i64 b2, .int .i64 b3, .int .i64 b4])).run Try.prog W = .ok (cmpL [a0, a1, a2, a3, a4] [b0, b1, b2, b3, b4] == 0) W := by
    intro W
    have e : ([a0, a1, a2, a3, a4] == [b0, b1, b2, b3, b4]) = (cmpL [a0, a1, a2, a3, a4] [b0, b1, b2, b3, b4] == 0) := by
      rw [Bool.eq_iff_iff, beq_iff_eq, beq_iff_eq]
      exact (cmpL_zero [a0, a1, a2, a3, a4] [b0, b1, b2, b3, b4] rfl).symm
    rw [← e]
    exact eq_five _ _ _ _ _ _ _ _ _ _ W
  have CBA : ∀ W, Calls Try.prog 20 #[.agg #[.int .i64 b0, .int .i64 b1, .int .i64 b2, .int .i64 b3, .int .i64 b4], .agg #[.int .i64 a0, .int .i64 a1, .int .i64 a2, .int .i64 a3, .int .i64 a4]] W fun e w' => e = .returned (.int .i64 (-cmpL [a0, a1, a2, a3, a4] [b0, b1, b2, b3, b4])) ∧ Below W.heap.size W w' := by
    intro W
    have := compare_five b0 b1 b2 b3 b4 a0 a1 a2 a3 a4 W
    rwa [cmpL_neg [a0, a1, a2, a3, a4] [b0, b1, b2, b3, b4]] at this
  rcases best_three [a0, a1, a2, a3, a4] [b0, b1, b2, b3, b4] [c0, c1, c2, c3, c4] rfl rfl with ⟨hk, r0, r1, r2⟩ | ⟨hk, r0, r1, r2⟩ | ⟨hk, r0, r1, r2⟩
  · exact walk_0 a0 a1 a2 a3 a4 b0 b1 b2 b3 b4 c0 c1 c2 c3 c4 w _ _ _ hv hk gx.1 gx.2 gy.1 gy.2 gz.1 gz.2 heq r0 r1 r2 (compare_five _ _ _ _ _ _ _ _ _ _) (compare_five _ _ _ _ _ _ _ _ _ _) (compare_five _ _ _ _ _ _ _ _ _ _) CBA
  · exact walk_1 a0 a1 a2 a3 a4 b0 b1 b2 b3 b4 c0 c1 c2 c3 c4 w _ _ _ hv hk gx.1 gx.2 gy.1 gy.2 gz.1 gz.2 heq r0 r1 r2 (compare_five _ _ _ _ _ _ _ _ _ _) (compare_five _ _ _ _ _ _ _ _ _ _) (compare_five _ _ _ _ _ _ _ _ _ _) CBA
  · exact walk_2 a0 a1 a2 a3 a4 b0 b1 b2 b3 b4 c0 c1 c2 c3 c4 w _ _ _ hv hk gx.1 gx.2 gy.1 gy.2 gz.1 gz.2 heq r0 r1 r2 (compare_five _ _ _ _ _ _ _ _ _ _) (compare_five _ _ _ _ _ _ _ _ _ _) (compare_five _ _ _ _ _ _ _ _ _ _) CBA

set_option maxRecDepth 100000 in
theorem lifted (os : Os) (started : os.Started) (H : Type) (enc : TypeId × Value → H) :
    ReturnsInHanded {} Try.checked os 7 .any (Rows.sumOrdersSpec.pre6 enc Try.prog Try.f7 Rows.sumOrdersRow.domain false) (Rows.sumOrdersSpec.post enc Try.prog Try.f7 false true false false) := by
  refine returnsInHanded_of_change (C := Try.checked) own_none started (by kernel_rfl) Try.func7
    (ChangeSpec.witness6 (enc := enc) (C := Try.checked) false ⟨#[], #[.agg #[.int .i64 0, .int .i64 0, .int .i64 0, .int .i64 0, .int .i64 0], .agg #[.int .i64 0, .int .i64 0, .int .i64 0, .int .i64 0, .int .i64 0], .agg #[.int .i64 0, .int .i64 0, .int .i64 0, .int .i64 0, .int .i64 0]], []⟩ 8 (by kernel_rfl) (by kernel_rfl) (by kernel_rfl) (by kernel_rfl)) ?_
  intro W base args ds gs before hval0 hW hcnd _
  have hval : ∀ (j : Nat) t v, Try.f7.params[j]? = some t → args[j]? = some v → Value.okWide Try.prog W .any base t v := hval0
  have hW' := hW
  obtain ⟨p, q, hA0, _, _, _, _⟩ := hW
  have hA : DataW.TrodAll enc Try.prog W 0 (fun _ => true) true Try.f7.params.toList args.toList ds p := hA0
  rw [Try.params7] at hA hval
  obtain ⟨v0, vs0, d0, ds0, p0, q0, hargs, rfl, rfl, h0, r0⟩ := trodAll_cons hA
  obtain ⟨v1, vs1, d1, ds1, p1, q1, rfl, rfl, rfl, h1, r1⟩ := trodAll_cons r0
  obtain ⟨v2, vs2, d2, ds2, p2, q2, rfl, rfl, rfl, h2, r2⟩ := trodAll_cons r1
  obtain ⟨rfl, rfl, rfl⟩ := trodAll_nil r2
  obtain rfl : args = #[v0, v1, v2] := by cases args; simp_all
  obtain ⟨x00, x01, x02, x03, x04, rfl, _⟩ := open_cost_arg (hval 0 32 v0 rfl rfl) h0
  obtain ⟨x10, x11, x12, x13, x14, rfl, _⟩ := open_cost_arg (hval 1 32 v1 rfl rfl) h1
  obtain ⟨x20, x21, x22, x23, x24, rfl, _⟩ := open_cost_arg (hval 2 32 v2 rfl rfl) h2
  refine (walk x00 x01 x02 x03 x04 x10 x11 x12 x13 x14 x20 x21 x22 x23 x24 W ).mono fun e W' ⟨he, hb⟩ => ?_
  subst he
  refine ⟨_, rfl, law_post hW' rfl rfl rfl rfl rfl Try.underlying4 laid_out ?_ hb⟩
  rw [Try.params7]
  intro t ht
  simp at ht
  subst ht
  exact ⟨by kernel_rfl, of_decide_eq_true (by kernel_rfl)⟩

theorem over : Rows.sumOrdersRow.holds Try.pinned (OpenSpec.ofChange Rows.sumOrdersSpec) :=
  OpenClaim.holds_of_wide 7 Try.f7 rfl rfl rfl rfl rfl rfl rfl ⟨rfl, rfl, rfl, rfl, rfl⟩ rfl rfl rfl rfl rfl (by kernel_rfl) Try.func7 (by kernel_rfl)
    (of_decide_eq_true (by kernel_rfl)) (by unfold Func.isWrapper; first | (rw [if_pos (by decide +kernel)]; kernel_rfl) | (rw [if_neg (by decide +kernel)]; exact ⟨rfl, rfl⟩))
    (fun os started H enc _ => lifted os started H enc)

theorem proved : Rows.SumOrdersSaid := over
#print axioms proved
end Go.Proofs.Ytobamjjonkhcfaa.sumOrders
