/- Costs, and slices of costs, that come in: their numbers, and where they lie. -/
import Derived.Test.YtobamjjonkhcfaaPost
import Derived.Test.YtobamjjonkhcfaaBest
import Derived.Deep.Slices
import Derived.Deep.Fields
namespace Go.Proofs.Ytobamjjonkhcfaa
open Go.RowKit Go.WideShapes Go.ChangeShapes Go.ChangeAt Go.Deep
section
variable {H : Type} {enc : TypeId × Value → H} {w : World} {base : Nat} {spare : Nat → Bool} {held : Bool}
theorem five_of_trod {n : Nat} {cs : List Value} {x : DataW H × List MemPlace} (h : DataW.trod enc Try.prog w base spare held n 32 cs = some x) :
    ∃ x0 x1 x2 x3 x4, cs = [.int .i64 x0, .int .i64 x1, .int .i64 x2, .int .i64 x3, .int .i64 x4] ∧ InR x0 ∧ InR x1 ∧ InR x2 ∧ InR x3 ∧ InR x4 := by
  obtain ⟨xs, m, _, _, hl, hxl, hi⟩ := DataW.trod_array Try.underlying32 h
  have hc5 : Try.prog.cellsOf 32 = 5 := by kernel_rfl
  have hc1 : Try.prog.cellsOf 3 = 1 := by kernel_rfl
  rw [hc5] at hl
  rw [hc1] at hi
  match cs, hl with
  | [c0, c1, c2, c3, c4], _ =>
    match xs, hxl with
    | [y0, y1, y2, y3, y4], _ =>
      obtain ⟨n0, e0, _, w0⟩ := DataW.trod_int Try.underlying3 (by simpa using hi 0 (by omega))
      obtain ⟨n1, e1, _, w1⟩ := DataW.trod_int Try.underlying3 (by simpa using hi 1 (by omega))
      obtain ⟨n2, e2, _, w2⟩ := DataW.trod_int Try.underlying3 (by simpa using hi 2 (by omega))
      obtain ⟨n3, e3, _, w3⟩ := DataW.trod_int Try.underlying3 (by simpa using hi 3 (by omega))
      obtain ⟨n4, e4, _, w4⟩ := DataW.trod_int Try.underlying3 (by simpa using hi 4 (by omega))
      injection e0 with e0; injection e1 with e1; injection e2 with e2; injection e3 with e3; injection e4 with e4
      subst e0 e1 e2 e3 e4
      exact ⟨n0, n1, n2, n3, n4, rfl, inR_of_wf w0, inR_of_wf w1, inR_of_wf w2, inR_of_wf w3, inR_of_wf w4⟩
end
section
variable {H : Type} {enc : TypeId × Value → H} {W : World}
theorem okWide_cost {base : Nat} {v : Value} (h : Value.okWide Try.prog W .any base 32 v) : ∃ cs, v = .agg cs := by
  simp only [Value.okWide, Try.underlying32] at h
  obtain ⟨cs, h1, _⟩ := h
  exact ⟨cs, h1⟩
theorem open_cost_arg {v : Value} {d : DataW H} {p : List MemPlace} {base : Nat} (hv : Value.okWide Try.prog W .any base 32 v) (h : DataW.Trod enc Try.prog W 0 (fun _ => true) true 32 v d p) :
    ∃ x0 x1 x2 x3 x4, v = .agg #[.int .i64 x0, .int .i64 x1, .int .i64 x2, .int .i64 x3, .int .i64 x4] ∧ (InR x0 ∧ InR x1 ∧ InR x2 ∧ InR x3 ∧ InR x4) := by
  obtain ⟨cs, rfl⟩ := okWide_cost hv
  obtain ⟨fuel, hf⟩ := h
  obtain ⟨x0, x1, x2, x3, x4, e, hr⟩ := five_of_trod hf
  refine ⟨x0, x1, x2, x3, x4, ?_, hr⟩
  simp only [Value.cells] at e
  obtain ⟨l⟩ := cs
  simp at e
  rw [e]
theorem open_costs_arg {v : Value} {d : DataW H} {p : List MemPlace} {base : Nat} (hv : Value.okWide Try.prog W .any base 33 v) (h : DataW.Trod enc Try.prog W 0 (fun _ => true) true 33 v d p) :
    ∃ A n c cl, v = .slice A n c ∧ ReadsC W W.heap.size A n cl ∧ n ≤ maxLen := by
  obtain ⟨a0, len, cap, rfl⟩ := okWide_slice Try.underlying33 hv
  obtain ⟨fuel, hf⟩ := h
  have hc5 : Try.prog.cellsOf 32 = 5 := by kernel_rfl
  rcases open_slice Try.underlying33 hf with ⟨hcs, _⟩ | ⟨a, len', cap', m, n, D, Pl, hcs, _, hl, hm, hmm, _, hi⟩
  · simp [Value.cells] at hcs
    obtain ⟨rfl, rfl, rfl⟩ := hcs
    exact ⟨none, 0, 0, [], rfl, ⟨rfl, fun k hk => by simp at hk⟩, by unfold maxLen; omega⟩
  · simp [Value.cells] at hcs
    obtain ⟨rfl, rfl, rfl⟩ := hcs
    rw [hc5] at hi
    have hex : ∀ i, ∃ q : List Int, i < len → ∃ x0 x1 x2 x3 x4, q = [x0, x1, x2, x3, x4] ∧ W.cell? (a.add (i * 5)) = some (.int .i64 x0) ∧ W.cell? ⟨(a.add (i * 5)).block, (a.add (i * 5)).off + 1, none⟩ = some (.int .i64 x1) ∧
        W.cell? ⟨(a.add (i * 5)).block, (a.add (i * 5)).off + 2, none⟩ = some (.int .i64 x2) ∧ W.cell? ⟨(a.add (i * 5)).block, (a.add (i * 5)).off + 3, none⟩ = some (.int .i64 x3) ∧ W.cell? ⟨(a.add (i * 5)).block, (a.add (i * 5)).off + 4, none⟩ = some (.int .i64 x4) := by
      intro i
      by_cases hil : i < len
      · obtain ⟨cs', hc, ht⟩ := hi i (by simp at hmm; omega)
        obtain ⟨_, _, hat⟩ := World.cells?_some hc
        obtain ⟨x0, x1, x2, x3, x4, rfl, _⟩ := five_of_trod ht
        refine ⟨_, fun _ => ⟨x0, x1, x2, x3, x4, rfl, ?_, ?_, ?_, ?_, ?_⟩⟩
        · simpa [Addr.add] using hat 0 (by omega)
        · simpa [Addr.add] using hat 1 (by omega)
        · simpa [Addr.add] using hat 2 (by omega)
        · simpa [Addr.add] using hat 3 (by omega)
        · simpa [Addr.add] using hat 4 (by omega)
      · exact ⟨[], fun hh => absurd hh hil⟩
    obtain ⟨f, hfn⟩ := Classical.skolem.1 hex
    refine ⟨some a, len, cap, (List.range len).map f, rfl, ⟨by simp, fun k hk => ?_⟩, by omega⟩
    obtain ⟨x0, x1, x2, x3, x4, e, h0, h1, h2, h3, h4⟩ := hfn k (by simpa using hk)
    refine ⟨a, x0, x1, x2, x3, x4, rfl, ?_, by simpa using e, h0, h1, h2, h3, h4⟩
    have := cell_lt h0
    rwa [block_of_add] at this
end
end Go.Proofs.Ytobamjjonkhcfaa
