/- A law's parameters that are strings and versions, opened. -/
import Derived.Test.YtjfenheplkoajaaDoorChecked
import Derived.ProofKit
import Derived.OpenShut
import Derived.ChangeMaps5
import Derived.SliceStrings
import Derived.Lib.SmallJoins
set_option maxRecDepth 100000
namespace Go.Proofs.YtjfenheplkoajaaDoor
open Go.RowKit Go.WideShapes Go.ChangeShapes Go.ChangeAt Go.WideMaps Go.WideElems Go.Joins
section
variable {H : Type} {enc : TypeId × Value → H} {W : World}
theorem one_int {base n : Nat} {sp : Nat → Bool} {held : Bool} {v : Value} {y : DataW H × List MemPlace} (h : DataW.trod enc Tryd.prog W base sp held n 3 [v] = some y) : ∃ e : Int, v = .int .i64 e ∧ (Lit.int .i64 e).wf = true := by
  obtain ⟨e, h0, _, h2⟩ := DataW.trod_int Tryd.underlying3 h
  injection h0 with h0
  exact ⟨e, h0, h2⟩
theorem one_string {base n : Nat} {sp : Nat → Bool} {held : Bool} {v : Value} {y : DataW H × List MemPlace} (h : DataW.trod enc Tryd.prog W base sp held n 9 [v] = some y) : ∃ s : ByteArray, v = .string s ∧ s.size ≤ maxLen := by
  obtain ⟨s, h0, _, h2⟩ := DataW.trod_string Tryd.underlying9 h
  injection h0 with h0
  exact ⟨s, h0, h2⟩
theorem open_str_arg {v : Value} {d : DataW H} {p : List MemPlace} {base : Nat} (hv : Value.okWide Tryd.prog W .any base 9 v) (h : DataW.Trod enc Tryd.prog W 0 (fun _ => true) true 9 v d p) :
    ∃ s : ByteArray, v = .string s ∧ s.size ≤ maxLen := by
  obtain ⟨s, rfl⟩ := okWide_string Tryd.underlying9 hv
  obtain ⟨fuel, hf⟩ := h
  obtain ⟨s', h0, _, h2⟩ := DataW.trod_string Tryd.underlying9 hf
  simp [Value.cells] at h0
  exact ⟨s, rfl, by rw [h0]; exact h2⟩
end
end Go.Proofs.YtjfenheplkoajaaDoor
