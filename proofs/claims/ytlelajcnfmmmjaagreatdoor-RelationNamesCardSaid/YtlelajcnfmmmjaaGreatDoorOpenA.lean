/- A law's parameter that is an atom, opened. -/
import Derived.Test.YtlelajcnfmmmjaaGreatDoorOpen2
set_option maxRecDepth 100000
namespace Go.Proofs.YtlelajcnfmmmjaaGreatDoor
open Go.RowKit Go.WideShapes Go.ChangeShapes Go.ChangeAt Go.WideMaps Go.WideElems Go.Joins
theorem open_atom_arg {H : Type} {enc : TypeId × Value → H} {W : World} {v : Value} {d : DataW H} {p : List MemPlace} {base : Nat} (hv : Value.okWide Tryz.prog W .any base 29 v) (h : DataW.Trod enc Tryz.prog W 0 (fun _ => true) true 29 v d p) :
    ∃ (n : ByteArray) (e : Int) (r : ByteArray), v = .agg #[.string n, .int .i64 e, .string r] ∧ n.size ≤ maxLen ∧ (Lit.int .i64 e).wf = true ∧ r.size ≤ maxLen := by
  obtain ⟨v0, v1, v2, y0, y1, y2, n, rfl, _, _, h0, h1, h2⟩ := open_agg3 Tryz.underlying29 (by kernel_rfl) (by kernel_rfl) hv h
  obtain ⟨u, rfl, wu⟩ := one_string h0
  obtain ⟨e, rfl, we⟩ := one_int h1
  obtain ⟨r, rfl, wr⟩ := one_string h2
  exact ⟨u, e, r, rfl, wu, we, wr⟩
end Go.Proofs.YtlelajcnfmmmjaaGreatDoor
