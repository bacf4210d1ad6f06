/- The contract of the program's own Order of two texts: the document's. -/
import Derived.Test.YtfpbeenaploaiaaGreatDoorVer10Z
import Derived.Test.YtfpbeenaploaiaaGreatDoorM1
set_option maxRecDepth 100000
set_option linter.unusedVariables false
set_option linter.unusedSimpArgs false
namespace Go.Proofs.YtfpbeenaploaiaaGreatDoor
open Go.RowKit
theorem vparse_opened (s : ByteArray) : ∃ (E e : Int) (U R : ByteArray), E = parse1 (B s) ∧ e = parseE (B s) ∧ B U = parse2 (B s) ∧ B R = parse3 (B s) ∧ U.size ≤ 60 ∧ R.size ≤ 60 ∧
    ∀ w, Env w → Calls Tryz.prog 51 #[.string s] w fun e' w' => e' = .returned (.tuple #[.agg #[.int .i64 E, .string U, .string R], .int .i64 e]) ∧ Below w.heap.size w w' :=
  ⟨_, _, _, _, rfl, rfl, B_mk (parse2_lt s), B_mk (parse3_lt s), by rw [size_mk]; exact parse2_len _, by rw [size_mk]; exact parse3_len _, fun w E => vparse_any s w E⟩
end Go.Proofs.YtfpbeenaploaiaaGreatDoor
