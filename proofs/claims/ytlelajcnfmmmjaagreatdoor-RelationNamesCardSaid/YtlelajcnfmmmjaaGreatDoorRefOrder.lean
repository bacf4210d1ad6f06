/- The contract of the document's own Order of two texts. -/
import Derived.Test.YtlelajcnfmmmjaaGreatDoorRefParse
import Derived.Test.YtlelajcnfmmmjaaGreatDoorRefCmpV
namespace Go.Proofs.YtlelajcnfmmmjaaGreatDoor
open Go.RowKit
def orderV (a b : List Nat) : Int :=
  if parseE a ≠ 0 then (if parseE b ≠ 0 then 0 else -1) else if parseE b ≠ 0 then 1 else cmpV (parse1 a) (parse2 a) (parse3 a) (parse1 b) (parse2 b) (parse3 b)
theorem colU_mem {s : List Nat} {c : Nat} (h : c ∈ colU s) : c ∈ s := by
  unfold colU at h
  split at h
  · exact h
  · exact List.mem_of_mem_drop h
theorem dashU_mem {s : List Nat} {c : Nat} (h : c ∈ dashU s) : c ∈ s := by
  unfold dashU at h
  split at h
  · exact h
  · exact List.mem_of_mem_take h
theorem dashR_mem {s : List Nat} {c : Nat} (h : c ∈ dashR s) : c ∈ s := by
  unfold dashR at h
  split at h
  · cases h
  · exact List.mem_of_mem_drop h
theorem colU_len (s : List Nat) : (colU s).length ≤ s.length := by
  unfold colU
  split
  · exact Nat.le_refl _
  · rw [List.length_drop]; omega
theorem dashU_len (s : List Nat) : (dashU s).length ≤ s.length := by
  unfold dashU
  split
  · exact Nat.le_refl _
  · rw [List.length_take]; omega
theorem dashR_len (s : List Nat) : (dashR s).length ≤ s.length := by
  unfold dashR
  split
  · exact Nat.zero_le _
  · rw [List.length_drop]; omega
theorem parse2_lt (s : ByteArray) : ∀ c ∈ parse2 (B s), c < 256 := by
  intro c hc
  unfold parse2 at hc
  split at hc
  · exact B_lt s c (colU_mem (dashU_mem hc))
  · cases hc
theorem parse3_lt (s : ByteArray) : ∀ c ∈ parse3 (B s), c < 256 := by
  intro c hc
  unfold parse3 at hc
  split at hc
  · exact B_lt s c (colU_mem (dashR_mem hc))
  · cases hc
theorem parseE_len {s : List Nat} (h : parseE s = 0) : s.length ≤ 60 := by
  unfold parseE at h
  split at h
  · cases h
  · omega
theorem parse2_len (s : List Nat) : (parse2 s).length ≤ 60 := by
  unfold parse2
  split
  · rename_i h
    have := parseE_len h; have := colU_len s; have := dashU_len (colU s); omega
  · exact Nat.zero_le _
theorem parse3_len (s : List Nat) : (parse3 s).length ≤ 60 := by
  unfold parse3
  split
  · rename_i h
    have := parseE_len h; have := colU_len s; have := dashR_len (colU s); omega
  · exact Nat.zero_le _
/-- A parse's answer as values of its own. -/
theorem parse_opened (s : ByteArray) : ∃ (E e : Int) (U R : ByteArray), E = parse1 (B s) ∧ e = parseE (B s) ∧ B U = parse2 (B s) ∧ B R = parse3 (B s) ∧ U.size ≤ 60 ∧ R.size ≤ 60 ∧
    ∀ w, Calls Tryz.prog 34 #[.string s] w fun e' w' => e' = .returned (.tuple #[.agg #[.int .i64 E, .string U, .string R], .int .i64 e]) ∧ Below w.heap.size w w' :=
  ⟨_, _, _, _, rfl, rfl, B_mk (parse2_lt s), B_mk (parse3_lt s), by rw [size_mk]; exact parse2_len _, by rw [size_mk]; exact parse3_len _, fun w => parse_any s w⟩
end Go.Proofs.YtlelajcnfmmmjaaGreatDoor
