/- The contract of shown: the chapter's examples come out as the chapter says, so it returns true; memory before is as it was. -/
import Derived.Test.YtobamjjonkhcfaaCost
namespace Go.Proofs.Ytobamjjonkhcfaa
open Go.RowKit

theorem best_nil (w : World) : Calls Try.prog 22 #[.slice none 0 0] w fun e w' => e = .returned (.int .i64 (-1)) ∧ w = w' := by
  go_enter Try.func22, Try.ntmps22
  go_wp2
  refine wp_loop_rounds 1 ?_
  rw [rounds_succ]
  go_wp2
  go_ret
  exact ⟨rfl, rfl⟩

theorem reads_lit {w : World} {t : TypeId} {l : List Int} : Reads (w.alloc (.cells (ints l).toArray t)) (w.heap.size + 1) 1 (some ⟨w.heap.size, 0, none⟩) l.length (ints l) := by
  refine ⟨by simp [ints], fun _ => ⟨_, rfl, by simp, fun j u hj => ?_⟩⟩
  have hadd : (⟨w.heap.size, 0, none⟩ : Addr).add j = ⟨w.heap.size, j, none⟩ := by unfold Addr.add; split <;> simp_all
  rw [hadd]
  have : (w.alloc (.cells (ints l).toArray t)).heap[w.heap.size]? = some (.cells (ints l).toArray t (0, 0)) := heap_alloc_new w _
  rw [cell_of_row _ _ _ _ _ _ this]
  simpa using hj

theorem sh_add (w : World) : Calls Try.prog 10 #[.int .i64 9223372036854775807, .int .i64 1] w fun e w' => e = .returned (.tuple #[.int .i64 0, .int .i64 2]) ∧ Below w.heap.size w w' := by
  have := Add_any 9223372036854775807 1 w (by decide) (by decide)
  rwa [show addV 9223372036854775807 1 = 0 by decide, show addE 9223372036854775807 1 = 2 by decide] at this
theorem sh_mul (w : World) : Calls Try.prog 12 #[.int .i64 (-9223372036854775808), .int .i64 (-1)] w fun e w' => e = .returned (.tuple #[.int .i64 0, .int .i64 2]) ∧ Below w.heap.size w w' := by
  have := Mul_any (-9223372036854775808) (-1) w (by decide) (by decide)
  rwa [show mulV (-9223372036854775808) (-1) = 0 by decide, show mulE (-9223372036854775808) (-1) = 2 by decide] at this
theorem sh_total (w : World) (t : TypeId) : Calls Try.prog 14 #[.slice (some ⟨w.heap.size, 0, none⟩) 3 3] (w.alloc (.cells #[.int .i64 9223372036854775807, .int .i64 1, .int .i64 (-1)] t)) fun e w' => e = .returned (.tuple #[.int .i64 0, .int .i64 2]) ∧ Below (w.heap.size + 1) (w.alloc (.cells #[.int .i64 9223372036854775807, .int .i64 1, .int .i64 (-1)] t)) w' := by
  have := Total_any (some ⟨w.heap.size, 0, none⟩) 3 3 (w.heap.size + 1) [9223372036854775807, 1, -1] (w.alloc (.cells #[.int .i64 9223372036854775807, .int .i64 1, .int .i64 (-1)] t)) (reads_lit (l := [9223372036854775807, 1, -1])) (by simp) (by omega) (by decide)
  rw [show totV [9223372036854775807, 1, -1] = 0 by decide, show totE [9223372036854775807, 1, -1] = 2 by decide] at this
  simpa using this
theorem sh_dot (w : World) (t : TypeId) : Calls Try.prog 16 #[.slice (some ⟨w.heap.size, 0, none⟩) 2 2, .slice (some ⟨w.heap.size + 1, 0, none⟩) 2 2] ((w.alloc (.cells #[.int .i64 2, .int .i64 3] t)).alloc (.cells #[.int .i64 4, .int .i64 5] t)) fun e w' => e = .returned (.tuple #[.int .i64 23, .int .i64 0]) ∧ Below (w.heap.size + 2) ((w.alloc (.cells #[.int .i64 2, .int .i64 3] t)).alloc (.cells #[.int .i64 4, .int .i64 5] t)) w' := by
  have h1 := (reads_lit (w := w) (t := t) (l := [2, 3])).alloc (by simp) (.cells (ints [4, 5]).toArray t)
  have h2 := reads_lit (w := w.alloc (.cells (ints [2, 3]).toArray t)) (t := t) (l := [4, 5])
  have := Dot_any _ _ 2 2 2 2 (w.heap.size + 2) [2, 3] [4, 5] ((w.alloc (.cells (ints [2, 3]).toArray t)).alloc (.cells (ints [4, 5]).toArray t)) (h1.more (by omega)) (by simpa using h2) (by simp) (by omega) (by omega) (by decide) (by decide)
  rw [show dotV [2, 3] [4, 5] = 23 by decide, show dotE [2, 3] [4, 5] = 0 by decide] at this
  simpa [ints] using this
theorem sh_compare (w : World) : Calls Try.prog 20 #[.agg #[.int .i64 1, .int .i64 2, .int .i64 0, .int .i64 0, .int .i64 0], .agg #[.int .i64 1, .int .i64 3, .int .i64 0, .int .i64 0, .int .i64 0]] w fun e w' => e = .returned (.int .i64 (-1)) ∧ Below w.heap.size w w' := by
  have := compare_five 1 2 0 0 0 1 3 0 0 0 w
  rwa [show cmpL [1, 2, 0, 0, 0] [1, 3, 0, 0, 0] = -1 by decide] at this

theorem shown_any (w : World) : Calls Try.prog 9 #[] w fun e w' => e = .returned (.bool true) ∧ Below w.heap.size w w' := by
  go_enter Try.func9, Try.ntmps9
  go_wp2_with fail
  refine (sh_add _).mono ?_
  rintro e w1 ⟨rfl, hb1⟩
  go_wp2_with fail
  refine (sh_mul _).mono ?_
  rintro e w2 ⟨rfl, hb2⟩
  go_wp2_with fail
  refine (sh_total _ _).mono ?_
  rintro e w3 ⟨rfl, hb3⟩
  go_wp2_with fail
  refine (sh_dot _ _).mono ?_
  rintro e w4 ⟨rfl, hb4⟩
  go_wp2_with fail
  refine (sh_compare _).mono ?_
  rintro e w5 ⟨rfl, hb5⟩
  go_wp2_with fail
  refine (best_nil _).mono ?_
  rintro e w6 ⟨rfl, rfl⟩
  go_wp2
  go_ret
  have s1 := hb1.size
  have s2 := hb2.size
  have s3 := hb3.size
  have s4 := hb4.size
  simp at s3 s4
  exact ⟨rfl, (((((hb1.trans (hb2.mono s1)).alloc (by omega) _).trans (hb3.mono (by omega))).alloc (by omega) _).alloc (by simp; omega) _).trans (hb4.mono (by omega)) |>.trans (hb5.mono (by omega))⟩
end Go.Proofs.Ytobamjjonkhcfaa
