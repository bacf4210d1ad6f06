/- Blocks that have just been laid, as data; what chapter 4's examples are read as. -/
import Derived.Test.YtfpbeenaploaiaaGreatDoorD4qZ
import Derived.Test.YtfpbeenaploaiaaGreatDoorD4oZ
set_option maxRecDepth 100000
set_option linter.unusedVariables false
set_option linter.unusedSimpArgs false
namespace Go.Proofs.YtfpbeenaploaiaaGreatDoor
open Go.RowKit
def aAB : Atm := ⟨{ data := #[97, 98] }, 4, { data := #[49] }⟩
def aCD : Atm := ⟨{ data := #[99, 100] }, 0, { data := #[] }⟩
def aEF : Atm := ⟨{ data := #[101, 102] }, 0, { data := #[] }⟩
def aAB0 : Atm := ⟨{ data := #[97, 98] }, 0, { data := #[] }⟩
def aCD1 : Atm := ⟨{ data := #[99, 100] }, 3, { data := #[49] }⟩
theorem ex1 : depE (B { data := #[97, 98, 32, 40, 62, 61, 32, 49, 41, 32, 124, 32, 99, 100, 32, 44, 32, 101, 102] }) = 0 := by kernel_rfl
theorem ex2 : depL (B { data := #[97, 98, 32, 40, 62, 61, 32, 49, 41, 32, 124, 32, 99, 100, 32, 44, 32, 101, 102] }) = [[aAB, aCD], [aEF]] := by kernel_rfl
theorem ex3 : depE (B { data := #[97, 98, 44] }) = 3 := by kernel_rfl
theorem ex4 : depE (B { data := #[] }) = 0 := by kernel_rfl
theorem ex5 : depL (B { data := #[] }) = [] := by kernel_rfl
theorem ex6 : atE (B { data := #[97, 98, 44, 32, 99, 100, 32, 40, 61, 32, 49, 41] }) = 0 := by kernel_rfl
theorem ex7 : atL (B { data := #[97, 98, 44, 32, 99, 100, 32, 40, 61, 32, 49, 41] }) = [aAB0, aCD1] := by kernel_rfl
theorem ex8 : atE (B { data := #[97, 98, 32, 124, 32, 99, 100] }) = 5 := by kernel_rfl
theorem ex9 : mk (prtG [[aAB, aCD], [aEF]]) = { data := #[97, 98, 32, 40, 62, 61, 32, 49, 41, 32, 124, 32, 99, 100, 44, 32, 101, 102] } := by kernel_rfl
theorem ex10 : openF [aCD] 0 [[aAB, aCD], [aEF]] = [1] := by kernel_rfl
theorem parse4_is {s : ByteArray} {e : Int} {L : List (List Atm)} (h1 : depE (B s) = e) (h2 : depL (B s) = L) (hs : s.size ≤ 65536) (w : World) (E : EnvR w) : Calls Tryz.prog 9 #[.string s] w fun e' w' => (∃ A c, e' = .returned (.tuple #[.slice A L.length c, .int .i64 e]) ∧ rdGrps w' (lt_ w'.heap.size) L [.slice A L.length c]) ∧ Below w.heap.size w w' := by
  have := parse4_any s w hs E
  rw [h1, h2] at this
  refine this.mono ?_
  rintro e' w' ⟨⟨v, rfl, hrd⟩, hb⟩
  obtain ⟨A, c, hv, _⟩ := id hrd
  simp only [List.cons.injEq, and_true] at hv
  subst hv
  exact ⟨⟨A, c, rfl, hrd⟩, hb⟩
theorem atoms4_is {s : ByteArray} {e : Int} {L : List Atm} (h1 : atE (B s) = e) (h2 : atL (B s) = L) (hs : s.size ≤ 65536) (w : World) (E : EnvR w) : Calls Tryz.prog 10 #[.string s] w fun e' w' => (∃ A c, e' = .returned (.tuple #[.slice A L.length c, .int .i64 e]) ∧ rdAtms w' (lt_ w'.heap.size) L [.slice A L.length c]) ∧ Below w.heap.size w w' := by
  have := atoms4_any s w hs E
  rw [h1, h2] at this
  refine this.mono ?_
  rintro e' w' ⟨⟨v, rfl, hrd⟩, hb⟩
  obtain ⟨A, c, hv, _⟩ := id hrd
  simp only [List.cons.injEq, and_true] at hv
  subst hv
  exact ⟨⟨A, c, rfl, hrd⟩, hb⟩
end Go.Proofs.YtfpbeenaploaiaaGreatDoor
