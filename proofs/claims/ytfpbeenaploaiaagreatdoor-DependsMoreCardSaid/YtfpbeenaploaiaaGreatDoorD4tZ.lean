/- Small facts for the laws of layer 4: how long a printed field is, and its bytes; parsed again. -/
import Derived.Test.YtfpbeenaploaiaaGreatDoorD4sZ
set_option linter.unusedVariables false
namespace Go.Proofs.YtfpbeenaploaiaaGreatDoor
open Go.RowKit
theorem prtG_len (L : List (List Atm)) : (prtG L).length ≤ 8160 := by
  unfold prtG
  split
  · rename_i h
    have hp := right_parts h
    have := joinL_len (sep := [44, 32]) (l := L.map grpS) (M := 678) (fun t ht => by obtain ⟨g, hg, rfl⟩ := List.mem_map.1 ht; exact grpS_len (hp.1 g hg).1 (hp.1 g hg).2)
    rw [List.length_map] at this
    have h2 : L.length * (678 + [44, 32].length) ≤ 12 * 680 := Nat.mul_le_mul hp.2 (by decide)
    exact Nat.le_trans this h2
  · simp
theorem prtG_lt (L : List (List Atm)) : ∀ c ∈ prtG L, c < 256 := by
  unfold prtG
  split
  · rename_i h
    have hp := right_parts h
    exact joinL_lt (by decide) (fun t ht => by obtain ⟨g, hg, rfl⟩ := List.mem_map.1 ht; exact grpS_lt (hp.1 g hg).1)
  · simp
theorem parse_again {L : List (List Atm)} (h : rightG L = true) (w : World) (E : EnvR w) : Calls Tryz.prog 9 #[.string (mk (prtG L))] w fun e' w' => (∃ A c, e' = .returned (.tuple #[.slice A L.length c, .int .i64 0]) ∧ rdGrps w' (lt_ w'.heap.size) L [.slice A L.length c]) ∧ Below w.heap.size w w' := by
  have hb : B (mk (prtG L)) = prtG L := B_mk (prtG_lt L)
  exact parse4_is (by rw [hb]; exact (parse_prtG h).1) (by rw [hb]; exact (parse_prtG h).2) (by rw [size_mk]; have := prtG_len L; omega) w E
theorem right_depL (s : ByteArray) : rightG (depL (B s)) = true := by
  by_cases h : depE (B s) = 0
  · exact right_of_parse (B_lt s) h
  · rw [depL_bad h]; rfl
theorem same_self (A A' : Option Addr) (c c' : Nat) (l : List (List Atm)) (w : World) (h : rdGrps w (lt_ w.heap.size) l [.slice A l.length c]) (h' : rdGrps w (lt_ w.heap.size) l [.slice A' l.length c']) :
    Calls Tryz.prog 11 #[.slice A l.length c, .slice A' l.length c'] w fun e w' => e = .returned (.bool true) ∧ Dr w w' := by
  have := same_any A A' l.length c l.length c' l l w h h'
  rwa [decide_eq_true rfl] at this
theorem right_true {A : Option Addr} {n c : Nat} {L : List (List Atm)} (hr : rightG L = true) (w : World) (h : rdGrps w (lt_ w.heap.size) L [.slice A n c]) (E : EnvR w) :
    Calls Tryz.prog 18 #[.slice A n c] w fun e w' => e = .returned (.bool true) ∧ Below w.heap.size w w' := by
  have := right4_any A n c L w h E
  rwa [hr] at this
end Go.Proofs.YtfpbeenaploaiaaGreatDoor
