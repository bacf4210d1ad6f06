/- The newest of some, as a plain function; a slice that reads as a list of strings. -/
import Derived.Test.YtklkefmbmagplaaGreatDoorRefOrder
namespace Go.Proofs.YtklkefmbmagplaaGreatDoor
open Go.RowKit
def newStep (cl : List ByteArray) (b : Int) (i : Nat) : Int := if b < 0 ∨ 0 < orderV (B (cl.getD i ByteArray.empty)) (B (cl.getD b.toNat ByteArray.empty)) then i else b
def newN (cl : List ByteArray) : Nat → Int
  | 0 => -1
  | k + 1 => newStep cl (newN cl k) k
theorem newN_lt (cl : List ByteArray) : ∀ k, -1 ≤ newN cl k ∧ newN cl k < (k : Int)
  | 0 => by simp [newN]
  | k + 1 => by have := newN_lt cl k; simp only [newN, newStep]; split <;> omega
/-- A slice of strings that reads as a list of strings. -/
def ReadsS (w : World) (N : Nat) (A : Option Addr) (n : Nat) (cl : List ByteArray) : Prop :=
  cl.length = n ∧ ∀ k (hk : k < cl.length), ∃ ad, A = some ad ∧ ad.block < N ∧ w.cell? (ad.add k) = some (.string cl[k])
theorem add_block (a : Addr) (k : Nat) : (a.add k).block = a.block := by unfold Addr.add; split <;> rfl
theorem ReadsS.below {w w' : World} {N n : Nat} {A : Option Addr} {cl : List ByteArray} (h : ReadsS w N A n cl) (hb : Below N w w') : ReadsS w' N A n cl := by
  refine ⟨h.1, fun k hk => ?_⟩
  obtain ⟨ad, hA, hlt, h0⟩ := h.2 k hk
  exact ⟨ad, hA, hlt, by rw [hb.cell (by rw [add_block]; exact hlt)]; exact h0⟩
theorem bel_drewS {N : Nat} {a w : World} (h : Below N a w) (n : Nat) : Below N a (w.drewN n) := ⟨h.os, h.tape, h.output, h.size, h.block⟩
end Go.Proofs.YtklkefmbmagplaaGreatDoor
