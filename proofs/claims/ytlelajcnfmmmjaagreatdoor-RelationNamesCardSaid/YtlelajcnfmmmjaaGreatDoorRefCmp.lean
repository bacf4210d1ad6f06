/- The contract of the document's own CompareText: the order of texts; memory is as it was. -/
import Derived.Test.YtlelajcnfmmmjaaGreatDoorCmpT
namespace Go.Proofs.YtlelajcnfmmmjaaGreatDoor
open Go.RowKit
theorem wt_bd {l : List Nat} (h : ∀ c ∈ l, c < 256) : -1 ≤ wt l ∧ wt l ≤ 1255 := by
  cases l with
  | nil => simp [wt]
  | cons c l =>
    have := h c (by simp)
    simp only [wt]
    split
    · omega
    · split
      · omega
      · split <;> omega
theorem mk_size (l : List Nat) : (mk l).size = l.length := by
  unfold mk
  show (List.toArray _).size = _
  simp
theorem digs_lt {l : List Nat} (h : ∀ c ∈ l, c < 256) : ∀ c ∈ digs l, c < 256 := fun c hc => h c ((List.takeWhile_prefix digB).subset ((List.dropWhile_suffix _).subset hc))
theorem digs_len (l : List Nat) : (digs l).length ≤ l.length := by
  unfold digs
  exact Nat.le_trans ((List.dropWhile_suffix _).length_le) ((List.takeWhile_prefix digB).length_le)
theorem drop_lt (s : ByteArray) (i : Nat) : ∀ c ∈ (B s).drop i, c < 256 := fun c hc => B_lt s c (List.mem_of_mem_drop hc)
theorem endD_le (l : List Nat) (i : Nat) (h : i ≤ l.length) : i ≤ endD l i ∧ endD l i ≤ l.length := by
  unfold endD
  have := numD_le (l.drop i)
  rw [List.length_drop] at this
  omega
theorem steps {s t : ByteArray} {i k : Nat} (h : (nonD ((B s).drop i) || nonD ((B t).drop k)) = false) : (i < s.size ∨ k < t.size) → i + k < endD (B s) i + endD (B t) k := by
  intro hgo
  have hna : nonD ((B s).drop i) = false := by cases hx : nonD ((B s).drop i) <;> simp_all
  have hnb : nonD ((B t).drop k) = false := by cases hx : nonD ((B t).drop k) <;> simp_all
  unfold endD
  rcases hgo with hgo | hgo
  · have := num_len hna (by intro he; have := congrArg List.length he; rw [List.length_drop, B_len] at this; simp at this; omega)
    omega
  · have := num_len hnb (by intro he; have := congrArg List.length he; rw [List.length_drop, B_len] at this; simp at this; omega)
    omega
theorem nums_of {s t : ByteArray} {i k : Nat} (h : (nonD ((B s).drop i) || nonD ((B t).drop k)) = false) :
    cmpS ((B s).drop i) ((B t).drop k) = if numC (digs ((B s).drop i)) (digs ((B t).drop k)) ≠ 0 then numC (digs ((B s).drop i)) (digs ((B t).drop k)) else cmpS ((B s).drop (endD (B s) i)) ((B t).drop (endD (B t) k)) := by
  by_cases h0 : (B s).drop i = [] ∧ (B t).drop k = []
  · have e1 : (B s).drop (endD (B s) i) = [] := by unfold endD; rw [← List.drop_drop, h0.1]; rfl
    have e2 : (B t).drop (endD (B t) k) = [] := by unfold endD; rw [← List.drop_drop, h0.2]; rfl
    rw [e1, e2, h0.1, h0.2, if_neg (by decide)]
  · rw [cmpS_num h0 h, List.drop_drop, List.drop_drop]
    rfl
end Go.Proofs.YtlelajcnfmmmjaaGreatDoor
