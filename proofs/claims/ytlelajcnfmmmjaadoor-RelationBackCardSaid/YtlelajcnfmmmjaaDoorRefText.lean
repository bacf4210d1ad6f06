/- The contract of the document's own text of a version; memory before is as it was. -/
import Derived.Test.YtlelajcnfmmmjaaDoorRefDec
namespace Go.Proofs.YtlelajcnfmmmjaaDoor
open Go.RowKit
def textL (e : Nat) (u r : List Nat) : List Nat := (if e = 0 then [] else decL e ++ [58]) ++ u ++ (if r = [] then [] else 45 :: r)
theorem decF_len : ∀ (f n : Nat) (l : List Nat), (decF f n l).length ≤ f + l.length
  | 0, _, l => by simp [decF]
  | f + 1, n, l => by
    simp only [decF]
    split
    · simp; omega
    · have := decF_len f (n / 10) ((48 + n % 10) :: l); simp at this; omega
theorem decL_len (n : Nat) : (decL n).length ≤ n + 1 := by have := decF_len (n + 1) n []; simpa [decL] using this
theorem size_mk (l : List Nat) : (mk l).size = l.length := by
  unfold mk
  show (List.toArray _).size = _
  simp
theorem empty_iff (s : ByteArray) : s.toList.isEmpty = true ↔ B s = [] := by
  rw [toList_data, List.isEmpty_iff]
  unfold B
  simp
theorem empty_size {s : ByteArray} (h : B s = []) : s.size = 0 := by rw [← B_len, h]; rfl
theorem B_colon : B { data := #[58] } = [58] := by decide
theorem B_dash : B { data := #[45] } = [45] := by decide
theorem colon_size (x y : ByteArray) : (x ++ { data := #[58] } ++ y).size = x.size + 1 + y.size := by
  rw [← B_len, B_append, B_append, B_colon]; simp [B_len]; omega
/-! ### number -/
def numV (l : List Nat) : Nat := l.foldl (fun n c => 10 * n + (c - 48)) 0
def numL (l : List Nat) : Int := if l ≠ [] ∧ l.length ≤ 9 ∧ l.all digB = true ∧ decL (numV l) = l then (numV l : Int) else -1
theorem numV_snoc (l : List Nat) (c : Nat) : numV (l ++ [c]) = 10 * numV l + (c - 48) := by simp [numV, List.foldl_append]
theorem digB_iff {c : Nat} : digB c = true ↔ 48 ≤ c ∧ c ≤ 57 := by simp [digB]
theorem numV_lt : ∀ (l : List Nat), (∀ c ∈ l, digB c = true) → numV l + 1 ≤ 10 ^ l.length := by
  intro l
  rw [← List.reverse_reverse l]
  induction l.reverse with
  | nil => intro _; simp [numV]
  | cons c l ih =>
    intro h
    rw [List.reverse_cons, numV_snoc, List.length_append]
    have h1 := ih (fun d hd => h d (by simp [hd]))
    have h2 := digB_iff.1 (h c (by simp))
    simp only [List.length_singleton, Nat.pow_succ, List.length_reverse] at h1 ⊢
    omega
theorem B_take_snoc (s : ByteArray) (k : Nat) (hk : k < s.size) : (B s).take (k + 1) = (B s).take k ++ [s[k].toNat] := by
  rw [List.take_add_one, B_at s k hk]; rfl
theorem strEq (a : List Nat) (s : ByteArray) (h : ∀ c ∈ a, c < 256) : ((mk a).toList == s.toList) = decide (a = B s) := by
  rw [Bool.eq_iff_iff, beq_iff_eq, decide_eq_true_eq]
  constructor
  · intro he
    rw [toList_data, toList_data] at he
    rw [← B_mk h]
    unfold B
    rw [he]
  · rintro rfl
    rw [mk_B]
end Go.Proofs.YtlelajcnfmmmjaaDoor
