/- Strings as lists of numbers: what the walks read of a string, and back. -/
import Derived.WalkKit
import Derived.Lib.Hide
namespace Go.Proofs.YtjfenheplkoajaaDoor
open Go.RowKit
/-- A string's bytes as numbers. -/
def B (s : ByteArray) : List Nat := s.data.toList.map UInt8.toNat
/-- The string of some bytes. -/
def mk (l : List Nat) : ByteArray := ⟨(l.map UInt8.ofNat).toArray⟩
theorem B_len (s : ByteArray) : (B s).length = s.size := by unfold B; rw [List.length_map, Array.length_toList]; rfl
theorem B_lt (s : ByteArray) : ∀ c ∈ B s, c < 256 := by
  intro c hc
  obtain ⟨u, _, rfl⟩ := List.mem_map.1 hc
  exact u.toNat_lt
theorem mk_B (s : ByteArray) : mk (B s) = s := by
  obtain ⟨⟨l⟩⟩ := s
  simp only [mk, B, List.map_map]
  congr 2
  rw [List.map_congr_left (g := id) (by intro u _; simp), List.map_id]
theorem B_mk {l : List Nat} (h : ∀ c ∈ l, c < 256) : B (mk l) = l := by
  simp only [mk, B, List.map_map]
  rw [List.map_congr_left (g := id) (by intro c hc; have := h c hc; simp; omega), List.map_id]
theorem B_inj {s t : ByteArray} (h : B s = B t) : s = t := by rw [← mk_B s, h, mk_B]
theorem eq_mk {s : ByteArray} {l : List Nat} (h : B s = l) : s = mk l := by rw [← h, mk_B]
theorem B_at (s : ByteArray) (k : Nat) (hk : k < s.size) : (B s)[k]? = some s[k].toNat := by
  unfold B
  rw [List.getElem?_map, List.getElem?_eq_getElem (by rw [Array.length_toList]; exact hk)]
  rfl
theorem B_getD (s : ByteArray) (k : Nat) (hk : k < s.size) : (B s).getD k 0 = s[k].toNat := by
  rw [List.getD_eq_getElem?_getD, B_at s k hk]; rfl
theorem B_drop (s : ByteArray) (k : Nat) (hk : k < s.size) : (B s).drop k = s[k].toNat :: (B s).drop (k + 1) := by
  have h := B_at s k hk
  have hl : k < (B s).length := by rw [B_len]; exact hk
  rw [List.drop_eq_getElem_cons hl]
  rw [List.getElem?_eq_getElem hl] at h
  injection h with h
  rw [h]
theorem B_drop_end (s : ByteArray) (k : Nat) (hk : s.size ≤ k) : (B s).drop k = [] := List.drop_eq_nil_of_le (by rw [B_len]; exact hk)
theorem B_extract (s : ByteArray) (i j : Nat) : B (s.extract i j) = ((B s).drop i).take (j - i) := by
  unfold B
  rw [ByteArray.data_extract, Array.toList_extract]
  simp [List.extract, List.map_take, List.map_drop]
theorem B_append (s t : ByteArray) : B (s ++ t) = B s ++ B t := by
  unfold B
  rw [ByteArray.data_append, Array.toList_append, List.map_append]
theorem byte_le (s : ByteArray) (k : Nat) (hk : k < s.size) : s[k].toNat < 256 := s[k].toNat_lt

def digB (c : Nat) : Bool := decide (48 ≤ c ∧ c ≤ 57)
def letB (c : Nat) : Bool := decide (97 ≤ c ∧ c ≤ 122 ∨ 65 ≤ c ∧ c ≤ 90)
def sgn (n : Int) : Int := if n < 0 then -1 else if 0 < n then 1 else 0
/-- The weight of what a text begins with: of a digit, or nothing: that of the end. -/
def wt : List Nat → Int
  | [] => 0
  | c :: _ => if digB c then 0 else if c = 126 then -1 else if letB c then c else 1000 + c
theorem toList_data (s : ByteArray) : s.toList = s.data.toList := ByteArray.toList_eq s
theorem B_take_snoc (s : ByteArray) (k : Nat) (hk : k < s.size) : (B s).take (k + 1) = (B s).take k ++ [s[k].toNat] := by
  rw [List.take_add_one, B_at s k hk]; rfl
theorem strEq (a : List Nat) (s : ByteArray) (h : ∀ c ∈ a, c < 256) : ((mk a).toList == s.toList) = decide (a = B s) := by
  rw [Bool.eq_iff_iff, beq_iff_eq, decide_eq_true_eq]
  constructor
  · intro he
    rw [toList_data, toList_data] at he
    rw [← B_mk h]
    unfold B
    rw [he]
  · rintro rfl
    rw [mk_B]
end Go.Proofs.YtjfenheplkoajaaDoor
