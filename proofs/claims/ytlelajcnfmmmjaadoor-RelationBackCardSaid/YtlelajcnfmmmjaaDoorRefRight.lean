/- What is a right version, as a plain function; and the refusals that Right makes before its loops. -/
import Derived.Test.YtlelajcnfmmmjaaDoorRefText
set_option maxRecDepth 100000
namespace Go.Proofs.YtlelajcnfmmmjaaDoor
open Go.RowKit
def headD : List Nat → Bool | [] => false | c :: _ => digB c
def chB (x : List Nat) (c : Nat) : Bool := letB c || digB c || hasB x c
def uX : List Nat := [46, 43, 126, 45, 58]
def rX : List Nat := [46, 43, 126]
def rightB (e : Int) (u r : List Nat) : Bool :=
  decide (0 ≤ e ∧ e ≤ 999999999) && headD u && !(hasB u 45 && decide (r = [])) && !(hasB u 58 && decide (e = 0)) && u.all (chB uX) && r.all (chB rX) && decide ((textL e.toNat u r).length ≤ 60)
theorem headD_at (s : ByteArray) (h : 0 < s.size) : headD (B s) = digB s[0].toNat := by
  have := B_drop s 0 h
  rw [List.drop_zero] at this
  rw [this]; rfl
theorem uX_B : B { data := #[46, 43, 126, 45, 58] } = uX := by decide
theorem rX_B : B { data := #[46, 43, 126] } = rX := by decide
theorem all_take {s : ByteArray} {p : Nat → Bool} {k : Nat} (hk : k < s.size) (h : ∀ c ∈ (B s).take k, p c = true) (hp : p s[k].toNat = true) : ∀ c ∈ (B s).take (k + 1), p c = true := by
  intro c hc
  rw [B_take_snoc s k hk] at hc
  rcases List.mem_append.1 hc with hc | hc
  · exact h c hc
  · rw [List.mem_singleton.1 hc]; exact hp
theorem all_end {s : ByteArray} {p : Nat → Bool} {k : Nat} (hk : ¬ k < s.size) (h : ∀ c ∈ (B s).take k, p c = true) : (B s).all p = true := by
  rw [List.take_of_length_le (by rw [B_len]; omega)] at h
  exact List.all_eq_true.2 h
theorem all_not {s : ByteArray} {p : Nat → Bool} {k : Nat} (hk : k < s.size) (hp : p s[k].toNat = false) : (B s).all p = false := by
  rw [Bool.eq_false_iff]
  intro h
  rw [List.all_eq_true] at h
  have := h _ (List.mem_of_getElem? (B_at s k hk))
  rw [hp] at this; cases this
end Go.Proofs.YtlelajcnfmmmjaaDoor
