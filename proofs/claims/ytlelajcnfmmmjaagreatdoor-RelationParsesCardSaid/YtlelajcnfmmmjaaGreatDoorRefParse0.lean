/- What the document's own Parse answers, as a plain function. -/
import Derived.Test.YtlelajcnfmmmjaaGreatDoorRefPrint
namespace Go.Proofs.YtlelajcnfmmmjaaGreatDoor
open Go.RowKit
/-- The place of the first colon. -/
def firstI : List Nat → Nat → Option Nat
  | [], _ => none
  | c :: l, n => if c = 58 then some n else firstI l (n + 1)
/-- The place of the last dash below one. -/
def lastI (u : List Nat) : Nat → Option Nat
  | 0 => none
  | n + 1 => if u.getD n 0 = 45 then some n else lastI u n
def colE (s : List Nat) : Int := match firstI s 0 with | none => 0 | some i => numL (s.take i)
def colU (s : List Nat) : List Nat := match firstI s 0 with | none => s | some i => s.drop (i + 1)
def dashU (u : List Nat) : List Nat := match lastI u u.length with | none => u | some i => u.take i
def dashR (u : List Nat) : List Nat := match lastI u u.length with | none => [] | some i => u.drop (i + 1)
/-- Whether a text of a bearable length is a version's. -/
def parseB (s : List Nat) : Bool :=
  rightB (colE s) (dashU (colU s)) (dashR (colU s)) && (decide (textL (colE s).toNat (dashU (colU s)) (dashR (colU s)) = s) || decide (48 :: 58 :: textL (colE s).toNat (dashU (colU s)) (dashR (colU s)) = s))
def parseE (s : List Nat) : Int := if s.length > 60 then 9 else if parseB s then 0 else 4
def parse1 (s : List Nat) : Int := if parseE s = 0 then colE s else 0
def parse2 (s : List Nat) : List Nat := if parseE s = 0 then dashU (colU s) else []
def parse3 (s : List Nat) : List Nat := if parseE s = 0 then dashR (colU s) else []
theorem firstI_step {s : ByteArray} {k : Nat} (hk : k < s.size) : firstI ((B s).drop k) k = if s[k].toNat = 58 then some k else firstI ((B s).drop (k + 1)) (k + 1) := by
  rw [B_drop s k hk]; rfl
theorem lastI_step {s : ByteArray} {k : Nat} (hk : k < s.size) : lastI (B s) (k + 1) = if s[k].toNat = 45 then some k else lastI (B s) k := by
  show (if (B s).getD k 0 = 45 then some k else lastI (B s) k) = _
  rw [B_getD s k hk]
theorem lastI_lt {u : List Nat} : ∀ {n i : Nat}, lastI u n = some i → i < n
  | 0, _, h => by cases h
  | n + 1, i, h => by
    simp only [lastI] at h
    split at h
    · injection h with h; omega
    · have := lastI_lt h; omega
/-- What Parse hands back. -/
def parseV (s : ByteArray) : Value := .tuple #[.agg #[.int .i64 (parse1 (B s)), .string (mk (parse2 (B s))), .string (mk (parse3 (B s)))], .int .i64 (parseE (B s))]
theorem parse_bad {s : ByteArray} (h : parseE (B s) ≠ 0) : parseV s = .tuple #[.agg #[.int .i64 0, .string { data := #[] }, .string { data := #[] }], .int .i64 (parseE (B s))] := by
  unfold parseV parse1 parse2 parse3
  rw [if_neg h, if_neg h, if_neg h]; rfl
end Go.Proofs.YtlelajcnfmmmjaaGreatDoor
