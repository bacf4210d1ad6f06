/- Slices of strings that read as texts; what strings.Join makes of texts. No condition. -/
import Derived.Test.YtjfenheplkoajaaDoorDeep
import Derived.Test.YtjfenheplkoajaaDoorCutP
import Derived.Lib.Join
import Derived.Laws.IdiomStrings
set_option linter.unusedVariables false
set_option linter.unusedSimpArgs false
namespace Go.Proofs.YtjfenheplkoajaaDoor
open Go.RowKit
/-- A string that reads as a list of numbers. -/
theorem str_info : (Tryd.prog.info? 9).map (fun i => (i.zero, i.size, i.bytes)) = some (some (.string { data := #[] }), 1, 16) := by kernel_rfl
def rdStr : Rd (List Nat) := fun _ _ l cs => ∃ s : ByteArray, cs = [.string s] ∧ B s = l
theorem rdStr_good : Good rdStr 1 := ⟨fun h _ => h, fun h _ => h, fun h _ _ => h, fun h => by obtain ⟨s, rfl, _⟩ := h; rfl, fun h u hu => by obtain ⟨s, rfl, _⟩ := h; rw [List.mem_singleton.1 hu]; rfl⟩
abbrev rdStrs : Rd (List (List Nat)) := rdRow 1 rdStr
theorem rdStrs_good : Good rdStrs 1 := rdRow_good rdStr_good
theorem rdStrs_at {w : World} {S : Nat → Prop} {l : List (List Nat)} {A : Option Addr} {n c : Nat} (h : rdStrs w S l [.slice A n c]) : n = l.length ∧ n ≤ c ∧ c ≤ maxLen ∧ ∀ k (hk : k < l.length), ∃ ad s, A = some ad ∧ S ad.block ∧
    w.cell? (ad.add k) = some (.string s) ∧ B s = l[k] := by
  obtain ⟨A', c', e, h1, h2, h⟩ := h
  simp only [List.cons.injEq, Value.slice.injEq, and_true] at e
  obtain ⟨rfl, rfl, rfl⟩ := e
  refine ⟨rfl, h1, h2, fun k hk => ?_⟩
  obtain ⟨ad, es, e, hS, ⟨s, rfl, hs⟩, hl, hc⟩ := h k hk
  have := hc 0 _ rfl
  rw [Nat.mul_one] at this
  exact ⟨ad, s, e, hS, this, hs⟩
theorem libjoin_two (x y sep : List UInt8) (r : List (List UInt8)) : Lib.join (x :: y :: r) sep = x ++ (sep ++ Lib.join (y :: r) sep) := by
  rw [Lib.join_cons, Lib.join_cons]
  unfold Lib.joinTail
  simp
theorem libjoin_is (sep : ByteArray) : ∀ xs : List ByteArray, (Lib.join (xs.map (·.data.toList)) sep.data.toList).map UInt8.toNat = joinL (B sep) (xs.map B)
  | [] => rfl
  | [x] => by rw [List.map_singleton, Lib.join_one]; rfl
  | x :: y :: r => by
    have ih := libjoin_is sep (y :: r)
    rw [List.map_cons, List.map_cons, libjoin_two, List.map_append, List.map_append]
    rw [List.map_cons] at ih
    rw [ih]; rfl
theorem joinL_len {sep : List Nat} {M : Nat} : ∀ {l : List (List Nat)}, (∀ t ∈ l, t.length ≤ M) → (joinL sep l).length ≤ l.length * (M + sep.length)
  | [], _ => by simp [joinL]
  | [x], h => by have := h x (by simp); simp [joinL]; omega
  | x :: y :: r, h => by
    have h1 := h x (by simp)
    have ih := joinL_len (sep := sep) (l := y :: r) (fun t ht => h t (by simp [ht]))
    simp only [joinL, List.length_append, List.length_cons] at ih ⊢
    rw [Nat.add_mul (r.length + 1) 1, Nat.one_mul]
    omega
/-- Two strings behind each other, as a letter. -/
theorem add_out (a b : ByteArray) (x y : Nat) (ha : a.size ≤ x) (hb : b.size ≤ y) (h : x + y ≤ 9223372036854775807 := by decide) : ∃ c : ByteArray, (∀ w, (Op.stringOp .add a b).run Tryd.prog w = .ok (.string c) w) ∧ c = a ++ b ∧ c.size ≤ x + y :=
  ⟨a ++ b, fun w => run_string_add_sum w a b (by omega), rfl, by rw [ByteArray.size_append]; omega⟩
theorem bytes_cells (w : World) (s : ByteArray) : ∃ (cap : Nat) (w1 : World), (convert 9 65 (.string s)).run Tryd.prog w = .ok (.slice (some ⟨w.heap.size, 0, none⟩) s.size cap) w1 ∧ Below w.heap.size w w1 ∧ ∀ (k : Nat) (hk : k < s.size), w1.cell? ⟨w.heap.size, k, none⟩ = some (.int .u8 (s[k].toNat : Int)) := by
  refine ⟨_, _, run_bytes_of_string w 9 65 5 s Tryd.underlying9 Tryd.underlying65 Tryd.underlying5, (Below.refl _ w).drew.alloc (Nat.le_refl _) _, ?_⟩
  intro k hk
  have hk2 : k < s.data.size := hk
  have : (bytesRow s (grownCap w s.size 0 5))[k]? = some (.int .u8 (s[k].toNat : Int)) := by
    unfold bytesRow
    rw [Array.getElem?_append_left (by simpa using hk2), Array.getElem?_map, Array.getElem?_eq_getElem hk2]
    rfl
  exact (World.cell?_alloc_mark w.drew _ _ _ k).trans this
end Go.Proofs.YtjfenheplkoajaaDoor
