/- What strings.Split makes of a text, at its line feeds. -/
import Derived.Test.YtjfenheplkoajaaDoorS5o
import Derived.Lib.SplitLaws
set_option maxRecDepth 100000
set_option linter.unusedVariables false
set_option linter.unusedSimpArgs false
namespace Go.Proofs.YtjfenheplkoajaaDoor
open Go.RowKit
theorem ahead_at {c : Nat} : ∀ {l : List Nat}, c ∈ l → l = ahead c l ++ c :: l.drop ((ahead c l).length + 1)
  | [], h => by simp at h
  | x :: l, h => by
    unfold ahead
    by_cases hx : x = c
    · subst hx; simp
    · have hb : (x != c) = true := by rw [bne_iff_ne]; exact hx
      have := ahead_at ((List.mem_cons.1 h).resolve_left fun e => hx e.symm)
      rw [List.takeWhile_cons, if_pos hb, List.length_cons, List.drop_succ_cons, List.cons_append]
      congr 1
theorem ahead_ne {c : Nat} : ∀ {l : List Nat}, ∀ x ∈ ahead c l, x ≠ c
  | [], x, hx => by simp [ahead] at hx
  | y :: l, x, hx => by
    unfold ahead at hx
    rw [List.takeWhile_cons] at hx
    split at hx
    · rename_i hy
      rcases List.mem_cons.1 hx with rfl | hx
      · simpa using hy
      · exact ahead_ne x hx
    · cases hx
theorem ext0_mk {s : ByteArray} {k : Nat} : s.extract 0 k = mk ((B s).take k) := by
  apply eq_mk; rw [B_extract]; simp
theorem ext1_B {s : ByteArray} {k : Nat} : B (s.extract k s.size) = (B s).drop k := by
  rw [B_extract, List.take_of_length_le (by rw [List.length_drop, B_len]; omega)]
theorem split5_is : ∀ (k : Nat) (s : ByteArray), Lib.countB s { data := #[10] } = k → Lib.splitB { data := #[10] } 0 k s = (cutBy 10 (B s)).map mk := by
  have miss : ∀ s : ByteArray, 10 ∉ B s → [s] = (cutBy 10 (B s)).map mk := fun s a => by
    rw [cutBy_none (fun x hx e => a (by rw [← e]; exact hx)), List.map_singleton, mk_B]
  intro k
  induction k with
  | zero =>
    intro s h
    rw [Lib.splitB_zero]
    refine miss s fun a => ?_
    rcases index_nm 10 s.data.toList with ⟨_, h'⟩ | ⟨a', _⟩
    · have hi : Lib.indexB s { data := #[10] } = ((ahead 10 (B s)).length : Nat) := (Lib.index_one _ _).trans h'
      have := Lib.countB_hit s { data := #[10] } _ (by decide) hi
      omega
    · exact a' a
  | succ k ih =>
    intro s h
    rcases index_nm 10 s.data.toList with ⟨a, h'⟩ | ⟨_, h', _⟩
    · have hi : Lib.indexB s { data := #[10] } = ((ahead 10 (B s)).length : Nat) := (Lib.index_one _ _).trans h'
      have hc := Lib.countB_hit s { data := #[10] } _ (by decide) hi
      have hm : ¬ (Lib.indexB s { data := #[10] } == -1) = true := fun e => by have := beq_iff_eq.1 e; omega
      unfold Lib.splitB
      rw [if_neg hm, hi, ih _ (by rw [show ((ahead 10 (B s)).length : Int).toNat = (ahead 10 (B s)).length by omega]; omega)]
      have e := ahead_at (c := 10) (l := B s) a
      have e2 : cutBy 10 (B s) = ahead 10 (B s) :: cutBy 10 ((B s).drop ((ahead 10 (B s)).length + 1)) := by
        conv => lhs; rw [e]
        exact cutBy_at ahead_ne _
      rw [e2, List.map_cons, ext0_mk, ext1_B, show ((ahead 10 (B s)).length : Int).toNat + 0 = (ahead 10 (B s)).length by omega, ahead_take]
      rfl
    · have hi : Lib.indexB s { data := #[10] } = -1 := (Lib.index_one _ _).trans h'
      have := Lib.countB_miss s _ hi
      omega
theorem split5_any (s : ByteArray) (m : Int) (w : World) (hs : s.size ≤ 65536) (hm : w.cell? ⟨0, 0, none⟩ = some (.int .i64 m)) :
    Calls Tryd.prog 42 #[.string s, .string { data := #[10] }] w fun e w' => e = .returned (.slice (some ⟨w.heap.size, 0, none⟩) (cutBy 10 (B s)).length (cutBy 10 (B s)).length) ∧
      w' = w.alloc (.cells (((cutBy 10 (B s)).map mk).map Value.string).toArray 9) := by
  have e := split5_is _ s rfl
  have el := Lib.splitB_all { data := #[10] } (by decide) 0 _ s rfl
  rw [e, List.length_map] at el
  refine (Tryd.strings_Split s { data := #[10] } m w (by omega) hm (by decide)).mono ?_
  rintro e' w' ⟨rfl, rfl⟩
  rw [e, ← el]
  exact ⟨rfl, rfl⟩
end Go.Proofs.YtjfenheplkoajaaDoor
