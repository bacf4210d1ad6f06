/- The contract of the program's own order of texts: the document's. -/
import Derived.Test.YtmlakjemgmeffaaGreatDoorVerPZ
import Derived.Test.YtmlakjemgmeffaaGreatDoorShelfZ
import Derived.Outline
set_option maxRecDepth 100000
set_option linter.unusedVariables false
namespace Go.Proofs.YtmlakjemgmeffaaGreatDoor
open Go.RowKit
def csV (s t : ByteArray) : Int := if Op.bytesLess s.toList t.toList = true then -1 else if s.toList = t.toList then 0 else 1
theorem cmpStr_any (s t : ByteArray) (w : World) : Calls Tryz.prog 59 #[.string s, .string t] w fun e w' => e = .returned (.int .i64 (csV s t)) ∧ w = w' := by
  have N := Lib.hid (show (Op.bytesLess s.toList t.toList = true → csV s t = -1) ∧ (Op.bytesLess s.toList t.toList = false → ¬ s.toList = t.toList → csV s t = 1) ∧ (Op.bytesLess s.toList t.toList = false → s.toList = t.toList → csV s t = 0) by
    unfold csV
    refine ⟨fun h => by rw [if_pos h], fun h h2 => by rw [if_neg (by simp [h]), if_neg h2], fun h h2 => by rw [if_neg (by simp [h]), if_pos h2]⟩)
  go_enter Tryz.func59, Tryz.ntmps59
  go_wp2
  · have h1 : Op.bytesLess s.toList t.toList = true := by assumption
    go_ret
    exact ⟨by rw [N.out.1 h1]; rfl, rfl⟩
  · have h1 : Op.bytesLess s.toList t.toList = false := by assumption
    have h2 : (!s.toList == t.toList) = true := by assumption
    go_ret
    exact ⟨by rw [N.out.2.1 h1 (by simpa using h2)]; rfl, rfl⟩
  · have h1 : Op.bytesLess s.toList t.toList = false := by assumption
    have h2 : (!s.toList == t.toList) = false := by assumption
    go_ret
    exact ⟨by rw [N.out.2.2 h1 (by simpa using h2)]; rfl, rfl⟩
theorem csV_lex {s t : ByteArray} (h : s.size = t.size) : csV s t = lexL (B s) (B t) := by
  have hll : s.toList.length = t.toList.length := by rw [toList_data, toList_data, Array.length_toList, Array.length_toList]; exact h
  obtain ⟨i1, i2, i3⟩ := bytesLess_lex s.toList t.toList hll
  have e1 : s.toList.map UInt8.toNat = B s := by rw [toList_data]; rfl
  have e2 : t.toList.map UInt8.toNat = B t := by rw [toList_data]; rfl
  rw [e1, e2] at i1 i2 i3
  unfold csV
  rcases i3 with h | h | h
  · rw [if_pos (i1.2 h), h]
  · have h2 := i2.2 h
    rw [if_neg (fun hh => by have := i1.1 hh; omega), if_pos h2, h]
  · rw [if_neg (fun hh => by have := i1.1 hh; omega), if_neg (fun hh => by have := i2.1 hh; omega), h]
theorem or_numC (s t : ByteArray) : orL [sgn ((s.size : Int) - t.size), csV s t] = numC (B s) (B t) := by
  unfold numC
  rw [B_len, B_len]
  simp only [orL]
  by_cases h : s.size = t.size
  · have e0 : sgn ((s.size : Int) - t.size) = 0 := sgn_zero.2 (by omega)
    rw [e0, csV_lex h]
    simp only [h, ne_eq, not_true, if_false]
    split
    · rfl
    · rename_i hh; exact (Classical.not_not.1 hh).symm
  · have h0 : sgn ((s.size : Int) - t.size) ≠ 0 := fun hh => by have := sgn_zero.1 hh; omega
    simp only [h0, h, ne_eq, not_false_iff, if_true]
theorem trim_is (s : ByteArray) : (⟨(Lib.trimLeftB s.data.toList 48).toArray⟩ : ByteArray) = mk (dz (B s)) := by
  apply eq_mk
  unfold Lib.trimLeftB dz B
  simp only
  rw [List.dropWhile_map]
  congr 2
  funext c
  simp only [Function.comp]
  rw [Bool.eq_iff_iff, beq_iff_eq, beq_iff_eq]
  exact ⟨fun h => by rw [h]; rfl, fun h => UInt8.toNat_inj.1 h⟩
theorem trimL_any (s : ByteArray) (w : World) : Calls Tryz.prog 195 #[.string s, .string { data := #[48] }] w fun e w' => e = .returned (.string (mk (dz (B s)))) ∧ w = w' := by
  refine (Tryz.strings_TrimLeft_one s 48 (by decide) w).mono ?_
  rintro e w' ⟨rfl, rfl⟩
  exact ⟨by rw [trim_is], rfl⟩
theorem dz_lt {l : List Nat} (h : ∀ c ∈ l, c < 256) : ∀ c ∈ dz l, c < 256 := fun c hc => h c ((List.dropWhile_suffix _).subset hc)
theorem dz_len (l : List Nat) : (dz l).length ≤ l.length := (List.dropWhile_suffix _).length_le
theorem vnum_any (s t : ByteArray) (w : World) (hs : s.size ≤ 9223372036854775807) (ht : t.size ≤ 9223372036854775807) :
    Calls Tryz.prog 169 #[.string s, .string t] w fun e w' => e = .returned (.int .i64 (numC (dz (B s)) (dz (B t)))) ∧ Below w.heap.size w w' := by
  have X := Lib.hid (show orL [sgn (((mk (dz (B s))).size : Int) - (mk (dz (B t))).size), csV (mk (dz (B s))) (mk (dz (B t)))] = numC (dz (B s)) (dz (B t)) by
    rw [or_numC, B_mk (dz_lt (B_lt s)), B_mk (dz_lt (B_lt t))])
  have b1 : (mk (dz (B s))).size ≤ 9223372036854775807 := by rw [size_mk]; have := dz_len (B s); rw [B_len] at this; omega
  have b2 : (mk (dz (B t))).size ≤ 9223372036854775807 := by rw [size_mk]; have := dz_len (B t); rw [B_len] at this; omega
  have T1 := Lib.hid (trimL_any s w)
  have T2 := Lib.hid (trimL_any t w)
  have C1 := Lib.hid (cmpInt_any)
  generalize mk (dz (B s)) = x at *
  generalize mk (dz (B t)) = y at *
  generalize numC (dz (B s)) (dz (B t)) = z at *
  have C2 := Lib.hid (cmpStr_any x y)
  go_enter Tryz.func169, Tryz.ntmps169
  go_wp2_with (first | (go_at_call 195; (with_reducible refine T1.out.mono ?_); rintro e w' ⟨rfl, rfl⟩) | (go_at_call 195; (with_reducible refine T2.out.mono ?_); rintro e w' ⟨rfl, rfl⟩) | (go_at_call 126; (with_reducible refine (C1.out _ _ _).mono ?_); rintro e w' ⟨rfl, rfl⟩) | (go_at_call 59; (with_reducible refine (C2.out _).mono ?_); rintro e w' ⟨rfl, rfl⟩))
  refine (or_any w.heap.size 2 [sgn ((x.size : Int) - y.size), csV x y] _ rfl (by decide) ?_).mono ?_
  · intro k hk
    rcases (by omega : k = 0 ∨ k = 1) with rfl | rfl <;> simp [go_sem]
  rintro e w' ⟨rfl, rfl⟩
  rw [X.out]
  go_wp2
  go_ret
  exact ⟨rfl, (Below.refl _ w).alloc (Nat.le_refl _) _⟩
end Go.Proofs.YtmlakjemgmeffaaGreatDoor
