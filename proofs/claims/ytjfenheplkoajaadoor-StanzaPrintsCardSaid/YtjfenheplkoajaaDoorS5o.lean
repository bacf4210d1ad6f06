/- What the library's functions on strings make of texts: Join, Cut and TrimLeft at one byte. -/
import Derived.Test.YtjfenheplkoajaaDoorS5n
import Derived.Test.YtjfenheplkoajaaDoorShelf
set_option maxRecDepth 100000
set_option linter.unusedVariables false
set_option linter.unusedSimpArgs false
namespace Go.Proofs.YtjfenheplkoajaaDoor
open Go.RowKit
theorem sjoin5_any {A : Option Addr} {n c : Nat} {l : List (List Nat)} (w : World) (h : rdStrs w (lt_ w.heap.size) l [.slice A n c]) (hp : plainV (.slice A n c)) (sep : ByteArray) (hl : l.length ≤ 140737488355328) (hj : (joinL (B sep) l).length ≤ 140737488355328) :
    Calls Tryd.prog 61 #[.slice A n c, .string sep] w fun e w' => e = .returned (.string (mk (joinL (B sep) l))) ∧ Below w.heap.size w w' := by
  obtain ⟨rfl, hnc, hcm, hat⟩ := rdStrs_at h
  rcases Nat.eq_zero_or_pos l.length with h0 | h0
  · obtain rfl : l = [] := List.eq_nil_of_length_eq_zero h0
    refine (Tryd.strings_Join_none A c sep w).mono ?_
    rintro e w' ⟨rfl, rfl⟩
    exact ⟨rfl, Below.refl _ _⟩
  · obtain ⟨ad, _, hA, hlt, _⟩ := hat 0 h0
    have had := hp ad _ c (by rw [hA])
    obtain ⟨bk, o, sp⟩ := ad
    simp only [Addr.mk.injEq, true_and] at had
    subst had
    subst hA
    have hxs : ∀ k (hk : k < l.length), B (mk l[k]) = l[k] := fun k hk => by
      obtain ⟨ad, s, _, _, _, hB⟩ := hat k hk
      rw [← hB, mk_B]
    have hmap : (l.map mk).map B = l := by
      rw [List.map_map]
      conv => rhs; rw [← List.map_id l]
      refine List.map_congr_left fun t ht => ?_
      obtain ⟨k, hk, rfl⟩ := List.getElem_of_mem ht
      exact hxs k hk
    have hlj : (Lib.join ((l.map mk).map (·.data.toList)) sep.data.toList).length ≤ 140737488355328 := by
      have h1 := congrArg List.length (libjoin_is sep (l.map mk))
      rw [List.length_map, hmap] at h1
      rw [h1]; exact hj
    have key := Tryd.strings_Join bk o c (l.map mk) sep w (fun j x hj => by
      obtain ⟨hj1, hj2⟩ := List.getElem?_eq_some_iff.1 hj
      rw [List.length_map] at hj1
      obtain ⟨ad, s, e1, _, hc, hB⟩ := hat j hj1
      injection e1 with e1
      subst e1
      have : (⟨bk, o, none⟩ : Addr).add j = ⟨bk, o + j, none⟩ := by unfold Addr.add; split <;> simp_all
      rw [this] at hc
      rw [hc, ← hj2, List.getElem_map, ← hB, mk_B]) hlt (by rw [List.length_map]; exact hl) (by rw [List.length_map]; exact hnc) hlj
    rw [List.length_map] at key
    refine key.mono ?_
    rintro e w' ⟨rfl, hb'⟩
    refine ⟨?_, hb'⟩
    congr 2
    refine eq_mk ?_
    have h1 := libjoin_is sep (l.map mk)
    rw [hmap] at h1
    rw [← h1]
    unfold B; simp
/-- What stands ahead of the first c. -/
def ahead (c : Nat) (l : List Nat) : List Nat := l.takeWhile fun x => x != c
theorem index_nm (b : UInt8) : ∀ l : List UInt8, (b.toNat ∈ l.map UInt8.toNat ∧ Lib.indexByte l b = ((ahead b.toNat (l.map UInt8.toNat)).length : Int)) ∨ (b.toNat ∉ l.map UInt8.toNat ∧ Lib.indexByte l b = -1 ∧ ahead b.toNat (l.map UInt8.toNat) = l.map UInt8.toNat)
  | [] => .inr ⟨by simp, rfl, rfl⟩
  | c :: l => by
    have ih := index_nm b l
    by_cases h : c = b
    · subst h
      exact .inl ⟨by simp, by simp [ahead, Lib.indexByte]⟩
    · have h2 : c.toNat ≠ b.toNat := fun hh => h (UInt8.toNat_inj.1 hh)
      have h3 : (c == b) = false := by rw [beq_eq_false_iff_ne]; exact h
      have h5 : (c.toNat != b.toNat) = true := by rw [bne_iff_ne]; exact h2
      have e2 : ahead b.toNat ((c :: l).map UInt8.toNat) = c.toNat :: ahead b.toNat (l.map UInt8.toNat) := by
        show List.takeWhile _ (c.toNat :: l.map UInt8.toNat) = _
        rw [List.takeWhile_cons, if_pos h5]; rfl
      rw [e2]
      simp only [Lib.indexByte, h3, Bool.false_eq_true, if_false]
      rcases ih with ⟨a, b'⟩ | ⟨a, b', d⟩
      · refine .inl ⟨by rw [List.map_cons]; exact List.mem_cons_of_mem _ a, ?_⟩
        rw [b']
        have : (((ahead b.toNat (l.map UInt8.toNat)).length : Int) == -1) = false := by rw [beq_eq_false_iff_ne]; omega
        rw [this]
        simp only [Bool.false_eq_true, if_false, List.length_cons]
        omega
      · refine .inr ⟨by rw [List.map_cons, List.mem_cons]; exact fun e => e.elim (fun e => h2 e.symm) a, ?_, by rw [d]; rfl⟩
        rw [b']; rfl
theorem ahead_take (c : Nat) (l : List Nat) : l.take (ahead c l).length = ahead c l := (List.prefix_iff_eq_take.1 (List.takeWhile_prefix _)).symm
theorem cut5_is (s : ByteArray) (b : UInt8) : (⟨(Lib.cut s.data.toList [b]).1.toArray⟩ : ByteArray) = mk (ahead b.toNat (B s)) ∧ (⟨(Lib.cut s.data.toList [b]).2.1.toArray⟩ : ByteArray) = mk ((B s).drop ((ahead b.toNat (B s)).length + 1)) ∧ (Lib.cut s.data.toList [b]).2.2 = decide (b.toNat ∈ B s) := by
  rcases index_nm b s.data.toList with ⟨a, h⟩ | ⟨a, h, d⟩
  · have hh : b.toNat ∈ B s := a
    have hb : Lib.indexByte s.data.toList b = ((ahead b.toNat (B s)).length : Int) := h
    have e0 : Lib.cut s.data.toList [b] = (s.data.toList.take (ahead b.toNat (B s)).length, s.data.toList.drop ((ahead b.toNat (B s)).length + 1), true) := by
      unfold Lib.cut; rw [Lib.index_one, if_pos (by omega), show (Lib.indexByte s.data.toList b).toNat = (ahead b.toNat (B s)).length by omega]; rfl
    rw [e0, decide_eq_true hh]
    refine ⟨?_, ?_, rfl⟩
    · rw [take_mk, ahead_take]
    · rw [drop_mk]
  · have hh : b.toNat ∉ B s := a
    have hd : ahead b.toNat (B s) = B s := d
    have e0 : Lib.cut s.data.toList [b] = (s.data.toList, [], false) := by
      unfold Lib.cut; rw [Lib.index_one, if_neg (by omega)]
    rw [e0, decide_eq_false hh, hd, List.drop_eq_nil_of_le (by omega)]
    exact ⟨eq_mk rfl, rfl, rfl⟩
theorem colon_any (s : ByteArray) (m : Int) (w : World) (hs : s.size ≤ 65536) (hm : w.cell? ⟨0, 0, none⟩ = some (.int .i64 m)) :
    Calls Tryd.prog 64 #[.string s, .string { data := #[58] }] w fun e w' => e = .returned (.tuple #[.string (mk (nmOf (B s))), .string (mk ((B s).drop ((nmOf (B s)).length + 1))), .bool (decide (58 ∈ B s))]) ∧ ∃ n, w' = w.drewN n := by
  refine (Tryd.strings_Cut s { data := #[58] } m w (by omega) hm).mono ?_
  rintro e w' ⟨rfl, n, rfl⟩
  refine ⟨?_, n, rfl⟩
  obtain ⟨a, b, c⟩ := cut5_is s 58
  show Ending.returned (.tuple #[.string ⟨(Lib.cut s.data.toList [58]).1.toArray⟩, .string ⟨(Lib.cut s.data.toList [58]).2.1.toArray⟩, .bool (Lib.cut s.data.toList [58]).2.2]) = _
  rw [a, b, c]
  rfl
theorem drop_while_nat (b : UInt8) : ∀ l : List UInt8, (l.dropWhile (· == b)).map UInt8.toNat = (l.map UInt8.toNat).dropWhile fun c => c == b.toNat
  | [] => rfl
  | c :: l => by
    by_cases h : c = b
    · subst h
      rw [List.map_cons, List.dropWhile_cons, List.dropWhile_cons, if_pos (beq_self_eq_true _), if_pos (beq_self_eq_true _)]
      exact drop_while_nat c l
    · have h2 : c.toNat ≠ b.toNat := fun hh => h (UInt8.toNat_inj.1 hh)
      rw [List.map_cons, List.dropWhile_cons, List.dropWhile_cons, if_neg (by simpa using h), if_neg (by simpa using h2)]
      rfl
theorem trim5_any (s : ByteArray) (w : World) :
    Calls Tryd.prog 71 #[.string s, .string { data := #[32] }] w fun e w' => e = .returned (.string (mk ((B s).dropWhile fun c => c == 32))) ∧ w' = w := by
  refine (Tryd.strings_TrimLeft_one s 32 (by decide) w).mono ?_
  rintro e w' ⟨rfl, rfl⟩
  refine ⟨?_, rfl⟩
  congr 2
  refine eq_mk ?_
  have h := drop_while_nat 32 s.data.toList
  unfold Lib.trimLeftB
  unfold B
  rw [List.toList_toArray]
  exact h
end Go.Proofs.YtjfenheplkoajaaDoor
