/- What the laws of this seat rest on: S5o, S5p, S5q, S5r. -/
import Derived.Test.YtmlakjemgmeffaaGreatDoorQAI
import Derived.Test.YtmlakjemgmeffaaGreatDoorShelfY
import Derived.Lib.SplitLaws

section
set_option maxRecDepth 100000
set_option linter.unusedVariables false
set_option linter.unusedSimpArgs false
namespace Go.Proofs.YtmlakjemgmeffaaGreatDoor
open Go.RowKit
theorem sjoin5_any {A : Option Addr} {n c : Nat} {l : List (List Nat)} (w : World) (h : rdStrs w (lt_ w.heap.size) l [.slice A n c]) (hp : plainV (.slice A n c)) (sep : ByteArray) (hl : l.length ≤ 140737488355328) (hj : (joinL (B sep) l).length ≤ 140737488355328) :
    Calls Tryz.prog 104 #[.slice A n c, .string sep] w fun e w' => e = .returned (.string (mk (joinL (B sep) l))) ∧ Below w.heap.size w w' := by
  obtain ⟨rfl, hnc, hcm, hat⟩ := rdStrs_at h
  rcases Nat.eq_zero_or_pos l.length with h0 | h0
  · obtain rfl : l = [] := List.eq_nil_of_length_eq_zero h0
    refine (Tryz.strings_Join_none A c sep w).mono ?_
    rintro e w' ⟨rfl, rfl⟩
    exact ⟨rfl, Below.refl _ _⟩
  · obtain ⟨ad, _, hA, hlt, _⟩ := hat 0 h0
    have had := hp ad _ c (by rw [hA])
    obtain ⟨bk, o, sp⟩ := ad
    simp only [Addr.mk.injEq, true_and] at had
    subst had
    subst hA
    have hxs : ∀ k (hk : k < l.length), B (mk l[k]) = l[k] := fun k hk => by
      obtain ⟨ad, s, _, _, _, hB⟩ := hat k hk
      rw [← hB, mk_B]
    have hmap : (l.map mk).map B = l := by
      rw [List.map_map]
      conv => rhs; rw [← List.map_id l]
      refine List.map_congr_left fun t ht => ?_
      obtain ⟨k, hk, rfl⟩ := List.getElem_of_mem ht
      exact hxs k hk
    have hlj : (Lib.join ((l.map mk).map (·.data.toList)) sep.data.toList).length ≤ 140737488355328 := by
      have h1 := congrArg List.length (libjoin_is sep (l.map mk))
      rw [List.length_map, hmap] at h1
      rw [h1]; exact hj
    have key := Tryz.strings_Join bk o c (l.map mk) sep w (fun j x hj => by
      obtain ⟨hj1, hj2⟩ := List.getElem?_eq_some_iff.1 hj
      rw [List.length_map] at hj1
      obtain ⟨ad, s, e1, _, hc, hB⟩ := hat j hj1
      injection e1 with e1
      subst e1
      have : (⟨bk, o, none⟩ : Addr).add j = ⟨bk, o + j, none⟩ := by unfold Addr.add; split <;> simp_all
      rw [this] at hc
      rw [hc, ← hj2, List.getElem_map, ← hB, mk_B]) hlt (by rw [List.length_map]; exact hl) (by rw [List.length_map]; exact hnc) hlj
    rw [List.length_map] at key
    refine key.mono ?_
    rintro e w' ⟨rfl, hb'⟩
    refine ⟨?_, hb'⟩
    congr 2
    refine eq_mk ?_
    have h1 := libjoin_is sep (l.map mk)
    rw [hmap] at h1
    rw [← h1]
    unfold B; simp
def ahead (c : Nat) (l : List Nat) : List Nat := l.takeWhile fun x => x != c
theorem index_nm (b : UInt8) : ∀ l : List UInt8, (b.toNat ∈ l.map UInt8.toNat ∧ Lib.indexByte l b = ((ahead b.toNat (l.map UInt8.toNat)).length : Int)) ∨ (b.toNat ∉ l.map UInt8.toNat ∧ Lib.indexByte l b = -1 ∧ ahead b.toNat (l.map UInt8.toNat) = l.map UInt8.toNat)
  | [] => .inr ⟨by simp, rfl, rfl⟩
  | c :: l => by
    have ih := index_nm b l
    by_cases h : c = b
    · subst h
      exact .inl ⟨by simp, by simp [ahead, Lib.indexByte]⟩
    · have h2 : c.toNat ≠ b.toNat := fun hh => h (UInt8.toNat_inj.1 hh)
      have h3 : (c == b) = false := by rw [beq_eq_false_iff_ne]; exact h
      have h5 : (c.toNat != b.toNat) = true := by rw [bne_iff_ne]; exact h2
      have e2 : ahead b.toNat ((c :: l).map UInt8.toNat) = c.toNat :: ahead b.toNat (l.map UInt8.toNat) := by
        show List.takeWhile _ (c.toNat :: l.map UInt8.toNat) = _
        rw [List.takeWhile_cons, if_pos h5]; rfl
      rw [e2]
      simp only [Lib.indexByte, h3, Bool.false_eq_true, if_false]
      rcases ih with ⟨a, b'⟩ | ⟨a, b', d⟩
      · refine .inl ⟨by rw [List.map_cons]; exact List.mem_cons_of_mem _ a, ?_⟩
        rw [b']
        have : (((ahead b.toNat (l.map UInt8.toNat)).length : Int) == -1) = false := by rw [beq_eq_false_iff_ne]; omega
        rw [this]
        simp only [Bool.false_eq_true, if_false, List.length_cons]
        omega
      · refine .inr ⟨by rw [List.map_cons, List.mem_cons]; exact fun e => e.elim (fun e => h2 e.symm) a, ?_, by rw [d]; rfl⟩
        rw [b']; rfl
theorem ahead_take (c : Nat) (l : List Nat) : l.take (ahead c l).length = ahead c l := (List.prefix_iff_eq_take.1 (List.takeWhile_prefix _)).symm
theorem cut5_is (s : ByteArray) (b : UInt8) : (⟨(Lib.cut s.data.toList [b]).1.toArray⟩ : ByteArray) = mk (ahead b.toNat (B s)) ∧ (⟨(Lib.cut s.data.toList [b]).2.1.toArray⟩ : ByteArray) = mk ((B s).drop ((ahead b.toNat (B s)).length + 1)) ∧ (Lib.cut s.data.toList [b]).2.2 = decide (b.toNat ∈ B s) := by
  rcases index_nm b s.data.toList with ⟨a, h⟩ | ⟨a, h, d⟩
  · have hh : b.toNat ∈ B s := a
    have hb : Lib.indexByte s.data.toList b = ((ahead b.toNat (B s)).length : Int) := h
    have e0 : Lib.cut s.data.toList [b] = (s.data.toList.take (ahead b.toNat (B s)).length, s.data.toList.drop ((ahead b.toNat (B s)).length + 1), true) := by
      unfold Lib.cut; rw [Lib.index_one, if_pos (by omega), show (Lib.indexByte s.data.toList b).toNat = (ahead b.toNat (B s)).length by omega]; rfl
    rw [e0, decide_eq_true hh]
    refine ⟨?_, ?_, rfl⟩
    · rw [take_mk, ahead_take]
    · rw [drop_mk]
  · have hh : b.toNat ∉ B s := a
    have hd : ahead b.toNat (B s) = B s := d
    have e0 : Lib.cut s.data.toList [b] = (s.data.toList, [], false) := by
      unfold Lib.cut; rw [Lib.index_one, if_neg (by omega)]
    rw [e0, decide_eq_false hh, hd, List.drop_eq_nil_of_le (by omega)]
    exact ⟨eq_mk rfl, rfl, rfl⟩
theorem colon_any (s : ByteArray) (m : Int) (w : World) (hs : s.size ≤ 65536) (hm : w.cell? ⟨1, 0, none⟩ = some (.int .i64 m)) :
    Calls Tryz.prog 119 #[.string s, .string { data := #[58] }] w fun e w' => e = .returned (.tuple #[.string (mk (nmOf (B s))), .string (mk ((B s).drop ((nmOf (B s)).length + 1))), .bool (decide (58 ∈ B s))]) ∧ ∃ n, w' = w.drewN n := by
  refine (Tryz.strings_Cut s { data := #[58] } m w (by omega) hm).mono ?_
  rintro e w' ⟨rfl, n, rfl⟩
  refine ⟨?_, n, rfl⟩
  obtain ⟨a, b, c⟩ := cut5_is s 58
  show Ending.returned (.tuple #[.string ⟨(Lib.cut s.data.toList [58]).1.toArray⟩, .string ⟨(Lib.cut s.data.toList [58]).2.1.toArray⟩, .bool (Lib.cut s.data.toList [58]).2.2]) = _
  rw [a, b, c]
  rfl
theorem drop_while_nat (b : UInt8) : ∀ l : List UInt8, (l.dropWhile (· == b)).map UInt8.toNat = (l.map UInt8.toNat).dropWhile fun c => c == b.toNat
  | [] => rfl
  | c :: l => by
    by_cases h : c = b
    · subst h
      rw [List.map_cons, List.dropWhile_cons, List.dropWhile_cons, if_pos (beq_self_eq_true _), if_pos (beq_self_eq_true _)]
      exact drop_while_nat c l
    · have h2 : c.toNat ≠ b.toNat := fun hh => h (UInt8.toNat_inj.1 hh)
      rw [List.map_cons, List.dropWhile_cons, List.dropWhile_cons, if_neg (by simpa using h), if_neg (by simpa using h2)]
      rfl
theorem trim5_any (s : ByteArray) (w : World) :
    Calls Tryz.prog 195 #[.string s, .string { data := #[32] }] w fun e w' => e = .returned (.string (mk ((B s).dropWhile fun c => c == 32))) ∧ w' = w := by
  refine (Tryz.strings_TrimLeft_one s 32 (by decide) w).mono ?_
  rintro e w' ⟨rfl, rfl⟩
  refine ⟨?_, rfl⟩
  congr 2
  refine eq_mk ?_
  have h := drop_while_nat 32 s.data.toList
  unfold Lib.trimLeftB
  unfold B
  rw [List.toList_toArray]
  exact h
end Go.Proofs.YtmlakjemgmeffaaGreatDoor
end

section
set_option maxRecDepth 100000
set_option linter.unusedVariables false
set_option linter.unusedSimpArgs false
namespace Go.Proofs.YtmlakjemgmeffaaGreatDoor
open Go.RowKit
theorem ahead_at {c : Nat} : ∀ {l : List Nat}, c ∈ l → l = ahead c l ++ c :: l.drop ((ahead c l).length + 1)
  | [], h => by simp at h
  | x :: l, h => by
    unfold ahead
    by_cases hx : x = c
    · subst hx; simp
    · have hb : (x != c) = true := by rw [bne_iff_ne]; exact hx
      have := ahead_at ((List.mem_cons.1 h).resolve_left fun e => hx e.symm)
      rw [List.takeWhile_cons, if_pos hb, List.length_cons, List.drop_succ_cons, List.cons_append]
      congr 1
theorem ahead_ne {c : Nat} : ∀ {l : List Nat}, ∀ x ∈ ahead c l, x ≠ c
  | [], x, hx => by simp [ahead] at hx
  | y :: l, x, hx => by
    unfold ahead at hx
    rw [List.takeWhile_cons] at hx
    split at hx
    · rename_i hy
      rcases List.mem_cons.1 hx with rfl | hx
      · simpa using hy
      · exact ahead_ne x hx
    · cases hx
theorem ext0_mk {s : ByteArray} {k : Nat} : s.extract 0 k = mk ((B s).take k) := by
  apply eq_mk; rw [B_extract]; simp
theorem ext1_B {s : ByteArray} {k : Nat} : B (s.extract k s.size) = (B s).drop k := by
  rw [B_extract, List.take_of_length_le (by rw [List.length_drop, B_len]; omega)]
theorem split5_is : ∀ (k : Nat) (s : ByteArray), Lib.countB s { data := #[10] } = k → Lib.splitB { data := #[10] } 0 k s = (cutBy 10 (B s)).map mk := by
  have miss : ∀ s : ByteArray, 10 ∉ B s → [s] = (cutBy 10 (B s)).map mk := fun s a => by
    rw [cutBy_none (fun x hx e => a (by rw [← e]; exact hx)), List.map_singleton, mk_B]
  intro k
  induction k with
  | zero =>
    intro s h
    rw [Lib.splitB_zero]
    refine miss s fun a => ?_
    rcases index_nm 10 s.data.toList with ⟨_, h'⟩ | ⟨a', _⟩
    · have hi : Lib.indexB s { data := #[10] } = ((ahead 10 (B s)).length : Nat) := (Lib.index_one _ _).trans h'
      have := Lib.countB_hit s { data := #[10] } _ (by decide) hi
      omega
    · exact a' a
  | succ k ih =>
    intro s h
    rcases index_nm 10 s.data.toList with ⟨a, h'⟩ | ⟨_, h', _⟩
    · have hi : Lib.indexB s { data := #[10] } = ((ahead 10 (B s)).length : Nat) := (Lib.index_one _ _).trans h'
      have hc := Lib.countB_hit s { data := #[10] } _ (by decide) hi
      have hm : ¬ (Lib.indexB s { data := #[10] } == -1) = true := fun e => by have := beq_iff_eq.1 e; omega
      unfold Lib.splitB
      rw [if_neg hm, hi, ih _ (by rw [show ((ahead 10 (B s)).length : Int).toNat = (ahead 10 (B s)).length by omega]; omega)]
      have e := ahead_at (c := 10) (l := B s) a
      have e2 : cutBy 10 (B s) = ahead 10 (B s) :: cutBy 10 ((B s).drop ((ahead 10 (B s)).length + 1)) := by
        conv => lhs; rw [e]
        exact cutBy_at ahead_ne _
      rw [e2, List.map_cons, ext0_mk, ext1_B, show ((ahead 10 (B s)).length : Int).toNat + 0 = (ahead 10 (B s)).length by omega, ahead_take]
      rfl
    · have hi : Lib.indexB s { data := #[10] } = -1 := (Lib.index_one _ _).trans h'
      have := Lib.countB_miss s _ hi
      omega
theorem split5_any (s : ByteArray) (m : Int) (w : World) (hs : s.size ≤ 65536) (hm : w.cell? ⟨1, 0, none⟩ = some (.int .i64 m)) :
    Calls Tryz.prog 123 #[.string s, .string { data := #[10] }] w fun e w' => e = .returned (.slice (some ⟨w.heap.size, 0, none⟩) (cutBy 10 (B s)).length (cutBy 10 (B s)).length) ∧
      w' = w.alloc (.cells (((cutBy 10 (B s)).map mk).map Value.string).toArray 9) := by
  have e := split5_is _ s rfl
  have el := Lib.splitB_all { data := #[10] } (by decide) 0 _ s rfl
  rw [e, List.length_map] at el
  refine (Tryz.strings_Split s { data := #[10] } m w (by omega) hm (by decide)).mono ?_
  rintro e' w' ⟨rfl, rfl⟩
  rw [e, ← el]
  exact ⟨rfl, rfl⟩
end Go.Proofs.YtmlakjemgmeffaaGreatDoor
end

section
set_option maxRecDepth 100000
set_option linter.unusedVariables false
set_option linter.unusedSimpArgs false
namespace Go.Proofs.YtmlakjemgmeffaaGreatDoor
open Go.RowKit
set_option maxHeartbeats 2000000 in
theorem begin5_form (x : ByteArray) (N r k : Nat) (p : PS) (vs vo vl : Value) (m : Int) (w : World) (hR : RdP w N r k p vs vo vl) (hx : x.size ≤ 65536) (hm : w.cell? ⟨1, 0, none⟩ = some (.int .i64 m)) (h : (decide (58 ∈ B x) && fnB (nmOf (B x))) = false) :
    Calls Tryz.prog 163 #[.pointer (some ⟨r, 0, none⟩), .string x] w fun e w' => e = erE 5 ∧ Below w.heap.size w w' := by
  have C := Lib.hid (colon_any x m w hx hm)
  have HX := Lib.hid hx
  have nmB5 : B (mk (nmOf (B x))) = nmOf (B x) := by
    have e : B (mk ((B x).take (nmOf (B x)).length)) = (B x).take (nmOf (B x)).length := by rw [← ext0_mk, B_extract]; simp
    rwa [nm_take] at e
  clear hR hm
  cases h1 : decide (58 ∈ B x)
  · rw [h1] at C
    clear h h1 hx nmB5
    go_enter Tryz.func163, Tryz.ntmps163
    go_wp2_with fail
    refine C.out.mono ?_
    rintro e w1 ⟨rfl, n, rfl⟩
    have hb := belD (Below.refl w.heap.size w) n
    generalize w.drewN n = V at *
    have HB := Lib.hid (hb.alloc hb.size (.cells #[.string (mk (nmOf (B x)))] 9))
    clear hb
    go_wp2
    exact ⟨rfl, rfl, HB.out⟩
  · rw [h1] at C
    rw [h1, Bool.true_and] at h
    have NM := Lib.hid (fun W => name5_any (mk (nmOf (B x))) W (by rw [← B_len]; have := nm_le (B x); rw [B_len] at this; rw [nmB5]; unfold maxLen; omega))
    rw [nmB5, h] at NM
    clear h h1 hx nmB5
    go_enter Tryz.func163, Tryz.ntmps163
    go_wp2_with fail
    refine C.out.mono ?_
    rintro e w1 ⟨rfl, n, rfl⟩
    have hb := belD (Below.refl w.heap.size w) n
    generalize w.drewN n = V at *
    have HB := Lib.hid (hb.alloc hb.size (.cells #[.string (mk (nmOf (B x)))] 9))
    clear hb
    go_wp2_with fail
    refine (NM.out _).mono ?_
    rintro e w2 ⟨rfl, hb2⟩
    have HB2 := Lib.hid (HB.out.trans (hb2.mono HB.out.size))
    clear hb2
    go_wp2
    exact ⟨rfl, rfl, HB2.out⟩
theorem nm_mk (x : ByteArray) : B (mk (nmOf (B x))) = nmOf (B x) := by
  have e : B (mk ((B x).take (nmOf (B x)).length)) = (B x).take (nmOf (B x)).length := by rw [← ext0_mk, B_extract]; simp
  rwa [nm_take] at e
set_option maxHeartbeats 2000000 in
theorem begin5_there (x : ByteArray) (N r k : Nat) (p : PS) (vs vo vl : Value) (m : Int) (w : World) (hR : RdP w N r k p vs vo vl) (hr : r < w.heap.size) (hx : x.size ≤ 65536) (hm : w.cell? ⟨1, 0, none⟩ = some (.int .i64 m)) (h : (decide (58 ∈ B x) && fnB (nmOf (B x))) = true)
    (hh : opHas p.op (mk (nmOf (B x))) = true) :
    Calls Tryz.prog 163 #[.pointer (some ⟨r, 0, none⟩), .string x] w fun e w' => e = erE 7 ∧ Below w.heap.size w w' := by
  have C := Lib.hid (colon_any x m w hx hm)
  rw [Bool.and_eq_true] at h
  obtain ⟨A, c, rfl, hc1, hc2⟩ := hR.own
  have hc2' : c ≤ 9223372036854775807 := hc2
  rw [h.1] at C
  have NM := Lib.hid (fun W => name5_any (mk (nmOf (B x))) W (by rw [← B_len, nm_mk]; have := nm_le (B x); rw [B_len] at this; unfold maxLen; omega))
  rw [nm_mk, h.2] at NM
  have HR := Lib.hid hR
  have HH := Lib.hid hh
  have HRR := Lib.hid hr
  clear hR hm hx h hh hc2 hr
  go_enter Tryz.func163, Tryz.ntmps163
  go_wp2_with fail
  refine C.out.mono ?_
  rintro e w1 ⟨rfl, n, rfl⟩
  have hb := belD (Below.refl w.heap.size w) n
  generalize w.drewN n = V at *
  have HB := Lib.hid (hb.alloc hb.size (.cells #[.string (mk (nmOf (B x)))] 9))
  have hq : (⟨V.heap.size, 0, none⟩ : Addr).block < (V.alloc (.cells #[.string (mk (nmOf (B x)))] 9)).heap.size := by rw [World.size_alloc]; exact Nat.lt_succ_self _
  have hc : (V.alloc (.cells #[.string (mk (nmOf (B x)))] 9)).cell? ⟨V.heap.size, 0, none⟩ = some (.string (mk (nmOf (B x)))) := by simp [go_sem]
  have HQ := Lib.hid hq
  have HC := Lib.hid hc
  clear hb hq hc
  go_wp2_with fail
  refine (NM.out _).mono ?_
  rintro e w2 ⟨rfl, hb2⟩
  have HB2 := Lib.hid (HB.out.trans (hb2.mono HB.out.size))
  have R2 := Lib.hid (HR.out.below HB2.out HRR.out)
  have c2 := R2.out.c2
  have CF := Lib.hid (hasOp_any A p.op.length c p.op vl (mk (nmOf (B x))) ⟨V.heap.size, 0, none⟩ w2 (R2.out.go.read rdOpX_good) (R2.out.gl.read rdStr_good) R2.out.gl.plain (Nat.lt_of_lt_of_le HQ.out hb2.size) ((hb2.cell HQ.out).trans HC.out))
  rw [HH.out] at CF
  clear hb2
  have hmf : ∀ (fn : Fn) (first cap : Array Value) (w : World), (Instr.makeFunc fn first cap).run Tryz.prog w = .ok (.func fn first cap) w := fun _ _ _ _ => rfl
  go_wp2_with fail
  refine CF.out.mono ?_
  rintro e w3 ⟨rfl, hb3⟩
  have HB3 := Lib.hid (HB2.out.trans (hb3.mono HB2.out.size))
  clear hb3 c2
  go_wp2
  exact ⟨rfl, rfl, HB3.out⟩
set_option maxHeartbeats 2000000 in
theorem begin5_many (x : ByteArray) (N r k : Nat) (p : PS) (vs vo vl : Value) (m : Int) (w : World) (hR : RdP w N r k p vs vo vl) (hr : r < w.heap.size) (hx : x.size ≤ 65536) (hm : w.cell? ⟨1, 0, none⟩ = some (.int .i64 m)) (h : (decide (58 ∈ B x) && fnB (nmOf (B x))) = true)
    (hh : opHas p.op (mk (nmOf (B x))) = false) (h8 : p.op.length = 40 ∨ p.dn.length = 200) :
    Calls Tryz.prog 163 #[.pointer (some ⟨r, 0, none⟩), .string x] w fun e w' => e = erE 8 ∧ Below w.heap.size w w' := by
  have C := Lib.hid (colon_any x m w hx hm)
  rw [Bool.and_eq_true] at h
  obtain ⟨A, c, rfl, hc1, hc2⟩ := hR.own
  have hc2' : c ≤ 9223372036854775807 := hc2
  obtain ⟨As, cs, hvs, _, hs2⟩ := hR.gs.own
  have hs2' : cs ≤ 9223372036854775807 := hs2
  have H8 := Lib.hid h8
  rw [h.1] at C
  have NM := Lib.hid (fun W => name5_any (mk (nmOf (B x))) W (by rw [← B_len, nm_mk]; have := nm_le (B x); rw [B_len] at this; unfold maxLen; omega))
  rw [nm_mk, h.2] at NM
  have HR := Lib.hid hR
  have HH := Lib.hid hh
  have HRR := Lib.hid hr
  clear hR hm hx h hh hc2 hr hs2 h8
  go_enter Tryz.func163, Tryz.ntmps163
  go_wp2_with fail
  refine C.out.mono ?_
  rintro e w1 ⟨rfl, n, rfl⟩
  have hb := belD (Below.refl w.heap.size w) n
  generalize w.drewN n = V at *
  have HB := Lib.hid (hb.alloc hb.size (.cells #[.string (mk (nmOf (B x)))] 9))
  have hq : (⟨V.heap.size, 0, none⟩ : Addr).block < (V.alloc (.cells #[.string (mk (nmOf (B x)))] 9)).heap.size := by rw [World.size_alloc]; exact Nat.lt_succ_self _
  have hc : (V.alloc (.cells #[.string (mk (nmOf (B x)))] 9)).cell? ⟨V.heap.size, 0, none⟩ = some (.string (mk (nmOf (B x)))) := by simp [go_sem]
  have HQ := Lib.hid hq
  have HC := Lib.hid hc
  clear hb hq hc
  go_wp2_with fail
  refine (NM.out _).mono ?_
  rintro e w2 ⟨rfl, hb2⟩
  have HB2 := Lib.hid (HB.out.trans (hb2.mono HB.out.size))
  have R2 := Lib.hid (HR.out.below HB2.out HRR.out)
  have c2 := R2.out.c2
  have CF := Lib.hid (hasOp_any A p.op.length c p.op vl (mk (nmOf (B x))) ⟨V.heap.size, 0, none⟩ w2 (R2.out.go.read rdOpX_good) (R2.out.gl.read rdStr_good) R2.out.gl.plain (Nat.lt_of_lt_of_le HQ.out hb2.size) ((hb2.cell HQ.out).trans HC.out))
  rw [HH.out] at CF
  clear hb2
  have hmf : ∀ (fn : Fn) (first cap : Array Value) (w : World), (Instr.makeFunc fn first cap).run Tryz.prog w = .ok (.func fn first cap) w := fun _ _ _ _ => rfl
  go_wp2_with fail
  refine CF.out.mono ?_
  rintro e w3 ⟨rfl, hb3⟩
  have HB3 := Lib.hid (HB2.out.trans (hb3.mono HB2.out.size))
  have R3 := HR.out.below HB3.out HRR.out
  have d2 := R3.c2
  have d1 := R3.c1
  rw [hvs] at d1
  clear hb3 c2 R3
  by_cases h40 : p.op.length = 40
  · have q0 : ((p.op.length : Int) == 40) = true := by rw [h40]; rfl
    clear H8
    go_wp2
    exact ⟨rfl, rfl, HB3.out⟩
  · have q0 : ((p.op.length : Int) == 40) = false := by rw [beq_eq_false_iff_ne]; omega
    have q1 : ((p.dn.length : Int) == 200) = true := by rw [H8.out.resolve_left h40]; rfl
    clear H8 h40
    go_wp2
    exact ⟨rfl, rfl, HB3.out⟩
theorem begin5_no (x : ByteArray) (N r k : Nat) (p : PS) (vs vo vl : Value) (m : Int) (w : World) (hR : RdP w N r k p vs vo vl) (hr : r < w.heap.size) (hx : x.size ≤ 65536) (hm : w.cell? ⟨1, 0, none⟩ = some (.int .i64 m)) (h : begE p (B x) ≠ 0) :
    Calls Tryz.prog 163 #[.pointer (some ⟨r, 0, none⟩), .string x] w fun e w' => e = erE (begE p (B x)) ∧ Below w.heap.size w w' := by
  unfold begE at h ⊢
  by_cases h1 : (decide (58 ∈ B x) && fnB (nmOf (B x))) = true
  · rw [if_pos h1] at h ⊢
    by_cases h2 : (p.op.any fun f => decide (f.1 = mk (nmOf (B x)))) = true
    · rw [if_pos h2] at h ⊢
      exact begin5_there x N r k p vs vo vl m w hR hr hx hm h1 h2
    · rw [if_neg h2] at h ⊢
      by_cases h3 : (decide (p.op.length = 40) || decide (p.dn.length = 200)) = true
      · rw [if_pos h3] at h ⊢
        rw [Bool.or_eq_true, decide_eq_true_iff, decide_eq_true_iff] at h3
        exact begin5_many x N r k p vs vo vl m w hR hr hx hm h1 (Bool.eq_false_iff.2 h2) h3
      · rw [if_neg h3] at h
        exact absurd rfl h
  · rw [if_neg h1] at h ⊢
    exact begin5_form x N r k p vs vo vl m w hR hx hm (Bool.eq_false_iff.2 h1)
end Go.Proofs.YtmlakjemgmeffaaGreatDoor
end

section
set_option maxRecDepth 100000
set_option linter.unusedVariables false
set_option linter.unusedSimpArgs false
namespace Go.Proofs.YtmlakjemgmeffaaGreatDoor
open Go.RowKit
set_option maxHeartbeats 1000000 in
theorem end5_none (N r k : Nat) (p : PS) (vs vo vl : Value) (w : World) (hR : RdP w N r k p vs vo vl) (h : p.op = []) :
    Calls Tryz.prog 125 #[.pointer (some ⟨r, 0, none⟩)] w fun e w' => e = .returned (.tuple #[]) ∧ w = w' := by
  obtain ⟨A, c, rfl, hc1, hc2⟩ := hR.own
  have hc2' : c ≤ 9223372036854775807 := hc2
  have c2 := hR.c2
  rw [h] at c2
  simp only [List.length_nil] at c2
  clear hR h hc1 hc2
  go_enter Tryz.func125, Tryz.ntmps125
  go_wp2
  exact bodyPost_ret_by (results_none (by rfl) _ _ _) rfl ⟨rfl, rfl⟩
set_option maxHeartbeats 2000000 in
theorem read5_no (x : ByteArray) (N r k : Nat) (p : PS) (vs vo vl : Value) (m : Int) (w : World) (hR : RdP w N r k p vs vo vl) (hr : r < w.heap.size) (hx : x.size ≤ 65536) (hm : w.cell? ⟨1, 0, none⟩ = some (.int .i64 m)) (h : lnE p (B x) ≠ 0) :
    Calls Tryz.prog 124 #[.pointer (some ⟨r, 0, none⟩), .string x] w fun e w' => e = erE (lnE p (B x)) ∧ Below w.heap.size w w' := by
  have LW := Lib.hid (low5_any x w (by unfold maxLen; omega))
  unfold lnE at h ⊢
  by_cases h1 : lowB (B x) = true
  · rw [if_pos h1]
    rw [h1] at LW
    clear hR hr hm h h1 hx
    go_enter Tryz.func124, Tryz.ntmps124
    go_wp2_with fail
    refine LW.out.mono ?_
    rintro e w1 ⟨rfl, hb⟩
    go_wp2
    exact ⟨rfl, rfl, hb⟩
  · rw [if_neg h1] at h ⊢
    rw [Bool.eq_false_iff.2 h1] at LW
    clear h1
    have em := emp_eq x
    cases hB : B x with
    | nil => rw [hB] at h; exact absurd rfl h
    | cons c rs =>
      rw [hB] at h
      simp only at h ⊢
      rw [decide_eq_false (show ¬ B x = [] by rw [hB]; simp)] at em
      have hs0 : 0 < x.size := by rw [← B_len, hB]; simp
      have hc : x[0].toNat = c := by rw [← B_getD x 0 hs0, hB]; rfl
      have hE : B (x.extract 1 x.size) = rs := by rw [ext1_B, hB]; rfl
      have HR := Lib.hid hR
      have HRR := Lib.hid hr
      have HM := Lib.hid hm
      have HH := Lib.hid h
      have HX := Lib.hid hx
      have HBX := Lib.hid hB
      clear hR hr hm h hB
      by_cases h32 : c = 32
      · rw [if_pos h32]
        have HG := Lib.hid (show goE p rs ≠ 0 by have := HH.out; rwa [if_pos h32] at this)
        have q0 : ((x[0].toNat : Int) == 32) = true := by rw [hc, h32]; rfl
        have GN := Lib.hid (show p.op = [] ∨ B (x.extract 1 x.size) = [] by
          have := HG.out
          unfold goE at this
          split at this
          · rename_i hh
            rw [Bool.or_eq_true, decide_eq_true_iff, decide_eq_true_iff] at hh
            rw [hE]; exact hh
          · exact absurd rfl this)
        have G5 := Lib.hid (show goE p rs = 5 by
          have := HG.out
          unfold goE at this ⊢
          split at this
          · rename_i hh; rw [if_pos hh]
          · exact absurd rfl this)
        clear hc hE h32 HH
        go_enter Tryz.func124, Tryz.ntmps124
        go_wp2_with fail
        refine LW.out.mono ?_
        rintro e w1 ⟨rfl, hb⟩
        have R1 := Lib.hid (HR.out.below hb HRR.out)
        have HB := Lib.hid hb
        clear hb
        go_wp2_with fail
        refine (goOn5_no (x.extract 1 x.size) N r k p vs vo vl _ R1.out GN.out).mono ?_
        rintro e w2 ⟨rfl, rfl⟩
        go_wp2
        exact ⟨rfl, by rw [G5.out], HB.out⟩
      · rw [if_neg h32]
        have HG := Lib.hid (show begE p (B x) ≠ 0 by have := HH.out; rw [if_neg h32] at this; rw [HBX.out]; exact this)
        have q0 : ((x[0].toNat : Int) == 32) = false := by rw [hc, beq_eq_false_iff_ne]; omega
        clear hc hE h32 HH
        go_enter Tryz.func124, Tryz.ntmps124
        go_wp2_with fail
        refine LW.out.mono ?_
        rintro e w1 ⟨rfl, hb⟩
        have R1 := Lib.hid (HR.out.below hb HRR.out)
        have HB := Lib.hid hb
        have M1 := Lib.hid ((hb.cell (show (⟨1, 0, none⟩ : Addr).block < w.heap.size from World.block_lt_of_cell? _ _ HM.out)).trans HM.out)
        clear hb
        go_wp2_with fail
        refine (begin5_no x N r k p vs vo vl m _ R1.out (Nat.lt_of_lt_of_le HRR.out HB.out.size) HX.out M1.out HG.out).mono ?_
        rintro e w2 ⟨rfl, hb2⟩
        have HB2 := Lib.hid (HB.out.trans (hb2.mono HB.out.size))
        clear hb2
        go_wp2
        exact ⟨rfl, by rw [← HBX.out], HB2.out⟩
end Go.Proofs.YtmlakjemgmeffaaGreatDoor
end
