/- The contracts of the program's fieldText, rightValue. Condition: the library's MaxLen holds a number. -/
import Derived.Test.YtmlakjemgmeffaaGreatDoorQAM
import Derived.Test.YtmlakjemgmeffaaGreatDoorBldY
import Derived.Test.YtmlakjemgmeffaaGreatDoorND
set_option maxRecDepth 100000
set_option linter.unusedVariables false
set_option linter.unusedSimpArgs false
namespace Go.Proofs.YtmlakjemgmeffaaGreatDoor
open Go.RowKit
theorem ahead_self {c : Nat} : ∀ {l : List Nat}, c ∉ l → ahead c l = l
  | [], _ => rfl
  | x :: l, h => by
    have hx : x ≠ c := fun e => h (by rw [e]; simp)
    unfold ahead
    rw [List.takeWhile_cons, if_pos (by rw [bne_iff_ne]; exact hx)]
    congr 1
    exact ahead_self fun e => h (by simp [e])
theorem cut_head {c : Nat} (l : List Nat) : ∃ r, cutBy c l = ahead c l :: r ∧ (c ∈ l → r = cutBy c (l.drop ((ahead c l).length + 1))) ∧ (c ∉ l → r = [] ∧ ahead c l = l) := by
  by_cases h : c ∈ l
  · refine ⟨cutBy c (l.drop ((ahead c l).length + 1)), ?_, fun _ => rfl, fun hh => absurd h hh⟩
    conv => lhs; rw [ahead_at h]
    exact cutBy_at ahead_ne _
  · have e : ahead c l = l := ahead_self h
    refine ⟨[], ?_, fun hh => absurd hh h, fun _ => ⟨rfl, e⟩⟩
    rw [e]
    exact cutBy_none fun x hx hxc => h (hxc ▸ hx)
theorem joinL_two (sep x : List Nat) {L : List (List Nat)} (h : L ≠ []) : joinL sep (x :: L) = x ++ (sep ++ joinL sep L) := by
  cases L with
  | nil => exact absurd rfl h
  | cons y r => rfl
theorem repl5_is : ∀ (k : Nat) (s : List UInt8), Lib.count s [10] = k → (Lib.replaceK [10] [10, 32] k s).map UInt8.toNat = joinL [10, 32] (cutBy 10 (s.map UInt8.toNat)) := by
  intro k
  induction k with
  | zero =>
    intro s h
    have h' := index_nm 10 s
    rcases h' with ⟨_, hi⟩ | ⟨hn, _, _⟩
    · have := Lib.count_hit (s := s) (sub := [10]) (by simp) ((Lib.index_one _ _).trans hi)
      omega
    · obtain ⟨r, e1, _, e2⟩ := cut_head (c := 10) (s.map UInt8.toNat)
      obtain ⟨rfl, e3⟩ := e2 hn
      rw [e1, e3]; rfl
  | succ k ih =>
    intro s h
    rcases index_nm 10 s with ⟨hm, hi⟩ | ⟨_, hi, _⟩
    · have hi' : Lib.index s [10] = ((ahead 10 (s.map UInt8.toNat)).length : Nat) := (Lib.index_one _ _).trans hi
      have hc := Lib.count_hit (s := s) (sub := [10]) (by simp) hi'
      rw [Lib.replaceK_hit _ _ _ _ _ hi', List.map_append, List.map_append, List.map_take]
      have hd : Lib.count (s.drop ((ahead 10 (s.map UInt8.toNat)).length + 1)) [10] = k := by
        have : ([10] : List UInt8).length = 1 := rfl
        rw [this] at hc; omega
      have hih := ih _ hd
      rw [List.map_drop] at hih
      obtain ⟨r, e1, e2, _⟩ := cut_head (c := 10) (s.map UInt8.toNat)
      have er := e2 hm
      rw [e1, joinL_two _ _ (by rw [er]; exact cutBy_ne _ _), er, ← hih]
      rw [show (UInt8.toNat 10) = 10 from rfl] at *
      rw [ahead_take, List.append_assoc]
      rfl
    · have := Lib.count_miss ((Lib.index_one s 10).trans hi)
      omega
theorem lines5_any (s : ByteArray) (w : World) (E : Env5 w) (hs : s.size ≤ 65536) :
    Calls Tryz.prog 119 #[.string s, .string { data := #[10] }] w fun e w' => e = .returned (.tuple #[.string (mk (ahead 10 (B s))), .string (mk ((B s).drop ((ahead 10 (B s)).length + 1))), .bool (decide (10 ∈ B s))]) ∧ Below w.heap.size w w' := by
  obtain ⟨m, hm⟩ := E
  refine (Tryz.strings_Cut s { data := #[10] } m w (by omega) hm).mono ?_
  rintro e w' ⟨rfl, n, rfl⟩
  refine ⟨?_, belD (Below.refl _ _) n⟩
  obtain ⟨a, b, c⟩ := cut5_is s 10
  show Ending.returned (.tuple #[.string ⟨(Lib.cut s.data.toList [10]).1.toArray⟩, .string ⟨(Lib.cut s.data.toList [10]).2.1.toArray⟩, .bool (Lib.cut s.data.toList [10]).2.2]) = _
  rw [a, b, c]
  rfl
theorem repl5_any (s : ByteArray) (w : World) (E : Env5 w) (hs : s.size ≤ 65536) :
    Calls Tryz.prog 144 #[.string s, .string { data := #[10] }, .string { data := #[10, 32] }] w fun e w' => e = .returned (.string (mk (joinL [10, 32] (cutBy 10 (B s))))) ∧ Below w.heap.size w w' := by
  obtain ⟨m, hm⟩ := E
  refine (Tryz.strings_ReplaceAll s { data := #[10] } { data := #[10, 32] } m w (by omega) hm (by decide) ?_).mono ?_
  · have h := Lib.countB_le { data := #[10] } (by decide) s.size s (Nat.le_refl _)
    have e : ({ data := #[10, 32] } : ByteArray).size = 2 := rfl
    rw [e]; omega
  · rintro e w' ⟨rfl, hb⟩
    refine ⟨?_, hb⟩
    congr 2
    apply eq_mk
    have h := repl5_is _ s.data.toList rfl
    rw [← show (s.data.toList.map UInt8.toNat) = B s from rfl, ← h]
    unfold B
    rw [List.toList_toArray]
    rfl
theorem fld_is (f : Fd) : fldT f = B f.n ++ ([58] ++ ((if ahead 10 (B f.v) = [] then [] else [32]) ++ (joinL [10, 32] (cutBy 10 (B f.v)) ++ [10]))) := by
  obtain ⟨r, e, _⟩ := cut_head (c := 10) (B f.v)
  unfold fldT
  rw [e, body_join]; rfl
theorem join_len5 (v : List Nat) (h : v.length ≤ 65536) : (joinL [10, 32] (cutBy 10 v)).length ≤ 4295163906 := by
  have h1 : ∀ t ∈ cutBy 10 v, t.length ≤ 65536 := fun t ht => Nat.le_trans (cutBy_mem_len ht) h
  have h2 := joinL_len (sep := [10, 32]) h1
  have h3 : (cutBy 10 v).length ≤ 65537 := by rw [cutBy_len]; have := List.count_le_length (a := 10) (l := v); omega
  have h4 : (cutBy 10 v).length * (65536 + [10, 32].length) ≤ 65537 * 65538 := by rw [show [10, 32].length = 2 from rfl]; exact Nat.mul_le_mul_right _ h3
  omega
set_option maxHeartbeats 4000000 in
theorem ftext5_any (f : Fd) (w : World) (E : Env5 w) (hn : f.n.size ≤ 65536) (hv : f.v.size ≤ 65536) :
    Calls Tryz.prog 110 #[f.val] w fun e w' => e = .returned (.string (mk (fldT f))) ∧ Below w.heap.size w w' := by
  obtain ⟨fn, fv⟩ := f
  have B1 := (Below.refl w.heap.size w).alloc (Nat.le_refl _) (.cells #[.string fn, .string fv] 41)
  have E1 : Env5 (w.alloc (.cells #[.string fn, .string fv] 41)) := E.below B1 E.pos
  have CT := Lib.hid (lines5_any fv _ E1 hv)
  have HB1 := Lib.hid B1
  have HE := Lib.hid E
  have hq : (w.alloc (.cells #[.string fn, .string fv] 41)).heap.size = w.heap.size + 1 := by rw [World.size_alloc]
  have q0 : (w.alloc (.cells #[.string fn, .string fv] 41)).cell? ⟨w.heap.size, 0, none⟩ = some (.string fn) := by simp [go_sem]
  have q1 : (w.alloc (.cells #[.string fn, .string fv] 41)).cell? ⟨w.heap.size, 1, none⟩ = some (.string fv) := by simp [go_sem]
  have Q := Lib.hid (And.intro q0 (And.intro q1 hq))
  have RP := Lib.hid (fun w E => repl5_any fv w E hv)
  have hj := join_len5 (B fv) (by rw [B_len]; exact hv)
  have FI := Lib.hid (fld_is ⟨fn, fv⟩)
  have HN := Lib.hid hn
  have HJ := Lib.hid hj
  show Calls Tryz.prog 110 #[.agg #[.string fn, .string fv]] w _
  clear B1 E1 hq q0 q1 hv hn hj E
  obtain ⟨jt, hjt⟩ : ∃ jt, mk (joinL [10, 32] (cutBy 10 (B fv))) = jt := ⟨_, rfl⟩
  have JT := Lib.hid (show B jt = joinL [10, 32] (cutBy 10 (B fv)) ∧ jt.size ≤ 4295163906 from by
    have hB : B jt = joinL [10, 32] (cutBy 10 (B fv)) := by
      rw [← hjt]
      refine B_mk ?_
      have key : ∀ (L : List (List Nat)), (∀ t ∈ L, ∀ c ∈ t, c < 256) → ∀ c ∈ joinL [10, 32] L, c < 256 := by
        intro L
        induction L with
        | nil => intro _ c hc; cases hc
        | cons x r ih =>
          intro h c hc
          cases r with
          | nil => exact h x (by simp) c hc
          | cons y r =>
            rw [joinL_two _ _ (by simp)] at hc
            simp only [List.mem_append, List.mem_cons, List.not_mem_nil, or_false] at hc
            rcases hc with hc | (hc | hc) | hc
            · exact h x (by simp) c hc
            · omega
            · omega
            · exact ih (fun t ht => h t (by simp [ht])) c hc
      exact key _ fun t ht c hc => B_lt fv c (cutBy_mem ht c hc).1
    exact ⟨hB, by rw [← B_len, hB]; exact HJ.out⟩)
  rw [hjt] at RP
  clear hjt
  obtain ⟨af, haf⟩ : ∃ af, ahead 10 (B fv) = af := ⟨_, rfl⟩
  rw [haf] at CT FI
  have em := emp_eq (mk af)
  have hmk : B (mk af) = af := by
    rw [← haf]; exact B_mk fun c hc => B_lt fv c ((List.takeWhile_sublist _).subset hc)
  rw [hmk] at em
  clear hmk haf
  by_cases h0 : af = []
  · rw [if_pos h0] at FI
    rw [decide_eq_true h0] at em
    obtain ⟨y1, a1, p1, z1⟩ := add_out fn { data := #[58] } 65536 1 HN.out (by decide)
    obtain ⟨y2, a2, p2, z2⟩ := add_out y1 { data := #[] } 65537 0 z1 (by decide)
    obtain ⟨y3, a3, p3, z3⟩ := add_out y2 jt 65537 4295163906 z2 JT.out.2
    obtain ⟨y4, a4, p4, z4⟩ := add_out y3 { data := #[10] } 4295229443 1 z3 (by decide)
    have OUT := Lib.hid (show mk (fldT ⟨fn, fv⟩) = y4 by
      refine (eq_mk ?_).symm
      rw [FI.out, p4, p3, p2, p1, B_append, B_append, B_append, B_append, JT.out.1]
      show B fn ++ [58] ++ [] ++ _ ++ [10] = B fn ++ ([58] ++ ([] ++ (_ ++ [10])))
      simp)
    clear p1 p2 p3 p4 z1 z2 z3 z4 h0 FI
    go_enter Tryz.func110, Tryz.ntmps110
    go_wp2_with fail
    refine CT.out.mono ?_
    rintro e w1 ⟨rfl, hb1⟩
    have HBW := Lib.hid (HB1.out.trans (hb1.mono HB1.out.size))
    have k0 : w1.drew.cell? ⟨w.heap.size, 0, none⟩ = some (.string fn) := (hb1.cell (show (⟨w.heap.size, 0, none⟩ : Addr).block < _ by rw [Q.out.2.2]; exact Nat.lt_succ_self _)).trans Q.out.1
    have k1 : w1.drew.cell? ⟨w.heap.size, 1, none⟩ = some (.string fv) := (hb1.cell (show (⟨w.heap.size, 1, none⟩ : Addr).block < _ by rw [Q.out.2.2]; exact Nat.lt_succ_self _)).trans Q.out.2.1
    have QL := Lib.hid (show w.heap.size < w1.drew.heap.size from Nat.lt_of_lt_of_le (by rw [Q.out.2.2]; exact Nat.lt_succ_self _) hb1.size)
    have HBV := Lib.hid (show Below w.heap.size w w1.drew from belD HBW.out 1)
    have EV := Lib.hid (show Env5 w1.drew from HE.out.below HBV.out HE.out.pos)
    have KS := Lib.hid (fun (W : World) (hb : Below w1.drew.heap.size w1.drew W) => (show W.cell? ⟨w.heap.size, 0, none⟩ = some (.string fn) ∧ W.cell? ⟨w.heap.size, 1, none⟩ = some (.string fv) from ⟨(hb.cell (show (⟨w.heap.size, 0, none⟩ : Addr).block < w1.drew.heap.size from QL.out)).trans k0, (hb.cell (show (⟨w.heap.size, 1, none⟩ : Addr).block < w1.drew.heap.size from QL.out)).trans k1⟩))
    clear hb1
    go_wp2_with fail
    refine wp_region_noPanic ?_
    refine wp_region_L (fun W => W.cell? ⟨w.heap.size, 0, none⟩ = some (.string fn) ∧ W.cell? ⟨w.heap.size, 1, none⟩ = some (.string fv)) 10 (by kernel_rfl) ⟨k0, k1⟩ (fun hHeld => ?_)
    refine wpAnyL_take (i := 0) (v := ?_) [9, 8, 4, 2, 1] rfl (by kernel_rfl) (by kernel_rfl) (by kernel_rfl) (fun _ _ _ h => h) (by kernel_rfl) (by kernel_rfl) (by kernel_rfl) (Or.inl ⟨by rfl, ?_⟩) (by assumption) ?_
    rotate_left
    · intro w hSw
      try dsimp only at hSw
      go_simp
      first | done | with_reducible rfl
    try simp only [Act.put, List.setIfInBounds_toArray, List.set_cons_zero, List.set_cons_succ]
    refine wpAnyL_take (i := 1) (v := ?_) [9, 8, 4, 2] rfl (by kernel_rfl) (by kernel_rfl) (by kernel_rfl) (fun _ _ _ h => h) (by kernel_rfl) (by kernel_rfl) (by kernel_rfl) (Or.inl ⟨by rfl, ?_⟩) (by assumption) ?_
    rotate_left
    · intro w hSw
      try dsimp only at hSw
      go_simp
      first | done | with_reducible rfl
    try simp only [Act.put, List.setIfInBounds_toArray, List.set_cons_zero, List.set_cons_succ]
    refine wpAnyL_take (i := 2) (v := ?_) [9, 8, 4] rfl (by kernel_rfl) (by kernel_rfl) (by kernel_rfl) (fun _ _ _ h => h) (by kernel_rfl) (by kernel_rfl) (by kernel_rfl) (Or.inl ⟨by rfl, ?_⟩) (by assumption) ?_
    rotate_left
    · intro w hSw
      try dsimp only at hSw
      go_simp
      first | done | with_reducible rfl
    try simp only [Act.put, List.setIfInBounds_toArray, List.set_cons_zero, List.set_cons_succ]
    refine wpAnyL_take (i := 3) (v := ?_) [9, 8, 4] rfl (by kernel_rfl) (by kernel_rfl) (by kernel_rfl) (fun _ _ _ h => h) (by kernel_rfl) (by kernel_rfl) (by kernel_rfl) (Or.inl ⟨by rfl, ?_⟩) (by assumption) ?_
    rotate_left
    · intro w hSw
      try dsimp only at hSw
      go_simp
      first | done | with_reducible rfl
    try simp only [Act.put, List.setIfInBounds_toArray, List.set_cons_zero, List.set_cons_succ]
    refine wpAnyL_take (i := 4) (v := ?_) [9, 8] rfl (by kernel_rfl) (by kernel_rfl) (by kernel_rfl) (fun _ _ _ h => h) (by kernel_rfl) (by kernel_rfl) (by kernel_rfl) (Or.inl ⟨by rfl, ?_⟩) (by assumption) ?_
    rotate_left
    · intro w hSw
      try dsimp only at hSw
      go_simp
      first | done | with_reducible rfl
    try simp only [Act.put, List.setIfInBounds_toArray, List.set_cons_zero, List.set_cons_succ]
    refine wpAnyL_take (i := 5) (v := ?_) [9, 8, 7, 6] rfl (by kernel_rfl) (by kernel_rfl) (by kernel_rfl) (fun _ _ _ h => h) (by kernel_rfl) (by kernel_rfl) (by kernel_rfl) (Or.inl ⟨by rfl, ?_⟩) (by assumption) ?_
    rotate_left
    · intro w hSw
      try dsimp only at hSw
      go_simp
      first | done | with_reducible rfl
    try simp only [Act.put, List.setIfInBounds_toArray, List.set_cons_zero, List.set_cons_succ]
    refine wpAnyL_take (i := 6) (v := ?_) [9, 8, 7] rfl (by kernel_rfl) (by kernel_rfl) (by kernel_rfl) (fun _ _ _ h => h) (by kernel_rfl) (by kernel_rfl) (by kernel_rfl) (Or.inl ⟨by rfl, ?_⟩) (by assumption) ?_
    rotate_left
    · intro w hSw
      try dsimp only at hSw
      go_simp
      first | done | with_reducible rfl
    try simp only [Act.put, List.setIfInBounds_toArray, List.set_cons_zero, List.set_cons_succ]
    refine wpAnyL_one (i := 7) (by kernel_rfl) rfl (fun K hK => ?_)
    go_simp
    refine (RP.out _ EV.out).mono ?_
    rintro e w4 ⟨rfl, hb4⟩
    have HB4 := Lib.hid hb4
    clear hb4
    go_wp2_with fail
    refine hK.out _ _ (KS.out _ HB4.out) (fun hHeld => ?_)
    clear hK K
    try simp only [Act.put, List.setIfInBounds_toArray, List.set_cons_zero, List.set_cons_succ]
    refine wpAnyL_one (i := 8) (by kernel_rfl) rfl (fun K hK => ?_)
    go_simp
    refine hK.out _ _ (KS.out _ HB4.out) (fun hHeld => ?_)
    clear hK K
    try simp only [Act.put, List.setIfInBounds_toArray, List.set_cons_zero, List.set_cons_succ]
    refine wpAnyL_one (i := 9) (by kernel_rfl) rfl (fun K hK => ?_)
    go_simp
    refine hK.out _ _ (KS.out _ HB4.out) (fun hHeld => ?_)
    clear hK K
    try simp only [Act.put, List.setIfInBounds_toArray, List.set_cons_zero, List.set_cons_succ]
    refine wpAnyL_last (by kernel_rfl) rfl (by kernel_rfl) (fun K hK => ?_)
    go_simp
    refine hK.out _ _ ?_
    clear hK K
    refine NoPanic.normal ?_
    go_wp2
    go_ret
    exact ⟨by rw [OUT.out]; try rfl, HBV.out.trans (HB4.out.mono HBV.out.size)⟩
  · rw [if_neg h0] at FI
    rw [decide_eq_false h0] at em
    obtain ⟨y1, a1, p1, z1⟩ := add_out fn { data := #[58] } 65536 1 HN.out (by decide)
    obtain ⟨y2, a2, p2, z2⟩ := add_out y1 { data := #[32] } 65537 1 z1 (by decide)
    obtain ⟨y3, a3, p3, z3⟩ := add_out y2 jt 65538 4295163906 z2 JT.out.2
    obtain ⟨y4, a4, p4, z4⟩ := add_out y3 { data := #[10] } 4295229444 1 z3 (by decide)
    have OUT := Lib.hid (show mk (fldT ⟨fn, fv⟩) = y4 by
      refine (eq_mk ?_).symm
      rw [FI.out, p4, p3, p2, p1, B_append, B_append, B_append, B_append, JT.out.1]
      show B fn ++ [58] ++ [32] ++ _ ++ [10] = B fn ++ ([58] ++ ([32] ++ (_ ++ [10])))
      simp)
    clear p1 p2 p3 p4 z1 z2 z3 z4 h0 FI
    go_enter Tryz.func110, Tryz.ntmps110
    go_wp2_with fail
    refine CT.out.mono ?_
    rintro e w1 ⟨rfl, hb1⟩
    have HBW := Lib.hid (HB1.out.trans (hb1.mono HB1.out.size))
    have k0 : w1.drew.cell? ⟨w.heap.size, 0, none⟩ = some (.string fn) := (hb1.cell (show (⟨w.heap.size, 0, none⟩ : Addr).block < _ by rw [Q.out.2.2]; exact Nat.lt_succ_self _)).trans Q.out.1
    have k1 : w1.drew.cell? ⟨w.heap.size, 1, none⟩ = some (.string fv) := (hb1.cell (show (⟨w.heap.size, 1, none⟩ : Addr).block < _ by rw [Q.out.2.2]; exact Nat.lt_succ_self _)).trans Q.out.2.1
    have QL := Lib.hid (show w.heap.size < w1.drew.heap.size from Nat.lt_of_lt_of_le (by rw [Q.out.2.2]; exact Nat.lt_succ_self _) hb1.size)
    have HBV := Lib.hid (show Below w.heap.size w w1.drew from belD HBW.out 1)
    have EV := Lib.hid (show Env5 w1.drew from HE.out.below HBV.out HE.out.pos)
    have KS := Lib.hid (fun (W : World) (hb : Below w1.drew.heap.size w1.drew W) => (show W.cell? ⟨w.heap.size, 0, none⟩ = some (.string fn) ∧ W.cell? ⟨w.heap.size, 1, none⟩ = some (.string fv) from ⟨(hb.cell (show (⟨w.heap.size, 0, none⟩ : Addr).block < w1.drew.heap.size from QL.out)).trans k0, (hb.cell (show (⟨w.heap.size, 1, none⟩ : Addr).block < w1.drew.heap.size from QL.out)).trans k1⟩))
    clear hb1
    go_wp2_with fail
    refine wp_region_noPanic ?_
    refine wp_region_L (fun W => W.cell? ⟨w.heap.size, 0, none⟩ = some (.string fn) ∧ W.cell? ⟨w.heap.size, 1, none⟩ = some (.string fv)) 10 (by kernel_rfl) ⟨k0, k1⟩ (fun hHeld => ?_)
    refine wpAnyL_take (i := 0) (v := ?_) [9, 8, 4, 2, 1] rfl (by kernel_rfl) (by kernel_rfl) (by kernel_rfl) (fun _ _ _ h => h) (by kernel_rfl) (by kernel_rfl) (by kernel_rfl) (Or.inl ⟨by rfl, ?_⟩) (by assumption) ?_
    rotate_left
    · intro w hSw
      try dsimp only at hSw
      go_simp
      first | done | with_reducible rfl
    try simp only [Act.put, List.setIfInBounds_toArray, List.set_cons_zero, List.set_cons_succ]
    refine wpAnyL_take (i := 1) (v := ?_) [9, 8, 4, 2] rfl (by kernel_rfl) (by kernel_rfl) (by kernel_rfl) (fun _ _ _ h => h) (by kernel_rfl) (by kernel_rfl) (by kernel_rfl) (Or.inl ⟨by rfl, ?_⟩) (by assumption) ?_
    rotate_left
    · intro w hSw
      try dsimp only at hSw
      go_simp
      first | done | with_reducible rfl
    try simp only [Act.put, List.setIfInBounds_toArray, List.set_cons_zero, List.set_cons_succ]
    refine wpAnyL_take (i := 2) (v := ?_) [9, 8, 4] rfl (by kernel_rfl) (by kernel_rfl) (by kernel_rfl) (fun _ _ _ h => h) (by kernel_rfl) (by kernel_rfl) (by kernel_rfl) (Or.inl ⟨by rfl, ?_⟩) (by assumption) ?_
    rotate_left
    · intro w hSw
      try dsimp only at hSw
      go_simp
      first | done | with_reducible rfl
    try simp only [Act.put, List.setIfInBounds_toArray, List.set_cons_zero, List.set_cons_succ]
    refine wpAnyL_take (i := 3) (v := ?_) [9, 8, 4] rfl (by kernel_rfl) (by kernel_rfl) (by kernel_rfl) (fun _ _ _ h => h) (by kernel_rfl) (by kernel_rfl) (by kernel_rfl) (Or.inl ⟨by rfl, ?_⟩) (by assumption) ?_
    rotate_left
    · intro w hSw
      try dsimp only at hSw
      go_simp
      first | done | with_reducible rfl
    try simp only [Act.put, List.setIfInBounds_toArray, List.set_cons_zero, List.set_cons_succ]
    refine wpAnyL_take (i := 4) (v := ?_) [9, 8] rfl (by kernel_rfl) (by kernel_rfl) (by kernel_rfl) (fun _ _ _ h => h) (by kernel_rfl) (by kernel_rfl) (by kernel_rfl) (Or.inl ⟨by rfl, ?_⟩) (by assumption) ?_
    rotate_left
    · intro w hSw
      try dsimp only at hSw
      go_simp
      first | done | with_reducible rfl
    try simp only [Act.put, List.setIfInBounds_toArray, List.set_cons_zero, List.set_cons_succ]
    refine wpAnyL_take (i := 5) (v := ?_) [9, 8, 7, 6] rfl (by kernel_rfl) (by kernel_rfl) (by kernel_rfl) (fun _ _ _ h => h) (by kernel_rfl) (by kernel_rfl) (by kernel_rfl) (Or.inl ⟨by rfl, ?_⟩) (by assumption) ?_
    rotate_left
    · intro w hSw
      try dsimp only at hSw
      go_simp
      first | done | with_reducible rfl
    try simp only [Act.put, List.setIfInBounds_toArray, List.set_cons_zero, List.set_cons_succ]
    refine wpAnyL_take (i := 6) (v := ?_) [9, 8, 7] rfl (by kernel_rfl) (by kernel_rfl) (by kernel_rfl) (fun _ _ _ h => h) (by kernel_rfl) (by kernel_rfl) (by kernel_rfl) (Or.inl ⟨by rfl, ?_⟩) (by assumption) ?_
    rotate_left
    · intro w hSw
      try dsimp only at hSw
      go_simp
      first | done | with_reducible rfl
    try simp only [Act.put, List.setIfInBounds_toArray, List.set_cons_zero, List.set_cons_succ]
    refine wpAnyL_one (i := 7) (by kernel_rfl) rfl (fun K hK => ?_)
    go_simp
    refine (RP.out _ EV.out).mono ?_
    rintro e w4 ⟨rfl, hb4⟩
    have HB4 := Lib.hid hb4
    clear hb4
    go_wp2_with fail
    refine hK.out _ _ (KS.out _ HB4.out) (fun hHeld => ?_)
    clear hK K
    try simp only [Act.put, List.setIfInBounds_toArray, List.set_cons_zero, List.set_cons_succ]
    refine wpAnyL_one (i := 8) (by kernel_rfl) rfl (fun K hK => ?_)
    go_simp
    refine hK.out _ _ (KS.out _ HB4.out) (fun hHeld => ?_)
    clear hK K
    try simp only [Act.put, List.setIfInBounds_toArray, List.set_cons_zero, List.set_cons_succ]
    refine wpAnyL_one (i := 9) (by kernel_rfl) rfl (fun K hK => ?_)
    go_simp
    refine hK.out _ _ (KS.out _ HB4.out) (fun hHeld => ?_)
    clear hK K
    try simp only [Act.put, List.setIfInBounds_toArray, List.set_cons_zero, List.set_cons_succ]
    refine wpAnyL_last (by kernel_rfl) rfl (by kernel_rfl) (fun K hK => ?_)
    go_simp
    refine hK.out _ _ ?_
    clear hK K
    refine NoPanic.normal ?_
    go_wp2
    go_ret
    exact ⟨by rw [OUT.out]; try rfl, HBV.out.trans (HB4.out.mono HBV.out.size)⟩
end Go.Proofs.YtmlakjemgmeffaaGreatDoor
