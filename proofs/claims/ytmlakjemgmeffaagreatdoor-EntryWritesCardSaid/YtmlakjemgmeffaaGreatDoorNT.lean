/- What the laws of this seat rest on: Rel4, Rel5. -/
import Derived.Test.YtmlakjemgmeffaaGreatDoorQAE
import Derived.Test.YtmlakjemgmeffaaGreatDoorND
import Derived.BigQuiet
import Derived.Deep.QuietTactic

section
set_option maxRecDepth 100000
set_option linter.unusedVariables false
set_option linter.unusedSimpArgs false
namespace Go.Proofs.YtmlakjemgmeffaaGreatDoor
open Go.RowKit
theorem empty_is (v : ByteArray) : v.toList.isEmpty = decide (B v = []) := by
  rw [toList_data]
  unfold B
  cases h : v.data.toList <;> simp
theorem sign_some {op : Int} (h : 1 ≤ op ∧ op ≤ 5) : (mk (signL op)).toList.isEmpty = false := by
  rw [mk_empty]
  have : op = 1 ∨ op = 2 ∨ op = 3 ∨ op = 4 ∨ op = 5 := by omega
  rcases this with rfl | rfl | rfl | rfl | rfl <;> rfl
theorem sign_none {op : Int} (h : ¬ (1 ≤ op ∧ op ≤ 5)) : (mk (signL op)).toList.isEmpty = true := by
  rw [mk_empty, signL_out (by omega)]; rfl
theorem rright_any (n : ByteArray) (op : Int) (v : ByteArray) (w : World) (E : EnvR w) : Calls Tryz.prog 30 #[.agg #[.string n, .int .i64 op, .string v]] w fun e' w' => e' = .returned (.bool (rightA (B n) op (B v))) ∧ Below w.heap.size w w' := by
  have HE := Lib.hid E
  clear E
  cases hn : nameB (B n)
  · have X := Lib.hid (show rightA (B n) op (B v) = false by unfold rightA; rw [hn]; rfl)
    have KN := Lib.hid (fun w => rname_any n w)
    rw [hn] at KN
    clear hn
    go_enter Tryz.func30, Tryz.ntmps30
    go_wp2_with fail
    refine (KN.out _).mono ?_
    rintro e' w1 ⟨rfl, hb⟩
    have B1 := Lib.hid (bel_boxed hb)
    clear hb
    go_wp2
    go_ret
    exact ⟨by rw [X.out]; rfl, B1.out⟩
  · have KN := Lib.hid (fun w => rname_any n w)
    rw [hn] at KN
    by_cases h0 : op = 0
    · subst h0
      have X := Lib.hid (show v.toList.isEmpty = rightA (B n) 0 (B v) by unfold rightA; rw [hn, if_pos rfl, Bool.true_and, empty_is])
      clear hn
      go_enter Tryz.func30, Tryz.ntmps30
      go_wp2_with fail
      refine (KN.out _).mono ?_
      rintro e' w1 ⟨rfl, hb⟩
      have B1 := Lib.hid (bel_boxed hb)
      obtain ⟨c0, c1, c2, s1⟩ := box_cells hb
      clear hb
      go_wp2
      go_ret
      exact ⟨by rw [← X.out]; rfl, B1.out⟩
    · have t0 : (op == 0) = false := by rw [beq_eq_false_iff_ne]; exact h0
      have KS := Lib.hid (fun w E => rsign_any op w E)
      by_cases ho : 1 ≤ op ∧ op ≤ 5
      · have X := Lib.hid (show rightA (B n) op (B v) = prB (B v) by unfold rightA; rw [hn, if_neg h0, Bool.true_and, decide_eq_true ho, Bool.true_and])
        have KP := Lib.hid (fun w E => rprinted_any v w E)
        have t1 := sign_some ho
        generalize mk (signL op) = sg at *
        clear hn h0 ho
        go_enter Tryz.func30, Tryz.ntmps30
        go_wp2_with fail
        refine (KN.out _).mono ?_
        rintro e' w1 ⟨rfl, hb⟩
        have B1 := Lib.hid (bel_boxed hb)
        obtain ⟨c0, c1, c2, s1⟩ := box_cells hb
        clear hb
        go_wp2_with fail
        refine (KS.out _ (HE.out.below B1.out).sgn).mono ?_
        rintro e' w2 ⟨rfl, rfl⟩
        go_wp2_with fail
        refine (KP.out _ (HE.out.below B1.out).env).mono ?_
        rintro e' w2 ⟨rfl, hb⟩
        have B2 := Lib.hid (bel_2 B1.out hb)
        clear hb
        go_wp2
        go_ret
        exact ⟨by rw [X.out]; rfl, B2.out⟩
      · have X := Lib.hid (show rightA (B n) op (B v) = false by unfold rightA; rw [if_neg h0, decide_eq_false ho, Bool.false_and, Bool.and_false])
        have t1 := sign_none ho
        generalize mk (signL op) = sg at *
        clear hn h0 ho
        go_enter Tryz.func30, Tryz.ntmps30
        go_wp2_with fail
        refine (KN.out _).mono ?_
        rintro e' w1 ⟨rfl, hb⟩
        have B1 := Lib.hid (bel_boxed hb)
        obtain ⟨c0, c1, c2, s1⟩ := box_cells hb
        clear hb
        go_wp2_with fail
        refine (KS.out _ (HE.out.below B1.out).sgn).mono ?_
        rintro e' w2 ⟨rfl, rfl⟩
        go_wp2
        go_ret
        exact ⟨by rw [X.out]; rfl, B1.out⟩
theorem strings_eq (x y : ByteArray) : (x.toList == y.toList) = decide (B x = B y) := by
  have := strEq (B x) y (B_lt x)
  rwa [mk_B] at this
def provB (n : List Nat) (op : Int) (v gn : List Nat) (gop : Int) (gv : List Nat) : Bool := decide (n = gn) && (decide (op = 0) || (decide (gop = 3) && holdB op gv v))
theorem rprov_any (n : ByteArray) (op : Int) (v gn : ByteArray) (gop : Int) (gv : ByteArray) (w : World) (E : EnvR w) : Calls Tryz.prog 95 #[.agg #[.string n, .int .i64 op, .string v], .agg #[.string gn, .int .i64 gop, .string gv]] w fun e' w' => e' = .returned (.bool (provB (B n) op (B v) (B gn) gop (B gv))) ∧ Below w.heap.size w w' := by
  have HE := Lib.hid E
  clear E
  have hs := strings_eq n gn
  have B0 := Lib.hid (show Below w.heap.size w ((w.alloc (.cells #[.string n, .int .i64 op, .string v] 49)).alloc (.cells #[.string gn, .int .i64 gop, .string gv] 49)) from ((Below.refl _ w).alloc (Nat.le_refl _) _).alloc (by simp) _)
  by_cases hn : B n = B gn
  · rw [decide_eq_true hn] at hs
    by_cases h0 : op = 0
    · have X := Lib.hid (show provB (B n) op (B v) (B gn) gop (B gv) = true by unfold provB; rw [decide_eq_true hn, decide_eq_true h0]; rfl)
      have t0 : (op == 0) = true := by rw [beq_iff_eq]; exact h0
      clear hn h0
      go_enter Tryz.func95, Tryz.ntmps95
      go_wp2
      go_ret
      exact ⟨by rw [X.out]; rfl, B0.out⟩
    · have t0 : (op == 0) = false := by rw [beq_eq_false_iff_ne]; exact h0
      by_cases h3 : gop = 3
      · have X := Lib.hid (show provB (B n) op (B v) (B gn) gop (B gv) = holdB op (B gv) (B v) by unfold provB; rw [decide_eq_true hn, decide_eq_false h0, decide_eq_true h3]; rfl)
        have t3 : (gop == 3) = true := by rw [beq_iff_eq]; exact h3
        have KH := Lib.hid (fun w E => rholds_any op gv v w E)
        clear hn h0 h3
        go_enter Tryz.func95, Tryz.ntmps95
        go_wp2_with fail
        refine (KH.out _ (HE.out.below B0.out).env).mono ?_
        rintro e' w1 ⟨rfl, hb⟩
        have B1 := Lib.hid (bel_2 B0.out hb)
        clear hb
        go_wp2
        go_ret
        exact ⟨by rw [X.out]; rfl, B1.out⟩
      · have X := Lib.hid (show provB (B n) op (B v) (B gn) gop (B gv) = false by unfold provB; rw [decide_eq_true hn, decide_eq_false h0, decide_eq_false h3]; rfl)
        have t3 : (gop == 3) = false := by rw [beq_eq_false_iff_ne]; exact h3
        clear hn h0 h3
        go_enter Tryz.func95, Tryz.ntmps95
        go_wp2
        go_ret
        exact ⟨by rw [X.out]; rfl, B0.out⟩
  · have X := Lib.hid (show provB (B n) op (B v) (B gn) gop (B gv) = false by unfold provB; rw [decide_eq_false hn]; rfl)
    rw [decide_eq_false hn] at hs
    clear hn
    go_enter Tryz.func95, Tryz.ntmps95
    go_wp2
    go_ret
    exact ⟨by rw [X.out]; rfl, B0.out⟩
end Go.Proofs.YtmlakjemgmeffaaGreatDoor
end

section
set_option maxRecDepth 100000
set_option linter.unusedVariables false
set_option linter.unusedSimpArgs false
namespace Go.Proofs.YtmlakjemgmeffaaGreatDoor
open Go.RowKit
theorem index_cut : ∀ l : List UInt8, (cutH (l.map UInt8.toNat) = true ∧ Lib.indexByte l 32 = ((cutN (l.map UInt8.toNat)).length : Int)) ∨ (cutH (l.map UInt8.toNat) = false ∧ Lib.indexByte l 32 = -1)
  | [] => .inr ⟨rfl, rfl⟩
  | c :: l => by
    have ih := index_cut l
    by_cases h : c = 32
    · subst h
      exact .inl ⟨by simp [cutH], by simp [cutN, Lib.indexByte]⟩
    · have h2 : c.toNat ≠ 32 := fun hh => h (UInt8.toNat_inj.1 hh)
      have h3 : (c == 32) = false := by rw [beq_eq_false_iff_ne]; exact h
      have h4 : (c.toNat == 32) = false := by rw [beq_eq_false_iff_ne]; exact h2
      have h5 : (c.toNat != 32) = true := by rw [bne_iff_ne]; exact h2
      have e1 : cutH ((c :: l).map UInt8.toNat) = cutH (l.map UInt8.toNat) := by
        show List.any (c.toNat :: l.map UInt8.toNat) _ = _
        rw [List.any_cons, h4, Bool.false_or]; rfl
      have e2 : cutN ((c :: l).map UInt8.toNat) = c.toNat :: cutN (l.map UInt8.toNat) := by
        show List.takeWhile _ (c.toNat :: l.map UInt8.toNat) = _
        rw [List.takeWhile_cons, if_pos h5]; rfl
      rw [e1, e2]
      simp only [Lib.indexByte, h3, Bool.false_eq_true, if_false]
      rcases ih with ⟨a, b⟩ | ⟨a, b⟩
      · refine .inl ⟨a, ?_⟩
        rw [b]
        have : (((cutN (l.map UInt8.toNat)).length : Int) == -1) = false := by rw [beq_eq_false_iff_ne]; omega
        rw [this]
        simp only [Bool.false_eq_true, if_false, List.length_cons]
        omega
      · refine .inr ⟨a, ?_⟩
        rw [b]; rfl
theorem cut_parts {l a b : List Nat} (h : l = a ++ 32 :: b) : l.take a.length = a ∧ l.drop (a.length + 1) = b := by
  subst h; simp
theorem cut_is (s : ByteArray) : (⟨(Lib.cut s.data.toList [32]).1.toArray⟩ : ByteArray) = mk (cutN (B s)) ∧ (⟨(Lib.cut s.data.toList [32]).2.1.toArray⟩ : ByteArray) = mk (cutR (B s)) ∧ (Lib.cut s.data.toList [32]).2.2 = cutH (B s) := by
  rcases index_cut s.data.toList with ⟨a, b⟩ | ⟨a, b⟩
  · have hh : cutH (B s) = true := a
    have hb : Lib.indexByte s.data.toList 32 = ((cutN (B s)).length : Int) := b
    have e0 : Lib.cut s.data.toList [32] = (s.data.toList.take (cutN (B s)).length, s.data.toList.drop ((cutN (B s)).length + 1), true) := by
      unfold Lib.cut; rw [Lib.index_one, if_pos (by omega), show (Lib.indexByte s.data.toList 32).toNat = (cutN (B s)).length by omega]; rfl
    have hc := cut_back hh
    rw [e0, hh]
    refine ⟨?_, ?_, rfl⟩
    · rw [take_mk, (cut_parts hc).1]
    · rw [drop_mk, (cut_parts hc).2]
  · have hh : cutH (B s) = false := a
    obtain ⟨c0, c1, _⟩ := cut_no (cutH_no hh)
    have e0 : Lib.cut s.data.toList [32] = (s.data.toList, [], false) := by
      unfold Lib.cut; rw [Lib.index_one, if_neg (by omega)]
    rw [e0, hh, c0, c1]
    exact ⟨eq_mk rfl, rfl, rfl⟩
theorem blank_any (s : ByteArray) (w : World) (hs : s.size ≤ 65536) (E : Env w) :
    Calls Tryz.prog 119 #[.string s, .string { data := #[32] }] w fun e w' => e = .returned (.tuple #[.string (mk (cutN (B s))), .string (mk (cutR (B s))), .bool (cutH (B s))]) ∧ ∃ n, w' = w.drewN n := by
  obtain ⟨m, hm⟩ := E.max
  refine (Tryz.strings_Cut s { data := #[32] } m w (by omega) hm).mono ?_
  rintro e w' ⟨rfl, n, rfl⟩
  refine ⟨?_, n, rfl⟩
  obtain ⟨a, b, c⟩ := cut_is s
  show Ending.returned (.tuple #[.string ⟨(Lib.cut s.data.toList [32]).1.toArray⟩, .string ⟨(Lib.cut s.data.toList [32]).2.1.toArray⟩, .bool (Lib.cut s.data.toList [32]).2.2]) = _
  rw [a, b, c]
theorem printA_size {n v : List Nat} {op : Int} : (printA n op v).length ≤ 110 := by
  unfold printA
  split
  · rename_i h
    unfold rightA at h
    simp only [Bool.and_eq_true] at h
    have hn := name_len h.1
    unfold textA
    split
    · omega
    · rename_i h0
      rw [if_neg h0] at h
      simp only [Bool.and_eq_true, decide_eq_true_eq] at h
      have hv := pr_len h.2.2
      have : op = 1 ∨ op = 2 ∨ op = 3 ∨ op = 4 ∨ op = 5 := by omega
      have hsg : (signL op).length ≤ 2 := by rcases this with rfl | rfl | rfl | rfl | rfl <;> decide
      simp only [List.length_append, List.length_cons, List.length_nil]
      omega
  · exact Nat.zero_le _
theorem rsign_drewN (op : Int) (w : World) (m : Nat) (E : Sgn w) : Calls Tryz.prog 66 #[.int .i64 op] (w.drewN m) fun e w' => e = .returned (.string (mk (signL op))) ∧ w' = w.drewN m :=
  (rsign_any op (w.drewN m) (E.below ⟨rfl, rfl, rfl, Nat.le_refl _, fun _ _ => rfl⟩)).mono fun _ _ h => ⟨h.1, h.2.symm⟩
theorem rprint_any (n : ByteArray) (op : Int) (v : ByteArray) (w : World) (E : EnvR w) : Calls Tryz.prog 75 #[.agg #[.string n, .int .i64 op, .string v]] w fun e' w' => e' = .returned (.string (mk (printA (B n) op (B v)))) ∧ Below w.heap.size w w' := by
  have HE := Lib.hid E
  clear E
  have KR := Lib.hid (fun w E => rright_any n op v w E)
  cases hr : rightA (B n) op (B v)
  · have X := Lib.hid (show printA (B n) op (B v) = [] by unfold printA; rw [hr]; rfl)
    rw [hr] at KR
    clear hr
    go_enter Tryz.func75, Tryz.ntmps75
    go_wp2_with fail
    refine (KR.out _ (HE.out.alloc _)).mono ?_
    rintro e' w1 ⟨rfl, hb⟩
    have B1 := Lib.hid (bel_boxed hb)
    clear hb
    go_wp2
    go_ret
    exact ⟨by rw [X.out]; rfl, B1.out⟩
  · by_cases h0 : op = 0
    · have X := Lib.hid (show mk (printA (B n) op (B v)) = n by unfold printA textA; rw [if_pos hr, if_pos h0, mk_B])
      have t0 : (op == 0) = true := by rw [beq_iff_eq]; exact h0
      rw [hr] at KR
      clear hr h0
      go_enter Tryz.func75, Tryz.ntmps75
      go_wp2_with fail
      refine (KR.out _ (HE.out.alloc _)).mono ?_
      rintro e' w1 ⟨rfl, hb⟩
      have B1 := Lib.hid (bel_boxed hb)
      obtain ⟨c0, c1, c2, s1⟩ := box_cells hb
      clear hb
      go_wp2
      go_ret
      exact ⟨by rw [X.out]; rfl, B1.out⟩
    · have t0 : (op == 0) = false := by rw [beq_eq_false_iff_ne]; exact h0
      have hsz := @printA_size (B n) (B v) op
      have hb0 := (show printA (B n) op (B v) = B n ++ 32 :: 40 :: (signL op ++ 32 :: (B v ++ [41])) by unfold printA textA; rw [if_pos hr, if_neg h0])
      have hls : (mk (signL op)).size = (signL op).length := size_mk _
      have hsl : ∀ c ∈ signL op, c < 256 := by
        have hr2 := hr
        unfold rightA at hr2
        rw [if_neg h0] at hr2
        simp only [Bool.and_eq_true, decide_eq_true_eq] at hr2
        have : op = 1 ∨ op = 2 ∨ op = 3 ∨ op = 4 ∨ op = 5 := by omega
        rcases this with rfl | rfl | rfl | rfl | rfl <;> decide
      have X := Lib.hid (show n ++ { data := #[32, 40] } ++ mk (signL op) ++ { data := #[32] } ++ v ++ { data := #[41] } = mk (printA (B n) op (B v)) by
        rw [hb0]
        refine eq_mk ?_
        simp only [B_append]
        rw [B_mk hsl]
        simp [B])
      rw [hb0] at hsz
      simp only [List.length_append, List.length_cons, B_len] at hsz
      have z1 : n.size ≤ 110 := by omega
      have z2 : v.size ≤ 110 := by omega
      have z3 : (mk (signL op)).size ≤ 110 := by omega
      have KS := Lib.hid (fun w E m => rsign_drewN op w m E)
      generalize mk (signL op) = sg at *
      rw [hr] at KR
      clear hr h0 hsz hb0 hls hsl
      obtain ⟨N1, e1, k1⟩ := add_out n { data := #[32, 40] } 110 2 z1 (by decide)
      obtain ⟨N2, e2, k2⟩ := add_out N1 sg 112 110 k1.2 z3
      obtain ⟨N3, e3, k3⟩ := add_out N2 { data := #[32] } 222 1 k2.2 (by decide)
      obtain ⟨N4, e4, k4⟩ := add_out N3 v 223 110 k3.2 z2
      obtain ⟨N5, e5, k5⟩ := add_out N4 { data := #[41] } 333 1 k4.2 (by decide)
      rw [← k1.1, ← k2.1, ← k3.1, ← k4.1, ← k5.1] at X
      clear k1 k2 k3 k4 k5
      go_enter Tryz.func75, Tryz.ntmps75
      go_wp2_with fail
      refine (KR.out _ (HE.out.alloc _)).mono ?_
      rintro e' w1 ⟨rfl, hb⟩
      have B1 := Lib.hid (bel_boxed hb)
      obtain ⟨c0, c1, c2, s1⟩ := box_cells hb
      clear hb
      have ES := Lib.hid (HE.out.below B1.out).sgn
      go_wp2_with fail
      go_quiet (first | (go_at_call 66; refine Calls.quiet_of_same (KS.out _ ES.out _)))
      go_wp2
      go_ret
      exact ⟨by rw [← X.out]; rfl, bel_d B1.out _⟩
end Go.Proofs.YtmlakjemgmeffaaGreatDoor
end
