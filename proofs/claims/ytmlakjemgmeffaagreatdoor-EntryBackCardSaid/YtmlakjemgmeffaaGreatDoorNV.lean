/- What the laws of this seat rest on: Ver6, Ver7, Ver8. -/
import Derived.Test.YtmlakjemgmeffaaGreatDoorVer1Y
import Derived.Test.YtmlakjemgmeffaaGreatDoorNA
import Derived.Test.YtmlakjemgmeffaaGreatDoorShelfY
import Derived.Lib.AppendIntMem
import Derived.Below
import Derived.Lib.IndexAny

section
set_option maxRecDepth 100000
set_option linter.unusedVariables false
set_option linter.unusedSimpArgs false
namespace Go.Proofs.YtmlakjemgmeffaaGreatDoor
open Go.RowKit
structure Env (w : World) : Prop where
  max : ∃ m, w.cell? ⟨1, 0, none⟩ = some (.int .i64 m)
  pow : Lib.TabIs Tryz.prog w "internal/strconv.uint64pow10" .u64 Lib.pow10Tab
  syn : ∃ tp p, w.var? Tryz.prog "strconv.ErrSyntax" = some #[.iface tp p]
  rng : ∃ tp p, w.var? Tryz.prog "strconv.ErrRange" = some #[.iface tp p]
theorem var_bel {P : Program} {w w' : World} {n : String} {cs : Array Value} (h : Below w.heap.size w w') (hv : w.var? P n = some cs) : w'.var? P n = some cs := by
  unfold World.var? at hv ⊢
  cases hg : P.globalNamed n with
  | none => rw [hg] at hv; exact hv
  | some g =>
    rw [hg] at hv
    simp only [Option.bind_some] at hv ⊢
    have hlt : g < w.heap.size := by
      rcases Nat.lt_or_ge g w.heap.size with hh | hh
      · exact hh
      · rw [Array.getElem?_eq_none hh] at hv; cases hv
    rw [h.block g hlt]; exact hv
theorem Env.below {w w' : World} (E : Env w) (h : Below w.heap.size w w') : Env w' := by
  obtain ⟨⟨m, hm⟩, hp, ⟨t1, p1, h1⟩, ⟨t2, p2, h2⟩⟩ := E
  exact ⟨⟨m, by rw [h.cell (World.block_lt_of_cell? _ _ hm)]; exact hm⟩, var_bel h hp, ⟨t1, p1, var_bel h h1⟩, ⟨t2, p2, var_bel h h2⟩⟩
theorem Env.drewN {w : World} (E : Env w) (n : Nat) : Env (w.drewN n) := E.below ⟨rfl, rfl, rfl, Nat.le_refl _, fun _ _ => rfl⟩
theorem Env.alloc {w : World} (E : Env w) (o : Obj) : Env (w.alloc o) := E.below ((Below.refl _ w).alloc (Nat.le_refl _) _)
theorem decF_dd : ∀ (n f : Nat) (l : List Nat), n < f → decF f n l = (Lib.decDigits n).map UInt8.toNat ++ l := by
  intro n
  induction n using Nat.strongRecOn with
  | _ n ih =>
    intro f l hf
    obtain ⟨g, rfl⟩ : ∃ g, f = g + 1 := ⟨f - 1, by omega⟩
    simp only [decF]
    rw [Lib.decDigits]
    by_cases h : n < 10
    · rw [if_pos h, dif_pos h]
      simp only [List.map_cons, List.map_nil, List.cons_append, List.nil_append, UInt8.toNat_ofNat']
      rw [Nat.mod_eq_of_lt (by omega)]
    · rw [if_neg h, dif_neg h, ih (n / 10) (by omega) g _ (by omega)]
      simp only [List.map_append, List.map_cons, List.map_nil, List.append_assoc, List.cons_append, List.nil_append, UInt8.toNat_ofNat']
      rw [Nat.mod_eq_of_lt (show 48 + n % 10 < 2 ^ 8 by omega)]
theorem itoa_is (n : Nat) : (⟨(Lib.itoa (n : Int)).toArray⟩ : ByteArray) = mk (decL n) := by
  apply eq_mk
  unfold Lib.itoa decL
  rw [if_neg (by omega), decF_dd n (n + 1) [] (by omega), List.append_nil, Int.toNat_natCast]
  rfl
theorem itoa_any (n : Nat) (w : World) (hn : n ≤ 9223372036854775807) (E : Env w) : Calls Tryz.prog 136 #[.int .i64 (n : Int)] w fun e w' => e = .returned (.string (mk (decL n))) ∧ Below w.heap.size w w' := by
  refine (Tryz.strconv_Itoa n (by omega) (by omega) w E.pow).mono ?_
  rintro e w' ⟨rfl, k, os, rfl⟩
  exact ⟨by rw [itoa_is], Lib.below_grow _ _ (Nat.le_refl _) _ _⟩
theorem bel_boxed {w w1 : World} {o : Obj} (h : Below (w.alloc o).heap.size (w.alloc o) w1) : Below w.heap.size w w1 := ((Below.refl _ w).alloc (Nat.le_refl _) o).trans (h.mono (by simp))
theorem vtext_any (e : Nat) (u r : ByteArray) (w : World) (he : e ≤ 1000000000) (hu : u.size ≤ 65536) (hr : r.size ≤ 65536) (E : Env w) :
    Calls Tryz.prog 99 #[.agg #[.int .i64 (e : Int), .string u, .string r]] w fun e' w' => e' = .returned (.string (mk (textL e (B u) (B r)))) ∧ Below w.heap.size w w' := by
  have hmk := decL_len e
  have hsz : (mk (decL e)).size ≤ 1000000001 := by rw [size_mk]; omega
  have I := Lib.hid (itoa_any e (w.alloc (.cells #[.int .i64 (e : Int), .string u, .string r] 88)) (by omega) (E.alloc _))
  by_cases h1 : e = 0
  · cases h2 : r.toList.isEmpty
    · have t1 : ((e : Int) != 0) = false := by rw [bne_eq_false_iff_eq]; omega
      have HE : B r ≠ [] := fun hh => by rw [(empty_iff r).2 hh] at h2; cases h2
      have X := Lib.hid (show u ++ ({ data := #[45] } ++ r) = mk (textL e (B u) (B r)) by
        refine eq_mk ?_
        unfold textL
        rw [if_pos h1, if_neg HE]
        simp [B_append, B_dash])
      clear HE h1
      go_enter Tryz.func99, Tryz.ntmps99
      go_wp2
      go_ret
      exact ⟨by rw [← X.out]; rfl, (Below.refl _ w).alloc (Nat.le_refl _) _⟩
    · have t1 : ((e : Int) != 0) = false := by rw [bne_eq_false_iff_eq]; omega
      have HE : B r = [] := (empty_iff r).1 h2
      have X := Lib.hid (show u = mk (textL e (B u) (B r)) by
        refine eq_mk ?_
        unfold textL
        rw [if_pos h1, if_pos HE]
        simp [B_append])
      clear HE h1
      go_enter Tryz.func99, Tryz.ntmps99
      go_wp2
      go_ret
      exact ⟨by rw [← X.out]; rfl, (Below.refl _ w).alloc (Nat.le_refl _) _⟩
  · cases h2 : r.toList.isEmpty
    · have t1 : ((e : Int) != 0) = true := by rw [bne_iff_ne]; omega
      have HE : B r ≠ [] := fun hh => by rw [(empty_iff r).2 hh] at h2; cases h2
      have X := Lib.hid (show mk (decL e) ++ { data := #[58] } ++ u ++ ({ data := #[45] } ++ r) = mk (textL e (B u) (B r)) by
        refine eq_mk ?_
        unfold textL
        rw [if_neg h1, if_neg HE]
        simp [B_append, B_dash, B_colon, B_mk (decL_lt e)])
      clear HE h1
      go_enter Tryz.func99, Tryz.ntmps99
      go_wp2_with fail
      refine I.out.mono ?_
      rintro e' w1 ⟨rfl, hb⟩
      obtain ⟨c0, c1, c2, hz⟩ := box_cells hb
      have hB := Lib.hid (bel_boxed hb)
      clear hb
      go_wp2
      go_ret
      exact ⟨by rw [← X.out]; rfl, hB.out⟩
    · have t1 : ((e : Int) != 0) = true := by rw [bne_iff_ne]; omega
      have HE : B r = [] := (empty_iff r).1 h2
      have X := Lib.hid (show mk (decL e) ++ { data := #[58] } ++ u = mk (textL e (B u) (B r)) by
        refine eq_mk ?_
        unfold textL
        rw [if_neg h1, if_pos HE]
        simp [B_append, B_colon, B_mk (decL_lt e)])
      clear HE h1
      go_enter Tryz.func99, Tryz.ntmps99
      go_wp2_with fail
      refine I.out.mono ?_
      rintro e' w1 ⟨rfl, hb⟩
      obtain ⟨c0, c1, c2, hz⟩ := box_cells hb
      have hB := Lib.hid (bel_boxed hb)
      clear hb
      go_wp2
      go_ret
      exact ⟨by rw [← X.out]; rfl, hB.out⟩
end Go.Proofs.YtmlakjemgmeffaaGreatDoor
end

section
set_option maxRecDepth 100000
set_option linter.unusedVariables false
set_option linter.unusedSimpArgs false
namespace Go.Proofs.YtmlakjemgmeffaaGreatDoor
open Go.RowKit
theorem contains_is (s : ByteArray) (c : UInt8) : decide (0 ≤ Lib.indexByte s.data.toList c) = hasB (B s) c.toNat := by
  rw [← Lib.contains_iff_indexByte]
  unfold hasB B
  rw [Bool.eq_iff_iff, List.contains_iff_mem, List.contains_iff_mem, List.mem_map]
  exact ⟨fun h => ⟨c, h, rfl⟩, fun ⟨d, h, e⟩ => by rwa [← UInt8.toNat_inj.1 e]⟩
theorem has45_any (s : ByteArray) (w : World) : Calls Tryz.prog 174 #[.string s, .string { data := #[45] }] w fun e w' => e = .returned (.bool (hasB (B s) 45)) ∧ w = w' := by
  refine (Tryz.strings_Contains_one s 45 w).mono ?_
  rintro e w' ⟨rfl, rfl⟩
  exact ⟨by rw [contains_is]; rfl, rfl⟩
theorem has58_any (s : ByteArray) (w : World) : Calls Tryz.prog 174 #[.string s, .string { data := #[58] }] w fun e w' => e = .returned (.bool (hasB (B s) 58)) ∧ w = w' := by
  refine (Tryz.strings_Contains_one s 58 w).mono ?_
  rintro e w' ⟨rfl, rfl⟩
  exact ⟨by rw [contains_is]; rfl, rfl⟩
def upB (e : Int) (u r : List Nat) : Bool := headD u && u.all (chB uX) && !(hasB u 45 && decide (r = [])) && !(hasB u 58 && decide (e = 0))
theorem rightB_up (e : Int) (u r : List Nat) : rightB e u r = (decide (0 ≤ e ∧ e ≤ 999999999) && upB e u r && r.all (chB rX) && decide ((textL e.toNat u r).length ≤ 60)) := by
  unfold rightB upB
  generalize decide (0 ≤ e ∧ e ≤ 999999999) = a
  generalize headD u = b
  generalize (hasB u 45 && decide (r = [])) = c
  generalize (hasB u 58 && decide (e = 0)) = d
  generalize u.all (chB uX) = f
  cases a <;> cases b <;> cases c <;> cases d <;> cases f <;> rfl
theorem eachU_any (u : ByteArray) (w : World) (hs : u.size ≤ 65536) : Calls Tryz.prog 133 #[.string u, .func (.func 173) #[] #[]] w fun e w' => e = .returned (.bool ((B u).all (chB uX))) ∧ ∃ n, w' = w.drewN n :=
  each_any _ (chB uX) u w (by omega) (fun _ _ => by kernel_rfl) vup_any
theorem eachR_any (u : ByteArray) (w : World) (hs : u.size ≤ 65536) : Calls Tryz.prog 133 #[.string u, .func (.func 134) #[] #[]] w fun e w' => e = .returned (.bool ((B u).all (chB rX))) ∧ ∃ n, w' = w.drewN n :=
  each_any _ (chB rX) u w (by omega) (fun _ _ => by kernel_rfl) vrev_any
theorem bel_d {w w1 : World} (h : Below w.heap.size w w1) (n : Nat) : Below w.heap.size w (w1.drewN n) := ⟨h.os, h.tape, h.output, h.size, h.block⟩
theorem bel_box (w : World) (o : Obj) : Below w.heap.size w (w.alloc o) := (Below.refl _ w).alloc (Nat.le_refl _) o
theorem vupstream_any (e : Int) (u r : ByteArray) (w : World) (hsz : u.size ≤ 65536) (hrz : r.size ≤ 65536) :
    Calls Tryz.prog 132 #[.agg #[.int .i64 e, .string u, .string r]] w fun e' w' => e' = .returned (.bool (upB e (B u) (B r))) ∧ Below w.heap.size w w' := by
  have KE := Lib.hid (fun w => eachU_any u w hsz)
  have K45 := Lib.hid (has45_any u)
  have K58 := Lib.hid (has58_any u)
  cases hu : u.toList.isEmpty
  · have hs : 0 < u.size := by
      rcases Nat.eq_zero_or_pos u.size with h | h
      · have := (empty_iff u).2 (List.eq_nil_of_length_eq_zero (by rw [B_len]; exact h))
        rw [hu] at this; cases this
      · exact h
    have KD := Lib.hid (vdigit_any u[0].toNat)
    cases hd : digB u[0].toNat
    · have X := Lib.hid (show upB e (B u) (B r) = false by unfold upB; rw [headD_at u hs, hd]; rfl)
      rw [hd] at KD
      clear hd
      go_enter Tryz.func132, Tryz.ntmps132
      go_wp2_with (go_at_call 167; (with_reducible refine (KD.out _).mono ?_); rintro e' w1 ⟨rfl, rfl⟩)
      go_ret
      exact ⟨by rw [X.out]; rfl, bel_box _ _⟩
    · rw [hd] at KD
      have HD := Lib.hid hd
      clear hd
      cases ha : (B u).all (chB uX)
      · have X := Lib.hid (show upB e (B u) (B r) = false by unfold upB; rw [headD_at u hs, HD.out, ha]; rfl)
        rw [ha] at KE
        clear ha
        go_enter Tryz.func132, Tryz.ntmps132
        go_wp2_with (first | (go_at_call 167; (with_reducible refine (KD.out _).mono ?_); rintro e' w1 ⟨rfl, rfl⟩) | (go_at_call 133; (with_reducible refine (KE.out _).mono ?_); rintro e' w1 ⟨rfl, n, rfl⟩))
        go_ret
        exact ⟨by rw [X.out]; rfl, bel_d (bel_box _ _) _⟩
      · have X := Lib.hid (show upB e (B u) (B r) = (!(hasB (B u) 45 && r.toList.isEmpty) && !(hasB (B u) 58 && (e == 0))) by
          unfold upB; rw [headD_at u hs, HD.out, ha]
          have h1 : decide (B r = []) = r.toList.isEmpty := by rw [Bool.eq_iff_iff, decide_eq_true_iff, empty_iff]
          have h2 : decide (e = 0) = (e == 0) := by rw [Bool.eq_iff_iff, decide_eq_true_iff, beq_iff_eq]
          rw [h1, h2]; simp)
        rw [ha] at KE
        clear ha
        cases hre : r.toList.isEmpty <;> cases h45 : hasB (B u) 45 <;> cases h58 : hasB (B u) 58 <;> cases he0 : (e == 0)
        all_goals
          have hn0 : (e != 0) = !(e == 0) := rfl
          rw [he0] at hn0
          rw [h45] at K45
          rw [h58] at K58
          rw [h45, h58, hre, he0] at X
          clear he0 h45 h58
          simp only [Bool.not_true, Bool.not_false] at hn0
          go_enter Tryz.func132, Tryz.ntmps132
          go_wp2_with (first | (go_at_call 167; (with_reducible refine (KD.out _).mono ?_); rintro e' w1 ⟨rfl, rfl⟩) | (go_at_call 133; (with_reducible refine (KE.out _).mono ?_); rintro e' w1 ⟨rfl, n, rfl⟩) | (go_at_call 174; (with_reducible refine (K45.out _).mono ?_); rintro e' w1 ⟨rfl, rfl⟩) | (go_at_call 174; (with_reducible refine (K58.out _).mono ?_); rintro e' w1 ⟨rfl, rfl⟩))
          go_ret
          exact ⟨by rw [X.out]; rfl, bel_d (bel_box _ _) _⟩
  · have X := Lib.hid (show upB e (B u) (B r) = false by unfold upB; rw [(empty_iff u).1 hu]; rfl)
    go_enter Tryz.func132, Tryz.ntmps132
    go_wp2
    go_ret
    exact ⟨by rw [X.out]; rfl, bel_box _ _⟩
end Go.Proofs.YtmlakjemgmeffaaGreatDoor
end

section
set_option maxRecDepth 100000
set_option linter.unusedVariables false
set_option linter.unusedSimpArgs false
namespace Go.Proofs.YtmlakjemgmeffaaGreatDoor
open Go.RowKit
theorem bel_2 {w V W : World} (h : Below w.heap.size w V) (h2 : Below V.heap.size V W) : Below w.heap.size w W := h.trans (h2.mono h.size)
theorem vright_any (e : Int) (u r : ByteArray) (w : World) (hsz : u.size ≤ 65536) (hrz : r.size ≤ 65536) (E : Env w) :
    Calls Tryz.prog 97 #[.agg #[.int .i64 e, .string u, .string r]] w fun e' w' => e' = .returned (.bool (rightB e (B u) (B r))) ∧ Below w.heap.size w w' := by
  have XR := Lib.hid (rightB_up e (B u) (B r))
  by_cases h0 : 0 ≤ e
  · by_cases h1 : e ≤ 999999999
    · have d0 : decide (0 ≤ e) = true := decide_eq_true h0
      have d1 : decide (e ≤ 999999999) = true := decide_eq_true h1
      have KU := Lib.hid (fun w => vupstream_any e u r w hsz hrz)
      have KE := Lib.hid (fun w => eachR_any r w hrz)
      cases hup : upB e (B u) (B r)
      · have X := Lib.hid (show rightB e (B u) (B r) = false by rw [XR.out, hup, Bool.and_false, Bool.false_and, Bool.false_and])
        rw [hup] at KU
        clear hup XR
        go_enter Tryz.func97, Tryz.ntmps97
        go_wp2_with fail
        refine (KU.out _).mono ?_
        rintro e' w1 ⟨rfl, hb⟩
        have hB := Lib.hid (bel_boxed hb)
        clear hb
        go_wp2
        go_ret
        exact ⟨by rw [X.out]; rfl, hB.out⟩
      · rw [hup] at KU
        cases ha : (B r).all (chB rX)
        · have X := Lib.hid (show rightB e (B u) (B r) = false by rw [XR.out, ha, Bool.and_false, Bool.false_and])
          rw [ha] at KE
          clear ha hup XR
          go_enter Tryz.func97, Tryz.ntmps97
          go_wp2_with fail
          refine (KU.out _).mono ?_
          rintro e' w1 ⟨rfl, hb⟩
          obtain ⟨c0, c1, c2, hz⟩ := box_cells hb
          have hB := Lib.hid (bel_boxed hb)
          clear hb
          go_wp2_with fail
          refine (KE.out _).mono ?_
          rintro e' w1 ⟨rfl, n, rfl⟩
          go_wp2
          go_ret
          exact ⟨by rw [X.out]; rfl, bel_d hB.out n⟩
        · obtain ⟨m, rfl⟩ : ∃ m : Nat, e = m := ⟨e.toNat, by omega⟩
          have X := Lib.hid (show rightB m (B u) (B r) = decide ((mk (textL m (B u) (B r))).size ≤ 60) by
            rw [XR.out, ha, hup, decide_eq_true ⟨h0, h1⟩, size_mk]; rfl)
          rw [ha] at KE
          have KT := Lib.hid (fun w E => vtext_any m u r w (by omega) hsz hrz E)
          clear ha hup XR
          have HE := Lib.hid E
          clear E
          generalize mk (textL m (B u) (B r)) = T at *
          generalize rightB m (B u) (B r) = b at *
          go_enter Tryz.func97, Tryz.ntmps97
          go_wp2_with fail
          refine (KU.out _).mono ?_
          rintro e' w1 ⟨rfl, hb⟩
          obtain ⟨c0, c1, c2, hz⟩ := box_cells hb
          have hB := Lib.hid (bel_boxed hb)
          clear hb
          go_wp2_with fail
          refine (KE.out _).mono ?_
          rintro e' w2 ⟨rfl, n, rfl⟩
          go_wp2_with fail
          refine (KT.out _ ((HE.out.below hB.out).drewN n)).mono ?_
          rintro e' w2 ⟨rfl, hb2⟩
          have hB2 := Lib.hid (bel_2 (bel_d hB.out n) hb2)
          clear hb2
          go_wp2
          go_ret
          refine ⟨?_, hB2.out⟩
          rw [X.out]
          show Ending.returned (.bool (decide ((T.size : Int) ≤ 60))) = .returned (.bool (decide (T.size ≤ 60)))
          rw [decide_eq_decide.2 (show (T.size : Int) ≤ 60 ↔ T.size ≤ 60 by omega)]
    · have d1 : decide (e ≤ 999999999) = false := decide_eq_false h1
      have X := Lib.hid (show rightB e (B u) (B r) = false by rw [XR.out, decide_eq_false (by omega)]; rfl)
      go_enter Tryz.func97, Tryz.ntmps97
      go_wp2
      go_ret
      exact ⟨by rw [X.out]; rfl, bel_box _ _⟩
  · have d0 : decide (0 ≤ e) = false := decide_eq_false h0
    have X := Lib.hid (show rightB e (B u) (B r) = false by rw [XR.out, decide_eq_false (by omega)]; rfl)
    go_enter Tryz.func97, Tryz.ntmps97
    go_wp2
    go_ret
    exact ⟨by rw [X.out]; rfl, bel_box _ _⟩
theorem vprint_any (e : Int) (u r : ByteArray) (w : World) (hsz : u.size ≤ 65536) (hrz : r.size ≤ 65536) (E : Env w) :
    Calls Tryz.prog 64 #[.agg #[.int .i64 e, .string u, .string r]] w fun e' w' => e' = .returned (.string (mk (printL e (B u) (B r)))) ∧ Below w.heap.size w w' := by
  have KR := Lib.hid (fun w E => vright_any e u r w hsz hrz E)
  have HE := Lib.hid E
  clear E
  cases hr : rightB e (B u) (B r)
  · have X := Lib.hid (show mk (printL e (B u) (B r)) = { data := #[] } by unfold printL; rw [hr]; rfl)
    rw [hr] at KR
    clear hr
    go_enter Tryz.func64, Tryz.ntmps64
    go_wp2_with fail
    refine (KR.out _ (HE.out.alloc _)).mono ?_
    rintro e' w1 ⟨rfl, hb⟩
    have hB := Lib.hid (bel_boxed hb)
    clear hb
    go_wp2
    go_ret
    exact ⟨by rw [X.out]; rfl, hB.out⟩
  · obtain ⟨m, rfl⟩ : ∃ m : Nat, e = m := ⟨e.toNat, by have := (rightB_epoch hr).1; omega⟩
    have hm := (rightB_epoch hr).2
    have X := Lib.hid (show mk (printL m (B u) (B r)) = mk (textL m (B u) (B r)) by unfold printL; rw [hr]; rfl)
    rw [hr] at KR
    have KT := Lib.hid (fun w E => vtext_any m u r w (by omega) hsz hrz E)
    clear hr
    generalize mk (textL m (B u) (B r)) = T at *
    go_enter Tryz.func64, Tryz.ntmps64
    go_wp2_with fail
    refine (KR.out _ (HE.out.alloc _)).mono ?_
    rintro e' w1 ⟨rfl, hb⟩
    obtain ⟨c0, c1, c2, hz⟩ := box_cells hb
    have hB := Lib.hid (bel_boxed hb)
    clear hb
    go_wp2_with fail
    refine (KT.out _ (HE.out.below hB.out)).mono ?_
    rintro e' w2 ⟨rfl, hb2⟩
    have hB2 := Lib.hid (bel_2 hB.out hb2)
    clear hb2
    go_wp2
    go_ret
    exact ⟨by rw [X.out]; rfl, hB2.out⟩
end Go.Proofs.YtmlakjemgmeffaaGreatDoor
end
