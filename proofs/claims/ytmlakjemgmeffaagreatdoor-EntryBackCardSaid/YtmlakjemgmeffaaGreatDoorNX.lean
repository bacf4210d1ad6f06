/- What the laws of this seat rest on: P6h, P6i, P6j. -/
import Derived.Test.YtmlakjemgmeffaaGreatDoorNW
import Derived.Test.YtmlakjemgmeffaaGreatDoorD4qY
import Derived.Test.YtmlakjemgmeffaaGreatDoorND
import Derived.Test.YtmlakjemgmeffaaGreatDoorNF
import Derived.Test.YtmlakjemgmeffaaGreatDoorE6kY
import Derived.Test.YtmlakjemgmeffaaGreatDoorNS

section
set_option maxRecDepth 100000
set_option linter.unusedVariables false
set_option linter.unusedSimpArgs false
namespace Go.Proofs.YtmlakjemgmeffaaGreatDoor
open Go.RowKit
set_option maxHeartbeats 2000000 in
theorem pname_any (s : ByteArray) (w : World) : Calls Tryz.prog 49 #[.string s] w fun e w' => e = .returned (.tuple #[.string (if nameB (B s) = true then s else { data := #[] }), .int .i64 (if nameB (B s) = true then 0 else 3)]) ∧ Below w.heap.size w w' := by
  have K := Lib.hid (rname_any s w)
  generalize nameB (B s) = b at *
  cases b
  all_goals
    go_enter Tryz.func49, Tryz.ntmps49
    go_wp2_with fail
    refine K.out.mono ?_
    rintro e w' ⟨rfl, hb⟩
    have HB := Lib.hid hb
    clear hb
    go_wp2
    go_ret2
    exact ⟨rfl, HB.out⟩
set_option maxHeartbeats 2000000 in
theorem pver_any (s : ByteArray) (w : World) (E : Env w) : Calls Tryz.prog 50 #[.string s] w fun e w' => e = .returned (.tuple #[.string (if prB (B s) = true then s else { data := #[] }), .int .i64 (if prB (B s) = true then 0 else 4)]) ∧ Below w.heap.size w w' := by
  have K := Lib.hid (eprinted_any s w E)
  clear E
  generalize prB (B s) = b at *
  cases b
  all_goals
    go_enter Tryz.func50, Tryz.ntmps50
    go_wp2_with fail
    refine K.out.mono ?_
    rintro e w' ⟨rfl, hb⟩
    have HB := Lib.hid hb
    clear hb
    go_wp2
    go_ret2
    exact ⟨rfl, HB.out⟩
def pvE (s : List Nat) : Int := if atE s ≠ 0 then atE s else if 8 < (atL s).length then 8 else if givs6 (atL s) = false then 5 else 0
def pvL (s : List Nat) : List Atm := if pvE s = 0 then atL s else []
set_option maxHeartbeats 4000000 in
theorem pprov_any (s : ByteArray) (w : World) (hs : s.size ≤ 65536) (E : EnvR w) : Calls Tryz.prog 55 #[.string s] w fun e w' => (∃ A n c, e = .returned (.tuple #[.slice A n c, .int .i64 (pvE (B s))]) ∧ rdAtms w' (fun b => w.heap.size ≤ b ∧ b < w'.heap.size) (pvL (B s)) [.slice A n c]) ∧ Below w.heap.size w w' := by
  have K := Lib.hid (atoms4_new s w hs E)
  have HE := Lib.hid E
  have X := Lib.hid (show pvE (B s) = if atE (B s) ≠ 0 then atE (B s) else if 8 < (atL (B s)).length then 8 else if givs6 (atL (B s)) = false then 5 else 0 from rfl)
  have Y := Lib.hid (show pvL (B s) = if pvE (B s) = 0 then atL (B s) else [] from rfl)
  clear E
  generalize pvE (B s) = pe at *
  generalize pvL (B s) = pl at *
  generalize atE (B s) = ae at *
  generalize atL (B s) = al at *
  by_cases h0 : ae ≠ 0
  · have X1 := Lib.hid (show pe = ae from X.out.trans (if_pos h0))
    have Y1 := Lib.hid (show pl = [] from Y.out.trans (if_neg (by rw [X1.out]; exact h0)))
    have t0 : (ae != 0) = true := by rw [bne_iff_ne]; exact h0
    clear h0
    go_enter Tryz.func55, Tryz.ntmps55
    go_wp2_with fail
    refine K.out.mono ?_
    rintro e w' ⟨⟨v, rfl, hr⟩, hb⟩
    have HB := Lib.hid hb
    clear hb hr
    go_wp2
    go_ret2
    exact ⟨⟨none, 0, 0, by rw [X1.out]; try rfl, by rw [Y1.out]; exact rdRow_nil _ _⟩, HB.out⟩
  have t0 : (ae != 0) = false := by rw [bne_eq_false_iff_eq]; exact Decidable.not_not.1 h0
  by_cases h8 : 8 < al.length
  · have X1 := Lib.hid (show pe = 8 from X.out.trans ((if_neg h0).trans (if_pos h8)))
    have Y1 := Lib.hid (show pl = [] from Y.out.trans (if_neg (by rw [X1.out]; decide)))
    have i8 : (8 : Int) < (al.length : Int) := by omega
    clear h0 h8
    go_enter Tryz.func55, Tryz.ntmps55
    go_wp2_with fail
    refine K.out.mono ?_
    rintro e w' ⟨⟨v, rfl, hr⟩, hb⟩
    obtain ⟨A, c, hv, _⟩ := id hr
    simp only [List.cons.injEq, and_true] at hv
    subst hv
    have HB := Lib.hid hb
    clear hb hr
    go_wp2
    go_ret2
    exact ⟨⟨none, 0, 0, by rw [X1.out]; try rfl, by rw [Y1.out]; exact rdRow_nil _ _⟩, HB.out⟩
  have i8 : ¬ (8 : Int) < (al.length : Int) := by omega
  have KG := Lib.hid (fun (W : World) (hb : Below w.heap.size w W) (A : Option Addr) (n c : Nat) (hr : rdAtms W (lt_ W.heap.size) al [.slice A n c]) => each6_any 31 giv6 (fun _ _ => by kernel_rfl) (fun x W _ => givable6_any x W) A n c al W hr (HE.out.below hb))
  have X2 := Lib.hid (show pe = if al.all giv6 = false then 5 else 0 from X.out.trans ((if_neg h0).trans (if_neg h8)))
  generalize al.all giv6 = g at *
  clear h0 h8
  go_enter Tryz.func55, Tryz.ntmps55
  go_wp2_with fail
  refine K.out.mono ?_
  rintro e w1 ⟨⟨v, rfl, hr⟩, hb⟩
  obtain ⟨A, c, hv, _⟩ := id hr
  simp only [List.cons.injEq, and_true] at hv
  subst hv
  have HB := Lib.hid hb
  have HR := Lib.hid hr
  clear hb hr
  go_wp2_with fail
  refine (KG.out _ HB.out _ _ _ (rdAtms_good.more HR.out fun b hb => hb.2)).mono ?_
  rintro e w2 ⟨rfl, hb⟩
  have HB2 := Lib.hid (HB.out.trans (hb.mono HB.out.size))
  have HR2 := Lib.hid (show rdAtms w2 (fun b => w.heap.size ≤ b ∧ b < w2.heap.size) al [.slice A al.length c] from rdAtms_good.both HR.out (fun b hb' => hb.block b hb'.2) fun b hb' => ⟨hb'.1, Nat.lt_of_lt_of_le hb'.2 hb.size⟩)
  clear hb
  cases g
  · have X3 := Lib.hid (show pe = 5 from X2.out)
    have Y1 := Lib.hid (show pl = [] from Y.out.trans (if_neg (by rw [X3.out]; decide)))
    go_wp2
    go_ret2
    exact ⟨⟨none, 0, 0, by rw [X3.out]; try rfl, by rw [Y1.out]; exact rdRow_nil _ _⟩, HB2.out⟩
  · have X3 := Lib.hid (show pe = 0 from X2.out)
    have Y1 := Lib.hid (show pl = al from Y.out.trans (if_pos X3.out))
    go_wp2
    go_ret2
    exact ⟨⟨A, al.length, c, by rw [X3.out]; try rfl, by rw [Y1.out]; exact HR2.out⟩, HB2.out⟩
theorem set_ne {w : World} {a b : Addr} {v u : Value} (h : w.cell? a = some v) (hne : b ≠ a) : (w.setCell b u).cell? a = some v := (World.cell?_setCell_other _ _ _ _ hne).trans h
theorem blk_ne {b b' o o' : Nat} (h : b ≠ b') : (⟨b, o, none⟩ : Addr) ≠ ⟨b', o', none⟩ := fun e => h (congrArg Addr.block e)
set_option maxHeartbeats 2000000 in
theorem intoS_any (f : Nat) (eb off : Nat) (w : World) : Calls Tryz.prog 48 #[.pointer (some ⟨eb, off, none⟩), .func (.func f) #[] #[]] w fun e w' => e = .returned (.func (.func 83) #[] #[.pointer (some ⟨w.heap.size + 1, 0, none⟩), .pointer (some ⟨w.heap.size, 0, none⟩)]) ∧ w' = (w.alloc (.cells #[.pointer (some ⟨eb, off, none⟩)] 72)).alloc (.cells #[.func (.func f) #[] #[]] 73) := by
  have hmf : ∀ (fn : Fn) (first cap : Array Value) (w : World), (Instr.makeFunc fn first cap).run Tryz.prog w = .ok (.func fn first cap) w := fun _ _ _ _ => rfl
  go_enter Tryz.func48, Tryz.ntmps48
  go_wp2
  go_ret
  exact ⟨rfl, rfl⟩
set_option maxHeartbeats 4000000 in
theorem into1S_any (f : Nat) (hcf : ∀ (args : Array Value) (w : World), (callFunc f args).run Tryz.prog w = .ok (.enter f args) w) (s t : ByteArray) (er : Int) (pb tb eb off : Nat) (old : Value) (w : World)
    (hp : w.cell? ⟨pb, 0, none⟩ = some (.func (.func f) #[] #[])) (ht : w.cell? ⟨tb, 0, none⟩ = some (.pointer (some ⟨eb, off, none⟩))) (hfz : w.frozen? ⟨eb, off, none⟩ = false) (ho : w.cell? ⟨eb, off, none⟩ = some old) (n1 : eb ≠ pb) (n2 : eb ≠ tb)
    (hKF : ∀ W : World, Below w.heap.size w W → Calls Tryz.prog f #[.string s] W fun e W' => e = .returned (.tuple #[.string t, .int .i64 er]) ∧ Below W.heap.size W W') :
    Calls Tryz.prog 83 #[.string s, .pointer (some ⟨pb, 0, none⟩), .pointer (some ⟨tb, 0, none⟩)] w fun e w' => e = .returned (.int .i64 er) ∧ ∃ w1, Below w.heap.size w w1 ∧ w' = w1.setCell ⟨eb, off, none⟩ (.string t) := by
  have HLT := Lib.hid (World.block_lt_of_cell? _ _ ho)
  have HF := Lib.hid hfz
  have HO := Lib.hid ho
  have N1 := Lib.hid n1
  have N2 := Lib.hid n2
  have KF := Lib.hid hKF
  obtain ⟨V3, hV3⟩ : ∃ V3, V3 = w.drew := ⟨_, rfl⟩
  have BV := Lib.hid (show Below w.heap.size w V3 by rw [hV3]; exact belD (Below.refl _ _) 1)
  have KS := Lib.hid (fun (W : World) (hb : Below V3.heap.size V3 W) => (show W.cell? ⟨pb, 0, none⟩ = some (.func (.func f) #[] #[]) ∧ W.cell? ⟨tb, 0, none⟩ = some (.pointer (some ⟨eb, off, none⟩)) from ⟨keep6 hb (keep6 BV.out hp), keep6 hb (keep6 BV.out ht)⟩))
  clear hKF hp ht hfz ho n1 n2
  go_enter Tryz.func83, Tryz.ntmps83
  go_wp2_with fail
  refine wp_region_noPanic ?_
  refine wp_region_L (fun W => W.cell? ⟨pb, 0, none⟩ = some (.func (.func f) #[] #[]) ∧ W.cell? ⟨tb, 0, none⟩ = some (.pointer (some ⟨eb, off, none⟩))) 9 (by kernel_rfl) (by rw [← hV3]; exact KS.out V3 (Below.refl _ _)) (fun hHeld => ?_)
  rw [← hV3] at hHeld ⊢
  clear hV3
  refine wpAnyL_take (i := 0) (v := ?_) [8, 7] rfl (by kernel_rfl) (by kernel_rfl) (by kernel_rfl) (fun _ _ _ h => h) (by kernel_rfl) (by kernel_rfl) (by kernel_rfl) (Or.inl ⟨by rfl, ?_⟩) (by assumption) ?_
  rotate_left
  · intro w hSw
    try dsimp only at hSw
    go_simp
    first | done | with_reducible rfl
  try simp only [Act.put, List.setIfInBounds_toArray, List.set_cons_zero, List.set_cons_succ]
  refine wpAnyL_take (i := 1) (v := ?_) [8, 5, 4, 3] rfl (by kernel_rfl) (by kernel_rfl) (by kernel_rfl) (fun _ _ _ h => h) (by kernel_rfl) (by kernel_rfl) (by kernel_rfl) (Or.inl ⟨by rfl, ?_⟩) (by assumption) ?_
  rotate_left
  · intro w hSw
    try dsimp only at hSw
    go_simp
    first | done | with_reducible rfl
  try simp only [Act.put, List.setIfInBounds_toArray, List.set_cons_zero, List.set_cons_succ]
  refine wpAnyL_take (i := 2) (v := ?_) [8, 5, 4, 3] rfl (by kernel_rfl) (by kernel_rfl) (by kernel_rfl) (fun _ _ _ h => h) (by kernel_rfl) (by kernel_rfl) (by kernel_rfl) (Or.inl ⟨by rfl, ?_⟩) (by assumption) ?_
  rotate_left
  · intro w hSw
    try dsimp only at hSw
    go_simp
    first | done | with_reducible rfl
  try simp only [Act.put, List.setIfInBounds_toArray, List.set_cons_zero, List.set_cons_succ]
  refine wpAnyL_one (i := 3) (by kernel_rfl) rfl (fun K hK => ?_)
  go_simp
  refine (KF.out _ BV.out).mono ?_
  rintro e w4 ⟨rfl, hb4⟩
  have HB4 := Lib.hid hb4
  clear hb4
  go_wp2_with fail
  refine hK.out _ _ (KS.out _ HB4.out) (fun hHeld => ?_)
  clear hK K
  try simp only [Act.put, List.setIfInBounds_toArray, List.set_cons_zero, List.set_cons_succ]
  refine wpAnyL_one (i := 4) (by kernel_rfl) rfl (fun K hK => ?_)
  go_simp
  refine hK.out _ _ (KS.out _ HB4.out) (fun hHeld => ?_)
  clear hK K
  try simp only [Act.put, List.setIfInBounds_toArray, List.set_cons_zero, List.set_cons_succ]
  refine wpAnyL_take (i := 5) (v := ?_) [8] rfl (by kernel_rfl) (by kernel_rfl) (by kernel_rfl) (fun _ _ _ h => h) (by kernel_rfl) (by kernel_rfl) (by kernel_rfl) (Or.inl ⟨by rfl, ?_⟩) (by assumption) ?_
  rotate_left
  · intro w hSw
    try dsimp only at hSw
    go_simp
    first | done | with_reducible rfl
  try simp only [Act.put, List.setIfInBounds_toArray, List.set_cons_zero, List.set_cons_succ]
  refine wpAnyL_take (i := 6) (v := ?_) [] rfl (by kernel_rfl) (by kernel_rfl) (by kernel_rfl) (fun _ _ _ h => h) (by kernel_rfl) (by kernel_rfl) (by kernel_rfl) (Or.inl ⟨by rfl, ?_⟩) (by assumption) ?_
  rotate_left
  · intro w hSw
    try dsimp only at hSw
    go_simp
    first | done | with_reducible rfl
  try simp only [Act.put, List.setIfInBounds_toArray, List.set_cons_zero, List.set_cons_succ]
  refine wpAnyL_one (i := 7) (by kernel_rfl) rfl (fun K hK => ?_)
  go_simp
  refine hK.out _ _ (KS.out _ HB4.out) (fun hHeld => ?_)
  clear hK K
  try simp only [Act.put, List.setIfInBounds_toArray, List.set_cons_zero, List.set_cons_succ]
  have f4 := (HB4.out.frozen (p := ⟨eb, off, none⟩) (Nat.lt_of_lt_of_le HLT.out BV.out.size)).trans ((BV.out.frozen (p := ⟨eb, off, none⟩) HLT.out).trans HF.out)
  have o4 := keep6 HB4.out (keep6 BV.out HO.out)
  refine wpAnyL_one (i := 8) (by kernel_rfl) rfl (fun K hK => ?_)
  go_simp
  refine hK.out _ _ ⟨set_ne (KS.out _ HB4.out).1 (blk_ne N1.out), set_ne (KS.out _ HB4.out).2 (blk_ne N2.out)⟩ (fun hHeld => ?_)
  clear hK K
  try simp only [Act.put, List.setIfInBounds_toArray, List.set_cons_zero, List.set_cons_succ]
  refine wpAnyL_last (by kernel_rfl) rfl (by kernel_rfl) (fun K hK => ?_)
  go_simp
  refine hK.out _ _ ?_
  clear hK K
  refine NoPanic.normal ?_
  clear f4 o4
  go_wp2
  go_ret
  exact ⟨rfl, w4, BV.out.trans (HB4.out.mono BV.out.size), rfl⟩
set_option maxHeartbeats 2000000 in
theorem intoG_any (f : Nat) (eb off : Nat) (w : World) : Calls Tryz.prog 51 #[.pointer (some ⟨eb, off, none⟩), .func (.func f) #[] #[]] w fun e w' => e = .returned (.func (.func 84) #[] #[.pointer (some ⟨w.heap.size + 1, 0, none⟩), .pointer (some ⟨w.heap.size, 0, none⟩)]) ∧ w' = (w.alloc (.cells #[.pointer (some ⟨eb, off, none⟩)] 75)).alloc (.cells #[.func (.func f) #[] #[]] 76) := by
  have hmf : ∀ (fn : Fn) (first cap : Array Value) (w : World), (Instr.makeFunc fn first cap).run Tryz.prog w = .ok (.func fn first cap) w := fun _ _ _ _ => rfl
  go_enter Tryz.func51, Tryz.ntmps51
  go_wp2
  go_ret
  exact ⟨rfl, rfl⟩
set_option maxHeartbeats 4000000 in
theorem into1G_any (f : Nat) (hcf : ∀ (args : Array Value) (w : World), (callFunc f args).run Tryz.prog w = .ok (.enter f args) w) (s : ByteArray) (er : Int) (P : Value → World → Prop) (pb tb eb off : Nat) (old : Value) (w : World)
    (hp : w.cell? ⟨pb, 0, none⟩ = some (.func (.func f) #[] #[])) (ht : w.cell? ⟨tb, 0, none⟩ = some (.pointer (some ⟨eb, off, none⟩))) (hfz : w.frozen? ⟨eb, off, none⟩ = false) (ho : w.cell? ⟨eb, off, none⟩ = some old) (n1 : eb ≠ pb) (n2 : eb ≠ tb)
    (hKF : ∀ W : World, Below w.heap.size w W → Calls Tryz.prog f #[.string s] W fun e W' => (∃ A n c, e = .returned (.tuple #[.slice A n c, .int .i64 er]) ∧ P (.slice A n c) W') ∧ Below W.heap.size W W') :
    Calls Tryz.prog 84 #[.string s, .pointer (some ⟨pb, 0, none⟩), .pointer (some ⟨tb, 0, none⟩)] w fun e w' => e = .returned (.int .i64 er) ∧ ∃ A n c w1, Below w.heap.size w w1 ∧ P (.slice A n c) w1 ∧ w' = w1.setCell ⟨eb, off, none⟩ (.slice A n c) := by
  have HLT := Lib.hid (World.block_lt_of_cell? _ _ ho)
  have HF := Lib.hid hfz
  have HO := Lib.hid ho
  have N1 := Lib.hid n1
  have N2 := Lib.hid n2
  have KF := Lib.hid hKF
  obtain ⟨V3, hV3⟩ : ∃ V3, V3 = w.drew := ⟨_, rfl⟩
  have BV := Lib.hid (show Below w.heap.size w V3 by rw [hV3]; exact belD (Below.refl _ _) 1)
  have KS := Lib.hid (fun (W : World) (hb : Below V3.heap.size V3 W) => (show W.cell? ⟨pb, 0, none⟩ = some (.func (.func f) #[] #[]) ∧ W.cell? ⟨tb, 0, none⟩ = some (.pointer (some ⟨eb, off, none⟩)) from ⟨keep6 hb (keep6 BV.out hp), keep6 hb (keep6 BV.out ht)⟩))
  clear hKF hp ht hfz ho n1 n2
  go_enter Tryz.func84, Tryz.ntmps84
  go_wp2_with fail
  refine wp_region_noPanic ?_
  refine wp_region_L (fun W => W.cell? ⟨pb, 0, none⟩ = some (.func (.func f) #[] #[]) ∧ W.cell? ⟨tb, 0, none⟩ = some (.pointer (some ⟨eb, off, none⟩))) 9 (by kernel_rfl) (by rw [← hV3]; exact KS.out V3 (Below.refl _ _)) (fun hHeld => ?_)
  rw [← hV3] at hHeld ⊢
  clear hV3
  refine wpAnyL_take (i := 0) (v := ?_) [8, 7] rfl (by kernel_rfl) (by kernel_rfl) (by kernel_rfl) (fun _ _ _ h => h) (by kernel_rfl) (by kernel_rfl) (by kernel_rfl) (Or.inl ⟨by rfl, ?_⟩) (by assumption) ?_
  rotate_left
  · intro w hSw
    try dsimp only at hSw
    go_simp
    first | done | with_reducible rfl
  try simp only [Act.put, List.setIfInBounds_toArray, List.set_cons_zero, List.set_cons_succ]
  refine wpAnyL_take (i := 1) (v := ?_) [8, 5, 4, 3] rfl (by kernel_rfl) (by kernel_rfl) (by kernel_rfl) (fun _ _ _ h => h) (by kernel_rfl) (by kernel_rfl) (by kernel_rfl) (Or.inl ⟨by rfl, ?_⟩) (by assumption) ?_
  rotate_left
  · intro w hSw
    try dsimp only at hSw
    go_simp
    first | done | with_reducible rfl
  try simp only [Act.put, List.setIfInBounds_toArray, List.set_cons_zero, List.set_cons_succ]
  refine wpAnyL_take (i := 2) (v := ?_) [8, 5, 4, 3] rfl (by kernel_rfl) (by kernel_rfl) (by kernel_rfl) (fun _ _ _ h => h) (by kernel_rfl) (by kernel_rfl) (by kernel_rfl) (Or.inl ⟨by rfl, ?_⟩) (by assumption) ?_
  rotate_left
  · intro w hSw
    try dsimp only at hSw
    go_simp
    first | done | with_reducible rfl
  try simp only [Act.put, List.setIfInBounds_toArray, List.set_cons_zero, List.set_cons_succ]
  refine wpAnyL_one (i := 3) (by kernel_rfl) rfl (fun K hK => ?_)
  go_simp
  refine (KF.out _ BV.out).mono ?_
  rintro e w4 ⟨⟨A, n, c, rfl, hP⟩, hb4⟩
  have HB4 := Lib.hid hb4
  have HP := Lib.hid hP
  clear hb4 hP
  go_wp2_with fail
  refine hK.out _ _ (KS.out _ HB4.out) (fun hHeld => ?_)
  clear hK K
  try simp only [Act.put, List.setIfInBounds_toArray, List.set_cons_zero, List.set_cons_succ]
  refine wpAnyL_one (i := 4) (by kernel_rfl) rfl (fun K hK => ?_)
  go_simp
  refine hK.out _ _ (KS.out _ HB4.out) (fun hHeld => ?_)
  clear hK K
  try simp only [Act.put, List.setIfInBounds_toArray, List.set_cons_zero, List.set_cons_succ]
  refine wpAnyL_take (i := 5) (v := ?_) [8] rfl (by kernel_rfl) (by kernel_rfl) (by kernel_rfl) (fun _ _ _ h => h) (by kernel_rfl) (by kernel_rfl) (by kernel_rfl) (Or.inl ⟨by rfl, ?_⟩) (by assumption) ?_
  rotate_left
  · intro w hSw
    try dsimp only at hSw
    go_simp
    first | done | with_reducible rfl
  try simp only [Act.put, List.setIfInBounds_toArray, List.set_cons_zero, List.set_cons_succ]
  refine wpAnyL_take (i := 6) (v := ?_) [] rfl (by kernel_rfl) (by kernel_rfl) (by kernel_rfl) (fun _ _ _ h => h) (by kernel_rfl) (by kernel_rfl) (by kernel_rfl) (Or.inl ⟨by rfl, ?_⟩) (by assumption) ?_
  rotate_left
  · intro w hSw
    try dsimp only at hSw
    go_simp
    first | done | with_reducible rfl
  try simp only [Act.put, List.setIfInBounds_toArray, List.set_cons_zero, List.set_cons_succ]
  refine wpAnyL_one (i := 7) (by kernel_rfl) rfl (fun K hK => ?_)
  go_simp
  refine hK.out _ _ (KS.out _ HB4.out) (fun hHeld => ?_)
  clear hK K
  try simp only [Act.put, List.setIfInBounds_toArray, List.set_cons_zero, List.set_cons_succ]
  have f4 := (HB4.out.frozen (p := ⟨eb, off, none⟩) (Nat.lt_of_lt_of_le HLT.out BV.out.size)).trans ((BV.out.frozen (p := ⟨eb, off, none⟩) HLT.out).trans HF.out)
  have o4 := keep6 HB4.out (keep6 BV.out HO.out)
  refine wpAnyL_one (i := 8) (by kernel_rfl) rfl (fun K hK => ?_)
  go_simp
  refine hK.out _ _ ⟨set_ne (KS.out _ HB4.out).1 (blk_ne N1.out), set_ne (KS.out _ HB4.out).2 (blk_ne N2.out)⟩ (fun hHeld => ?_)
  clear hK K
  try simp only [Act.put, List.setIfInBounds_toArray, List.set_cons_zero, List.set_cons_succ]
  refine wpAnyL_last (by kernel_rfl) rfl (by kernel_rfl) (fun K hK => ?_)
  go_simp
  refine hK.out _ _ ?_
  clear hK K
  refine NoPanic.normal ?_
  clear f4 o4
  go_wp2
  go_ret
  exact ⟨rfl, A, n, c, w4, BV.out.trans (HB4.out.mono BV.out.size), HP.out, rfl⟩
set_option maxHeartbeats 2000000 in
theorem intoA_any (f : Nat) (eb off : Nat) (w : World) : Calls Tryz.prog 53 #[.pointer (some ⟨eb, off, none⟩), .func (.func f) #[] #[]] w fun e w' => e = .returned (.func (.func 88) #[] #[.pointer (some ⟨w.heap.size + 1, 0, none⟩), .pointer (some ⟨w.heap.size, 0, none⟩)]) ∧ w' = (w.alloc (.cells #[.pointer (some ⟨eb, off, none⟩)] 78)).alloc (.cells #[.func (.func f) #[] #[]] 79) := by
  have hmf : ∀ (fn : Fn) (first cap : Array Value) (w : World), (Instr.makeFunc fn first cap).run Tryz.prog w = .ok (.func fn first cap) w := fun _ _ _ _ => rfl
  go_enter Tryz.func53, Tryz.ntmps53
  go_wp2
  go_ret
  exact ⟨rfl, rfl⟩
set_option maxHeartbeats 4000000 in
theorem into1A_any (f : Nat) (hcf : ∀ (args : Array Value) (w : World), (callFunc f args).run Tryz.prog w = .ok (.enter f args) w) (s : ByteArray) (er : Int) (P : Value → World → Prop) (pb tb eb off : Nat) (old : Value) (w : World)
    (hp : w.cell? ⟨pb, 0, none⟩ = some (.func (.func f) #[] #[])) (ht : w.cell? ⟨tb, 0, none⟩ = some (.pointer (some ⟨eb, off, none⟩))) (hfz : w.frozen? ⟨eb, off, none⟩ = false) (ho : w.cell? ⟨eb, off, none⟩ = some old) (n1 : eb ≠ pb) (n2 : eb ≠ tb)
    (hKF : ∀ W : World, Below w.heap.size w W → Calls Tryz.prog f #[.string s] W fun e W' => (∃ A n c, e = .returned (.tuple #[.slice A n c, .int .i64 er]) ∧ P (.slice A n c) W') ∧ Below W.heap.size W W') :
    Calls Tryz.prog 88 #[.string s, .pointer (some ⟨pb, 0, none⟩), .pointer (some ⟨tb, 0, none⟩)] w fun e w' => e = .returned (.int .i64 er) ∧ ∃ A n c w1, Below w.heap.size w w1 ∧ P (.slice A n c) w1 ∧ w' = w1.setCell ⟨eb, off, none⟩ (.slice A n c) := by
  have HLT := Lib.hid (World.block_lt_of_cell? _ _ ho)
  have HF := Lib.hid hfz
  have HO := Lib.hid ho
  have N1 := Lib.hid n1
  have N2 := Lib.hid n2
  have KF := Lib.hid hKF
  obtain ⟨V3, hV3⟩ : ∃ V3, V3 = w.drew := ⟨_, rfl⟩
  have BV := Lib.hid (show Below w.heap.size w V3 by rw [hV3]; exact belD (Below.refl _ _) 1)
  have KS := Lib.hid (fun (W : World) (hb : Below V3.heap.size V3 W) => (show W.cell? ⟨pb, 0, none⟩ = some (.func (.func f) #[] #[]) ∧ W.cell? ⟨tb, 0, none⟩ = some (.pointer (some ⟨eb, off, none⟩)) from ⟨keep6 hb (keep6 BV.out hp), keep6 hb (keep6 BV.out ht)⟩))
  clear hKF hp ht hfz ho n1 n2
  go_enter Tryz.func88, Tryz.ntmps88
  go_wp2_with fail
  refine wp_region_noPanic ?_
  refine wp_region_L (fun W => W.cell? ⟨pb, 0, none⟩ = some (.func (.func f) #[] #[]) ∧ W.cell? ⟨tb, 0, none⟩ = some (.pointer (some ⟨eb, off, none⟩))) 9 (by kernel_rfl) (by rw [← hV3]; exact KS.out V3 (Below.refl _ _)) (fun hHeld => ?_)
  rw [← hV3] at hHeld ⊢
  clear hV3
  refine wpAnyL_take (i := 0) (v := ?_) [8, 7] rfl (by kernel_rfl) (by kernel_rfl) (by kernel_rfl) (fun _ _ _ h => h) (by kernel_rfl) (by kernel_rfl) (by kernel_rfl) (Or.inl ⟨by rfl, ?_⟩) (by assumption) ?_
  rotate_left
  · intro w hSw
    try dsimp only at hSw
    go_simp
    first | done | with_reducible rfl
  try simp only [Act.put, List.setIfInBounds_toArray, List.set_cons_zero, List.set_cons_succ]
  refine wpAnyL_take (i := 1) (v := ?_) [8, 5, 4, 3] rfl (by kernel_rfl) (by kernel_rfl) (by kernel_rfl) (fun _ _ _ h => h) (by kernel_rfl) (by kernel_rfl) (by kernel_rfl) (Or.inl ⟨by rfl, ?_⟩) (by assumption) ?_
  rotate_left
  · intro w hSw
    try dsimp only at hSw
    go_simp
    first | done | with_reducible rfl
  try simp only [Act.put, List.setIfInBounds_toArray, List.set_cons_zero, List.set_cons_succ]
  refine wpAnyL_take (i := 2) (v := ?_) [8, 5, 4, 3] rfl (by kernel_rfl) (by kernel_rfl) (by kernel_rfl) (fun _ _ _ h => h) (by kernel_rfl) (by kernel_rfl) (by kernel_rfl) (Or.inl ⟨by rfl, ?_⟩) (by assumption) ?_
  rotate_left
  · intro w hSw
    try dsimp only at hSw
    go_simp
    first | done | with_reducible rfl
  try simp only [Act.put, List.setIfInBounds_toArray, List.set_cons_zero, List.set_cons_succ]
  refine wpAnyL_one (i := 3) (by kernel_rfl) rfl (fun K hK => ?_)
  go_simp
  refine (KF.out _ BV.out).mono ?_
  rintro e w4 ⟨⟨A, n, c, rfl, hP⟩, hb4⟩
  have HB4 := Lib.hid hb4
  have HP := Lib.hid hP
  clear hb4 hP
  go_wp2_with fail
  refine hK.out _ _ (KS.out _ HB4.out) (fun hHeld => ?_)
  clear hK K
  try simp only [Act.put, List.setIfInBounds_toArray, List.set_cons_zero, List.set_cons_succ]
  refine wpAnyL_one (i := 4) (by kernel_rfl) rfl (fun K hK => ?_)
  go_simp
  refine hK.out _ _ (KS.out _ HB4.out) (fun hHeld => ?_)
  clear hK K
  try simp only [Act.put, List.setIfInBounds_toArray, List.set_cons_zero, List.set_cons_succ]
  refine wpAnyL_take (i := 5) (v := ?_) [8] rfl (by kernel_rfl) (by kernel_rfl) (by kernel_rfl) (fun _ _ _ h => h) (by kernel_rfl) (by kernel_rfl) (by kernel_rfl) (Or.inl ⟨by rfl, ?_⟩) (by assumption) ?_
  rotate_left
  · intro w hSw
    try dsimp only at hSw
    go_simp
    first | done | with_reducible rfl
  try simp only [Act.put, List.setIfInBounds_toArray, List.set_cons_zero, List.set_cons_succ]
  refine wpAnyL_take (i := 6) (v := ?_) [] rfl (by kernel_rfl) (by kernel_rfl) (by kernel_rfl) (fun _ _ _ h => h) (by kernel_rfl) (by kernel_rfl) (by kernel_rfl) (Or.inl ⟨by rfl, ?_⟩) (by assumption) ?_
  rotate_left
  · intro w hSw
    try dsimp only at hSw
    go_simp
    first | done | with_reducible rfl
  try simp only [Act.put, List.setIfInBounds_toArray, List.set_cons_zero, List.set_cons_succ]
  refine wpAnyL_one (i := 7) (by kernel_rfl) rfl (fun K hK => ?_)
  go_simp
  refine hK.out _ _ (KS.out _ HB4.out) (fun hHeld => ?_)
  clear hK K
  try simp only [Act.put, List.setIfInBounds_toArray, List.set_cons_zero, List.set_cons_succ]
  have f4 := (HB4.out.frozen (p := ⟨eb, off, none⟩) (Nat.lt_of_lt_of_le HLT.out BV.out.size)).trans ((BV.out.frozen (p := ⟨eb, off, none⟩) HLT.out).trans HF.out)
  have o4 := keep6 HB4.out (keep6 BV.out HO.out)
  refine wpAnyL_one (i := 8) (by kernel_rfl) rfl (fun K hK => ?_)
  go_simp
  refine hK.out _ _ ⟨set_ne (KS.out _ HB4.out).1 (blk_ne N1.out), set_ne (KS.out _ HB4.out).2 (blk_ne N2.out)⟩ (fun hHeld => ?_)
  clear hK K
  try simp only [Act.put, List.setIfInBounds_toArray, List.set_cons_zero, List.set_cons_succ]
  refine wpAnyL_last (by kernel_rfl) rfl (by kernel_rfl) (fun K hK => ?_)
  go_simp
  refine hK.out _ _ ?_
  clear hK K
  refine NoPanic.normal ?_
  clear f4 o4
  go_wp2
  go_ret
  exact ⟨rfl, A, n, c, w4, BV.out.trans (HB4.out.mono BV.out.size), HP.out, rfl⟩
end Go.Proofs.YtmlakjemgmeffaaGreatDoor
end

section
set_option maxRecDepth 100000
set_option linter.unusedVariables false
set_option linter.unusedSimpArgs false
namespace Go.Proofs.YtmlakjemgmeffaaGreatDoor
open Go.RowKit
def EntC (W : World) (S : Nat → Prop) (x : Ent) (cv : Nat → Value) : Prop := cv 0 = .string x.n ∧ cv 1 = .string x.v ∧ rdGrps W S x.d [cv 2] ∧ rdGrps W S x.r [cv 3] ∧ rdAtms W S x.c [cv 4] ∧ rdAtms W S x.p [cv 5]
theorem EntC.both {W W' : World} {S S' : Nat → Prop} {x : Ent} {cv : Nat → Value} (h : EntC W S x cv) (hk : ∀ b, S b → W'.heap[b]? = W.heap[b]?) (hm : ∀ b, S b → S' b) : EntC W' S' x cv :=
  ⟨h.1, h.2.1, rdGrps_good.both h.2.2.1 hk hm, rdGrps_good.both h.2.2.2.1 hk hm, rdAtms_good.both h.2.2.2.2.1 hk hm, rdAtms_good.both h.2.2.2.2.2 hk hm⟩
def upd (cv : Nat → Value) (k : Nat) (v : Value) : Nat → Value := fun o => if o = k then v else cv o
def zv : Nat → Value
  | 0 => .string { data := #[] }
  | 1 => .string { data := #[] }
  | _ => .slice none 0 0
def inS (N eb fb rb : Nat) (W : World) : Nat → Prop := fun b => N ≤ b ∧ b < W.heap.size ∧ b ≠ eb ∧ b ≠ fb ∧ b ≠ rb
structure RdS (w0 : World) (sb rb eb fb : Nat) (sv : Value) (W : World) (s : Int × Ent) (cv : Nat → Value) : Prop where
  ord : w0.heap.size ≤ sb ∧ sb < rb ∧ rb < eb ∧ eb < fb ∧ fb < W.heap.size
  bel : Below w0.heap.size w0 W
  cs : W.cell? ⟨sb, 0, none⟩ = some sv
  cf : W.cell? ⟨fb, 0, none⟩ = some (.int .i64 s.1)
  ff : W.frozen? ⟨fb, 0, none⟩ = false
  ce : ∀ o, o < 6 → W.cell? ⟨eb, o, none⟩ = some (cv o)
  fe : ∀ o, o < 6 → W.frozen? ⟨eb, o, none⟩ = false
  cr : ∀ o, o < 6 → W.cell? ⟨rb, o, none⟩ = some (zv o)
  fr : ∀ o, o < 6 → W.frozen? ⟨rb, o, none⟩ = false
  rd : EntC W (inS w0.heap.size eb fb rb W) s.2 cv
section
variable {w0 W : World} {sb rb eb fb : Nat} {sv : Value} {s : Int × Ent} {cv : Nat → Value}
theorem RdS.on (R : RdS w0 sb rb eb fb sv W s cv) {W' : World} (hb : Below W.heap.size W W') : RdS w0 sb rb eb fb sv W' s cv := by
  obtain ⟨⟨o1, o2, o3, o4, o5⟩, bel, cs, cf, ff, ce, fe, cr, fr, rd⟩ := R
  exact ⟨⟨o1, o2, o3, o4, Nat.lt_of_lt_of_le o5 hb.size⟩, bel.trans (hb.mono bel.size), keep6 hb cs, keep6 hb cf, (hb.frozen (p := ⟨fb, 0, none⟩) (show fb < W.heap.size from o5)).trans ff, fun o ho => keep6 hb (ce o ho),
    fun o ho => (hb.frozen (p := ⟨eb, o, none⟩) (show eb < W.heap.size by omega)).trans (fe o ho), fun o ho => keep6 hb (cr o ho), fun o ho => (hb.frozen (p := ⟨rb, o, none⟩) (show rb < W.heap.size by omega)).trans (fr o ho),
    rd.both (fun b h => hb.block b h.2.1) fun b h => ⟨h.1, Nat.lt_of_lt_of_le h.2.1 hb.size, h.2.2⟩⟩
theorem RdS.setF (R : RdS w0 sb rb eb fb sv W s cv) (er : Int) : RdS w0 sb rb eb fb sv (W.setCell ⟨fb, 0, none⟩ (.int .i64 er)) (er, s.2) cv := by
  obtain ⟨⟨o1, o2, o3, o4, o5⟩, bel, cs, cf, ff, ce, fe, cr, fr, rd⟩ := R
  refine ⟨⟨o1, o2, o3, o4, by rw [World.size_setCell]; exact o5⟩, bel.setCell (by show w0.heap.size ≤ fb; omega) _, set_ne cs (blk_ne (by omega)), World.cell?_setCell_same _ _ _ cf, by rw [World.frozen?_setCell]; exact ff,
    fun o ho => set_ne (ce o ho) (blk_ne (by omega)), fun o ho => by rw [World.frozen?_setCell]; exact fe o ho, fun o ho => set_ne (cr o ho) (blk_ne (by omega)), fun o ho => by rw [World.frozen?_setCell]; exact fr o ho,
    rd.both (fun b h => heap_setCell_other _ _ _ _ h.2.2.2.1) fun b h => ⟨h.1, by rw [World.size_setCell]; exact h.2.1, h.2.2⟩⟩
theorem RdS.setE (R : RdS w0 sb rb eb fb sv W s cv) {k : Nat} (hk : k < 6) (v : Value) (x : Ent) (hx : EntC W (inS w0.heap.size eb fb rb W) x (upd cv k v)) : RdS w0 sb rb eb fb sv (W.setCell ⟨eb, k, none⟩ v) (s.1, x) (upd cv k v) := by
  obtain ⟨⟨o1, o2, o3, o4, o5⟩, bel, cs, cf, ff, ce, fe, cr, fr, rd⟩ := R
  refine ⟨⟨o1, o2, o3, o4, by rw [World.size_setCell]; exact o5⟩, bel.setCell (by show w0.heap.size ≤ eb; omega) _, set_ne cs (blk_ne (by omega)), set_ne cf (blk_ne (by omega)), by rw [World.frozen?_setCell]; exact ff,
    fun o ho => ?_, fun o ho => by rw [World.frozen?_setCell]; exact fe o ho, fun o ho => set_ne (cr o ho) (blk_ne (by omega)), fun o ho => by rw [World.frozen?_setCell]; exact fr o ho,
    hx.both (fun b h => heap_setCell_other _ _ _ _ h.2.2.1) fun b h => ⟨h.1, by rw [World.size_setCell]; exact h.2.1, h.2.2⟩⟩
  unfold upd
  by_cases h : o = k
  · subst h; rw [if_pos rfl]; exact World.cell?_setCell_same _ _ _ (ce o ho)
  · rw [if_neg h]; exact set_ne (ce o ho) (fun e => h (congrArg Addr.off e).symm)
end
set_option maxHeartbeats 2000000 in
theorem read1_skip (nm : ByteArray) (take sp : Value) (fb : Nat) (er : Int) (h : er ≠ 0) (w : World) (hc : w.cell? ⟨fb, 0, none⟩ = some (.int .i64 er)) :
    Calls Tryz.prog 47 #[.string nm, take, .pointer (some ⟨fb, 0, none⟩), sp] w fun e w' => e = .returned (.tuple #[]) ∧ w = w' := by
  have t0 : (er == 0) = false := by rw [beq_eq_false_iff_ne]; exact h
  clear h
  go_enter Tryz.func47, Tryz.ntmps47
  go_wp2
  go_end0
  exact ⟨rfl, rfl⟩
set_option maxHeartbeats 4000000 in
theorem read1_go (nm : ByteArray) (g : Nat) (hcf : ∀ (args : Array Value) (w : World), (callFunc g args).run Tryz.prog w = .ok (.enter g args) w) (pb tb fb sb : Nat) (A : Option Addr) (n c : Nat) (st : List Fd) (er : Int) (R : World → Prop) (w : World)
    (hc : w.cell? ⟨fb, 0, none⟩ = some (.int .i64 0)) (hs : w.cell? ⟨sb, 0, none⟩ = some (.slice A n c)) (hr : rdFds w (lt_ w.heap.size) st [.slice A n c])
    (hKT : ∀ W : World, Below w.heap.size w W → Calls Tryz.prog g #[.string (fstV st nm), .pointer (some ⟨pb, 0, none⟩), .pointer (some ⟨tb, 0, none⟩)] W fun e W' => e = .returned (.int .i64 er) ∧ R W')
    (hR : ∀ W' : World, R W' → W'.cell? ⟨fb, 0, none⟩ = some (.int .i64 0) ∧ W'.frozen? ⟨fb, 0, none⟩ = false) :
    Calls Tryz.prog 47 #[.string nm, .func (.func g) #[] #[.pointer (some ⟨pb, 0, none⟩), .pointer (some ⟨tb, 0, none⟩)], .pointer (some ⟨fb, 0, none⟩), .pointer (some ⟨sb, 0, none⟩)] w fun e w' => e = .returned (.tuple #[]) ∧ ∃ w1, R w1 ∧ w' = w1.setCell ⟨fb, 0, none⟩ (.int .i64 er) := by
  have KG := Lib.hid (get5_any A n c st nm w hr)
  have KT := Lib.hid hKT
  have HR := Lib.hid hR
  generalize fstV st nm = val at *
  clear hr hKT hR
  go_enter Tryz.func47, Tryz.ntmps47
  go_wp2_with fail
  refine KG.out.mono ?_
  rintro e w1 ⟨rfl, hb⟩
  have HB := Lib.hid hb
  clear hb
  go_wp2_with fail
  refine (KT.out _ HB.out).mono ?_
  rintro e w2 ⟨rfl, hr⟩
  obtain ⟨f0, f1⟩ := HR.out _ hr
  have HRR := Lib.hid hr
  clear hr hc hs
  go_wp2
  go_end0
  exact ⟨rfl, w2, HRR.out, rfl⟩
def stp (s : Int × Ent) (e : Int) (x : Ent) : Int × Ent := if s.1 = 0 then (e, x) else s
theorem step6 {w0 W : World} {sb rb eb fb : Nat} {s : Int × Ent} {cv : Nat → Value} {A : Option Addr} {n c : Nat} {st : List Fd} (R : RdS w0 sb rb eb fb (.slice A n c) W s cv) (hst : rdFds w0 (lt_ w0.heap.size) st [.slice A n c]) {k : Nat} (hk : k < 6) (nm : ByteArray) (g : Nat)
    (hcf : ∀ (args : Array Value) (w : World), (callFunc g args).run Tryz.prog w = .ok (.enter g args) w) (o1 o2 : Obj) (x : Ent) (er : Int)
    (hKT : ∀ V : World, Below ((W.alloc o1).alloc o2).heap.size ((W.alloc o1).alloc o2) V → Calls Tryz.prog g #[.string (fstV st nm), .pointer (some ⟨W.heap.size + 1, 0, none⟩), .pointer (some ⟨W.heap.size, 0, none⟩)] V fun e W' => e = .returned (.int .i64 er) ∧ ∃ v w1, Below V.heap.size V w1 ∧ EntC w1 (inS w0.heap.size eb fb rb w1) x (upd cv k v) ∧ W' = w1.setCell ⟨eb, k, none⟩ v) :
    Calls Tryz.prog 47 #[.string nm, .func (.func g) #[] #[.pointer (some ⟨W.heap.size + 1, 0, none⟩), .pointer (some ⟨W.heap.size, 0, none⟩)], .pointer (some ⟨fb, 0, none⟩), .pointer (some ⟨sb, 0, none⟩)] ((W.alloc o1).alloc o2) fun e W' => e = .returned (.tuple #[]) ∧ ∃ cv', RdS w0 sb rb eb fb (.slice A n c) W' (stp s er x) cv' := by
  have hb2 : Below W.heap.size W ((W.alloc o1).alloc o2) := ((Below.refl _ W).alloc (Nat.le_refl _) _).alloc (by simp) _
  have R2 := R.on hb2
  by_cases h0 : s.1 = 0
  · refine (read1_go nm g hcf _ _ fb sb A n c st er (fun W' => ∃ cv', RdS w0 sb rb eb fb (.slice A n c) W' (s.1, x) cv') ((W.alloc o1).alloc o2) (by rw [← h0]; exact R2.cf) R2.cs (rdFds_good.up (rdFds_good.below hst R2.bel) R2.bel.size)
      (fun V hV => (hKT V hV).mono fun e W' ⟨h1, v, w1, hb, hx, e2⟩ => ⟨h1, ⟨upd cv k v, by rw [e2]; exact ((R2.on hV).on hb).setE hk v x hx⟩⟩)
      (fun W' h => ?_)).mono ?_
    · obtain ⟨cv', h⟩ := h
      exact ⟨by rw [← h0]; exact h.cf, h.ff⟩
    · rintro e W' ⟨h1, w1, h, h2⟩
      have hs : stp s er x = (er, x) := if_pos h0
      refine ⟨h1, ?_⟩
      rw [hs, h2]
      obtain ⟨cv', h⟩ := h
      exact ⟨_, h.setF er⟩
  · refine (read1_skip nm _ _ fb s.1 h0 _ R2.cf).mono ?_
    rintro e W' ⟨h1, rfl⟩
    have hs : stp s er x = s := if_neg h0
    exact ⟨h1, cv, by rw [hs]; exact R2⟩
end Go.Proofs.YtmlakjemgmeffaaGreatDoor
end

section
set_option maxRecDepth 100000
set_option linter.unusedVariables false
set_option linter.unusedSimpArgs false
namespace Go.Proofs.YtmlakjemgmeffaaGreatDoor
open Go.RowKit
def fN (st : List Fd) (s : Int × Ent) : Int × Ent := stp s (if nameB (B (fstV st nPk)) = true then 0 else 3) { s.2 with n := if nameB (B (fstV st nPk)) = true then fstV st nPk else { data := #[] } }
def fV (st : List Fd) (s : Int × Ent) : Int × Ent := stp s (if prB (B (fstV st nVe)) = true then 0 else 4) { s.2 with v := if prB (B (fstV st nVe)) = true then fstV st nVe else { data := #[] } }
def fD (st : List Fd) (s : Int × Ent) : Int × Ent := stp s (depE (B (fstV st nDe))) { s.2 with d := depL (B (fstV st nDe)) }
def fR (st : List Fd) (s : Int × Ent) : Int × Ent := stp s (depE (B (fstV st nRe))) { s.2 with r := depL (B (fstV st nRe)) }
def fC (st : List Fd) (s : Int × Ent) : Int × Ent := stp s (atE (B (fstV st nCo))) { s.2 with c := atL (B (fstV st nCo)) }
def fP (st : List Fd) (s : Int × Ent) : Int × Ent := stp s (pvE (B (fstV st nPr))) { s.2 with p := pvL (B (fstV st nPr)) }
def rdS (st : List Fd) : Int × Ent := fP st (fC st (fR st (fD st (fV st (fN st (0, emp))))))
def rdP (st : List Fd) : Int × Ent := if getV st nPk = false ∨ getV st nVe = false then (6, emp) else if (rdS st).1 = 0 then rdS st else ((rdS st).1, emp)
theorem fV_no {st : List Fd} {s : Int × Ent} (h : s.1 ≠ 0) : fV st s = s := if_neg h
theorem fD_no {st : List Fd} {s : Int × Ent} (h : s.1 ≠ 0) : fD st s = s := if_neg h
theorem fR_no {st : List Fd} {s : Int × Ent} (h : s.1 ≠ 0) : fR st s = s := if_neg h
theorem fC_no {st : List Fd} {s : Int × Ent} (h : s.1 ≠ 0) : fC st s = s := if_neg h
theorem fP_no {st : List Fd} {s : Int × Ent} (h : s.1 ≠ 0) : fP st s = s := if_neg h
def ends (s : Int × Ent) : Int × Ent := if s.1 = 0 then s else (s.1, emp)
theorem ends_no {s : Int × Ent} (h : s.1 ≠ 0) : ends s = (s.1, emp) := if_neg h
theorem rdP_is (st : List Fd) : rdP st = rdE atE atL st := by
  have h0 : rdP st = if getV st nPk = false ∨ getV st nVe = false then (6, emp) else ends (rdS st) := rfl
  rw [h0]
  unfold rdE
  by_cases h : getV st nPk = false ∨ getV st nVe = false
  · rw [if_pos h, if_pos h]
  rw [if_neg h, if_neg h]
  unfold rdS
  cases hn : nameB (B (fstV st nPk))
  · have e1 : fN st (0, emp) = (3, ⟨{ data := #[] }, { data := #[] }, [], [], [], []⟩) := by
      show stp _ _ _ = _
      unfold stp; rw [if_pos rfl, hn]; rfl
    rw [e1, fV_no (by decide), fD_no (by decide), fR_no (by decide), fC_no (by decide), fP_no (by decide), ends_no (by decide), if_pos rfl]
  have e1 : fN st (0, emp) = (0, ⟨fstV st nPk, { data := #[] }, [], [], [], []⟩) := by
    show stp _ _ _ = _
    unfold stp; rw [if_pos rfl, hn]; rfl
  rw [e1, if_neg (by decide)]
  generalize fstV st nPk = xn
  cases hv : prB (B (fstV st nVe))
  · have e2 : fV st (0, ⟨xn, { data := #[] }, [], [], [], []⟩) = (4, ⟨xn, { data := #[] }, [], [], [], []⟩) := by
      show stp _ _ _ = _
      unfold stp; rw [if_pos rfl, hv]; rfl
    rw [e2, fD_no (by simp), fR_no (by simp), fC_no (by simp), fP_no (by simp), ends_no (by simp), if_pos rfl]
  have e2 : fV st (0, ⟨xn, { data := #[] }, [], [], [], []⟩) = (0, ⟨xn, fstV st nVe, [], [], [], []⟩) := by
    show stp _ _ _ = _
    unfold stp; rw [if_pos rfl, hv]; rfl
  rw [e2, if_neg (by decide)]
  generalize fstV st nVe = xv
  have e3 : fD st (0, ⟨xn, xv, [], [], [], []⟩) = (depE (B (fstV st nDe)), ⟨xn, xv, depL (B (fstV st nDe)), [], [], []⟩) := by
    show stp _ _ _ = _
    unfold stp; rw [if_pos rfl]
  rw [e3]
  generalize depE (B (fstV st nDe)) = ed
  generalize depL (B (fstV st nDe)) = xd
  by_cases hd : ed ≠ 0
  · rw [if_pos hd, fR_no hd, fC_no hd, fP_no hd, ends_no hd]
  rw [if_neg hd]
  obtain rfl : ed = 0 := Decidable.not_not.1 hd
  have e4 : fR st (0, ⟨xn, xv, xd, [], [], []⟩) = (depE (B (fstV st nRe)), ⟨xn, xv, xd, depL (B (fstV st nRe)), [], []⟩) := by
    show stp _ _ _ = _
    unfold stp; rw [if_pos rfl]
  rw [e4]
  generalize depE (B (fstV st nRe)) = ed
  generalize depL (B (fstV st nRe)) = xr
  by_cases hd : ed ≠ 0
  · rw [if_pos hd, fC_no hd, fP_no hd, ends_no hd]
  rw [if_neg hd]
  obtain rfl : ed = 0 := Decidable.not_not.1 hd
  have e5 : fC st (0, ⟨xn, xv, xd, xr, [], []⟩) = (atE (B (fstV st nCo)), ⟨xn, xv, xd, xr, atL (B (fstV st nCo)), []⟩) := by
    show stp _ _ _ = _
    unfold stp; rw [if_pos rfl]
  rw [e5]
  generalize atE (B (fstV st nCo)) = ed
  generalize atL (B (fstV st nCo)) = xc
  by_cases hd : ed ≠ 0
  · rw [if_pos hd, fP_no hd, ends_no hd]
  rw [if_neg hd]
  obtain rfl : ed = 0 := Decidable.not_not.1 hd
  have e6 : fP st (0, ⟨xn, xv, xd, xr, xc, []⟩) = (pvE (B (fstV st nPr)), ⟨xn, xv, xd, xr, xc, pvL (B (fstV st nPr))⟩) := by
    show stp _ _ _ = _
    unfold stp; rw [if_pos rfl]
  rw [e6]
  have hE : pvE (B (fstV st nPr)) = if atE (B (fstV st nPr)) ≠ 0 then atE (B (fstV st nPr)) else if 8 < (atL (B (fstV st nPr))).length then 8 else if givs6 (atL (B (fstV st nPr))) = false then 5 else 0 := rfl
  have hL : pvL (B (fstV st nPr)) = if pvE (B (fstV st nPr)) = 0 then atL (B (fstV st nPr)) else [] := rfl
  generalize pvE (B (fstV st nPr)) = pe at *
  generalize pvL (B (fstV st nPr)) = pl at *
  generalize atE (B (fstV st nPr)) = ae at *
  generalize atL (B (fstV st nPr)) = al at *
  by_cases h1 : ae ≠ 0
  · rw [if_pos h1] at hE
    rw [if_pos h1, hE, ends_no h1]
  rw [if_neg h1] at hE
  rw [if_neg h1]
  by_cases h2 : 8 < al.length
  · rw [if_pos h2] at hE
    rw [if_pos h2, hE, ends_no (by simp)]
  rw [if_neg h2] at hE
  rw [if_neg h2]
  by_cases h3 : givs6 al = false
  · rw [if_pos h3] at hE
    rw [if_pos h3, hE, ends_no (by simp)]
  rw [if_neg h3] at hE
  rw [if_neg h3, hL, hE, if_pos rfl]
  exact if_pos rfl
section
variable {w0 W : World} {sb rb eb fb : Nat} {s : Int × Ent} {cv : Nat → Value} {A : Option Addr} {n c : Nat} {st : List Fd}
theorem stN_any (R : RdS w0 sb rb eb fb (.slice A n c) W s cv) (hst : rdFds w0 (lt_ w0.heap.size) st [.slice A n c]) (E : EnvR w0) :
    Calls Tryz.prog 47 #[.string { data := #[80, 97, 99, 107, 97, 103, 101] }, .func (.func 83) #[] #[.pointer (some ⟨W.heap.size + 1, 0, none⟩), .pointer (some ⟨W.heap.size, 0, none⟩)], .pointer (some ⟨fb, 0, none⟩), .pointer (some ⟨sb, 0, none⟩)]
      ((W.alloc (.cells #[.pointer (some ⟨eb, 0, none⟩)] 72)).alloc (.cells #[.func (.func 49) #[] #[]] 73)) fun e W' => e = .returned (.tuple #[]) ∧ ∃ cv', RdS w0 sb rb eb fb (.slice A n c) W' (fN st s) cv' :=
  step6 R hst (k := 0) (by decide) nPk 83 (fun _ _ => by kernel_rfl) _ _ { s.2 with n := (if nameB (B (fstV st nPk)) = true then fstV st nPk else { data := #[] }) } (if nameB (B (fstV st nPk)) = true then 0 else 3) fun V hV => by
    have hb2 : Below W.heap.size W ((W.alloc (.cells #[.pointer (some ⟨eb, 0, none⟩)] 72)).alloc (.cells #[.func (.func 49) #[] #[]] 73)) := ((Below.refl _ W).alloc (Nat.le_refl _) _).alloc (by simp) _
    have RV := (R.on hb2).on hV
    obtain ⟨o1, o2, o3, o4, o5⟩ := R.ord
    refine (into1S_any 49 (fun _ _ => by kernel_rfl) (fstV st nPk) (if nameB (B (fstV st nPk)) = true then fstV st nPk else { data := #[] }) (if nameB (B (fstV st nPk)) = true then 0 else 3) (W.heap.size + 1) W.heap.size eb 0 (cv 0) V (keep6 hV (by simp [go_sem])) (keep6 hV (by simp [go_sem])) (RV.fe 0 (by decide)) (RV.ce 0 (by decide)) (by omega) (by omega)
      (fun V' hV' => pname_any _ V')).mono ?_
    rintro e W' ⟨h1, w1, hb, e2⟩
    have h := (RV.on hb).rd
    exact ⟨h1, _, w1, hb, ⟨rfl, h.2.1, h.2.2.1, h.2.2.2.1, h.2.2.2.2.1, h.2.2.2.2.2⟩, e2⟩
theorem stV_any (R : RdS w0 sb rb eb fb (.slice A n c) W s cv) (hst : rdFds w0 (lt_ w0.heap.size) st [.slice A n c]) (E : EnvR w0) :
    Calls Tryz.prog 47 #[.string { data := #[86, 101, 114, 115, 105, 111, 110] }, .func (.func 83) #[] #[.pointer (some ⟨W.heap.size + 1, 0, none⟩), .pointer (some ⟨W.heap.size, 0, none⟩)], .pointer (some ⟨fb, 0, none⟩), .pointer (some ⟨sb, 0, none⟩)]
      ((W.alloc (.cells #[.pointer (some ⟨eb, 1, none⟩)] 72)).alloc (.cells #[.func (.func 50) #[] #[]] 73)) fun e W' => e = .returned (.tuple #[]) ∧ ∃ cv', RdS w0 sb rb eb fb (.slice A n c) W' (fV st s) cv' :=
  step6 R hst (k := 1) (by decide) nVe 83 (fun _ _ => by kernel_rfl) _ _ { s.2 with v := (if prB (B (fstV st nVe)) = true then fstV st nVe else { data := #[] }) } (if prB (B (fstV st nVe)) = true then 0 else 4) fun V hV => by
    have hb2 : Below W.heap.size W ((W.alloc (.cells #[.pointer (some ⟨eb, 1, none⟩)] 72)).alloc (.cells #[.func (.func 50) #[] #[]] 73)) := ((Below.refl _ W).alloc (Nat.le_refl _) _).alloc (by simp) _
    have RV := (R.on hb2).on hV
    obtain ⟨o1, o2, o3, o4, o5⟩ := R.ord
    refine (into1S_any 50 (fun _ _ => by kernel_rfl) (fstV st nVe) (if prB (B (fstV st nVe)) = true then fstV st nVe else { data := #[] }) (if prB (B (fstV st nVe)) = true then 0 else 4) (W.heap.size + 1) W.heap.size eb 1 (cv 1) V (keep6 hV (by simp [go_sem])) (keep6 hV (by simp [go_sem])) (RV.fe 1 (by decide)) (RV.ce 1 (by decide)) (by omega) (by omega)
      (fun V' hV' => pver_any _ V' (E.below (RV.bel.trans (hV'.mono RV.bel.size))).env)).mono ?_
    rintro e W' ⟨h1, w1, hb, e2⟩
    have h := (RV.on hb).rd
    exact ⟨h1, _, w1, hb, ⟨h.1, rfl, h.2.2.1, h.2.2.2.1, h.2.2.2.2.1, h.2.2.2.2.2⟩, e2⟩
theorem stD_any (R : RdS w0 sb rb eb fb (.slice A n c) W s cv) (hst : rdFds w0 (lt_ w0.heap.size) st [.slice A n c]) (E : EnvR w0) (hz : (fstV st nDe).size ≤ 65536) :
    Calls Tryz.prog 47 #[.string { data := #[68, 101, 112, 101, 110, 100, 115] }, .func (.func 84) #[] #[.pointer (some ⟨W.heap.size + 1, 0, none⟩), .pointer (some ⟨W.heap.size, 0, none⟩)], .pointer (some ⟨fb, 0, none⟩), .pointer (some ⟨sb, 0, none⟩)]
      ((W.alloc (.cells #[.pointer (some ⟨eb, 2, none⟩)] 75)).alloc (.cells #[.func (.func 52) #[] #[]] 76)) fun e W' => e = .returned (.tuple #[]) ∧ ∃ cv', RdS w0 sb rb eb fb (.slice A n c) W' (fD st s) cv' :=
  step6 R hst (k := 2) (by decide) nDe 84 (fun _ _ => by kernel_rfl) _ _ { s.2 with d := depL (B (fstV st nDe)) } (depE (B (fstV st nDe))) fun V hV => by
    have hb2 : Below W.heap.size W ((W.alloc (.cells #[.pointer (some ⟨eb, 2, none⟩)] 75)).alloc (.cells #[.func (.func 52) #[] #[]] 76)) := ((Below.refl _ W).alloc (Nat.le_refl _) _).alloc (by simp) _
    have RV := (R.on hb2).on hV
    obtain ⟨o1, o2, o3, o4, o5⟩ := R.ord
    have o6 := Nat.le_trans hb2.size hV.size
    refine (into1G_any 52 (fun _ _ => by kernel_rfl) (fstV st nDe) (depE (B (fstV st nDe))) (fun v W' => rdGrps W' (fun b => V.heap.size ≤ b ∧ b < W'.heap.size) (depL (B (fstV st nDe))) [v]) (W.heap.size + 1) W.heap.size eb 2 (cv 2) V (keep6 hV (by simp [go_sem])) (keep6 hV (by simp [go_sem])) (RV.fe 2 (by decide)) (RV.ce 2 (by decide)) (by omega) (by omega)
      (fun V' hV' => (parse4_new _ V' hz (E.below (RV.bel.trans (hV'.mono RV.bel.size)))).mono fun e W' ⟨⟨v, h1, h2⟩, h3⟩ => by
        obtain ⟨A, c, hv, _⟩ := id h2
        simp only [List.cons.injEq, and_true] at hv
        subst hv
        exact ⟨⟨A, _, c, h1, rdGrps_good.more h2 fun b hb => ⟨Nat.le_trans hV'.size hb.1, hb.2⟩⟩, h3⟩)).mono ?_
    rintro e W' ⟨h1, A, n, c, w1, hb, hp, e2⟩
    have h := (RV.on hb).rd
    have hq : rdGrps w1 (inS w0.heap.size eb fb rb w1) (depL (B (fstV st nDe))) [.slice A n c] := rdGrps_good.more hp fun b hb' => ⟨by omega, hb'.2, by omega, by omega, by omega⟩
    exact ⟨h1, _, w1, hb, ⟨h.1, h.2.1, hq, h.2.2.2.1, h.2.2.2.2.1, h.2.2.2.2.2⟩, e2⟩
theorem stR_any (R : RdS w0 sb rb eb fb (.slice A n c) W s cv) (hst : rdFds w0 (lt_ w0.heap.size) st [.slice A n c]) (E : EnvR w0) (hz : (fstV st nRe).size ≤ 65536) :
    Calls Tryz.prog 47 #[.string { data := #[82, 101, 99, 111, 109, 109, 101, 110, 100, 115] }, .func (.func 84) #[] #[.pointer (some ⟨W.heap.size + 1, 0, none⟩), .pointer (some ⟨W.heap.size, 0, none⟩)], .pointer (some ⟨fb, 0, none⟩), .pointer (some ⟨sb, 0, none⟩)]
      ((W.alloc (.cells #[.pointer (some ⟨eb, 3, none⟩)] 75)).alloc (.cells #[.func (.func 52) #[] #[]] 76)) fun e W' => e = .returned (.tuple #[]) ∧ ∃ cv', RdS w0 sb rb eb fb (.slice A n c) W' (fR st s) cv' :=
  step6 R hst (k := 3) (by decide) nRe 84 (fun _ _ => by kernel_rfl) _ _ { s.2 with r := depL (B (fstV st nRe)) } (depE (B (fstV st nRe))) fun V hV => by
    have hb2 : Below W.heap.size W ((W.alloc (.cells #[.pointer (some ⟨eb, 3, none⟩)] 75)).alloc (.cells #[.func (.func 52) #[] #[]] 76)) := ((Below.refl _ W).alloc (Nat.le_refl _) _).alloc (by simp) _
    have RV := (R.on hb2).on hV
    obtain ⟨o1, o2, o3, o4, o5⟩ := R.ord
    have o6 := Nat.le_trans hb2.size hV.size
    refine (into1G_any 52 (fun _ _ => by kernel_rfl) (fstV st nRe) (depE (B (fstV st nRe))) (fun v W' => rdGrps W' (fun b => V.heap.size ≤ b ∧ b < W'.heap.size) (depL (B (fstV st nRe))) [v]) (W.heap.size + 1) W.heap.size eb 3 (cv 3) V (keep6 hV (by simp [go_sem])) (keep6 hV (by simp [go_sem])) (RV.fe 3 (by decide)) (RV.ce 3 (by decide)) (by omega) (by omega)
      (fun V' hV' => (parse4_new _ V' hz (E.below (RV.bel.trans (hV'.mono RV.bel.size)))).mono fun e W' ⟨⟨v, h1, h2⟩, h3⟩ => by
        obtain ⟨A, c, hv, _⟩ := id h2
        simp only [List.cons.injEq, and_true] at hv
        subst hv
        exact ⟨⟨A, _, c, h1, rdGrps_good.more h2 fun b hb => ⟨Nat.le_trans hV'.size hb.1, hb.2⟩⟩, h3⟩)).mono ?_
    rintro e W' ⟨h1, A, n, c, w1, hb, hp, e2⟩
    have h := (RV.on hb).rd
    have hq : rdGrps w1 (inS w0.heap.size eb fb rb w1) (depL (B (fstV st nRe))) [.slice A n c] := rdGrps_good.more hp fun b hb' => ⟨by omega, hb'.2, by omega, by omega, by omega⟩
    exact ⟨h1, _, w1, hb, ⟨h.1, h.2.1, h.2.2.1, hq, h.2.2.2.2.1, h.2.2.2.2.2⟩, e2⟩
theorem stC_any (R : RdS w0 sb rb eb fb (.slice A n c) W s cv) (hst : rdFds w0 (lt_ w0.heap.size) st [.slice A n c]) (E : EnvR w0) (hz : (fstV st nCo).size ≤ 65536) :
    Calls Tryz.prog 47 #[.string { data := #[67, 111, 110, 102, 108, 105, 99, 116, 115] }, .func (.func 88) #[] #[.pointer (some ⟨W.heap.size + 1, 0, none⟩), .pointer (some ⟨W.heap.size, 0, none⟩)], .pointer (some ⟨fb, 0, none⟩), .pointer (some ⟨sb, 0, none⟩)]
      ((W.alloc (.cells #[.pointer (some ⟨eb, 4, none⟩)] 78)).alloc (.cells #[.func (.func 54) #[] #[]] 79)) fun e W' => e = .returned (.tuple #[]) ∧ ∃ cv', RdS w0 sb rb eb fb (.slice A n c) W' (fC st s) cv' :=
  step6 R hst (k := 4) (by decide) nCo 88 (fun _ _ => by kernel_rfl) _ _ { s.2 with c := atL (B (fstV st nCo)) } (atE (B (fstV st nCo))) fun V hV => by
    have hb2 : Below W.heap.size W ((W.alloc (.cells #[.pointer (some ⟨eb, 4, none⟩)] 78)).alloc (.cells #[.func (.func 54) #[] #[]] 79)) := ((Below.refl _ W).alloc (Nat.le_refl _) _).alloc (by simp) _
    have RV := (R.on hb2).on hV
    obtain ⟨o1, o2, o3, o4, o5⟩ := R.ord
    have o6 := Nat.le_trans hb2.size hV.size
    refine (into1A_any 54 (fun _ _ => by kernel_rfl) (fstV st nCo) (atE (B (fstV st nCo))) (fun v W' => rdAtms W' (fun b => V.heap.size ≤ b ∧ b < W'.heap.size) (atL (B (fstV st nCo))) [v]) (W.heap.size + 1) W.heap.size eb 4 (cv 4) V (keep6 hV (by simp [go_sem])) (keep6 hV (by simp [go_sem])) (RV.fe 4 (by decide)) (RV.ce 4 (by decide)) (by omega) (by omega)
      (fun V' hV' => (atoms4_new _ V' hz (E.below (RV.bel.trans (hV'.mono RV.bel.size)))).mono fun e W' ⟨⟨v, h1, h2⟩, h3⟩ => by
        obtain ⟨A, c, hv, _⟩ := id h2
        simp only [List.cons.injEq, and_true] at hv
        subst hv
        exact ⟨⟨A, _, c, h1, rdAtms_good.more h2 fun b hb => ⟨Nat.le_trans hV'.size hb.1, hb.2⟩⟩, h3⟩)).mono ?_
    rintro e W' ⟨h1, A, n, c, w1, hb, hp, e2⟩
    have h := (RV.on hb).rd
    have hq : rdAtms w1 (inS w0.heap.size eb fb rb w1) (atL (B (fstV st nCo))) [.slice A n c] := rdAtms_good.more hp fun b hb' => ⟨by omega, hb'.2, by omega, by omega, by omega⟩
    exact ⟨h1, _, w1, hb, ⟨h.1, h.2.1, h.2.2.1, h.2.2.2.1, hq, h.2.2.2.2.2⟩, e2⟩
theorem stP_any (R : RdS w0 sb rb eb fb (.slice A n c) W s cv) (hst : rdFds w0 (lt_ w0.heap.size) st [.slice A n c]) (E : EnvR w0) (hz : (fstV st nPr).size ≤ 65536) :
    Calls Tryz.prog 47 #[.string { data := #[80, 114, 111, 118, 105, 100, 101, 115] }, .func (.func 88) #[] #[.pointer (some ⟨W.heap.size + 1, 0, none⟩), .pointer (some ⟨W.heap.size, 0, none⟩)], .pointer (some ⟨fb, 0, none⟩), .pointer (some ⟨sb, 0, none⟩)]
      ((W.alloc (.cells #[.pointer (some ⟨eb, 5, none⟩)] 78)).alloc (.cells #[.func (.func 55) #[] #[]] 79)) fun e W' => e = .returned (.tuple #[]) ∧ ∃ cv', RdS w0 sb rb eb fb (.slice A n c) W' (fP st s) cv' :=
  step6 R hst (k := 5) (by decide) nPr 88 (fun _ _ => by kernel_rfl) _ _ { s.2 with p := pvL (B (fstV st nPr)) } (pvE (B (fstV st nPr))) fun V hV => by
    have hb2 : Below W.heap.size W ((W.alloc (.cells #[.pointer (some ⟨eb, 5, none⟩)] 78)).alloc (.cells #[.func (.func 55) #[] #[]] 79)) := ((Below.refl _ W).alloc (Nat.le_refl _) _).alloc (by simp) _
    have RV := (R.on hb2).on hV
    obtain ⟨o1, o2, o3, o4, o5⟩ := R.ord
    have o6 := Nat.le_trans hb2.size hV.size
    refine (into1A_any 55 (fun _ _ => by kernel_rfl) (fstV st nPr) (pvE (B (fstV st nPr))) (fun v W' => rdAtms W' (fun b => V.heap.size ≤ b ∧ b < W'.heap.size) (pvL (B (fstV st nPr))) [v]) (W.heap.size + 1) W.heap.size eb 5 (cv 5) V (keep6 hV (by simp [go_sem])) (keep6 hV (by simp [go_sem])) (RV.fe 5 (by decide)) (RV.ce 5 (by decide)) (by omega) (by omega)
      (fun V' hV' => (pprov_any _ V' hz (E.below (RV.bel.trans (hV'.mono RV.bel.size)))).mono fun e W' ⟨⟨A, n, c, h1, h2⟩, h3⟩ => ⟨⟨A, n, c, h1, rdAtms_good.more h2 fun b hb => ⟨Nat.le_trans hV'.size hb.1, hb.2⟩⟩, h3⟩)).mono ?_
    rintro e W' ⟨h1, A, n, c, w1, hb, hp, e2⟩
    have h := (RV.on hb).rd
    have hq : rdAtms w1 (inS w0.heap.size eb fb rb w1) (pvL (B (fstV st nPr))) [.slice A n c] := rdAtms_good.more hp fun b hb' => ⟨by omega, hb'.2, by omega, by omega, by omega⟩
    exact ⟨h1, _, w1, hb, ⟨h.1, h.2.1, h.2.2.1, h.2.2.2.1, h.2.2.2.2.1, hq⟩, e2⟩
end
end Go.Proofs.YtmlakjemgmeffaaGreatDoor
end
