/- The contracts of cmp.Compare of strings and of the program's Less of entries. Condition: what the library's variables hold. -/
import Derived.Test.YtmlakjemgmeffaaGreatDoorMW
import Derived.Test.YtmlakjemgmeffaaGreatDoorME
import Derived.Test.YtmlakjemgmeffaaGreatDoorVer11Z
import Derived.Test.YtmlakjemgmeffaaGreatDoorD4kZ
import Derived.Deep.RegionHeld3
set_option maxRecDepth 100000
set_option linter.unusedVariables false
set_option linter.unusedSimpArgs false
namespace Go.Proofs.YtmlakjemgmeffaaGreatDoor
open Go.RowKit
/-- How two strings stand, byte by byte. -/
def cmpB6 (a b : ByteArray) : Int := if Op.bytesLess a.toList b.toList = true then -1 else if Op.bytesLess b.toList a.toList = true then 1 else 0
theorem isNaN_any (a : ByteArray) (w : World) : Calls Tryz.prog 90 #[.string a] w fun e w' => e = .returned (.bool false) ∧ w = w' := by
  go_enter Tryz.func90, Tryz.ntmps90
  go_wp2
  go_ret
  exact ⟨by first | rfl | simp, rfl⟩
theorem cmpB6_is (a b : ByteArray) : (a = b ∧ cmpB6 a b = 0) ∨ (a ≠ b ∧ Op.bytesLess a.toList b.toList = true ∧ cmpB6 a b = -1) ∨ (a ≠ b ∧ Op.bytesLess a.toList b.toList = false ∧ cmpB6 a b = 1) := by
  rcases blt_tot a b with h | h | h
  · refine .inr (.inl ⟨fun e => ?_, h, if_pos h⟩)
    subst e; exact blt_self _ h
  · have h' : ¬ Op.bytesLess a.toList b.toList = true := fun k => blt_asym h k
    refine .inr (.inr ⟨fun e => ?_, Bool.eq_false_iff.2 h', by unfold cmpB6; rw [if_neg h', if_pos (show Op.bytesLess b.toList a.toList = true from h)]⟩)
    subst e; exact blt_self _ h
  · subst h
    refine .inl ⟨rfl, ?_⟩
    have h' : ¬ Op.bytesLess a.toList a.toList = true := fun k => blt_self a k
    unfold cmpB6; rw [if_neg h', if_neg h']
set_option maxHeartbeats 2000000 in
theorem cmpB6_any (a b : ByteArray) (w : World) : Calls Tryz.prog 59 #[.string a, .string b] w fun e w' => e = .returned (.int .i64 (cmpB6 a b)) ∧ w = w' := by
  have he := str_eq a b
  rcases cmpB6_is a b with ⟨h, e⟩ | ⟨h, h1, e⟩ | ⟨h, h1, e⟩ <;> rw [e]
  · have h1 : Op.bytesLess a.toList b.toList = false := by rw [h]; exact Bool.eq_false_iff.2 (blt_self _)
    rw [decide_eq_true h] at he
    clear h e
    go_enter Tryz.func59, Tryz.ntmps59
    go_wp2_with (go_at_call 90; (with_reducible refine (isNaN_any _ _).mono ?_); rintro e w' ⟨rfl, rfl⟩)
    go_ret
    exact ⟨rfl, rfl⟩
  · rw [decide_eq_false h] at he
    clear h e
    go_enter Tryz.func59, Tryz.ntmps59
    go_wp2_with (go_at_call 90; (with_reducible refine (isNaN_any _ _).mono ?_); rintro e w' ⟨rfl, rfl⟩)
    go_ret
    exact ⟨rfl, rfl⟩
  · rw [decide_eq_false h] at he
    clear h e
    go_enter Tryz.func59, Tryz.ntmps59
    go_wp2_with (go_at_call 90; (with_reducible refine (isNaN_any _ _).mono ?_); rintro e w' ⟨rfl, rfl⟩)
    go_ret
    exact ⟨rfl, rfl⟩
theorem lesB_or (x y : Ent) : decide (orL [cmpB6 x.n y.n, orderV (B x.v) (B y.v), cmpB6 x.v y.v] < 0) = lesB x y := by
  unfold lesB
  generalize orderV (B x.v) (B y.v) = o
  rcases cmpB6_is x.n y.n with ⟨h, e⟩ | ⟨h, b, e⟩ | ⟨h, b, e⟩
  · rw [if_pos h, e]
    rcases Int.lt_trichotomy o 0 with ho | ho | ho
    · have : orL [0, o, cmpB6 x.v y.v] = o := by unfold orL; rw [if_neg (by decide)]; unfold orL; rw [if_pos (by omega)]
      rw [this, decide_eq_true ho]; rfl
    · subst ho
      have : orL [0, 0, cmpB6 x.v y.v] = cmpB6 x.v y.v := by
        unfold orL; rw [if_neg (by decide)]; unfold orL; rw [if_neg (by decide)]; unfold orL
        split
        · rfl
        · rename_i h; simp only [ne_eq, Decidable.not_not] at h; rw [h]; rfl
      rw [this]
      rcases cmpB6_is x.v y.v with ⟨h, e⟩ | ⟨h, b, e⟩ | ⟨h, b, e⟩
      · rw [e]
        have : Op.bytesLess x.v.toList y.v.toList = false := by rw [h]; exact Bool.eq_false_iff.2 (blt_self _)
        rw [this]; rfl
      · rw [e, b]; rfl
      · rw [e, b]; rfl
    · have : orL [0, o, cmpB6 x.v y.v] = o := by unfold orL; rw [if_neg (by decide)]; unfold orL; rw [if_pos (by omega)]
      rw [this, decide_eq_false (by omega)]
      rw [beq_eq_false_iff_ne.2 (by omega)]; rfl
  · rw [if_neg h, e, b]; rfl
  · rw [if_neg h, e, b]; rfl
set_option maxHeartbeats 8000000 in
theorem less6_any (x y : Ent) (A1 : Option Addr) (c1 : Nat) (A2 : Option Addr) (c2 : Nat) (A3 : Option Addr) (c3 : Nat) (A4 : Option Addr) (c4 : Nat) (A1y : Option Addr) (c1y : Nat) (A2y : Option Addr) (c2y : Nat) (A3y : Option Addr) (c3y : Nat) (A4y : Option Addr) (c4y : Nat) (w : World) (E : Env w) :
    Calls Tryz.prog 21 #[x.val A1 c1 A2 c2 A3 c3 A4 c4, y.val A1y c1y A2y c2y A3y c3y A4y c4y] w fun e w' => e = .returned (.bool (lesB x y)) ∧ Below w.heap.size w w' := by
  have X := Lib.hid (lesB_or x y)
  have KN := Lib.hid (fun W => cmpB6_any x.n y.n W)
  have KW := Lib.hid (fun W => cmpB6_any x.v y.v W)
  have KV := Lib.hid (fun (W : World) (hb : Below w.heap.size w W) => vorder_any x.v y.v W (E.below hb))
  have KO := Lib.hid (fun (W : World) (i j k : Int) => or_any W.heap.size 3 [i, j, k] (W.alloc (.cells #[.int .i64 i, .int .i64 j, .int .i64 k] 3)) rfl (by decide) (fun m hm => by
    rcases m with _ | _ | _ | m
    · simp [go_sem]
    · simp [go_sem]
    · simp [go_sem]
    · omega))
  generalize lesB x y = b at *
  generalize cmpB6 x.n y.n = iN at *
  generalize cmpB6 x.v y.v = iW at *
  generalize orderV (B x.v) (B y.v) = iV at *
  obtain ⟨n, v, d, r, c, p⟩ := x
  obtain ⟨ny, vy, dy, ry, cy, py⟩ := y
  show Calls Tryz.prog 21 #[.agg #[.string n, .string v, .slice A1 d.length c1, .slice A2 r.length c2, .slice A3 c.length c3, .slice A4 p.length c4], .agg #[.string ny, .string vy, .slice A1y dy.length c1y, .slice A2y ry.length c2y, .slice A3y cy.length c3y, .slice A4y py.length c4y]] w _
  obtain ⟨W1, hW1⟩ : ∃ W, W = ((w.alloc (.cells #[.string n, .string v, .slice A1 d.length c1, .slice A2 r.length c2, .slice A3 c.length c3, .slice A4 p.length c4] 25)).alloc (.cells #[.string ny, .string vy, .slice A1y dy.length c1y, .slice A2y ry.length c2y, .slice A3y cy.length c3y, .slice A4y py.length c4y] 25)) := ⟨_, rfl⟩
  have B1 := Lib.hid (show Below w.heap.size w W1 by rw [hW1]; exact ((Below.refl _ w).alloc (Nat.le_refl _) _).alloc (by simp) _)
  have x0 : W1.cell? ⟨w.heap.size, 0, none⟩ = some (.string n) := by rw [hW1]; simp [go_sem]
  have x1 : W1.cell? ⟨w.heap.size, 1, none⟩ = some (.string v) := by rw [hW1]; simp [go_sem]
  have y0 : W1.cell? ⟨w.heap.size + 1, 0, none⟩ = some (.string ny) := by rw [hW1]; simp [go_sem]
  have y1 : W1.cell? ⟨w.heap.size + 1, 1, none⟩ = some (.string vy) := by rw [hW1]; simp [go_sem]
  have KV := Lib.hid (fun (W : World) (hb : Below W1.heap.size W1 W) => KV.out W (B1.out.trans (hb.mono B1.out.size)))
  have bb := (Below.refl W1.heap.size W1).drew
  clear E
  go_enter Tryz.func21, Tryz.ntmps21
  go_wp2_with fail
  rw [← hW1]
  clear hW1
  go_region_held3 (fun W => W.cell? ⟨w.heap.size, 0, none⟩ = some (.string n) ∧ W.cell? ⟨w.heap.size, 1, none⟩ = some (.string v) ∧ W.cell? ⟨w.heap.size + 1, 0, none⟩ = some (.string ny) ∧ W.cell? ⟨w.heap.size + 1, 1, none⟩ = some (.string vy) ∧ Below W1.heap.size W1 W)
    (first | (go_split_ands; refine ⟨?_, ?_, ?_, ?_, ?_⟩ <;> first | assumption | exact keep6 hbx (by assumption) | exact Below.trans (by assumption) (hbx.mono (Below.size (by assumption))) | exact cell_al _ (by assumption) | exact Below.alloc (by assumption) (Below.size (by assumption)) _) | go_keep)
    (first | (go_at_call 60; (with_reducible refine (KV.out _ (by go_split_ands; assumption)).mono ?_); rintro e wx ⟨rfl, hbx⟩) | (go_at_call 59; (with_reducible refine (KN.out _).mono ?_); rintro e wx ⟨rfl, rfl⟩) | (go_at_call 59; (with_reducible refine (KW.out _).mono ?_); rintro e wx ⟨rfl, rfl⟩) | (go_at_call 58; (refine (KO.out _ _ _ _).mono ?_); rintro e wx ⟨rfl, rfl⟩))
  all_goals
    go_split_ands
    have V3 := Lib.hid (show Below W1.heap.size W1 _ by assumption)
    go_wp2
    go_ret
    exact ⟨by rw [← X.out]; try rfl, B1.out.trans (V3.out.mono B1.out.size)⟩
end Go.Proofs.YtmlakjemgmeffaaGreatDoor
