/- Atoms and groups as data: their readers; the contracts of light, small. -/
import Derived.Test.YtfpbeenaploaiaaGreatDoorMD
set_option maxRecDepth 100000
set_option linter.unusedVariables false
set_option linter.unusedSimpArgs false
namespace Go.Proofs.YtfpbeenaploaiaaGreatDoor
open Go.RowKit
/-- An atom: a name, an operator, a version. -/
structure Atm where
  n : ByteArray
  o : Int
  v : ByteArray
def Atm.val (a : Atm) : Value := .agg #[.string a.n, .int .i64 a.o, .string a.v]
def Atm.cells (a : Atm) : List Value := [.string a.n, .int .i64 a.o, .string a.v]
def rdAtm : Rd Atm := fun _ _ a cs => cs = a.cells
theorem rdAtm_good : Good rdAtm 3 := ⟨fun h _ => h, fun h _ => h, fun h _ _ => h, fun h => by rw [h]; rfl, fun h u hu => by rw [h] at hu; simp [Atm.cells] at hu; rcases hu with rfl | rfl | rfl <;> rfl⟩
abbrev rdAtms : Rd (List Atm) := rdRow 3 rdAtm
abbrev rdGrps : Rd (List (List Atm)) := rdRow 1 rdAtms
theorem rdAtms_good : Good rdAtms 1 := rdRow_good rdAtm_good
theorem rdGrps_good : Good rdGrps 1 := rdRow_good rdAtms_good
theorem off_add (a : Addr) (k j : Nat) (hj : j ≠ 0) : (⟨(a.add k).block, (a.add k).off + j, none⟩ : Addr) = a.add (k + j) := by
  unfold Addr.add; by_cases hk : k = 0 <;> simp [hk, hj, Nat.add_assoc]
theorem rdAtms_at {w : World} {S : Nat → Prop} {l : List Atm} {A : Option Addr} {n c : Nat} (h : rdAtms w S l [.slice A n c]) : n = l.length ∧ n ≤ c ∧ c ≤ maxLen ∧ ∀ k (hk : k < l.length), ∃ ad, A = some ad ∧ S ad.block ∧
    w.cell? (ad.add (k * 3)) = some (.string l[k].n) ∧ w.cell? ⟨(ad.add (k * 3)).block, (ad.add (k * 3)).off + 1, none⟩ = some (.int .i64 l[k].o) ∧ w.cell? ⟨(ad.add (k * 3)).block, (ad.add (k * 3)).off + 2, none⟩ = some (.string l[k].v) := by
  obtain ⟨A', c', e, h1, h2, h⟩ := h
  simp only [List.cons.injEq, Value.slice.injEq, and_true] at e
  obtain ⟨rfl, rfl, rfl⟩ := e
  refine ⟨rfl, h1, h2, fun k hk => ?_⟩
  obtain ⟨ad, es, e, hS, hE, hl, hc⟩ := h k hk
  rw [show es = l[k].cells from hE] at hc
  exact ⟨ad, e, hS, hc 0 _ rfl, by rw [off_add ad (k * 3) 1 (by omega)]; exact hc 1 _ rfl, by rw [off_add ad (k * 3) 2 (by omega)]; exact hc 2 _ rfl⟩
theorem rdGrps_at {w : World} {S : Nat → Prop} {l : List (List Atm)} {A : Option Addr} {n c : Nat} (h : rdGrps w S l [.slice A n c]) : n = l.length ∧ n ≤ c ∧ c ≤ maxLen ∧ ∀ k (hk : k < l.length), ∃ ad A' c', A = some ad ∧ S ad.block ∧
    w.cell? (ad.add k) = some (.slice A' l[k].length c') ∧ rdAtms w S l[k] [.slice A' l[k].length c'] := by
  obtain ⟨A', c', e, h1, h2, h⟩ := h
  simp only [List.cons.injEq, Value.slice.injEq, and_true] at e
  obtain ⟨rfl, rfl, rfl⟩ := e
  refine ⟨rfl, h1, h2, fun k hk => ?_⟩
  obtain ⟨ad, es, e, hS, hE, hl, hc⟩ := h k hk
  have hE' := hE
  obtain ⟨A2, c2, rfl, _⟩ := hE'
  refine ⟨ad, A2, c2, e, hS, ?_, hE⟩
  have := hc 0 _ rfl
  rwa [Nat.mul_one] at this
/-- Whether atoms can be gone through. -/
def lightOne (a : Atm) : Bool := decide ((a.n.size : Int) ≤ 100) && decide ((a.v.size : Int) ≤ 100)
def lightB (l : List Atm) : Bool := decide (l.length ≤ 40) && l.all lightOne
def smallB (L : List (List Atm)) : Bool := decide (L.length ≤ 40) && L.all lightB
theorem all_takeL {α : Type} (p : α → Bool) (l : List α) (k : Nat) (hk : k < l.length) : (l.take (k + 1)).all p = ((l.take k).all p && p l[k]) := by
  rw [List.take_succ_eq_append_getElem hk, List.all_append]; simp
theorem all_stopL {α : Type} {p : α → Bool} {l : List α} {k : Nat} (hk : k < l.length) (h : p l[k] = false) : l.all p = false := by
  rw [List.all_eq_false]; exact ⟨l[k], List.getElem_mem hk, by rw [h]; decide⟩
theorem lightOne_no {x : Atm} (h : ¬ ((x.n.size : Int) ≤ 100 ∧ (x.v.size : Int) ≤ 100)) : lightOne x = false := by
  unfold lightOne; rw [Bool.and_eq_false_iff, decide_eq_false_iff_not, decide_eq_false_iff_not]; omega
theorem lightOne_yes {x : Atm} (h1 : (x.n.size : Int) ≤ 100) (h2 : (x.v.size : Int) ≤ 100) : lightOne x = true := by unfold lightOne; rw [decide_eq_true h1, decide_eq_true h2]; rfl
set_option maxHeartbeats 1000000 in
theorem light_any (A : Option Addr) (n c : Nat) (l : List Atm) (w : World) (h : rdAtms w (lt_ w.heap.size) l [.slice A n c]) :
    Calls Tryz.prog 6 #[.slice A n c] w fun e w' => e = .returned (.bool (lightB l)) ∧ w = w' := by
  obtain ⟨rfl, hnc, hcm, hat⟩ := rdAtms_at h
  have hcm' : c ≤ 9223372036854775807 := hcm
  clear h
  by_cases hbig : l.length ≤ 40
  · have X := Lib.hid (show lightB l = l.all lightOne by unfold lightB; rw [decide_eq_true hbig]; rfl)
    go_enter Tryz.func6, Tryz.ntmps6
    go_wp2
    go_loop [3] (fun i => ∃ k : Nat, k ≤ l.length ∧ i = .int .i64 k ∧ (l.take k).all lightOne = true) (fun i => l.length - (intOf i).toNat)
    case atStart => exact ⟨0, Nat.zero_le _, rfl, rfl⟩
    case round =>
      obtain ⟨k, hk, rfl, hall⟩ := hrel
      by_cases hlt : k < l.length
      · obtain ⟨ad, rfl, had, h0, h1, h2⟩ := hat k hlt
        have T := Lib.hid (all_takeL lightOne l k hlt)
        have Z := Lib.hid (all_stopL (p := lightOne) (l := l) (k := k) hlt)
        have H := Lib.hid hall
        clear hall hat h1
        generalize l[k] = x at *
        by_cases g1 : (x.n.size : Int) ≤ 100
        · by_cases g2 : (x.v.size : Int) ≤ 100
          · have O := Lib.hid (lightOne_yes g1 g2)
            go_wp2
            go_round
            case rel => exact ⟨k + 1, by omega, by go_num, by rw [T.out, H.out, O.out]; rfl⟩
            case measure => simp [intOf]; omega
          · have O := Lib.hid (lightOne_no (x := x) (by omega))
            go_wp2
            go_ret
            exact ⟨by rw [X.out, Z.out O.out]; try rfl, rfl⟩
        · have O := Lib.hid (lightOne_no (x := x) (by omega))
          go_wp2
          go_ret
          exact ⟨by rw [X.out, Z.out O.out]; try rfl, rfl⟩
      · obtain rfl : k = l.length := by omega
        have H := Lib.hid (show l.all lightOne = true by rw [List.take_length] at hall; exact hall)
        clear hall hat
        go_wp2
        go_ret
        exact ⟨by rw [X.out, H.out]; try rfl, rfl⟩
  · have X := Lib.hid (show lightB l = false by unfold lightB; rw [decide_eq_false hbig]; rfl)
    have hb' : (40 : Int) < l.length := by omega
    go_enter Tryz.func6, Tryz.ntmps6
    go_wp2
    go_ret
    exact ⟨by rw [X.out]; try rfl, rfl⟩
set_option maxHeartbeats 1000000 in
theorem small4_any (A : Option Addr) (n c : Nat) (L : List (List Atm)) (w : World) (h : rdGrps w (lt_ w.heap.size) L [.slice A n c]) :
    Calls Tryz.prog 5 #[.slice A n c] w fun e w' => e = .returned (.bool (smallB L)) ∧ w = w' := by
  obtain ⟨rfl, hnc, hcm, hat⟩ := rdGrps_at h
  have hcm' : c ≤ 9223372036854775807 := hcm
  clear h
  by_cases hbig : L.length ≤ 40
  · have X := Lib.hid (show smallB L = L.all lightB by unfold smallB; rw [decide_eq_true hbig]; rfl)
    go_enter Tryz.func5, Tryz.ntmps5
    go_wp2
    go_loop [3, 4] (fun i v => ∃ k : Nat, k ≤ L.length ∧ i = .int .i64 k ∧ (L.take k).all lightB = true) (fun i _ => L.length - (intOf i).toNat)
    case atStart => exact ⟨0, Nat.zero_le _, rfl, rfl⟩
    case round =>
      obtain ⟨k, hk, rfl, hall⟩ := hrel
      by_cases hlt : k < L.length
      · obtain ⟨ad, A', c', rfl, had, h0, h1⟩ := hat k hlt
        have T := Lib.hid (all_takeL lightB L k hlt)
        have Z := Lib.hid (all_stopL (p := lightB) (l := L) (k := k) hlt)
        have H := Lib.hid hall
        have K := Lib.hid (light_any _ _ _ _ _ h1)
        clear hall hat h1
        generalize L[k] = x at *
        cases hO : lightB x
        · have O := Lib.hid hO
          rw [hO] at K
          clear hO
          go_wp2_with (go_at_call 6; refine K.out.mono ?_; rintro e w' ⟨rfl, rfl⟩)
          go_ret
          exact ⟨by rw [X.out, Z.out O.out]; try rfl, rfl⟩
        · have O := Lib.hid hO
          rw [hO] at K
          clear hO
          go_wp2_with (go_at_call 6; refine K.out.mono ?_; rintro e w' ⟨rfl, rfl⟩)
          go_round
          case rel => exact ⟨k + 1, by omega, by go_num, by rw [T.out, H.out, O.out]; rfl⟩
          case measure => simp [intOf]; omega
      · obtain rfl : k = L.length := by omega
        have H := Lib.hid (show L.all lightB = true by rw [List.take_length] at hall; exact hall)
        clear hall hat
        go_wp2
        go_ret
        exact ⟨by rw [X.out, H.out]; try rfl, rfl⟩
  · have X := Lib.hid (show smallB L = false by unfold smallB; rw [decide_eq_false hbig]; rfl)
    have hb' : (40 : Int) < L.length := by omega
    go_enter Tryz.func5, Tryz.ntmps5
    go_wp2
    go_ret
    exact ⟨by rw [X.out]; try rfl, rfl⟩
end Go.Proofs.YtfpbeenaploaiaaGreatDoor
