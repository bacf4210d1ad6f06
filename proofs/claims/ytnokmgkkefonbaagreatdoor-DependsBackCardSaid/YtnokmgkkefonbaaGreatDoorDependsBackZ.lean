/- keelsonlaw4.DependsBack: called with any arguments that can be read it returns true, and its arguments read as before. Condition: the library variables that the row lists hold what the program text lays in them, which the card ties to that text. -/
import Derived.Test.YtnokmgkkefonbaaGreatDoorD4tZ
import Derived.Test.YtnokmgkkefonbaaGreatDoorMB
import Derived.Test.YtnokmgkkefonbaaGreatDoorDoorZ
import Derived.WalkKit
import Derived.ProofKit
import Derived.OpenShut
import Derived.SevenTiedAt
import Derived.Outline
set_option maxRecDepth 100000
set_option linter.unusedVariables false
set_option linter.unusedSimpArgs false
namespace Go.Proofs.YtnokmgkkefonbaaGreatDoor.dependsBack
open Go.ChangeShapes Go.WideShapes Go.ChangeAt Go.RowKit

set_option maxHeartbeats 8000000 in
theorem walk (A : Option Addr) (n c : Nat) (L : List (List Atm)) (s : ByteArray) (w : World) (hr : rdGrps w (lt_ w.heap.size) L [.slice A n c]) (_ : ∀ g ∈ L, ∀ a ∈ g, AtmOk a) (hs : s.size ≤ maxLen) (E : EnvR w) :
    Calls Tryz.prog 5 #[.slice A n c, .string s] w fun e w' => e = .returned (.bool true) ∧ Below w.heap.size w w' := by
  obtain ⟨rfl, _, _, _⟩ := rdGrps_at hr
  have HE := Lib.hid E
  have HR := Lib.hid hr
  have S := Lib.hid (fun w E => shown4_any w E)
  have KS := Lib.hid (fun w h => small4_any A L.length c L w h)
  clear E hr
  cases hsm : smallB L
  · rw [hsm] at KS
    clear hsm
    go_enter Tryz.func5, Tryz.ntmps5
    have B0 := Lib.hid (Below.refl w.heap.size w)
    go_wp2_with fail
    refine (S.out _ (HE.out.below B0.out)).mono ?_
    rintro e' w1 ⟨rfl, hb⟩
    have C1 := Lib.hid (bel2 B0.out hb (Nat.le_refl _))
    clear hb
    go_wp2_with fail
    refine (KS.out _ (rdGrps_good.up (rdGrps_good.below HR.out C1.out) C1.out.size)).mono ?_
    rintro e' w' ⟨rfl, rfl⟩
    go_wp2
    go_ret
    exact ⟨rfl, C1.out⟩
  rw [hsm] at KS
  clear hsm
  by_cases g1 : (1000 : Int) < (s.size : Int)
  · have S := S
    go_enter Tryz.func5, Tryz.ntmps5
    have B0 := Lib.hid (Below.refl w.heap.size w)
    go_wp2_with fail
    refine (S.out _ (HE.out.below B0.out)).mono ?_
    rintro e' w1 ⟨rfl, hb⟩
    have C1 := Lib.hid (bel2 B0.out hb (Nat.le_refl _))
    clear hb
    go_wp2_with fail
    refine (KS.out _ (rdGrps_good.up (rdGrps_good.below HR.out C1.out) C1.out.size)).mono ?_
    rintro e' w' ⟨rfl, rfl⟩
    go_wp2
    go_ret
    exact ⟨rfl, C1.out⟩
  have HRa := Lib.hid (right_depL s)
  have P2 := Lib.hid (fun w E => parse_again (right_depL s) w E)
  by_cases h0 : depE (B s) = 0
  · have P1 := Lib.hid (fun w E => parse4_is (s := s) h0 rfl (by omega) w E)
    clear h0
    generalize depL (B s) = a at *
    cases hrl : rightG L
    · have KRF := Lib.hid (fun w h E => right4_any A L.length c L w h E)
      rw [hrl] at KRF
      clear hrl
      go_enter Tryz.func5, Tryz.ntmps5
      have B0 := Lib.hid (Below.refl w.heap.size w)
      go_wp2_with fail
      refine (S.out _ (HE.out.below B0.out)).mono ?_
      rintro e' w1 ⟨rfl, hb⟩
      have C1 := Lib.hid (bel2 B0.out hb (Nat.le_refl _))
      clear hb
      go_wp2_with fail
      refine (KS.out _ (rdGrps_good.up (rdGrps_good.below HR.out C1.out) C1.out.size)).mono ?_
      rintro e' w' ⟨rfl, rfl⟩
      go_wp2_with fail
      refine (KRF.out _ (rdGrps_good.up (rdGrps_good.below HR.out C1.out) C1.out.size) (HE.out.below C1.out)).mono ?_
      rintro e' w5 ⟨rfl, hb⟩
      have C2 := Lib.hid (bel2 C1.out hb (Nat.le_refl _))
      clear hb
      go_wp2_with fail
      refine (P1.out _ (HE.out.below C2.out)).mono ?_
      rintro e' w6 ⟨⟨A6, c6, rfl, hr6⟩, hb⟩
      have R6 := Lib.hid hr6
      clear hr6
      have C3 := Lib.hid (bel2 C2.out hb (Nat.le_refl _))
      clear hb
      have D6 := Lib.hid (Below.refl w6.heap.size w6)
      go_wp2_with fail
      refine (print4_any _ _ _ _ _ (rdGrps_good.up (rdGrps_good.below R6.out D6.out) D6.out.size) (HE.out.below C3.out)).mono ?_
      rintro e' w7 ⟨rfl, hb⟩
      have C4 := Lib.hid (bel2 C3.out hb (Nat.le_refl _))
      have C5 := Lib.hid (bel2 D6.out hb (Nat.le_refl _))
      clear hb
      go_wp2_with fail
      refine (P2.out _ (HE.out.below C4.out)).mono ?_
      rintro e' w8 ⟨⟨A8, c8, rfl, hr8⟩, hb⟩
      have R8 := Lib.hid hr8
      clear hr8
      have C6 := Lib.hid (bel2 C4.out hb (Nat.le_refl _))
      have C7 := Lib.hid (bel2 C5.out hb (Nat.le_refl _))
      clear hb
      have D8 := Lib.hid (Below.refl w8.heap.size w8)
      go_wp2_with fail
      refine (same_self _ _ _ _ _ _ (rdGrps_good.up (rdGrps_good.below R6.out C7.out) C7.out.size) (rdGrps_good.up (rdGrps_good.below R8.out D8.out) D8.out.size)).mono ?_
      rintro e' w9 ⟨rfl, hdr⟩
      have hb := hdr.below w8.heap.size
      clear hdr
      have C8 := Lib.hid (bel2 C6.out hb (Nat.le_refl _))
      have C9 := Lib.hid (bel2 C7.out hb (Nat.le_refl _))
      have C10 := Lib.hid (bel2 D8.out hb (Nat.le_refl _))
      clear hb
      go_wp2_with fail
      refine (right_true HRa.out _ (rdGrps_good.up (rdGrps_good.below R6.out C9.out) C9.out.size) (HE.out.below C8.out)).mono ?_
      rintro e' w10 ⟨rfl, hb⟩
      have C11 := Lib.hid (bel2 C8.out hb (Nat.le_refl _))
      have C12 := Lib.hid (bel2 C9.out hb (Nat.le_refl _))
      have C13 := Lib.hid (bel2 C10.out hb (Nat.le_refl _))
      clear hb
      go_wp2
      go_ret
      exact ⟨rfl, C11.out⟩
    · have HRL := Lib.hid hrl
      clear hrl
      go_enter Tryz.func5, Tryz.ntmps5
      have B0 := Lib.hid (Below.refl w.heap.size w)
      go_wp2_with fail
      refine (S.out _ (HE.out.below B0.out)).mono ?_
      rintro e' w1 ⟨rfl, hb⟩
      have C1 := Lib.hid (bel2 B0.out hb (Nat.le_refl _))
      clear hb
      go_wp2_with fail
      refine (KS.out _ (rdGrps_good.up (rdGrps_good.below HR.out C1.out) C1.out.size)).mono ?_
      rintro e' w' ⟨rfl, rfl⟩
      go_wp2_with fail
      refine (right_true HRL.out _ (rdGrps_good.up (rdGrps_good.below HR.out C1.out) C1.out.size) (HE.out.below C1.out)).mono ?_
      rintro e' w2 ⟨rfl, hb⟩
      have C2 := Lib.hid (bel2 C1.out hb (Nat.le_refl _))
      clear hb
      go_wp2_with fail
      refine (print4_any _ _ _ _ _ (rdGrps_good.up (rdGrps_good.below HR.out C2.out) C2.out.size) (HE.out.below C2.out)).mono ?_
      rintro e' w3 ⟨rfl, hb⟩
      have C3 := Lib.hid (bel2 C2.out hb (Nat.le_refl _))
      clear hb
      go_wp2_with fail
      refine (parse_again HRL.out _ (HE.out.below C3.out)).mono ?_
      rintro e' w4 ⟨⟨A4, c4, rfl, hr4⟩, hb⟩
      have R4 := Lib.hid hr4
      clear hr4
      have C4 := Lib.hid (bel2 C3.out hb (Nat.le_refl _))
      clear hb
      have D4 := Lib.hid (Below.refl w4.heap.size w4)
      go_wp2_with fail
      refine (same_self _ _ _ _ _ _ (rdGrps_good.up (rdGrps_good.below R4.out D4.out) D4.out.size) (rdGrps_good.up (rdGrps_good.below HR.out C4.out) C4.out.size)).mono ?_
      rintro e' w5 ⟨rfl, hdr⟩
      have hb := hdr.below w4.heap.size
      clear hdr
      have C5 := Lib.hid (bel2 C4.out hb (Nat.le_refl _))
      have C6 := Lib.hid (bel2 D4.out hb (Nat.le_refl _))
      clear hb
      go_wp2_with fail
      refine (P1.out _ (HE.out.below C5.out)).mono ?_
      rintro e' w6 ⟨⟨A6, c6, rfl, hr6⟩, hb⟩
      have R6 := Lib.hid hr6
      clear hr6
      have C7 := Lib.hid (bel2 C5.out hb (Nat.le_refl _))
      have C8 := Lib.hid (bel2 C6.out hb (Nat.le_refl _))
      clear hb
      have D6 := Lib.hid (Below.refl w6.heap.size w6)
      go_wp2_with fail
      refine (print4_any _ _ _ _ _ (rdGrps_good.up (rdGrps_good.below R6.out D6.out) D6.out.size) (HE.out.below C7.out)).mono ?_
      rintro e' w7 ⟨rfl, hb⟩
      have C9 := Lib.hid (bel2 C7.out hb (Nat.le_refl _))
      have C10 := Lib.hid (bel2 C8.out hb (Nat.le_refl _))
      have C11 := Lib.hid (bel2 D6.out hb (Nat.le_refl _))
      clear hb
      go_wp2_with fail
      refine (P2.out _ (HE.out.below C9.out)).mono ?_
      rintro e' w8 ⟨⟨A8, c8, rfl, hr8⟩, hb⟩
      have R8 := Lib.hid hr8
      clear hr8
      have C12 := Lib.hid (bel2 C9.out hb (Nat.le_refl _))
      have C13 := Lib.hid (bel2 C10.out hb (Nat.le_refl _))
      have C14 := Lib.hid (bel2 C11.out hb (Nat.le_refl _))
      clear hb
      have D8 := Lib.hid (Below.refl w8.heap.size w8)
      go_wp2_with fail
      refine (same_self _ _ _ _ _ _ (rdGrps_good.up (rdGrps_good.below R6.out C14.out) C14.out.size) (rdGrps_good.up (rdGrps_good.below R8.out D8.out) D8.out.size)).mono ?_
      rintro e' w9 ⟨rfl, hdr⟩
      have hb := hdr.below w8.heap.size
      clear hdr
      have C15 := Lib.hid (bel2 C12.out hb (Nat.le_refl _))
      have C16 := Lib.hid (bel2 C13.out hb (Nat.le_refl _))
      have C17 := Lib.hid (bel2 C14.out hb (Nat.le_refl _))
      have C18 := Lib.hid (bel2 D8.out hb (Nat.le_refl _))
      clear hb
      go_wp2_with fail
      refine (right_true HRa.out _ (rdGrps_good.up (rdGrps_good.below R6.out C17.out) C17.out.size) (HE.out.below C15.out)).mono ?_
      rintro e' w10 ⟨rfl, hb⟩
      have C19 := Lib.hid (bel2 C15.out hb (Nat.le_refl _))
      have C20 := Lib.hid (bel2 C16.out hb (Nat.le_refl _))
      have C21 := Lib.hid (bel2 C17.out hb (Nat.le_refl _))
      have C22 := Lib.hid (bel2 C18.out hb (Nat.le_refl _))
      clear hb
      go_wp2
      go_ret
      exact ⟨rfl, C19.out⟩
  · have P1 := Lib.hid (fun w E => parse4_is (s := s) rfl (depL_bad h0) (by omega) w E)
    rw [depL_bad h0] at P2
    have t0 : (depE (B s) == 0) = false := by rw [beq_eq_false_iff_ne]; exact h0
    have t1 : (depE (B s) != 0) = true := by rw [bne_iff_ne]; exact h0
    clear h0 HRa
    generalize depE (B s) = ee at *
    cases hrl : rightG L
    · have KRF := Lib.hid (fun w h E => right4_any A L.length c L w h E)
      rw [hrl] at KRF
      clear hrl
      go_enter Tryz.func5, Tryz.ntmps5
      have B0 := Lib.hid (Below.refl w.heap.size w)
      go_wp2_with fail
      refine (S.out _ (HE.out.below B0.out)).mono ?_
      rintro e' w1 ⟨rfl, hb⟩
      have C1 := Lib.hid (bel2 B0.out hb (Nat.le_refl _))
      clear hb
      go_wp2_with fail
      refine (KS.out _ (rdGrps_good.up (rdGrps_good.below HR.out C1.out) C1.out.size)).mono ?_
      rintro e' w' ⟨rfl, rfl⟩
      go_wp2_with fail
      refine (KRF.out _ (rdGrps_good.up (rdGrps_good.below HR.out C1.out) C1.out.size) (HE.out.below C1.out)).mono ?_
      rintro e' w5 ⟨rfl, hb⟩
      have C2 := Lib.hid (bel2 C1.out hb (Nat.le_refl _))
      clear hb
      go_wp2_with fail
      refine (P1.out _ (HE.out.below C2.out)).mono ?_
      rintro e' w6 ⟨⟨A6, c6, rfl, hr6⟩, hb⟩
      have R6 := Lib.hid hr6
      clear hr6
      have C3 := Lib.hid (bel2 C2.out hb (Nat.le_refl _))
      clear hb
      have D6 := Lib.hid (Below.refl w6.heap.size w6)
      go_wp2_with fail
      refine (print4_any _ _ _ _ _ (rdGrps_good.up (rdGrps_good.below R6.out D6.out) D6.out.size) (HE.out.below C3.out)).mono ?_
      rintro e' w7 ⟨rfl, hb⟩
      have C4 := Lib.hid (bel2 C3.out hb (Nat.le_refl _))
      have C5 := Lib.hid (bel2 D6.out hb (Nat.le_refl _))
      clear hb
      go_wp2_with fail
      refine (P2.out _ (HE.out.below C4.out)).mono ?_
      rintro e' w8 ⟨⟨A8, c8, rfl, hr8⟩, hb⟩
      have R8 := Lib.hid hr8
      clear hr8
      have C6 := Lib.hid (bel2 C4.out hb (Nat.le_refl _))
      have C7 := Lib.hid (bel2 C5.out hb (Nat.le_refl _))
      clear hb
      have D8 := Lib.hid (Below.refl w8.heap.size w8)
      go_wp2
      go_ret
      exact ⟨rfl, C6.out⟩
    · have HRL := Lib.hid hrl
      clear hrl
      go_enter Tryz.func5, Tryz.ntmps5
      have B0 := Lib.hid (Below.refl w.heap.size w)
      go_wp2_with fail
      refine (S.out _ (HE.out.below B0.out)).mono ?_
      rintro e' w1 ⟨rfl, hb⟩
      have C1 := Lib.hid (bel2 B0.out hb (Nat.le_refl _))
      clear hb
      go_wp2_with fail
      refine (KS.out _ (rdGrps_good.up (rdGrps_good.below HR.out C1.out) C1.out.size)).mono ?_
      rintro e' w' ⟨rfl, rfl⟩
      go_wp2_with fail
      refine (right_true HRL.out _ (rdGrps_good.up (rdGrps_good.below HR.out C1.out) C1.out.size) (HE.out.below C1.out)).mono ?_
      rintro e' w2 ⟨rfl, hb⟩
      have C2 := Lib.hid (bel2 C1.out hb (Nat.le_refl _))
      clear hb
      go_wp2_with fail
      refine (print4_any _ _ _ _ _ (rdGrps_good.up (rdGrps_good.below HR.out C2.out) C2.out.size) (HE.out.below C2.out)).mono ?_
      rintro e' w3 ⟨rfl, hb⟩
      have C3 := Lib.hid (bel2 C2.out hb (Nat.le_refl _))
      clear hb
      go_wp2_with fail
      refine (parse_again HRL.out _ (HE.out.below C3.out)).mono ?_
      rintro e' w4 ⟨⟨A4, c4, rfl, hr4⟩, hb⟩
      have R4 := Lib.hid hr4
      clear hr4
      have C4 := Lib.hid (bel2 C3.out hb (Nat.le_refl _))
      clear hb
      have D4 := Lib.hid (Below.refl w4.heap.size w4)
      go_wp2_with fail
      refine (same_self _ _ _ _ _ _ (rdGrps_good.up (rdGrps_good.below R4.out D4.out) D4.out.size) (rdGrps_good.up (rdGrps_good.below HR.out C4.out) C4.out.size)).mono ?_
      rintro e' w5 ⟨rfl, hdr⟩
      have hb := hdr.below w4.heap.size
      clear hdr
      have C5 := Lib.hid (bel2 C4.out hb (Nat.le_refl _))
      have C6 := Lib.hid (bel2 D4.out hb (Nat.le_refl _))
      clear hb
      go_wp2_with fail
      refine (P1.out _ (HE.out.below C5.out)).mono ?_
      rintro e' w6 ⟨⟨A6, c6, rfl, hr6⟩, hb⟩
      have R6 := Lib.hid hr6
      clear hr6
      have C7 := Lib.hid (bel2 C5.out hb (Nat.le_refl _))
      have C8 := Lib.hid (bel2 C6.out hb (Nat.le_refl _))
      clear hb
      have D6 := Lib.hid (Below.refl w6.heap.size w6)
      go_wp2_with fail
      refine (print4_any _ _ _ _ _ (rdGrps_good.up (rdGrps_good.below R6.out D6.out) D6.out.size) (HE.out.below C7.out)).mono ?_
      rintro e' w7 ⟨rfl, hb⟩
      have C9 := Lib.hid (bel2 C7.out hb (Nat.le_refl _))
      have C10 := Lib.hid (bel2 C8.out hb (Nat.le_refl _))
      have C11 := Lib.hid (bel2 D6.out hb (Nat.le_refl _))
      clear hb
      go_wp2_with fail
      refine (P2.out _ (HE.out.below C9.out)).mono ?_
      rintro e' w8 ⟨⟨A8, c8, rfl, hr8⟩, hb⟩
      have R8 := Lib.hid hr8
      clear hr8
      have C12 := Lib.hid (bel2 C9.out hb (Nat.le_refl _))
      have C13 := Lib.hid (bel2 C10.out hb (Nat.le_refl _))
      have C14 := Lib.hid (bel2 C11.out hb (Nat.le_refl _))
      clear hb
      have D8 := Lib.hid (Below.refl w8.heap.size w8)
      go_wp2
      go_ret
      exact ⟨rfl, C12.out⟩

theorem contract (H : Type) (enc : TypeId × Value → H) (W : World) (base : Nat) (args : Array Value) (ds gs : List (DataW H)) (before : List MemPlace)
    (hval : ∀ (j : Nat) t v, Tryz.f5.params[j]? = some t → args[j]? = some v → Value.okWide Tryz.prog W .any base t v)
    (hW : DataW.Whole enc Tryz.prog Tryz.f5.params.toList Rows.dependsBackSpec.vars false W args.toList ds gs before) (E : EnvR W) :
    Calls Tryz.prog 5 args W fun e W' => ∃ v, e = .returned v ∧ Rows.dependsBackSpec.post enc Tryz.prog Tryz.f5 false true false false W args v W' := by
  have hW' := hW
  obtain ⟨p, q, hA0, _, _, _, _⟩ := hW
  have hA : DataW.TrodAll enc Tryz.prog W 0 (fun _ => true) true Tryz.f5.params.toList args.toList ds p := hA0
  rw [Tryz.params5] at hA hval
  obtain ⟨v0, vs0, d0, ds0, p0, q0, hargs, rfl, rfl, h0, r0⟩ := trodAll_cons hA
  obtain ⟨v1, vs1, d1, ds1, p1, q1, rfl, rfl, rfl, h1, r1⟩ := trodAll_cons r0
  obtain ⟨rfl, rfl, rfl⟩ := trodAll_nil r1
  obtain rfl : args = #[v0, v1] := by cases args; simp_all
  obtain ⟨A0, n0, c0, L0, rfl, hr0, hk0⟩ := open_grps_arg (hval 0 23 v0 rfl rfl) h0
  obtain ⟨s1, rfl, w1⟩ := open_str_arg (hval 1 9 v1 rfl rfl) h1
  refine (walk A0 n0 c0 L0 s1 W hr0 hk0 w1 E).mono fun e W' ⟨he, hb⟩ => ?_
  subst he
  refine ⟨_, rfl, law_post hW' rfl rfl rfl rfl rfl Tryz.underlying4 laid_out ?_ hb⟩
  rw [Tryz.params5]
  intro t ht
  simp at ht
  rcases ht with rfl | rfl <;> exact ⟨by kernel_rfl, of_decide_eq_true (by kernel_rfl)⟩

theorem reads (os : Os) {H : Type} (enc : TypeId × Value → H) : ∃ x, DataW.whole enc Tryz.prog ((World.laidAll Tryz.prog os laidL).forCall (fun _ _ => 0) ⟨#[], #[.slice none 0 0, .string ⟨#[]⟩], []⟩).memory Tryz.f5.params.toList Rows.dependsBackSpec.vars false ((#[.slice none 0 0, .string ⟨#[]⟩] : Array Value)).toList 8 = some x :=
  Option.isSome_iff_exists.1 (by kernel_rfl)
theorem readsSized (os : Os) {H : Type} (enc : TypeId × Value → H) : (OpenSpec.ofChange Rows.dependsBackSpec).bare.sizedB enc Tryz.prog Tryz.f5 false ((World.laidAll Tryz.prog os laidL).forCall (fun _ _ => 0) ⟨#[], #[.slice none 0 0, .string ⟨#[]⟩], []⟩).memory #[.slice none 0 0, .string ⟨#[]⟩] 8 = true := by kernel_rfl
theorem okWit (os : Os) : Input.okWideB Tryz.prog ((World.laidAll Tryz.prog os laidL).forCall (fun _ _ => 0) ⟨#[], #[.slice none 0 0, .string ⟨#[]⟩], []⟩) 5 ⟨#[], #[.slice none 0 0, .string ⟨#[]⟩], []⟩ = true := by kernel_rfl
theorem lifted (os : Os) (started : os.Started) (H : Type) (enc : TypeId × Value → H) (F : Stop.Interp) :
    ReturnsInHanded {} Tryz.checked os 5 .any ((OpenSpec.ofChange Rows.dependsBackSpec).preRow enc Tryz.prog Tryz.f5 Rows.dependsBackRow.domain false Rows.dependsBackRow.laid) (((OpenSpec.ofChange Rows.dependsBackSpec).at F).post enc Tryz.prog Tryz.f5 false true false false) := by
  obtain ⟨x, hx⟩ := reads os enc
  have hz := readsSized os enc
  refine returnsInHanded_of_row (C := Tryz.checked) (s := OpenSpec.ofChange Rows.dependsBackSpec) own' started (by kernel_rfl) Tryz.func5
    ⟨World.laidAll Tryz.prog os laidL, fun _ _ => 0, ⟨#[], #[.slice none 0 0, .string ⟨#[]⟩], []⟩, door_os os, door_shaped os _, (Input.okWide_of_okWideB (base := 0) (okWit os)).1, (Input.okWide_of_okWideB (okWit os)).2,
      OpenSpec.preRow_of_cond 8 hx rfl (fun k hk => by cases hk) hz (door_met os _), by
        simp only [Assume.holds]
        exact ⟨by simp, by simp, fun _ => Modest.zero, by simp, by simp⟩⟩ ?_
  intro W base args ds gs before hval hW _ _ _ hL hsh _
  exact contract H enc W base args ds gs before hval hW (env_of hL hsh)

theorem said : Rows.DependsBackSaid :=
  OpenClaim.holds_of_cond 5 Tryz.f5 rfl rfl rfl rfl rfl rfl rfl ⟨rfl, rfl, rfl, rfl, rfl⟩ rfl rfl rfl rfl rfl (by kernel_rfl) Tryz.func5 (by kernel_rfl)
    (of_decide_eq_true (by kernel_rfl)) (by unfold Func.isWrapper; first | (rw [if_pos (by decide +kernel)]; kernel_rfl) | (rw [if_neg (by decide +kernel)]; exact ⟨rfl, rfl⟩))
    (fun os started H enc _ F => by rw [OpenClaim.pre_eq_preRow]; exact lifted os started H enc F)

theorem proved : Rows.DependsBackCardSaid :=
  Claim7.holds_tied_plain_at .later [] _ _ _ _ said (fun _ h => by cases h) (by kernel_rfl) (fun _ h => by cases h) dependsBack_row_tie rfl ⟨rfl, rfl⟩ (by kernel_rfl) rfl
    (fun f fn hf hfn => by
      obtain rfl : f = 5 := Option.some.inj ((show Tryz.prog.funcNamed "keelson/keelsonlaw4.DependsBack" = some 5 by kernel_rfl).symm.trans hf) |>.symm
      obtain rfl : fn = Tryz.f5 := (Option.some.inj (Tryz.func5.symm.trans hfn)).symm
      exact ⟨by kernel_rfl, fun j t ht => by
        rw [Tryz.params5] at ht
        have hm : t ∈ [23, 9] := by have := Array.mem_of_getElem? ht; simp at this; simp [this]
        have hall : ([23, 9].all fun u => !Tryz.prog.wantsStandIn u) = true := by kernel_rfl
        exact (show Tryz.prog.wantsStandIn t = false by simpa using List.all_eq_true.1 hall t hm)⟩)
    (by kernel_rfl)
#print axioms proved
end Go.Proofs.YtnokmgkkefonbaaGreatDoor.dependsBack
