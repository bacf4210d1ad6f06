/- keelsonlaw3.RelationOne: called with any arguments that can be read it returns true, and its arguments read as before. Condition: the library variables that the row lists hold what the program text lays in them, which the card ties to that text. -/
import Derived.Test.YtlelajcnfmmmjaaDoorRelShown
import Derived.Test.YtlelajcnfmmmjaaDoorOrderP
import Derived.Test.YtlelajcnfmmmjaaDoorDoor
import Derived.WalkKit
import Derived.ProofKit
import Derived.OpenShut
import Derived.SevenTiedAt
import Derived.Outline
set_option maxRecDepth 100000
set_option linter.unusedVariables false
set_option linter.unusedSimpArgs false
namespace Go.Proofs.YtlelajcnfmmmjaaDoor.relationOne
open Go.ChangeShapes Go.WideShapes Go.ChangeAt Go.RowKit

theorem hold_bad {op : Int} {a b : List Nat} (h0 : op ≠ 0) (h : parseE a ≠ 0 ∨ parseE b ≠ 0) : holdB op a b = false := by
  unfold holdB
  rw [decide_eq_false h0, Bool.false_or]
  rcases h with h | h <;> rw [decide_eq_false h] <;> simp
theorem hold_ok {op : Int} {a b : List Nat} (h0 : op ≠ 0) (ha : parseE a = 0) (hb : parseE b = 0) : holdB op a b = opB op (orderV a b) := by
  unfold holdB
  rw [decide_eq_false h0, Bool.false_or, decide_eq_true ha, decide_eq_true hb]; rfl
set_option maxHeartbeats 4000000 in
theorem walk (s t : ByteArray) (w : World) (hs : s.size ≤ maxLen) (ht : t.size ≤ maxLen) (E : EnvR w) :
    Calls Tryd.prog 4 #[.string s, .string t] w fun e w' => e = .returned (.bool true) ∧ Below w.heap.size w w' := by
  have HE := Lib.hid E
  have S := Lib.hid (fun w E => shown3_any w E)
  clear E
  by_cases g1 : (300 : Int) < (s.size : Int)
  · have S := S
    go_enter Tryd.func4, Tryd.ntmps4
    go_wp2_with fail
    refine (S.out _ HE.out).mono ?_
    rintro e' w1 ⟨rfl, hb⟩
    have B1 := Lib.hid (bel_2 (Below.refl w.heap.size w) hb)
    clear hb
    go_wp2
    go_ret
    exact ⟨rfl, B1.out⟩
  by_cases g2 : (300 : Int) < (t.size : Int)
  · have S := S
    go_enter Tryd.func4, Tryd.ntmps4
    go_wp2_with fail
    refine (S.out _ HE.out).mono ?_
    rintro e' w1 ⟨rfl, hb⟩
    have B1 := Lib.hid (bel_2 (Below.refl w.heap.size w) hb)
    clear hb
    go_wp2
    go_ret
    exact ⟨rfl, B1.out⟩
  have K0 := Lib.hid (fun w (E : EnvR w) => rholds_any 0 s t w E.env)
  have K1 := Lib.hid (fun w (E : EnvR w) => rholds_any 1 s t w E.env)
  have K2 := Lib.hid (fun w (E : EnvR w) => rholds_any 2 s t w E.env)
  have K3 := Lib.hid (fun w (E : EnvR w) => rholds_any 3 s t w E.env)
  have K4 := Lib.hid (fun w (E : EnvR w) => rholds_any 4 s t w E.env)
  have K5 := Lib.hid (fun w (E : EnvR w) => rholds_any 5 s t w E.env)
  have R5 := Lib.hid (fun w (E : EnvR w) => rholds_any 5 t s w E.env)
  have R3 := Lib.hid (fun w (E : EnvR w) => rholds_any 3 t s w E.env)
  have KS := Lib.hid (fun w (E : EnvR w) => rholds_any 3 s s w E.env)
  have KT := Lib.hid (fun w (E : EnvR w) => rholds_any 3 t t w E.env)
  rw [show holdB 0 (B s) (B t) = true from rfl] at K0
  by_cases pa : parseE (B s) = 0
  · rw [hold_ok (op := 3) (by decide) pa pa, orderV_self, show opB 3 0 = true from rfl] at KS
    by_cases pb : parseE (B t) = 0
    · rw [hold_ok (op := 3) (by decide) pb pb, orderV_self, show opB 3 0 = true from rfl] at KT
      rw [hold_ok (by decide) pa pb] at K1 K2 K3 K4 K5
      rw [hold_ok (by decide) pb pa, orderV_neg] at R5 R3
      have hk : opB 1 (orderV (B s) (B t)) = decide (orderV (B s) (B t) < 0) ∧ opB 2 (orderV (B s) (B t)) = decide (orderV (B s) (B t) ≤ 0) ∧ opB 3 (orderV (B s) (B t)) = decide (orderV (B s) (B t) = 0) ∧ opB 4 (orderV (B s) (B t)) = decide (0 ≤ orderV (B s) (B t)) ∧ opB 5 (orderV (B s) (B t)) = decide (0 < orderV (B s) (B t)) ∧
          opB 5 (-orderV (B s) (B t)) = decide (0 < -orderV (B s) (B t)) ∧ opB 3 (-orderV (B s) (B t)) = decide (-orderV (B s) (B t) = 0) := ⟨rfl, rfl, rfl, rfl, rfl, rfl, rfl⟩
      rw [hk.1] at K1
      rw [hk.2.1] at K2
      rw [hk.2.2.1] at K3
      rw [hk.2.2.2.1] at K4
      rw [hk.2.2.2.2.1] at K5
      rw [hk.2.2.2.2.2.1] at R5
      rw [hk.2.2.2.2.2.2] at R3
      clear hk pa pb
      generalize orderV (B s) (B t) = c at *
      rcases Int.lt_trichotomy c 0 with h | h | h
      · rw [decide_eq_true h] at K1
        rw [decide_eq_true (show c ≤ 0 by omega)] at K2
        rw [decide_eq_false (show ¬ c = 0 by omega)] at K3
        rw [decide_eq_false (show ¬ 0 ≤ c by omega)] at K4
        rw [decide_eq_false (show ¬ 0 < c by omega)] at K5
        rw [decide_eq_true (show 0 < -c by omega)] at R5
        rw [decide_eq_false (show ¬ -c = 0 by omega)] at R3
        clear h
        go_enter Tryd.func4, Tryd.ntmps4
        go_wp2_with fail
        refine (S.out _ HE.out).mono ?_
        rintro e' w1 ⟨rfl, hb⟩
        have B1 := Lib.hid (bel_2 (Below.refl w.heap.size w) hb)
        clear hb
        go_wp2_with fail
        refine (K1.out _ (HE.out.below B1.out)).mono ?_
        rintro e' w2 ⟨rfl, hb⟩
        have B2 := Lib.hid (bel_2 B1.out hb)
        clear hb
        go_wp2_with fail
        refine (K3.out _ (HE.out.below B2.out)).mono ?_
        rintro e' w3 ⟨rfl, hb⟩
        have B3 := Lib.hid (bel_2 B2.out hb)
        clear hb
        go_wp2_with fail
        refine (K5.out _ (HE.out.below B3.out)).mono ?_
        rintro e' w4 ⟨rfl, hb⟩
        have B4 := Lib.hid (bel_2 B3.out hb)
        clear hb
        go_wp2_with fail
        refine (KS.out _ (HE.out.below B4.out)).mono ?_
        rintro e' w5 ⟨rfl, hb⟩
        have B5 := Lib.hid (bel_2 B4.out hb)
        clear hb
        go_wp2_with fail
        refine (KT.out _ (HE.out.below B5.out)).mono ?_
        rintro e' w6 ⟨rfl, hb⟩
        have B6 := Lib.hid (bel_2 B5.out hb)
        clear hb
        go_wp2_with fail
        refine (K0.out _ (HE.out.below B6.out)).mono ?_
        rintro e' w7 ⟨rfl, hb⟩
        have B7 := Lib.hid (bel_2 B6.out hb)
        clear hb
        go_wp2_with fail
        refine (K2.out _ (HE.out.below B7.out)).mono ?_
        rintro e' w8 ⟨rfl, hb⟩
        have B8 := Lib.hid (bel_2 B7.out hb)
        clear hb
        go_wp2_with fail
        refine (K4.out _ (HE.out.below B8.out)).mono ?_
        rintro e' w9 ⟨rfl, hb⟩
        have B9 := Lib.hid (bel_2 B8.out hb)
        clear hb
        go_wp2_with fail
        refine (R5.out _ (HE.out.below B9.out)).mono ?_
        rintro e' w10 ⟨rfl, hb⟩
        have B10 := Lib.hid (bel_2 B9.out hb)
        clear hb
        go_wp2_with fail
        refine (R3.out _ (HE.out.below B10.out)).mono ?_
        rintro e' w11 ⟨rfl, hb⟩
        have B11 := Lib.hid (bel_2 B10.out hb)
        clear hb
        go_wp2
        go_ret
        exact ⟨rfl, B11.out⟩
      · rw [decide_eq_false (show ¬ c < 0 by omega)] at K1
        rw [decide_eq_true (show c ≤ 0 by omega)] at K2
        rw [decide_eq_true h] at K3
        rw [decide_eq_true (show 0 ≤ c by omega)] at K4
        rw [decide_eq_false (show ¬ 0 < c by omega)] at K5
        rw [decide_eq_false (show ¬ 0 < -c by omega)] at R5
        rw [decide_eq_true (show -c = 0 by omega)] at R3
        clear h
        go_enter Tryd.func4, Tryd.ntmps4
        go_wp2_with fail
        refine (S.out _ HE.out).mono ?_
        rintro e' w1 ⟨rfl, hb⟩
        have B1 := Lib.hid (bel_2 (Below.refl w.heap.size w) hb)
        clear hb
        go_wp2_with fail
        refine (K1.out _ (HE.out.below B1.out)).mono ?_
        rintro e' w2 ⟨rfl, hb⟩
        have B2 := Lib.hid (bel_2 B1.out hb)
        clear hb
        go_wp2_with fail
        refine (K3.out _ (HE.out.below B2.out)).mono ?_
        rintro e' w3 ⟨rfl, hb⟩
        have B3 := Lib.hid (bel_2 B2.out hb)
        clear hb
        go_wp2_with fail
        refine (K5.out _ (HE.out.below B3.out)).mono ?_
        rintro e' w4 ⟨rfl, hb⟩
        have B4 := Lib.hid (bel_2 B3.out hb)
        clear hb
        go_wp2_with fail
        refine (KS.out _ (HE.out.below B4.out)).mono ?_
        rintro e' w5 ⟨rfl, hb⟩
        have B5 := Lib.hid (bel_2 B4.out hb)
        clear hb
        go_wp2_with fail
        refine (KT.out _ (HE.out.below B5.out)).mono ?_
        rintro e' w6 ⟨rfl, hb⟩
        have B6 := Lib.hid (bel_2 B5.out hb)
        clear hb
        go_wp2_with fail
        refine (K0.out _ (HE.out.below B6.out)).mono ?_
        rintro e' w7 ⟨rfl, hb⟩
        have B7 := Lib.hid (bel_2 B6.out hb)
        clear hb
        go_wp2_with fail
        refine (K2.out _ (HE.out.below B7.out)).mono ?_
        rintro e' w8 ⟨rfl, hb⟩
        have B8 := Lib.hid (bel_2 B7.out hb)
        clear hb
        go_wp2_with fail
        refine (K4.out _ (HE.out.below B8.out)).mono ?_
        rintro e' w9 ⟨rfl, hb⟩
        have B9 := Lib.hid (bel_2 B8.out hb)
        clear hb
        go_wp2_with fail
        refine (R5.out _ (HE.out.below B9.out)).mono ?_
        rintro e' w10 ⟨rfl, hb⟩
        have B10 := Lib.hid (bel_2 B9.out hb)
        clear hb
        go_wp2_with fail
        refine (R3.out _ (HE.out.below B10.out)).mono ?_
        rintro e' w11 ⟨rfl, hb⟩
        have B11 := Lib.hid (bel_2 B10.out hb)
        clear hb
        go_wp2
        go_ret
        exact ⟨rfl, B11.out⟩
      · rw [decide_eq_false (show ¬ c < 0 by omega)] at K1
        rw [decide_eq_false (show ¬ c ≤ 0 by omega)] at K2
        rw [decide_eq_false (show ¬ c = 0 by omega)] at K3
        rw [decide_eq_true (show 0 ≤ c by omega)] at K4
        rw [decide_eq_true (show 0 < c by omega)] at K5
        rw [decide_eq_false (show ¬ 0 < -c by omega)] at R5
        rw [decide_eq_false (show ¬ -c = 0 by omega)] at R3
        clear h
        go_enter Tryd.func4, Tryd.ntmps4
        go_wp2_with fail
        refine (S.out _ HE.out).mono ?_
        rintro e' w1 ⟨rfl, hb⟩
        have B1 := Lib.hid (bel_2 (Below.refl w.heap.size w) hb)
        clear hb
        go_wp2_with fail
        refine (K1.out _ (HE.out.below B1.out)).mono ?_
        rintro e' w2 ⟨rfl, hb⟩
        have B2 := Lib.hid (bel_2 B1.out hb)
        clear hb
        go_wp2_with fail
        refine (K3.out _ (HE.out.below B2.out)).mono ?_
        rintro e' w3 ⟨rfl, hb⟩
        have B3 := Lib.hid (bel_2 B2.out hb)
        clear hb
        go_wp2_with fail
        refine (K5.out _ (HE.out.below B3.out)).mono ?_
        rintro e' w4 ⟨rfl, hb⟩
        have B4 := Lib.hid (bel_2 B3.out hb)
        clear hb
        go_wp2_with fail
        refine (KS.out _ (HE.out.below B4.out)).mono ?_
        rintro e' w5 ⟨rfl, hb⟩
        have B5 := Lib.hid (bel_2 B4.out hb)
        clear hb
        go_wp2_with fail
        refine (KT.out _ (HE.out.below B5.out)).mono ?_
        rintro e' w6 ⟨rfl, hb⟩
        have B6 := Lib.hid (bel_2 B5.out hb)
        clear hb
        go_wp2_with fail
        refine (K0.out _ (HE.out.below B6.out)).mono ?_
        rintro e' w7 ⟨rfl, hb⟩
        have B7 := Lib.hid (bel_2 B6.out hb)
        clear hb
        go_wp2_with fail
        refine (K2.out _ (HE.out.below B7.out)).mono ?_
        rintro e' w8 ⟨rfl, hb⟩
        have B8 := Lib.hid (bel_2 B7.out hb)
        clear hb
        go_wp2_with fail
        refine (K4.out _ (HE.out.below B8.out)).mono ?_
        rintro e' w9 ⟨rfl, hb⟩
        have B9 := Lib.hid (bel_2 B8.out hb)
        clear hb
        go_wp2_with fail
        refine (R5.out _ (HE.out.below B9.out)).mono ?_
        rintro e' w10 ⟨rfl, hb⟩
        have B10 := Lib.hid (bel_2 B9.out hb)
        clear hb
        go_wp2_with fail
        refine (R3.out _ (HE.out.below B10.out)).mono ?_
        rintro e' w11 ⟨rfl, hb⟩
        have B11 := Lib.hid (bel_2 B10.out hb)
        clear hb
        go_wp2
        go_ret
        exact ⟨rfl, B11.out⟩
    · rw [hold_bad (by decide) (.inr pb)] at K1 K2 K3 K4 K5
      rw [hold_bad (by decide) (.inl pb)] at R5 R3
      rw [hold_bad (by decide) (.inl pb)] at KT
      clear pa pb
      go_enter Tryd.func4, Tryd.ntmps4
      go_wp2_with fail
      refine (S.out _ HE.out).mono ?_
      rintro e' w1 ⟨rfl, hb⟩
      have B1 := Lib.hid (bel_2 (Below.refl w.heap.size w) hb)
      clear hb
      go_wp2_with fail
      refine (K1.out _ (HE.out.below B1.out)).mono ?_
      rintro e' w2 ⟨rfl, hb⟩
      have B2 := Lib.hid (bel_2 B1.out hb)
      clear hb
      go_wp2_with fail
      refine (K3.out _ (HE.out.below B2.out)).mono ?_
      rintro e' w3 ⟨rfl, hb⟩
      have B3 := Lib.hid (bel_2 B2.out hb)
      clear hb
      go_wp2_with fail
      refine (K5.out _ (HE.out.below B3.out)).mono ?_
      rintro e' w4 ⟨rfl, hb⟩
      have B4 := Lib.hid (bel_2 B3.out hb)
      clear hb
      go_wp2_with fail
      refine (KS.out _ (HE.out.below B4.out)).mono ?_
      rintro e' w5 ⟨rfl, hb⟩
      have B5 := Lib.hid (bel_2 B4.out hb)
      clear hb
      go_wp2_with fail
      refine (KT.out _ (HE.out.below B5.out)).mono ?_
      rintro e' w6 ⟨rfl, hb⟩
      have B6 := Lib.hid (bel_2 B5.out hb)
      clear hb
      go_wp2_with fail
      refine (K0.out _ (HE.out.below B6.out)).mono ?_
      rintro e' w7 ⟨rfl, hb⟩
      have B7 := Lib.hid (bel_2 B6.out hb)
      clear hb
      go_wp2_with fail
      refine (K2.out _ (HE.out.below B7.out)).mono ?_
      rintro e' w8 ⟨rfl, hb⟩
      have B8 := Lib.hid (bel_2 B7.out hb)
      clear hb
      go_wp2_with fail
      refine (K4.out _ (HE.out.below B8.out)).mono ?_
      rintro e' w9 ⟨rfl, hb⟩
      have B9 := Lib.hid (bel_2 B8.out hb)
      clear hb
      go_wp2_with fail
      refine (R5.out _ (HE.out.below B9.out)).mono ?_
      rintro e' w10 ⟨rfl, hb⟩
      have B10 := Lib.hid (bel_2 B9.out hb)
      clear hb
      go_wp2_with fail
      refine (R3.out _ (HE.out.below B10.out)).mono ?_
      rintro e' w11 ⟨rfl, hb⟩
      have B11 := Lib.hid (bel_2 B10.out hb)
      clear hb
      go_wp2
      go_ret
      exact ⟨rfl, B11.out⟩
  · rw [hold_bad (by decide) (.inl pa)] at K1 K2 K3 K4 K5
    rw [hold_bad (by decide) (.inr pa)] at R5 R3
    rw [hold_bad (by decide) (.inl pa)] at KS
    clear pa
    go_enter Tryd.func4, Tryd.ntmps4
    go_wp2_with fail
    refine (S.out _ HE.out).mono ?_
    rintro e' w1 ⟨rfl, hb⟩
    have B1 := Lib.hid (bel_2 (Below.refl w.heap.size w) hb)
    clear hb
    go_wp2_with fail
    refine (K1.out _ (HE.out.below B1.out)).mono ?_
    rintro e' w2 ⟨rfl, hb⟩
    have B2 := Lib.hid (bel_2 B1.out hb)
    clear hb
    go_wp2_with fail
    refine (K3.out _ (HE.out.below B2.out)).mono ?_
    rintro e' w3 ⟨rfl, hb⟩
    have B3 := Lib.hid (bel_2 B2.out hb)
    clear hb
    go_wp2_with fail
    refine (K5.out _ (HE.out.below B3.out)).mono ?_
    rintro e' w4 ⟨rfl, hb⟩
    have B4 := Lib.hid (bel_2 B3.out hb)
    clear hb
    go_wp2_with fail
    refine (KS.out _ (HE.out.below B4.out)).mono ?_
    rintro e' w5 ⟨rfl, hb⟩
    have B5 := Lib.hid (bel_2 B4.out hb)
    clear hb
    go_wp2_with fail
    refine (K0.out _ (HE.out.below B5.out)).mono ?_
    rintro e' w6 ⟨rfl, hb⟩
    have B6 := Lib.hid (bel_2 B5.out hb)
    clear hb
    go_wp2_with fail
    refine (K2.out _ (HE.out.below B6.out)).mono ?_
    rintro e' w7 ⟨rfl, hb⟩
    have B7 := Lib.hid (bel_2 B6.out hb)
    clear hb
    go_wp2_with fail
    refine (K4.out _ (HE.out.below B7.out)).mono ?_
    rintro e' w8 ⟨rfl, hb⟩
    have B8 := Lib.hid (bel_2 B7.out hb)
    clear hb
    go_wp2_with fail
    refine (R5.out _ (HE.out.below B8.out)).mono ?_
    rintro e' w9 ⟨rfl, hb⟩
    have B9 := Lib.hid (bel_2 B8.out hb)
    clear hb
    go_wp2_with fail
    refine (R3.out _ (HE.out.below B9.out)).mono ?_
    rintro e' w10 ⟨rfl, hb⟩
    have B10 := Lib.hid (bel_2 B9.out hb)
    clear hb
    go_wp2
    go_ret
    exact ⟨rfl, B10.out⟩

theorem contract (H : Type) (enc : TypeId × Value → H) (W : World) (base : Nat) (args : Array Value) (ds gs : List (DataW H)) (before : List MemPlace)
    (hval : ∀ (j : Nat) t v, Tryd.f4.params[j]? = some t → args[j]? = some v → Value.okWide Tryd.prog W .any base t v)
    (hW : DataW.Whole enc Tryd.prog Tryd.f4.params.toList Rows.relationOneSpec.vars false W args.toList ds gs before) (E : EnvR W) :
    Calls Tryd.prog 4 args W fun e W' => ∃ v, e = .returned v ∧ Rows.relationOneSpec.post enc Tryd.prog Tryd.f4 false true false false W args v W' := by
  have hW' := hW
  obtain ⟨p, q, hA0, _, _, _, _⟩ := hW
  have hA : DataW.TrodAll enc Tryd.prog W 0 (fun _ => true) true Tryd.f4.params.toList args.toList ds p := hA0
  rw [Tryd.params4] at hA hval
  obtain ⟨v0, vs0, d0, ds0, p0, q0, hargs, rfl, rfl, h0, r0⟩ := trodAll_cons hA
  obtain ⟨v1, vs1, d1, ds1, p1, q1, rfl, rfl, rfl, h1, r1⟩ := trodAll_cons r0
  obtain ⟨rfl, rfl, rfl⟩ := trodAll_nil r1
  obtain rfl : args = #[v0, v1] := by cases args; simp_all
  obtain ⟨s0, rfl, w0⟩ := open_str_arg (hval 0 9 v0 rfl rfl) h0
  obtain ⟨s1, rfl, w1⟩ := open_str_arg (hval 1 9 v1 rfl rfl) h1
  refine (walk s0 s1 W w0 w1 E).mono fun e W' ⟨he, hb⟩ => ?_
  subst he
  refine ⟨_, rfl, law_post hW' rfl rfl rfl rfl rfl Tryd.underlying4 laid_out ?_ hb⟩
  rw [Tryd.params4]
  intro t ht
  simp at ht
  subst ht
  exact ⟨by kernel_rfl, of_decide_eq_true (by kernel_rfl)⟩

theorem reads (os : Os) {H : Type} (enc : TypeId × Value → H) : ∃ x, DataW.whole enc Tryd.prog ((World.laidAll Tryd.prog os laidL).forCall (fun _ _ => 0) ⟨#[], #[.string ⟨#[]⟩, .string ⟨#[]⟩], []⟩).memory Tryd.f4.params.toList Rows.relationOneSpec.vars false ((#[.string ⟨#[]⟩, .string ⟨#[]⟩] : Array Value)).toList 8 = some x :=
  Option.isSome_iff_exists.1 (by kernel_rfl)
theorem readsSized (os : Os) {H : Type} (enc : TypeId × Value → H) : (OpenSpec.ofChange Rows.relationOneSpec).bare.sizedB enc Tryd.prog Tryd.f4 false ((World.laidAll Tryd.prog os laidL).forCall (fun _ _ => 0) ⟨#[], #[.string ⟨#[]⟩, .string ⟨#[]⟩], []⟩).memory #[.string ⟨#[]⟩, .string ⟨#[]⟩] 8 = true := by kernel_rfl
theorem okWit (os : Os) : Input.okWideB Tryd.prog ((World.laidAll Tryd.prog os laidL).forCall (fun _ _ => 0) ⟨#[], #[.string ⟨#[]⟩, .string ⟨#[]⟩], []⟩) 4 ⟨#[], #[.string ⟨#[]⟩, .string ⟨#[]⟩], []⟩ = true := by kernel_rfl
theorem lifted (os : Os) (started : os.Started) (H : Type) (enc : TypeId × Value → H) (F : Stop.Interp) :
    ReturnsInHanded {} Tryd.checked os 4 .any ((OpenSpec.ofChange Rows.relationOneSpec).preRow enc Tryd.prog Tryd.f4 Rows.relationOneRow.domain false Rows.relationOneRow.laid) (((OpenSpec.ofChange Rows.relationOneSpec).at F).post enc Tryd.prog Tryd.f4 false true false false) := by
  obtain ⟨x, hx⟩ := reads os enc
  have hz := readsSized os enc
  refine returnsInHanded_of_row (C := Tryd.checked) (s := OpenSpec.ofChange Rows.relationOneSpec) own' started (by kernel_rfl) Tryd.func4
    ⟨World.laidAll Tryd.prog os laidL, fun _ _ => 0, ⟨#[], #[.string ⟨#[]⟩, .string ⟨#[]⟩], []⟩, door_os os, door_shaped os _, (Input.okWide_of_okWideB (base := 0) (okWit os)).1, (Input.okWide_of_okWideB (okWit os)).2,
      OpenSpec.preRow_of_cond 8 hx rfl (fun k hk => by cases hk) hz (door_met os _), by
        simp only [Assume.holds]
        exact ⟨by simp, by simp, fun _ => Modest.zero, by simp, by simp⟩⟩ ?_
  intro W base args ds gs before hval hW _ _ _ hL hsh _
  exact contract H enc W base args ds gs before hval hW (env_of hL hsh)

theorem said : Rows.RelationOneSaid :=
  OpenClaim.holds_of_cond 4 Tryd.f4 rfl rfl rfl rfl rfl rfl rfl ⟨rfl, rfl, rfl, rfl, rfl⟩ rfl rfl rfl rfl rfl (by kernel_rfl) Tryd.func4 (by kernel_rfl)
    (of_decide_eq_true (by kernel_rfl)) (by unfold Func.isWrapper; first | (rw [if_pos (by decide +kernel)]; kernel_rfl) | (rw [if_neg (by decide +kernel)]; exact ⟨rfl, rfl⟩))
    (fun os started H enc _ F => by rw [OpenClaim.pre_eq_preRow]; exact lifted os started H enc F)

theorem proved : Rows.RelationOneCardSaid :=
  Claim7.holds_tied_plain_at .later [] _ _ _ _ said (fun _ h => by cases h) (by kernel_rfl) (fun _ h => by cases h) relationOne_row_tie rfl ⟨rfl, rfl⟩ (by kernel_rfl) rfl
    (fun f fn hf hfn => by
      obtain rfl : f = 4 := Option.some.inj ((show Tryd.prog.funcNamed "keelson/keelsonlaw3.RelationOne" = some 4 by kernel_rfl).symm.trans hf) |>.symm
      obtain rfl : fn = Tryd.f4 := (Option.some.inj (Tryd.func4.symm.trans hfn)).symm
      exact ⟨by kernel_rfl, fun j t ht => by
        rw [Tryd.params4] at ht
        have hm : t ∈ [9] := by have := Array.mem_of_getElem? ht; simp at this; simp [this]
        have hall : ([9].all fun u => !Tryd.prog.wantsStandIn u) = true := by kernel_rfl
        exact (show Tryd.prog.wantsStandIn t = false by simpa using List.all_eq_true.1 hall t hm)⟩)
    (by kernel_rfl)
#print axioms proved
end Go.Proofs.YtlelajcnfmmmjaaDoor.relationOne
