/- keelsonlaw4.DependsPrints: called with any arguments that can be read it returns true, and its arguments read as before. Condition: the library variables that the row lists hold what the program text lays in them, which the card ties to that text. -/
import Derived.Test.YtnokmgkkefonbaaGreatDoorD4tZ
import Derived.Test.YtnokmgkkefonbaaGreatDoorD4gZ
import Derived.Test.YtnokmgkkefonbaaGreatDoorMB
import Derived.Test.YtnokmgkkefonbaaGreatDoorDoorZ
import Derived.WalkKit
import Derived.ProofKit
import Derived.OpenShut
import Derived.SevenTiedAt
import Derived.Outline
set_option maxRecDepth 100000
set_option linter.unusedVariables false
set_option linter.unusedSimpArgs false
namespace Go.Proofs.YtnokmgkkefonbaaGreatDoor.dependsPrints
open Go.ChangeShapes Go.WideShapes Go.ChangeAt Go.RowKit

set_option maxHeartbeats 8000000 in
theorem walk (A : Option Addr) (n c : Nat) (L : List (List Atm)) (A' : Option Addr) (n' c' : Nat) (l : List Atm) (w : World) (hr : rdGrps w (lt_ w.heap.size) L [.slice A n c]) (_ : ∀ g ∈ L, ∀ a ∈ g, AtmOk a) (ha : rdAtms w (lt_ w.heap.size) l [.slice A' n' c']) (_ : ∀ a ∈ l, AtmOk a) (E : EnvR w) :
    Calls Tryz.prog 4 #[.slice A n c, .slice A' n' c'] w fun e w' => e = .returned (.bool true) ∧ Below w.heap.size w w' := by
  have HE := Lib.hid E
  have HR := Lib.hid hr
  have HA := Lib.hid ha
  have S := Lib.hid (fun w E => shown4_any w E)
  have KS := Lib.hid (fun w h => small4_any A n c L w h)
  have KL := Lib.hid (fun w h => light_any A' n' c' l w h)
  clear E hr ha
  cases hsm : smallB L
  · rw [hsm] at KS
    clear hsm
    generalize lightB l = lb at *
    go_enter Tryz.func4, Tryz.ntmps4
    have B0 := Lib.hid (Below.refl w.heap.size w)
    go_wp2_with fail
    refine (S.out _ (HE.out.below B0.out)).mono ?_
    rintro e' w1 ⟨rfl, hb⟩
    have C1 := Lib.hid (bel2 B0.out hb (Nat.le_refl _))
    clear hb
    go_wp2_with fail
    refine (KS.out _ (rdGrps_good.up (rdGrps_good.below HR.out C1.out) C1.out.size)).mono ?_
    rintro e' w' ⟨rfl, rfl⟩
    go_wp2_with fail
    refine (KL.out _ (rdAtms_good.up (rdAtms_good.below HA.out C1.out) C1.out.size)).mono ?_
    rintro e' w' ⟨rfl, rfl⟩
    go_wp2
    go_ret
    exact ⟨rfl, C1.out⟩
  cases hlm : lightB l
  · rw [hsm] at KS
    rw [hlm] at KL
    clear hsm hlm
    go_enter Tryz.func4, Tryz.ntmps4
    have B0 := Lib.hid (Below.refl w.heap.size w)
    go_wp2_with fail
    refine (S.out _ (HE.out.below B0.out)).mono ?_
    rintro e' w1 ⟨rfl, hb⟩
    have C1 := Lib.hid (bel2 B0.out hb (Nat.le_refl _))
    clear hb
    go_wp2_with fail
    refine (KS.out _ (rdGrps_good.up (rdGrps_good.below HR.out C1.out) C1.out.size)).mono ?_
    rintro e' w' ⟨rfl, rfl⟩
    go_wp2_with fail
    refine (KL.out _ (rdAtms_good.up (rdAtms_good.below HA.out C1.out) C1.out.size)).mono ?_
    rintro e' w' ⟨rfl, rfl⟩
    go_wp2
    go_ret
    exact ⟨rfl, C1.out⟩
  have hss := small_size hsm
  have hls := light_size hlm
  have K1 := Lib.hid (fun w h E => right4_any A n c L w h E)
  have K2 := Lib.hid (fun w h => q4right_any A n c L w h (fun g hg a ha => by have := ((hss.2 g hg).2 a ha).1; omega))
  have K3 := Lib.hid (fun w h E => print4_any A n c L w h E)
  have K4 := Lib.hid (fun w h => q4print_any A n c L w h (fun g hg a ha => by have := ((hss.2 g hg).2 a ha).1; omega))
  have K5 := Lib.hid (fun w h E => join4_any A' n' c' l w h (by omega) E)
  have K6 := Lib.hid (fun w h => q4join_any A' n' c' l w h (by omega) (fun a ha => by have := (hls.2 a ha).1; omega))
  rw [hsm] at KS
  rw [hlm] at KL
  clear hsm hlm hss hls
  generalize rightG L = rb at *
  generalize mk (prtG L) = T at *
  generalize mk (prtG (l.map fun a => [a])) = U at *
  cases rb
  all_goals
    go_enter Tryz.func4, Tryz.ntmps4
    have B0 := Lib.hid (Below.refl w.heap.size w)
    go_wp2_with fail
    refine (S.out _ (HE.out.below B0.out)).mono ?_
    rintro e' w1 ⟨rfl, hb⟩
    have C1 := Lib.hid (bel2 B0.out hb (Nat.le_refl _))
    clear hb
    go_wp2_with fail
    refine (KS.out _ (rdGrps_good.up (rdGrps_good.below HR.out C1.out) C1.out.size)).mono ?_
    rintro e' w' ⟨rfl, rfl⟩
    go_wp2_with fail
    refine (KL.out _ (rdAtms_good.up (rdAtms_good.below HA.out C1.out) C1.out.size)).mono ?_
    rintro e' w' ⟨rfl, rfl⟩
    go_wp2_with fail
    refine (K1.out _ (rdGrps_good.up (rdGrps_good.below HR.out C1.out) C1.out.size) (HE.out.below C1.out)).mono ?_
    rintro e' w2 ⟨rfl, hb⟩
    have C2 := Lib.hid (bel2 C1.out hb (Nat.le_refl _))
    clear hb
    go_wp2_with fail
    refine (K2.out _ (rdGrps_good.up (rdGrps_good.below HR.out C2.out) C2.out.size)).mono ?_
    rintro e' w3 ⟨rfl, hb⟩
    have C3 := Lib.hid (bel2 C2.out hb (Nat.le_refl _))
    clear hb
    go_wp2_with fail
    refine (K3.out _ (rdGrps_good.up (rdGrps_good.below HR.out C3.out) C3.out.size) (HE.out.below C3.out)).mono ?_
    rintro e' w4 ⟨rfl, hb⟩
    have C4 := Lib.hid (bel2 C3.out hb (Nat.le_refl _))
    clear hb
    go_wp2_with fail
    refine (K4.out _ (rdGrps_good.up (rdGrps_good.below HR.out C4.out) C4.out.size)).mono ?_
    rintro e' w5 ⟨rfl, hb⟩
    have C5 := Lib.hid (bel2 C4.out hb (Nat.le_refl _))
    clear hb
    go_wp2_with fail
    refine (K5.out _ (rdAtms_good.up (rdAtms_good.below HA.out C5.out) C5.out.size) (HE.out.below C5.out)).mono ?_
    rintro e' w6 ⟨rfl, hb⟩
    have C6 := Lib.hid (bel2 C5.out hb (Nat.le_refl _))
    clear hb
    go_wp2_with fail
    refine (K6.out _ (rdAtms_good.up (rdAtms_good.below HA.out C6.out) C6.out.size)).mono ?_
    rintro e' w7 ⟨rfl, hb⟩
    have C7 := Lib.hid (bel2 C6.out hb (Nat.le_refl _))
    clear hb
    go_wp2
    go_ret
    exact ⟨rfl, C7.out⟩

theorem contract (H : Type) (enc : TypeId × Value → H) (W : World) (base : Nat) (args : Array Value) (ds gs : List (DataW H)) (before : List MemPlace)
    (hval : ∀ (j : Nat) t v, Tryz.f4.params[j]? = some t → args[j]? = some v → Value.okWide Tryz.prog W .any base t v)
    (hW : DataW.Whole enc Tryz.prog Tryz.f4.params.toList Rows.dependsPrintsSpec.vars false W args.toList ds gs before) (E : EnvR W) :
    Calls Tryz.prog 4 args W fun e W' => ∃ v, e = .returned v ∧ Rows.dependsPrintsSpec.post enc Tryz.prog Tryz.f4 false true false false W args v W' := by
  have hW' := hW
  obtain ⟨p, q, hA0, _, _, _, _⟩ := hW
  have hA : DataW.TrodAll enc Tryz.prog W 0 (fun _ => true) true Tryz.f4.params.toList args.toList ds p := hA0
  rw [Tryz.params4] at hA hval
  obtain ⟨v0, vs0, d0, ds0, p0, q0, hargs, rfl, rfl, h0, r0⟩ := trodAll_cons hA
  obtain ⟨v1, vs1, d1, ds1, p1, q1, rfl, rfl, rfl, h1, r1⟩ := trodAll_cons r0
  obtain ⟨rfl, rfl, rfl⟩ := trodAll_nil r1
  obtain rfl : args = #[v0, v1] := by cases args; simp_all
  obtain ⟨A0, n0, c0, L0, rfl, hr0, hk0⟩ := open_grps_arg (hval 0 23 v0 rfl rfl) h0
  obtain ⟨A1, n1, c1, L1, rfl, hr1, hk1⟩ := open_atoms_arg (hval 1 27 v1 rfl rfl) h1
  refine (walk A0 n0 c0 L0 A1 n1 c1 L1 W hr0 hk0 hr1 hk1 E).mono fun e W' ⟨he, hb⟩ => ?_
  subst he
  refine ⟨_, rfl, law_post hW' rfl rfl rfl rfl rfl Tryz.underlying4 laid_out ?_ hb⟩
  rw [Tryz.params4]
  intro t ht
  simp at ht
  rcases ht with rfl | rfl <;> exact ⟨by kernel_rfl, of_decide_eq_true (by kernel_rfl)⟩

theorem reads (os : Os) {H : Type} (enc : TypeId × Value → H) : ∃ x, DataW.whole enc Tryz.prog ((World.laidAll Tryz.prog os laidL).forCall (fun _ _ => 0) ⟨#[], #[.slice none 0 0, .slice none 0 0], []⟩).memory Tryz.f4.params.toList Rows.dependsPrintsSpec.vars false ((#[.slice none 0 0, .slice none 0 0] : Array Value)).toList 8 = some x :=
  Option.isSome_iff_exists.1 (by kernel_rfl)
theorem readsSized (os : Os) {H : Type} (enc : TypeId × Value → H) : (OpenSpec.ofChange Rows.dependsPrintsSpec).bare.sizedB enc Tryz.prog Tryz.f4 false ((World.laidAll Tryz.prog os laidL).forCall (fun _ _ => 0) ⟨#[], #[.slice none 0 0, .slice none 0 0], []⟩).memory #[.slice none 0 0, .slice none 0 0] 8 = true := by kernel_rfl
theorem okWit (os : Os) : Input.okWideB Tryz.prog ((World.laidAll Tryz.prog os laidL).forCall (fun _ _ => 0) ⟨#[], #[.slice none 0 0, .slice none 0 0], []⟩) 4 ⟨#[], #[.slice none 0 0, .slice none 0 0], []⟩ = true := by kernel_rfl
theorem lifted (os : Os) (started : os.Started) (H : Type) (enc : TypeId × Value → H) (F : Stop.Interp) :
    ReturnsInHanded {} Tryz.checked os 4 .any ((OpenSpec.ofChange Rows.dependsPrintsSpec).preRow enc Tryz.prog Tryz.f4 Rows.dependsPrintsRow.domain false Rows.dependsPrintsRow.laid) (((OpenSpec.ofChange Rows.dependsPrintsSpec).at F).post enc Tryz.prog Tryz.f4 false true false false) := by
  obtain ⟨x, hx⟩ := reads os enc
  have hz := readsSized os enc
  refine returnsInHanded_of_row (C := Tryz.checked) (s := OpenSpec.ofChange Rows.dependsPrintsSpec) own' started (by kernel_rfl) Tryz.func4
    ⟨World.laidAll Tryz.prog os laidL, fun _ _ => 0, ⟨#[], #[.slice none 0 0, .slice none 0 0], []⟩, door_os os, door_shaped os _, (Input.okWide_of_okWideB (base := 0) (okWit os)).1, (Input.okWide_of_okWideB (okWit os)).2,
      OpenSpec.preRow_of_cond 8 hx rfl (fun k hk => by cases hk) hz (door_met os _), by
        simp only [Assume.holds]
        exact ⟨by simp, by simp, fun _ => Modest.zero, by simp, by simp⟩⟩ ?_
  intro W base args ds gs before hval hW _ _ _ hL hsh _
  exact contract H enc W base args ds gs before hval hW (env_of hL hsh)

theorem said : Rows.DependsPrintsSaid :=
  OpenClaim.holds_of_cond 4 Tryz.f4 rfl rfl rfl rfl rfl rfl rfl ⟨rfl, rfl, rfl, rfl, rfl⟩ rfl rfl rfl rfl rfl (by kernel_rfl) Tryz.func4 (by kernel_rfl)
    (of_decide_eq_true (by kernel_rfl)) (by unfold Func.isWrapper; first | (rw [if_pos (by decide +kernel)]; kernel_rfl) | (rw [if_neg (by decide +kernel)]; exact ⟨rfl, rfl⟩))
    (fun os started H enc _ F => by rw [OpenClaim.pre_eq_preRow]; exact lifted os started H enc F)

theorem proved : Rows.DependsPrintsCardSaid :=
  Claim7.holds_tied_plain_at .later [] _ _ _ _ said (fun _ h => by cases h) (by kernel_rfl) (fun _ h => by cases h) dependsPrints_row_tie rfl ⟨rfl, rfl⟩ (by kernel_rfl) rfl
    (fun f fn hf hfn => by
      obtain rfl : f = 4 := Option.some.inj ((show Tryz.prog.funcNamed "keelson/keelsonlaw4.DependsPrints" = some 4 by kernel_rfl).symm.trans hf) |>.symm
      obtain rfl : fn = Tryz.f4 := (Option.some.inj (Tryz.func4.symm.trans hfn)).symm
      exact ⟨by kernel_rfl, fun j t ht => by
        rw [Tryz.params4] at ht
        have hm : t ∈ [23, 27] := by have := Array.mem_of_getElem? ht; simp at this; simp [this]
        have hall : ([23, 27].all fun u => !Tryz.prog.wantsStandIn u) = true := by kernel_rfl
        exact (show Tryz.prog.wantsStandIn t = false by simpa using List.all_eq_true.1 hall t hm)⟩)
    (by kernel_rfl)
#print axioms proved
end Go.Proofs.YtnokmgkkefonbaaGreatDoor.dependsPrints
