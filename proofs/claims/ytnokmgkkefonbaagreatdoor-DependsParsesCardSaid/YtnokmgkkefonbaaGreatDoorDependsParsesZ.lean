/- keelsonlaw4.DependsParses: called with any arguments that can be read it returns true, and its arguments read as before. Condition: the library variables that the row lists hold what the program text lays in them, which the card ties to that text. -/
import Derived.Test.YtnokmgkkefonbaaGreatDoorD4uZ
import Derived.Test.YtnokmgkkefonbaaGreatDoorD4fZ
import Derived.Test.YtnokmgkkefonbaaGreatDoorMB
import Derived.Test.YtnokmgkkefonbaaGreatDoorDoorZ
import Derived.WalkKit
import Derived.ProofKit
import Derived.OpenShut
import Derived.SevenTiedAt
import Derived.Outline
set_option maxRecDepth 100000
set_option linter.unusedVariables false
set_option linter.unusedSimpArgs false
namespace Go.Proofs.YtnokmgkkefonbaaGreatDoor.dependsParses
open Go.ChangeShapes Go.WideShapes Go.ChangeAt Go.RowKit

set_option maxHeartbeats 4000000 in
theorem walk (s : ByteArray) (w : World) (hs : s.size ≤ maxLen) (E : EnvR w) :
    Calls Tryz.prog 3 #[.string s] w fun e w' => e = .returned (.bool true) ∧ Below w.heap.size w w' := by
  have HE := Lib.hid E
  have S := Lib.hid (fun w E => shown4_any w E)
  clear E
  by_cases g1 : (1000 : Int) < (s.size : Int)
  · have S := S
    go_enter Tryz.func3, Tryz.ntmps3
    have B0 := Lib.hid (Below.refl w.heap.size w)
    go_wp2_with fail
    refine (S.out _ (HE.out.below B0.out)).mono ?_
    rintro e' w1 ⟨rfl, hb⟩
    have C1 := Lib.hid (bel2 B0.out hb (Nat.le_refl _))
    clear hb
    go_wp2
    go_ret
    exact ⟨rfl, C1.out⟩
  have hz : s.size ≤ 65536 := by omega
  have P1 := Lib.hid (fun w E => parse4_is (s := s) rfl rfl hz w E)
  have P2 := Lib.hid (fun w E => atoms4_is (s := s) rfl rfl hz w E)
  have Q1 := Lib.hid (fun w => q4parse_sh s w hz)
  have Q2 := Lib.hid (fun w => q4atoms_sh s w hz)
  generalize depL (B s) = L at *
  generalize depE (B s) = e1 at *
  generalize atL (B s) = l at *
  generalize atE (B s) = e2 at *
  go_enter Tryz.func3, Tryz.ntmps3
  have B0 := Lib.hid (Below.refl w.heap.size w)
  go_wp2_with fail
  refine (S.out _ (HE.out.below B0.out)).mono ?_
  rintro e' w1 ⟨rfl, hb⟩
  have C1 := Lib.hid (bel2 B0.out hb (Nat.le_refl _))
  clear hb
  go_wp2_with fail
  refine (P1.out _ (HE.out.below C1.out)).mono ?_
  rintro e' w2 ⟨⟨A2, c2, rfl, hr2⟩, hb⟩
  have R2 := Lib.hid hr2
  clear hr2
  have C2 := Lib.hid (bel2 C1.out hb (Nat.le_refl _))
  clear hb
  have D2 := Lib.hid (Below.refl w2.heap.size w2)
  go_wp2_with fail
  refine (Q1.out _).mono ?_
  rintro e' w3 ⟨⟨A3, c3, rfl, hr3⟩, hb⟩
  have R3 := Lib.hid hr3
  clear hr3
  have C3 := Lib.hid (bel2 C2.out hb (Nat.le_refl _))
  have C4 := Lib.hid (bel2 D2.out hb (Nat.le_refl _))
  clear hb
  have D3 := Lib.hid (Below.refl w3.heap.size w3)
  go_wp2_with fail
  refine (P2.out _ (HE.out.below C3.out)).mono ?_
  rintro e' w4 ⟨⟨A4, c4, rfl, hr4⟩, hb⟩
  have R4 := Lib.hid hr4
  clear hr4
  have C5 := Lib.hid (bel2 C3.out hb (Nat.le_refl _))
  have C6 := Lib.hid (bel2 C4.out hb (Nat.le_refl _))
  have C7 := Lib.hid (bel2 D3.out hb (Nat.le_refl _))
  clear hb
  have D4 := Lib.hid (Below.refl w4.heap.size w4)
  go_wp2_with fail
  refine (Q2.out _).mono ?_
  rintro e' w5 ⟨⟨A5, c5, rfl, hr5⟩, hb⟩
  have R5 := Lib.hid hr5
  clear hr5
  have C8 := Lib.hid (bel2 C5.out hb (Nat.le_refl _))
  have C9 := Lib.hid (bel2 C6.out hb (Nat.le_refl _))
  have C10 := Lib.hid (bel2 C7.out hb (Nat.le_refl _))
  have C11 := Lib.hid (bel2 D4.out hb (Nat.le_refl _))
  clear hb
  have D5 := Lib.hid (Below.refl w5.heap.size w5)
  go_wp2_with fail
  refine (same_self _ _ _ _ _ _ (rdGrps_good.up (rdGrps_good.below R2.out C9.out) C9.out.size) (rdGrps_good.up (rdGrps_good.below R3.out C10.out) C10.out.size)).mono ?_
  rintro e' w6 ⟨rfl, hdr⟩
  have hb := hdr.below w5.heap.size
  clear hdr
  have C12 := Lib.hid (bel2 C8.out hb (Nat.le_refl _))
  have C13 := Lib.hid (bel2 C9.out hb (Nat.le_refl _))
  have C14 := Lib.hid (bel2 C10.out hb (Nat.le_refl _))
  have C15 := Lib.hid (bel2 C11.out hb (Nat.le_refl _))
  have C16 := Lib.hid (bel2 D5.out hb (Nat.le_refl _))
  clear hb
  go_wp2_with fail
  refine (sameAtoms_self _ _ _ _ _ _ (rdAtms_good.up (rdAtms_good.below R4.out C15.out) C15.out.size) (rdAtms_good.up (rdAtms_good.below R5.out C16.out) C16.out.size)).mono ?_
  rintro e' w7 ⟨rfl, hdr⟩
  have hb := hdr.below w6.heap.size
  clear hdr
  have C17 := Lib.hid (bel2 C12.out hb (Nat.le_refl _))
  have C18 := Lib.hid (bel2 C13.out hb (Nat.le_refl _))
  have C19 := Lib.hid (bel2 C14.out hb (Nat.le_refl _))
  have C20 := Lib.hid (bel2 C15.out hb (Nat.le_refl _))
  have C21 := Lib.hid (bel2 C16.out hb (Nat.le_refl _))
  clear hb
  go_wp2
  go_ret
  exact ⟨rfl, C17.out⟩

theorem contract (H : Type) (enc : TypeId × Value → H) (W : World) (base : Nat) (args : Array Value) (ds gs : List (DataW H)) (before : List MemPlace)
    (hval : ∀ (j : Nat) t v, Tryz.f3.params[j]? = some t → args[j]? = some v → Value.okWide Tryz.prog W .any base t v)
    (hW : DataW.Whole enc Tryz.prog Tryz.f3.params.toList Rows.dependsParsesSpec.vars false W args.toList ds gs before) (E : EnvR W) :
    Calls Tryz.prog 3 args W fun e W' => ∃ v, e = .returned v ∧ Rows.dependsParsesSpec.post enc Tryz.prog Tryz.f3 false true false false W args v W' := by
  have hW' := hW
  obtain ⟨p, q, hA0, _, _, _, _⟩ := hW
  have hA : DataW.TrodAll enc Tryz.prog W 0 (fun _ => true) true Tryz.f3.params.toList args.toList ds p := hA0
  rw [Tryz.params3] at hA hval
  obtain ⟨v0, vs0, d0, ds0, p0, q0, hargs, rfl, rfl, h0, r0⟩ := trodAll_cons hA
  obtain ⟨rfl, rfl, rfl⟩ := trodAll_nil r0
  obtain rfl : args = #[v0] := by cases args; simp_all
  obtain ⟨s0, rfl, w0⟩ := open_str_arg (hval 0 9 v0 rfl rfl) h0
  refine (walk s0 W w0 E).mono fun e W' ⟨he, hb⟩ => ?_
  subst he
  refine ⟨_, rfl, law_post hW' rfl rfl rfl rfl rfl Tryz.underlying4 laid_out ?_ hb⟩
  rw [Tryz.params3]
  intro t ht
  simp at ht
  subst ht
  exact ⟨by kernel_rfl, of_decide_eq_true (by kernel_rfl)⟩

theorem reads (os : Os) {H : Type} (enc : TypeId × Value → H) : ∃ x, DataW.whole enc Tryz.prog ((World.laidAll Tryz.prog os laidL).forCall (fun _ _ => 0) ⟨#[], #[.string ⟨#[]⟩], []⟩).memory Tryz.f3.params.toList Rows.dependsParsesSpec.vars false ((#[.string ⟨#[]⟩] : Array Value)).toList 8 = some x :=
  Option.isSome_iff_exists.1 (by kernel_rfl)
theorem readsSized (os : Os) {H : Type} (enc : TypeId × Value → H) : (OpenSpec.ofChange Rows.dependsParsesSpec).bare.sizedB enc Tryz.prog Tryz.f3 false ((World.laidAll Tryz.prog os laidL).forCall (fun _ _ => 0) ⟨#[], #[.string ⟨#[]⟩], []⟩).memory #[.string ⟨#[]⟩] 8 = true := by kernel_rfl
theorem okWit (os : Os) : Input.okWideB Tryz.prog ((World.laidAll Tryz.prog os laidL).forCall (fun _ _ => 0) ⟨#[], #[.string ⟨#[]⟩], []⟩) 3 ⟨#[], #[.string ⟨#[]⟩], []⟩ = true := by kernel_rfl
theorem lifted (os : Os) (started : os.Started) (H : Type) (enc : TypeId × Value → H) (F : Stop.Interp) :
    ReturnsInHanded {} Tryz.checked os 3 .any ((OpenSpec.ofChange Rows.dependsParsesSpec).preRow enc Tryz.prog Tryz.f3 Rows.dependsParsesRow.domain false Rows.dependsParsesRow.laid) (((OpenSpec.ofChange Rows.dependsParsesSpec).at F).post enc Tryz.prog Tryz.f3 false true false false) := by
  obtain ⟨x, hx⟩ := reads os enc
  have hz := readsSized os enc
  refine returnsInHanded_of_row (C := Tryz.checked) (s := OpenSpec.ofChange Rows.dependsParsesSpec) own' started (by kernel_rfl) Tryz.func3
    ⟨World.laidAll Tryz.prog os laidL, fun _ _ => 0, ⟨#[], #[.string ⟨#[]⟩], []⟩, door_os os, door_shaped os _, (Input.okWide_of_okWideB (base := 0) (okWit os)).1, (Input.okWide_of_okWideB (okWit os)).2,
      OpenSpec.preRow_of_cond 8 hx rfl (fun k hk => by cases hk) hz (door_met os _), by
        simp only [Assume.holds]
        exact ⟨by simp, by simp, fun _ => Modest.zero, by simp, by simp⟩⟩ ?_
  intro W base args ds gs before hval hW _ _ _ hL hsh _
  exact contract H enc W base args ds gs before hval hW (env_of hL hsh)

theorem said : Rows.DependsParsesSaid :=
  OpenClaim.holds_of_cond 3 Tryz.f3 rfl rfl rfl rfl rfl rfl rfl ⟨rfl, rfl, rfl, rfl, rfl⟩ rfl rfl rfl rfl rfl (by kernel_rfl) Tryz.func3 (by kernel_rfl)
    (of_decide_eq_true (by kernel_rfl)) (by unfold Func.isWrapper; first | (rw [if_pos (by decide +kernel)]; kernel_rfl) | (rw [if_neg (by decide +kernel)]; exact ⟨rfl, rfl⟩))
    (fun os started H enc _ F => by rw [OpenClaim.pre_eq_preRow]; exact lifted os started H enc F)

theorem proved : Rows.DependsParsesCardSaid :=
  Claim7.holds_tied_plain_at .later [] _ _ _ _ said (fun _ h => by cases h) (by kernel_rfl) (fun _ h => by cases h) dependsParses_row_tie rfl ⟨rfl, rfl⟩ (by kernel_rfl) rfl
    (fun f fn hf hfn => by
      obtain rfl : f = 3 := Option.some.inj ((show Tryz.prog.funcNamed "keelson/keelsonlaw4.DependsParses" = some 3 by kernel_rfl).symm.trans hf) |>.symm
      obtain rfl : fn = Tryz.f3 := (Option.some.inj (Tryz.func3.symm.trans hfn)).symm
      exact ⟨by kernel_rfl, fun j t ht => by
        rw [Tryz.params3] at ht
        have hm : t ∈ [9] := by have := Array.mem_of_getElem? ht; simp at this; simp [this]
        have hall : ([9].all fun u => !Tryz.prog.wantsStandIn u) = true := by kernel_rfl
        exact (show Tryz.prog.wantsStandIn t = false by simpa using List.all_eq_true.1 hall t hm)⟩)
    (by kernel_rfl)
#print axioms proved
end Go.Proofs.YtnokmgkkefonbaaGreatDoor.dependsParses
