/- keelsonlaw5.StanzaPrints: called with any arguments that can be read it returns true, and its arguments read as before. Condition: the library variables that the row lists hold what the program text lays in them, which the card ties to that text. -/
import Derived.Test.YtjfenheplkoajaaDoorS5z
import Derived.Test.YtjfenheplkoajaaDoorS5l2
import Derived.Test.YtjfenheplkoajaaDoorS5s
import Derived.Test.YtjfenheplkoajaaDoorOpenF
import Derived.Test.YtjfenheplkoajaaDoorDoor5
import Derived.WalkKit
import Derived.ProofKit
import Derived.OpenShut
import Derived.SevenTiedAt
import Derived.Outline
set_option maxRecDepth 100000
set_option linter.unusedVariables false
set_option linter.unusedSimpArgs false
namespace Go.Proofs.YtjfenheplkoajaaDoor.stanzaPrints
open Go.ChangeShapes Go.WideShapes Go.ChangeAt Go.RowKit

set_option maxHeartbeats 8000000 in
theorem walk (A : Option Addr) (n c : Nat) (L : List (List Fd)) (s : ByteArray) (w : World) (hr : rdStzs w (lt_ w.heap.size) L [.slice A n c]) (hk : ∀ st ∈ L, ∀ f ∈ st, FdOk f) (hs : s.size ≤ maxLen) (E : Env5 w) :
    Calls Tryd.prog 4 #[.slice A n c, .string s] w fun e w' => e = .returned (.bool true) ∧ Below w.heap.size w w' := by
  obtain ⟨rfl, _, hcm, _⟩ := rdStzs_at hr
  have hcm' : c ≤ 9223372036854775807 := hcm
  have HE := Lib.hid E
  have S := Lib.hid (fun w E => shown5_any w E)
  have HR := Lib.hid hr
  have SM := Lib.hid (fun w h => small5_any A L.length c L w h)
  have KN := Lib.hid (fun w => name5_any s w hs)
  have KM := Lib.hid (fun w => q5name_any s w hs)
  have KR := Lib.hid (fun w h E => right5_any A L.length c L w h E (fun st hst f hf => (hk st hst f hf).1))
  have KP := Lib.hid (fun w h E => print5_any A L.length c L w h E (fun st hst f hf => (hk st hst f hf).1))
  have OE := Lib.hid (fun (h : Sml L) => okP_eq (L := L) (fun st hst f hf => ((h.2 st hst).2 f hf).2))
  have PE := Lib.hid (show prP L = if okP L = true then mk (txL L) else { data := #[] } from rfl)
  clear E hr hk hcm hs
  generalize fnB (B s) = nb at *
  have e1 : (nb == nb) = true := by cases nb <;> rfl
  go_enter Tryd.func4, Tryd.ntmps4
  have B0 := Lib.hid (Below.refl w.heap.size w)
  go_wp2_with fail
  refine (S.out _ (HE.out.below B0.out HE.out.pos)).mono ?_
  rintro e' w1 ⟨rfl, hb⟩
  have C1 := Lib.hid (bel2 B0.out hb (Nat.le_refl _))
  clear hb
  go_wp2_with fail
  refine (SM.out _ (rdStzs_good.up (rdStzs_good.below HR.out C1.out) C1.out.size)).mono ?_
  rintro e' w' ⟨hsm, rfl⟩
  obtain ⟨b, rfl, hb⟩ := hsm
  cases b
  · clear hb OE PE KR KP KN KM
    go_wp2
    go_ret
    exact ⟨rfl, C1.out⟩
  · have HS := Lib.hid (hb rfl)
    have hoe := OE.out HS.out
    have HL := Lib.hid (show L.length ≤ 100000 by have := HS.out.1; omega)
    have KQ := Lib.hid (fun A n c w h => q5right_any A n c L w h HS.out)
    have KT := Lib.hid (fun A n c w h => q5print_any A n c L w h HS.out)
    rw [PE.out, hoe] at KP
    rw [hoe] at KR
    clear hb OE PE hoe
    generalize (if okR L = true then mk (txL L) else { data := #[] }) = pr at *
    generalize okR L = ok at *
    have e2 : (ok == ok) = true := by cases ok <;> rfl
    have e3 : (pr.toList == pr.toList) = true := by rw [str_eq]; exact decide_eq_true rfl
    by_cases g1 : (300 : Int) < (s.size : Int)
    · clear KR KP KN KM KQ KT
      go_wp2
      go_ret
      exact ⟨rfl, C1.out⟩
    · skip
      go_wp2_with fail
      refine (KN.out _).mono ?_
      rintro e' w3 ⟨rfl, hb⟩
      have C2 := Lib.hid (bel2 C1.out hb (Nat.le_refl _))
      clear hb
      go_wp2_with fail
      refine (KM.out _).mono ?_
      rintro e' w' ⟨rfl, rfl⟩
      go_wp2_with fail
      refine (KR.out _ (rdStzs_good.up (rdStzs_good.below HR.out C2.out) C2.out.size) (HE.out.below C2.out HE.out.pos)).mono ?_
      rintro e' w4 ⟨rfl, hb⟩
      have C3 := Lib.hid (bel2 C2.out hb (Nat.le_refl _))
      clear hb
      go_wp2_with fail
      refine (as5_any A L.length c L _ (rdStzs_good.up (rdStzs_good.below HR.out C3.out) C3.out.size) HL.out).mono ?_
      rintro e' w5 ⟨⟨A5, n5, c5, rfl, hr5⟩, hb⟩
      have hn5 := (rdStzs_at hr5).1
      subst hn5
      have R5 := Lib.hid hr5
      clear hr5
      have C4 := Lib.hid (bel2 C3.out hb (Nat.le_refl _))
      clear hb
      have D5 := Lib.hid (Below.refl w5.heap.size w5)
      go_wp2_with fail
      refine (KQ.out A5 L.length c5 _ (rdStzs_good.up (rdStzs_good.below R5.out D5.out) D5.out.size)).mono ?_
      rintro e' w6 ⟨rfl, hb⟩
      have C5 := Lib.hid (bel2 C4.out hb (Nat.le_refl _))
      have C6 := Lib.hid (bel2 D5.out hb (Nat.le_refl _))
      clear hb
      go_wp2_with fail
      refine (KP.out _ (rdStzs_good.up (rdStzs_good.below HR.out C5.out) C5.out.size) (HE.out.below C5.out HE.out.pos)).mono ?_
      rintro e' w7 ⟨rfl, hb⟩
      have C7 := Lib.hid (bel2 C5.out hb (Nat.le_refl _))
      have C8 := Lib.hid (bel2 C6.out hb (Nat.le_refl _))
      clear hb
      go_wp2_with fail
      refine (as5_any A L.length c L _ (rdStzs_good.up (rdStzs_good.below HR.out C7.out) C7.out.size) HL.out).mono ?_
      rintro e' w8 ⟨⟨A8, n8, c8, rfl, hr8⟩, hb⟩
      have hn8 := (rdStzs_at hr8).1
      subst hn8
      have R8 := Lib.hid hr8
      clear hr8
      have C9 := Lib.hid (bel2 C7.out hb (Nat.le_refl _))
      have C10 := Lib.hid (bel2 C8.out hb (Nat.le_refl _))
      clear hb
      have D8 := Lib.hid (Below.refl w8.heap.size w8)
      go_wp2_with fail
      refine (KT.out A8 L.length c8 _ (rdStzs_good.up (rdStzs_good.below R8.out D8.out) D8.out.size)).mono ?_
      rintro e' w9 ⟨rfl, hb⟩
      have C11 := Lib.hid (bel2 C9.out hb (Nat.le_refl _))
      have C12 := Lib.hid (bel2 C10.out hb (Nat.le_refl _))
      have C13 := Lib.hid (bel2 D8.out hb (Nat.le_refl _))
      clear hb
      go_wp2
      go_ret
      exact ⟨rfl, C11.out⟩

theorem contract (H : Type) (enc : TypeId × Value → H) (W : World) (base : Nat) (args : Array Value) (ds gs : List (DataW H)) (before : List MemPlace)
    (hval : ∀ (j : Nat) t v, Tryd.f4.params[j]? = some t → args[j]? = some v → Value.okWide Tryd.prog W .any base t v)
    (hW : DataW.Whole enc Tryd.prog Tryd.f4.params.toList Rows.stanzaPrintsSpec.vars false W args.toList ds gs before) (E : Env5 W) :
    Calls Tryd.prog 4 args W fun e W' => ∃ v, e = .returned v ∧ Rows.stanzaPrintsSpec.post enc Tryd.prog Tryd.f4 false true false false W args v W' := by
  have hW' := hW
  obtain ⟨p, q, hA0, _, _, _, _⟩ := hW
  have hA : DataW.TrodAll enc Tryd.prog W 0 (fun _ => true) true Tryd.f4.params.toList args.toList ds p := hA0
  rw [Tryd.params4] at hA hval
  obtain ⟨v0, vs0, d0, ds0, p0, q0, hargs, rfl, rfl, h0, r0⟩ := trodAll_cons hA
  obtain ⟨v1, vs1, d1, ds1, p1, q1, rfl, rfl, rfl, h1, r1⟩ := trodAll_cons r0
  obtain ⟨rfl, rfl, rfl⟩ := trodAll_nil r1
  obtain rfl : args = #[v0, v1] := by cases args; simp_all
  obtain ⟨A0, n0, c0, L0, rfl, hr0, hk0⟩ := open_stzs_arg (hval 0 23 v0 rfl rfl) h0
  obtain ⟨s1, rfl, w1⟩ := open_str_arg (hval 1 9 v1 rfl rfl) h1
  refine (walk A0 n0 c0 L0 s1 W hr0 hk0 w1 E).mono fun e W' ⟨he, hb⟩ => ?_
  subst he
  refine ⟨_, rfl, law_post hW' rfl rfl rfl rfl rfl Tryd.underlying4 laid_out ?_ hb⟩
  rw [Tryd.params4]
  intro t ht
  simp at ht
  rcases ht with rfl | rfl <;> exact ⟨by kernel_rfl, of_decide_eq_true (by kernel_rfl)⟩

theorem reads (os : Os) {H : Type} (enc : TypeId × Value → H) : ∃ x, DataW.whole enc Tryd.prog ((World.laidAll Tryd.prog os laidL).forCall (fun _ _ => 0) ⟨#[], #[.slice none 0 0, .string ⟨#[]⟩], []⟩).memory Tryd.f4.params.toList Rows.stanzaPrintsSpec.vars false ((#[.slice none 0 0, .string ⟨#[]⟩] : Array Value)).toList 8 = some x :=
  Option.isSome_iff_exists.1 (by kernel_rfl)
theorem readsSized (os : Os) {H : Type} (enc : TypeId × Value → H) : (OpenSpec.ofChange Rows.stanzaPrintsSpec).bare.sizedB enc Tryd.prog Tryd.f4 false ((World.laidAll Tryd.prog os laidL).forCall (fun _ _ => 0) ⟨#[], #[.slice none 0 0, .string ⟨#[]⟩], []⟩).memory #[.slice none 0 0, .string ⟨#[]⟩] 8 = true := by kernel_rfl
theorem okWit (os : Os) : Input.okWideB Tryd.prog ((World.laidAll Tryd.prog os laidL).forCall (fun _ _ => 0) ⟨#[], #[.slice none 0 0, .string ⟨#[]⟩], []⟩) 4 ⟨#[], #[.slice none 0 0, .string ⟨#[]⟩], []⟩ = true := by kernel_rfl
theorem lifted (os : Os) (started : os.Started) (H : Type) (enc : TypeId × Value → H) (F : Stop.Interp) :
    ReturnsInHanded {} Tryd.checked os 4 .any ((OpenSpec.ofChange Rows.stanzaPrintsSpec).preRow enc Tryd.prog Tryd.f4 Rows.stanzaPrintsRow.domain false Rows.stanzaPrintsRow.laid) (((OpenSpec.ofChange Rows.stanzaPrintsSpec).at F).post enc Tryd.prog Tryd.f4 false true false false) := by
  obtain ⟨x, hx⟩ := reads os enc
  have hz := readsSized os enc
  refine returnsInHanded_of_row (C := Tryd.checked) (s := OpenSpec.ofChange Rows.stanzaPrintsSpec) own' started (by kernel_rfl) Tryd.func4
    ⟨World.laidAll Tryd.prog os laidL, fun _ _ => 0, ⟨#[], #[.slice none 0 0, .string ⟨#[]⟩], []⟩, door_os os, door_shaped os _, (Input.okWide_of_okWideB (base := 0) (okWit os)).1, (Input.okWide_of_okWideB (okWit os)).2,
      OpenSpec.preRow_of_cond 8 hx rfl (fun k hk => by cases hk) hz (door_met os _), by
        simp only [Assume.holds]
        exact ⟨by simp, by simp, fun _ => Modest.zero, by simp, by simp⟩⟩ ?_
  intro W base args ds gs before hval hW _ _ _ hL hsh _
  exact contract H enc W base args ds gs before hval hW (env5_of hL hsh)

theorem said : Rows.StanzaPrintsSaid :=
  OpenClaim.holds_of_cond 4 Tryd.f4 rfl rfl rfl rfl rfl rfl rfl ⟨rfl, rfl, rfl, rfl, rfl⟩ rfl rfl rfl rfl rfl (by kernel_rfl) Tryd.func4 (by kernel_rfl)
    (of_decide_eq_true (by kernel_rfl)) (by unfold Func.isWrapper; first | (rw [if_pos (by decide +kernel)]; kernel_rfl) | (rw [if_neg (by decide +kernel)]; exact ⟨rfl, rfl⟩))
    (fun os started H enc _ F => by rw [OpenClaim.pre_eq_preRow]; exact lifted os started H enc F)

theorem proved : Rows.StanzaPrintsCardSaid :=
  Claim7.holds_tied_plain_at .later [] _ _ _ _ said (fun _ h => by cases h) (by kernel_rfl) (fun _ h => by cases h) stanzaPrints_row_tie rfl ⟨rfl, rfl⟩ (by kernel_rfl) rfl
    (fun f fn hf hfn => by
      obtain rfl : f = 4 := Option.some.inj ((show Tryd.prog.funcNamed "keelson/keelsonlaw5.StanzaPrints" = some 4 by kernel_rfl).symm.trans hf) |>.symm
      obtain rfl : fn = Tryd.f4 := (Option.some.inj (Tryd.func4.symm.trans hfn)).symm
      exact ⟨by kernel_rfl, fun j t ht => by
        rw [Tryd.params4] at ht
        have hm : t ∈ [23, 9] := by have := Array.mem_of_getElem? ht; simp at this; simp [this]
        have hall : ([23, 9].all fun u => !Tryd.prog.wantsStandIn u) = true := by kernel_rfl
        exact (show Tryd.prog.wantsStandIn t = false by simpa using List.all_eq_true.1 hall t hm)⟩)
    (by kernel_rfl)
#print axioms proved
end Go.Proofs.YtjfenheplkoajaaDoor.stanzaPrints
