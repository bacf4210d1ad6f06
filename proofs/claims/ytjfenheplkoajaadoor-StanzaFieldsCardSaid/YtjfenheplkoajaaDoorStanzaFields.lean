/- keelsonlaw5.StanzaFields: called with any arguments that can be read it returns true, and its arguments read as before. Condition: the library variables that the row lists hold what the program text lays in them, which the card ties to that text. -/
import Derived.Test.YtjfenheplkoajaaDoorS5z
import Derived.Test.YtjfenheplkoajaaDoorS5m
import Derived.Test.YtjfenheplkoajaaDoorS5l
import Derived.Test.YtjfenheplkoajaaDoorS5k
import Derived.Test.YtjfenheplkoajaaDoorOpenF
import Derived.Test.YtjfenheplkoajaaDoorDoor5
import Derived.WalkKit
import Derived.ProofKit
import Derived.OpenShut
import Derived.SevenTiedAt
import Derived.Outline
set_option maxRecDepth 100000
set_option linter.unusedVariables false
set_option linter.unusedSimpArgs false
namespace Go.Proofs.YtjfenheplkoajaaDoor.stanzaFields
open Go.ChangeShapes Go.WideShapes Go.ChangeAt Go.RowKit

theorem sf_self (A A' : Option Addr) (n c n' c' : Nat) (l : List Fd) (w : World) (h : rdFds w (lt_ w.heap.size) l [.slice A n c]) (h' : rdFds w (lt_ w.heap.size) l [.slice A' n' c']) :
    Calls Tryd.prog 23 #[.slice A n c, .slice A' n' c'] w fun e w' => e = .returned (.bool true) ∧ Dr w w' := by
  have := sameFields_any A A' n c n' c' l l w h h'
  rwa [decide_eq_true rfl] at this
set_option maxHeartbeats 8000000 in
theorem walk (A : Option Addr) (n c : Nat) (l : List Fd) (nm va : ByteArray) (A2 : Option Addr) (n2 c2 : Nat) (ns : List (List Nat)) (w : World) (hr : rdFds w (lt_ w.heap.size) l [.slice A n c]) (hk : ∀ f ∈ l, FdOk f) (_ : nm.size ≤ maxLen) (_ : va.size ≤ maxLen) (hn : rdStrs w (lt_ w.heap.size) ns [.slice A2 n2 c2]) (hs : ∀ x ∈ ns, x.length ≤ maxLen) (E : Env5 w) :
    Calls Tryd.prog 5 #[.slice A n c, .string nm, .string va, .slice A2 n2 c2] w fun e w' => e = .returned (.bool true) ∧ Below w.heap.size w w' := by
  obtain ⟨rfl, _, _, _⟩ := rdFds_at hr
  obtain ⟨rfl, _, _, _⟩ := rdStrs_at hn
  have HE := Lib.hid E
  have S := Lib.hid (fun w E => shown5_any w E)
  have HR := Lib.hid hr
  have HN := Lib.hid hn
  have HF := Lib.hid (fun f hf => (hk f hf).1)
  have HS := Lib.hid hs
  clear E hr hn hk hs
  by_cases g1 : (100 : Int) < (l.length : Int)
  · have S := S
    go_enter Tryd.func5, Tryd.ntmps5
    have B0 := Lib.hid (Below.refl w.heap.size w)
    go_wp2_with fail
    refine (S.out _ (HE.out.below B0.out HE.out.pos)).mono ?_
    rintro e' w1 ⟨rfl, hb⟩
    have C1 := Lib.hid (bel2 B0.out hb (Nat.le_refl _))
    clear hb
    go_wp2
    go_ret
    exact ⟨rfl, C1.out⟩
  by_cases g2 : (100 : Int) < (ns.length : Int)
  · have S := S
    go_enter Tryd.func5, Tryd.ntmps5
    have B0 := Lib.hid (Below.refl w.heap.size w)
    go_wp2_with fail
    refine (S.out _ (HE.out.below B0.out HE.out.pos)).mono ?_
    rintro e' w1 ⟨rfl, hb⟩
    have C1 := Lib.hid (bel2 B0.out hb (Nat.le_refl _))
    clear hb
    go_wp2
    go_ret
    exact ⟨rfl, C1.out⟩
  have HL := Lib.hid (show l.length ≤ 100000 by omega)
  have hst : ((fstV l nm).toList == (fstV l nm).toList) = true := by rw [str_eq]; exact decide_eq_true rfl
  generalize fstV l nm = fv at *
  generalize getV l nm = gv at *
  have hgv : (gv == gv) = true := by cases gv <;> rfl
  go_enter Tryd.func5, Tryd.ntmps5
  have B0 := Lib.hid (Below.refl w.heap.size w)
  go_wp2_with fail
  refine (S.out _ (HE.out.below B0.out HE.out.pos)).mono ?_
  rintro e' w1 ⟨rfl, hb⟩
  have C1 := Lib.hid (bel2 B0.out hb (Nat.le_refl _))
  clear hb
  go_wp2_with fail
  refine (get5_any A l.length c l nm _ (rdFds_good.up (rdFds_good.below HR.out C1.out) C1.out.size)).mono ?_
  rintro e' w2 ⟨rfl, hb⟩
  have C2 := Lib.hid (bel2 C1.out hb (Nat.le_refl _))
  clear hb
  go_wp2_with fail
  refine (q5get_any A l.length c l nm _ (rdFds_good.up (rdFds_good.below HR.out C2.out) C2.out.size)).mono ?_
  rintro e' w' ⟨rfl, rfl⟩
  go_wp2_with fail
  refine (put5_any A l.length c l nm va _ (rdFds_good.up (rdFds_good.below HR.out C2.out) C2.out.size) HL.out).mono ?_
  rintro e' w3 ⟨⟨A3, n3, c3, rfl, hr3⟩, hb⟩
  have R3 := Lib.hid hr3
  clear hr3
  have C3 := Lib.hid (bel2 C2.out hb (Nat.le_refl _))
  clear hb
  have D3 := Lib.hid (Below.refl w3.heap.size w3)
  go_wp2_with fail
  refine (q5put_any A l.length c l nm va _ (rdFds_good.up (rdFds_good.below HR.out C3.out) C3.out.size) HL.out).mono ?_
  rintro e' w4 ⟨⟨A4, n4, c4, rfl, hr4⟩, hb⟩
  have R4 := Lib.hid hr4
  clear hr4
  have C4 := Lib.hid (bel2 C3.out hb (Nat.le_refl _))
  have C5 := Lib.hid (bel2 D3.out hb (Nat.le_refl _))
  clear hb
  have D4 := Lib.hid (Below.refl w4.heap.size w4)
  go_wp2_with fail
  refine (sf_self _ _ _ _ _ _ _ _ (rdFds_good.up (rdFds_good.below R3.out C5.out) C5.out.size) (rdFds_good.up (rdFds_good.below R4.out D4.out) D4.out.size)).mono ?_
  rintro e' w5 ⟨rfl, hdr⟩
  have hb := hdr.below w4.heap.size
  clear hdr
  have C6 := Lib.hid (bel2 C4.out hb (Nat.le_refl _))
  have C7 := Lib.hid (bel2 C5.out hb (Nat.le_refl _))
  have C8 := Lib.hid (bel2 D4.out hb (Nat.le_refl _))
  clear hb
  go_wp2_with fail
  refine (only5_any A A2 l.length c ns.length c2 l ns _ (rdFds_good.up (rdFds_good.below HR.out C6.out) C6.out.size) (rdStrs_good.up (rdStrs_good.below HN.out C6.out) C6.out.size) HF.out HS.out).mono ?_
  rintro e' w6 ⟨rfl, hb⟩
  have C9 := Lib.hid (bel2 C6.out hb (Nat.le_refl _))
  have C10 := Lib.hid (bel2 C7.out hb (Nat.le_refl _))
  have C11 := Lib.hid (bel2 C8.out hb (Nat.le_refl _))
  clear hb
  go_wp2_with fail
  refine (q5only_any A A2 l.length c ns.length c2 l ns _ (rdFds_good.up (rdFds_good.below HR.out C9.out) C9.out.size) (rdStrs_good.up (rdStrs_good.below HN.out C9.out) C9.out.size)).mono ?_
  rintro e' w7 ⟨rfl, hdr⟩
  have hb := hdr.below w6.heap.size
  clear hdr
  have C12 := Lib.hid (bel2 C9.out hb (Nat.le_refl _))
  have C13 := Lib.hid (bel2 C10.out hb (Nat.le_refl _))
  have C14 := Lib.hid (bel2 C11.out hb (Nat.le_refl _))
  clear hb
  go_wp2
  go_ret
  exact ⟨rfl, C12.out⟩

theorem contract (H : Type) (enc : TypeId × Value → H) (W : World) (base : Nat) (args : Array Value) (ds gs : List (DataW H)) (before : List MemPlace)
    (hval : ∀ (j : Nat) t v, Tryd.f5.params[j]? = some t → args[j]? = some v → Value.okWide Tryd.prog W .any base t v)
    (hW : DataW.Whole enc Tryd.prog Tryd.f5.params.toList Rows.stanzaFieldsSpec.vars false W args.toList ds gs before) (E : Env5 W) :
    Calls Tryd.prog 5 args W fun e W' => ∃ v, e = .returned v ∧ Rows.stanzaFieldsSpec.post enc Tryd.prog Tryd.f5 false true false false W args v W' := by
  have hW' := hW
  obtain ⟨p, q, hA0, _, _, _, _⟩ := hW
  have hA : DataW.TrodAll enc Tryd.prog W 0 (fun _ => true) true Tryd.f5.params.toList args.toList ds p := hA0
  rw [Tryd.params5] at hA hval
  obtain ⟨v0, vs0, d0, ds0, p0, q0, hargs, rfl, rfl, h0, r0⟩ := trodAll_cons hA
  obtain ⟨v1, vs1, d1, ds1, p1, q1, rfl, rfl, rfl, h1, r1⟩ := trodAll_cons r0
  obtain ⟨v2, vs2, d2, ds2, p2, q2, rfl, rfl, rfl, h2, r2⟩ := trodAll_cons r1
  obtain ⟨v3, vs3, d3, ds3, p3, q3, rfl, rfl, rfl, h3, r3⟩ := trodAll_cons r2
  obtain ⟨rfl, rfl, rfl⟩ := trodAll_nil r3
  obtain rfl : args = #[v0, v1, v2, v3] := by cases args; simp_all
  obtain ⟨A0, n0, c0, L0, rfl, hr0, hk0⟩ := open_fds_arg (hval 0 39 v0 rfl rfl) h0
  obtain ⟨s1, rfl, w1⟩ := open_str_arg (hval 1 9 v1 rfl rfl) h1
  obtain ⟨s2, rfl, w2⟩ := open_str_arg (hval 2 9 v2 rfl rfl) h2
  obtain ⟨A3, n3, c3, L3, rfl, hr3, hk3⟩ := open_strs5_arg (hval 3 40 v3 rfl rfl) h3
  refine (walk A0 n0 c0 L0 s1 s2 A3 n3 c3 L3 W hr0 hk0 w1 w2 hr3 hk3 E).mono fun e W' ⟨he, hb⟩ => ?_
  subst he
  refine ⟨_, rfl, law_post hW' rfl rfl rfl rfl rfl Tryd.underlying4 laid_out ?_ hb⟩
  rw [Tryd.params5]
  intro t ht
  simp at ht
  rcases ht with rfl | rfl | rfl | rfl <;> exact ⟨by kernel_rfl, of_decide_eq_true (by kernel_rfl)⟩

theorem reads (os : Os) {H : Type} (enc : TypeId × Value → H) : ∃ x, DataW.whole enc Tryd.prog ((World.laidAll Tryd.prog os laidL).forCall (fun _ _ => 0) ⟨#[], #[.slice none 0 0, .string ⟨#[]⟩, .string ⟨#[]⟩, .slice none 0 0], []⟩).memory Tryd.f5.params.toList Rows.stanzaFieldsSpec.vars false ((#[.slice none 0 0, .string ⟨#[]⟩, .string ⟨#[]⟩, .slice none 0 0] : Array Value)).toList 8 = some x :=
  Option.isSome_iff_exists.1 (by kernel_rfl)
theorem readsSized (os : Os) {H : Type} (enc : TypeId × Value → H) : (OpenSpec.ofChange Rows.stanzaFieldsSpec).bare.sizedB enc Tryd.prog Tryd.f5 false ((World.laidAll Tryd.prog os laidL).forCall (fun _ _ => 0) ⟨#[], #[.slice none 0 0, .string ⟨#[]⟩, .string ⟨#[]⟩, .slice none 0 0], []⟩).memory #[.slice none 0 0, .string ⟨#[]⟩, .string ⟨#[]⟩, .slice none 0 0] 8 = true := by kernel_rfl
theorem okWit (os : Os) : Input.okWideB Tryd.prog ((World.laidAll Tryd.prog os laidL).forCall (fun _ _ => 0) ⟨#[], #[.slice none 0 0, .string ⟨#[]⟩, .string ⟨#[]⟩, .slice none 0 0], []⟩) 5 ⟨#[], #[.slice none 0 0, .string ⟨#[]⟩, .string ⟨#[]⟩, .slice none 0 0], []⟩ = true := by kernel_rfl
theorem lifted (os : Os) (started : os.Started) (H : Type) (enc : TypeId × Value → H) (F : Stop.Interp) :
    ReturnsInHanded {} Tryd.checked os 5 .any ((OpenSpec.ofChange Rows.stanzaFieldsSpec).preRow enc Tryd.prog Tryd.f5 Rows.stanzaFieldsRow.domain false Rows.stanzaFieldsRow.laid) (((OpenSpec.ofChange Rows.stanzaFieldsSpec).at F).post enc Tryd.prog Tryd.f5 false true false false) := by
  obtain ⟨x, hx⟩ := reads os enc
  have hz := readsSized os enc
  refine returnsInHanded_of_row (C := Tryd.checked) (s := OpenSpec.ofChange Rows.stanzaFieldsSpec) own' started (by kernel_rfl) Tryd.func5
    ⟨World.laidAll Tryd.prog os laidL, fun _ _ => 0, ⟨#[], #[.slice none 0 0, .string ⟨#[]⟩, .string ⟨#[]⟩, .slice none 0 0], []⟩, door_os os, door_shaped os _, (Input.okWide_of_okWideB (base := 0) (okWit os)).1, (Input.okWide_of_okWideB (okWit os)).2,
      OpenSpec.preRow_of_cond 8 hx rfl (fun k hk => by cases hk) hz (door_met os _), by
        simp only [Assume.holds]
        exact ⟨by simp, by simp, fun _ => Modest.zero, by simp, by simp⟩⟩ ?_
  intro W base args ds gs before hval hW _ _ _ hL hsh _
  exact contract H enc W base args ds gs before hval hW (env5_of hL hsh)

theorem said : Rows.StanzaFieldsSaid :=
  OpenClaim.holds_of_cond 5 Tryd.f5 rfl rfl rfl rfl rfl rfl rfl ⟨rfl, rfl, rfl, rfl, rfl⟩ rfl rfl rfl rfl rfl (by kernel_rfl) Tryd.func5 (by kernel_rfl)
    (of_decide_eq_true (by kernel_rfl)) (by unfold Func.isWrapper; first | (rw [if_pos (by decide +kernel)]; kernel_rfl) | (rw [if_neg (by decide +kernel)]; exact ⟨rfl, rfl⟩))
    (fun os started H enc _ F => by rw [OpenClaim.pre_eq_preRow]; exact lifted os started H enc F)

theorem proved : Rows.StanzaFieldsCardSaid :=
  Claim7.holds_tied_plain_at .later [] _ _ _ _ said (fun _ h => by cases h) (by kernel_rfl) (fun _ h => by cases h) stanzaFields_row_tie rfl ⟨rfl, rfl⟩ (by kernel_rfl) rfl
    (fun f fn hf hfn => by
      obtain rfl : f = 5 := Option.some.inj ((show Tryd.prog.funcNamed "keelson/keelsonlaw5.StanzaFields" = some 5 by kernel_rfl).symm.trans hf) |>.symm
      obtain rfl : fn = Tryd.f5 := (Option.some.inj (Tryd.func5.symm.trans hfn)).symm
      exact ⟨by kernel_rfl, fun j t ht => by
        rw [Tryd.params5] at ht
        have hm : t ∈ [39, 9, 40] := by have := Array.mem_of_getElem? ht; simp at this; simp [this]
        have hall : ([39, 9, 40].all fun u => !Tryd.prog.wantsStandIn u) = true := by kernel_rfl
        exact (show Tryd.prog.wantsStandIn t = false by simpa using List.all_eq_true.1 hall t hm)⟩)
    (by kernel_rfl)
#print axioms proved
end Go.Proofs.YtjfenheplkoajaaDoor.stanzaFields
