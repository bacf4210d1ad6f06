/- keelsonlaw2.VersionOrders: called with any arguments that can be read it returns true, and its arguments read as before. Condition: the library variables that the row lists hold what the program text lays in them, which the card ties to that text. -/
import Derived.Test.YtklkefmbmagplaaDoorVerShown
import Derived.Test.YtklkefmbmagplaaDoorOrderP
import Derived.Test.YtklkefmbmagplaaDoorDoor
import Derived.WalkKit
import Derived.ProofKit
import Derived.OpenShut
import Derived.SevenTiedAt
import Derived.Outline
set_option maxRecDepth 100000
set_option linter.unusedVariables false
set_option linter.unusedSimpArgs false
namespace Go.Proofs.YtklkefmbmagplaaDoor.versionOrders
open Go.ChangeShapes Go.WideShapes Go.ChangeAt Go.RowKit

theorem vorder_neg (a b : ByteArray) (w : World) (E : Env w) : Calls Tryd.prog 20 #[.string b, .string a] w fun e' w' => e' = .returned (.int .i64 (-orderV (B a) (B b))) ∧ Below w.heap.size w w' := by
  rw [← orderV_neg]; exact vorder_any b a w E
theorem vorder_self (a : ByteArray) (w : World) (E : Env w) : Calls Tryd.prog 20 #[.string a, .string a] w fun e' w' => e' = .returned (.int .i64 0) ∧ Below w.heap.size w w' := by
  rw [← orderV_self (B a)]; exact vorder_any a a w E
theorem ord3 (a b c : List Nat) : (cmpS a b = 0 → cmpS b c = cmpS a c) ∧ (cmpS b c = 0 → cmpS a b = cmpS a c) ∧ (cmpS a b < 0 → cmpS b c < 0 → cmpS a c < 0) ∧ (0 < cmpS a b → 0 < cmpS b c → 0 < cmpS a c) := by
  have h1 := cmpS_tr a b c
  have h2 := cmpS_tr c b a
  have h3 := cmpS_tr b a c
  have h4 := cmpS_tr c a b
  have h5 := cmpS_tr a c b
  have h6 := cmpS_tr b c a
  rw [cmpS_neg b c, cmpS_neg a b, cmpS_neg a c] at h2
  rw [cmpS_neg a b] at h3
  rw [cmpS_neg a c, cmpS_neg b c] at h4
  rw [cmpS_neg b c] at h5
  rw [cmpS_neg a c, cmpS_neg a b] at h6
  have := cmpS_is a b
  have := cmpS_is b c
  have := cmpS_is a c
  omega
set_option maxHeartbeats 4000000 in
theorem walk (a b c : ByteArray) (w : World) (ha : a.size ≤ maxLen) (hb : b.size ≤ maxLen) (hc : c.size ≤ maxLen) (E : Env w) :
    Calls Tryd.prog 6 #[.string a, .string b, .string c] w fun e w' => e = .returned (.bool true) ∧ Below w.heap.size w w' := by
  have HE := Lib.hid E
  have S := Lib.hid (shown_any w E)
  clear E
  go_enter Tryd.func6, Tryd.ntmps6
  go_wp2_with fail
  refine S.out.mono ?_
  rintro e' w1 ⟨rfl, hb1⟩
  have B1 := Lib.hid hb1
  clear hb1
  by_cases g0 : (200 : Int) < (a.size : Int)
  · go_wp2
    go_ret
    exact ⟨rfl, B1.out⟩
  by_cases g1 : (200 : Int) < (b.size : Int)
  · go_wp2
    go_ret
    exact ⟨rfl, B1.out⟩
  by_cases g2 : (200 : Int) < (c.size : Int)
  · go_wp2
    go_ret
    exact ⟨rfl, B1.out⟩
  have K1 := Lib.hid (fun w => vcmp_any a b w (by omega) (by omega))
  have K2 := Lib.hid (fun w => vcmp_any b c w (by omega) (by omega))
  have K3 := Lib.hid (fun w => vcmp_any a c w (by omega) (by omega))
  have K4 := Lib.hid (fun w => vcmp_is (cmpS_self (B a)) (by omega) (by omega) w)
  have K5 := Lib.hid (fun w => vcmp_is (cmpS_neg (B a) (B b)) (by omega) (by omega) w)
  have O1 := Lib.hid (fun w E => vorder_any a b w E)
  have O2 := Lib.hid (fun w E => vorder_neg a b w E)
  have O3 := Lib.hid (fun w E => vorder_self a w E)
  have hk := orderV_is (B a) (B b)
  have hx := cmpS_is (B a) (B b)
  have hy := cmpS_is (B b) (B c)
  have hz := cmpS_is (B a) (B c)
  have h3 := ord3 (B a) (B b) (B c)
  generalize orderV (B a) (B b) = k at *
  generalize cmpS (B a) (B b) = x at *
  generalize cmpS (B b) (B c) = y at *
  generalize cmpS (B a) (B c) = z at *
  have k1 : -1 ≤ k := by omega
  have k2 : k ≤ 1 := by omega
  clear hk
  obtain ⟨i1, i2, i3, i4⟩ := h3
  rcases hx with rfl | rfl | rfl <;> rcases hy with rfl | rfl | rfl <;> rcases hz with rfl | rfl | rfl <;> first | (exfalso; omega) | skip
  all_goals
    clear i1 i2 i3 i4
    go_wp2_with fail
    refine (K1.out _).mono ?_
    rintro e' w1 ⟨rfl, hb⟩
    have B1_0 := Lib.hid (bel_2 B1.out hb)
    clear hb
    go_wp2_with fail
    refine (K2.out _).mono ?_
    rintro e' w1 ⟨rfl, hb⟩
    have B1_1 := Lib.hid (bel_2 B1_0.out hb)
    clear hb
    go_wp2_with fail
    refine (K3.out _).mono ?_
    rintro e' w1 ⟨rfl, hb⟩
    have B1_2 := Lib.hid (bel_2 B1_1.out hb)
    clear hb
    go_wp2_with fail
    refine (K4.out _).mono ?_
    rintro e' w1 ⟨rfl, hb⟩
    have B1_3 := Lib.hid (bel_2 B1_2.out hb)
    clear hb
    go_wp2_with fail
    refine (K5.out _).mono ?_
    rintro e' w1 ⟨rfl, hb⟩
    have B1_4 := Lib.hid (bel_2 B1_3.out hb)
    clear hb
    go_wp2_with fail
    refine (O1.out _ (HE.out.below B1_4.out)).mono ?_
    rintro e' w1 ⟨rfl, hb⟩
    have B1_5 := Lib.hid (bel_2 B1_4.out hb)
    clear hb
    go_wp2_with fail
    refine (O2.out _ (HE.out.below B1_5.out)).mono ?_
    rintro e' w1 ⟨rfl, hb⟩
    have B1_6 := Lib.hid (bel_2 B1_5.out hb)
    clear hb
    go_wp2_with fail
    refine (O3.out _ (HE.out.below B1_6.out)).mono ?_
    rintro e' w1 ⟨rfl, hb⟩
    have B1_7 := Lib.hid (bel_2 B1_6.out hb)
    clear hb
    go_wp2
    go_ret
    exact ⟨rfl, B1_7.out⟩

theorem contract (H : Type) (enc : TypeId × Value → H) (W : World) (base : Nat) (args : Array Value) (ds gs : List (DataW H)) (before : List MemPlace)
    (hval : ∀ (j : Nat) t v, Tryd.f6.params[j]? = some t → args[j]? = some v → Value.okWide Tryd.prog W .any base t v)
    (hW : DataW.Whole enc Tryd.prog Tryd.f6.params.toList Rows.versionOrdersSpec.vars false W args.toList ds gs before) (E : Env W) :
    Calls Tryd.prog 6 args W fun e W' => ∃ v, e = .returned v ∧ Rows.versionOrdersSpec.post enc Tryd.prog Tryd.f6 false true false false W args v W' := by
  have hW' := hW
  obtain ⟨p, q, hA0, _, _, _, _⟩ := hW
  have hA : DataW.TrodAll enc Tryd.prog W 0 (fun _ => true) true Tryd.f6.params.toList args.toList ds p := hA0
  rw [Tryd.params6] at hA hval
  obtain ⟨v0, vs0, d0, ds0, p0, q0, hargs, rfl, rfl, h0, r0⟩ := trodAll_cons hA
  obtain ⟨v1, vs1, d1, ds1, p1, q1, rfl, rfl, rfl, h1, r1⟩ := trodAll_cons r0
  obtain ⟨v2, vs2, d2, ds2, p2, q2, rfl, rfl, rfl, h2, r2⟩ := trodAll_cons r1
  obtain ⟨rfl, rfl, rfl⟩ := trodAll_nil r2
  obtain rfl : args = #[v0, v1, v2] := by cases args; simp_all
  obtain ⟨s0, rfl, w0⟩ := open_str_arg (hval 0 9 v0 rfl rfl) h0
  obtain ⟨s1, rfl, w1⟩ := open_str_arg (hval 1 9 v1 rfl rfl) h1
  obtain ⟨s2, rfl, w2⟩ := open_str_arg (hval 2 9 v2 rfl rfl) h2
  refine (walk s0 s1 s2 W w0 w1 w2 E).mono fun e W' ⟨he, hb⟩ => ?_
  subst he
  refine ⟨_, rfl, law_post hW' rfl rfl rfl rfl rfl Tryd.underlying4 laid_out ?_ hb⟩
  rw [Tryd.params6]
  intro t ht
  simp at ht
  subst ht
  exact ⟨by kernel_rfl, of_decide_eq_true (by kernel_rfl)⟩

theorem reads (os : Os) {H : Type} (enc : TypeId × Value → H) : ∃ x, DataW.whole enc Tryd.prog ((World.laidAll Tryd.prog os laidL).forCall (fun _ _ => 0) ⟨#[], #[.string ⟨#[]⟩, .string ⟨#[]⟩, .string ⟨#[]⟩], []⟩).memory Tryd.f6.params.toList Rows.versionOrdersSpec.vars false ((#[.string ⟨#[]⟩, .string ⟨#[]⟩, .string ⟨#[]⟩] : Array Value)).toList 8 = some x :=
  Option.isSome_iff_exists.1 (by kernel_rfl)
theorem readsSized (os : Os) {H : Type} (enc : TypeId × Value → H) : (OpenSpec.ofChange Rows.versionOrdersSpec).bare.sizedB enc Tryd.prog Tryd.f6 false ((World.laidAll Tryd.prog os laidL).forCall (fun _ _ => 0) ⟨#[], #[.string ⟨#[]⟩, .string ⟨#[]⟩, .string ⟨#[]⟩], []⟩).memory #[.string ⟨#[]⟩, .string ⟨#[]⟩, .string ⟨#[]⟩] 8 = true := by kernel_rfl
theorem okWit (os : Os) : Input.okWideB Tryd.prog ((World.laidAll Tryd.prog os laidL).forCall (fun _ _ => 0) ⟨#[], #[.string ⟨#[]⟩, .string ⟨#[]⟩, .string ⟨#[]⟩], []⟩) 6 ⟨#[], #[.string ⟨#[]⟩, .string ⟨#[]⟩, .string ⟨#[]⟩], []⟩ = true := by kernel_rfl
theorem lifted (os : Os) (started : os.Started) (H : Type) (enc : TypeId × Value → H) (F : Stop.Interp) :
    ReturnsInHanded {} Tryd.checked os 6 .any ((OpenSpec.ofChange Rows.versionOrdersSpec).preRow enc Tryd.prog Tryd.f6 Rows.versionOrdersRow.domain false Rows.versionOrdersRow.laid) (((OpenSpec.ofChange Rows.versionOrdersSpec).at F).post enc Tryd.prog Tryd.f6 false true false false) := by
  obtain ⟨x, hx⟩ := reads os enc
  have hz := readsSized os enc
  refine returnsInHanded_of_row (C := Tryd.checked) (s := OpenSpec.ofChange Rows.versionOrdersSpec) own' started (by kernel_rfl) Tryd.func6
    ⟨World.laidAll Tryd.prog os laidL, fun _ _ => 0, ⟨#[], #[.string ⟨#[]⟩, .string ⟨#[]⟩, .string ⟨#[]⟩], []⟩, door_os os, door_shaped os _, (Input.okWide_of_okWideB (base := 0) (okWit os)).1, (Input.okWide_of_okWideB (okWit os)).2,
      OpenSpec.preRow_of_cond 8 hx rfl (fun k hk => by cases hk) hz (door_met os _), by
        simp only [Assume.holds]
        exact ⟨by simp, by simp, fun _ => Modest.zero, by simp, by simp⟩⟩ ?_
  intro W base args ds gs before hval hW _ _ _ hL hsh _
  exact contract H enc W base args ds gs before hval hW (env_of hL hsh)

theorem said : Rows.VersionOrdersSaid :=
  OpenClaim.holds_of_cond 6 Tryd.f6 rfl rfl rfl rfl rfl rfl rfl ⟨rfl, rfl, rfl, rfl, rfl⟩ rfl rfl rfl rfl rfl (by kernel_rfl) Tryd.func6 (by kernel_rfl)
    (of_decide_eq_true (by kernel_rfl)) (by unfold Func.isWrapper; first | (rw [if_pos (by decide +kernel)]; kernel_rfl) | (rw [if_neg (by decide +kernel)]; exact ⟨rfl, rfl⟩))
    (fun os started H enc _ F => by rw [OpenClaim.pre_eq_preRow]; exact lifted os started H enc F)

theorem proved : Rows.VersionOrdersCardSaid :=
  Claim7.holds_tied_plain_at .later [] _ _ _ _ said (fun _ h => by cases h) (by kernel_rfl) (fun _ h => by cases h) versionOrders_row_tie rfl ⟨rfl, rfl⟩ (by kernel_rfl) rfl
    (fun f fn hf hfn => by
      obtain rfl : f = 6 := Option.some.inj ((show Tryd.prog.funcNamed "keelson/keelsonlaw2.VersionOrders" = some 6 by kernel_rfl).symm.trans hf) |>.symm
      obtain rfl : fn = Tryd.f6 := (Option.some.inj (Tryd.func6.symm.trans hfn)).symm
      exact ⟨by kernel_rfl, fun j t ht => by
        rw [Tryd.params6] at ht
        have hm : t ∈ [9] := by have := Array.mem_of_getElem? ht; simp at this; simp [this]
        have hall : ([9].all fun u => !Tryd.prog.wantsStandIn u) = true := by kernel_rfl
        exact (show Tryd.prog.wantsStandIn t = false by simpa using List.all_eq_true.1 hall t hm)⟩)
    (by kernel_rfl)
#print axioms proved
end Go.Proofs.YtklkefmbmagplaaDoor.versionOrders
