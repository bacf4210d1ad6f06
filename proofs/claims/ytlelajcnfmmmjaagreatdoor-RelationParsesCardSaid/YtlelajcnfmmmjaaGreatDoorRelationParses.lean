/- keelsonlaw3.RelationParses: called with any arguments that can be read it returns true, and its arguments read as before. Condition: the library variables that the row lists hold what the program text lays in them, which the card ties to that text. -/
import Derived.Test.YtlelajcnfmmmjaaGreatDoorRelShown
import Derived.Test.YtlelajcnfmmmjaaGreatDoorRelRef2
import Derived.Test.YtlelajcnfmmmjaaGreatDoorDoor
import Derived.Deep.RegionHeld3
import Derived.Deep.RegionWith
import Derived.WalkKit
import Derived.ProofKit
import Derived.OpenShut
import Derived.SevenTiedAt
import Derived.Outline
set_option maxRecDepth 100000
set_option linter.unusedVariables false
set_option linter.unusedSimpArgs false
namespace Go.Proofs.YtlelajcnfmmmjaaGreatDoor.relationParses
open Go.ChangeShapes Go.WideShapes Go.ChangeAt Go.RowKit

theorem envR_keep {w w' : World} (h : Below w.heap.size w w') (E : EnvR w) : EnvR w' := E.below h
theorem q3parse_is {s : ByteArray} {v : Value} (h : relVal s = v) (hs : s.size ≤ 65536) (w : World) : Calls Tryz.prog 14 #[.string s] w fun e' w' => e' = .returned v ∧ Below w.heap.size w w' := by
  rw [← h]; exact q3parse_any s w hs
set_option maxHeartbeats 4000000 in
theorem walk (s n : ByteArray) (op : Int) (v : ByteArray) (w : World) (hs : s.size ≤ maxLen) (hn : n.size ≤ maxLen) (_ : (Lit.int .i64 op).wf = true) (hv : v.size ≤ maxLen) (E : EnvR w) :
    Calls Tryz.prog 4 #[.string s, .agg #[.string n, .int .i64 op, .string v]] w fun e w' => e = .returned (.bool true) ∧ Below w.heap.size w w' := by
  have HE := Lib.hid E
  have S := Lib.hid (fun w E => shown3_any w E)
  have KS := Lib.hid (fun w => small_any n op v w)
  clear E
  by_cases hsm : (n.size : Int) ≤ 300 ∧ (v.size : Int) ≤ 300
  · rw [decide_eq_true hsm.1, decide_eq_true hsm.2] at KS
    by_cases g1 : (500 : Int) < (s.size : Int)
    · have S := S
      go_enter Tryz.func4, Tryz.ntmps4
      have A1 := Lib.hid (show Below w.heap.size w (w.alloc (.cells #[.string n, .int .i64 op, .string v] 29)) from (((Below.refl w.heap.size w)).alloc ((Below.refl w.heap.size w)).size _))
      go_wp2_with fail
      refine (S.out _ (HE.out.below A1.out)).mono ?_
      rintro e' w2 ⟨rfl, hb⟩
      obtain ⟨c0, c1, c2, _⟩ := box3 hb
      have B2 := Lib.hid (bel_2 A1.out hb)
      clear hb
      go_wp2_with fail
      refine (KS.out _).mono ?_
      rintro e' w3 ⟨rfl, hb⟩
      obtain ⟨c0, c1, c2⟩ := cell3 hb ⟨c0, c1, c2⟩
      have B3 := Lib.hid (bel_2 B2.out hb)
      clear hb
      go_wp2
      go_ret
      exact ⟨rfl, B3.out⟩
    obtain ⟨UU, EE, RR, ee, hV⟩ : ∃ UU EE RR ee, relVal s = .tuple #[.agg #[.string UU, .int .i64 EE, .string RR], .int .i64 ee] := ⟨_, _, _, _, rfl⟩
    have zn : n.size ≤ 65536 := by omega
    have P1 := Lib.hid (rparse_is hV (by omega))
    have P2 := Lib.hid (fun w => q3parse_is hV (by omega) w)
    have K1 := Lib.hid (fun w E => rright_any n op v w E)
    have K2 := Lib.hid (fun w => q3right_any n op v w zn)
    have K3 := Lib.hid (fun w E => rprint_any n op v w E)
    have K4 := Lib.hid (fun w => q3print_any n op v w zn)
    have heq := eq_atom_same
    clear hV hsm
    generalize rightA (B n) op (B v) = rb at *
    generalize mk (printA (B n) op (B v)) = T at *
    go_enter Tryz.func4, Tryz.ntmps4
    have A1 := Lib.hid (show Below w.heap.size w (w.alloc (.cells #[.string n, .int .i64 op, .string v] 29)) from (((Below.refl w.heap.size w)).alloc ((Below.refl w.heap.size w)).size _))
    go_wp2_with fail
    refine (S.out _ (HE.out.below A1.out)).mono ?_
    rintro e' w2 ⟨rfl, hb⟩
    obtain ⟨c0, c1, c2, _⟩ := box3 hb
    have B2 := Lib.hid (bel_2 A1.out hb)
    clear hb
    go_wp2_with fail
    refine (KS.out _).mono ?_
    rintro e' w3 ⟨rfl, hb⟩
    obtain ⟨c0, c1, c2⟩ := cell3 hb ⟨c0, c1, c2⟩
    have B3 := Lib.hid (bel_2 B2.out hb)
    clear hb
    go_wp2_with fail
    refine (P1.out _ (HE.out.below B3.out)).mono ?_
    rintro e' w4 ⟨rfl, hb⟩
    obtain ⟨c0, c1, c2⟩ := cell3 hb ⟨c0, c1, c2⟩
    have B4 := Lib.hid (bel_2 B3.out hb)
    clear hb
    have A5 := Lib.hid (show Below w.heap.size w (w4.alloc (.cells #[.string UU, .int .i64 EE, .string RR] 29)) from ((B4.out).alloc (B4.out).size _))
    go_wp2_with fail
    refine (P2.out _).mono ?_
    rintro e' w6 ⟨rfl, hb⟩
    obtain ⟨c0, c1, c2⟩ := keep_al (o := (.cells #[.string UU, .int .i64 EE, .string RR] 29)) c0 c1 c2
    obtain ⟨c0, c1, c2⟩ := cell3 hb ⟨c0, c1, c2⟩
    obtain ⟨a0, a1, a2, _⟩ := box3 hb
    have B6 := Lib.hid (bel_2 A5.out hb)
    clear hb
    go_wp2_with fail
    obtain ⟨V, hV⟩ : ∃ V, V = w6.alloc (.cells #[.string UU, .int .i64 EE, .string RR] 29) := ⟨_, rfl⟩
    obtain ⟨c0, c1, c2⟩ := keep_al (o := (.cells #[.string UU, .int .i64 EE, .string RR] 29)) c0 c1 c2
    obtain ⟨a0, a1, a2⟩ := keep_al (o := (.cells #[.string UU, .int .i64 EE, .string RR] 29)) a0 a1 a2
    have b0 : V.cell? ⟨w6.heap.size, 0, none⟩ = some (.string UU) := by rw [hV]; simp [go_sem]
    have b1 : V.cell? ⟨w6.heap.size, 1, none⟩ = some (.int .i64 EE) := by rw [hV]; simp [go_sem]
    have b2 : V.cell? ⟨w6.heap.size, 2, none⟩ = some (.string RR) := by rw [hV]; simp [go_sem]
    have HV := Lib.hid (show Below w.heap.size w V by rw [hV]; exact B6.out.alloc B6.out.size _)
    rw [← hV] at c0 c1 c2 a0 a1 a2
    rw [← hV]
    have EV : EnvR V := HE.out.below HV.out
    have bb := (Below.refl V.heap.size V).drew
    clear hV
    first | (go_region_held3 (fun W => W.cell? ⟨w.heap.size, 0, none⟩ = some (.string n) ∧ W.cell? ⟨w.heap.size, 1, none⟩ = some (.int .i64 op) ∧ W.cell? ⟨w.heap.size, 2, none⟩ = some (.string v) ∧ W.cell? ⟨w4.heap.size, 0, none⟩ = some (.string UU) ∧ W.cell? ⟨w4.heap.size, 1, none⟩ = some (.int .i64 EE) ∧ W.cell? ⟨w4.heap.size, 2, none⟩ = some (.string RR) ∧ W.cell? ⟨w6.heap.size, 0, none⟩ = some (.string UU) ∧ W.cell? ⟨w6.heap.size, 1, none⟩ = some (.int .i64 EE) ∧ W.cell? ⟨w6.heap.size, 2, none⟩ = some (.string RR) ∧ EnvR W ∧ Below V.heap.size V W)
      (first | (go_split_ands; refine ⟨?_, ?_, ?_, ?_, ?_, ?_, ?_, ?_, ?_, ?_, ?_⟩ <;> first | assumption | exact keep_cell hbx (by assumption) | exact envR_keep hbx (by assumption) | exact Below.trans (by assumption) (hbx.mono (Below.size (by assumption))) | exact EnvR.drew (by assumption)) | go_keep)
      (first | (go_at_call 15; (with_reducible refine (K1.out _ (by go_split_ands; assumption)).mono ?_); rintro e wx ⟨rfl, hbx⟩) | (go_at_call 16; (with_reducible refine (K2.out _).mono ?_); rintro e wx ⟨rfl, hbx⟩) | (go_at_call 17; (with_reducible refine (K3.out _ (by go_split_ands; assumption)).mono ?_); rintro e wx ⟨rfl, hbx⟩) | (go_at_call 18; (with_reducible refine (K4.out _).mono ?_); rintro e wx ⟨rfl, hbx⟩))) | fail
    all_goals
      go_wp2
      go_ret
      go_split_ands
      exact ⟨rfl, bel_2 HV.out (by assumption)⟩
  · have hb : (decide ((n.size : Int) ≤ 300) && decide ((v.size : Int) ≤ 300)) = false := by
      rw [Bool.and_eq_false_iff, decide_eq_false_iff_not, decide_eq_false_iff_not]; omega
    rw [hb] at KS
    clear hb hsm
    go_enter Tryz.func4, Tryz.ntmps4
    have A1 := Lib.hid (show Below w.heap.size w (w.alloc (.cells #[.string n, .int .i64 op, .string v] 29)) from (((Below.refl w.heap.size w)).alloc ((Below.refl w.heap.size w)).size _))
    go_wp2_with fail
    refine (S.out _ (HE.out.below A1.out)).mono ?_
    rintro e' w2 ⟨rfl, hb⟩
    obtain ⟨c0, c1, c2, _⟩ := box3 hb
    have B2 := Lib.hid (bel_2 A1.out hb)
    clear hb
    go_wp2_with fail
    refine (KS.out _).mono ?_
    rintro e' w3 ⟨rfl, hb⟩
    obtain ⟨c0, c1, c2⟩ := cell3 hb ⟨c0, c1, c2⟩
    have B3 := Lib.hid (bel_2 B2.out hb)
    clear hb
    go_wp2
    go_ret
    exact ⟨rfl, B3.out⟩

theorem contract (H : Type) (enc : TypeId × Value → H) (W : World) (base : Nat) (args : Array Value) (ds gs : List (DataW H)) (before : List MemPlace)
    (hval : ∀ (j : Nat) t v, Tryz.f4.params[j]? = some t → args[j]? = some v → Value.okWide Tryz.prog W .any base t v)
    (hW : DataW.Whole enc Tryz.prog Tryz.f4.params.toList Rows.relationParsesSpec.vars false W args.toList ds gs before) (E : EnvR W) :
    Calls Tryz.prog 4 args W fun e W' => ∃ v, e = .returned v ∧ Rows.relationParsesSpec.post enc Tryz.prog Tryz.f4 false true false false W args v W' := by
  have hW' := hW
  obtain ⟨p, q, hA0, _, _, _, _⟩ := hW
  have hA : DataW.TrodAll enc Tryz.prog W 0 (fun _ => true) true Tryz.f4.params.toList args.toList ds p := hA0
  rw [Tryz.params4] at hA hval
  obtain ⟨v0, vs0, d0, ds0, p0, q0, hargs, rfl, rfl, h0, r0⟩ := trodAll_cons hA
  obtain ⟨v1, vs1, d1, ds1, p1, q1, rfl, rfl, rfl, h1, r1⟩ := trodAll_cons r0
  obtain ⟨rfl, rfl, rfl⟩ := trodAll_nil r1
  obtain rfl : args = #[v0, v1] := by cases args; simp_all
  obtain ⟨s0, rfl, w0⟩ := open_str_arg (hval 0 9 v0 rfl rfl) h0
  obtain ⟨n1, e1, r1', rfl, wn1, w1, wr1⟩ := open_atom_arg (hval 1 29 v1 rfl rfl) h1
  refine (walk s0 n1 e1 r1' W w0 wn1 w1 wr1 E).mono fun e W' ⟨he, hb⟩ => ?_
  subst he
  refine ⟨_, rfl, law_post hW' rfl rfl rfl rfl rfl Tryz.underlying4 laid_out ?_ hb⟩
  rw [Tryz.params4]
  intro t ht
  simp at ht
  rcases ht with rfl | rfl <;> exact ⟨by kernel_rfl, of_decide_eq_true (by kernel_rfl)⟩

theorem reads (os : Os) {H : Type} (enc : TypeId × Value → H) : ∃ x, DataW.whole enc Tryz.prog ((World.laidAll Tryz.prog os laidL).forCall (fun _ _ => 0) ⟨#[], #[.string ⟨#[]⟩, .agg #[.string ⟨#[]⟩, .int .i64 0, .string ⟨#[]⟩]], []⟩).memory Tryz.f4.params.toList Rows.relationParsesSpec.vars false ((#[.string ⟨#[]⟩, .agg #[.string ⟨#[]⟩, .int .i64 0, .string ⟨#[]⟩]] : Array Value)).toList 8 = some x :=
  Option.isSome_iff_exists.1 (by kernel_rfl)
theorem readsSized (os : Os) {H : Type} (enc : TypeId × Value → H) : (OpenSpec.ofChange Rows.relationParsesSpec).bare.sizedB enc Tryz.prog Tryz.f4 false ((World.laidAll Tryz.prog os laidL).forCall (fun _ _ => 0) ⟨#[], #[.string ⟨#[]⟩, .agg #[.string ⟨#[]⟩, .int .i64 0, .string ⟨#[]⟩]], []⟩).memory #[.string ⟨#[]⟩, .agg #[.string ⟨#[]⟩, .int .i64 0, .string ⟨#[]⟩]] 8 = true := by kernel_rfl
theorem okWit (os : Os) : Input.okWideB Tryz.prog ((World.laidAll Tryz.prog os laidL).forCall (fun _ _ => 0) ⟨#[], #[.string ⟨#[]⟩, .agg #[.string ⟨#[]⟩, .int .i64 0, .string ⟨#[]⟩]], []⟩) 4 ⟨#[], #[.string ⟨#[]⟩, .agg #[.string ⟨#[]⟩, .int .i64 0, .string ⟨#[]⟩]], []⟩ = true := by kernel_rfl
theorem lifted (os : Os) (started : os.Started) (H : Type) (enc : TypeId × Value → H) (F : Stop.Interp) :
    ReturnsInHanded {} Tryz.checked os 4 .any ((OpenSpec.ofChange Rows.relationParsesSpec).preRow enc Tryz.prog Tryz.f4 Rows.relationParsesRow.domain false Rows.relationParsesRow.laid) (((OpenSpec.ofChange Rows.relationParsesSpec).at F).post enc Tryz.prog Tryz.f4 false true false false) := by
  obtain ⟨x, hx⟩ := reads os enc
  have hz := readsSized os enc
  refine returnsInHanded_of_row (C := Tryz.checked) (s := OpenSpec.ofChange Rows.relationParsesSpec) own' started (by kernel_rfl) Tryz.func4
    ⟨World.laidAll Tryz.prog os laidL, fun _ _ => 0, ⟨#[], #[.string ⟨#[]⟩, .agg #[.string ⟨#[]⟩, .int .i64 0, .string ⟨#[]⟩]], []⟩, door_os os, door_shaped os _, (Input.okWide_of_okWideB (base := 0) (okWit os)).1, (Input.okWide_of_okWideB (okWit os)).2,
      OpenSpec.preRow_of_cond 8 hx rfl (fun k hk => by cases hk) hz (door_met os _), by
        simp only [Assume.holds]
        exact ⟨by simp, by simp, fun _ => Modest.zero, by simp, by simp⟩⟩ ?_
  intro W base args ds gs before hval hW _ _ _ hL hsh _
  exact contract H enc W base args ds gs before hval hW (env_of hL hsh)

theorem said : Rows.RelationParsesSaid :=
  OpenClaim.holds_of_cond 4 Tryz.f4 rfl rfl rfl rfl rfl rfl rfl ⟨rfl, rfl, rfl, rfl, rfl⟩ rfl rfl rfl rfl rfl (by kernel_rfl) Tryz.func4 (by kernel_rfl)
    (of_decide_eq_true (by kernel_rfl)) (by unfold Func.isWrapper; first | (rw [if_pos (by decide +kernel)]; kernel_rfl) | (rw [if_neg (by decide +kernel)]; exact ⟨rfl, rfl⟩))
    (fun os started H enc _ F => by rw [OpenClaim.pre_eq_preRow]; exact lifted os started H enc F)

theorem proved : Rows.RelationParsesCardSaid :=
  Claim7.holds_tied_plain_at .later [] _ _ _ _ said (fun _ h => by cases h) (by kernel_rfl) (fun _ h => by cases h) relationParses_row_tie rfl ⟨rfl, rfl⟩ (by kernel_rfl) rfl
    (fun f fn hf hfn => by
      obtain rfl : f = 4 := Option.some.inj ((show Tryz.prog.funcNamed "keelson/keelsonlaw3.RelationParses" = some 4 by kernel_rfl).symm.trans hf) |>.symm
      obtain rfl : fn = Tryz.f4 := (Option.some.inj (Tryz.func4.symm.trans hfn)).symm
      exact ⟨by kernel_rfl, fun j t ht => by
        rw [Tryz.params4] at ht
        have hm : t ∈ [9, 29] := by have := Array.mem_of_getElem? ht; simp at this; simp [this]
        have hall : ([9, 29].all fun u => !Tryz.prog.wantsStandIn u) = true := by kernel_rfl
        exact (show Tryz.prog.wantsStandIn t = false by simpa using List.all_eq_true.1 hall t hm)⟩)
    (by kernel_rfl)
#print axioms proved
end Go.Proofs.YtlelajcnfmmmjaaGreatDoor.relationParses
