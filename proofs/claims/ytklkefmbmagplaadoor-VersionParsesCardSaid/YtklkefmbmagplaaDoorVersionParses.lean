/- keelsonlaw2.VersionParses: called with any arguments that can be read it returns true, and its arguments read as before. Condition: the library variables that the row lists hold what the program text lays in them, which the card ties to that text. -/
import Derived.Test.YtklkefmbmagplaaDoorVerShown
import Derived.Test.YtklkefmbmagplaaDoorRefPrint
import Derived.Test.YtklkefmbmagplaaDoorDoor
import Derived.WalkKit
import Derived.ProofKit
import Derived.OpenShut
import Derived.SevenTiedAt
import Derived.Outline
set_option maxRecDepth 100000
set_option linter.unusedVariables false
set_option linter.unusedSimpArgs false
namespace Go.Proofs.YtklkefmbmagplaaDoor.versionParses
open Go.ChangeShapes Go.WideShapes Go.ChangeAt Go.RowKit

theorem keep_al {w : World} {o : Obj} {b : Nat} {x y z : Value} (h0 : w.cell? ⟨b, 0, none⟩ = some x) (h1 : w.cell? ⟨b, 1, none⟩ = some y) (h2 : w.cell? ⟨b, 2, none⟩ = some z) :
    (w.alloc o).cell? ⟨b, 0, none⟩ = some x ∧ (w.alloc o).cell? ⟨b, 1, none⟩ = some y ∧ (w.alloc o).cell? ⟨b, 2, none⟩ = some z := ⟨cell_old' h0, cell_old' h1, cell_old' h2⟩
theorem parse_is {s : ByteArray} {v : Value} (h : parseV s = v) (w : World) : Calls Tryd.prog 11 #[.string s] w fun e' w' => e' = .returned v ∧ Below w.heap.size w w' := by
  rw [← h]; exact parse_any s w
set_option maxHeartbeats 4000000 in
theorem walk (s : ByteArray) (e1 : Int) (u1 r1 : ByteArray) (w : World) (hs : s.size ≤ maxLen) (_ : (Lit.int .i64 e1).wf = true) (hu1 : u1.size ≤ maxLen) (hr1 : r1.size ≤ maxLen) (E : Env w) :
    Calls Tryd.prog 3 #[.string s, .agg #[.int .i64 e1, .string u1, .string r1]] w fun e w' => e = .returned (.bool true) ∧ Below w.heap.size w w' := by
  have HE := Lib.hid E
  have S := Lib.hid (fun w E => shown_any w E)
  clear E
  go_enter Tryd.func3, Tryd.ntmps3
  go_wp2_with fail
  refine (S.out _ (HE.out.alloc _)).mono ?_
  rintro e' w1 ⟨rfl, hb1⟩
  obtain ⟨c0, c1, c2, _⟩ := box3 hb1
  have HB1 := Lib.hid (bel_boxed hb1)
  clear hb1
  by_cases g0 : (500 : Int) < (s.size : Int)
  · go_wp2
    go_ret
    exact ⟨rfl, HB1.out⟩
  by_cases g1 : (500 : Int) < (u1.size : Int)
  · go_wp2
    go_ret
    exact ⟨rfl, HB1.out⟩
  by_cases g2 : (500 : Int) < (r1.size : Int)
  · go_wp2
    go_ret
    exact ⟨rfl, HB1.out⟩
  obtain ⟨EE, ee, UU, RR, hV⟩ : ∃ EE ee UU RR, parseV s = .tuple #[.agg #[.int .i64 EE, .string UU, .string RR], .int .i64 ee] := ⟨_, _, _, _, rfl⟩
  have P1 := Lib.hid (vparse_is hV)
  have P2 := Lib.hid (fun w => parse_is hV w)
  have K1 := Lib.hid (fun w E => vright_any e1 u1 r1 w (by omega) (by omega) E)
  have K2 := Lib.hid (fun w => right_any e1 u1 r1 w (by omega) (by omega))
  have K3 := Lib.hid (fun w E => vprint_any e1 u1 r1 w (by omega) (by omega) E)
  have K4 := Lib.hid (fun w => print_any e1 u1 r1 w (by omega) (by omega))
  have heq := eq_ver_same
  clear hV
  generalize rightB e1 (B u1) (B r1) = rb at *
  generalize mk (printL e1 (B u1) (B r1)) = T at *
  go_wp2_with fail
  refine (P1.out _ (HE.out.below HB1.out)).mono ?_
  rintro e' w2 ⟨rfl, hb⟩
  obtain ⟨c0, c1, c2⟩ := cell3 hb ⟨c0, c1, c2⟩
  have HB2 := Lib.hid (bel_2 HB1.out hb)
  clear hb
  obtain ⟨c0, c1, c2⟩ := keep_al (o := .cells #[.int .i64 EE, .string UU, .string RR] 23) c0 c1 c2
  have HA := Lib.hid (show Below w.heap.size w (w2.alloc (.cells #[.int .i64 EE, .string UU, .string RR] 23)) from HB2.out.alloc HB2.out.size _)
  go_wp2_with fail
  refine (P2.out _).mono ?_
  rintro e' w3 ⟨rfl, hb⟩
  obtain ⟨c0, c1, c2⟩ := cell3 hb ⟨c0, c1, c2⟩
  obtain ⟨a0, a1, a2, s3⟩ := box3 hb
  have HB3 := Lib.hid (bel_2 HA.out hb)
  clear hb
  go_wp2_with fail
  obtain ⟨V, hV⟩ : ∃ V, V = w3.alloc (.cells #[.int .i64 EE, .string UU, .string RR] 23) := ⟨_, rfl⟩
  obtain ⟨c0, c1, c2⟩ := keep_al (o := .cells #[.int .i64 EE, .string UU, .string RR] 23) c0 c1 c2
  obtain ⟨a0, a1, a2⟩ := keep_al (o := .cells #[.int .i64 EE, .string UU, .string RR] 23) a0 a1 a2
  have b0 : V.cell? ⟨w3.heap.size, 0, none⟩ = some (.int .i64 EE) := by rw [hV]; simp [go_sem]
  have b1 : V.cell? ⟨w3.heap.size, 1, none⟩ = some (.string UU) := by rw [hV]; simp [go_sem]
  have b2 : V.cell? ⟨w3.heap.size, 2, none⟩ = some (.string RR) := by rw [hV]; simp [go_sem]
  have HV := Lib.hid (show Below w.heap.size w V by rw [hV]; exact HB3.out.alloc HB3.out.size _)
  rw [← hV] at c0 c1 c2 a0 a1 a2
  rw [← hV]
  have EV : Env V := HE.out.below HV.out
  have bb := (Below.refl V.heap.size V).drew
  clear hV s3
  first | (go_region_held3 (fun W => W.cell? ⟨w.heap.size, 0, none⟩ = some (.int .i64 e1) ∧ W.cell? ⟨w.heap.size, 1, none⟩ = some (.string u1) ∧ W.cell? ⟨w.heap.size, 2, none⟩ = some (.string r1) ∧ W.cell? ⟨w2.heap.size, 0, none⟩ = some (.int .i64 EE) ∧ W.cell? ⟨w2.heap.size, 1, none⟩ = some (.string UU) ∧ W.cell? ⟨w2.heap.size, 2, none⟩ = some (.string RR) ∧ W.cell? ⟨w3.heap.size, 0, none⟩ = some (.int .i64 EE) ∧ W.cell? ⟨w3.heap.size, 1, none⟩ = some (.string UU) ∧ W.cell? ⟨w3.heap.size, 2, none⟩ = some (.string RR) ∧ Env W ∧ Below V.heap.size V W)
    (first | (go_split_ands; refine ⟨?_, ?_, ?_, ?_, ?_, ?_, ?_, ?_, ?_, ?_, ?_⟩ <;> first | assumption | exact keep_cell hbx (by assumption) | exact env_keep hbx (by assumption) | exact Below.trans (by assumption) (hbx.mono (Below.size (by assumption))) | exact env_drew (by assumption)) | go_keep)
    (first | (go_at_call 12; (with_reducible refine (K1.out _ (by go_split_ands; assumption)).mono ?_); rintro e wx ⟨rfl, hbx⟩) | (go_at_call 13; (with_reducible refine (K2.out _).mono ?_); rintro e wx ⟨rfl, hbx⟩) | (go_at_call 14; (with_reducible refine (K3.out _ (by go_split_ands; assumption)).mono ?_); rintro e wx ⟨rfl, hbx⟩) | (go_at_call 15; (with_reducible refine (K4.out _).mono ?_); rintro e wx ⟨rfl, hbx⟩))) | fail
  all_goals
    go_wp2
    go_ret
    go_split_ands
    exact ⟨rfl, bel_2 HV.out (by assumption)⟩

theorem contract (H : Type) (enc : TypeId × Value → H) (W : World) (base : Nat) (args : Array Value) (ds gs : List (DataW H)) (before : List MemPlace)
    (hval : ∀ (j : Nat) t v, Tryd.f3.params[j]? = some t → args[j]? = some v → Value.okWide Tryd.prog W .any base t v)
    (hW : DataW.Whole enc Tryd.prog Tryd.f3.params.toList Rows.versionParsesSpec.vars false W args.toList ds gs before) (E : Env W) :
    Calls Tryd.prog 3 args W fun e W' => ∃ v, e = .returned v ∧ Rows.versionParsesSpec.post enc Tryd.prog Tryd.f3 false true false false W args v W' := by
  have hW' := hW
  obtain ⟨p, q, hA0, _, _, _, _⟩ := hW
  have hA : DataW.TrodAll enc Tryd.prog W 0 (fun _ => true) true Tryd.f3.params.toList args.toList ds p := hA0
  rw [Tryd.params3] at hA hval
  obtain ⟨v0, vs0, d0, ds0, p0, q0, hargs, rfl, rfl, h0, r0⟩ := trodAll_cons hA
  obtain ⟨v1, vs1, d1, ds1, p1, q1, rfl, rfl, rfl, h1, r1⟩ := trodAll_cons r0
  obtain ⟨rfl, rfl, rfl⟩ := trodAll_nil r1
  obtain rfl : args = #[v0, v1] := by cases args; simp_all
  obtain ⟨s0, rfl, w0⟩ := open_str_arg (hval 0 9 v0 rfl rfl) h0
  obtain ⟨e1, u1, r1', rfl, w1, wu1, wr1⟩ := open_version_arg (hval 1 23 v1 rfl rfl) h1
  refine (walk s0 e1 u1 r1' W w0 w1 wu1 wr1 E).mono fun e W' ⟨he, hb⟩ => ?_
  subst he
  refine ⟨_, rfl, law_post hW' rfl rfl rfl rfl rfl Tryd.underlying4 laid_out ?_ hb⟩
  rw [Tryd.params3]
  intro t ht
  simp at ht
  rcases ht with rfl | rfl <;> exact ⟨by kernel_rfl, of_decide_eq_true (by kernel_rfl)⟩

theorem reads (os : Os) {H : Type} (enc : TypeId × Value → H) : ∃ x, DataW.whole enc Tryd.prog ((World.laidAll Tryd.prog os laidL).forCall (fun _ _ => 0) ⟨#[], #[.string ⟨#[]⟩, .agg #[.int .i64 0, .string ⟨#[]⟩, .string ⟨#[]⟩]], []⟩).memory Tryd.f3.params.toList Rows.versionParsesSpec.vars false ((#[.string ⟨#[]⟩, .agg #[.int .i64 0, .string ⟨#[]⟩, .string ⟨#[]⟩]] : Array Value)).toList 8 = some x :=
  Option.isSome_iff_exists.1 (by kernel_rfl)
theorem readsSized (os : Os) {H : Type} (enc : TypeId × Value → H) : (OpenSpec.ofChange Rows.versionParsesSpec).bare.sizedB enc Tryd.prog Tryd.f3 false ((World.laidAll Tryd.prog os laidL).forCall (fun _ _ => 0) ⟨#[], #[.string ⟨#[]⟩, .agg #[.int .i64 0, .string ⟨#[]⟩, .string ⟨#[]⟩]], []⟩).memory #[.string ⟨#[]⟩, .agg #[.int .i64 0, .string ⟨#[]⟩, .string ⟨#[]⟩]] 8 = true := by kernel_rfl
theorem okWit (os : Os) : Input.okWideB Tryd.prog ((World.laidAll Tryd.prog os laidL).forCall (fun _ _ => 0) ⟨#[], #[.string ⟨#[]⟩, .agg #[.int .i64 0, .string ⟨#[]⟩, .string ⟨#[]⟩]], []⟩) 3 ⟨#[], #[.string ⟨#[]⟩, .agg #[.int .i64 0, .string ⟨#[]⟩, .string ⟨#[]⟩]], []⟩ = true := by kernel_rfl
theorem lifted (os : Os) (started : os.Started) (H : Type) (enc : TypeId × Value → H) (F : Stop.Interp) :
    ReturnsInHanded {} Tryd.checked os 3 .any ((OpenSpec.ofChange Rows.versionParsesSpec).preRow enc Tryd.prog Tryd.f3 Rows.versionParsesRow.domain false Rows.versionParsesRow.laid) (((OpenSpec.ofChange Rows.versionParsesSpec).at F).post enc Tryd.prog Tryd.f3 false true false false) := by
  obtain ⟨x, hx⟩ := reads os enc
  have hz := readsSized os enc
  refine returnsInHanded_of_row (C := Tryd.checked) (s := OpenSpec.ofChange Rows.versionParsesSpec) own' started (by kernel_rfl) Tryd.func3
    ⟨World.laidAll Tryd.prog os laidL, fun _ _ => 0, ⟨#[], #[.string ⟨#[]⟩, .agg #[.int .i64 0, .string ⟨#[]⟩, .string ⟨#[]⟩]], []⟩, door_os os, door_shaped os _, (Input.okWide_of_okWideB (base := 0) (okWit os)).1, (Input.okWide_of_okWideB (okWit os)).2,
      OpenSpec.preRow_of_cond 8 hx rfl (fun k hk => by cases hk) hz (door_met os _), by
        simp only [Assume.holds]
        exact ⟨by simp, by simp, fun _ => Modest.zero, by simp, by simp⟩⟩ ?_
  intro W base args ds gs before hval hW _ _ _ hL hsh _
  exact contract H enc W base args ds gs before hval hW (env_of hL hsh)

theorem said : Rows.VersionParsesSaid :=
  OpenClaim.holds_of_cond 3 Tryd.f3 rfl rfl rfl rfl rfl rfl rfl ⟨rfl, rfl, rfl, rfl, rfl⟩ rfl rfl rfl rfl rfl (by kernel_rfl) Tryd.func3 (by kernel_rfl)
    (of_decide_eq_true (by kernel_rfl)) (by unfold Func.isWrapper; first | (rw [if_pos (by decide +kernel)]; kernel_rfl) | (rw [if_neg (by decide +kernel)]; exact ⟨rfl, rfl⟩))
    (fun os started H enc _ F => by rw [OpenClaim.pre_eq_preRow]; exact lifted os started H enc F)

theorem proved : Rows.VersionParsesCardSaid :=
  Claim7.holds_tied_plain_at .later [] _ _ _ _ said (fun _ h => by cases h) (by kernel_rfl) (fun _ h => by cases h) versionParses_row_tie rfl ⟨rfl, rfl⟩ (by kernel_rfl) rfl
    (fun f fn hf hfn => by
      obtain rfl : f = 3 := Option.some.inj ((show Tryd.prog.funcNamed "keelson/keelsonlaw2.VersionParses" = some 3 by kernel_rfl).symm.trans hf) |>.symm
      obtain rfl : fn = Tryd.f3 := (Option.some.inj (Tryd.func3.symm.trans hfn)).symm
      exact ⟨by kernel_rfl, fun j t ht => by
        rw [Tryd.params3] at ht
        have hm : t ∈ [9, 23] := by have := Array.mem_of_getElem? ht; simp at this; simp [this]
        have hall : ([9, 23].all fun u => !Tryd.prog.wantsStandIn u) = true := by kernel_rfl
        exact (show Tryd.prog.wantsStandIn t = false by simpa using List.all_eq_true.1 hall t hm)⟩)
    (by kernel_rfl)
#print axioms proved
end Go.Proofs.YtklkefmbmagplaaDoor.versionParses
