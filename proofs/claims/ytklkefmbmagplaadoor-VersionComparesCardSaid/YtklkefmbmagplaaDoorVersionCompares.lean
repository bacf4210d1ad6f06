/- keelsonlaw2.VersionCompares: called with any arguments that can be read it returns true, and its arguments read as before. Condition: the library variables that the row lists hold what the program text lays in them, which the card ties to that text. -/
import Derived.Test.YtklkefmbmagplaaDoorVerShown
import Derived.Test.YtklkefmbmagplaaDoorOrderP
import Derived.Test.YtklkefmbmagplaaDoorDoor
import Derived.WalkKit
import Derived.ProofKit
import Derived.OpenShut
import Derived.SevenTiedAt
import Derived.Outline
set_option maxRecDepth 100000
set_option linter.unusedVariables false
set_option linter.unusedSimpArgs false
namespace Go.Proofs.YtklkefmbmagplaaDoor.versionCompares
open Go.ChangeShapes Go.WideShapes Go.ChangeAt Go.RowKit

set_option maxHeartbeats 4000000 in
theorem walk (s t : ByteArray) (e1 : Int) (u1 r1 : ByteArray) (e2 : Int) (u2 r2 : ByteArray) (w : World) (hs : s.size ≤ maxLen) (ht : t.size ≤ maxLen) (_ : (Lit.int .i64 e1).wf = true) (hu1 : u1.size ≤ maxLen) (hr1 : r1.size ≤ maxLen) (_ : (Lit.int .i64 e2).wf = true) (hu2 : u2.size ≤ maxLen) (hr2 : r2.size ≤ maxLen) (E : Env w) :
    Calls Tryd.prog 4 #[.string s, .string t, .agg #[.int .i64 e1, .string u1, .string r1], .agg #[.int .i64 e2, .string u2, .string r2]] w fun e w' => e = .returned (.bool true) ∧ Below w.heap.size w w' := by
  have HE := Lib.hid E
  have S := Lib.hid (fun w E => shown_any w E)
  clear E
  go_enter Tryd.func4, Tryd.ntmps4
  go_wp2_with fail
  refine (S.out _ ((HE.out.alloc _).alloc _)).mono ?_
  rintro e' w1 ⟨rfl, hb1⟩
  obtain ⟨⟨c0, c1, c2⟩, ⟨f0, f1, f2⟩, ⟨d0, d1, d2⟩, ⟨j0, j1, j2⟩, hB⟩ := str_cells rfl hb1
  have HB := Lib.hid hB
  clear hb1 hB
  by_cases g0 : (500 : Int) < (s.size : Int)
  · go_wp2
    go_ret
    exact ⟨rfl, HB.out⟩
  by_cases g1 : (500 : Int) < (t.size : Int)
  · go_wp2
    go_ret
    exact ⟨rfl, HB.out⟩
  by_cases g2 : (500 : Int) < (u1.size : Int)
  · go_wp2
    go_ret
    exact ⟨rfl, HB.out⟩
  by_cases g3 : (500 : Int) < (r1.size : Int)
  · go_wp2
    go_ret
    exact ⟨rfl, HB.out⟩
  by_cases g4 : (500 : Int) < (u2.size : Int)
  · go_wp2
    go_ret
    exact ⟨rfl, HB.out⟩
  by_cases g5 : (500 : Int) < (r2.size : Int)
  · go_wp2
    go_ret
    exact ⟨rfl, HB.out⟩
  have K1 := Lib.hid (fun w => vcmp_any s t w (by omega) (by omega))
  have K2 := Lib.hid (fun w => refCmp_any s t w (by omega) (by omega))
  have K3 := Lib.hid (fun w => vcompare_any e1 e2 u1 r1 u2 r2 w (by omega) (by omega) (by omega) (by omega))
  have K4 := Lib.hid (fun w => compare_any e1 e2 u1 r1 u2 r2 w (by omega) (by omega) (by omega) (by omega))
  have K5 := Lib.hid (fun w E => vorder_any s t w E)
  have K6 := Lib.hid (fun w => order_any s t w)
  generalize cmpS (B s) (B t) = x at *
  generalize cmpV e1 (B u1) (B r1) e2 (B u2) (B r2) = y at *
  generalize orderV (B s) (B t) = z at *
  have EV : Env w1 := HE.out.below HB.out
  have bb := (Below.refl w1.heap.size w1).drew
  clear f0 f1 f2 j0 j1 j2
  go_wp2_with fail
  first | (go_region_held3 (fun W => W.cell? ⟨w.heap.size, 0, none⟩ = some (.int .i64 e1) ∧ W.cell? ⟨w.heap.size, 1, none⟩ = some (.string u1) ∧ W.cell? ⟨w.heap.size, 2, none⟩ = some (.string r1) ∧ W.cell? ⟨w.heap.size + 1, 0, none⟩ = some (.int .i64 e2) ∧ W.cell? ⟨w.heap.size + 1, 1, none⟩ = some (.string u2) ∧ W.cell? ⟨w.heap.size + 1, 2, none⟩ = some (.string r2) ∧ Env W ∧ Below w1.heap.size w1 W)
    (first | (go_split_ands; refine ⟨?_, ?_, ?_, ?_, ?_, ?_, ?_, ?_⟩ <;> first | assumption | exact keep_cell hbx (by assumption) | exact env_keep hbx (by assumption) | exact Below.trans (by assumption) (hbx.mono (Below.size (by assumption))) | exact env_drew (by assumption)) | go_keep)
    (first | (go_at_call 16; (with_reducible refine (K1.out _).mono ?_); rintro e wx ⟨rfl, hbx⟩) | (go_at_call 17; (with_reducible refine (K2.out _).mono ?_); rintro e wx ⟨rfl, rfl⟩) | (go_at_call 18; (with_reducible refine (K3.out _).mono ?_); rintro e wx ⟨rfl, hbx⟩) | (go_at_call 19; (with_reducible refine (K4.out _).mono ?_); rintro e wx ⟨rfl, hbx⟩) | (go_at_call 20; (with_reducible refine (K5.out _ (by go_split_ands; assumption)).mono ?_); rintro e wx ⟨rfl, hbx⟩) | (go_at_call 21; (with_reducible refine (K6.out _).mono ?_); rintro e wx ⟨rfl, hbx⟩))) | fail
  all_goals
    go_wp2
    go_ret
    go_split_ands
    exact ⟨rfl, bel_2 HB.out (by assumption)⟩

theorem contract (H : Type) (enc : TypeId × Value → H) (W : World) (base : Nat) (args : Array Value) (ds gs : List (DataW H)) (before : List MemPlace)
    (hval : ∀ (j : Nat) t v, Tryd.f4.params[j]? = some t → args[j]? = some v → Value.okWide Tryd.prog W .any base t v)
    (hW : DataW.Whole enc Tryd.prog Tryd.f4.params.toList Rows.versionComparesSpec.vars false W args.toList ds gs before) (E : Env W) :
    Calls Tryd.prog 4 args W fun e W' => ∃ v, e = .returned v ∧ Rows.versionComparesSpec.post enc Tryd.prog Tryd.f4 false true false false W args v W' := by
  have hW' := hW
  obtain ⟨p, q, hA0, _, _, _, _⟩ := hW
  have hA : DataW.TrodAll enc Tryd.prog W 0 (fun _ => true) true Tryd.f4.params.toList args.toList ds p := hA0
  rw [Tryd.params4] at hA hval
  obtain ⟨v0, vs0, d0, ds0, p0, q0, hargs, rfl, rfl, h0, r0⟩ := trodAll_cons hA
  obtain ⟨v1, vs1, d1, ds1, p1, q1, rfl, rfl, rfl, h1, r1⟩ := trodAll_cons r0
  obtain ⟨v2, vs2, d2, ds2, p2, q2, rfl, rfl, rfl, h2, r2⟩ := trodAll_cons r1
  obtain ⟨v3, vs3, d3, ds3, p3, q3, rfl, rfl, rfl, h3, r3⟩ := trodAll_cons r2
  obtain ⟨rfl, rfl, rfl⟩ := trodAll_nil r3
  obtain rfl : args = #[v0, v1, v2, v3] := by cases args; simp_all
  obtain ⟨s0, rfl, w0⟩ := open_str_arg (hval 0 9 v0 rfl rfl) h0
  obtain ⟨s1, rfl, w1⟩ := open_str_arg (hval 1 9 v1 rfl rfl) h1
  obtain ⟨e2, u2, r2', rfl, w2, wu2, wr2⟩ := open_version_arg (hval 2 23 v2 rfl rfl) h2
  obtain ⟨e3, u3, r3', rfl, w3, wu3, wr3⟩ := open_version_arg (hval 3 23 v3 rfl rfl) h3
  refine (walk s0 s1 e2 u2 r2' e3 u3 r3' W w0 w1 w2 wu2 wr2 w3 wu3 wr3 E).mono fun e W' ⟨he, hb⟩ => ?_
  subst he
  refine ⟨_, rfl, law_post hW' rfl rfl rfl rfl rfl Tryd.underlying4 laid_out ?_ hb⟩
  rw [Tryd.params4]
  intro t ht
  simp at ht
  rcases ht with rfl | rfl | rfl | rfl <;> exact ⟨by kernel_rfl, of_decide_eq_true (by kernel_rfl)⟩

theorem reads (os : Os) {H : Type} (enc : TypeId × Value → H) : ∃ x, DataW.whole enc Tryd.prog ((World.laidAll Tryd.prog os laidL).forCall (fun _ _ => 0) ⟨#[], #[.string ⟨#[]⟩, .string ⟨#[]⟩, .agg #[.int .i64 0, .string ⟨#[]⟩, .string ⟨#[]⟩], .agg #[.int .i64 0, .string ⟨#[]⟩, .string ⟨#[]⟩]], []⟩).memory Tryd.f4.params.toList Rows.versionComparesSpec.vars false ((#[.string ⟨#[]⟩, .string ⟨#[]⟩, .agg #[.int .i64 0, .string ⟨#[]⟩, .string ⟨#[]⟩], .agg #[.int .i64 0, .string ⟨#[]⟩, .string ⟨#[]⟩]] : Array Value)).toList 8 = some x :=
  Option.isSome_iff_exists.1 (by kernel_rfl)
theorem readsSized (os : Os) {H : Type} (enc : TypeId × Value → H) : (OpenSpec.ofChange Rows.versionComparesSpec).bare.sizedB enc Tryd.prog Tryd.f4 false ((World.laidAll Tryd.prog os laidL).forCall (fun _ _ => 0) ⟨#[], #[.string ⟨#[]⟩, .string ⟨#[]⟩, .agg #[.int .i64 0, .string ⟨#[]⟩, .string ⟨#[]⟩], .agg #[.int .i64 0, .string ⟨#[]⟩, .string ⟨#[]⟩]], []⟩).memory #[.string ⟨#[]⟩, .string ⟨#[]⟩, .agg #[.int .i64 0, .string ⟨#[]⟩, .string ⟨#[]⟩], .agg #[.int .i64 0, .string ⟨#[]⟩, .string ⟨#[]⟩]] 8 = true := by kernel_rfl
theorem okWit (os : Os) : Input.okWideB Tryd.prog ((World.laidAll Tryd.prog os laidL).forCall (fun _ _ => 0) ⟨#[], #[.string ⟨#[]⟩, .string ⟨#[]⟩, .agg #[.int .i64 0, .string ⟨#[]⟩, .string ⟨#[]⟩], .agg #[.int .i64 0, .string ⟨#[]⟩, .string ⟨#[]⟩]], []⟩) 4 ⟨#[], #[.string ⟨#[]⟩, .string ⟨#[]⟩, .agg #[.int .i64 0, .string ⟨#[]⟩, .string ⟨#[]⟩], .agg #[.int .i64 0, .string ⟨#[]⟩, .string ⟨#[]⟩]], []⟩ = true := by kernel_rfl
theorem lifted (os : Os) (started : os.Started) (H : Type) (enc : TypeId × Value → H) (F : Stop.Interp) :
    ReturnsInHanded {} Tryd.checked os 4 .any ((OpenSpec.ofChange Rows.versionComparesSpec).preRow enc Tryd.prog Tryd.f4 Rows.versionComparesRow.domain false Rows.versionComparesRow.laid) (((OpenSpec.ofChange Rows.versionComparesSpec).at F).post enc Tryd.prog Tryd.f4 false true false false) := by
  obtain ⟨x, hx⟩ := reads os enc
  have hz := readsSized os enc
  refine returnsInHanded_of_row (C := Tryd.checked) (s := OpenSpec.ofChange Rows.versionComparesSpec) own' started (by kernel_rfl) Tryd.func4
    ⟨World.laidAll Tryd.prog os laidL, fun _ _ => 0, ⟨#[], #[.string ⟨#[]⟩, .string ⟨#[]⟩, .agg #[.int .i64 0, .string ⟨#[]⟩, .string ⟨#[]⟩], .agg #[.int .i64 0, .string ⟨#[]⟩, .string ⟨#[]⟩]], []⟩, door_os os, door_shaped os _, (Input.okWide_of_okWideB (base := 0) (okWit os)).1, (Input.okWide_of_okWideB (okWit os)).2,
      OpenSpec.preRow_of_cond 8 hx rfl (fun k hk => by cases hk) hz (door_met os _), by
        simp only [Assume.holds]
        exact ⟨by simp, by simp, fun _ => Modest.zero, by simp, by simp⟩⟩ ?_
  intro W base args ds gs before hval hW _ _ _ hL hsh _
  exact contract H enc W base args ds gs before hval hW (env_of hL hsh)

theorem said : Rows.VersionComparesSaid :=
  OpenClaim.holds_of_cond 4 Tryd.f4 rfl rfl rfl rfl rfl rfl rfl ⟨rfl, rfl, rfl, rfl, rfl⟩ rfl rfl rfl rfl rfl (by kernel_rfl) Tryd.func4 (by kernel_rfl)
    (of_decide_eq_true (by kernel_rfl)) (by unfold Func.isWrapper; first | (rw [if_pos (by decide +kernel)]; kernel_rfl) | (rw [if_neg (by decide +kernel)]; exact ⟨rfl, rfl⟩))
    (fun os started H enc _ F => by rw [OpenClaim.pre_eq_preRow]; exact lifted os started H enc F)

theorem proved : Rows.VersionComparesCardSaid :=
  Claim7.holds_tied_plain_at .later [] _ _ _ _ said (fun _ h => by cases h) (by kernel_rfl) (fun _ h => by cases h) versionCompares_row_tie rfl ⟨rfl, rfl⟩ (by kernel_rfl) rfl
    (fun f fn hf hfn => by
      obtain rfl : f = 4 := Option.some.inj ((show Tryd.prog.funcNamed "keelson/keelsonlaw2.VersionCompares" = some 4 by kernel_rfl).symm.trans hf) |>.symm
      obtain rfl : fn = Tryd.f4 := (Option.some.inj (Tryd.func4.symm.trans hfn)).symm
      exact ⟨by kernel_rfl, fun j t ht => by
        rw [Tryd.params4] at ht
        have hm : t ∈ [9, 23] := by have := Array.mem_of_getElem? ht; simp at this; simp [this]
        have hall : ([9, 23].all fun u => !Tryd.prog.wantsStandIn u) = true := by kernel_rfl
        exact (show Tryd.prog.wantsStandIn t = false by simpa using List.all_eq_true.1 hall t hm)⟩)
    (by kernel_rfl)
#print axioms proved
end Go.Proofs.YtklkefmbmagplaaDoor.versionCompares
