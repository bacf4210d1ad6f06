/- keelsonlaw3.RelationGives: called with any arguments that can be read it returns true, and its arguments read as before. Condition: the library variables that the row lists hold what the program text lays in them, which the card ties to that text. -/
import Derived.Test.YtlelajcnfmmmjaaDoorRelShown
import Derived.Test.YtlelajcnfmmmjaaDoorDoor
import Derived.WalkKit
import Derived.ProofKit
import Derived.OpenShut
import Derived.SevenTiedAt
import Derived.Outline
set_option maxRecDepth 100000
set_option linter.unusedVariables false
set_option linter.unusedSimpArgs false
namespace Go.Proofs.YtlelajcnfmmmjaaDoor.relationGives
open Go.ChangeShapes Go.WideShapes Go.ChangeAt Go.RowKit

theorem gives_is (n : List Nat) (op : Int) (v name x : List Nat) : provB n op v name 3 x = meetB n op v name x := by
  unfold provB meetB holdB
  cases decide (op = 0) <;> simp
theorem bare_is (n : List Nat) (op : Int) (v name x : List Nat) (g : Int) (h : g ≠ 3) : provB n op v name g x = (decide (n = name) && decide (op = 0)) := by
  unfold provB
  rw [decide_eq_false h]; simp
set_option maxHeartbeats 4000000 in
theorem walk (n : ByteArray) (op : Int) (v name x : ByteArray) (w : World) (hn : n.size ≤ maxLen) (_ : (Lit.int .i64 op).wf = true) (hv : v.size ≤ maxLen) (hm : name.size ≤ maxLen) (hx : x.size ≤ maxLen) (E : EnvR w) :
    Calls Tryd.prog 5 #[.agg #[.string n, .int .i64 op, .string v], .string name, .string x] w fun e w' => e = .returned (.bool true) ∧ Below w.heap.size w w' := by
  have HE := Lib.hid E
  have S := Lib.hid (fun w E => shown3_any w E)
  have KS := Lib.hid (fun w => small_any n op v w)
  clear E
  cases hs : (decide ((n.size : Int) ≤ 300) && decide ((v.size : Int) ≤ 300))
  · rw [hs] at KS
    clear hs
    go_enter Tryd.func5, Tryd.ntmps5
    have A1 := Lib.hid (show Below w.heap.size w (w.alloc (.cells #[.string n, .int .i64 op, .string v] 23)) from (((Below.refl w.heap.size w)).alloc ((Below.refl w.heap.size w)).size _))
    go_wp2_with fail
    refine (S.out _ (HE.out.below A1.out)).mono ?_
    rintro e' w2 ⟨rfl, hb⟩
    obtain ⟨a0, a1, a2, _⟩ := box3 hb
    have B2 := Lib.hid (bel_2 A1.out hb)
    clear hb
    go_wp2_with fail
    refine (KS.out _).mono ?_
    rintro e' w3 ⟨rfl, hb⟩
    obtain ⟨a0, a1, a2⟩ := cell3 hb ⟨a0, a1, a2⟩
    have B3 := Lib.hid (bel_2 B2.out hb)
    clear hb
    go_wp2
    go_ret
    exact ⟨rfl, B3.out⟩
  rw [hs] at KS
  clear hs
  by_cases g1 : (300 : Int) < (name.size : Int)
  · have S := S
    go_enter Tryd.func5, Tryd.ntmps5
    have A1 := Lib.hid (show Below w.heap.size w (w.alloc (.cells #[.string n, .int .i64 op, .string v] 23)) from (((Below.refl w.heap.size w)).alloc ((Below.refl w.heap.size w)).size _))
    go_wp2_with fail
    refine (S.out _ (HE.out.below A1.out)).mono ?_
    rintro e' w2 ⟨rfl, hb⟩
    obtain ⟨a0, a1, a2, _⟩ := box3 hb
    have B2 := Lib.hid (bel_2 A1.out hb)
    clear hb
    go_wp2_with fail
    refine (KS.out _).mono ?_
    rintro e' w3 ⟨rfl, hb⟩
    obtain ⟨a0, a1, a2⟩ := cell3 hb ⟨a0, a1, a2⟩
    have B3 := Lib.hid (bel_2 B2.out hb)
    clear hb
    go_wp2
    go_ret
    exact ⟨rfl, B3.out⟩
  by_cases g2 : (300 : Int) < (x.size : Int)
  · have S := S
    go_enter Tryd.func5, Tryd.ntmps5
    have A1 := Lib.hid (show Below w.heap.size w (w.alloc (.cells #[.string n, .int .i64 op, .string v] 23)) from (((Below.refl w.heap.size w)).alloc ((Below.refl w.heap.size w)).size _))
    go_wp2_with fail
    refine (S.out _ (HE.out.below A1.out)).mono ?_
    rintro e' w2 ⟨rfl, hb⟩
    obtain ⟨a0, a1, a2, _⟩ := box3 hb
    have B2 := Lib.hid (bel_2 A1.out hb)
    clear hb
    go_wp2_with fail
    refine (KS.out _).mono ?_
    rintro e' w3 ⟨rfl, hb⟩
    obtain ⟨a0, a1, a2⟩ := cell3 hb ⟨a0, a1, a2⟩
    have B3 := Lib.hid (bel_2 B2.out hb)
    clear hb
    go_wp2
    go_ret
    exact ⟨rfl, B3.out⟩
  have KM := Lib.hid (fun w E => rmeets_any n op v name x w E)
  have KG := Lib.hid (fun w E => rprov_any n op v name 3 x w E)
  have KB := Lib.hid (fun w E => rprov_any n op v name 0 { data := #[] } w E)
  have KA := Lib.hid (fun w E => rprov_any n op v name 4 x w E)
  rw [gives_is] at KG
  rw [bare_is _ _ _ _ _ _ (by decide)] at KB
  rw [bare_is _ _ _ _ _ _ (by decide)] at KA
  have q1 := strings_eq n name
  have q2 : (op == 0) = decide (op = 0) := by rw [Bool.eq_iff_iff]; simp
  generalize meetB (B n) op (B v) (B name) (B x) = m at *
  generalize decide (B n = B name) = d1 at *
  generalize decide (op = 0) = d2 at *
  cases m <;> cases d1 <;> cases d2
  all_goals
    go_enter Tryd.func5, Tryd.ntmps5
    have A1 := Lib.hid (show Below w.heap.size w (w.alloc (.cells #[.string n, .int .i64 op, .string v] 23)) from (((Below.refl w.heap.size w)).alloc ((Below.refl w.heap.size w)).size _))
    go_wp2_with fail
    refine (S.out _ (HE.out.below A1.out)).mono ?_
    rintro e' w2 ⟨rfl, hb⟩
    obtain ⟨a0, a1, a2, _⟩ := box3 hb
    have B2 := Lib.hid (bel_2 A1.out hb)
    clear hb
    go_wp2_with fail
    refine (KS.out _).mono ?_
    rintro e' w3 ⟨rfl, hb⟩
    obtain ⟨a0, a1, a2⟩ := cell3 hb ⟨a0, a1, a2⟩
    have B3 := Lib.hid (bel_2 B2.out hb)
    clear hb
    go_wp2_with fail
    refine (KM.out _ (HE.out.below B3.out)).mono ?_
    rintro e' w4 ⟨rfl, hb⟩
    obtain ⟨a0, a1, a2⟩ := cell3 hb ⟨a0, a1, a2⟩
    have B4 := Lib.hid (bel_2 B3.out hb)
    clear hb
    go_wp2_with fail
    refine (KG.out _ (HE.out.below B4.out)).mono ?_
    rintro e' w5 ⟨rfl, hb⟩
    obtain ⟨a0, a1, a2⟩ := cell3 hb ⟨a0, a1, a2⟩
    have B5 := Lib.hid (bel_2 B4.out hb)
    clear hb
    go_wp2_with fail
    refine (KB.out _ (HE.out.below B5.out)).mono ?_
    rintro e' w6 ⟨rfl, hb⟩
    obtain ⟨a0, a1, a2⟩ := cell3 hb ⟨a0, a1, a2⟩
    have B6 := Lib.hid (bel_2 B5.out hb)
    clear hb
    go_wp2_with fail
    refine (KA.out _ (HE.out.below B6.out)).mono ?_
    rintro e' w7 ⟨rfl, hb⟩
    obtain ⟨a0, a1, a2⟩ := cell3 hb ⟨a0, a1, a2⟩
    have B7 := Lib.hid (bel_2 B6.out hb)
    clear hb
    go_wp2
    go_ret
    exact ⟨rfl, B7.out⟩

theorem contract (H : Type) (enc : TypeId × Value → H) (W : World) (base : Nat) (args : Array Value) (ds gs : List (DataW H)) (before : List MemPlace)
    (hval : ∀ (j : Nat) t v, Tryd.f5.params[j]? = some t → args[j]? = some v → Value.okWide Tryd.prog W .any base t v)
    (hW : DataW.Whole enc Tryd.prog Tryd.f5.params.toList Rows.relationGivesSpec.vars false W args.toList ds gs before) (E : EnvR W) :
    Calls Tryd.prog 5 args W fun e W' => ∃ v, e = .returned v ∧ Rows.relationGivesSpec.post enc Tryd.prog Tryd.f5 false true false false W args v W' := by
  have hW' := hW
  obtain ⟨p, q, hA0, _, _, _, _⟩ := hW
  have hA : DataW.TrodAll enc Tryd.prog W 0 (fun _ => true) true Tryd.f5.params.toList args.toList ds p := hA0
  rw [Tryd.params5] at hA hval
  obtain ⟨v0, vs0, d0, ds0, p0, q0, hargs, rfl, rfl, h0, r0⟩ := trodAll_cons hA
  obtain ⟨v1, vs1, d1, ds1, p1, q1, rfl, rfl, rfl, h1, r1⟩ := trodAll_cons r0
  obtain ⟨v2, vs2, d2, ds2, p2, q2, rfl, rfl, rfl, h2, r2⟩ := trodAll_cons r1
  obtain ⟨rfl, rfl, rfl⟩ := trodAll_nil r2
  obtain rfl : args = #[v0, v1, v2] := by cases args; simp_all
  obtain ⟨n0, e0, r0', rfl, wn0, w0, wr0⟩ := open_atom_arg (hval 0 23 v0 rfl rfl) h0
  obtain ⟨s1, rfl, w1⟩ := open_str_arg (hval 1 9 v1 rfl rfl) h1
  obtain ⟨s2, rfl, w2⟩ := open_str_arg (hval 2 9 v2 rfl rfl) h2
  refine (walk n0 e0 r0' s1 s2 W wn0 w0 wr0 w1 w2 E).mono fun e W' ⟨he, hb⟩ => ?_
  subst he
  refine ⟨_, rfl, law_post hW' rfl rfl rfl rfl rfl Tryd.underlying4 laid_out ?_ hb⟩
  rw [Tryd.params5]
  intro t ht
  simp at ht
  rcases ht with rfl | rfl | rfl <;> exact ⟨by kernel_rfl, of_decide_eq_true (by kernel_rfl)⟩

theorem reads (os : Os) {H : Type} (enc : TypeId × Value → H) : ∃ x, DataW.whole enc Tryd.prog ((World.laidAll Tryd.prog os laidL).forCall (fun _ _ => 0) ⟨#[], #[.agg #[.string ⟨#[]⟩, .int .i64 0, .string ⟨#[]⟩], .string ⟨#[]⟩, .string ⟨#[]⟩], []⟩).memory Tryd.f5.params.toList Rows.relationGivesSpec.vars false ((#[.agg #[.string ⟨#[]⟩, .int .i64 0, .string ⟨#[]⟩], .string ⟨#[]⟩, .string ⟨#[]⟩] : Array Value)).toList 8 = some x :=
  Option.isSome_iff_exists.1 (by kernel_rfl)
theorem readsSized (os : Os) {H : Type} (enc : TypeId × Value → H) : (OpenSpec.ofChange Rows.relationGivesSpec).bare.sizedB enc Tryd.prog Tryd.f5 false ((World.laidAll Tryd.prog os laidL).forCall (fun _ _ => 0) ⟨#[], #[.agg #[.string ⟨#[]⟩, .int .i64 0, .string ⟨#[]⟩], .string ⟨#[]⟩, .string ⟨#[]⟩], []⟩).memory #[.agg #[.string ⟨#[]⟩, .int .i64 0, .string ⟨#[]⟩], .string ⟨#[]⟩, .string ⟨#[]⟩] 8 = true := by kernel_rfl
theorem okWit (os : Os) : Input.okWideB Tryd.prog ((World.laidAll Tryd.prog os laidL).forCall (fun _ _ => 0) ⟨#[], #[.agg #[.string ⟨#[]⟩, .int .i64 0, .string ⟨#[]⟩], .string ⟨#[]⟩, .string ⟨#[]⟩], []⟩) 5 ⟨#[], #[.agg #[.string ⟨#[]⟩, .int .i64 0, .string ⟨#[]⟩], .string ⟨#[]⟩, .string ⟨#[]⟩], []⟩ = true := by kernel_rfl
theorem lifted (os : Os) (started : os.Started) (H : Type) (enc : TypeId × Value → H) (F : Stop.Interp) :
    ReturnsInHanded {} Tryd.checked os 5 .any ((OpenSpec.ofChange Rows.relationGivesSpec).preRow enc Tryd.prog Tryd.f5 Rows.relationGivesRow.domain false Rows.relationGivesRow.laid) (((OpenSpec.ofChange Rows.relationGivesSpec).at F).post enc Tryd.prog Tryd.f5 false true false false) := by
  obtain ⟨x, hx⟩ := reads os enc
  have hz := readsSized os enc
  refine returnsInHanded_of_row (C := Tryd.checked) (s := OpenSpec.ofChange Rows.relationGivesSpec) own' started (by kernel_rfl) Tryd.func5
    ⟨World.laidAll Tryd.prog os laidL, fun _ _ => 0, ⟨#[], #[.agg #[.string ⟨#[]⟩, .int .i64 0, .string ⟨#[]⟩], .string ⟨#[]⟩, .string ⟨#[]⟩], []⟩, door_os os, door_shaped os _, (Input.okWide_of_okWideB (base := 0) (okWit os)).1, (Input.okWide_of_okWideB (okWit os)).2,
      OpenSpec.preRow_of_cond 8 hx rfl (fun k hk => by cases hk) hz (door_met os _), by
        simp only [Assume.holds]
        exact ⟨by simp, by simp, fun _ => Modest.zero, by simp, by simp⟩⟩ ?_
  intro W base args ds gs before hval hW _ _ _ hL hsh _
  exact contract H enc W base args ds gs before hval hW (env_of hL hsh)

theorem said : Rows.RelationGivesSaid :=
  OpenClaim.holds_of_cond 5 Tryd.f5 rfl rfl rfl rfl rfl rfl rfl ⟨rfl, rfl, rfl, rfl, rfl⟩ rfl rfl rfl rfl rfl (by kernel_rfl) Tryd.func5 (by kernel_rfl)
    (of_decide_eq_true (by kernel_rfl)) (by unfold Func.isWrapper; first | (rw [if_pos (by decide +kernel)]; kernel_rfl) | (rw [if_neg (by decide +kernel)]; exact ⟨rfl, rfl⟩))
    (fun os started H enc _ F => by rw [OpenClaim.pre_eq_preRow]; exact lifted os started H enc F)

theorem proved : Rows.RelationGivesCardSaid :=
  Claim7.holds_tied_plain_at .later [] _ _ _ _ said (fun _ h => by cases h) (by kernel_rfl) (fun _ h => by cases h) relationGives_row_tie rfl ⟨rfl, rfl⟩ (by kernel_rfl) rfl
    (fun f fn hf hfn => by
      obtain rfl : f = 5 := Option.some.inj ((show Tryd.prog.funcNamed "keelson/keelsonlaw3.RelationGives" = some 5 by kernel_rfl).symm.trans hf) |>.symm
      obtain rfl : fn = Tryd.f5 := (Option.some.inj (Tryd.func5.symm.trans hfn)).symm
      exact ⟨by kernel_rfl, fun j t ht => by
        rw [Tryd.params5] at ht
        have hm : t ∈ [23, 9] := by have := Array.mem_of_getElem? ht; simp at this; simp [this]
        have hall : ([23, 9].all fun u => !Tryd.prog.wantsStandIn u) = true := by kernel_rfl
        exact (show Tryd.prog.wantsStandIn t = false by simpa using List.all_eq_true.1 hall t hm)⟩)
    (by kernel_rfl)
#print axioms proved
end Go.Proofs.YtlelajcnfmmmjaaDoor.relationGives
