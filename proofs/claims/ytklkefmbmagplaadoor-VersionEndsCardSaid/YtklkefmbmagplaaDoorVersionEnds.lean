/- keelsonlaw2.VersionEnds: called with any arguments that can be read it returns true, and its arguments read as before. Condition: the library variables that the row lists hold what the program text lays in them, which the card ties to that text. -/
import Derived.Test.YtklkefmbmagplaaDoorVerShown
import Derived.Test.YtklkefmbmagplaaDoorEndsP
import Derived.Test.YtklkefmbmagplaaDoorBackP
import Derived.Test.YtklkefmbmagplaaDoorDoor
import Derived.WalkKit
import Derived.ProofKit
import Derived.OpenShut
import Derived.SevenTiedAt
import Derived.Outline
set_option maxRecDepth 100000
set_option linter.unusedVariables false
set_option linter.unusedSimpArgs false
namespace Go.Proofs.YtklkefmbmagplaaDoor.versionEnds
open Go.ChangeShapes Go.WideShapes Go.ChangeAt Go.RowKit

def LS : ByteArray := { data := #[97, 98, 99, 100, 101, 102, 103, 104, 105, 106, 107, 108, 109, 110, 111, 112, 113, 114, 115, 116, 117, 118, 119, 120, 121, 122, 65, 66, 67, 68, 69, 70, 71, 72, 73, 74, 75, 76, 77, 78, 79, 80, 81, 82, 83, 84, 85, 86, 87, 88, 89, 90] }
def ZS : ByteArray := { data := #[48, 48, 48, 48, 48, 48, 48, 48] }
theorem letter_at : ∀ k, k < 52 → ∃ c, letB c = true ∧ B (LS.extract k (k + 1)) = [c] := by
  intro k hk
  refine ⟨(B LS).getD k 0, ?_, ?_⟩
  · revert k; decide
  · revert k; decide
theorem zeros_at : ∀ k, k < 9 → ∀ c ∈ B (ZS.extract 0 k), c = 48 := by decide
theorem nat_of {n : Int} (h : (Lit.int .i64 n).wf = true) : ∃ m : Nat, (n = (m : Int) ∨ n = -(m : Int) - 1) ∧ m ≤ 9223372036854775807 := by
  have hb := bounds_i64 h
  by_cases h0 : 0 ≤ n
  · exact ⟨n.toNat, .inl (by omega), by omega⟩
  · exact ⟨(-(n + 1)).toNat, .inr (by omega), by omega⟩
theorem one_size (x : UInt8) : (ByteArray.mk #[x]).size = 1 := rfl
theorem B_tilde : B (ByteArray.mk #[126]) = [126] := by decide
theorem B_dot : B (ByteArray.mk #[46]) = [46] := by decide
theorem ends_tilde (a b : ByteArray) : cmpS (B (a ++ ByteArray.mk #[126] ++ b)) (B a) = -1 := by
  rw [B_append, B_append, B_tilde, List.append_assoc]; exact cmpS_tilde _ _
theorem ends_letter (a b : ByteArray) {lc : ByteArray} {ch : Nat} (h : letB ch = true) (hl : B lc = [ch]) : cmpS (B (a ++ lc ++ b)) (B a) = 1 := by
  rw [B_append, B_append, hl, List.append_assoc]; exact cmpS_letter _ _ h
theorem ends_both (a b : ByteArray) {lc : ByteArray} {ch : Nat} (h : letB ch = true) (hl : B lc = [ch]) : cmpS (B (a ++ ByteArray.mk #[126] ++ b)) (B (a ++ lc)) = -1 := by
  rw [B_append, B_append, B_append, B_tilde, hl, List.append_assoc]; exact cmpS_tilde_letter _ _ h
theorem ends_noughts (a b : ByteArray) {dc zc : ByteArray} (m : Nat) (hd : B dc = decL m) (hz : ∀ c ∈ B zc, c = 48) : cmpS (B (a ++ ByteArray.mk #[46] ++ dc ++ b)) (B (a ++ ByteArray.mk #[46] ++ zc ++ dc ++ b)) = 0 := by
  simp only [B_append, B_dot, hd, List.append_assoc]
  exact cmpS_noughts (B a) (B b) (decL m) (B zc) (decL_dig m) (decL_ne m) hz
set_option maxHeartbeats 4000000 in
theorem walk (a b : ByteArray) (l n k : Int) (w : World) (ha : a.size ≤ maxLen) (hb : b.size ≤ maxLen) (wl : (Lit.int .i64 l).wf = true) (wn : (Lit.int .i64 n).wf = true) (wk : (Lit.int .i64 k).wf = true) (E : Env w) :
    Calls Tryd.prog 7 #[.string a, .string b, .int .i64 l, .int .i64 n, .int .i64 k] w fun e w' => e = .returned (.bool true) ∧ Below w.heap.size w w' := by
  have S := Lib.hid (shown_any w E)
  clear E
  go_enter Tryd.func7, Tryd.ntmps7
  go_wp2_with fail
  refine S.out.mono ?_
  rintro e' w1 ⟨rfl, hb1⟩
  have B1 := Lib.hid hb1
  clear hb1
  by_cases g0 : (200 : Int) < (a.size : Int)
  · go_wp2
    go_ret
    exact ⟨rfl, B1.out⟩
  by_cases g1 : (200 : Int) < (b.size : Int)
  · go_wp2
    go_ret
    exact ⟨rfl, B1.out⟩
  obtain ⟨m0, hm0, b0⟩ := nat_of wl
  obtain ⟨m1, hm1, b1⟩ := nat_of wn
  obtain ⟨m2, hm2, b2⟩ := nat_of wk
  have hLc : ∃ ch, letB ch = true ∧ B (({ data := #[97, 98, 99, 100, 101, 102, 103, 104, 105, 106, 107, 108, 109, 110, 111, 112, 113, 114, 115, 116, 117, 118, 119, 120, 121, 122, 65, 66, 67, 68, 69, 70, 71, 72, 73, 74, 75, 76, 77, 78, 79, 80, 81, 82, 83, 84, 85, 86, 87, 88, 89, 90] } : ByteArray).extract (m0 % 52) (m0 % 52 + 1)) = [ch] := letter_at (m0 % 52) (Nat.mod_lt _ (by omega))
  obtain ⟨ch, hch, hLS⟩ := hLc
  have hZS : ∀ c ∈ B (({ data := #[48, 48, 48, 48, 48, 48, 48, 48] } : ByteArray).extract 0 (m1 % 9)), c = 48 := zeros_at (m1 % 9) (Nat.mod_lt _ (by omega))
  have zc1 : (({ data := #[97, 98, 99, 100, 101, 102, 103, 104, 105, 106, 107, 108, 109, 110, 111, 112, 113, 114, 115, 116, 117, 118, 119, 120, 121, 122, 65, 66, 67, 68, 69, 70, 71, 72, 73, 74, 75, 76, 77, 78, 79, 80, 81, 82, 83, 84, 85, 86, 87, 88, 89, 90] } : ByteArray).extract (m0 % 52) (m0 % 52 + 1)).size = 1 := by rw [← B_len, hLS]; rfl
  have zz1 : (({ data := #[48, 48, 48, 48, 48, 48, 48, 48] } : ByteArray).extract 0 (m1 % 9)).size ≤ 8 := by rw [← B_len, B_extract]; have h9 := Nat.mod_lt m1 (show 0 < 9 by omega); have := List.length_take_le (m1 % 9 - 0) ((B { data := #[48, 48, 48, 48, 48, 48, 48, 48] }).drop 0); omega
  have zd1 : (mk (decL m2)).size ≤ 19 := by rw [size_mk]; exact decF_short _ m2 18 [] (by omega)
  have hBd : B (mk (decL m2)) = decL m2 := B_mk (decL_lt m2)
  have KD := Lib.hid (fun w => decimal_any m2 w (by omega))
  have q1 := ends_tilde a b
  have q2 := ends_letter a b hch hLS
  have q3 := ends_noughts a b m2 hBd hZS
  have q4 := ends_both a b hch hLS
  have K1 := Lib.hid (vcmp_is q1 (by simp only [ByteArray.size_append, one_size]; omega) (by omega))
  have K2 := Lib.hid (vcmp_is q2 (by rw [← B_len, B_append, B_append, hLS]; simp only [List.length_append, B_len, List.length_cons, List.length_nil]; omega) (by omega))
  have K3 := Lib.hid (vcmp_is q3 (by simp only [ByteArray.size_append, one_size]; omega) (by simp only [ByteArray.size_append, one_size]; omega))
  have K4 := Lib.hid (vcmp_is q4 (by simp only [ByteArray.size_append, one_size]; omega) (by rw [← B_len, B_append, hLS]; simp only [List.length_append, B_len, List.length_cons, List.length_nil]; omega))
  clear q1 q2 q3 q4 hLS hZS hBd hch
  rcases hm0 with rfl | rfl <;> rcases hm1 with rfl | rfl <;> rcases hm2 with rfl | rfl
  all_goals
    go_wp2_with fail
    refine (KD.out _).mono ?_
    rintro e' w2 ⟨rfl, rfl⟩
    generalize hlc : ({ data := #[97, 98, 99, 100, 101, 102, 103, 104, 105, 106, 107, 108, 109, 110, 111, 112, 113, 114, 115, 116, 117, 118, 119, 120, 121, 122, 65, 66, 67, 68, 69, 70, 71, 72, 73, 74, 75, 76, 77, 78, 79, 80, 81, 82, 83, 84, 85, 86, 87, 88, 89, 90] } : ByteArray).extract (m0 % 52) (m0 % 52 + 1) = lc at *
    generalize hzc : ({ data := #[48, 48, 48, 48, 48, 48, 48, 48] } : ByteArray).extract 0 (m1 % 9) = zc at *
    generalize hdc : mk (decL m2) = dc at *
    clear hlc hzc hdc KD S
    go_wp2_with fail
    refine (K1.out _).mono ?_
    rintro e' w1 ⟨rfl, hb⟩
    have B1_0 := Lib.hid (bel_2 B1.out hb)
    clear hb
    go_wp2_with fail
    refine (K2.out _).mono ?_
    rintro e' w1 ⟨rfl, hb⟩
    have B1_1 := Lib.hid (bel_2 B1_0.out hb)
    clear hb
    go_wp2_with fail
    refine (K3.out _).mono ?_
    rintro e' w1 ⟨rfl, hb⟩
    have B1_2 := Lib.hid (bel_2 B1_1.out hb)
    clear hb
    go_wp2_with fail
    refine (K4.out _).mono ?_
    rintro e' w1 ⟨rfl, hb⟩
    have B1_3 := Lib.hid (bel_2 B1_2.out hb)
    clear hb
    go_wp2
    go_ret
    exact ⟨rfl, B1_3.out⟩

theorem contract (H : Type) (enc : TypeId × Value → H) (W : World) (base : Nat) (args : Array Value) (ds gs : List (DataW H)) (before : List MemPlace)
    (hval : ∀ (j : Nat) t v, Tryd.f7.params[j]? = some t → args[j]? = some v → Value.okWide Tryd.prog W .any base t v)
    (hW : DataW.Whole enc Tryd.prog Tryd.f7.params.toList Rows.versionEndsSpec.vars false W args.toList ds gs before) (E : Env W) :
    Calls Tryd.prog 7 args W fun e W' => ∃ v, e = .returned v ∧ Rows.versionEndsSpec.post enc Tryd.prog Tryd.f7 false true false false W args v W' := by
  have hW' := hW
  obtain ⟨p, q, hA0, _, _, _, _⟩ := hW
  have hA : DataW.TrodAll enc Tryd.prog W 0 (fun _ => true) true Tryd.f7.params.toList args.toList ds p := hA0
  rw [Tryd.params7] at hA hval
  obtain ⟨v0, vs0, d0, ds0, p0, q0, hargs, rfl, rfl, h0, r0⟩ := trodAll_cons hA
  obtain ⟨v1, vs1, d1, ds1, p1, q1, rfl, rfl, rfl, h1, r1⟩ := trodAll_cons r0
  obtain ⟨v2, vs2, d2, ds2, p2, q2, rfl, rfl, rfl, h2, r2⟩ := trodAll_cons r1
  obtain ⟨v3, vs3, d3, ds3, p3, q3, rfl, rfl, rfl, h3, r3⟩ := trodAll_cons r2
  obtain ⟨v4, vs4, d4, ds4, p4, q4, rfl, rfl, rfl, h4, r4⟩ := trodAll_cons r3
  obtain ⟨rfl, rfl, rfl⟩ := trodAll_nil r4
  obtain rfl : args = #[v0, v1, v2, v3, v4] := by cases args; simp_all
  obtain ⟨s0, rfl, w0⟩ := open_str_arg (hval 0 9 v0 rfl rfl) h0
  obtain ⟨s1, rfl, w1⟩ := open_str_arg (hval 1 9 v1 rfl rfl) h1
  obtain ⟨a2, rfl, _, _, w2⟩ := open_int Tryd.underlying3 (hval 2 3 v2 rfl rfl) h2
  obtain ⟨a3, rfl, _, _, w3⟩ := open_int Tryd.underlying3 (hval 3 3 v3 rfl rfl) h3
  obtain ⟨a4, rfl, _, _, w4⟩ := open_int Tryd.underlying3 (hval 4 3 v4 rfl rfl) h4
  refine (walk s0 s1 a2 a3 a4 W w0 w1 w2 w3 w4 E).mono fun e W' ⟨he, hb⟩ => ?_
  subst he
  refine ⟨_, rfl, law_post hW' rfl rfl rfl rfl rfl Tryd.underlying4 laid_out ?_ hb⟩
  rw [Tryd.params7]
  intro t ht
  simp at ht
  rcases ht with rfl | rfl | rfl | rfl | rfl <;> exact ⟨by kernel_rfl, of_decide_eq_true (by kernel_rfl)⟩

theorem reads (os : Os) {H : Type} (enc : TypeId × Value → H) : ∃ x, DataW.whole enc Tryd.prog ((World.laidAll Tryd.prog os laidL).forCall (fun _ _ => 0) ⟨#[], #[.string ⟨#[]⟩, .string ⟨#[]⟩, .int .i64 0, .int .i64 0, .int .i64 0], []⟩).memory Tryd.f7.params.toList Rows.versionEndsSpec.vars false ((#[.string ⟨#[]⟩, .string ⟨#[]⟩, .int .i64 0, .int .i64 0, .int .i64 0] : Array Value)).toList 8 = some x :=
  Option.isSome_iff_exists.1 (by kernel_rfl)
theorem readsSized (os : Os) {H : Type} (enc : TypeId × Value → H) : (OpenSpec.ofChange Rows.versionEndsSpec).bare.sizedB enc Tryd.prog Tryd.f7 false ((World.laidAll Tryd.prog os laidL).forCall (fun _ _ => 0) ⟨#[], #[.string ⟨#[]⟩, .string ⟨#[]⟩, .int .i64 0, .int .i64 0, .int .i64 0], []⟩).memory #[.string ⟨#[]⟩, .string ⟨#[]⟩, .int .i64 0, .int .i64 0, .int .i64 0] 8 = true := by kernel_rfl
theorem okWit (os : Os) : Input.okWideB Tryd.prog ((World.laidAll Tryd.prog os laidL).forCall (fun _ _ => 0) ⟨#[], #[.string ⟨#[]⟩, .string ⟨#[]⟩, .int .i64 0, .int .i64 0, .int .i64 0], []⟩) 7 ⟨#[], #[.string ⟨#[]⟩, .string ⟨#[]⟩, .int .i64 0, .int .i64 0, .int .i64 0], []⟩ = true := by kernel_rfl
theorem lifted (os : Os) (started : os.Started) (H : Type) (enc : TypeId × Value → H) (F : Stop.Interp) :
    ReturnsInHanded {} Tryd.checked os 7 .any ((OpenSpec.ofChange Rows.versionEndsSpec).preRow enc Tryd.prog Tryd.f7 Rows.versionEndsRow.domain false Rows.versionEndsRow.laid) (((OpenSpec.ofChange Rows.versionEndsSpec).at F).post enc Tryd.prog Tryd.f7 false true false false) := by
  obtain ⟨x, hx⟩ := reads os enc
  have hz := readsSized os enc
  refine returnsInHanded_of_row (C := Tryd.checked) (s := OpenSpec.ofChange Rows.versionEndsSpec) own' started (by kernel_rfl) Tryd.func7
    ⟨World.laidAll Tryd.prog os laidL, fun _ _ => 0, ⟨#[], #[.string ⟨#[]⟩, .string ⟨#[]⟩, .int .i64 0, .int .i64 0, .int .i64 0], []⟩, door_os os, door_shaped os _, (Input.okWide_of_okWideB (base := 0) (okWit os)).1, (Input.okWide_of_okWideB (okWit os)).2,
      OpenSpec.preRow_of_cond 8 hx rfl (fun k hk => by cases hk) hz (door_met os _), by
        simp only [Assume.holds]
        exact ⟨by simp, by simp, fun _ => Modest.zero, by simp, by simp⟩⟩ ?_
  intro W base args ds gs before hval hW _ _ _ hL hsh _
  exact contract H enc W base args ds gs before hval hW (env_of hL hsh)

theorem said : Rows.VersionEndsSaid :=
  OpenClaim.holds_of_cond 7 Tryd.f7 rfl rfl rfl rfl rfl rfl rfl ⟨rfl, rfl, rfl, rfl, rfl⟩ rfl rfl rfl rfl rfl (by kernel_rfl) Tryd.func7 (by kernel_rfl)
    (of_decide_eq_true (by kernel_rfl)) (by unfold Func.isWrapper; first | (rw [if_pos (by decide +kernel)]; kernel_rfl) | (rw [if_neg (by decide +kernel)]; exact ⟨rfl, rfl⟩))
    (fun os started H enc _ F => by rw [OpenClaim.pre_eq_preRow]; exact lifted os started H enc F)

theorem proved : Rows.VersionEndsCardSaid :=
  Claim7.holds_tied_plain_at .later [] _ _ _ _ said (fun _ h => by cases h) (by kernel_rfl) (fun _ h => by cases h) versionEnds_row_tie rfl ⟨rfl, rfl⟩ (by kernel_rfl) rfl
    (fun f fn hf hfn => by
      obtain rfl : f = 7 := Option.some.inj ((show Tryd.prog.funcNamed "keelson/keelsonlaw2.VersionEnds" = some 7 by kernel_rfl).symm.trans hf) |>.symm
      obtain rfl : fn = Tryd.f7 := (Option.some.inj (Tryd.func7.symm.trans hfn)).symm
      exact ⟨by kernel_rfl, fun j t ht => by
        rw [Tryd.params7] at ht
        have hm : t ∈ [9, 3] := by have := Array.mem_of_getElem? ht; simp at this; simp [this]
        have hall : ([9, 3].all fun u => !Tryd.prog.wantsStandIn u) = true := by kernel_rfl
        exact (show Tryd.prog.wantsStandIn t = false by simpa using List.all_eq_true.1 hall t hm)⟩)
    (by kernel_rfl)
#print axioms proved
end Go.Proofs.YtklkefmbmagplaaDoor.versionEnds
