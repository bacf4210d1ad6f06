/- keelsonlaw5.StanzaParses: called with any arguments that can be read it returns true, and its arguments read as before. Condition: the library variables that the row lists hold what the program text lays in them, which the card ties to that text. -/
import Derived.Test.YtjfenheplkoajaaDoorS5z
import Derived.Test.YtjfenheplkoajaaDoorS5g
import Derived.Test.YtjfenheplkoajaaDoorOpenF
import Derived.Test.YtjfenheplkoajaaDoorDoor5
import Derived.WalkKit
import Derived.ProofKit
import Derived.OpenShut
import Derived.SevenTiedAt
import Derived.Outline
set_option maxRecDepth 100000
set_option linter.unusedVariables false
set_option linter.unusedSimpArgs false
namespace Go.Proofs.YtjfenheplkoajaaDoor.stanzaParses
open Go.ChangeShapes Go.WideShapes Go.ChangeAt Go.RowKit

theorem fit_run : ∀ (L : List (List Nat)) (s : PS), Fit s → rnE s L = 0 → Fit (rnS s L)
  | [], s, h, _ => h
  | l :: r, s, h, h0 => by
    by_cases hl : lnE s l = 0
    · rw [rnE_ok hl] at h0
      exact fit_run r _ (fit_line h hl) h0
    · rw [rnE_no hl] at h0
      exact absurd h0 hl
theorem stL_len (l : List Nat) : (stL l).length ≤ 200 := by
  unfold stL
  split
  · rename_i h
    obtain ⟨_, h2, _⟩ := stE_zero h
    exact fin_len _ (fit_run _ _ fit0 h2)
  · simp
theorem same_self5 (A A' : Option Addr) (n c n' c' : Nat) (l : List (List Fd)) (w : World) (h : rdStzs w (lt_ w.heap.size) l [.slice A n c]) (h' : rdStzs w (lt_ w.heap.size) l [.slice A' n' c']) :
    Calls Tryd.prog 12 #[.slice A n c, .slice A' n' c'] w fun e w' => e = .returned (.bool true) ∧ Dr w w' := by
  have := same5_any A A' n c n' c' l l w h h'
  rwa [decide_eq_true rfl] at this
theorem eqI (n : Int) : (n == n) = true := by rw [beq_iff_eq]
set_option maxHeartbeats 4000000 in
theorem walk (s : ByteArray) (w : World) (hs : s.size ≤ maxLen) (E : Env5 w) :
    Calls Tryd.prog 3 #[.string s] w fun e w' => e = .returned (.bool true) ∧ Below w.heap.size w w' := by
  have HE := Lib.hid E
  have S := Lib.hid (fun w E => shown5_any w E)
  clear E
  by_cases g1 : (5000 : Int) < (s.size : Int)
  · have S := S
    go_enter Tryd.func3, Tryd.ntmps3
    have B0 := Lib.hid (Below.refl w.heap.size w)
    go_wp2_with fail
    refine (S.out _ (HE.out.below B0.out HE.out.pos)).mono ?_
    rintro e' w1 ⟨rfl, hb⟩
    have C1 := Lib.hid (bel2 B0.out hb (Nat.le_refl _))
    clear hb
    go_wp2
    go_ret
    exact ⟨rfl, C1.out⟩
  have P1 := Lib.hid (fun w E => parse5_any s w E)
  have Q1 := Lib.hid (fun w => q5parse_any s w hs)
  have HL := Lib.hid (show (stL (B s)).length ≤ 100000 by have := stL_len (B s); omega)
  generalize stL (B s) = L at *
  generalize stE (B s) = e1 at *
  generalize hn0 : ((stN (B s) : Nat) : Int) = n1 at *
  have t1 := eqI e1
  have t2 := eqI n1
  clear hn0
  go_enter Tryd.func3, Tryd.ntmps3
  have B0 := Lib.hid (Below.refl w.heap.size w)
  go_wp2_with fail
  refine (S.out _ (HE.out.below B0.out HE.out.pos)).mono ?_
  rintro e' w1 ⟨rfl, hb⟩
  have C1 := Lib.hid (bel2 B0.out hb (Nat.le_refl _))
  clear hb
  go_wp2_with fail
  refine (P1.out _ (HE.out.below C1.out HE.out.pos)).mono ?_
  rintro e' w2 ⟨⟨A2, n2, c2, rfl, hr2⟩, hb⟩
  have hn2 := (rdStzs_at hr2).1
  subst hn2
  have R2 := Lib.hid hr2
  clear hr2
  have C2 := Lib.hid (bel2 C1.out hb (Nat.le_refl _))
  clear hb
  have D2 := Lib.hid (Below.refl w2.heap.size w2)
  go_wp2_with fail
  refine (Q1.out _).mono ?_
  rintro e' w3 ⟨⟨v3, rfl, hr3⟩, hb⟩
  have R3 := Lib.hid hr3
  obtain ⟨A3, c3, hv3, _⟩ := id hr3
  simp only [List.cons.injEq, and_true] at hv3
  subst hv3
  clear hr3
  have C3 := Lib.hid (bel2 C2.out hb (Nat.le_refl _))
  have C4 := Lib.hid (bel2 D2.out hb (Nat.le_refl _))
  clear hb
  have D3 := Lib.hid (Below.refl w3.heap.size w3)
  go_wp2_with fail
  refine (as5_any A2 _ c2 L _ (rdStzs_good.up (rdStzs_good.below R2.out C4.out) C4.out.size) HL.out).mono ?_
  rintro e' w4 ⟨⟨A4, n4, c4, rfl, hr4⟩, hb⟩
  have hn4 := (rdStzs_at hr4).1
  subst hn4
  have R4 := Lib.hid hr4
  clear hr4
  have C5 := Lib.hid (bel2 C3.out hb (Nat.le_refl _))
  have C6 := Lib.hid (bel2 C4.out hb (Nat.le_refl _))
  have C7 := Lib.hid (bel2 D3.out hb (Nat.le_refl _))
  clear hb
  have D4 := Lib.hid (Below.refl w4.heap.size w4)
  go_wp2_with fail
  refine (same_self5 _ _ _ _ _ _ _ _ (rdStzs_good.up (rdStzs_good.below R4.out D4.out) D4.out.size) (rdStzs_good.up (rdStzs_good.below R3.out C7.out) C7.out.size)).mono ?_
  rintro e' w5 ⟨rfl, hdr⟩
  have hb := hdr.below w4.heap.size
  clear hdr
  have C8 := Lib.hid (bel2 C5.out hb (Nat.le_refl _))
  have C9 := Lib.hid (bel2 C6.out hb (Nat.le_refl _))
  have C10 := Lib.hid (bel2 C7.out hb (Nat.le_refl _))
  have C11 := Lib.hid (bel2 D4.out hb (Nat.le_refl _))
  clear hb
  go_wp2
  go_ret
  exact ⟨rfl, C8.out⟩

theorem contract (H : Type) (enc : TypeId × Value → H) (W : World) (base : Nat) (args : Array Value) (ds gs : List (DataW H)) (before : List MemPlace)
    (hval : ∀ (j : Nat) t v, Tryd.f3.params[j]? = some t → args[j]? = some v → Value.okWide Tryd.prog W .any base t v)
    (hW : DataW.Whole enc Tryd.prog Tryd.f3.params.toList Rows.stanzaParsesSpec.vars false W args.toList ds gs before) (E : Env5 W) :
    Calls Tryd.prog 3 args W fun e W' => ∃ v, e = .returned v ∧ Rows.stanzaParsesSpec.post enc Tryd.prog Tryd.f3 false true false false W args v W' := by
  have hW' := hW
  obtain ⟨p, q, hA0, _, _, _, _⟩ := hW
  have hA : DataW.TrodAll enc Tryd.prog W 0 (fun _ => true) true Tryd.f3.params.toList args.toList ds p := hA0
  rw [Tryd.params3] at hA hval
  obtain ⟨v0, vs0, d0, ds0, p0, q0, hargs, rfl, rfl, h0, r0⟩ := trodAll_cons hA
  obtain ⟨rfl, rfl, rfl⟩ := trodAll_nil r0
  obtain rfl : args = #[v0] := by cases args; simp_all
  obtain ⟨s0, rfl, w0⟩ := open_str_arg (hval 0 9 v0 rfl rfl) h0
  refine (walk s0 W w0 E).mono fun e W' ⟨he, hb⟩ => ?_
  subst he
  refine ⟨_, rfl, law_post hW' rfl rfl rfl rfl rfl Tryd.underlying4 laid_out ?_ hb⟩
  rw [Tryd.params3]
  intro t ht
  simp at ht
  subst ht
  exact ⟨by kernel_rfl, of_decide_eq_true (by kernel_rfl)⟩

theorem reads (os : Os) {H : Type} (enc : TypeId × Value → H) : ∃ x, DataW.whole enc Tryd.prog ((World.laidAll Tryd.prog os laidL).forCall (fun _ _ => 0) ⟨#[], #[.string ⟨#[]⟩], []⟩).memory Tryd.f3.params.toList Rows.stanzaParsesSpec.vars false ((#[.string ⟨#[]⟩] : Array Value)).toList 8 = some x :=
  Option.isSome_iff_exists.1 (by kernel_rfl)
theorem readsSized (os : Os) {H : Type} (enc : TypeId × Value → H) : (OpenSpec.ofChange Rows.stanzaParsesSpec).bare.sizedB enc Tryd.prog Tryd.f3 false ((World.laidAll Tryd.prog os laidL).forCall (fun _ _ => 0) ⟨#[], #[.string ⟨#[]⟩], []⟩).memory #[.string ⟨#[]⟩] 8 = true := by kernel_rfl
theorem okWit (os : Os) : Input.okWideB Tryd.prog ((World.laidAll Tryd.prog os laidL).forCall (fun _ _ => 0) ⟨#[], #[.string ⟨#[]⟩], []⟩) 3 ⟨#[], #[.string ⟨#[]⟩], []⟩ = true := by kernel_rfl
theorem lifted (os : Os) (started : os.Started) (H : Type) (enc : TypeId × Value → H) (F : Stop.Interp) :
    ReturnsInHanded {} Tryd.checked os 3 .any ((OpenSpec.ofChange Rows.stanzaParsesSpec).preRow enc Tryd.prog Tryd.f3 Rows.stanzaParsesRow.domain false Rows.stanzaParsesRow.laid) (((OpenSpec.ofChange Rows.stanzaParsesSpec).at F).post enc Tryd.prog Tryd.f3 false true false false) := by
  obtain ⟨x, hx⟩ := reads os enc
  have hz := readsSized os enc
  refine returnsInHanded_of_row (C := Tryd.checked) (s := OpenSpec.ofChange Rows.stanzaParsesSpec) own' started (by kernel_rfl) Tryd.func3
    ⟨World.laidAll Tryd.prog os laidL, fun _ _ => 0, ⟨#[], #[.string ⟨#[]⟩], []⟩, door_os os, door_shaped os _, (Input.okWide_of_okWideB (base := 0) (okWit os)).1, (Input.okWide_of_okWideB (okWit os)).2,
      OpenSpec.preRow_of_cond 8 hx rfl (fun k hk => by cases hk) hz (door_met os _), by
        simp only [Assume.holds]
        exact ⟨by simp, by simp, fun _ => Modest.zero, by simp, by simp⟩⟩ ?_
  intro W base args ds gs before hval hW _ _ _ hL hsh _
  exact contract H enc W base args ds gs before hval hW (env5_of hL hsh)

theorem said : Rows.StanzaParsesSaid :=
  OpenClaim.holds_of_cond 3 Tryd.f3 rfl rfl rfl rfl rfl rfl rfl ⟨rfl, rfl, rfl, rfl, rfl⟩ rfl rfl rfl rfl rfl (by kernel_rfl) Tryd.func3 (by kernel_rfl)
    (of_decide_eq_true (by kernel_rfl)) (by unfold Func.isWrapper; first | (rw [if_pos (by decide +kernel)]; kernel_rfl) | (rw [if_neg (by decide +kernel)]; exact ⟨rfl, rfl⟩))
    (fun os started H enc _ F => by rw [OpenClaim.pre_eq_preRow]; exact lifted os started H enc F)

theorem proved : Rows.StanzaParsesCardSaid :=
  Claim7.holds_tied_plain_at .later [] _ _ _ _ said (fun _ h => by cases h) (by kernel_rfl) (fun _ h => by cases h) stanzaParses_row_tie rfl ⟨rfl, rfl⟩ (by kernel_rfl) rfl
    (fun f fn hf hfn => by
      obtain rfl : f = 3 := Option.some.inj ((show Tryd.prog.funcNamed "keelson/keelsonlaw5.StanzaParses" = some 3 by kernel_rfl).symm.trans hf) |>.symm
      obtain rfl : fn = Tryd.f3 := (Option.some.inj (Tryd.func3.symm.trans hfn)).symm
      exact ⟨by kernel_rfl, fun j t ht => by
        rw [Tryd.params3] at ht
        have hm : t ∈ [9] := by have := Array.mem_of_getElem? ht; simp at this; simp [this]
        have hall : ([9].all fun u => !Tryd.prog.wantsStandIn u) = true := by kernel_rfl
        exact (show Tryd.prog.wantsStandIn t = false by simpa using List.all_eq_true.1 hall t hm)⟩)
    (by kernel_rfl)
#print axioms proved
end Go.Proofs.YtjfenheplkoajaaDoor.stanzaParses
