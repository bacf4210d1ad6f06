/- keelsonlaw4.DependsMore: called with any arguments that can be read it returns true, and its arguments read as before. Condition: the library variables that the row lists hold what the program text lays in them, which the card ties to that text. -/
import Derived.Test.YtfpbeenaploaiaaGreatDoorD4yZ
import Derived.Test.YtfpbeenaploaiaaGreatDoorD4uZ
import Derived.Test.YtfpbeenaploaiaaGreatDoorHeldMZ
import Derived.Test.YtfpbeenaploaiaaGreatDoorMD
import Derived.Test.YtfpbeenaploaiaaGreatDoorOpenZZ
import Derived.Test.YtfpbeenaploaiaaGreatDoorDoorZ
import Derived.Deep.RegionHeld3
import Derived.Deep.CutRange
import Derived.Deep.AppendLies
import Derived.WalkKit
import Derived.ProofKit
import Derived.OpenShut
import Derived.SevenTiedAt
import Derived.Outline
set_option maxRecDepth 100000
set_option linter.unusedVariables false
set_option linter.unusedSimpArgs false
namespace Go.Proofs.YtfpbeenaploaiaaGreatDoor.dependsMore
open Go.ChangeShapes Go.WideShapes Go.ChangeAt Go.RowKit

theorem openF_mem (hv : List Atm) (L : List (List Atm)) : ∀ k, k ≤ L.length → ∀ p ∈ openF hv 0 (L.take k), 0 ≤ p ∧ p < (k : Int)
  | 0, _, p, hp => by simp [openF] at hp
  | k + 1, hk, p, hp => by
    have ih := openF_mem hv L k (by omega)
    rw [openF_snoc hv L k (by omega)] at hp
    split at hp
    · have := ih p hp; omega
    · rcases List.mem_append.1 hp with hp | hp
      · have := ih p hp; omega
      · rw [List.mem_singleton.1 hp]; omega
set_option maxHeartbeats 8000000 in
theorem walk (A0 : Option Addr) (n0 c0 : Nat) (L : List (List Atm)) (A1 : Option Addr) (n1 c1 : Nat) (M : List (List Atm)) (A2 : Option Addr) (n2 c2 : Nat) (hv : List Atm) (xn : ByteArray) (xo : Int) (xv : ByteArray) (w : World)
    (hr : rdGrps w (lt_ w.heap.size) L [.slice A0 n0 c0]) (_ : ∀ g ∈ L, ∀ a ∈ g, AtmOk a) (hr' : rdGrps w (lt_ w.heap.size) M [.slice A1 n1 c1]) (_ : ∀ g ∈ M, ∀ a ∈ g, AtmOk a) (ha : rdAtms w (lt_ w.heap.size) hv [.slice A2 n2 c2]) (_ : ∀ a ∈ hv, AtmOk a)
    (_ : xn.size ≤ maxLen) (_ : (Lit.int .i64 xo).wf = true) (_ : xv.size ≤ maxLen) (hz : n2 * 40 ≤ 140737488351232) (E : EnvR w) :
    Calls Tryz.prog 3 #[.slice A0 n0 c0, .slice A1 n1 c1, .slice A2 n2 c2, .agg #[.string xn, .int .i64 xo, .string xv]] w fun e w' => e = .returned (.bool true) ∧ Below w.heap.size w w' := by
  obtain ⟨i1, hj, hy0, hy1, hy2⟩ := info_parts atm_info
  obtain ⟨i2, hg0, hg1, hg2', hg3'⟩ := info_parts grp_info
  obtain ⟨i3, hi0, hi1, hi2, hi3⟩ := info_parts int_info4
  obtain ⟨rfl, hnc0, hcm0, _⟩ := rdGrps_at hr
  obtain ⟨rfl, hnc1, hcm1, _⟩ := rdGrps_at hr'
  obtain ⟨rfl, hnc2, hcm2, _⟩ := rdAtms_at ha
  have HE := Lib.hid E
  have HR := Lib.hid hr
  have HM := Lib.hid hr'
  have HA := Lib.hid ha
  have S := Lib.hid (fun w E => shown4_any w E)
  have K1 := Lib.hid (fun w h => small4_any A0 L.length c0 L w h)
  have K2 := Lib.hid (fun w h => small4_any A1 M.length c1 M w h)
  have KL := Lib.hid (fun A n c w h => light_any A n c (hv ++ [⟨xn, xo, xv⟩]) w h)
  have SL := Lib.hid (fun h : smallB L = true => (show L.length ≤ 40 by unfold smallB at h; rw [Bool.and_eq_true, decide_eq_true_eq] at h; exact h.1))
  have SM := Lib.hid (fun h : smallB M = true => (show M.length ≤ 40 by unfold smallB at h; rw [Bool.and_eq_true, decide_eq_true_eq] at h; exact h.1))
  clear E hr hr' ha
  generalize smallB L = sl at *
  generalize smallB M = sm at *
  generalize lightB (hv ++ [⟨xn, xo, xv⟩]) = lb at *
  have hm1 : ([] : List Atm).length + hv.length ≤ maxLen := by simp only [List.length_nil]; unfold maxLen; omega
  have hm2 : (([] : List Atm).length + hv.length) * 40 ≤ 140737488355328 := by simp only [List.length_nil]; omega
  have hm3' : hv.length + ([(⟨xn, xo, xv⟩ : Atm)]).length ≤ maxLen := by simp only [List.length_singleton]; unfold maxLen; omega
  have hm4 : (hv.length + ([(⟨xn, xo, xv⟩ : Atm)]).length) * 40 ≤ 140737488355328 := by simp only [List.length_singleton]; omega
  go_enter Tryz.func3, Tryz.ntmps3
  have B0 := Lib.hid (Below.alloc (Below.refl w.heap.size w) (Nat.le_refl _) (Obj.cells #[Value.string xn, Value.int .i64 xo, Value.string xv] 25))
  have hnew := new3 w (.string xn) (.int .i64 xo) (.string xv) 25
  go_wp2_with fail
  refine (S.out _ (HE.out.below B0.out)).mono ?_
  rintro e w1 ⟨rfl, hb⟩
  have B1 := Lib.hid (bel2 B0.out hb (Nat.le_refl _))
  obtain ⟨q0, q1, q2⟩ := keep3 hb hnew
  have hlt := World.block_lt_of_cell? _ _ q0
  clear hb hnew
  go_wp2_with fail
  refine (K1.out _ (rdGrps_good.up (rdGrps_good.below HR.out B1.out) B1.out.size)).mono ?_
  rintro e w' ⟨rfl, rfl⟩
  go_wp2_with fail
  refine (K2.out _ (rdGrps_good.up (rdGrps_good.below HM.out B1.out) B1.out.size)).mono ?_
  rintro e w' ⟨rfl, rfl⟩
  have hx1 := rdAtms_good.up (rdAtms_good.below HA.out B1.out) B1.out.size
  have KS := Lib.hid (fun (W : World) (hb : Below w1.heap.size w1 W) => (show W.cell? ⟨w.heap.size, 0, none⟩ = some (.string xn) ∧ W.cell? ⟨w.heap.size, 1, none⟩ = some (.int .i64 xo) ∧ W.cell? ⟨w.heap.size, 2, none⟩ = some (.string xv) from keep3 hb ⟨q0, q1, q2⟩))
  have AA := Lib.hid (mpA hx1)
  have AB := Lib.hid (mpB xn xo xv hx1)
  have AC := Lib.hid (mpC xn xo xv hx1)
  have BC := Lib.hid (show Below w1.heap.size w1 (w1.alloc (Obj.cells #[Value.string xn, Value.int .i64 xo, Value.string xv] 25)).drew from belD ((Below.refl _ _).alloc (Nat.le_refl _) _) 1)
  clear hx1 hnc0 hcm0 hnc1 hcm1 hnc2 hcm2 hz
  go_upto_region 4 with fail
  go_cut [12] from 27 to 33 (fun s12 wx => s12 = .bool lb ∧ Below w1.heap.size w1 wx)
  case first =>
    refine wp_region_noPanic ?_
    refine wp_region_L (fun W => W.cell? ⟨w.heap.size, 0, none⟩ = some (.string xn) ∧ W.cell? ⟨w.heap.size, 1, none⟩ = some (.int .i64 xo) ∧ W.cell? ⟨w.heap.size, 2, none⟩ = some (.string xv)) 7 (by kernel_rfl) (KS.out _ (belD (Below.refl _ _) 1)) (fun hHeld => ?_)
    refine wpAnyL_take (i := 1) (v := ?_) [6, 5, 2] rfl (by kernel_rfl) (by kernel_rfl) (by kernel_rfl) (fun _ _ _ h => h) (by kernel_rfl) (by kernel_rfl) (by kernel_rfl) (Or.inl ⟨by rfl, ?_⟩) (by assumption) ?_
    rotate_left
    · intro w hSw
      try dsimp only at hSw
      go_simp
      first | done | with_reducible rfl
    try simp only [Act.put, List.setIfInBounds_toArray, List.set_cons_zero, List.set_cons_succ]
    refine wpAnyL_take (i := 3) (v := ?_) [6, 5, 4] rfl (by kernel_rfl) (by kernel_rfl) (by kernel_rfl) (fun _ _ _ h => h) (by kernel_rfl) (by kernel_rfl) (by kernel_rfl) (Or.inl ⟨by rfl, ?_⟩) (by assumption) ?_
    rotate_left
    · intro w hSw
      try dsimp only at hSw
      go_simp
      first | done | with_reducible rfl
    try simp only [Act.put, List.setIfInBounds_toArray, List.set_cons_zero, List.set_cons_succ]
    refine wpAnyL_two (i := 0) (k := 4) (by kernel_rfl) rfl rfl (fun K hK => ?_) (fun K hK => ?_)
    · go_simp
      refine hK.out _ _ (KS.out _ AA.out.bel) (fun hHeld => ?_)
      clear hK K
      try simp only [Act.put, List.setIfInBounds_toArray, List.set_cons_zero, List.set_cons_succ]
      refine wpAnyL_two (i := 2) (k := 4) (by kernel_rfl) rfl rfl (fun K hK => ?_) (fun K hK => ?_)
      · refine step_growN _ (by rfl) _ _ 23 23 (by rfl) rdAtm_good (by decide) (fun _ => True) w1.heap.size 25 25 i1 _ 40 Tryz.underlying23 Tryz.underlying23 hj hy0 hy1 hy2 rfl _ _ (by rfl) AA.out.g _ _ _ _ _ (by rfl) AA.out.x AA.out.s hm1 hm2 AA.out.bs ?_
        intro v3 w3 hG3 hg3 hm3
        have B3 := Lib.hid (mp_next AA.out hG3 hg3).2
        have Y2 := Lib.hid (mp2A xn xo xv AA.out hG3 hg3)
        obtain ⟨A3, c3', rfl, _, _⟩ := hG3.own
        clear hG3 hg3 hm3
        refine hK.out _ _ (KS.out _ B3.out) (fun hHeld => ?_)
        clear hK K
        try simp only [Act.put, List.setIfInBounds_toArray, List.set_cons_zero, List.set_cons_succ]
        refine wpAnyL_one (i := 4) (by kernel_rfl) rfl (fun K hK => ?_)
        go_simp
        refine hK.out _ _ (KS.out _ Y2.out.bel) (fun hHeld => ?_)
        clear hK K
        try simp only [Act.put, List.setIfInBounds_toArray, List.set_cons_zero, List.set_cons_succ]
        refine wpAnyL_one (i := 5) (by kernel_rfl) rfl (fun K hK => ?_)
        refine step_growN _ (by rfl) _ _ 23 23 (by rfl) rdAtm_good (by decide) (fun _ => True) w1.heap.size 25 25 i1 _ 40 Tryz.underlying23 Tryz.underlying23 hj hy0 hy1 hy2 rfl _ _ (by rfl) Y2.out.g _ _ _ _ _ (by rfl) Y2.out.x Y2.out.s hm3' hm4 Y2.out.bs ?_
        intro v5 w5 hG5 hg5 _
        have EN := Lib.hid (mp_end Y2.out hG5 hg5)
        clear hG5 hg5
        obtain ⟨A5, c5, hv5, _⟩ := id EN.out.2
        simp only [List.cons.injEq, and_true] at hv5
        rw [List.length_append, List.length_singleton] at hv5
        subst hv5
        refine hK.out _ _ (KS.out _ EN.out.1) (fun hHeld => ?_)
        clear hK K
        try simp only [Act.put, List.setIfInBounds_toArray, List.set_cons_zero, List.set_cons_succ]
        refine wpAnyL_one (i := 6) (by kernel_rfl) rfl (fun K hK => ?_)
        go_simp
        refine (KL.out _ _ _ _ (rdAtms_good.more EN.out.2 fun b hb => hb.2)).mono ?_
        rintro e w4 ⟨rfl, rfl⟩
        go_wp2_with fail
        refine hK.out _ _ (KS.out _ EN.out.1) (fun hHeld => ?_)
        clear hK K
        try simp only [Act.put, List.setIfInBounds_toArray, List.set_cons_zero, List.set_cons_succ]
        refine wpAnyL_last (by kernel_rfl) rfl (by kernel_rfl) (fun K hK => ?_)
        go_simp
        refine hK.out _ _ ?_
        clear hK K
        refine NoPanic.normal ?_
        go_wp2_with fail
        go_meet
        exact ⟨rfl, EN.out.1⟩

      · go_simp
        refine hK.out _ _ (KS.out _ AB.out.bel) (fun hHeld => ?_)
        clear hK K
        try simp only [Act.put, List.setIfInBounds_toArray, List.set_cons_zero, List.set_cons_succ]
        refine wpAnyL_one (i := 2) (by kernel_rfl) rfl (fun K hK => ?_)
        refine step_growN _ (by rfl) _ _ 23 23 (by rfl) rdAtm_good (by decide) (fun _ => True) w1.heap.size 25 25 i1 _ 40 Tryz.underlying23 Tryz.underlying23 hj hy0 hy1 hy2 rfl _ _ (by rfl) AB.out.g _ _ _ _ _ (by rfl) AB.out.x AB.out.s hm1 hm2 AB.out.bs ?_
        intro v3 w3 hG3 hg3 hm3
        have B3 := Lib.hid (mp_next AB.out hG3 hg3).2
        have Y2 := Lib.hid (mp2B AB.out hG3 hg3 hm3)
        obtain ⟨A3, c3', rfl, _, _⟩ := hG3.own
        clear hG3 hg3 hm3
        refine hK.out _ _ (KS.out _ B3.out) (fun hHeld => ?_)
        clear hK K
        try simp only [Act.put, List.setIfInBounds_toArray, List.set_cons_zero, List.set_cons_succ]
        refine wpAnyL_one (i := 5) (by kernel_rfl) rfl (fun K hK => ?_)
        refine step_growN _ (by rfl) _ _ 23 23 (by rfl) rdAtm_good (by decide) (fun _ => True) w1.heap.size 25 25 i1 _ 40 Tryz.underlying23 Tryz.underlying23 hj hy0 hy1 hy2 rfl _ _ (by rfl) Y2.out.g _ _ _ _ _ (by rfl) Y2.out.x Y2.out.s hm3' hm4 Y2.out.bs ?_
        intro v5 w5 hG5 hg5 _
        have EN := Lib.hid (mp_end Y2.out hG5 hg5)
        clear hG5 hg5
        obtain ⟨A5, c5, hv5, _⟩ := id EN.out.2
        simp only [List.cons.injEq, and_true] at hv5
        rw [List.length_append, List.length_singleton] at hv5
        subst hv5
        refine hK.out _ _ (KS.out _ EN.out.1) (fun hHeld => ?_)
        clear hK K
        try simp only [Act.put, List.setIfInBounds_toArray, List.set_cons_zero, List.set_cons_succ]
        refine wpAnyL_one (i := 6) (by kernel_rfl) rfl (fun K hK => ?_)
        go_simp
        refine (KL.out _ _ _ _ (rdAtms_good.more EN.out.2 fun b hb => hb.2)).mono ?_
        rintro e w4 ⟨rfl, rfl⟩
        go_wp2_with fail
        refine hK.out _ _ (KS.out _ EN.out.1) (fun hHeld => ?_)
        clear hK K
        try simp only [Act.put, List.setIfInBounds_toArray, List.set_cons_zero, List.set_cons_succ]
        refine wpAnyL_last (by kernel_rfl) rfl (by kernel_rfl) (fun K hK => ?_)
        go_simp
        refine hK.out _ _ ?_
        clear hK K
        refine NoPanic.normal ?_
        go_wp2_with fail
        go_meet
        exact ⟨rfl, EN.out.1⟩


    · go_simp
      refine hK.out _ _ (KS.out _ BC.out) (fun hHeld => ?_)
      clear hK K
      try simp only [Act.put, List.setIfInBounds_toArray, List.set_cons_zero, List.set_cons_succ]
      refine wpAnyL_one (i := 0) (by kernel_rfl) rfl (fun K hK => ?_)
      go_simp
      refine hK.out _ _ (KS.out _ AC.out.bel) (fun hHeld => ?_)
      clear hK K
      try simp only [Act.put, List.setIfInBounds_toArray, List.set_cons_zero, List.set_cons_succ]
      refine wpAnyL_one (i := 2) (by kernel_rfl) rfl (fun K hK => ?_)
      refine step_growN _ (by rfl) _ _ 23 23 (by rfl) rdAtm_good (by decide) (fun _ => True) w1.heap.size 25 25 i1 _ 40 Tryz.underlying23 Tryz.underlying23 hj hy0 hy1 hy2 rfl _ _ (by rfl) AC.out.g _ _ _ _ _ (by rfl) AC.out.x AC.out.s hm1 hm2 AC.out.bs ?_
      intro v3 w3 hG3 hg3 hm3
      have B3 := Lib.hid (mp_next AC.out hG3 hg3).2
      have Y2 := Lib.hid (mp2C AC.out hG3 hg3 hm3)
      obtain ⟨A3, c3', rfl, _, _⟩ := hG3.own
      clear hG3 hg3 hm3
      refine hK.out _ _ (KS.out _ B3.out) (fun hHeld => ?_)
      clear hK K
      try simp only [Act.put, List.setIfInBounds_toArray, List.set_cons_zero, List.set_cons_succ]
      refine wpAnyL_one (i := 5) (by kernel_rfl) rfl (fun K hK => ?_)
      refine step_growN _ (by rfl) _ _ 23 23 (by rfl) rdAtm_good (by decide) (fun _ => True) w1.heap.size 25 25 i1 _ 40 Tryz.underlying23 Tryz.underlying23 hj hy0 hy1 hy2 rfl _ _ (by rfl) Y2.out.g _ _ _ _ _ (by rfl) Y2.out.x Y2.out.s hm3' hm4 Y2.out.bs ?_
      intro v5 w5 hG5 hg5 _
      have EN := Lib.hid (mp_end Y2.out hG5 hg5)
      clear hG5 hg5
      obtain ⟨A5, c5, hv5, _⟩ := id EN.out.2
      simp only [List.cons.injEq, and_true] at hv5
      rw [List.length_append, List.length_singleton] at hv5
      subst hv5
      refine hK.out _ _ (KS.out _ EN.out.1) (fun hHeld => ?_)
      clear hK K
      try simp only [Act.put, List.setIfInBounds_toArray, List.set_cons_zero, List.set_cons_succ]
      refine wpAnyL_one (i := 6) (by kernel_rfl) rfl (fun K hK => ?_)
      go_simp
      refine (KL.out _ _ _ _ (rdAtms_good.more EN.out.2 fun b hb => hb.2)).mono ?_
      rintro e w4 ⟨rfl, rfl⟩
      go_wp2_with fail
      refine hK.out _ _ (KS.out _ EN.out.1) (fun hHeld => ?_)
      clear hK K
      try simp only [Act.put, List.setIfInBounds_toArray, List.set_cons_zero, List.set_cons_succ]
      refine wpAnyL_last (by kernel_rfl) rfl (by kernel_rfl) (fun K hK => ?_)
      go_simp
      refine hK.out _ _ ?_
      clear hK K
      refine NoPanic.normal ?_
      go_wp2_with fail
      go_meet
      exact ⟨rfl, EN.out.1⟩
  case rest =>
    obtain ⟨rfl, hbx⟩ := hcut
    obtain ⟨w2, rfl⟩ : ∃ w2 : World, w2 = wc := ⟨_, rfl⟩
    have BW := Lib.hid (bel2 B1.out hbx (Nat.le_refl _))
    obtain ⟨q0, q1, q2⟩ := keep3 hbx ⟨q0, q1, q2⟩
    have hlt := World.block_lt_of_cell? _ _ q0
    clear hbx KS AA AB AC BC
    cases sl
    · clear q0 q1 q2
      go_wp2
      go_ret
      exact ⟨rfl, BW.out⟩
    cases sm
    · clear q0 q1 q2
      go_wp2
      go_ret
      exact ⟨rfl, BW.out⟩
    cases lb
    · clear q0 q1 q2
      go_wp2
      go_ret
      exact ⟨rfl, BW.out⟩
    have hL := SL.out rfl
    have hM := SM.out rfl
    have KO := Lib.hid (open_any A0 A2 L.length c0 hv.length c2 L hv w2 (rdGrps_good.up (rdGrps_good.below HR.out BW.out) BW.out.size) (rdAtms_good.up (rdAtms_good.below HA.out BW.out) BW.out.size) (by omega) (HE.out.below BW.out))
    have HSUB := Lib.hid (openF_more hv ⟨xn, xo, xv⟩ 0 L)
    have BOTH := Lib.hid (openF_both hv L M)
    have hwl : (openF hv 0 L).length ≤ 40 := Nat.le_trans (openF_len _ _ _) hL
    have hnl : (openF (hv ++ [⟨xn, xo, xv⟩]) 0 L).length ≤ 40 := Nat.le_trans (openF_len _ _ _) hL
    have hol : (openF hv 0 M).length ≤ 40 := Nat.le_trans (openF_len _ _ _) hM
    have OM := Lib.hid (show ∀ p ∈ openF hv 0 M, 0 ≤ p ∧ p < (M.length : Int) from fun p hp => openF_mem hv M M.length (Nat.le_refl _) p (by rw [List.take_length]; exact hp))
    have K8 := Lib.hid (fun (W : World) (hb : Below w.heap.size w W) (A : Option Addr) (n c : Nat) h => open_any A0 A L.length c0 n c L (hv ++ [⟨xn, xo, xv⟩]) W (rdGrps_good.up (rdGrps_good.below HR.out hb) hb.size) h (by omega) (HE.out.below hb))
    have KM := Lib.hid (fun (W : World) (hb : Below w.heap.size w W) => open_any A1 A2 M.length c1 hv.length c2 M hv W (rdGrps_good.up (rdGrps_good.below HM.out hb) hb.size) (rdAtms_good.up (rdAtms_good.below HA.out hb) hb.size) (by omega) (HE.out.below hb))
    have KLM := Lib.hid (fun (W : World) (hb : Below w.heap.size w W) (A : Option Addr) (n c : Nat) h => open_any A A2 n c hv.length c2 (L ++ M) hv W h (rdAtms_good.up (rdAtms_good.below HA.out hb) hb.size) (by rw [List.length_append]; omega) (HE.out.below hb))
    rw [BOTH.out] at KLM
    clear K1 K2 KL SL SM S BOTH
    generalize openF hv 0 L = WAS at *
    generalize openF (hv ++ [⟨xn, xo, xv⟩]) 0 L = NOW at *
    generalize openF hv 0 M = OTH at *
    have Q3 := Lib.hid (And.intro q0 (And.intro q1 q2))
    clear q0 q1 q2
    go_wp2_with fail
    refine KO.out.mono ?_
    rintro e w4 ⟨⟨A4, c4, rfl, hr4⟩, hb4⟩
    obtain ⟨q0, q1, q2⟩ := keep3 hb4 Q3.out
    have BW4 := Lib.hid (bel2 BW.out hb4 (Nat.le_refl _))
    have R4i := Lib.hid hr4
    clear hb4 hr4 KO
    have hx4 := rdAtms_good.up (rdAtms_good.below HA.out BW4.out) BW4.out.size
    have KS := Lib.hid (fun (W : World) (hb : Below w4.heap.size w4 W) => (show W.cell? ⟨w.heap.size, 0, none⟩ = some (.string xn) ∧ W.cell? ⟨w.heap.size, 1, none⟩ = some (.int .i64 xo) ∧ W.cell? ⟨w.heap.size, 2, none⟩ = some (.string xv) from keep3 hb ⟨q0, q1, q2⟩))
    have AA := Lib.hid (mpA hx4)
    have AB := Lib.hid (mpB xn xo xv hx4)
    have AC := Lib.hid (mpC xn xo xv hx4)
    have BC := Lib.hid (show Below w4.heap.size w4 (w4.alloc (Obj.cells #[Value.string xn, Value.int .i64 xo, Value.string xv] 25)).drew from belD ((Below.refl _ _).alloc (Nat.le_refl _) _) 1)
    clear hx4
    go_upto_region 8 with fail
    go_cut [14] from 52 to 59 (fun s14 wx => ∃ (A14 : Option Addr) (c14 : Nat), s14 = .slice A14 NOW.length c14 ∧ rdInts wx (lt_ wx.heap.size) NOW [.slice A14 NOW.length c14] ∧ Below w4.heap.size w4 wx)
    case first =>
      refine wp_region_noPanic ?_
      refine wp_region_L (fun W => W.cell? ⟨w.heap.size, 0, none⟩ = some (.string xn) ∧ W.cell? ⟨w.heap.size, 1, none⟩ = some (.int .i64 xo) ∧ W.cell? ⟨w.heap.size, 2, none⟩ = some (.string xv)) 8 (by kernel_rfl) (KS.out _ (belD (Below.refl _ _) 1)) (fun hHeld => ?_)
      refine wpAnyL_take (i := 0) (v := ?_) [7] rfl (by kernel_rfl) (by kernel_rfl) (by kernel_rfl) (fun _ _ _ h => h) (by kernel_rfl) (by kernel_rfl) (by kernel_rfl) (Or.inl ⟨by rfl, ?_⟩) (by assumption) ?_
      rotate_left
      · intro w hSw
        try dsimp only at hSw
        go_simp
        first | done | with_reducible rfl
      try simp only [Act.put, List.setIfInBounds_toArray, List.set_cons_zero, List.set_cons_succ]
      refine wpAnyL_take (i := 2) (v := ?_) [7, 6, 3] rfl (by kernel_rfl) (by kernel_rfl) (by kernel_rfl) (fun _ _ _ h => h) (by kernel_rfl) (by kernel_rfl) (by kernel_rfl) (Or.inl ⟨by rfl, ?_⟩) (by assumption) ?_
      rotate_left
      · intro w hSw
        try dsimp only at hSw
        go_simp
        first | done | with_reducible rfl
      try simp only [Act.put, List.setIfInBounds_toArray, List.set_cons_zero, List.set_cons_succ]
      refine wpAnyL_take (i := 4) (v := ?_) [7, 6, 5] rfl (by kernel_rfl) (by kernel_rfl) (by kernel_rfl) (fun _ _ _ h => h) (by kernel_rfl) (by kernel_rfl) (by kernel_rfl) (Or.inl ⟨by rfl, ?_⟩) (by assumption) ?_
      rotate_left
      · intro w hSw
        try dsimp only at hSw
        go_simp
        first | done | with_reducible rfl
      try simp only [Act.put, List.setIfInBounds_toArray, List.set_cons_zero, List.set_cons_succ]
      refine wpAnyL_two (i := 1) (k := 5) (by kernel_rfl) rfl rfl (fun K hK => ?_) (fun K hK => ?_)
      · go_simp
        refine hK.out _ _ (KS.out _ AA.out.bel) (fun hHeld => ?_)
        clear hK K
        try simp only [Act.put, List.setIfInBounds_toArray, List.set_cons_zero, List.set_cons_succ]
        refine wpAnyL_two (i := 3) (k := 5) (by kernel_rfl) rfl rfl (fun K hK => ?_) (fun K hK => ?_)
        · refine step_growN _ (by rfl) _ _ 23 23 (by rfl) rdAtm_good (by decide) (fun _ => True) w4.heap.size 25 25 i1 _ 40 Tryz.underlying23 Tryz.underlying23 hj hy0 hy1 hy2 rfl _ _ (by rfl) AA.out.g _ _ _ _ _ (by rfl) AA.out.x AA.out.s hm1 hm2 AA.out.bs ?_
          intro v3 w3 hG3 hg3 hm3
          have B3 := Lib.hid (mp_next AA.out hG3 hg3).2
          have Y2 := Lib.hid (mp2A xn xo xv AA.out hG3 hg3)
          obtain ⟨A3, c3', rfl, _, _⟩ := hG3.own
          clear hG3 hg3 hm3
          refine hK.out _ _ (KS.out _ B3.out) (fun hHeld => ?_)
          clear hK K
          try simp only [Act.put, List.setIfInBounds_toArray, List.set_cons_zero, List.set_cons_succ]
          refine wpAnyL_one (i := 5) (by kernel_rfl) rfl (fun K hK => ?_)
          go_simp
          refine hK.out _ _ (KS.out _ Y2.out.bel) (fun hHeld => ?_)
          clear hK K
          try simp only [Act.put, List.setIfInBounds_toArray, List.set_cons_zero, List.set_cons_succ]
          refine wpAnyL_one (i := 6) (by kernel_rfl) rfl (fun K hK => ?_)
          refine step_growN _ (by rfl) _ _ 23 23 (by rfl) rdAtm_good (by decide) (fun _ => True) w4.heap.size 25 25 i1 _ 40 Tryz.underlying23 Tryz.underlying23 hj hy0 hy1 hy2 rfl _ _ (by rfl) Y2.out.g _ _ _ _ _ (by rfl) Y2.out.x Y2.out.s hm3' hm4 Y2.out.bs ?_
          intro v5 w5 hG5 hg5 _
          have EN := Lib.hid (mp_end Y2.out hG5 hg5)
          clear hG5 hg5
          obtain ⟨A5, c5, hv5, _⟩ := id EN.out.2
          simp only [List.cons.injEq, and_true] at hv5
          rw [List.length_append, List.length_singleton] at hv5
          subst hv5
          refine hK.out _ _ (KS.out _ EN.out.1) (fun hHeld => ?_)
          clear hK K
          try simp only [Act.put, List.setIfInBounds_toArray, List.set_cons_zero, List.set_cons_succ]
          refine wpAnyL_one (i := 7) (by kernel_rfl) rfl (fun K hK => ?_)
          go_simp
          refine (K8.out w5 (bel2 BW4.out EN.out.1 (Nat.le_refl _)) _ _ _ (rdAtms_good.more EN.out.2 fun b hb => hb.2)).mono ?_
          rintro e w6 ⟨⟨A6, c6, rfl, hr6⟩, hb6⟩
          go_wp2_with fail
          refine hK.out _ _ (KS.out _ (bel2 EN.out.1 hb6 (Nat.le_refl _))) (fun hHeld => ?_)
          clear hK K
          try simp only [Act.put, List.setIfInBounds_toArray, List.set_cons_zero, List.set_cons_succ]
          refine wpAnyL_last (by kernel_rfl) rfl (by kernel_rfl) (fun K hK => ?_)
          go_simp
          refine hK.out _ _ ?_
          clear hK K
          refine NoPanic.normal ?_
          go_wp2_with fail
          go_meet
          exact ⟨_, _, rfl, hr6, bel2 EN.out.1 hb6 (Nat.le_refl _)⟩

        · go_simp
          refine hK.out _ _ (KS.out _ AB.out.bel) (fun hHeld => ?_)
          clear hK K
          try simp only [Act.put, List.setIfInBounds_toArray, List.set_cons_zero, List.set_cons_succ]
          refine wpAnyL_one (i := 3) (by kernel_rfl) rfl (fun K hK => ?_)
          refine step_growN _ (by rfl) _ _ 23 23 (by rfl) rdAtm_good (by decide) (fun _ => True) w4.heap.size 25 25 i1 _ 40 Tryz.underlying23 Tryz.underlying23 hj hy0 hy1 hy2 rfl _ _ (by rfl) AB.out.g _ _ _ _ _ (by rfl) AB.out.x AB.out.s hm1 hm2 AB.out.bs ?_
          intro v3 w3 hG3 hg3 hm3
          have B3 := Lib.hid (mp_next AB.out hG3 hg3).2
          have Y2 := Lib.hid (mp2B AB.out hG3 hg3 hm3)
          obtain ⟨A3, c3', rfl, _, _⟩ := hG3.own
          clear hG3 hg3 hm3
          refine hK.out _ _ (KS.out _ B3.out) (fun hHeld => ?_)
          clear hK K
          try simp only [Act.put, List.setIfInBounds_toArray, List.set_cons_zero, List.set_cons_succ]
          refine wpAnyL_one (i := 6) (by kernel_rfl) rfl (fun K hK => ?_)
          refine step_growN _ (by rfl) _ _ 23 23 (by rfl) rdAtm_good (by decide) (fun _ => True) w4.heap.size 25 25 i1 _ 40 Tryz.underlying23 Tryz.underlying23 hj hy0 hy1 hy2 rfl _ _ (by rfl) Y2.out.g _ _ _ _ _ (by rfl) Y2.out.x Y2.out.s hm3' hm4 Y2.out.bs ?_
          intro v5 w5 hG5 hg5 _
          have EN := Lib.hid (mp_end Y2.out hG5 hg5)
          clear hG5 hg5
          obtain ⟨A5, c5, hv5, _⟩ := id EN.out.2
          simp only [List.cons.injEq, and_true] at hv5
          rw [List.length_append, List.length_singleton] at hv5
          subst hv5
          refine hK.out _ _ (KS.out _ EN.out.1) (fun hHeld => ?_)
          clear hK K
          try simp only [Act.put, List.setIfInBounds_toArray, List.set_cons_zero, List.set_cons_succ]
          refine wpAnyL_one (i := 7) (by kernel_rfl) rfl (fun K hK => ?_)
          go_simp
          refine (K8.out w5 (bel2 BW4.out EN.out.1 (Nat.le_refl _)) _ _ _ (rdAtms_good.more EN.out.2 fun b hb => hb.2)).mono ?_
          rintro e w6 ⟨⟨A6, c6, rfl, hr6⟩, hb6⟩
          go_wp2_with fail
          refine hK.out _ _ (KS.out _ (bel2 EN.out.1 hb6 (Nat.le_refl _))) (fun hHeld => ?_)
          clear hK K
          try simp only [Act.put, List.setIfInBounds_toArray, List.set_cons_zero, List.set_cons_succ]
          refine wpAnyL_last (by kernel_rfl) rfl (by kernel_rfl) (fun K hK => ?_)
          go_simp
          refine hK.out _ _ ?_
          clear hK K
          refine NoPanic.normal ?_
          go_wp2_with fail
          go_meet
          exact ⟨_, _, rfl, hr6, bel2 EN.out.1 hb6 (Nat.le_refl _)⟩


      · go_simp
        refine hK.out _ _ (KS.out _ BC.out) (fun hHeld => ?_)
        clear hK K
        try simp only [Act.put, List.setIfInBounds_toArray, List.set_cons_zero, List.set_cons_succ]
        refine wpAnyL_one (i := 1) (by kernel_rfl) rfl (fun K hK => ?_)
        go_simp
        refine hK.out _ _ (KS.out _ AC.out.bel) (fun hHeld => ?_)
        clear hK K
        try simp only [Act.put, List.setIfInBounds_toArray, List.set_cons_zero, List.set_cons_succ]
        refine wpAnyL_one (i := 3) (by kernel_rfl) rfl (fun K hK => ?_)
        refine step_growN _ (by rfl) _ _ 23 23 (by rfl) rdAtm_good (by decide) (fun _ => True) w4.heap.size 25 25 i1 _ 40 Tryz.underlying23 Tryz.underlying23 hj hy0 hy1 hy2 rfl _ _ (by rfl) AC.out.g _ _ _ _ _ (by rfl) AC.out.x AC.out.s hm1 hm2 AC.out.bs ?_
        intro v3 w3 hG3 hg3 hm3
        have B3 := Lib.hid (mp_next AC.out hG3 hg3).2
        have Y2 := Lib.hid (mp2C AC.out hG3 hg3 hm3)
        obtain ⟨A3, c3', rfl, _, _⟩ := hG3.own
        clear hG3 hg3 hm3
        refine hK.out _ _ (KS.out _ B3.out) (fun hHeld => ?_)
        clear hK K
        try simp only [Act.put, List.setIfInBounds_toArray, List.set_cons_zero, List.set_cons_succ]
        refine wpAnyL_one (i := 6) (by kernel_rfl) rfl (fun K hK => ?_)
        refine step_growN _ (by rfl) _ _ 23 23 (by rfl) rdAtm_good (by decide) (fun _ => True) w4.heap.size 25 25 i1 _ 40 Tryz.underlying23 Tryz.underlying23 hj hy0 hy1 hy2 rfl _ _ (by rfl) Y2.out.g _ _ _ _ _ (by rfl) Y2.out.x Y2.out.s hm3' hm4 Y2.out.bs ?_
        intro v5 w5 hG5 hg5 _
        have EN := Lib.hid (mp_end Y2.out hG5 hg5)
        clear hG5 hg5
        obtain ⟨A5, c5, hv5, _⟩ := id EN.out.2
        simp only [List.cons.injEq, and_true] at hv5
        rw [List.length_append, List.length_singleton] at hv5
        subst hv5
        refine hK.out _ _ (KS.out _ EN.out.1) (fun hHeld => ?_)
        clear hK K
        try simp only [Act.put, List.setIfInBounds_toArray, List.set_cons_zero, List.set_cons_succ]
        refine wpAnyL_one (i := 7) (by kernel_rfl) rfl (fun K hK => ?_)
        go_simp
        refine (K8.out w5 (bel2 BW4.out EN.out.1 (Nat.le_refl _)) _ _ _ (rdAtms_good.more EN.out.2 fun b hb => hb.2)).mono ?_
        rintro e w6 ⟨⟨A6, c6, rfl, hr6⟩, hb6⟩
        go_wp2_with fail
        refine hK.out _ _ (KS.out _ (bel2 EN.out.1 hb6 (Nat.le_refl _))) (fun hHeld => ?_)
        clear hK K
        try simp only [Act.put, List.setIfInBounds_toArray, List.set_cons_zero, List.set_cons_succ]
        refine wpAnyL_last (by kernel_rfl) rfl (by kernel_rfl) (fun K hK => ?_)
        go_simp
        refine hK.out _ _ ?_
        clear hK K
        refine NoPanic.normal ?_
        go_wp2_with fail
        go_meet
        exact ⟨_, _, rfl, hr6, bel2 EN.out.1 hb6 (Nat.le_refl _)⟩
    case rest =>
      obtain ⟨A6, c6, rfl, hr6, hb6⟩ := hcut
      obtain ⟨w6, rfl⟩ : ∃ w6 : World, w6 = wc := ⟨_, rfl⟩
      have BW6 := Lib.hid (bel2 BW4.out hb6 (Nat.le_refl _))
      have W6 := Lib.hid (rdInts_good.up (rdInts_good.below R4i.out hb6) hb6.size)
      have N6 := Lib.hid hr6
      obtain ⟨_, hc4, hc4m, _⟩ := rdInts_at W6.out
      obtain ⟨_, hc6, hc6m, _⟩ := rdInts_at N6.out
      clear hb6 hr6 KS AA AB AC BC q0 q1 q2
      have hc4' : c4 ≤ 9223372036854775807 := hc4m
      have hc6' : c6 ≤ 9223372036854775807 := hc6m
      clear hc4m hc6m
      go_wp2
      go_loopw [15, 16] (fun a i wr => ∃ p q : Nat, a = .int .i64 p ∧ i = .int .i64 q ∧ p ≤ WAS.length ∧ q ≤ NOW.length ∧ (NOW.drop q).Sublist (WAS.drop p) ∧ Dr w6 wr) (fun _ i _ => NOW.length - (intOf i).toNat)
      case atStart => exact ⟨0, 0, rfl, rfl, Nat.zero_le _, Nat.zero_le _, HSUB.out, Dr.refl _⟩
      case round =>
        obtain ⟨p, q, rfl, rfl, hp, hq, hs, hdr⟩ := hrel
        have HS := Lib.hid hs
        have HD := Lib.hid hdr
        clear hs hdr
        obtain ⟨wo, rfl⟩ : ∃ wo : World, wo = wr := ⟨_, rfl⟩
        by_cases hlq : q < NOW.length
        · go_wp2
          go_loopw [15] (fun a wr => ∃ p : Nat, a = .int .i64 p ∧ p ≤ WAS.length ∧ (NOW.drop q).Sublist (WAS.drop p) ∧ Dr w6 wr) (fun a _ => WAS.length - (intOf a).toNat)
          case atStart => exact ⟨p, rfl, hp, HS.out, HD.out⟩
          case round =>
            obtain ⟨p2, rfl, hp2, hs2, hdr2⟩ := hrel
            have hlp := sub_has hlq hs2
            obtain ⟨_, _, _, ha⟩ := rdInts_at (rdInts_good.below W6.out (hdr2.below _))
            obtain ⟨_, _, _, hb⟩ := rdInts_at (rdInts_good.below N6.out (hdr2.below _))
            obtain ⟨ad, rfl, had, e0⟩ := ha p2 hlp
            obtain ⟨ad', rfl, had', e1⟩ := hb q hlq
            have SK := Lib.hid (fun h => sub_skip hlq hlp hs2 h)
            have SN := Lib.hid (sub_next hlq hs2)
            have HD2 := Lib.hid hdr2
            have i1' : (p2 : Int) < (WAS.length : Int) := by omega
            have i2' : (q : Int) < (NOW.length : Int) := by omega
            clear ha hb hs2 hdr2
            by_cases he : WAS[p2] = NOW[q]
            · have hd : (WAS[p2] != NOW[q]) = false := by rw [he]; simp
              clear he SK
              generalize WAS[p2] = x at *
              generalize NOW[q] = y at *
              go_wp2_with fail
              go_quiet (fail)
              go_wp2
              go_roundw
              case rel => exact ⟨p2, q + 1, rfl, by go_num, by omega, by omega, SN.out, HD2.out.more _⟩
              case measure => simp [intOf]; omega
            · have hd : (WAS[p2] != NOW[q]) = true := by rw [bne_iff_ne]; exact he
              have SK2 := Lib.hid (SK.out he)
              clear he SK
              generalize WAS[p2] = x at *
              generalize NOW[q] = y at *
              go_wp2_with fail
              go_quiet (fail)
              go_wp2
              go_roundw
              case rel => exact ⟨p2 + 1, by go_num, by omega, SK2.out, HD2.out.more _⟩
              case measure => simp [intOf]; omega
        · have BWo := Lib.hid (bel2 BW6.out (HD.out.below _) (Nat.le_refl _))
          have Wo := Lib.hid (rdInts_good.up (rdInts_good.below W6.out (HD.out.below _)) (Nat.le_of_eq HD.out.size.symm))
          obtain rfl : q = NOW.length := by omega
          clear HS HD hlq hp hq
          have GE := Lib.hid (show Grow rdAtms 1 (fun _ => True) (wo.alloc (Obj.cells #[] 39)) wo.heap.size 39 (.slice (some ⟨wo.heap.size, 0, none⟩) 0 0) [] from Grow.empty _ (heap_alloc_new wo _) (Nat.le_refl _))
          have BE := Lib.hid (show Below wo.heap.size wo (wo.alloc (Obj.cells #[] 39)) from (Below.refl _ _).alloc (Nat.le_refl _) _)
          have XE := Lib.hid (rdGrps_good.up (rdGrps_good.below HR.out (bel2 BWo.out BE.out (Nat.le_refl _))) BWo.out.size)
          have SE := Lib.hid (show ∀ b, lt_ wo.heap.size b → True ∧ b < (wo.alloc (Obj.cells #[] 39)).heap.size ∧ (Value.slice (some ⟨wo.heap.size, 0, none⟩) 0 0).ownBlock ≠ some b from fun b hb => ⟨trivial, by simp; unfold lt_ at hb; omega, fun hh => by simp only [Value.ownBlock, Option.some.injEq] at hh; unfold lt_ at hb; omega⟩)
          have hs0 : wo.heap.size ≤ (wo.alloc (Obj.cells #[] 39)).heap.size := BE.out.size
          have hq1 : ([] : List (List Atm)).length + L.length ≤ maxLen := by simp only [List.length_nil]; unfold maxLen; omega
          have hq2 : (([] : List (List Atm)).length + L.length) * 24 ≤ 140737488355328 := by simp only [List.length_nil]; omega
          have hq3 : L.length + M.length ≤ maxLen := by unfold maxLen; omega
          have hq4 : (L.length + M.length) * 24 ≤ 140737488355328 := by omega
          go_wp2_with (at_builtin; refine wpList_growN _ rfl _ _ 22 22 rfl rdAtms_good (by decide) (fun _ => True) wo.heap.size 39 39 i2 (.slice none 0 0) 24 Tryz.underlying22 Tryz.underlying22 hg0 hg1 hg2' hg3' rfl _ _ rfl GE.out L _ A0 L.length c0 rfl XE.out SE.out hq1 hq2 hs0 ?_)
          intro v3 w3 hG3 hg3
          have B3 := Lib.hid (grow_below GE.out hg3 BE.out (Nat.le_refl _) hs0)
          have G3 := Lib.hid (show Grow rdAtms 1 (fun _ => True) w3 wo.heap.size 39 v3 L from hG3)
          clear hG3 hg3
          have X3 := Lib.hid (rdGrps_good.up (rdGrps_good.below HM.out (bel2 BWo.out B3.out (Nat.le_refl _))) BWo.out.size)
          have S3 := Lib.hid (show ∀ b, lt_ wo.heap.size b → True ∧ b < w3.heap.size ∧ v3.ownBlock ≠ some b from fun b hb => ⟨trivial, Nat.lt_of_lt_of_le hb B3.out.size, fun hh => by have := (G3.out.lt b hh).1; unfold lt_ at hb; omega⟩)
          have hs3 : wo.heap.size ≤ w3.heap.size := B3.out.size
          go_wp2_with (at_builtin; refine wpList_growN w3 rfl _ _ 22 22 rfl rdAtms_good (by decide) (fun _ => True) wo.heap.size 39 39 i2 (.slice none 0 0) 24 Tryz.underlying22 Tryz.underlying22 hg0 hg1 hg2' hg3' rfl v3 L rfl G3.out M _ A1 M.length c1 rfl X3.out S3.out hq3 hq4 hs3 ?_)
          intro v5 w5 hG5 hg5
          have EG := Lib.hid (And.intro (grow_below G3.out hg5 B3.out (Nat.le_refl _) hs3) (hG5.read rdAtms_good))
          clear hG5 hg5
          obtain ⟨A5, c5, hv5, _⟩ := id EG.out.2
          simp only [List.cons.injEq, and_true] at hv5
          rw [List.length_append] at hv5
          subst hv5
          go_wp2_with fail
          refine (KLM.out w5 (bel2 BWo.out EG.out.1 (Nat.le_refl _)) _ _ _ EG.out.2).mono ?_
          rintro e w9 ⟨⟨A9, c9, he9, hr9⟩, hb9⟩
          rw [List.length_append, List.length_map] at he9 hr9
          subst he9
          have BW9 := Lib.hid (bel2 BWo.out (bel2 EG.out.1 hb9 (Nat.le_refl _)) (Nat.le_refl _))
          have W9 := Lib.hid (rdInts_good.up (rdInts_good.below Wo.out (bel2 EG.out.1 hb9 (Nat.le_refl _))) (bel2 EG.out.1 hb9 (Nat.le_refl _)).size)
          have A9' := Lib.hid hr9
          clear hr9 hb9 GE BE XE SE hs0 hq1 hq2 hq3 hq4 EG
          go_wp2_with fail
          refine (KM.out _ BW9.out).mono ?_
          rintro e w10 ⟨⟨A10, c10, rfl, hr10⟩, hb10⟩
          have BW10 := Lib.hid (bel2 BW9.out hb10 (Nat.le_refl _))
          have W10 := Lib.hid (rdInts_good.up (rdInts_good.below W9.out hb10) hb10.size)
          have ALL := Lib.hid (rdInts_good.up (rdInts_good.below A9'.out hb10) hb10.size)
          have O10 := Lib.hid hr10
          obtain ⟨_, _, hc10m, _⟩ := rdInts_at O10.out
          have hc10' : c10 ≤ 9223372036854775807 := hc10m
          clear hr10 hb10 hc10m
          go_wp2
          go_loopw [19, 20] (fun v i wr => ∃ k : Nat, i = .int .i64 k ∧ k ≤ WAS.length ∧ Grow rdInt 1 (fun _ => True) wr w10.heap.size 3 v (WAS.take k) ∧ Below w10.heap.size w10 wr) (fun _ i _ => WAS.length - (intOf i).toNat)
          case atStart => exact ⟨0, rfl, Nat.zero_le _, Grow.nil _ _ _ _, Below.refl _ _⟩
          case round =>
            obtain ⟨k, rfl, hk, hG, hbel⟩ := hrel
            by_cases hlk : k < WAS.length
            · obtain ⟨_, _, _, ha⟩ := rdInts_at (rdInts_good.below W10.out hbel)
              obtain ⟨ad, rfl, had, e0⟩ := ha k hlk
              have TS := Lib.hid (List.take_succ_eq_append_getElem hlk)
              have hl2 : (WAS.take k).length = k := by rw [List.length_take]; omega
              have HB := Lib.hid hbel
              have hbs := hbel.size
              have hE := (show rdInt wr (fun b => True ∧ b < wr.heap.size ∧ u19.ownBlock ≠ some b) WAS[k] (#[Value.int .i64 WAS[k]] : Array Value).toList from rfl)
              have hn1 : (WAS.take k).length + 1 ≤ maxLen := by rw [hl2]; unfold maxLen; omega
              have hn2 : ((WAS.take k).length + 1) * 8 ≤ 140737488355328 := by rw [hl2]; omega
              clear ha hbel hl2
              generalize WAS[k] = x at *
              generalize WAS.take k = tk at *
              go_wp2_with (at_builtin; refine wpList_grow1 wr rfl _ _ 29 rfl rdInt_good (by decide) (fun _ => True) w10.heap.size 3 i3 _ 8 Tryz.underlying29 hi0 hi1 hi2 hi3 rfl u19 _ rfl hG x _ 3 hE _ rfl rfl hn1 hn2 hbs ?_)
              intro v' w' hG' hgr
              have HB' := Lib.hid (grow_below hG hgr HB.out (Nat.le_refl _) hbs)
              clear hG hgr hE
              go_wp2
              go_roundw
              case rel => exact ⟨k + 1, by go_num, by omega, by rw [TS.out]; exact hG', HB'.out⟩
              case measure => simp [intOf]; omega
            · obtain rfl : k = WAS.length := by omega
              rw [List.take_length] at hG
              have HG := Lib.hid hG
              have HBq := Lib.hid hbel
              clear hG hbel
              obtain ⟨wo2, rfl⟩ : ∃ wo2 : World, wo2 = wr := ⟨_, rfl⟩
              go_wp2
              go_loopw [19, 21] (fun v i wr => ∃ k : Nat, i = .int .i64 k ∧ k ≤ OTH.length ∧ Grow rdInt 1 (fun _ => True) wr w10.heap.size 3 v (WAS ++ (OTH.take k).map fun p => p + (L.length : Int)) ∧ Below w10.heap.size w10 wr) (fun _ i _ => OTH.length - (intOf i).toNat)
              case atStart => exact ⟨0, rfl, Nat.zero_le _, by rw [List.take_zero, List.map_nil, List.append_nil]; exact HG.out, HBq.out⟩
              case round =>
                obtain ⟨k, rfl, hk, hG, hbel⟩ := hrel
                by_cases hlk : k < OTH.length
                · obtain ⟨_, _, _, ha⟩ := rdInts_at (rdInts_good.below O10.out hbel)
                  obtain ⟨ad, rfl, had, e0⟩ := ha k hlk
                  have TS := Lib.hid (show WAS ++ (OTH.take (k + 1)).map (fun p => p + (L.length : Int)) = (WAS ++ (OTH.take k).map fun p => p + (L.length : Int)) ++ [OTH[k] + (L.length : Int)] by
                    rw [List.take_succ_eq_append_getElem hlk, List.map_append, List.append_assoc]; rfl)
                  have hl2 : (WAS ++ (OTH.take k).map fun p => p + (L.length : Int)).length ≤ 80 := by rw [List.length_append, List.length_map, List.length_take]; omega
                  obtain ⟨ob0, ob1⟩ := OM.out _ (List.getElem_mem hlk)
                  have HB := Lib.hid hbel
                  have hbs := hbel.size
                  have hE := (show rdInt wr (fun b => True ∧ b < wr.heap.size ∧ u19.ownBlock ≠ some b) (OTH[k] + (L.length : Int)) (#[Value.int .i64 (OTH[k] + (L.length : Int))] : Array Value).toList from rfl)
                  have hn1 : (WAS ++ (OTH.take k).map fun p => p + (L.length : Int)).length + 1 ≤ maxLen := by unfold maxLen; omega
                  have hn2 : ((WAS ++ (OTH.take k).map fun p => p + (L.length : Int)).length + 1) * 8 ≤ 140737488355328 := by omega
                  clear ha hbel hl2
                  generalize OTH[k] = x at *
                  generalize (WAS ++ (OTH.take k).map fun p => p + (L.length : Int)) = tk at *
                  go_wp2_with (at_builtin; refine wpList_grow1 wr rfl _ _ 29 rfl rdInt_good (by decide) (fun _ => True) w10.heap.size 3 i3 _ 8 Tryz.underlying29 hi0 hi1 hi2 hi3 rfl u19 _ rfl hG (x + (L.length : Int)) _ 3 hE _ rfl rfl hn1 hn2 hbs ?_)
                  intro v' w' hG' hgr
                  have HB' := Lib.hid (grow_below hG hgr HB.out (Nat.le_refl _) hbs)
                  clear hG hgr hE
                  go_wp2
                  go_roundw
                  case rel => exact ⟨k + 1, by go_num, by omega, by rw [TS.out]; exact hG', HB'.out⟩
                  case measure => simp [intOf]; omega
                · obtain rfl : k = OTH.length := by omega
                  rw [List.take_length] at hG
                  obtain ⟨Av, cv, hv9, _, _⟩ := hG.own
                  rw [List.length_append, List.length_map] at hv9
                  subst hv9
                  have KS2 := Lib.hid (sameInts_any _ _ _ _ _ _ (WAS ++ OTH.map fun p => p + (L.length : Int)) (WAS ++ OTH.map fun p => p + (L.length : Int)) wr (rdInts_good.up (rdInts_good.below ALL.out hbel) hbel.size) (hG.read rdInt_good))
                  rw [decide_eq_true rfl] at KS2
                  have HBe := Lib.hid (bel2 BW10.out hbel (Nat.le_refl _))
                  clear hG hbel
                  go_wp2_with fail
                  refine KS2.out.mono ?_
                  rintro e w12 ⟨rfl, hdr⟩
                  go_wp2
                  go_ret
                  exact ⟨rfl, bel2 HBe.out (hdr.below _) (Nat.le_refl _)⟩

theorem contract (H : Type) (enc : TypeId × Value → H) (W : World) (base : Nat) (args : Array Value) (ds gs : List (DataW H)) (before : List MemPlace)
    (hval : ∀ (j : Nat) t v, Tryz.f3.params[j]? = some t → args[j]? = some v → Value.okWide Tryz.prog W .any base t v)
    (hW : DataW.Whole enc Tryz.prog Tryz.f3.params.toList Rows.dependsMoreSpec.vars false W args.toList ds gs before) (hz0 : (DataW.weightsEach Tryz.prog (Tryz.f3.params.toList ++ (OpenSpec.ofChange Rows.dependsMoreSpec).bare.plain.varTypes Tryz.prog) (ds ++ gs)).all (· ≤ reachBytes) = true) (E : EnvR W) :
    Calls Tryz.prog 3 args W fun e W' => ∃ v, e = .returned v ∧ Rows.dependsMoreSpec.post enc Tryz.prog Tryz.f3 false true false false W args v W' := by
  have hW' := hW
  obtain ⟨p, q, hA0, _, _, _, _⟩ := hW
  have hA : DataW.TrodAll enc Tryz.prog W 0 (fun _ => true) true Tryz.f3.params.toList args.toList ds p := hA0
  rw [Tryz.params3] at hA hval hz0
  obtain ⟨v0, vs0, d0, ds0, p0, q0, hargs, rfl, rfl, h0, r0⟩ := trodAll_cons hA
  obtain ⟨v1, vs1, d1, ds1, p1, q1, rfl, rfl, rfl, h1, r1⟩ := trodAll_cons r0
  obtain ⟨v2, vs2, d2, ds2, p2, q2, rfl, rfl, rfl, h2, r2⟩ := trodAll_cons r1
  obtain ⟨v3, vs3, d3, ds3, p3, q3, rfl, rfl, rfl, h3, r3⟩ := trodAll_cons r2
  obtain ⟨rfl, rfl, rfl⟩ := trodAll_nil r3
  obtain rfl : args = #[v0, v1, v2, v3] := by cases args; simp_all
  obtain ⟨A0, n0, c0, L0, rfl, hr0, hk0⟩ := open_grps_arg (hval 0 22 v0 rfl rfl) h0
  obtain ⟨A1, n1, c1, L1, rfl, hr1, hk1⟩ := open_grps_arg (hval 1 22 v1 rfl rfl) h1
  obtain ⟨A2, n2, c2, L2, rfl, hr2, hk2⟩ := open_atoms_arg (hval 2 23 v2 rfl rfl) h2
  obtain ⟨n3, e3, r3', rfl, wn3, w3, wr3⟩ := open_atom_arg (hval 3 25 v3 rfl rfl) h3
  refine (walk A0 n0 c0 L0 A1 n1 c1 L1 A2 n2 c2 L2 n3 e3 r3' W hr0 hk0 hr1 hk1 hr2 hk2 wn3 w3 wr3 (reach_atoms h2 hz0 (j := 2) rfl rfl) E).mono fun e W' ⟨he, hb⟩ => ?_
  subst he
  refine ⟨_, rfl, law_post hW' rfl rfl rfl rfl rfl Tryz.underlying4 laid_out ?_ hb⟩
  rw [Tryz.params3]
  intro t ht
  simp at ht
  rcases ht with rfl | rfl | rfl | rfl <;> exact ⟨by kernel_rfl, of_decide_eq_true (by kernel_rfl)⟩

theorem reads (os : Os) {H : Type} (enc : TypeId × Value → H) : ∃ x, DataW.whole enc Tryz.prog ((World.laidAll Tryz.prog os laidL).forCall (fun _ _ => 0) ⟨#[], #[.slice none 0 0, .slice none 0 0, .slice none 0 0, .agg #[.string ⟨#[]⟩, .int .i64 0, .string ⟨#[]⟩]], []⟩).memory Tryz.f3.params.toList Rows.dependsMoreSpec.vars false ((#[.slice none 0 0, .slice none 0 0, .slice none 0 0, .agg #[.string ⟨#[]⟩, .int .i64 0, .string ⟨#[]⟩]] : Array Value)).toList 8 = some x :=
  Option.isSome_iff_exists.1 (by kernel_rfl)
theorem readsSized (os : Os) {H : Type} (enc : TypeId × Value → H) : (OpenSpec.ofChange Rows.dependsMoreSpec).bare.sizedB enc Tryz.prog Tryz.f3 false ((World.laidAll Tryz.prog os laidL).forCall (fun _ _ => 0) ⟨#[], #[.slice none 0 0, .slice none 0 0, .slice none 0 0, .agg #[.string ⟨#[]⟩, .int .i64 0, .string ⟨#[]⟩]], []⟩).memory #[.slice none 0 0, .slice none 0 0, .slice none 0 0, .agg #[.string ⟨#[]⟩, .int .i64 0, .string ⟨#[]⟩]] 8 = true := by kernel_rfl
theorem okWit (os : Os) : Input.okWideB Tryz.prog ((World.laidAll Tryz.prog os laidL).forCall (fun _ _ => 0) ⟨#[], #[.slice none 0 0, .slice none 0 0, .slice none 0 0, .agg #[.string ⟨#[]⟩, .int .i64 0, .string ⟨#[]⟩]], []⟩) 3 ⟨#[], #[.slice none 0 0, .slice none 0 0, .slice none 0 0, .agg #[.string ⟨#[]⟩, .int .i64 0, .string ⟨#[]⟩]], []⟩ = true := by kernel_rfl
theorem lifted (os : Os) (started : os.Started) (H : Type) (enc : TypeId × Value → H) (F : Stop.Interp) :
    ReturnsInHanded {} Tryz.checked os 3 .any ((OpenSpec.ofChange Rows.dependsMoreSpec).preRow enc Tryz.prog Tryz.f3 Rows.dependsMoreRow.domain false Rows.dependsMoreRow.laid) (((OpenSpec.ofChange Rows.dependsMoreSpec).at F).post enc Tryz.prog Tryz.f3 false true false false) := by
  obtain ⟨x, hx⟩ := reads os enc
  have hz := readsSized os enc
  refine returnsInHanded_of_row (C := Tryz.checked) (s := OpenSpec.ofChange Rows.dependsMoreSpec) own' started (by kernel_rfl) Tryz.func3
    ⟨World.laidAll Tryz.prog os laidL, fun _ _ => 0, ⟨#[], #[.slice none 0 0, .slice none 0 0, .slice none 0 0, .agg #[.string ⟨#[]⟩, .int .i64 0, .string ⟨#[]⟩]], []⟩, door_os os, door_shaped os _, (Input.okWide_of_okWideB (base := 0) (okWit os)).1, (Input.okWide_of_okWideB (okWit os)).2,
      OpenSpec.preRow_of_cond 8 hx rfl (fun k hk => by cases hk) hz (door_met os _), by
        simp only [Assume.holds]
        exact ⟨by simp, by simp, fun _ => Modest.zero, by simp, by simp⟩⟩ ?_
  intro W base args ds gs before hval hW _ _ hz0 hL hsh _
  exact contract H enc W base args ds gs before hval hW hz0 (env_of hL hsh)

theorem said : Rows.DependsMoreSaid :=
  OpenClaim.holds_of_cond 3 Tryz.f3 rfl rfl rfl rfl rfl rfl rfl ⟨rfl, rfl, rfl, rfl, rfl⟩ rfl rfl rfl rfl rfl (by kernel_rfl) Tryz.func3 (by kernel_rfl)
    (of_decide_eq_true (by kernel_rfl)) (by unfold Func.isWrapper; first | (rw [if_pos (by decide +kernel)]; kernel_rfl) | (rw [if_neg (by decide +kernel)]; exact ⟨rfl, rfl⟩))
    (fun os started H enc _ F => by rw [OpenClaim.pre_eq_preRow]; exact lifted os started H enc F)

theorem proved : Rows.DependsMoreCardSaid :=
  Claim7.holds_tied_plain_at .later [] _ _ _ _ said (fun _ h => by cases h) (by kernel_rfl) (fun _ h => by cases h) dependsMore_row_tie rfl ⟨rfl, rfl⟩ (by kernel_rfl) rfl
    (fun f fn hf hfn => by
      obtain rfl : f = 3 := Option.some.inj ((show Tryz.prog.funcNamed "keelson/keelsonlaw4.DependsMore" = some 3 by kernel_rfl).symm.trans hf) |>.symm
      obtain rfl : fn = Tryz.f3 := (Option.some.inj (Tryz.func3.symm.trans hfn)).symm
      exact ⟨by kernel_rfl, fun j t ht => by
        rw [Tryz.params3] at ht
        have hm : t ∈ [22, 23, 25] := by have := Array.mem_of_getElem? ht; simp at this; simp [this]
        have hall : ([22, 23, 25].all fun u => !Tryz.prog.wantsStandIn u) = true := by kernel_rfl
        exact (show Tryz.prog.wantsStandIn t = false by simpa using List.all_eq_true.1 hall t hm)⟩)
    (by kernel_rfl)
#print axioms proved
end Go.Proofs.YtfpbeenaploaiaaGreatDoor.dependsMore
