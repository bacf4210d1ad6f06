/- keelsonlaw5.StanzaJoins: called with any arguments that can be read it returns true, and its arguments read as before. Condition: the library variables that the row lists hold what the program text lays in them, which the card ties to that text. -/
import Derived.Test.YtjfenheplkoajaaDoorS5z
import Derived.Test.YtjfenheplkoajaaDoorS5s2
import Derived.Test.YtjfenheplkoajaaDoorS5t
import Derived.Test.YtjfenheplkoajaaDoorOpenF
import Derived.Test.YtjfenheplkoajaaDoorDeep4
import Derived.Test.YtjfenheplkoajaaDoorDoor5
import Derived.WalkKit
import Derived.ProofKit
import Derived.OpenShut
import Derived.SevenTiedAt
import Derived.Outline
set_option maxRecDepth 100000
set_option linter.unusedVariables false
set_option linter.unusedSimpArgs false
namespace Go.Proofs.YtjfenheplkoajaaDoor.stanzaJoins
open Go.ChangeShapes Go.WideShapes Go.ChangeAt Go.RowKit

theorem fit_run : ∀ (L : List (List Nat)) (s : PS), Fit s → rnE s L = 0 → Fit (rnS s L)
  | [], s, h, _ => h
  | l :: r, s, h, h0 => by
    by_cases hl : lnE s l = 0
    · rw [rnE_ok hl] at h0
      exact fit_run r _ (fit_line h hl) h0
    · rw [rnE_no hl] at h0
      exact absurd h0 hl
theorem stL_len (l : List Nat) : (stL l).length ≤ 200 := by
  unfold stL
  split
  · rename_i h
    obtain ⟨_, h2, _⟩ := stE_zero h
    exact fin_len _ (fit_run _ _ fit0 h2)
  · simp
theorem same_self5 (A A' : Option Addr) (n c n' c' : Nat) (l : List (List Fd)) (w : World) (h : rdStzs w (lt_ w.heap.size) l [.slice A n c]) (h' : rdStzs w (lt_ w.heap.size) l [.slice A' n' c']) :
    Calls Tryd.prog 12 #[.slice A n c, .slice A' n' c'] w fun e w' => e = .returned (.bool true) ∧ Dr w w' := by
  have := same5_any A A' n c n' c' l l w h h'
  rwa [decide_eq_true rfl] at this
theorem eqI (n : Int) : (n == n) = true := by rw [beq_iff_eq]
set_option maxHeartbeats 8000000 in
theorem walk (s t : ByteArray) (n : Int) (w : World) (_ : s.size ≤ maxLen) (_ : t.size ≤ maxLen) (hn : (Lit.int .i64 n).wf = true) (E : Env5 w) :
    Calls Tryd.prog 7 #[.string s, .string t, .int .i64 n] w fun e w' => e = .returned (.bool true) ∧ Below w.heap.size w w' := by
  have HE := Lib.hid E
  have S := Lib.hid (fun w E => shown5_any w E)
  have HN := Lib.hid (show -9223372036854775808 ≤ n ∧ n ≤ 9223372036854775807 by
    unfold Lit.wf at hn
    rw [Bool.and_eq_true, decide_eq_true_eq, decide_eq_true_eq] at hn
    exact ⟨hn.1, hn.2⟩)
  clear E hn
  obtain ⟨i0, hi, hz0, hz1, hz2⟩ := info_parts fds_info
  by_cases g1 : (2000 : Int) < (s.size : Int)
  · have S := S
    go_enter Tryd.func7, Tryd.ntmps7
    have B0 := Lib.hid (Below.refl w.heap.size w)
    go_wp2_with fail
    refine (S.out _ (HE.out.below B0.out HE.out.pos)).mono ?_
    rintro e' w1 ⟨rfl, hb⟩
    have C1 := Lib.hid (bel2 B0.out hb (Nat.le_refl _))
    clear hb
    go_wp2
    go_ret
    exact ⟨rfl, C1.out⟩
  by_cases g2 : (2000 : Int) < (t.size : Int)
  · have S := S
    go_enter Tryd.func7, Tryd.ntmps7
    have B0 := Lib.hid (Below.refl w.heap.size w)
    go_wp2_with fail
    refine (S.out _ (HE.out.below B0.out HE.out.pos)).mono ?_
    rintro e' w1 ⟨rfl, hb⟩
    have C1 := Lib.hid (bel2 B0.out hb (Nat.le_refl _))
    clear hb
    go_wp2
    go_ret
    exact ⟨rfl, C1.out⟩
  have P1 := Lib.hid (fun w E => parse5_any s w E)
  have P2 := Lib.hid (fun w E => parse5_any t w E)
  have l1 := stL_len (B s)
  have l2 := stL_len (B t)
  obtain ⟨LA, hLA⟩ : ∃ LA, stL (B s) = LA := ⟨_, rfl⟩
  obtain ⟨LB, hLB⟩ : ∃ LB, stL (B t) = LB := ⟨_, rfl⟩
  obtain ⟨e1, he1⟩ : ∃ e1, stE (B s) = e1 := ⟨_, rfl⟩
  obtain ⟨e2, he2⟩ : ∃ e2, stE (B t) = e2 := ⟨_, rfl⟩
  rw [hLA, he1] at P1
  rw [hLB, he2] at P2
  rw [hLA] at l1
  rw [hLB] at l2
  have HLA := Lib.hid hLA
  have HLB := Lib.hid hLB
  have HE1 := Lib.hid he1
  have HE2 := Lib.hid he2
  clear hLA hLB he1 he2
  generalize ((stN (B s) : Nat) : Int) = n1 at *
  generalize ((stN (B t) : Nat) : Int) = n2 at *
  have ws : IntKind.i64.wrap ((LA.length : Int) + (LB.length : Int)) = (LA.length : Int) + (LB.length : Int) := IntWalk.i64_in _ (by omega)
  by_cases h1 : ¬ e1 = 0
  · have t0 : (e1 == 0) = false := by rw [beq_eq_false_iff_ne]; exact h1
    have t1 : (e1 != 0) = true := by rw [bne_iff_ne]; exact h1
    clear h1
    go_enter Tryd.func7, Tryd.ntmps7
    have B0 := Lib.hid (Below.refl w.heap.size w)
    go_wp2_with fail
    refine (S.out _ (HE.out.below B0.out HE.out.pos)).mono ?_
    rintro e' w1 ⟨rfl, hb⟩
    have C1 := Lib.hid (bel2 B0.out hb (Nat.le_refl _))
    clear hb
    go_wp2_with fail
    refine (P1.out _ (HE.out.below C1.out HE.out.pos)).mono ?_
    rintro e' w2 ⟨⟨A2, n2, c2, rfl, hr2⟩, hb⟩
    have hn2 := (rdStzs_at hr2).1
    subst hn2
    have hcm2 := (rdStzs_at hr2).2.2.1
    have hcm2' : c2 ≤ 9223372036854775807 := hcm2
    have R2 := Lib.hid hr2
    clear hr2 hcm2
    have C2 := Lib.hid (bel2 C1.out hb (Nat.le_refl _))
    clear hb
    have D2 := Lib.hid (Below.refl w2.heap.size w2)
    go_wp2_with fail
    refine (P2.out _ (HE.out.below C2.out HE.out.pos)).mono ?_
    rintro e' w3 ⟨⟨A3, n3, c3, rfl, hr3⟩, hb⟩
    have hn3 := (rdStzs_at hr3).1
    subst hn3
    have hcm3 := (rdStzs_at hr3).2.2.1
    have hcm3' : c3 ≤ 9223372036854775807 := hcm3
    have R3 := Lib.hid hr3
    clear hr3 hcm3
    have C3 := Lib.hid (bel2 C2.out hb (Nat.le_refl _))
    have C4 := Lib.hid (bel2 D2.out hb (Nat.le_refl _))
    clear hb
    have D3 := Lib.hid (Below.refl w3.heap.size w3)
    go_wp2
    go_ret
    exact ⟨rfl, C3.out⟩
  have h1 := Decidable.not_not.1 h1
  by_cases h2 : ¬ e2 = 0
  · subst h1
    have t0 : (e2 == 0) = false := by rw [beq_eq_false_iff_ne]; exact h2
    have t1 : (e2 != 0) = true := by rw [bne_iff_ne]; exact h2
    clear h2
    go_enter Tryd.func7, Tryd.ntmps7
    have B0 := Lib.hid (Below.refl w.heap.size w)
    go_wp2_with fail
    refine (S.out _ (HE.out.below B0.out HE.out.pos)).mono ?_
    rintro e' w1 ⟨rfl, hb⟩
    have C1 := Lib.hid (bel2 B0.out hb (Nat.le_refl _))
    clear hb
    go_wp2_with fail
    refine (P1.out _ (HE.out.below C1.out HE.out.pos)).mono ?_
    rintro e' w2 ⟨⟨A2, n2, c2, rfl, hr2⟩, hb⟩
    have hn2 := (rdStzs_at hr2).1
    subst hn2
    have hcm2 := (rdStzs_at hr2).2.2.1
    have hcm2' : c2 ≤ 9223372036854775807 := hcm2
    have R2 := Lib.hid hr2
    clear hr2 hcm2
    have C2 := Lib.hid (bel2 C1.out hb (Nat.le_refl _))
    clear hb
    have D2 := Lib.hid (Below.refl w2.heap.size w2)
    go_wp2_with fail
    refine (P2.out _ (HE.out.below C2.out HE.out.pos)).mono ?_
    rintro e' w3 ⟨⟨A3, n3, c3, rfl, hr3⟩, hb⟩
    have hn3 := (rdStzs_at hr3).1
    subst hn3
    have hcm3 := (rdStzs_at hr3).2.2.1
    have hcm3' : c3 ≤ 9223372036854775807 := hcm3
    have R3 := Lib.hid hr3
    clear hr3 hcm3
    have C3 := Lib.hid (bel2 C2.out hb (Nat.le_refl _))
    have C4 := Lib.hid (bel2 D2.out hb (Nat.le_refl _))
    clear hb
    have D3 := Lib.hid (Below.refl w3.heap.size w3)
    go_wp2
    go_ret
    exact ⟨rfl, C3.out⟩
  have h2 := Decidable.not_not.1 h2
  subst h1
  subst h2
  by_cases h3 : (200 : Int) < (LA.length : Int) + (LB.length : Int)
  · have S := S
    go_enter Tryd.func7, Tryd.ntmps7
    have B0 := Lib.hid (Below.refl w.heap.size w)
    go_wp2_with fail
    refine (S.out _ (HE.out.below B0.out HE.out.pos)).mono ?_
    rintro e' w1 ⟨rfl, hb⟩
    have C1 := Lib.hid (bel2 B0.out hb (Nat.le_refl _))
    clear hb
    go_wp2_with fail
    refine (P1.out _ (HE.out.below C1.out HE.out.pos)).mono ?_
    rintro e' w2 ⟨⟨A2, n2, c2, rfl, hr2⟩, hb⟩
    have hn2 := (rdStzs_at hr2).1
    subst hn2
    have hcm2 := (rdStzs_at hr2).2.2.1
    have hcm2' : c2 ≤ 9223372036854775807 := hcm2
    have R2 := Lib.hid hr2
    clear hr2 hcm2
    have C2 := Lib.hid (bel2 C1.out hb (Nat.le_refl _))
    clear hb
    have D2 := Lib.hid (Below.refl w2.heap.size w2)
    go_wp2_with fail
    refine (P2.out _ (HE.out.below C2.out HE.out.pos)).mono ?_
    rintro e' w3 ⟨⟨A3, n3, c3, rfl, hr3⟩, hb⟩
    have hn3 := (rdStzs_at hr3).1
    subst hn3
    have hcm3 := (rdStzs_at hr3).2.2.1
    have hcm3' : c3 ≤ 9223372036854775807 := hcm3
    have R3 := Lib.hid hr3
    clear hr3 hcm3
    have C3 := Lib.hid (bel2 C2.out hb (Nat.le_refl _))
    have C4 := Lib.hid (bel2 D2.out hb (Nat.le_refl _))
    clear hb
    have D3 := Lib.hid (Below.refl w3.heap.size w3)
    go_wp2
    go_ret
    exact ⟨rfl, C3.out⟩
  have HLL := Lib.hid (show LA.length + LB.length ≤ 200 by omega)
  have PK := Lib.hid (fun w => pick5_any n HN.out w)
  have JN := Lib.hid (fun (j : Nat) (hj : j ≤ 8) => (show B (ByteArray.extract { data := #[10, 10, 10, 10, 10, 10, 10, 10] } 0 j) = List.replicate j 10 ∧ (ByteArray.extract { data := #[10, 10, 10, 10, 10, 10, 10, 10] } 0 j).size ≤ 8 from by
    refine ⟨?_, ?_⟩
    · obtain rfl | rfl | rfl | rfl | rfl | rfl | rfl | rfl | rfl : j = 0 ∨ j = 1 ∨ j = 2 ∨ j = 3 ∨ j = 4 ∨ j = 5 ∨ j = 6 ∨ j = 7 ∨ j = 8 := by omega
      all_goals rfl
    · rw [ByteArray.size_extract]; show min j 8 - 0 ≤ 8; omega))
  go_enter Tryd.func7, Tryd.ntmps7
  have B0 := Lib.hid (Below.refl w.heap.size w)
  go_wp2_with fail
  refine (S.out _ (HE.out.below B0.out HE.out.pos)).mono ?_
  rintro e' w1 ⟨rfl, hb⟩
  have C1 := Lib.hid (bel2 B0.out hb (Nat.le_refl _))
  clear hb
  go_wp2_with fail
  refine (P1.out _ (HE.out.below C1.out HE.out.pos)).mono ?_
  rintro e' w2 ⟨⟨A2, n2, c2, rfl, hr2⟩, hb⟩
  have hn2 := (rdStzs_at hr2).1
  subst hn2
  have hcm2 := (rdStzs_at hr2).2.2.1
  have hcm2' : c2 ≤ 9223372036854775807 := hcm2
  have R2 := Lib.hid hr2
  clear hr2 hcm2
  have C2 := Lib.hid (bel2 C1.out hb (Nat.le_refl _))
  clear hb
  have D2 := Lib.hid (Below.refl w2.heap.size w2)
  go_wp2_with fail
  refine (P2.out _ (HE.out.below C2.out HE.out.pos)).mono ?_
  rintro e' w3 ⟨⟨A3, n3, c3, rfl, hr3⟩, hb⟩
  have hn3 := (rdStzs_at hr3).1
  subst hn3
  have hcm3 := (rdStzs_at hr3).2.2.1
  have hcm3' : c3 ≤ 9223372036854775807 := hcm3
  have R3 := Lib.hid hr3
  clear hr3 hcm3
  have C3 := Lib.hid (bel2 C2.out hb (Nat.le_refl _))
  have C4 := Lib.hid (bel2 D2.out hb (Nat.le_refl _))
  clear hb
  have D3 := Lib.hid (Below.refl w3.heap.size w3)
  go_wp2_with fail
  refine (PK.out _).mono ?_
  rintro e' w' ⟨⟨j, hj, rfl⟩, rfl⟩
  have hes := JN.out j hj
  have hB5 : B (ByteArray.extract { data := #[10, 10, 10, 10, 10, 10, 10, 10] } 0 j ++ s ++ { data := #[10, 10] } ++ ByteArray.extract { data := #[10, 10, 10, 10, 10, 10, 10, 10] } 0 j ++ t ++ ByteArray.extract { data := #[10, 10, 10, 10, 10, 10, 10, 10] } 0 j) = List.replicate j 10 ++ B s ++ [10, 10] ++ List.replicate j 10 ++ B t ++ List.replicate j 10 := by
    rw [B_append, B_append, B_append, B_append, B_append, hes.1]; rfl
  have ST := st_joins j HE1.out HE2.out (by have := HLL.out; rwa [HLA.out, HLB.out]) (by rw [B_len, B_len]; omega)
  rw [← hB5] at ST
  obtain ⟨LC, hLC⟩ : ∃ LC, LA ++ LB = LC := ⟨_, rfl⟩
  have HLC := Lib.hid hLC
  have HCL := Lib.hid (show LC.length ≤ 100000 by rw [← hLC, List.length_append]; have := HLL.out; omega)
  have P3 := Lib.hid (fun w E => parse5_is ST.1 (stN_zero ST.1) (show _ = LC by rw [ST.2, HLA.out, HLB.out, hLC]) w E)
  clear hLC
  have i1 : (0 : Int) ≤ (j : Int) := by omega
  have i2 : (j : Int) ≤ 8 := by omega
  clear ST hB5 hes hj
  go_wp2_with fail
  refine (P3.out _ (HE.out.below C3.out HE.out.pos)).mono ?_
  rintro e' w4 ⟨⟨A4, c4, rfl, hr4⟩, hb⟩
  have R4 := Lib.hid hr4
  clear hr4
  have C5 := Lib.hid (bel2 C3.out hb (Nat.le_refl _))
  have C6 := Lib.hid (bel2 C4.out hb (Nat.le_refl _))
  have C7 := Lib.hid (bel2 D3.out hb (Nat.le_refl _))
  clear hb
  have D4 := Lib.hid (Below.refl w4.heap.size w4)
  go_wp2_with fail
  refine (as5_any A4 LC.length c4 LC _ (rdStzs_good.up (rdStzs_good.below R4.out D4.out) D4.out.size) HCL.out).mono ?_
  rintro e' w5 ⟨⟨A5, n5, c5, rfl, hr5⟩, hb⟩
  have hn5 := (rdStzs_at hr5).1
  subst hn5
  have R5 := Lib.hid hr5
  clear hr5
  have C8 := Lib.hid (bel2 C5.out hb (Nat.le_refl _))
  have C9 := Lib.hid (bel2 C6.out hb (Nat.le_refl _))
  have C10 := Lib.hid (bel2 C7.out hb (Nat.le_refl _))
  have C11 := Lib.hid (bel2 D4.out hb (Nat.le_refl _))
  clear hb
  have RA := Lib.hid (rdStzs_good.up (rdStzs_good.below R2.out C9.out) C9.out.size)
  have RB := Lib.hid (rdStzs_good.up (rdStzs_good.below R3.out C10.out) C10.out.size)
  have hbv : Below w5.heap.size w5 (w5.alloc (.cells #[] 38)) := (Below.refl _ _).alloc (Nat.le_refl _) _
  have zA : (w5.alloc (.cells #[] 38)).heap.size = w5.heap.size + 1 := by rw [World.size_alloc]
  have G0 := Lib.hid (Grow.empty (E := rdFds) (sz := 1) (fun _ => True) (W := w5.alloc (.cells #[] 38)) (base := w5.heap.size) (e := 38) (heap_alloc_new w5 _) (Nat.le_refl _))
  have KA := Lib.hid (as5_sep (lt_ w5.heap.size) A2 _ c2 LA (w5.alloc (.cells #[] 38)) (rdStzs_good.below RA.out hbv) (fun b hb => by unfold lt_ at hb; omega) (by have := HLL.out; omega))
  have BV := Lib.hid hbv
  have ZA := Lib.hid zA
  have hp1 : ([] : List (List Fd)).length + LA.length ≤ maxLen := by have := HLL.out; simp only [List.length_nil]; unfold maxLen; omega
  have hq1 : (([] : List (List Fd)).length + LA.length) * 24 ≤ 140737488355328 := by have := HLL.out; simp only [List.length_nil]; omega
  have hp2 : LA.length + LB.length ≤ maxLen := by have := HLL.out; unfold maxLen; omega
  have hq2 : (LA.length + LB.length) * 24 ≤ 140737488355328 := by have := HLL.out; omega
  clear hbv zA
  go_wp2_with fail
  refine KA.out.mono ?_
  rintro e' w6 ⟨⟨A6, n6, c6, rfl, hr6⟩, hb6⟩
  have hn6 := (rdStzs_at hr6).1
  subst hn6
  have hS6 : ∀ b, (b < w6.heap.size ∧ ((w5.alloc (.cells #[] 38)).heap.size ≤ b ∨ lt_ w5.heap.size b)) → True ∧ b < w6.heap.size ∧ (Value.slice (some ⟨w5.heap.size, 0, none⟩) 0 0).ownBlock ≠ some b := fun b hb => ⟨trivial, hb.1, fun e => by have h1 := ZA.out; rw [own_some] at e; injection e with e; unfold lt_ at hb; omega⟩
  have hz6 : w5.heap.size ≤ w6.heap.size := Nat.le_trans BV.out.size hb6.size
  have hG6 := G0.out.below rdFds_good hb6
  have B6 := Lib.hid (BV.out.trans (hb6.mono BV.out.size))
  clear hb6
  go_wp2_with (at_builtin; refine Go.BigFrame.wpList_want (by rfl) fun K hK => ?_; refine wp_growN w6 _ _ 27 27 rfl rdFds_good (by decide) (fun _ => True) w5.heap.size 38 38 i0 (.slice none 0 0) 24 Tryd.underlying27 Tryd.underlying27 hi hz0 hz1 hz2 rfl _ _ rfl hG6 LA _ A6 LA.length c6 rfl hr6 hS6 hp1 hq1 hz6 ?_)
  intro v7 w7 g7 y7 _
  refine hK _ _ ?_
  clear hK K
  have B7 := Lib.hid (grow_below hG6 y7 B6.out (Nat.le_refl _) hz6)
  obtain ⟨A7, c7, hv7, _, _⟩ := g7.own
  try rw [List.nil_append] at hv7
  subst hv7
  have G7 := Lib.hid (show Grow rdFds 1 (fun _ => True) w7 w5.heap.size 38 (.slice A7 LA.length c7) LA from g7)
  have KB := Lib.hid (as5_sep (lt_ w5.heap.size) A3 _ c3 LB w7 (rdStzs_good.below RB.out B7.out) (fun b hb => Nat.lt_of_lt_of_le hb B7.out.size) (by have := HLL.out; omega))
  clear hG6 hS6 hz6 hr6 y7 g7 hp1 hq1
  go_wp2_with fail
  refine KB.out.mono ?_
  rintro e' w8 ⟨⟨A8, n8, c8, rfl, hr8⟩, hb8⟩
  have hn8 := (rdStzs_at hr8).1
  subst hn8
  have hS8 : ∀ b, (b < w8.heap.size ∧ (w7.heap.size ≤ b ∨ lt_ w5.heap.size b)) → True ∧ b < w8.heap.size ∧ (Value.slice A7 LA.length c7).ownBlock ≠ some b := fun b hb => ⟨trivial, hb.1, fun e => by have h1 := G7.out.lt b e; unfold lt_ at hb; omega⟩
  have hG8 := G7.out.below rdFds_good hb8
  have B8 := Lib.hid (B7.out.trans (hb8.mono B7.out.size))
  have hz8 : w5.heap.size ≤ w8.heap.size := B8.out.size
  clear hb8
  go_wp2_with (at_builtin; refine Go.BigFrame.wpList_want (by rfl) fun K hK => ?_; refine wp_growN w8 _ _ 27 27 rfl rdFds_good (by decide) (fun _ => True) w5.heap.size 38 38 i0 (.slice none 0 0) 24 Tryd.underlying27 Tryd.underlying27 hi hz0 hz1 hz2 rfl (.slice A7 LA.length c7) LA rfl hG8 LB _ A8 LB.length c8 rfl hr8 hS8 hp2 hq2 hz8 ?_)
  intro v9 w9 g9 y9 _
  refine hK _ _ ?_
  clear hK K
  rw [HLC.out] at g9
  have B9 := Lib.hid (grow_below hG8 y9 B8.out (Nat.le_refl _) hz8)
  obtain ⟨A9, c9, hv9, _, _⟩ := g9.own
  subst hv9
  have KS := Lib.hid (same_self5 A5 A9 LC.length c5 LC.length c9 LC w9 (rdStzs_good.up (rdStzs_good.below R5.out B9.out) B9.out.size) (g9.read rdFds_good))
  clear hG8 hS8 hz8 hr8 y9 g9 hp2 hq2
  go_wp2_with fail
  refine KS.out.mono ?_
  rintro e' w10 ⟨rfl, hdr⟩
  have FI := Lib.hid ((C8.out.trans (B9.out.mono C8.out.size)).trans ((hdr.below w9.heap.size).mono (Nat.le_trans C8.out.size B9.out.size)))
  clear hdr
  go_wp2
  go_ret
  exact ⟨rfl, FI.out⟩

theorem contract (H : Type) (enc : TypeId × Value → H) (W : World) (base : Nat) (args : Array Value) (ds gs : List (DataW H)) (before : List MemPlace)
    (hval : ∀ (j : Nat) t v, Tryd.f7.params[j]? = some t → args[j]? = some v → Value.okWide Tryd.prog W .any base t v)
    (hW : DataW.Whole enc Tryd.prog Tryd.f7.params.toList Rows.stanzaJoinsSpec.vars false W args.toList ds gs before) (E : Env5 W) :
    Calls Tryd.prog 7 args W fun e W' => ∃ v, e = .returned v ∧ Rows.stanzaJoinsSpec.post enc Tryd.prog Tryd.f7 false true false false W args v W' := by
  have hW' := hW
  obtain ⟨p, q, hA0, _, _, _, _⟩ := hW
  have hA : DataW.TrodAll enc Tryd.prog W 0 (fun _ => true) true Tryd.f7.params.toList args.toList ds p := hA0
  rw [Tryd.params7] at hA hval
  obtain ⟨v0, vs0, d0, ds0, p0, q0, hargs, rfl, rfl, h0, r0⟩ := trodAll_cons hA
  obtain ⟨v1, vs1, d1, ds1, p1, q1, rfl, rfl, rfl, h1, r1⟩ := trodAll_cons r0
  obtain ⟨v2, vs2, d2, ds2, p2, q2, rfl, rfl, rfl, h2, r2⟩ := trodAll_cons r1
  obtain ⟨rfl, rfl, rfl⟩ := trodAll_nil r2
  obtain rfl : args = #[v0, v1, v2] := by cases args; simp_all
  obtain ⟨s0, rfl, w0⟩ := open_str_arg (hval 0 9 v0 rfl rfl) h0
  obtain ⟨s1, rfl, w1⟩ := open_str_arg (hval 1 9 v1 rfl rfl) h1
  obtain ⟨a2, rfl, _, _, w2⟩ := open_int Tryd.underlying3 (hval 2 3 v2 rfl rfl) h2
  refine (walk s0 s1 a2 W w0 w1 w2 E).mono fun e W' ⟨he, hb⟩ => ?_
  subst he
  refine ⟨_, rfl, law_post hW' rfl rfl rfl rfl rfl Tryd.underlying4 laid_out ?_ hb⟩
  rw [Tryd.params7]
  intro t ht
  simp at ht
  rcases ht with rfl | rfl | rfl <;> exact ⟨by kernel_rfl, of_decide_eq_true (by kernel_rfl)⟩

theorem reads (os : Os) {H : Type} (enc : TypeId × Value → H) : ∃ x, DataW.whole enc Tryd.prog ((World.laidAll Tryd.prog os laidL).forCall (fun _ _ => 0) ⟨#[], #[.string ⟨#[]⟩, .string ⟨#[]⟩, .int .i64 0], []⟩).memory Tryd.f7.params.toList Rows.stanzaJoinsSpec.vars false ((#[.string ⟨#[]⟩, .string ⟨#[]⟩, .int .i64 0] : Array Value)).toList 8 = some x :=
  Option.isSome_iff_exists.1 (by kernel_rfl)
theorem readsSized (os : Os) {H : Type} (enc : TypeId × Value → H) : (OpenSpec.ofChange Rows.stanzaJoinsSpec).bare.sizedB enc Tryd.prog Tryd.f7 false ((World.laidAll Tryd.prog os laidL).forCall (fun _ _ => 0) ⟨#[], #[.string ⟨#[]⟩, .string ⟨#[]⟩, .int .i64 0], []⟩).memory #[.string ⟨#[]⟩, .string ⟨#[]⟩, .int .i64 0] 8 = true := by kernel_rfl
theorem okWit (os : Os) : Input.okWideB Tryd.prog ((World.laidAll Tryd.prog os laidL).forCall (fun _ _ => 0) ⟨#[], #[.string ⟨#[]⟩, .string ⟨#[]⟩, .int .i64 0], []⟩) 7 ⟨#[], #[.string ⟨#[]⟩, .string ⟨#[]⟩, .int .i64 0], []⟩ = true := by kernel_rfl
theorem lifted (os : Os) (started : os.Started) (H : Type) (enc : TypeId × Value → H) (F : Stop.Interp) :
    ReturnsInHanded {} Tryd.checked os 7 .any ((OpenSpec.ofChange Rows.stanzaJoinsSpec).preRow enc Tryd.prog Tryd.f7 Rows.stanzaJoinsRow.domain false Rows.stanzaJoinsRow.laid) (((OpenSpec.ofChange Rows.stanzaJoinsSpec).at F).post enc Tryd.prog Tryd.f7 false true false false) := by
  obtain ⟨x, hx⟩ := reads os enc
  have hz := readsSized os enc
  refine returnsInHanded_of_row (C := Tryd.checked) (s := OpenSpec.ofChange Rows.stanzaJoinsSpec) own' started (by kernel_rfl) Tryd.func7
    ⟨World.laidAll Tryd.prog os laidL, fun _ _ => 0, ⟨#[], #[.string ⟨#[]⟩, .string ⟨#[]⟩, .int .i64 0], []⟩, door_os os, door_shaped os _, (Input.okWide_of_okWideB (base := 0) (okWit os)).1, (Input.okWide_of_okWideB (okWit os)).2,
      OpenSpec.preRow_of_cond 8 hx rfl (fun k hk => by cases hk) hz (door_met os _), by
        simp only [Assume.holds]
        exact ⟨by simp, by simp, fun _ => Modest.zero, by simp, by simp⟩⟩ ?_
  intro W base args ds gs before hval hW _ _ _ hL hsh _
  exact contract H enc W base args ds gs before hval hW (env5_of hL hsh)

theorem said : Rows.StanzaJoinsSaid :=
  OpenClaim.holds_of_cond 7 Tryd.f7 rfl rfl rfl rfl rfl rfl rfl ⟨rfl, rfl, rfl, rfl, rfl⟩ rfl rfl rfl rfl rfl (by kernel_rfl) Tryd.func7 (by kernel_rfl)
    (of_decide_eq_true (by kernel_rfl)) (by unfold Func.isWrapper; first | (rw [if_pos (by decide +kernel)]; kernel_rfl) | (rw [if_neg (by decide +kernel)]; exact ⟨rfl, rfl⟩))
    (fun os started H enc _ F => by rw [OpenClaim.pre_eq_preRow]; exact lifted os started H enc F)

theorem proved : Rows.StanzaJoinsCardSaid :=
  Claim7.holds_tied_plain_at .later [] _ _ _ _ said (fun _ h => by cases h) (by kernel_rfl) (fun _ h => by cases h) stanzaJoins_row_tie rfl ⟨rfl, rfl⟩ (by kernel_rfl) rfl
    (fun f fn hf hfn => by
      obtain rfl : f = 7 := Option.some.inj ((show Tryd.prog.funcNamed "keelson/keelsonlaw5.StanzaJoins" = some 7 by kernel_rfl).symm.trans hf) |>.symm
      obtain rfl : fn = Tryd.f7 := (Option.some.inj (Tryd.func7.symm.trans hfn)).symm
      exact ⟨by kernel_rfl, fun j t ht => by
        rw [Tryd.params7] at ht
        have hm : t ∈ [9, 3] := by have := Array.mem_of_getElem? ht; simp at this; simp [this]
        have hall : ([9, 3].all fun u => !Tryd.prog.wantsStandIn u) = true := by kernel_rfl
        exact (show Tryd.prog.wantsStandIn t = false by simpa using List.all_eq_true.1 hall t hm)⟩)
    (by kernel_rfl)
#print axioms proved
end Go.Proofs.YtjfenheplkoajaaDoor.stanzaJoins
