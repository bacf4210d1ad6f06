/- The contracts of the document own Compare and Best: as those of package sum; memory before is as it was. -/
import Derived.Test.YtobamjjonkhcfaaBest
import Derived.BigQuiet
import Derived.Deep.QuietTactic
namespace Go.Proofs.Ytobamjjonkhcfaa
open Go.RowKit

theorem refCompare_five (a0 a1 a2 a3 a4 b0 b1 b2 b3 b4 : Int) (w : World) :
    Calls Try.prog 21 #[.agg #[.int .i64 a0, .int .i64 a1, .int .i64 a2, .int .i64 a3, .int .i64 a4], .agg #[.int .i64 b0, .int .i64 b1, .int .i64 b2, .int .i64 b3, .int .i64 b4]] w fun e w' => e = .returned (.int .i64 (cmpL [a0, a1, a2, a3, a4] [b0, b1, b2, b3, b4])) ∧ Below w.heap.size w w' := by
  obtain ⟨la, hla⟩ : ∃ la, la = [a0, a1, a2, a3, a4] := ⟨_, rfl⟩
  obtain ⟨lb, hlb⟩ : ∃ lb, lb = [b0, b1, b2, b3, b4] := ⟨_, rfl⟩
  have hix : ∀ k : Nat, k < 5 → ∃ x y, ((w.alloc (.cells #[.int .i64 a0, .int .i64 a1, .int .i64 a2, .int .i64 a3, .int .i64 a4] 32)).alloc (.cells #[.int .i64 b0, .int .i64 b1, .int .i64 b2, .int .i64 b3, .int .i64 b4] 32)).cell? ⟨w.heap.size, k, none⟩ = some (.int .i64 x) ∧
      ((w.alloc (.cells #[.int .i64 a0, .int .i64 a1, .int .i64 a2, .int .i64 a3, .int .i64 a4] 32)).alloc (.cells #[.int .i64 b0, .int .i64 b1, .int .i64 b2, .int .i64 b3, .int .i64 b4] 32)).cell? ⟨w.heap.size + 1, k, none⟩ = some (.int .i64 y) ∧
      cmpL (la.drop k) (lb.drop k) = if x < y then -1 else if y < x then 1 else cmpL (la.drop (k + 1)) (lb.drop (k + 1)) := by
    intro k hk
    rcases (by omega : k = 0 ∨ k = 1 ∨ k = 2 ∨ k = 3 ∨ k = 4) with rfl | rfl | rfl | rfl | rfl
    · exact ⟨a0, b0, by simp [go_sem], by simp [go_sem], by rw [hla, hlb]; rfl⟩
    · exact ⟨a1, b1, by simp [go_sem], by simp [go_sem], by rw [hla, hlb]; rfl⟩
    · exact ⟨a2, b2, by simp [go_sem], by simp [go_sem], by rw [hla, hlb]; rfl⟩
    · exact ⟨a3, b3, by simp [go_sem], by simp [go_sem], by rw [hla, hlb]; rfl⟩
    · exact ⟨a4, b4, by simp [go_sem], by simp [go_sem], by rw [hla, hlb]; rfl⟩
  have h5 : cmpL (la.drop 5) (lb.drop 5) = 0 := by rw [hla, hlb]; rfl
  rw [← hla, ← hlb]
  have HX := Lib.hid hix
  have H5 := Lib.hid h5
  have bW := Lib.hid (show Below w.heap.size w ((w.alloc (.cells #[.int .i64 a0, .int .i64 a1, .int .i64 a2, .int .i64 a3, .int .i64 a4] 32)).alloc (.cells #[.int .i64 b0, .int .i64 b1, .int .i64 b2, .int .i64 b3, .int .i64 b4] 32)) from ((Below.refl _ w).alloc (Nat.le_refl _) _).alloc (by simp) _)
  clear hix h5 hla hlb
  go_enter Try.func21, Try.ntmps21
  go_wp2
  obtain ⟨W, hW⟩ : ∃ W, W = ((w.alloc (.cells #[.int .i64 a0, .int .i64 a1, .int .i64 a2, .int .i64 a3, .int .i64 a4] 32)).alloc (.cells #[.int .i64 b0, .int .i64 b1, .int .i64 b2, .int .i64 b3, .int .i64 b4] 32)) := ⟨_, rfl⟩
  have HX' : Hid (∀ k : Nat, k < 5 → ∃ x y, W.cell? ⟨w.heap.size, k, none⟩ = some (.int .i64 x) ∧ W.cell? ⟨w.heap.size + 1, k, none⟩ = some (.int .i64 y) ∧ cmpL (la.drop k) (lb.drop k) = if x < y then -1 else if y < x then 1 else cmpL (la.drop (k + 1)) (lb.drop (k + 1))) := by rw [hW]; exact HX
  have bW' : Hid (Below w.heap.size w W) := by rw [hW]; exact bW
  rw [← hW]
  clear hW HX bW
  go_loopw [5] (fun i wr => ∃ k nd : Nat, k ≤ 5 ∧ i = .int .i64 k ∧ wr = W.drewN nd ∧ cmpL la lb = cmpL (la.drop k) (lb.drop k)) (fun i _ => 5 - (intOf i).toNat)
  case atStart => exact ⟨0, 0, by omega, rfl, rfl, rfl⟩
  case round =>
    obtain ⟨k, nd, hk, rfl, rfl, hc⟩ := hrel
    have HC := Lib.hid hc
    clear hc
    by_cases hlt : k < 5
    · obtain ⟨x, y, hx, hy, hd⟩ := HX'.out k hlt
      have HD := Lib.hid hd
      have hki : (k : Int) < 5 := by omega
      clear hd
      by_cases h1 : x < y
      · go_wp2_with fail
        go_quiet (fail)
        go_wp2
        go_ret
        exact ⟨by rw [HC.out, HD.out, if_pos h1]; rfl, bel_drewN (bel_drewN bW'.out _) _⟩
      · by_cases h2 : y < x
        · go_wp2_with fail
          go_quiet (fail)
          go_wp2
          go_quiet (fail)
          go_wp2
          go_ret
          exact ⟨by rw [HC.out, HD.out, if_neg (by omega), if_pos h2]; rfl, bel_drewN (bel_drewN (bel_drewN bW'.out _) _) _⟩
        · go_wp2_with fail
          go_quiet (fail)
          go_wp2
          go_quiet (fail)
          go_wp2
          go_roundw
          case rel => exact ⟨k + 1, _, by omega, by go_num, rfl, by rw [HC.out, HD.out, if_neg (by omega), if_neg (by omega)]⟩
          case measure => simp [intOf]; omega
    · have hk5 : k = 5 := by omega
      go_wp2
      go_ret
      exact ⟨by rw [HC.out, hk5, H5.out]; rfl, bel_drewN bW'.out _⟩
set_option maxHeartbeats 1000000 in
theorem refBest_any (A : Option Addr) (n c : Nat) (cl : List (List Int)) (w : World) (hr : ReadsC w w.heap.size A n cl) (hn : n ≤ 65536) :
    Calls Try.prog 23 #[.slice A n c] w fun e w' => e = .returned (.int .i64 (bestN cl n)) ∧ Below w.heap.size w w' := by
  have hlen := Lib.hid hr.1
  go_enter Try.func23, Try.ntmps23
  go_wp2
  go_loopw [3, 4] (fun b i wr => ∃ k : Nat, k ≤ n ∧ i = .int .i64 k ∧ b = .int .i64 (bestN cl k) ∧ Below w.heap.size w wr) (fun _ i _ => n - (intOf i).toNat)
  case atStart => exact ⟨0, Nat.zero_le _, rfl, rfl, Below.refl _ _⟩
  case round =>
    obtain ⟨k, hk, rfl, rfl, hbel⟩ := hrel
    have hbn := bestN_lt cl k
    by_cases hlt : k < n
    · obtain ⟨ad, a0, a1, a2, a3, a4, rfl, had, he, h0, h1, h2, h3, h4⟩ := (hr.below hbel).2 k (by rw [hlen.out]; exact hlt)
      have HE := Lib.hid he
      have HB := Lib.hid (show bestN cl (k + 1) = bestStep cl (bestN cl k) k from rfl)
      clear he
      generalize bestN cl k = b at *
      obtain ⟨hb1, hb2⟩ := hbn
      by_cases hneg : b < 0
      · have hd : decide (b < 0) = true := by simpa using hneg
        have HS := Lib.hid (show bestStep cl b k = k by unfold bestStep; rw [if_pos (.inl hneg)])
        go_wp2_with fail
        go_quiet (fail)
        have bel2 := bel_drewN hbel nq
        clear hbel
        go_wp2
        go_roundw
        case rel => exact ⟨k + 1, by omega, by go_num, by rw [HB.out, HS.out], bel2⟩
        case measure => simp [intOf]; omega
      · have hd : decide (b < 0) = false := by simpa using hneg
        obtain ⟨q, rfl⟩ : ∃ q : Nat, b = q := ⟨b.toNat, by omega⟩
        obtain ⟨ad', c0, c1, c2, c3, c4, e', had', he', g0, g1, g2, g3, g4⟩ := (hr.below hbel).2 q (by rw [hlen.out]; omega)
        injection e' with e'
        subst e'
        have HE' := Lib.hid he'
        clear he'
        have hqi : (q : Int) < (n : Int) := by omega
        have hki : (k : Int) < (n : Int) := by omega
        go_wp2_with fail
        have bel2 := hbel.drew
        have hkl : k < cl.length := by rw [hlen.out]; exact hlt
        have hql : q < cl.length := by rw [hlen.out]; omega
        obtain ⟨r, hcr⟩ : ∃ r, r = cmpL [a0, a1, a2, a3, a4] [c0, c1, c2, c3, c4] := ⟨_, rfl⟩
        have HS := Lib.hid (show bestStep cl (q : Int) k = if r < 0 then (k : Int) else (q : Int) by
          unfold bestStep
          have x1 : cl.getD k [] = [a0, a1, a2, a3, a4] := by rw [List.getD_eq_getElem?_getD, List.getElem?_eq_getElem hkl]; exact HE.out
          have x2 : cl.getD ((q : Int).toNat) [] = [c0, c1, c2, c3, c4] := by rw [Int.toNat_natCast, List.getD_eq_getElem?_getD, List.getElem?_eq_getElem hql]; exact HE'.out
          rw [x1, x2, ← hcr]
          by_cases hx : r < 0
          · rw [if_pos (.inr hx), if_pos hx]
          · rw [if_neg (by omega), if_neg hx])
        have CC : ∀ W, Calls Try.prog 21 #[.agg #[.int .i64 a0, .int .i64 a1, .int .i64 a2, .int .i64 a3, .int .i64 a4], .agg #[.int .i64 c0, .int .i64 c1, .int .i64 c2, .int .i64 c3, .int .i64 c4]] W fun e w' => e = .returned (.int .i64 r) ∧ Below W.heap.size W w' := by
          intro W; rw [hcr]; exact refCompare_five _ _ _ _ _ _ _ _ _ _ W
        have HC := Lib.hid CC
        clear CC hcr
        go_still_tail 11, (by kernel_rfl)
        clear g0 g1 g2 g3 g4 h0 h1 h2 h3 h4
        change wpList _ _ _ _ _ wr.drew
        generalize wr.drew = W2 at *
        by_cases hx : r < 0
        · go_wp2_with (go_at_call 21; refine (HC.out _).mono ?_; rintro e w3 ⟨rfl, hb3⟩)
          go_roundw
          case rel => exact ⟨k + 1, by omega, by go_num, by rw [HB.out, HS.out, if_pos hx], bel2.trans (hb3.mono bel2.size)⟩
          case measure => simp [intOf]; omega
        · go_wp2_with (go_at_call 21; refine (HC.out _).mono ?_; rintro e w3 ⟨rfl, hb3⟩)
          go_roundw
          case rel => exact ⟨k + 1, by omega, by go_num, by rw [HB.out, HS.out, if_neg (by omega)], bel2.trans (hb3.mono bel2.size)⟩
          case measure => simp [intOf]; omega
    · have hkn : k = n := by omega
      subst hkn
      go_wp2
      go_ret
      exact ⟨rfl, hbel⟩

end Go.Proofs.Ytobamjjonkhcfaa
