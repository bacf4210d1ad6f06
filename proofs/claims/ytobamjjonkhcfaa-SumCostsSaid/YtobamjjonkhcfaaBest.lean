/- The contract of sum.Best: the place of the least cost, the first one of those; memory before is as it was. -/
import Derived.Test.YtobamjjonkhcfaaWords
import Derived.Test.YtobamjjonkhcfaaCost
import Derived.StillTailTactics
import Derived.BigQuiet
import Derived.Deep.QuietTactic
namespace Go.Proofs.Ytobamjjonkhcfaa
open Go.RowKit

def costVals (c : List Int) : List Value := ints c
def bestStep (cl : List (List Int)) (b : Int) (i : Nat) : Int := if b < 0 ∨ cmpL (cl.getD i []) (cl.getD b.toNat []) < 0 then i else b
def bestN (cl : List (List Int)) : Nat → Int
  | 0 => -1
  | k + 1 => bestStep cl (bestN cl k) k
theorem bestN_lt (cl : List (List Int)) : ∀ k, -1 ≤ bestN cl k ∧ bestN cl k < (k : Int)
  | 0 => by simp [bestN]
  | k + 1 => by have := bestN_lt cl k; simp only [bestN, bestStep]; split <;> omega

/-- A slice of costs that reads as a list of costs, each of five numbers. -/
def ReadsC (w : World) (B : Nat) (A : Option Addr) (n : Nat) (cl : List (List Int)) : Prop :=
  cl.length = n ∧ ∀ k (hk : k < cl.length), ∃ ad a0 a1 a2 a3 a4, A = some ad ∧ ad.block < B ∧ cl[k] = [a0, a1, a2, a3, a4] ∧ w.cell? (ad.add (k * 5)) = some (.int .i64 a0) ∧ w.cell? ⟨(ad.add (k * 5)).block, (ad.add (k * 5)).off + 1, none⟩ = some (.int .i64 a1) ∧
    w.cell? ⟨(ad.add (k * 5)).block, (ad.add (k * 5)).off + 2, none⟩ = some (.int .i64 a2) ∧ w.cell? ⟨(ad.add (k * 5)).block, (ad.add (k * 5)).off + 3, none⟩ = some (.int .i64 a3) ∧ w.cell? ⟨(ad.add (k * 5)).block, (ad.add (k * 5)).off + 4, none⟩ = some (.int .i64 a4)
theorem ReadsC.below {w w' : World} {B n : Nat} {A : Option Addr} {cl : List (List Int)} (h : ReadsC w B A n cl) (hb : Below B w w') : ReadsC w' B A n cl := by
  refine ⟨h.1, fun k hk => ?_⟩
  obtain ⟨ad, a0, a1, a2, a3, a4, hA, hlt, he, h0, h1, h2, h3, h4⟩ := h.2 k hk
  have hc : ∀ i, w'.cell? ⟨(ad.add (k * 5)).block, (ad.add (k * 5)).off + i, none⟩ = w.cell? ⟨(ad.add (k * 5)).block, (ad.add (k * 5)).off + i, none⟩ := fun i => hb.cell (by show (ad.add (k * 5)).block < B; rw [block_of_add]; exact hlt)
  exact ⟨ad, a0, a1, a2, a3, a4, hA, hlt, he, by rw [hb.cell (by rw [block_of_add]; exact hlt)]; exact h0, by rw [hc]; exact h1, by rw [hc]; exact h2, by rw [hc]; exact h3, by rw [hc]; exact h4⟩

theorem bel_drewN {B : Nat} {a w : World} (h : Below B a w) (n : Nat) : Below B a (w.drewN n) := ⟨h.os, h.tape, h.output, h.size, h.block⟩
set_option maxHeartbeats 1000000 in
theorem Best_any (A : Option Addr) (n c : Nat) (cl : List (List Int)) (w : World) (hr : ReadsC w w.heap.size A n cl) (hn : n ≤ 65536) :
    Calls Try.prog 22 #[.slice A n c] w fun e w' => e = .returned (.int .i64 (bestN cl n)) ∧ Below w.heap.size w w' := by
  have hlen := Lib.hid hr.1
  go_enter Try.func22, Try.ntmps22
  go_wp2
  go_loopw [3, 8] (fun b i wr => ∃ k : Nat, k ≤ n ∧ i = .int .i64 k ∧ b = .int .i64 (bestN cl k) ∧ Below w.heap.size w wr) (fun _ i _ => n - (intOf i).toNat)
  case atStart => exact ⟨0, Nat.zero_le _, rfl, rfl, Below.refl _ _⟩
  case round =>
    obtain ⟨k, hk, rfl, rfl, hbel⟩ := hrel
    have hbn := bestN_lt cl k
    by_cases hlt : k < n
    · obtain ⟨ad, a0, a1, a2, a3, a4, rfl, had, he, h0, h1, h2, h3, h4⟩ := (hr.below hbel).2 k (by rw [hlen.out]; exact hlt)
      have HE := Lib.hid he
      have HB := Lib.hid (show bestN cl (k + 1) = bestStep cl (bestN cl k) k from rfl)
      clear he
      generalize bestN cl k = b at *
      obtain ⟨hb1, hb2⟩ := hbn
      by_cases hneg : b < 0
      · have hd : decide (b < 0) = true := by simpa using hneg
        have HS := Lib.hid (show bestStep cl b k = k by unfold bestStep; rw [if_pos (.inl hneg)])
        have bel1 := hbel.alloc hbel.size (.cells #[.int .i64 a0, .int .i64 a1, .int .i64 a2, .int .i64 a3, .int .i64 a4] 32)
        go_wp2_with fail
        go_quiet (fail)
        have bel2 := bel_drewN bel1 nq
        clear hbel bel1
        go_wp2
        go_roundw
        case rel => exact ⟨k + 1, by omega, by go_num, by rw [HB.out, HS.out], bel2⟩
        case measure => simp [intOf]; omega
      · have hd : decide (b < 0) = false := by simpa using hneg
        obtain ⟨q, rfl⟩ : ∃ q : Nat, b = q := ⟨b.toNat, by omega⟩
        obtain ⟨ad', c0, c1, c2, c3, c4, e', had', he', g0, g1, g2, g3, g4⟩ := (hr.below hbel).2 q (by rw [hlen.out]; omega)
        injection e' with e'
        subst e'
        have HE' := Lib.hid he'
        clear he'
        have bel1 := hbel.alloc hbel.size (.cells #[.int .i64 a0, .int .i64 a1, .int .i64 a2, .int .i64 a3, .int .i64 a4] 32)
        have hqi : (q : Int) < (n : Int) := by omega
        go_wp2_with fail
        obtain ⟨W, hW⟩ : ∃ W, W = wr.alloc (.cells #[.int .i64 a0, .int .i64 a1, .int .i64 a2, .int .i64 a3, .int .i64 a4] 32) := ⟨_, rfl⟩
        have k0 : W.cell? ⟨wr.heap.size, 0, none⟩ = some (.int .i64 a0) := by rw [hW]; simp [go_sem]
        have k1 : W.cell? ⟨wr.heap.size, 1, none⟩ = some (.int .i64 a1) := by rw [hW]; simp [go_sem]
        have k2 : W.cell? ⟨wr.heap.size, 2, none⟩ = some (.int .i64 a2) := by rw [hW]; simp [go_sem]
        have k3 : W.cell? ⟨wr.heap.size, 3, none⟩ = some (.int .i64 a3) := by rw [hW]; simp [go_sem]
        have k4 : W.cell? ⟨wr.heap.size, 4, none⟩ = some (.int .i64 a4) := by rw [hW]; simp [go_sem]
        have g0 : W.cell? (ad.add (q * 5)) = some (.int .i64 c0) := by rw [hW]; exact cell_old g0 _
        have g1 : W.cell? ⟨(ad.add (q * 5)).block, (ad.add (q * 5)).off + 1, none⟩ = some (.int .i64 c1) := by rw [hW]; exact cell_old g1 _
        have g2 : W.cell? ⟨(ad.add (q * 5)).block, (ad.add (q * 5)).off + 2, none⟩ = some (.int .i64 c2) := by rw [hW]; exact cell_old g2 _
        have g3 : W.cell? ⟨(ad.add (q * 5)).block, (ad.add (q * 5)).off + 3, none⟩ = some (.int .i64 c3) := by rw [hW]; exact cell_old g3 _
        have g4 : W.cell? ⟨(ad.add (q * 5)).block, (ad.add (q * 5)).off + 4, none⟩ = some (.int .i64 c4) := by rw [hW]; exact cell_old g4 _
        rw [← hW] at bel1 ⊢
        clear hW h0 h1 h2 h3 h4
        have bel2 := bel1.drew
        have hkl : k < cl.length := by rw [hlen.out]; exact hlt
        have hql : q < cl.length := by rw [hlen.out]; omega
        obtain ⟨r, hcr⟩ : ∃ r, r = cmpL [a0, a1, a2, a3, a4] [c0, c1, c2, c3, c4] := ⟨_, rfl⟩
        have HS := Lib.hid (show bestStep cl (q : Int) k = if r < 0 then (k : Int) else (q : Int) by
          unfold bestStep
          have x1 : cl.getD k [] = [a0, a1, a2, a3, a4] := by rw [List.getD_eq_getElem?_getD, List.getElem?_eq_getElem hkl]; exact HE.out
          have x2 : cl.getD ((q : Int).toNat) [] = [c0, c1, c2, c3, c4] := by rw [Int.toNat_natCast, List.getD_eq_getElem?_getD, List.getElem?_eq_getElem hql]; exact HE'.out
          rw [x1, x2, ← hcr]
          by_cases hx : r < 0
          · rw [if_pos (.inr hx), if_pos hx]
          · rw [if_neg (by omega), if_neg hx])
        have CC : ∀ W, Calls Try.prog 20 #[.agg #[.int .i64 a0, .int .i64 a1, .int .i64 a2, .int .i64 a3, .int .i64 a4], .agg #[.int .i64 c0, .int .i64 c1, .int .i64 c2, .int .i64 c3, .int .i64 c4]] W fun e w' => e = .returned (.int .i64 r) ∧ Below W.heap.size W w' := by
          intro W; rw [hcr]; exact compare_five _ _ _ _ _ _ _ _ _ _ W
        have HC := Lib.hid CC
        clear CC hcr
        go_still_tail 8, (by kernel_rfl)
        clear g0 g1 g2 g3 g4 k0 k1 k2 k3 k4
        change wpList _ _ _ _ _ W.drew
        generalize W.drew = W2 at *
        by_cases hx : r < 0
        · go_wp2_with (go_at_call 20; refine (HC.out _).mono ?_; rintro e w3 ⟨rfl, hb3⟩)
          go_roundw
          case rel => exact ⟨k + 1, by omega, by go_num, by rw [HB.out, HS.out, if_pos hx], bel2.trans (hb3.mono bel2.size)⟩
          case measure => simp [intOf]; omega
        · go_wp2_with (go_at_call 20; refine (HC.out _).mono ?_; rintro e w3 ⟨rfl, hb3⟩)
          go_roundw
          case rel => exact ⟨k + 1, by omega, by go_num, by rw [HB.out, HS.out, if_neg (by omega)], bel2.trans (hb3.mono bel2.size)⟩
          case measure => simp [intOf]; omega
    · have hkn : k = n := by omega
      subst hkn
      go_wp2
      go_ret
      exact ⟨rfl, hbel⟩
end Go.Proofs.Ytobamjjonkhcfaa
