/- The contract of the document's own Newest: the place of the newest, the first one of those. -/
import Derived.Test.YtklkefmbmagplaaGreatDoorNewT
import Derived.StillTailTactics
import Derived.BigQuiet
import Derived.Deep.QuietTactic
set_option maxRecDepth 100000
namespace Go.Proofs.YtklkefmbmagplaaGreatDoor
open Go.RowKit
set_option maxHeartbeats 1000000 in
theorem newest_any (A : Option Addr) (n c : Nat) (cl : List ByteArray) (w : World) (hr : ReadsS w w.heap.size A n cl) (hn : n ≤ 65536) :
    Calls Tryz.prog 6 #[.slice A n c] w fun e w' => e = .returned (.int .i64 (newN cl n)) ∧ Below w.heap.size w w' := by
  have hlen := Lib.hid hr.1
  go_enter Tryz.func6, Tryz.ntmps6
  go_wp2
  go_loopw [3, 4] (fun b i wr => ∃ k : Nat, k ≤ n ∧ i = .int .i64 k ∧ b = .int .i64 (newN cl k) ∧ Below w.heap.size w wr) (fun _ i _ => n - (intOf i).toNat)
  case atStart => exact ⟨0, Nat.zero_le _, rfl, rfl, Below.refl _ _⟩
  case round =>
    obtain ⟨k, hk, rfl, rfl, hbel⟩ := hrel
    have hbn := newN_lt cl k
    by_cases hlt : k < n
    · obtain ⟨ad, rfl, had, h0⟩ := (hr.below hbel).2 k (by rw [hlen.out]; exact hlt)
      have HB := Lib.hid (show newN cl (k + 1) = newStep cl (newN cl k) k from rfl)
      generalize newN cl k = b at *
      obtain ⟨hb1, hb2⟩ := hbn
      by_cases hneg : b < 0
      · have hd : decide (b < 0) = true := by simpa using hneg
        have HS := Lib.hid (show newStep cl b k = k by unfold newStep; rw [if_pos (.inl hneg)])
        clear h0
        go_wp2_with fail
        go_quiet (fail)
        have bel2 := bel_drewS hbel nq
        clear hbel
        go_wp2
        go_roundw
        case rel => exact ⟨k + 1, by omega, by go_num, by rw [HB.out, HS.out], bel2⟩
        case measure => simp [intOf]; omega
      · have hd : decide (b < 0) = false := by simpa using hneg
        obtain ⟨q, rfl⟩ : ∃ q : Nat, b = q := ⟨b.toNat, by omega⟩
        obtain ⟨ad', e', had', g0⟩ := (hr.below hbel).2 q (by rw [hlen.out]; omega)
        injection e' with e'
        subst e'
        have hqi : (q : Int) < (n : Int) := by omega
        have hki : (k : Int) < (n : Int) := by omega
        have hkl : k < cl.length := by rw [hlen.out]; exact hlt
        have hql : q < cl.length := by rw [hlen.out]; omega
        have HS0 : newStep cl (q : Int) k = if 0 < orderV (B cl[k]) (B cl[q]) then (k : Int) else (q : Int) := by
          unfold newStep
          have x1 : cl.getD k ByteArray.empty = cl[k] := by rw [List.getD_eq_getElem?_getD, List.getElem?_eq_getElem hkl]; rfl
          have x2 : cl.getD ((q : Int).toNat) ByteArray.empty = cl[q] := by rw [Int.toNat_natCast, List.getD_eq_getElem?_getD, List.getElem?_eq_getElem hql]; rfl
          rw [x1, x2]
          by_cases hx : 0 < orderV (B cl[k]) (B cl[q])
          · rw [if_pos (.inr hx), if_pos hx]
          · rw [if_neg (by omega), if_neg hx]
        have CC := fun W => order_any cl[k] cl[q] W
        generalize orderV (B cl[k]) (B cl[q]) = r at HS0 CC
        generalize cl[k] = sk at h0 CC
        generalize cl[q] = sq at g0 CC
        have HS := Lib.hid HS0
        have HC := Lib.hid CC
        clear CC HS0 hkl hql
        go_wp2_with fail
        have bel2 := hbel.drew
        go_still_tail 11, (by kernel_rfl)
        clear g0 h0 hbel
        change wpList _ _ _ _ _ wr.drew
        generalize wr.drew = W2 at *
        by_cases hx : 0 < r
        · go_wp2_with (go_at_call 10; refine (HC.out _).mono ?_; rintro e w3 ⟨rfl, hb3⟩)
          go_roundw
          case rel => exact ⟨k + 1, by omega, by go_num, by rw [HB.out, HS.out, if_pos hx], bel2.trans (hb3.mono bel2.size)⟩
          case measure => simp [intOf]; omega
        · go_wp2_with (go_at_call 10; refine (HC.out _).mono ?_; rintro e w3 ⟨rfl, hb3⟩)
          go_roundw
          case rel => exact ⟨k + 1, by omega, by go_num, by rw [HB.out, HS.out, if_neg (by omega)], bel2.trans (hb3.mono bel2.size)⟩
          case measure => simp [intOf]; omega
    · have hkn : k = n := by omega
      subst hkn
      go_wp2
      go_ret
      exact ⟨rfl, hbel⟩
end Go.Proofs.YtklkefmbmagplaaGreatDoor
