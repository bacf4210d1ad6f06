/- The contract of the program's own Newest: the document's. -/
import Derived.Test.YtklkefmbmagplaaGreatDoorVer11
import Derived.Test.YtklkefmbmagplaaGreatDoorNewT
set_option maxRecDepth 100000
set_option linter.unusedVariables false
set_option linter.unusedSimpArgs false
namespace Go.Proofs.YtklkefmbmagplaaGreatDoor
open Go.RowKit
set_option maxHeartbeats 1000000 in
theorem vnewest_any (A : Option Addr) (n c : Nat) (cl : List ByteArray) (w : World) (hr : ReadsS w w.heap.size A n cl) (hn : n ≤ 65536) (E : Env w) :
    Calls Tryz.prog 5 #[.slice A n c] w fun e w' => e = .returned (.int .i64 (newN cl n)) ∧ Below w.heap.size w w' := by
  have hlen := Lib.hid hr.1
  have HE := Lib.hid E
  clear E
  go_enter Tryz.func5, Tryz.ntmps5
  go_wp2
  go_loopw [3, 8] (fun b i wr => ∃ k : Nat, k ≤ n ∧ i = .int .i64 k ∧ b = .int .i64 (newN cl k) ∧ Below w.heap.size w wr) (fun _ i _ => n - (intOf i).toNat)
  case atStart => exact ⟨0, Nat.zero_le _, rfl, rfl, Below.refl _ _⟩
  case round =>
    obtain ⟨k, hk, rfl, rfl, hbel⟩ := hrel
    have hbn := newN_lt cl k
    by_cases hlt : k < n
    · obtain ⟨ad, rfl, had, h0⟩ := (hr.below hbel).2 k (by rw [hlen.out]; exact hlt)
      have HB := Lib.hid (show newN cl (k + 1) = newStep cl (newN cl k) k from rfl)
      generalize newN cl k = b at *
      obtain ⟨hb1, hb2⟩ := hbn
      by_cases hneg : b < 0
      · have hd : decide (b < 0) = true := by simpa using hneg
        have HS := Lib.hid (show newStep cl b k = k by unfold newStep; rw [if_pos (.inl hneg)])
        have HBEL := Lib.hid hbel
        clear hbel
        go_wp2
        go_roundw
        case rel => exact ⟨k + 1, by omega, by go_num, by rw [HB.out, HS.out], HBEL.out⟩
        case measure => simp [intOf]; omega
      · have hd : decide (b < 0) = false := by simpa using hneg
        obtain ⟨q, rfl⟩ : ∃ q : Nat, b = q := ⟨b.toNat, by omega⟩
        obtain ⟨ad', e', had', g0⟩ := (hr.below hbel).2 q (by rw [hlen.out]; omega)
        injection e' with e'
        subst e'
        have hqi : (q : Int) < (n : Int) := by omega
        have hki : (k : Int) < (n : Int) := by omega
        have hkl : k < cl.length := by rw [hlen.out]; exact hlt
        have hql : q < cl.length := by rw [hlen.out]; omega
        have HS0 : newStep cl (q : Int) k = if 0 < orderV (B cl[k]) (B cl[q]) then (k : Int) else (q : Int) := by
          unfold newStep
          have x1 : cl.getD k ByteArray.empty = cl[k] := by rw [List.getD_eq_getElem?_getD, List.getElem?_eq_getElem hkl]; rfl
          have x2 : cl.getD ((q : Int).toNat) ByteArray.empty = cl[q] := by rw [Int.toNat_natCast, List.getD_eq_getElem?_getD, List.getElem?_eq_getElem hql]; rfl
          rw [x1, x2]
          by_cases hx : 0 < orderV (B cl[k]) (B cl[q])
          · rw [if_pos (.inr hx), if_pos hx]
          · rw [if_neg (by omega), if_neg hx]
        have CC := fun W E => vorder_any cl[k] cl[q] W E
        generalize orderV (B cl[k]) (B cl[q]) = r at HS0 CC
        generalize cl[k] = sk at h0 CC
        generalize cl[q] = sq at g0 CC
        have HS := Lib.hid HS0
        have HC := Lib.hid CC
        have HBEL := Lib.hid hbel
        clear CC HS0 hkl hql hbel
        by_cases hx : 0 < r
        · go_wp2_with fail
          refine (HC.out _ (HE.out.below HBEL.out)).mono ?_
          rintro e w3 ⟨rfl, hb3⟩
          have H3 := Lib.hid (bel_2 HBEL.out hb3)
          clear hb3
          go_wp2
          go_roundw
          case rel => exact ⟨k + 1, by omega, by go_num, by rw [HB.out, HS.out, if_pos hx], H3.out⟩
          case measure => simp [intOf]; omega
        · go_wp2_with fail
          refine (HC.out _ (HE.out.below HBEL.out)).mono ?_
          rintro e w3 ⟨rfl, hb3⟩
          have H3 := Lib.hid (bel_2 HBEL.out hb3)
          clear hb3
          go_wp2
          go_roundw
          case rel => exact ⟨k + 1, by omega, by go_num, by rw [HB.out, HS.out, if_neg (by omega)], H3.out⟩
          case measure => simp [intOf]; omega
    · have hkn : k = n := by omega
      subst hkn
      go_wp2
      go_ret
      exact ⟨rfl, hbel⟩
end Go.Proofs.YtklkefmbmagplaaGreatDoor
