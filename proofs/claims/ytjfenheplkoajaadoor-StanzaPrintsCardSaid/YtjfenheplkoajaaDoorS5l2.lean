/- The contract of the law's small. No condition. -/
import Derived.Test.YtjfenheplkoajaaDoorS5k9
set_option maxRecDepth 100000
set_option linter.unusedVariables false
set_option linter.unusedSimpArgs false
namespace Go.Proofs.YtjfenheplkoajaaDoor
open Go.RowKit
def SmlR (L : List (List Fd)) (e : Ending) : Prop := ∃ b : Bool, e = .returned (.bool b) ∧ (b = true → Sml L)
theorem smlR_no (L : List (List Fd)) : SmlR L (.returned (.bool false)) := ⟨false, rfl, fun h => by cases h⟩
theorem smlR_yes {L : List (List Fd)} (h : Sml L) : SmlR L (.returned (.bool true)) := ⟨true, rfl, fun _ => h⟩
set_option maxHeartbeats 8000000 in
theorem small5_any (A : Option Addr) (n c : Nat) (L : List (List Fd)) (w : World) (h : rdStzs w (lt_ w.heap.size) L [.slice A n c]) :
    Calls Tryd.prog 14 #[.slice A n c] w fun e w' => SmlR L e ∧ w = w' := by
  obtain ⟨rfl, hnc, hcm, hat⟩ := rdStzs_at h
  have hcm' : c ≤ 9223372036854775807 := hcm
  have HAT := Lib.hid hat
  clear hcm h hat
  by_cases h210 : (210 : Int) < (L.length : Int)
  · go_enter Tryd.func14, Tryd.ntmps14
    go_wp2
    go_ret
    exact ⟨smlR_no L, rfl⟩
  have HL := Lib.hid (show L.length ≤ 210 by omega)
  go_enter Tryd.func14, Tryd.ntmps14
  go_wp2
  go_loop [3] (fun i => ∃ k : Nat, k ≤ L.length ∧ i = .int .i64 k ∧ (∀ j (hj : j < L.length), j < k → L[j].length ≤ 45 ∧ ∀ f ∈ L[j], f.n.size ≤ 65536 ∧ f.v.size ≤ 60000)) (fun i => L.length - (intOf i).toNat)
  case atStart => exact ⟨0, Nat.zero_le _, rfl, fun j _ hj => absurd hj (Nat.not_lt_zero _)⟩
  case round =>
    obtain ⟨k, hk, rfl, hall⟩ := hrel
    have HA := Lib.hid hall
    clear hall
    by_cases hlt : k < L.length
    · obtain ⟨ad, A', c', rfl, had, x0, hrd⟩ := HAT.out k hlt
      have hcm2' : c' ≤ 9223372036854775807 := (rdFds_at hrd).2.2.1
      have HRD := Lib.hid (rdFds_at hrd).2.2.2
      have i0 : (0 : Int) ≤ (k : Int) := by omega
      have i1 : (k : Int) < (L.length : Int) := by omega
      clear hrd had
      by_cases g1 : (45 : Int) < (L[k].length : Int)
      · go_wp2
        go_ret
        exact ⟨smlR_no L, rfl⟩
      rcases (by
        by_cases g2 : (20 : Int) < (L.length : Int)
        · by_cases g3 : (3 : Int) < (L[k].length : Int)
          · exact .inl ⟨g2, g3⟩
          · exact .inr (.inl ⟨g2, g3⟩)
        · exact .inr (.inr g2) : ((20 : Int) < (L.length : Int) ∧ (3 : Int) < (L[k].length : Int)) ∨ ((20 : Int) < (L.length : Int) ∧ ¬ (3 : Int) < (L[k].length : Int)) ∨ ¬ (20 : Int) < (L.length : Int)) with ⟨g2, g3⟩ | ⟨g2, g3⟩ | g2
      · go_wp2
        go_ret
        exact ⟨smlR_no L, rfl⟩
      all_goals
        have H45 := Lib.hid (show L[k].length ≤ 45 by omega)
        go_wp2
        go_loop [4] (fun i => ∃ q : Nat, q ≤ L[k].length ∧ i = .int .i64 q ∧ (∀ j (hj : j < L[k].length), j < q → L[k][j].n.size ≤ 65536 ∧ L[k][j].v.size ≤ 60000)) (fun i => L[k].length - (intOf i).toNat)
        case atStart => exact ⟨0, Nat.zero_le _, rfl, fun j _ hj => absurd hj (Nat.not_lt_zero _)⟩
        case round =>
          obtain ⟨q, hq, rfl, hin⟩ := hrel
          have HI := Lib.hid hin
          clear hin
          by_cases hlq : q < L[k].length
          · obtain ⟨ad2, e2, had2, c0, c1⟩ := HRD.out q hlq
            subst e2
            have j0 : (0 : Int) ≤ (q : Int) := by omega
            have j1 : (q : Int) < (L[k].length : Int) := by omega
            clear had2
            by_cases g4 : (100 : Int) < (L[k][q].n.size : Int)
            · go_wp2
              go_ret
              exact ⟨smlR_no L, rfl⟩
            by_cases g5 : (2000 : Int) < (L[k][q].v.size : Int)
            · go_wp2
              go_ret
              exact ⟨smlR_no L, rfl⟩
            have NX := Lib.hid (show L[k][q].n.size ≤ 65536 ∧ L[k][q].v.size ≤ 60000 from ⟨by omega, by omega⟩)
            go_wp2
            go_round
            case rel => exact ⟨q + 1, by omega, by go_num, fun j hj h => by
              by_cases hjq : j = q
              · subst hjq; exact NX.out
              · exact HI.out j hj (by omega)⟩
            case measure => simp [intOf]; omega
          · obtain rfl : q = L[k].length := by omega
            have NX := Lib.hid (show L[k].length ≤ 45 ∧ ∀ f ∈ L[k], f.n.size ≤ 65536 ∧ f.v.size ≤ 60000 from ⟨H45.out, fun f hf => by
              obtain ⟨j, hj, rfl⟩ := List.getElem_of_mem hf
              exact HI.out j hj hj⟩)
            go_wp2
            go_round
            case rel => exact ⟨k + 1, by omega, by go_num, fun j hj h => by
              by_cases hjk : j = k
              · subst hjk; exact NX.out
              · exact HA.out j hj (by omega)⟩
            case measure => simp [intOf]; omega
    · obtain rfl : k = L.length := by omega
      have FIN := Lib.hid (show Sml L from ⟨HL.out, fun st hst => by
        obtain ⟨j, hj, rfl⟩ := List.getElem_of_mem hst
        exact HA.out j hj hj⟩)
      go_wp2
      go_ret
      exact ⟨smlR_yes FIN.out, rfl⟩
end Go.Proofs.YtjfenheplkoajaaDoor
