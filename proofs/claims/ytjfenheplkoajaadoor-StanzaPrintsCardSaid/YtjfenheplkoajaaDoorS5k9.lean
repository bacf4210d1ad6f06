/- The contracts of the document's own Right, Print of stanzas, and of the law's small. No condition but the sizes of what is asked of. -/
import Derived.Test.YtjfenheplkoajaaDoorS5k8
set_option maxRecDepth 100000
set_option linter.unusedVariables false
set_option linter.unusedSimpArgs false
namespace Go.Proofs.YtjfenheplkoajaaDoor
open Go.RowKit
/-- Stanzas that can be gone through. -/
def Sml (L : List (List Fd)) : Prop := L.length ≤ 210 ∧ ∀ st ∈ L, st.length ≤ 45 ∧ ∀ f ∈ st, f.n.size ≤ 65536 ∧ f.v.size ≤ 60000
theorem okR_stz {L : List (List Fd)} {k : Nat} (hk : k < L.length) (h : stzR L[k] = false) : okR L = false := by
  have : L.all stzR = false := by rw [List.all_eq_false]; exact ⟨L[k], List.getElem_mem hk, by rw [h]; decide⟩
  unfold okR; rw [this]; rfl
set_option maxHeartbeats 4000000 in
theorem q5right_any (A : Option Addr) (n c : Nat) (L : List (List Fd)) (w : World) (h : rdStzs w (lt_ w.heap.size) L [.slice A n c]) (hS : Sml L) :
    Calls Tryd.prog 18 #[.slice A n c] w fun e w' => e = .returned (.bool (okR L)) ∧ Below w.heap.size w w' := by
  obtain ⟨rfl, hnc, hcm, _⟩ := rdStzs_at h
  have hcm' : c ≤ 9223372036854775807 := hcm
  have H := Lib.hid h
  have HS := Lib.hid hS
  have KT := Lib.hid (fun (W : World) (hb : Below w.heap.size w W) => q5text_any A L.length c L W (rdStzs_good.up (rdStzs_good.below h hb) hb.size) hS.1 (fun st hst => ⟨(hS.2 st hst).1, fun f hf => ⟨((hS.2 st hst).2 f hf).1, by have := ((hS.2 st hst).2 f hf).2; omega⟩⟩))
  have OK := Lib.hid (show okR L = (L.all stzR && (decide (L.length ≤ 200) && decide ((txL L).length ≤ 60000))) from rfl)
  clear hcm h hS
  go_enter Tryd.func18, Tryd.ntmps18
  go_wp2
  go_loopw [3] (fun i wr => ∃ k : Nat, k ≤ L.length ∧ i = .int .i64 k ∧ (L.take k).all stzR = true ∧ Below w.heap.size w wr) (fun i _ => L.length - (intOf i).toNat)
  case atStart => exact ⟨0, Nat.zero_le _, rfl, rfl, Below.refl _ _⟩
  case round =>
    obtain ⟨k, hk, rfl, hall, hbel⟩ := hrel
    have HA := Lib.hid hall
    have HB := Lib.hid hbel
    clear hall
    by_cases hlt : k < L.length
    · obtain ⟨_, _, _, ha⟩ := rdStzs_at (rdStzs_good.below H.out hbel)
      obtain ⟨ad, A', c', rfl, had, x0, hrd⟩ := ha k hlt
      have KS := Lib.hid (q5stanza_any A' L[k].length c' L[k] wr (rdFds_good.up hrd hbel.size) (fun f hf => ⟨by have := ((HS.out.2 _ (List.getElem_mem hlt)).2 f hf).1; unfold maxLen; omega, by have := ((HS.out.2 _ (List.getElem_mem hlt)).2 f hf).2; omega⟩))
      have AS := Lib.hid (all_snoc stzR L k hlt)
      have SZ := Lib.hid (fun h => okR_stz (L := L) hlt h)
      have i0 : (0 : Int) ≤ (k : Int) := by omega
      have i1 : (k : Int) < (L.length : Int) := by omega
      clear ha hrd hbel
      cases hst : stzR L[k]
      · have X := Lib.hid (SZ.out hst)
        rw [hst] at KS
        clear hst
        go_wp2_with fail
        refine KS.out.mono ?_
        rintro e w2 ⟨rfl, hb2⟩
        have HB2 := Lib.hid (HB.out.trans (hb2.mono HB.out.size))
        clear hb2
        go_wp2
        go_ret
        exact ⟨by rw [X.out]; try rfl, HB2.out⟩
      · rw [hst] at KS
        have HST := Lib.hid hst
        clear hst
        go_wp2_with fail
        refine KS.out.mono ?_
        rintro e w2 ⟨rfl, hb2⟩
        have HB2 := Lib.hid (HB.out.trans (hb2.mono HB.out.size))
        clear hb2
        go_wp2
        go_roundw
        case rel => exact ⟨k + 1, by omega, by go_num, by rw [AS.out, HA.out, HST.out]; rfl, HB2.out⟩
        case measure => simp [intOf]; omega
    · obtain rfl : k = L.length := by omega
      have X := Lib.hid (show okR L = (decide (L.length ≤ 200) && decide ((txL L).length ≤ 60000)) by
        have h1 := HA.out
        rw [List.take_length] at h1
        rw [OK.out, h1]; rfl)
      clear hbel
      by_cases h200 : L.length ≤ 200
      · have z0 : (L.length : Int) ≤ 200 := by omega
        have X2 := Lib.hid (show okR L = decide ((txL L).length ≤ 60000) by rw [X.out, decide_eq_true h200]; rfl)
        clear h200
        go_wp2_with fail
        refine (KT.out _ HB.out).mono ?_
        rintro e w2 ⟨⟨y, rfl, hy⟩, hb2⟩
        have HB2 := Lib.hid (HB.out.trans (hb2.mono HB.out.size))
        have HY := Lib.hid (show y.size = (txL L).length by rw [← hy, B_len])
        clear hb2 hy
        by_cases h6 : y.size ≤ 60000
        · have z1 : (y.size : Int) ≤ 60000 := by omega
          have X3 := Lib.hid (show okR L = true by rw [X2.out, ← HY.out]; exact decide_eq_true h6)
          clear h6
          go_wp2
          go_ret
          exact ⟨by rw [X3.out]; try rfl, HB2.out⟩
        · have z1 : ¬ (y.size : Int) ≤ 60000 := by omega
          have X3 := Lib.hid (show okR L = false by rw [X2.out, ← HY.out]; exact decide_eq_false h6)
          clear h6
          go_wp2
          go_ret
          have z2 : decide ((y.size : Int) ≤ 60000) = false := decide_eq_false (by omega)
          exact ⟨by rw [X3.out]; first | rfl | (show Ending.returned (.bool (decide ((y.size : Int) ≤ 60000))) = _; rw [z2]), HB2.out⟩
      · have z0 : ¬ (L.length : Int) ≤ 200 := by omega
        have X3 := Lib.hid (show okR L = false by rw [X.out, decide_eq_false h200]; rfl)
        clear h200
        go_wp2
        go_ret
        exact ⟨by rw [X3.out]; try rfl, HB.out⟩
theorem q5print_any (A : Option Addr) (n c : Nat) (L : List (List Fd)) (w : World) (h : rdStzs w (lt_ w.heap.size) L [.slice A n c]) (hS : Sml L) :
    Calls Tryd.prog 20 #[.slice A n c] w fun e w' => e = .returned (.string (if okR L = true then mk (txL L) else { data := #[] })) ∧ Below w.heap.size w w' := by
  have KR := Lib.hid (q5right_any A n c L w h hS)
  have KT := Lib.hid (fun (W : World) (hb : Below w.heap.size w W) => q5text_any A n c L W (rdStzs_good.up (rdStzs_good.below h hb) hb.size) hS.1 (fun st hst => ⟨(hS.2 st hst).1, fun f hf => ⟨((hS.2 st hst).2 f hf).1, by have := ((hS.2 st hst).2 f hf).2; omega⟩⟩))
  clear h hS
  cases hok : okR L
  · rw [hok] at KR
    go_enter Tryd.func20, Tryd.ntmps20
    go_wp2_with fail
    refine KR.out.mono ?_
    rintro e w2 ⟨rfl, hb2⟩
    go_wp2
    go_ret
    exact ⟨rfl, hb2⟩
  · rw [hok] at KR
    go_enter Tryd.func20, Tryd.ntmps20
    go_wp2_with fail
    refine KR.out.mono ?_
    rintro e w2 ⟨rfl, hb2⟩
    have HB := Lib.hid hb2
    clear hb2
    go_wp2_with fail
    refine (KT.out _ HB.out).mono ?_
    rintro e w3 ⟨⟨y, rfl, hy⟩, hb3⟩
    have HB3 := Lib.hid (HB.out.trans (hb3.mono HB.out.size))
    have HY := Lib.hid (eq_mk hy)
    clear hb3 hy
    go_wp2
    go_ret
    exact ⟨by first | (rw [if_pos rfl, ← HY.out]; done) | (rw [← HY.out]; done) | (rw [← HY.out]; rfl) | (rw [if_pos rfl, ← HY.out]; rfl), HB3.out⟩
end Go.Proofs.YtjfenheplkoajaaDoor
