/- The contract of the document's own stanza. No condition but the sizes of what it is asked of. -/
import Derived.Test.YtjfenheplkoajaaDoorS5k6
set_option maxRecDepth 100000
set_option linter.unusedVariables false
set_option linter.unusedSimpArgs false
namespace Go.Proofs.YtjfenheplkoajaaDoor
open Go.RowKit
set_option maxHeartbeats 8000000 in
theorem q5stanza_any (A : Option Addr) (n c : Nat) (l : List Fd) (w : World) (h : rdFds w (lt_ w.heap.size) l [.slice A n c]) (hs : ∀ f ∈ l, f.n.size ≤ maxLen ∧ f.v.size ≤ 65536) :
    Calls Tryd.prog 37 #[.slice A n c] w fun e w' => e = .returned (.bool (stzR l)) ∧ Below w.heap.size w w' := by
  obtain ⟨rfl, hnc, hcm, _⟩ := rdFds_at h
  have hcm' : c ≤ 9223372036854775807 := hcm
  have H := Lib.hid h
  have HS := Lib.hid hs
  have SD := Lib.hid (show stzR l = (l.all fdR && noDup [] l && (decide (1 ≤ l.length) && decide (l.length ≤ 40))) from rfl)
  clear hcm h hs
  go_enter Tryd.func37, Tryd.ntmps37
  go_wp2
  go_loopw [3] (fun i wr => ∃ k : Nat, k ≤ l.length ∧ i = .int .i64 k ∧ (l.take k).all fdR = true ∧ noDup [] l = noDup (l.take k) (l.drop k) ∧ Below w.heap.size w wr) (fun i _ => l.length - (intOf i).toNat)
  case atStart => exact ⟨0, Nat.zero_le _, rfl, rfl, rfl, Below.refl _ _⟩
  case round =>
    obtain ⟨k, hk, rfl, hall, hdup, hbel⟩ := hrel
    have HA := Lib.hid hall
    have HD := Lib.hid hdup
    have HB := Lib.hid hbel
    clear hall hdup
    by_cases hlt : k < l.length
    · obtain ⟨_, _, _, ha⟩ := rdFds_at (rdFds_good.below H.out hbel)
      obtain ⟨ad, rfl, had, x0, x1⟩ := ha k hlt
      have hf := HS.out l[k] (List.getElem_mem hlt)
      have KN := Lib.hid (fun w => q5name_any l[k].n w hf.1)
      have KV := Lib.hid (fun w => q5value_any l[k].v w hf.2)
      have AS := Lib.hid (all_snoc fdR l k hlt)
      have AN := Lib.hid (fun h => all_not (p := fdR) (l := l) (k := k) hlt h)
      have DS := Lib.hid (noDup_step hlt)
      have FDK := Lib.hid (show fdR l[k] = (fnB (B l[k].n) && valB (B l[k].v)) from rfl)
      have i0 : (0 : Int) ≤ (k : Int) := by omega
      have i1 : (k : Int) < (l.length : Int) := by omega
      have hki : k < l.length := hlt
      clear ha hbel hf
      cases h1 : fnB (B l[k].n)
      · have X := Lib.hid (show stzR l = false by rw [SD.out, AN.out (by rw [FDK.out, h1]; rfl)]; rfl)
        rw [h1] at KN
        clear h1
        go_wp2_with fail
        refine (KN.out _).mono ?_
        rintro e w' ⟨rfl, rfl⟩
        go_wp2_with fail
        refine (KV.out _).mono ?_
        rintro e w2 ⟨rfl, hb2⟩
        have HB2 := Lib.hid (HB.out.trans (hb2.mono HB.out.size))
        clear hb2
        go_wp2
        go_ret
        exact ⟨by rw [X.out]; try rfl, HB2.out⟩
      · rw [h1] at KN
        cases h2 : valB (B l[k].v)
        · have X := Lib.hid (show stzR l = false by rw [SD.out, AN.out (by rw [FDK.out, h1, h2]; rfl)]; rfl)
          rw [h2] at KV
          clear h1 h2
          go_wp2_with fail
          refine (KN.out _).mono ?_
          rintro e w' ⟨rfl, rfl⟩
          go_wp2_with fail
          refine (KV.out _).mono ?_
          rintro e w2 ⟨rfl, hb2⟩
          have HB2 := Lib.hid (HB.out.trans (hb2.mono HB.out.size))
          clear hb2
          go_wp2
          go_ret
          exact ⟨by rw [X.out]; try rfl, HB2.out⟩
        · rw [h2] at KV
          have FOK := Lib.hid (show fdR l[k] = true by rw [FDK.out, h1, h2]; rfl)
          clear h1 h2 FDK
          go_wp2_with fail
          refine (KN.out _).mono ?_
          rintro e w' ⟨rfl, rfl⟩
          go_wp2_with fail
          refine (KV.out _).mono ?_
          rintro e w2 ⟨rfl, hb2⟩
          have HB2 := Lib.hid (HB.out.trans (hb2.mono HB.out.size))
          clear hb2 x0 x1
          go_wp2
          go_loopw [6] (fun i wr => ∃ q : Nat, q ≤ k ∧ i = .int .i64 q ∧ getV (l.take q) l[k].n = false ∧ Dr w2 wr) (fun i _ => k - (intOf i).toNat)
          case atStart => exact ⟨0, Nat.zero_le _, rfl, rfl, Dr.refl _⟩
          case round =>
            obtain ⟨q, hq, rfl, hg, hdr⟩ := hrel
            have HG := Lib.hid hg
            have HDR := Lib.hid hdr
            clear hg
            by_cases hlq : q < k
            · have hql : q < l.length := by omega
              have BX := hdr.below w.heap.size
              obtain ⟨_, _, _, ha⟩ := rdFds_at (rdFds_good.below H.out (HB2.out.trans BX))
              obtain ⟨ad1, e1, had1, c0, _⟩ := ha k hlt
              obtain ⟨ad2, e2, had2, g0, _⟩ := ha q hql
              injection e1 with e1
              injection e2 with e2
              subst e1
              subst e2
              have GS := Lib.hid (show getV (l.take (q + 1)) l[k].n = (getV (l.take q) l[k].n || decide (l[q].n = l[k].n)) from any_snoc (fun f : Fd => decide (f.n = l[k].n)) l q hql)
              have GH := Lib.hid (fun (h : l[q].n = l[k].n) => (show getV (l.take k) l[k].n = true from by
                unfold getV
                rw [List.any_eq_true]
                exact ⟨l[q], by rw [List.mem_take_iff_getElem]; exact ⟨q, by omega, rfl⟩, decide_eq_true h⟩))
              have he := str_eq l[q].n l[k].n
              have j0 : (0 : Int) ≤ (q : Int) := by omega
              have j1 : (q : Int) < (l.length : Int) := by omega
              clear ha hdr BX had1 had2
              by_cases hn : l[q].n = l[k].n
              · have X := Lib.hid (show stzR l = false by rw [SD.out, HD.out, DS.out, GH.out hn]; simp)
                rw [decide_eq_true hn] at he
                clear hn
                generalize l[q].n = s1 at *
                generalize l[k].n = s2 at *
                go_wp2_with fail
                go_quiet (fail)
                go_wp2
                go_ret
                exact ⟨by rw [X.out]; try rfl, HB2.out.trans ((HDR.out.more _).below _)⟩
              · have Y := Lib.hid (show getV (l.take (q + 1)) l[k].n = false by rw [GS.out, HG.out, decide_eq_false hn]; rfl)
                rw [decide_eq_false hn] at he
                clear hn
                go_wp2_with fail
                go_quiet (fail)
                go_wp2
                go_roundw
                case rel => exact ⟨q + 1, by omega, by go_num, Y.out, HDR.out.more _⟩
                case measure => simp [intOf]; omega
            · obtain rfl : q = k := by omega
              have Y := Lib.hid (show (l.take (q + 1)).all fdR = true ∧ noDup [] l = noDup (l.take (q + 1)) (l.drop (q + 1)) from ⟨by rw [AS.out, HA.out, FOK.out]; rfl, by rw [HD.out, DS.out, HG.out]; rfl⟩)
              clear hdr
              go_wp2
              go_roundw
              case rel => exact ⟨q + 1, by omega, by go_num, Y.out.1, Y.out.2, HB2.out.trans (HDR.out.below _)⟩
              case measure => simp [intOf]; omega
    · obtain rfl : k = l.length := by omega
      have X := Lib.hid (show stzR l = (decide (1 ≤ l.length) && decide (l.length ≤ 40)) by
        have h1 := HA.out
        have h2 := HD.out
        rw [List.take_length] at h1 h2
        rw [SD.out, h1, h2, List.drop_length]; rfl)
      clear hbel
      by_cases h0 : 1 ≤ l.length
      · have z0 : (1 : Int) ≤ (l.length : Int) := by omega
        by_cases h40 : l.length ≤ 40
        · have z1 : (l.length : Int) ≤ 40 := by omega
          go_wp2
          go_ret
          exact ⟨by rw [X.out, decide_eq_true h0, decide_eq_true h40]; try rfl, HB.out⟩
        · have z1 : ¬ (l.length : Int) ≤ 40 := by omega
          go_wp2
          go_ret
          exact ⟨by rw [X.out, decide_eq_true h0, decide_eq_false h40]; try rfl, HB.out⟩
      · have z0 : ¬ (1 : Int) ≤ (l.length : Int) := by omega
        go_wp2
        go_ret
        exact ⟨by rw [X.out, decide_eq_false h0]; try rfl, HB.out⟩
end Go.Proofs.YtjfenheplkoajaaDoor
