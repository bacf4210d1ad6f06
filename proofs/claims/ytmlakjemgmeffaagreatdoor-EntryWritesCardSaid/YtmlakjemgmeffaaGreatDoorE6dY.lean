/- The contracts of law 6's few, sameAll. No condition. -/
import Derived.Test.YtmlakjemgmeffaaGreatDoorNE
import Derived.Deep.RegionHeld3
set_option maxRecDepth 100000
set_option linter.unusedVariables false
set_option linter.unusedSimpArgs false
namespace Go.Proofs.YtmlakjemgmeffaaGreatDoor
open Go.RowKit
theorem keep6 {w w1 : World} (h : Below w.heap.size w w1) {a : Addr} {v : Value} (hc : w.cell? a = some v) : w1.cell? a = some v := by
  rw [h.cell (World.block_lt_of_cell? _ _ hc)]; exact hc
def Fw (l : List Ent) : Prop := l.length ≤ 70 ∧ ∀ x ∈ l, Sm x
set_option maxHeartbeats 8000000 in
theorem few6_any (A : Option Addr) (n c : Nat) (l : List Ent) (w : World) (h : rdEnts w (lt_ w.heap.size) l [.slice A n c]) :
    Calls Tryz.prog 9 #[.slice A n c] w fun e w' => LtR (Fw l) e ∧ Below w.heap.size w w' := by
  obtain ⟨rfl, hnc, hcm, hat⟩ := rdEnts_at h
  have hcm' : c ≤ 9223372036854775807 := hcm
  clear hcm hat
  by_cases g0 : (70 : Int) < (l.length : Int)
  · go_enter Tryz.func9, Tryz.ntmps9
    go_wp2
    go_ret
    exact ⟨ltR_no _, Below.refl _ _⟩
  have HL := Lib.hid (show l.length ≤ 70 by omega)
  go_enter Tryz.func9, Tryz.ntmps9
  go_wp2
  go_loopw [3] (fun i wr => ∃ k : Nat, k ≤ l.length ∧ i = .int .i64 k ∧ (∀ j (hj : j < l.length), j < k → Sm l[j]) ∧ Below w.heap.size w wr) (fun i _ => l.length - (intOf i).toNat)
  case atStart => exact ⟨0, Nat.zero_le _, rfl, fun j _ hj => absurd hj (Nat.not_lt_zero _), Below.refl _ _⟩
  case round =>
    obtain ⟨k, hk, rfl, hall, hbel⟩ := hrel
    have HA := Lib.hid hall
    have HB := Lib.hid hbel
    clear hall
    by_cases hlt : k < l.length
    · obtain ⟨_, _, _, hat⟩ := rdEnts_at (rdEnts_good.up (rdEnts_good.below h hbel) hbel.size)
      obtain ⟨ad, A1, c1, A2, c2, A3, c3, A4, c4, rfl, had, hv, h0, h1, h2, h3, h4, h5⟩ := hat k hlt
      have i0 : (0 : Int) ≤ (k : Int) := by omega
      have i1 : (k : Int) < (l.length : Int) := by omega
      have K := Lib.hid (small6_any l[k] A1 c1 A2 c2 A3 c3 A4 c4 _ hv)
      clear had hat hv hbel h
      go_wp2_with fail
      refine K.out.mono ?_
      rintro e w' ⟨⟨b, rfl, hb⟩, hbl⟩
      have HB2 := Lib.hid (HB.out.trans (hbl.mono HB.out.size))
      cases b
      · go_wp2
        go_ret
        exact ⟨ltR_no _, HB2.out⟩
      have NX := Lib.hid (hb rfl)
      clear hb hbl h0 h1 h2 h3 h4 h5
      go_wp2
      go_roundw
      case rel => exact ⟨k + 1, by omega, by go_num, fun j hj h => by
        by_cases hjk : j = k
        · subst hjk; exact NX.out
        · exact HA.out j hj (by omega), HB2.out⟩
      case measure => simp [intOf]; omega
    · obtain rfl : k = l.length := by omega
      have FIN := Lib.hid (show Fw l from ⟨HL.out, fun a ha => by
        obtain ⟨j, hj, rfl⟩ := List.getElem_of_mem ha
        exact HA.out j hj hj⟩)
      clear h hbel
      go_wp2
      go_ret
      exact ⟨ltR_yes FIN.out, HB.out⟩
set_option maxHeartbeats 8000000 in
theorem sameAll6_any (A A' : Option Addr) (n c n' c' : Nat) (l m : List Ent) (w : World) (h : rdEnts w (lt_ w.heap.size) l [.slice A n c]) (h' : rdEnts w (lt_ w.heap.size) m [.slice A' n' c']) :
    Calls Tryz.prog 20 #[.slice A n c, .slice A' n' c'] w fun e w' => e = .returned (.bool (decide (l = m))) ∧ Below w.heap.size w w' := by
  obtain ⟨rfl, hnc, hcm, _⟩ := rdEnts_at h
  obtain ⟨rfl, hnc', hcm', _⟩ := rdEnts_at h'
  have hcm1 : c ≤ 9223372036854775807 := hcm
  have hcm2 : c' ≤ 9223372036854775807 := hcm'
  by_cases hlen : l.length = m.length
  · have hd : ((l.length : Int) != (m.length : Int)) = false := by rw [hlen]; simp
    have HL := Lib.hid hlen
    clear hlen
    go_enter Tryz.func20, Tryz.ntmps20
    go_wp2
    go_loopw [5] (fun i wr => ∃ k : Nat, k ≤ l.length ∧ i = .int .i64 k ∧ l.take k = m.take k ∧ Below w.heap.size w wr) (fun i _ => l.length - (intOf i).toNat)
    case atStart => exact ⟨0, Nat.zero_le _, rfl, rfl, Below.refl _ _⟩
    case round =>
      obtain ⟨k, hk, rfl, htk, hbel⟩ := hrel
      by_cases hlt : k < l.length
      · obtain ⟨_, _, _, ha⟩ := rdEnts_at (rdEnts_good.up (rdEnts_good.below h hbel) hbel.size)
        obtain ⟨_, _, _, hb⟩ := rdEnts_at (rdEnts_good.up (rdEnts_good.below h' hbel) hbel.size)
        have hltm : k < m.length := by rw [← HL.out]; exact hlt
        obtain ⟨ad, A1, c1, A2, c2, A3, c3, A4, c4, rfl, had, hv, h0, h1, h2, h3, h4, h5⟩ := ha k hlt
        obtain ⟨ad', B1, d1, B2v, d2, B3, d3, B4, d4, rfl, had', hv', g0, g1, g2, g3, g4, g5⟩ := hb k hltm
        have T := Lib.hid (same_take (l := l) (m := m) HL.out hlt hltm htk)
        have Z := Lib.hid (show l[k] ≠ m[k] → l ≠ m from fun hn e => hn (by subst e; rfl))
        have HB := Lib.hid hbel
        have i0 : (0 : Int) ≤ (k : Int) := by omega
        have i1 : (k : Int) < (l.length : Int) := by omega
        have hki : (k : Int) < (m.length : Int) := by omega
        have K := Lib.hid (fun W (hb : Below wr.heap.size wr W) => same6_any l[k] m[k] A1 c1 A2 c2 A3 c3 A4 c4 B1 d1 B2v d2 B3 d3 B4 d4 W (hv.on hb) (hv'.on hb))
        have bb := (Below.refl wr.heap.size wr).drew
        clear htk ha hb hbel h h' hv hv' had had'
        generalize l[k] = x at *
        generalize m[k] = y at *
        by_cases he : x = y
        · rw [decide_eq_true he] at K
          have HE := Lib.hid he
          clear he
          go_wp2_with fail
          go_region_held3 (fun W => W.cell? (ad.add (k * 6)) = some (.string x.n) ∧ W.cell? ⟨(ad.add (k * 6)).block, (ad.add (k * 6)).off + 1, none⟩ = some (.string x.v) ∧ W.cell? ⟨(ad.add (k * 6)).block, (ad.add (k * 6)).off + 2, none⟩ = some (.slice A1 x.d.length c1) ∧ W.cell? ⟨(ad.add (k * 6)).block, (ad.add (k * 6)).off + 3, none⟩ = some (.slice A2 x.r.length c2) ∧ W.cell? ⟨(ad.add (k * 6)).block, (ad.add (k * 6)).off + 4, none⟩ = some (.slice A3 x.c.length c3) ∧ W.cell? ⟨(ad.add (k * 6)).block, (ad.add (k * 6)).off + 5, none⟩ = some (.slice A4 x.p.length c4) ∧ W.cell? (ad'.add (k * 6)) = some (.string y.n) ∧ W.cell? ⟨(ad'.add (k * 6)).block, (ad'.add (k * 6)).off + 1, none⟩ = some (.string y.v) ∧ W.cell? ⟨(ad'.add (k * 6)).block, (ad'.add (k * 6)).off + 2, none⟩ = some (.slice B1 y.d.length d1) ∧ W.cell? ⟨(ad'.add (k * 6)).block, (ad'.add (k * 6)).off + 3, none⟩ = some (.slice B2v y.r.length d2) ∧ W.cell? ⟨(ad'.add (k * 6)).block, (ad'.add (k * 6)).off + 4, none⟩ = some (.slice B3 y.c.length d3) ∧ W.cell? ⟨(ad'.add (k * 6)).block, (ad'.add (k * 6)).off + 5, none⟩ = some (.slice B4 y.p.length d4) ∧ Below wr.heap.size wr W)
            (first | (go_split_ands; refine ⟨?_, ?_, ?_, ?_, ?_, ?_, ?_, ?_, ?_, ?_, ?_, ?_, ?_⟩ <;> first | assumption | exact keep6 hbx (by assumption) | exact Below.trans (by assumption) (hbx.mono (Below.size (by assumption)))) | go_keep)
            ((go_at_call 18; (with_reducible refine (K.out _ (by go_split_ands; assumption)).mono ?_); rintro e wx ⟨rfl, hbx⟩))
          all_goals
            go_split_ands
            have HB2 := Lib.hid (show Below w.heap.size w _ from HB.out.trans (Below.mono (show Below wr.heap.size wr _ by assumption) HB.out.size))
            go_wp2
            go_roundw
            case rel => exact ⟨k + 1, by omega, by go_num, T.out HE.out, HB2.out⟩
            case measure => simp [intOf]; omega
        · rw [decide_eq_false he] at K
          have HE := Lib.hid he
          clear he
          go_wp2_with fail
          go_region_held3 (fun W => W.cell? (ad.add (k * 6)) = some (.string x.n) ∧ W.cell? ⟨(ad.add (k * 6)).block, (ad.add (k * 6)).off + 1, none⟩ = some (.string x.v) ∧ W.cell? ⟨(ad.add (k * 6)).block, (ad.add (k * 6)).off + 2, none⟩ = some (.slice A1 x.d.length c1) ∧ W.cell? ⟨(ad.add (k * 6)).block, (ad.add (k * 6)).off + 3, none⟩ = some (.slice A2 x.r.length c2) ∧ W.cell? ⟨(ad.add (k * 6)).block, (ad.add (k * 6)).off + 4, none⟩ = some (.slice A3 x.c.length c3) ∧ W.cell? ⟨(ad.add (k * 6)).block, (ad.add (k * 6)).off + 5, none⟩ = some (.slice A4 x.p.length c4) ∧ W.cell? (ad'.add (k * 6)) = some (.string y.n) ∧ W.cell? ⟨(ad'.add (k * 6)).block, (ad'.add (k * 6)).off + 1, none⟩ = some (.string y.v) ∧ W.cell? ⟨(ad'.add (k * 6)).block, (ad'.add (k * 6)).off + 2, none⟩ = some (.slice B1 y.d.length d1) ∧ W.cell? ⟨(ad'.add (k * 6)).block, (ad'.add (k * 6)).off + 3, none⟩ = some (.slice B2v y.r.length d2) ∧ W.cell? ⟨(ad'.add (k * 6)).block, (ad'.add (k * 6)).off + 4, none⟩ = some (.slice B3 y.c.length d3) ∧ W.cell? ⟨(ad'.add (k * 6)).block, (ad'.add (k * 6)).off + 5, none⟩ = some (.slice B4 y.p.length d4) ∧ Below wr.heap.size wr W)
            (first | (go_split_ands; refine ⟨?_, ?_, ?_, ?_, ?_, ?_, ?_, ?_, ?_, ?_, ?_, ?_, ?_⟩ <;> first | assumption | exact keep6 hbx (by assumption) | exact Below.trans (by assumption) (hbx.mono (Below.size (by assumption)))) | go_keep)
            ((go_at_call 18; (with_reducible refine (K.out _ (by go_split_ands; assumption)).mono ?_); rintro e wx ⟨rfl, hbx⟩))
          all_goals
            go_split_ands
            have HB2 := Lib.hid (show Below w.heap.size w _ from HB.out.trans (Below.mono (show Below wr.heap.size wr _ by assumption) HB.out.size))
            go_wp2
            go_ret
            exact ⟨by rw [decide_eq_false (Z.out HE.out)]; try rfl, HB2.out⟩
      · obtain rfl : k = l.length := by omega
        have X := Lib.hid (show l = m by rw [List.take_length] at htk; rw [htk, HL.out, List.take_length])
        clear htk h h'
        go_wp2
        go_ret
        exact ⟨by rw [decide_eq_true X.out]; try rfl, hbel⟩
  · have hd : ((l.length : Int) != (m.length : Int)) = true := by rw [bne_iff_ne]; omega
    have X := Lib.hid (show l ≠ m by rintro rfl; exact hlen rfl)
    clear hlen
    go_enter Tryz.func20, Tryz.ntmps20
    go_wp2
    go_ret
    exact ⟨by rw [decide_eq_false X.out]; try rfl, Below.refl _ _⟩
end Go.Proofs.YtmlakjemgmeffaaGreatDoor
