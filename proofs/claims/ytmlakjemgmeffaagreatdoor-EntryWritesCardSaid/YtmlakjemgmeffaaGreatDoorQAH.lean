/- What the laws of this seat rest on: E6i, S5h, S5d. -/
import Derived.Test.YtmlakjemgmeffaaGreatDoorNF
import Derived.Deep.RegionHeld3
import Derived.Test.YtmlakjemgmeffaaGreatDoorNS
import Derived.Test.YtmlakjemgmeffaaGreatDoorNA
import Derived.WalkLawsBesides
import Derived.WalkSpells

section
set_option maxRecDepth 100000
set_option linter.unusedVariables false
set_option linter.unusedSimpArgs false
namespace Go.Proofs.YtmlakjemgmeffaaGreatDoor
open Go.RowKit
theorem rdEnts_take {w : World} {S : Nat → Prop} {l : List Ent} {A : Option Addr} {n c k : Nat} (h : rdEnts w S l [.slice A n c]) (hk : k ≤ l.length) : rdEnts w S (l.take k) [.slice A k c] := by
  obtain ⟨A', c', e, h1, h2, h3⟩ := h
  simp only [List.cons.injEq, Value.slice.injEq, and_true] at e
  obtain ⟨rfl, rfl, rfl⟩ := e
  have hl : (l.take k).length = k := by rw [List.length_take]; omega
  refine ⟨A, c, by rw [hl], by omega, h2, fun j hj => ?_⟩
  rw [hl] at hj
  obtain ⟨ad, es, a1, a2, a3, a4, a5⟩ := h3 j (by omega)
  exact ⟨ad, es, a1, a2, by rw [List.getElem_take]; exact a3, a4, a5⟩
def okPk (l : List Ent) : Nat → Bool
  | 0 => true
  | k + 1 => okPk l k && (match l[k]? with | some x => rgtE x && !thB (l.take k) x | none => true)
theorem okPk_step {l : List Ent} {k : Nat} (hk : k < l.length) : okPk l (k + 1) = (okPk l k && (rgtE l[k] && !thB (l.take k) l[k])) := by
  show (okPk l k && (match l[k]? with | some x => rgtE x && !thB (l.take k) x | none => true)) = _
  rw [List.getElem?_eq_getElem hk]
theorem okPk_stop {l : List Ent} {k : Nat} (h : okPk l k = false) : ∀ n, k ≤ n → okPk l n = false
  | 0, hn => by obtain rfl : k = 0 := by omega
                exact h
  | n + 1, hn => by
    by_cases he : k = n + 1
    · rw [← he]; exact h
    · show (okPk l n && _) = false
      rw [okPk_stop h n (by omega), Bool.false_and]
def prE (PR : List (List Fd) → ByteArray) (l : List Ent) : ByteArray := if okPk l l.length = true ∧ l.length ≤ 64 then PR (l.map wrE) else { data := #[] }
theorem bel66 {a b c : World} {N : Nat} (h : Below N a b) (k : Below b.heap.size b c) (hN : N ≤ b.heap.size) : Below N a c := h.trans (k.mono hN)
set_option maxHeartbeats 8000000 in
theorem q6print_any (KN : ∀ (s : ByteArray) (w : World), s.size ≤ 65536 → Calls Tryz.prog 32 #[.string s] w fun e w' => e = .returned (.bool (nameB (B s))) ∧ w = w') (KA : ∀ (x : Atm) (w : World), x.n.size ≤ 65536 → Calls Tryz.prog 71 #[.agg #[.string x.n, .int .i64 x.o, .string x.v]] w fun e' w' => e' = .returned (.bool (rgt x)) ∧ Below w.heap.size w w') (K4 : ∀ (A : Option Addr) (n c : Nat) (L : List (List Atm)) (w : World), rdGrps w (lt_ w.heap.size) L [.slice A n c] → (∀ g ∈ L, ∀ a ∈ g, a.n.size ≤ 65536) → Calls Tryz.prog 34 #[.slice A n c] w fun e w' => e = .returned (.bool (rightG L)) ∧ Below w.heap.size w w')
    (KQ : ∀ (A : Option Addr) (n c : Nat) (L : List (List Atm)) (w : World), rdGrps w (lt_ w.heap.size) L [.slice A n c] → (∀ g ∈ L, ∀ a ∈ g, a.n.size ≤ 65536) → Calls Tryz.prog 40 #[.slice A n c] w fun e w' => e = .returned (.string (mk (prtG L))) ∧ Below w.heap.size w w') (KJ : ∀ (A : Option Addr) (n c : Nat) (l : List Atm) (w : World), rdAtms w (lt_ w.heap.size) l [.slice A n c] → l.length ≤ 1000 → (∀ a ∈ l, a.n.size ≤ 65536) → Calls Tryz.prog 41 #[.slice A n c] w fun e w' => e = .returned (.string (mk (prtG (l.map fun a => [a])))) ∧ Below w.heap.size w w')
    (PR : List (List Fd) → ByteArray) (SM : List (List Fd) → Prop) (KZ : ∀ (A : Option Addr) (n c : Nat) (L : List (List Fd)) (w : World), rdStzs w (lt_ w.heap.size) L [.slice A n c] → SM L → Calls Tryz.prog 45 #[.slice A n c] w fun e w' => e = .returned (.string (PR L)) ∧ Below w.heap.size w w')
    (A : Option Addr) (m cc : Nat) (l : List Ent) (w : World) (h : rdEnts w (lt_ w.heap.size) l [.slice A m cc]) (hl : l.length ≤ 1000) (hz : ∀ x ∈ l, Sz x) (hSM : okPk l l.length = true → l.length ≤ 64 → SM (l.map wrE)) :
    Calls Tryz.prog 16 #[.slice A m cc] w fun e w' => e = .returned (.string (prE PR l)) ∧ Below w.heap.size w w' := by
  obtain ⟨rfl, hnc, hcm, _⟩ := rdEnts_at h
  have hcm' : cc ≤ 9223372036854775807 := hcm
  obtain ⟨fi, hi, hz0, hz1, hz2⟩ := info_parts fds_info
  have HZ := Lib.hid hz
  have HS := Lib.hid hSM
  have H := Lib.hid h
  have KRt := Lib.hid (fun (x : Ent) A1 c1 A2 c2 A3 c3 A4 c4 W hx hz => q6right_any KN KA K4 x A1 c1 A2 c2 A3 c3 A4 c4 W hx hz)
  have KW := Lib.hid (fun (x : Ent) A1 c1 A2 c2 A3 c3 A4 c4 W hx hz => q6write_any KN KA K4 KQ KJ x A1 c1 A2 c2 A3 c3 A4 c4 W hx hz)
  have KZ := Lib.hid KZ
  clear h hz hSM KN KA K4 KQ KJ hcm
  go_enter Tryz.func16, Tryz.ntmps16
  go_wp2
  go_loopw [3, 4] (fun v i wr => ∃ k : Nat, k ≤ l.length ∧ i = .int .i64 k ∧ okPk l k = true ∧ Grow rdFds 1 (fun _ => True) wr w.heap.size 31 v ((l.take k).map wrE) ∧ Below w.heap.size w wr) (fun _ i _ => l.length - (intOf i).toNat)
  case atStart => exact ⟨0, Nat.zero_le _, rfl, rfl, Grow.nil _ _ _ _, Below.refl _ _⟩
  case round =>
    obtain ⟨k, hk, rfl, hok, hG, hbel⟩ := hrel
    have HB := Lib.hid hbel
    have HG := Lib.hid hG
    have HO := Lib.hid hok
    clear hok hG
    by_cases hlt : k < l.length
    · have HR := Lib.hid (rdEnts_good.up (rdEnts_good.below H.out hbel) hbel.size)
      obtain ⟨_, _, _, hat⟩ := rdEnts_at HR.out
      obtain ⟨ad, A1, c1, A2, c2, A3, c3, A4, c4, rfl, had, hv, h0, h1, h2, h3, h4, h5⟩ := hat k hlt
      have i0 : (0 : Int) ≤ (k : Int) := by omega
      have i1 : (k : Int) < (l.length : Int) := by omega
      have i2 : (k : Int) ≤ (cc : Int) := by omega
      have i3 : k ≤ cc := by omega
      have i4 : (k : Int) ≤ (l.length : Int) := by omega
      have OS := Lib.hid (okPk_step (l := l) hlt)
      have TS := Lib.hid (take_snoc wrE l k hlt)
      have HTK := Lib.hid (fun (W : World) (hb : Below wr.heap.size wr W) => rdEnts_take (rdEnts_good.up (rdEnts_good.below HR.out hb) hb.size) hk)
      have HX := Lib.hid (fun (W : World) (hb : Below wr.heap.size wr W) => hv.on hb)
      have HSZ := Lib.hid (HZ.out l[k] (List.getElem_mem hlt))
      have KC := Lib.hid (fun (W : World) (hb : Below wr.heap.size wr W) => (show W.cell? (ad.add (k * 6)) = some (.string l[k].n) ∧ W.cell? ⟨(ad.add (k * 6)).block, (ad.add (k * 6)).off + 1, none⟩ = some (.string l[k].v) ∧ W.cell? ⟨(ad.add (k * 6)).block, (ad.add (k * 6)).off + 2, none⟩ = some (.slice A1 l[k].d.length c1) ∧ W.cell? ⟨(ad.add (k * 6)).block, (ad.add (k * 6)).off + 3, none⟩ = some (.slice A2 l[k].r.length c2) ∧ W.cell? ⟨(ad.add (k * 6)).block, (ad.add (k * 6)).off + 4, none⟩ = some (.slice A3 l[k].c.length c3) ∧ W.cell? ⟨(ad.add (k * 6)).block, (ad.add (k * 6)).off + 5, none⟩ = some (.slice A4 l[k].p.length c4) from ⟨keep6 hb h0, keep6 hb h1, keep6 hb h2, keep6 hb h3, keep6 hb h4, keep6 hb h5⟩))
      clear had hat hv hbel
      generalize l[k] = x at *
      go_wp2_with fail
      refine (KRt.out x A1 c1 A2 c2 A3 c3 A4 c4 _ (HX.out _ (Below.refl _ _)) HSZ.out).mono ?_
      rintro e w2 ⟨rfl, hb⟩
      have V2 := Lib.hid hb
      clear hb h0 h1 h2 h3 h4 h5
      obtain ⟨h0, h1, h2, h3, h4, h5⟩ := KC.out _ V2.out
      have bb := (Below.refl w2.heap.size w2).drew
      have KT := Lib.hid (fun (W : World) (hb : Below w2.heap.size w2 W) => q6there_any (some ad) k cc (l.take k) x A1 c1 A2 c2 A3 c3 A4 c4 W (HTK.out W (V2.out.trans (hb.mono V2.out.size))))
      generalize thB (l.take k) x = bt at *
      generalize rgtE x = br at *
      go_wp2_with fail
      go_region_held3 (fun W => W.cell? (ad.add (k * 6)) = some (.string x.n) ∧ W.cell? ⟨(ad.add (k * 6)).block, (ad.add (k * 6)).off + 1, none⟩ = some (.string x.v) ∧ W.cell? ⟨(ad.add (k * 6)).block, (ad.add (k * 6)).off + 2, none⟩ = some (.slice A1 x.d.length c1) ∧ W.cell? ⟨(ad.add (k * 6)).block, (ad.add (k * 6)).off + 3, none⟩ = some (.slice A2 x.r.length c2) ∧ W.cell? ⟨(ad.add (k * 6)).block, (ad.add (k * 6)).off + 4, none⟩ = some (.slice A3 x.c.length c3) ∧ W.cell? ⟨(ad.add (k * 6)).block, (ad.add (k * 6)).off + 5, none⟩ = some (.slice A4 x.p.length c4) ∧ Below w2.heap.size w2 W)
        (first | (go_split_ands; refine ⟨?_, ?_, ?_, ?_, ?_, ?_, ?_⟩ <;> first | assumption | exact keep6 hbx (by assumption) | exact Below.trans (by assumption) (hbx.mono (Below.size (by assumption)))) | go_keep)
        ((go_at_call 44; (with_reducible refine (KT.out _ (by go_split_ands; assumption)).mono ?_); rintro e wx ⟨rfl, hbx⟩))
      all_goals
        go_split_ands
        have V3 := Lib.hid (show Below wr.heap.size wr _ from V2.out.trans (Below.mono (show Below w2.heap.size w2 _ by assumption) V2.out.size))
        cases br
        · have X := Lib.hid (show prE PR l = { data := #[] } from if_neg fun hh => by rw [okPk_stop (OS.out.trans (by rw [HO.out]; rfl)) l.length (by omega)] at hh; exact absurd hh.1 (by decide))
          go_wp2
          go_ret
          exact ⟨by rw [X.out]; try rfl, HB.out.trans (V3.out.mono HB.out.size)⟩
        by_cases hbt : bt = true
        · subst hbt
          have X := Lib.hid (show prE PR l = { data := #[] } from if_neg fun hh => by rw [okPk_stop (OS.out.trans (by rw [HO.out]; rfl)) l.length (by omega)] at hh; exact absurd hh.1 (by decide))
          go_wp2
          go_ret
          exact ⟨by rw [X.out]; try rfl, HB.out.trans (V3.out.mono HB.out.size)⟩
        obtain rfl : bt = false := by cases bt; rfl; exact absurd rfl hbt
        have NX := Lib.hid (show okPk l (k + 1) = true from OS.out.trans (by rw [HO.out]; rfl))
        go_wp2_with fail
        refine (KW.out x A1 c1 A2 c2 A3 c3 A4 c4 wx (HX.out _ V3.out) HSZ.out).mono ?_
        rintro e w4 ⟨⟨Aw, cw, rfl, hrw⟩, hb⟩
        have V4 := Lib.hid (V3.out.trans (hb.mono V3.out.size))
        have G4 := Lib.hid (HG.out.below rdFds_good V4.out)
        have hE := (show rdFds w4 (fun b => True ∧ b < w4.heap.size ∧ u3.ownBlock ≠ some b) (wrE x) (#[.slice Aw (wrE x).length cw] : Array Value).toList from rdFds_good.more hrw fun b hb => ⟨trivial, hb.2, fun hh => by have h8 := (HG.out.lt b hh).2; have h9 := V3.out.size; have h7 := hb.1; omega⟩)
        have hlm : ((l.take k).map wrE).length = k := by rw [List.length_map, List.length_take]; omega
        have hn1 : ((l.take k).map wrE).length + 1 ≤ maxLen := by rw [hlm]; unfold maxLen; omega
        have hn2 : (((l.take k).map wrE).length + 1) * 24 ≤ 140737488355328 := by rw [hlm]; omega
        have hs4 : w.heap.size ≤ w4.heap.size := Nat.le_trans HB.out.size V4.out.size
        clear hb hrw hlm
        go_wp2_with (at_builtin; refine wpList_grow1 w4 rfl _ _ 65 rfl rdFds_good (by decide) (fun _ => True) w.heap.size 31 fi _ 24 Tryz.underlying65 hi hz0 hz1 hz2 rfl u3 _ rfl G4.out (wrE x) _ 31 hE _ rfl rfl hn1 hn2 hs4 ?_)
        intro v5 w5 hG5 hg5
        have HB5 := Lib.hid (grow_below G4.out hg5 (HB.out.trans (V4.out.mono HB.out.size)) (Nat.le_refl _) hs4)
        have G5 := Lib.hid hG5
        clear hG5 hg5 hE
        go_wp2
        go_roundw
        case rel => exact ⟨k + 1, by omega, by go_num, NX.out, by rw [TS.out]; first | exact G5.out | (rw [List.map_take]; exact G5.out), HB5.out⟩
        case measure => simp [intOf]; omega
    · obtain rfl : k = l.length := by omega
      have HG2 := HG.out
      rw [List.take_length] at HG2
      by_cases g64 : (64 : Int) < (l.length : Int)
      · have X := Lib.hid (show prE PR l = { data := #[] } from if_neg fun hh => by have := hh.2; omega)
        clear HG2 hbel
        go_wp2
        go_ret
        exact ⟨by rw [X.out]; try rfl, HB.out⟩
      · have X := Lib.hid (show prE PR l = PR (l.map wrE) from if_pos ⟨HO.out, by omega⟩)
        have hrd := HG2.read rdFds_good
        obtain ⟨A', cp', hv', _, _⟩ := HG2.own
        rw [hv'] at hrd
        have K := Lib.hid (KZ.out _ _ _ _ wr hrd (HS.out HO.out (by omega)))
        rw [List.length_map] at hv' K
        subst hv'
        clear HG2 HG hbel hrd
        go_wp2_with fail
        refine K.out.mono ?_
        rintro e w3 ⟨rfl, hb3⟩
        go_wp2
        go_ret
        exact ⟨by rw [X.out]; try rfl, bel66 HB.out hb3 HB.out.size⟩
end Go.Proofs.YtmlakjemgmeffaaGreatDoor
end

section
set_option maxRecDepth 100000
set_option linter.unusedVariables false
set_option linter.unusedSimpArgs false
namespace Go.Proofs.YtmlakjemgmeffaaGreatDoor
open Go.RowKit
theorem digit5_any (c : Nat) (w : World) : Calls Tryz.prog 180 #[.int .u8 (c : Int)] w fun e w' => e = .returned (.bool (digB c)) ∧ w = w' := by
  have X := Lib.hid (show digB c = (decide ((48 : Int) ≤ c) && decide ((c : Int) ≤ 57)) by unfold digB; rw [Bool.eq_iff_iff]; simp; omega)
  go_enter Tryz.func180, Tryz.ntmps180
  go_wp2
  all_goals
    go_ret
    refine ⟨congrArg (fun b => Ending.returned (.bool b)) ?_, rfl⟩
    rw [X.out, Bool.eq_iff_iff]
    simp
    omega
theorem letter5_any (c : Nat) (w : World) : Calls Tryz.prog 179 #[.int .u8 (c : Int)] w fun e w' => e = .returned (.bool (letB c)) ∧ w = w' := by
  have X := Lib.hid (show letB c = ((decide ((97 : Int) ≤ c) && decide ((c : Int) ≤ 122)) || (decide ((65 : Int) ≤ c) && decide ((c : Int) ≤ 90))) by unfold letB; rw [Bool.eq_iff_iff]; simp; omega)
  go_enter Tryz.func179, Tryz.ntmps179
  go_wp2
  all_goals
    go_ret
    refine ⟨congrArg (fun b => Ending.returned (.bool b)) ?_, rfl⟩
    rw [X.out, Bool.eq_iff_iff]
    simp
    omega
set_option maxHeartbeats 1000000 in
theorem low5_any (s : ByteArray) (w : World) (hs : s.size ≤ maxLen) : Calls Tryz.prog 161 #[.string s] w fun e w' => e = .returned (.bool (lowB (B s))) ∧ Below w.heap.size w w' := by
  unfold maxLen at hs
  obtain ⟨cap, w1, hcv, hb, hcells⟩ := bytes_cells w s
  have HB := Lib.hid hb
  have HC := Lib.hid hcells
  clear hb hcells
  go_enter Tryz.func161, Tryz.ntmps161
  go_wp2
  clear hcv
  go_loop [8] (fun i => ∃ k : Nat, k ≤ s.size ∧ i = .int .i64 k ∧ lowB (B s) = lowB ((B s).drop k)) (fun i => s.size - (intOf i).toNat)
  case atStart => exact ⟨0, Nat.zero_le _, rfl, rfl⟩
  case round =>
    obtain ⟨k, hk, rfl, hl⟩ := hrel
    have HL := Lib.hid hl
    clear hl
    by_cases hlt : k < s.size
    · have BD := Lib.hid (B_drop s k hlt)
      have hb := byte_le s k hlt
      have hc := HC.out k hlt
      by_cases h32 : s[k].toNat < 32
      · have hd : (s[k].toNat : Int) < 32 := by omega
        have X := Lib.hid (show lowB (B s) = true by rw [HL.out, BD.out, low_cons, decide_eq_true h32]; rfl)
        clear h32
        go_wp2
        go_ret
        exact ⟨by rw [X.out]; try rfl, HB.out⟩
      · have hd : ¬ (s[k].toNat : Int) < 32 := by omega
        have X := Lib.hid (show lowB (B s) = lowB ((B s).drop (k + 1)) by rw [HL.out, BD.out, low_cons, decide_eq_false h32]; rfl)
        clear h32
        go_wp2
        go_round
        case rel => exact ⟨k + 1, by omega, by go_num, X.out⟩
        case measure => simp [intOf]; omega
    · have X := Lib.hid (show lowB (B s) = false by rw [HL.out, B_drop_end s k (by omega)]; rfl)
      go_wp2
      go_ret
      exact ⟨by rw [X.out]; try rfl, HB.out⟩
theorem fn_is {s : ByteArray} (h0 : 0 < s.size) (h40 : s.size ≤ 40) (hl : letB s[0].toNat = true) : fnB (B s) = (B s).all nmC := by
  have h := B_drop s 0 h0
  rw [List.drop_zero] at h
  have hlen := B_len s
  rw [h] at hlen ⊢
  simp only [List.length_cons] at hlen
  rw [fnB_cons, List.all_cons, hl, decide_eq_true (by omega)]
  have : nmC s[0].toNat = true := by unfold nmC; rw [hl]; rfl
  rw [this, Bool.and_true]
theorem fn_big {s : ByteArray} (h : 40 < s.size) : fnB (B s) = false := by
  have hd := B_drop s 0 (by omega)
  rw [List.drop_zero] at hd
  have hlen := B_len s
  rw [hd] at hlen ⊢
  simp only [List.length_cons] at hlen
  rw [fnB_cons, decide_eq_false (by omega), Bool.and_false]
theorem fn_let {s : ByteArray} (h0 : 0 < s.size) (hl : letB s[0].toNat = false) : fnB (B s) = false := by
  have hd := B_drop s 0 h0
  rw [List.drop_zero] at hd
  rw [hd, fnB_cons, hl]; rfl
set_option maxHeartbeats 1000000 in
theorem name5_any (s : ByteArray) (w : World) (hs : s.size ≤ maxLen) : Calls Tryz.prog 141 #[.string s] w fun e w' => e = .returned (.bool (fnB (B s))) ∧ Below w.heap.size w w' := by
  unfold maxLen at hs
  have em := emp_eq s
  by_cases h0 : B s = []
  · rw [decide_eq_true h0] at em
    have X := Lib.hid (show fnB (B s) = false by rw [h0]; rfl)
    clear h0
    go_enter Tryz.func141, Tryz.ntmps141
    go_wp2
    go_ret
    exact ⟨by rw [X.out]; try rfl, Below.refl _ _⟩
  · rw [decide_eq_false h0] at em
    have hs0 : 0 < s.size := by
      rcases Nat.eq_zero_or_pos s.size with h | h
      · exact absurd (List.eq_nil_of_length_eq_zero (by rw [B_len]; exact h)) h0
      · exact h
    clear h0
    by_cases h40 : 40 < s.size
    · have X := Lib.hid (fn_big h40)
      have p : (40 : Int) < (s.size : Int) := by omega
      clear h40
      go_enter Tryz.func141, Tryz.ntmps141
      go_wp2
      go_ret
      exact ⟨by rw [X.out]; try rfl, Below.refl _ _⟩
    · have p : decide ((40 : Int) < (s.size : Int)) = false := by rw [decide_eq_false_iff_not]; omega
      have hb0 := byte_le s 0 hs0
      have K0 := Lib.hid (fun w => letter5_any s[0].toNat w)
      cases hl0 : letB s[0].toNat
      · rw [hl0] at K0
        have X := Lib.hid (fn_let hs0 hl0)
        clear hl0
        go_enter Tryz.func141, Tryz.ntmps141
        go_wp2_with (go_at_call 179; (with_reducible refine (K0.out _).mono ?_); rintro e w' ⟨rfl, rfl⟩)
        go_ret
        exact ⟨by rw [X.out]; try rfl, Below.refl _ _⟩
      · rw [hl0] at K0
        have FN := Lib.hid (fn_is hs0 (by omega) hl0)
        obtain ⟨cap, w1, hcv, hb, hcells⟩ := bytes_cells w s
        have HB := Lib.hid hb
        have HC := Lib.hid hcells
        have hlen : s.size ≤ 40 := by omega
        clear hb hcells hl0
        go_enter Tryz.func141, Tryz.ntmps141
        go_wp2_with (go_at_call 179; (with_reducible refine (K0.out _).mono ?_); rintro e w' ⟨rfl, rfl⟩)
        clear hcv
        go_loop [21] (fun x => ∃ k : Nat, k ≤ s.size ∧ x = .int .i64 k ∧ (B s).all nmC = ((B s).drop k).all nmC) (fun x => s.size - (intOf x).toNat)
        case atStart => exact ⟨0, Nat.zero_le _, rfl, rfl⟩
        case round =>
          obtain ⟨k, hk, rfl, hno⟩ := hrel
          have HN := Lib.hid hno
          clear hno
          by_cases hlt : k < s.size
          · have BD := Lib.hid (B_drop s k hlt)
            have hb := byte_le s k hlt
            have hc := HC.out k hlt
            have KL := Lib.hid (fun w => letter5_any s[k].toNat w)
            have KD := Lib.hid (fun w => digit5_any s[k].toNat w)
            have NX := Lib.hid (show nmC s[k].toNat = true → (B s).all nmC = ((B s).drop (k + 1)).all nmC from fun h => by rw [HN.out, BD.out, List.all_cons, h, Bool.true_and])
            have NN := Lib.hid (show nmC s[k].toNat = false → fnB (B s) = false from fun h => by rw [FN.out, HN.out, BD.out, List.all_cons, h, Bool.false_and])
            have NC := Lib.hid (show nmC s[k].toNat = (letB s[k].toNat || digB s[k].toNat || decide (s[k].toNat = 45)) from rfl)
            cases hl : letB s[k].toNat
            · rw [hl] at KL NC
              clear hl
              cases hd : digB s[k].toNat
              · rw [hd] at KD NC
                clear hd
                by_cases h45 : s[k].toNat = 45
                · have p1 : ((s[k].toNat : Int) != 45) = false := by rw [h45]; rfl
                  have Y := Lib.hid (NX.out (by rw [NC.out, decide_eq_true h45]; rfl))
                  clear h45
                  go_wp2_with (first | (go_at_call 179; (with_reducible refine (KL.out _).mono ?_); rintro e w' ⟨rfl, rfl⟩) | (go_at_call 180; (with_reducible refine (KD.out _).mono ?_); rintro e w' ⟨rfl, rfl⟩))
                  go_round
                  case rel => exact ⟨k + 1, by omega, by go_num, Y.out⟩
                  case measure => simp [intOf]; omega
                · have p1 : ((s[k].toNat : Int) != 45) = true := by rw [bne_iff_ne]; omega
                  have X := Lib.hid (NN.out (by rw [NC.out, decide_eq_false h45]; rfl))
                  clear h45
                  go_wp2_with (first | (go_at_call 179; (with_reducible refine (KL.out _).mono ?_); rintro e w' ⟨rfl, rfl⟩) | (go_at_call 180; (with_reducible refine (KD.out _).mono ?_); rintro e w' ⟨rfl, rfl⟩))
                  go_ret
                  exact ⟨by rw [X.out]; try rfl, HB.out⟩
              · rw [hd] at KD NC
                clear hd
                have Y := Lib.hid (NX.out (by rw [NC.out]; rfl))
                go_wp2_with (first | (go_at_call 179; (with_reducible refine (KL.out _).mono ?_); rintro e w' ⟨rfl, rfl⟩) | (go_at_call 180; (with_reducible refine (KD.out _).mono ?_); rintro e w' ⟨rfl, rfl⟩))
                go_round
                case rel => exact ⟨k + 1, by omega, by go_num, Y.out⟩
                case measure => simp [intOf]; omega
            · rw [hl] at KL NC
              clear hl
              have Y := Lib.hid (NX.out (by rw [NC.out]; rfl))
              go_wp2_with (go_at_call 179; (with_reducible refine (KL.out _).mono ?_); rintro e w' ⟨rfl, rfl⟩)
              go_round
              case rel => exact ⟨k + 1, by omega, by go_num, Y.out⟩
              case measure => simp [intOf]; omega
          · have X := Lib.hid (show fnB (B s) = true by rw [FN.out, HN.out, B_drop_end s k (by omega)]; rfl)
            go_wp2
            go_ret
            exact ⟨by rw [X.out]; try rfl, HB.out⟩
end Go.Proofs.YtmlakjemgmeffaaGreatDoor
end

section
set_option maxRecDepth 100000
set_option linter.unusedVariables false
set_option linter.unusedSimpArgs false
namespace Go.Proofs.YtmlakjemgmeffaaGreatDoor
open Go.RowKit
theorem nm_le (l : List Nat) : (nmOf l).length ≤ l.length := by
  unfold nmOf
  exact (List.takeWhile_prefix _).length_le
theorem nm_take (l : List Nat) : l.take (nmOf l).length = nmOf l := by
  obtain ⟨r, hr⟩ := List.takeWhile_prefix (p := fun c => c != 58) (l := l)
  have : (nmOf l ++ r).take (nmOf l).length = nmOf l := by simp
  rwa [show nmOf l ++ r = l from hr] at this
structure Fr (N r : Nat) (W W' : World) : Prop where
  bel : Below r W W'
  mid : ∀ b, r < b → b < N → W'.heap[b]? = W.heap[b]?
theorem Fr.refl (N r : Nat) (W : World) : Fr N r W W := ⟨Below.refl _ _, fun _ _ _ => rfl⟩
theorem Fr.trans {N r : Nat} {a b c : World} (h : Fr N r a b) (k : Fr N r b c) : Fr N r a c := ⟨h.bel.trans k.bel, fun i h1 h2 => (k.mid i h1 h2).trans (h.mid i h1 h2)⟩
theorem Fr.of {N r : Nat} {W W' : World} (h : Below N W W') (hr : r ≤ N) : Fr N r W W' := ⟨h.mono hr, fun b _ hb => h.block b hb⟩
theorem Fr.drewN {N r : Nat} {W W' : World} (h : Fr N r W W') (n : Nat) : Fr N r W (W'.drewN n) := ⟨belD h.bel n, h.mid⟩
theorem Fr.set {N r : Nat} {W W' : World} (h : Fr N r W W') {p : Addr} (hp : p.block = r ∨ N ≤ p.block) (hN : r ≤ N) (u : Value) : Fr N r W (W'.setCell p u) :=
  ⟨h.bel.setCell (by rcases hp with h | h <;> omega) u, fun b h1 h2 => (heap_setCell_other W' p b u (by rcases hp with h | h <;> omega)).trans (h.mid b h1 h2)⟩
structure RdR (W : World) (N r : Nat) (t : RS) : Prop where
  f0 : W.frozen? ⟨r, 0, none⟩ = false
  f1 : W.frozen? ⟨r, 1, none⟩ = false
  c1 : W.cell? ⟨r, 1, none⟩ = some (.bool t.o)
  g : ∃ v, W.cell? ⟨r, 0, none⟩ = some v ∧ Grow rdFds 1 (fun b => N ≤ b) W N 31 v t.l
theorem blk_of {W W' : World} {r : Nat} (h : W'.heap[r]? = W.heap[r]?) (o : Nat) : W'.cell? ⟨r, o, none⟩ = W.cell? ⟨r, o, none⟩ ∧ W'.frozen? ⟨r, o, none⟩ = W.frozen? ⟨r, o, none⟩ :=
  ⟨World.cell?_of_block (a := ⟨r, o, none⟩) h, World.frozen?_of_block (a := ⟨r, o, none⟩) h⟩
theorem RdR.below {W W' : World} {N r : Nat} {t : RS} (h : RdR W N r t) (hb : Below W.heap.size W W') (hr : r < W.heap.size) : RdR W' N r t := by
  obtain ⟨v, h1, h2⟩ := h.g
  obtain ⟨a0, b0⟩ := blk_of (hb.block r hr) 0
  obtain ⟨a1, b1⟩ := blk_of (hb.block r hr) 1
  exact ⟨b0.trans h.f0, b1.trans h.f1, a1.trans h.c1, v, a0.trans h1, h2.below rdFds_good hb⟩
end Go.Proofs.YtmlakjemgmeffaaGreatDoor
end
