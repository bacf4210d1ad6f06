/- strings.Join of a row of the call's own; the contracts of joined and of the program's Print of groups. -/
import Derived.Test.YtmlakjemgmeffaaGreatDoorQAF
import Derived.Test.YtmlakjemgmeffaaGreatDoorNP
import Derived.Test.YtmlakjemgmeffaaGreatDoorND
import Derived.WalkSpells
import Derived.RegionTactic
import Derived.Lib.Join
set_option maxRecDepth 100000
set_option linter.unusedVariables false
set_option linter.unusedSimpArgs false
namespace Go.Proofs.YtmlakjemgmeffaaGreatDoor
open Go.RowKit
theorem sjoin_any {T : Nat → Prop} {base : Nat} {e : TypeId} {v : Value} {l : List (List Nat)} (w : World) (hG : Grow rdStr 1 T w base e v l) (sep : ByteArray) (hl : l.length ≤ 1000) (hs : ∀ t ∈ l, t.length ≤ 100000) (hsep : sep.size ≤ 100) :
    Calls Tryz.prog 104 #[v, .string sep] w fun e w' => e = .returned (.string (mk (joinL (B sep) l))) ∧ Below w.heap.size w w' := by
  have hrd := hG.read rdStr_good
  obtain ⟨css, hcl, ho, hE⟩ := hG
  rcases ho.2 with ⟨rfl, h0⟩ | ⟨gb, cap, cur, rfl, hb, hg, hn, hm, hcs, ht⟩
  · obtain rfl : l = [] := List.eq_nil_of_length_eq_zero h0
    refine (Tryz.strings_Join_none none 0 sep w).mono ?_
    rintro e w' ⟨rfl, rfl⟩
    exact ⟨rfl, Below.refl _ _⟩
  · have hat := (rdStrs_at hrd).2.2.2
    have hxs : ∀ k (hk : k < l.length), B (mk l[k]) = l[k] := fun k hk => by
      obtain ⟨ad, s, _, _, _, hB⟩ := hat k hk
      rw [← hB, mk_B]
    have hmap : (l.map mk).map B = l := by
      rw [List.map_map]
      conv => rhs; rw [← List.map_id l]
      refine List.map_congr_left fun t ht => ?_
      obtain ⟨k, hk, rfl⟩ := List.getElem_of_mem ht
      exact hxs k hk
    have hlj : (Lib.join ((l.map mk).map (·.data.toList)) sep.data.toList).length ≤ 140737488355328 := by
      have h1 := congrArg List.length (libjoin_is sep (l.map mk))
      rw [List.length_map, hmap] at h1
      rw [h1]
      have h2 := joinL_len (sep := B sep) (M := 100000) hs
      rw [B_len] at h2
      have h3 : l.length * (100000 + sep.size) ≤ 1000 * 100100 := Nat.mul_le_mul hl (by omega)
      omega
    have hlt : gb < w.heap.size := (Array.getElem?_eq_some_iff.1 hg).1
    have key := Tryz.strings_Join gb 0 cap (l.map mk) sep w (fun j x hj => by
      obtain ⟨hj1, hj2⟩ := List.getElem?_eq_some_iff.1 hj
      rw [List.length_map] at hj1
      obtain ⟨ad, s, e1, _, hc, hB⟩ := hat j hj1
      injection e1 with e1
      subst e1
      have : (⟨gb, 0, none⟩ : Addr).add j = ⟨gb, 0 + j, none⟩ := by unfold Addr.add; split <;> simp_all
      rw [this] at hc
      rw [hc, ← hj2, List.getElem_map, ← hB, mk_B]) hlt (by rw [List.length_map]; omega) (by rw [List.length_map]; exact hn) hlj
    rw [List.length_map] at key
    refine key.mono ?_
    rintro e w' ⟨rfl, hb'⟩
    refine ⟨?_, hb'⟩
    congr 2
    refine eq_mk ?_
    have h1 := libjoin_is sep (l.map mk)
    rw [hmap] at h1
    rw [← h1]
    unfold B; simp
theorem rprint_atom (x : Atm) (w : World) (E : EnvR w) (h : rgt x = true) : Calls Tryz.prog 75 #[.agg #[.string x.n, .int .i64 x.o, .string x.v]] w fun e' w' => e' = .returned (.string (mk (txt x))) ∧ Below w.heap.size w w' := by
  have := rprint_any x.n x.o x.v w E
  unfold printA at this
  rw [if_pos (show rightA (B x.n) x.o (B x.v) = true from h)] at this
  exact this
theorem txt_len {a : Atm} (h : rgt a = true) : (txt a).length ≤ 110 := by
  have := @printA_size (B a.n) (B a.v) a.o
  unfold printA at this
  rw [if_pos (show rightA (B a.n) a.o (B a.v) = true from h)] at this
  exact this
theorem txt_lt (a : Atm) (h : rgt a = true) : ∀ c ∈ txt a, c < 256 := by
  intro c hc
  unfold txt textA at hc
  split at hc
  · exact B_lt _ c hc
  · rename_i h0
    unfold rgt rightA at h
    rw [if_neg h0] at h
    simp only [Bool.and_eq_true, decide_eq_true_eq] at h
    have : a.o = 1 ∨ a.o = 2 ∨ a.o = 3 ∨ a.o = 4 ∨ a.o = 5 := by omega
    have hs : ∀ c ∈ signL a.o, c < 256 := by rcases this with h | h | h | h | h <;> rw [h] <;> decide
    simp only [List.mem_append, List.mem_cons, List.not_mem_nil, or_false] at hc
    rcases hc with hc | rfl | rfl | hc | rfl | hc | rfl
    · exact B_lt _ c hc
    · omega
    · omega
    · exact hs c hc
    · omega
    · exact B_lt _ c hc
    · omega
set_option maxHeartbeats 1000000 in
theorem joinedA_any (A : Option Addr) (n c : Nat) (g : List Atm) (w : World) (h : rdAtms w (lt_ w.heap.size) g [.slice A n c]) (hr : ∀ a ∈ g, rgt a = true) (h6 : g.length ≤ 6) (E : EnvR w) :
    Calls Tryz.prog 74 #[.slice A n c, .string { data := #[32, 124, 32] }, .func (.func 75) #[] #[]] w fun e w' => e = .returned (.string (mk (grpS g))) ∧ Below w.heap.size w w' := by
  obtain ⟨i0, hi, hz0, hz1, hz2⟩ := info_parts str_info
  obtain ⟨rfl, hnc, hcm, _⟩ := rdAtms_at h
  have hcm' : c ≤ 9223372036854775807 := hcm
  have HE := Lib.hid E
  have HR := Lib.hid h
  have HA := Lib.hid hr
  clear E h hr
  go_enter Tryz.func74, Tryz.ntmps74
  go_wp2
  go_loopw [7, 9, 12] (fun v b i wr => ∃ k : Nat, k ≤ g.length ∧ i = .int .i64 k ∧ Grow rdStr 1 (fun _ => True) wr w.heap.size 9 v ((g.take k).map txt) ∧ Below w.heap.size w wr) (fun _ _ i _ => g.length - (intOf i).toNat)
  case atStart => exact ⟨0, Nat.zero_le _, rfl, Grow.nil _ _ _ _, Below.refl _ _⟩
  case round =>
    obtain ⟨k, hk, rfl, hG, hbel⟩ := hrel
    by_cases hlt : k < g.length
    · obtain ⟨ad, rfl, had, e0, e1, e2⟩ := (rdAtms_at (rdAtms_good.below HR.out hbel)).2.2.2 k hlt
      have TS := Lib.hid (take_snoc txt g k hlt)
      have hrk := HA.out g[k] (List.getElem_mem hlt)
      have HB := Lib.hid hbel
      have EE := Lib.hid (HE.out.below hbel)
      have hbs := hbel.size
      have hl2 : ((g.take k).map txt).length = k := by rw [List.length_map, List.length_take]; omega
      clear hbel
      generalize g[k] = x at *
      have K := Lib.hid (fun w E => rprint_atom x w E hrk)
      have hT := B_mk (txt_lt x hrk)
      generalize txt x = tx at *
      generalize mk tx = sx at *
      go_wp2_with fail
      refine (K.out _ (EE.out.alloc _)).mono ?_
      rintro e w3 ⟨rfl, hb3⟩
      have hG2 := hG.below rdStr_good (atm_box hb3)
      have HB3 := Lib.hid (bel2 HB.out (atm_box hb3) (Nat.le_refl _))
      have hE := (show rdStr w3 (fun b => True ∧ b < w3.heap.size ∧ u7.ownBlock ≠ some b) tx (#[Value.string sx] : Array Value).toList from ⟨_, rfl, hT⟩)
      have hn1 : ((g.take k).map txt).length + 1 ≤ maxLen := by rw [hl2]; unfold maxLen; omega
      have hn2 : (((g.take k).map txt).length + 1) * 16 ≤ 140737488355328 := by rw [hl2]; omega
      have hbs3 : w.heap.size ≤ w3.heap.size := HB3.out.size
      clear hG hb3 hl2
      go_wp2_with (at_builtin; refine wpList_grow1 w3 rfl _ _ 121 rfl rdStr_good (by decide) (fun _ => True) w.heap.size 9 i0 _ 16 Tryz.underlying121 hi hz0 hz1 hz2 rfl u7 _ rfl hG2 tx _ 9 hE _ rfl rfl hn1 hn2 hbs3 ?_)
      intro v' w' hG' hgr
      have HB' := Lib.hid (grow_below hG2 hgr HB3.out (Nat.le_refl _) hbs3)
      clear hG2 hgr hE
      go_wp2
      go_roundw
      case rel => exact ⟨k + 1, by omega, by go_num, by rw [TS.out, List.map_take]; exact hG', HB'.out⟩
      case measure => simp [intOf]; omega
    · obtain rfl : k = g.length := by omega
      rw [List.take_length] at hG
      have KJ := Lib.hid (sjoin_any wr hG { data := #[32, 124, 32] } (by rw [List.length_map]; omega) (fun t ht => by obtain ⟨a, ha, rfl⟩ := List.mem_map.1 ht; exact Nat.le_trans (txt_len (HA.out a ha)) (by decide)) (by decide))
      have HB := Lib.hid hbel
      obtain ⟨A', cp', hv', _, _⟩ := hG.own
      simp only [List.length_map] at hv'
      subst hv'
      clear hG hbel
      go_wp2_with fail
      refine KJ.out.mono ?_
      rintro e w3 ⟨rfl, hb3⟩
      go_wp2
      go_ret
      exact ⟨rfl, bel2 HB.out hb3 (Nat.le_refl _)⟩
theorem print1_any (A : Option Addr) (n c : Nat) (g : List Atm) (w : World) (h : rdAtms w (lt_ w.heap.size) g [.slice A n c]) (hr : ∀ a ∈ g, rgt a = true) (h6 : g.length ≤ 6) (E : EnvR w) :
    Calls Tryz.prog 73 #[.slice A n c] w fun e w' => e = .returned (.string (mk (grpS g))) ∧ Below w.heap.size w w' := by
  have K := Lib.hid (joinedA_any A n c g w h hr h6 E)
  go_enter Tryz.func73, Tryz.ntmps73
  go_wp2_with fail
  refine K.out.mono ?_
  rintro e w3 ⟨rfl, hb3⟩
  go_wp2
  go_ret
  exact ⟨rfl, hb3⟩
theorem grpS_len {g : List Atm} (hr : ∀ a ∈ g, rgt a = true) (h6 : g.length ≤ 6) : (grpS g).length ≤ 678 := by
  have := joinL_len (sep := [32, 124, 32]) (l := g.map txt) (M := 110) (fun t ht => by obtain ⟨a, ha, rfl⟩ := List.mem_map.1 ht; exact txt_len (hr a ha))
  rw [List.length_map] at this
  have h2 : g.length * (110 + [32, 124, 32].length) ≤ 6 * 113 := Nat.mul_le_mul h6 (by decide)
  exact Nat.le_trans this h2
theorem joinL_lt {sep : List Nat} {l : List (List Nat)} (hs : ∀ c ∈ sep, c < 256) (hl : ∀ t ∈ l, ∀ c ∈ t, c < 256) : ∀ c ∈ joinL sep l, c < 256 := by
  intro c hc
  rcases joinL_mem hc with h | ⟨t, ht, h⟩
  · exact hs c h
  · exact hl t ht c h
theorem grpS_lt {g : List Atm} (hr : ∀ a ∈ g, rgt a = true) : ∀ c ∈ grpS g, c < 256 :=
  joinL_lt (by decide) (fun t ht => by obtain ⟨a, ha, rfl⟩ := List.mem_map.1 ht; exact txt_lt a (hr a ha))
set_option maxHeartbeats 1000000 in
theorem joinedG_any (A : Option Addr) (n c : Nat) (g : List (List Atm)) (w : World) (h : rdGrps w (lt_ w.heap.size) g [.slice A n c]) (hr : ∀ q ∈ g, (∀ a ∈ q, rgt a = true) ∧ q.length ≤ 6) (h12 : g.length ≤ 12) (E : EnvR w) :
    Calls Tryz.prog 72 #[.slice A n c, .string { data := #[44, 32] }, .func (.func 73) #[] #[]] w fun e w' => e = .returned (.string (mk (joinL [44, 32] (g.map grpS)))) ∧ Below w.heap.size w w' := by
  obtain ⟨i0, hi, hz0, hz1, hz2⟩ := info_parts str_info
  obtain ⟨rfl, hnc, hcm, _⟩ := rdGrps_at h
  have hcm' : c ≤ 9223372036854775807 := hcm
  have HE := Lib.hid E
  have HR := Lib.hid h
  have HA := Lib.hid hr
  clear E h hr
  go_enter Tryz.func72, Tryz.ntmps72
  go_wp2
  go_loopw [7, 9, 12] (fun v b i wr => ∃ k : Nat, k ≤ g.length ∧ i = .int .i64 k ∧ Grow rdStr 1 (fun _ => True) wr w.heap.size 9 v ((g.take k).map grpS) ∧ Below w.heap.size w wr) (fun _ _ i _ => g.length - (intOf i).toNat)
  case atStart => exact ⟨0, Nat.zero_le _, rfl, Grow.nil _ _ _ _, Below.refl _ _⟩
  case round =>
    obtain ⟨k, hk, rfl, hG, hbel⟩ := hrel
    by_cases hlt : k < g.length
    · obtain ⟨ad, A', c', rfl, had, e0, e1⟩ := (rdGrps_at (rdGrps_good.below HR.out hbel)).2.2.2 k hlt
      have TS := Lib.hid (take_snoc grpS g k hlt)
      have hrk := HA.out g[k] (List.getElem_mem hlt)
      have HB := Lib.hid hbel
      have hbs := hbel.size
      have hl2 : ((g.take k).map grpS).length = k := by rw [List.length_map, List.length_take]; omega
      have K := Lib.hid (print1_any _ _ _ _ _ (rdAtms_good.up e1 hbel.size) hrk.1 hrk.2 (HE.out.below hbel))
      clear hbel e1
      generalize g[k] = x at *
      have hT := B_mk (grpS_lt hrk.1)
      generalize grpS x = tx at *
      generalize mk tx = sx at *
      go_wp2_with fail
      refine K.out.mono ?_
      rintro e w3 ⟨rfl, hb3⟩
      have hG2 := hG.below rdStr_good (hb3)
      have HB3 := Lib.hid (bel2 HB.out (hb3) (Nat.le_refl _))
      have hE := (show rdStr w3 (fun b => True ∧ b < w3.heap.size ∧ u7.ownBlock ≠ some b) tx (#[Value.string sx] : Array Value).toList from ⟨_, rfl, hT⟩)
      have hn1 : ((g.take k).map grpS).length + 1 ≤ maxLen := by rw [hl2]; unfold maxLen; omega
      have hn2 : (((g.take k).map grpS).length + 1) * 16 ≤ 140737488355328 := by rw [hl2]; omega
      have hbs3 : w.heap.size ≤ w3.heap.size := HB3.out.size
      clear hG hb3 hl2
      go_wp2_with (at_builtin; refine wpList_grow1 w3 rfl _ _ 121 rfl rdStr_good (by decide) (fun _ => True) w.heap.size 9 i0 _ 16 Tryz.underlying121 hi hz0 hz1 hz2 rfl u7 _ rfl hG2 tx _ 9 hE _ rfl rfl hn1 hn2 hbs3 ?_)
      intro v' w' hG' hgr
      have HB' := Lib.hid (grow_below hG2 hgr HB3.out (Nat.le_refl _) hbs3)
      clear hG2 hgr hE
      go_wp2
      go_roundw
      case rel => exact ⟨k + 1, by omega, by go_num, by rw [TS.out, List.map_take]; exact hG', HB'.out⟩
      case measure => simp [intOf]; omega
    · obtain rfl : k = g.length := by omega
      rw [List.take_length] at hG
      have KJ := Lib.hid (sjoin_any wr hG { data := #[44, 32] } (by rw [List.length_map]; omega) (fun t ht => by obtain ⟨a, ha, rfl⟩ := List.mem_map.1 ht; exact Nat.le_trans (grpS_len (HA.out a ha).1 (HA.out a ha).2) (by decide)) (by decide))
      have HB := Lib.hid hbel
      obtain ⟨A', cp', hv', _, _⟩ := hG.own
      simp only [List.length_map] at hv'
      subst hv'
      clear hG hbel
      go_wp2_with fail
      refine KJ.out.mono ?_
      rintro e w3 ⟨rfl, hb3⟩
      go_wp2
      go_ret
      exact ⟨rfl, bel2 HB.out hb3 (Nat.le_refl _)⟩
theorem right_parts {L : List (List Atm)} (h : rightG L = true) : (∀ q ∈ L, (∀ a ∈ q, rgt a = true) ∧ q.length ≤ 6) ∧ L.length ≤ 12 := by
  unfold rightG at h
  simp only [Bool.and_eq_true, decide_eq_true_eq, List.all_eq_true] at h
  refine ⟨fun q hq => ?_, h.1⟩
  have := h.2 q hq
  unfold rgtOne at this
  simp only [Bool.and_eq_true, decide_eq_true_eq, List.all_eq_true] at this
  exact ⟨this.2, this.1.2⟩
theorem print4_any (A : Option Addr) (n c : Nat) (L : List (List Atm)) (w : World) (h : rdGrps w (lt_ w.heap.size) L [.slice A n c]) (E : EnvR w) :
    Calls Tryz.prog 37 #[.slice A n c] w fun e w' => e = .returned (.string (mk (prtG L))) ∧ Below w.heap.size w w' := by
  have KR := Lib.hid (right4_any A n c L w h E)
  have HE := Lib.hid E
  have HR := Lib.hid h
  clear E h
  cases hr : rightG L
  · have X := Lib.hid (show prtG L = [] by unfold prtG; rw [hr]; rfl)
    rw [hr] at KR
    clear hr
    go_enter Tryz.func37, Tryz.ntmps37
    go_wp2_with fail
    refine KR.out.mono ?_
    rintro e w3 ⟨rfl, hb3⟩
    go_wp2
    go_ret
    exact ⟨by rw [X.out]; rfl, hb3⟩
  · have X := Lib.hid (show prtG L = joinL [44, 32] (L.map grpS) by unfold prtG; rw [hr]; rfl)
    have hp := right_parts hr
    have KJ := Lib.hid (fun w1 (hb : Below w.heap.size w w1) => joinedG_any A n c L w1 (rdGrps_good.up (rdGrps_good.below HR.out hb) hb.size) hp.1 hp.2 (HE.out.below hb))
    rw [hr] at KR
    clear hr hp
    go_enter Tryz.func37, Tryz.ntmps37
    go_wp2_with fail
    refine KR.out.mono ?_
    rintro e w3 ⟨rfl, hb3⟩
    go_wp2_with fail
    refine (KJ.out _ hb3).mono ?_
    rintro e w4 ⟨rfl, hb4⟩
    go_wp2
    go_ret
    exact ⟨by rw [X.out]; rfl, bel2 hb3 hb4 (Nat.le_refl _)⟩
end Go.Proofs.YtmlakjemgmeffaaGreatDoor
