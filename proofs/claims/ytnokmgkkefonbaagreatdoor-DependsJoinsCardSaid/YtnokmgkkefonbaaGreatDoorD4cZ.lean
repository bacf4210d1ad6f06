/- Strings as data; the contracts of the document's own pieces and Trim. -/
import Derived.Test.YtnokmgkkefonbaaGreatDoorDepPZ
import Derived.WalkSpells
import Derived.RegionTactic
set_option maxRecDepth 100000
set_option linter.unusedVariables false
set_option linter.unusedSimpArgs false
namespace Go.Proofs.YtnokmgkkefonbaaGreatDoor
open Go.RowKit
/-- A string that reads as a list of numbers. -/
def rdStr : Rd (List Nat) := fun _ _ l cs => ∃ s : ByteArray, cs = [.string s] ∧ B s = l
theorem rdStr_good : Good rdStr 1 := ⟨fun h _ => h, fun h _ => h, fun h _ _ => h, fun h => by obtain ⟨s, rfl, _⟩ := h; rfl, fun h u hu => by obtain ⟨s, rfl, _⟩ := h; rw [List.mem_singleton.1 hu]; rfl⟩
abbrev rdStrs : Rd (List (List Nat)) := rdRow 1 rdStr
theorem rdStrs_good : Good rdStrs 1 := rdRow_good rdStr_good
theorem rdStrs_at {w : World} {S : Nat → Prop} {l : List (List Nat)} {A : Option Addr} {n c : Nat} (h : rdStrs w S l [.slice A n c]) : n = l.length ∧ n ≤ c ∧ c ≤ maxLen ∧ ∀ k (hk : k < l.length), ∃ ad s, A = some ad ∧ S ad.block ∧
    w.cell? (ad.add k) = some (.string s) ∧ B s = l[k] := by
  obtain ⟨A', c', e, h1, h2, h⟩ := h
  simp only [List.cons.injEq, Value.slice.injEq, and_true] at e
  obtain ⟨rfl, rfl, rfl⟩ := e
  refine ⟨rfl, h1, h2, fun k hk => ?_⟩
  obtain ⟨ad, es, e, hS, ⟨s, rfl, hs⟩, hl, hc⟩ := h k hk
  have := hc 0 _ rfl
  rw [Nat.mul_one] at this
  exact ⟨ad, s, e, hS, this, hs⟩
theorem str_info : (Tryz.prog.info? 9).map (fun i => (i.zero, i.size, i.bytes)) = some (some (.string { data := #[] }), 1, 16) := by kernel_rfl
/-- The pieces so far: i is where the walk stands, fr where the piece began. -/
def PcInv (c : Nat) (l : List Nat) (out : List (List Nat)) (fr i : Nat) : Prop := fr ≤ i ∧ cutBy c l = out ++ preH ((l.drop fr).take (i - fr)) (cutBy c (l.drop i))
theorem pc_start (c : Nat) (l : List Nat) : PcInv c l [] 0 0 := ⟨Nat.le_refl _, by simp [preH_nil (cutBy_ne _ _)]⟩
theorem pc_cut {c : Nat} {l : List Nat} {out : List (List Nat)} {fr i : Nat} (h : PcInv c l out fr i) (hi : i < l.length) (hc : l.getD i 0 = c) : PcInv c l (out ++ [(l.drop fr).take (i - fr)]) (i + 1) (i + 1) := by
  refine ⟨Nat.le_refl _, ?_⟩
  obtain ⟨h1, h2⟩ := h
  rw [List.getD_eq_getElem?_getD, List.getElem?_eq_getElem hi, Option.getD_some] at hc
  rw [List.drop_eq_getElem_cons hi] at h2
  conv at h2 => rhs; unfold cutBy
  rw [if_pos hc] at h2
  rw [h2, Nat.sub_self, List.take_zero, preH_nil (cutBy_ne _ _)]
  simp [preH]
theorem pc_on {c : Nat} {l : List Nat} {out : List (List Nat)} {fr i : Nat} (h : PcInv c l out fr i) (hi : i < l.length) (hc : l.getD i 0 ≠ c) : PcInv c l out fr (i + 1) := by
  obtain ⟨h1, h2⟩ := h
  refine ⟨by omega, ?_⟩
  rw [List.getD_eq_getElem?_getD, List.getElem?_eq_getElem hi, Option.getD_some] at hc
  rw [List.drop_eq_getElem_cons hi] at h2
  conv at h2 => rhs; unfold cutBy
  rw [if_neg hc, preH_preH] at h2
  rw [h2]
  congr 2
  rw [show i + 1 - fr = (i - fr) + 1 by omega, List.take_succ_eq_append_getElem (by rw [List.length_drop]; omega)]
  congr 2
  rw [List.getElem_drop]
  congr 1
  omega
theorem pc_end {c : Nat} {l : List Nat} {out : List (List Nat)} {fr : Nat} (h : PcInv c l out fr l.length) : cutBy c l = out ++ [l.drop fr] := by
  obtain ⟨h1, h2⟩ := h
  rw [h2, List.drop_length]
  simp only [cutBy, preH, List.append_nil]
  rw [List.take_of_length_le (by rw [List.length_drop]; omega)]
theorem pc_len {c : Nat} {l : List Nat} {out : List (List Nat)} {fr i : Nat} (h : PcInv c l out fr i) : out.length ≤ l.length := by
  have := congrArg List.length h.2
  rw [cutBy_len, List.length_append, preH_len _ (cutBy_ne _ _), cutBy_len] at this
  have h2 := List.count_le_length (a := c) (l := l)
  omega
set_option maxHeartbeats 1000000 in
theorem q4pieces_any (s : ByteArray) (c : Nat) (hc : c < 256) (w : World) (hs : s.size ≤ 65536) :
    Calls Tryz.prog 31 #[.string s, .int .u8 (c : Int)] w fun e w' => (∃ A n cp, e = .returned (.slice A n cp) ∧ rdStrs w' (lt_ w'.heap.size) (cutBy c (B s)) [.slice A n cp]) ∧ Below w.heap.size w w' := by
  obtain ⟨i0, hi, hz0, hz1, hz2⟩ := info_parts str_info
  have hlen := B_len s
  go_enter Tryz.func31, Tryz.ntmps31
  go_wp2
  go_loopw [5, 6, 7] (fun v f i wr => ∃ (out : List (List Nat)) (fr k : Nat), k ≤ s.size ∧ i = .int .i64 k ∧ f = .int .i64 fr ∧ PcInv c (B s) out fr k ∧ Grow rdStr 1 (fun _ => True) wr w.heap.size 9 v out ∧ Below w.heap.size w wr) (fun _ _ i _ => s.size - (intOf i).toNat)
  case atStart => exact ⟨[], 0, 0, Nat.zero_le _, rfl, rfl, pc_start _ _, Grow.nil _ _ _ _, Below.refl _ _⟩
  case round =>
    obtain ⟨out, fr, k, hk, rfl, rfl, hP, hG, hbel⟩ := hrel
    have hfr := hP.1
    have hol := pc_len hP
    rw [hlen] at hol
    by_cases hlt : k < s.size
    · have hgd := B_getD s k hlt
      have hb256 := byte_le s k hlt
      have hPC := Lib.hid (fun h => pc_cut (c := c) hP (by rw [hlen]; exact hlt) h)
      have hPO := Lib.hid (fun h => pc_on (c := c) hP (by rw [hlen]; exact hlt) h)
      rw [hgd] at hPC hPO
      have HB := Lib.hid hbel
      have hbs := hbel.size
      clear hP hbel hgd
      by_cases he : s[k].toNat = c
      · have hd : ((s[k].toNat : Int) == (c : Int)) = true := by rw [beq_iff_eq]; omega
        have PC := Lib.hid (hPC.out he)
        clear hPC hPO he
        have hE := (show rdStr wr (fun b => True ∧ b < wr.heap.size ∧ u5.ownBlock ≠ some b) (((B s).drop fr).take (k - fr)) (#[Value.string (s.extract fr k)] : Array Value).toList from ⟨_, rfl, B_extract s fr k⟩)
        have hn1 : out.length + 1 ≤ maxLen := by unfold maxLen; omega
        have hn2 : (out.length + 1) * 16 ≤ 140737488355328 := by omega
        go_wp2_with (at_builtin; refine wpList_grow1 _ rfl _ _ 54 rfl rdStr_good (by decide) (fun _ => True) w.heap.size 9 i0 (.string { data := #[] }) 16 Tryz.underlying54 hi hz0 hz1 hz2 rfl _ out rfl hG _ _ 9 hE _ rfl rfl hn1 hn2 hbs ?_)
        intro v' w' hG' hgr
        have HB' := Lib.hid (grow_below hG hgr HB.out (Nat.le_refl _) hbs)
        clear hG hgr hE
        go_wp2
        go_roundw
        case rel => exact ⟨_, k + 1, k + 1, by omega, by go_num, by go_num, PC.out, hG', HB'.out⟩
        case measure => first | (simp [intOf]; omega) | simp [intOf]
      · have hd : ((s[k].toNat : Int) == (c : Int)) = false := by rw [beq_eq_false_iff_ne]; omega
        have PC := Lib.hid (hPO.out he)
        clear hPC hPO he
        go_wp2
        go_roundw
        case rel => exact ⟨_, fr, k + 1, by omega, by go_num, rfl, PC.out, hG, HB.out⟩
        case measure => first | (simp [intOf]; omega) | simp [intOf]
    · obtain rfl : k = s.size := by omega
      have PE := Lib.hid (show cutBy c (B s) = out ++ [(B s).drop fr] from pc_end (by rw [hlen]; exact hP))
      have hE := (show rdStr wr (fun b => True ∧ b < wr.heap.size ∧ u5.ownBlock ≠ some b) ((B s).drop fr) (#[Value.string (s.extract fr s.size)] : Array Value).toList from ⟨_, rfl, by rw [B_extract, List.take_of_length_le (by rw [List.length_drop, hlen]; omega)]⟩)
      have hn1 : out.length + 1 ≤ maxLen := by unfold maxLen; omega
      have hn2 : (out.length + 1) * 16 ≤ 140737488355328 := by omega
      have HB := Lib.hid hbel
      have hbs := hbel.size
      clear hP hbel
      go_wp2_with (at_builtin; refine wpList_grow1 _ rfl _ _ 54 rfl rdStr_good (by decide) (fun _ => True) w.heap.size 9 i0 (.string { data := #[] }) 16 Tryz.underlying54 hi hz0 hz1 hz2 rfl _ out rfl hG _ _ 9 hE _ rfl rfl hn1 hn2 hbs ?_)
      intro v' w' hG' hgr
      have HB' := Lib.hid (grow_below hG hgr HB.out (Nat.le_refl _) hbs)
      clear hG hgr hE
      obtain ⟨A, cp, rfl, _, _⟩ := hG'.own
      go_wp2
      go_ret
      exact ⟨⟨_, _, _, rfl, by rw [PE.out]; exact hG'.read rdStr_good⟩, HB'.out⟩
/-- Blanks counted off at the left; then at the right. -/
theorem trim_done {l : List Nat} {i k : Nat} (hik : i ≤ k) (hk : k ≤ l.length) (h1 : ∀ j, j < i → l.getD j 0 = 32) (h2 : ∀ j, k ≤ j → j < l.length → l.getD j 0 = 32)
    (h3 : i < k → l.getD i 0 ≠ 32) (h4 : i < k → l.getD (k - 1) 0 ≠ 32) : (l.drop i).take (k - i) = trm l := by
  have e : l = l.take i ++ ((l.drop i).take (k - i) ++ l.drop k) := by
    rw [show l.drop k = (l.drop i).drop (k - i) by rw [List.drop_drop]; congr 1; omega, List.take_append_drop, List.take_append_drop]
  have gd : ∀ j (hj : j < l.length), l.getD j 0 = l[j] := fun j hj => by rw [List.getD_eq_getElem?_getD, List.getElem?_eq_getElem hj]; rfl
  conv => rhs; rw [e]
  refine (trm_unique ?_ ?_ ?_ ?_).symm
  · intro x hx
    obtain ⟨j, hj, rfl⟩ := List.getElem_of_mem hx
    rw [List.length_take] at hj
    rw [List.getElem_take, ← gd j (by omega)]; exact h1 j (by omega)
  · intro x hx
    obtain ⟨j, hj, rfl⟩ := List.getElem_of_mem hx
    rw [List.length_drop] at hj
    rw [List.getElem_drop, ← gd (k + j) (by omega)]; exact h2 _ (by omega) (by omega)
  · intro x r hx
    have hl := congrArg List.length hx
    rw [List.length_take, List.length_drop, List.length_cons] at hl
    have h0 := congrArg (·[0]?) hx
    simp only [List.getElem?_cons_zero] at h0
    rw [List.getElem?_take_of_lt (by omega), List.getElem?_drop, Nat.add_zero, List.getElem?_eq_getElem (by omega)] at h0
    injection h0 with h0
    rw [← h0, ← gd i (by omega)]; exact h3 (by omega)
  · intro x r hx
    have hl := congrArg List.length hx
    rw [List.length_take, List.length_drop, List.length_append, List.length_singleton] at hl
    have h0 := congrArg (·[r.length]?) hx
    simp only [List.getElem?_append_right (Nat.le_refl _), Nat.sub_self, List.getElem?_cons_zero] at h0
    rw [List.getElem?_take_of_lt (by omega), List.getElem?_drop, List.getElem?_eq_getElem (by omega)] at h0
    injection h0 with h0
    rw [← h0, ← gd (i + r.length) (by omega), show i + r.length = k - 1 by omega]; exact h4 (by omega)
set_option maxHeartbeats 1000000 in
theorem q4trim_any (s : ByteArray) (w : World) (hs : s.size ≤ 65536) :
    Calls Tryz.prog 33 #[.string s] w fun e w' => e = .returned (.string (mk (trm (B s)))) ∧ w = w' := by
  have hlen := B_len s
  go_enter Tryz.func33, Tryz.ntmps33
  go_wp2
  go_loop [3] (fun i => ∃ j : Nat, j ≤ s.size ∧ i = .int .i64 j ∧ (∀ x, x < j → (B s).getD x 0 = 32)) (fun i => s.size - (intOf i).toNat)
  case atStart => exact ⟨0, Nat.zero_le _, rfl, fun x hx => absurd hx (by omega)⟩
  case round =>
    obtain ⟨j, hj, rfl, h1⟩ := hrel
    have H1 := Lib.hid h1
    by_cases hb : j < s.size ∧ (B s).getD j 0 = 32
    · obtain ⟨hlt, he⟩ := hb
      have hgd := B_getD s j hlt
      have hd : ((s[j].toNat : Int) == 32) = true := by rw [beq_iff_eq]; omega
      have HE := Lib.hid he
      clear h1 he hgd
      go_wp2
      go_round
      case rel => exact ⟨j + 1, by omega, by go_num, fun x hx => by
        by_cases hx' : x < j
        · exact H1.out x hx'
        · obtain rfl : x = j := by omega
          exact HE.out⟩
      case measure => first | (simp [intOf]; omega) | simp [intOf]
    · have H3 := Lib.hid (show j < s.size → (B s).getD j 0 ≠ 32 from fun hlt he => hb ⟨hlt, he⟩)
      clear h1 hb
      by_cases hlt : j < s.size
      · have hgd := B_getD s j hlt
        have hne := H3.out hlt
        have hd : ((s[j].toNat : Int) == 32) = false := by rw [beq_eq_false_iff_ne]; omega
        clear hgd hne
        go_wp2
        go_loop [4] (fun i => ∃ k : Nat, j ≤ k ∧ k ≤ s.size ∧ i = .int .i64 k ∧ (∀ x, k ≤ x → x < s.size → (B s).getD x 0 = 32)) (fun i => (intOf i).toNat)
        case atStart => exact ⟨s.size, hj, Nat.le_refl _, rfl, fun x hx hx' => absurd hx (by omega)⟩
        case round =>
          obtain ⟨k, hjk, hks, rfl, h2⟩ := hrel
          have H2 := Lib.hid h2
          by_cases hb : j < k ∧ (B s).getD (k - 1) 0 = 32
          · obtain ⟨hlt2, he⟩ := hb
            obtain ⟨q, rfl⟩ : ∃ q, k = q + 1 := ⟨k - 1, by omega⟩
            rw [Nat.add_sub_cancel] at he
            have hq : q < s.size := by omega
            have hgd := B_getD s q hq
            have hd2 : ((s[q].toNat : Int) == 32) = true := by rw [beq_iff_eq]; omega
            have HE := Lib.hid he
            clear h2 he hgd
            go_wp2
            go_round
            case rel => exact ⟨q, by omega, by omega, by go_num, fun x hx hx' => by
              by_cases hx2 : x = q
              · subst hx2; exact HE.out
              · exact H2.out x (by omega) hx'⟩
            case measure => first | (simp [intOf]; omega) | simp [intOf]
          · have X := Lib.hid (trim_done (l := B s) (i := j) (k := k) hjk (by rw [hlen]; exact hks) H1.out (by rw [hlen]; exact H2.out) (fun h => H3.out (by omega)) (fun h e => hb ⟨h, e⟩))
            by_cases hlt2 : j < k
            · obtain ⟨q, rfl⟩ : ∃ q, k = q + 1 := ⟨k - 1, by omega⟩
              have hq : q < s.size := by omega
              have hgd := B_getD s q hq
              have hne : ¬ (B s).getD q 0 = 32 := fun e => hb ⟨hlt2, by rw [Nat.add_sub_cancel]; exact e⟩
              have hd2 : ((s[q].toNat : Int) == 32) = false := by rw [beq_eq_false_iff_ne]; omega
              clear h2 hb hgd hne
              go_wp2
              go_ret
              exact ⟨by rw [← X.out, ← B_extract, mk_B]; try rfl, rfl⟩
            · obtain rfl : k = j := by omega
              have X0 : mk (trm (B s)) = ByteArray.empty := by rw [← X.out, Nat.sub_self, List.take_zero]; rfl
              clear h2 hb X
              go_wp2
              go_ret
              exact ⟨rfl, rfl⟩
      · obtain rfl : j = s.size := by omega
        have X := Lib.hid (trim_done (l := B s) (i := s.size) (k := s.size) (Nat.le_refl _) (by rw [hlen]; exact Nat.le_refl _) H1.out (fun j h1 h2 => absurd h2 (by rw [hlen]; omega)) (fun h => absurd h (by omega)) (fun h => absurd h (by omega)))
        have X0 : mk (trm (B s)) = ByteArray.empty := by rw [← X.out, Nat.sub_self, List.take_zero]; rfl
        clear X H1 H3
        go_wp2
        refine wp_loop_rounds 1 ?_
        rw [rounds_succ]
        go_wp2
        go_ret
        exact ⟨by first | rfl | (rw [X0]; rfl), rfl⟩
end Go.Proofs.YtnokmgkkefonbaaGreatDoor
