/- The contracts of the document's own lines, clean, Name, value. -/
import Derived.Test.YtjfenheplkoajaaDoorS5a
import Derived.Test.YtjfenheplkoajaaDoorStzT
import Derived.Test.YtjfenheplkoajaaDoorDeep3
import Derived.Test.YtjfenheplkoajaaDoorRef2a
import Derived.WalkSpells
import Derived.RegionTactic
set_option maxRecDepth 100000
set_option linter.unusedVariables false
set_option linter.unusedSimpArgs false
namespace Go.Proofs.YtjfenheplkoajaaDoor
open Go.RowKit
theorem emp_eq (s : ByteArray) : s.toList.isEmpty = decide (B s = []) := by
  rw [toList_data]
  unfold B
  cases s.data.toList <;> simp
/-- A row of strings of the call's own reads as that, by its own block alone. -/
theorem own_strs {T : Nat → Prop} {w : World} {base : Nat} {e : TypeId} {v : Value} {l : List (List Nat)} (h : Grow rdStr 1 T w base e v l) : rdStrs w (fun b => base ≤ b ∧ b < w.heap.size) l [v] := by
  have h2 : Grow rdStr 1 (fun _ => False) w base e v l := h.flat fun _ _ _ _ _ h => h
  exact rdStrs_good.more (h2.reads rdStr_good) fun b hb => ⟨hb.2.resolve_right id, hb.1⟩
set_option maxHeartbeats 1000000 in
theorem q5lines_any (s : ByteArray) (w : World) (hs : s.size ≤ 65536) :
    Calls Tryd.prog 30 #[.string s] w fun e w' => (∃ A n cp, e = .returned (.slice A n cp) ∧ rdStrs w' (fun b => w.heap.size ≤ b ∧ b < w'.heap.size) (cutBy 10 (B s)) [.slice A n cp]) ∧ Below w.heap.size w w' := by
  obtain ⟨i0, hi, hz0, hz1, hz2⟩ := info_parts str_info
  have hlen := B_len s
  go_enter Tryd.func30, Tryd.ntmps30
  go_wp2
  go_loopw [3, 4, 5] (fun v f i wr => ∃ (out : List (List Nat)) (fr k : Nat), k ≤ s.size ∧ i = .int .i64 k ∧ f = .int .i64 fr ∧ PcInv 10 (B s) out fr k ∧ Grow rdStr 1 (fun _ => True) wr w.heap.size 9 v out ∧ Below w.heap.size w wr) (fun _ _ i _ => s.size - (intOf i).toNat)
  case atStart => exact ⟨[], 0, 0, Nat.zero_le _, rfl, rfl, pc_start _ _, Grow.nil _ _ _ _, Below.refl _ _⟩
  case round =>
    obtain ⟨out, fr, k, hk, rfl, rfl, hP, hG, hbel⟩ := hrel
    have hfr := hP.1
    have hol := pc_len hP
    rw [hlen] at hol
    by_cases hlt : k < s.size
    · have hgd := B_getD s k hlt
      have hb256 := byte_le s k hlt
      have hPC := Lib.hid (fun h => pc_cut (c := 10) hP (by rw [hlen]; exact hlt) h)
      have hPO := Lib.hid (fun h => pc_on (c := 10) hP (by rw [hlen]; exact hlt) h)
      rw [hgd] at hPC hPO
      have HB := Lib.hid hbel
      have hbs := hbel.size
      clear hP hbel hgd
      by_cases he : s[k].toNat = 10
      · have hd : ((s[k].toNat : Int) == 10) = true := by rw [beq_iff_eq]; omega
        have PC := Lib.hid (hPC.out he)
        clear hPC hPO he
        have hE := (show rdStr wr (fun b => True ∧ b < wr.heap.size ∧ u3.ownBlock ≠ some b) (((B s).drop fr).take (k - fr)) (#[Value.string (s.extract fr k)] : Array Value).toList from ⟨_, rfl, B_extract s fr k⟩)
        have hn1 : out.length + 1 ≤ maxLen := by unfold maxLen; omega
        have hn2 : (out.length + 1) * 16 ≤ 140737488355328 := by omega
        go_wp2_with (at_builtin; refine wpList_grow1 _ rfl _ _ 40 rfl rdStr_good (by decide) (fun _ => True) w.heap.size 9 i0 (.string { data := #[] }) 16 Tryd.underlying40 hi hz0 hz1 hz2 rfl _ out rfl hG _ _ 9 hE _ rfl rfl hn1 hn2 hbs ?_)
        intro v' w' hG' hgr
        have HB' := Lib.hid (grow_below hG hgr HB.out (Nat.le_refl _) hbs)
        clear hG hgr hE
        go_wp2
        go_roundw
        case rel => exact ⟨_, k + 1, k + 1, by omega, by go_num, by go_num, PC.out, hG', HB'.out⟩
        case measure => first | (simp [intOf]; omega) | simp [intOf]
      · have hd : ((s[k].toNat : Int) == 10) = false := by rw [beq_eq_false_iff_ne]; omega
        have PC := Lib.hid (hPO.out he)
        clear hPC hPO he
        go_wp2
        go_roundw
        case rel => exact ⟨_, fr, k + 1, by omega, by go_num, rfl, PC.out, hG, HB.out⟩
        case measure => first | (simp [intOf]; omega) | simp [intOf]
    · obtain rfl : k = s.size := by omega
      have PE := Lib.hid (show cutBy 10 (B s) = out ++ [(B s).drop fr] from pc_end (by rw [hlen]; exact hP))
      have hE := (show rdStr wr (fun b => True ∧ b < wr.heap.size ∧ u3.ownBlock ≠ some b) ((B s).drop fr) (#[Value.string (s.extract fr s.size)] : Array Value).toList from ⟨_, rfl, by rw [B_extract, List.take_of_length_le (by rw [List.length_drop, hlen]; omega)]⟩)
      have hn1 : out.length + 1 ≤ maxLen := by unfold maxLen; omega
      have hn2 : (out.length + 1) * 16 ≤ 140737488355328 := by omega
      have HB := Lib.hid hbel
      have hbs := hbel.size
      clear hP hbel
      go_wp2_with (at_builtin; refine wpList_grow1 _ rfl _ _ 40 rfl rdStr_good (by decide) (fun _ => True) w.heap.size 9 i0 (.string { data := #[] }) 16 Tryd.underlying40 hi hz0 hz1 hz2 rfl _ out rfl hG _ _ 9 hE _ rfl rfl hn1 hn2 hbs ?_)
      intro v' w' hG' hgr
      have HB' := Lib.hid (grow_below hG hgr HB.out (Nat.le_refl _) hbs)
      clear hG hgr hE
      obtain ⟨A, cp, rfl, _, _⟩ := hG'.own
      go_wp2
      go_ret
      exact ⟨⟨_, _, _, rfl, by rw [PE.out]; exact own_strs hG'⟩, HB'.out⟩
set_option maxHeartbeats 1000000 in
theorem q5clean_any (s : ByteArray) (w : World) (hs : s.size ≤ maxLen) : Calls Tryd.prog 45 #[.string s] w fun e w' => e = .returned (.bool (!lowB (B s))) ∧ w = w' := by
  unfold maxLen at hs
  go_enter Tryd.func45, Tryd.ntmps45
  go_wp2
  go_loop [3] (fun i => ∃ k : Nat, k ≤ s.size ∧ i = .int .i64 k ∧ lowB (B s) = lowB ((B s).drop k)) (fun i => s.size - (intOf i).toNat)
  case atStart => exact ⟨0, Nat.zero_le _, rfl, rfl⟩
  case round =>
    obtain ⟨k, hk, rfl, hl⟩ := hrel
    have HL := Lib.hid hl
    clear hl
    by_cases hlt : k < s.size
    · have BD := Lib.hid (B_drop s k hlt)
      have hb := byte_le s k hlt
      by_cases h32 : s[k].toNat < 32
      · have hd : (s[k].toNat : Int) < 32 := by omega
        have X := Lib.hid (show lowB (B s) = true by rw [HL.out, BD.out, low_cons, decide_eq_true h32]; rfl)
        clear h32
        go_wp2
        go_ret
        exact ⟨by rw [X.out]; rfl, rfl⟩
      · have hd : ¬ (s[k].toNat : Int) < 32 := by omega
        have X := Lib.hid (show lowB (B s) = lowB ((B s).drop (k + 1)) by rw [HL.out, BD.out, low_cons, decide_eq_false h32]; rfl)
        clear h32
        go_wp2
        go_round
        case rel => exact ⟨k + 1, by omega, by go_num, X.out⟩
        case measure => simp [intOf]; omega
    · have X := Lib.hid (show lowB (B s) = false by rw [HL.out, B_drop_end s k (by omega)]; rfl)
      go_wp2
      go_ret
      exact ⟨by rw [X.out]; rfl, rfl⟩
theorem okF_at {s : ByteArray} {k : Nat} (hk : k < s.size) : okF (B s) k = (letB s[k].toNat || (decide (0 < k) && (digB s[k].toNat || decide (s[k].toNat = 45)))) := by
  unfold okF
  rw [B_getD s k hk]
set_option maxHeartbeats 1000000 in
theorem q5name_any (s : ByteArray) (w : World) (hs : s.size ≤ maxLen) : Calls Tryd.prog 16 #[.string s] w fun e w' => e = .returned (.bool (fnB (B s))) ∧ w = w' := by
  unfold maxLen at hs
  have hlen := B_len s
  go_enter Tryd.func16, Tryd.ntmps16
  go_wp2
  go_loop [3] (fun x => ∃ k : Nat, k ≤ s.size ∧ x = .int .i64 k ∧ ∀ j, j < k → okF (B s) j = true) (fun x => s.size - (intOf x).toNat)
  case atStart => exact ⟨0, Nat.zero_le _, rfl, fun j hj => by omega⟩
  case round =>
    obtain ⟨k, hk, rfl, hno⟩ := hrel
    have HN := Lib.hid hno
    clear hno
    by_cases hlt : k < s.size
    · have XN := Lib.hid (fun h => fn_no (l := B s) (k := k) (by rw [hlen]; exact hlt) h)
      have OK := Lib.hid (okF_at hlt)
      have KL := Lib.hid (fun w => Letter_any s[k].toNat w)
      have KD := Lib.hid (fun w => Digit_any s[k].toNat w)
      have hb := byte_le s k hlt
      cases hl : letB s[k].toNat
      · rw [hl] at KL OK
        clear hl
        rcases Nat.eq_zero_or_pos k with rfl | hk0
        · have X := Lib.hid (XN.out (by rw [OK.out]; rfl))
          go_wp2_with (go_at_call 34; (with_reducible refine (KL.out _).mono ?_); rintro e w' ⟨rfl, rfl⟩)
          go_ret
          exact ⟨by rw [X.out]; rfl, rfl⟩
        · have k0 : ((k : Int) == 0) = false := by rw [beq_eq_false_iff_ne]; omega
          cases hdg : digB s[k].toNat
          · rw [hdg] at KD OK
            clear hdg
            by_cases h45 : s[k].toNat = 45
            · have p1 : ((s[k].toNat : Int) != 45) = false := by rw [h45]; rfl
              have Y := Lib.hid (show okF (B s) k = true by rw [OK.out, decide_eq_true hk0, decide_eq_true h45]; rfl)
              clear h45
              go_wp2_with (first | (go_at_call 34; (with_reducible refine (KL.out _).mono ?_); rintro e w' ⟨rfl, rfl⟩) | (go_at_call 35; (with_reducible refine (KD.out _).mono ?_); rintro e w' ⟨rfl, rfl⟩))
              go_round
              case rel => exact ⟨k + 1, by omega, by go_num, fun j hj => by rcases (by omega : j < k ∨ j = k) with h | rfl; exact HN.out j h; exact Y.out⟩
              case measure => simp [intOf]; omega
            · have p1 : ((s[k].toNat : Int) != 45) = true := by rw [bne_iff_ne]; omega
              have X := Lib.hid (XN.out (by rw [OK.out, decide_eq_false h45]; simp))
              clear h45
              go_wp2_with (first | (go_at_call 34; (with_reducible refine (KL.out _).mono ?_); rintro e w' ⟨rfl, rfl⟩) | (go_at_call 35; (with_reducible refine (KD.out _).mono ?_); rintro e w' ⟨rfl, rfl⟩))
              go_ret
              exact ⟨by rw [X.out]; rfl, rfl⟩
          · rw [hdg] at KD OK
            clear hdg
            have Y := Lib.hid (show okF (B s) k = true by rw [OK.out, decide_eq_true hk0]; rfl)
            go_wp2_with (first | (go_at_call 34; (with_reducible refine (KL.out _).mono ?_); rintro e w' ⟨rfl, rfl⟩) | (go_at_call 35; (with_reducible refine (KD.out _).mono ?_); rintro e w' ⟨rfl, rfl⟩))
            go_round
            case rel => exact ⟨k + 1, by omega, by go_num, fun j hj => by rcases (by omega : j < k ∨ j = k) with h | rfl; exact HN.out j h; exact Y.out⟩
            case measure => simp [intOf]; omega
      · rw [hl] at KL OK
        clear hl
        have Y := Lib.hid (show okF (B s) k = true by rw [OK.out]; rfl)
        go_wp2_with (go_at_call 34; (with_reducible refine (KL.out _).mono ?_); rintro e w' ⟨rfl, rfl⟩)
        go_round
        case rel => exact ⟨k + 1, by omega, by go_num, fun j hj => by rcases (by omega : j < k ∨ j = k) with h | rfl; exact HN.out j h; exact Y.out⟩
        case measure => simp [intOf]; omega
    · obtain rfl : k = s.size := by omega
      have X := Lib.hid (fn_yes (l := B s) (by rw [hlen]; exact HN.out))
      rw [hlen] at X
      by_cases h1 : 1 ≤ s.size
      · by_cases h40 : s.size ≤ 40
        · have i1 : (1 : Int) ≤ s.size := by omega
          have i2 : (s.size : Int) ≤ 40 := by omega
          rw [decide_eq_true h1, decide_eq_true h40] at X
          clear h1 h40
          go_wp2
          go_ret
          exact ⟨by rw [X.out]; rfl, rfl⟩
        · have i1 : (1 : Int) ≤ s.size := by omega
          have i2 : decide ((s.size : Int) ≤ 40) = false := by rw [decide_eq_false_iff_not]; omega
          rw [decide_eq_true h1, decide_eq_false h40] at X
          clear h1 h40
          go_wp2
          go_ret
          exact ⟨by rw [X.out]; rfl, rfl⟩
      · have i1 : decide ((1 : Int) ≤ s.size) = false := by rw [decide_eq_false_iff_not]; omega
        rw [decide_eq_false h1] at X
        clear h1
        go_wp2
        go_ret
        exact ⟨by rw [X.out]; rfl, rfl⟩
theorem add_0 (a : Addr) : a.add 0 = a := by unfold Addr.add; simp
theorem cut_zero (c : Nat) (l : List Nat) : 0 < (cutBy c l).length := by rw [cutBy_len]; omega
set_option maxHeartbeats 2000000 in
theorem q5value_any (s : ByteArray) (w : World) (hs : s.size ≤ 65536) : Calls Tryd.prog 53 #[.string s] w fun e w' => e = .returned (.bool (valB (B s))) ∧ Below w.heap.size w w' := by
  have K := Lib.hid (q5lines_any s w hs)
  have hmem := Lib.hid (fun p (hp : p ∈ cutBy 10 (B s)) => cutBy_mem_len hp)
  rw [B_len] at hmem
  have hnz := cut_zero 10 (B s)
  have HV := Lib.hid (show valB (B s) = valL (cutBy 10 (B s)) from rfl)
  generalize cutBy 10 (B s) = L at *
  go_enter Tryd.func53, Tryd.ntmps53
  go_wp2_with fail
  refine K.out.mono ?_
  rintro e w1 ⟨⟨A, n, cp, rfl, hrd⟩, hb1⟩
  obtain ⟨rfl, hnc, hcm, hat⟩ := rdStrs_at hrd
  have hcm' : cp ≤ 9223372036854775807 := hcm
  have HB := Lib.hid hb1
  have HAT := Lib.hid hat
  clear hrd hb1 hat hcm
  go_wp2
  go_loop [4, 5] (fun i _ => ∃ k : Nat, k ≤ L.length ∧ i = .int .i64 k ∧ ∀ j (hj : j < L.length), j < k → lowB L[j] = false ∧ (0 < j → L[j] ≠ [])) (fun i _ => L.length - (intOf i).toNat)
  case atStart => exact ⟨0, Nat.zero_le _, rfl, fun j _ hj => absurd hj (by omega)⟩
  case round =>
    obtain ⟨k, hk, rfl, hall⟩ := hrel
    have HN := Lib.hid hall
    clear hall
    by_cases hlt : k < L.length
    · obtain ⟨ad, t, rfl, had, hc, hB⟩ := HAT.out k hlt
      have hsz : t.size ≤ maxLen := by have := hmem.out _ (List.getElem_mem hlt); rw [← hB, B_len] at this; unfold maxLen; omega
      have KC := Lib.hid (fun w => q5clean_any t w hsz)
      have XN := Lib.hid (fun h => valL_no (L := L) hlt h)
      have HL := Lib.hid hB
      have em := emp_eq t
      have YY := Lib.hid (fun (h1 : lowB L[k] = false) (h2 : 0 < k → L[k] ≠ []) j (hj : j < L.length) (hjk : j < k + 1) => (show lowB L[j] = false ∧ (0 < j → L[j] ≠ []) from by
        by_cases h : j < k
        · exact HN.out j hj h
        · obtain rfl : j = k := by omega
          exact ⟨h1, h2⟩))
      rw [hB] at KC em
      clear hB
      cases hlow : lowB L[k]
      · rw [hlow] at KC
        rcases Nat.eq_zero_or_pos k with rfl | hk0
        · have Y := Lib.hid (YY.out hlow (fun h => absurd h (Nat.lt_irrefl 0)))
          rw [add_0] at hc
          clear em hlow
          go_wp2_with (go_at_call 45; (with_reducible refine (KC.out _).mono ?_); rintro e w' ⟨rfl, rfl⟩)
          go_round
          case rel => exact ⟨1, by omega, by go_num, Y.out⟩
          case measure => simp [intOf]; omega
        · have k0 : (0 : Int) < (k : Int) := by omega
          by_cases hem : L[k] = []
          · have X := Lib.hid (XN.out (.inr ⟨hk0, hem⟩))
            rw [decide_eq_true hem] at em
            clear hem hlow
            go_wp2_with (go_at_call 45; (with_reducible refine (KC.out _).mono ?_); rintro e w' ⟨rfl, rfl⟩)
            go_ret
            exact ⟨by rw [HV.out, X.out]; rfl, HB.out⟩
          · have Y := Lib.hid (YY.out hlow (fun _ => hem))
            rw [decide_eq_false hem] at em
            clear hem hlow
            go_wp2_with (go_at_call 45; (with_reducible refine (KC.out _).mono ?_); rintro e w' ⟨rfl, rfl⟩)
            go_round
            case rel => exact ⟨k + 1, by omega, by go_num, Y.out⟩
            case measure => simp [intOf]; omega
      · rw [hlow] at KC
        have X := Lib.hid (XN.out (.inl hlow))
        clear em hlow
        go_wp2_with (go_at_call 45; (with_reducible refine (KC.out _).mono ?_); rintro e w' ⟨rfl, rfl⟩)
        go_ret
        exact ⟨by rw [HV.out, X.out]; rfl, HB.out⟩
    · obtain rfl : k = L.length := by omega
      obtain ⟨ad, t, rfl, had, hc, hB⟩ := HAT.out 0 hnz
      rw [add_0] at hc
      have V := Lib.hid (valL_yes hnz fun k hk => HN.out k hk hk)
      have em := emp_eq t
      by_cases hem : B t = []
      · rw [decide_eq_true hem] at em
        have X := Lib.hid (show valL L = true by rw [V.out, ← hB, hem]; rfl)
        clear hem hB V
        go_wp2
        go_ret
        exact ⟨by rw [HV.out, X.out]; rfl, HB.out⟩
      · rw [decide_eq_false hem] at em
        have h0 : 0 < t.size := by
          rcases Nat.eq_zero_or_pos t.size with h | h
          · exact absurd (List.eq_nil_of_length_eq_zero (by rw [B_len]; exact h)) hem
          · exact h
        have hb := byte_le t 0 h0
        have hh : hd32 (B t) = decide (t[0].toNat = 32) := by
          have := B_drop t 0 h0
          rw [List.drop_zero] at this
          rw [this]; rfl
        by_cases h32 : t[0].toNat = 32
        · have p1 : ((t[0].toNat : Int) != 32) = false := by rw [h32]; rfl
          have X := Lib.hid (show valL L = false by rw [V.out, ← hB, hh, decide_eq_true h32]; rfl)
          clear hem hB V hh h32
          go_wp2
          go_ret
          exact ⟨by rw [HV.out, X.out]; rfl, HB.out⟩
        · have p1 : ((t[0].toNat : Int) != 32) = true := by rw [bne_iff_ne]; omega
          have X := Lib.hid (show valL L = true by rw [V.out, ← hB, hh, decide_eq_false h32]; rfl)
          clear hem hB V hh h32
          go_wp2
          go_ret
          exact ⟨by rw [HV.out, X.out]; rfl, HB.out⟩
end Go.Proofs.YtjfenheplkoajaaDoor
