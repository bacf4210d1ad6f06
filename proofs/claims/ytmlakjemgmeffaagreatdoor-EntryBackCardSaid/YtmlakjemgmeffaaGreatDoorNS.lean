/- What the laws of this seat rest on: S5a, P6t, S5b, S5c, S5k. -/
import Derived.Test.YtmlakjemgmeffaaGreatDoorNA
import Derived.Test.YtmlakjemgmeffaaGreatDoorND
import Derived.StillTailTactics
import Derived.BigQuiet
import Derived.Deep.QuietTactic
import Derived.WalkSpells
import Derived.RegionTactic

section
set_option maxRecDepth 100000
set_option linter.unusedVariables false
set_option linter.unusedSimpArgs false
namespace Go.Proofs.YtmlakjemgmeffaaGreatDoor
open Go.RowKit
theorem str_eq (a b : ByteArray) : (a.toList == b.toList) = decide (a = b) := by
  have h := strEq (B a) b (B_lt a)
  rw [mk_B] at h
  rw [h, decide_eq_decide]
  exact ⟨fun h => B_inj h, fun h => by rw [h]⟩
def Fd.val (a : Fd) : Value := .agg #[.string a.n, .string a.v]
def Fd.cells (a : Fd) : List Value := [.string a.n, .string a.v]
def rdFd : Rd Fd := fun _ _ a cs => cs = a.cells
theorem rdFd_good : Good rdFd 2 := ⟨fun h _ => h, fun h _ => h, fun h _ _ => h, fun h => by rw [h]; rfl, fun h u hu => by rw [h] at hu; simp [Fd.cells] at hu; rcases hu with rfl | rfl <;> rfl⟩
abbrev rdFds : Rd (List Fd) := rdRow 2 rdFd
abbrev rdStzs : Rd (List (List Fd)) := rdRow 1 rdFds
theorem rdFds_good : Good rdFds 1 := rdRow_good rdFd_good
theorem rdStzs_good : Good rdStzs 1 := rdRow_good rdFds_good
theorem off2_add (a : Addr) (k j : Nat) (hj : j ≠ 0) : (⟨(a.add k).block, (a.add k).off + j, none⟩ : Addr) = a.add (k + j) := by
  unfold Addr.add; by_cases hk : k = 0 <;> simp [hk, hj, Nat.add_assoc]
theorem rdFds_at {w : World} {S : Nat → Prop} {l : List Fd} {A : Option Addr} {n c : Nat} (h : rdFds w S l [.slice A n c]) : n = l.length ∧ n ≤ c ∧ c ≤ maxLen ∧ ∀ k (hk : k < l.length), ∃ ad, A = some ad ∧ S ad.block ∧
    w.cell? (ad.add (k * 2)) = some (.string l[k].n) ∧ w.cell? ⟨(ad.add (k * 2)).block, (ad.add (k * 2)).off + 1, none⟩ = some (.string l[k].v) := by
  obtain ⟨A', c', e, h1, h2, h⟩ := h
  simp only [List.cons.injEq, Value.slice.injEq, and_true] at e
  obtain ⟨rfl, rfl, rfl⟩ := e
  refine ⟨rfl, h1, h2, fun k hk => ?_⟩
  obtain ⟨ad, es, e, hS, hE, hl, hc⟩ := h k hk
  rw [show es = l[k].cells from hE] at hc
  exact ⟨ad, e, hS, hc 0 _ rfl, by rw [off2_add ad (k * 2) 1 (by omega)]; exact hc 1 _ rfl⟩
theorem rdStzs_at {w : World} {S : Nat → Prop} {l : List (List Fd)} {A : Option Addr} {n c : Nat} (h : rdStzs w S l [.slice A n c]) : n = l.length ∧ n ≤ c ∧ c ≤ maxLen ∧ ∀ k (hk : k < l.length), ∃ ad A' c', A = some ad ∧ S ad.block ∧
    w.cell? (ad.add k) = some (.slice A' l[k].length c') ∧ rdFds w S l[k] [.slice A' l[k].length c'] := by
  obtain ⟨A', c', e, h1, h2, h⟩ := h
  simp only [List.cons.injEq, Value.slice.injEq, and_true] at e
  obtain ⟨rfl, rfl, rfl⟩ := e
  refine ⟨rfl, h1, h2, fun k hk => ?_⟩
  obtain ⟨ad, es, e, hS, hE, hl, hc⟩ := h k hk
  have hE' := hE
  obtain ⟨A2, c2, rfl, _⟩ := hE'
  refine ⟨ad, A2, c2, e, hS, ?_, hE⟩
  have := hc 0 _ rfl
  rwa [Nat.mul_one] at this
theorem fd_info : (Tryz.prog.info? 41).map (fun i => (i.zero, i.size, i.bytes)) = some (some (.agg #[.string { data := #[] }, .string { data := #[] }]), 2, 32) := by kernel_rfl
theorem fds_info : (Tryz.prog.info? 31).map (fun i => (i.zero, i.size, i.bytes)) = some (some (.slice none 0 0), 1, 24) := by kernel_rfl
theorem stz_info : (Tryz.prog.info? 32).map (fun i => (i.zero, i.size, i.bytes)) = some (some (.slice none 0 0), 1, 24) := by kernel_rfl
theorem fdT_struct : Tryz.prog.underlying 41 = some (.struct (Tryz.prog.fieldsOf 41)) := by kernel_rfl
theorem fdT_stood : Tryz.prog.stoodInHeld 41 = false := by kernel_rfl
theorem fdT_fields : (Tryz.prog.fieldsOf 41).toList.map (fun f => (f.type, f.offset, f.name == "_")) = [(9, 0, false), (9, 1, false)] := by kernel_rfl
theorem eq_fd (x y : Fd) (w : World) : (Op.equalIn 10000 41 (.agg #[.string x.n, .string x.v]) (.agg #[.string y.n, .string y.v])).run Tryz.prog w = .ok (decide (x = y)) w := by
  obtain ⟨u, r⟩ := x
  obtain ⟨u', r'⟩ := y
  have hs := Tryz.underlying9
  rw [run_equalIn_struct w 9999 _ _ _ fdT_struct fdT_stood]
  have hf := fdT_fields
  generalize (Tryz.prog.fieldsOf 41).toList = L at hf ⊢
  have hlen : L.length = 2 := by have := congrArg List.length hf; simpa using this
  have hst := str_eq
  rcases L with _ | ⟨f0, _ | ⟨f1, _ | ⟨f2, L⟩⟩⟩
  · simp at hlen
  · simp at hlen
  · simp only [List.map_cons, List.map_nil, List.cons.injEq, Prod.mk.injEq, and_true] at hf
    obtain ⟨⟨a0, b0, c0⟩, ⟨a1, b1, c1⟩⟩ := hf
    have n0 : f0.name ≠ "_" := by simpa using c0
    have n1 : f1.name ≠ "_" := by simpa using c1
    simp only [Op.eqFields, n0, n1, ne_eq, not_false_iff, if_true, a0, b0, a1, b1, Fd.mk.injEq]
    cases h2 : (u.toList == u'.toList) <;> cases h3 : (r.toList == r'.toList) <;> simp [part, isAgg, run_underlying hs, run_equalIn_string w 9998 _ _ _ hs, h2, h3] <;> rw [hst] at h2 h3 <;> simp_all
  · simp at hlen
theorem same_take5 {α : Type} [DecidableEq α] {l m : List α} {k : Nat} (hl : l.length = m.length) (hk : k < l.length) (hm : k < m.length) (h : l.take k = m.take k) (he : l[k] = m[k]) : l.take (k + 1) = m.take (k + 1) := by
  rw [List.take_succ_eq_append_getElem hk, List.take_succ_eq_append_getElem hm, h, he]
end Go.Proofs.YtmlakjemgmeffaaGreatDoor
end

section
set_option linter.unusedVariables false
namespace Go.Proofs.YtmlakjemgmeffaaGreatDoor
open Go.RowKit
section
variable {α : Type} {E : Rd α} {sz : Nat}
theorem Grow.blk (g : Good E sz) {T : Nat → Prop} {W : World} {base b : Nat} {e : TypeId} {blk : Array Value} {l : List α} {css : List (List Value)} (hb : W.heap[b]? = some (.cells blk e (0, 0))) (hbase : base ≤ b)
    (hl : css.length = l.length) (hf : blk.toList = css.flatten) (hm : l.length ≤ 1000) (hE : ∀ k (hk : k < l.length), ∃ cs, css[k]? = some cs ∧ E W (fun x => T x ∧ x < W.heap.size ∧ (Value.slice (some ⟨b, 0, none⟩) l.length l.length).ownBlock ≠ some x) l[k] cs) :
    Grow E sz T W base e (.slice (some ⟨b, 0, none⟩) l.length l.length) l := by
  have hls : ∀ cs ∈ css, cs.length = sz := fun cs hc => by
    obtain ⟨k, hk, rfl⟩ := List.getElem_of_mem hc
    obtain ⟨cs, h1, h2⟩ := hE k (by omega)
    rw [List.getElem?_eq_getElem hk] at h1
    injection h1 with h1
    rw [h1]; exact g.len h2
  have hlen : css.flatten.length = l.length * sz := by rw [flatten_len sz hls, hl]
  have hbs : blk.size = l.length * sz := by rw [← hlen, ← hf, Array.length_toList]
  exact ⟨css, hl, ⟨hlen, .inr ⟨b, l.length, blk, rfl, hbase, hb, Nat.le_refl _, by unfold maxLen; omega, hbs, by rw [← hf, List.take_of_length_le (by rw [Array.length_toList, hbs]; exact Nat.le_refl _)]⟩⟩, hE⟩
end
theorem rdFds_take6 {w : World} {S : Nat → Prop} {l : List Fd} {A : Option Addr} {n c k : Nat} (h : rdFds w S l [.slice A n c]) (hk : k ≤ l.length) : rdFds w S (l.take k) [.slice A k c] := by
  obtain ⟨A', c', e, h1, h2, h3⟩ := h
  simp only [List.cons.injEq, Value.slice.injEq, and_true] at e
  obtain ⟨rfl, rfl, rfl⟩ := e
  have hl : (l.take k).length = k := by rw [List.length_take]; omega
  refine ⟨A, c, by rw [hl], by omega, h2, fun j hj => ?_⟩
  rw [hl] at hj
  obtain ⟨ad, es, a1, a2, a3, a4, a5⟩ := h3 j (by omega)
  exact ⟨ad, es, a1, a2, by rw [List.getElem_take]; exact a3, a4, a5⟩
end Go.Proofs.YtmlakjemgmeffaaGreatDoor
end

section
set_option maxRecDepth 100000
set_option linter.unusedVariables false
set_option linter.unusedSimpArgs false
namespace Go.Proofs.YtmlakjemgmeffaaGreatDoor
open Go.RowKit
theorem emp_eq (s : ByteArray) : s.toList.isEmpty = decide (B s = []) := by
  rw [toList_data]
  unfold B
  cases s.data.toList <;> simp
theorem own_strs {T : Nat → Prop} {w : World} {base : Nat} {e : TypeId} {v : Value} {l : List (List Nat)} (h : Grow rdStr 1 T w base e v l) : rdStrs w (fun b => base ≤ b ∧ b < w.heap.size) l [v] := by
  have h2 : Grow rdStr 1 (fun _ => False) w base e v l := h.flat fun _ _ _ _ _ h => h
  exact rdStrs_good.more (h2.reads rdStr_good) fun b hb => ⟨hb.2.resolve_right id, hb.1⟩
set_option maxHeartbeats 1000000 in
theorem q5lines_any (s : ByteArray) (w : World) (hs : s.size ≤ 65536) :
    Calls Tryz.prog 147 #[.string s] w fun e w' => (∃ A n cp, e = .returned (.slice A n cp) ∧ rdStrs w' (fun b => w.heap.size ≤ b ∧ b < w'.heap.size) (cutBy 10 (B s)) [.slice A n cp]) ∧ Below w.heap.size w w' := by
  obtain ⟨i0, hi, hz0, hz1, hz2⟩ := info_parts str_info
  have hlen := B_len s
  go_enter Tryz.func147, Tryz.ntmps147
  go_wp2
  go_loopw [3, 4, 5] (fun v f i wr => ∃ (out : List (List Nat)) (fr k : Nat), k ≤ s.size ∧ i = .int .i64 k ∧ f = .int .i64 fr ∧ PcInv 10 (B s) out fr k ∧ Grow rdStr 1 (fun _ => True) wr w.heap.size 9 v out ∧ Below w.heap.size w wr) (fun _ _ i _ => s.size - (intOf i).toNat)
  case atStart => exact ⟨[], 0, 0, Nat.zero_le _, rfl, rfl, pc_start _ _, Grow.nil _ _ _ _, Below.refl _ _⟩
  case round =>
    obtain ⟨out, fr, k, hk, rfl, rfl, hP, hG, hbel⟩ := hrel
    have hfr := hP.1
    have hol := pc_len hP
    rw [hlen] at hol
    by_cases hlt : k < s.size
    · have hgd := B_getD s k hlt
      have hb256 := byte_le s k hlt
      have hPC := Lib.hid (fun h => pc_cut (c := 10) hP (by rw [hlen]; exact hlt) h)
      have hPO := Lib.hid (fun h => pc_on (c := 10) hP (by rw [hlen]; exact hlt) h)
      rw [hgd] at hPC hPO
      have HB := Lib.hid hbel
      have hbs := hbel.size
      clear hP hbel hgd
      by_cases he : s[k].toNat = 10
      · have hd : ((s[k].toNat : Int) == 10) = true := by rw [beq_iff_eq]; omega
        have PC := Lib.hid (hPC.out he)
        clear hPC hPO he
        have hE := (show rdStr wr (fun b => True ∧ b < wr.heap.size ∧ u3.ownBlock ≠ some b) (((B s).drop fr).take (k - fr)) (#[Value.string (s.extract fr k)] : Array Value).toList from ⟨_, rfl, B_extract s fr k⟩)
        have hn1 : out.length + 1 ≤ maxLen := by unfold maxLen; omega
        have hn2 : (out.length + 1) * 16 ≤ 140737488355328 := by omega
        go_wp2_with (at_builtin; refine wpList_grow1 _ rfl _ _ 121 rfl rdStr_good (by decide) (fun _ => True) w.heap.size 9 i0 (.string { data := #[] }) 16 Tryz.underlying121 hi hz0 hz1 hz2 rfl _ out rfl hG _ _ 9 hE _ rfl rfl hn1 hn2 hbs ?_)
        intro v' w' hG' hgr
        have HB' := Lib.hid (grow_below hG hgr HB.out (Nat.le_refl _) hbs)
        clear hG hgr hE
        go_wp2
        go_roundw
        case rel => exact ⟨_, k + 1, k + 1, by omega, by go_num, by go_num, PC.out, hG', HB'.out⟩
        case measure => first | (simp [intOf]; omega) | simp [intOf]
      · have hd : ((s[k].toNat : Int) == 10) = false := by rw [beq_eq_false_iff_ne]; omega
        have PC := Lib.hid (hPO.out he)
        clear hPC hPO he
        go_wp2
        go_roundw
        case rel => exact ⟨_, fr, k + 1, by omega, by go_num, rfl, PC.out, hG, HB.out⟩
        case measure => first | (simp [intOf]; omega) | simp [intOf]
    · obtain rfl : k = s.size := by omega
      have PE := Lib.hid (show cutBy 10 (B s) = out ++ [(B s).drop fr] from pc_end (by rw [hlen]; exact hP))
      have hE := (show rdStr wr (fun b => True ∧ b < wr.heap.size ∧ u3.ownBlock ≠ some b) ((B s).drop fr) (#[Value.string (s.extract fr s.size)] : Array Value).toList from ⟨_, rfl, by rw [B_extract, List.take_of_length_le (by rw [List.length_drop, hlen]; omega)]⟩)
      have hn1 : out.length + 1 ≤ maxLen := by unfold maxLen; omega
      have hn2 : (out.length + 1) * 16 ≤ 140737488355328 := by omega
      have HB := Lib.hid hbel
      have hbs := hbel.size
      clear hP hbel
      go_wp2_with (at_builtin; refine wpList_grow1 _ rfl _ _ 121 rfl rdStr_good (by decide) (fun _ => True) w.heap.size 9 i0 (.string { data := #[] }) 16 Tryz.underlying121 hi hz0 hz1 hz2 rfl _ out rfl hG _ _ 9 hE _ rfl rfl hn1 hn2 hbs ?_)
      intro v' w' hG' hgr
      have HB' := Lib.hid (grow_below hG hgr HB.out (Nat.le_refl _) hbs)
      clear hG hgr hE
      obtain ⟨A, cp, rfl, _, _⟩ := hG'.own
      go_wp2
      go_ret
      exact ⟨⟨_, _, _, rfl, by rw [PE.out]; exact own_strs hG'⟩, HB'.out⟩
set_option maxHeartbeats 1000000 in
theorem q5clean_any (s : ByteArray) (w : World) (hs : s.size ≤ maxLen) : Calls Tryz.prog 184 #[.string s] w fun e w' => e = .returned (.bool (!lowB (B s))) ∧ w = w' := by
  unfold maxLen at hs
  go_enter Tryz.func184, Tryz.ntmps184
  go_wp2
  go_loop [3] (fun i => ∃ k : Nat, k ≤ s.size ∧ i = .int .i64 k ∧ lowB (B s) = lowB ((B s).drop k)) (fun i => s.size - (intOf i).toNat)
  case atStart => exact ⟨0, Nat.zero_le _, rfl, rfl⟩
  case round =>
    obtain ⟨k, hk, rfl, hl⟩ := hrel
    have HL := Lib.hid hl
    clear hl
    by_cases hlt : k < s.size
    · have BD := Lib.hid (B_drop s k hlt)
      have hb := byte_le s k hlt
      by_cases h32 : s[k].toNat < 32
      · have hd : (s[k].toNat : Int) < 32 := by omega
        have X := Lib.hid (show lowB (B s) = true by rw [HL.out, BD.out, low_cons, decide_eq_true h32]; rfl)
        clear h32
        go_wp2
        go_ret
        exact ⟨by rw [X.out]; rfl, rfl⟩
      · have hd : ¬ (s[k].toNat : Int) < 32 := by omega
        have X := Lib.hid (show lowB (B s) = lowB ((B s).drop (k + 1)) by rw [HL.out, BD.out, low_cons, decide_eq_false h32]; rfl)
        clear h32
        go_wp2
        go_round
        case rel => exact ⟨k + 1, by omega, by go_num, X.out⟩
        case measure => simp [intOf]; omega
    · have X := Lib.hid (show lowB (B s) = false by rw [HL.out, B_drop_end s k (by omega)]; rfl)
      go_wp2
      go_ret
      exact ⟨by rw [X.out]; rfl, rfl⟩
theorem okF_at {s : ByteArray} {k : Nat} (hk : k < s.size) : okF (B s) k = (letB s[k].toNat || (decide (0 < k) && (digB s[k].toNat || decide (s[k].toNat = 45)))) := by
  unfold okF
  rw [B_getD s k hk]
set_option maxHeartbeats 1000000 in
theorem q5name_any (s : ByteArray) (w : World) (hs : s.size ≤ maxLen) : Calls Tryz.prog 145 #[.string s] w fun e w' => e = .returned (.bool (fnB (B s))) ∧ w = w' := by
  unfold maxLen at hs
  have hlen := B_len s
  go_enter Tryz.func145, Tryz.ntmps145
  go_wp2
  go_loop [3] (fun x => ∃ k : Nat, k ≤ s.size ∧ x = .int .i64 k ∧ ∀ j, j < k → okF (B s) j = true) (fun x => s.size - (intOf x).toNat)
  case atStart => exact ⟨0, Nat.zero_le _, rfl, fun j hj => by omega⟩
  case round =>
    obtain ⟨k, hk, rfl, hno⟩ := hrel
    have HN := Lib.hid hno
    clear hno
    by_cases hlt : k < s.size
    · have XN := Lib.hid (fun h => fn_no (l := B s) (k := k) (by rw [hlen]; exact hlt) h)
      have OK := Lib.hid (okF_at hlt)
      have KL := Lib.hid (fun w => Letter_any s[k].toNat w)
      have KD := Lib.hid (fun w => Digit_any s[k].toNat w)
      have hb := byte_le s k hlt
      cases hl : letB s[k].toNat
      · rw [hl] at KL OK
        clear hl
        rcases Nat.eq_zero_or_pos k with rfl | hk0
        · have X := Lib.hid (XN.out (by rw [OK.out]; rfl))
          go_wp2_with (go_at_call 139; (with_reducible refine (KL.out _).mono ?_); rintro e w' ⟨rfl, rfl⟩)
          go_ret
          exact ⟨by rw [X.out]; rfl, rfl⟩
        · have k0 : ((k : Int) == 0) = false := by rw [beq_eq_false_iff_ne]; omega
          cases hdg : digB s[k].toNat
          · rw [hdg] at KD OK
            clear hdg
            by_cases h45 : s[k].toNat = 45
            · have p1 : ((s[k].toNat : Int) != 45) = false := by rw [h45]; rfl
              have Y := Lib.hid (show okF (B s) k = true by rw [OK.out, decide_eq_true hk0, decide_eq_true h45]; rfl)
              clear h45
              go_wp2_with (first | (go_at_call 139; (with_reducible refine (KL.out _).mono ?_); rintro e w' ⟨rfl, rfl⟩) | (go_at_call 68; (with_reducible refine (KD.out _).mono ?_); rintro e w' ⟨rfl, rfl⟩))
              go_round
              case rel => exact ⟨k + 1, by omega, by go_num, fun j hj => by rcases (by omega : j < k ∨ j = k) with h | rfl; exact HN.out j h; exact Y.out⟩
              case measure => simp [intOf]; omega
            · have p1 : ((s[k].toNat : Int) != 45) = true := by rw [bne_iff_ne]; omega
              have X := Lib.hid (XN.out (by rw [OK.out, decide_eq_false h45]; simp))
              clear h45
              go_wp2_with (first | (go_at_call 139; (with_reducible refine (KL.out _).mono ?_); rintro e w' ⟨rfl, rfl⟩) | (go_at_call 68; (with_reducible refine (KD.out _).mono ?_); rintro e w' ⟨rfl, rfl⟩))
              go_ret
              exact ⟨by rw [X.out]; rfl, rfl⟩
          · rw [hdg] at KD OK
            clear hdg
            have Y := Lib.hid (show okF (B s) k = true by rw [OK.out, decide_eq_true hk0]; rfl)
            go_wp2_with (first | (go_at_call 139; (with_reducible refine (KL.out _).mono ?_); rintro e w' ⟨rfl, rfl⟩) | (go_at_call 68; (with_reducible refine (KD.out _).mono ?_); rintro e w' ⟨rfl, rfl⟩))
            go_round
            case rel => exact ⟨k + 1, by omega, by go_num, fun j hj => by rcases (by omega : j < k ∨ j = k) with h | rfl; exact HN.out j h; exact Y.out⟩
            case measure => simp [intOf]; omega
      · rw [hl] at KL OK
        clear hl
        have Y := Lib.hid (show okF (B s) k = true by rw [OK.out]; rfl)
        go_wp2_with (go_at_call 139; (with_reducible refine (KL.out _).mono ?_); rintro e w' ⟨rfl, rfl⟩)
        go_round
        case rel => exact ⟨k + 1, by omega, by go_num, fun j hj => by rcases (by omega : j < k ∨ j = k) with h | rfl; exact HN.out j h; exact Y.out⟩
        case measure => simp [intOf]; omega
    · obtain rfl : k = s.size := by omega
      have X := Lib.hid (fn_yes (l := B s) (by rw [hlen]; exact HN.out))
      rw [hlen] at X
      by_cases h1 : 1 ≤ s.size
      · by_cases h40 : s.size ≤ 40
        · have i1 : (1 : Int) ≤ s.size := by omega
          have i2 : (s.size : Int) ≤ 40 := by omega
          rw [decide_eq_true h1, decide_eq_true h40] at X
          clear h1 h40
          go_wp2
          go_ret
          exact ⟨by rw [X.out]; rfl, rfl⟩
        · have i1 : (1 : Int) ≤ s.size := by omega
          have i2 : decide ((s.size : Int) ≤ 40) = false := by rw [decide_eq_false_iff_not]; omega
          rw [decide_eq_true h1, decide_eq_false h40] at X
          clear h1 h40
          go_wp2
          go_ret
          exact ⟨by rw [X.out]; rfl, rfl⟩
      · have i1 : decide ((1 : Int) ≤ s.size) = false := by rw [decide_eq_false_iff_not]; omega
        rw [decide_eq_false h1] at X
        clear h1
        go_wp2
        go_ret
        exact ⟨by rw [X.out]; rfl, rfl⟩
theorem add_0 (a : Addr) : a.add 0 = a := by unfold Addr.add; simp
theorem cut_zero (c : Nat) (l : List Nat) : 0 < (cutBy c l).length := by rw [cutBy_len]; omega
set_option maxHeartbeats 2000000 in
theorem q5value_any (s : ByteArray) (w : World) (hs : s.size ≤ 65536) : Calls Tryz.prog 146 #[.string s] w fun e w' => e = .returned (.bool (valB (B s))) ∧ Below w.heap.size w w' := by
  have K := Lib.hid (q5lines_any s w hs)
  have hmem := Lib.hid (fun p (hp : p ∈ cutBy 10 (B s)) => cutBy_mem_len hp)
  rw [B_len] at hmem
  have hnz := cut_zero 10 (B s)
  have HV := Lib.hid (show valB (B s) = valL (cutBy 10 (B s)) from rfl)
  generalize cutBy 10 (B s) = L at *
  go_enter Tryz.func146, Tryz.ntmps146
  go_wp2_with fail
  refine K.out.mono ?_
  rintro e w1 ⟨⟨A, n, cp, rfl, hrd⟩, hb1⟩
  obtain ⟨rfl, hnc, hcm, hat⟩ := rdStrs_at hrd
  have hcm' : cp ≤ 9223372036854775807 := hcm
  have HB := Lib.hid hb1
  have HAT := Lib.hid hat
  clear hrd hb1 hat hcm
  go_wp2
  go_loop [4, 5] (fun i _ => ∃ k : Nat, k ≤ L.length ∧ i = .int .i64 k ∧ ∀ j (hj : j < L.length), j < k → lowB L[j] = false ∧ (0 < j → L[j] ≠ [])) (fun i _ => L.length - (intOf i).toNat)
  case atStart => exact ⟨0, Nat.zero_le _, rfl, fun j _ hj => absurd hj (by omega)⟩
  case round =>
    obtain ⟨k, hk, rfl, hall⟩ := hrel
    have HN := Lib.hid hall
    clear hall
    by_cases hlt : k < L.length
    · obtain ⟨ad, t, rfl, had, hc, hB⟩ := HAT.out k hlt
      have hsz : t.size ≤ maxLen := by have := hmem.out _ (List.getElem_mem hlt); rw [← hB, B_len] at this; unfold maxLen; omega
      have KC := Lib.hid (fun w => q5clean_any t w hsz)
      have XN := Lib.hid (fun h => valL_no (L := L) hlt h)
      have HL := Lib.hid hB
      have em := emp_eq t
      have YY := Lib.hid (fun (h1 : lowB L[k] = false) (h2 : 0 < k → L[k] ≠ []) j (hj : j < L.length) (hjk : j < k + 1) => (show lowB L[j] = false ∧ (0 < j → L[j] ≠ []) from by
        by_cases h : j < k
        · exact HN.out j hj h
        · obtain rfl : j = k := by omega
          exact ⟨h1, h2⟩))
      rw [hB] at KC em
      clear hB
      cases hlow : lowB L[k]
      · rw [hlow] at KC
        rcases Nat.eq_zero_or_pos k with rfl | hk0
        · have Y := Lib.hid (YY.out hlow (fun h => absurd h (Nat.lt_irrefl 0)))
          rw [add_0] at hc
          clear em hlow
          go_wp2_with (go_at_call 184; (with_reducible refine (KC.out _).mono ?_); rintro e w' ⟨rfl, rfl⟩)
          go_round
          case rel => exact ⟨1, by omega, by go_num, Y.out⟩
          case measure => simp [intOf]; omega
        · have k0 : (0 : Int) < (k : Int) := by omega
          by_cases hem : L[k] = []
          · have X := Lib.hid (XN.out (.inr ⟨hk0, hem⟩))
            rw [decide_eq_true hem] at em
            clear hem hlow
            go_wp2_with (go_at_call 184; (with_reducible refine (KC.out _).mono ?_); rintro e w' ⟨rfl, rfl⟩)
            go_ret
            exact ⟨by rw [HV.out, X.out]; rfl, HB.out⟩
          · have Y := Lib.hid (YY.out hlow (fun _ => hem))
            rw [decide_eq_false hem] at em
            clear hem hlow
            go_wp2_with (go_at_call 184; (with_reducible refine (KC.out _).mono ?_); rintro e w' ⟨rfl, rfl⟩)
            go_round
            case rel => exact ⟨k + 1, by omega, by go_num, Y.out⟩
            case measure => simp [intOf]; omega
      · rw [hlow] at KC
        have X := Lib.hid (XN.out (.inl hlow))
        clear em hlow
        go_wp2_with (go_at_call 184; (with_reducible refine (KC.out _).mono ?_); rintro e w' ⟨rfl, rfl⟩)
        go_ret
        exact ⟨by rw [HV.out, X.out]; rfl, HB.out⟩
    · obtain rfl : k = L.length := by omega
      obtain ⟨ad, t, rfl, had, hc, hB⟩ := HAT.out 0 hnz
      rw [add_0] at hc
      have V := Lib.hid (valL_yes hnz fun k hk => HN.out k hk hk)
      have em := emp_eq t
      by_cases hem : B t = []
      · rw [decide_eq_true hem] at em
        have X := Lib.hid (show valL L = true by rw [V.out, ← hB, hem]; rfl)
        clear hem hB V
        go_wp2
        go_ret
        exact ⟨by rw [HV.out, X.out]; rfl, HB.out⟩
      · rw [decide_eq_false hem] at em
        have h0 : 0 < t.size := by
          rcases Nat.eq_zero_or_pos t.size with h | h
          · exact absurd (List.eq_nil_of_length_eq_zero (by rw [B_len]; exact h)) hem
          · exact h
        have hb := byte_le t 0 h0
        have hh : hd32 (B t) = decide (t[0].toNat = 32) := by
          have := B_drop t 0 h0
          rw [List.drop_zero] at this
          rw [this]; rfl
        by_cases h32 : t[0].toNat = 32
        · have p1 : ((t[0].toNat : Int) != 32) = false := by rw [h32]; rfl
          have X := Lib.hid (show valL L = false by rw [V.out, ← hB, hh, decide_eq_true h32]; rfl)
          clear hem hB V hh h32
          go_wp2
          go_ret
          exact ⟨by rw [HV.out, X.out]; rfl, HB.out⟩
        · have p1 : ((t[0].toNat : Int) != 32) = true := by rw [bne_iff_ne]; omega
          have X := Lib.hid (show valL L = true by rw [V.out, ← hB, hh, decide_eq_false h32]; rfl)
          clear hem hB V hh h32
          go_wp2
          go_ret
          exact ⟨by rw [HV.out, X.out]; rfl, HB.out⟩
end Go.Proofs.YtmlakjemgmeffaaGreatDoor
end

section
set_option maxRecDepth 100000
set_option linter.unusedVariables false
set_option linter.unusedSimpArgs false
namespace Go.Proofs.YtmlakjemgmeffaaGreatDoor
open Go.RowKit
def fstV : List Fd → ByteArray → ByteArray
  | [], _ => { data := #[] }
  | f :: r, n => if f.n = n then f.v else fstV r n
def putF (n v : ByteArray) : List Fd → List Fd
  | [] => [⟨n, v⟩]
  | f :: r => if f.n = n then ⟨f.n, v⟩ :: r else f :: putF n v r
theorem getV_cons (f : Fd) (r : List Fd) (n : ByteArray) : getV (f :: r) n = (decide (f.n = n) || getV r n) := by unfold getV; rw [List.any_cons]
theorem fstV_cons (f : Fd) (r : List Fd) (n : ByteArray) : fstV (f :: r) n = if f.n = n then f.v else fstV r n := rfl
theorem any_snoc {α : Type} (p : α → Bool) (l : List α) (k : Nat) (hk : k < l.length) : (l.take (k + 1)).any p = ((l.take k).any p || p l[k]) := by
  rw [List.take_succ_eq_append_getElem hk, List.any_append]; simp
theorem all_snoc {α : Type} (p : α → Bool) (l : List α) (k : Nat) (hk : k < l.length) : (l.take (k + 1)).all p = ((l.take k).all p && p l[k]) := by
  rw [List.take_succ_eq_append_getElem hk, List.all_append]; simp
theorem all_not5 {α : Type} {p : α → Bool} {l : List α} {k : Nat} (hk : k < l.length) (h : p l[k] = false) : l.all p = false := by
  rw [List.all_eq_false]; exact ⟨l[k], List.getElem_mem hk, by rw [h]; decide⟩
end Go.Proofs.YtmlakjemgmeffaaGreatDoor
end

section
set_option maxRecDepth 100000
set_option linter.unusedVariables false
set_option linter.unusedSimpArgs false
namespace Go.Proofs.YtmlakjemgmeffaaGreatDoor
open Go.RowKit
def plX : List Fd → ByteArray → Nat → Int
  | [], _, _ => -1
  | f :: r, n, i => if f.n = n then i else plX r n (i + 1)
theorem pl_at {l : List Fd} {n : ByteArray} {k : Nat} (hk : k < l.length) : (l[k].n = n → plX (l.drop k) n k = k) ∧ (l[k].n ≠ n → plX (l.drop k) n k = plX (l.drop (k + 1)) n (k + 1)) := by
  rw [List.drop_eq_getElem_cons hk]
  exact ⟨fun h => if_pos h, fun h => if_neg h⟩
theorem pl_no {n : ByteArray} : ∀ {l : List Fd} {i : Nat}, getV l n = false → plX l n i = -1 ∧ fstV l n = { data := #[] } ∧ ∀ v, putF n v l = l ++ [⟨n, v⟩]
  | [], _, _ => ⟨rfl, rfl, fun _ => rfl⟩
  | f :: r, i, h => by
    rw [getV_cons, Bool.or_eq_false_iff, decide_eq_false_iff_not] at h
    obtain ⟨a, b, c⟩ := pl_no (i := i + 1) h.2
    exact ⟨(if_neg h.1).trans a, (if_neg h.1).trans b, fun v => (if_neg h.1).trans (by rw [c]; rfl)⟩
theorem pl_yes {n : ByteArray} : ∀ {l : List Fd} {i : Nat}, getV l n = true → ∃ k, ∃ hk : k < l.length, plX l n i = ((i + k : Nat) : Int) ∧ l[k].n = n ∧ fstV l n = l[k].v ∧ ∀ v, putF n v l = l.set k ⟨l[k].n, v⟩
  | [], _, h => by simp [getV] at h
  | f :: r, i, h => by
    by_cases hf : f.n = n
    · exact ⟨0, by simp, if_pos hf, hf, if_pos hf, fun v => if_pos hf⟩
    · rw [getV_cons, decide_eq_false hf, Bool.false_or] at h
      obtain ⟨k, hk, a, b, c, d⟩ := pl_yes (i := i + 1) h
      exact ⟨k + 1, by simp only [List.length_cons]; omega, (if_neg hf).trans (by rw [a]; congr 1; omega), b, (if_neg hf).trans c, fun v => (if_neg hf).trans (by rw [d]; rfl)⟩
set_option maxHeartbeats 1000000 in
theorem place1_any (f : Fd) (nm : ByteArray) (q : Addr) (w : World) (hq : q.block < w.heap.size) (hc : w.cell? q = some (.string nm)) :
    Calls Tryz.prog 116 #[f.val, .pointer (some q)] w fun e w' => e = .returned (.bool (decide (f.n = nm))) ∧ Below w.heap.size w w' := by
  have B1 := (Below.refl w.heap.size w).alloc (Nat.le_refl _) (.cells #[.string f.n, .string f.v] 41)
  have hc1 := ((B1.cell hq).trans hc)
  have HB := Lib.hid B1
  have he := str_eq f.n nm
  generalize decide (f.n = nm) = d at *
  clear B1 hc
  unfold Fd.val
  go_enter Tryz.func116, Tryz.ntmps116
  go_wp2
  go_ret
  exact ⟨rfl, HB.out⟩
set_option maxHeartbeats 2000000 in
theorem ixFd_any (A : Option Addr) (n c : Nat) (l : List Fd) (nm : ByteArray) (q : Addr) (w : World) (h : rdFds w (lt_ w.heap.size) l [.slice A n c]) (hq : q.block < w.heap.size) (hc : w.cell? q = some (.string nm)) :
    Calls Tryz.prog 115 #[.slice A n c, .func (.func 116) #[] #[.pointer (some q)]] w fun e w' => e = .returned (.int .i64 (plX l nm 0)) ∧ Below w.heap.size w w' := by
  have hcf : ∀ (args : Array Value) (w : World), (callFunc 116 args).run Tryz.prog w = .ok (.enter 116 args) w := fun _ _ => by kernel_rfl
  obtain ⟨rfl, hnc, hcm, _⟩ := rdFds_at h
  have hcm' : c ≤ 9223372036854775807 := hcm
  have H := Lib.hid h
  have HQ := Lib.hid hq
  have HC := Lib.hid hc
  clear h hcm hc hq
  go_enter Tryz.func115, Tryz.ntmps115
  go_wp2
  go_loopw [8] (fun i wr => ∃ k : Nat, k ≤ l.length ∧ i = .int .i64 k ∧ plX l nm 0 = plX (l.drop k) nm k ∧ Below w.heap.size w wr) (fun i _ => l.length - (intOf i).toNat)
  case atStart => exact ⟨0, Nat.zero_le _, rfl, rfl, Below.refl _ _⟩
  case round =>
    obtain ⟨k, hk, rfl, h1, hbel⟩ := hrel
    have H1 := Lib.hid h1
    have HB := Lib.hid hbel
    clear h1
    by_cases hlt : k < l.length
    · obtain ⟨_, _, _, ha⟩ := rdFds_at (rdFds_good.below H.out hbel)
      obtain ⟨ad, rfl, had, c0, c1⟩ := ha k hlt
      have hqr : q.block < wr.heap.size := Nat.lt_of_lt_of_le HQ.out hbel.size
      have CL := Lib.hid (place1_any l[k] nm q wr hqr ((hbel.cell HQ.out).trans HC.out))
      have PA := Lib.hid (pl_at (l := l) (n := nm) hlt)
      clear ha hbel hqr
      have SZ := Lib.hid HB.out.size
      by_cases he : l[k].n = nm
      · have X := Lib.hid (PA.out.1 he)
        have DT := Lib.hid (decide_eq_true he)
        clear he
        go_wp2_with fail
        refine CL.out.mono ?_
        rw [DT.out]
        rintro e w' ⟨rfl, hb2⟩
        have HB2 := Lib.hid hb2
        clear hb2
        go_wp2
        go_ret
        exact ⟨by rw [H1.out, X.out]; try rfl, HB.out.trans (HB2.out.mono SZ.out)⟩
      · have X := Lib.hid (PA.out.2 he)
        have DT := Lib.hid (decide_eq_false he)
        clear he
        go_wp2_with fail
        refine CL.out.mono ?_
        rw [DT.out]
        rintro e w' ⟨rfl, hb2⟩
        have HB2 := Lib.hid hb2
        clear hb2
        go_wp2
        go_roundw
        case rel => exact ⟨k + 1, by omega, by go_num, by rw [H1.out, X.out], HB.out.trans (HB2.out.mono SZ.out)⟩
        case measure => simp [intOf]; omega
    · have X := Lib.hid (show plX l nm 0 = -1 by rw [H1.out, List.drop_eq_nil_of_le (by omega)]; rfl)
      go_wp2
      go_ret
      exact ⟨by rw [X.out]; try rfl, HB.out⟩
set_option maxHeartbeats 2000000 in
theorem place_any (A : Option Addr) (n c : Nat) (l : List Fd) (nm : ByteArray) (w : World) (h : rdFds w (lt_ w.heap.size) l [.slice A n c]) :
    Calls Tryz.prog 82 #[.slice A n c, .string nm] w fun e w' => e = .returned (.int .i64 (plX l nm 0)) ∧ Below w.heap.size w w' := by
  have B1 := (Below.refl w.heap.size w).alloc (Nat.le_refl _) (.cells #[.string nm] 9)
  have hq : (⟨w.heap.size, 0, none⟩ : Addr).block < (w.alloc (.cells #[.string nm] 9)).heap.size := by rw [World.size_alloc]; exact Nat.lt_succ_self _
  have hc : (w.alloc (.cells #[.string nm] 9)).cell? ⟨w.heap.size, 0, none⟩ = some (.string nm) := by simp [go_sem]
  have C := Lib.hid (ixFd_any A n c l nm ⟨w.heap.size, 0, none⟩ (w.alloc (.cells #[.string nm] 9)) (rdFds_good.more (rdFds_good.below h B1) fun b hb => Nat.lt_of_lt_of_le hb B1.size) hq hc)
  have HB := Lib.hid B1
  have hmf : ∀ (fn : Fn) (first cap : Array Value) (w : World), (Instr.makeFunc fn first cap).run Tryz.prog w = .ok (.func fn first cap) w := fun _ _ _ _ => rfl
  clear h B1 hq hc
  go_enter Tryz.func82, Tryz.ntmps82
  go_wp2_with (go_at_call 115; (with_reducible refine C.out.mono ?_); rintro e w' ⟨rfl, hb2⟩)
  have HB2 := Lib.hid hb2
  clear hb2
  go_wp2
  go_ret
  exact ⟨rfl, HB.out.trans (HB2.out.mono HB.out.size)⟩
set_option maxHeartbeats 2000000 in
theorem get5_any (A : Option Addr) (n c : Nat) (l : List Fd) (nm : ByteArray) (w : World) (h : rdFds w (lt_ w.heap.size) l [.slice A n c]) :
    Calls Tryz.prog 46 #[.slice A n c, .string nm] w fun e w' => e = .returned (.tuple #[.string (fstV l nm), .bool (getV l nm)]) ∧ Below w.heap.size w w' := by
  obtain ⟨rfl, hnc, hcm, _⟩ := rdFds_at h
  have hcm' : c ≤ 9223372036854775807 := hcm
  have C := Lib.hid (place_any A l.length c l nm w h)
  have H := Lib.hid h
  clear h hcm
  cases hg : getV l nm
  · obtain ⟨e1, e2, _⟩ := pl_no (i := 0) hg
    rw [e1] at C
    rw [e2]
    clear e1 e2 hg
    go_enter Tryz.func46, Tryz.ntmps46
    go_wp2_with (go_at_call 82; (with_reducible refine C.out.mono ?_); rintro e w' ⟨rfl, hb2⟩)
    go_ret2
    exact ⟨rfl, hb2⟩
  · obtain ⟨k, hk, e1, _, e2, _⟩ := pl_yes (i := 0) hg
    rw [Nat.zero_add] at e1
    rw [e1] at C
    rw [e2]
    clear e1 e2 hg
    have t0 : ¬ ((k : Int) < 0) := by omega
    go_enter Tryz.func46, Tryz.ntmps46
    go_wp2_with (go_at_call 82; (with_reducible refine C.out.mono ?_); rintro e w' ⟨rfl, hb2⟩)
    obtain ⟨_, _, _, ha⟩ := rdFds_at (rdFds_good.below H.out hb2)
    obtain ⟨ad, rfl, had, c0, c1⟩ := ha k hk
    have HB2 := Lib.hid hb2
    clear hb2 ha
    go_wp2
    go_ret2
    exact ⟨rfl, HB2.out⟩
end Go.Proofs.YtmlakjemgmeffaaGreatDoor
end
