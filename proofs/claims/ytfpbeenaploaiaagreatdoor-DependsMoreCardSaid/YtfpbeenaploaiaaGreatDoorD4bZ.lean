/- The contracts of sameAtoms, same, sameInts. -/
import Derived.Test.YtfpbeenaploaiaaGreatDoorD4aZ
import Derived.Test.YtfpbeenaploaiaaGreatDoorM1
import Derived.StillTailTactics
import Derived.BigQuiet
import Derived.Deep.QuietTactic
set_option maxRecDepth 100000
set_option linter.unusedVariables false
set_option linter.unusedSimpArgs false
namespace Go.Proofs.YtfpbeenaploaiaaGreatDoor
open Go.RowKit
deriving instance DecidableEq for Atm
theorem atomT_struct : Tryz.prog.underlying 25 = some (.struct (Tryz.prog.fieldsOf 25)) := by kernel_rfl
theorem atomT_stood : Tryz.prog.stoodInHeld 25 = false := by kernel_rfl
theorem atomT_fields : (Tryz.prog.fieldsOf 25).toList.map (fun f => (f.type, f.offset, f.name == "_")) = [(9, 0, false), (3, 1, false), (9, 2, false)] := by kernel_rfl
theorem eq_atm (x y : Atm) (w : World) : (Op.equalIn 10000 25 x.val y.val).run Tryz.prog w = .ok (decide (x = y)) w := by
  obtain ⟨u, e, r⟩ := x
  obtain ⟨u', e', r'⟩ := y
  have hi := Tryz.underlying3
  have hs := Tryz.underlying9
  unfold Atm.val
  rw [run_equalIn_struct w 9999 _ _ _ atomT_struct atomT_stood]
  have hf := atomT_fields
  generalize (Tryz.prog.fieldsOf 25).toList = L at hf ⊢
  have hlen : L.length = 3 := by have := congrArg List.length hf; simpa using this
  have hst : ∀ a b : ByteArray, (a.toList == b.toList) = decide (a = b) := by
    intro a b
    have h := strEq (B a) b (B_lt a)
    rw [mk_B] at h
    rw [h, decide_eq_decide]
    exact ⟨fun h => B_inj h, fun h => by rw [h]⟩
  rcases L with _ | ⟨f0, _ | ⟨f1, _ | ⟨f2, _ | ⟨f3, L⟩⟩⟩⟩
  · simp at hlen
  · simp at hlen
  · simp at hlen
  · simp only [List.map_cons, List.map_nil, List.cons.injEq, Prod.mk.injEq, and_true] at hf
    obtain ⟨⟨a0, b0, c0⟩, ⟨a1, b1, c1⟩, ⟨a2, b2, c2⟩⟩ := hf
    have n0 : f0.name ≠ "_" := by simpa using c0
    have n1 : f1.name ≠ "_" := by simpa using c1
    have n2 : f2.name ≠ "_" := by simpa using c2
    simp only [Op.eqFields, n0, n1, n2, ne_eq, not_false_iff, if_true, a0, b0, a1, b1, a2, b2, Atm.mk.injEq]
    cases h1 : (e == e') <;> cases h2 : (u.toList == u'.toList) <;> cases h3 : (r.toList == r'.toList) <;> simp [part, isAgg, run_underlying hi, run_underlying hs, run_equalIn_int w 9998 _ _ _ _ _ hi, run_equalIn_string w 9998 _ _ _ hs, h1, h2, h3] <;> rw [hst] at h2 h3 <;> simp_all
  · simp at hlen
theorem neq_atm (x y : Atm) (w : World) : (Op.equalIn 10000 25 (.agg #[.string x.n, .int .i64 x.o, .string x.v]) (.agg #[.string y.n, .int .i64 y.o, .string y.v])).run Tryz.prog w = .ok (decide (x = y)) w := eq_atm x y w
def sameB (l m : List Atm) : Bool := decide (l = m)
def sameG (l m : List (List Atm)) : Bool := decide (l = m)
theorem same_take {α : Type} [DecidableEq α] {l m : List α} {k : Nat} (hl : l.length = m.length) (hk : k < l.length) (hm : k < m.length) (h : l.take k = m.take k) (he : l[k] = m[k]) : l.take (k + 1) = m.take (k + 1) := by
  rw [List.take_succ_eq_append_getElem hk, List.take_succ_eq_append_getElem hm, h, he]
set_option maxHeartbeats 1000000 in
theorem sameAtoms_any (A A' : Option Addr) (n c n' c' : Nat) (l m : List Atm) (w : World) (h : rdAtms w (lt_ w.heap.size) l [.slice A n c]) (h' : rdAtms w (lt_ w.heap.size) m [.slice A' n' c']) :
    Calls Tryz.prog 13 #[.slice A n c, .slice A' n' c'] w fun e w' => e = .returned (.bool (decide (l = m))) ∧ Dr w w' := by
  obtain ⟨rfl, hnc, hcm, _⟩ := rdAtms_at h
  obtain ⟨rfl, hnc', hcm', _⟩ := rdAtms_at h'
  have hcm1 : c ≤ 9223372036854775807 := hcm
  have hcm2 : c' ≤ 9223372036854775807 := hcm'
  by_cases hlen : l.length = m.length
  · have hd : ((l.length : Int) != (m.length : Int)) = false := by rw [hlen]; simp
    have HL := Lib.hid hlen
    clear hlen
    go_enter Tryz.func13, Tryz.ntmps13
    go_wp2
    go_loopw [5] (fun i wr => ∃ k : Nat, k ≤ l.length ∧ i = .int .i64 k ∧ l.take k = m.take k ∧ Dr w wr) (fun i _ => l.length - (intOf i).toNat)
    case atStart => exact ⟨0, Nat.zero_le _, rfl, rfl, Dr.refl _⟩
    case round =>
      obtain ⟨k, hk, rfl, htk, hbel⟩ := hrel
      by_cases hlt : k < l.length
      · obtain ⟨_, _, _, ha⟩ := rdAtms_at (rdAtms_good.below h (hbel.below _))
        obtain ⟨_, _, _, hb⟩ := rdAtms_at (rdAtms_good.below h' (hbel.below _))
        have hltm : k < m.length := by rw [← HL.out]; exact hlt
        obtain ⟨ad, rfl, had, h0, h1, h2⟩ := ha k hlt
        obtain ⟨ad', rfl, had', g0, g1, g2⟩ := hb k hltm
        have T := Lib.hid (same_take (l := l) (m := m) HL.out hlt hltm htk)
        have Z := Lib.hid (show l[k] ≠ m[k] → l ≠ m from fun hn e => hn (by subst e; rfl))
        have HB := Lib.hid hbel
        have hki : (k : Int) < (m.length : Int) := by omega
        clear htk ha hb hbel h h'
        have hq := neq_atm l[k] m[k]
        generalize l[k] = x at *
        generalize m[k] = y at *
        by_cases he : x = y
        · rw [decide_eq_true he] at hq
          have HE := Lib.hid he
          clear he
          go_wp2_with fail
          go_quiet (fail)
          go_wp2
          go_roundw
          case rel => exact ⟨k + 1, by omega, by go_num, T.out HE.out, HB.out.more _⟩
          case measure => simp [intOf]; omega
        · rw [decide_eq_false he] at hq
          have HE := Lib.hid he
          clear he
          go_wp2_with fail
          go_quiet (fail)
          go_wp2
          go_ret
          exact ⟨by rw [decide_eq_false (Z.out HE.out)]; try rfl, HB.out.more _⟩
      · obtain rfl : k = l.length := by omega
        have X := Lib.hid (show l = m by rw [List.take_length] at htk; rw [htk, HL.out, List.take_length])
        clear htk h h'
        go_wp2
        go_ret
        exact ⟨by rw [decide_eq_true X.out]; try rfl, hbel⟩
  · have hd : ((l.length : Int) != (m.length : Int)) = true := by rw [bne_iff_ne]; omega
    have X := Lib.hid (show l ≠ m by rintro rfl; exact hlen rfl)
    clear hlen
    go_enter Tryz.func13, Tryz.ntmps13
    go_wp2
    go_ret
    exact ⟨by rw [decide_eq_false X.out]; try rfl, Dr.refl _⟩
set_option maxHeartbeats 1000000 in
theorem same_any (A A' : Option Addr) (n c n' c' : Nat) (l m : List (List Atm)) (w : World) (h : rdGrps w (lt_ w.heap.size) l [.slice A n c]) (h' : rdGrps w (lt_ w.heap.size) m [.slice A' n' c']) :
    Calls Tryz.prog 11 #[.slice A n c, .slice A' n' c'] w fun e w' => e = .returned (.bool (decide (l = m))) ∧ Dr w w' := by
  obtain ⟨rfl, hnc, hcm, _⟩ := rdGrps_at h
  obtain ⟨rfl, hnc', hcm', _⟩ := rdGrps_at h'
  have hcm1 : c ≤ 9223372036854775807 := hcm
  have hcm2 : c' ≤ 9223372036854775807 := hcm'
  by_cases hlen : l.length = m.length
  · have hd : ((l.length : Int) != (m.length : Int)) = false := by rw [hlen]; simp
    have HL := Lib.hid hlen
    clear hlen
    go_enter Tryz.func11, Tryz.ntmps11
    go_wp2
    go_loopw [5] (fun i wr => ∃ k : Nat, k ≤ l.length ∧ i = .int .i64 k ∧ l.take k = m.take k ∧ Dr w wr) (fun i _ => l.length - (intOf i).toNat)
    case atStart => exact ⟨0, Nat.zero_le _, rfl, rfl, Dr.refl _⟩
    case round =>
      obtain ⟨k, hk, rfl, htk, hbel⟩ := hrel
      by_cases hlt : k < l.length
      · obtain ⟨_, _, _, ha⟩ := rdGrps_at (rdGrps_good.below h (hbel.below _))
        obtain ⟨_, _, _, hb⟩ := rdGrps_at (rdGrps_good.below h' (hbel.below _))
        have hltm : k < m.length := by rw [← HL.out]; exact hlt
        obtain ⟨ad, X, cx, rfl, had, h0, h1⟩ := ha k hlt
        obtain ⟨ad', Y, cy, rfl, had', g0, g1⟩ := hb k hltm
        have T := Lib.hid (same_take (l := l) (m := m) HL.out hlt hltm htk)
        have Z := Lib.hid (show l[k] ≠ m[k] → l ≠ m from fun hn e => hn (by subst e; rfl))
        have HB := Lib.hid hbel
        have hki : (k : Int) < (m.length : Int) := by omega
        have hsz := hbel.size
        have K := Lib.hid (fun nq => sameAtoms_any _ _ _ _ _ _ _ _ (wr.drewN nq) (rdAtms_good.below (rdAtms_good.up h1 (Nat.le_of_eq hsz.symm)) (belD (Below.refl _ _) nq)) (rdAtms_good.below (rdAtms_good.up g1 (Nat.le_of_eq hsz.symm)) (belD (Below.refl _ _) nq)))
        clear htk ha hb hbel h h' h1 g1 hsz
        generalize l[k] = x at *
        generalize m[k] = y at *
        by_cases he : x = y
        · rw [decide_eq_true he] at K
          have HE := Lib.hid he
          clear he
          go_wp2_with fail
          go_quiet (first | (go_at_call 13; refine Calls.quiet_of (K.out _)))
          go_wp2
          go_roundw
          case rel => exact ⟨k + 1, by omega, by go_num, T.out HE.out, HB.out.more _⟩
          case measure => simp [intOf]; omega
        · rw [decide_eq_false he] at K
          have HE := Lib.hid he
          clear he
          go_wp2_with fail
          go_quiet (first | (go_at_call 13; refine Calls.quiet_of (K.out _)))
          go_wp2
          go_ret
          exact ⟨by rw [decide_eq_false (Z.out HE.out)]; try rfl, HB.out.more _⟩
      · obtain rfl : k = l.length := by omega
        have X := Lib.hid (show l = m by rw [List.take_length] at htk; rw [htk, HL.out, List.take_length])
        clear htk h h'
        go_wp2
        go_ret
        exact ⟨by rw [decide_eq_true X.out]; try rfl, hbel⟩
  · have hd : ((l.length : Int) != (m.length : Int)) = true := by rw [bne_iff_ne]; omega
    have X := Lib.hid (show l ≠ m by rintro rfl; exact hlen rfl)
    clear hlen
    go_enter Tryz.func11, Tryz.ntmps11
    go_wp2
    go_ret
    exact ⟨by rw [decide_eq_false X.out]; try rfl, Dr.refl _⟩
def rdInt : Rd Int := fun _ _ a cs => cs = [.int .i64 a]
theorem rdInt_good : Good rdInt 1 := ⟨fun h _ => h, fun h _ => h, fun h _ _ => h, fun h => by rw [h]; rfl, fun h u hu => by rw [h] at hu; simp at hu; subst hu; rfl⟩
abbrev rdInts : Rd (List Int) := rdRow 1 rdInt
theorem rdInts_good : Good rdInts 1 := rdRow_good rdInt_good
theorem rdInts_at {w : World} {S : Nat → Prop} {l : List Int} {A : Option Addr} {n c : Nat} (h : rdInts w S l [.slice A n c]) : n = l.length ∧ n ≤ c ∧ c ≤ maxLen ∧ ∀ k (hk : k < l.length), ∃ ad, A = some ad ∧ S ad.block ∧
    w.cell? (ad.add k) = some (.int .i64 l[k]) := by
  obtain ⟨A', c', e, h1, h2, h⟩ := h
  simp only [List.cons.injEq, Value.slice.injEq, and_true] at e
  obtain ⟨rfl, rfl, rfl⟩ := e
  refine ⟨rfl, h1, h2, fun k hk => ?_⟩
  obtain ⟨ad, es, e, hS, hE, hl, hc⟩ := h k hk
  rw [show es = [.int .i64 l[k]] from hE] at hc
  have := hc 0 _ rfl
  rw [Nat.mul_one] at this
  exact ⟨ad, e, hS, this⟩
set_option maxHeartbeats 1000000 in
theorem sameInts_any (A A' : Option Addr) (n c n' c' : Nat) (l m : List Int) (w : World) (h : rdInts w (lt_ w.heap.size) l [.slice A n c]) (h' : rdInts w (lt_ w.heap.size) m [.slice A' n' c']) :
    Calls Tryz.prog 8 #[.slice A n c, .slice A' n' c'] w fun e w' => e = .returned (.bool (decide (l = m))) ∧ Dr w w' := by
  obtain ⟨rfl, hnc, hcm, _⟩ := rdInts_at h
  obtain ⟨rfl, hnc', hcm', _⟩ := rdInts_at h'
  have hcm1 : c ≤ 9223372036854775807 := hcm
  have hcm2 : c' ≤ 9223372036854775807 := hcm'
  by_cases hlen : l.length = m.length
  · have hd : ((l.length : Int) != (m.length : Int)) = false := by rw [hlen]; simp
    have HL := Lib.hid hlen
    clear hlen
    go_enter Tryz.func8, Tryz.ntmps8
    go_wp2
    go_loopw [5] (fun i wr => ∃ k : Nat, k ≤ l.length ∧ i = .int .i64 k ∧ l.take k = m.take k ∧ Dr w wr) (fun i _ => l.length - (intOf i).toNat)
    case atStart => exact ⟨0, Nat.zero_le _, rfl, rfl, Dr.refl _⟩
    case round =>
      obtain ⟨k, hk, rfl, htk, hbel⟩ := hrel
      by_cases hlt : k < l.length
      · obtain ⟨_, _, _, ha⟩ := rdInts_at (rdInts_good.below h (hbel.below _))
        obtain ⟨_, _, _, hb⟩ := rdInts_at (rdInts_good.below h' (hbel.below _))
        have hltm : k < m.length := by rw [← HL.out]; exact hlt
        obtain ⟨ad, rfl, had, h0⟩ := ha k hlt
        obtain ⟨ad', rfl, had', g0⟩ := hb k hltm
        have T := Lib.hid (same_take (l := l) (m := m) HL.out hlt hltm htk)
        have Z := Lib.hid (show l[k] ≠ m[k] → l ≠ m from fun hn e => hn (by subst e; rfl))
        have HB := Lib.hid hbel
        have hki : (k : Int) < (m.length : Int) := by omega
        clear htk ha hb hbel h h'
        generalize l[k] = x at *
        generalize m[k] = y at *
        by_cases he : x = y
        · have hq : (x != y) = false := by rw [he]; simp
          have HE := Lib.hid he
          clear he
          go_wp2_with fail
          go_quiet (fail)
          go_wp2
          go_roundw
          case rel => exact ⟨k + 1, by omega, by go_num, T.out HE.out, HB.out.more _⟩
          case measure => simp [intOf]; omega
        · have hq : (x != y) = true := by rw [bne_iff_ne]; exact he
          have HE := Lib.hid he
          clear he
          go_wp2_with fail
          go_quiet (fail)
          go_wp2
          go_ret
          exact ⟨by rw [decide_eq_false (Z.out HE.out)]; try rfl, HB.out.more _⟩
      · obtain rfl : k = l.length := by omega
        have X := Lib.hid (show l = m by rw [List.take_length] at htk; rw [htk, HL.out, List.take_length])
        clear htk h h'
        go_wp2
        go_ret
        exact ⟨by rw [decide_eq_true X.out]; try rfl, hbel⟩
  · have hd : ((l.length : Int) != (m.length : Int)) = true := by rw [bne_iff_ne]; omega
    have X := Lib.hid (show l ≠ m by rintro rfl; exact hlen rfl)
    clear hlen
    go_enter Tryz.func8, Tryz.ntmps8
    go_wp2
    go_ret
    exact ⟨by rw [decide_eq_false X.out]; try rfl, Dr.refl _⟩
end Go.Proofs.YtfpbeenaploaiaaGreatDoor
