/- Fields and stanzas as data: their readers; the contracts of sameFields, same, as, small. -/
import Derived.Test.YtjfenheplkoajaaDoorStzP
import Derived.Test.YtjfenheplkoajaaDoorStrRow
import Derived.Test.YtjfenheplkoajaaDoorDeep2
import Derived.StillTailTactics
import Derived.BigQuiet
import Derived.Deep.QuietTactic
set_option maxRecDepth 100000
set_option linter.unusedVariables false
set_option linter.unusedSimpArgs false
namespace Go.Proofs.YtjfenheplkoajaaDoor
open Go.RowKit
theorem str_eq (a b : ByteArray) : (a.toList == b.toList) = decide (a = b) := by
  have h := strEq (B a) b (B_lt a)
  rw [mk_B] at h
  rw [h, decide_eq_decide]
  exact ⟨fun h => B_inj h, fun h => by rw [h]⟩
def Fd.val (a : Fd) : Value := .agg #[.string a.n, .string a.v]
def Fd.cells (a : Fd) : List Value := [.string a.n, .string a.v]
def rdFd : Rd Fd := fun _ _ a cs => cs = a.cells
theorem rdFd_good : Good rdFd 2 := ⟨fun h _ => h, fun h _ => h, fun h _ _ => h, fun h => by rw [h]; rfl, fun h u hu => by rw [h] at hu; simp [Fd.cells] at hu; rcases hu with rfl | rfl <;> rfl⟩
abbrev rdFds : Rd (List Fd) := rdRow 2 rdFd
abbrev rdStzs : Rd (List (List Fd)) := rdRow 1 rdFds
theorem rdFds_good : Good rdFds 1 := rdRow_good rdFd_good
theorem rdStzs_good : Good rdStzs 1 := rdRow_good rdFds_good
theorem off2_add (a : Addr) (k j : Nat) (hj : j ≠ 0) : (⟨(a.add k).block, (a.add k).off + j, none⟩ : Addr) = a.add (k + j) := by
  unfold Addr.add; by_cases hk : k = 0 <;> simp [hk, hj, Nat.add_assoc]
theorem rdFds_at {w : World} {S : Nat → Prop} {l : List Fd} {A : Option Addr} {n c : Nat} (h : rdFds w S l [.slice A n c]) : n = l.length ∧ n ≤ c ∧ c ≤ maxLen ∧ ∀ k (hk : k < l.length), ∃ ad, A = some ad ∧ S ad.block ∧
    w.cell? (ad.add (k * 2)) = some (.string l[k].n) ∧ w.cell? ⟨(ad.add (k * 2)).block, (ad.add (k * 2)).off + 1, none⟩ = some (.string l[k].v) := by
  obtain ⟨A', c', e, h1, h2, h⟩ := h
  simp only [List.cons.injEq, Value.slice.injEq, and_true] at e
  obtain ⟨rfl, rfl, rfl⟩ := e
  refine ⟨rfl, h1, h2, fun k hk => ?_⟩
  obtain ⟨ad, es, e, hS, hE, hl, hc⟩ := h k hk
  rw [show es = l[k].cells from hE] at hc
  exact ⟨ad, e, hS, hc 0 _ rfl, by rw [off2_add ad (k * 2) 1 (by omega)]; exact hc 1 _ rfl⟩
theorem rdStzs_at {w : World} {S : Nat → Prop} {l : List (List Fd)} {A : Option Addr} {n c : Nat} (h : rdStzs w S l [.slice A n c]) : n = l.length ∧ n ≤ c ∧ c ≤ maxLen ∧ ∀ k (hk : k < l.length), ∃ ad A' c', A = some ad ∧ S ad.block ∧
    w.cell? (ad.add k) = some (.slice A' l[k].length c') ∧ rdFds w S l[k] [.slice A' l[k].length c'] := by
  obtain ⟨A', c', e, h1, h2, h⟩ := h
  simp only [List.cons.injEq, Value.slice.injEq, and_true] at e
  obtain ⟨rfl, rfl, rfl⟩ := e
  refine ⟨rfl, h1, h2, fun k hk => ?_⟩
  obtain ⟨ad, es, e, hS, hE, hl, hc⟩ := h k hk
  have hE' := hE
  obtain ⟨A2, c2, rfl, _⟩ := hE'
  refine ⟨ad, A2, c2, e, hS, ?_, hE⟩
  have := hc 0 _ rfl
  rwa [Nat.mul_one] at this
theorem fd_info : (Tryd.prog.info? 54).map (fun i => (i.zero, i.size, i.bytes)) = some (some (.agg #[.string { data := #[] }, .string { data := #[] }]), 2, 32) := by kernel_rfl
theorem fds_info : (Tryd.prog.info? 38).map (fun i => (i.zero, i.size, i.bytes)) = some (some (.slice none 0 0), 1, 24) := by kernel_rfl
theorem stz_info : (Tryd.prog.info? 39).map (fun i => (i.zero, i.size, i.bytes)) = some (some (.slice none 0 0), 1, 24) := by kernel_rfl
theorem fdT_struct : Tryd.prog.underlying 54 = some (.struct (Tryd.prog.fieldsOf 54)) := by kernel_rfl
theorem fdT_stood : Tryd.prog.stoodInHeld 54 = false := by kernel_rfl
theorem fdT_fields : (Tryd.prog.fieldsOf 54).toList.map (fun f => (f.type, f.offset, f.name == "_")) = [(9, 0, false), (9, 1, false)] := by kernel_rfl
theorem eq_fd (x y : Fd) (w : World) : (Op.equalIn 10000 54 (.agg #[.string x.n, .string x.v]) (.agg #[.string y.n, .string y.v])).run Tryd.prog w = .ok (decide (x = y)) w := by
  obtain ⟨u, r⟩ := x
  obtain ⟨u', r'⟩ := y
  have hs := Tryd.underlying9
  rw [run_equalIn_struct w 9999 _ _ _ fdT_struct fdT_stood]
  have hf := fdT_fields
  generalize (Tryd.prog.fieldsOf 54).toList = L at hf ⊢
  have hlen : L.length = 2 := by have := congrArg List.length hf; simpa using this
  have hst := str_eq
  rcases L with _ | ⟨f0, _ | ⟨f1, _ | ⟨f2, L⟩⟩⟩
  · simp at hlen
  · simp at hlen
  · simp only [List.map_cons, List.map_nil, List.cons.injEq, Prod.mk.injEq, and_true] at hf
    obtain ⟨⟨a0, b0, c0⟩, ⟨a1, b1, c1⟩⟩ := hf
    have n0 : f0.name ≠ "_" := by simpa using c0
    have n1 : f1.name ≠ "_" := by simpa using c1
    simp only [Op.eqFields, n0, n1, ne_eq, not_false_iff, if_true, a0, b0, a1, b1, Fd.mk.injEq]
    cases h2 : (u.toList == u'.toList) <;> cases h3 : (r.toList == r'.toList) <;> simp [part, isAgg, run_underlying hs, run_equalIn_string w 9998 _ _ _ hs, h2, h3] <;> rw [hst] at h2 h3 <;> simp_all
  · simp at hlen
theorem same_take5 {α : Type} [DecidableEq α] {l m : List α} {k : Nat} (hl : l.length = m.length) (hk : k < l.length) (hm : k < m.length) (h : l.take k = m.take k) (he : l[k] = m[k]) : l.take (k + 1) = m.take (k + 1) := by
  rw [List.take_succ_eq_append_getElem hk, List.take_succ_eq_append_getElem hm, h, he]
set_option maxHeartbeats 1000000 in
theorem sameFields_any (A A' : Option Addr) (n c n' c' : Nat) (l m : List Fd) (w : World) (h : rdFds w (lt_ w.heap.size) l [.slice A n c]) (h' : rdFds w (lt_ w.heap.size) m [.slice A' n' c']) :
    Calls Tryd.prog 23 #[.slice A n c, .slice A' n' c'] w fun e w' => e = .returned (.bool (decide (l = m))) ∧ Dr w w' := by
  obtain ⟨rfl, hnc, hcm, _⟩ := rdFds_at h
  obtain ⟨rfl, hnc', hcm', _⟩ := rdFds_at h'
  have hcm1 : c ≤ 9223372036854775807 := hcm
  have hcm2 : c' ≤ 9223372036854775807 := hcm'
  by_cases hlen : l.length = m.length
  · have hd : ((l.length : Int) != (m.length : Int)) = false := by rw [hlen]; simp
    have HL := Lib.hid hlen
    clear hlen
    go_enter Tryd.func23, Tryd.ntmps23
    go_wp2
    go_loopw [5] (fun i wr => ∃ k : Nat, k ≤ l.length ∧ i = .int .i64 k ∧ l.take k = m.take k ∧ Dr w wr) (fun i _ => l.length - (intOf i).toNat)
    case atStart => exact ⟨0, Nat.zero_le _, rfl, rfl, Dr.refl _⟩
    case round =>
      obtain ⟨k, hk, rfl, htk, hbel⟩ := hrel
      by_cases hlt : k < l.length
      · obtain ⟨_, _, _, ha⟩ := rdFds_at (rdFds_good.below h (hbel.below _))
        obtain ⟨_, _, _, hb⟩ := rdFds_at (rdFds_good.below h' (hbel.below _))
        have hltm : k < m.length := by rw [← HL.out]; exact hlt
        obtain ⟨ad, rfl, had, h0, h1⟩ := ha k hlt
        obtain ⟨ad', rfl, had', g0, g1⟩ := hb k hltm
        have T := Lib.hid (same_take5 (l := l) (m := m) HL.out hlt hltm htk)
        have Z := Lib.hid (show l[k] ≠ m[k] → l ≠ m from fun hn e => hn (by subst e; rfl))
        have HB := Lib.hid hbel
        have hki : (k : Int) < (m.length : Int) := by omega
        clear htk ha hb hbel h h'
        have hq := eq_fd l[k] m[k]
        generalize l[k] = x at *
        generalize m[k] = y at *
        by_cases he : x = y
        · rw [decide_eq_true he] at hq
          have HE := Lib.hid he
          clear he
          go_wp2_with fail
          go_quiet (fail)
          go_wp2
          go_roundw
          case rel => exact ⟨k + 1, by omega, by go_num, T.out HE.out, HB.out.more _⟩
          case measure => simp [intOf]; omega
        · rw [decide_eq_false he] at hq
          have HE := Lib.hid he
          clear he
          go_wp2_with fail
          go_quiet (fail)
          go_wp2
          go_ret
          exact ⟨by rw [decide_eq_false (Z.out HE.out)]; try rfl, HB.out.more _⟩
      · obtain rfl : k = l.length := by omega
        have X := Lib.hid (show l = m by rw [List.take_length] at htk; rw [htk, HL.out, List.take_length])
        clear htk h h'
        go_wp2
        go_ret
        exact ⟨by rw [decide_eq_true X.out]; try rfl, hbel⟩
  · have hd : ((l.length : Int) != (m.length : Int)) = true := by rw [bne_iff_ne]; omega
    have X := Lib.hid (show l ≠ m by rintro rfl; exact hlen rfl)
    clear hlen
    go_enter Tryd.func23, Tryd.ntmps23
    go_wp2
    go_ret
    exact ⟨by rw [decide_eq_false X.out]; try rfl, Dr.refl _⟩
set_option maxHeartbeats 1000000 in
theorem same5_any (A A' : Option Addr) (n c n' c' : Nat) (l m : List (List Fd)) (w : World) (h : rdStzs w (lt_ w.heap.size) l [.slice A n c]) (h' : rdStzs w (lt_ w.heap.size) m [.slice A' n' c']) :
    Calls Tryd.prog 12 #[.slice A n c, .slice A' n' c'] w fun e w' => e = .returned (.bool (decide (l = m))) ∧ Dr w w' := by
  obtain ⟨rfl, hnc, hcm, _⟩ := rdStzs_at h
  obtain ⟨rfl, hnc', hcm', _⟩ := rdStzs_at h'
  have hcm1 : c ≤ 9223372036854775807 := hcm
  have hcm2 : c' ≤ 9223372036854775807 := hcm'
  by_cases hlen : l.length = m.length
  · have hd : ((l.length : Int) != (m.length : Int)) = false := by rw [hlen]; simp
    have HL := Lib.hid hlen
    clear hlen
    go_enter Tryd.func12, Tryd.ntmps12
    go_wp2
    go_loopw [5] (fun i wr => ∃ k : Nat, k ≤ l.length ∧ i = .int .i64 k ∧ l.take k = m.take k ∧ Dr w wr) (fun i _ => l.length - (intOf i).toNat)
    case atStart => exact ⟨0, Nat.zero_le _, rfl, rfl, Dr.refl _⟩
    case round =>
      obtain ⟨k, hk, rfl, htk, hbel⟩ := hrel
      by_cases hlt : k < l.length
      · obtain ⟨_, _, _, ha⟩ := rdStzs_at (rdStzs_good.below h (hbel.below _))
        obtain ⟨_, _, _, hb⟩ := rdStzs_at (rdStzs_good.below h' (hbel.below _))
        have hltm : k < m.length := by rw [← HL.out]; exact hlt
        obtain ⟨ad, X, cx, rfl, had, h0, h1⟩ := ha k hlt
        obtain ⟨ad', Y, cy, rfl, had', g0, g1⟩ := hb k hltm
        have T := Lib.hid (same_take5 (l := l) (m := m) HL.out hlt hltm htk)
        have Z := Lib.hid (show l[k] ≠ m[k] → l ≠ m from fun hn e => hn (by subst e; rfl))
        have HB := Lib.hid hbel
        have hki : (k : Int) < (m.length : Int) := by omega
        have hsz := hbel.size
        have K := Lib.hid (fun nq => sameFields_any _ _ _ _ _ _ _ _ (wr.drewN nq) (rdFds_good.below (rdFds_good.up h1 (Nat.le_of_eq hsz.symm)) (belD (Below.refl _ _) nq)) (rdFds_good.below (rdFds_good.up g1 (Nat.le_of_eq hsz.symm)) (belD (Below.refl _ _) nq)))
        clear htk ha hb hbel h h' h1 g1 hsz
        generalize l[k] = x at *
        generalize m[k] = y at *
        by_cases he : x = y
        · rw [decide_eq_true he] at K
          have HE := Lib.hid he
          clear he
          go_wp2_with fail
          go_quiet (first | (go_at_call 23; refine Calls.quiet_of (K.out _)))
          go_wp2
          go_roundw
          case rel => exact ⟨k + 1, by omega, by go_num, T.out HE.out, HB.out.more _⟩
          case measure => simp [intOf]; omega
        · rw [decide_eq_false he] at K
          have HE := Lib.hid he
          clear he
          go_wp2_with fail
          go_quiet (first | (go_at_call 23; refine Calls.quiet_of (K.out _)))
          go_wp2
          go_ret
          exact ⟨by rw [decide_eq_false (Z.out HE.out)]; try rfl, HB.out.more _⟩
      · obtain rfl : k = l.length := by omega
        have X := Lib.hid (show l = m by rw [List.take_length] at htk; rw [htk, HL.out, List.take_length])
        clear htk h h'
        go_wp2
        go_ret
        exact ⟨by rw [decide_eq_true X.out]; try rfl, hbel⟩
  · have hd : ((l.length : Int) != (m.length : Int)) = true := by rw [bne_iff_ne]; omega
    have X := Lib.hid (show l ≠ m by rintro rfl; exact hlen rfl)
    clear hlen
    go_enter Tryd.func12, Tryd.ntmps12
    go_wp2
    go_ret
    exact ⟨by rw [decide_eq_false X.out]; try rfl, Dr.refl _⟩
end Go.Proofs.YtjfenheplkoajaaDoor
