/- The open fields of the program's reader, read; ContainsFunc over them. -/
import Derived.Test.YtjfenheplkoajaaDoorS5j
set_option maxRecDepth 100000
set_option linter.unusedVariables false
set_option linter.unusedSimpArgs false
namespace Go.Proofs.YtjfenheplkoajaaDoor
open Go.RowKit
theorem opX_at (op : List Opn) (vl : Value) (k : Nat) (hk : k < op.length) (hk' : k < (opX op vl).length) : (opX op vl)[k] = .inl op[k] ∨ ((opX op vl)[k] = .inr (op[k].1, vl) ∧ lastLn op = op[k].2) := by
  rcases List.eq_nil_or_concat op with rfl | ⟨i, f, e⟩
  · simp at hk
  · rw [List.concat_eq_append] at e
    subst e
    simp only [opX_snoc, lastLn_snoc]
    by_cases h : k < i.length
    · left
      rw [List.getElem_append_left (by simpa using h), List.getElem_append_left h, List.getElem_map]
    · right
      obtain rfl : k = i.length := by simp at hk; omega
      simp
theorem rdOp_at {w : World} {S : Nat → Prop} {op : List Opn} {vl : Value} {A : Option Addr} {n c : Nat} (h : rdRow 2 rdOpX w S (opX op vl) [.slice A n c]) (hvl : rdStrs w S (lastLn op) [vl]) (hpv : plainV vl) : n = op.length ∧ n ≤ c ∧ c ≤ maxLen ∧ ∀ k (hk : k < op.length), ∃ ad A2 n2 c2, A = some ad ∧ S ad.block ∧
    w.cell? (ad.add (k * 2)) = some (.string op[k].1) ∧ w.cell? ⟨(ad.add (k * 2)).block, (ad.add (k * 2)).off + 1, none⟩ = some (.slice A2 n2 c2) ∧ rdStrs w S op[k].2 [.slice A2 n2 c2] ∧ plainV (.slice A2 n2 c2) := by
  obtain ⟨A', c', e, h1, h2, h⟩ := h
  simp only [List.cons.injEq, Value.slice.injEq, and_true] at e
  obtain ⟨rfl, rfl, rfl⟩ := e
  rw [opX_len] at h1
  refine ⟨opX_len op vl, by rw [opX_len]; exact h1, h2, fun k hk => ?_⟩
  have hk' : k < (opX op vl).length := by rw [opX_len]; exact hk
  obtain ⟨ad, es, e, hS, hE, hl, hc⟩ := h k hk'
  rcases opX_at op vl k hk hk' with e1 | ⟨e1, e2⟩
  · rw [e1] at hE
    obtain ⟨v, rfl, hv, hp⟩ := hE
    have hv' := hv
    obtain ⟨A2, c2, e3, _⟩ := hv'
    simp only [List.cons.injEq, and_true] at e3
    subst e3
    exact ⟨ad, _, _, _, e, hS, hc 0 _ rfl, by rw [off2_add ad (k * 2) 1 (by omega)]; exact hc 1 _ rfl, hv, hp⟩
  · rw [e1] at hE
    obtain ⟨rfl, _⟩ := hE
    rw [e2] at hvl
    have hv' := hvl
    obtain ⟨A2, c2, e3, _⟩ := hv'
    simp only [List.cons.injEq, and_true] at e3
    subst e3
    exact ⟨ad, _, _, _, e, hS, hc 0 _ rfl, by rw [off2_add ad (k * 2) 1 (by omega)]; exact hc 1 _ rfl, hvl, hpv⟩
set_option maxHeartbeats 1000000 in
theorem begin1_any (s : ByteArray) (A2 : Option Addr) (n2 c2 : Nat) (nm : ByteArray) (q : Addr) (w : World) (hq : q.block < w.heap.size) (hc : w.cell? q = some (.string nm)) :
    Calls Tryd.prog 70 #[.agg #[.string s, .slice A2 n2 c2], .pointer (some q)] w fun e w' => e = .returned (.bool (decide (s = nm))) ∧ Below w.heap.size w w' := by
  have B1 := (Below.refl w.heap.size w).alloc (Nat.le_refl _) (.cells #[.string s, .slice A2 n2 c2] 92)
  have hc1 := ((B1.cell hq).trans hc)
  have HB := Lib.hid B1
  have he := str_eq s nm
  generalize decide (s = nm) = d at *
  clear B1 hc
  go_enter Tryd.func70, Tryd.ntmps70
  go_wp2
  go_ret
  exact ⟨rfl, HB.out⟩
/-- Is a field of the name open? -/
def opHas (op : List Opn) (n : ByteArray) : Bool := op.any fun f => decide (f.1 = n)
/-- The place of the first open field of a name, told from i on; -1, if there is none. -/
def oplX : List Opn → ByteArray → Nat → Int
  | [], _, _ => -1
  | f :: r, n, i => if f.1 = n then i else oplX r n (i + 1)
theorem opl_at {l : List Opn} {n : ByteArray} {k : Nat} (hk : k < l.length) : (l[k].1 = n → oplX (l.drop k) n k = k) ∧ (l[k].1 ≠ n → oplX (l.drop k) n k = oplX (l.drop (k + 1)) n (k + 1)) := by
  rw [List.drop_eq_getElem_cons hk]
  exact ⟨fun h => if_pos h, fun h => if_neg h⟩
theorem opl_has {n : ByteArray} : ∀ {l : List Opn} {i : Nat}, decide (0 ≤ oplX l n i) = opHas l n
  | [], _ => rfl
  | f :: r, i => by
    unfold opHas oplX
    rw [List.any_cons]
    by_cases h : f.1 = n
    · rw [if_pos h, decide_eq_true h, Bool.true_or, decide_eq_true_iff]; omega
    · rw [if_neg h, decide_eq_false h, Bool.false_or]; exact opl_has
set_option maxHeartbeats 2000000 in
theorem ixOp_any (A : Option Addr) (n c : Nat) (op : List Opn) (vl : Value) (nm : ByteArray) (q : Addr) (w : World) (h : rdRow 2 rdOpX w (lt_ w.heap.size) (opX op vl) [.slice A n c]) (hvl : rdStrs w (lt_ w.heap.size) (lastLn op) [vl]) (hpv : plainV vl) (hq : q.block < w.heap.size) (hc : w.cell? q = some (.string nm)) :
    Calls Tryd.prog 81 #[.slice A n c, .func (.func 70) #[] #[.pointer (some q)]] w fun e w' => e = .returned (.int .i64 (oplX op nm 0)) ∧ Below w.heap.size w w' := by
  have hcf : ∀ (args : Array Value) (w : World), (callFunc 70 args).run Tryd.prog w = .ok (.enter 70 args) w := fun _ _ => by kernel_rfl
  obtain ⟨rfl, hnc, hcm, _⟩ := rdOp_at h hvl hpv
  have hcm' : c ≤ 9223372036854775807 := hcm
  have H := Lib.hid h
  have HV := Lib.hid hvl
  have HPV := Lib.hid hpv
  have HQ := Lib.hid hq
  have HC := Lib.hid hc
  clear h hvl hcm hc hq hpv
  go_enter Tryd.func81, Tryd.ntmps81
  go_wp2
  go_loopw [8] (fun i wr => ∃ k : Nat, k ≤ op.length ∧ i = .int .i64 k ∧ oplX op nm 0 = oplX (op.drop k) nm k ∧ Below w.heap.size w wr) (fun i _ => op.length - (intOf i).toNat)
  case atStart => exact ⟨0, Nat.zero_le _, rfl, rfl, Below.refl _ _⟩
  case round =>
    obtain ⟨k, hk, rfl, h1, hbel⟩ := hrel
    have H1 := Lib.hid h1
    have HB := Lib.hid hbel
    clear h1
    by_cases hlt : k < op.length
    · obtain ⟨_, _, _, ha⟩ := rdOp_at ((rdRow_good rdOpX_good).below H.out hbel) (rdStrs_good.below HV.out hbel) HPV.out
      obtain ⟨ad, A2, n2, c2, rfl, had, c0, c1, _⟩ := ha k hlt
      have hqr : q.block < wr.heap.size := Nat.lt_of_lt_of_le HQ.out hbel.size
      have CL := Lib.hid (begin1_any op[k].1 A2 n2 c2 nm q wr hqr ((hbel.cell HQ.out).trans HC.out))
      have PA := Lib.hid (opl_at (l := op) (n := nm) hlt)
      clear ha hbel hqr
      have SZ := Lib.hid HB.out.size
      by_cases he : op[k].1 = nm
      · have X := Lib.hid (PA.out.1 he)
        have DT := Lib.hid (decide_eq_true he)
        clear he
        go_wp2_with fail
        refine CL.out.mono ?_
        rw [DT.out]
        rintro e w' ⟨rfl, hb2⟩
        have HB2 := Lib.hid hb2
        clear hb2
        go_wp2
        go_ret
        exact ⟨by rw [H1.out, X.out]; try rfl, HB.out.trans (HB2.out.mono SZ.out)⟩
      · have X := Lib.hid (PA.out.2 he)
        have DT := Lib.hid (decide_eq_false he)
        clear he
        go_wp2_with fail
        refine CL.out.mono ?_
        rw [DT.out]
        rintro e w' ⟨rfl, hb2⟩
        have HB2 := Lib.hid hb2
        clear hb2
        go_wp2
        go_roundw
        case rel => exact ⟨k + 1, by omega, by go_num, by rw [H1.out, X.out], HB.out.trans (HB2.out.mono SZ.out)⟩
        case measure => simp [intOf]; omega
    · have X := Lib.hid (show oplX op nm 0 = -1 by rw [H1.out, List.drop_eq_nil_of_le (by omega)]; rfl)
      go_wp2
      go_ret
      exact ⟨by rw [X.out]; try rfl, HB.out⟩
set_option maxHeartbeats 2000000 in
theorem hasOp_any (A : Option Addr) (n c : Nat) (op : List Opn) (vl : Value) (nm : ByteArray) (q : Addr) (w : World) (h : rdRow 2 rdOpX w (lt_ w.heap.size) (opX op vl) [.slice A n c]) (hvl : rdStrs w (lt_ w.heap.size) (lastLn op) [vl]) (hpv : plainV vl) (hq : q.block < w.heap.size) (hc : w.cell? q = some (.string nm)) :
    Calls Tryd.prog 69 #[.slice A n c, .func (.func 70) #[] #[.pointer (some q)]] w fun e w' => e = .returned (.bool (opHas op nm)) ∧ Below w.heap.size w w' := by
  have C := Lib.hid (ixOp_any A n c op vl nm q w h hvl hpv hq hc)
  have X := Lib.hid (opl_has (l := op) (n := nm) (i := 0))
  clear h hvl hpv hq hc
  go_enter Tryd.func69, Tryd.ntmps69
  go_wp2_with (go_at_call 81; (with_reducible refine C.out.mono ?_); rintro e w' ⟨rfl, hb2⟩)
  go_ret
  exact ⟨by rw [← X.out]; rfl, hb2⟩
end Go.Proofs.YtjfenheplkoajaaDoor
