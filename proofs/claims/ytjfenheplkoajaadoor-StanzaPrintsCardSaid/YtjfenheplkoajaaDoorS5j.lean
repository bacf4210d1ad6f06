/- The contract of the program's goOn: a line that goes on with a value. -/
import Derived.Test.YtjfenheplkoajaaDoorS5i
import Derived.StillTailTactics
import Derived.BigQuiet
import Derived.Deep.QuietTactic
import Derived.IntWalk
set_option maxRecDepth 100000
set_option linter.unusedVariables false
set_option linter.unusedSimpArgs false
namespace Go.Proofs.YtjfenheplkoajaaDoor
open Go.RowKit
abbrev erE (n : Int) : Ending := .panicked [{ v := .iface 24 (.int .i64 n), recovered := false }]
theorem RdP.own {W : World} {N r k : Nat} {p : PS} {vs vo vl : Value} (h : RdP W N r k p vs vo vl) : ∃ A c, vo = .slice A p.op.length c ∧ p.op.length ≤ c ∧ c ≤ maxLen := by
  have := h.go.own
  rw [opX_len] at this; exact this
set_option maxHeartbeats 1000000 in
theorem goOn5_no (x : ByteArray) (N r k : Nat) (p : PS) (vs vo vl : Value) (w : World) (hR : RdP w N r k p vs vo vl) (h : p.op = [] ∨ B x = []) :
    Calls Tryd.prog 59 #[.pointer (some ⟨r, 0, none⟩), .string x] w fun e w' => e = erE 5 ∧ w = w' := by
  obtain ⟨A, c, rfl, hc1, hc2⟩ := hR.own
  have hc2' : c ≤ 9223372036854775807 := hc2
  have c2 := hR.c2
  by_cases h0 : p.op = []
  · rw [h0] at c2
    simp only [List.length_nil] at c2
    clear hR h h0 hc1 hc2
    go_enter Tryd.func59, Tryd.ntmps59
    go_wp2
    exact ⟨rfl, rfl, rfl⟩
  · have em := emp_eq x
    rw [decide_eq_true (h.resolve_left h0)] at em
    have hl := List.length_pos_iff.2 h0
    have q0 : ((p.op.length : Int) == 0) = false := by rw [beq_eq_false_iff_ne]; omega
    clear hR h h0 hc1 hc2
    go_enter Tryd.func59, Tryd.ntmps59
    go_wp2
    exact ⟨rfl, rfl, rfl⟩
theorem RdP.cellL {W : World} {N r k n c : Nat} {p : PS} {vs vl : Value} {i : List Opn} {f : Opn} {ad : Addr} (hR : RdP W N r k p vs (.slice (some ad) n c) vl) (hop : p.op = i ++ [f]) : W.cell? (ad.add (i.length * 2 + 1)) = some vl := by
  have go1 := hR.go
  rw [hop, opX_snoc] at go1
  have hil : i.length < (i.map (Sum.inl (β := ByteArray × Value)) ++ [Sum.inr (f.1, vl)]).length := by simp
  have hel : (i.map (Sum.inl (β := ByteArray × Value)) ++ [Sum.inr (f.1, vl)])[i.length] = Sum.inr (f.1, vl) := by
    rw [List.getElem_append_right (by simp)]; simp
  obtain ⟨A', c', e, h1, h2, h⟩ := go1.read rdOpX_good
  simp only [List.cons.injEq, Value.slice.injEq, and_true] at e
  obtain ⟨rfl, _, _⟩ := e
  obtain ⟨ad1, es, e1, _, hE, _, hcell⟩ := h i.length hil
  injection e1 with e1
  subst e1
  rw [hel] at hE
  exact hcell 1 vl (by rw [hE.1]; rfl)
set_option maxHeartbeats 2000000 in
theorem goOn5_ok (x : ByteArray) (N r k : Nat) (p : PS) (vs vo vl : Value) (w : World) (hR : RdP w N r k p vs vo vl) (hr : r < N) (hN : N ≤ w.heap.size) (h0 : p.op ≠ []) (hx : B x ≠ []) (hol : p.op.length ≤ 1000) (hll : (lastLn p.op).length ≤ 1000000) :
    Calls Tryd.prog 59 #[.pointer (some ⟨r, 0, none⟩), .string x] w fun e w' => e = .returned (.tuple #[]) ∧ (∃ vl', RdP w' N r k ⟨p.dn, onLast (B x) p.op⟩ vs vo vl') ∧ Fr N r w w' := by
  obtain ⟨is, his, hz0, hz1, hz2⟩ := info_parts str_info
  obtain ⟨A, c, rfl, hc1, hc2⟩ := hR.own
  have hc2' : c ≤ 9223372036854775807 := hc2
  have hl := List.length_pos_iff.2 h0
  rcases List.eq_nil_or_concat p.op with e | ⟨i, f, hop⟩
  · exact absurd e h0
  rw [List.concat_eq_append] at hop
  have hln : p.op.length = i.length + 1 := by rw [hop]; simp
  have q0 : ((p.op.length : Int) == 0) = false := by rw [beq_eq_false_iff_ne]; omega
  have em := emp_eq x
  rw [decide_eq_false hx] at em
  have w1m : IntKind.i64.wrap ((p.op.length : Int) - 1) = (i.length : Int) := by rw [hln]; rw [IntWalk.i64_in _ (by omega)]; omega
  have i2 : (0 : Int) ≤ (i.length : Int) := by omega
  have i3 : (i.length : Int) < (p.op.length : Int) := by omega
  have hlast : lastLn p.op = f.2 := by rw [hop, lastLn_snoc]
  have HON := Lib.hid (show onLast (B x) p.op = i ++ [(f.1, f.2 ++ [B x])] by rw [hop, onLast_snoc])
  have HOP := Lib.hid hop
  have HR := Lib.hid hR
  have c2 := hR.c2
  obtain ⟨ad, hA⟩ : ∃ ad, A = some ad := by
    have hn := hR.go.read rdOpX_good
    obtain ⟨A', c', e, h1, h2, h⟩ := hn
    simp only [List.cons.injEq, Value.slice.injEq, and_true] at e
    obtain ⟨rfl, _, _⟩ := e
    obtain ⟨ad, es, e1, _⟩ := h 0 (by rw [opX_len]; omega)
    exact ⟨ad, e1⟩
  subst hA
  rw [hlast] at hll
  have HLN := Lib.hid hln
  clear hR hop h0 hx hc1 hc2 hlast hl hln
  go_enter Tryd.func59, Tryd.ntmps59
  go_wp2
  go_quiet (fail)
  obtain ⟨W2, hW2⟩ : ∃ W2, W2 = w.drewN nq := ⟨_, rfl⟩
  have hb2 : Below w.heap.size w W2 := by rw [hW2]; exact belD (Below.refl _ _) _
  have hz : W2.heap.size = w.heap.size := by rw [hW2]; rfl
  rw [← hW2]
  clear hW2
  have hR2 := HR.out.below hb2 (by omega)
  have hN2 : N ≤ W2.heap.size := by omega
  have hcl := hR2.cellL HOP.out
  have hgl := hR2.gl
  rw [HOP.out, lastLn_snoc] at hgl
  obtain ⟨Al, cl, rfl, _, _⟩ := hgl.own
  rw [← off2_add ad (i.length * 2) 1 (by omega)] at hcl
  have HR2 := Lib.hid hR2
  have HB2 := Lib.hid hb2
  have hE := (show rdStr W2 (fun b => N ≤ b ∧ b < W2.heap.size ∧ (Value.slice Al f.2.length cl).ownBlock ≠ some b) (B x) (#[Value.string x] : Array Value).toList from ⟨x, rfl, rfl⟩)
  have hn1 : f.2.length + 1 ≤ maxLen := by unfold maxLen; omega
  have hn2 : (f.2.length + 1) * 16 ≤ 140737488355328 := by omega
  clear hR2 hb2 hz c2
  go_wp2_with (at_builtin; refine wpList_grow1_at W2 rfl _ _ 40 rfl rdStr_good (by decide) (fun b => N ≤ b) N 9 is (.string { data := #[] }) 16 Tryd.underlying40 his hz0 hz1 hz2 rfl (.slice Al f.2.length cl) f.2 rfl hgl (B x) _ 9 hE _ rfl rfl hn1 hn2 hN2 ?_)
  intro v' w1 hG' hgr hmv
  obtain ⟨A', c', hv', _, _⟩ := hG'.own
  rw [List.length_append, List.length_singleton] at hv'
  subst hv'
  obtain ⟨o1, o2, o3, o4⟩ := RdP.on HR2.out HOP.out hr hN2 hgr hmv hG' rfl
  rw [← off2_add ad (i.length * 2) 1 (by omega)] at o1 o2 o3 o4
  have O1 := Lib.hid o1
  have O2 := Lib.hid o2
  clear o1 o2 hG' hgr hmv hE hgl hcl
  go_wp2
  go_end0
  exact ⟨rfl, ⟨_, by rw [HON.out]; exact O1.out⟩, (Fr.of (HB2.out.mono hN) (Nat.le_of_lt hr)).trans O2.out⟩
end Go.Proofs.YtjfenheplkoajaaDoor
