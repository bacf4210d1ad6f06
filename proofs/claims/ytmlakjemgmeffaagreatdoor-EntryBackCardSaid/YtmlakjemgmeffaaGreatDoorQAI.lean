/- What the laws of this seat rest on: S5i, S5j, S5n. -/
import Derived.Test.YtmlakjemgmeffaaGreatDoorQAH
import Derived.Test.YtmlakjemgmeffaaGreatDoorND
import Derived.StillTailTactics
import Derived.BigQuiet
import Derived.Deep.QuietTactic
import Derived.IntWalk

section
set_option maxRecDepth 100000
set_option linter.unusedVariables false
set_option linter.unusedSimpArgs false
namespace Go.Proofs.YtmlakjemgmeffaaGreatDoor
open Go.RowKit
theorem opn_info : (Tryz.prog.info? 167).map (fun i => (i.zero, i.size, i.bytes)) = some (some (.agg #[.string { data := #[] }, .slice none 0 0]), 2, 40) := by kernel_rfl
def plainV (v : Value) : Prop := ∀ ad n c, v = .slice (some ad) n c → ad = ⟨ad.block, ad.off, none⟩
def rdOpX : Rd (Opn ⊕ (ByteArray × Value)) := fun w S x cs => match x with
  | .inl f => ∃ v, cs = [.string f.1, v] ∧ rdStrs w S f.2 [v] ∧ plainV v
  | .inr p => cs = [.string p.1, p.2] ∧ p.2.oneCell' = true
theorem rdOpX_good : Good rdOpX 2 where
  keep := by
    rintro w w' S x cs h hk
    cases x with
    | inl f => obtain ⟨v, e, h, hp⟩ := h; exact ⟨v, e, rdStrs_good.keep h hk, hp⟩
    | inr p => exact h
  more := by
    rintro w S S' x cs h hm
    cases x with
    | inl f => obtain ⟨v, e, h, hp⟩ := h; exact ⟨v, e, rdStrs_good.more h hm, hp⟩
    | inr p => exact h
  turn := by
    rintro w w' S x cs row h hg hr
    cases x with
    | inl f => obtain ⟨v, e, h, hp⟩ := h; exact ⟨v, e, rdStrs_good.turn h hg hr, hp⟩
    | inr p => exact h
  len := by
    rintro w S x cs h
    cases x with
    | inl f => obtain ⟨v, rfl, h, _⟩ := h; rfl
    | inr p => rw [h.1]; rfl
  one := by
    rintro w S x cs h u hu
    cases x with
    | inl f =>
      obtain ⟨v, rfl, h, _⟩ := h
      rcases List.mem_cons.1 hu with rfl | hu
      · rfl
      · exact rdStrs_good.one h u hu
    | inr p =>
      rw [h.1] at hu
      rcases List.mem_cons.1 hu with rfl | hu
      · rfl
      · rw [List.mem_singleton.1 hu]; exact h.2
def opX (op : List Opn) (vl : Value) : List (Opn ⊕ (ByteArray × Value)) := match op.getLast? with
  | none => []
  | some f => op.dropLast.map .inl ++ [.inr (f.1, vl)]
theorem opX_snoc (i : List Opn) (f : Opn) (vl : Value) : opX (i ++ [f]) vl = i.map .inl ++ [.inr (f.1, vl)] := by unfold opX; simp
theorem opX_len (op : List Opn) (vl : Value) : (opX op vl).length = op.length := by
  rcases List.eq_nil_or_concat op with rfl | ⟨i, f, rfl⟩
  · rfl
  · rw [List.concat_eq_append, opX_snoc]; simp
def lastLn (op : List Opn) : List (List Nat) := match op.getLast? with
  | none => []
  | some f => f.2
theorem lastLn_snoc (i : List Opn) (f : Opn) : lastLn (i ++ [f]) = f.2 := by unfold lastLn; simp
structure RdP (W : World) (N r k : Nat) (p : PS) (vs vo vl : Value) : Prop where
  f0 : ∀ o, W.frozen? ⟨r, o, none⟩ = false
  c0 : W.cell? ⟨r, 0, none⟩ = some (.int .i64 k)
  c1 : W.cell? ⟨r, 1, none⟩ = some vs
  c2 : W.cell? ⟨r, 2, none⟩ = some vo
  gs : Grow rdFds 1 (fun b => (N ≤ b ∧ vo.ownBlock ≠ some b) ∧ vl.ownBlock ≠ some b) W N 32 vs p.dn
  go : Grow rdOpX 2 (fun b => N ≤ b ∧ vl.ownBlock ≠ some b) W N 167 vo (opX p.op vl)
  gl : Grow rdStr 1 (fun b => N ≤ b) W N 9 vl (lastLn p.op)
  so : Off vs vo
  sl : Off vs vl
  ol : Off vo vl
theorem RdP.below {W W' : World} {N r k : Nat} {p : PS} {vs vo vl : Value} (h : RdP W N r k p vs vo vl) (hb : Below W.heap.size W W') (hr : r < W.heap.size) : RdP W' N r k p vs vo vl := by
  have hk := hb.block r hr
  exact ⟨fun o => ((blk_of hk o).2).trans (h.f0 o), ((blk_of hk 0).1).trans h.c0, ((blk_of hk 1).1).trans h.c1, ((blk_of hk 2).1).trans h.c2, h.gs.below rdFds_good hb, h.go.below rdOpX_good hb, h.gl.below rdStr_good hb, h.so, h.sl, h.ol⟩
theorem Grow.plain {α : Type} {E : Rd α} {sz : Nat} {T : Nat → Prop} {w : World} {base : Nat} {e : TypeId} {v : Value} {l : List α} (h : Grow E sz T w base e v l) : plainV v := by
  obtain ⟨css, hl, ho, hE⟩ := h
  rcases ho.2 with ⟨rfl, h0⟩ | ⟨gb, cap, cur, rfl, hb, hg, hn, hm, hs, ht⟩
  · intro ad n c h; cases h
  · intro ad n c h; cases h; rfl
theorem strFlat {T T' : Nat → Prop} {w : World} {base : Nat} {e : TypeId} {v : Value} {l : List (List Nat)} (h : Grow rdStr 1 T w base e v l) : Grow rdStr 1 T' w base e v l := h.flat fun _ _ _ _ _ h => h
theorem Grow.store {β : Type} {F : Rd β} {tz : Nat} (g : Good F tz) {T : Nat → Prop} {W w' : World} {base : Nat} {e : TypeId} {v x : Value} {m : List β} (hx : Grow F tz (fun b => T b ∧ v.ownBlock ≠ some b) W base e x m) (ho : Off x v) (hg : W.grownBy w' v.ownBlock) : Grow F tz (fun b => T b ∧ v.ownBlock ≠ some b) w' base e x m :=
  (Grow.beside g hx ho hg (.inl rfl)).1
theorem RdP.on {W w1 : World} {N r k n c : Nat} {p : PS} {vs vl vl' : Value} {i : List Opn} {f : Opn} {x : List Nat} {ad : Addr} (hR : RdP W N r k p vs (.slice (some ad) n c) vl) (hop : p.op = i ++ [f]) (hr : r < N) (hN : N ≤ W.heap.size) (hg : W.grownBy w1 vl.ownBlock) (hm : Moved W vl vl')
    (hG : Grow rdStr 1 (fun b => N ≤ b) w1 N 9 vl' (f.2 ++ [x])) (hv : vl'.oneCell' = true) :
    RdP (w1.setCell (ad.add (i.length * 2 + 1)) vl') N r k ⟨p.dn, i ++ [(f.1, f.2 ++ [x])]⟩ vs (.slice (some ad) n c) vl' ∧ Fr N r W (w1.setCell (ad.add (i.length * 2 + 1)) vl') ∧
      w1.cell? (ad.add (i.length * 2 + 1)) = some vl ∧ w1.frozen? (ad.add (i.length * 2 + 1)) = false := by
  obtain ⟨f0, c0, c1, c2, gs, go, gl, so, sl, ol⟩ := hR
  have hrl : some r ≠ vl.ownBlock := fun h => by have := (gl.lt r h.symm).1; omega
  have hk := hg.block r (by omega) hrl
  obtain ⟨gs1, sl1⟩ := Grow.beside rdFds_good gs sl hg hm
  obtain ⟨go1, ol1⟩ := Grow.beside rdOpX_good go ol hg hm
  rw [hop, opX_snoc] at go1
  have hil : i.length < (i.map (Sum.inl (β := ByteArray × Value)) ++ [Sum.inr (f.1, vl)]).length := by simp
  have hel : (i.map (Sum.inl (β := ByteArray × Value)) ++ [Sum.inr (f.1, vl)])[i.length] = Sum.inr (f.1, vl) := by
    rw [List.getElem_append_right (by simp)]; simp
  obtain ⟨e0, hba, hbb, hnl, hfz⟩ := go1.spot
  obtain ⟨ad1, es, e1, _, hE, _, hcell⟩ := (show ∃ ad1 es, some ad = some ad1 ∧ _ ∧ rdOpX w1 _ _ es ∧ _ ∧ ∀ j u, es[j]? = some u → w1.cell? (ad1.add (i.length * 2 + j)) = some u from by
    obtain ⟨A', c', e, h1, h2, h⟩ := go1.read rdOpX_good
    simp only [List.cons.injEq, Value.slice.injEq, and_true] at e
    obtain ⟨rfl, _, _⟩ := e
    exact h i.length hil)
  injection e1 with e1
  subst e1
  rw [hel] at hE
  have hcl : w1.cell? (ad.add (i.length * 2 + 1)) = some vl := hcell 1 vl (by rw [hE.1]; rfl)
  have hfr : w1.frozen? (ad.add (i.length * 2 + 1)) = false := go1.frz _
  obtain ⟨go2, hg2⟩ := go1.set rdOpX_good hil (j := 1) (by decide) vl' (.inr (f.1, vl')) (fun cs hcs => by
    rw [hel] at hcs
    exact ⟨by rw [hcs.1]; rfl, hv⟩)
  have hset : (i.map (Sum.inl (β := ByteArray × Value)) ++ [Sum.inr (f.1, vl)]).set i.length (.inr (f.1, vl')) = i.map Sum.inl ++ [Sum.inr (f.1, vl')] := by
    rw [List.set_append_right _ _ (by simp)]; simp
  rw [hset] at go2
  have gs2 := Grow.store rdFds_good (v := .slice (some ad) n c) (gs1.retag rdFds_good (T' := fun b => (N ≤ b ∧ vl'.ownBlock ≠ some b) ∧ (Value.slice (some ad) n c).ownBlock ≠ some b) fun b h _ => ⟨⟨h.1.1, h.2⟩, h.1.2⟩) so hg2
  have gl2 := Grow.store rdStr_good (v := .slice (some ad) n c) (strFlat hG (T' := fun b => N ≤ b ∧ (Value.slice (some ad) n c).ownBlock ≠ some b)) ol1.symm hg2
  have hne : ∀ o, (⟨r, o, none⟩ : Addr) ≠ ad.add (i.length * 2 + 1) := fun o e => by have := congrArg Addr.block e; rw [blk_add] at this; simp only at this; omega
  have hB1 : Below N W w1 := grow_below gl hg (Below.refl N W) (Nat.le_refl _) hN
  refine ⟨⟨fun o => ?_, ?_, ?_, ?_, gs2.retag rdFds_good fun b h _ => ⟨⟨h.1.1, h.2⟩, h.1.2⟩, by rw [opX_snoc]; exact go2, by rw [lastLn_snoc]; exact strFlat gl2, so, sl1, ol1⟩, (Fr.of hB1 (Nat.le_of_lt hr)).set (.inr (by rw [blk_add]; exact hba)) (Nat.le_of_lt hr) _, hcl, hfr⟩
  · rw [World.frozen?_setCell]; exact ((blk_of hk o).2).trans (f0 o)
  · rw [World.cell?_setCell_other _ _ _ _ (fun e => hne 0 e.symm)]; exact ((blk_of hk 0).1).trans c0
  · rw [World.cell?_setCell_other _ _ _ _ (fun e => hne 1 e.symm)]; exact ((blk_of hk 1).1).trans c1
  · rw [World.cell?_setCell_other _ _ _ _ (fun e => hne 2 e.symm)]; exact ((blk_of hk 2).1).trans c2
end Go.Proofs.YtmlakjemgmeffaaGreatDoor
end

section
set_option maxRecDepth 100000
set_option linter.unusedVariables false
set_option linter.unusedSimpArgs false
namespace Go.Proofs.YtmlakjemgmeffaaGreatDoor
open Go.RowKit
abbrev erE (n : Int) : Ending := .panicked [{ v := .iface 37 (.int .i64 n), recovered := false }]
theorem RdP.own {W : World} {N r k : Nat} {p : PS} {vs vo vl : Value} (h : RdP W N r k p vs vo vl) : ∃ A c, vo = .slice A p.op.length c ∧ p.op.length ≤ c ∧ c ≤ maxLen := by
  have := h.go.own
  rw [opX_len] at this; exact this
set_option maxHeartbeats 1000000 in
theorem goOn5_no (x : ByteArray) (N r k : Nat) (p : PS) (vs vo vl : Value) (w : World) (hR : RdP w N r k p vs vo vl) (h : p.op = [] ∨ B x = []) :
    Calls Tryz.prog 162 #[.pointer (some ⟨r, 0, none⟩), .string x] w fun e w' => e = erE 5 ∧ w = w' := by
  obtain ⟨A, c, rfl, hc1, hc2⟩ := hR.own
  have hc2' : c ≤ 9223372036854775807 := hc2
  have c2 := hR.c2
  by_cases h0 : p.op = []
  · rw [h0] at c2
    simp only [List.length_nil] at c2
    clear hR h h0 hc1 hc2
    go_enter Tryz.func162, Tryz.ntmps162
    go_wp2
    exact ⟨rfl, rfl, rfl⟩
  · have em := emp_eq x
    rw [decide_eq_true (h.resolve_left h0)] at em
    have hl := List.length_pos_iff.2 h0
    have q0 : ((p.op.length : Int) == 0) = false := by rw [beq_eq_false_iff_ne]; omega
    clear hR h h0 hc1 hc2
    go_enter Tryz.func162, Tryz.ntmps162
    go_wp2
    exact ⟨rfl, rfl, rfl⟩
theorem RdP.cellL {W : World} {N r k n c : Nat} {p : PS} {vs vl : Value} {i : List Opn} {f : Opn} {ad : Addr} (hR : RdP W N r k p vs (.slice (some ad) n c) vl) (hop : p.op = i ++ [f]) : W.cell? (ad.add (i.length * 2 + 1)) = some vl := by
  have go1 := hR.go
  rw [hop, opX_snoc] at go1
  have hil : i.length < (i.map (Sum.inl (β := ByteArray × Value)) ++ [Sum.inr (f.1, vl)]).length := by simp
  have hel : (i.map (Sum.inl (β := ByteArray × Value)) ++ [Sum.inr (f.1, vl)])[i.length] = Sum.inr (f.1, vl) := by
    rw [List.getElem_append_right (by simp)]; simp
  obtain ⟨A', c', e, h1, h2, h⟩ := go1.read rdOpX_good
  simp only [List.cons.injEq, Value.slice.injEq, and_true] at e
  obtain ⟨rfl, _, _⟩ := e
  obtain ⟨ad1, es, e1, _, hE, _, hcell⟩ := h i.length hil
  injection e1 with e1
  subst e1
  rw [hel] at hE
  exact hcell 1 vl (by rw [hE.1]; rfl)
set_option maxHeartbeats 2000000 in
theorem goOn5_ok (x : ByteArray) (N r k : Nat) (p : PS) (vs vo vl : Value) (w : World) (hR : RdP w N r k p vs vo vl) (hr : r < N) (hN : N ≤ w.heap.size) (h0 : p.op ≠ []) (hx : B x ≠ []) (hol : p.op.length ≤ 1000) (hll : (lastLn p.op).length ≤ 1000000) :
    Calls Tryz.prog 162 #[.pointer (some ⟨r, 0, none⟩), .string x] w fun e w' => e = .returned (.tuple #[]) ∧ (∃ vl', RdP w' N r k ⟨p.dn, onLast (B x) p.op⟩ vs vo vl') ∧ Fr N r w w' := by
  obtain ⟨is, his, hz0, hz1, hz2⟩ := info_parts str_info
  obtain ⟨A, c, rfl, hc1, hc2⟩ := hR.own
  have hc2' : c ≤ 9223372036854775807 := hc2
  have hl := List.length_pos_iff.2 h0
  rcases List.eq_nil_or_concat p.op with e | ⟨i, f, hop⟩
  · exact absurd e h0
  rw [List.concat_eq_append] at hop
  have hln : p.op.length = i.length + 1 := by rw [hop]; simp
  have q0 : ((p.op.length : Int) == 0) = false := by rw [beq_eq_false_iff_ne]; omega
  have em := emp_eq x
  rw [decide_eq_false hx] at em
  have w1m : IntKind.i64.wrap ((p.op.length : Int) - 1) = (i.length : Int) := by rw [hln]; rw [IntWalk.i64_in _ (by omega)]; omega
  have i2 : (0 : Int) ≤ (i.length : Int) := by omega
  have i3 : (i.length : Int) < (p.op.length : Int) := by omega
  have hlast : lastLn p.op = f.2 := by rw [hop, lastLn_snoc]
  have HON := Lib.hid (show onLast (B x) p.op = i ++ [(f.1, f.2 ++ [B x])] by rw [hop, onLast_snoc])
  have HOP := Lib.hid hop
  have HR := Lib.hid hR
  have c2 := hR.c2
  obtain ⟨ad, hA⟩ : ∃ ad, A = some ad := by
    have hn := hR.go.read rdOpX_good
    obtain ⟨A', c', e, h1, h2, h⟩ := hn
    simp only [List.cons.injEq, Value.slice.injEq, and_true] at e
    obtain ⟨rfl, _, _⟩ := e
    obtain ⟨ad, es, e1, _⟩ := h 0 (by rw [opX_len]; omega)
    exact ⟨ad, e1⟩
  subst hA
  rw [hlast] at hll
  have HLN := Lib.hid hln
  clear hR hop h0 hx hc1 hc2 hlast hl hln
  go_enter Tryz.func162, Tryz.ntmps162
  go_wp2
  go_quiet (fail)
  obtain ⟨W2, hW2⟩ : ∃ W2, W2 = w.drewN nq := ⟨_, rfl⟩
  have hb2 : Below w.heap.size w W2 := by rw [hW2]; exact belD (Below.refl _ _) _
  have hz : W2.heap.size = w.heap.size := by rw [hW2]; rfl
  rw [← hW2]
  clear hW2
  have hR2 := HR.out.below hb2 (by omega)
  have hN2 : N ≤ W2.heap.size := by omega
  have hcl := hR2.cellL HOP.out
  have hgl := hR2.gl
  rw [HOP.out, lastLn_snoc] at hgl
  obtain ⟨Al, cl, rfl, _, _⟩ := hgl.own
  rw [← off2_add ad (i.length * 2) 1 (by omega)] at hcl
  have HR2 := Lib.hid hR2
  have HB2 := Lib.hid hb2
  have hE := (show rdStr W2 (fun b => N ≤ b ∧ b < W2.heap.size ∧ (Value.slice Al f.2.length cl).ownBlock ≠ some b) (B x) (#[Value.string x] : Array Value).toList from ⟨x, rfl, rfl⟩)
  have hn1 : f.2.length + 1 ≤ maxLen := by unfold maxLen; omega
  have hn2 : (f.2.length + 1) * 16 ≤ 140737488355328 := by omega
  clear hR2 hb2 hz c2
  go_wp2_with (at_builtin; refine wpList_grow1_at W2 rfl _ _ 121 rfl rdStr_good (by decide) (fun b => N ≤ b) N 9 is (.string { data := #[] }) 16 Tryz.underlying121 his hz0 hz1 hz2 rfl (.slice Al f.2.length cl) f.2 rfl hgl (B x) _ 9 hE _ rfl rfl hn1 hn2 hN2 ?_)
  intro v' w1 hG' hgr hmv
  obtain ⟨A', c', hv', _, _⟩ := hG'.own
  rw [List.length_append, List.length_singleton] at hv'
  subst hv'
  obtain ⟨o1, o2, o3, o4⟩ := RdP.on HR2.out HOP.out hr hN2 hgr hmv hG' rfl
  rw [← off2_add ad (i.length * 2) 1 (by omega)] at o1 o2 o3 o4
  have O1 := Lib.hid o1
  have O2 := Lib.hid o2
  clear o1 o2 hG' hgr hmv hE hgl hcl
  go_wp2
  go_end0
  exact ⟨rfl, ⟨_, by rw [HON.out]; exact O1.out⟩, (Fr.of (HB2.out.mono hN) (Nat.le_of_lt hr)).trans O2.out⟩
end Go.Proofs.YtmlakjemgmeffaaGreatDoor
end

section
set_option maxRecDepth 100000
set_option linter.unusedVariables false
set_option linter.unusedSimpArgs false
namespace Go.Proofs.YtmlakjemgmeffaaGreatDoor
open Go.RowKit
theorem opX_at (op : List Opn) (vl : Value) (k : Nat) (hk : k < op.length) (hk' : k < (opX op vl).length) : (opX op vl)[k] = .inl op[k] ∨ ((opX op vl)[k] = .inr (op[k].1, vl) ∧ lastLn op = op[k].2) := by
  rcases List.eq_nil_or_concat op with rfl | ⟨i, f, e⟩
  · simp at hk
  · rw [List.concat_eq_append] at e
    subst e
    simp only [opX_snoc, lastLn_snoc]
    by_cases h : k < i.length
    · left
      rw [List.getElem_append_left (by simpa using h), List.getElem_append_left h, List.getElem_map]
    · right
      obtain rfl : k = i.length := by simp at hk; omega
      simp
theorem rdOp_at {w : World} {S : Nat → Prop} {op : List Opn} {vl : Value} {A : Option Addr} {n c : Nat} (h : rdRow 2 rdOpX w S (opX op vl) [.slice A n c]) (hvl : rdStrs w S (lastLn op) [vl]) (hpv : plainV vl) : n = op.length ∧ n ≤ c ∧ c ≤ maxLen ∧ ∀ k (hk : k < op.length), ∃ ad A2 n2 c2, A = some ad ∧ S ad.block ∧
    w.cell? (ad.add (k * 2)) = some (.string op[k].1) ∧ w.cell? ⟨(ad.add (k * 2)).block, (ad.add (k * 2)).off + 1, none⟩ = some (.slice A2 n2 c2) ∧ rdStrs w S op[k].2 [.slice A2 n2 c2] ∧ plainV (.slice A2 n2 c2) := by
  obtain ⟨A', c', e, h1, h2, h⟩ := h
  simp only [List.cons.injEq, Value.slice.injEq, and_true] at e
  obtain ⟨rfl, rfl, rfl⟩ := e
  rw [opX_len] at h1
  refine ⟨opX_len op vl, by rw [opX_len]; exact h1, h2, fun k hk => ?_⟩
  have hk' : k < (opX op vl).length := by rw [opX_len]; exact hk
  obtain ⟨ad, es, e, hS, hE, hl, hc⟩ := h k hk'
  rcases opX_at op vl k hk hk' with e1 | ⟨e1, e2⟩
  · rw [e1] at hE
    obtain ⟨v, rfl, hv, hp⟩ := hE
    have hv' := hv
    obtain ⟨A2, c2, e3, _⟩ := hv'
    simp only [List.cons.injEq, and_true] at e3
    subst e3
    exact ⟨ad, _, _, _, e, hS, hc 0 _ rfl, by rw [off2_add ad (k * 2) 1 (by omega)]; exact hc 1 _ rfl, hv, hp⟩
  · rw [e1] at hE
    obtain ⟨rfl, _⟩ := hE
    rw [e2] at hvl
    have hv' := hvl
    obtain ⟨A2, c2, e3, _⟩ := hv'
    simp only [List.cons.injEq, and_true] at e3
    subst e3
    exact ⟨ad, _, _, _, e, hS, hc 0 _ rfl, by rw [off2_add ad (k * 2) 1 (by omega)]; exact hc 1 _ rfl, hvl, hpv⟩
set_option maxHeartbeats 1000000 in
theorem begin1_any (s : ByteArray) (A2 : Option Addr) (n2 c2 : Nat) (nm : ByteArray) (q : Addr) (w : World) (hq : q.block < w.heap.size) (hc : w.cell? q = some (.string nm)) :
    Calls Tryz.prog 194 #[.agg #[.string s, .slice A2 n2 c2], .pointer (some q)] w fun e w' => e = .returned (.bool (decide (s = nm))) ∧ Below w.heap.size w w' := by
  have B1 := (Below.refl w.heap.size w).alloc (Nat.le_refl _) (.cells #[.string s, .slice A2 n2 c2] 167)
  have hc1 := ((B1.cell hq).trans hc)
  have HB := Lib.hid B1
  have he := str_eq s nm
  generalize decide (s = nm) = d at *
  clear B1 hc
  go_enter Tryz.func194, Tryz.ntmps194
  go_wp2
  go_ret
  exact ⟨rfl, HB.out⟩
def opHas (op : List Opn) (n : ByteArray) : Bool := op.any fun f => decide (f.1 = n)
def oplX : List Opn → ByteArray → Nat → Int
  | [], _, _ => -1
  | f :: r, n, i => if f.1 = n then i else oplX r n (i + 1)
theorem opl_at {l : List Opn} {n : ByteArray} {k : Nat} (hk : k < l.length) : (l[k].1 = n → oplX (l.drop k) n k = k) ∧ (l[k].1 ≠ n → oplX (l.drop k) n k = oplX (l.drop (k + 1)) n (k + 1)) := by
  rw [List.drop_eq_getElem_cons hk]
  exact ⟨fun h => if_pos h, fun h => if_neg h⟩
theorem opl_has {n : ByteArray} : ∀ {l : List Opn} {i : Nat}, decide (0 ≤ oplX l n i) = opHas l n
  | [], _ => rfl
  | f :: r, i => by
    unfold opHas oplX
    rw [List.any_cons]
    by_cases h : f.1 = n
    · rw [if_pos h, decide_eq_true h, Bool.true_or, decide_eq_true_iff]; omega
    · rw [if_neg h, decide_eq_false h, Bool.false_or]; exact opl_has
set_option maxHeartbeats 2000000 in
theorem ixOp_any (A : Option Addr) (n c : Nat) (op : List Opn) (vl : Value) (nm : ByteArray) (q : Addr) (w : World) (h : rdRow 2 rdOpX w (lt_ w.heap.size) (opX op vl) [.slice A n c]) (hvl : rdStrs w (lt_ w.heap.size) (lastLn op) [vl]) (hpv : plainV vl) (hq : q.block < w.heap.size) (hc : w.cell? q = some (.string nm)) :
    Calls Tryz.prog 212 #[.slice A n c, .func (.func 194) #[] #[.pointer (some q)]] w fun e w' => e = .returned (.int .i64 (oplX op nm 0)) ∧ Below w.heap.size w w' := by
  have hcf : ∀ (args : Array Value) (w : World), (callFunc 194 args).run Tryz.prog w = .ok (.enter 194 args) w := fun _ _ => by kernel_rfl
  obtain ⟨rfl, hnc, hcm, _⟩ := rdOp_at h hvl hpv
  have hcm' : c ≤ 9223372036854775807 := hcm
  have H := Lib.hid h
  have HV := Lib.hid hvl
  have HPV := Lib.hid hpv
  have HQ := Lib.hid hq
  have HC := Lib.hid hc
  clear h hvl hcm hc hq hpv
  go_enter Tryz.func212, Tryz.ntmps212
  go_wp2
  go_loopw [8] (fun i wr => ∃ k : Nat, k ≤ op.length ∧ i = .int .i64 k ∧ oplX op nm 0 = oplX (op.drop k) nm k ∧ Below w.heap.size w wr) (fun i _ => op.length - (intOf i).toNat)
  case atStart => exact ⟨0, Nat.zero_le _, rfl, rfl, Below.refl _ _⟩
  case round =>
    obtain ⟨k, hk, rfl, h1, hbel⟩ := hrel
    have H1 := Lib.hid h1
    have HB := Lib.hid hbel
    clear h1
    by_cases hlt : k < op.length
    · obtain ⟨_, _, _, ha⟩ := rdOp_at ((rdRow_good rdOpX_good).below H.out hbel) (rdStrs_good.below HV.out hbel) HPV.out
      obtain ⟨ad, A2, n2, c2, rfl, had, c0, c1, _⟩ := ha k hlt
      have hqr : q.block < wr.heap.size := Nat.lt_of_lt_of_le HQ.out hbel.size
      have CL := Lib.hid (begin1_any op[k].1 A2 n2 c2 nm q wr hqr ((hbel.cell HQ.out).trans HC.out))
      have PA := Lib.hid (opl_at (l := op) (n := nm) hlt)
      clear ha hbel hqr
      have SZ := Lib.hid HB.out.size
      by_cases he : op[k].1 = nm
      · have X := Lib.hid (PA.out.1 he)
        have DT := Lib.hid (decide_eq_true he)
        clear he
        go_wp2_with fail
        refine CL.out.mono ?_
        rw [DT.out]
        rintro e w' ⟨rfl, hb2⟩
        have HB2 := Lib.hid hb2
        clear hb2
        go_wp2
        go_ret
        exact ⟨by rw [H1.out, X.out]; try rfl, HB.out.trans (HB2.out.mono SZ.out)⟩
      · have X := Lib.hid (PA.out.2 he)
        have DT := Lib.hid (decide_eq_false he)
        clear he
        go_wp2_with fail
        refine CL.out.mono ?_
        rw [DT.out]
        rintro e w' ⟨rfl, hb2⟩
        have HB2 := Lib.hid hb2
        clear hb2
        go_wp2
        go_roundw
        case rel => exact ⟨k + 1, by omega, by go_num, by rw [H1.out, X.out], HB.out.trans (HB2.out.mono SZ.out)⟩
        case measure => simp [intOf]; omega
    · have X := Lib.hid (show oplX op nm 0 = -1 by rw [H1.out, List.drop_eq_nil_of_le (by omega)]; rfl)
      go_wp2
      go_ret
      exact ⟨by rw [X.out]; try rfl, HB.out⟩
set_option maxHeartbeats 2000000 in
theorem hasOp_any (A : Option Addr) (n c : Nat) (op : List Opn) (vl : Value) (nm : ByteArray) (q : Addr) (w : World) (h : rdRow 2 rdOpX w (lt_ w.heap.size) (opX op vl) [.slice A n c]) (hvl : rdStrs w (lt_ w.heap.size) (lastLn op) [vl]) (hpv : plainV vl) (hq : q.block < w.heap.size) (hc : w.cell? q = some (.string nm)) :
    Calls Tryz.prog 193 #[.slice A n c, .func (.func 194) #[] #[.pointer (some q)]] w fun e w' => e = .returned (.bool (opHas op nm)) ∧ Below w.heap.size w w' := by
  have C := Lib.hid (ixOp_any A n c op vl nm q w h hvl hpv hq hc)
  have X := Lib.hid (opl_has (l := op) (n := nm) (i := 0))
  clear h hvl hpv hq hc
  go_enter Tryz.func193, Tryz.ntmps193
  go_wp2_with (go_at_call 212; (with_reducible refine C.out.mono ?_); rintro e w' ⟨rfl, hb2⟩)
  go_ret
  exact ⟨by rw [← X.out]; rfl, hb2⟩
end Go.Proofs.YtmlakjemgmeffaaGreatDoor
end
