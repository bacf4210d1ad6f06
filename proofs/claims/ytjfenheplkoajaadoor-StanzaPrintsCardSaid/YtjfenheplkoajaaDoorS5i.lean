/- The program's reader of stanzas in memory: its cells, the closed stanzas, the open fields and the last one's lines, each in rows of their own. No condition. -/
import Derived.Test.YtjfenheplkoajaaDoorS5h
import Derived.Test.YtjfenheplkoajaaDoorS5d
import Derived.Test.YtjfenheplkoajaaDoorDeep3
import Derived.Test.YtjfenheplkoajaaDoorDeep5
set_option maxRecDepth 100000
set_option linter.unusedVariables false
set_option linter.unusedSimpArgs false
namespace Go.Proofs.YtjfenheplkoajaaDoor
open Go.RowKit
theorem opn_info : (Tryd.prog.info? 92).map (fun i => (i.zero, i.size, i.bytes)) = some (some (.agg #[.string { data := #[] }, .slice none 0 0]), 2, 40) := by kernel_rfl
/-- A slice's value whose place, if it has one, is a plain one. -/
def plainV (v : Value) : Prop := ∀ ad n c, v = .slice (some ad) n c → ad = ⟨ad.block, ad.off, none⟩
/-- An open field as it reads; or one whose lines' slice is told itself. -/
def rdOpX : Rd (Opn ⊕ (ByteArray × Value)) := fun w S x cs => match x with
  | .inl f => ∃ v, cs = [.string f.1, v] ∧ rdStrs w S f.2 [v] ∧ plainV v
  | .inr p => cs = [.string p.1, p.2] ∧ p.2.oneCell' = true
theorem rdOpX_good : Good rdOpX 2 where
  keep := by
    rintro w w' S x cs h hk
    cases x with
    | inl f => obtain ⟨v, e, h, hp⟩ := h; exact ⟨v, e, rdStrs_good.keep h hk, hp⟩
    | inr p => exact h
  more := by
    rintro w S S' x cs h hm
    cases x with
    | inl f => obtain ⟨v, e, h, hp⟩ := h; exact ⟨v, e, rdStrs_good.more h hm, hp⟩
    | inr p => exact h
  turn := by
    rintro w w' S x cs row h hg hr
    cases x with
    | inl f => obtain ⟨v, e, h, hp⟩ := h; exact ⟨v, e, rdStrs_good.turn h hg hr, hp⟩
    | inr p => exact h
  len := by
    rintro w S x cs h
    cases x with
    | inl f => obtain ⟨v, rfl, h, _⟩ := h; rfl
    | inr p => rw [h.1]; rfl
  one := by
    rintro w S x cs h u hu
    cases x with
    | inl f =>
      obtain ⟨v, rfl, h, _⟩ := h
      rcases List.mem_cons.1 hu with rfl | hu
      · rfl
      · exact rdStrs_good.one h u hu
    | inr p =>
      rw [h.1] at hu
      rcases List.mem_cons.1 hu with rfl | hu
      · rfl
      · rw [List.mem_singleton.1 hu]; exact h.2
/-- How the open fields stand in their row: all but the last read as they are; of the last one its lines' slice is told. -/
def opX (op : List Opn) (vl : Value) : List (Opn ⊕ (ByteArray × Value)) := match op.getLast? with
  | none => []
  | some f => op.dropLast.map .inl ++ [.inr (f.1, vl)]
theorem opX_nil (vl : Value) : opX [] vl = [] := rfl
theorem opX_snoc (i : List Opn) (f : Opn) (vl : Value) : opX (i ++ [f]) vl = i.map .inl ++ [.inr (f.1, vl)] := by unfold opX; simp
theorem opX_len (op : List Opn) (vl : Value) : (opX op vl).length = op.length := by
  rcases List.eq_nil_or_concat op with rfl | ⟨i, f, rfl⟩
  · rfl
  · rw [List.concat_eq_append, opX_snoc]; simp
def lastLn (op : List Opn) : List (List Nat) := match op.getLast? with
  | none => []
  | some f => f.2
theorem lastLn_snoc (i : List Opn) (f : Opn) : lastLn (i ++ [f]) = f.2 := by unfold lastLn; simp
/-- What the program's reader holds: k lines read, the state p. -/
structure RdP (W : World) (N r k : Nat) (p : PS) (vs vo vl : Value) : Prop where
  f0 : ∀ o, W.frozen? ⟨r, o, none⟩ = false
  c0 : W.cell? ⟨r, 0, none⟩ = some (.int .i64 k)
  c1 : W.cell? ⟨r, 1, none⟩ = some vs
  c2 : W.cell? ⟨r, 2, none⟩ = some vo
  gs : Grow rdFds 1 (fun b => (N ≤ b ∧ vo.ownBlock ≠ some b) ∧ vl.ownBlock ≠ some b) W N 39 vs p.dn
  go : Grow rdOpX 2 (fun b => N ≤ b ∧ vl.ownBlock ≠ some b) W N 92 vo (opX p.op vl)
  gl : Grow rdStr 1 (fun b => N ≤ b) W N 9 vl (lastLn p.op)
  so : Off vs vo
  sl : Off vs vl
  ol : Off vo vl
theorem RdP.below {W W' : World} {N r k : Nat} {p : PS} {vs vo vl : Value} (h : RdP W N r k p vs vo vl) (hb : Below W.heap.size W W') (hr : r < W.heap.size) : RdP W' N r k p vs vo vl := by
  have hk := hb.block r hr
  exact ⟨fun o => ((blk_of hk o).2).trans (h.f0 o), ((blk_of hk 0).1).trans h.c0, ((blk_of hk 1).1).trans h.c1, ((blk_of hk 2).1).trans h.c2, h.gs.below rdFds_good hb, h.go.below rdOpX_good hb, h.gl.below rdStr_good hb, h.so, h.sl, h.ol⟩
theorem Grow.plain {α : Type} {E : Rd α} {sz : Nat} {T : Nat → Prop} {w : World} {base : Nat} {e : TypeId} {v : Value} {l : List α} (h : Grow E sz T w base e v l) : plainV v := by
  obtain ⟨css, hl, ho, hE⟩ := h
  rcases ho.2 with ⟨rfl, h0⟩ | ⟨gb, cap, cur, rfl, hb, hg, hn, hm, hs, ht⟩
  · intro ad n c h; cases h
  · intro ad n c h; cases h; rfl
theorem strFlat {T T' : Nat → Prop} {w : World} {base : Nat} {e : TypeId} {v : Value} {l : List (List Nat)} (h : Grow rdStr 1 T w base e v l) : Grow rdStr 1 T' w base e v l := h.flat fun _ _ _ _ _ h => h
/-- What else is kept behind a store into a row. -/
theorem Grow.store {β : Type} {F : Rd β} {tz : Nat} (g : Good F tz) {T : Nat → Prop} {W w' : World} {base : Nat} {e : TypeId} {v x : Value} {m : List β} (hx : Grow F tz (fun b => T b ∧ v.ownBlock ≠ some b) W base e x m) (ho : Off x v) (hg : W.grownBy w' v.ownBlock) : Grow F tz (fun b => T b ∧ v.ownBlock ≠ some b) w' base e x m :=
  (Grow.beside g hx ho hg (.inl rfl)).1
/-- A line more in the last field's value. -/
theorem RdP.on {W w1 : World} {N r k n c : Nat} {p : PS} {vs vl vl' : Value} {i : List Opn} {f : Opn} {x : List Nat} {ad : Addr} (hR : RdP W N r k p vs (.slice (some ad) n c) vl) (hop : p.op = i ++ [f]) (hr : r < N) (hN : N ≤ W.heap.size) (hg : W.grownBy w1 vl.ownBlock) (hm : Moved W vl vl')
    (hG : Grow rdStr 1 (fun b => N ≤ b) w1 N 9 vl' (f.2 ++ [x])) (hv : vl'.oneCell' = true) :
    RdP (w1.setCell (ad.add (i.length * 2 + 1)) vl') N r k ⟨p.dn, i ++ [(f.1, f.2 ++ [x])]⟩ vs (.slice (some ad) n c) vl' ∧ Fr N r W (w1.setCell (ad.add (i.length * 2 + 1)) vl') ∧
      w1.cell? (ad.add (i.length * 2 + 1)) = some vl ∧ w1.frozen? (ad.add (i.length * 2 + 1)) = false := by
  obtain ⟨f0, c0, c1, c2, gs, go, gl, so, sl, ol⟩ := hR
  have hrl : some r ≠ vl.ownBlock := fun h => by have := (gl.lt r h.symm).1; omega
  have hk := hg.block r (by omega) hrl
  obtain ⟨gs1, sl1⟩ := Grow.beside rdFds_good gs sl hg hm
  obtain ⟨go1, ol1⟩ := Grow.beside rdOpX_good go ol hg hm
  rw [hop, opX_snoc] at go1
  have hil : i.length < (i.map (Sum.inl (β := ByteArray × Value)) ++ [Sum.inr (f.1, vl)]).length := by simp
  have hel : (i.map (Sum.inl (β := ByteArray × Value)) ++ [Sum.inr (f.1, vl)])[i.length] = Sum.inr (f.1, vl) := by
    rw [List.getElem_append_right (by simp)]; simp
  obtain ⟨e0, hba, hbb, hnl, hfz⟩ := go1.spot
  obtain ⟨ad1, es, e1, _, hE, _, hcell⟩ := (show ∃ ad1 es, some ad = some ad1 ∧ _ ∧ rdOpX w1 _ _ es ∧ _ ∧ ∀ j u, es[j]? = some u → w1.cell? (ad1.add (i.length * 2 + j)) = some u from by
    obtain ⟨A', c', e, h1, h2, h⟩ := go1.read rdOpX_good
    simp only [List.cons.injEq, Value.slice.injEq, and_true] at e
    obtain ⟨rfl, _, _⟩ := e
    exact h i.length hil)
  injection e1 with e1
  subst e1
  rw [hel] at hE
  have hcl : w1.cell? (ad.add (i.length * 2 + 1)) = some vl := hcell 1 vl (by rw [hE.1]; rfl)
  have hfr : w1.frozen? (ad.add (i.length * 2 + 1)) = false := go1.frz _
  obtain ⟨go2, hg2⟩ := go1.set rdOpX_good hil (j := 1) (by decide) vl' (.inr (f.1, vl')) (fun cs hcs => by
    rw [hel] at hcs
    exact ⟨by rw [hcs.1]; rfl, hv⟩)
  have hset : (i.map (Sum.inl (β := ByteArray × Value)) ++ [Sum.inr (f.1, vl)]).set i.length (.inr (f.1, vl')) = i.map Sum.inl ++ [Sum.inr (f.1, vl')] := by
    rw [List.set_append_right _ _ (by simp)]; simp
  rw [hset] at go2
  have gs2 := Grow.store rdFds_good (v := .slice (some ad) n c) (gs1.retag rdFds_good (T' := fun b => (N ≤ b ∧ vl'.ownBlock ≠ some b) ∧ (Value.slice (some ad) n c).ownBlock ≠ some b) fun b h _ => ⟨⟨h.1.1, h.2⟩, h.1.2⟩) so hg2
  have gl2 := Grow.store rdStr_good (v := .slice (some ad) n c) (strFlat hG (T' := fun b => N ≤ b ∧ (Value.slice (some ad) n c).ownBlock ≠ some b)) ol1.symm hg2
  have hne : ∀ o, (⟨r, o, none⟩ : Addr) ≠ ad.add (i.length * 2 + 1) := fun o e => by have := congrArg Addr.block e; rw [blk_add] at this; simp only at this; omega
  have hB1 : Below N W w1 := grow_below gl hg (Below.refl N W) (Nat.le_refl _) hN
  refine ⟨⟨fun o => ?_, ?_, ?_, ?_, gs2.retag rdFds_good fun b h _ => ⟨⟨h.1.1, h.2⟩, h.1.2⟩, by rw [opX_snoc]; exact go2, by rw [lastLn_snoc]; exact strFlat gl2, so, sl1, ol1⟩, (Fr.of hB1 (Nat.le_of_lt hr)).set (.inr (by rw [blk_add]; exact hba)) (Nat.le_of_lt hr) _, hcl, hfr⟩
  · rw [World.frozen?_setCell]; exact ((blk_of hk o).2).trans (f0 o)
  · rw [World.cell?_setCell_other _ _ _ _ (fun e => hne 0 e.symm)]; exact ((blk_of hk 0).1).trans c0
  · rw [World.cell?_setCell_other _ _ _ _ (fun e => hne 1 e.symm)]; exact ((blk_of hk 1).1).trans c1
  · rw [World.cell?_setCell_other _ _ _ _ (fun e => hne 2 e.symm)]; exact ((blk_of hk 2).1).trans c2
end Go.Proofs.YtjfenheplkoajaaDoor
