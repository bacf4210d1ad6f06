/- The program's reader in memory: all its open fields as they read; a field that is opened; a stanza that is closed. No condition. -/
import Derived.Test.YtjfenheplkoajaaDoorS5r
set_option maxRecDepth 100000
set_option linter.unusedVariables false
set_option linter.unusedSimpArgs false
namespace Go.Proofs.YtjfenheplkoajaaDoor
open Go.RowKit
theorem Grow.recast {α β : Type} {E : Rd α} {F : Rd β} {sz : Nat} {T : Nat → Prop} {w : World} {base : Nat} {e : TypeId} {v : Value} {l : List α} (h : Grow E sz T w base e v l) (l' : List β) (hl : l'.length = l.length)
    (hE : ∀ k (hk : k < l.length) (hk' : k < l'.length) cs, E w (fun b => T b ∧ b < w.heap.size ∧ v.ownBlock ≠ some b) l[k] cs → F w (fun b => T b ∧ b < w.heap.size ∧ v.ownBlock ≠ some b) l'[k] cs) : Grow F sz T w base e v l' := by
  obtain ⟨css, hc, ho, h⟩ := h
  refine ⟨css, by rw [hc, hl], by rw [hl]; exact ho, fun k hk => ?_⟩
  obtain ⟨cs, h1, h2⟩ := h k (by omega)
  exact ⟨cs, h1, hE k (by omega) hk cs h2⟩
/-- A slice of the call's own whose elements look at no block reads in its own block. -/
theorem Grow.inOwn {α : Type} {E : Rd α} {sz : Nat} (g : Good E sz) (hf : ∀ (w : World) (S S' : Nat → Prop) a cs, E w S a cs → E w S' a cs) {T : Nat → Prop} {w : World} {base : Nat} {e : TypeId} {v : Value} {l : List α} (h : Grow E sz T w base e v l) : rdRow sz E w (fun b => v.ownBlock = some b ∧ base ≤ b ∧ b < w.heap.size) l [v] := by
  obtain ⟨css, hl, ho, hE⟩ := h
  have hls := Grow.lens g hl hE
  rcases ho.2 with ⟨rfl, h0⟩ | ⟨gb, cap, cur, rfl, hb, hg, hn, hm, hs, ht⟩
  · obtain rfl : l = [] := List.eq_nil_of_length_eq_zero h0
    exact rdRow_nil w _
  · have hlt : gb < w.heap.size := (Array.getElem?_eq_some_iff.1 hg).1
    refine ⟨_, cap, rfl, hn, hm, fun k hk => ?_⟩
    obtain ⟨cs, h1, h2⟩ := hE k hk
    refine ⟨_, cs, rfl, ⟨rfl, hb, hlt⟩, hf _ _ _ _ _ h2, g.len h2, fun j u hu => ?_⟩
    exact ho.cells (g := gb) rfl _ _ (flatten_at sz hls h1 j u hu)
/-- All open fields as they read. -/
theorem RdP.shut {W : World} {N r k : Nat} {p : PS} {vs vo vl : Value} (h : RdP W N r k p vs vo vl) : Grow rdOpX 2 (fun b => N ≤ b) W N 92 vo (p.op.map Sum.inl) := by
  refine (h.go.retag rdOpX_good (T' := fun b => N ≤ b) fun b hb _ => hb.1).recast _ (by rw [List.length_map, opX_len]) fun k hk hk' cs hE => ?_
  have hk2 : k < p.op.length := by rw [opX_len] at hk; exact hk
  rw [List.getElem_map]
  rcases opX_at p.op vl k hk2 hk with e | ⟨e, e2⟩
  · rw [e] at hE; exact hE
  · rw [e] at hE
    refine ⟨vl, hE.1, ?_, h.gl.plain⟩
    rw [← e2]
    exact rdStrs_good.more (h.gl.inOwn rdStr_good fun _ _ _ _ _ h => h) fun b hb => ⟨hb.2.1, hb.2.2, fun e => h.ol b e hb.1⟩
/-- A row of one cell that has just been laid. -/
theorem Grow.one {T : Nat → Prop} {W : World} {base b : Nat} {e : TypeId} {x : ByteArray} (hb : W.heap[b]? = some (.cells #[.string x] e (0, 0))) (hbase : base ≤ b) : Grow rdStr 1 T W base e (.slice (some ⟨b, 0, none⟩) 1 1) [B x] :=
  ⟨[[.string x]], rfl, ⟨by simp, .inr ⟨b, 1, #[.string x], rfl, hbase, hb, Nat.le_refl _, by decide, by simp, by simp⟩⟩, fun k hk => by
    simp only [List.length_singleton] at hk
    obtain rfl : k = 0 := by omega
    exact ⟨_, rfl, x, rfl, rfl⟩⟩
abbrev lnBk (val : ByteArray) : Obj := Obj.cells #[Value.string val] 9
abbrev opBk (nm : ByteArray) (b : Nat) : Obj := Obj.cells #[Value.string nm, Value.slice (some ⟨b, 0, none⟩) 1 1] 92
/-- Ahead of the append of a field that is opened. -/
structure Op0 (V W : World) (N : Nat) (op : List Opn) (vo : Value) (nm : ByteArray) : Prop where
  g : Grow rdOpX 2 (fun b => N ≤ b ∧ (Value.slice (some ⟨V.heap.size, 0, none⟩) 1 1).ownBlock ≠ some b) W N 92 vo (op.map Sum.inl)
  x : rdRow 2 rdOpX W (fun b => b = V.heap.size + 1) [.inr (nm, .slice (some ⟨V.heap.size, 0, none⟩) 1 1)] [.slice (some ⟨V.heap.size + 1, 0, none⟩) 1 1]
  s : ∀ b, b = V.heap.size + 1 → (N ≤ b ∧ (Value.slice (some ⟨V.heap.size, 0, none⟩) 1 1).ownBlock ≠ some b) ∧ b < W.heap.size ∧ vo.ownBlock ≠ some b
  bs : N ≤ W.heap.size
  bel : Below V.heap.size V W
theorem own_some (b n c : Nat) : (Value.slice (some ⟨b, 0, none⟩) n c).ownBlock = some b := rfl
theorem RdP.op0 {V : World} {N r k : Nat} {p : PS} {vs vo vl : Value} (hR : RdP V N r k p vs vo vl) (hN : N ≤ V.heap.size) (nm val : ByteArray) : Op0 V ((V.alloc (lnBk val)).alloc (opBk nm V.heap.size)) N p.op vo nm := by
  have hb : Below V.heap.size V ((V.alloc (lnBk val)).alloc (opBk nm V.heap.size)) := ((Below.refl _ V).alloc (Nat.le_refl _) _).alloc (by simp) _
  have hs : ((V.alloc (lnBk val)).alloc (opBk nm V.heap.size)).heap.size = V.heap.size + 2 := by rw [World.size_alloc, World.size_alloc]
  have hh := new_heap (V.alloc (lnBk val)) (opBk nm V.heap.size)
  rw [World.size_alloc] at hh
  refine ⟨(hR.shut.retag rdOpX_good fun b h1 h2 => ⟨h1, by rw [own_some]; intro e; injection e with e; omega⟩).below rdOpX_good hb, ?_, ?_, by rw [hs]; omega, hb⟩
  · exact rd_block rdOpX_good (S := fun b => b = V.heap.size + 1) (l := [.inr (nm, .slice (some ⟨V.heap.size, 0, none⟩) 1 1)]) (css := [[.string nm, .slice (some ⟨V.heap.size, 0, none⟩) 1 1]]) hh rfl rfl rfl (fun k hk => by
      simp only [List.length_singleton] at hk
      obtain rfl : k = 0 := by omega
      exact ⟨_, rfl, rfl, rfl⟩) (by simp)
  · rintro b rfl
    refine ⟨⟨by omega, by rw [own_some]; intro e; injection e with e; omega⟩, by rw [hs]; omega, fun e => ?_⟩
    have := (hR.go.lt _ e).2
    omega
/-- A field opened: what the reader holds then. -/
theorem RdP.opened {V w1 : World} {N r k : Nat} {p : PS} {vs vo vl vo' : Value} {nm val : ByteArray} (hR : RdP V N r k p vs vo vl) (hr : r < N) (hN : N ≤ V.heap.size)
    (hG : Grow rdOpX 2 (fun b => N ≤ b ∧ (Value.slice (some ⟨V.heap.size, 0, none⟩) 1 1).ownBlock ≠ some b) w1 N 92 vo' (p.op.map Sum.inl ++ [.inr (nm, .slice (some ⟨V.heap.size, 0, none⟩) 1 1)]))
    (hg : ((V.alloc (lnBk val)).alloc (opBk nm V.heap.size)).grownBy w1 vo.ownBlock) (hm : Moved ((V.alloc (lnBk val)).alloc (opBk nm V.heap.size)) vo vo') :
    RdP (w1.setCell ⟨r, 2, none⟩ vo') N r k ⟨p.dn, p.op ++ [(nm, [B val])]⟩ vs vo' (.slice (some ⟨V.heap.size, 0, none⟩) 1 1) ∧ Fr N r V (w1.setCell ⟨r, 2, none⟩ vo') ∧ w1.cell? ⟨r, 2, none⟩ = some vo ∧ w1.frozen? ⟨r, 2, none⟩ = false := by
  have O := hR.op0 hN nm val
  have hs : ((V.alloc (lnBk val)).alloc (opBk nm V.heap.size)).heap.size = V.heap.size + 2 := by rw [World.size_alloc, World.size_alloc]
  have hln := old_heap (opBk nm V.heap.size) (new_heap V (lnBk val))
  generalize (V.alloc (lnBk val)).alloc (opBk nm V.heap.size) = W at *
  obtain ⟨f0, c0, c1, c2, gs, go, gl, so, sl, ol⟩ := hR
  have hvs := gs.lt
  have hvo := go.lt
  have hrl : some r ≠ vo.ownBlock := fun h => by have := (hvo r h.symm).1; omega
  have hk1 := O.bel.block r (by omega)
  have hk2 := hg.block r (by rw [hs]; omega) hrl
  have hk : w1.heap[r]? = V.heap[r]? := hk2.trans hk1
  obtain ⟨gs1, so1⟩ := Grow.beside rdFds_good (v := vo) (v' := vo') (T := fun b => N ≤ b ∧ (Value.slice (some ⟨V.heap.size, 0, none⟩) 1 1).ownBlock ≠ some b) ((gs.retag rdFds_good fun b h1 h2 => ⟨⟨h1.1.1, by rw [own_some]; intro e; injection e with e; omega⟩, h1.1.2⟩).below rdFds_good O.bel) so hg hm
  have gl0 : Grow rdStr 1 (fun b => N ≤ b) W N 9 (.slice (some ⟨V.heap.size, 0, none⟩) 1 1) [B val] := Grow.one hln hN
  have hol : Off (.slice (some ⟨V.heap.size, 0, none⟩) 1 1) vo := fun b hb e => by
    rw [own_some] at hb; injection hb with hb; have := (hvo b e).2; omega
  obtain ⟨gl1, ol1⟩ := Grow.beside rdStr_good (T := fun b => N ≤ b) (strFlat gl0) hol hg hm
  have hB1 : Below N V w1 := grow_below O.g hg (O.bel.mono hN) (Nat.le_refl _) O.bs
  have hset : ∀ o, o ≠ 2 → (⟨r, o, none⟩ : Addr) ≠ ⟨r, 2, none⟩ := fun o ho e => ho (congrArg Addr.off e)
  have hrr : (⟨r, 2, none⟩ : Addr).block < N := hr
  refine ⟨⟨fun o => ?_, ?_, ?_, ?_, ?_, ?_, ?_, so1, fun b hb => ?_, ol1.symm⟩, (Fr.of hB1 (Nat.le_of_lt hr)).set (.inl rfl) (Nat.le_of_lt hr) _, (blk_of hk 2).1.trans c2, (blk_of hk 2).2.trans (f0 2)⟩
  · rw [World.frozen?_setCell]; exact ((blk_of hk o).2).trans (f0 o)
  · rw [World.cell?_setCell_other _ _ _ _ (fun e => hset 0 (by decide) e.symm)]; exact ((blk_of hk 0).1).trans c0
  · rw [World.cell?_setCell_other _ _ _ _ (fun e => hset 1 (by decide) e.symm)]; exact ((blk_of hk 1).1).trans c1
  · exact World.cell?_setCell_same _ _ _ ((blk_of hk 2).1.trans c2)
  · refine (gs1.retag rdFds_good fun b h1 h2 => ⟨⟨h1.1.1, h1.2⟩, h1.1.2⟩).setCell rdFds_good hrr (fun h => by have := h.1.1; simp only at this; omega) _
  · rw [opX_snoc]; exact hG.setCell rdOpX_good hrr (fun h => by have := h.1; simp only at this; omega) _
  · rw [lastLn_snoc]; exact (strFlat (T' := fun b => N ≤ b) gl1).setCell rdStr_good hrr (fun h => by simp only at h; omega) _
  · rw [own_some]; intro e; injection e with e; have := (hvs b hb).2; omega
end Go.Proofs.YtjfenheplkoajaaDoor
