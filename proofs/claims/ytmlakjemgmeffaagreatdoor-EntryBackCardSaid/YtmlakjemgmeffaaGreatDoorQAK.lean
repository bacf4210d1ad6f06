/- What the laws of this seat rest on: S5t, S5u, HeldA. -/
import Derived.Test.YtmlakjemgmeffaaGreatDoorQAJ
import Derived.Test.YtmlakjemgmeffaaGreatDoorND
import Derived.Test.YtmlakjemgmeffaaGreatDoorQAH

section
set_option maxRecDepth 100000
set_option linter.unusedVariables false
set_option linter.unusedSimpArgs false
namespace Go.Proofs.YtmlakjemgmeffaaGreatDoor
open Go.RowKit
theorem Grow.recast {α β : Type} {E : Rd α} {F : Rd β} {sz : Nat} {T : Nat → Prop} {w : World} {base : Nat} {e : TypeId} {v : Value} {l : List α} (h : Grow E sz T w base e v l) (l' : List β) (hl : l'.length = l.length)
    (hE : ∀ k (hk : k < l.length) (hk' : k < l'.length) cs, E w (fun b => T b ∧ b < w.heap.size ∧ v.ownBlock ≠ some b) l[k] cs → F w (fun b => T b ∧ b < w.heap.size ∧ v.ownBlock ≠ some b) l'[k] cs) : Grow F sz T w base e v l' := by
  obtain ⟨css, hc, ho, h⟩ := h
  refine ⟨css, by rw [hc, hl], by rw [hl]; exact ho, fun k hk => ?_⟩
  obtain ⟨cs, h1, h2⟩ := h k (by omega)
  exact ⟨cs, h1, hE k (by omega) hk cs h2⟩
theorem Grow.inOwn {α : Type} {E : Rd α} {sz : Nat} (g : Good E sz) (hf : ∀ (w : World) (S S' : Nat → Prop) a cs, E w S a cs → E w S' a cs) {T : Nat → Prop} {w : World} {base : Nat} {e : TypeId} {v : Value} {l : List α} (h : Grow E sz T w base e v l) : rdRow sz E w (fun b => v.ownBlock = some b ∧ base ≤ b ∧ b < w.heap.size) l [v] := by
  obtain ⟨css, hl, ho, hE⟩ := h
  have hls := Grow.lens g hl hE
  rcases ho.2 with ⟨rfl, h0⟩ | ⟨gb, cap, cur, rfl, hb, hg, hn, hm, hs, ht⟩
  · obtain rfl : l = [] := List.eq_nil_of_length_eq_zero h0
    exact rdRow_nil w _
  · have hlt : gb < w.heap.size := (Array.getElem?_eq_some_iff.1 hg).1
    refine ⟨_, cap, rfl, hn, hm, fun k hk => ?_⟩
    obtain ⟨cs, h1, h2⟩ := hE k hk
    refine ⟨_, cs, rfl, ⟨rfl, hb, hlt⟩, hf _ _ _ _ _ h2, g.len h2, fun j u hu => ?_⟩
    exact ho.cells (g := gb) rfl _ _ (flatten_at sz hls h1 j u hu)
theorem RdP.shut {W : World} {N r k : Nat} {p : PS} {vs vo vl : Value} (h : RdP W N r k p vs vo vl) : Grow rdOpX 2 (fun b => N ≤ b) W N 167 vo (p.op.map Sum.inl) := by
  refine (h.go.retag rdOpX_good (T' := fun b => N ≤ b) fun b hb _ => hb.1).recast _ (by rw [List.length_map, opX_len]) fun k hk hk' cs hE => ?_
  have hk2 : k < p.op.length := by rw [opX_len] at hk; exact hk
  rw [List.getElem_map]
  rcases opX_at p.op vl k hk2 hk with e | ⟨e, e2⟩
  · rw [e] at hE; exact hE
  · rw [e] at hE
    refine ⟨vl, hE.1, ?_, h.gl.plain⟩
    rw [← e2]
    exact rdStrs_good.more (h.gl.inOwn rdStr_good fun _ _ _ _ _ h => h) fun b hb => ⟨hb.2.1, hb.2.2, fun e => h.ol b e hb.1⟩
theorem Grow.one {T : Nat → Prop} {W : World} {base b : Nat} {e : TypeId} {x : ByteArray} (hb : W.heap[b]? = some (.cells #[.string x] e (0, 0))) (hbase : base ≤ b) : Grow rdStr 1 T W base e (.slice (some ⟨b, 0, none⟩) 1 1) [B x] :=
  ⟨[[.string x]], rfl, ⟨by simp, .inr ⟨b, 1, #[.string x], rfl, hbase, hb, Nat.le_refl _, by decide, by simp, by simp⟩⟩, fun k hk => by
    simp only [List.length_singleton] at hk
    obtain rfl : k = 0 := by omega
    exact ⟨_, rfl, x, rfl, rfl⟩⟩
abbrev lnBk (val : ByteArray) : Obj := Obj.cells #[Value.string val] 9
abbrev opBk (nm : ByteArray) (b : Nat) : Obj := Obj.cells #[Value.string nm, Value.slice (some ⟨b, 0, none⟩) 1 1] 167
structure Op0 (V W : World) (N : Nat) (op : List Opn) (vo : Value) (nm : ByteArray) : Prop where
  g : Grow rdOpX 2 (fun b => N ≤ b ∧ (Value.slice (some ⟨V.heap.size, 0, none⟩) 1 1).ownBlock ≠ some b) W N 167 vo (op.map Sum.inl)
  x : rdRow 2 rdOpX W (fun b => b = V.heap.size + 1) [.inr (nm, .slice (some ⟨V.heap.size, 0, none⟩) 1 1)] [.slice (some ⟨V.heap.size + 1, 0, none⟩) 1 1]
  s : ∀ b, b = V.heap.size + 1 → (N ≤ b ∧ (Value.slice (some ⟨V.heap.size, 0, none⟩) 1 1).ownBlock ≠ some b) ∧ b < W.heap.size ∧ vo.ownBlock ≠ some b
  bs : N ≤ W.heap.size
  bel : Below V.heap.size V W
theorem own_some (b n c : Nat) : (Value.slice (some ⟨b, 0, none⟩) n c).ownBlock = some b := rfl
theorem RdP.op0 {V : World} {N r k : Nat} {p : PS} {vs vo vl : Value} (hR : RdP V N r k p vs vo vl) (hN : N ≤ V.heap.size) (nm val : ByteArray) : Op0 V ((V.alloc (lnBk val)).alloc (opBk nm V.heap.size)) N p.op vo nm := by
  have hb : Below V.heap.size V ((V.alloc (lnBk val)).alloc (opBk nm V.heap.size)) := ((Below.refl _ V).alloc (Nat.le_refl _) _).alloc (by simp) _
  have hs : ((V.alloc (lnBk val)).alloc (opBk nm V.heap.size)).heap.size = V.heap.size + 2 := by rw [World.size_alloc, World.size_alloc]
  have hh := new_heap (V.alloc (lnBk val)) (opBk nm V.heap.size)
  rw [World.size_alloc] at hh
  refine ⟨(hR.shut.retag rdOpX_good fun b h1 h2 => ⟨h1, by rw [own_some]; intro e; injection e with e; omega⟩).below rdOpX_good hb, ?_, ?_, by rw [hs]; omega, hb⟩
  · exact rd_block rdOpX_good (S := fun b => b = V.heap.size + 1) (l := [.inr (nm, .slice (some ⟨V.heap.size, 0, none⟩) 1 1)]) (css := [[.string nm, .slice (some ⟨V.heap.size, 0, none⟩) 1 1]]) hh rfl rfl rfl (fun k hk => by
      simp only [List.length_singleton] at hk
      obtain rfl : k = 0 := by omega
      exact ⟨_, rfl, rfl, rfl⟩) (by simp)
  · rintro b rfl
    refine ⟨⟨by omega, by rw [own_some]; intro e; injection e with e; omega⟩, by rw [hs]; omega, fun e => ?_⟩
    have := (hR.go.lt _ e).2
    omega
theorem RdP.opened {V w1 : World} {N r k : Nat} {p : PS} {vs vo vl vo' : Value} {nm val : ByteArray} (hR : RdP V N r k p vs vo vl) (hr : r < N) (hN : N ≤ V.heap.size)
    (hG : Grow rdOpX 2 (fun b => N ≤ b ∧ (Value.slice (some ⟨V.heap.size, 0, none⟩) 1 1).ownBlock ≠ some b) w1 N 167 vo' (p.op.map Sum.inl ++ [.inr (nm, .slice (some ⟨V.heap.size, 0, none⟩) 1 1)]))
    (hg : ((V.alloc (lnBk val)).alloc (opBk nm V.heap.size)).grownBy w1 vo.ownBlock) (hm : Moved ((V.alloc (lnBk val)).alloc (opBk nm V.heap.size)) vo vo') :
    RdP (w1.setCell ⟨r, 2, none⟩ vo') N r k ⟨p.dn, p.op ++ [(nm, [B val])]⟩ vs vo' (.slice (some ⟨V.heap.size, 0, none⟩) 1 1) ∧ Fr N r V (w1.setCell ⟨r, 2, none⟩ vo') ∧ w1.cell? ⟨r, 2, none⟩ = some vo ∧ w1.frozen? ⟨r, 2, none⟩ = false := by
  have O := hR.op0 hN nm val
  have hs : ((V.alloc (lnBk val)).alloc (opBk nm V.heap.size)).heap.size = V.heap.size + 2 := by rw [World.size_alloc, World.size_alloc]
  have hln := old_heap (opBk nm V.heap.size) (new_heap V (lnBk val))
  generalize (V.alloc (lnBk val)).alloc (opBk nm V.heap.size) = W at *
  obtain ⟨f0, c0, c1, c2, gs, go, gl, so, sl, ol⟩ := hR
  have hvs := gs.lt
  have hvo := go.lt
  have hrl : some r ≠ vo.ownBlock := fun h => by have := (hvo r h.symm).1; omega
  have hk1 := O.bel.block r (by omega)
  have hk2 := hg.block r (by rw [hs]; omega) hrl
  have hk : w1.heap[r]? = V.heap[r]? := hk2.trans hk1
  obtain ⟨gs1, so1⟩ := Grow.beside rdFds_good (v := vo) (v' := vo') (T := fun b => N ≤ b ∧ (Value.slice (some ⟨V.heap.size, 0, none⟩) 1 1).ownBlock ≠ some b) ((gs.retag rdFds_good fun b h1 h2 => ⟨⟨h1.1.1, by rw [own_some]; intro e; injection e with e; omega⟩, h1.1.2⟩).below rdFds_good O.bel) so hg hm
  have gl0 : Grow rdStr 1 (fun b => N ≤ b) W N 9 (.slice (some ⟨V.heap.size, 0, none⟩) 1 1) [B val] := Grow.one hln hN
  have hol : Off (.slice (some ⟨V.heap.size, 0, none⟩) 1 1) vo := fun b hb e => by
    rw [own_some] at hb; injection hb with hb; have := (hvo b e).2; omega
  obtain ⟨gl1, ol1⟩ := Grow.beside rdStr_good (T := fun b => N ≤ b) (strFlat gl0) hol hg hm
  have hB1 : Below N V w1 := grow_below O.g hg (O.bel.mono hN) (Nat.le_refl _) O.bs
  have hset : ∀ o, o ≠ 2 → (⟨r, o, none⟩ : Addr) ≠ ⟨r, 2, none⟩ := fun o ho e => ho (congrArg Addr.off e)
  have hrr : (⟨r, 2, none⟩ : Addr).block < N := hr
  refine ⟨⟨fun o => ?_, ?_, ?_, ?_, ?_, ?_, ?_, so1, fun b hb => ?_, ol1.symm⟩, (Fr.of hB1 (Nat.le_of_lt hr)).set (.inl rfl) (Nat.le_of_lt hr) _, (blk_of hk 2).1.trans c2, (blk_of hk 2).2.trans (f0 2)⟩
  · rw [World.frozen?_setCell]; exact ((blk_of hk o).2).trans (f0 o)
  · rw [World.cell?_setCell_other _ _ _ _ (fun e => hset 0 (by decide) e.symm)]; exact ((blk_of hk 0).1).trans c0
  · rw [World.cell?_setCell_other _ _ _ _ (fun e => hset 1 (by decide) e.symm)]; exact ((blk_of hk 1).1).trans c1
  · exact World.cell?_setCell_same _ _ _ ((blk_of hk 2).1.trans c2)
  · refine (gs1.retag rdFds_good fun b h1 h2 => ⟨⟨h1.1.1, h1.2⟩, h1.1.2⟩).setCell rdFds_good hrr (fun h => by have := h.1.1; simp only at this; omega) _
  · rw [opX_snoc]; exact hG.setCell rdOpX_good hrr (fun h => by have := h.1; simp only at this; omega) _
  · rw [lastLn_snoc]; exact (strFlat (T' := fun b => N ≤ b) gl1).setCell rdStr_good hrr (fun h => by simp only at h; omega) _
  · rw [own_some]; intro e; injection e with e; have := (hvs b hb).2; omega
end Go.Proofs.YtmlakjemgmeffaaGreatDoor
end

section
set_option maxRecDepth 100000
set_option linter.unusedVariables false
set_option linter.unusedSimpArgs false
namespace Go.Proofs.YtmlakjemgmeffaaGreatDoor
open Go.RowKit
set_option maxHeartbeats 4000000 in
theorem begin5_ok (x : ByteArray) (N r k : Nat) (p : PS) (vs vo vl : Value) (m : Int) (w : World) (hR : RdP w N r k p vs vo vl) (hr : r < N) (hN : N ≤ w.heap.size) (hx : x.size ≤ 65536) (hm : w.cell? ⟨1, 0, none⟩ = some (.int .i64 m)) (h : begE p (B x) = 0) (hol : p.op.length ≤ 1000) :
    Calls Tryz.prog 163 #[.pointer (some ⟨r, 0, none⟩), .string x] w fun e w' => e = .returned (.tuple #[]) ∧ (∃ vo' vl', RdP w' N r k ⟨p.dn, p.op ++ [(mk (nmOf (B x)), [vlOf (B x)])]⟩ vs vo' vl') ∧ Fr N r w w' := by
  have hz := begE_zero h
  have hf : (decide (58 ∈ B x) && fnB (nmOf (B x))) = true := by
    unfold begE at h
    split at h
    · assumption
    · cases h
  have hh : opHas p.op (mk (nmOf (B x))) = false := hz.2.2
  have C := Lib.hid (colon_any x m w hx hm)
  rw [Bool.and_eq_true] at hf
  obtain ⟨A, c, rfl, hc1, hc2⟩ := hR.own
  have hc2' : c ≤ 9223372036854775807 := hc2
  obtain ⟨As, cs, hvs, _, hs2⟩ := hR.gs.own
  have hs2' : cs ≤ 9223372036854775807 := hs2
  rw [hf.1] at C
  have NM := Lib.hid (fun W => name5_any (mk (nmOf (B x))) W (by rw [← B_len, nm_mk]; have := nm_le (B x); rw [B_len] at this; unfold maxLen; omega))
  rw [nm_mk, hf.2] at NM
  have HR := Lib.hid hR
  have HH := Lib.hid hh
  have HRN := Lib.hid hr
  have HN := Lib.hid hN
  have HRR := Lib.hid (show r < w.heap.size by omega)
  have q0 : ((p.op.length : Int) == 40) = false := by rw [beq_eq_false_iff_ne]; have := hz.1; omega
  have q1 : ((p.dn.length : Int) == 200) = false := by rw [beq_eq_false_iff_ne]; have := hz.2.1; omega
  have hm1 : (p.op.map (Sum.inl (β := ByteArray × Value))).length + [(Sum.inr (mk (nmOf (B x)), Value.slice none 0 0) : Opn ⊕ (ByteArray × Value))].length ≤ maxLen := by rw [List.length_map, List.length_singleton]; unfold maxLen; omega
  have hm2 : ((p.op.map (Sum.inl (β := ByteArray × Value))).length + [(Sum.inr (mk (nmOf (B x)), Value.slice none 0 0) : Opn ⊕ (ByteArray × Value))].length) * 40 ≤ 140737488355328 := by rw [List.length_map, List.length_singleton]; omega
  have VL := Lib.hid (show B (mk ((B (mk ((B x).drop ((nmOf (B x)).length + 1)))).dropWhile fun c => c == 32)) = vlOf (B x) by
    have e1 : B (mk ((B x).drop ((nmOf (B x)).length + 1))) = (B x).drop ((nmOf (B x)).length + 1) := B_mk fun c hc => B_lt x c (List.mem_of_mem_drop hc)
    rw [e1]
    unfold vlOf
    exact B_mk fun c hc => B_lt x c (List.mem_of_mem_drop ((List.dropWhile_sublist _).subset hc)))
  obtain ⟨oi, ho, ho0, ho1, ho2⟩ := info_parts opn_info
  clear hR hm hx h hf hh hc2 hs2 hz hol hr hN
  go_enter Tryz.func163, Tryz.ntmps163
  go_wp2_with fail
  refine C.out.mono ?_
  rintro e w1 ⟨rfl, n, rfl⟩
  have hb := belD (Below.refl w.heap.size w) n
  have hvz : (w.drewN n).heap.size = w.heap.size := rfl
  generalize w.drewN n = V at *
  generalize hnm : mk (nmOf (B x)) = nm at *
  have HNM := Lib.hid hnm
  clear hnm
  generalize mk ((B x).drop ((nmOf (B x)).length + 1)) = vv at *
  have HB := Lib.hid (hb.alloc hb.size (.cells #[.string nm] 9))
  have hq : (⟨V.heap.size, 0, none⟩ : Addr).block < (V.alloc (.cells #[.string nm] 9)).heap.size := by rw [World.size_alloc]; exact Nat.lt_succ_self _
  have hc : (V.alloc (.cells #[.string nm] 9)).cell? ⟨V.heap.size, 0, none⟩ = some (.string nm) := by simp [go_sem]
  have HQ := Lib.hid hq
  have HC := Lib.hid hc
  obtain ⟨q, hqq⟩ : ∃ q, q = V.heap.size := ⟨_, rfl⟩
  rw [← hqq] at HQ HC hvz
  have HQW := Lib.hid hvz
  clear hb hq hc hvz
  go_wp2_with fail
  refine (NM.out _).mono ?_
  rintro e w2 ⟨rfl, hb2⟩
  rw [← hqq]
  have HB2 := Lib.hid (HB.out.trans (hb2.mono HB.out.size))
  have R2 := Lib.hid (HR.out.below HB2.out HRR.out)
  have c2 := R2.out.c2
  have HQ2 := Lib.hid (And.intro (Nat.lt_of_lt_of_le HQ.out hb2.size) ((hb2.cell HQ.out).trans HC.out))
  have cq := HQ2.out.2
  have CF := Lib.hid (hasOp_any A p.op.length c p.op vl nm ⟨q, 0, none⟩ w2 (R2.out.go.read rdOpX_good) (R2.out.gl.read rdStr_good) R2.out.gl.plain HQ2.out.1 HQ2.out.2)
  rw [HH.out] at CF
  clear hb2 hqq
  have hmf : ∀ (fn : Fn) (first cap : Array Value) (w : World), (Instr.makeFunc fn first cap).run Tryz.prog w = .ok (.func fn first cap) w := fun _ _ _ _ => rfl
  go_wp2_with fail
  refine CF.out.mono ?_
  rintro e w3 ⟨rfl, hb3⟩
  have HB3 := Lib.hid (HB2.out.trans (hb3.mono HB2.out.size))
  have R3 := HR.out.below HB3.out HRR.out
  have d2 := R3.c2
  have d1 := R3.c1
  rw [hvs] at d1
  have cq3 := (hb3.cell HQ2.out.1).trans cq
  have HV := Lib.hid (show RdP w3.drew N r k p vs (.slice A p.op.length c) vl from R3.below (belD (Below.refl _ _) 1 : Below w3.heap.size w3 w3.drew) (Nat.lt_of_lt_of_le HRR.out HB3.out.size))
  have HQL := Lib.hid (show q < w3.drew.heap.size from Nat.lt_of_lt_of_le HQ2.out.1 hb3.size)
  have HNV := Lib.hid (show N ≤ w3.drew.heap.size from Nat.le_trans HN.out HB3.out.size)
  have HFV := Lib.hid (show Fr N r w w3.drew from Fr.of (N := N) (r := r) (belD HB3.out 1 |>.mono HN.out) (Nat.le_of_lt HRN.out))
  have HQV := Lib.hid (show (Value.slice A p.op.length c).ownBlock ≠ some q from fun e => by
    have h1 := (HR.out.go.lt q e).2
    have h2 := HQW.out
    omega)
  clear c2 cq
  have c2 : w3.drew.cell? ⟨r, 2, none⟩ = some (.slice A p.op.length c) := HV.out.c2
  have cq : w3.drew.cell? ⟨q, 0, none⟩ = some (.string nm) := cq3
  have KS := Lib.hid (fun (W : World) (hb : Below w3.drew.heap.size w3.drew W) => (show W.cell? ⟨r, 2, none⟩ = some (.slice A p.op.length c) ∧ W.cell? ⟨q, 0, none⟩ = some (.string nm) from ⟨(hb.cell (show (⟨r, 2, none⟩ : Addr).block < w3.drew.heap.size from Nat.lt_of_lt_of_le HRN.out HNV.out)).trans c2, (hb.cell (show (⟨q, 0, none⟩ : Addr).block < w3.drew.heap.size from HQL.out)).trans cq⟩))
  have O := Lib.hid (RdP.op0 HV.out HNV.out nm (mk ((B vv).dropWhile fun c => c == 32)))
  clear hb3 R3 HQ2 CF HB2 HB HQ HC V
  go_wp2_with fail
  refine wp_region_noPanic ?_
  refine wp_region_L (fun W => W.cell? ⟨r, 2, none⟩ = some (.slice A p.op.length c) ∧ W.cell? ⟨q, 0, none⟩ = some (.string nm)) 14 (by kernel_rfl) ⟨c2, cq⟩ (fun hHeld => ?_)
  generalize w3.drew = V3 at *
  refine wpAnyL_take (i := 0) (v := ?_) [13, 12] rfl (by kernel_rfl) (by kernel_rfl) (by kernel_rfl) (fun _ _ _ h => h) (by kernel_rfl) (by kernel_rfl) (by kernel_rfl) (Or.inl ⟨by rfl, ?_⟩) (by assumption) ?_
  rotate_left
  · intro w hSw
    try dsimp only at hSw
    go_simp
    first | done | with_reducible rfl
  try simp only [Act.put, List.setIfInBounds_toArray, List.set_cons_zero, List.set_cons_succ]
  refine wpAnyL_take (i := 1) (v := ?_) [11, 4, 3, 2] rfl (by kernel_rfl) (by kernel_rfl) (by kernel_rfl) (fun _ _ _ h => h) (by kernel_rfl) (by kernel_rfl) (by kernel_rfl) (Or.inl ⟨by rfl, ?_⟩) (by assumption) ?_
  rotate_left
  · intro w hSw
    try dsimp only at hSw
    go_simp
    first | done | with_reducible rfl
  try simp only [Act.put, List.setIfInBounds_toArray, List.set_cons_zero, List.set_cons_succ]
  refine wpAnyL_take (i := 2) (v := ?_) [11, 4, 3] rfl (by kernel_rfl) (by kernel_rfl) (by kernel_rfl) (fun _ _ _ h => h) (by kernel_rfl) (by kernel_rfl) (by kernel_rfl) (Or.inl ⟨by rfl, ?_⟩) (by assumption) ?_
  rotate_left
  · intro w hSw
    try dsimp only at hSw
    go_simp
    first | done | with_reducible rfl
  try simp only [Act.put, List.setIfInBounds_toArray, List.set_cons_zero, List.set_cons_succ]
  refine wpAnyL_take (i := 3) (v := ?_) [11, 4] rfl (by kernel_rfl) (by kernel_rfl) (by kernel_rfl) (fun _ _ _ h => h) (by kernel_rfl) (by kernel_rfl) (by kernel_rfl) (Or.inl ⟨by rfl, ?_⟩) (by assumption) ?_
  rotate_left
  · intro w hSw
    try dsimp only at hSw
    go_simp
    first | done | with_reducible rfl
  try simp only [Act.put, List.setIfInBounds_toArray, List.set_cons_zero, List.set_cons_succ]
  refine wpAnyL_take (i := 4) (v := ?_) [11] rfl (by kernel_rfl) (by kernel_rfl) (by kernel_rfl) (fun _ _ _ h => h) (by kernel_rfl) (by kernel_rfl) (by kernel_rfl) (Or.inl ⟨by rfl, ?_⟩) (by assumption) ?_
  rotate_left
  · intro w hSw
    try dsimp only at hSw
    go_simp
    first | done | with_reducible rfl
  try simp only [Act.put, List.setIfInBounds_toArray, List.set_cons_zero, List.set_cons_succ]
  refine wpAnyL_take (i := 5) (v := ?_) [11, 10, 9] rfl (by kernel_rfl) (by kernel_rfl) (by kernel_rfl) (fun _ _ _ h => h) (by kernel_rfl) (by kernel_rfl) (by kernel_rfl) (Or.inl ⟨by rfl, ?_⟩) (by assumption) ?_
  rotate_left
  · intro w hSw
    try dsimp only at hSw
    go_simp
    first | done | with_reducible rfl
  try simp only [Act.put, List.setIfInBounds_toArray, List.set_cons_zero, List.set_cons_succ]
  refine wpAnyL_take (i := 6) (v := ?_) [11, 10, 9, 8, 7] rfl (by kernel_rfl) (by kernel_rfl) (by kernel_rfl) (fun _ _ _ h => h) (by kernel_rfl) (by kernel_rfl) (by kernel_rfl) (Or.inl ⟨by rfl, ?_⟩) (by assumption) ?_
  rotate_left
  · intro w hSw
    try dsimp only at hSw
    go_simp
    first | done | with_reducible rfl
  try simp only [Act.put, List.setIfInBounds_toArray, List.set_cons_zero, List.set_cons_succ]
  refine wpAnyL_one (i := 7) (by kernel_rfl) rfl (fun K hK => ?_)
  go_simp
  refine (trim5_any vv V3).mono ?_
  rintro e w4 ⟨rfl, rfl⟩
  go_wp2_with fail
  refine hK.out _ _ ⟨c2, cq⟩ (fun hHeld => ?_)
  clear hK K
  try simp only [Act.put, List.setIfInBounds_toArray, List.set_cons_zero, List.set_cons_succ]
  refine wpAnyL_one (i := 8) (by kernel_rfl) rfl (fun K hK => ?_)
  go_simp
  refine hK.out _ _ (KS.out _ ((Below.refl _ _).alloc (Nat.le_refl _) _)) (fun hHeld => ?_)
  clear hK K
  try simp only [Act.put, List.setIfInBounds_toArray, List.set_cons_zero, List.set_cons_succ]
  refine wpAnyL_one (i := 9) (by kernel_rfl) rfl (fun K hK => ?_)
  go_simp
  refine hK.out _ _ (KS.out _ ((Below.refl _ _).alloc (Nat.le_refl _) _)) (fun hHeld => ?_)
  clear hK K
  try simp only [Act.put, List.setIfInBounds_toArray, List.set_cons_zero, List.set_cons_succ]
  refine wpAnyL_one (i := 10) (by kernel_rfl) rfl (fun K hK => ?_)
  go_simp
  refine hK.out _ _ (KS.out _ O.out.bel) (fun hHeld => ?_)
  clear hK K
  try simp only [Act.put, List.setIfInBounds_toArray, List.set_cons_zero, List.set_cons_succ]
  refine wpAnyL_one (i := 11) (by kernel_rfl) rfl (fun K hK => ?_)
  refine step_growN _ (by rfl) _ _ 110 110 (by rfl) rdOpX_good (by decide) _ N 167 167 oi (.agg #[.string { data := #[] }, .slice none 0 0]) 40 Tryz.underlying110 Tryz.underlying110 ho ho0 ho1 ho2 rfl _ _ (by rfl) O.out.g _ _ _ _ _ (by rfl) O.out.x O.out.s hm1 hm2 O.out.bs ?_
  intro v5 w5 hG5 hg5 hm5
  have EN := Lib.hid (RdP.opened HV.out HRN.out HNV.out hG5 hg5 hm5)
  obtain ⟨A5, c5, hv5, _⟩ := hG5.own
  rw [List.length_append, List.length_singleton, List.length_map] at hv5
  have KQ := Lib.hid (hg5.block q (Nat.lt_of_lt_of_le HQL.out O.out.bel.size) (fun hh => HQV.out hh.symm))
  clear hG5 hg5 hm5
  refine hK.out _ _ ⟨EN.out.2.2.1, (World.cell?_of_block (a := ⟨q, 0, none⟩) KQ.out).trans (KS.out _ O.out.bel).2⟩ (fun hHeld => ?_)
  clear hK K
  try simp only [Act.put, List.setIfInBounds_toArray, List.set_cons_zero, List.set_cons_succ]
  obtain ⟨en1, en2, en3, en4⟩ := EN.out
  subst hv5
  refine wpAnyL_one (i := 12) (by kernel_rfl) rfl (fun K hK => ?_)
  go_simp
  refine hK.out _ _ ⟨en3, (World.cell?_of_block (a := ⟨q, 0, none⟩) KQ.out).trans (KS.out _ O.out.bel).2⟩ (fun hHeld => ?_)
  clear hK K
  try simp only [Act.put, List.setIfInBounds_toArray, List.set_cons_zero, List.set_cons_succ]
  refine wpAnyL_one (i := 13) (by kernel_rfl) rfl (fun K hK => ?_)
  go_simp
  refine hK.out _ _ ⟨en3, (World.cell?_of_block (a := ⟨q, 0, none⟩) KQ.out).trans (KS.out _ O.out.bel).2⟩ (fun hHeld => ?_)
  clear hK K
  try simp only [Act.put, List.setIfInBounds_toArray, List.set_cons_zero, List.set_cons_succ]
  refine wpAnyL_last (by kernel_rfl) rfl (by kernel_rfl) (fun K hK => ?_)
  go_simp
  refine hK.out _ _ ?_
  clear hK K
  refine NoPanic.normal ?_
  have FIN := Lib.hid (HFV.out.trans en2)
  rw [VL.out] at en1
  have EX := Lib.hid en1
  clear en1 en2 en3 en4
  go_wp2
  go_end0
  exact ⟨rfl, ⟨_, _, by rw [HNM.out]; exact EX.out⟩, FIN.out⟩
end Go.Proofs.YtmlakjemgmeffaaGreatDoor
end

section
set_option maxRecDepth 100000
set_option linter.unusedVariables false
set_option linter.unusedSimpArgs false
namespace Go.Proofs.YtmlakjemgmeffaaGreatDoor
open Go.RowKit
theorem one_fd {w : World} {S : Nat → Prop} {b : Nat} {n v : ByteArray} {T : TypeId} (hb : w.heap[b]? = some (.cells #[.string n, .string v] T (0, 0))) (hS : S b) : rdFds w S [⟨n, v⟩] [.slice (some ⟨b, 0, none⟩) 1 1] :=
  rd_block rdFd_good (S := S) (l := [⟨n, v⟩]) (css := [[.string n, .string v]]) hb hS rfl rfl (fun k hk => by
    simp only [List.length_singleton] at hk
    obtain rfl : k = 0 := by omega
    exact ⟨_, rfl, rfl⟩) (by simp)
end Go.Proofs.YtmlakjemgmeffaaGreatDoor
end
