/- The contract of the program's begin: a line that begins a field. No condition. -/
import Derived.Test.YtjfenheplkoajaaDoorS5t
import Derived.Test.YtjfenheplkoajaaDoorHeldL
import Derived.Test.YtjfenheplkoajaaDoorDeep4
set_option maxRecDepth 100000
set_option linter.unusedVariables false
set_option linter.unusedSimpArgs false
namespace Go.Proofs.YtjfenheplkoajaaDoor
open Go.RowKit
set_option maxHeartbeats 4000000 in
theorem begin5_ok (x : ByteArray) (N r k : Nat) (p : PS) (vs vo vl : Value) (m : Int) (w : World) (hR : RdP w N r k p vs vo vl) (hr : r < N) (hN : N ≤ w.heap.size) (hx : x.size ≤ 65536) (hm : w.cell? ⟨0, 0, none⟩ = some (.int .i64 m)) (h : begE p (B x) = 0) (hol : p.op.length ≤ 1000) :
    Calls Tryd.prog 60 #[.pointer (some ⟨r, 0, none⟩), .string x] w fun e w' => e = .returned (.tuple #[]) ∧ (∃ vo' vl', RdP w' N r k ⟨p.dn, p.op ++ [(mk (nmOf (B x)), [vlOf (B x)])]⟩ vs vo' vl') ∧ Fr N r w w' := by
  have hz := begE_zero h
  have hf : (decide (58 ∈ B x) && fnB (nmOf (B x))) = true := by
    unfold begE at h
    split at h
    · assumption
    · cases h
  have hh : opHas p.op (mk (nmOf (B x))) = false := hz.2.2
  have C := Lib.hid (colon_any x m w hx hm)
  rw [Bool.and_eq_true] at hf
  obtain ⟨A, c, rfl, hc1, hc2⟩ := hR.own
  have hc2' : c ≤ 9223372036854775807 := hc2
  obtain ⟨As, cs, hvs, _, hs2⟩ := hR.gs.own
  have hs2' : cs ≤ 9223372036854775807 := hs2
  rw [hf.1] at C
  have NM := Lib.hid (fun W => name5_any (mk (nmOf (B x))) W (by rw [← B_len, nm_mk]; have := nm_le (B x); rw [B_len] at this; unfold maxLen; omega))
  rw [nm_mk, hf.2] at NM
  have HR := Lib.hid hR
  have HH := Lib.hid hh
  have HRN := Lib.hid hr
  have HN := Lib.hid hN
  have HRR := Lib.hid (show r < w.heap.size by omega)
  have q0 : ((p.op.length : Int) == 40) = false := by rw [beq_eq_false_iff_ne]; have := hz.1; omega
  have q1 : ((p.dn.length : Int) == 200) = false := by rw [beq_eq_false_iff_ne]; have := hz.2.1; omega
  have hm1 : (p.op.map (Sum.inl (β := ByteArray × Value))).length + [(Sum.inr (mk (nmOf (B x)), Value.slice none 0 0) : Opn ⊕ (ByteArray × Value))].length ≤ maxLen := by rw [List.length_map, List.length_singleton]; unfold maxLen; omega
  have hm2 : ((p.op.map (Sum.inl (β := ByteArray × Value))).length + [(Sum.inr (mk (nmOf (B x)), Value.slice none 0 0) : Opn ⊕ (ByteArray × Value))].length) * 40 ≤ 140737488355328 := by rw [List.length_map, List.length_singleton]; omega
  have VL := Lib.hid (show B (mk ((B (mk ((B x).drop ((nmOf (B x)).length + 1)))).dropWhile fun c => c == 32)) = vlOf (B x) by
    have e1 : B (mk ((B x).drop ((nmOf (B x)).length + 1))) = (B x).drop ((nmOf (B x)).length + 1) := B_mk fun c hc => B_lt x c (List.mem_of_mem_drop hc)
    rw [e1]
    unfold vlOf
    exact B_mk fun c hc => B_lt x c (List.mem_of_mem_drop ((List.dropWhile_sublist _).subset hc)))
  obtain ⟨oi, ho, ho0, ho1, ho2⟩ := info_parts opn_info
  clear hR hm hx h hf hh hc2 hs2 hz hol hr hN
  go_enter Tryd.func60, Tryd.ntmps60
  go_wp2_with fail
  refine C.out.mono ?_
  rintro e w1 ⟨rfl, n, rfl⟩
  have hb := belD (Below.refl w.heap.size w) n
  have hvz : (w.drewN n).heap.size = w.heap.size := rfl
  generalize w.drewN n = V at *
  generalize hnm : mk (nmOf (B x)) = nm at *
  have HNM := Lib.hid hnm
  clear hnm
  generalize mk ((B x).drop ((nmOf (B x)).length + 1)) = vv at *
  have HB := Lib.hid (hb.alloc hb.size (.cells #[.string nm] 9))
  have hq : (⟨V.heap.size, 0, none⟩ : Addr).block < (V.alloc (.cells #[.string nm] 9)).heap.size := by rw [World.size_alloc]; exact Nat.lt_succ_self _
  have hc : (V.alloc (.cells #[.string nm] 9)).cell? ⟨V.heap.size, 0, none⟩ = some (.string nm) := by simp [go_sem]
  have HQ := Lib.hid hq
  have HC := Lib.hid hc
  obtain ⟨q, hqq⟩ : ∃ q, q = V.heap.size := ⟨_, rfl⟩
  rw [← hqq] at HQ HC hvz
  have HQW := Lib.hid hvz
  clear hb hq hc hvz
  go_wp2_with fail
  refine (NM.out _).mono ?_
  rintro e w2 ⟨rfl, hb2⟩
  rw [← hqq]
  have HB2 := Lib.hid (HB.out.trans (hb2.mono HB.out.size))
  have R2 := Lib.hid (HR.out.below HB2.out HRR.out)
  have c2 := R2.out.c2
  have HQ2 := Lib.hid (And.intro (Nat.lt_of_lt_of_le HQ.out hb2.size) ((hb2.cell HQ.out).trans HC.out))
  have cq := HQ2.out.2
  have CF := Lib.hid (hasOp_any A p.op.length c p.op vl nm ⟨q, 0, none⟩ w2 (R2.out.go.read rdOpX_good) (R2.out.gl.read rdStr_good) R2.out.gl.plain HQ2.out.1 HQ2.out.2)
  rw [HH.out] at CF
  clear hb2 hqq
  have hmf : ∀ (fn : Fn) (first cap : Array Value) (w : World), (Instr.makeFunc fn first cap).run Tryd.prog w = .ok (.func fn first cap) w := fun _ _ _ _ => rfl
  go_wp2_with fail
  refine CF.out.mono ?_
  rintro e w3 ⟨rfl, hb3⟩
  have HB3 := Lib.hid (HB2.out.trans (hb3.mono HB2.out.size))
  have R3 := HR.out.below HB3.out HRR.out
  have d2 := R3.c2
  have d1 := R3.c1
  rw [hvs] at d1
  have cq3 := (hb3.cell HQ2.out.1).trans cq
  have HV := Lib.hid (show RdP w3.drew N r k p vs (.slice A p.op.length c) vl from R3.below (belD (Below.refl _ _) 1 : Below w3.heap.size w3 w3.drew) (Nat.lt_of_lt_of_le HRR.out HB3.out.size))
  have HQL := Lib.hid (show q < w3.drew.heap.size from Nat.lt_of_lt_of_le HQ2.out.1 hb3.size)
  have HNV := Lib.hid (show N ≤ w3.drew.heap.size from Nat.le_trans HN.out HB3.out.size)
  have HFV := Lib.hid (show Fr N r w w3.drew from Fr.of (N := N) (r := r) (belD HB3.out 1 |>.mono HN.out) (Nat.le_of_lt HRN.out))
  have HQV := Lib.hid (show (Value.slice A p.op.length c).ownBlock ≠ some q from fun e => by
    have h1 := (HR.out.go.lt q e).2
    have h2 := HQW.out
    omega)
  clear c2 cq
  have c2 : w3.drew.cell? ⟨r, 2, none⟩ = some (.slice A p.op.length c) := HV.out.c2
  have cq : w3.drew.cell? ⟨q, 0, none⟩ = some (.string nm) := cq3
  have KS := Lib.hid (fun (W : World) (hb : Below w3.drew.heap.size w3.drew W) => (show W.cell? ⟨r, 2, none⟩ = some (.slice A p.op.length c) ∧ W.cell? ⟨q, 0, none⟩ = some (.string nm) from ⟨(hb.cell (show (⟨r, 2, none⟩ : Addr).block < w3.drew.heap.size from Nat.lt_of_lt_of_le HRN.out HNV.out)).trans c2, (hb.cell (show (⟨q, 0, none⟩ : Addr).block < w3.drew.heap.size from HQL.out)).trans cq⟩))
  have O := Lib.hid (RdP.op0 HV.out HNV.out nm (mk ((B vv).dropWhile fun c => c == 32)))
  clear hb3 R3 HQ2 CF HB2 HB HQ HC V
  go_wp2_with fail
  refine wp_region_noPanic ?_
  refine wp_region_L (fun W => W.cell? ⟨r, 2, none⟩ = some (.slice A p.op.length c) ∧ W.cell? ⟨q, 0, none⟩ = some (.string nm)) 14 (by kernel_rfl) ⟨c2, cq⟩ (fun hHeld => ?_)
  generalize w3.drew = V3 at *
  refine wpAnyL_take (i := 0) (v := ?_) [13, 12] rfl (by kernel_rfl) (by kernel_rfl) (by kernel_rfl) (fun _ _ _ h => h) (by kernel_rfl) (by kernel_rfl) (by kernel_rfl) (Or.inl ⟨by rfl, ?_⟩) (by assumption) ?_
  rotate_left
  · intro w hSw
    try dsimp only at hSw
    go_simp
    first | done | with_reducible rfl
  try simp only [Act.put, List.setIfInBounds_toArray, List.set_cons_zero, List.set_cons_succ]
  refine wpAnyL_take (i := 1) (v := ?_) [11, 4, 3, 2] rfl (by kernel_rfl) (by kernel_rfl) (by kernel_rfl) (fun _ _ _ h => h) (by kernel_rfl) (by kernel_rfl) (by kernel_rfl) (Or.inl ⟨by rfl, ?_⟩) (by assumption) ?_
  rotate_left
  · intro w hSw
    try dsimp only at hSw
    go_simp
    first | done | with_reducible rfl
  try simp only [Act.put, List.setIfInBounds_toArray, List.set_cons_zero, List.set_cons_succ]
  refine wpAnyL_take (i := 2) (v := ?_) [11, 4, 3] rfl (by kernel_rfl) (by kernel_rfl) (by kernel_rfl) (fun _ _ _ h => h) (by kernel_rfl) (by kernel_rfl) (by kernel_rfl) (Or.inl ⟨by rfl, ?_⟩) (by assumption) ?_
  rotate_left
  · intro w hSw
    try dsimp only at hSw
    go_simp
    first | done | with_reducible rfl
  try simp only [Act.put, List.setIfInBounds_toArray, List.set_cons_zero, List.set_cons_succ]
  refine wpAnyL_take (i := 3) (v := ?_) [11, 4] rfl (by kernel_rfl) (by kernel_rfl) (by kernel_rfl) (fun _ _ _ h => h) (by kernel_rfl) (by kernel_rfl) (by kernel_rfl) (Or.inl ⟨by rfl, ?_⟩) (by assumption) ?_
  rotate_left
  · intro w hSw
    try dsimp only at hSw
    go_simp
    first | done | with_reducible rfl
  try simp only [Act.put, List.setIfInBounds_toArray, List.set_cons_zero, List.set_cons_succ]
  refine wpAnyL_take (i := 4) (v := ?_) [11] rfl (by kernel_rfl) (by kernel_rfl) (by kernel_rfl) (fun _ _ _ h => h) (by kernel_rfl) (by kernel_rfl) (by kernel_rfl) (Or.inl ⟨by rfl, ?_⟩) (by assumption) ?_
  rotate_left
  · intro w hSw
    try dsimp only at hSw
    go_simp
    first | done | with_reducible rfl
  try simp only [Act.put, List.setIfInBounds_toArray, List.set_cons_zero, List.set_cons_succ]
  refine wpAnyL_take (i := 5) (v := ?_) [11, 10, 9] rfl (by kernel_rfl) (by kernel_rfl) (by kernel_rfl) (fun _ _ _ h => h) (by kernel_rfl) (by kernel_rfl) (by kernel_rfl) (Or.inl ⟨by rfl, ?_⟩) (by assumption) ?_
  rotate_left
  · intro w hSw
    try dsimp only at hSw
    go_simp
    first | done | with_reducible rfl
  try simp only [Act.put, List.setIfInBounds_toArray, List.set_cons_zero, List.set_cons_succ]
  refine wpAnyL_take (i := 6) (v := ?_) [11, 10, 9, 8, 7] rfl (by kernel_rfl) (by kernel_rfl) (by kernel_rfl) (fun _ _ _ h => h) (by kernel_rfl) (by kernel_rfl) (by kernel_rfl) (Or.inl ⟨by rfl, ?_⟩) (by assumption) ?_
  rotate_left
  · intro w hSw
    try dsimp only at hSw
    go_simp
    first | done | with_reducible rfl
  try simp only [Act.put, List.setIfInBounds_toArray, List.set_cons_zero, List.set_cons_succ]
  refine wpAnyL_one (i := 7) (by kernel_rfl) rfl (fun K hK => ?_)
  go_simp
  refine (trim5_any vv V3).mono ?_
  rintro e w4 ⟨rfl, rfl⟩
  go_wp2_with fail
  refine hK.out _ _ ⟨c2, cq⟩ (fun hHeld => ?_)
  clear hK K
  try simp only [Act.put, List.setIfInBounds_toArray, List.set_cons_zero, List.set_cons_succ]
  refine wpAnyL_one (i := 8) (by kernel_rfl) rfl (fun K hK => ?_)
  go_simp
  refine hK.out _ _ (KS.out _ ((Below.refl _ _).alloc (Nat.le_refl _) _)) (fun hHeld => ?_)
  clear hK K
  try simp only [Act.put, List.setIfInBounds_toArray, List.set_cons_zero, List.set_cons_succ]
  refine wpAnyL_one (i := 9) (by kernel_rfl) rfl (fun K hK => ?_)
  go_simp
  refine hK.out _ _ (KS.out _ ((Below.refl _ _).alloc (Nat.le_refl _) _)) (fun hHeld => ?_)
  clear hK K
  try simp only [Act.put, List.setIfInBounds_toArray, List.set_cons_zero, List.set_cons_succ]
  refine wpAnyL_one (i := 10) (by kernel_rfl) rfl (fun K hK => ?_)
  go_simp
  refine hK.out _ _ (KS.out _ O.out.bel) (fun hHeld => ?_)
  clear hK K
  try simp only [Act.put, List.setIfInBounds_toArray, List.set_cons_zero, List.set_cons_succ]
  refine wpAnyL_one (i := 11) (by kernel_rfl) rfl (fun K hK => ?_)
  refine step_growN _ (by rfl) _ _ 56 56 (by rfl) rdOpX_good (by decide) _ N 92 92 oi (.agg #[.string { data := #[] }, .slice none 0 0]) 40 Tryd.underlying56 Tryd.underlying56 ho ho0 ho1 ho2 rfl _ _ (by rfl) O.out.g _ _ _ _ _ (by rfl) O.out.x O.out.s hm1 hm2 O.out.bs ?_
  intro v5 w5 hG5 hg5 hm5
  have EN := Lib.hid (RdP.opened HV.out HRN.out HNV.out hG5 hg5 hm5)
  obtain ⟨A5, c5, hv5, _⟩ := hG5.own
  rw [List.length_append, List.length_singleton, List.length_map] at hv5
  have KQ := Lib.hid (hg5.block q (Nat.lt_of_lt_of_le HQL.out O.out.bel.size) (fun hh => HQV.out hh.symm))
  clear hG5 hg5 hm5
  refine hK.out _ _ ⟨EN.out.2.2.1, (World.cell?_of_block (a := ⟨q, 0, none⟩) KQ.out).trans (KS.out _ O.out.bel).2⟩ (fun hHeld => ?_)
  clear hK K
  try simp only [Act.put, List.setIfInBounds_toArray, List.set_cons_zero, List.set_cons_succ]
  obtain ⟨en1, en2, en3, en4⟩ := EN.out
  subst hv5
  refine wpAnyL_one (i := 12) (by kernel_rfl) rfl (fun K hK => ?_)
  go_simp
  refine hK.out _ _ ⟨en3, (World.cell?_of_block (a := ⟨q, 0, none⟩) KQ.out).trans (KS.out _ O.out.bel).2⟩ (fun hHeld => ?_)
  clear hK K
  try simp only [Act.put, List.setIfInBounds_toArray, List.set_cons_zero, List.set_cons_succ]
  refine wpAnyL_one (i := 13) (by kernel_rfl) rfl (fun K hK => ?_)
  go_simp
  refine hK.out _ _ ⟨en3, (World.cell?_of_block (a := ⟨q, 0, none⟩) KQ.out).trans (KS.out _ O.out.bel).2⟩ (fun hHeld => ?_)
  clear hK K
  try simp only [Act.put, List.setIfInBounds_toArray, List.set_cons_zero, List.set_cons_succ]
  refine wpAnyL_last (by kernel_rfl) rfl (by kernel_rfl) (fun K hK => ?_)
  go_simp
  refine hK.out _ _ ?_
  clear hK K
  refine NoPanic.normal ?_
  have FIN := Lib.hid (HFV.out.trans en2)
  rw [VL.out] at en1
  have EX := Lib.hid en1
  clear en1 en2 en3 en4
  go_wp2
  go_end0
  exact ⟨rfl, ⟨_, _, by rw [HNM.out]; exact EX.out⟩, FIN.out⟩
end Go.Proofs.YtjfenheplkoajaaDoor
