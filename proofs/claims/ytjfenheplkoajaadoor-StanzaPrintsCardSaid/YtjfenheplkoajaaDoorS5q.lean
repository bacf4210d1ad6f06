/- The contract of the program's begin: a line that is refused. -/
import Derived.Test.YtjfenheplkoajaaDoorS5p
set_option maxRecDepth 100000
set_option linter.unusedVariables false
set_option linter.unusedSimpArgs false
namespace Go.Proofs.YtjfenheplkoajaaDoor
open Go.RowKit
set_option maxHeartbeats 2000000 in
theorem begin5_form (x : ByteArray) (N r k : Nat) (p : PS) (vs vo vl : Value) (m : Int) (w : World) (hR : RdP w N r k p vs vo vl) (hx : x.size ≤ 65536) (hm : w.cell? ⟨0, 0, none⟩ = some (.int .i64 m)) (h : (decide (58 ∈ B x) && fnB (nmOf (B x))) = false) :
    Calls Tryd.prog 60 #[.pointer (some ⟨r, 0, none⟩), .string x] w fun e w' => e = erE 5 ∧ Below w.heap.size w w' := by
  have C := Lib.hid (colon_any x m w hx hm)
  have HX := Lib.hid hx
  have nmB5 : B (mk (nmOf (B x))) = nmOf (B x) := by
    have e : B (mk ((B x).take (nmOf (B x)).length)) = (B x).take (nmOf (B x)).length := by rw [← ext0_mk, B_extract]; simp
    rwa [nm_take] at e
  clear hR hm
  cases h1 : decide (58 ∈ B x)
  · rw [h1] at C
    clear h h1 hx nmB5
    go_enter Tryd.func60, Tryd.ntmps60
    go_wp2_with fail
    refine C.out.mono ?_
    rintro e w1 ⟨rfl, n, rfl⟩
    have hb := belD (Below.refl w.heap.size w) n
    generalize w.drewN n = V at *
    have HB := Lib.hid (hb.alloc hb.size (.cells #[.string (mk (nmOf (B x)))] 9))
    clear hb
    go_wp2
    exact ⟨rfl, rfl, HB.out⟩
  · rw [h1] at C
    rw [h1, Bool.true_and] at h
    have NM := Lib.hid (fun W => name5_any (mk (nmOf (B x))) W (by rw [← B_len]; have := nm_le (B x); rw [B_len] at this; rw [nmB5]; unfold maxLen; omega))
    rw [nmB5, h] at NM
    clear h h1 hx nmB5
    go_enter Tryd.func60, Tryd.ntmps60
    go_wp2_with fail
    refine C.out.mono ?_
    rintro e w1 ⟨rfl, n, rfl⟩
    have hb := belD (Below.refl w.heap.size w) n
    generalize w.drewN n = V at *
    have HB := Lib.hid (hb.alloc hb.size (.cells #[.string (mk (nmOf (B x)))] 9))
    clear hb
    go_wp2_with fail
    refine (NM.out _).mono ?_
    rintro e w2 ⟨rfl, hb2⟩
    have HB2 := Lib.hid (HB.out.trans (hb2.mono HB.out.size))
    clear hb2
    go_wp2
    exact ⟨rfl, rfl, HB2.out⟩
theorem nm_mk (x : ByteArray) : B (mk (nmOf (B x))) = nmOf (B x) := by
  have e : B (mk ((B x).take (nmOf (B x)).length)) = (B x).take (nmOf (B x)).length := by rw [← ext0_mk, B_extract]; simp
  rwa [nm_take] at e
set_option maxHeartbeats 2000000 in
theorem begin5_there (x : ByteArray) (N r k : Nat) (p : PS) (vs vo vl : Value) (m : Int) (w : World) (hR : RdP w N r k p vs vo vl) (hr : r < w.heap.size) (hx : x.size ≤ 65536) (hm : w.cell? ⟨0, 0, none⟩ = some (.int .i64 m)) (h : (decide (58 ∈ B x) && fnB (nmOf (B x))) = true)
    (hh : opHas p.op (mk (nmOf (B x))) = true) :
    Calls Tryd.prog 60 #[.pointer (some ⟨r, 0, none⟩), .string x] w fun e w' => e = erE 7 ∧ Below w.heap.size w w' := by
  have C := Lib.hid (colon_any x m w hx hm)
  rw [Bool.and_eq_true] at h
  obtain ⟨A, c, rfl, hc1, hc2⟩ := hR.own
  have hc2' : c ≤ 9223372036854775807 := hc2
  rw [h.1] at C
  have NM := Lib.hid (fun W => name5_any (mk (nmOf (B x))) W (by rw [← B_len, nm_mk]; have := nm_le (B x); rw [B_len] at this; unfold maxLen; omega))
  rw [nm_mk, h.2] at NM
  have HR := Lib.hid hR
  have HH := Lib.hid hh
  have HRR := Lib.hid hr
  clear hR hm hx h hh hc2 hr
  go_enter Tryd.func60, Tryd.ntmps60
  go_wp2_with fail
  refine C.out.mono ?_
  rintro e w1 ⟨rfl, n, rfl⟩
  have hb := belD (Below.refl w.heap.size w) n
  generalize w.drewN n = V at *
  have HB := Lib.hid (hb.alloc hb.size (.cells #[.string (mk (nmOf (B x)))] 9))
  have hq : (⟨V.heap.size, 0, none⟩ : Addr).block < (V.alloc (.cells #[.string (mk (nmOf (B x)))] 9)).heap.size := by rw [World.size_alloc]; exact Nat.lt_succ_self _
  have hc : (V.alloc (.cells #[.string (mk (nmOf (B x)))] 9)).cell? ⟨V.heap.size, 0, none⟩ = some (.string (mk (nmOf (B x)))) := by simp [go_sem]
  have HQ := Lib.hid hq
  have HC := Lib.hid hc
  clear hb hq hc
  go_wp2_with fail
  refine (NM.out _).mono ?_
  rintro e w2 ⟨rfl, hb2⟩
  have HB2 := Lib.hid (HB.out.trans (hb2.mono HB.out.size))
  have R2 := Lib.hid (HR.out.below HB2.out HRR.out)
  have c2 := R2.out.c2
  have CF := Lib.hid (hasOp_any A p.op.length c p.op vl (mk (nmOf (B x))) ⟨V.heap.size, 0, none⟩ w2 (R2.out.go.read rdOpX_good) (R2.out.gl.read rdStr_good) R2.out.gl.plain (Nat.lt_of_lt_of_le HQ.out hb2.size) ((hb2.cell HQ.out).trans HC.out))
  rw [HH.out] at CF
  clear hb2
  have hmf : ∀ (fn : Fn) (first cap : Array Value) (w : World), (Instr.makeFunc fn first cap).run Tryd.prog w = .ok (.func fn first cap) w := fun _ _ _ _ => rfl
  go_wp2_with fail
  refine CF.out.mono ?_
  rintro e w3 ⟨rfl, hb3⟩
  have HB3 := Lib.hid (HB2.out.trans (hb3.mono HB2.out.size))
  clear hb3 c2
  go_wp2
  exact ⟨rfl, rfl, HB3.out⟩
set_option maxHeartbeats 2000000 in
theorem begin5_many (x : ByteArray) (N r k : Nat) (p : PS) (vs vo vl : Value) (m : Int) (w : World) (hR : RdP w N r k p vs vo vl) (hr : r < w.heap.size) (hx : x.size ≤ 65536) (hm : w.cell? ⟨0, 0, none⟩ = some (.int .i64 m)) (h : (decide (58 ∈ B x) && fnB (nmOf (B x))) = true)
    (hh : opHas p.op (mk (nmOf (B x))) = false) (h8 : p.op.length = 40 ∨ p.dn.length = 200) :
    Calls Tryd.prog 60 #[.pointer (some ⟨r, 0, none⟩), .string x] w fun e w' => e = erE 8 ∧ Below w.heap.size w w' := by
  have C := Lib.hid (colon_any x m w hx hm)
  rw [Bool.and_eq_true] at h
  obtain ⟨A, c, rfl, hc1, hc2⟩ := hR.own
  have hc2' : c ≤ 9223372036854775807 := hc2
  obtain ⟨As, cs, hvs, _, hs2⟩ := hR.gs.own
  have hs2' : cs ≤ 9223372036854775807 := hs2
  have H8 := Lib.hid h8
  rw [h.1] at C
  have NM := Lib.hid (fun W => name5_any (mk (nmOf (B x))) W (by rw [← B_len, nm_mk]; have := nm_le (B x); rw [B_len] at this; unfold maxLen; omega))
  rw [nm_mk, h.2] at NM
  have HR := Lib.hid hR
  have HH := Lib.hid hh
  have HRR := Lib.hid hr
  clear hR hm hx h hh hc2 hr hs2 h8
  go_enter Tryd.func60, Tryd.ntmps60
  go_wp2_with fail
  refine C.out.mono ?_
  rintro e w1 ⟨rfl, n, rfl⟩
  have hb := belD (Below.refl w.heap.size w) n
  generalize w.drewN n = V at *
  have HB := Lib.hid (hb.alloc hb.size (.cells #[.string (mk (nmOf (B x)))] 9))
  have hq : (⟨V.heap.size, 0, none⟩ : Addr).block < (V.alloc (.cells #[.string (mk (nmOf (B x)))] 9)).heap.size := by rw [World.size_alloc]; exact Nat.lt_succ_self _
  have hc : (V.alloc (.cells #[.string (mk (nmOf (B x)))] 9)).cell? ⟨V.heap.size, 0, none⟩ = some (.string (mk (nmOf (B x)))) := by simp [go_sem]
  have HQ := Lib.hid hq
  have HC := Lib.hid hc
  clear hb hq hc
  go_wp2_with fail
  refine (NM.out _).mono ?_
  rintro e w2 ⟨rfl, hb2⟩
  have HB2 := Lib.hid (HB.out.trans (hb2.mono HB.out.size))
  have R2 := Lib.hid (HR.out.below HB2.out HRR.out)
  have c2 := R2.out.c2
  have CF := Lib.hid (hasOp_any A p.op.length c p.op vl (mk (nmOf (B x))) ⟨V.heap.size, 0, none⟩ w2 (R2.out.go.read rdOpX_good) (R2.out.gl.read rdStr_good) R2.out.gl.plain (Nat.lt_of_lt_of_le HQ.out hb2.size) ((hb2.cell HQ.out).trans HC.out))
  rw [HH.out] at CF
  clear hb2
  have hmf : ∀ (fn : Fn) (first cap : Array Value) (w : World), (Instr.makeFunc fn first cap).run Tryd.prog w = .ok (.func fn first cap) w := fun _ _ _ _ => rfl
  go_wp2_with fail
  refine CF.out.mono ?_
  rintro e w3 ⟨rfl, hb3⟩
  have HB3 := Lib.hid (HB2.out.trans (hb3.mono HB2.out.size))
  have R3 := HR.out.below HB3.out HRR.out
  have d2 := R3.c2
  have d1 := R3.c1
  rw [hvs] at d1
  clear hb3 c2 R3
  by_cases h40 : p.op.length = 40
  · have q0 : ((p.op.length : Int) == 40) = true := by rw [h40]; rfl
    clear H8
    go_wp2
    exact ⟨rfl, rfl, HB3.out⟩
  · have q0 : ((p.op.length : Int) == 40) = false := by rw [beq_eq_false_iff_ne]; omega
    have q1 : ((p.dn.length : Int) == 200) = true := by rw [H8.out.resolve_left h40]; rfl
    clear H8 h40
    go_wp2
    exact ⟨rfl, rfl, HB3.out⟩
theorem begin5_no (x : ByteArray) (N r k : Nat) (p : PS) (vs vo vl : Value) (m : Int) (w : World) (hR : RdP w N r k p vs vo vl) (hr : r < w.heap.size) (hx : x.size ≤ 65536) (hm : w.cell? ⟨0, 0, none⟩ = some (.int .i64 m)) (h : begE p (B x) ≠ 0) :
    Calls Tryd.prog 60 #[.pointer (some ⟨r, 0, none⟩), .string x] w fun e w' => e = erE (begE p (B x)) ∧ Below w.heap.size w w' := by
  unfold begE at h ⊢
  by_cases h1 : (decide (58 ∈ B x) && fnB (nmOf (B x))) = true
  · rw [if_pos h1] at h ⊢
    by_cases h2 : (p.op.any fun f => decide (f.1 = mk (nmOf (B x)))) = true
    · rw [if_pos h2] at h ⊢
      exact begin5_there x N r k p vs vo vl m w hR hr hx hm h1 h2
    · rw [if_neg h2] at h ⊢
      by_cases h3 : (decide (p.op.length = 40) || decide (p.dn.length = 200)) = true
      · rw [if_pos h3] at h ⊢
        rw [Bool.or_eq_true, decide_eq_true_iff, decide_eq_true_iff] at h3
        exact begin5_many x N r k p vs vo vl m w hR hr hx hm h1 (Bool.eq_false_iff.2 h2) h3
      · rw [if_neg h3] at h
        exact absurd rfl h
  · rw [if_neg h1] at h ⊢
    exact begin5_form x N r k p vs vo vl m w hR hx hm (Bool.eq_false_iff.2 h1)
end Go.Proofs.YtjfenheplkoajaaDoor
