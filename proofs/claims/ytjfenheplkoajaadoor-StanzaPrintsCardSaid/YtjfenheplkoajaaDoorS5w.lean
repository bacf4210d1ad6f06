/- The contract of the program's read: a line that is right. No condition. -/
import Derived.Test.YtjfenheplkoajaaDoorS5v
set_option maxRecDepth 100000
set_option linter.unusedVariables false
set_option linter.unusedSimpArgs false
namespace Go.Proofs.YtjfenheplkoajaaDoor
open Go.RowKit
/-- No open field has more than k lines, none of them is longer than a text may be. -/
def Lim (op : List Opn) (k : Nat) : Prop := ∀ f ∈ op, f.2.length ≤ k ∧ ∀ x ∈ f.2, x.length ≤ 65536
theorem lim_nil (k : Nat) : Lim [] k := fun f hf => by simp at hf
theorem lim_last {op : List Opn} {k : Nat} (h : Lim op k) : (lastLn op).length ≤ k := by
  rcases List.eq_nil_or_concat op with rfl | ⟨i, f, rfl⟩
  · exact Nat.zero_le _
  · rw [List.concat_eq_append] at h ⊢
    rw [lastLn_snoc]
    exact (h f (by simp)).1
theorem lim_line {p : PS} {l : List Nat} {k : Nat} (h : Lim p.op k) (hl : l.length ≤ 65536) : Lim (lnS p l).op (k + 1) := by
  cases l with
  | nil => show Lim p.fin.op _; rw [fin_closed]; exact lim_nil _
  | cons c r =>
    unfold lnS
    simp only
    split
    · rcases List.eq_nil_or_concat p.op with e | ⟨i, f, e⟩
      · rw [e]; exact lim_nil _
      · rw [List.concat_eq_append] at e
        rw [e, onLast_snoc]
        intro g hg
        rw [List.mem_append, List.mem_singleton] at hg
        rcases hg with hg | rfl
        · obtain ⟨a, b⟩ := h g (by rw [e]; simp [hg])
          exact ⟨by omega, b⟩
        · obtain ⟨a, b⟩ := h f (by rw [e]; simp)
          refine ⟨by rw [List.length_append, List.length_singleton]; omega, fun x hx => ?_⟩
          rw [List.mem_append, List.mem_singleton] at hx
          rcases hx with hx | rfl
          · exact b x hx
          · rw [List.length_cons] at hl; omega
    · intro g hg
      rw [List.mem_append, List.mem_singleton] at hg
      rcases hg with hg | rfl
      · obtain ⟨a, b⟩ := h g hg
        exact ⟨by omega, b⟩
      · refine ⟨by simp, fun x hx => ?_⟩
        rw [List.mem_singleton] at hx
        subst hx
        unfold vlOf
        have h1 := (List.dropWhile_sublist (fun c => c == 32) (l := (c :: r).drop ((nmOf (c :: r)).length + 1))).length_le
        rw [List.length_drop] at h1
        omega
set_option maxHeartbeats 2000000 in
theorem read5_ok (x : ByteArray) (N r k : Nat) (p : PS) (vs vo vl : Value) (m : Int) (w : World) (hR : RdP w N r k p vs vo vl) (hr : r < N) (hN : N ≤ w.heap.size) (hx : x.size ≤ 65536) (hm : w.cell? ⟨0, 0, none⟩ = some (.int .i64 m)) (h : lnE p (B x) = 0) (hf : Fit p) (hl : Lim p.op 100000) :
    Calls Tryd.prog 43 #[.pointer (some ⟨r, 0, none⟩), .string x] w fun e w' => e = .returned (.tuple #[]) ∧ (∃ vs' vo' vl', RdP w' N r k (lnS p (B x)) vs' vo' vl') ∧ Fr N r w w' := by
  have LW := Lib.hid (low5_any x w (by unfold maxLen; omega))
  have hrw : r < w.heap.size := by omega
  have HRW := Lib.hid hrw
  unfold lnE at h
  by_cases h1 : lowB (B x) = true
  · rw [if_pos h1] at h; cases h
  rw [if_neg h1] at h
  rw [Bool.eq_false_iff.2 h1] at LW
  clear h1
  have HR := Lib.hid hR
  have HRN := Lib.hid hr
  have HN := Lib.hid hN
  have HX := Lib.hid hx
  have HF := Lib.hid hf
  have HL := Lib.hid hl
  have em := emp_eq x
  cases hB : B x with
  | nil =>
    rw [decide_eq_true hB] at em
    by_cases h0 : p.op = []
    · have E := Lib.hid (show lnS p [] = p from fin_of h0)
      have H0 := Lib.hid h0
      clear hR hr hN hx hf hl hm h hB h0 hrw
      go_enter Tryd.func43, Tryd.ntmps43
      go_wp2_with fail
      refine LW.out.mono ?_
      rintro e w1 ⟨rfl, hb⟩
      have R1 := Lib.hid (HR.out.below hb HRW.out)
      have HB := Lib.hid hb
      clear hb
      go_wp2_with fail
      refine (end5_none N r k p vs vo vl _ R1.out H0.out).mono ?_
      rintro e w2 ⟨rfl, rfl⟩
      go_wp2
      go_end0
      exact ⟨rfl, ⟨_, _, _, by rw [E.out]; exact R1.out⟩, Fr.of (HB.out.mono HN.out) (Nat.le_of_lt HRN.out)⟩
    · have H0 := Lib.hid h0
      clear hR hr hN hx hf hl hm h hB h0 hrw
      go_enter Tryd.func43, Tryd.ntmps43
      go_wp2_with fail
      refine LW.out.mono ?_
      rintro e w1 ⟨rfl, hb⟩
      have R1 := Lib.hid (HR.out.below hb HRW.out)
      have HB := Lib.hid hb
      clear hb
      go_wp2_with fail
      refine (end5_ok N r k p vs vo vl _ R1.out HRN.out (Nat.le_trans HN.out HB.out.size) H0.out (by have := HF.out.f; omega) (by have := HF.out.d; omega) (fun f hf => ⟨by have := (HL.out f hf).1; omega, fun x hx => by have := (HL.out f hf).2 x hx; omega⟩)).mono ?_
      rintro e w2 ⟨rfl, hex, hfr⟩
      have EX := Lib.hid hex
      have FR := Lib.hid hfr
      clear hex hfr
      go_wp2
      go_end0
      exact ⟨rfl, EX.out, (Fr.of (HB.out.mono HN.out) (Nat.le_of_lt HRN.out)).trans FR.out⟩
  | cons c rs =>
    rw [hB] at h
    simp only at h
    rw [decide_eq_false (show ¬ B x = [] by rw [hB]; simp)] at em
    have hs0 : 0 < x.size := by rw [← B_len, hB]; simp
    have hc : x[0].toNat = c := by rw [← B_getD x 0 hs0, hB]; rfl
    have hE : B (x.extract 1 x.size) = rs := by rw [ext1_B, hB]; rfl
    have HM := Lib.hid hm
    have HH := Lib.hid h
    have HBX := Lib.hid hB
    clear hR hr hN hx hf hl hm h hB hrw
    by_cases h32 : c = 32
    · have HG := Lib.hid (show goE p rs = 0 by have := HH.out; rwa [if_pos h32] at this)
      have q0 : ((x[0].toNat : Int) == 32) = true := by rw [hc, h32]; rfl
      have GN := Lib.hid (show p.op ≠ [] ∧ B (x.extract 1 x.size) ≠ [] by
        have := HG.out
        unfold goE at this
        split at this
        · cases this
        · rename_i hh
          rw [Bool.or_eq_true, decide_eq_true_iff, decide_eq_true_iff] at hh
          rw [hE]; exact ⟨fun e => hh (.inl e), fun e => hh (.inr e)⟩)
      have SN := Lib.hid (show lnS p (c :: rs) = ⟨p.dn, onLast (B (x.extract 1 x.size)) p.op⟩ by
        unfold lnS; simp only; rw [if_pos h32, hE])
      clear hc hE h32 HH
      go_enter Tryd.func43, Tryd.ntmps43
      go_wp2_with fail
      refine LW.out.mono ?_
      rintro e w1 ⟨rfl, hb⟩
      have R1 := Lib.hid (HR.out.below hb HRW.out)
      have HB := Lib.hid hb
      clear hb
      go_wp2_with fail
      refine (goOn5_ok (x.extract 1 x.size) N r k p vs vo vl _ R1.out HRN.out (Nat.le_trans HN.out HB.out.size) GN.out.1 GN.out.2 (by have := HF.out.f; omega) (by have := lim_last HL.out; omega)).mono ?_
      rintro e w2 ⟨rfl, hex, hfr⟩
      have EX := Lib.hid hex
      have FR := Lib.hid hfr
      clear hex hfr
      go_wp2
      go_end0
      refine ⟨rfl, ?_, (Fr.of (HB.out.mono HN.out) (Nat.le_of_lt HRN.out)).trans FR.out⟩
      obtain ⟨vl', h⟩ := EX.out
      exact ⟨_, _, _, by rw [SN.out]; exact h⟩
    · have HG := Lib.hid (show begE p (B x) = 0 by have := HH.out; rw [if_neg h32] at this; rw [HBX.out]; exact this)
      have q0 : ((x[0].toNat : Int) == 32) = false := by rw [hc, beq_eq_false_iff_ne]; omega
      have SN := Lib.hid (show lnS p (c :: rs) = ⟨p.dn, p.op ++ [(mk (nmOf (B x)), [vlOf (B x)])]⟩ by
        unfold lnS; simp only; rw [if_neg h32, HBX.out])
      clear hc hE h32 HH
      go_enter Tryd.func43, Tryd.ntmps43
      go_wp2_with fail
      refine LW.out.mono ?_
      rintro e w1 ⟨rfl, hb⟩
      have R1 := Lib.hid (HR.out.below hb HRW.out)
      have HB := Lib.hid hb
      have M1 := Lib.hid ((hb.cell (show (⟨0, 0, none⟩ : Addr).block < w.heap.size from Nat.lt_of_le_of_lt (Nat.zero_le r) HRW.out)).trans HM.out)
      clear hb
      go_wp2_with fail
      refine (begin5_ok x N r k p vs vo vl m _ R1.out HRN.out (Nat.le_trans HN.out HB.out.size) HX.out M1.out HG.out (by have := HF.out.f; omega)).mono ?_
      rintro e w2 ⟨rfl, hex, hfr⟩
      have EX := Lib.hid hex
      have FR := Lib.hid hfr
      clear hex hfr
      go_wp2
      go_end0
      refine ⟨rfl, ?_, (Fr.of (HB.out.mono HN.out) (Nat.le_of_lt HRN.out)).trans FR.out⟩
      obtain ⟨vo', vl', h⟩ := EX.out
      exact ⟨_, _, _, by rw [SN.out]; exact h⟩
end Go.Proofs.YtjfenheplkoajaaDoor
