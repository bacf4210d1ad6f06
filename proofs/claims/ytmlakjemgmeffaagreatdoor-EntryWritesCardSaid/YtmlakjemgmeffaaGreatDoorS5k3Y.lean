/- The contract of the program's rightValue. Condition: the library's MaxLen holds a number. -/
import Derived.Test.YtmlakjemgmeffaaGreatDoorS5k2Y
set_option maxRecDepth 100000
set_option linter.unusedVariables false
set_option linter.unusedSimpArgs false
namespace Go.Proofs.YtmlakjemgmeffaaGreatDoor
open Go.RowKit
theorem hp5_is (l : List UInt8) : Lib.hasPrefix l [32] = hd32 (l.map UInt8.toNat) := by
  cases l with
  | nil => rfl
  | cons c l =>
    show (((32 : UInt8) == c) && List.isPrefixOf [] l) = decide (c.toNat = 32)
    rw [show List.isPrefixOf ([] : List UInt8) l = true by cases l <;> rfl, Bool.and_true]
    by_cases h : (32 : UInt8) = c
    · subst h; rfl
    · have h2 : ¬ c.toNat = 32 := fun e => h (UInt8.toNat_inj.1 (by rw [e]; rfl))
      rw [decide_eq_false h2, beq_eq_false_iff_ne]; exact h
theorem hp5_any (s : ByteArray) (w : World) : Calls Tryz.prog 181 #[.string s, .string { data := #[32] }] w fun e w' => e = .returned (.bool (hd32 (B s))) ∧ w' = w := by
  refine (Tryz.strings_HasPrefix s { data := #[32] } w).mono ?_
  rintro e w' ⟨rfl, rfl⟩
  refine ⟨?_, rfl⟩
  show Ending.returned (.bool (Lib.hasPrefix s.data.toList [32])) = _
  rw [hp5_is]; rfl
set_option maxHeartbeats 4000000 in
theorem rvalue5_any (v : ByteArray) (w : World) (E : Env5 w) :
    Calls Tryz.prog 142 #[.string v] w fun e w' => e = .returned (.bool (decide (v.size ≤ 60000) && valB (B v))) ∧ Below w.heap.size w w' := by
  by_cases hl : 60000 < v.size
  · have q0 : (60000 : Int) < (v.size : Int) := by omega
    rw [decide_eq_false (show ¬ v.size ≤ 60000 by omega), Bool.false_and]
    clear hl E
    go_enter Tryz.func142, Tryz.ntmps142
    go_wp2
    go_ret
    exact ⟨rfl, Below.refl _ _⟩
  · have q0 : ¬ (60000 : Int) < (v.size : Int) := by omega
    rw [decide_eq_true (show v.size ≤ 60000 by omega), Bool.true_and]
    obtain ⟨m, hm⟩ := E
    have SP := Lib.hid (split5_any v m w (by omega) hm)
    have VB := Lib.hid (show valB (B v) = valL (cutBy 10 (B v)) from rfl)
    have HLL := Lib.hid (show (cutBy 10 (B v)).length ≤ 60001 by rw [cutBy_len]; have := List.count_le_length (a := 10) (l := B v); rw [B_len] at this; omega)
    have HLB := Lib.hid (fun l (hl : l ∈ cutBy 10 (B v)) => (show l.length ≤ 60000 ∧ B (mk l) = l from ⟨by have := cutBy_mem_len hl; rw [B_len] at this; omega, B_mk fun c hc => B_lt v c (cutBy_mem hl c hc).1⟩))
    have HL0 := Lib.hid (show 0 < (cutBy 10 (B v)).length by rw [cutBy_len]; omega)
    rw [VB.out]
    clear VB
    generalize cutBy 10 (B v) = L at *
    clear hl hm
    go_enter Tryz.func142, Tryz.ntmps142
    go_wp2_with fail
    refine SP.out.mono ?_
    rintro e w1 ⟨rfl, rfl⟩
    obtain ⟨W1, hW1⟩ : ∃ W1, W1 = w.alloc (.cells ((L.map mk).map Value.string).toArray 9) := ⟨_, rfl⟩
    have B1 := Lib.hid (show Below w.heap.size w W1 by rw [hW1]; exact (Below.refl _ w).alloc (Nat.le_refl _) _)
    have Z1 := Lib.hid (show W1.heap.size = w.heap.size + 1 by rw [hW1, World.size_alloc])
    have LC := Lib.hid (fun (k : Nat) (hk : k < L.length) => (show W1.cell? ⟨w.heap.size, k, none⟩ = some (.string (mk L[k])) by
      rw [hW1]
      have h := cells_new w ((L.map mk).map Value.string).toArray 9 k (.string (mk L[k])) (by simp [hk])
      have ea : (⟨w.heap.size, 0, none⟩ : Addr).add k = ⟨w.heap.size, k, none⟩ := by unfold Addr.add; split <;> simp_all
      rw [ea] at h; exact h))
    rw [← hW1]
    clear hW1 SP
    go_wp2
    go_loopw [11] (fun i wr => ∃ k : Nat, k ≤ L.length ∧ i = .int .i64 k ∧ (∀ j (hj : j < L.length), j < k → lowB L[j] = false ∧ (0 < j → L[j] ≠ [])) ∧ (∀ h0 : 0 < L.length, 0 < k → hd32 L[0] = false) ∧ Below W1.heap.size W1 wr) (fun i _ => L.length - (intOf i).toNat)
    case atStart => exact ⟨0, Nat.zero_le _, rfl, fun j _ hj => absurd hj (Nat.not_lt_zero _), fun _ h => absurd h (Nat.lt_irrefl _), Below.refl _ _⟩
    case round =>
      obtain ⟨k, hk, rfl, hall, hhd, hbel⟩ := hrel
      have HA := Lib.hid hall
      have HH := Lib.hid hhd
      have HB := Lib.hid hbel
      clear hall hhd
      by_cases hlt : k < L.length
      · have lcell : wr.cell? ⟨w.heap.size, k, none⟩ = some (.string (mk L[k])) := (hbel.cell (show (⟨w.heap.size, k, none⟩ : Addr).block < W1.heap.size by rw [Z1.out]; exact Nat.lt_succ_self _)).trans (LC.out k hlt)
        have hlb := HLB.out L[k] (List.getElem_mem hlt)
        have LW := Lib.hid (low5_any (mk L[k]) wr (by rw [← B_len, hlb.2]; unfold maxLen; omega))
        rw [hlb.2] at LW
        have HPA := Lib.hid (fun w => hp5_any (mk L[k]) w)
        rw [hlb.2] at HPA
        have em := emp_eq (mk L[k])
        rw [hlb.2] at em
        have NO := Lib.hid (fun h => valL_no (L := L) (k := k) hlt h)
        have SZ := Lib.hid HB.out.size
        have FB := Lib.hid (fun (w2 : World) (hb2 : Below wr.heap.size wr w2) => (show Below w.heap.size w w2 from (B1.out.trans (HB.out.mono B1.out.size)).trans (hb2.mono (Nat.le_trans B1.out.size HB.out.size))))
        clear hlb hbel
        by_cases hlow : lowB L[k] = true
        · have X := Lib.hid (NO.out (.inl hlow))
          rw [hlow] at LW
          clear hlow
          go_wp2_with fail
          refine LW.out.mono ?_
          rintro e w2 ⟨rfl, hb2⟩
          have HB2 := Lib.hid (FB.out _ hb2)
          clear hb2
          go_wp2
          go_ret
          exact ⟨by rw [X.out]; try rfl, HB2.out⟩
        · have hlow := Bool.eq_false_iff.2 hlow
          rw [hlow] at LW
          have HLOW := Lib.hid hlow
          clear hlow
          by_cases hk0 : k = 0
          · subst hk0
            cases hh : hd32 L[0]
            · rw [hh] at HPA
              have HHD := Lib.hid hh
              clear hh em
              go_wp2_with fail
              refine LW.out.mono ?_
              rintro e w2 ⟨rfl, hb2⟩
              have HB2 := Lib.hid (HB.out.trans (hb2.mono SZ.out))
              clear hb2
              go_wp2_with fail
              refine (HPA.out _).mono ?_
              rintro e w3 ⟨rfl, rfl⟩
              go_wp2
              go_roundw
              case rel => exact ⟨1, by omega, by go_num, fun j hj h => by
                obtain rfl : j = 0 := by omega
                exact ⟨HLOW.out, fun h => absurd h (Nat.lt_irrefl _)⟩, fun _ _ => HHD.out, HB2.out⟩
              case measure => simp [intOf]; omega
            · have X := Lib.hid (valL_hd hlt hh)
              rw [hh] at HPA
              clear hh em
              go_wp2_with fail
              refine LW.out.mono ?_
              rintro e w2 ⟨rfl, hb2⟩
              have HB2 := Lib.hid (FB.out _ hb2)
              clear hb2
              go_wp2_with fail
              refine (HPA.out _).mono ?_
              rintro e w3 ⟨rfl, rfl⟩
              go_wp2
              go_ret
              exact ⟨by rw [X.out]; try rfl, HB2.out⟩
          · have p0 : ((k : Int) == 0) = false := by rw [beq_eq_false_iff_ne]; omega
            have p1 : (0 : Int) < (k : Int) := by omega
            by_cases he : L[k] = []
            · have X := Lib.hid (NO.out (.inr ⟨by omega, he⟩))
              rw [decide_eq_true he] at em
              clear he
              go_wp2_with fail
              refine LW.out.mono ?_
              rintro e w2 ⟨rfl, hb2⟩
              have HB2 := Lib.hid (FB.out _ hb2)
              clear hb2
              go_wp2
              go_ret
              exact ⟨by rw [X.out]; try rfl, HB2.out⟩
            · have HNE := Lib.hid he
              rw [decide_eq_false he] at em
              have HK0 := Lib.hid hk0
              have hbd := HLL.out
              clear he hk0
              go_wp2_with fail
              refine LW.out.mono ?_
              rintro e w2 ⟨rfl, hb2⟩
              have HB2 := Lib.hid (HB.out.trans (hb2.mono SZ.out))
              clear hb2
              go_wp2
              go_roundw
              case rel => exact ⟨k + 1, by omega, by go_num, fun j hj h => by
                by_cases hjk : j = k
                · subst hjk; exact ⟨HLOW.out, fun _ => HNE.out⟩
                · exact HA.out j hj (by omega), fun h0 _ => HH.out h0 (by have := HK0.out; omega), HB2.out⟩
              case measure => simp [intOf]; omega
      · obtain rfl : k = L.length := by omega
        have X := Lib.hid (show valL L = true by
          rw [valL_yes HL0.out (fun k hk => HA.out k hk hk), HH.out HL0.out HL0.out]; rfl)
        have FB := Lib.hid (B1.out.trans (HB.out.mono B1.out.size))
        clear hbel
        go_wp2
        go_ret
        exact ⟨by rw [X.out]; try rfl, FB.out⟩
end Go.Proofs.YtmlakjemgmeffaaGreatDoor
