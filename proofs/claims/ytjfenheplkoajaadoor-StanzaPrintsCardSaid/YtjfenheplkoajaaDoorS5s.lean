/- The contract of the law's own as: stanzas as the document has them. -/
import Derived.Test.YtjfenheplkoajaaDoorS5c
set_option maxRecDepth 100000
set_option linter.unusedVariables false
set_option linter.unusedSimpArgs false
namespace Go.Proofs.YtjfenheplkoajaaDoor
open Go.RowKit
set_option maxHeartbeats 2000000 in
theorem as5_any (A : Option Addr) (n c : Nat) (l : List (List Fd)) (w : World) (h : rdStzs w (lt_ w.heap.size) l [.slice A n c]) (hl : l.length ≤ 100000) :
    Calls Tryd.prog 13 #[.slice A n c] w fun e w' => (∃ A n c, e = .returned (.slice A n c) ∧ rdStzs w' (lt_ w'.heap.size) l [.slice A n c]) ∧ Below w.heap.size w w' := by
  obtain ⟨i0, hi, hz0, hz1, hz2⟩ := info_parts fds_info
  obtain ⟨rfl, hnc, hcm, _⟩ := rdStzs_at h
  have hcm' : c ≤ 9223372036854775807 := hcm
  have H := Lib.hid h
  have HL := Lib.hid hl
  clear h hcm hl
  go_enter Tryd.func13, Tryd.ntmps13
  go_wp2
  go_loopw [3, 4] (fun v i wr => ∃ k : Nat, k ≤ l.length ∧ i = .int .i64 k ∧ Grow rdFds 1 (lt_ w.heap.size) wr w.heap.size 38 v (l.take k) ∧ Below w.heap.size w wr) (fun _ i _ => l.length - (intOf i).toNat)
  case atStart => exact ⟨0, Nat.zero_le _, rfl, Grow.nil _ _ _ _, Below.refl _ _⟩
  case round =>
    obtain ⟨k, hk, rfl, hG, hbel⟩ := hrel
    obtain ⟨A2, c2, hv, _, hcm2⟩ := hG.own
    rw [show (l.take k).length = k by rw [List.length_take]; omega] at hv
    have hcm2' : c2 ≤ 9223372036854775807 := hcm2
    clear hcm2
    subst hv
    by_cases hlt : k < l.length
    · obtain ⟨_, _, _, ha⟩ := rdStzs_at (rdStzs_good.below H.out hbel)
      obtain ⟨ad, A', c', rfl, had, c0, hrd⟩ := ha k hlt
      have hlk : (l.take k).length = k := by rw [List.length_take]; omega
      have hne : ∀ b, lt_ w.heap.size b → lt_ w.heap.size b ∧ b < wr.heap.size ∧ (Value.slice A2 k c2).ownBlock ≠ some b := fun b hb => ⟨hb, Nat.lt_of_lt_of_le hb hbel.size, fun e => by have := (hG.lt b e).1; unfold lt_ at hb; omega⟩
      have hE : rdFds wr (fun b => lt_ w.heap.size b ∧ b < wr.heap.size ∧ (Value.slice A2 k c2).ownBlock ≠ some b) l[k] (#[Value.slice A' l[k].length c'] : Array Value).toList := rdFds_good.more hrd hne
      have hn1 : (l.take k).length + 1 ≤ maxLen := by have := HL.out; rw [hlk]; unfold maxLen; omega
      have hn2 : ((l.take k).length + 1) * 24 ≤ 140737488355328 := by have := HL.out; rw [hlk]; omega
      have hbs := hbel.size
      have HB := Lib.hid hbel
      have HTK := Lib.hid (List.take_succ_eq_append_getElem hlt)
      have HG := Lib.hid hG
      clear ha hrd hne hbel hlk
      go_wp2_with (at_builtin; refine wpList_grow1 _ rfl _ _ 27 rfl rdFds_good (by decide) (lt_ w.heap.size) w.heap.size 38 i0 (.slice none 0 0) 24 Tryd.underlying27 hi hz0 hz1 hz2 rfl (.slice A2 k c2) _ rfl hG l[k] _ 38 hE _ rfl rfl hn1 hn2 hbs ?_)
      intro v' w2 hG2 hg2
      try rw [← HTK.out] at hG2
      have HB2 := Lib.hid (grow_below HG.out hg2 HB.out (Nat.le_refl _) hbs)
      clear hG hg2 hE
      go_wp2
      go_roundw
      case rel => exact ⟨k + 1, by omega, by go_num, hG2, HB2.out⟩
      case measure => simp [intOf]; omega
    · obtain rfl : k = l.length := by omega
      rw [List.take_length] at hG
      have R := Lib.hid (hG.read rdFds_good)
      have HB := Lib.hid hbel
      clear hG hbel
      go_wp2
      go_ret
      exact ⟨⟨_, _, _, rfl, R.out⟩, HB.out⟩
end Go.Proofs.YtjfenheplkoajaaDoor
