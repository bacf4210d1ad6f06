/- The contract of the document's own Order of two texts. -/
import Derived.Test.YtklkefmbmagplaaGreatDoorRefParse
import Derived.Test.YtklkefmbmagplaaGreatDoorRefCmpV
namespace Go.Proofs.YtklkefmbmagplaaGreatDoor
open Go.RowKit
def orderV (a b : List Nat) : Int :=
  if parseE a ≠ 0 then (if parseE b ≠ 0 then 0 else -1) else if parseE b ≠ 0 then 1 else cmpV (parse1 a) (parse2 a) (parse3 a) (parse1 b) (parse2 b) (parse3 b)
theorem colU_mem {s : List Nat} {c : Nat} (h : c ∈ colU s) : c ∈ s := by
  unfold colU at h
  split at h
  · exact h
  · exact List.mem_of_mem_drop h
theorem dashU_mem {s : List Nat} {c : Nat} (h : c ∈ dashU s) : c ∈ s := by
  unfold dashU at h
  split at h
  · exact h
  · exact List.mem_of_mem_take h
theorem dashR_mem {s : List Nat} {c : Nat} (h : c ∈ dashR s) : c ∈ s := by
  unfold dashR at h
  split at h
  · cases h
  · exact List.mem_of_mem_drop h
theorem colU_len (s : List Nat) : (colU s).length ≤ s.length := by
  unfold colU
  split
  · exact Nat.le_refl _
  · rw [List.length_drop]; omega
theorem dashU_len (s : List Nat) : (dashU s).length ≤ s.length := by
  unfold dashU
  split
  · exact Nat.le_refl _
  · rw [List.length_take]; omega
theorem dashR_len (s : List Nat) : (dashR s).length ≤ s.length := by
  unfold dashR
  split
  · exact Nat.zero_le _
  · rw [List.length_drop]; omega
theorem parse2_lt (s : ByteArray) : ∀ c ∈ parse2 (B s), c < 256 := by
  intro c hc
  unfold parse2 at hc
  split at hc
  · exact B_lt s c (colU_mem (dashU_mem hc))
  · cases hc
theorem parse3_lt (s : ByteArray) : ∀ c ∈ parse3 (B s), c < 256 := by
  intro c hc
  unfold parse3 at hc
  split at hc
  · exact B_lt s c (colU_mem (dashR_mem hc))
  · cases hc
theorem parseE_len {s : List Nat} (h : parseE s = 0) : s.length ≤ 60 := by
  unfold parseE at h
  split at h
  · cases h
  · omega
theorem parse2_len (s : List Nat) : (parse2 s).length ≤ 60 := by
  unfold parse2
  split
  · rename_i h
    have := parseE_len h; have := colU_len s; have := dashU_len (colU s); omega
  · exact Nat.zero_le _
theorem parse3_len (s : List Nat) : (parse3 s).length ≤ 60 := by
  unfold parse3
  split
  · rename_i h
    have := parseE_len h; have := colU_len s; have := dashR_len (colU s); omega
  · exact Nat.zero_le _
/-- A parse's answer as values of its own. -/
theorem parse_opened (s : ByteArray) : ∃ (E e : Int) (U R : ByteArray), E = parse1 (B s) ∧ e = parseE (B s) ∧ B U = parse2 (B s) ∧ B R = parse3 (B s) ∧ U.size ≤ 60 ∧ R.size ≤ 60 ∧
    ∀ w, Calls Tryz.prog 22 #[.string s] w fun e' w' => e' = .returned (.tuple #[.agg #[.int .i64 E, .string U, .string R], .int .i64 e]) ∧ Below w.heap.size w w' :=
  ⟨_, _, _, _, rfl, rfl, B_mk (parse2_lt s), B_mk (parse3_lt s), by rw [size_mk]; exact parse2_len _, by rw [size_mk]; exact parse3_len _, fun w => parse_any s w⟩
theorem order_any (a b : ByteArray) (w : World) :
    Calls Tryz.prog 10 #[.string a, .string b] w fun e' w' => e' = .returned (.int .i64 (orderV (B a) (B b))) ∧ Below w.heap.size w w' := by
  obtain ⟨E, e, U, R, hE, he, hU, hR, zU, zR, ca⟩ := parse_opened a
  obtain ⟨F, f, V, S, hF, hf, hV, hS, zV, zS, cb⟩ := parse_opened b
  have X : orderV (B a) (B b) = if e ≠ 0 then (if f ≠ 0 then 0 else -1) else if f ≠ 0 then 1 else cmpV E (B U) (B R) F (B V) (B S) := by
    unfold orderV; rw [← hE, ← he, ← hU, ← hR, ← hF, ← hf, ← hV, ← hS]
  have XO := Lib.hid X
  have CA := Lib.hid ca
  have CB := Lib.hid cb
  have CV := Lib.hid (fun w => compare_any E F U R V S w (by omega) (by omega) (by omega) (by omega))
  clear X ca cb hE he hU hR hF hf hV hS
  generalize orderV (B a) (B b) = O at XO ⊢
  generalize cmpV E (B U) (B R) F (B V) (B S) = C at XO CV
  go_enter Tryz.func10, Tryz.ntmps10
  go_wp2_with fail
  refine (CA.out _).mono ?_
  rintro e' w1 ⟨rfl, hb1⟩
  have s1 := hb1.size
  go_wp2_with fail
  refine (CB.out _).mono ?_
  rintro e' w2 ⟨rfl, hb2⟩
  obtain ⟨c0, c1, c2, s2⟩ := box_cells hb2
  have b2 : Below w.heap.size w w2 := (hb1.alloc s1 _).trans (hb2.mono (by simp; omega))
  have b3 : Below w.heap.size w (w2.alloc (.cells #[.int .i64 F, .string V, .string S] 28)) := b2.alloc (by omega) _
  by_cases he : e = 0
  · have t1 : (e != 0) = false := by rw [bne_eq_false_iff_eq]; exact he
    by_cases hf : f = 0
    · have t2 : (f != 0) = false := by rw [bne_eq_false_iff_eq]; exact hf
      have XF := Lib.hid (show O = C by rw [XO.out, if_neg (by simp [he]), if_neg (by simp [hf])])
      have s3 : w1.heap.size < w2.heap.size := by omega
      clear he hf
      go_wp2_with fail
      refine (CV.out _).mono ?_
      rintro e' w3 ⟨rfl, hb3⟩
      go_wp2
      go_ret
      exact ⟨by rw [XF.out]; rfl, b3.trans (hb3.mono (by simp; omega))⟩
    · have t2 : (f != 0) = true := by rw [bne_iff_ne]; exact hf
      have XF := Lib.hid (show O = 1 by rw [XO.out, if_neg (by simp [he]), if_pos hf])
      clear he hf
      go_wp2
      go_ret
      exact ⟨by rw [XF.out]; rfl, b3⟩
  · have t1 : (e != 0) = true := by rw [bne_iff_ne]; exact he
    by_cases hf : f = 0
    · have t2 : (f != 0) = false := by rw [bne_eq_false_iff_eq]; exact hf
      have XF := Lib.hid (show O = -1 by rw [XO.out, if_pos he, if_neg (by simp [hf])])
      clear he hf
      go_wp2
      go_ret
      exact ⟨by rw [XF.out]; rfl, b3⟩
    · have t2 : (f != 0) = true := by rw [bne_iff_ne]; exact hf
      have XF := Lib.hid (show O = 0 by rw [XO.out, if_pos he, if_pos hf])
      clear he hf
      go_wp2
      go_ret
      exact ⟨by rw [XF.out]; rfl, b3⟩
end Go.Proofs.YtklkefmbmagplaaGreatDoor
