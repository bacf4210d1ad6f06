/- The chapter's examples (shown): true; == of two versions. -/
import Derived.Test.YtklkefmbmagplaaGreatDoorVer11
import Derived.Laws.StructEq
import Derived.Outline
set_option maxRecDepth 100000
set_option linter.unusedVariables false
set_option linter.unusedSimpArgs false
namespace Go.Proofs.YtklkefmbmagplaaGreatDoor
open Go.RowKit
theorem ver_struct : Tryz.prog.underlying 28 = some (.struct (Tryz.prog.fieldsOf 28)) := by kernel_rfl
theorem ver_stood : Tryz.prog.stoodInHeld 28 = false := by kernel_rfl
theorem ver_fields : (Tryz.prog.fieldsOf 28).toList.map (fun f => (f.type, f.offset, f.name == "_")) = [(3, 0, false), (9, 1, false), (9, 2, false)] := by kernel_rfl
theorem eq_ver (e e' : Int) (u r u' r' : ByteArray) (w : World) :
    (Op.equalIn 10000 28 (.agg #[.int .i64 e, .string u, .string r]) (.agg #[.int .i64 e', .string u', .string r'])).run Tryz.prog w = .ok (e == e' && (u.toList == u'.toList && r.toList == r'.toList)) w := by
  have hi := Tryz.underlying3
  have hs := Tryz.underlying9
  rw [run_equalIn_struct w 9999 _ _ _ ver_struct ver_stood]
  have hf := ver_fields
  generalize (Tryz.prog.fieldsOf 28).toList = L at hf ⊢
  have hlen : L.length = 3 := by have := congrArg List.length hf; simpa using this
  rcases L with _ | ⟨f0, _ | ⟨f1, _ | ⟨f2, _ | ⟨f3, L⟩⟩⟩⟩
  · simp at hlen
  · simp at hlen
  · simp at hlen
  · simp only [List.map_cons, List.map_nil, List.cons.injEq, Prod.mk.injEq, and_true] at hf
    obtain ⟨⟨a0, b0, c0⟩, ⟨a1, b1, c1⟩, ⟨a2, b2, c2⟩⟩ := hf
    have n0 : f0.name ≠ "_" := by simpa using c0
    have n1 : f1.name ≠ "_" := by simpa using c1
    have n2 : f2.name ≠ "_" := by simpa using c2
    simp only [Op.eqFields, n0, n1, n2, ne_eq, not_false_iff, if_true, a0, b0, a1, b1, a2, b2]
    cases h1 : (e == e') <;> cases h2 : (u.toList == u'.toList) <;> cases h3 : (r.toList == r'.toList) <;> simp [part, isAgg, run_underlying hi, run_underlying hs, run_equalIn_int w 9998 _ _ _ _ _ hi, run_equalIn_string w 9998 _ _ _ hs, h1, h2, h3]
  · simp at hlen
theorem eq_ver_same (e : Int) (u r : ByteArray) (w : World) : (Op.equalIn 10000 28 (.agg #[.int .i64 e, .string u, .string r]) (.agg #[.int .i64 e, .string u, .string r])).run Tryz.prog w = .ok true w := by
  rw [eq_ver]; simp
theorem p1 : parseV ⟨#[49, 58, 50, 46, 48, 45, 51]⟩ = .tuple #[.agg #[.int .i64 1, .string ⟨#[50, 46, 48]⟩, .string ⟨#[51]⟩], .int .i64 0] := by kernel_rfl
theorem p2 : parseV ⟨#[50, 45, 49, 45, 51]⟩ = .tuple #[.agg #[.int .i64 0, .string ⟨#[50, 45, 49]⟩, .string ⟨#[51]⟩], .int .i64 0] := by kernel_rfl
theorem p3 : parseV ⟨#[50, 45]⟩ = .tuple #[.agg #[.int .i64 0, .string ⟨#[]⟩, .string ⟨#[]⟩], .int .i64 4] := by kernel_rfl
theorem p4 : parseV ⟨#[97]⟩ = .tuple #[.agg #[.int .i64 0, .string ⟨#[]⟩, .string ⟨#[]⟩], .int .i64 4] := by kernel_rfl
theorem q1 : cmpS (B ⟨#[49, 46, 48, 126, 114, 99, 49]⟩) (B ⟨#[49, 46, 48]⟩) = -1 := by kernel_rfl
theorem q2 : cmpS (B ⟨#[49, 46, 49, 48]⟩) (B ⟨#[49, 46, 57]⟩) = 1 := by kernel_rfl
theorem q3 : cmpS (B ⟨#[49, 46, 48]⟩) (B ⟨#[49, 46, 48, 97]⟩) = -1 := by kernel_rfl
theorem q4 : cmpS (B ⟨#[49, 97]⟩) (B ⟨#[49, 43]⟩) = -1 := by kernel_rfl
theorem q5 : cmpS (B ⟨#[48, 48, 55]⟩) (B ⟨#[55]⟩) = 0 := by kernel_rfl
theorem vparse_is {s : ByteArray} {v : Value} (h : parseV s = v) (w : World) (E : Env w) : Calls Tryz.prog 8 #[.string s] w fun e' w' => e' = .returned v ∧ Below w.heap.size w w' := by
  rw [← h]; exact vparse_any s w E
theorem vcmp_is {s t : ByteArray} {n : Int} (h : cmpS (B s) (B t) = n) (hs : s.size ≤ 9223372036854775807) (ht : t.size ≤ 9223372036854775807) (w : World) : Calls Tryz.prog 9 #[.string s, .string t] w fun e' w' => e' = .returned (.int .i64 n) ∧ Below w.heap.size w w' := by
  rw [← h]; exact vcmp_any s t w hs ht
theorem box3 {w w1 : World} {T : TypeId} {x y z : Value} (h : Below (w.alloc (.cells #[x, y, z] T)).heap.size (w.alloc (.cells #[x, y, z] T)) w1) :
    w1.cell? ⟨w.heap.size, 0, none⟩ = some x ∧ w1.cell? ⟨w.heap.size, 1, none⟩ = some y ∧ w1.cell? ⟨w.heap.size, 2, none⟩ = some z ∧ w.heap.size + 1 ≤ w1.heap.size := box_cells h
theorem cell3 {w w1 : World} {b : Nat} {x y z : Value} (h : Below w.heap.size w w1) (h0 : w.cell? ⟨b, 0, none⟩ = some x ∧ w.cell? ⟨b, 1, none⟩ = some y ∧ w.cell? ⟨b, 2, none⟩ = some z) :
    w1.cell? ⟨b, 0, none⟩ = some x ∧ w1.cell? ⟨b, 1, none⟩ = some y ∧ w1.cell? ⟨b, 2, none⟩ = some z := ⟨keep_cell h h0.1, keep_cell h h0.2.1, keep_cell h h0.2.2⟩
set_option maxHeartbeats 2000000 in
theorem shown_any (w : World) (E : Env w) : Calls Tryz.prog 4 #[] w fun e' w' => e' = .returned (.bool true) ∧ Below w.heap.size w w' := by
  have P1 := Lib.hid (vparse_is p1)
  have P2 := Lib.hid (vparse_is p2)
  have P3 := Lib.hid (vparse_is p3)
  have P4 := Lib.hid (vparse_is p4)
  have Q1 := Lib.hid (vcmp_is q1 (by decide) (by decide))
  have Q2 := Lib.hid (vcmp_is q2 (by decide) (by decide))
  have Q3 := Lib.hid (vcmp_is q3 (by decide) (by decide))
  have Q4 := Lib.hid (vcmp_is q4 (by decide) (by decide))
  have Q5 := Lib.hid (vcmp_is q5 (by decide) (by decide))
  have heq := eq_ver_same
  have HE := Lib.hid E
  clear E
  go_enter Tryz.func4, Tryz.ntmps4
  go_wp2_with fail
  refine (P1.out _ HE.out).mono ?_
  rintro e' w1 ⟨rfl, hb1⟩
  have B1 := Lib.hid (show Below w.heap.size w (w1.alloc (.cells #[.int .i64 1, .string ⟨#[50, 46, 48]⟩, .string ⟨#[51]⟩] 28)) from hb1.alloc hb1.size _)
  clear hb1
  go_wp2_with fail
  refine (P2.out _ (HE.out.below B1.out)).mono ?_
  rintro e' w2 ⟨rfl, hb2⟩
  have B2 := Lib.hid (show Below w.heap.size w (w2.alloc (.cells #[.int .i64 0, .string ⟨#[50, 45, 49]⟩, .string ⟨#[51]⟩] 28)) from (bel_2 B1.out hb2).alloc (bel_2 B1.out hb2).size _)
  obtain ⟨a0, a1, a2, s2⟩ := box3 hb2
  clear hb2
  have A2 := cell3 (bel_box w2 (.cells #[.int .i64 0, .string ⟨#[50, 45, 49]⟩, .string ⟨#[51]⟩] 28)) ⟨a0, a1, a2⟩
  have AH := Lib.hid A2
  clear a0 a1 a2 A2
  go_wp2_with fail
  refine (P3.out _ (HE.out.below B2.out)).mono ?_
  rintro e' w3 ⟨rfl, hb3⟩
  have B3 := Lib.hid (show Below w.heap.size w (w3.alloc (.cells #[.int .i64 0, .string ⟨#[]⟩, .string ⟨#[]⟩] 28)) from (bel_2 B2.out hb3).alloc (bel_2 B2.out hb3).size _)
  have C3 := Lib.hid (cell3 (bel_box w3 (.cells #[.int .i64 0, .string ⟨#[]⟩, .string ⟨#[]⟩] 28)) (cell3 hb3 AH.out))
  obtain ⟨b0, b1, b2, s3⟩ := box3 hb3
  have D3 := Lib.hid (cell3 (bel_box w3 (.cells #[.int .i64 0, .string ⟨#[]⟩, .string ⟨#[]⟩] 28)) ⟨b0, b1, b2⟩)
  clear hb3 b0 b1 b2 AH
  go_wp2_with fail
  refine (P4.out _ (HE.out.below B3.out)).mono ?_
  rintro e' w4 ⟨rfl, hb4⟩
  have B4 := Lib.hid (show Below w.heap.size w (w4.alloc (.cells #[.int .i64 0, .string ⟨#[]⟩, .string ⟨#[]⟩] 28)) from (bel_2 B3.out hb4).alloc (bel_2 B3.out hb4).size _)
  have C4 := cell3 (bel_box w4 (.cells #[.int .i64 0, .string ⟨#[]⟩, .string ⟨#[]⟩] 28)) (cell3 hb4 C3.out)
  have D4 := cell3 (bel_box w4 (.cells #[.int .i64 0, .string ⟨#[]⟩, .string ⟨#[]⟩] 28)) (cell3 hb4 D3.out)
  obtain ⟨c0, c1, c2⟩ := C4
  obtain ⟨d0, d1, d2⟩ := D4
  clear hb4 C3 D3
  go_wp2_with fail
  refine (Q1.out _).mono ?_
  rintro e' w5 ⟨rfl, hb5⟩
  have B5 := Lib.hid (bel_2 B4.out hb5)
  clear hb5 c0 c1 c2 d0 d1 d2
  go_wp2_with fail
  refine (Q2.out _).mono ?_
  rintro e' w6 ⟨rfl, hb6⟩
  have B6 := Lib.hid (bel_2 B5.out hb6)
  clear hb6
  go_wp2_with fail
  refine (Q3.out _).mono ?_
  rintro e' w7 ⟨rfl, hb7⟩
  have B7 := Lib.hid (bel_2 B6.out hb7)
  clear hb7
  go_wp2_with fail
  refine (Q4.out _).mono ?_
  rintro e' w8 ⟨rfl, hb8⟩
  have B8 := Lib.hid (bel_2 B7.out hb8)
  clear hb8
  go_wp2_with fail
  refine (Q5.out _).mono ?_
  rintro e' w9 ⟨rfl, hb9⟩
  have B9 := Lib.hid (bel_2 B8.out hb9)
  clear hb9
  go_wp2
  go_ret
  exact ⟨rfl, B9.out⟩
end Go.Proofs.YtklkefmbmagplaaGreatDoor
