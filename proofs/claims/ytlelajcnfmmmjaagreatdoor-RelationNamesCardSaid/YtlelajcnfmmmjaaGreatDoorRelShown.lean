/- The chapter's examples (shown): true; == of two atoms; whether an atom is small. -/
import Derived.Test.YtlelajcnfmmmjaaGreatDoorRel6
set_option maxRecDepth 100000
set_option linter.unusedVariables false
set_option linter.unusedSimpArgs false
namespace Go.Proofs.YtlelajcnfmmmjaaGreatDoor
open Go.RowKit
theorem atom_struct : Tryz.prog.underlying 29 = some (.struct (Tryz.prog.fieldsOf 29)) := by kernel_rfl
theorem atom_stood : Tryz.prog.stoodInHeld 29 = false := by kernel_rfl
theorem atom_fields : (Tryz.prog.fieldsOf 29).toList.map (fun f => (f.type, f.offset, f.name == "_")) = [(9, 0, false), (3, 1, false), (9, 2, false)] := by kernel_rfl
theorem eq_atom (u : ByteArray) (e : Int) (r u' : ByteArray) (e' : Int) (r' : ByteArray) (w : World) :
    (Op.equalIn 10000 29 (.agg #[.string u, .int .i64 e, .string r]) (.agg #[.string u', .int .i64 e', .string r'])).run Tryz.prog w = .ok (u.toList == u'.toList && (e == e' && r.toList == r'.toList)) w := by
  have hi := Tryz.underlying3
  have hs := Tryz.underlying9
  rw [run_equalIn_struct w 9999 _ _ _ atom_struct atom_stood]
  have hf := atom_fields
  generalize (Tryz.prog.fieldsOf 29).toList = L at hf ⊢
  have hlen : L.length = 3 := by have := congrArg List.length hf; simpa using this
  rcases L with _ | ⟨f0, _ | ⟨f1, _ | ⟨f2, _ | ⟨f3, L⟩⟩⟩⟩
  · simp at hlen
  · simp at hlen
  · simp at hlen
  · simp only [List.map_cons, List.map_nil, List.cons.injEq, Prod.mk.injEq, and_true] at hf
    obtain ⟨⟨a0, b0, c0⟩, ⟨a1, b1, c1⟩, ⟨a2, b2, c2⟩⟩ := hf
    have n0 : f0.name ≠ "_" := by simpa using c0
    have n1 : f1.name ≠ "_" := by simpa using c1
    have n2 : f2.name ≠ "_" := by simpa using c2
    simp only [Op.eqFields, n0, n1, n2, ne_eq, not_false_iff, if_true, a0, b0, a1, b1, a2, b2]
    cases h1 : (e == e') <;> cases h2 : (u.toList == u'.toList) <;> cases h3 : (r.toList == r'.toList) <;> simp [part, isAgg, run_underlying hi, run_underlying hs, run_equalIn_int w 9998 _ _ _ _ _ hi, run_equalIn_string w 9998 _ _ _ hs, h1, h2, h3]
  · simp at hlen
theorem eq_atom_same (u : ByteArray) (e : Int) (r : ByteArray) (w : World) : (Op.equalIn 10000 29 (.agg #[.string u, .int .i64 e, .string r]) (.agg #[.string u, .int .i64 e, .string r])).run Tryz.prog w = .ok true w := by
  rw [eq_atom]; simp
theorem box3b {w w1 : World} {o : Obj} {T : TypeId} {x y z : Value} (h : Below ((w.alloc o).alloc (.cells #[x, y, z] T)).heap.size ((w.alloc o).alloc (.cells #[x, y, z] T)) w1) :
    w1.cell? ⟨w.heap.size + 1, 0, none⟩ = some x ∧ w1.cell? ⟨w.heap.size + 1, 1, none⟩ = some y ∧ w1.cell? ⟨w.heap.size + 1, 2, none⟩ = some z := by
  have := box3 h
  simp only [World.alloc, Array.size_push] at this
  exact ⟨this.1, this.2.1, this.2.2.1⟩
theorem keep_al {w : World} {o : Obj} {b : Nat} {x y z : Value} (h0 : w.cell? ⟨b, 0, none⟩ = some x) (h1 : w.cell? ⟨b, 1, none⟩ = some y) (h2 : w.cell? ⟨b, 2, none⟩ = some z) :
    (w.alloc o).cell? ⟨b, 0, none⟩ = some x ∧ (w.alloc o).cell? ⟨b, 1, none⟩ = some y ∧ (w.alloc o).cell? ⟨b, 2, none⟩ = some z := ⟨cell_old' h0, cell_old' h1, cell_old' h2⟩
theorem small_any (n : ByteArray) (op : Int) (v : ByteArray) (w : World) : Calls Tryz.prog 12 #[.agg #[.string n, .int .i64 op, .string v]] w fun e' w' => e' = .returned (.bool (decide ((n.size : Int) ≤ 300) && decide ((v.size : Int) ≤ 300))) ∧ Below w.heap.size w w' := by
  by_cases h1 : (n.size : Int) ≤ 300
  · by_cases h2 : (v.size : Int) ≤ 300
    · go_enter Tryz.func12, Tryz.ntmps12
      go_wp2
      go_ret
      exact ⟨by simp [h1, h2], (Below.refl _ w).alloc (Nat.le_refl _) _⟩
    · go_enter Tryz.func12, Tryz.ntmps12
      go_wp2
      go_ret
      exact ⟨by simp [h1, h2], (Below.refl _ w).alloc (Nat.le_refl _) _⟩
  · have h1' : (300 : Int) < n.size := by omega
    go_enter Tryz.func12, Tryz.ntmps12
    go_wp2
    go_ret
    exact ⟨by rw [decide_eq_false (p := (n.size : Int) ≤ 300) (by omega)]; rfl, (Below.refl _ w).alloc (Nat.le_refl _) _⟩
theorem sp0 : relVal { data := #[97, 98, 32, 40, 62, 61, 32, 49, 46, 48, 41] } = .tuple #[.agg #[.string { data := #[97, 98] }, .int .i64 4, .string { data := #[49, 46, 48] }], .int .i64 0] := by kernel_rfl
theorem sp1 : relVal { data := #[97, 98] } = .tuple #[.agg #[.string { data := #[97, 98] }, .int .i64 0, .string { data := #[] }], .int .i64 0] := by kernel_rfl
theorem sp2 : relVal { data := #[65] } = .tuple #[.agg #[.string { data := #[] }, .int .i64 0, .string { data := #[] }], .int .i64 3] := by kernel_rfl
theorem sp3 : relVal { data := #[97, 98, 32, 40, 62, 61, 32, 120, 41] } = .tuple #[.agg #[.string { data := #[] }, .int .i64 0, .string { data := #[] }], .int .i64 4] := by kernel_rfl
theorem sp4 : relVal { data := #[97, 98, 40, 61, 32, 49, 41] } = .tuple #[.agg #[.string { data := #[] }, .int .i64 0, .string { data := #[] }], .int .i64 3] := by kernel_rfl
theorem sh1 : holdB 1 (B { data := #[49, 126, 97] }) (B { data := #[49] }) = true := by kernel_rfl
theorem sv1 : provB (B { data := #[97, 98] }) 3 (B { data := #[49] }) (B { data := #[97, 98] }) 0 (B { data := #[] }) = false := by kernel_rfl
theorem sv2 : provB (B { data := #[97, 98] }) 0 (B { data := #[] }) (B { data := #[97, 98] }) 3 (B { data := #[50] }) = true := by kernel_rfl
theorem sv3 : provB (B { data := #[97, 98] }) 4 (B { data := #[49] }) (B { data := #[97, 98] }) 3 (B { data := #[50] }) = true := by kernel_rfl
theorem rparse_is {s : ByteArray} {v : Value} (h : relVal s = v) (hs : s.size ≤ 65536) (w : World) (E : EnvR w) : Calls Tryz.prog 13 #[.string s] w fun e' w' => e' = .returned v ∧ Below w.heap.size w w' := by
  rw [← h]; exact rparse_any s w hs E
theorem rholds_is {op : Int} {a b : ByteArray} {v : Bool} (h : holdB op (B a) (B b) = v) (w : World) (E : EnvR w) : Calls Tryz.prog 19 #[.int .i64 op, .string a, .string b] w fun e' w' => e' = .returned (.bool v) ∧ Below w.heap.size w w' := by
  rw [← h]; exact rholds_any op a b w E.env
theorem rprov_is {n v gn gv : ByteArray} {op gop : Int} {x : Bool} (h : provB (B n) op (B v) (B gn) gop (B gv) = x) (w : World) (E : EnvR w) : Calls Tryz.prog 20 #[.agg #[.string n, .int .i64 op, .string v], .agg #[.string gn, .int .i64 gop, .string gv]] w fun e' w' => e' = .returned (.bool x) ∧ Below w.heap.size w w' := by
  rw [← h]; exact rprov_any n op v gn gop gv w E
set_option maxHeartbeats 2000000 in
theorem shown3_any (w : World) (E : EnvR w) : Calls Tryz.prog 5 #[] w fun e' w' => e' = .returned (.bool true) ∧ Below w.heap.size w w' := by
  have P0 := Lib.hid (rparse_is sp0 (by decide))
  have P1 := Lib.hid (rparse_is sp1 (by decide))
  have P2 := Lib.hid (rparse_is sp2 (by decide))
  have P3 := Lib.hid (rparse_is sp3 (by decide))
  have P4 := Lib.hid (rparse_is sp4 (by decide))
  have H1 := Lib.hid (rholds_is sh1)
  have V1 := Lib.hid (rprov_is sv1)
  have V2 := Lib.hid (rprov_is sv2)
  have V3 := Lib.hid (rprov_is sv3)
  have heq := eq_atom_same
  have HE := Lib.hid E
  clear E
  go_enter Tryz.func5, Tryz.ntmps5
  go_wp2_with fail
  refine (P0.out _ HE.out).mono ?_
  rintro e' w1 ⟨rfl, hb⟩
  have B1 := Lib.hid (bel_2 (Below.refl w.heap.size w) hb)
  clear hb
  have A2 := Lib.hid (show Below w.heap.size w (w1.alloc (.cells #[.string { data := #[97, 98] }, .int .i64 4, .string { data := #[49, 46, 48] }] 29)) from ((B1.out).alloc (B1.out).size _))
  go_wp2_with fail
  refine (P1.out _ (HE.out.below A2.out)).mono ?_
  rintro e' w3 ⟨rfl, hb⟩
  obtain ⟨a0, a1, a2, _⟩ := box3 hb
  have B3 := Lib.hid (bel_2 A2.out hb)
  clear hb
  have A4 := Lib.hid (show Below w.heap.size w (w3.alloc (.cells #[.string { data := #[97, 98] }, .int .i64 0, .string { data := #[] }] 29)) from ((B3.out).alloc (B3.out).size _))
  go_wp2_with fail
  refine (P2.out _ (HE.out.below A4.out)).mono ?_
  rintro e' w5 ⟨rfl, hb⟩
  obtain ⟨a0, a1, a2⟩ := keep_al (o := (.cells #[.string { data := #[97, 98] }, .int .i64 0, .string { data := #[] }] 29)) a0 a1 a2
  obtain ⟨a0, a1, a2⟩ := cell3 hb ⟨a0, a1, a2⟩
  obtain ⟨b0, b1, b2, _⟩ := box3 hb
  have B5 := Lib.hid (bel_2 A4.out hb)
  clear hb
  have A6 := Lib.hid (show Below w.heap.size w (w5.alloc (.cells #[.string { data := #[] }, .int .i64 0, .string { data := #[] }] 29)) from ((B5.out).alloc (B5.out).size _))
  go_wp2_with fail
  refine (P3.out _ (HE.out.below A6.out)).mono ?_
  rintro e' w7 ⟨rfl, hb⟩
  obtain ⟨a0, a1, a2⟩ := keep_al (o := (.cells #[.string { data := #[] }, .int .i64 0, .string { data := #[] }] 29)) a0 a1 a2
  obtain ⟨b0, b1, b2⟩ := keep_al (o := (.cells #[.string { data := #[] }, .int .i64 0, .string { data := #[] }] 29)) b0 b1 b2
  obtain ⟨a0, a1, a2⟩ := cell3 hb ⟨a0, a1, a2⟩
  obtain ⟨b0, b1, b2⟩ := cell3 hb ⟨b0, b1, b2⟩
  have B7 := Lib.hid (bel_2 A6.out hb)
  clear hb
  have A8 := Lib.hid (show Below w.heap.size w (w7.alloc (.cells #[.string { data := #[] }, .int .i64 0, .string { data := #[] }] 29)) from ((B7.out).alloc (B7.out).size _))
  go_wp2_with fail
  refine (P4.out _ (HE.out.below A8.out)).mono ?_
  rintro e' w9 ⟨rfl, hb⟩
  obtain ⟨a0, a1, a2⟩ := keep_al (o := (.cells #[.string { data := #[] }, .int .i64 0, .string { data := #[] }] 29)) a0 a1 a2
  obtain ⟨b0, b1, b2⟩ := keep_al (o := (.cells #[.string { data := #[] }, .int .i64 0, .string { data := #[] }] 29)) b0 b1 b2
  obtain ⟨a0, a1, a2⟩ := cell3 hb ⟨a0, a1, a2⟩
  obtain ⟨b0, b1, b2⟩ := cell3 hb ⟨b0, b1, b2⟩
  have B9 := Lib.hid (bel_2 A8.out hb)
  clear hb
  obtain ⟨a0, a1, a2⟩ := keep_al (o := (.cells #[.string { data := #[] }, .int .i64 0, .string { data := #[] }] 29)) a0 a1 a2
  obtain ⟨b0, b1, b2⟩ := keep_al (o := (.cells #[.string { data := #[] }, .int .i64 0, .string { data := #[] }] 29)) b0 b1 b2
  have A10 := Lib.hid (show Below w.heap.size w ((w9.alloc (.cells #[.string { data := #[] }, .int .i64 0, .string { data := #[] }] 29)).alloc (.cells #[.string { data := #[97, 98] }, .int .i64 3, .string { data := #[50] }] 29)) from ((((B9.out).alloc (B9.out).size _)).alloc (((B9.out).alloc (B9.out).size _)).size _))
  go_wp2_with fail
  refine (H1.out _ (HE.out.below A10.out)).mono ?_
  rintro e' w11 ⟨rfl, hb⟩
  obtain ⟨a0, a1, a2⟩ := keep_al (o := (.cells #[.string { data := #[97, 98] }, .int .i64 3, .string { data := #[50] }] 29)) a0 a1 a2
  obtain ⟨b0, b1, b2⟩ := keep_al (o := (.cells #[.string { data := #[97, 98] }, .int .i64 3, .string { data := #[50] }] 29)) b0 b1 b2
  obtain ⟨a0, a1, a2⟩ := cell3 hb ⟨a0, a1, a2⟩
  obtain ⟨b0, b1, b2⟩ := cell3 hb ⟨b0, b1, b2⟩
  obtain ⟨t0, t1, t2⟩ := box3b hb
  have B11 := Lib.hid (bel_2 A10.out hb)
  clear hb
  go_wp2_with fail
  refine (V1.out _ (HE.out.below B11.out)).mono ?_
  rintro e' w12 ⟨rfl, hb⟩
  obtain ⟨a0, a1, a2⟩ := cell3 hb ⟨a0, a1, a2⟩
  obtain ⟨b0, b1, b2⟩ := cell3 hb ⟨b0, b1, b2⟩
  obtain ⟨t0, t1, t2⟩ := cell3 hb ⟨t0, t1, t2⟩
  have B12 := Lib.hid (bel_2 B11.out hb)
  clear hb
  go_wp2_with fail
  refine (V2.out _ (HE.out.below B12.out)).mono ?_
  rintro e' w13 ⟨rfl, hb⟩
  obtain ⟨a0, a1, a2⟩ := cell3 hb ⟨a0, a1, a2⟩
  obtain ⟨b0, b1, b2⟩ := cell3 hb ⟨b0, b1, b2⟩
  obtain ⟨t0, t1, t2⟩ := cell3 hb ⟨t0, t1, t2⟩
  have B13 := Lib.hid (bel_2 B12.out hb)
  clear hb
  go_wp2_with fail
  refine (V3.out _ (HE.out.below B13.out)).mono ?_
  rintro e' w14 ⟨rfl, hb⟩
  obtain ⟨a0, a1, a2⟩ := cell3 hb ⟨a0, a1, a2⟩
  obtain ⟨b0, b1, b2⟩ := cell3 hb ⟨b0, b1, b2⟩
  obtain ⟨t0, t1, t2⟩ := cell3 hb ⟨t0, t1, t2⟩
  have B14 := Lib.hid (bel_2 B13.out hb)
  clear hb
  go_wp2
  go_ret
  exact ⟨rfl, B14.out⟩
end Go.Proofs.YtlelajcnfmmmjaaGreatDoor
