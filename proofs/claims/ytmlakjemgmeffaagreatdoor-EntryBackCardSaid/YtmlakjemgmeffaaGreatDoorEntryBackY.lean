/- keelsonlaw6.EntryBack: called with any arguments that can be read it returns true, and its arguments read as before. Condition: the library variables that the row lists hold what the program text lays in them, which the card ties to that text. -/
import Derived.Test.YtmlakjemgmeffaaGreatDoorP6qY
import Derived.Test.YtmlakjemgmeffaaGreatDoorQAQ
import Derived.Test.YtmlakjemgmeffaaGreatDoorE6dY
import Derived.Test.YtmlakjemgmeffaaGreatDoorNE
import Derived.Test.YtmlakjemgmeffaaGreatDoorQAR
import Derived.WalkKit
import Derived.ProofKit
import Derived.OpenShut
import Derived.SevenTiedAt
import Derived.Outline
set_option maxRecDepth 100000
set_option linter.unusedVariables false
set_option linter.unusedSimpArgs false
namespace Go.Proofs.YtmlakjemgmeffaaGreatDoor.entryBack
open Go.ChangeShapes Go.WideShapes Go.ChangeAt Go.RowKit
theorem oth_othr : ∀ f ∈ [(⟨{ data := #[79, 116, 104, 101, 114] }, { data := #[120] }⟩ : Fd)], othr f := fun f hf => by
  rw [List.mem_singleton.1 hf]
  unfold othr nDe nRe nCo nPr
  refine ⟨?_, ?_, ?_, ?_⟩ <;> exact fun e => absurd (congrArg B e) (by decide +kernel)
theorem oth_vals {x : Ent} (h : Sm x) : ∀ f ∈ wrE x ++ [(⟨{ data := #[79, 116, 104, 101, 114] }, { data := #[120] }⟩ : Fd)], f.v.size ≤ 65536 := fun f hf => by
  rcases List.mem_append.1 hf with hf | hf
  · obtain ⟨_, _, hn, hv, _⟩ := h
    exact Nat.le_trans (wrE_vals (by omega) (by omega) f hf) (by decide)
  · rw [List.mem_singleton.1 hf]; exact (by decide : (1 : Nat) ≤ 65536)
theorem back_read {x : Ent} (h : rgtE x = true) : rdP (wrE x ++ [(⟨{ data := #[79, 116, 104, 101, 114] }, { data := #[120] }⟩ : Fd)]) = (0, x) := by rw [wrE_right h]; exact rdP_wr h _ oth_othr
theorem wr_pos {x : Ent} (h : rgtE x = true) : 0 < (wrE x).length := by
  rw [wrE_right h]
  have e := wr4_list x []
  rw [List.append_nil] at e
  rw [e]; simp
theorem wr_none {x : Ent} (h : rgtE x = false) : wrE x = [] := if_neg (by rw [h]; decide)
theorem same_refl (x : Ent) (A1 : Option Addr) (c1 : Nat) (A2 : Option Addr) (c2 : Nat) (A3 : Option Addr) (c3 : Nat) (A4 : Option Addr) (c4 : Nat) (A1y : Option Addr) (c1y : Nat) (A2y : Option Addr) (c2y : Nat) (A3y : Option Addr) (c3y : Nat) (A4y : Option Addr) (c4y : Nat) (w : World) (hx : EntV w (lt_ w.heap.size) x A1 c1 A2 c2 A3 c3 A4 c4) (hy : EntV w (lt_ w.heap.size) x A1y c1y A2y c2y A3y c3y A4y c4y) :
    Calls Tryz.prog 18 #[x.val A1 c1 A2 c2 A3 c3 A4 c4, x.val A1y c1y A2y c2y A3y c3y A4y c4y] w fun e w' => e = .returned (.bool true) ∧ Below w.heap.size w w' := by
  have := same6_any x x A1 c1 A2 c2 A3 c3 A4 c4 A1y c1y A2y c2y A3y c3y A4y c4y w hx hy
  rwa [decide_eq_true rfl] at this
theorem all_refl (A A' : Option Addr) (n c n' c' : Nat) (l : List Ent) (w : World) (h : rdEnts w (lt_ w.heap.size) l [.slice A n c]) (h' : rdEnts w (lt_ w.heap.size) l [.slice A' n' c']) :
    Calls Tryz.prog 20 #[.slice A n c, .slice A' n' c'] w fun e w' => e = .returned (.bool true) ∧ Below w.heap.size w w' := by
  have := sameAll6_any A A' n c n' c' l l w h h'
  rwa [decide_eq_true rfl] at this
theorem index_is {s : ByteArray} {a : List Ent} {n e : Int} (h : idP (B s) = (a, n, e)) (w : World) (E : EnvR w) :
    Calls Tryz.prog 19 #[.string s] w fun e' w' => (∃ A c, e' = .returned (.tuple #[.slice A a.length c, .int .i64 n, .int .i64 e]) ∧ rdEnts w' (lt_ w'.heap.size) a [.slice A a.length c]) ∧ Below w.heap.size w w' := by
  refine (eindex_any s w E).mono ?_
  rw [h]
  rintro e' w' ⟨⟨A, n, c, rfl, hr⟩, hb⟩
  obtain ⟨rfl, _⟩ := rdEnts_at hr
  exact ⟨⟨A, c, rfl, hr⟩, hb⟩
set_option maxHeartbeats 16000000 in
theorem walk (x : Ent) (A1 : Option Addr) (c1 : Nat) (A2 : Option Addr) (c2 : Nat) (A3 : Option Addr) (c3 : Nat) (A4 : Option Addr) (c4 : Nat) (A : Option Addr) (m cc : Nat) (l : List Ent) (s : ByteArray) (w : World) (hx : EntV w (lt_ w.heap.size) x A1 c1 A2 c2 A3 c3 A4 c4) (_ : EntOk x) (hl : rdEnts w (lt_ w.heap.size) l [.slice A m cc]) (_ : ∀ x ∈ l, EntOk x) (_ : s.size ≤ maxLen) (E : EnvR w) :
    Calls Tryz.prog 4 #[x.val A1 c1 A2 c2 A3 c3 A4 c4, .slice A m cc, .string s] w fun e w' => e = .returned (.bool true) ∧ Below w.heap.size w w' := by
  obtain ⟨rfl, hnc, hcm, -⟩ := rdEnts_at hl
  have hcm' : cc ≤ 9223372036854775807 := hcm
  have HE := Lib.hid E
  have S := Lib.hid (fun w E => shown6_any w E)
  have HX := Lib.hid hx
  have HL := Lib.hid hl
  have KX1 := Lib.hid (fun (W : World) (hb : Below w.heap.size w W) => small6_any x A1 c1 A2 c2 A3 c3 A4 c4 W (hx.on hb))
  have KX2 := Lib.hid (fun (W : World) (hb : Below w.heap.size w W) => few6_any A l.length cc l W (rdEnts_good.up (rdEnts_good.below hl hb) hb.size))
  have KR := Lib.hid (fun (W : World) (hb : Below w.heap.size w W) => eright_any x A1 c1 A2 c2 A3 c3 A4 c4 W (HX.out.on hb) (HE.out.below hb))
  have KW := Lib.hid (fun (W : World) (hb : Below w.heap.size w W) => ewrite_any x A1 c1 A2 c2 A3 c3 A4 c4 W (HX.out.on hb) (HE.out.below hb))
  have RB := Lib.hid (fun h => back_read (x := x) h)
  have RV := Lib.hid (fun h => oth_vals (x := x) h)
  have WP := Lib.hid (fun h => wr_pos (x := x) h)
  have WN := Lib.hid (fun h => wr_none (x := x) h)
  have WL := Lib.hid (wrE_len x)
  have KP := Lib.hid (fun (W : World) (hb : Below w.heap.size w W) => eprint_any A l.length cc l W (rdEnts_good.up (rdEnts_good.below HL.out hb) hb.size) (HE.out.below hb))
  have PB := Lib.hid (fun h => print_back (l := l) h)
  have IE := Lib.hid (fun h => idP_err (t := B s) h)
  have IB := Lib.hid (fun (h : (B s).length ≤ 6000) => read_back (t := B s) h)
  clear hx hl hcm E
  generalize wrE x = LW at *
  generalize rgtE x = br at *
  generalize prE prP l = T at *
  generalize Sm x = S1 at *
  generalize Fw l = S2 at *
  obtain ⟨al, na, ea, hid⟩ : ∃ al na ea, idP (B s) = (al, na, ea) := ⟨_, _, _, rfl⟩
  rw [hid] at IE IB
  simp only at IE IB
  have KI := Lib.hid (fun W E => index_is hid W E)
  clear hid
  obtain ⟨fi, hi, hz0, hz1, hz2⟩ := info_parts fd_info
  have hszB := B_len s
  have HB6 := Lib.hid (show s.size ≤ 6000 → (B s).length ≤ 6000 from fun h => by rw [hszB]; exact h)
  clear hszB
  obtain ⟨n, v, d, r, c, p⟩ := x
  show Calls Tryz.prog 4 #[.agg #[.string n, .string v, .slice A1 d.length c1, .slice A2 r.length c2, .slice A3 c.length c3, .slice A4 p.length c4], .slice A l.length cc, .string s] w _
  obtain ⟨W1, hW1⟩ : ∃ W, W = (w.alloc (.cells #[.string n, .string v, .slice A1 d.length c1, .slice A2 r.length c2, .slice A3 c.length c3, .slice A4 p.length c4] 25)) := ⟨_, rfl⟩
  have B1 := Lib.hid (show Below w.heap.size w W1 by rw [hW1]; exact (Below.refl _ w).alloc (Nat.le_refl _) _)
  have KC := Lib.hid (fun (W : World) (hb : Below W1.heap.size W1 W) => (show W.cell? ⟨w.heap.size, 0, none⟩ = some (.string n) ∧ W.cell? ⟨w.heap.size, 1, none⟩ = some (.string v) ∧ W.cell? ⟨w.heap.size, 2, none⟩ = some (.slice A1 d.length c1) ∧ W.cell? ⟨w.heap.size, 3, none⟩ = some (.slice A2 r.length c2) ∧ W.cell? ⟨w.heap.size, 4, none⟩ = some (.slice A3 c.length c3) ∧ W.cell? ⟨w.heap.size, 5, none⟩ = some (.slice A4 p.length c4) from by
    refine ⟨?_, ?_, ?_, ?_, ?_, ?_⟩ <;> exact keep6 hb (by rw [hW1]; simp [go_sem])))
  go_enter Tryz.func4, Tryz.ntmps4
  go_wp2_with fail
  rw [← hW1]
  clear hW1
  refine (S.out _ (HE.out.below B1.out)).mono ?_
  rintro e w1 ⟨rfl, hb⟩
  have V1 := Lib.hid hb
  have C1 := Lib.hid (B1.out.trans (hb.mono B1.out.size))
  clear hb
  obtain ⟨x0, x1, x2, x3, x4, x5⟩ := KC.out _ V1.out
  go_wp2_with fail
  refine (KX1.out _ C1.out).mono ?_
  rintro e w2 ⟨⟨b1, rfl, hs1⟩, hb⟩
  have V2 := Lib.hid (V1.out.trans (hb.mono V1.out.size))
  have C2 := Lib.hid (C1.out.trans (hb.mono C1.out.size))
  have HS1 := Lib.hid hs1
  clear hb hs1 x0 x1 x2 x3 x4 x5
  go_wp2_with fail
  refine (KX2.out _ C2.out).mono ?_
  rintro e w3 ⟨⟨b2, rfl, hs2⟩, hb⟩
  have V3 := Lib.hid (V2.out.trans (hb.mono V2.out.size))
  have C3 := Lib.hid (C2.out.trans (hb.mono C2.out.size))
  clear hb hs2
  cases b1
  · go_wp2
    go_ret
    exact ⟨rfl, C3.out⟩
  cases b2
  · go_wp2
    go_ret
    exact ⟨rfl, C3.out⟩
  by_cases g6 : (6000 : Int) < (s.size : Int)
  · go_wp2
    go_ret
    exact ⟨rfl, C3.out⟩
  have IB := Lib.hid (IB.out (HB6.out (by omega)))
  obtain ⟨x0, x1, x2, x3, x4, x5⟩ := KC.out _ V3.out
  go_wp2_with fail
  refine (KW.out _ C3.out).mono ?_
  rintro e w4 ⟨⟨Aw, cw, rfl, hrw⟩, hb⟩
  have V4 := Lib.hid (V3.out.trans (hb.mono V3.out.size))
  have C4 := Lib.hid (C3.out.trans (hb.mono C3.out.size))
  have HW := Lib.hid (show rdFds w4 (lt_ w4.heap.size) LW [.slice Aw LW.length cw] from rdFds_good.more hrw fun b hb => hb.2)
  have hcw : cw ≤ 9223372036854775807 := (rdFds_at hrw).2.2.1
  have hnw : LW.length ≤ cw := (rdFds_at hrw).2.1
  clear hb hrw x0 x1 x2 x3 x4 x5
  obtain ⟨x0, x1, x2, x3, x4, x5⟩ := KC.out _ V4.out
  go_wp2_with fail
  refine (KR.out _ C4.out).mono ?_
  rintro e w5 ⟨rfl, hb⟩
  have V5 := Lib.hid (V4.out.trans (hb.mono V4.out.size))
  have C5 := Lib.hid (C4.out.trans (hb.mono C4.out.size))
  have HW := Lib.hid (rdFds_good.up (rdFds_good.below HW.out hb) hb.size)
  clear hb x0 x1 x2 x3 x4 x5
  cases br
  · obtain rfl : LW = [] := WN.out rfl
    simp only [List.length_nil] at hcw hnw
    go_wp2_with fail
    refine (KP.out _ C5.out).mono ?_
    rintro e u1 ⟨rfl, hb⟩
    have D1 := Lib.hid (C5.out.trans (hb.mono C5.out.size))
    clear hb
    by_cases hT : B T = []
    · have eT : T.toList.isEmpty = true := by rw [emp_eq]; exact decide_eq_true hT
      clear hT
      go_wp2_with fail
      refine (KI.out _ (HE.out.below D1.out)).mono ?_
      rintro e u4 ⟨⟨Aa, ca, rfl, hra⟩, hb⟩
      have D4 := Lib.hid (D1.out.trans (hb.mono D1.out.size))
      have HA := Lib.hid hra
      have hca : ca ≤ 9223372036854775807 := (rdEnts_at hra).2.2.1
      clear hb hra
      by_cases he : ea ≠ 0
      · have X := Lib.hid (IE.out he)
        have t1 : (ea != 0) = true := by rw [bne_iff_ne]; exact he
        have hl0 : al.length = 0 := by rw [X.out]; rfl
        have hl1 : ((al.length : Int) == 0) = true := by rw [hl0]; rfl
        clear he hl0
        go_wp2
        go_ret
        exact ⟨rfl, D4.out⟩
      obtain rfl : ea = 0 := Decidable.not_not.1 he
      obtain ⟨hn0, hback⟩ := IB.out rfl
      subst hn0
      have KI2 := Lib.hid (fun W E => index_is hback W E)
      have KP2 := Lib.hid (eprint_any Aa al.length ca al u4 HA.out (HE.out.below D4.out))
      clear he hback
      generalize prE prP al = T2 at *
      go_wp2_with fail
      refine KP2.out.mono ?_
      rintro e u5 ⟨rfl, hb⟩
      have D5 := Lib.hid (D4.out.trans (hb.mono D4.out.size))
      have HA5 := Lib.hid (rdEnts_good.up (rdEnts_good.below HA.out hb) hb.size)
      clear hb KP2
      go_wp2_with fail
      refine (KI2.out _ (HE.out.below D5.out)).mono ?_
      rintro e u6 ⟨⟨Ab, cb, rfl, hrb⟩, hb⟩
      have D6 := Lib.hid (D5.out.trans (hb.mono D5.out.size))
      have KS := Lib.hid (all_refl Aa Ab al.length ca al.length cb al u6 (rdEnts_good.up (rdEnts_good.below HA5.out hb) hb.size) hrb)
      clear hb hrb
      go_wp2_with fail
      refine KS.out.mono ?_
      rintro e u7 ⟨rfl, hb⟩
      have D7 := Lib.hid (D6.out.trans (hb.mono D6.out.size))
      clear hb
      go_wp2
      go_ret
      exact ⟨rfl, D7.out⟩
    · have eT : T.toList.isEmpty = false := by rw [emp_eq]; exact decide_eq_false hT
      have KIT := Lib.hid (fun W E => index_is (PB.out fun e => hT (by rw [e]; rfl)) W E)
      clear hT
      go_wp2_with fail
      refine (KIT.out _ (HE.out.below D1.out)).mono ?_
      rintro e u2 ⟨⟨Am, cm, rfl, hrm⟩, hb⟩
      have D2 := Lib.hid (D1.out.trans (hb.mono D1.out.size))
      have KS := Lib.hid (all_refl Am A l.length cm l.length cc l u2 hrm (rdEnts_good.up (rdEnts_good.below HL.out D2.out) D2.out.size))
      clear hb hrm
      go_wp2_with fail
      refine KS.out.mono ?_
      rintro e u3 ⟨rfl, hb⟩
      have D3 := Lib.hid (D2.out.trans (hb.mono D2.out.size))
      clear hb KS
      go_wp2_with fail
      refine (KI.out _ (HE.out.below D3.out)).mono ?_
      rintro e u4 ⟨⟨Aa, ca, rfl, hra⟩, hb⟩
      have D4 := Lib.hid (D3.out.trans (hb.mono D3.out.size))
      have HA := Lib.hid hra
      have hca : ca ≤ 9223372036854775807 := (rdEnts_at hra).2.2.1
      clear hb hra
      by_cases he : ea ≠ 0
      · have X := Lib.hid (IE.out he)
        have t1 : (ea != 0) = true := by rw [bne_iff_ne]; exact he
        have hl0 : al.length = 0 := by rw [X.out]; rfl
        have hl1 : ((al.length : Int) == 0) = true := by rw [hl0]; rfl
        clear he hl0
        go_wp2
        go_ret
        exact ⟨rfl, D4.out⟩
      obtain rfl : ea = 0 := Decidable.not_not.1 he
      obtain ⟨hn0, hback⟩ := IB.out rfl
      subst hn0
      have KI2 := Lib.hid (fun W E => index_is hback W E)
      have KP2 := Lib.hid (eprint_any Aa al.length ca al u4 HA.out (HE.out.below D4.out))
      clear he hback
      generalize prE prP al = T2 at *
      go_wp2_with fail
      refine KP2.out.mono ?_
      rintro e u5 ⟨rfl, hb⟩
      have D5 := Lib.hid (D4.out.trans (hb.mono D4.out.size))
      have HA5 := Lib.hid (rdEnts_good.up (rdEnts_good.below HA.out hb) hb.size)
      clear hb KP2
      go_wp2_with fail
      refine (KI2.out _ (HE.out.below D5.out)).mono ?_
      rintro e u6 ⟨⟨Ab, cb, rfl, hrb⟩, hb⟩
      have D6 := Lib.hid (D5.out.trans (hb.mono D5.out.size))
      have KS := Lib.hid (all_refl Aa Ab al.length ca al.length cb al u6 (rdEnts_good.up (rdEnts_good.below HA5.out hb) hb.size) hrb)
      clear hb hrb
      go_wp2_with fail
      refine KS.out.mono ?_
      rintro e u7 ⟨rfl, hb⟩
      have D7 := Lib.hid (D6.out.trans (hb.mono D6.out.size))
      clear hb
      go_wp2
      go_ret
      exact ⟨rfl, D7.out⟩
  · have hpos := WP.out rfl
    have hp1 : (0 : Int) < (LW.length : Int) := by omega
    have hlw := WL.out
    have RB := Lib.hid (RB.out rfl)
    obtain ⟨L7, hL7⟩ : ∃ L, L = LW ++ [(⟨{ data := #[79, 116, 104, 101, 114] }, { data := #[120] }⟩ : Fd)] := ⟨_, rfl⟩
    have RV := Lib.hid (show ∀ f ∈ L7, f.v.size ≤ 65536 by rw [hL7]; exact RV.out (HS1.out (by trivial)))
    have RB7 := Lib.hid (show rdP L7 = (0, ⟨n, v, d, r, c, p⟩) by rw [hL7]; exact RB.out)
    have HL7 := Lib.hid (show L7 = LW ++ [⟨{ data := #[79, 116, 104, 101, 114] }, { data := #[120] }⟩] ∧ L7.length = LW.length + 1 from ⟨hL7, by rw [hL7, List.length_append]; rfl⟩)
    clear hL7
    have GE := Lib.hid (show Grow rdFd 2 (fun _ => True) (w5.alloc (Obj.cells #[] 41)) w5.heap.size 41 (.slice (some ⟨w5.heap.size, 0, none⟩) 0 0) [] from Grow.empty _ (heap_alloc_new w5 _) (Nat.le_refl _))
    have BE := Lib.hid (show Below w5.heap.size w5 (w5.alloc (Obj.cells #[] 41)) from (Below.refl _ _).alloc (Nat.le_refl _) _)
    have XE := Lib.hid (rdFds_good.below HW.out BE.out)
    have SE := Lib.hid (show ∀ b, lt_ w5.heap.size b → True ∧ b < (w5.alloc (Obj.cells #[] 41)).heap.size ∧ (Value.slice (some ⟨w5.heap.size, 0, none⟩) 0 0).ownBlock ≠ some b from fun b hb => ⟨trivial, by rw [World.size_alloc]; unfold lt_ at hb; omega, fun hh => by simp only [Value.ownBlock, Option.some.injEq] at hh; unfold lt_ at hb; omega⟩)
    have hs0 := Lib.hid (show w5.heap.size ≤ (w5.alloc (Obj.cells #[] 41)).heap.size from BE.out.size)
    have hq1 := Lib.hid (show ([] : List Fd).length + LW.length ≤ maxLen by simp only [List.length_nil]; unfold maxLen; omega)
    have hq2 := Lib.hid (show (([] : List Fd).length + LW.length) * 32 ≤ 140737488355328 by simp only [List.length_nil]; omega)
    have hq3 := Lib.hid (show LW.length + 1 ≤ maxLen by unfold maxLen; omega)
    have hq4 := Lib.hid (show (LW.length + 1) * 32 ≤ 140737488355328 by omega)
    go_wp2_with (at_builtin; refine wpList_growN _ rfl _ _ 32 32 rfl rdFd_good (by decide) (fun _ => True) w5.heap.size 41 41 fi (.agg #[.string { data := #[] }, .string { data := #[] }]) 32 Tryz.underlying32 Tryz.underlying32 hi hz0 hz1 hz2 rfl _ _ rfl GE.out LW _ Aw LW.length cw rfl XE.out SE.out hq1.out hq2.out hs0.out ?_)
    intro v6 w6 hG6 hg6
    have B6 := Lib.hid (grow_below GE.out hg6 BE.out (Nat.le_refl _) hs0.out)
    have G6 := Lib.hid (show Grow rdFd 2 (fun _ => True) w6 w5.heap.size 41 v6 LW from hG6)
    have hs6 := Lib.hid (show w5.heap.size ≤ w6.heap.size from B6.out.size)
    have hE := (show rdFd w6 (fun b => True ∧ b < w6.heap.size ∧ v6.ownBlock ≠ some b) ⟨{ data := #[79, 116, 104, 101, 114] }, { data := #[120] }⟩ (#[.string { data := #[79, 116, 104, 101, 114] }, .string { data := #[120] }] : Array Value).toList from rfl)
    clear hG6 hg6
    go_wp2_with (at_builtin; refine wpList_grow1 w6 rfl _ _ 32 rfl rdFd_good (by decide) (fun _ => True) w5.heap.size 41 fi _ 32 Tryz.underlying32 hi hz0 hz1 hz2 rfl v6 LW rfl G6.out ⟨{ data := #[79, 116, 104, 101, 114] }, { data := #[120] }⟩ _ 41 hE _ rfl rfl hq3.out hq4.out hs6.out ?_)
    intro v7 w7 hG7 hg7
    rw [← HL7.out.1] at hG7
    have B7 := Lib.hid (grow_below G6.out hg7 B6.out (Nat.le_refl _) hs6.out)
    have R7 := Lib.hid (show rdFds w7 (lt_ w7.heap.size) L7 [v7] from hG7.read rdFd_good)
    obtain ⟨A7, c7, hv7, _⟩ := id R7.out
    simp only [List.cons.injEq, and_true] at hv7
    subst hv7
    have V7 := Lib.hid (V5.out.trans (B7.out.mono V5.out.size))
    have C7 := Lib.hid (C5.out.trans (B7.out.mono C5.out.size))
    have K7 := Lib.hid (by have := eread_any A7 L7.length c7 L7 w7 R7.out (fun nm => fst_size6 nm RV.out) (HE.out.below C7.out); rw [RB7.out] at this; exact this)
    clear hG7 hg7 GE BE XE SE hE B6 G6 B7 R7 hs0 hs6 hq1 hq2 hq3 hq4 RV RB RB7
    go_wp2_with fail
    refine K7.out.mono ?_
    rintro e w8 ⟨⟨A1y, c1y, A2y, c2y, A3y, c3y, A4y, c4y, rfl, hv8⟩, hb⟩
    have V8 := Lib.hid (V7.out.trans (hb.mono V7.out.size))
    have C8 := Lib.hid (C7.out.trans (hb.mono C7.out.size))
    obtain ⟨wb, hwb⟩ : ∃ W, W = (w8.alloc (.cells #[.string n, .string v, .slice A1y d.length c1y, .slice A2y r.length c2y, .slice A3y c.length c3y, .slice A4y p.length c4y] 25)) := ⟨_, rfl⟩
    have hbb : Below w8.heap.size w8 wb := by rw [hwb]; exact (Below.refl _ _).alloc (Nat.le_refl _) _
    have VB := Lib.hid (V8.out.trans (hbb.mono V8.out.size))
    have CB := Lib.hid (C8.out.trans (hbb.mono C8.out.size))
    have KSM := Lib.hid (same_refl ⟨n, v, d, r, c, p⟩ A1y c1y A2y c2y A3y c3y A4y c4y A1 c1 A2 c2 A3 c3 A4 c4 wb (EntV.on (show EntV w8 (lt_ w8.heap.size) ⟨n, v, d, r, c, p⟩ A1y c1y A2y c2y A3y c3y A4y c4y from ⟨rdGrps_good.more hv8.d fun b h => h.2, rdGrps_good.more hv8.r fun b h => h.2, rdAtms_good.more hv8.c fun b h => h.2, rdAtms_good.more hv8.p fun b h => h.2⟩) hbb) (HX.out.on CB.out))
    clear hb hv8 hbb K7
    obtain ⟨x0, x1, x2, x3, x4, x5⟩ := KC.out _ VB.out
    rw [hwb] at x0 x1 x2 x3 x4 x5
    go_wp2_with fail
    rw [← hwb]
    clear hwb
    refine KSM.out.mono ?_
    rintro e w9 ⟨rfl, hb⟩
    have C9 := Lib.hid (CB.out.trans (hb.mono CB.out.size))
    clear hb x0 x1 x2 x3 x4 x5 KSM
    go_wp2_with fail
    refine (KP.out _ C9.out).mono ?_
    rintro e u1 ⟨rfl, hb⟩
    have D1 := Lib.hid (C9.out.trans (hb.mono C9.out.size))
    clear hb
    by_cases hT : B T = []
    · have eT : T.toList.isEmpty = true := by rw [emp_eq]; exact decide_eq_true hT
      clear hT
      go_wp2_with fail
      refine (KI.out _ (HE.out.below D1.out)).mono ?_
      rintro e u4 ⟨⟨Aa, ca, rfl, hra⟩, hb⟩
      have D4 := Lib.hid (D1.out.trans (hb.mono D1.out.size))
      have HA := Lib.hid hra
      have hca : ca ≤ 9223372036854775807 := (rdEnts_at hra).2.2.1
      clear hb hra
      by_cases he : ea ≠ 0
      · have X := Lib.hid (IE.out he)
        have t1 : (ea != 0) = true := by rw [bne_iff_ne]; exact he
        have hl0 : al.length = 0 := by rw [X.out]; rfl
        have hl1 : ((al.length : Int) == 0) = true := by rw [hl0]; rfl
        clear he hl0
        go_wp2
        go_ret
        exact ⟨rfl, D4.out⟩
      obtain rfl : ea = 0 := Decidable.not_not.1 he
      obtain ⟨hn0, hback⟩ := IB.out rfl
      subst hn0
      have KI2 := Lib.hid (fun W E => index_is hback W E)
      have KP2 := Lib.hid (eprint_any Aa al.length ca al u4 HA.out (HE.out.below D4.out))
      clear he hback
      generalize prE prP al = T2 at *
      go_wp2_with fail
      refine KP2.out.mono ?_
      rintro e u5 ⟨rfl, hb⟩
      have D5 := Lib.hid (D4.out.trans (hb.mono D4.out.size))
      have HA5 := Lib.hid (rdEnts_good.up (rdEnts_good.below HA.out hb) hb.size)
      clear hb KP2
      go_wp2_with fail
      refine (KI2.out _ (HE.out.below D5.out)).mono ?_
      rintro e u6 ⟨⟨Ab, cb, rfl, hrb⟩, hb⟩
      have D6 := Lib.hid (D5.out.trans (hb.mono D5.out.size))
      have KS := Lib.hid (all_refl Aa Ab al.length ca al.length cb al u6 (rdEnts_good.up (rdEnts_good.below HA5.out hb) hb.size) hrb)
      clear hb hrb
      go_wp2_with fail
      refine KS.out.mono ?_
      rintro e u7 ⟨rfl, hb⟩
      have D7 := Lib.hid (D6.out.trans (hb.mono D6.out.size))
      clear hb
      go_wp2
      go_ret
      exact ⟨rfl, D7.out⟩
    · have eT : T.toList.isEmpty = false := by rw [emp_eq]; exact decide_eq_false hT
      have KIT := Lib.hid (fun W E => index_is (PB.out fun e => hT (by rw [e]; rfl)) W E)
      clear hT
      go_wp2_with fail
      refine (KIT.out _ (HE.out.below D1.out)).mono ?_
      rintro e u2 ⟨⟨Am, cm, rfl, hrm⟩, hb⟩
      have D2 := Lib.hid (D1.out.trans (hb.mono D1.out.size))
      have KS := Lib.hid (all_refl Am A l.length cm l.length cc l u2 hrm (rdEnts_good.up (rdEnts_good.below HL.out D2.out) D2.out.size))
      clear hb hrm
      go_wp2_with fail
      refine KS.out.mono ?_
      rintro e u3 ⟨rfl, hb⟩
      have D3 := Lib.hid (D2.out.trans (hb.mono D2.out.size))
      clear hb KS
      go_wp2_with fail
      refine (KI.out _ (HE.out.below D3.out)).mono ?_
      rintro e u4 ⟨⟨Aa, ca, rfl, hra⟩, hb⟩
      have D4 := Lib.hid (D3.out.trans (hb.mono D3.out.size))
      have HA := Lib.hid hra
      have hca : ca ≤ 9223372036854775807 := (rdEnts_at hra).2.2.1
      clear hb hra
      by_cases he : ea ≠ 0
      · have X := Lib.hid (IE.out he)
        have t1 : (ea != 0) = true := by rw [bne_iff_ne]; exact he
        have hl0 : al.length = 0 := by rw [X.out]; rfl
        have hl1 : ((al.length : Int) == 0) = true := by rw [hl0]; rfl
        clear he hl0
        go_wp2
        go_ret
        exact ⟨rfl, D4.out⟩
      obtain rfl : ea = 0 := Decidable.not_not.1 he
      obtain ⟨hn0, hback⟩ := IB.out rfl
      subst hn0
      have KI2 := Lib.hid (fun W E => index_is hback W E)
      have KP2 := Lib.hid (eprint_any Aa al.length ca al u4 HA.out (HE.out.below D4.out))
      clear he hback
      generalize prE prP al = T2 at *
      go_wp2_with fail
      refine KP2.out.mono ?_
      rintro e u5 ⟨rfl, hb⟩
      have D5 := Lib.hid (D4.out.trans (hb.mono D4.out.size))
      have HA5 := Lib.hid (rdEnts_good.up (rdEnts_good.below HA.out hb) hb.size)
      clear hb KP2
      go_wp2_with fail
      refine (KI2.out _ (HE.out.below D5.out)).mono ?_
      rintro e u6 ⟨⟨Ab, cb, rfl, hrb⟩, hb⟩
      have D6 := Lib.hid (D5.out.trans (hb.mono D5.out.size))
      have KS := Lib.hid (all_refl Aa Ab al.length ca al.length cb al u6 (rdEnts_good.up (rdEnts_good.below HA5.out hb) hb.size) hrb)
      clear hb hrb
      go_wp2_with fail
      refine KS.out.mono ?_
      rintro e u7 ⟨rfl, hb⟩
      have D7 := Lib.hid (D6.out.trans (hb.mono D6.out.size))
      clear hb
      go_wp2
      go_ret
      exact ⟨rfl, D7.out⟩
theorem contract (H : Type) (enc : TypeId × Value → H) (W : World) (base : Nat) (args : Array Value) (ds gs : List (DataW H)) (before : List MemPlace)
    (hval : ∀ (j : Nat) t v, Tryz.f4.params[j]? = some t → args[j]? = some v → Value.okWide Tryz.prog W .any base t v)
    (hW : DataW.Whole enc Tryz.prog Tryz.f4.params.toList Rows.entryBackSpec.vars false W args.toList ds gs before) (E : EnvR W) :
    Calls Tryz.prog 4 args W fun e W' => ∃ v, e = .returned v ∧ Rows.entryBackSpec.post enc Tryz.prog Tryz.f4 false true false false W args v W' := by
  have hW' := hW
  obtain ⟨p, q, hA0, _, _, _, _⟩ := hW
  have hA : DataW.TrodAll enc Tryz.prog W 0 (fun _ => true) true Tryz.f4.params.toList args.toList ds p := hA0
  rw [Tryz.params4] at hA hval
  obtain ⟨v0, vs0, d0, ds0, p0, q0, hargs, rfl, rfl, h0, r0⟩ := trodAll_cons hA
  obtain ⟨v1, vs1, d1, ds1, p1, q1, rfl, rfl, rfl, h1, r1⟩ := trodAll_cons r0
  obtain ⟨v2, vs2, d2, ds2, p2, q2, rfl, rfl, rfl, h2, r2⟩ := trodAll_cons r1
  obtain ⟨rfl, rfl, rfl⟩ := trodAll_nil r2
  obtain rfl : args = #[v0, v1, v2] := by cases args; simp_all
  obtain ⟨x0, A10, c10, A20, c20, A30, c30, A40, c40, rfl, hr0, hk0⟩ := open_ent_arg (hval 0 25 v0 rfl rfl) h0
  obtain ⟨A1, n1, c1, L1, rfl, hr1, hk1⟩ := open_ents_arg (hval 1 26 v1 rfl rfl) h1
  obtain ⟨s2, rfl, w2⟩ := open_str_arg (hval 2 9 v2 rfl rfl) h2
  refine (walk x0 A10 c10 A20 c20 A30 c30 A40 c40 A1 n1 c1 L1 s2 W hr0 hk0 hr1 hk1 w2 E).mono fun e W' ⟨he, hb⟩ => ?_
  subst he
  refine ⟨_, rfl, law_post hW' rfl rfl rfl rfl rfl Tryz.underlying4 laid_out ?_ hb⟩
  rw [Tryz.params4]
  intro t ht
  simp at ht
  rcases ht with rfl | rfl | rfl <;> exact ⟨by kernel_rfl, of_decide_eq_true (by kernel_rfl)⟩
theorem reads (os : Os) {H : Type} (enc : TypeId × Value → H) : ∃ x, DataW.whole enc Tryz.prog ((World.laidAll Tryz.prog os laidL).forCall (fun _ _ => 0) ⟨#[], #[.agg #[.string ⟨#[]⟩, .string ⟨#[]⟩, .slice none 0 0, .slice none 0 0, .slice none 0 0, .slice none 0 0], .slice none 0 0, .string ⟨#[]⟩], []⟩).memory Tryz.f4.params.toList Rows.entryBackSpec.vars false ((#[.agg #[.string ⟨#[]⟩, .string ⟨#[]⟩, .slice none 0 0, .slice none 0 0, .slice none 0 0, .slice none 0 0], .slice none 0 0, .string ⟨#[]⟩] : Array Value)).toList 8 = some x :=
  Option.isSome_iff_exists.1 (by kernel_rfl)
theorem readsSized (os : Os) {H : Type} (enc : TypeId × Value → H) : (OpenSpec.ofChange Rows.entryBackSpec).bare.sizedB enc Tryz.prog Tryz.f4 false ((World.laidAll Tryz.prog os laidL).forCall (fun _ _ => 0) ⟨#[], #[.agg #[.string ⟨#[]⟩, .string ⟨#[]⟩, .slice none 0 0, .slice none 0 0, .slice none 0 0, .slice none 0 0], .slice none 0 0, .string ⟨#[]⟩], []⟩).memory #[.agg #[.string ⟨#[]⟩, .string ⟨#[]⟩, .slice none 0 0, .slice none 0 0, .slice none 0 0, .slice none 0 0], .slice none 0 0, .string ⟨#[]⟩] 8 = true := by kernel_rfl
theorem okWit (os : Os) : Input.okWideB Tryz.prog ((World.laidAll Tryz.prog os laidL).forCall (fun _ _ => 0) ⟨#[], #[.agg #[.string ⟨#[]⟩, .string ⟨#[]⟩, .slice none 0 0, .slice none 0 0, .slice none 0 0, .slice none 0 0], .slice none 0 0, .string ⟨#[]⟩], []⟩) 4 ⟨#[], #[.agg #[.string ⟨#[]⟩, .string ⟨#[]⟩, .slice none 0 0, .slice none 0 0, .slice none 0 0, .slice none 0 0], .slice none 0 0, .string ⟨#[]⟩], []⟩ = true := by kernel_rfl
theorem lifted (os : Os) (started : os.Started) (H : Type) (enc : TypeId × Value → H) (F : Stop.Interp) :
    ReturnsInHanded {} Tryz.checked os 4 .any ((OpenSpec.ofChange Rows.entryBackSpec).preRow enc Tryz.prog Tryz.f4 Rows.entryBackRow.domain false Rows.entryBackRow.laid) (((OpenSpec.ofChange Rows.entryBackSpec).at F).post enc Tryz.prog Tryz.f4 false true false false) := by
  obtain ⟨x, hx⟩ := reads os enc
  have hz := readsSized os enc
  refine returnsInHanded_of_row (C := Tryz.checked) (s := OpenSpec.ofChange Rows.entryBackSpec) own' started (by kernel_rfl) Tryz.func4
    ⟨World.laidAll Tryz.prog os laidL, fun _ _ => 0, ⟨#[], #[.agg #[.string ⟨#[]⟩, .string ⟨#[]⟩, .slice none 0 0, .slice none 0 0, .slice none 0 0, .slice none 0 0], .slice none 0 0, .string ⟨#[]⟩], []⟩, door_os os, door_shaped os _, (Input.okWide_of_okWideB (base := 0) (okWit os)).1, (Input.okWide_of_okWideB (okWit os)).2,
      OpenSpec.preRow_of_cond 8 hx rfl (fun k hk => by cases hk) hz (door_met os _), by
        simp only [Assume.holds]
        exact ⟨by simp, by simp, fun _ => Modest.zero, by simp, by simp⟩⟩ ?_
  intro W base args ds gs before hval hW _ _ _ hL hsh _
  exact contract H enc W base args ds gs before hval hW (env_of hL hsh)
theorem said : Rows.EntryBackSaid :=
  OpenClaim.holds_of_cond 4 Tryz.f4 rfl rfl rfl rfl rfl rfl rfl ⟨rfl, rfl, rfl, rfl, rfl⟩ rfl rfl rfl rfl rfl (by kernel_rfl) Tryz.func4 (by kernel_rfl)
    (of_decide_eq_true (by kernel_rfl)) (by unfold Func.isWrapper; first | (rw [if_pos (by decide +kernel)]; kernel_rfl) | (rw [if_neg (by decide +kernel)]; exact ⟨rfl, rfl⟩))
    (fun os started H enc _ F => by rw [OpenClaim.pre_eq_preRow]; exact lifted os started H enc F)
theorem proved : Rows.EntryBackCardSaid :=
  Claim7.holds_tied_plain_at .later [] _ _ _ _ said (fun _ h => by cases h) (by kernel_rfl) (fun _ h => by cases h) entryBack_row_tie rfl ⟨rfl, rfl⟩ (by kernel_rfl) rfl
    (fun f fn hf hfn => by
      obtain rfl : f = 4 := Option.some.inj ((show Tryz.prog.funcNamed "keelson/keelsonlaw6.EntryBack" = some 4 by kernel_rfl).symm.trans hf) |>.symm
      obtain rfl : fn = Tryz.f4 := (Option.some.inj (Tryz.func4.symm.trans hfn)).symm
      exact ⟨by kernel_rfl, fun j t ht => by
        rw [Tryz.params4] at ht
        have hm : t ∈ [25, 26, 9] := by have := Array.mem_of_getElem? ht; simp at this; simp [this]
        have hall : ([25, 26, 9].all fun u => !Tryz.prog.wantsStandIn u) = true := by kernel_rfl
        exact (show Tryz.prog.wantsStandIn t = false by simpa using List.all_eq_true.1 hall t hm)⟩)
    (by kernel_rfl)
#print axioms proved
end Go.Proofs.YtmlakjemgmeffaaGreatDoor.entryBack
