/- The contracts of pieces and of the function that it hands back, at whatever loop ranges over it. -/
import Derived.RangeFuncNested
import Derived.RangeFuncBound
import Derived.RangeFuncCalls
import Derived.RangeFuncLeaves
import Derived.Shelf.Abstract
import Derived.Shelf.RegionOpen
import Derived.WalkKit
import Derived.OwnWalkIn
import Derived.TacticsInMore
import Derived.LoopNIn
import Derived.LoopIn
import Derived.Test.YtmlakjemgmeffaaGreatDoorMT
import Derived.Test.YtmlakjemgmeffaaGreatDoorMP
set_option maxRecDepth 100000
set_option linter.unusedVariables false
set_option linter.unusedSimpArgs false
namespace Go.Proofs.YtmlakjemgmeffaaGreatDoor
open Go.RowKit Go.Shelf
attribute [local go_sem] Oper.semAt_some
theorem idxB_no {c : UInt8} : ∀ {l : List UInt8}, (∀ x ∈ l, x ≠ c) → Lib.indexByte l c = -1
  | [], _ => rfl
  | x :: l, h => by
    have hx : (x == c) = false := by rw [beq_eq_false_iff_ne]; exact h x (by simp)
    simp only [Lib.indexByte, hx, Bool.false_eq_true, if_false]
    rw [idxB_no fun y hy => h y (by simp [hy])]; rfl
theorem idxB_at {c : UInt8} : ∀ {a b : List UInt8}, (∀ x ∈ a, x ≠ c) → Lib.indexByte (a ++ c :: b) c = a.length
  | [], b, _ => by simp [Lib.indexByte]
  | x :: a, b, h => by
    have hx : (x == c) = false := by rw [beq_eq_false_iff_ne]; exact h x (by simp)
    simp only [List.cons_append, Lib.indexByte, hx, Bool.false_eq_true, if_false]
    rw [idxB_at fun y hy => h y (by simp [hy])]
    have : ((a.length : Int) == -1) = false := by rw [beq_eq_false_iff_ne]; omega
    rw [this]; simp
theorem cutc_no (s : ByteArray) (c : UInt8) (w : World) (hs : s.size ≤ 65536) (E : Env w) (h : ∀ x ∈ B s, x ≠ c.toNat) :
    Calls Tryz.prog 119 #[.string s, .string { data := #[c] }] w fun e w' => e = .returned (.tuple #[.string s, .string { data := #[] }, .bool false]) ∧ ∃ n, w' = w.drewN n := by
  obtain ⟨m, hm⟩ := E.max
  refine (Tryz.strings_Cut s { data := #[c] } m w (by omega) hm).mono ?_
  rintro e w' ⟨rfl, n, rfl⟩
  refine ⟨?_, n, rfl⟩
  have hi : Lib.indexByte s.data.toList c = -1 := idxB_no fun x hx hh => h x.toNat (List.mem_map_of_mem hx) (by rw [hh])
  have e0 : Lib.cut s.data.toList [c] = (s.data.toList, [], false) := by
    unfold Lib.cut; rw [Lib.index_one, if_neg (by omega)]
  show Ending.returned (.tuple #[.string ⟨(Lib.cut s.data.toList [c]).1.toArray⟩, .string ⟨(Lib.cut s.data.toList [c]).2.1.toArray⟩, .bool (Lib.cut s.data.toList [c]).2.2]) = _
  rw [e0]
theorem cutc_at (s : ByteArray) (c : UInt8) (w : World) (hs : s.size ≤ 65536) (E : Env w) {a b : List Nat} (h : B s = a ++ c.toNat :: b) (ha : ∀ x ∈ a, x ≠ c.toNat) :
    Calls Tryz.prog 119 #[.string s, .string { data := #[c] }] w fun e w' => e = .returned (.tuple #[.string (mk a), .string (mk b), .bool true]) ∧ ∃ n, w' = w.drewN n := by
  obtain ⟨m, hm⟩ := E.max
  refine (Tryz.strings_Cut s { data := #[c] } m w (by omega) hm).mono ?_
  rintro e w' ⟨rfl, n, rfl⟩
  refine ⟨?_, n, rfl⟩
  obtain ⟨a', r', e1, e2, e3⟩ : ∃ a' r', s.data.toList = a' ++ r' ∧ a'.map UInt8.toNat = a ∧ r'.map UInt8.toNat = c.toNat :: b := by
    have h' : s.data.toList.map UInt8.toNat = a ++ c.toNat :: b := h
    obtain ⟨a', r', h1, h2, h3⟩ := List.map_eq_append_iff.1 h'
    exact ⟨a', r', h1, h2, h3⟩
  obtain ⟨c', b', rfl, e4, e5⟩ := List.map_eq_cons_iff.1 e3
  have hcc : c' = c := UInt8.toNat_inj.1 e4
  subst hcc
  have hi : Lib.indexByte s.data.toList c' = (a'.length : Int) := by
    rw [e1]; exact idxB_at fun x hx hh => ha x.toNat (by rw [← e2]; exact List.mem_map_of_mem hx) (by rw [hh])
  have e0 : Lib.cut s.data.toList [c'] = (a', b', true) := by
    unfold Lib.cut; rw [Lib.index_one, if_pos (by omega), hi, e1]
    simp
  show Ending.returned (.tuple #[.string ⟨(Lib.cut s.data.toList [c']).1.toArray⟩, .string ⟨(Lib.cut s.data.toList [c']).2.1.toArray⟩, .bool (Lib.cut s.data.toList [c']).2.2]) = _
  rw [e0, ← e2, ← e5]
  have key : ∀ l : List UInt8, (⟨l.toArray⟩ : ByteArray) = mk (l.map UInt8.toNat) := fun l => eq_mk (by unfold B; simp)
  rw [key, key]
theorem trimB_is (s : ByteArray) : (⟨(Lib.trimB s.data.toList 32).toArray⟩ : ByteArray) = mk (trm (B s)) := by
  refine eq_mk ?_
  have hd : ∀ l : List UInt8, (l.dropWhile (· == 32)).map UInt8.toNat = (l.map UInt8.toNat).dropWhile (fun c => c == 32) := by
    intro l
    induction l with
    | nil => rfl
    | cons x l ih =>
      rw [List.map_cons, List.dropWhile_cons, List.dropWhile_cons]
      have : (x == 32) = (x.toNat == 32) := by
        rw [Bool.eq_iff_iff, beq_iff_eq, beq_iff_eq]
        exact ⟨fun h => by rw [h]; rfl, fun h => UInt8.toNat_inj.1 h⟩
      rw [this]
      split
      · exact ih
      · rfl
  unfold B Lib.trimB Lib.trimLeftB Lib.trimRightB trm trmR
  simp only [List.toList_toArray, hd, List.map_reverse]
theorem trim_any (s : ByteArray) (w : World) (hs : s.size ≤ 65536) : Calls Tryz.prog 120 #[.string s, .string { data := #[32] }] w fun e w' => e = .returned (.string (mk (trm (B s)))) ∧ ∃ n, w' = w.drewN n := by
  refine (Tryz.strings_Trim_one s 32 (by decide) w (by omega)).mono ?_
  rintro e w' ⟨rfl, hw⟩
  refine ⟨by rw [trimB_is], ?_⟩
  rcases hw with rfl | rfl
  · exact ⟨0, rfl⟩
  · exact ⟨1, rfl⟩
theorem cut_cases (c : Nat) : ∀ l : List Nat, (∀ x ∈ l, x ≠ c) ∨ ∃ a b, l = a ++ c :: b ∧ ∀ x ∈ a, x ≠ c
  | [] => .inl (by simp)
  | x :: l => by
    by_cases h : x = c
    · exact .inr ⟨[], l, by rw [h]; rfl, by simp⟩
    · rcases cut_cases c l with h1 | ⟨a, b, h1, h2⟩
      · exact .inl fun y hy => by rcases List.mem_cons.1 hy with rfl | hy; exact h; exact h1 y hy
      · exact .inr ⟨x :: a, b, by rw [h1]; rfl, fun y hy => by rcases List.mem_cons.1 hy with rfl | hy; exact h; exact h2 y hy⟩
def msI : Value → Value → Nat
  | .string r, .bool true => r.size + 1
  | _, _ => 0
/-- What the pieces are: cut at each c, without blanks at their ends. -/
def ptsL (c : Nat) (l : List Nat) : List (List Nat) := (cutBy c l).map trm
theorem abides_drewN {β : Type} {B : Nat} {J : β → World → Prop} (h : AbidesFrom B J) {x : β} {W : World} (hJ : J x W) (n : Nat) : J x (W.drewN n) :=
  h x W (W.drewN n) none hJ ⟨rfl, rfl, rfl, Nat.le_refl _, fun _ _ _ => rfl⟩ (fun r e => by cases e)
/-- A piece: a text that is not too long. -/
abbrev Pc := { x : ByteArray // x.size ≤ 65536 }
def pcB (x : Pc) : List Nat := B x.1
/-- A round keeps the block of what is cut at, and all that lay when the caller began. -/
def KpM (n₀ bm : Nat) : World → World → Prop := fun W W' => W'.heap[bm]? = W.heap[bm]? ∧ Below n₀ W W'
set_option maxHeartbeats 2000000 in
theorem pieces1_in (w0 : World) (E : Env w0) (n : Nat) (hn : 1 ≤ n) (l bs bm : Nat) (s : ByteArray) (c : UInt8) (J Jx : List Pc → World → Prop) (hs : s.size ≤ 65536)
    (W : World) (hJ : AbidesFrom W.heap.size J)
    (hY : ∀ pre x W1, J pre W1 → pre.length < (ptsL c.toNat (B s)).length → YieldAt Fence.wide (n - 1) Tryz.prog l #[.string x.1] W1 fun e W' =>
      (e = .returned (.bool true) ∧ J (pre ++ [x]) W' ∧ KpM w0.heap.size bm W1 W') ∨ (e = .returned (.bool false) ∧ Jx (pre ++ [x]) W'))
    (hbs : W.cell? ⟨bs, 0, none⟩ = some (.string s)) (hbm : W.cell? ⟨bm, 0, none⟩ = some (.string { data := #[c] })) (hW : Below w0.heap.size w0 W) (h0 : J [] W) :
    CallsIn Fence.wide n Tryz.prog 118 #[.func (.yield l) #[] #[], .pointer (some ⟨bs, 0, none⟩), .pointer (some ⟨bm, 0, none⟩)] W fun e W' => (∃ v, e = .returned v) ∧
      ((∃ ys : List Pc, ys.map pcB = ptsL c.toNat (B s) ∧ J ys W') ∨ (∃ pre : List Pc, pre.map pcB <+: ptsL c.toNat (B s) ∧ Jx pre W')) := by
  refine callsIn_of_wp Tryz.func118 rfl trivial ?_ rfl
  simp only [Tryz.ntmps118, List.size_toArray, List.length_cons, List.length_nil, Nat.reduceAdd, Nat.reduceSub, Array.replicate_succ, Array.replicate_zero, List.push_toArray, List.append_toArray, List.nil_append, List.cons_append]
  have HE := Lib.hid E
  clear E
  gi_wp2
  gi_loopw [4, 5, 6] (fun r b pc wr => ∃ (pre : List Pc) (rs : ByteArray) (bb : Bool), r = .string rs ∧ b = .bool bb ∧ rs.size ≤ 65536 ∧ (bb = true → ptsL c.toNat (B s) = pre.map pcB ++ ptsL c.toNat (B rs)) ∧ (bb = false → ptsL c.toNat (B s) = pre.map pcB) ∧ J pre wr ∧ wr.cell? ⟨bm, 0, none⟩ = some (.string { data := #[c] }) ∧ Below w0.heap.size w0 wr)
    (fun r b _ _ => msI r b)
  case atStart =>
    exact ⟨[], s, true, rfl, rfl, hs, fun _ => rfl, (fun h => by cases h), h0, hbm, hW⟩
  case round =>
    obtain ⟨pre, rs, bb, rfl, rfl, hrs, hP, hQ, hJs, hm, hbel⟩ := hrel
    have hE := HE.out.below hbel
    cases bb with
    | false =>
      have X := Lib.hid (hQ rfl)
      clear hP hQ
      gi_wp2
      go_end0
      exact ⟨⟨_, rfl⟩, .inl ⟨pre, X.out.symm, hJs⟩⟩
    | true =>
      have HP := Lib.hid (hP rfl)
      clear hP hQ
      rcases cut_cases c.toNat (B rs) with hc | ⟨a, b, hab, ha⟩
      · have zt : (mk (trm (B rs))).size ≤ 65536 := by rw [size_mk]; have := trm_len (B rs); rw [B_len] at this; omega
        have et : B (mk (trm (B rs))) = trm (B rs) := B_mk fun x hx => B_lt rs x (trm_mem hx)
        have X : ptsL c.toNat (B s) = (pre ++ [(⟨mk (trm (B rs)), zt⟩ : Pc)]).map pcB := by rw [HP.out]; unfold ptsL; rw [cutBy_none hc, List.map_append]; simp only [List.map_cons, List.map_nil, pcB, et]
        have HX := Lib.hid X
        have hlen : pre.length < (ptsL c.toNat (B s)).length := by rw [X, List.length_map, List.length_append, List.length_singleton]; omega
        have K := Lib.hid (cutc_no rs c wr hrs hE hc)
        have KT := Lib.hid (fun w => trim_any rs w hrs)
        clear X hc HP et
        generalize mk (trm (B rs)) = st at *
        gi_wp2_with fail
        refine ⟨trivial, ?_⟩
        refine (callsIn_wide.2 K.out).mono ?_
        rintro e w1 ⟨rfl, q1, rfl⟩
        gi_wp2_with fail
        refine ⟨trivial, ?_⟩
        refine (callsIn_wide.2 (KT.out _)).mono ?_
        rintro e w2 ⟨rfl, q2, rfl⟩
        obtain ⟨fn, tmps, assign, body, hy, hR⟩ := hY pre ⟨st, zt⟩ (wr.drewN (q1 + q2)) (abides_drewN hJ hJs _) hlen
        gi_wp2
        refine hR.mono ?_
        rintro e W3 (⟨rfl, hJ3, hk3⟩ | ⟨rfl, hJx3⟩)
        · have hm3 : W3.cell? ⟨bm, 0, none⟩ = some (.string { data := #[c] }) := (World.cell?_of_block (w := wr) hk3.1).trans hm
          have hE3 := (belD hbel (q1 + q2)).trans hk3.2
          gi_wp2
          go_roundw
          case rel => exact ⟨_, { data := #[] }, false, rfl, rfl, by decide, (fun h => by cases h), fun _ => HX.out, hJ3, hm3, hE3⟩
          case measure => simp [msI]
        · gi_wp2
          refine bodyPost_ret (results_none rfl _ _ _) rfl ?_
          exact ⟨⟨_, rfl⟩, .inr ⟨_, by rw [HX.out]; exact List.prefix_rfl, hJx3⟩⟩
      · have hc256 : ∀ x ∈ B rs, x < 256 := B_lt rs
        have ha256 : ∀ x ∈ a, x < 256 := fun x hx => hc256 x (by rw [hab]; simp [hx])
        have hb256 : ∀ x ∈ b, x < 256 := fun x hx => hc256 x (by rw [hab]; simp [hx])
        have zt : (mk (trm a)).size ≤ 65536 := by rw [size_mk]; have := trm_len a; have := congrArg List.length hab; rw [B_len, List.length_append] at this; omega
        have et : B (mk (trm a)) = trm a := B_mk fun x hx => ha256 x (trm_mem hx)
        have X : ptsL c.toNat (B s) = (pre ++ [(⟨mk (trm a), zt⟩ : Pc)]).map pcB ++ ptsL c.toNat b := by rw [HP.out]; unfold ptsL; rw [hab, cutBy_at ha, List.map_append]; simp only [List.map_cons, List.map_nil, pcB, et, List.append_assoc, List.singleton_append]
        have HX := Lib.hid X
        have hlen : pre.length < (ptsL c.toNat (B s)).length := by rw [X, List.length_append, List.length_map, List.length_append, List.length_singleton]; omega
        have K := Lib.hid (cutc_at rs c wr hrs hE hab ha)
        have hl := congrArg List.length hab
        rw [B_len, List.length_append, List.length_cons] at hl
        have ea : B (mk a) = a := B_mk ha256
        have eb : B (mk b) = b := B_mk hb256
        have za : (mk a).size ≤ 65536 := by rw [size_mk]; omega
        have zb : (mk b).size ≤ 65536 := by rw [size_mk]; omega
        have zm : (mk b).size < rs.size := by rw [size_mk]; omega
        have KT := Lib.hid (fun w => trim_any (mk a) w za)
        rw [ea] at KT
        rw [← eb] at HX
        generalize mk a = sa at *
        generalize mk b = sb at *
        clear X hab ha HP hl ea eb hc256 ha256 hb256 za et
        generalize mk (trm a) = st at *
        gi_wp2_with fail
        refine ⟨trivial, ?_⟩
        refine (callsIn_wide.2 K.out).mono ?_
        rintro e w1 ⟨rfl, q1, rfl⟩
        gi_wp2_with fail
        refine ⟨trivial, ?_⟩
        refine (callsIn_wide.2 (KT.out _)).mono ?_
        rintro e w2 ⟨rfl, q2, rfl⟩
        obtain ⟨fn, tmps, assign, body, hy, hR⟩ := hY pre ⟨st, zt⟩ (wr.drewN (q1 + q2)) (abides_drewN hJ hJs _) hlen
        gi_wp2
        refine hR.mono ?_
        rintro e W3 (⟨rfl, hJ3, hk3⟩ | ⟨rfl, hJx3⟩)
        · have hm3 : W3.cell? ⟨bm, 0, none⟩ = some (.string { data := #[c] }) := (World.cell?_of_block (w := wr) hk3.1).trans hm
          have hE3 := (belD hbel (q1 + q2)).trans hk3.2
          gi_wp2
          go_roundw
          case rel => exact ⟨_, sb, true, rfl, rfl, zb, (fun _ => HX.out), (fun h => by cases h), hJ3, hm3, hE3⟩
          case measure => simp [msI]; omega
        · gi_wp2
          refine bodyPost_ret (results_none rfl _ _ _) rfl ?_
          exact ⟨⟨_, rfl⟩, .inr ⟨_, by rw [HX.out]; exact List.prefix_append _ _, hJx3⟩⟩
theorem pieces_stops (w0 : World) (E : Env w0) (n : Nat) (hn : 1 ≤ n) (bs bm : Nat) (s : ByteArray) (c : UInt8) (hs : s.size ≤ 65536) (w : World) (hw : Below w0.heap.size w0 w)
    (hbs : w.cell? ⟨bs, 0, none⟩ = some (.string s)) (hbm : w.cell? ⟨bm, 0, none⟩ = some (.string { data := #[c] })) :
    SeqStopsK Fence.wide n Tryz.prog 118 #[.pointer (some ⟨bs, 0, none⟩), .pointer (some ⟨bm, 0, none⟩)] (fun x : Pc => #[Value.string x.1]) (KpM w0.heap.size bm) (fun ys => ys.map pcB = ptsL c.toNat (B s)) (fun pre => pre.map pcB <+: ptsL c.toNat (B s)) (ptsL c.toNat (B s)).length w :=
  fun l J Jx W hW hJ _ hY h0 => pieces1_in w0 E n hn l bs bm s c J Jx hs W hJ hY ((hW.cell (World.block_lt_of_cell? _ _ hbs)).trans hbs) ((hW.cell (World.block_lt_of_cell? _ _ hbm)).trans hbm) (hw.trans (hW.mono hw.size)) h0
theorem kpM_t {n₀ bm : Nat} {A B C : World} (h : KpM n₀ bm A B) (k : KpM n₀ bm B C) : KpM n₀ bm A C := ⟨k.1.trans h.1, h.2.trans k.2⟩
theorem kpM_b {n₀ bm : Nat} {w : World} (hn : n₀ ≤ w.heap.size) (hb : bm < w.heap.size) (W : World) (l : Nat) (o o' : Obj) (hl : w.heap.size ≤ l) (h : W.heap[l]? = some o) (h1 : o.isCells = false) (h2 : o.isWalk = false) : KpM n₀ bm W (W.putObj l o') :=
  ⟨World.putObj_heap_other (by omega), belowK_b hn W l o o' hl h h1 h2⟩
theorem pieces_any (s mark : ByteArray) (w : World) : Calls Tryz.prog 86 #[.string s, .string mark] w fun e w' =>
    e = .returned (.func (.func 118) #[] #[.pointer (some ⟨w.heap.size, 0, none⟩), .pointer (some ⟨w.heap.size + 1, 0, none⟩)]) ∧ w' = (w.alloc (.cells #[.string s] 9)).alloc (.cells #[.string mark] 9) := by
  go_enter Tryz.func86, Tryz.ntmps86
  go_wp2
  go_ret
  exact ⟨by simp, rfl⟩
end Go.Proofs.YtmlakjemgmeffaaGreatDoor
