/- The contracts of the program's met and Open. -/
import Derived.Test.YtfpbeenaploaiaaGreatDoorD4nZ
import Derived.Test.YtfpbeenaploaiaaGreatDoorD4kZ
import Derived.Test.YtfpbeenaploaiaaGreatDoorD4bZ
set_option maxRecDepth 100000
set_option linter.unusedVariables false
set_option linter.unusedSimpArgs false
namespace Go.Proofs.YtfpbeenaploaiaaGreatDoor
open Go.RowKit
def prv (a h : Atm) : Bool := provB (B a.n) a.o (B a.v) (B h.n) h.o (B h.v)
def metB (g hv : List Atm) : Bool := g.any fun a => hv.any fun h => prv a h
theorem rprov_atom (a h : Atm) (w : World) (E : EnvR w) : Calls Tryz.prog 23 #[.agg #[.string a.n, .int .i64 a.o, .string a.v], .agg #[.string h.n, .int .i64 h.o, .string h.v]] w fun e' w' => e' = .returned (.bool (prv a h)) ∧ Below w.heap.size w w' := rprov_any a.n a.o a.v h.n h.o h.v w E
theorem any_takeL {α : Type} (p : α → Bool) (l : List α) (k : Nat) (hk : k < l.length) : (l.take (k + 1)).any p = ((l.take k).any p || p l[k]) := by
  rw [List.take_succ_eq_append_getElem hk, List.any_append]; simp
theorem any_hit {α : Type} {p : α → Bool} {l : List α} {k : Nat} (hk : k < l.length) (h : p l[k] = true) : l.any p = true := by
  rw [List.any_eq_true]; exact ⟨l[k], List.getElem_mem hk, h⟩
theorem new3 (w : World) (x y z : Value) (T : TypeId) : (w.alloc (.cells #[x, y, z] T)).cell? ⟨w.heap.size, 0, none⟩ = some x ∧ (w.alloc (.cells #[x, y, z] T)).cell? ⟨w.heap.size, 1, none⟩ = some y ∧ (w.alloc (.cells #[x, y, z] T)).cell? ⟨w.heap.size, 2, none⟩ = some z := by
  simp [go_sem]
theorem keep3 {w w' : World} {b : Nat} {x y z : Value} (hb : Below w.heap.size w w') (h : w.cell? ⟨b, 0, none⟩ = some x ∧ w.cell? ⟨b, 1, none⟩ = some y ∧ w.cell? ⟨b, 2, none⟩ = some z) : w'.cell? ⟨b, 0, none⟩ = some x ∧ w'.cell? ⟨b, 1, none⟩ = some y ∧ w'.cell? ⟨b, 2, none⟩ = some z :=
  ⟨(hb.cell (World.block_lt_of_cell? _ _ h.1)).trans h.1, (hb.cell (World.block_lt_of_cell? _ _ h.2.1)).trans h.2.1, (hb.cell (World.block_lt_of_cell? _ _ h.2.2)).trans h.2.2⟩
set_option maxHeartbeats 2000000 in
theorem met_any (A A' : Option Addr) (n c n' c' : Nat) (g hv : List Atm) (w : World) (h : rdAtms w (lt_ w.heap.size) g [.slice A n c]) (h' : rdAtms w (lt_ w.heap.size) hv [.slice A' n' c']) (E : EnvR w) :
    Calls Tryz.prog 14 #[.slice A n c, .slice A' n' c'] w fun e w' => e = .returned (.bool (metB g hv)) ∧ Below w.heap.size w w' := by
  obtain ⟨rfl, hnc, hcm, _⟩ := rdAtms_at h
  obtain ⟨rfl, hnc', hcm', _⟩ := rdAtms_at h'
  have hcm1 : c ≤ 9223372036854775807 := hcm
  have hcm2 : c' ≤ 9223372036854775807 := hcm'
  have HE := Lib.hid E
  have HR := Lib.hid h
  have HR' := Lib.hid h'
  clear E h h'
  go_enter Tryz.func14, Tryz.ntmps14
  go_wp2
  go_loopw [6, 8, 11] (fun b b2 i wr => ∃ k : Nat, k ≤ g.length ∧ i = .int .i64 k ∧ (g.take k).any (fun a => hv.any fun h => prv a h) = false ∧ Below w.heap.size w wr) (fun _ _ i _ => g.length - (intOf i).toNat)
  case atStart => exact ⟨0, Nat.zero_le _, rfl, rfl, Below.refl _ _⟩
  case round =>
    obtain ⟨k, hk, rfl, hall, hbel⟩ := hrel
    by_cases hlt : k < g.length
    · obtain ⟨ad, rfl, had, e0, e1, e2⟩ := (rdAtms_at (rdAtms_good.below HR.out hbel)).2.2.2 k hlt
      have TK := Lib.hid (any_takeL (fun a => hv.any fun h => prv a h) g k hlt)
      have ZK := Lib.hid (any_hit (p := fun a => hv.any fun h => prv a h) (l := g) (k := k) hlt)
      have A2 := Lib.hid hall
      have HB := Lib.hid (hbel.alloc hbel.size (.cells #[.string g[k].n, .int .i64 g[k].o, .string g[k].v] 25))
      have hnew := new3 wr (.string g[k].n) (.int .i64 g[k].o) (.string g[k].v) 25
      clear hall hbel
      generalize g[k] = x at *
      go_wp2
      go_loopw [8, 17] (fun b2 i wr2 => ∃ q : Nat, q ≤ hv.length ∧ i = .int .i64 q ∧ (hv.take q).any (prv x) = false ∧ (wr2.cell? ⟨wr.heap.size, 0, none⟩ = some (.string x.n) ∧ wr2.cell? ⟨wr.heap.size, 1, none⟩ = some (.int .i64 x.o) ∧ wr2.cell? ⟨wr.heap.size, 2, none⟩ = some (.string x.v)) ∧ Below w.heap.size w wr2) (fun _ i _ => hv.length - (intOf i).toNat)
      case atStart => exact ⟨0, Nat.zero_le _, rfl, rfl, hnew, HB.out⟩
      case round =>
        obtain ⟨q, hq, rfl, hall2, ⟨b0, b1, b2⟩, hbel2⟩ := hrel
        clear hnew
        by_cases hlt2 : q < hv.length
        · obtain ⟨ad2, rfl, had2, m0, m1, m2⟩ := (rdAtms_at (rdAtms_good.below HR'.out hbel2)).2.2.2 q hlt2
          have TQ := Lib.hid (any_takeL (prv x) hv q hlt2)
          have ZQ := Lib.hid (any_hit (p := prv x) (l := hv) (k := q) hlt2)
          have AQ := Lib.hid hall2
          have H2 := Lib.hid hbel2
          have EE := Lib.hid (HE.out.below hbel2)
          clear hall2 hbel2
          generalize hv[q] = y at *
          have K := Lib.hid (fun w E => rprov_atom x y w E)
          have n0 := cell_al (.cells #[.string y.n, .int .i64 y.o, .string y.v] 25) b0
          have n1 := cell_al (.cells #[.string y.n, .int .i64 y.o, .string y.v] 25) b1
          have n2 := cell_al (.cells #[.string y.n, .int .i64 y.o, .string y.v] 25) b2
          cases hp : prv x y
          · have P := Lib.hid hp
            rw [hp] at K
            clear hp
            go_wp2_with fail
            refine (K.out _ (EE.out.alloc _)).mono ?_
            rintro e w3 ⟨rfl, hb3⟩
            have kept := keep3 hb3 ⟨n0, n1, n2⟩
            have HB3 := Lib.hid (bel2 H2.out (atm_box hb3) (Nat.le_refl _))
            clear hb3 b0 b1 b2 n0 n1 n2
            go_wp2
            go_roundw
            case rel => exact ⟨q + 1, by omega, by go_num, by rw [TQ.out, AQ.out, P.out]; rfl, kept, HB3.out⟩
            case measure => simp [intOf]; omega
          · have X := Lib.hid (show metB g hv = true from ZK.out (ZQ.out hp))
            rw [hp] at K
            clear hp
            go_wp2_with fail
            refine (K.out _ (EE.out.alloc _)).mono ?_
            rintro e w3 ⟨rfl, hb3⟩
            have HB3 := Lib.hid (bel2 H2.out (atm_box hb3) (Nat.le_refl _))
            clear hb3 b0 b1 b2 n0 n1 n2
            go_wp2
            go_ret
            exact ⟨by rw [X.out]; try rfl, HB3.out⟩
        · obtain rfl : q = hv.length := by omega
          rw [List.take_length] at hall2
          have X := Lib.hid (show (g.take (k + 1)).any (fun a => hv.any fun h => prv a h) = false by rw [TK.out, A2.out]; exact hall2)
          have H2 := Lib.hid hbel2
          clear hall2 hbel2 b0 b1 b2
          go_wp2
          go_roundw
          case rel => exact ⟨k + 1, by omega, by go_num, X.out, H2.out⟩
          case measure => simp [intOf]; omega
    · obtain rfl : k = g.length := by omega
      have X := Lib.hid (show metB g hv = false by rw [List.take_length] at hall; exact hall)
      clear hall
      go_wp2
      go_ret
      exact ⟨by rw [X.out]; try rfl, hbel⟩
/-- The places, from a number on, of the groups that nothing meets. -/
def openF (hv : List Atm) : Nat → List (List Atm) → List Int
  | _, [] => []
  | i, g :: r => if metB g hv = true then openF hv (i + 1) r else (i : Int) :: openF hv (i + 1) r
theorem openF_app (hv : List Atm) : ∀ (i : Nat) (a b : List (List Atm)), openF hv i (a ++ b) = openF hv i a ++ openF hv (i + a.length) b
  | i, [], b => by simp [openF]
  | i, g :: r, b => by
    rw [List.cons_append]
    simp only [openF]
    rw [openF_app hv (i + 1) r b, show i + 1 + r.length = i + (g :: r).length by simp; omega]
    split <;> simp
theorem openF_len (hv : List Atm) : ∀ (i : Nat) (a : List (List Atm)), (openF hv i a).length ≤ a.length
  | i, [] => by simp [openF]
  | i, g :: r => by
    have := openF_len hv (i + 1) r
    simp only [openF]
    split <;> simp <;> omega
theorem openF_snoc (hv : List Atm) (L : List (List Atm)) (k : Nat) (hk : k < L.length) : openF hv 0 (L.take (k + 1)) = if metB L[k] hv = true then openF hv 0 (L.take k) else openF hv 0 (L.take k) ++ [(k : Int)] := by
  rw [List.take_succ_eq_append_getElem hk, openF_app]
  have e : 0 + (L.take k).length = k := by rw [List.length_take]; omega
  rw [e]
  have e2 : openF hv k [L[k]] = if metB L[k] hv = true then [] else [(k : Int)] := by simp only [openF]
  rw [e2]
  split
  · rw [List.append_nil]
  · rfl
theorem int_info4 : (Tryz.prog.info? 3).map (fun i => (i.zero, i.size, i.bytes)) = some (some (.int .i64 0), 1, 8) := by kernel_rfl
set_option maxHeartbeats 2000000 in
theorem open_any (A A' : Option Addr) (n c n' c' : Nat) (L : List (List Atm)) (hv : List Atm) (w : World) (h : rdGrps w (lt_ w.heap.size) L [.slice A n c]) (h' : rdAtms w (lt_ w.heap.size) hv [.slice A' n' c']) (hL : L.length ≤ 1000) (E : EnvR w) :
    Calls Tryz.prog 7 #[.slice A n c, .slice A' n' c'] w fun e w' => (∃ A2 c2, e = .returned (.slice A2 (openF hv 0 L).length c2) ∧ rdInts w' (lt_ w'.heap.size) (openF hv 0 L) [.slice A2 (openF hv 0 L).length c2]) ∧ Below w.heap.size w w' := by
  obtain ⟨i0, hi, hz0, hz1, hz2⟩ := info_parts int_info4
  obtain ⟨rfl, hnc, hcm, _⟩ := rdGrps_at h
  have hcm1 : c ≤ 9223372036854775807 := hcm
  have HE := Lib.hid E
  have HR := Lib.hid h
  have HR' := Lib.hid h'
  clear E h h'
  go_enter Tryz.func7, Tryz.ntmps7
  go_wp2
  go_loopw [5, 6, 7, 10] (fun v ii gg i wr => ∃ k : Nat, k ≤ L.length ∧ i = .int .i64 k ∧ Grow rdInt 1 (fun _ => True) wr w.heap.size 3 v (openF hv 0 (L.take k)) ∧ Below w.heap.size w wr) (fun _ _ _ i _ => L.length - (intOf i).toNat)
  case atStart => exact ⟨0, Nat.zero_le _, rfl, Grow.nil _ _ _ _, Below.refl _ _⟩
  case round =>
    obtain ⟨k, hk, rfl, hG, hbel⟩ := hrel
    by_cases hlt : k < L.length
    · obtain ⟨ad, gA, gc, rfl, had, e0, e1⟩ := (rdGrps_at (rdGrps_good.below HR.out hbel)).2.2.2 k hlt
      have TS := Lib.hid (openF_snoc hv L k hlt)
      have hl2 := openF_len hv 0 (L.take k)
      rw [List.length_take] at hl2
      have K := Lib.hid (met_any _ _ _ _ _ _ _ _ _ (rdAtms_good.up e1 hbel.size) (rdAtms_good.up (rdAtms_good.below HR'.out hbel) hbel.size) (HE.out.below hbel))
      have HB := Lib.hid hbel
      clear hbel e1
      generalize L[k] = x at *
      generalize openF hv 0 (L.take k) = lk at *
      cases hm : metB x hv
      · have TT := Lib.hid (show openF hv 0 (L.take (k + 1)) = lk ++ [(k : Int)] by rw [TS.out, if_neg (by rw [hm]; decide)])
        rw [hm] at K
        clear hm
        go_wp2_with fail
        refine (K.out).mono ?_
        rintro e w3 ⟨rfl, hb3⟩
        have hG2 := hG.below rdInt_good hb3
        have HB3 := Lib.hid (bel2 HB.out hb3 (Nat.le_refl _))
        have hE := (show rdInt w3 (fun b => True ∧ b < w3.heap.size ∧ u5.ownBlock ≠ some b) (k : Int) (#[Value.int .i64 (k : Int)] : Array Value).toList from rfl)
        have hn1 : lk.length + 1 ≤ maxLen := by unfold maxLen; omega
        have hn2 : (lk.length + 1) * 8 ≤ 140737488355328 := by omega
        have hbs3 : w.heap.size ≤ w3.heap.size := HB3.out.size
        clear hG hb3
        go_wp2_with (at_builtin; refine wpList_grow1 w3 rfl _ _ 29 rfl rdInt_good (by decide) (fun _ => True) w.heap.size 3 i0 _ 8 Tryz.underlying29 hi hz0 hz1 hz2 rfl u5 _ rfl hG2 (k : Int) _ 3 hE _ rfl rfl hn1 hn2 hbs3 ?_)
        intro v' w' hG' hgr
        have HB' := Lib.hid (grow_below hG2 hgr HB3.out (Nat.le_refl _) hbs3)
        clear hG2 hgr hE
        go_wp2
        go_roundw
        case rel => exact ⟨k + 1, by omega, by go_num, by rw [TT.out]; exact hG', HB'.out⟩
        case measure => simp [intOf]; omega
      · have TT := Lib.hid (show openF hv 0 (L.take (k + 1)) = lk by rw [TS.out, if_pos hm])
        rw [hm] at K
        clear hm
        go_wp2_with fail
        refine (K.out).mono ?_
        rintro e w3 ⟨rfl, hb3⟩
        have hG2 := hG.below rdInt_good hb3
        have HB3 := Lib.hid (bel2 HB.out hb3 (Nat.le_refl _))
        clear hG hb3
        go_wp2
        go_roundw
        case rel => exact ⟨k + 1, by omega, by go_num, by rw [TT.out]; exact hG2, HB3.out⟩
        case measure => simp [intOf]; omega
    · obtain rfl : k = L.length := by omega
      rw [List.take_length] at hG
      have GG := Lib.hid (hG.read rdInt_good)
      obtain ⟨A2, c2, hv', _, _⟩ := hG.own
      subst hv'
      clear hG
      go_wp2
      go_ret
      exact ⟨⟨_, _, rfl, GG.out⟩, hbel⟩
end Go.Proofs.YtfpbeenaploaiaaGreatDoor
