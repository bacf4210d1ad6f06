/- keelsonlaw1.SumParts: called with any arguments that can be read it returns true, and its arguments read as before. No condition. -/
import Derived.Test.YtobamjjonkhcfaaShown
import Derived.Test.YtobamjjonkhcfaaWords
import Derived.Test.YtobamjjonkhcfaaPost
import Derived.OpenShut
namespace Go.Proofs.Ytobamjjonkhcfaa.sumParts
open Go.ChangeShapes Go.WideShapes Go.ChangeAt Go.RowKit

/-- What the law makes of a number: none below nought. -/
def up (n : Int) : Int := if n < 0 then -(n + 1) else n
theorem up_range {n : Int} (h : InR n) : 0 ≤ up n ∧ up n ≤ 9223372036854775807 := by unfold up InR at *; split <;> omega
theorem up_neg {n : Int} (h : n < 0) : up n = -(n + 1) := if_pos h
theorem up_pos {n : Int} (h : 0 ≤ n) : up n = n := if_neg (by omega)
theorem take_up {l ml : List Int} (h : ml = l.map up) {k : Nat} {x : Int} (hk : k < l.length) (hx : l[k] = x) : ml.take (k + 1) = ml.take k ++ [up x] := by
  subst h
  rw [List.take_succ_eq_append_getElem (by simpa using hk)]
  simp [hx]
theorem ints_snoc (l : List Int) (x : Int) : ints (l ++ [x]) = ints l ++ [.int .i64 x] := by simp [ints]
def sumL : List Int → Int
  | [] => 0
  | x :: l => x + sumL l
theorem sumL_append (l m : List Int) : sumL (l ++ m) = sumL l + sumL m := by
  induction l with
  | nil => simp [sumL]
  | cons x l ih => simp [sumL, ih]; omega
theorem sumL_reverse (l : List Int) : sumL l.reverse = sumL l := by
  induction l with
  | nil => rfl
  | cons x l ih => simp [sumL_append, sumL, ih]; omega
theorem sumL_nonneg {l : List Int} (h : ∀ x ∈ l, 0 ≤ x) : 0 ≤ sumL l := by
  induction l with
  | nil => simp [sumL]
  | cons x l ih => have := h x (by simp); have := ih (fun y hy => h y (by simp [hy])); simp only [sumL]; omega
theorem tot_nonneg {l : List Int} (h : ∀ x ∈ l, 0 ≤ x) : ∀ n, 0 ≤ n → tot n l = if InR (n + sumL l) ∨ l = [] then some (n + sumL l) else none := by
  induction l with
  | nil => intro n hn; simp [tot, sumL]
  | cons x l ih =>
    intro n hn
    have hx := h x (by simp)
    have hl : ∀ y ∈ l, 0 ≤ y := fun y hy => h y (by simp [hy])
    have hs := sumL_nonneg hl
    have es : sumL (x :: l) = x + sumL l := rfl
    have et : tot n (x :: l) = if InR (n + x) then tot (n + x) l else none := rfl
    rw [et]
    by_cases h1 : InR (n + x)
    · rw [if_pos h1, ih hl (n + x) (by omega)]
      have e : n + x + sumL l = n + sumL (x :: l) := by omega
      rw [e]
      rcases l with _ | ⟨y, l⟩
      · have e2 : n + sumL [x] = n + x := by simp [sumL]
        rw [e2, if_pos (.inl h1), if_pos (.inl h1)]
      · by_cases h3 : InR (n + sumL (x :: y :: l))
        · rw [if_pos (.inl h3), if_pos (.inl h3)]
        · rw [if_neg (by simp [h3]), if_neg (by simp [h3])]
    · rw [if_neg h1, if_neg]
      rintro (h2 | h2)
      · unfold InR at *; omega
      · cases h2
theorem totals {l : List Int} (h : ∀ x ∈ l, 0 ≤ x) : totV l = (if InR (sumL l) then sumL l else 0) ∧ totE l = (if InR (sumL l) then 0 else 2) := by
  have h1 := tot_nonneg h 0 (by omega)
  unfold totV totE
  rw [h1]
  by_cases h2 : InR (sumL l)
  · simp [h2]
  · have h3 : l ≠ [] := by rintro rfl; exact h2 (by decide)
    simp [h2, h3]
theorem back_step {ml : List Int} {k j : Nat} {x : Int} (hl : ml.length = k) (hj : j < ml.length) (hx : ml[j] = x) :
    (ints (List.replicate (k - j) 0 ++ (ml.take j).reverse)).set (k - 1 - j) (.int .i64 x) = ints (List.replicate (k - (j + 1)) 0 ++ (ml.take (j + 1)).reverse) := by
  have e1 : k - j = (k - (j + 1)) + 1 := by omega
  have e2 : k - 1 - j = k - (j + 1) := by omega
  rw [List.take_succ_eq_append_getElem hj, hx, e2]
  unfold ints
  rw [← List.map_set, e1, List.replicate_succ', List.append_assoc, List.reverse_append]
  congr 1
  rw [List.set_append_right _ _ (by simp)]
  simp
theorem total_lit (A : Option Addr) (n c B : Nat) (l : List Int) (w : World) (hr : Reads w B 1 A n (ints l)) (hB : B ≤ w.heap.size) (hn : n ≤ 9223372036854775807) (hw : ∀ x ∈ l, InR x) {V E : Int} (h : totV l = V ∧ totE l = E) :
    Calls Try.prog 14 #[.slice A n c] w fun e w' => e = .returned (.tuple #[.int .i64 V, .int .i64 E]) ∧ Below w.heap.size w w' := by
  rw [← h.1, ← h.2]
  exact Total_any A n c B l w hr hB hn hw
theorem total_zero (A : Option Addr) (c : Nat) (w : World) : Calls Try.prog 14 #[.slice A 0 c] w fun e w' => e = .returned (.tuple #[.int .i64 0, .int .i64 0]) ∧ Below w.heap.size w w' :=
  total_lit A 0 c 0 [] w ⟨by simp [ints], fun h => absurd h (by omega)⟩ (by omega) (by omega) (by simp) ⟨by decide, by decide⟩
theorem add_lit (a b : Int) (w : World) (ha : InR a) (hb : InR b) {V E : Int} (h : addV a b = V ∧ addE a b = E) :
    Calls Try.prog 10 #[.int .i64 a, .int .i64 b] w fun e w' => e = .returned (.tuple #[.int .i64 V, .int .i64 E]) ∧ Below w.heap.size w w' := by
  rw [← h.1, ← h.2]
  exact Add_any a b w ha hb
theorem inR_up {x : Int} (h : 0 ≤ x ∧ x ≤ 9223372036854775807) : InR x := by unfold InR; omega
theorem reads_take {w : World} {B n : Nat} {A : Option Addr} {l : List Int} (h : Reads w B 1 A n (ints l)) {k : Nat} (hk : k ≤ n) : Reads w B 1 A k (ints (l.take k)) := by
  have hl : l.length = n := by have := h.1; simpa [ints] using this
  refine ⟨by simp [ints]; omega, fun hn => ?_⟩
  obtain ⟨ad, e, hb, hc⟩ := h.2 (by omega)
  refine ⟨ad, e, hb, fun j u hu => hc j u ?_⟩
  unfold ints at hu ⊢
  rw [List.map_take] at hu
  rw [List.getElem?_take] at hu
  split at hu
  · exact hu
  · cases hu
theorem reads_drop {w : World} {B n : Nat} {ad : Addr} {l : List Int} (h : Reads w B 1 (some ad) n (ints l)) {k : Nat} (hk : k ≤ n) : Reads w B 1 (some (ad.add k)) (n - k) (ints (l.drop k)) := by
  have hl : l.length = n := by have := h.1; simpa [ints] using this
  refine ⟨by simp [ints]; omega, fun hn => ?_⟩
  obtain ⟨ad', e, hb, hc⟩ := h.2 (by omega)
  injection e with e
  subst e
  refine ⟨_, rfl, by rw [block_of_add]; exact hb, fun j u hu => ?_⟩
  rw [add_of_add]
  refine hc _ u ?_
  unfold ints at hu ⊢
  rw [List.map_drop, List.getElem?_drop] at hu
  exact hu
def PA (l : List Int) (q : Nat) (s1 s2 : Int) : Prop := (totV l = s1 + s2 ∧ totE l = 0) ∧ (totV l.reverse = s1 + s2 ∧ totE l.reverse = 0) ∧ (totV (l.take q) = s1 ∧ totE (l.take q) = 0) ∧ (totV (l.drop q) = s2 ∧ totE (l.drop q) = 0) ∧ InR s1 ∧ InR s2 ∧ InR (s1 + s2)
def PB (l : List Int) (q : Nat) (s1 s2 : Int) : Prop := (totV l = 0 ∧ totE l = 2) ∧ (totV l.reverse = 0 ∧ totE l.reverse = 2) ∧ (totV (l.take q) = s1 ∧ totE (l.take q) = 0) ∧ (totV (l.drop q) = s2 ∧ totE (l.drop q) = 0) ∧ InR s1 ∧ InR s2 ∧ ¬ InR (s1 + s2)
def PC (l : List Int) (q : Nat) (s1 s2 : Int) : Prop := (totV l = 0 ∧ totE l = 2) ∧ (totV l.reverse = 0 ∧ totE l.reverse = 2) ∧ (totV (l.take q) = 0 ∧ totE (l.take q) = 2) ∧ (totV (l.drop q) = s1 ∧ totE (l.drop q) = s2) ∧ True
def PD (l : List Int) (q : Nat) (s1 s2 : Int) : Prop := (totV l = 0 ∧ totE l = 2) ∧ (totV l.reverse = 0 ∧ totE l.reverse = 2) ∧ (totV (l.take q) = s1 ∧ totE (l.take q) = 0) ∧ (totV (l.drop q) = 0 ∧ totE (l.drop q) = 2) ∧ s2 = 0
theorem parts {l : List Int} (h : ∀ x ∈ l, 0 ≤ x) (q : Nat) : (∃ s1 s2, PA l q s1 s2) ∨ (∃ s1 s2, PB l q s1 s2) ∨ (∃ s1 s2, PC l q s1 s2) ∨ (∃ s1 s2, PD l q s1 s2) := by
  have h1 : ∀ x ∈ l.take q, 0 ≤ x := fun x hx => h x (List.mem_of_mem_take hx)
  have h2 : ∀ x ∈ l.drop q, 0 ≤ x := fun x hx => h x (List.mem_of_mem_drop hx)
  have h3 : ∀ x ∈ l.reverse, 0 ≤ x := fun x hx => h x (List.mem_reverse.1 hx)
  have es : sumL l = sumL (l.take q) + sumL (l.drop q) := by rw [← sumL_append, List.take_append_drop]
  have n1 := sumL_nonneg h1
  have n2 := sumL_nonneg h2
  have t0 := totals h
  have t1 := totals h1
  have t2 := totals h2
  have t3 := totals h3
  rw [sumL_reverse] at t3
  by_cases c : InR (sumL l)
  · have c1 : InR (sumL (l.take q)) := by unfold InR at *; omega
    have c2 : InR (sumL (l.drop q)) := by unfold InR at *; omega
    simp only [if_pos c, if_pos c1, if_pos c2] at t0 t1 t2 t3
    exact .inl ⟨_, _, ⟨t0.1.trans es, t0.2⟩, ⟨t3.1.trans es, t3.2⟩, t1, t2, c1, c2, es ▸ c⟩
  · by_cases c1 : InR (sumL (l.take q))
    · by_cases c2 : InR (sumL (l.drop q))
      · simp only [if_neg c, if_pos c1, if_pos c2] at t0 t1 t2 t3
        exact .inr (.inl ⟨_, _, t0, t3, t1, t2, c1, c2, es ▸ c⟩)
      · simp only [if_neg c, if_pos c1, if_neg c2] at t0 t1 t2 t3
        exact .inr (.inr (.inr ⟨_, 0, t0, t3, t1, t2, rfl⟩))
    · simp only [if_neg c, if_neg c1] at t0 t1 t3
      exact .inr (.inr (.inl ⟨_, _, t0, t3, t1, ⟨rfl, rfl⟩, trivial⟩))
theorem walk_long (A : Option Addr) (n c : Nat) (a : Int) (w : World) (h : 2000 < n) :
    Calls Try.prog 8 #[.slice A n c, .int .i64 a] w fun e w' => e = .returned (.bool true) ∧ Below w.heap.size w w' := by
  have t1 : decide ((2000 : Int) < (n : Int)) = true := by simp; omega
  clear h
  go_enter Try.func8, Try.ntmps8
  go_wp2_with fail
  refine (shown_any _).mono ?_
  rintro e w1 ⟨rfl, hb1⟩
  go_wp2
  go_ret
  exact ⟨rfl, hb1⟩
set_option maxHeartbeats 8000000 in
theorem walk_short (A : Option Addr) (n c : Nat) (l : List Int) (a : Int) (w : World) (hr : Reads w w.heap.size 1 A n (ints l)) (hw : ∀ x ∈ l, InR x) (ha : InR a) (hn : n ≤ 2000) :
    Calls Try.prog 8 #[.slice A n c, .int .i64 a] w fun e w' => e = .returned (.bool true) ∧ Below w.heap.size w w' := by
  have t1 : decide ((2000 : Int) < (n : Int)) = false := by simp; omega
  have hlen : Hid (l.length = n) := Lib.hid (by have := hr.1; simpa [ints] using this)
  obtain ⟨i0, hi, hz0, hz1, hz2⟩ := info_parts int_info'
  obtain ⟨ml, hml⟩ : ∃ ml, ml = l.map up := ⟨_, rfl⟩
  have HM := Lib.hid hml
  have HL := Lib.hid (show ml.length = n by rw [hml, List.length_map]; exact hlen.out)
  have HP := Lib.hid (show ∀ x ∈ ml, 0 ≤ x ∧ x ≤ 9223372036854775807 by
    intro x hx
    rw [hml] at hx
    obtain ⟨y, hy, rfl⟩ := List.mem_map.1 hx
    exact up_range (hw y hy))
  have HW := Lib.hid hw
  obtain ⟨ha1, ha2⟩ := ha
  clear hml hw
  go_enter Try.func8, Try.ntmps8
  go_wp2_with fail
  refine (shown_any _).mono ?_
  rintro e w1 ⟨rfl, b1⟩
  go_wp2_with fail
  go_loopw [6, 7, 8] (fun m b i wr => ∃ k : Nat, k ≤ n ∧ i = .int .i64 k ∧ wr.ownsRow w.heap.size 3 1 m k (ints (ml.take k)) ∧ wr.ownsRow w.heap.size 3 1 b k (ints (List.replicate k 0)) ∧ Apart m b ∧ Below w.heap.size w wr) (fun _ _ i _ => n - (intOf i).toNat)
  case atStart => exact ⟨0, Nat.zero_le _, rfl, World.ownsRow_nil _ _ _ _, World.ownsRow_nil _ _ _ _, Apart.nil_left _, b1⟩
  case round =>
    obtain ⟨k, hk, rfl, om, ob, hap, hbel⟩ := hrel
    by_cases hlt : k < n
    · obtain ⟨ad, v, rfl, _, hx, hc⟩ := (hr.below hbel).at_ hlt
      obtain ⟨hkl, rfl⟩ := ints_at hx
      have hx2 := HW.out _ (List.getElem_mem hkl)
      clear hx
      generalize hg : l[k] = x at *
      have HG := Lib.hid hg
      clear hg
      obtain ⟨hx3, hx4⟩ := hx2
      have hs1 : k + 1 ≤ maxLen := by unfold maxLen; omega
      have hs2 : (k + 1) * 8 ≤ 140737488355328 := by omega
      have hs3 := hbel.size
      by_cases hneg : x < 0
      · have HN := Lib.hid hneg
        have hneg' : x + 1 ≤ 0 := by omega
        go_wp2_with (at_builtin; refine wpList_app1 _ rfl _ _ 27 rfl w.heap.size 3 i0 (.int .i64 0) 8 Try.underlying27 hi hz0 hz1 hz2 rfl _ k _ rfl om (.int .i64 (-(x + 1))) 3 rfl rfl hs1 hs2 hs3 ?_)
        intro v1 w2 om1 k1
        have ob1 := k1.other ob hap.symm
        have ap1 := k1.apart ob hap.symm
        have bel1 := k1.below hbel hs3 (fun g hg => (om.lt g hg).1)
        have hs4 := bel1.size
        clear om ob hap hbel k1 hc
        go_wp2_with (at_builtin; refine wpList_app1 _ rfl _ _ 27 rfl w.heap.size 3 i0 (.int .i64 0) 8 Try.underlying27 hi hz0 hz1 hz2 rfl _ k _ rfl ob1 (.int .i64 0) 3 rfl rfl hs1 hs2 hs4 ?_)
        intro v2 w3 ob2 k2
        have om2 := k2.other om1 ap1.symm
        have ap2 := k2.apart om1 ap1.symm
        have bel2 := k2.below bel1 hs4 (fun g hg => (ob1.lt g hg).1)
        clear om1 ob1 ap1 bel1 k2 hs4
        go_wp2
        go_roundw
        case rel => exact ⟨k + 1, by omega, by go_num, by rw [take_up HM.out hkl HG.out, up_neg HN.out, ints_snoc]; exact om2, by rw [List.replicate_succ', ints_snoc]; exact ob2, ap2, bel2⟩
        case measure => simp [intOf]; omega
      · have hneg' : 0 ≤ x := by omega
        have HN := Lib.hid hneg'
        go_wp2_with (at_builtin; refine wpList_app1 _ rfl _ _ 27 rfl w.heap.size 3 i0 (.int .i64 0) 8 Try.underlying27 hi hz0 hz1 hz2 rfl _ k _ rfl om (.int .i64 x) 3 rfl rfl hs1 hs2 hs3 ?_)
        intro v1 w2 om1 k1
        have ob1 := k1.other ob hap.symm
        have ap1 := k1.apart ob hap.symm
        have bel1 := k1.below hbel hs3 (fun g hg => (om.lt g hg).1)
        have hs4 := bel1.size
        clear om ob hap hbel k1 hc
        go_wp2_with (at_builtin; refine wpList_app1 _ rfl _ _ 27 rfl w.heap.size 3 i0 (.int .i64 0) 8 Try.underlying27 hi hz0 hz1 hz2 rfl _ k _ rfl ob1 (.int .i64 0) 3 rfl rfl hs1 hs2 hs4 ?_)
        intro v2 w3 ob2 k2
        have om2 := k2.other om1 ap1.symm
        have ap2 := k2.apart om1 ap1.symm
        have bel2 := k2.below bel1 hs4 (fun g hg => (ob1.lt g hg).1)
        clear om1 ob1 ap1 bel1 k2 hs4
        go_wp2
        go_roundw
        case rel => exact ⟨k + 1, by omega, by go_num, by rw [take_up HM.out hkl HG.out, up_pos HN.out, ints_snoc]; exact om2, by rw [List.replicate_succ', ints_snoc]; exact ob2, ap2, bel2⟩
        case measure => simp [intOf]; omega
    · have hkn : k = n := by omega
      subst hkn
      have et : ml.take k = ml := List.take_of_length_le (by have := HL.out; omega)
      rw [et] at om
      obtain ⟨Am, cm, rfl, hcm, hcm2, rm⟩ := own_slice om
      obtain ⟨Ab, cb, rfl, hcb, hcb2, _⟩ := own_slice ob
      clear et hr
      go_wp2_with fail
      go_loopw [10] (fun i wr2 => ∃ j : Nat, j ≤ k ∧ i = .int .i64 j ∧ wr2.ownsRow w.heap.size 3 1 (.slice Am k cm) k (ints ml) ∧ wr2.ownsRow w.heap.size 3 1 (.slice Ab k cb) k (ints (List.replicate (k - j) 0 ++ (ml.take j).reverse)) ∧ Below w.heap.size w wr2) (fun i _ => k - (intOf i).toNat)
      case atStart => exact ⟨0, Nat.zero_le _, rfl, om, by simpa using ob, hbel⟩
      case round =>
        obtain ⟨j, hj, rfl, om, ob, hbel⟩ := hrel
        by_cases hlj : j < k
        · obtain ⟨A1, c1, e1, _, _, rm⟩ := own_slice om
          injection e1 with e1 e2 e3
          subst e1
          obtain ⟨adm, v, rfl, _, hx, hc⟩ := rm.at_ hlj
          obtain ⟨hjl, rfl⟩ := ints_at hx
          obtain ⟨gb, cb', e4, _, _⟩ := ob.form (by omega)
          injection e4 with e4 e5 e6
          subst e4
          clear e2 e3 e5 e6 hx rm
          generalize hg : ml[j] = x at *
          have HG := Lib.hid hg
          clear hg
          have hidx : Hid (k - 1 - j < (List.replicate (k - j) (0 : Int)).length) := Lib.hid (by simp; omega)
          have cb1 : wr.cell? ⟨gb, k - 1 - j, none⟩ = some (.int .i64 0) := by
            rw [ob.cellAt (k - 1 - j) (by omega)]
            unfold ints
            rw [List.getElem?_map, List.getElem?_append_left hidx.out, List.getElem?_replicate, if_pos (by omega)]
            rfl
          have fb1 : wr.frozen? ⟨gb, k - 1 - j, none⟩ = false := ob.frozenAt (k - 1 - j)
          have ob1 := (ob.stored (k - 1 - j) (.int .i64 x)).1
          have gr1 := (ob.stored (k - 1 - j) (.int .i64 x)).2
          have om1 := om.kept gr1 (.inr (fun hh => hap _ hh rfl))
          have hgb : w.heap.size ≤ gb := (ob.lt gb rfl).1
          have bel1 : Below w.heap.size w (wr.setCell ⟨gb, k - 1 - j, none⟩ (.int .i64 x)) := hbel.setCell hgb _
          have O1 := Lib.hid ob1
          clear om ob gr1 ob1 hbel
          go_wp2_with fail
          go_roundw
          case rel => exact ⟨j + 1, by omega, by go_num, om1, by rw [← back_step HL.out hjl HG.out]; exact O1.out, bel1⟩
          case measure => simp [intOf]; omega
        · have hjk : j = k := by omega
          subst hjk
          have eb : List.replicate (j - j) (0 : Int) ++ (ml.take j).reverse = ml.reverse := by
            rw [Nat.sub_self, List.take_of_length_le (by have := HL.out; omega)]; rfl
          rw [eb] at ob
          clear eb hap
          obtain ⟨Ab1, cb1, eb1, _, _, rb⟩ := own_slice ob
          injection eb1 with eb1 eb2 eb3
          subst eb1
          clear eb2 eb3 hlen
          by_cases hz : 0 < j
          · obtain ⟨A1, c1, e1, _, _, rm⟩ := own_slice om
            injection e1 with e1 e2 e3
            subst e1
            obtain ⟨adm, v, rfl, _, hx, hc⟩ := rm.at_ hz
            obtain ⟨hjl, rfl⟩ := ints_at hx
            have hp := HP.out _ (List.getElem_mem hjl)
            have hc1 : wr.cell? adm = some (.int .i64 ml[0]) := by simpa [Addr.add] using hc
            clear hx hc e2 e3 om ob
            generalize hg : ml[0] = x at *
            have HG := Lib.hid hg
            clear hg
            obtain ⟨q1, hq1, hq1l⟩ : ∃ q : Nat, x % (j : Int) = (q : Int) ∧ q < j := ⟨(x % (j : Int)).toNat, by have := Int.emod_nonneg x (show (j : Int) ≠ 0 by omega); omega, by have := Int.emod_lt_of_pos x (show (0 : Int) < j by omega); have := Int.emod_nonneg x (show (j : Int) ≠ 0 by omega); omega⟩
            have hp1 := hp.1
            have hp2 := hp.2
            have hzi : decide ((0 : Int) < (j : Int)) = true := by simp; omega
            by_cases hat : 0 ≤ a
            · obtain ⟨q2, hq2, hq2l⟩ : ∃ q : Nat, a % (j : Int) = (q : Int) ∧ q < j := ⟨(a % (j : Int)).toNat, by have := Int.emod_nonneg a (show (j : Int) ≠ 0 by omega); omega, by have := Int.emod_lt_of_pos a (show (0 : Int) < j by omega); have := Int.emod_nonneg a (show (j : Int) ≠ 0 by omega); omega⟩
              clear HG hp HM HW
              rcases parts (l := ml) (fun x hx => (HP.out x hx).1) q2 with ⟨s1, s2, hp⟩ | ⟨s1, s2, hp⟩ | ⟨s1, s2, hp⟩ | ⟨s1, s2, hp⟩
              · have hq := Lib.hid hp
                clear hp
                have b2' := Below.refl wr.heap.size wr
                have s2 := Nat.le_refl wr.heap.size
                go_wp2_with fail
                refine (total_lit _ _ _ wr.heap.size (ml) _ (rm.below b2') s2 (by omega) (fun x hx => inR_up (HP.out x hx)) hq.out.1).mono ?_
                rintro e x2 ⟨rfl, h2⟩
                have b3 := b2'.trans (h2.mono s2)
                have b3' := b3
                have s3 := b3.size
                clear h2
                go_wp2_with fail
                refine (total_lit _ _ _ wr.heap.size (ml.reverse) _ (rb.below b3') s3 (by omega) (fun x hx => inR_up (HP.out x (List.mem_reverse.1 hx))) hq.out.2.1).mono ?_
                rintro e x3 ⟨rfl, h3⟩
                have b4 := b3'.trans (h3.mono s3)
                have b4' := b4
                have s4 := b4.size
                clear h3
                go_wp2_with fail
                refine (total_lit _ _ _ wr.heap.size (ml.take q2) _ (reads_take (rm.below b4') (by omega)) s4 (by omega) (fun x hx => inR_up (HP.out x (List.mem_of_mem_take hx))) hq.out.2.2.1).mono ?_
                rintro e x4 ⟨rfl, h4⟩
                have b5 := b4'.trans (h4.mono s4)
                have b5' := b5
                have s5 := b5.size
                clear h4
                go_wp2_with fail
                refine (total_lit _ _ _ wr.heap.size (ml.drop q2) _ (reads_drop (rm.below b5') (by omega)) s5 (by omega) (fun x hx => inR_up (HP.out x (List.mem_of_mem_drop hx))) hq.out.2.2.2.1).mono ?_
                rintro e x5 ⟨rfl, h5⟩
                have b6 := b5'.trans (h5.mono s5)
                have b6' := b6
                have s6 := b6.size
                clear h5
                go_wp2_with fail
                refine (add_lit _ _ _ hq.out.2.2.2.2.1 hq.out.2.2.2.2.2.1 (addV_in hq.out.2.2.2.2.2.2)).mono ?_
                rintro e x6 ⟨rfl, h6⟩
                have b7 := b6.trans (h6.mono s6)
                clear h6
                go_wp2
                go_ret
                exact ⟨rfl, hbel.trans (b7.mono hbel.size)⟩
              · have hq := Lib.hid hp
                clear hp
                have b2' := Below.refl wr.heap.size wr
                have s2 := Nat.le_refl wr.heap.size
                go_wp2_with fail
                refine (total_lit _ _ _ wr.heap.size (ml) _ (rm.below b2') s2 (by omega) (fun x hx => inR_up (HP.out x hx)) hq.out.1).mono ?_
                rintro e x2 ⟨rfl, h2⟩
                have b3 := b2'.trans (h2.mono s2)
                have b3' := b3
                have s3 := b3.size
                clear h2
                go_wp2_with fail
                refine (total_lit _ _ _ wr.heap.size (ml.reverse) _ (rb.below b3') s3 (by omega) (fun x hx => inR_up (HP.out x (List.mem_reverse.1 hx))) hq.out.2.1).mono ?_
                rintro e x3 ⟨rfl, h3⟩
                have b4 := b3'.trans (h3.mono s3)
                have b4' := b4
                have s4 := b4.size
                clear h3
                go_wp2_with fail
                refine (total_lit _ _ _ wr.heap.size (ml.take q2) _ (reads_take (rm.below b4') (by omega)) s4 (by omega) (fun x hx => inR_up (HP.out x (List.mem_of_mem_take hx))) hq.out.2.2.1).mono ?_
                rintro e x4 ⟨rfl, h4⟩
                have b5 := b4'.trans (h4.mono s4)
                have b5' := b5
                have s5 := b5.size
                clear h4
                go_wp2_with fail
                refine (total_lit _ _ _ wr.heap.size (ml.drop q2) _ (reads_drop (rm.below b5') (by omega)) s5 (by omega) (fun x hx => inR_up (HP.out x (List.mem_of_mem_drop hx))) hq.out.2.2.2.1).mono ?_
                rintro e x5 ⟨rfl, h5⟩
                have b6 := b5'.trans (h5.mono s5)
                have b6' := b6
                have s6 := b6.size
                clear h5
                go_wp2_with fail
                refine (add_lit _ _ _ hq.out.2.2.2.2.1 hq.out.2.2.2.2.2.1 (addV_out hq.out.2.2.2.2.2.2)).mono ?_
                rintro e x6 ⟨rfl, h6⟩
                have b7 := b6.trans (h6.mono s6)
                clear h6
                go_wp2
                go_ret
                exact ⟨rfl, hbel.trans (b7.mono hbel.size)⟩
              · have hq := Lib.hid hp
                clear hp
                have b2' := Below.refl wr.heap.size wr
                have s2 := Nat.le_refl wr.heap.size
                go_wp2_with fail
                refine (total_lit _ _ _ wr.heap.size (ml) _ (rm.below b2') s2 (by omega) (fun x hx => inR_up (HP.out x hx)) hq.out.1).mono ?_
                rintro e x2 ⟨rfl, h2⟩
                have b3 := b2'.trans (h2.mono s2)
                have b3' := b3
                have s3 := b3.size
                clear h2
                go_wp2_with fail
                refine (total_lit _ _ _ wr.heap.size (ml.reverse) _ (rb.below b3') s3 (by omega) (fun x hx => inR_up (HP.out x (List.mem_reverse.1 hx))) hq.out.2.1).mono ?_
                rintro e x3 ⟨rfl, h3⟩
                have b4 := b3'.trans (h3.mono s3)
                have b4' := b4
                have s4 := b4.size
                clear h3
                go_wp2_with fail
                refine (total_lit _ _ _ wr.heap.size (ml.take q2) _ (reads_take (rm.below b4') (by omega)) s4 (by omega) (fun x hx => inR_up (HP.out x (List.mem_of_mem_take hx))) hq.out.2.2.1).mono ?_
                rintro e x4 ⟨rfl, h4⟩
                have b5 := b4'.trans (h4.mono s4)
                have b5' := b5
                have s5 := b5.size
                clear h4
                go_wp2_with fail
                refine (total_lit _ _ _ wr.heap.size (ml.drop q2) _ (reads_drop (rm.below b5') (by omega)) s5 (by omega) (fun x hx => inR_up (HP.out x (List.mem_of_mem_drop hx))) hq.out.2.2.2.1).mono ?_
                rintro e x5 ⟨rfl, h5⟩
                have b6 := b5'.trans (h5.mono s5)
                have b6' := b6
                have s6 := b6.size
                clear h5
                go_wp2
                go_ret
                exact ⟨rfl, hbel.trans (b6.mono hbel.size)⟩
              · have hq := Lib.hid hp
                clear hp
                have b2' := Below.refl wr.heap.size wr
                have s2 := Nat.le_refl wr.heap.size
                go_wp2_with fail
                refine (total_lit _ _ _ wr.heap.size (ml) _ (rm.below b2') s2 (by omega) (fun x hx => inR_up (HP.out x hx)) hq.out.1).mono ?_
                rintro e x2 ⟨rfl, h2⟩
                have b3 := b2'.trans (h2.mono s2)
                have b3' := b3
                have s3 := b3.size
                clear h2
                go_wp2_with fail
                refine (total_lit _ _ _ wr.heap.size (ml.reverse) _ (rb.below b3') s3 (by omega) (fun x hx => inR_up (HP.out x (List.mem_reverse.1 hx))) hq.out.2.1).mono ?_
                rintro e x3 ⟨rfl, h3⟩
                have b4 := b3'.trans (h3.mono s3)
                have b4' := b4
                have s4 := b4.size
                clear h3
                go_wp2_with fail
                refine (total_lit _ _ _ wr.heap.size (ml.take q2) _ (reads_take (rm.below b4') (by omega)) s4 (by omega) (fun x hx => inR_up (HP.out x (List.mem_of_mem_take hx))) hq.out.2.2.1).mono ?_
                rintro e x4 ⟨rfl, h4⟩
                have b5 := b4'.trans (h4.mono s4)
                have b5' := b5
                have s5 := b5.size
                clear h4
                go_wp2_with fail
                refine (total_lit _ _ _ wr.heap.size (ml.drop q2) _ (reads_drop (rm.below b5') (by omega)) s5 (by omega) (fun x hx => inR_up (HP.out x (List.mem_of_mem_drop hx))) hq.out.2.2.2.1).mono ?_
                rintro e x5 ⟨rfl, h5⟩
                have b6 := b5'.trans (h5.mono s5)
                have b6' := b6
                have s6 := b6.size
                clear h5
                go_wp2
                go_ret
                exact ⟨rfl, hbel.trans (b6.mono hbel.size)⟩
            · have hat' : a < 0 := by omega
              clear HG hp HM HW
              rcases parts (l := ml) (fun x hx => (HP.out x hx).1) q1 with ⟨s1, s2, hp⟩ | ⟨s1, s2, hp⟩ | ⟨s1, s2, hp⟩ | ⟨s1, s2, hp⟩
              · have hq := Lib.hid hp
                clear hp
                have b2' := Below.refl wr.heap.size wr
                have s2 := Nat.le_refl wr.heap.size
                go_wp2_with fail
                refine (total_lit _ _ _ wr.heap.size (ml) _ (rm.below b2') s2 (by omega) (fun x hx => inR_up (HP.out x hx)) hq.out.1).mono ?_
                rintro e x2 ⟨rfl, h2⟩
                have b3 := b2'.trans (h2.mono s2)
                have b3' := b3
                have s3 := b3.size
                clear h2
                go_wp2_with fail
                refine (total_lit _ _ _ wr.heap.size (ml.reverse) _ (rb.below b3') s3 (by omega) (fun x hx => inR_up (HP.out x (List.mem_reverse.1 hx))) hq.out.2.1).mono ?_
                rintro e x3 ⟨rfl, h3⟩
                have b4 := b3'.trans (h3.mono s3)
                have b4' := b4
                have s4 := b4.size
                clear h3
                go_wp2_with fail
                refine (total_lit _ _ _ wr.heap.size (ml.take q1) _ (reads_take (rm.below b4') (by omega)) s4 (by omega) (fun x hx => inR_up (HP.out x (List.mem_of_mem_take hx))) hq.out.2.2.1).mono ?_
                rintro e x4 ⟨rfl, h4⟩
                have b5 := b4'.trans (h4.mono s4)
                have b5' := b5
                have s5 := b5.size
                clear h4
                go_wp2_with fail
                refine (total_lit _ _ _ wr.heap.size (ml.drop q1) _ (reads_drop (rm.below b5') (by omega)) s5 (by omega) (fun x hx => inR_up (HP.out x (List.mem_of_mem_drop hx))) hq.out.2.2.2.1).mono ?_
                rintro e x5 ⟨rfl, h5⟩
                have b6 := b5'.trans (h5.mono s5)
                have b6' := b6
                have s6 := b6.size
                clear h5
                go_wp2_with fail
                refine (add_lit _ _ _ hq.out.2.2.2.2.1 hq.out.2.2.2.2.2.1 (addV_in hq.out.2.2.2.2.2.2)).mono ?_
                rintro e x6 ⟨rfl, h6⟩
                have b7 := b6.trans (h6.mono s6)
                clear h6
                go_wp2
                go_ret
                exact ⟨rfl, hbel.trans (b7.mono hbel.size)⟩
              · have hq := Lib.hid hp
                clear hp
                have b2' := Below.refl wr.heap.size wr
                have s2 := Nat.le_refl wr.heap.size
                go_wp2_with fail
                refine (total_lit _ _ _ wr.heap.size (ml) _ (rm.below b2') s2 (by omega) (fun x hx => inR_up (HP.out x hx)) hq.out.1).mono ?_
                rintro e x2 ⟨rfl, h2⟩
                have b3 := b2'.trans (h2.mono s2)
                have b3' := b3
                have s3 := b3.size
                clear h2
                go_wp2_with fail
                refine (total_lit _ _ _ wr.heap.size (ml.reverse) _ (rb.below b3') s3 (by omega) (fun x hx => inR_up (HP.out x (List.mem_reverse.1 hx))) hq.out.2.1).mono ?_
                rintro e x3 ⟨rfl, h3⟩
                have b4 := b3'.trans (h3.mono s3)
                have b4' := b4
                have s4 := b4.size
                clear h3
                go_wp2_with fail
                refine (total_lit _ _ _ wr.heap.size (ml.take q1) _ (reads_take (rm.below b4') (by omega)) s4 (by omega) (fun x hx => inR_up (HP.out x (List.mem_of_mem_take hx))) hq.out.2.2.1).mono ?_
                rintro e x4 ⟨rfl, h4⟩
                have b5 := b4'.trans (h4.mono s4)
                have b5' := b5
                have s5 := b5.size
                clear h4
                go_wp2_with fail
                refine (total_lit _ _ _ wr.heap.size (ml.drop q1) _ (reads_drop (rm.below b5') (by omega)) s5 (by omega) (fun x hx => inR_up (HP.out x (List.mem_of_mem_drop hx))) hq.out.2.2.2.1).mono ?_
                rintro e x5 ⟨rfl, h5⟩
                have b6 := b5'.trans (h5.mono s5)
                have b6' := b6
                have s6 := b6.size
                clear h5
                go_wp2_with fail
                refine (add_lit _ _ _ hq.out.2.2.2.2.1 hq.out.2.2.2.2.2.1 (addV_out hq.out.2.2.2.2.2.2)).mono ?_
                rintro e x6 ⟨rfl, h6⟩
                have b7 := b6.trans (h6.mono s6)
                clear h6
                go_wp2
                go_ret
                exact ⟨rfl, hbel.trans (b7.mono hbel.size)⟩
              · have hq := Lib.hid hp
                clear hp
                have b2' := Below.refl wr.heap.size wr
                have s2 := Nat.le_refl wr.heap.size
                go_wp2_with fail
                refine (total_lit _ _ _ wr.heap.size (ml) _ (rm.below b2') s2 (by omega) (fun x hx => inR_up (HP.out x hx)) hq.out.1).mono ?_
                rintro e x2 ⟨rfl, h2⟩
                have b3 := b2'.trans (h2.mono s2)
                have b3' := b3
                have s3 := b3.size
                clear h2
                go_wp2_with fail
                refine (total_lit _ _ _ wr.heap.size (ml.reverse) _ (rb.below b3') s3 (by omega) (fun x hx => inR_up (HP.out x (List.mem_reverse.1 hx))) hq.out.2.1).mono ?_
                rintro e x3 ⟨rfl, h3⟩
                have b4 := b3'.trans (h3.mono s3)
                have b4' := b4
                have s4 := b4.size
                clear h3
                go_wp2_with fail
                refine (total_lit _ _ _ wr.heap.size (ml.take q1) _ (reads_take (rm.below b4') (by omega)) s4 (by omega) (fun x hx => inR_up (HP.out x (List.mem_of_mem_take hx))) hq.out.2.2.1).mono ?_
                rintro e x4 ⟨rfl, h4⟩
                have b5 := b4'.trans (h4.mono s4)
                have b5' := b5
                have s5 := b5.size
                clear h4
                go_wp2_with fail
                refine (total_lit _ _ _ wr.heap.size (ml.drop q1) _ (reads_drop (rm.below b5') (by omega)) s5 (by omega) (fun x hx => inR_up (HP.out x (List.mem_of_mem_drop hx))) hq.out.2.2.2.1).mono ?_
                rintro e x5 ⟨rfl, h5⟩
                have b6 := b5'.trans (h5.mono s5)
                have b6' := b6
                have s6 := b6.size
                clear h5
                go_wp2
                go_ret
                exact ⟨rfl, hbel.trans (b6.mono hbel.size)⟩
              · have hq := Lib.hid hp
                clear hp
                have b2' := Below.refl wr.heap.size wr
                have s2 := Nat.le_refl wr.heap.size
                go_wp2_with fail
                refine (total_lit _ _ _ wr.heap.size (ml) _ (rm.below b2') s2 (by omega) (fun x hx => inR_up (HP.out x hx)) hq.out.1).mono ?_
                rintro e x2 ⟨rfl, h2⟩
                have b3 := b2'.trans (h2.mono s2)
                have b3' := b3
                have s3 := b3.size
                clear h2
                go_wp2_with fail
                refine (total_lit _ _ _ wr.heap.size (ml.reverse) _ (rb.below b3') s3 (by omega) (fun x hx => inR_up (HP.out x (List.mem_reverse.1 hx))) hq.out.2.1).mono ?_
                rintro e x3 ⟨rfl, h3⟩
                have b4 := b3'.trans (h3.mono s3)
                have b4' := b4
                have s4 := b4.size
                clear h3
                go_wp2_with fail
                refine (total_lit _ _ _ wr.heap.size (ml.take q1) _ (reads_take (rm.below b4') (by omega)) s4 (by omega) (fun x hx => inR_up (HP.out x (List.mem_of_mem_take hx))) hq.out.2.2.1).mono ?_
                rintro e x4 ⟨rfl, h4⟩
                have b5 := b4'.trans (h4.mono s4)
                have b5' := b5
                have s5 := b5.size
                clear h4
                go_wp2_with fail
                refine (total_lit _ _ _ wr.heap.size (ml.drop q1) _ (reads_drop (rm.below b5') (by omega)) s5 (by omega) (fun x hx => inR_up (HP.out x (List.mem_of_mem_drop hx))) hq.out.2.2.2.1).mono ?_
                rintro e x5 ⟨rfl, h5⟩
                have b6 := b5'.trans (h5.mono s5)
                have b6' := b6
                have s6 := b6.size
                clear h5
                go_wp2
                go_ret
                exact ⟨rfl, hbel.trans (b6.mono hbel.size)⟩
          · have hj0 : j = 0 := by omega
            clear HM HW HP HL om ob rb
            subst hj0
            have b2 := Below.refl wr.heap.size wr
            have s2 := Nat.le_refl wr.heap.size
            go_wp2_with fail
            refine (total_zero _ _ _).mono ?_
            rintro e x2 ⟨rfl, h2⟩
            have b3 := b2.trans (h2.mono s2)
            have s3 := b3.size
            clear h2
            go_wp2_with fail
            refine (total_zero _ _ _).mono ?_
            rintro e x3 ⟨rfl, h3⟩
            have b4 := b3.trans (h3.mono s3)
            have s4 := b4.size
            clear h3
            go_wp2_with fail
            refine (total_zero _ _ _).mono ?_
            rintro e x4 ⟨rfl, h4⟩
            have b5 := b4.trans (h4.mono s4)
            have s5 := b5.size
            clear h4
            go_wp2_with fail
            refine (total_zero _ _ _).mono ?_
            rintro e x5 ⟨rfl, h5⟩
            have b6 := b5.trans (h5.mono s5)
            have s6 := b6.size
            clear h5
            go_wp2_with fail
            refine (add_lit 0 0 _ (V := 0) (E := 0) (by decide) (by decide) ⟨by decide, by decide⟩).mono ?_
            rintro e x6 ⟨rfl, h6⟩
            have b7 := b6.trans (h6.mono s6)
            clear h6
            go_wp2
            go_ret
            exact ⟨rfl, hbel.trans (b7.mono hbel.size)⟩
theorem walk (A : Option Addr) (n c : Nat) (l : List Int) (a : Int) (w : World) (hr : Reads w w.heap.size 1 A n (ints l)) (hw : ∀ x ∈ l, InR x) (ha : InR a) :
    Calls Try.prog 8 #[.slice A n c, .int .i64 a] w fun e w' => e = .returned (.bool true) ∧ Below w.heap.size w w' := by
  by_cases h : 2000 < n
  · exact walk_long A n c a w h
  · exact walk_short A n c l a w hr hw ha (by omega)

set_option maxRecDepth 100000 in
theorem lifted (os : Os) (started : os.Started) (H : Type) (enc : TypeId × Value → H) :
    ReturnsInHanded {} Try.checked os 8 .any (Rows.sumPartsSpec.pre6 enc Try.prog Try.f8 Rows.sumPartsRow.domain false) (Rows.sumPartsSpec.post enc Try.prog Try.f8 false true false false) := by
  refine returnsInHanded_of_change (C := Try.checked) own_none started (by kernel_rfl) Try.func8
    (ChangeSpec.witness6 (enc := enc) (C := Try.checked) false ⟨#[], #[.slice none 0 0, .int .i64 0], []⟩ 8 (by kernel_rfl) (by kernel_rfl) (by kernel_rfl) (by kernel_rfl)) ?_
  intro W base args ds gs before hval0 hW hcnd _
  have hval : ∀ (j : Nat) t v, Try.f8.params[j]? = some t → args[j]? = some v → Value.okWide Try.prog W .any base t v := hval0
  have hW' := hW
  obtain ⟨p, q, hA0, _, _, _, _⟩ := hW
  have hA : DataW.TrodAll enc Try.prog W 0 (fun _ => true) true Try.f8.params.toList args.toList ds p := hA0
  rw [Try.params8] at hA hval
  obtain ⟨v0, vs0, d0, ds0, p0, q0, hargs, rfl, rfl, h0, r0⟩ := trodAll_cons hA
  obtain ⟨v1, vs1, d1, ds1, p1, q1, rfl, rfl, rfl, h1, r1⟩ := trodAll_cons r0
  obtain ⟨rfl, rfl, rfl⟩ := trodAll_nil r1
  obtain rfl : args = #[v0, v1] := by cases args; simp_all
  obtain ⟨A0, n0, c0, l0, rfl, hr0, hw0⟩ := open_ints_arg Try.underlying27 Try.underlying3 (by kernel_rfl) (hval 0 27 v0 rfl rfl) h0
  obtain ⟨a1, rfl, _, _, w1⟩ := open_int Try.underlying3 (hval 1 3 v1 rfl rfl) h1
  refine (walk A0 n0 c0 l0 a1 W hr0 hw0 (inR_of_wf w1)).mono fun e W' ⟨he, hb⟩ => ?_
  subst he
  refine ⟨_, rfl, law_post hW' rfl rfl rfl rfl rfl Try.underlying4 laid_out ?_ hb⟩
  rw [Try.params8]
  intro t ht
  simp at ht
  rcases ht with rfl | rfl <;> exact ⟨by kernel_rfl, of_decide_eq_true (by kernel_rfl)⟩

theorem over : Rows.sumPartsRow.holds Try.pinned (OpenSpec.ofChange Rows.sumPartsSpec) :=
  OpenClaim.holds_of_wide 8 Try.f8 rfl rfl rfl rfl rfl rfl rfl ⟨rfl, rfl, rfl, rfl, rfl⟩ rfl rfl rfl rfl rfl (by kernel_rfl) Try.func8 (by kernel_rfl)
    (of_decide_eq_true (by kernel_rfl)) (by unfold Func.isWrapper; first | (rw [if_pos (by decide +kernel)]; kernel_rfl) | (rw [if_neg (by decide +kernel)]; exact ⟨rfl, rfl⟩))
    (fun os started H enc _ => lifted os started H enc)

theorem proved : Rows.SumPartsSaid := over
#print axioms proved
end Go.Proofs.Ytobamjjonkhcfaa.sumParts
