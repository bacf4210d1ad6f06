/- The contracts of the document's own Total and Dot: the same number and error as package sum's; memory before is as it was. -/
import Derived.Test.YtobamjjonkhcfaaTotal
import Derived.Test.YtobamjjonkhcfaaRef
import Derived.Deep.QuietTactic
import Derived.BigQuiet
namespace Go.Proofs.Ytobamjjonkhcfaa
open Go.RowKit

theorem refAdd_in (a b : Int) (w : World) (ha : InR a) (hb : InR b) (h : InR (a + b)) :
    Calls Try.prog 11 #[.int .i64 a, .int .i64 b] w fun e w' => e = .returned (.tuple #[.int .i64 (a + b), .int .i64 0]) ∧ w = w' := by
  have := refAdd_any a b w ha hb
  rwa [(addV_in h).1, (addV_in h).2] at this
theorem refAdd_out (a b : Int) (w : World) (ha : InR a) (hb : InR b) (h : ¬ InR (a + b)) :
    Calls Try.prog 11 #[.int .i64 a, .int .i64 b] w fun e w' => e = .returned (.tuple #[.int .i64 0, .int .i64 2]) ∧ w = w' := by
  have := refAdd_any a b w ha hb
  rwa [(addV_out h).1, (addV_out h).2] at this
theorem refMul_in (a b : Int) (w : World) (ha : InR a) (hb : InR b) (h : InR (a * b)) :
    Calls Try.prog 13 #[.int .i64 a, .int .i64 b] w fun e w' => e = .returned (.tuple #[.int .i64 (a * b), .int .i64 0]) ∧ w = w' := by
  have := refMul_any a b w ha hb
  rwa [(mulV_in h).1, (mulV_in h).2] at this
theorem refMul_out (a b : Int) (w : World) (ha : InR a) (hb : InR b) (h : ¬ InR (a * b)) :
    Calls Try.prog 13 #[.int .i64 a, .int .i64 b] w fun e w' => e = .returned (.tuple #[.int .i64 0, .int .i64 2]) ∧ w = w' := by
  have := refMul_any a b w ha hb
  rwa [(mulV_out h).1, (mulV_out h).2] at this

theorem refTotal_any (A : Option Addr) (n c B : Nat) (l : List Int) (w : World) (hr : Reads w B 1 A n (ints l)) (hn : n ≤ 9223372036854775807) (hw : ∀ x ∈ l, InR x) :
    Calls Try.prog 15 #[.slice A n c] w fun e w' => e = .returned (.tuple #[.int .i64 (totV l), .int .i64 (totE l)]) ∧ w = w' := by
  have hlen : Hid (l.length = n) := Lib.hid (by have := hr.1; simpa [ints] using this)
  go_enter Try.func15, Try.ntmps15
  go_wp2
  go_loop [4, 5] (fun t i => ∃ (k : Nat) (s : Int), k ≤ n ∧ i = .int .i64 k ∧ t = .int .i64 s ∧ tot 0 (l.take k) = some s) (fun _ i => n - (intOf i).toNat)
  case atStart => exact ⟨0, 0, Nat.zero_le _, rfl, rfl, by simp [tot]⟩
  case round =>
    obtain ⟨k, s, hk, rfl, rfl, ht⟩ := hrel
    have HT := Lib.hid ht
    have hs := tot_range (by decide) ht
    clear ht
    by_cases hlt : k < n
    · obtain ⟨ad, v, rfl, _, hx, hc⟩ := hr.at_ hlt
      obtain ⟨hkl, rfl⟩ := ints_at hx
      have hx2 := hw _ (List.getElem_mem hkl)
      clear hx
      generalize hg : l[k] = x at *
      have HG := Lib.hid hg
      clear hg
      by_cases hin : InR (s + x)
      · go_wp2_with (go_at_call 11; refine (refAdd_in _ _ _ hs hx2 hin).mono ?_; rintro e w' ⟨rfl, rfl⟩)
        go_round
        case rel => exact ⟨k + 1, s + x, by omega, by go_num, rfl, by rw [tot_take hkl, HT.out]; simp [HG.out, hin]⟩
        case measure => simp [intOf]; omega
      · go_wp2_with (go_at_call 11; refine (refAdd_out _ _ _ hs hx2 hin).mono ?_; rintro e w' ⟨rfl, rfl⟩)
        go_ret2
        have hno : tot 0 l = none := tot_cut (k := k + 1) (by rw [tot_take hkl, HT.out]; simp [HG.out, hin])
        exact ⟨by unfold totV totE; rw [hno]; rfl, rfl⟩
    · go_wp2
      go_ret2
      have hyes : tot 0 l = some s := by
        have : k = l.length := by have := hlen.out; omega
        rw [← HT.out, this, List.take_length]
      exact ⟨by unfold totV totE; rw [hyes]; rfl, rfl⟩

theorem quiet_left {P : Program} {f : FuncId} {args : Array Value} {w : World} {n : Nat} {v : Value}
    (h : Calls P f args (w.drewN n) fun e w' => e = .returned v ∧ w.drewN n = w') : Calls P f args (w.drewN n) fun e w'' => e = .returned v ∧ ∃ m, w'' = w.drewN m :=
  h.mono fun _ _ ⟨he, hm⟩ => ⟨he, n, hm.symm⟩
theorem below_drewN {B : Nat} {a w : World} (h : Below B a w) (n : Nat) : Below B a (w.drewN n) := ⟨h.os, h.tape, h.output, h.size, h.block⟩
theorem own_reads {w : World} {base : Nat} {e : TypeId} {n : Nat} {v : Value} {xs : List Value} (h : w.ownsRow base e 1 v n xs) : ∃ A c, v = .slice A n c ∧ Reads w w.heap.size 1 A n xs := by
  have hl := h.1
  rcases h.2 with ⟨rfl, rfl⟩ | ⟨g, cap, cur, rfl, _⟩
  · have h0 : xs = [] := by simpa using hl
    subst h0
    exact ⟨none, 0, rfl, Reads.none_⟩
  · exact ⟨_, _, rfl, Reads.of_own h⟩
theorem prods_take {a : List Int} : ∀ {b : List Int} {k : Nat} {ps : List Int} (ha : k < a.length) (hb : k < b.length), prods (a.take k) (b.take k) = some ps →
    prods (a.take (k + 1)) (b.take (k + 1)) = if InR (a[k] * b[k]) then some (ps ++ [a[k] * b[k]]) else none := by
  induction a with
  | nil => intro b k ps ha; simp at ha
  | cons x a ih =>
    intro b k ps ha hb h
    cases b with
    | nil => simp at hb
    | cons y b =>
      cases k with
      | zero =>
        simp [prods] at h ⊢
        subst h
        by_cases hxy : InR (x * y) <;> simp [hxy]
      | succ k =>
        simp only [List.take_succ_cons, prods] at h ⊢
        by_cases hxy : InR (x * y)
        · simp only [hxy, if_true] at h ⊢
          rcases hp : prods (a.take k) (b.take k) with _ | qs
          · rw [hp] at h; simp at h
          · rw [hp] at h
            simp at h
            subst h
            rw [ih (by simpa using ha) (by simpa using hb) hp]
            simp only [List.getElem_cons_succ]
            split <;> simp
        · simp [hxy] at h
theorem prods_cut {a : List Int} : ∀ {b : List Int} {k : Nat}, a.length = b.length → prods (a.take k) (b.take k) = none → prods a b = none := by
  induction a with
  | nil => intro b k _ h; simp [prods] at h
  | cons x a ih =>
    intro b k hl h
    cases b with
    | nil => simp at hl
    | cons y b =>
      cases k with
      | zero => simp [prods] at h
      | succ k =>
        simp only [List.take_succ_cons, prods] at h ⊢
        split at h
        · rename_i hxy
          have h2 : prods (a.take k) (b.take k) = none := by simpa using h
          rw [if_pos hxy, ih (by simpa using hl) h2]
          rfl
        · rename_i hxy
          rw [if_neg hxy]
theorem prods_range {a : List Int} : ∀ {b ps : List Int}, prods a b = some ps → ∀ x ∈ ps, InR x := by
  induction a with
  | nil => intro b ps h; simp [prods] at h; subst h; simp
  | cons x a ih =>
    intro b ps h
    cases b with
    | nil => simp [prods] at h; subst h; simp
    | cons y b =>
      simp only [prods] at h
      split at h
      · rename_i hxy
        rcases hp : prods a b with _ | qs
        · rw [hp] at h; simp at h
        · rw [hp] at h; simp at h; subst h
          intro z hz
          rcases List.mem_cons.1 hz with rfl | hz
          · exact hxy
          · exact ih hp z hz
      · cases h
theorem ints_snoc (l : List Int) (x : Int) : ints (l ++ [x]) = ints l ++ [.int .i64 x] := by simp [ints]
theorem int_info : (Try.prog.info? 3).map (fun i => (i.zero, i.size, i.bytes)) = some (some (.int .i64 0), 1, 8) := by kernel_rfl

set_option maxHeartbeats 800000 in
theorem refDot_same (A A' : Option Addr) (n c c' : Nat) (a b : List Int) (w : World) (hr : Reads w w.heap.size 1 A n (ints a)) (hr' : Reads w w.heap.size 1 A' n (ints b)) (hn : n ≤ 65536) (hw : ∀ x ∈ a, InR x) (hw' : ∀ x ∈ b, InR x) :
    Calls Try.prog 17 #[.slice A n c, .slice A' n c'] w fun e w' => e = .returned (.tuple #[.int .i64 (dotV a b), .int .i64 (dotE a b)]) ∧ Below w.heap.size w w' := by
  have hlen : Hid (a.length = n) := Lib.hid (by have := hr.1; simpa [ints] using this)
  have hlen' : Hid (b.length = n) := Lib.hid (by have := hr'.1; simpa [ints] using this)
  obtain ⟨i0, hi, hz0, hz1, hz2⟩ := info_parts int_info
  go_enter Try.func17, Try.ntmps17
  go_wp2
  go_loopw [6, 7] (fun v i wr => ∃ (k : Nat) (ps : List Int), k ≤ n ∧ i = .int .i64 k ∧ ps.length = k ∧ prods (a.take k) (b.take k) = some ps ∧ wr.ownsRow w.heap.size 3 1 v k (ints ps) ∧ Below w.heap.size w wr) (fun _ i _ => n - (intOf i).toNat)
  case atStart => exact ⟨0, [], Nat.zero_le _, rfl, rfl, by simp [prods], World.ownsRow_nil _ _ _ _, Below.refl _ _⟩
  case round =>
    obtain ⟨k, ps, hk, rfl, hpl, ht, hown, hbel⟩ := hrel
    have HT := Lib.hid ht
    have HP := Lib.hid hpl
    clear ht hpl
    by_cases hlt : k < n
    · obtain ⟨ad, v, rfl, _, hx, hc⟩ := (hr.below hbel).at_ hlt
      obtain ⟨hkl, rfl⟩ := ints_at hx
      obtain ⟨ad', v, rfl, _, hy, hc'⟩ := (hr'.below hbel).at_ hlt
      obtain ⟨hkl', rfl⟩ := ints_at hy
      have hx2 := hw _ (List.getElem_mem hkl)
      have hy2 := hw' _ (List.getElem_mem hkl')
      clear hx hy
      have hlti : (k : Int) < (n : Int) := by omega
      generalize hg : a[k] = x at *
      have HG := Lib.hid hg
      clear hg
      generalize hg : b[k] = y at *
      have HG' := Lib.hid hg
      clear hg
      by_cases hin : InR (x * y)
      · go_wp2_with fail
        go_quiet ((go_at_call 13; exact quiet_left (refMul_in _ _ _ hx2 hy2 hin)))
        have hown2 : (wr.drewN nq).ownsRow w.heap.size 3 1 u6 k (ints ps) := hown
        have hbel2 := below_drewN hbel nq
        clear hown hbel hr hr' hc hc'
        generalize wr.drewN nq = w2 at *
        go_wp2_with (at_builtin; refine wpList_append_own _ rfl _ _ 27 rfl w.heap.size 3 i0 (.int .i64 0) 1 8 Try.underlying27 hi hz0 hz1 hz2 rfl (by decide) _ _ _ rfl (hown2.alloc _) ⟨w2.heap.size, 0, none⟩ 1 1 [.int .i64 (x * y)] rfl rfl ?c1 ?c2 ?c3 ?c4 ?c5 ?_)
        case c1 =>
          intro j u hj
          match j, hj with
          | 0, hj => simp at hj; subst hj; simp [Addr.add]
        case c2 => intro u hu; simp at hu; subst hu; rfl
        case c3 => unfold maxLen; omega
        case c4 => omega
        case c5 => have := hbel2.size; simp; omega
        intro v' w3 hown3 hgrow _
        have hown4 : w3.ownsRow w.heap.size 3 1 v' (k + 1) (ints (ps ++ [x * y])) := by rw [ints_snoc]; exact hown3
        have hbel3 : Below w.heap.size w w3 := (hbel2.alloc hbel2.size _).grown hgrow (by have := hbel2.size; simp; omega) (fun g hg => (hown2.lt g hg).1)
        clear hown3 hgrow hown2
        go_wp2
        go_roundw
        case rel => exact ⟨k + 1, ps ++ [x * y], by omega, by go_num, by simp [HP.out], by rw [prods_take hkl hkl' HT.out]; simp [HG.out, HG'.out, hin], hown4, hbel3⟩
        case measure => simp [intOf]; omega
      · go_wp2_with fail
        go_quiet ((go_at_call 13; exact quiet_left (refMul_out _ _ _ hx2 hy2 hin)))
        have hbel2 := below_drewN hbel nq
        go_wp2
        go_ret2
        have hl : a.length = b.length := hlen.out.trans hlen'.out.symm
        have hno : dot 0 a b = none := by
          rw [dot_prods, prods_cut (k := k + 1) hl (by rw [prods_take hkl hkl' HT.out]; simp [HG.out, HG'.out, hin])]
          rfl
        exact ⟨by unfold dotV dotE; rw [if_pos hl, if_pos hl, hno]; rfl, hbel2⟩
    · obtain ⟨A1, c1, rfl, hrd⟩ := own_reads hown
      have hps : Hid (prods a b = some ps) := Lib.hid (by
        have h1 := HT.out
        have e1 := hlen.out
        have e2 := hlen'.out
        rw [List.take_of_length_le (by omega), List.take_of_length_le (by omega)] at h1
        exact h1)
      have hin : ∀ x ∈ ps, InR x := prods_range hps.out
      have hl : Hid (a.length = b.length) := Lib.hid (hlen.out.trans hlen'.out.symm)
      have H := Lib.hid (refTotal_any A1 k c1 wr.heap.size ps wr hrd (by omega) hin)
      clear hin hrd hr hr' hown
      go_wp2_with (go_at_call 15; refine H.out.mono ?_; rintro e w' ⟨rfl, rfl⟩)
      go_ret2
      have hd : dot 0 a b = tot 0 ps := by rw [dot_prods, hps.out]; rfl
      exact ⟨by unfold dotV dotE; rw [if_pos hl.out, if_pos hl.out, hd]; rfl, hbel⟩
theorem refDot_any (A A' : Option Addr) (n m c c' : Nat) (a b : List Int) (w : World) (hr : Reads w w.heap.size 1 A n (ints a)) (hr' : Reads w w.heap.size 1 A' m (ints b)) (hn : n ≤ 65536) (hm : m ≤ 65536) (hw : ∀ x ∈ a, InR x) (hw' : ∀ x ∈ b, InR x) :
    Calls Try.prog 17 #[.slice A n c, .slice A' m c'] w fun e w' => e = .returned (.tuple #[.int .i64 (dotV a b), .int .i64 (dotE a b)]) ∧ Below w.heap.size w w' := by
  by_cases hnm : n = m
  · subst hnm
    exact refDot_same A A' n c c' a b w hr hr' hn hw hw'
  · have la : a.length = n := by have := hr.1; simpa [ints] using this
    have lb : b.length = m := by have := hr'.1; simpa [ints] using this
    have e1 : Hid (dotV a b = 0) := Lib.hid (by unfold dotV; rw [if_neg (by omega)])
    have e2 : Hid (dotE a b = 1) := Lib.hid (by unfold dotE; rw [if_neg (by omega)])
    have ht : ((n : Int) != (m : Int)) = true := by rw [bne_iff_ne]; omega
    clear hr hw hr' hw' la lb
    go_enter Try.func17, Try.ntmps17
    go_wp2
    go_ret2
    exact ⟨by rw [e1.out, e2.out]; rfl, Below.refl _ _⟩
end Go.Proofs.Ytobamjjonkhcfaa
