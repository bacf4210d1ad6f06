/- The contract of sum.Total: the numbers added one by one, and no error, or 0 and ErrOver where one of the sums has no room; memory before is as it was. Words for slices that read as lists. -/
import Derived.Test.YtobamjjonkhcfaaAddMul
import Derived.Laws.OwnMore
import Derived.Deep.AppendLies
import Derived.Deep.Draws
namespace Go.Proofs.Ytobamjjonkhcfaa
open Go.RowKit

theorem block_of_add (a : Addr) (n : Nat) : (a.add n).block = a.block := by unfold Addr.add; split <;> rfl
theorem add_of_add (a : Addr) (i j : Nat) : (a.add i).add j = a.add (i + j) := by
  unfold Addr.add
  by_cases hi : i = 0 <;> by_cases hj : j = 0 <;> simp [hi, hj, Nat.add_assoc]

def Reads (w : World) (B size : Nat) (A : Option Addr) (n : Nat) (xs : List Value) : Prop :=
  xs.length = n * size ∧ (0 < n → ∃ ad, A = some ad ∧ ad.block < B ∧ ∀ j u, xs[j]? = some u → w.cell? (ad.add j) = some u)

section
variable {w w' : World} {B B' size n : Nat} {A : Option Addr} {xs : List Value}
theorem Reads.none_ : Reads w B size A 0 [] := ⟨by simp, fun h => absurd h (by omega)⟩
theorem Reads.at_ {k : Nat} (h : Reads w B 1 A n xs) (hk : k < n) : ∃ ad u, A = some ad ∧ ad.block < B ∧ xs[k]? = some u ∧ w.cell? (ad.add k) = some u := by
  obtain ⟨ad, e, hb, hc⟩ := h.2 (by omega)
  have hl : k < xs.length := by have := h.1; omega
  exact ⟨ad, xs[k], e, hb, List.getElem?_eq_getElem hl, hc k _ (List.getElem?_eq_getElem hl)⟩
theorem Reads.keep (h : Reads w B size A n xs) (hk : ∀ p : Addr, p.block < B → w'.cell? p = w.cell? p) : Reads w' B size A n xs :=
  ⟨h.1, fun hn => by
    obtain ⟨ad, e, hb, hc⟩ := h.2 hn
    exact ⟨ad, e, hb, fun j u hu => (hk _ (by rw [block_of_add]; exact hb)).trans (hc j u hu)⟩⟩
theorem Reads.more (h : Reads w B size A n xs) (hB : B ≤ B') : Reads w B' size A n xs :=
  ⟨h.1, fun hn => by
    obtain ⟨ad, e, hb, hc⟩ := h.2 hn
    exact ⟨ad, e, by omega, hc⟩⟩
theorem Reads.below (h : Reads w B size A n xs) (hb : Below B w w') : Reads w' B size A n xs := h.keep fun _ hp => hb.cell hp
theorem Reads.drew (h : Reads w B size A n xs) : Reads w.drew B size A n xs := h
theorem Reads.drewN (h : Reads w B size A n xs) (k : Nat) : Reads (w.drewN k) B size A n xs := h
theorem Reads.alloc (h : Reads w B size A n xs) (hB : B ≤ w.heap.size) (o : Obj) : Reads (w.alloc o) B size A n xs := h.keep fun p hp => World.cell?_alloc_lt w o p (by omega)
theorem Reads.setCell (h : Reads w B size A n xs) {p : Addr} (hB : B ≤ p.block) (u : Value) : Reads (w.setCell p u) B size A n xs :=
  h.keep fun q hq => World.cell?_setCell_other w p q u (fun e => by subst e; omega)
theorem Reads.grown (h : Reads w B size A n xs) {row : Option Nat} (hg : w.grownBy w' row) (hB : B ≤ w.heap.size) (hr : ∀ g, row = some g → B ≤ g) : Reads w' B size A n xs :=
  h.keep fun p hp => World.cell?_of_block (hg.block p.block (by omega) (fun e => by have := hr _ e.symm; omega))
theorem Reads.cut (h : Reads w B size A n xs) {k cap : Nat} (hk : k ≤ n) (hc : n ≤ cap) :
    Reads w B size (if cap = k then A else A.map (·.add (k * size))) (n - k) (xs.drop (k * size)) := by
  refine ⟨by rw [List.length_drop, h.1, Nat.sub_mul], fun hn => ?_⟩
  obtain ⟨ad, rfl, hb, hcell⟩ := h.2 (by omega)
  rw [if_neg (by omega)]
  refine ⟨ad.add (k * size), rfl, by rw [block_of_add]; exact hb, fun j u hu => ?_⟩
  rw [add_of_add]
  exact hcell _ u (by rw [← hu, List.getElem?_drop])
theorem Reads.of_own {base : Nat} {e : TypeId} {c : Nat} (h : w.ownsRow base e size (.slice A n c) n xs) : Reads w w.heap.size size A n xs := by
  refine ⟨h.1, fun hn => ?_⟩
  obtain ⟨g, cap, hv, _, hlt⟩ := h.form hn
  have hA : A = some ⟨g, 0, none⟩ := by injection hv
  subst hA
  exact ⟨_, rfl, hlt, h.cells (g := g) rfl⟩
end

/-! ### Totals -/
def tot : Int → List Int → Option Int
  | n, [] => some n
  | n, x :: l => if InR (n + x) then tot (n + x) l else none
theorem tot_append (l m : List Int) : ∀ n, tot n (l ++ m) = (tot n l).bind fun k => tot k m := by
  induction l with
  | nil => intro n; rfl
  | cons x l ih => intro n; simp only [List.cons_append, tot]; split
                   · exact ih _
                   · rfl
theorem tot_range {l : List Int} : ∀ {n k : Int}, InR n → tot n l = some k → InR k := by
  induction l with
  | nil => intro n k hn h; simp only [tot, Option.some.injEq] at h; rw [← h]; exact hn
  | cons x l ih => intro n k hn h; simp only [tot] at h; split at h
                   · exact ih ‹_› h
                   · cases h
theorem tot_take {l : List Int} {k : Nat} (hk : k < l.length) (n : Int) : tot n (l.take (k + 1)) = (tot n (l.take k)).bind fun t => if InR (t + l[k]) then some (t + l[k]) else none := by
  rw [List.take_succ_eq_append_getElem hk, tot_append]
  congr 1
theorem tot_cut {l : List Int} {k : Nat} {n : Int} (h : tot n (l.take k) = none) : tot n l = none := by
  have := tot_append (l.take k) (l.drop k) n
  rw [List.take_append_drop, h] at this
  exact this
def totV (l : List Int) : Int := (tot 0 l).getD 0
def totE (l : List Int) : Int := if (tot 0 l).isSome then 0 else 2
def ints (l : List Int) : List Value := l.map (Value.int .i64)
theorem ints_at {l : List Int} {k : Nat} {v : Value} (h : (ints l)[k]? = some v) : ∃ hk : k < l.length, v = .int .i64 l[k] := by
  unfold ints at h
  rw [List.getElem?_map] at h
  rcases Nat.lt_or_ge k l.length with hk | hk
  · rw [List.getElem?_eq_getElem hk] at h; exact ⟨hk, by simpa using h.symm⟩
  · rw [List.getElem?_eq_none hk] at h; cases h
def TotPost (l : List Int) (w : World) (e : Ending) (w' : World) : Prop :=
  w = w' ∧ ((∃ n, tot 0 l = some n ∧ e = .returned (.int .i64 n)) ∨ (tot 0 l = none ∧ e = .panicked [{ v := .iface 23 (.int .i64 2), recovered := false }]))
theorem enter_total1 (cap : Array Value) (w : World) : (callFunc 29 cap).run Try.prog w = .ok (.enter 29 cap) w := by kernel_rfl
theorem total1_any (p : Addr) (A : Option Addr) (n c B : Nat) (l : List Int) (w : World) (hp : w.cell? p = some (.slice A n c)) (hr : Reads w B 1 A n (ints l)) (hn : n ≤ 9223372036854775807) (hw : ∀ x ∈ l, InR x) :
    Calls Try.prog 29 #[.pointer (some p)] w (TotPost l w) := by
  have hlen : Hid (l.length = n) := Lib.hid (by have := hr.1; simpa [ints] using this)
  go_enter Try.func29, Try.ntmps29
  go_wp2
  go_loop [2, 7] (fun t i => ∃ (k : Nat) (s : Int), k ≤ n ∧ i = .int .i64 k ∧ t = .int .i64 s ∧ tot 0 (l.take k) = some s) (fun _ i => n - (intOf i).toNat)
  case atStart => exact ⟨0, 0, Nat.zero_le _, rfl, rfl, by simp [tot]⟩
  case round =>
    obtain ⟨k, s, hk, rfl, rfl, ht⟩ := hrel
    have HT := Lib.hid ht
    have hs := tot_range (by decide) ht
    clear ht
    by_cases hlt : k < n
    · obtain ⟨ad, v, rfl, _, hx, hc⟩ := hr.at_ hlt
      obtain ⟨hkl, rfl⟩ := ints_at hx
      have hx2 := hw _ (List.getElem_mem hkl)
      clear hx
      generalize hg : l[k] = x at *
      have HG := Lib.hid hg
      clear hg
      by_cases hin : InR (s + x)
      · go_wp2_with (go_at_call 26; refine (add_fits _ _ _ hs hx2 hin).mono ?_; rintro e w' ⟨rfl, rfl⟩)
        go_round
        case rel => exact ⟨k + 1, s + x, by omega, by go_num, rfl, by rw [tot_take hkl, HT.out]; simp [HG.out, hin]⟩
        case measure => simp [intOf]; omega
      · go_wp2_with (go_at_call 26; refine (add_over _ _ _ hs hx2 hin).mono ?_; rintro e w' ⟨rfl, rfl⟩)
        refine ⟨rfl, rfl, .inr ⟨tot_cut (k := k + 1) ?_, rfl⟩⟩
        rw [tot_take hkl, HT.out]; simp [HG.out, hin]
    · go_wp2
      go_ret
      refine ⟨rfl, .inl ⟨s, ?_, rfl⟩⟩
      have : k = l.length := by have := hlen.out; omega
      rw [← HT.out, this, List.take_length]

theorem cell_lt {w : World} {p : Addr} {v : Value} (h : w.cell? p = some v) : p.block < w.heap.size := by
  rcases Nat.lt_or_ge p.block w.heap.size with hl | hl
  · exact hl
  · exfalso
    simp [World.cell?, Array.getElem?_eq_none hl] at h
theorem tot_range0 {l : List Int} {n : Int} (h : tot 0 l = some n) : InR n := tot_range (by decide) h
theorem total_within (p : Addr) (A : Option Addr) (n c B : Nat) (l : List Int) (w : World) (hp : w.cell? p = some (.slice A n c)) (hr : Reads w B 1 A n (ints l)) (hB : B ≤ w.heap.size) (hn : n ≤ 9223372036854775807) (hw : ∀ x ∈ l, InR x) :
    Calls Try.prog 24 #[.func (.func 29) #[] #[.pointer (some p)]] w fun e w' => e = .returned (.tuple #[.int .i64 (totV l), .int .i64 (totE l)]) ∧ Below w.heap.size w w' := by
  have H := total1_any p A n c B l (w.alloc (.cells #[.int .i64 0] 23)) (cell_old hp _) (hr.alloc hB _) hn hw
  rcases ht : tot 0 l with _ | n
  · have e1 : totV l = 0 := by unfold totV; rw [ht]; rfl
    have e2 : totE l = 2 := by unfold totE; rw [ht]; rfl
    rw [e1, e2]
    refine within_err _ _ _ _ (enter_total1 _) (H.mono ?_)
    rintro e w' ⟨rfl, ⟨n, h, _⟩ | ⟨_, h⟩⟩
    · rw [ht] at h; cases h
    · exact ⟨h, Below.refl _ _⟩
  · have e1 : totV l = n := by unfold totV; rw [ht]; rfl
    have e2 : totE l = 0 := by unfold totE; rw [ht]; rfl
    rw [e1, e2]
    refine within_ok _ _ _ _ (enter_total1 _) (H.mono ?_)
    rintro e w' ⟨rfl, ⟨n', h, h2⟩ | ⟨h, _⟩⟩
    · rw [ht] at h; injection h with h; subst h; exact ⟨h2, Below.refl _ _⟩
    · rw [ht] at h; cases h
theorem Total_any (A : Option Addr) (n c B : Nat) (l : List Int) (w : World) (hr : Reads w B 1 A n (ints l)) (hB : B ≤ w.heap.size) (hn : n ≤ 9223372036854775807) (hw : ∀ x ∈ l, InR x) :
    Calls Try.prog 14 #[.slice A n c] w fun e w' => e = .returned (.tuple #[.int .i64 (totV l), .int .i64 (totE l)]) ∧ Below w.heap.size w w' := by
  have hmf : ∀ (fn : Fn) (first cap : Array Value) (w : World), (Instr.makeFunc fn first cap).run Try.prog w = .ok (.func fn first cap) w := fun _ _ _ _ => rfl
  have H := Lib.hid (total_within _ A n c B l _ (cell_new w (.slice A n c) 27) (hr.alloc hB _) (by simp; omega) hn hw)
  clear hr hw
  go_enter Try.func14, Try.ntmps14
  go_wp2_with (go_at_call 24; refine H.out.mono ?_; rintro e w' ⟨rfl, hb1⟩)
  go_ret2
  exact ⟨rfl, ((Below.refl _ w).alloc (Nat.le_refl _) _).trans (hb1.mono (by simp))⟩

/-! ### Totals of products -/
def dot : Int → List Int → List Int → Option Int
  | n, x :: a, y :: b => if InR (x * y) then if InR (n + x * y) then dot (n + x * y) a b else none else none
  | n, _, _ => some n
def prods : List Int → List Int → Option (List Int)
  | x :: a, y :: b => if InR (x * y) then (prods a b).map (x * y :: ·) else none
  | _, _ => some []
theorem dot_prods (a : List Int) : ∀ (b : List Int) (n : Int), dot n a b = (prods a b).bind (tot n) := by
  induction a with
  | nil => intro b n; simp [dot, prods, tot]
  | cons x a ih =>
    intro b n
    cases b with
    | nil => simp [dot, prods, tot]
    | cons y b =>
      simp only [dot, prods]
      by_cases h : InR (x * y)
      · simp only [h, if_true, ih]
        rcases prods a b with _ | l
        · by_cases h2 : InR (n + x * y) <;> simp [h2]
        · simp [tot]
      · simp [h]
theorem dot_append (a : List Int) : ∀ (b c d : List Int) (n : Int), a.length = b.length → dot n (a ++ c) (b ++ d) = (dot n a b).bind fun k => dot k c d := by
  induction a with
  | nil => intro b c d n h; cases b with
    | nil => simp [dot]
    | cons y b => simp at h
  | cons x a ih => intro b c d n h; cases b with
    | nil => simp at h
    | cons y b =>
      simp only [List.cons_append, dot]
      split
      · split
        · exact ih _ _ _ _ (by simpa using h)
        · rfl
      · rfl
theorem dot_range {a : List Int} : ∀ {b : List Int} {n k : Int}, InR n → dot n a b = some k → InR k := by
  induction a with
  | nil => intro b n k hn h; simp only [dot, Option.some.injEq] at h; rw [← h]; exact hn
  | cons x a ih => intro b n k hn h; cases b with
    | nil => simp only [dot, Option.some.injEq] at h; rw [← h]; exact hn
    | cons y b =>
      simp only [dot] at h; split at h
      · split at h
        · exact ih ‹_› h
        · cases h
      · cases h
theorem dot_take {a b : List Int} {k : Nat} (ha : k < a.length) (hb : k < b.length) (n : Int) :
    dot n (a.take (k + 1)) (b.take (k + 1)) = (dot n (a.take k) (b.take k)).bind fun t => if InR (a[k] * b[k]) then if InR (t + a[k] * b[k]) then some (t + a[k] * b[k]) else none else none := by
  rw [List.take_succ_eq_append_getElem ha, List.take_succ_eq_append_getElem hb, dot_append _ _ _ _ _ (by simp; omega)]
  congr 1
theorem dot_cut {a b : List Int} {k : Nat} (ha : k ≤ a.length) (hb : k ≤ b.length) {n : Int} (h : dot n (a.take k) (b.take k) = none) : dot n a b = none := by
  have := dot_append (a.take k) (b.take k) (a.drop k) (b.drop k) n (by simp; omega)
  rw [List.take_append_drop, List.take_append_drop, h] at this
  exact this
def dotV (a b : List Int) : Int := if a.length = b.length then (dot 0 a b).getD 0 else 0
def dotE (a b : List Int) : Int := if a.length = b.length then if (dot 0 a b).isSome then 0 else 2 else 1
def DotPost (a b : List Int) (w : World) (e : Ending) (w' : World) : Prop :=
  w = w' ∧ ((∃ n, dot 0 a b = some n ∧ e = .returned (.int .i64 n)) ∨ (dot 0 a b = none ∧ e = .panicked [{ v := .iface 23 (.int .i64 2), recovered := false }]))
theorem enter_dot1 (cap : Array Value) (w : World) : (callFunc 30 cap).run Try.prog w = .ok (.enter 30 cap) w := by kernel_rfl
theorem dot1_any (p q : Addr) (A A' : Option Addr) (n c c' B : Nat) (a b : List Int) (w : World) (hp : w.cell? p = some (.slice A n c)) (hq : w.cell? q = some (.slice A' n c')) (hr : Reads w B 1 A n (ints a)) (hr' : Reads w B 1 A' n (ints b))
    (hn : n ≤ 9223372036854775807) (hw : ∀ x ∈ a, InR x) (hw' : ∀ x ∈ b, InR x) :
    Calls Try.prog 30 #[.pointer (some p), .pointer (some q)] w (DotPost a b w) := by
  have hlen : Hid (a.length = n) := Lib.hid (by have := hr.1; simpa [ints] using this)
  have hlen' : Hid (b.length = n) := Lib.hid (by have := hr'.1; simpa [ints] using this)
  go_enter Try.func30, Try.ntmps30
  go_wp2
  go_loop [3, 8] (fun t i => ∃ (k : Nat) (s : Int), k ≤ n ∧ i = .int .i64 k ∧ t = .int .i64 s ∧ dot 0 (a.take k) (b.take k) = some s) (fun _ i => n - (intOf i).toNat)
  case atStart => exact ⟨0, 0, Nat.zero_le _, rfl, rfl, by simp [dot]⟩
  case round =>
    obtain ⟨k, s, hk, rfl, rfl, ht⟩ := hrel
    have HT := Lib.hid ht
    have hs := dot_range (by decide) ht
    clear ht
    by_cases hlt : k < n
    · obtain ⟨ad, v, rfl, _, hx, hc⟩ := hr.at_ hlt
      obtain ⟨hkl, rfl⟩ := ints_at hx
      obtain ⟨ad', v, rfl, _, hy, hc'⟩ := hr'.at_ hlt
      obtain ⟨hkl', rfl⟩ := ints_at hy
      have hx2 := hw _ (List.getElem_mem hkl)
      have hy2 := hw' _ (List.getElem_mem hkl')
      clear hx hy
      generalize hg : a[k] = x at *
      have HG := Lib.hid hg
      clear hg
      generalize hg : b[k] = y at *
      have HG' := Lib.hid hg
      clear hg
      by_cases hm : InR (x * y)
      · by_cases hin : InR (s + x * y)
        · go_wp2_with (first | (go_at_call 28; refine (mul_fits _ _ _ hx2 hy2 hm).mono ?_; rintro e w' ⟨rfl, rfl⟩) | (go_at_call 26; refine (add_fits _ _ _ hs hm hin).mono ?_; rintro e w' ⟨rfl, rfl⟩))
          go_round
          case rel => exact ⟨k + 1, s + x * y, by omega, by go_num, rfl, by rw [dot_take hkl hkl', HT.out]; simp [HG.out, HG'.out, hin, hm]⟩
          case measure => simp [intOf]; omega
        · go_wp2_with (first | (go_at_call 28; refine (mul_fits _ _ _ hx2 hy2 hm).mono ?_; rintro e w' ⟨rfl, rfl⟩) | (go_at_call 26; refine (add_over _ _ _ hs hm hin).mono ?_; rintro e w' ⟨rfl, rfl⟩))
          refine ⟨rfl, rfl, .inr ⟨dot_cut (k := k + 1) hkl hkl' ?_, rfl⟩⟩
          rw [dot_take hkl hkl', HT.out]; simp [HG.out, HG'.out, hin, hm]
      · go_wp2_with (go_at_call 28; refine (mul_over _ _ _ hx2 hy2 hm).mono ?_; rintro e w' ⟨rfl, rfl⟩)
        refine ⟨rfl, rfl, .inr ⟨dot_cut (k := k + 1) hkl hkl' ?_, rfl⟩⟩
        rw [dot_take hkl hkl', HT.out]; simp [HG.out, HG'.out, hm]
    · go_wp2
      go_ret
      refine ⟨rfl, .inl ⟨s, ?_, rfl⟩⟩
      have e1 : k = a.length := by have := hlen.out; omega
      have e2 : a.length = b.length := hlen.out.trans hlen'.out.symm
      have := HT.out
      rw [e1, List.take_length, e2, List.take_length] at this
      exact this

theorem dot_within (p q : Addr) (A A' : Option Addr) (n c c' B : Nat) (a b : List Int) (w : World) (hp : w.cell? p = some (.slice A n c)) (hq : w.cell? q = some (.slice A' n c')) (hr : Reads w B 1 A n (ints a)) (hr' : Reads w B 1 A' n (ints b))
    (hB : B ≤ w.heap.size) (hn : n ≤ 9223372036854775807) (hw : ∀ x ∈ a, InR x) (hw' : ∀ x ∈ b, InR x) :
    Calls Try.prog 24 #[.func (.func 30) #[] #[.pointer (some p), .pointer (some q)]] w fun e w' => e = .returned (.tuple #[.int .i64 (dotV a b), .int .i64 (dotE a b)]) ∧ Below w.heap.size w w' := by
  have hl : a.length = b.length := by have := hr.1; have := hr'.1; simp [ints] at *; omega
  have H := dot1_any p q A A' n c c' B a b (w.alloc (.cells #[.int .i64 0] 23)) (cell_old hp _) (cell_old hq _) (hr.alloc hB _) (hr'.alloc hB _) hn hw hw'
  rcases ht : dot 0 a b with _ | n
  · have e1 : dotV a b = 0 := by unfold dotV; rw [if_pos hl, ht]; rfl
    have e2 : dotE a b = 2 := by unfold dotE; rw [if_pos hl, ht]; rfl
    rw [e1, e2]
    refine within_err _ _ _ _ (enter_dot1 _) (H.mono ?_)
    rintro e w' ⟨rfl, ⟨n, h, _⟩ | ⟨_, h⟩⟩
    · rw [ht] at h; cases h
    · exact ⟨h, Below.refl _ _⟩
  · have e1 : dotV a b = n := by unfold dotV; rw [if_pos hl, ht]; rfl
    have e2 : dotE a b = 0 := by unfold dotE; rw [if_pos hl, ht]; rfl
    rw [e1, e2]
    refine within_ok _ _ _ _ (enter_dot1 _) (H.mono ?_)
    rintro e w' ⟨rfl, ⟨n', h, h2⟩ | ⟨h, _⟩⟩
    · rw [ht] at h; injection h with h; subst h; exact ⟨h2, Below.refl _ _⟩
    · rw [ht] at h; cases h
theorem Dot_any (A A' : Option Addr) (n m c c' B : Nat) (a b : List Int) (w : World) (hr : Reads w B 1 A n (ints a)) (hr' : Reads w B 1 A' m (ints b)) (hB : B ≤ w.heap.size) (hn : n ≤ 9223372036854775807) (hm : m ≤ 9223372036854775807) (hw : ∀ x ∈ a, InR x) (hw' : ∀ x ∈ b, InR x) :
    Calls Try.prog 16 #[.slice A n c, .slice A' m c'] w fun e w' => e = .returned (.tuple #[.int .i64 (dotV a b), .int .i64 (dotE a b)]) ∧ Below w.heap.size w w' := by
  have hmf : ∀ (fn : Fn) (first cap : Array Value) (w : World), (Instr.makeFunc fn first cap).run Try.prog w = .ok (.func fn first cap) w := fun _ _ _ _ => rfl
  have la : a.length = n := by have := hr.1; simpa [ints] using this
  have lb : b.length = m := by have := hr'.1; simpa [ints] using this
  by_cases hnm : n = m
  · subst hnm
    have c0 := cell_old (cell_new w (.slice A n c) 27) (.cells #[.slice A' n c'] 27)
    have c1 : ((w.alloc (.cells #[.slice A n c] 27)).alloc (.cells #[.slice A' n c'] 27)).cell? ⟨w.heap.size + 1, 0, none⟩ = some (.slice A' n c') := by simp
    have H := Lib.hid (dot_within _ _ A A' n c c' B a b _ c0 c1 ((hr.alloc hB _).alloc (by simp; omega) _) ((hr'.alloc hB _).alloc (by simp; omega) _) (by simp; omega) hn hw hw')
    clear hr hw hr' hw' c0 c1 la lb
    go_enter Try.func16, Try.ntmps16
    go_wp2_with (go_at_call 24; refine H.out.mono ?_; rintro e w' ⟨rfl, hb1⟩)
    go_ret2
    exact ⟨rfl, (((Below.refl _ w).alloc (Nat.le_refl _) _).alloc (by simp) _).trans (hb1.mono (by simp; omega))⟩
  · have e1 : Hid (dotV a b = 0) := Lib.hid (by unfold dotV; rw [if_neg (by omega)])
    have e2 : Hid (dotE a b = 1) := Lib.hid (by unfold dotE; rw [if_neg (by omega)])
    have ht : ((n : Int) != (m : Int)) = true := by rw [bne_iff_ne]; omega
    clear hr hw hr' hw' la lb
    go_enter Try.func16, Try.ntmps16
    go_wp2
    go_ret2
    exact ⟨by rw [e1.out, e2.out]; rfl, (((Below.refl _ w).alloc (Nat.le_refl _) _).alloc (by simp) _)⟩
end Go.Proofs.Ytobamjjonkhcfaa
