/- keelsonlaw1.SumDots: called with any arguments that can be read it returns true, and its arguments read as before. No condition. -/
import Derived.Test.YtobamjjonkhcfabShown
import Derived.Test.YtobamjjonkhcfabWords
import Derived.Test.YtobamjjonkhcfabPost
import Derived.OpenShut
namespace Go.Proofs.Ytobamjjonkhcfab.sumDots
open Go.ChangeShapes Go.WideShapes Go.ChangeAt Go.RowKit

/-! ### Numbers -/
def md (x : Int) : Int := x.tmod 1048576
def Small (x : Int) : Prop := -1048576 < x ∧ x < 1048576
theorem md_small (x : Int) : Small (md x) := by
  unfold Small md
  have h1 := Int.natAbs_tmod x 1048576
  have h2 : x.natAbs % (1048576 : Int).natAbs < 1048576 := Nat.mod_lt _ (by decide)
  omega
theorem small_mul {x y : Int} (hx : Small x) (hy : Small y) : -1099511627776 ≤ x * y ∧ x * y ≤ 1099511627776 := by
  unfold Small at *
  have h := Int.natAbs_mul x y
  have h2 : x.natAbs * y.natAbs ≤ 1048576 * 1048576 := Nat.mul_le_mul (by omega) (by omega)
  omega
def dsum : List Int → List Int → Int
  | x :: a, y :: b => x * y + dsum a b
  | _, _ => 0
theorem dsum_comm (a : List Int) : ∀ b, dsum a b = dsum b a := by
  induction a with
  | nil => intro b; cases b <;> rfl
  | cons x a ih => intro b; cases b with
    | nil => rfl
    | cons y b => simp only [dsum, ih b, Int.mul_comm]
theorem dot_small (a : List Int) : ∀ (b : List Int) (n : Int), (∀ x ∈ a, Small x) → (∀ y ∈ b, Small y) → -4611686018427387904 + 1099511627776 * a.length ≤ n → n ≤ 4611686018427387904 - 1099511627776 * a.length → dot n a b = some (n + dsum a b) := by
  induction a with
  | nil => intro b n _ _ _ _; cases b <;> simp [dot, dsum]
  | cons x a ih =>
    intro b n ha hb h1 h2
    cases b with
    | nil => simp [dot, dsum]
    | cons y b =>
      have hm := small_mul (ha x (by simp)) (hb y (by simp))
      simp only [List.length_cons] at h1 h2
      have i1 : InR (x * y) := by unfold InR; omega
      have i2 : InR (n + x * y) := by unfold InR; omega
      simp only [dot, dsum, i1, i2, if_true]
      rw [ih b _ (fun z hz => ha z (by simp [hz])) (fun z hz => hb z (by simp [hz])) (by omega) (by omega)]
      congr 1
      omega
theorem dot_ones (a : List Int) : ∀ (n : Int), (∀ x ∈ a, Small x) → dot n a (List.replicate a.length 1) = tot n a := by
  induction a with
  | nil => intro n _; simp [dot, tot]
  | cons x a ih =>
    intro n ha
    have hx := ha x (by simp)
    have i1 : InR x := by unfold Small InR at *; omega
    simp only [List.length_cons, List.replicate_succ, dot, tot, Int.mul_one, i1, if_true]
    split
    · exact ih _ (fun z hz => ha z (by simp [hz]))
    · rfl
structure Five (X Y : List Int) (n : Int) (K M : Int) : Prop where
  d1 : dotV X Y = K ∧ dotE X Y = 0
  d2 : dotV Y X = K ∧ dotE Y X = 0
  d3 : dotV X (List.replicate X.length 1) = M ∧ dotE X (List.replicate X.length 1) = 0
  d4 : totV X = M ∧ totE X = 0
  d5 : dotV (X ++ [n]) Y = 0 ∧ dotE (X ++ [n]) Y = 1
theorem five {X Y : List Int} (n : Int) (hX : ∀ x ∈ X, Small x) (hY : ∀ x ∈ Y, Small x) (hl : X.length = Y.length) (hn : X.length ≤ 500) : ∃ K M, Five X Y n K M := by
  have e1 := dot_small X Y 0 hX hY (by omega) (by omega)
  have e2 := dot_small Y X 0 hY hX (by omega) (by omega)
  have o1 : ∀ x ∈ List.replicate X.length (1 : Int), Small x := by intro x hx; rw [(List.mem_replicate.1 hx).2]; unfold Small; omega
  have e3 := dot_small X (List.replicate X.length 1) 0 hX o1 (by omega) (by omega)
  have e4 : tot 0 X = some (0 + dsum X (List.replicate X.length 1)) := by rw [← dot_ones X 0 hX]; exact e3
  refine ⟨dsum X Y, dsum X (List.replicate X.length 1), ⟨?_, ?_⟩, ⟨?_, ?_⟩, ⟨?_, ?_⟩, ⟨?_, ?_⟩, ⟨?_, ?_⟩⟩
  · unfold dotV; rw [if_pos hl, e1]; simp
  · unfold dotE; rw [if_pos hl, e1]; rfl
  · unfold dotV; rw [if_pos hl.symm, e2, dsum_comm Y X]; simp
  · unfold dotE; rw [if_pos hl.symm, e2]; rfl
  · unfold dotV; rw [if_pos (by simp), e3]; simp
  · unfold dotE; rw [if_pos (by simp), e3]; rfl
  · unfold totV; rw [e4]; simp
  · unfold totE; rw [e4]; rfl
  · unfold dotV; rw [if_neg (by simp; omega)]
  · unfold dotE; rw [if_neg (by simp; omega)]
theorem ints_snoc (l : List Int) (x : Int) : ints (l ++ [x]) = ints l ++ [.int .i64 x] := by simp [ints]
theorem take_md {l xl : List Int} (h : xl = l.map md) {k : Nat} {x : Int} (hk : k < l.length) (hx : l[k] = x) : xl.take (k + 1) = xl.take k ++ [md x] := by
  subst h
  rw [List.take_succ_eq_append_getElem (by simpa using hk)]
  simp [hx]
theorem small_in {x : Int} (h : Small x) : InR x := by unfold Small InR at *; omega
theorem dot_lit (A A' : Option Addr) (n m c c' B : Nat) (a b : List Int) (w : World) (hr : Reads w B 1 A n (ints a)) (hr' : Reads w B 1 A' m (ints b)) (hB : B ≤ w.heap.size) (hn : n ≤ 9223372036854775807) (hm : m ≤ 9223372036854775807) (hw : ∀ x ∈ a, InR x) (hw' : ∀ x ∈ b, InR x) {V E : Int} (h : dotV a b = V ∧ dotE a b = E) :
    Calls Try.prog 5 #[.slice A n c, .slice A' m c'] w fun e w' => e = .returned (.tuple #[.int .i64 V, .int .i64 E]) ∧ Below w.heap.size w w' := by
  rw [← h.1, ← h.2]
  exact Dot_any A A' n m c c' B a b w hr hr' hB hn hm hw hw'
theorem total_lit (A : Option Addr) (n c B : Nat) (l : List Int) (w : World) (hr : Reads w B 1 A n (ints l)) (hB : B ≤ w.heap.size) (hn : n ≤ 9223372036854775807) (hw : ∀ x ∈ l, InR x) {V E : Int} (h : totV l = V ∧ totE l = E) :
    Calls Try.prog 6 #[.slice A n c] w fun e w' => e = .returned (.tuple #[.int .i64 V, .int .i64 E]) ∧ Below w.heap.size w w' := by
  rw [← h.1, ← h.2]
  exact Total_any A n c B l w hr hB hn hw
theorem walk_long (A : Option Addr) (n c : Nat) (A' : Option Addr) (m c' : Nat) (a : Int) (w : World) (h : 500 < n ∨ 500 < m) :
    Calls Try.prog 3 #[.slice A n c, .slice A' m c', .int .i64 a] w fun e w' => e = .returned (.bool true) ∧ Below w.heap.size w w' := by
  by_cases hn : 500 < n
  · have t1 : decide ((500 : Int) < (n : Int)) = true := by simp; omega
    clear h hn
    go_enter Try.func3, Try.ntmps3
    go_wp2_with fail
    refine (shown_any _).mono ?_
    rintro e w1 ⟨rfl, hb1⟩
    go_wp2
    go_ret
    exact ⟨rfl, hb1⟩
  · have t1 : decide ((500 : Int) < (n : Int)) = false := by simp; omega
    have t2 : decide ((500 : Int) < (m : Int)) = true := by simp; omega
    clear h hn
    go_enter Try.func3, Try.ntmps3
    go_wp2_with fail
    refine (shown_any _).mono ?_
    rintro e w1 ⟨rfl, hb1⟩
    go_wp2
    go_ret
    exact ⟨rfl, hb1⟩
set_option maxHeartbeats 4000000 in
theorem walk_short (A : Option Addr) (n c : Nat) (l : List Int) (A' : Option Addr) (m c' : Nat) (l' : List Int) (a : Int) (w : World) (hr : Reads w w.heap.size 1 A n (ints l)) (hw : ∀ x ∈ l, InR x) (hr' : Reads w w.heap.size 1 A' m (ints l')) (hw' : ∀ x ∈ l', InR x) (ha : InR a) (hn : n ≤ 500) (hm : m ≤ 500) :
    Calls Try.prog 3 #[.slice A n c, .slice A' m c', .int .i64 a] w fun e w' => e = .returned (.bool true) ∧ Below w.heap.size w w' := by
  have t1 : decide ((500 : Int) < (n : Int)) = false := by simp; omega
  have t2 : decide ((500 : Int) < (m : Int)) = false := by simp; omega
  have hlen : Hid (l.length = n) := Lib.hid (by have := hr.1; simpa [ints] using this)
  have hlen' : Hid (l'.length = m) := Lib.hid (by have := hr'.1; simpa [ints] using this)
  obtain ⟨i0, hi, hz0, hz1, hz2⟩ := info_parts int_info'
  obtain ⟨xl, hxl⟩ : ∃ xl, xl = l.map md := ⟨_, rfl⟩
  obtain ⟨yl, hyl⟩ : ∃ yl, yl = l'.map md := ⟨_, rfl⟩
  have HX := Lib.hid hxl
  have HY := Lib.hid hyl
  have SX := Lib.hid (show ∀ x ∈ xl, Small x by intro x hx; rw [hxl] at hx; obtain ⟨y, _, rfl⟩ := List.mem_map.1 hx; exact md_small y)
  have SY := Lib.hid (show ∀ x ∈ yl, Small x by intro x hx; rw [hyl] at hx; obtain ⟨y, _, rfl⟩ := List.mem_map.1 hx; exact md_small y)
  have LX := Lib.hid (show xl.length = n by rw [hxl, List.length_map]; exact hlen.out)
  have LY := Lib.hid (show yl.length = m by rw [hyl, List.length_map]; exact hlen'.out)
  have HW := Lib.hid hw
  have HW' := Lib.hid hw'
  have HA := Lib.hid ha
  clear hxl hyl hw hw' ha
  go_enter Try.func3, Try.ntmps3
  go_wp2_with fail
  refine (shown_any _).mono ?_
  rintro e w1 ⟨rfl, b1⟩
  go_wp2_with fail
  go_loopw [8, 9, 10, 11] (fun vx vy vo i wr => ∃ k : Nat, k ≤ n ∧ k ≤ m ∧ i = .int .i64 k ∧ wr.ownsRow w.heap.size 3 1 vx k (ints (xl.take k)) ∧ wr.ownsRow w.heap.size 3 1 vy k (ints (yl.take k)) ∧ wr.ownsRow w.heap.size 3 1 vo k (ints (List.replicate k 1)) ∧ Apart vx vy ∧ Apart vx vo ∧ Apart vy vo ∧ Below w.heap.size w wr) (fun _ _ _ i _ => n - (intOf i).toNat)
  case atStart => exact ⟨0, Nat.zero_le _, Nat.zero_le _, rfl, World.ownsRow_nil _ _ _ _, World.ownsRow_nil _ _ _ _, World.ownsRow_nil _ _ _ _, Apart.nil_left _, Apart.nil_left _, Apart.nil_left _, b1⟩
  case round =>
    obtain ⟨k, hk, hkm, rfl, ox, oy, oo, axy, axo, ayo, hbel⟩ := hrel
    by_cases hlt : k < n ∧ k < m
    · obtain ⟨hlt1, hlt2⟩ := hlt
      obtain ⟨ad, v, rfl, bd, hx, hc⟩ := (hr.below hbel).at_ hlt1
      obtain ⟨hkl, rfl⟩ := ints_at hx
      obtain ⟨ad', v, rfl, bd', hy, hc'⟩ := (hr'.below hbel).at_ hlt2
      obtain ⟨hkl', rfl⟩ := ints_at hy
      have hx2 := HW.out _ (List.getElem_mem hkl)
      have hy2 := HW'.out _ (List.getElem_mem hkl')
      clear hx hy
      generalize hg : l[k] = x at *
      have HG := Lib.hid hg
      clear hg
      generalize hg : l'[k] = y at *
      have HG' := Lib.hid hg
      clear hg
      obtain ⟨hx3, hx4⟩ := hx2
      obtain ⟨hy3, hy4⟩ := hy2
      have hs1 : k + 1 ≤ maxLen := by unfold maxLen; omega
      have hs2 : (k + 1) * 8 ≤ 140737488355328 := by omega
      have hs3 := hbel.size
      go_wp2_with (at_builtin; refine wpList_app1 _ rfl _ _ 22 rfl w.heap.size 3 i0 (.int .i64 0) 8 Try.underlying22 hi hz0 hz1 hz2 rfl _ k _ rfl ox (.int .i64 (md x)) 3 rfl rfl hs1 hs2 hs3 ?_)
      intro vx1 w2 ox1 k1
      have oy1 := k1.other oy axy.symm
      have oo1 := k1.other oo axo.symm
      have axy1 := (k1.apart oy axy.symm).symm
      have axo1 := (k1.apart oo axo.symm).symm
      have bel1 := k1.below hbel hs3 (fun g hg => (ox.lt g hg).1)
      have hs4 := bel1.size
      have hc2 : w2.cell? (ad'.add k) = some (.int .i64 y) := by
        obtain ⟨ad2, v, e2, _, hy, hc2⟩ := (hr'.below bel1).at_ hlt2
        obtain ⟨_, rfl⟩ := ints_at hy
        injection e2 with e2
        subst e2
        rw [hc2, HG'.out]
      clear ox oy oo axy axo hbel k1 hc hc'
      go_wp2_with (at_builtin; refine wpList_app1 _ rfl _ _ 22 rfl w.heap.size 3 i0 (.int .i64 0) 8 Try.underlying22 hi hz0 hz1 hz2 rfl _ k _ rfl oy1 (.int .i64 (md y)) 3 rfl rfl hs1 hs2 hs4 ?_)
      intro vy1 w3 oy2 k2
      have ox2 := k2.other ox1 axy1
      have oo2 := k2.other oo1 ayo.symm
      have axy2 := k2.apart ox1 axy1
      have ayo2 := (k2.apart oo1 ayo.symm).symm
      have bel2 := k2.below bel1 hs4 (fun g hg => (oy1.lt g hg).1)
      have hs5 := bel2.size
      clear ox1 oy1 oo1 axy1 ayo bel1 k2 hc2
      go_wp2_with (at_builtin; refine wpList_app1 _ rfl _ _ 22 rfl w.heap.size 3 i0 (.int .i64 0) 8 Try.underlying22 hi hz0 hz1 hz2 rfl _ k _ rfl oo2 (.int .i64 1) 3 rfl rfl hs1 hs2 hs5 ?_)
      intro vo1 w4 oo3 k3
      have ox3 := k3.other ox2 axo1
      have oy3 := k3.other oy2 ayo2
      have axo3 := k3.apart ox2 axo1
      have ayo3 := k3.apart oy2 ayo2
      have bel3 := k3.below bel2 hs5 (fun g hg => (oo2.lt g hg).1)
      clear ox2 oy2 oo2 axo1 ayo2 bel2 k3
      go_wp2
      go_roundw
      case rel => exact ⟨k + 1, by omega, by omega, by go_num, by rw [take_md HX.out hkl HG.out, ints_snoc]; exact ox3, by rw [take_md HY.out hkl' HG'.out, ints_snoc]; exact oy3, by rw [List.replicate_succ', ints_snoc]; exact oo3, axy2, axo3, ayo3, bel3⟩
      case measure => simp [intOf]; omega
    · by_cases hlt1 : k < n
      · have hge : ¬ k < m := fun hh => hlt ⟨hlt1, hh⟩
        clear hlt
        obtain ⟨Ax, cx, rfl, hcx, hcx2, rx⟩ := own_slice ox
        obtain ⟨Ay, cy, rfl, _, _, ry⟩ := own_slice oy
        obtain ⟨Ao, co, rfl, _, _, ro⟩ := own_slice oo
        have hlx : (xl.take k).length = k := by have := LX.out; simp; omega
        have hly : (yl.take k).length = k := by have := LY.out; simp; omega
        have SXk := Lib.hid (show ∀ x ∈ xl.take k, Small x from fun x hx => SX.out x (List.mem_of_mem_take hx))
        have SYk := Lib.hid (show ∀ x ∈ yl.take k, Small x from fun x hx => SY.out x (List.mem_of_mem_take hx))
        obtain ⟨K, M, h5⟩ := five a SXk.out SYk.out (hlx.trans hly.symm) (by omega)
        have H5 := Lib.hid h5
        have ro' : Reads wr wr.heap.size 1 Ao k (ints (List.replicate (xl.take k).length 1)) := by rw [hlx]; exact ro
        have NX := Lib.hid hlx
        have b2 := Below.refl wr.heap.size wr
        have s2 := Nat.le_refl wr.heap.size
        clear h5 hlx hly ro ox oy oo axy axo ayo hr hr'
        generalize xl.take k = X at *
        generalize yl.take k = Y at *
        go_wp2_with fail
        refine (dot_lit _ _ _ _ _ _ wr.heap.size X Y _ (rx.below b2) (ry.below b2) s2 (by omega) (by omega) (fun x hx => small_in (SXk.out x hx)) (fun x hx => small_in (SYk.out x hx)) H5.out.d1).mono ?_
        rintro e z2 ⟨rfl, h2⟩
        have b3 := b2.trans (h2.mono s2)
        have s3 := b3.size
        clear h2
        go_wp2_with fail
        refine (dot_lit _ _ _ _ _ _ wr.heap.size Y X _ (ry.below b3) (rx.below b3) s3 (by omega) (by omega) (fun x hx => small_in (SYk.out x hx)) (fun x hx => small_in (SXk.out x hx)) H5.out.d2).mono ?_
        rintro e z3 ⟨rfl, h3⟩
        have b4 := b3.trans (h3.mono s3)
        have s4 := b4.size
        clear h3
        go_wp2_with fail
        refine (dot_lit _ _ _ _ _ _ wr.heap.size X (List.replicate X.length 1) _ (rx.below b4) (ro'.below b4) s4 (by omega) (by omega) (fun x hx => small_in (SXk.out x hx)) (fun x hx => by rw [(List.mem_replicate.1 hx).2]; decide) H5.out.d3).mono ?_
        rintro e z4 ⟨rfl, h4⟩
        have b5 := b4.trans (h4.mono s4)
        have s5 := b5.size
        clear h4
        go_wp2_with fail
        refine (total_lit _ _ _ wr.heap.size X _ (rx.below b5) s5 (by omega) (fun x hx => small_in (SXk.out x hx)) H5.out.d4).mono ?_
        rintro e z5 ⟨rfl, h5⟩
        have b6 := b5.trans (h5.mono s5)
        have s6 := b6.size
        clear h5
        have oe := World.ownsRow_lit (base := wr.heap.size) (e := 3) (size := 1) z5 #[] 0 s6 (by unfold maxLen; omega) rfl
        have rx6 := (rx.below b6).alloc s6 (.cells #[] 3)
        have b6' := b6.alloc s6 (.cells #[] 3)
        have s6' := b6'.size
        go_wp2_with (at_builtin; refine wpList_append_any _ rfl (.tmp 91) (.tmp 92) _ rfl wr.heap.size 3 i0 (.int .i64 0) 1 8 Try.underlying22 hi hz0 hz1 hz2 rfl (by decide) _ 0 [] rfl oe wr.heap.size Ax k cx (ints X) rfl rx6 ?d1 ?d2 ?d3 s6' ?_)
        case d1 => intro u hu; unfold ints at hu; obtain ⟨q, _, rfl⟩ := List.mem_map.1 hu; rfl
        case d2 => unfold maxLen; omega
        case d3 => omega
        intro v1 w7 ov1 g1 at1
        have b7 : Below wr.heap.size wr w7 := b6'.grown g1 s6' (fun g hg => (oe.lt g hg).1)
        have s7 := b7.size
        have hs1 : k + 1 ≤ maxLen := by unfold maxLen; omega
        have hs2 : (k + 1) * 8 ≤ 140737488355328 := by omega
        have ov1 : w7.ownsRow wr.heap.size 3 1 v1 k (ints X) := by simpa using ov1
        clear oe rx6 g1 at1 b6' s6'
        go_wp2_with (at_builtin; refine wpList_app1 _ rfl _ _ 22 rfl wr.heap.size 3 i0 (.int .i64 0) 8 Try.underlying22 hi hz0 hz1 hz2 rfl _ k _ rfl ov1 (.int .i64 a) 3 rfl rfl hs1 hs2 s7 ?_)
        intro v2 w8 ov2 k2
        have b8 := k2.below b7 s7 (fun g hg => (ov1.lt g hg).1)
        have s8 := b8.size
        have ov3 : w8.ownsRow wr.heap.size 3 1 v2 (k + 1) (ints (X ++ [a])) := by rw [ints_snoc]; simpa using ov2
        obtain ⟨Av, cv, rfl, _, _, rv⟩ := own_slice ov3
        clear ov1 ov2 ov3 k2
        go_wp2_with fail
        refine (dot_lit _ _ _ _ _ _ w8.heap.size (X ++ [a]) Y _ rv ((ry.below b8).more s8) (Nat.le_refl _) (by omega) (by omega) (fun x hx => by rcases List.mem_append.1 hx with hx | hx; exact small_in (SXk.out x hx); rw [List.mem_singleton.1 hx]; exact HA.out) (fun x hx => small_in (SYk.out x hx)) H5.out.d5).mono ?_
        rintro e z9 ⟨rfl, h9⟩
        have b9 := b8.trans (h9.mono s8)
        go_wp2
        go_ret
        exact ⟨rfl, hbel.trans (b9.mono hbel.size)⟩
      · clear hlt
        obtain ⟨Ax, cx, rfl, hcx, hcx2, rx⟩ := own_slice ox
        obtain ⟨Ay, cy, rfl, _, _, ry⟩ := own_slice oy
        obtain ⟨Ao, co, rfl, _, _, ro⟩ := own_slice oo
        have hlx : (xl.take k).length = k := by have := LX.out; simp; omega
        have hly : (yl.take k).length = k := by have := LY.out; simp; omega
        have SXk := Lib.hid (show ∀ x ∈ xl.take k, Small x from fun x hx => SX.out x (List.mem_of_mem_take hx))
        have SYk := Lib.hid (show ∀ x ∈ yl.take k, Small x from fun x hx => SY.out x (List.mem_of_mem_take hx))
        obtain ⟨K, M, h5⟩ := five a SXk.out SYk.out (hlx.trans hly.symm) (by omega)
        have H5 := Lib.hid h5
        have ro' : Reads wr wr.heap.size 1 Ao k (ints (List.replicate (xl.take k).length 1)) := by rw [hlx]; exact ro
        have NX := Lib.hid hlx
        have b2 := Below.refl wr.heap.size wr
        have s2 := Nat.le_refl wr.heap.size
        clear h5 hlx hly ro ox oy oo axy axo ayo hr hr'
        generalize xl.take k = X at *
        generalize yl.take k = Y at *
        go_wp2_with fail
        refine (dot_lit _ _ _ _ _ _ wr.heap.size X Y _ (rx.below b2) (ry.below b2) s2 (by omega) (by omega) (fun x hx => small_in (SXk.out x hx)) (fun x hx => small_in (SYk.out x hx)) H5.out.d1).mono ?_
        rintro e z2 ⟨rfl, h2⟩
        have b3 := b2.trans (h2.mono s2)
        have s3 := b3.size
        clear h2
        go_wp2_with fail
        refine (dot_lit _ _ _ _ _ _ wr.heap.size Y X _ (ry.below b3) (rx.below b3) s3 (by omega) (by omega) (fun x hx => small_in (SYk.out x hx)) (fun x hx => small_in (SXk.out x hx)) H5.out.d2).mono ?_
        rintro e z3 ⟨rfl, h3⟩
        have b4 := b3.trans (h3.mono s3)
        have s4 := b4.size
        clear h3
        go_wp2_with fail
        refine (dot_lit _ _ _ _ _ _ wr.heap.size X (List.replicate X.length 1) _ (rx.below b4) (ro'.below b4) s4 (by omega) (by omega) (fun x hx => small_in (SXk.out x hx)) (fun x hx => by rw [(List.mem_replicate.1 hx).2]; decide) H5.out.d3).mono ?_
        rintro e z4 ⟨rfl, h4⟩
        have b5 := b4.trans (h4.mono s4)
        have s5 := b5.size
        clear h4
        go_wp2_with fail
        refine (total_lit _ _ _ wr.heap.size X _ (rx.below b5) s5 (by omega) (fun x hx => small_in (SXk.out x hx)) H5.out.d4).mono ?_
        rintro e z5 ⟨rfl, h5⟩
        have b6 := b5.trans (h5.mono s5)
        have s6 := b6.size
        clear h5
        have oe := World.ownsRow_lit (base := wr.heap.size) (e := 3) (size := 1) z5 #[] 0 s6 (by unfold maxLen; omega) rfl
        have rx6 := (rx.below b6).alloc s6 (.cells #[] 3)
        have b6' := b6.alloc s6 (.cells #[] 3)
        have s6' := b6'.size
        go_wp2_with (at_builtin; refine wpList_append_any _ rfl (.tmp 91) (.tmp 92) _ rfl wr.heap.size 3 i0 (.int .i64 0) 1 8 Try.underlying22 hi hz0 hz1 hz2 rfl (by decide) _ 0 [] rfl oe wr.heap.size Ax k cx (ints X) rfl rx6 ?d1 ?d2 ?d3 s6' ?_)
        case d1 => intro u hu; unfold ints at hu; obtain ⟨q, _, rfl⟩ := List.mem_map.1 hu; rfl
        case d2 => unfold maxLen; omega
        case d3 => omega
        intro v1 w7 ov1 g1 at1
        have b7 : Below wr.heap.size wr w7 := b6'.grown g1 s6' (fun g hg => (oe.lt g hg).1)
        have s7 := b7.size
        have hs1 : k + 1 ≤ maxLen := by unfold maxLen; omega
        have hs2 : (k + 1) * 8 ≤ 140737488355328 := by omega
        have ov1 : w7.ownsRow wr.heap.size 3 1 v1 k (ints X) := by simpa using ov1
        clear oe rx6 g1 at1 b6' s6'
        go_wp2_with (at_builtin; refine wpList_app1 _ rfl _ _ 22 rfl wr.heap.size 3 i0 (.int .i64 0) 8 Try.underlying22 hi hz0 hz1 hz2 rfl _ k _ rfl ov1 (.int .i64 a) 3 rfl rfl hs1 hs2 s7 ?_)
        intro v2 w8 ov2 k2
        have b8 := k2.below b7 s7 (fun g hg => (ov1.lt g hg).1)
        have s8 := b8.size
        have ov3 : w8.ownsRow wr.heap.size 3 1 v2 (k + 1) (ints (X ++ [a])) := by rw [ints_snoc]; simpa using ov2
        obtain ⟨Av, cv, rfl, _, _, rv⟩ := own_slice ov3
        clear ov1 ov2 ov3 k2
        go_wp2_with fail
        refine (dot_lit _ _ _ _ _ _ w8.heap.size (X ++ [a]) Y _ rv ((ry.below b8).more s8) (Nat.le_refl _) (by omega) (by omega) (fun x hx => by rcases List.mem_append.1 hx with hx | hx; exact small_in (SXk.out x hx); rw [List.mem_singleton.1 hx]; exact HA.out) (fun x hx => small_in (SYk.out x hx)) H5.out.d5).mono ?_
        rintro e z9 ⟨rfl, h9⟩
        have b9 := b8.trans (h9.mono s8)
        go_wp2
        go_ret
        exact ⟨rfl, hbel.trans (b9.mono hbel.size)⟩
theorem walk (A : Option Addr) (n c : Nat) (l : List Int) (A' : Option Addr) (m c' : Nat) (l' : List Int) (a : Int) (w : World) (hr : Reads w w.heap.size 1 A n (ints l)) (hw : ∀ x ∈ l, InR x) (hr' : Reads w w.heap.size 1 A' m (ints l')) (hw' : ∀ x ∈ l', InR x) (ha : InR a) :
    Calls Try.prog 3 #[.slice A n c, .slice A' m c', .int .i64 a] w fun e w' => e = .returned (.bool true) ∧ Below w.heap.size w w' := by
  by_cases h : 500 < n ∨ 500 < m
  · exact walk_long A n c A' m c' a w h
  · exact walk_short A n c l A' m c' l' a w hr hw hr' hw' ha (by omega) (by omega)

set_option maxRecDepth 100000 in
theorem lifted (os : Os) (started : os.Started) (H : Type) (enc : TypeId × Value → H) :
    ReturnsInHanded {} Try.checked os 3 .any (Rows.sumDotsSpec.pre6 enc Try.prog Try.f3 Rows.sumDotsRow.domain false) (Rows.sumDotsSpec.post enc Try.prog Try.f3 false true false false) := by
  refine returnsInHanded_of_change (C := Try.checked) own_none started (by kernel_rfl) Try.func3
    (ChangeSpec.witness6 (enc := enc) (C := Try.checked) false ⟨#[], #[.slice none 0 0, .slice none 0 0, .int .i64 0], []⟩ 8 (by kernel_rfl) (by kernel_rfl) (by kernel_rfl) (by kernel_rfl)) ?_
  intro W base args ds gs before hval0 hW hcnd _
  have hval : ∀ (j : Nat) t v, Try.f3.params[j]? = some t → args[j]? = some v → Value.okWide Try.prog W .any base t v := hval0
  have hW' := hW
  obtain ⟨p, q, hA0, _, _, _, _⟩ := hW
  have hA : DataW.TrodAll enc Try.prog W 0 (fun _ => true) true Try.f3.params.toList args.toList ds p := hA0
  rw [Try.params3] at hA hval
  obtain ⟨v0, vs0, d0, ds0, p0, q0, hargs, rfl, rfl, h0, r0⟩ := trodAll_cons hA
  obtain ⟨v1, vs1, d1, ds1, p1, q1, rfl, rfl, rfl, h1, r1⟩ := trodAll_cons r0
  obtain ⟨v2, vs2, d2, ds2, p2, q2, rfl, rfl, rfl, h2, r2⟩ := trodAll_cons r1
  obtain ⟨rfl, rfl, rfl⟩ := trodAll_nil r2
  obtain rfl : args = #[v0, v1, v2] := by cases args; simp_all
  obtain ⟨A0, n0, c0, l0, rfl, hr0, hw0⟩ := open_ints_arg Try.underlying22 Try.underlying3 (by kernel_rfl) (hval 0 22 v0 rfl rfl) h0
  obtain ⟨A1, n1, c1, l1, rfl, hr1, hw1⟩ := open_ints_arg Try.underlying22 Try.underlying3 (by kernel_rfl) (hval 1 22 v1 rfl rfl) h1
  obtain ⟨a2, rfl, _, _, w2⟩ := open_int Try.underlying3 (hval 2 3 v2 rfl rfl) h2
  refine (walk A0 n0 c0 l0 A1 n1 c1 l1 a2 W hr0 hw0 hr1 hw1 (inR_of_wf w2)).mono fun e W' ⟨he, hb⟩ => ?_
  subst he
  refine ⟨_, rfl, law_post hW' rfl rfl rfl rfl rfl Try.underlying4 laid_out ?_ hb⟩
  rw [Try.params3]
  intro t ht
  simp at ht
  rcases ht with rfl | rfl | rfl <;> exact ⟨by kernel_rfl, of_decide_eq_true (by kernel_rfl)⟩

theorem over : Rows.sumDotsRow.holds Try.pinned (OpenSpec.ofChange Rows.sumDotsSpec) :=
  OpenClaim.holds_of_wide 3 Try.f3 rfl rfl rfl rfl rfl rfl rfl ⟨rfl, rfl, rfl, rfl, rfl⟩ rfl rfl rfl rfl rfl (by kernel_rfl) Try.func3 (by kernel_rfl)
    (of_decide_eq_true (by kernel_rfl)) (by unfold Func.isWrapper; first | (rw [if_pos (by decide +kernel)]; kernel_rfl) | (rw [if_neg (by decide +kernel)]; exact ⟨rfl, rfl⟩))
    (fun os started H enc _ => lifted os started H enc)

theorem proved : Rows.SumDotsSaid := over
#print axioms proved
end Go.Proofs.Ytobamjjonkhcfab.sumDots
