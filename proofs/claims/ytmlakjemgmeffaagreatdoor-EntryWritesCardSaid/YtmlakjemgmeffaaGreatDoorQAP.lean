/- What the laws of this seat rest on: P6n, P6e. -/
import Derived.Test.YtmlakjemgmeffaaGreatDoorP6mY
import Derived.Test.YtmlakjemgmeffaaGreatDoorQAO
import Derived.Test.YtmlakjemgmeffaaGreatDoorNW
import Derived.Test.YtmlakjemgmeffaaGreatDoorNS
import Derived.Test.YtmlakjemgmeffaaGreatDoorD4kY
import Derived.Test.YtmlakjemgmeffaaGreatDoorQAA

section
set_option maxRecDepth 100000
set_option linter.unusedVariables false
namespace Go.Proofs.YtmlakjemgmeffaaGreatDoor
open Go.RowKit
theorem wth_vals {l : List Fd} {n v : ByteArray} {N : Nat} (h : ∀ f ∈ l, f.v.size ≤ N) (hv : v.size ≤ N) : ∀ f ∈ wth l n v, f.v.size ≤ N := by
  unfold wth
  split
  · exact h
  · intro f hf
    rcases List.mem_append.1 hf with hf | hf
    · exact h f hf
    · rw [List.mem_singleton.1 hf]; exact hv
theorem prtG_size (L : List (List Atm)) : (mk (prtG L)).size ≤ 60000 := by rw [size_mk]; exact Nat.le_trans (prtG_len L) (by decide)
theorem wrE_vals {x : Ent} (hn : x.n.size ≤ 60000) (hv : x.v.size ≤ 60000) : ∀ f ∈ wrE x, f.v.size ≤ 60000 := by
  unfold wrE
  split
  · unfold wr4 wr3 wr2 wr1
    refine wth_vals (wth_vals (wth_vals (wth_vals ?_ (prtG_size _)) (prtG_size _)) (prtG_size _)) (prtG_size _)
    intro f hf
    simp only [wr0, List.mem_cons, List.not_mem_nil, or_false] at hf
    rcases hf with rfl | rfl
    · exact hn
    · exact hv
  · intro f hf; cases hf
theorem wrE_len6 (x : Ent) : (wrE x).length ≤ 6 := by
  unfold wrE
  split
  · exact (wr_len x).2.2.2.2
  · exact Nat.zero_le _
theorem sml_wr {l : List Ent} (h : ∀ x ∈ l, Sm x) (h64 : l.length ≤ 64) : Sml (l.map wrE) := by
  refine ⟨by rw [List.length_map]; omega, fun st hst => ?_⟩
  obtain ⟨x, hx, rfl⟩ := List.mem_map.1 hst
  obtain ⟨_, _, hn, hv, _⟩ := h x hx
  exact ⟨Nat.le_trans (wrE_len6 x) (by decide), fun f hf => ⟨Nat.le_trans (wrE_names x f hf) (by decide), wrE_vals (by omega) (by omega) f hf⟩⟩
def prD (L : List (List Fd)) : ByteArray := if okR L = true then mk (txL L) else { data := #[] }
theorem prE_doc {l : List Ent} (h : ∀ x ∈ l, Sm x) : prE prP l = prE prD l := by
  unfold prE
  by_cases hc : okPk l l.length = true ∧ l.length ≤ 64
  · rw [if_pos hc, if_pos hc]
    unfold prP prD
    rw [okP_eq (L := l.map wrE) fun st hst f hf => ((sml_wr h hc.2).2 st hst).2 f hf |>.2]
  · rw [if_neg hc, if_neg hc]
theorem sf6_self (A A' : Option Addr) (n c n' c' : Nat) (l : List Fd) (w : World) (h : rdFds w (lt_ w.heap.size) l [.slice A n c]) (h' : rdFds w (lt_ w.heap.size) l [.slice A' n' c']) :
    Calls Tryz.prog 12 #[.slice A n c, .slice A' n' c'] w fun e w' => e = .returned (.bool true) ∧ Dr w w' := by
  have := sameFields6_any A A' n c n' c' l l w h h'
  rwa [decide_eq_true rfl] at this
end Go.Proofs.YtmlakjemgmeffaaGreatDoor
end

section
set_option maxRecDepth 100000
set_option linter.unusedVariables false
set_option linter.unusedSimpArgs false
namespace Go.Proofs.YtmlakjemgmeffaaGreatDoor
open Go.RowKit
def gvs (x : Ent) : List Atm := ⟨x.n, 3, x.v⟩ :: x.p
def pvB (x y : Atm) : Bool := provB (B x.n) x.o (B x.v) (B y.n) y.o (B y.v)
def brs (x y : Ent) : Bool := x.c.any fun k => (gvs y).any (pvB k)
def fgt (x y : Ent) : Bool := !decide (x.n = y.n) && (brs x y || brs y x)
theorem gr_self {W : World} {base b : Nat} {n v : ByteArray} (hb : W.heap[b]? = some (.cells #[.string n, .int .i64 3, .string v] 49 (0, 0))) (hbase : base ≤ b) : Grow rdAtm 3 (fun _ => True) W base 49 (.slice (some ⟨b, 0, none⟩) 1 1) [⟨n, 3, v⟩] :=
  Grow.blk rdAtm_good (l := [⟨n, 3, v⟩]) (css := [[.string n, .int .i64 3, .string v]]) hb hbase rfl rfl (by simp) (fun k hk => by
    simp only [List.length_singleton] at hk
    obtain rfl : k = 0 := by omega
    exact ⟨_, rfl, rfl⟩)
set_option maxHeartbeats 4000000 in
theorem gives6_any (x : Ent) (A1 : Option Addr) (c1 : Nat) (A2 : Option Addr) (c2 : Nat) (A3 : Option Addr) (c3 : Nat) (A4 : Option Addr) (c4 : Nat) (w : World) (hx : EntV w (lt_ w.heap.size) x A1 c1 A2 c2 A3 c3 A4 c4) (hp : x.p.length ≤ 1000) :
    Calls Tryz.prog 23 #[x.val A1 c1 A2 c2 A3 c3 A4 c4] w fun e w' => (∃ A c, e = .returned (.slice A (gvs x).length c) ∧ rdAtms w' (fun b => w.heap.size ≤ b ∧ b < w'.heap.size) (gvs x) [.slice A (gvs x).length c]) ∧ Below w.heap.size w w' := by
  obtain ⟨n, v, d, r, c, p⟩ := x
  obtain ⟨fi, hi, hz0, hz1, hz2⟩ := info_parts atm_info
  have HP := Lib.hid hx.p
  obtain ⟨_, hc4, hm4, _⟩ := rdAtms_at hx.p
  have hm4' : c4 ≤ 9223372036854775807 := hm4
  simp only at hp hc4
  have hq1 : 1 + p.length ≤ maxLen := by unfold maxLen; omega
  have hq2 : (1 + p.length) * 40 ≤ 140737488355328 := by omega
  obtain ⟨W3, hW3⟩ : ∃ W, W = (((w.alloc (.cells #[.string n, .string v, .slice A1 d.length c1, .slice A2 r.length c2, .slice A3 c.length c3, .slice A4 p.length c4] 25)).alloc (.cells #[.string n, .int .i64 3, .string v] 49)).alloc (.cells #[.string n, .int .i64 3, .string v] 49)) := ⟨_, rfl⟩
  have GE := Lib.hid (show Grow rdAtm 3 (fun _ => True) W3 w.heap.size 49 (.slice (some ⟨w.heap.size + 2, 0, none⟩) 1 1) [⟨n, 3, v⟩] from gr_self (by rw [hW3]; exact heap_alloc_new ((w.alloc (.cells #[.string n, .string v, .slice A1 d.length c1, .slice A2 r.length c2, .slice A3 c.length c3, .slice A4 p.length c4] 25)).alloc (.cells #[.string n, .int .i64 3, .string v] 49)) _ |> fun h => by rw [World.size_alloc, World.size_alloc] at h; exact h) (by omega))
  have B3 := Lib.hid (show Below w.heap.size w W3 by rw [hW3]; exact (((Below.refl _ w).alloc (Nat.le_refl _) _).alloc (by simp) _).alloc (by simp; omega) _)
  have XE := Lib.hid (rdAtms_good.below HP.out B3.out)
  have SE := Lib.hid (show ∀ b, lt_ w.heap.size b → True ∧ b < W3.heap.size ∧ (Value.slice (some ⟨w.heap.size + 2, 0, none⟩) 1 1).ownBlock ≠ some b from fun b hb => ⟨trivial, Nat.lt_of_lt_of_le hb B3.out.size, fun hh => by simp only [Value.ownBlock, Option.some.injEq] at hh; unfold lt_ at hb; omega⟩)
  have hs3 := Lib.hid B3.out.size
  show Calls Tryz.prog 23 #[.agg #[.string n, .string v, .slice A1 d.length c1, .slice A2 r.length c2, .slice A3 c.length c3, .slice A4 p.length c4]] w _
  clear hx hp hm4
  go_enter Tryz.func23, Tryz.ntmps23
  go_wp2_with (at_builtin; rw [← hW3]; refine wpList_growN W3 rfl _ _ 23 23 rfl rdAtm_good (by decide) (fun _ => True) w.heap.size 49 49 fi (.agg #[.string { data := #[] }, .int .i64 0, .string { data := #[] }]) 40 Tryz.underlying23 Tryz.underlying23 hi hz0 hz1 hz2 rfl _ _ rfl GE.out p _ A4 p.length c4 rfl XE.out SE.out hq1 hq2 hs3.out ?_)
  intro v5 w5 hG5 hg5
  have B5 := Lib.hid (grow_below GE.out (by rw [hW3]; exact hg5) B3.out (Nat.le_refl _) hs3.out)
  have R5 := Lib.hid (show rdAtms w5 (fun b => w.heap.size ≤ b ∧ b < w5.heap.size) (gvs ⟨n, v, d, r, c, p⟩) [v5] from by
    have h2 : Grow rdAtm 3 (fun _ => False) w5 w.heap.size 49 v5 (gvs ⟨n, v, d, r, c, p⟩) := Grow.flat (fun _ _ _ _ _ h => h) (show Grow rdAtm 3 (fun _ => True) w5 w.heap.size 49 v5 (gvs ⟨n, v, d, r, c, p⟩) from hG5)
    exact rdAtms_good.more (h2.reads rdAtm_good) fun b hb => ⟨hb.2.resolve_right id, hb.1⟩)
  obtain ⟨A5, c5, hv5, _⟩ := id R5.out
  simp only [List.cons.injEq, and_true] at hv5
  subst hv5
  clear hG5 hg5 GE XE SE hW3
  go_wp2
  go_ret
  exact ⟨⟨A5, c5, rfl, R5.out⟩, B5.out⟩
set_option maxHeartbeats 4000000 in
theorem ixAtm_any (f : Nat) (cv : Value) (p : Atm → Bool) (I : World → Prop) (hcf : ∀ (args : Array Value) (w : World), (callFunc f args).run Tryz.prog w = .ok (.enter f args) w) (hI : ∀ W W' : World, I W → Below W.heap.size W W' → I W')
    (hf : ∀ (x : Atm) (W : World), I W → Calls Tryz.prog f #[.agg #[.string x.n, .int .i64 x.o, .string x.v], cv] W fun e W' => e = .returned (.bool (p x)) ∧ Below W.heap.size W W')
    (A : Option Addr) (n c : Nat) (l : List Atm) (w : World) (h : rdAtms w (lt_ w.heap.size) l [.slice A n c]) (hi : I w) :
    Calls Tryz.prog 128 #[.slice A n c, .func (.func f) #[] #[cv]] w fun e w' => e = .returned (.int .i64 (ixP p l 0)) ∧ Below w.heap.size w w' := by
  obtain ⟨rfl, hnc, hcm, _⟩ := rdAtms_at h
  have hcm' : c ≤ 9223372036854775807 := hcm
  have H := Lib.hid h
  have HI := Lib.hid (fun (W : World) (hb : Below w.heap.size w W) => hI w W hi hb)
  have KF := Lib.hid hf
  clear h hcm hi hI hf
  go_enter Tryz.func128, Tryz.ntmps128
  go_wp2
  go_loopw [8] (fun i wr => ∃ k : Nat, k ≤ l.length ∧ i = .int .i64 k ∧ ixP p l 0 = ixP p (l.drop k) k ∧ Below w.heap.size w wr) (fun i _ => l.length - (intOf i).toNat)
  case atStart => exact ⟨0, Nat.zero_le _, rfl, rfl, Below.refl _ _⟩
  case round =>
    obtain ⟨k, hk, rfl, hx, hbel⟩ := hrel
    have HX := Lib.hid hx
    have HB := Lib.hid hbel
    clear hx
    by_cases hlt : k < l.length
    · obtain ⟨_, _, _, ha⟩ := rdAtms_at (rdAtms_good.below H.out hbel)
      obtain ⟨ad, rfl, had, g0, g1, g2⟩ := ha k hlt
      have i0 : (0 : Int) ≤ (k : Int) := by omega
      have i1 : (k : Int) < (l.length : Int) := by omega
      have CL := Lib.hid (KF.out l[k] wr (HI.out wr hbel))
      have PA := Lib.hid (ixP_at (p := p) hlt)
      clear ha hbel had
      have SZ := Lib.hid HB.out.size
      generalize l[k] = x at *
      cases he : p x
      · have X := Lib.hid (PA.out.2 he)
        rw [he] at CL
        clear he
        go_wp2_with fail
        refine CL.out.mono ?_
        rintro e w' ⟨rfl, hb2⟩
        have HB2 := Lib.hid hb2
        clear hb2
        go_wp2
        go_roundw
        case rel => exact ⟨k + 1, by omega, by go_num, by rw [HX.out, X.out], HB.out.trans (HB2.out.mono SZ.out)⟩
        case measure => simp [intOf]; omega
      · have X := Lib.hid (PA.out.1 he)
        rw [he] at CL
        clear he
        go_wp2_with fail
        refine CL.out.mono ?_
        rintro e w' ⟨rfl, hb2⟩
        have HB2 := Lib.hid hb2
        clear hb2
        go_wp2
        go_ret
        exact ⟨by rw [HX.out, X.out]; try rfl, HB.out.trans (HB2.out.mono SZ.out)⟩
    · have X := Lib.hid (show ixP p l 0 = -1 by rw [HX.out, List.drop_eq_nil_of_le (by omega)]; rfl)
      go_wp2
      go_ret
      exact ⟨by rw [X.out]; try rfl, HB.out⟩
set_option maxHeartbeats 2000000 in
theorem hasAtm_any (f : Nat) (cv : Value) (p : Atm → Bool) (I : World → Prop) (hcf : ∀ (args : Array Value) (w : World), (callFunc f args).run Tryz.prog w = .ok (.enter f args) w) (hI : ∀ W W' : World, I W → Below W.heap.size W W' → I W')
    (hf : ∀ (x : Atm) (W : World), I W → Calls Tryz.prog f #[.agg #[.string x.n, .int .i64 x.o, .string x.v], cv] W fun e W' => e = .returned (.bool (p x)) ∧ Below W.heap.size W W')
    (A : Option Addr) (n c : Nat) (l : List Atm) (w : World) (h : rdAtms w (lt_ w.heap.size) l [.slice A n c]) (hi : I w) :
    Calls Tryz.prog 92 #[.slice A n c, .func (.func f) #[] #[cv]] w fun e w' => e = .returned (.bool (l.any p)) ∧ Below w.heap.size w w' := by
  have C := Lib.hid (ixAtm_any f cv p I hcf hI hf A n c l w h hi)
  have X := Lib.hid (ixP_any (p := p) (l := l) (i := 0))
  clear h hcf hI hf hi
  go_enter Tryz.func92, Tryz.ntmps92
  go_wp2_with (go_at_call 128; (with_reducible refine C.out.mono ?_); rintro e w' ⟨rfl, hb2⟩)
  go_ret
  exact ⟨by rw [← X.out]; rfl, hb2⟩
def Bx3 (q : Nat) (x : Atm) (w : World) : Prop := w.cell? ⟨q, 0, none⟩ = some (.string x.n) ∧ w.cell? ⟨q, 1, none⟩ = some (.int .i64 x.o) ∧ w.cell? ⟨q, 2, none⟩ = some (.string x.v)
theorem Bx3.on {q : Nat} {x : Atm} {w w' : World} (h : Bx3 q x w) (hb : Below w.heap.size w w') : Bx3 q x w' := ⟨keep6 hb h.1, keep6 hb h.2.1, keep6 hb h.2.2⟩
set_option maxHeartbeats 2000000 in
theorem bars11_any (x y : Atm) (q : Nat) (w : World) (E : EnvR w) (h : Bx3 q x w) :
    Calls Tryz.prog 94 #[.agg #[.string y.n, .int .i64 y.o, .string y.v], .pointer (some ⟨q, 0, none⟩)] w fun e w' => e = .returned (.bool (pvB x y)) ∧ Below w.heap.size w w' := by
  have B1 := Lib.hid (show Below w.heap.size w (w.alloc (.cells #[.string y.n, .int .i64 y.o, .string y.v] 49)) from (Below.refl _ w).alloc (Nat.le_refl _) _)
  have K := Lib.hid (rprov_any x.n x.o x.v y.n y.o y.v (w.alloc (.cells #[.string y.n, .int .i64 y.o, .string y.v] 49)) (E.below B1.out))
  obtain ⟨g0, g1, g2⟩ := h.on B1.out
  have X := Lib.hid (show pvB x y = provB (B x.n) x.o (B x.v) (B y.n) y.o (B y.v) from rfl)
  clear E h
  generalize provB (B x.n) x.o (B x.v) (B y.n) y.o (B y.v) = b at *
  generalize pvB x y = b' at *
  go_enter Tryz.func94, Tryz.ntmps94
  go_wp2_with fail
  refine K.out.mono ?_
  rintro e w' ⟨rfl, hb2⟩
  have HB2 := Lib.hid hb2
  clear hb2
  go_wp2
  go_ret
  exact ⟨by rw [X.out]; try rfl, B1.out.trans (HB2.out.mono B1.out.size)⟩
set_option maxHeartbeats 2000000 in
theorem bars1_any (x : Atm) (A : Option Addr) (n c : Nat) (g : List Atm) (q : Nat) (w : World) (E : EnvR w) (h : rdAtms w (lt_ w.heap.size) g [.slice A n c]) (hc : w.cell? ⟨q, 0, none⟩ = some (.slice A n c)) :
    Calls Tryz.prog 93 #[.agg #[.string x.n, .int .i64 x.o, .string x.v], .pointer (some ⟨q, 0, none⟩)] w fun e w' => e = .returned (.bool (g.any (pvB x))) ∧ Below w.heap.size w w' := by
  have B1 := Lib.hid (show Below w.heap.size w (w.alloc (.cells #[.string x.n, .int .i64 x.o, .string x.v] 49)) from (Below.refl _ w).alloc (Nat.le_refl _) _)
  have K := Lib.hid (hasAtm_any 94 (.pointer (some ⟨w.heap.size, 0, none⟩)) (pvB x) (fun W => EnvR W ∧ Bx3 w.heap.size x W) (fun _ _ => by kernel_rfl) (fun W W' h hb => ⟨h.1.below hb, h.2.on hb⟩) (fun y W h => bars11_any x y w.heap.size W h.1 h.2)
    A n c g (w.alloc (.cells #[.string x.n, .int .i64 x.o, .string x.v] 49)) (rdAtms_good.up (rdAtms_good.below h B1.out) B1.out.size) ⟨E.below B1.out, by unfold Bx3; exact ⟨by simp [go_sem], by simp [go_sem], by simp [go_sem]⟩⟩)
  have g0 := keep6 B1.out hc
  have hmf : ∀ (fn : Fn) (first cap : Array Value) (w : World), (Instr.makeFunc fn first cap).run Tryz.prog w = .ok (.func fn first cap) w := fun _ _ _ _ => rfl
  clear E h hc
  generalize g.any (pvB x) = b at *
  go_enter Tryz.func93, Tryz.ntmps93
  go_wp2_with fail
  refine K.out.mono ?_
  rintro e w' ⟨rfl, hb2⟩
  have HB2 := Lib.hid hb2
  clear hb2
  go_wp2
  go_ret
  exact ⟨rfl, B1.out.trans (HB2.out.mono B1.out.size)⟩
set_option maxHeartbeats 8000000 in
theorem bars6_any (x y : Ent) (A1 : Option Addr) (c1 : Nat) (A2 : Option Addr) (c2 : Nat) (A3 : Option Addr) (c3 : Nat) (A4 : Option Addr) (c4 : Nat) (A1y : Option Addr) (c1y : Nat) (A2y : Option Addr) (c2y : Nat) (A3y : Option Addr) (c3y : Nat) (A4y : Option Addr) (c4y : Nat) (w : World)
    (hx : EntV w (lt_ w.heap.size) x A1 c1 A2 c2 A3 c3 A4 c4) (hy : EntV w (lt_ w.heap.size) y A1y c1y A2y c2y A3y c3y A4y c4y) (hp : y.p.length ≤ 1000) (E : EnvR w) :
    Calls Tryz.prog 61 #[x.val A1 c1 A2 c2 A3 c3 A4 c4, y.val A1y c1y A2y c2y A3y c3y A4y c4y] w fun e w' => e = .returned (.bool (brs x y)) ∧ Below w.heap.size w w' := by
  have HX := Lib.hid hx
  have HE := Lib.hid E
  have KG := Lib.hid (fun (W : World) (hb : Below w.heap.size w W) => gives6_any y A1y c1y A2y c2y A3y c3y A4y c4y W (hy.on hb) hp)
  have X := Lib.hid (show brs x y = x.c.any fun k => (gvs y).any (pvB k) from rfl)
  generalize gvs y = g at *
  generalize brs x y = b at *
  obtain ⟨n, v, d, r, c, p⟩ := x
  obtain ⟨ny, vy, dy, ry, cy, py⟩ := y
  show Calls Tryz.prog 61 #[.agg #[.string n, .string v, .slice A1 d.length c1, .slice A2 r.length c2, .slice A3 c.length c3, .slice A4 p.length c4], .agg #[.string ny, .string vy, .slice A1y dy.length c1y, .slice A2y ry.length c2y, .slice A3y cy.length c3y, .slice A4y py.length c4y]] w _
  have hmf : ∀ (fn : Fn) (first cap : Array Value) (w : World), (Instr.makeFunc fn first cap).run Tryz.prog w = .ok (.func fn first cap) w := fun _ _ _ _ => rfl
  obtain ⟨W1, hW1⟩ : ∃ W, W = ((w.alloc (.cells #[.string n, .string v, .slice A1 d.length c1, .slice A2 r.length c2, .slice A3 c.length c3, .slice A4 p.length c4] 25)).alloc (.cells #[.string ny, .string vy, .slice A1y dy.length c1y, .slice A2y ry.length c2y, .slice A3y cy.length c3y, .slice A4y py.length c4y] 25)) := ⟨_, rfl⟩
  have B1 := Lib.hid (show Below w.heap.size w W1 by rw [hW1]; exact ((Below.refl _ w).alloc (Nat.le_refl _) _).alloc (by simp) _)
  have q4 : W1.cell? ⟨w.heap.size, 4, none⟩ = some (.slice A3 c.length c3) := by rw [hW1]; simp [go_sem]
  clear hx hy E hp
  go_enter Tryz.func61, Tryz.ntmps61
  go_wp2_with fail
  rw [← hW1]
  refine (KG.out _ B1.out).mono ?_
  rintro e w2 ⟨⟨Ag, cg, rfl, hg⟩, hb⟩
  have C2 := Lib.hid (B1.out.trans (hb.mono B1.out.size))
  have B3 := Lib.hid (show Below w2.heap.size w2 (w2.alloc (.cells #[.slice Ag g.length cg] 23)) from (Below.refl _ _).alloc (Nat.le_refl _) _)
  have C3 := Lib.hid (C2.out.trans (B3.out.mono C2.out.size))
  have K := Lib.hid (hasAtm_any 93 (.pointer (some ⟨w2.heap.size, 0, none⟩)) (fun k => g.any (pvB k)) (fun W => EnvR W ∧ W.cell? ⟨w2.heap.size, 0, none⟩ = some (.slice Ag g.length cg) ∧ rdAtms W (lt_ W.heap.size) g [.slice Ag g.length cg]) (fun _ _ => by kernel_rfl)
    (fun W W' h hb => ⟨h.1.below hb, keep6 hb h.2.1, rdAtms_good.up (rdAtms_good.below h.2.2 hb) hb.size⟩) (fun k W h => bars1_any k Ag g.length cg g w2.heap.size W h.1 h.2.2 h.2.1)
    A3 c.length c3 c (w2.alloc (.cells #[.slice Ag g.length cg] 23)) (HX.out.on C3.out).c
    ⟨HE.out.below C3.out, by simp [go_sem], rdAtms_good.up (rdAtms_good.below (rdAtms_good.more hg fun b hb' => hb'.2) B3.out) B3.out.size⟩)
  have g4 := keep6 hb q4
  have g4' := keep6 B3.out g4
  clear hg hb q4 hW1
  generalize (c.any fun k => g.any (pvB k)) = b2 at *
  go_wp2_with fail
  refine K.out.mono ?_
  rintro e w' ⟨rfl, hb2⟩
  have HB2 := Lib.hid hb2
  clear hb2
  go_wp2
  go_ret
  exact ⟨by rw [X.out]; try rfl, C3.out.trans (HB2.out.mono C3.out.size)⟩
set_option maxHeartbeats 8000000 in
theorem fights6_any (x y : Ent) (A1 : Option Addr) (c1 : Nat) (A2 : Option Addr) (c2 : Nat) (A3 : Option Addr) (c3 : Nat) (A4 : Option Addr) (c4 : Nat) (A1y : Option Addr) (c1y : Nat) (A2y : Option Addr) (c2y : Nat) (A3y : Option Addr) (c3y : Nat) (A4y : Option Addr) (c4y : Nat) (w : World)
    (hx : EntV w (lt_ w.heap.size) x A1 c1 A2 c2 A3 c3 A4 c4) (hy : EntV w (lt_ w.heap.size) y A1y c1y A2y c2y A3y c3y A4y c4y) (hpx : x.p.length ≤ 1000) (hpy : y.p.length ≤ 1000) (E : EnvR w) :
    Calls Tryz.prog 25 #[x.val A1 c1 A2 c2 A3 c3 A4 c4, y.val A1y c1y A2y c2y A3y c3y A4y c4y] w fun e w' => e = .returned (.bool (fgt x y)) ∧ Below w.heap.size w w' := by
  have KA := Lib.hid (fun (W : World) (hb : Below w.heap.size w W) => bars6_any x y A1 c1 A2 c2 A3 c3 A4 c4 A1y c1y A2y c2y A3y c3y A4y c4y W (hx.on hb) (hy.on hb) hpy (E.below hb))
  have KB := Lib.hid (fun (W : World) (hb : Below w.heap.size w W) => bars6_any y x A1y c1y A2y c2y A3y c3y A4y c4y A1 c1 A2 c2 A3 c3 A4 c4 W (hy.on hb) (hx.on hb) hpx (E.below hb))
  have X := Lib.hid (show fgt x y = (!decide (x.n = y.n) && (brs x y || brs y x)) from rfl)
  have he : (x.n.toList == y.n.toList) = decide (x.n = y.n) := str_eq _ _
  generalize brs x y = b1 at *
  generalize brs y x = b2 at *
  generalize decide (x.n = y.n) = b0 at *
  generalize fgt x y = b at *
  obtain ⟨n, v, d, r, c, p⟩ := x
  obtain ⟨ny, vy, dy, ry, cy, py⟩ := y
  show Calls Tryz.prog 25 #[.agg #[.string n, .string v, .slice A1 d.length c1, .slice A2 r.length c2, .slice A3 c.length c3, .slice A4 p.length c4], .agg #[.string ny, .string vy, .slice A1y dy.length c1y, .slice A2y ry.length c2y, .slice A3y cy.length c3y, .slice A4y py.length c4y]] w _
  simp only at he
  obtain ⟨W1, hW1⟩ : ∃ W, W = ((w.alloc (.cells #[.string n, .string v, .slice A1 d.length c1, .slice A2 r.length c2, .slice A3 c.length c3, .slice A4 p.length c4] 25)).alloc (.cells #[.string ny, .string vy, .slice A1y dy.length c1y, .slice A2y ry.length c2y, .slice A3y cy.length c3y, .slice A4y py.length c4y] 25)) := ⟨_, rfl⟩
  have B1 := Lib.hid (show Below w.heap.size w W1 by rw [hW1]; exact ((Below.refl _ w).alloc (Nat.le_refl _) _).alloc (by simp) _)
  have KX := Lib.hid (fun (W : World) (hb : Below W1.heap.size W1 W) => (show W.cell? ⟨w.heap.size, 0, none⟩ = some (.string n) ∧ W.cell? ⟨w.heap.size, 1, none⟩ = some (.string v) ∧ W.cell? ⟨w.heap.size, 2, none⟩ = some (.slice A1 d.length c1) ∧ W.cell? ⟨w.heap.size, 3, none⟩ = some (.slice A2 r.length c2) ∧ W.cell? ⟨w.heap.size, 4, none⟩ = some (.slice A3 c.length c3) ∧ W.cell? ⟨w.heap.size, 5, none⟩ = some (.slice A4 p.length c4) ∧
      W.cell? ⟨w.heap.size + 1, 0, none⟩ = some (.string ny) ∧ W.cell? ⟨w.heap.size + 1, 1, none⟩ = some (.string vy) ∧ W.cell? ⟨w.heap.size + 1, 2, none⟩ = some (.slice A1y dy.length c1y) ∧ W.cell? ⟨w.heap.size + 1, 3, none⟩ = some (.slice A2y ry.length c2y) ∧ W.cell? ⟨w.heap.size + 1, 4, none⟩ = some (.slice A3y cy.length c3y) ∧ W.cell? ⟨w.heap.size + 1, 5, none⟩ = some (.slice A4y py.length c4y) from by
    refine ⟨?_, ?_, ?_, ?_, ?_, ?_, ?_, ?_, ?_, ?_, ?_, ?_⟩ <;> exact keep6 hb (by rw [hW1]; simp [go_sem])))
  clear hx hy E hpx hpy
  cases b0
  · go_enter Tryz.func25, Tryz.ntmps25
    go_wp2_with fail
    rw [← hW1]
    refine (KA.out _ B1.out).mono ?_
    clear hW1
    rintro e w2 ⟨rfl, hb⟩
    have C2 := Lib.hid (B1.out.trans (hb.mono B1.out.size))
    obtain ⟨x0, x1, x2, x3, x4, x5, y0, y1, y2, y3, y4, y5⟩ := KX.out _ hb
    clear hb
    cases b1
    · go_wp2_with fail
      refine (KB.out _ C2.out).mono ?_
      rintro e w3 ⟨rfl, hb⟩
      have C3 := Lib.hid (C2.out.trans (hb.mono C2.out.size))
      clear hb x0 x1 x2 x3 x4 x5 y0 y1 y2 y3 y4 y5
      go_wp2
      go_ret
      exact ⟨by rw [X.out]; try rfl, C3.out⟩
    · clear x0 x1 x2 x3 x4 x5 y0 y1 y2 y3 y4 y5
      go_wp2
      go_ret
      exact ⟨by rw [X.out]; try rfl, C2.out⟩
  · go_enter Tryz.func25, Tryz.ntmps25
    go_wp2
    go_ret
    exact ⟨by rw [X.out]; try rfl, by rw [← hW1]; exact B1.out⟩
end Go.Proofs.YtmlakjemgmeffaaGreatDoor
end
