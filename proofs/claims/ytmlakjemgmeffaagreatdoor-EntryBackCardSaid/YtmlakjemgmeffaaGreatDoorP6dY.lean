/- The contract of the program's Write of entries. No condition beyond what the library's variables hold. -/
import Derived.Test.YtmlakjemgmeffaaGreatDoorNW
import Derived.Test.YtmlakjemgmeffaaGreatDoorNS
import Derived.Test.YtmlakjemgmeffaaGreatDoorNF
import Derived.Test.YtmlakjemgmeffaaGreatDoorD4qY
import Derived.Deep.RegionHeld3
import Derived.Deep.CutRange
set_option maxRecDepth 100000
set_option linter.unusedVariables false
set_option linter.unusedSimpArgs false
namespace Go.Proofs.YtmlakjemgmeffaaGreatDoor
open Go.RowKit
def wthL (l FL : List Fd) : List Fd := FL.foldl (fun l f => wth l f.n f.v) l
theorem wthL_step (l FL : List Fd) {k : Nat} (hk : k < FL.length) : wthL l (FL.take (k + 1)) = wth (wthL l (FL.take k)) FL[k].n FL[k].v := by
  unfold wthL
  rw [List.take_succ_eq_append_getElem hk, List.foldl_append]; rfl
theorem wthL_len (l : List Fd) : ∀ FL : List Fd, (wthL l FL).length ≤ l.length + FL.length
  | [] => Nat.le_refl _
  | f :: r => by
    have h1 := wthL_len (wth l f.n f.v) r
    have h2 := wth_len l f.n f.v
    show (wthL (wth l f.n f.v) r).length ≤ _
    rw [List.length_cons]; omega
theorem size_emp {s : ByteArray} : (s.toList.isEmpty) = decide (s.size = 0) := by
  rw [emp_eq, decide_eq_decide, ← List.length_eq_zero_iff, B_len]
def fd4 (T1 T2 T3 T4 : ByteArray) : List Fd := [⟨{ data := #[68, 101, 112, 101, 110, 100, 115] }, T1⟩, ⟨{ data := #[82, 101, 99, 111, 109, 109, 101, 110, 100, 115] }, T2⟩, ⟨{ data := #[67, 111, 110, 102, 108, 105, 99, 116, 115] }, T3⟩, ⟨{ data := #[80, 114, 111, 118, 105, 100, 101, 115] }, T4⟩]
theorem rd_fd4 (W : World) (T1 T2 T3 T4 : ByteArray) : rdFds (W.alloc (.cells #[.string { data := #[68, 101, 112, 101, 110, 100, 115] }, .string T1, .string { data := #[82, 101, 99, 111, 109, 109, 101, 110, 100, 115] }, .string T2, .string { data := #[67, 111, 110, 102, 108, 105, 99, 116, 115] }, .string T3, .string { data := #[80, 114, 111, 118, 105, 100, 101, 115] }, .string T4] 41)) (fun b => b = W.heap.size) (fd4 T1 T2 T3 T4) [.slice (some ⟨W.heap.size, 0, none⟩) 4 4] :=
  rd_block rdFd_good (b := W.heap.size) (l := fd4 T1 T2 T3 T4) (css := [[.string { data := #[68, 101, 112, 101, 110, 100, 115] }, .string T1], [.string { data := #[82, 101, 99, 111, 109, 109, 101, 110, 100, 115] }, .string T2], [.string { data := #[67, 111, 110, 102, 108, 105, 99, 116, 115] }, .string T3], [.string { data := #[80, 114, 111, 118, 105, 100, 101, 115] }, .string T4]]) (heap_alloc_new W _) rfl rfl rfl (fun k hk => by
    rcases k with _ | _ | _ | _ | k
    · exact ⟨_, rfl, rfl⟩
    · exact ⟨_, rfl, rfl⟩
    · exact ⟨_, rfl, rfl⟩
    · exact ⟨_, rfl, rfl⟩
    · simp [fd4] at hk; omega) (by simp [fd4])
theorem gr_wr0 (W : World) (base : Nat) (hN : base ≤ W.heap.size) (n v : ByteArray) : Grow rdFd 2 (fun _ => True) (W.alloc (.cells #[.string { data := #[80, 97, 99, 107, 97, 103, 101] }, .string n, .string { data := #[86, 101, 114, 115, 105, 111, 110] }, .string v] 41)) base 41 (.slice (some ⟨W.heap.size, 0, none⟩) 2 2) [⟨{ data := #[80, 97, 99, 107, 97, 103, 101] }, n⟩, ⟨{ data := #[86, 101, 114, 115, 105, 111, 110] }, v⟩] :=
  Grow.blk rdFd_good (b := W.heap.size) (l := [⟨{ data := #[80, 97, 99, 107, 97, 103, 101] }, n⟩, ⟨{ data := #[86, 101, 114, 115, 105, 111, 110] }, v⟩]) (css := [[.string { data := #[80, 97, 99, 107, 97, 103, 101] }, .string n], [.string { data := #[86, 101, 114, 115, 105, 111, 110] }, .string v]]) (heap_alloc_new W _) hN rfl rfl (by simp) (fun k hk => by
    rcases k with _ | _ | k
    · exact ⟨_, rfl, rfl⟩
    · exact ⟨_, rfl, rfl⟩
    · simp at hk; omega)
theorem moved_ne {W : World} {v v' : Value} {b : Nat} (hm : Moved W v v') (h1 : v.ownBlock ≠ some b) (h2 : b < W.heap.size) (h : v'.ownBlock = some b) : False := by
  rcases hm with e | ⟨c, e, hc⟩
  · rw [e] at h; exact h1 h
  · rw [e] at h; injection h with h; omega
theorem no_short {V wx w2 : World} {o o' : Obj} (hV : V.heap[w2.heap.size]? = some o) (hs : V.heap.size = w2.heap.size + 1) (hb : Below V.heap.size V (wx.alloc o')) (hne : o ≠ o') : V.heap.size ≤ wx.heap.size := by
  have h1 := hb.size
  rw [World.size_alloc] at h1
  rcases Nat.lt_or_ge wx.heap.size V.heap.size with h | h
  · have e : w2.heap.size = wx.heap.size := by omega
    have h2 := hb.block w2.heap.size (by omega)
    rw [hV, e, heap_alloc_new] at h2
    injection h2 with h2
    exact absurd h2.symm hne
  · exact h
set_option maxHeartbeats 8000000 in
theorem ewrite_any (x : Ent) (A1 : Option Addr) (c1 : Nat) (A2 : Option Addr) (c2 : Nat) (A3 : Option Addr) (c3 : Nat) (A4 : Option Addr) (c4 : Nat) (w : World) (hx : EntV w (lt_ w.heap.size) x A1 c1 A2 c2 A3 c3 A4 c4) (E : EnvR w) :
    Calls Tryz.prog 13 #[x.val A1 c1 A2 c2 A3 c3 A4 c4] w fun e w' => (∃ A c, e = .returned (.slice A (wrE x).length c) ∧ rdFds w' (fun b => w.heap.size ≤ b ∧ b < w'.heap.size) (wrE x) [.slice A (wrE x).length c]) ∧ Below w.heap.size w w' := by
  have HX := Lib.hid hx
  have HE := Lib.hid E
  have XL := Lib.hid (fun h => rgtE_lens (x := x) h)
  have XE := Lib.hid (show wrE x = if rgtE x = true then wthL [⟨{ data := #[80, 97, 99, 107, 97, 103, 101] }, x.n⟩, ⟨{ data := #[86, 101, 114, 115, 105, 111, 110] }, x.v⟩] (fd4 (mk (prtG x.d)) (mk (prtG x.r)) (mk (prtG (x.c.map fun a => [a]))) (mk (prtG (x.p.map fun a => [a])))) else [] from rfl)
  have KRt := Lib.hid (fun (W : World) (hb : Below w.heap.size w W) => eright_any x A1 c1 A2 c2 A3 c3 A4 c4 W (HX.out.on hb) (HE.out.below hb))
  have KD := Lib.hid (fun (W : World) (hb : Below w.heap.size w W) => print4_any A1 x.d.length c1 x.d W (HX.out.on hb).d (HE.out.below hb))
  have KR := Lib.hid (fun (W : World) (hb : Below w.heap.size w W) => print4_any A2 x.r.length c2 x.r W (HX.out.on hb).r (HE.out.below hb))
  have KC := Lib.hid (fun (h : x.c.length ≤ 1000) (W : World) (hb : Below w.heap.size w W) => join4_any A3 x.c.length c3 x.c W (HX.out.on hb).c h (HE.out.below hb))
  have KP := Lib.hid (fun (h : x.p.length ≤ 1000) (W : World) (hb : Below w.heap.size w W) => join4_any A4 x.p.length c4 x.p W (HX.out.on hb).p h (HE.out.below hb))
  generalize wrE x = LE at *
  generalize rgtE x = b at *
  generalize mk (prtG (x.p.map fun a => [a])) = T4 at *
  generalize mk (prtG (x.c.map fun a => [a])) = T3 at *
  generalize mk (prtG x.r) = T2 at *
  generalize mk (prtG x.d) = T1 at *
  obtain ⟨n, v, d, r, c, p⟩ := x
  have B1 := Lib.hid (show Below w.heap.size w (w.alloc (.cells #[.string n, .string v, .slice A1 d.length c1, .slice A2 r.length c2, .slice A3 c.length c3, .slice A4 p.length c4] 25)) from (Below.refl _ w).alloc (Nat.le_refl _) _)
  have KX := Lib.hid (fun (W : World) (hb : Below (w.alloc (.cells #[.string n, .string v, .slice A1 d.length c1, .slice A2 r.length c2, .slice A3 c.length c3, .slice A4 p.length c4] 25)).heap.size (w.alloc (.cells #[.string n, .string v, .slice A1 d.length c1, .slice A2 r.length c2, .slice A3 c.length c3, .slice A4 p.length c4] 25)) W) => box6 hb)
  show Calls Tryz.prog 13 #[.agg #[.string n, .string v, .slice A1 d.length c1, .slice A2 r.length c2, .slice A3 c.length c3, .slice A4 p.length c4]] w _
  obtain ⟨fi, hi, hz0, hz1, hz2⟩ := info_parts fd_info
  clear hx E
  obtain ⟨W1, hW1⟩ : ∃ W, W = (w.alloc (.cells #[.string n, .string v, .slice A1 d.length c1, .slice A2 r.length c2, .slice A3 c.length c3, .slice A4 p.length c4] 25)) := ⟨_, rfl⟩
  rw [← hW1] at B1 KX
  have V0 := Lib.hid (Below.refl W1.heap.size W1)
  go_enter Tryz.func13, Tryz.ntmps13
  go_wp2_with fail
  rw [← hW1]
  refine (KRt.out _ B1.out).mono ?_
  clear hW1
  rintro e w2 ⟨rfl, hb⟩
  have V1 := Lib.hid (V0.out.trans (hb.mono V0.out.size))
  have C1 := Lib.hid (B1.out.trans (hb.mono B1.out.size))
  clear hb
  obtain ⟨a0, a1, a2, a3, a4, a5⟩ := KX.out _ V1.out
  cases b
  · have XX := Lib.hid (show LE = [] from XE.out)
    go_wp2
    go_ret
    exact ⟨⟨none, 0, by rw [XX.out]; try rfl, by rw [XX.out]; exact rdRow_nil _ _⟩, C1.out⟩
  have XX := Lib.hid (show LE = wthL [⟨{ data := #[80, 97, 99, 107, 97, 103, 101] }, n⟩, ⟨{ data := #[86, 101, 114, 115, 105, 111, 110] }, v⟩] (fd4 T1 T2 T3 T4) from XE.out)
  obtain ⟨l12, l8⟩ := XL.out rfl
  have KC := Lib.hid (KC.out (Nat.le_trans l12 (by omega)))
  have KP := Lib.hid (KP.out (Nat.le_trans l8 (by omega)))
  clear l12 l8 XL XE KRt
  have G0 := Lib.hid (gr_wr0 w2 w.heap.size C1.out.size n v)
  obtain ⟨V, hV⟩ : ∃ W, W = w2.alloc (.cells #[.string { data := #[80, 97, 99, 107, 97, 103, 101] }, .string n, .string { data := #[86, 101, 114, 115, 105, 111, 110] }, .string v] 41) := ⟨_, rfl⟩
  have V2 := Lib.hid (show Below W1.heap.size W1 V by rw [hV]; exact V1.out.alloc V1.out.size _)
  have C2 := Lib.hid (show Below w.heap.size w V by rw [hV]; exact C1.out.alloc C1.out.size _)
  rw [← hV] at G0
  have HS := Lib.hid (show V.heap[w2.heap.size]? = some (.cells #[.string { data := #[80, 97, 99, 107, 97, 103, 101] }, .string n, .string { data := #[86, 101, 114, 115, 105, 111, 110] }, .string v] 41) ∧ V.heap.size = w2.heap.size + 1 by rw [hV]; exact ⟨heap_alloc_new w2 _, World.size_alloc _ _⟩)
  have KD := Lib.hid (fun (W : World) (hb : Below V.heap.size V W) => KD.out W (C2.out.trans (hb.mono C2.out.size)))
  have KR := Lib.hid (fun (W : World) (hb : Below V.heap.size V W) => KR.out W (C2.out.trans (hb.mono C2.out.size)))
  have KC := Lib.hid (fun (W : World) (hb : Below V.heap.size V W) => KC.out W (C2.out.trans (hb.mono C2.out.size)))
  have KP := Lib.hid (fun (W : World) (hb : Below V.heap.size V W) => KP.out W (C2.out.trans (hb.mono C2.out.size)))
  go_upto_region 4 with fail
  go_cut [32, 33, 34] from 16 to 34 (fun s32 s33 s34 wx => s33 = .int .i64 4 ∧ s34 = .int .i64 0 ∧ ∃ q : Addr, s32 = .slice (some q) 4 4 ∧ rdFds wx (fun b => V.heap.size ≤ b ∧ b < wx.heap.size) (fd4 T1 T2 T3 T4) [.slice (some q) 4 4] ∧ Below V.heap.size V wx)
  case first =>
    rw [← hV]
    clear hV a0 a1 a2 a3 a4 a5
    obtain ⟨a0, a1, a2, a3, a4, a5⟩ := KX.out _ V2.out
    have bb := (Below.refl V.heap.size V).drew
    clear a0 a1
    go_region_held3 (fun W => W.cell? ⟨w.heap.size, 2, none⟩ = some (.slice A1 d.length c1) ∧ W.cell? ⟨w.heap.size, 3, none⟩ = some (.slice A2 r.length c2) ∧ W.cell? ⟨w.heap.size, 4, none⟩ = some (.slice A3 c.length c3) ∧ W.cell? ⟨w.heap.size, 5, none⟩ = some (.slice A4 p.length c4) ∧ Below V.heap.size V W)
      (first | (go_split_ands; refine ⟨?_, ?_, ?_, ?_, ?_⟩ <;> first | assumption | exact keep6 hbx (by assumption) | exact Below.trans (by assumption) (hbx.mono (Below.size (by assumption))) | exact cell_al _ (by assumption) | exact Below.alloc (by assumption) (Below.size (by assumption)) _) | go_keep)
      (first | (go_at_call 37; (with_reducible refine (KD.out _ (by go_split_ands; assumption)).mono ?_); rintro e wx ⟨rfl, hbx⟩) | (go_at_call 37; (with_reducible refine (KR.out _ (by go_split_ands; assumption)).mono ?_); rintro e wx ⟨rfl, hbx⟩) | (go_at_call 38; (with_reducible refine (KC.out _ (by go_split_ands; assumption)).mono ?_); rintro e wx ⟨rfl, hbx⟩) | (go_at_call 38; (with_reducible refine (KP.out _ (by go_split_ands; assumption)).mono ?_); rintro e wx ⟨rfl, hbx⟩))
    all_goals
      go_split_ands
      go_wp2_with fail
      go_meet
      exact ⟨rfl, rfl, _, rfl, rdFds_good.more (rd_fd4 _ T1 T2 T3 T4) (fun b hb => by subst hb; rw [World.size_alloc]; exact ⟨no_short HS.out.1 HS.out.2 (by assumption) (fun h => by injection h with h1; exact absurd (congrArg Array.size h1) (by simp)), Nat.lt_succ_self _⟩), by assumption⟩
  case rest =>
    obtain ⟨rfl, rfl, q, rfl, hfl, hbx⟩ := hcut
    obtain ⟨w3, rfl⟩ : ∃ w3 : World, w3 = wc := ⟨_, rfl⟩
    have F3 := Lib.hid (show rdFds w3 (fun b => b < w3.heap.size ∧ (Value.slice (some ⟨w2.heap.size, 0, none⟩) 2 2).ownBlock ≠ some b) (fd4 T1 T2 T3 T4) [.slice (some q) 4 4] from rdFds_good.more hfl fun b hb => ⟨hb.2, fun hh => by simp only [Value.ownBlock, Option.some.injEq] at hh; have := hb.1; rw [hV, World.size_alloc] at this; omega⟩)
    have G3 := Lib.hid (G0.out.below rdFd_good hbx)
    have C3 := Lib.hid (C2.out.trans (hbx.mono C2.out.size))
    obtain ⟨FL, hFL⟩ : ∃ FL, FL = fd4 T1 T2 T3 T4 := ⟨_, rfl⟩
    have HL := Lib.hid (show FL.length = 4 by rw [hFL]; rfl)
    rw [← hFL] at F3 XX
    obtain ⟨L0, hL0⟩ : ∃ L0, L0 = ([⟨{ data := #[80, 97, 99, 107, 97, 103, 101] }, n⟩, ⟨{ data := #[86, 101, 114, 115, 105, 111, 110] }, v⟩] : List Fd) := ⟨_, rfl⟩
    have HL0 := Lib.hid (show L0.length = 2 by rw [hL0]; rfl)
    have G3 := Lib.hid (show Grow rdFd 2 (fun _ => True) w3 w.heap.size 41 (.slice (some ⟨w2.heap.size, 0, none⟩) 2 2) L0 by rw [hL0]; exact G3.out)
    rw [← hL0] at XX
    clear hfl hbx hFL hL0 hV KX KD KR KC KP a0 a1 a2 a3 a4 a5 V0 V1 V2 C2 G0
    go_wp2
    go_loopw [3, 5, 34] (fun u _ i wr => ∃ k : Nat, k ≤ 4 ∧ i = .int .i64 k ∧ Grow rdFd 2 (fun _ => True) wr w.heap.size 41 u (wthL L0 (FL.take k)) ∧ rdFds wr (fun b => b < wr.heap.size ∧ u.ownBlock ≠ some b) FL [.slice (some q) 4 4] ∧ Below w.heap.size w wr) (fun _ _ i _ => 4 - (intOf i).toNat)
    case atStart => exact ⟨0, Nat.zero_le _, rfl, G3.out, F3.out, C3.out⟩
    case round =>
      obtain ⟨k, hk, rfl, hG, hF, hbel⟩ := hrel
      have HF := Lib.hid hF
      clear hF
      have HB := Lib.hid hbel
      have HG := Lib.hid hG
      clear hG
      by_cases hlt : k < 4
      · have hltF : k < FL.length := by rw [HL.out]; exact hlt
        obtain ⟨-, -, -, ha⟩ := rdFds_at HF.out
        obtain ⟨ad, had0, had, h0, h1⟩ := ha k hltF
        injection had0 with had0
        subst had0
        have ST := Lib.hid (wthL_step L0 FL hltF)
        have LN := Lib.hid (show (wthL L0 (FL.take k)).length ≤ 6 by have := wthL_len L0 (FL.take k); rw [HL0.out, List.length_take] at this; omega)
        have i0 : (0 : Int) ≤ (k : Int) := by omega
        have i1 : (k : Int) < (4 : Int) := by omega
        clear ha had hbel
        generalize FL[k] = f at *
        obtain ⟨fn, fv⟩ := f
        simp only at ST h0 h1
        obtain ⟨Lk, hLk⟩ : ∃ L, L = wthL L0 (FL.take k) := ⟨_, rfl⟩
        rw [← hLk] at HG ST LN
        have BX := Lib.hid (show Below wr.heap.size wr (wr.alloc (.cells #[.string fn, .string fv] 41)) from (Below.refl _ _).alloc (Nat.le_refl _) _)
        have HBX := Lib.hid (HB.out.trans (BX.out.mono HB.out.size))
        have GX := Lib.hid (HG.out.below rdFd_good BX.out)
        have FX := Lib.hid (show rdFds (wr.alloc (.cells #[.string fn, .string fv] 41)) (fun b => b < (wr.alloc (.cells #[.string fn, .string fv] 41)).heap.size ∧ u3.ownBlock ≠ some b) FL [.slice (some q) 4 4] from rdFds_good.both HF.out (fun b hb => BX.out.block b hb.1) fun b hb => ⟨Nat.lt_of_lt_of_le hb.1 BX.out.size, hb.2⟩)
        by_cases hv : fv.size = 0
        · have ev : fv.toList.isEmpty = true := by rw [size_emp]; exact decide_eq_true hv
          have SX := Lib.hid (show wthL L0 (FL.take (k + 1)) = Lk from ST.out.trans (if_pos hv))
          clear hv hLk
          go_wp2
          go_roundw
          case rel => exact ⟨k + 1, by omega, by go_num, by rw [SX.out]; exact GX.out, FX.out, HBX.out⟩
          case measure => simp [intOf]; omega
        · have ev : fv.toList.isEmpty = false := by rw [size_emp]; exact decide_eq_false hv
          have SX := Lib.hid (show wthL L0 (FL.take (k + 1)) = Lk ++ [⟨fn, fv⟩] from ST.out.trans (if_neg hv))
          have hE := (show rdFd (wr.alloc (.cells #[.string fn, .string fv] 41)) (fun b => True ∧ b < (wr.alloc (.cells #[.string fn, .string fv] 41)).heap.size ∧ u3.ownBlock ≠ some b) ⟨fn, fv⟩ (#[.string fn, .string fv] : Array Value).toList from rfl)
          have hq3 : Lk.length + 1 ≤ maxLen := by have := LN.out; unfold maxLen; omega
          have hq4 : (Lk.length + 1) * 32 ≤ 140737488355328 := by have := LN.out; omega
          have hs4 : w.heap.size ≤ (wr.alloc (.cells #[.string fn, .string fv] 41)).heap.size := HBX.out.size
          clear hv hLk
          go_wp2_with (at_builtin; refine wpList_grow1_at (wr.alloc (.cells #[.string fn, .string fv] 41)) rfl _ _ 32 rfl rdFd_good (by decide) (fun _ => True) w.heap.size 41 fi _ 32 Tryz.underlying32 hi hz0 hz1 hz2 rfl u3 _ rfl GX.out ⟨fn, fv⟩ _ 41 hE (wr.heap.size + 1) (by rw [World.size_alloc]) rfl hq3 hq4 hs4 ?_)
          intro v5 w5 hG5 hg5 hm5
          have HB5 := Lib.hid (show Below w.heap.size w w5 from grow_below GX.out hg5 HBX.out (Nat.le_refl _) HBX.out.size)
          have F5 := Lib.hid (show rdFds w5 (fun b => b < w5.heap.size ∧ v5.ownBlock ≠ some b) FL [.slice (some q) 4 4] from rdFds_good.both FX.out (fun b hb => hg5.block b hb.1 fun hh => hb.2 hh.symm) fun b hb => ⟨Nat.lt_of_lt_of_le hb.1 hg5.size, fun hh => moved_ne hm5 hb.2 hb.1 hh⟩)
          have G5 := Lib.hid hG5
          clear hG5 hg5 hm5 hE
          go_wp2
          go_roundw
          case rel => exact ⟨k + 1, by omega, by go_num, by rw [SX.out]; exact G5.out, F5.out, HB5.out⟩
          case measure => simp [intOf]; omega
      · obtain rfl : k = 4 := by omega
        have X4 := Lib.hid (show wthL L0 (FL.take 4) = LE by rw [XX.out, List.take_of_length_le (by rw [HL.out]; exact Nat.le_refl _)])
        have hrd : rdFds wr (fun b => w.heap.size ≤ b ∧ b < wr.heap.size) LE [u3] := by
          have h2 : Grow rdFd 2 (fun _ => False) wr w.heap.size 41 u3 LE := Grow.flat (fun _ _ _ _ _ h => h) (by have := HG.out; rw [X4.out] at this; exact this)
          exact rdFds_good.more (h2.reads rdFd_good) fun b hb => ⟨hb.2.resolve_right id, hb.1⟩
        obtain ⟨A5, c5, hv5, _⟩ := id hrd
        simp only [List.cons.injEq, and_true] at hv5
        have HRD := Lib.hid hrd
        clear hrd hbel HG
        subst hv5
        go_wp2
        go_ret
        exact ⟨⟨A5, c5, rfl, HRD.out⟩, HB.out⟩
end Go.Proofs.YtmlakjemgmeffaaGreatDoor
