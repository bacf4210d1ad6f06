/- The contracts of the document's own Get, Put, Only. -/
import Derived.Test.YtjfenheplkoajaaDoorS5b
import Derived.Test.YtjfenheplkoajaaDoorDeep5
set_option maxRecDepth 100000
set_option linter.unusedVariables false
set_option linter.unusedSimpArgs false
namespace Go.Proofs.YtjfenheplkoajaaDoor
open Go.RowKit
def fstV : List Fd → ByteArray → ByteArray
  | [], _ => { data := #[] }
  | f :: r, n => if f.n = n then f.v else fstV r n
def putF (n v : ByteArray) : List Fd → List Fd
  | [] => [⟨n, v⟩]
  | f :: r => if f.n = n then ⟨f.n, v⟩ :: r else f :: putF n v r
theorem getV_cons (f : Fd) (r : List Fd) (n : ByteArray) : getV (f :: r) n = (decide (f.n = n) || getV r n) := by unfold getV; rw [List.any_cons]
theorem fstV_cons (f : Fd) (r : List Fd) (n : ByteArray) : fstV (f :: r) n = if f.n = n then f.v else fstV r n := rfl
theorem get_at {l : List Fd} {n : ByteArray} {k : Nat} (hk : k < l.length) : (l[k].n = n → getV (l.drop k) n = true ∧ fstV (l.drop k) n = l[k].v) ∧ (l[k].n ≠ n → getV (l.drop k) n = getV (l.drop (k + 1)) n ∧ fstV (l.drop k) n = fstV (l.drop (k + 1)) n) := by
  rw [List.drop_eq_getElem_cons hk, getV_cons, fstV_cons]
  exact ⟨fun h => by rw [decide_eq_true h, if_pos h]; exact ⟨rfl, rfl⟩, fun h => by rw [decide_eq_false h, if_neg h]; exact ⟨rfl, rfl⟩⟩
set_option maxHeartbeats 1000000 in
theorem q5get_any (A : Option Addr) (n c : Nat) (l : List Fd) (nm : ByteArray) (w : World) (h : rdFds w (lt_ w.heap.size) l [.slice A n c]) :
    Calls Tryd.prog 22 #[.slice A n c, .string nm] w fun e w' => e = .returned (.tuple #[.string (fstV l nm), .bool (getV l nm)]) ∧ w = w' := by
  obtain ⟨rfl, hnc, hcm, hat⟩ := rdFds_at h
  have hcm' : c ≤ 9223372036854775807 := hcm
  have HAT := Lib.hid hat
  clear h hat hcm
  go_enter Tryd.func22, Tryd.ntmps22
  go_wp2
  go_loop [6] (fun i => ∃ k : Nat, k ≤ l.length ∧ i = .int .i64 k ∧ getV l nm = getV (l.drop k) nm ∧ fstV l nm = fstV (l.drop k) nm) (fun i => l.length - (intOf i).toNat)
  case atStart => exact ⟨0, Nat.zero_le _, rfl, rfl, rfl⟩
  case round =>
    obtain ⟨k, hk, rfl, h1, h2⟩ := hrel
    have H1 := Lib.hid h1
    have H2 := Lib.hid h2
    clear h1 h2
    by_cases hlt : k < l.length
    · obtain ⟨ad, rfl, had, c0, c1⟩ := HAT.out k hlt
      have GA := Lib.hid (get_at (l := l) (n := nm) hlt)
      have hq := str_eq l[k].n nm
      by_cases he : l[k].n = nm
      · have X := Lib.hid (GA.out.1 he)
        rw [decide_eq_true he] at hq
        clear he
        go_wp2
        go_ret2
        exact ⟨by rw [H1.out, H2.out, X.out.1, X.out.2]; try rfl, rfl⟩
      · have X := Lib.hid (GA.out.2 he)
        rw [decide_eq_false he] at hq
        clear he
        go_wp2
        go_round
        case rel => exact ⟨k + 1, by omega, by go_num, by rw [H1.out, X.out.1], by rw [H2.out, X.out.2]⟩
        case measure => simp [intOf]; omega
    · have X := Lib.hid (show getV l nm = false ∧ fstV l nm = { data := #[] } by rw [H1.out, H2.out, List.drop_eq_nil_of_le (by omega)]; exact ⟨rfl, rfl⟩)
      go_wp2
      go_ret2
      exact ⟨by rw [X.out.1, X.out.2]; try rfl, rfl⟩
theorem set_at {l : List Fd} {k : Nat} (hk : k < l.length) (x : Fd) : l.set k x = l.take k ++ x :: l.drop (k + 1) := by rw [List.set_eq_take_append_cons_drop, if_pos hk]
theorem put_at {l : List Fd} {n v : ByteArray} {k : Nat} (hk : k < l.length) (h0 : putF n v l = l.take k ++ putF n v (l.drop k)) : (l[k].n = n → putF n v l = l.set k ⟨l[k].n, v⟩) ∧ (l[k].n ≠ n → putF n v l = l.take (k + 1) ++ putF n v (l.drop (k + 1))) := by
  have e : putF n v (l.drop k) = if l[k].n = n then ⟨l[k].n, v⟩ :: l.drop (k + 1) else l[k] :: putF n v (l.drop (k + 1)) := by
    rw [List.drop_eq_getElem_cons hk]; rfl
  refine ⟨fun h => ?_, fun h => ?_⟩
  · rw [h0, e, if_pos h, set_at hk]
  · rw [h0, e, if_neg h, List.take_succ_eq_append_getElem hk, List.append_assoc]; rfl
set_option maxHeartbeats 2000000 in
theorem q5put_any (A : Option Addr) (n c : Nat) (l : List Fd) (nm v : ByteArray) (w : World) (h : rdFds w (lt_ w.heap.size) l [.slice A n c]) (hl : l.length ≤ 100000) :
    Calls Tryd.prog 25 #[.slice A n c, .string nm, .string v] w fun e w' => (∃ A n c, e = .returned (.slice A n c) ∧ rdFds w' (lt_ w'.heap.size) (putF nm v l) [.slice A n c]) ∧ Below w.heap.size w w' := by
  obtain ⟨i0, hi, hz0, hz1, hz2⟩ := info_parts fd_info
  obtain ⟨rfl, hnc, hcm, _⟩ := rdFds_at h
  have hcm' : c ≤ 9223372036854775807 := hcm
  have B1 := (Below.refl w.heap.size w).alloc (Nat.le_refl _) (.cells #[] 54)
  have hG := Grow.empty (E := rdFd) (sz := 2) (fun _ => True) (W := w.alloc (.cells #[] 54)) (base := w.heap.size) (heap_alloc_new w _) (Nat.le_refl _)
  have hX := rdFds_good.below h B1
  have hn1 : ([] : List Fd).length + l.length ≤ maxLen := by simp only [List.length_nil]; unfold maxLen; omega
  have hn2 : (([] : List Fd).length + l.length) * 32 ≤ 140737488355328 := by simp only [List.length_nil]; omega
  have hS : ∀ b, lt_ w.heap.size b → True ∧ b < (w.alloc (.cells #[] 54)).heap.size ∧ (Value.slice (some ⟨w.heap.size, 0, none⟩) 0 0).ownBlock ≠ some b := fun b hb => ⟨trivial, by rw [World.size_alloc]; unfold lt_ at hb; omega, fun hh => by simp only [Value.ownBlock, Option.some.injEq] at hh; unfold lt_ at hb; omega⟩
  have hbs : w.heap.size ≤ (w.alloc (.cells #[] 54)).heap.size := by rw [World.size_alloc]; omega
  have HB1 := Lib.hid B1
  have HL := Lib.hid hl
  clear h B1 hcm
  go_enter Tryd.func25, Tryd.ntmps25
  go_wp2_with (at_builtin; refine wpList_growN _ rfl _ _ 38 38 rfl rdFd_good (by decide) (fun _ => True) w.heap.size 54 54 i0 (.agg #[.string { data := #[] }, .string { data := #[] }]) 32 Tryd.underlying38 Tryd.underlying38 hi hz0 hz1 hz2 rfl _ _ rfl hG l _ A l.length c rfl hX hS hn1 hn2 hbs ?_)
  intro v' w1 hG1 hg1
  have HB2 := Lib.hid (grow_below hG hg1 HB1.out (Nat.le_refl _) hbs)
  clear hG hX hg1 hn1 hn2 hS hbs
  obtain ⟨A1, c1, rfl, hnc1, hcm1⟩ := hG1.own
  have hcm1' : c1 ≤ 9223372036854775807 := hcm1
  have hat := (rdFds_at (hG1.read rdFd_good)).2.2.2
  have HAT := Lib.hid hat
  have HG := Lib.hid hG1
  have hbs := HB2.out.size
  clear hat hG1 hcm1
  go_wp2
  go_loop [8] (fun i => ∃ k : Nat, k ≤ l.length ∧ i = .int .i64 k ∧ putF nm v l = l.take k ++ putF nm v (l.drop k)) (fun i => l.length - (intOf i).toNat)
  case atStart => exact ⟨0, Nat.zero_le _, rfl, rfl⟩
  case round =>
    obtain ⟨k, hk, rfl, hp⟩ := hrel
    have HP := Lib.hid hp
    clear hp
    by_cases hlt : k < l.length
    · obtain ⟨ad, rfl, had, c0, cv⟩ := HAT.out k hlt
      have PA := Lib.hid (put_at (n := nm) (v := v) hlt HP.out)
      have hq := str_eq l[k].n nm
      by_cases he : l[k].n = nm
      · have X := Lib.hid (PA.out.1 he)
        rw [decide_eq_true he] at hq
        obtain ⟨e0, hba, hbb, _, hfz⟩ := HG.out.spot
        have f0 : w1.frozen? ⟨(ad.add (k * 2)).block, (ad.add (k * 2)).off + 1, none⟩ = false := by rw [blk_add]; exact hfz _
        obtain ⟨S1, S2⟩ := HG.out.set rdFd_good hlt (j := 1) (by decide) (.string v) ⟨l[k].n, v⟩ (fun cs hcs => by rw [show cs = l[k].cells from hcs]; rfl)
        rw [← off2_add ad (k * 2) 1 (by omega)] at S1
        have R1 := Lib.hid (S1.read rdFd_good)
        have R2 := Lib.hid (set_below HB2.out (a := ⟨(ad.add (k * 2)).block, (ad.add (k * 2)).off + 1, none⟩) (by rw [blk_add]; exact hba) (.string v))
        clear he S1 S2 e0 hfz hba hbb
        go_wp2
        go_ret
        exact ⟨⟨_, _, _, rfl, by rw [X.out]; first | exact R1.out | (have := R1.out; rw [List.length_set] at this; exact this)⟩, R2.out⟩
      · have X := Lib.hid (PA.out.2 he)
        rw [decide_eq_false he] at hq
        clear he
        go_wp2
        go_round
        case rel => exact ⟨k + 1, by omega, by go_num, X.out⟩
        case measure => simp [intOf]; omega
    · have X := Lib.hid (show putF nm v l = l ++ [⟨nm, v⟩] by rw [HP.out, List.take_of_length_le (by omega), List.drop_eq_nil_of_le (by omega)]; rfl)
      have hG := HG.out
      have hE := (show rdFd w1 (fun b => True ∧ b < w1.heap.size ∧ (Value.slice A1 l.length c1).ownBlock ≠ some b) ⟨nm, v⟩ (#[.string nm, .string v] : Array Value).toList from rfl)
      have hn1 : l.length + 1 ≤ maxLen := by have := HL.out; unfold maxLen; omega
      have hn2 : (l.length + 1) * 32 ≤ 140737488355328 := by have := HL.out; omega
      go_wp2_with (at_builtin; refine wpList_grow1 _ rfl _ _ 38 rfl rdFd_good (by decide) (fun _ => True) w.heap.size 54 i0 (.agg #[.string { data := #[] }, .string { data := #[] }]) 32 Tryd.underlying38 hi hz0 hz1 hz2 rfl _ _ rfl hG ⟨nm, v⟩ _ 54 hE _ rfl rfl hn1 hn2 hbs ?_)
      intro v' w2 hG2 hg2
      have HB3 := Lib.hid (grow_below hG hg2 HB2.out (Nat.le_refl _) hbs)
      clear hG hg2 hE
      obtain ⟨A2, c2, rfl, _, _⟩ := hG2.own
      go_wp2
      go_ret
      exact ⟨⟨_, _, _, rfl, by rw [X.out]; exact hG2.read rdFd_good⟩, HB3.out⟩
def onlyL (st : List Fd) (ns : List (List Nat)) : Bool := st.all fun f => ns.any fun x => decide (x = B f.n)
theorem any_snoc {α : Type} (p : α → Bool) (l : List α) (k : Nat) (hk : k < l.length) : (l.take (k + 1)).any p = ((l.take k).any p || p l[k]) := by
  rw [List.take_succ_eq_append_getElem hk, List.any_append]; simp
theorem all_snoc {α : Type} (p : α → Bool) (l : List α) (k : Nat) (hk : k < l.length) : (l.take (k + 1)).all p = ((l.take k).all p && p l[k]) := by
  rw [List.take_succ_eq_append_getElem hk, List.all_append]; simp
theorem all_not {α : Type} {p : α → Bool} {l : List α} {k : Nat} (hk : k < l.length) (h : p l[k] = false) : l.all p = false := by
  rw [List.all_eq_false]; exact ⟨l[k], List.getElem_mem hk, by rw [h]; decide⟩
set_option maxHeartbeats 2000000 in
theorem q5only_any (A A' : Option Addr) (n c n' c' : Nat) (l : List Fd) (ns : List (List Nat)) (w : World) (h : rdFds w (lt_ w.heap.size) l [.slice A n c]) (h' : rdStrs w (lt_ w.heap.size) ns [.slice A' n' c']) :
    Calls Tryd.prog 27 #[.slice A n c, .slice A' n' c'] w fun e w' => e = .returned (.bool (onlyL l ns)) ∧ Dr w w' := by
  obtain ⟨rfl, hnc, hcm, _⟩ := rdFds_at h
  obtain ⟨rfl, hnc', hcm', _⟩ := rdStrs_at h'
  have hcm1 : c ≤ 9223372036854775807 := hcm
  have hcm2 : c' ≤ 9223372036854775807 := hcm'
  have H := Lib.hid h
  have H' := Lib.hid h'
  clear h h' hcm hcm'
  go_enter Tryd.func27, Tryd.ntmps27
  go_wp2
  go_loopw [5, 6, 7] (fun i f j wr => ∃ k : Nat, k ≤ l.length ∧ i = .int .i64 k ∧ (l.take k).all (fun f => ns.any fun x => decide (x = B f.n)) = true ∧ Dr w wr) (fun i _ _ _ => l.length - (intOf i).toNat)
  case atStart => exact ⟨0, Nat.zero_le _, rfl, rfl, Dr.refl _⟩
  case round =>
    obtain ⟨k, hk, rfl, hall, hdr⟩ := hrel
    have HALL := Lib.hid hall
    have HD := Lib.hid hdr
    clear hall hdr
    obtain ⟨wo, rfl⟩ : ∃ wo : World, wo = wr := ⟨_, rfl⟩
    by_cases hlt : k < l.length
    · have AS := Lib.hid (all_snoc (fun f => ns.any fun x => decide (x = B f.n)) l k hlt)
      have AN := Lib.hid (fun h => all_not (p := fun f : Fd => ns.any fun x => decide (x = B f.n)) (l := l) (k := k) hlt h)
      go_wp2
      go_loopw [6, 7] (fun f j wr => ∃ q : Nat, q ≤ ns.length ∧ j = .int .i64 q ∧ f = .bool ((ns.take q).any fun x => decide (x = B l[k].n)) ∧ Dr w wr) (fun _ j _ => ns.length - (intOf j).toNat)
      case atStart => exact ⟨0, Nat.zero_le _, rfl, rfl, HD.out⟩
      case round =>
        obtain ⟨q, hq, rfl, rfl, hdr⟩ := hrel
        by_cases hlq : q < ns.length
        · obtain ⟨_, _, _, ha⟩ := rdFds_at (rdFds_good.below H.out (hdr.below _))
          obtain ⟨_, _, _, hb⟩ := rdStrs_at (rdStrs_good.below H'.out (hdr.below _))
          obtain ⟨ad, rfl, had, c0, _⟩ := ha k hlt
          obtain ⟨ad', s, rfl, had', g0, hB⟩ := hb q hlq
          have SN := Lib.hid (any_snoc (fun x => decide (x = B l[k].n)) ns q hlq)
          have hki : (k : Int) < (l.length : Int) := by omega
          have HD2 := Lib.hid hdr
          clear ha hb hdr
          have he := str_eq s l[k].n
          have hde : decide (ns[q] = B l[k].n) = decide (s = l[k].n) := by
            rw [← hB, decide_eq_decide]
            exact ⟨fun h => B_inj h, fun h => by rw [h]⟩
          rw [hde] at SN
          clear hde hB
          generalize decide (s = l[k].n) = eqb at *
          generalize hfb : ((ns.take q).any fun x => decide (x = B l[k].n)) = fb at *
          have HF := Lib.hid hfb
          clear hfb
          cases fb
          · go_wp2_with fail
            go_quiet (fail)
            go_wp2
            go_roundw
            case rel => exact ⟨q + 1, by omega, by go_num, by rw [SN.out]; try rfl, HD2.out.more _⟩
            case measure => simp [intOf]; omega
          · go_wp2_with fail
            go_quiet (fail)
            go_wp2
            go_roundw
            case rel => exact ⟨q + 1, by omega, by go_num, by rw [SN.out]; try rfl, HD2.out.more _⟩
            case measure => simp [intOf]; omega
        · obtain rfl : q = ns.length := by omega
          rw [List.take_length]
          have HD2 := Lib.hid hdr
          clear hdr
          generalize hfb : (ns.any fun x => decide (x = B l[k].n)) = fb at *
          have HF := Lib.hid hfb
          clear hfb
          cases fb
          · have X := Lib.hid (AN.out rfl)
            go_wp2
            go_ret
            exact ⟨by unfold onlyL; rw [X.out]; try rfl, HD2.out⟩
          · go_wp2
            go_roundw
            case rel => exact ⟨k + 1, by omega, by go_num, by rw [AS.out, HALL.out]; rfl, HD2.out⟩
            case measure => simp [intOf]; omega
    · have X := Lib.hid (show onlyL l ns = true by unfold onlyL; have := HALL.out; rw [List.take_of_length_le (by omega)] at this; exact this)
      go_wp2
      go_ret
      exact ⟨by rw [X.out]; try rfl, HD.out⟩
end Go.Proofs.YtjfenheplkoajaaDoor
