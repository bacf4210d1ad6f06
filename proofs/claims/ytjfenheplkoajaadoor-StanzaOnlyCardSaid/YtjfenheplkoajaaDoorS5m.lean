/- The contract of the program's Only. -/
import Derived.Test.YtjfenheplkoajaaDoorS5c
import Derived.Maps.OwnSet
import Derived.StringKeys
set_option maxRecDepth 100000
set_option linter.unusedVariables false
set_option linter.unusedSimpArgs false
namespace Go.Proofs.YtjfenheplkoajaaDoor
open Go.RowKit
theorem lawStr5 : Maps.Keyed Tryd.prog 9 := Maps.string_keyed Tryd.underlying9
theorem zeroUnit5 (w : World) : (zeroValue 71).run Tryd.prog w = .ok (.agg #[]) w := by kernel_rfl
def kS5 (x : List Nat) : Lit := .string (mk x).data.toList
def set5 (ns : List (List Nat)) : DataW Unit := Maps.setOf (.agg []) (ns.map kS5)
theorem set5_snoc (ns : List (List Nat)) (k : Nat) (hk : k < ns.length) : set5 (ns.take (k + 1)) = (set5 (ns.take k)).put (kS5 ns[k]) (.agg []) := by
  unfold set5
  rw [List.take_succ_eq_append_getElem hk, List.map_append]
  exact Maps.setOf_snoc _ _ _
theorem kS5_same (s n : ByteArray) : (kS5 (B s)).sameKey (.string n.data.toList) = decide (B s = B n) := by
  unfold kS5
  rw [mk_B, Bool.eq_iff_iff, decide_eq_true_iff]
  constructor
  · intro h
    have h := WideAt.sameKey_eq h
    injection h with h
    have : s = n := by
      cases s; cases n
      simp only [ByteArray.mk.injEq]
      exact Array.toList_inj.1 h
    rw [this]
  · intro h
    rw [B_inj h]
    simp [Lit.sameKey]
theorem any_cong5 {α : Type} {p q : α → Bool} : ∀ {l : List α}, (∀ x ∈ l, p x = q x) → l.any p = l.any q
  | [], _ => rfl
  | a :: l, h => by rw [List.any_cons, List.any_cons, h a (by simp), any_cong5 fun x hx => h x (by simp [hx])]
theorem has_set5 (ns : List (List Nat)) (hns : ∀ x ∈ ns, ∃ s, B s = x) (n : ByteArray) : Maps.has (set5 ns) (.string n.data.toList) = ns.any fun x => decide (x = B n) := by
  unfold set5
  rw [Maps.has_setOf _ _ _ (fun x hx => by obtain ⟨y, _, rfl⟩ := List.mem_map.1 hx; exact trivial), List.any_map]
  refine any_cong5 fun x hx => ?_
  obtain ⟨s, rfl⟩ := hns x hx
  exact kS5_same s n
set_option maxHeartbeats 2000000 in
theorem only5_any (A A' : Option Addr) (n c n' c' : Nat) (l : List Fd) (ns : List (List Nat)) (w : World) (h : rdFds w (lt_ w.heap.size) l [.slice A n c]) (h' : rdStrs w (lt_ w.heap.size) ns [.slice A' n' c'])
    (hf : ∀ f ∈ l, f.n.size ≤ maxLen) (hs : ∀ x ∈ ns, x.length ≤ maxLen) :
    Calls Tryd.prog 26 #[.slice A n c, .slice A' n' c'] w fun e w' => e = .returned (.bool (onlyL l ns)) ∧ Below w.heap.size w w' := by
  have hmm := @run_makeMap Tryd.prog
  obtain ⟨rfl, hnc, hcm, _⟩ := rdFds_at h
  obtain ⟨rfl, hnc', hcm', hb'⟩ := rdStrs_at h'
  have hcm1 : c ≤ 9223372036854775807 := hcm
  have hcm2 : c' ≤ 9223372036854775807 := hcm'
  have NS := Lib.hid (show ∀ x ∈ ns, ∃ s, B s = x from fun x hx => by
    obtain ⟨k, hk, rfl⟩ := List.getElem_of_mem hx
    obtain ⟨_, s, _, _, _, e⟩ := hb' k hk
    exact ⟨s, e⟩)
  have HL := Lib.hid (Nat.le_trans hnc' hcm')
  have H := Lib.hid h
  have H' := Lib.hid h'
  have HF := Lib.hid hf
  have HS := Lib.hid hs
  clear h h' hcm hcm' hb' hf hs
  go_enter Tryd.func26, Tryd.ntmps26
  go_wp2
  go_loopw [15] (fun i wr => ∃ k : Nat, k ≤ ns.length ∧ i = .int .i64 k ∧ wr.ownsMap Tryd.prog 9 unitElem w.heap.size k (set5 (ns.take k)) ∧ Below w.heap.size w wr) (fun i _ => ns.length - (intOf i).toNat)
  case atStart => exact ⟨0, Nat.zero_le _, rfl, World.ownsMap_made _ _ _ _, (Below.refl _ _).alloc (Nat.le_refl _) _⟩
  case round =>
    obtain ⟨k, hk, rfl, hown, hbel⟩ := hrel
    by_cases hlt : k < ns.length
    · obtain ⟨_, _, _, hb⟩ := rdStrs_at (rdStrs_good.below H'.out hbel)
      obtain ⟨ad, s, rfl, had, c0, e⟩ := hb k hlt
      have hkey : keyOf Tryd.prog 9 (.string s) = some (.string s.data.toList) := WideMaps.keyOf_string_mk Tryd.underlying9 (by rw [← B_len, e]; exact HS.out _ (List.getElem_mem hlt))
      have hkn : k < maxLen := by have := HL.out; omega
      have SN := Lib.hid (show set5 (ns.take (k + 1)) = (set5 (ns.take k)).put (.string s.data.toList) (.agg []) by rw [set5_snoc ns k hlt, ← e]; unfold kS5; rw [mk_B])
      have HB := Lib.hid hbel
      clear hb hbel e
      go_wp2_with (at_mapUpdate; refine wpList_mapUpdate_own _ rfl _ _ _ 70 rfl 9 71 lawStr5 Tryd.underlying70 (unitElem (H := Unit)) w.heap.size k _ rfl hown hkn _ _ _ rfl rfl hkey _ [] unitElem_mk ?_)
      intro w1 hown1 hgrow1
      have hb2 := Lib.hid (HB.out.grown hgrow1 HB.out.size (fun j hj => by cases hj; exact Nat.le_refl _))
      rw [← SN.out] at hown1
      clear hgrow1 hown
      go_wp2
      go_roundw
      case rel => exact ⟨k + 1, by omega, by go_num, hown1, hb2.out⟩
      case measure => simp [intOf]; omega
    · obtain rfl : k = ns.length := by omega
      rw [List.take_length] at hown
      have HB := Lib.hid hbel
      clear hbel
      go_wp2
      go_loopw [25] (fun i wr2 => ∃ q : Nat, q ≤ l.length ∧ i = .int .i64 q ∧ (l.take q).all (fun f => ns.any fun x => decide (x = B f.n)) = true ∧ wr2.ownsMap Tryd.prog 9 unitElem w.heap.size ns.length (set5 ns) ∧ Below w.heap.size w wr2) (fun i _ => l.length - (intOf i).toNat)
      case atStart => exact ⟨0, Nat.zero_le _, rfl, rfl, hown, HB.out⟩
      case round =>
        obtain ⟨q, hq, rfl, hall, hown2, hbel2⟩ := hrel
        have HALL := Lib.hid hall
        clear hall hown
        by_cases hlt : q < l.length
        · obtain ⟨_, _, _, ha⟩ := rdFds_at (rdFds_good.below H.out hbel2)
          obtain ⟨ad, rfl, had, c0, c1⟩ := ha q hlt
          have hkey : keyOf Tryd.prog 9 (.string l[q].n) = some (.string l[q].n.data.toList) := WideMaps.keyOf_string_mk Tryd.underlying9 (HF.out _ (List.getElem_mem hlt))
          have AS := Lib.hid (all_snoc (fun f => ns.any fun x => decide (x = B f.n)) l q hlt)
          have AN := Lib.hid (fun h => all_not (p := fun f : Fd => ns.any fun x => decide (x = B f.n)) (l := l) (k := q) hlt h)
          have HH := Lib.hid (has_set5 ns NS.out l[q].n)
          have HB2 := Lib.hid hbel2
          clear ha hbel2
          go_wp2_with (at_lookup; refine wpList_lookup_own_unit _ rfl _ _ 70 rfl 9 71 lawStr5 Tryd.underlying70 (zeroUnit5 _) w.heap.size ns.length _ rfl (hown2.alloc _) _ _ rfl hkey ?_)
          · have hx : (!Maps.has (set5 ns) (Lit.string l[q].n.data.toList)) = true := by assumption
            rw [HH.out, Bool.not_eq_true'] at hx
            have X := Lib.hid (AN.out hx)
            clear hx
            go_ret
            exact ⟨by unfold onlyL; rw [X.out]; try rfl, (HB2.out.alloc HB2.out.size _).alloc (by have := HB2.out.size; rw [World.size_alloc]; omega) _⟩
          · have hx : (!Maps.has (set5 ns) (Lit.string l[q].n.data.toList)) = false := by assumption
            rw [HH.out, Bool.not_eq_false'] at hx
            have X := Lib.hid hx
            clear hx
            go_roundw
            case rel => exact ⟨q + 1, by omega, by go_num, by rw [AS.out, HALL.out, X.out]; rfl, (hown2.alloc _).alloc _, (HB2.out.alloc HB2.out.size _).alloc (by have := HB2.out.size; rw [World.size_alloc]; omega) _⟩
            case measure => simp [intOf]; omega
        · have X := Lib.hid (show onlyL l ns = true by unfold onlyL; have := HALL.out; rw [List.take_of_length_le (by omega)] at this; exact this)
          go_wp2
          go_ret
          exact ⟨by rw [X.out]; try rfl, hbel2⟩
end Go.Proofs.YtjfenheplkoajaaDoor
