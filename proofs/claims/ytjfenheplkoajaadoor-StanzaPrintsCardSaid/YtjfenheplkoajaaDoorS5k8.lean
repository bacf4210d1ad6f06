/- The contracts of the document's own text, Right, Print of stanzas. No condition but the sizes of what is asked of. -/
import Derived.Test.YtjfenheplkoajaaDoorS5k7
set_option maxRecDepth 100000
set_option linter.unusedVariables false
set_option linter.unusedSimpArgs false
namespace Go.Proofs.YtjfenheplkoajaaDoor
open Go.RowKit
theorem own_below {w w' : World} {B : Nat} {e : TypeId} {v : Value} {n : Nat} {xs : List Value} (h : w.ownsRow B e 1 v n xs) (hb : Below w.heap.size w w') : w'.ownsRow B e 1 v n xs := by
  refine h.kept (row := none) ⟨hb.os, hb.tape, hb.output, hb.size, fun k hk _ => hb.block k hk⟩ ?_
  cases h : v.ownBlock with
  | none => exact .inl rfl
  | some x => exact .inr (by simp)
theorem str_of_row {w : World} {N0 : Nat} {v : Value} {cur : ByteArray} (h : w.ownsRow N0 5 1 v cur.size (Lib.strCells cur)) : (convert 65 9 v).run Tryd.prog w = .ok (.string cur) w := by
  rcases h.2 with ⟨rfl, h0⟩ | ⟨g, cap, cu, rfl, hb, hg, hn, hm, hsz, ht⟩
  · have : cur = { data := #[] } := by
      have hl : (B cur).length = 0 := by rw [B_len]; exact h0
      exact B_inj (List.eq_nil_of_length_eq_zero hl)
    subst this
    exact (by kernel_rfl : (convert 65 9 (.slice none 0 0)).run Tryd.prog w = .ok (.string { data := #[] }) w)
  · have hl : cur.data.toList.length = cur.size := by rw [Array.length_toList]; rfl
    have := run_convert_bytes_back (P := Tryd.prog) w 65 9 5 ⟨g, 0, none⟩ cap cur.data.toList Tryd.underlying65 Tryd.underlying5 Tryd.underlying9 (fun j hj => by
      exact h.cells (g := g) rfl j _ (by unfold Lib.strCells; rw [List.getElem?_map, List.getElem?_eq_getElem hj]; rfl))
    rw [hl] at this
    rw [this]
theorem own_form {w : World} {B : Nat} {e : TypeId} {v : Value} {n : Nat} {xs : List Value} (h : w.ownsRow B e 1 v n xs) : ∃ A c, v = .slice A n c ∧ c ≤ maxLen := by
  rcases h.2 with ⟨rfl, h0⟩ | ⟨g, cap, cu, rfl, hb, hg, hn, hm, hsz, ht⟩
  · exact ⟨none, 0, by rw [h0], Nat.zero_le _⟩
  · exact ⟨_, cap, rfl, hm⟩
set_option maxHeartbeats 8000000 in
theorem q5text_any (A : Option Addr) (n c : Nat) (L : List (List Fd)) (w : World) (h : rdStzs w (lt_ w.heap.size) L [.slice A n c]) (hL : L.length ≤ 210) (hs : ∀ st ∈ L, st.length ≤ 45 ∧ ∀ f ∈ st, f.n.size ≤ 65536 ∧ f.v.size ≤ 65536) :
    Calls Tryd.prog 38 #[.slice A n c] w fun e w' => (∃ y : ByteArray, e = .returned (.string y) ∧ B y = txL L) ∧ Below w.heap.size w w' := by
  obtain ⟨rfl, hnc, hcm, _⟩ := rdStzs_at h
  have hcm' : c ≤ 9223372036854775807 := hcm
  obtain ⟨i0, hi, hz0, hz1, hz2⟩ := info_parts byteInfo
  have H := Lib.hid h
  have HS := Lib.hid hs
  have HL := Lib.hid hL
  obtain ⟨U, hU⟩ : ∃ U, U = 4400000000 := ⟨_, rfl⟩
  have HU := Lib.hid hU
  clear hU hL
  clear hcm h hs
  go_enter Tryd.func38, Tryd.ntmps38
  go_wp2
  go_loopw [3, 4] (fun v i wr => ∃ (k : Nat) (cur : ByteArray), k ≤ L.length ∧ i = .int .i64 k ∧ B cur = joinL [10] ((L.take k).map stT) ∧ (∃ cnt, cnt ≤ k * 46 ∧ cur.size ≤ cnt * U) ∧ wr.ownsRow w.heap.size 5 1 v cur.size (Lib.strCells cur) ∧ Below w.heap.size w wr) (fun _ i _ => L.length - (intOf i).toNat)
  case atStart => exact ⟨0, { data := #[] }, Nat.zero_le _, rfl, rfl, ⟨0, Nat.zero_le _, Nat.zero_le _⟩, World.ownsRow_nil _ _ _ _, Below.refl _ _⟩
  case round =>
    obtain ⟨k, cur, hk, rfl, hc1, hc2, hown, hbel⟩ := hrel
    obtain ⟨Av, cv, rfl, hcv⟩ := own_form hown
    have hcv' : cv ≤ 9223372036854775807 := hcv
    have HC := Lib.hid (And.intro hc1 hc2)
    have HB := Lib.hid hbel
    have HO := Lib.hid hown
    clear hc1 hc2 hcv
    by_cases hlt : k < L.length
    · obtain ⟨_, _, _, ha⟩ := rdStzs_at H.out
      obtain ⟨ad, A', c', rfl, had, x0w, hrd⟩ := ha k hlt
      have HX := Lib.hid (fun (W : World) (hb : Below w.heap.size w W) => (show W.cell? (ad.add k) = some (.slice A' L[k].length c') from (hb.cell (show (ad.add k).block < w.heap.size by rw [blk_add]; exact had)).trans x0w))
      have HRDW := Lib.hid hrd
      have hcm2' : c' ≤ 9223372036854775807 := (rdFds_at hrd).2.2.1
      have PN := Lib.hid (pt_next (L := L) hlt)
      have PSN := Lib.hid (fun j (hj : j < L[k].length) => stT_snoc L[k] j hj)
      have hst := HS.out L[k] (List.getElem_mem hlt)
      have HST := Lib.hid hst
      have hl45 := hst.1
      have i2 : (0 : Int) ≤ (k : Int) := by omega
      have i3 : (k : Int) < (L.length : Int) := by omega
      clear ha hrd x0w hst
      by_cases hk0 : 0 < k
      · have z1 : (0 : Int) < (k : Int) := by omega
        have PP := Lib.hid (pt_pos (L := L) hk0)
        have hb45 : cur.size + 1 ≤ 140737488355328 := by
          obtain ⟨cnt, h1, h2⟩ := HC.out.2
          have h3 : cnt * U ≤ 9661 * U := Nat.mul_le_mul_right _ (by have := HL.out; omega)
          have := HU.out
          omega
        go_wp2_with (at_builtin; refine wpList_append_own _ rfl _ _ 65 rfl w.heap.size 5 i0 (.int .u8 0) 1 1 Tryd.underlying65 hi hz0 hz1 hz2 rfl (by decide) _ _ _ rfl (hown.alloc _) ⟨wr.heap.size, 0, none⟩ 1 1 [.int .u8 10] rfl rfl ?c1 ?c2 ?c3 ?c4 ?c5 ?_)
        case c2 => rfl
        case c3 => unfold maxLen; omega
        case c5 => have := hbel.size; simp; omega
        intro v' w3 hown' hgrow _
        have C3 := Lib.hid (show ∃ cur3 : ByteArray, B cur3 = ptT L k ++ stT (L[k].take 0) ∧ (∃ cnt, cnt ≤ k * 46 + 1 ∧ cur3.size ≤ cnt * U) ∧ w3.ownsRow w.heap.size 5 1 v' cur3.size (Lib.strCells cur3) from ⟨cur ++ { data := #[10] }, by rw [B_append, HC.out.1, PP.out]; simp [stT]; rfl, by
          obtain ⟨cnt, h1, h2⟩ := HC.out.2
          refine ⟨cnt + 1, by omega, ?_⟩
          rw [ByteArray.size_append, Nat.succ_mul]
          have h3 := HU.out
          have h4 : ({ data := #[10] } : ByteArray).size = 1 := rfl
          omega, by
          rw [ByteArray.size_append, ← strCells_app]; exact hown'⟩)
        have HB3 := Lib.hid ((hbel.alloc hbel.size _).grown hgrow (by have := hbel.size; simp; omega) (fun k hk => (hown.lt k hk).1))
        clear hown hgrow hown' hbel hb45 hk0
        go_wp2
        go_loopw [3, 5] (fun v i wr => ∃ (j : Nat) (cur3 : ByteArray), j ≤ L[k].length ∧ i = .int .i64 j ∧ B cur3 = ptT L k ++ stT (L[k].take j) ∧ (∃ cnt, cnt ≤ k * 46 + 1 + j ∧ cur3.size ≤ cnt * U) ∧ wr.ownsRow w.heap.size 5 1 v cur3.size (Lib.strCells cur3) ∧ Below w.heap.size w wr) (fun _ i _ => L[k].length - (intOf i).toNat)
        case atStart =>
          obtain ⟨cur3, c1, c2, c3⟩ := C3.out
          exact ⟨0, cur3, Nat.zero_le _, rfl, c1, c2, c3, HB3.out⟩
        case round =>
          obtain ⟨j, cur3, hj, rfl, hd1, hd2, hown, hbel⟩ := hrel
          obtain ⟨Av3, cv3, rfl, hcv3⟩ := own_form hown
          have hcv3' : cv3 ≤ 9223372036854775807 := hcv3
          have HD := Lib.hid (And.intro hd1 hd2)
          have HBX := Lib.hid hbel
          have HOX := Lib.hid hown
          have x0 := HX.out _ hbel
          clear hd1 hd2 hcv3 hown
          by_cases hlj : j < L[k].length
          · obtain ⟨_, _, _, hb⟩ := rdFds_at (rdFds_good.below HRDW.out hbel)
            obtain ⟨ad3, hA3, had3, f0, f1⟩ := hb j hlj
            subst hA3
            have hfs := HST.out.2 L[k][j] (List.getElem_mem hlj)
            have PSJ := Lib.hid (PSN.out j hlj)
            have FT := Lib.hid (fun V => q5field_any L[k][j] V hfs.1 hfs.2)
            have j2 : (0 : Int) ≤ (j : Int) := by omega
            have j3 : (j : Int) < (L[k].length : Int) := by omega
            clear hfs hb had3 hbel
            go_wp2_with fail
            refine (FT.out _).mono ?_
            rintro e w5 ⟨⟨y, rfl, hy1, hy2⟩, hb5⟩
            have HY := Lib.hid (And.intro hy1 hy2)
            have BW5 := Lib.hid (HBX.out.trans (hb5.mono HBX.out.size))
            have hown5 := own_below HOX.out hb5
            have hsz : cur3.size + y.size ≤ 140737488355328 := by
              obtain ⟨cnt, h1, h2⟩ := HD.out.2
              have h3 : cnt * U ≤ 9661 * U := Nat.mul_le_mul_right _ (by have := HL.out; omega)
              have h4 := HU.out
              have h5 := HY.out.2
              omega
            have hsz2 : cur3.size + y.size ≤ maxLen := by unfold maxLen; omega
            have hbs5 := BW5.out.size
            clear hb5 hy1 hy2
            go_wp2_with (at_builtin; refine Lib.wpList_append_own_string _ rfl _ _ 65 9 rfl w.heap.size 5 i0 Tryd.underlying65 Tryd.underlying9 hi hz0 hz1 hz2 _ _ _ rfl hown5 y rfl hsz2 hsz hbs5 ?_)
            intro v6 w6 hown6 hgrow6 _
            have NX := Lib.hid (show ∃ cur4 : ByteArray, B cur4 = ptT L k ++ stT (L[k].take (j + 1)) ∧ (∃ cnt, cnt ≤ k * 46 + 1 + (j + 1) ∧ cur4.size ≤ cnt * U) ∧ w6.ownsRow w.heap.size 5 1 v6 cur4.size (Lib.strCells cur4) from ⟨cur3 ++ y, by rw [B_append, HD.out.1, PSJ.out, HY.out.1, List.append_assoc], by
              obtain ⟨cnt, h1, h2⟩ := HD.out.2
              refine ⟨cnt + 1, by omega, ?_⟩
              rw [ByteArray.size_append, Nat.succ_mul]
              have h3 := HU.out
              have h4 := HY.out.2
              omega, by rw [ByteArray.size_append, ← strCells_app]; exact hown6⟩)
            have HB6 := Lib.hid (BW5.out.grown hgrow6 (by have := hbs5; omega) (fun k hk => (hown5.lt k hk).1))
            clear hown5 hgrow6 hown6 hsz hsz2
            go_wp2
            go_roundw
            case rel =>
              obtain ⟨cur4, c1, c2, c3⟩ := NX.out
              exact ⟨j + 1, cur4, by omega, by go_num, c1, c2, c3, HB6.out⟩
            case measure => simp [intOf]; omega
          · obtain rfl : j = L[k].length := by omega
            have FIN := Lib.hid (show B cur3 = joinL [10] ((L.take (k + 1)).map stT) ∧ (∃ cnt, cnt ≤ (k + 1) * 46 ∧ cur3.size ≤ cnt * U) from ⟨by rw [HD.out.1, List.take_length, PN.out], by obtain ⟨cnt, h1, h2⟩ := HD.out.2; exact ⟨cnt, by have := HST.out.1; omega, h2⟩⟩)
            clear hbel
            go_wp2
            go_roundw
            case rel => exact ⟨k + 1, cur3, by omega, by go_num, FIN.out.1, FIN.out.2, HOX.out, HBX.out⟩
            case measure => simp [intOf]; omega
      · have z1 : ¬ (0 : Int) < (k : Int) := by omega
        have PP := Lib.hid (show ptT L k = [] ∧ joinL [10] ((L.take k).map stT) = [] by obtain rfl : k = 0 := by omega
                                                                                        exact ⟨rfl, rfl⟩)
        obtain ⟨v', hv'⟩ : ∃ v', v' = Value.slice Av cur.size cv := ⟨_, rfl⟩
        have C3 := Lib.hid (show ∃ cur3 : ByteArray, B cur3 = ptT L k ++ stT (L[k].take 0) ∧ (∃ cnt, cnt ≤ k * 46 + 1 ∧ cur3.size ≤ cnt * U) ∧ wr.ownsRow w.heap.size 5 1 (Value.slice Av cur.size cv) cur3.size (Lib.strCells cur3) from ⟨cur, by rw [HC.out.1, PP.out.1, PP.out.2]; rfl, by obtain ⟨cnt, h1, h2⟩ := HC.out.2; exact ⟨cnt, by omega, h2⟩, HO.out⟩)
        have HB3 := Lib.hid HB.out
        clear hown hbel hv'
        go_wp2
        go_loopw [3, 5] (fun v i wr => ∃ (j : Nat) (cur3 : ByteArray), j ≤ L[k].length ∧ i = .int .i64 j ∧ B cur3 = ptT L k ++ stT (L[k].take j) ∧ (∃ cnt, cnt ≤ k * 46 + 1 + j ∧ cur3.size ≤ cnt * U) ∧ wr.ownsRow w.heap.size 5 1 v cur3.size (Lib.strCells cur3) ∧ Below w.heap.size w wr) (fun _ i _ => L[k].length - (intOf i).toNat)
        case atStart =>
          obtain ⟨cur3, c1, c2, c3⟩ := C3.out
          exact ⟨0, cur3, Nat.zero_le _, rfl, c1, c2, c3, HB3.out⟩
        case round =>
          obtain ⟨j, cur3, hj, rfl, hd1, hd2, hown, hbel⟩ := hrel
          obtain ⟨Av3, cv3, rfl, hcv3⟩ := own_form hown
          have hcv3' : cv3 ≤ 9223372036854775807 := hcv3
          have HD := Lib.hid (And.intro hd1 hd2)
          have HBX := Lib.hid hbel
          have HOX := Lib.hid hown
          have x0 := HX.out _ hbel
          clear hd1 hd2 hcv3 hown
          by_cases hlj : j < L[k].length
          · obtain ⟨_, _, _, hb⟩ := rdFds_at (rdFds_good.below HRDW.out hbel)
            obtain ⟨ad3, hA3, had3, f0, f1⟩ := hb j hlj
            subst hA3
            have hfs := HST.out.2 L[k][j] (List.getElem_mem hlj)
            have PSJ := Lib.hid (PSN.out j hlj)
            have FT := Lib.hid (fun V => q5field_any L[k][j] V hfs.1 hfs.2)
            have j2 : (0 : Int) ≤ (j : Int) := by omega
            have j3 : (j : Int) < (L[k].length : Int) := by omega
            clear hfs hb had3 hbel
            go_wp2_with fail
            refine (FT.out _).mono ?_
            rintro e w5 ⟨⟨y, rfl, hy1, hy2⟩, hb5⟩
            have HY := Lib.hid (And.intro hy1 hy2)
            have BW5 := Lib.hid (HBX.out.trans (hb5.mono HBX.out.size))
            have hown5 := own_below HOX.out hb5
            have hsz : cur3.size + y.size ≤ 140737488355328 := by
              obtain ⟨cnt, h1, h2⟩ := HD.out.2
              have h3 : cnt * U ≤ 9661 * U := Nat.mul_le_mul_right _ (by have := HL.out; omega)
              have h4 := HU.out
              have h5 := HY.out.2
              omega
            have hsz2 : cur3.size + y.size ≤ maxLen := by unfold maxLen; omega
            have hbs5 := BW5.out.size
            clear hb5 hy1 hy2
            go_wp2_with (at_builtin; refine Lib.wpList_append_own_string _ rfl _ _ 65 9 rfl w.heap.size 5 i0 Tryd.underlying65 Tryd.underlying9 hi hz0 hz1 hz2 _ _ _ rfl hown5 y rfl hsz2 hsz hbs5 ?_)
            intro v6 w6 hown6 hgrow6 _
            have NX := Lib.hid (show ∃ cur4 : ByteArray, B cur4 = ptT L k ++ stT (L[k].take (j + 1)) ∧ (∃ cnt, cnt ≤ k * 46 + 1 + (j + 1) ∧ cur4.size ≤ cnt * U) ∧ w6.ownsRow w.heap.size 5 1 v6 cur4.size (Lib.strCells cur4) from ⟨cur3 ++ y, by rw [B_append, HD.out.1, PSJ.out, HY.out.1, List.append_assoc], by
              obtain ⟨cnt, h1, h2⟩ := HD.out.2
              refine ⟨cnt + 1, by omega, ?_⟩
              rw [ByteArray.size_append, Nat.succ_mul]
              have h3 := HU.out
              have h4 := HY.out.2
              omega, by rw [ByteArray.size_append, ← strCells_app]; exact hown6⟩)
            have HB6 := Lib.hid (BW5.out.grown hgrow6 (by have := hbs5; omega) (fun k hk => (hown5.lt k hk).1))
            clear hown5 hgrow6 hown6 hsz hsz2
            go_wp2
            go_roundw
            case rel =>
              obtain ⟨cur4, c1, c2, c3⟩ := NX.out
              exact ⟨j + 1, cur4, by omega, by go_num, c1, c2, c3, HB6.out⟩
            case measure => simp [intOf]; omega
          · obtain rfl : j = L[k].length := by omega
            have FIN := Lib.hid (show B cur3 = joinL [10] ((L.take (k + 1)).map stT) ∧ (∃ cnt, cnt ≤ (k + 1) * 46 ∧ cur3.size ≤ cnt * U) from ⟨by rw [HD.out.1, List.take_length, PN.out], by obtain ⟨cnt, h1, h2⟩ := HD.out.2; exact ⟨cnt, by have := HST.out.1; omega, h2⟩⟩)
            clear hbel
            go_wp2
            go_roundw
            case rel => exact ⟨k + 1, cur3, by omega, by go_num, FIN.out.1, FIN.out.2, HOX.out, HBX.out⟩
            case measure => simp [intOf]; omega
    · obtain rfl : k = L.length := by omega
      have FIN := Lib.hid (show B cur = txL L by have := HC.out.1; rwa [List.take_length] at this)
      have SR := str_of_row hown
      clear hown hbel
      go_wp2
      go_ret
      exact ⟨⟨cur, rfl, FIN.out⟩, HB.out⟩
end Go.Proofs.YtjfenheplkoajaaDoor
