/- What the laws of this seat rest on: S5k8, S5k9, D4t. -/
import Derived.Test.YtmlakjemgmeffaaGreatDoorQAN
import Derived.Test.YtmlakjemgmeffaaGreatDoorD4qY
import Derived.Test.YtmlakjemgmeffaaGreatDoorD4nY
import Derived.Test.YtmlakjemgmeffaaGreatDoorD4kY
import Derived.Test.YtmlakjemgmeffaaGreatDoorQAA

section
set_option maxRecDepth 100000
set_option linter.unusedVariables false
set_option linter.unusedSimpArgs false
namespace Go.Proofs.YtmlakjemgmeffaaGreatDoor
open Go.RowKit
theorem own_below {w w' : World} {B : Nat} {e : TypeId} {v : Value} {n : Nat} {xs : List Value} (h : w.ownsRow B e 1 v n xs) (hb : Below w.heap.size w w') : w'.ownsRow B e 1 v n xs := by
  refine h.kept (row := none) ⟨hb.os, hb.tape, hb.output, hb.size, fun k hk _ => hb.block k hk⟩ ?_
  cases h : v.ownBlock with
  | none => exact .inl rfl
  | some x => exact .inr (by simp)
theorem str_of_row {w : World} {N0 : Nat} {v : Value} {cur : ByteArray} (h : w.ownsRow N0 5 1 v cur.size (Lib.strCells cur)) : (convert 86 9 v).run Tryz.prog w = .ok (.string cur) w := by
  rcases h.2 with ⟨rfl, h0⟩ | ⟨g, cap, cu, rfl, hb, hg, hn, hm, hsz, ht⟩
  · have : cur = { data := #[] } := by
      have hl : (B cur).length = 0 := by rw [B_len]; exact h0
      exact B_inj (List.eq_nil_of_length_eq_zero hl)
    subst this
    exact (by kernel_rfl : (convert 86 9 (.slice none 0 0)).run Tryz.prog w = .ok (.string { data := #[] }) w)
  · have hl : cur.data.toList.length = cur.size := by rw [Array.length_toList]; rfl
    have := run_convert_bytes_back (P := Tryz.prog) w 86 9 5 ⟨g, 0, none⟩ cap cur.data.toList Tryz.underlying86 Tryz.underlying5 Tryz.underlying9 (fun j hj => by
      exact h.cells (g := g) rfl j _ (by unfold Lib.strCells; rw [List.getElem?_map, List.getElem?_eq_getElem hj]; rfl))
    rw [hl] at this
    rw [this]
theorem own_form {w : World} {B : Nat} {e : TypeId} {v : Value} {n : Nat} {xs : List Value} (h : w.ownsRow B e 1 v n xs) : ∃ A c, v = .slice A n c ∧ c ≤ maxLen := by
  rcases h.2 with ⟨rfl, h0⟩ | ⟨g, cap, cu, rfl, hb, hg, hn, hm, hsz, ht⟩
  · exact ⟨none, 0, by rw [h0], Nat.zero_le _⟩
  · exact ⟨_, cap, rfl, hm⟩
set_option maxHeartbeats 8000000 in
theorem q5text_any (A : Option Addr) (n c : Nat) (L : List (List Fd)) (w : World) (h : rdStzs w (lt_ w.heap.size) L [.slice A n c]) (hL : L.length ≤ 210) (hs : ∀ st ∈ L, st.length ≤ 45 ∧ ∀ f ∈ st, f.n.size ≤ 65536 ∧ f.v.size ≤ 65536) :
    Calls Tryz.prog 81 #[.slice A n c] w fun e w' => (∃ y : ByteArray, e = .returned (.string y) ∧ B y = txL L) ∧ Below w.heap.size w w' := by
  obtain ⟨rfl, hnc, hcm, _⟩ := rdStzs_at h
  have hcm' : c ≤ 9223372036854775807 := hcm
  obtain ⟨i0, hi, hz0, hz1, hz2⟩ := info_parts byteInfo
  have H := Lib.hid h
  have HS := Lib.hid hs
  have HL := Lib.hid hL
  obtain ⟨U, hU⟩ : ∃ U, U = 4400000000 := ⟨_, rfl⟩
  have HU := Lib.hid hU
  clear hU hL
  clear hcm h hs
  go_enter Tryz.func81, Tryz.ntmps81
  go_wp2
  go_loopw [3, 4] (fun v i wr => ∃ (k : Nat) (cur : ByteArray), k ≤ L.length ∧ i = .int .i64 k ∧ B cur = joinL [10] ((L.take k).map stT) ∧ (∃ cnt, cnt ≤ k * 46 ∧ cur.size ≤ cnt * U) ∧ wr.ownsRow w.heap.size 5 1 v cur.size (Lib.strCells cur) ∧ Below w.heap.size w wr) (fun _ i _ => L.length - (intOf i).toNat)
  case atStart => exact ⟨0, { data := #[] }, Nat.zero_le _, rfl, rfl, ⟨0, Nat.zero_le _, Nat.zero_le _⟩, World.ownsRow_nil _ _ _ _, Below.refl _ _⟩
  case round =>
    obtain ⟨k, cur, hk, rfl, hc1, hc2, hown, hbel⟩ := hrel
    obtain ⟨Av, cv, rfl, hcv⟩ := own_form hown
    have hcv' : cv ≤ 9223372036854775807 := hcv
    have HC := Lib.hid (And.intro hc1 hc2)
    have HB := Lib.hid hbel
    have HO := Lib.hid hown
    clear hc1 hc2 hcv
    by_cases hlt : k < L.length
    · obtain ⟨_, _, _, ha⟩ := rdStzs_at H.out
      obtain ⟨ad, A', c', rfl, had, x0w, hrd⟩ := ha k hlt
      have HX := Lib.hid (fun (W : World) (hb : Below w.heap.size w W) => (show W.cell? (ad.add k) = some (.slice A' L[k].length c') from (hb.cell (show (ad.add k).block < w.heap.size by rw [blk_add]; exact had)).trans x0w))
      have HRDW := Lib.hid hrd
      have hcm2' : c' ≤ 9223372036854775807 := (rdFds_at hrd).2.2.1
      have PN := Lib.hid (pt_next (L := L) hlt)
      have PSN := Lib.hid (fun j (hj : j < L[k].length) => stT_snoc L[k] j hj)
      have hst := HS.out L[k] (List.getElem_mem hlt)
      have HST := Lib.hid hst
      have hl45 := hst.1
      have i2 : (0 : Int) ≤ (k : Int) := by omega
      have i3 : (k : Int) < (L.length : Int) := by omega
      clear ha hrd x0w hst
      by_cases hk0 : 0 < k
      · have z1 : (0 : Int) < (k : Int) := by omega
        have PP := Lib.hid (pt_pos (L := L) hk0)
        have hb45 : cur.size + 1 ≤ 140737488355328 := by
          obtain ⟨cnt, h1, h2⟩ := HC.out.2
          have h3 : cnt * U ≤ 9661 * U := Nat.mul_le_mul_right _ (by have := HL.out; omega)
          have := HU.out
          omega
        go_wp2_with (at_builtin; refine wpList_append_own _ rfl _ _ 86 rfl w.heap.size 5 i0 (.int .u8 0) 1 1 Tryz.underlying86 hi hz0 hz1 hz2 rfl (by decide) _ _ _ rfl (hown.alloc _) ⟨wr.heap.size, 0, none⟩ 1 1 [.int .u8 10] rfl rfl ?c1 ?c2 ?c3 ?c4 ?c5 ?_)
        case c2 => rfl
        case c3 => unfold maxLen; omega
        case c5 => have := hbel.size; simp; omega
        intro v' w3 hown' hgrow _
        have C3 := Lib.hid (show ∃ cur3 : ByteArray, B cur3 = ptT L k ++ stT (L[k].take 0) ∧ (∃ cnt, cnt ≤ k * 46 + 1 ∧ cur3.size ≤ cnt * U) ∧ w3.ownsRow w.heap.size 5 1 v' cur3.size (Lib.strCells cur3) from ⟨cur ++ { data := #[10] }, by rw [B_append, HC.out.1, PP.out]; simp [stT]; rfl, by
          obtain ⟨cnt, h1, h2⟩ := HC.out.2
          refine ⟨cnt + 1, by omega, ?_⟩
          rw [ByteArray.size_append, Nat.succ_mul]
          have h3 := HU.out
          have h4 : ({ data := #[10] } : ByteArray).size = 1 := rfl
          omega, by
          rw [ByteArray.size_append, ← strCells_app]; exact hown'⟩)
        have HB3 := Lib.hid ((hbel.alloc hbel.size _).grown hgrow (by have := hbel.size; simp; omega) (fun k hk => (hown.lt k hk).1))
        clear hown hgrow hown' hbel hb45 hk0
        go_wp2
        go_loopw [3, 5] (fun v i wr => ∃ (j : Nat) (cur3 : ByteArray), j ≤ L[k].length ∧ i = .int .i64 j ∧ B cur3 = ptT L k ++ stT (L[k].take j) ∧ (∃ cnt, cnt ≤ k * 46 + 1 + j ∧ cur3.size ≤ cnt * U) ∧ wr.ownsRow w.heap.size 5 1 v cur3.size (Lib.strCells cur3) ∧ Below w.heap.size w wr) (fun _ i _ => L[k].length - (intOf i).toNat)
        case atStart =>
          obtain ⟨cur3, c1, c2, c3⟩ := C3.out
          exact ⟨0, cur3, Nat.zero_le _, rfl, c1, c2, c3, HB3.out⟩
        case round =>
          obtain ⟨j, cur3, hj, rfl, hd1, hd2, hown, hbel⟩ := hrel
          obtain ⟨Av3, cv3, rfl, hcv3⟩ := own_form hown
          have hcv3' : cv3 ≤ 9223372036854775807 := hcv3
          have HD := Lib.hid (And.intro hd1 hd2)
          have HBX := Lib.hid hbel
          have HOX := Lib.hid hown
          have x0 := HX.out _ hbel
          clear hd1 hd2 hcv3 hown
          by_cases hlj : j < L[k].length
          · obtain ⟨_, _, _, hb⟩ := rdFds_at (rdFds_good.below HRDW.out hbel)
            obtain ⟨ad3, hA3, had3, f0, f1⟩ := hb j hlj
            subst hA3
            have hfs := HST.out.2 L[k][j] (List.getElem_mem hlj)
            have PSJ := Lib.hid (PSN.out j hlj)
            have FT := Lib.hid (fun V => q5field_any L[k][j] V hfs.1 hfs.2)
            have j2 : (0 : Int) ≤ (j : Int) := by omega
            have j3 : (j : Int) < (L[k].length : Int) := by omega
            clear hfs hb had3 hbel
            go_wp2_with fail
            refine (FT.out _).mono ?_
            rintro e w5 ⟨⟨y, rfl, hy1, hy2⟩, hb5⟩
            have HY := Lib.hid (And.intro hy1 hy2)
            have BW5 := Lib.hid (HBX.out.trans (hb5.mono HBX.out.size))
            have hown5 := own_below HOX.out hb5
            have hsz : cur3.size + y.size ≤ 140737488355328 := by
              obtain ⟨cnt, h1, h2⟩ := HD.out.2
              have h3 : cnt * U ≤ 9661 * U := Nat.mul_le_mul_right _ (by have := HL.out; omega)
              have h4 := HU.out
              have h5 := HY.out.2
              omega
            have hsz2 : cur3.size + y.size ≤ maxLen := by unfold maxLen; omega
            have hbs5 := BW5.out.size
            clear hb5 hy1 hy2
            go_wp2_with (at_builtin; refine Lib.wpList_append_own_string _ rfl _ _ 86 9 rfl w.heap.size 5 i0 Tryz.underlying86 Tryz.underlying9 hi hz0 hz1 hz2 _ _ _ rfl hown5 y rfl hsz2 hsz hbs5 ?_)
            intro v6 w6 hown6 hgrow6 _
            have NX := Lib.hid (show ∃ cur4 : ByteArray, B cur4 = ptT L k ++ stT (L[k].take (j + 1)) ∧ (∃ cnt, cnt ≤ k * 46 + 1 + (j + 1) ∧ cur4.size ≤ cnt * U) ∧ w6.ownsRow w.heap.size 5 1 v6 cur4.size (Lib.strCells cur4) from ⟨cur3 ++ y, by rw [B_append, HD.out.1, PSJ.out, HY.out.1, List.append_assoc], by
              obtain ⟨cnt, h1, h2⟩ := HD.out.2
              refine ⟨cnt + 1, by omega, ?_⟩
              rw [ByteArray.size_append, Nat.succ_mul]
              have h3 := HU.out
              have h4 := HY.out.2
              omega, by rw [ByteArray.size_append, ← strCells_app]; exact hown6⟩)
            have HB6 := Lib.hid (BW5.out.grown hgrow6 (by have := hbs5; omega) (fun k hk => (hown5.lt k hk).1))
            clear hown5 hgrow6 hown6 hsz hsz2
            go_wp2
            go_roundw
            case rel =>
              obtain ⟨cur4, c1, c2, c3⟩ := NX.out
              exact ⟨j + 1, cur4, by omega, by go_num, c1, c2, c3, HB6.out⟩
            case measure => simp [intOf]; omega
          · obtain rfl : j = L[k].length := by omega
            have FIN := Lib.hid (show B cur3 = joinL [10] ((L.take (k + 1)).map stT) ∧ (∃ cnt, cnt ≤ (k + 1) * 46 ∧ cur3.size ≤ cnt * U) from ⟨by rw [HD.out.1, List.take_length, PN.out], by obtain ⟨cnt, h1, h2⟩ := HD.out.2; exact ⟨cnt, by have := HST.out.1; omega, h2⟩⟩)
            clear hbel
            go_wp2
            go_roundw
            case rel => exact ⟨k + 1, cur3, by omega, by go_num, FIN.out.1, FIN.out.2, HOX.out, HBX.out⟩
            case measure => simp [intOf]; omega
      · have z1 : ¬ (0 : Int) < (k : Int) := by omega
        have PP := Lib.hid (show ptT L k = [] ∧ joinL [10] ((L.take k).map stT) = [] by obtain rfl : k = 0 := by omega
                                                                                        exact ⟨rfl, rfl⟩)
        obtain ⟨v', hv'⟩ : ∃ v', v' = Value.slice Av cur.size cv := ⟨_, rfl⟩
        have C3 := Lib.hid (show ∃ cur3 : ByteArray, B cur3 = ptT L k ++ stT (L[k].take 0) ∧ (∃ cnt, cnt ≤ k * 46 + 1 ∧ cur3.size ≤ cnt * U) ∧ wr.ownsRow w.heap.size 5 1 (Value.slice Av cur.size cv) cur3.size (Lib.strCells cur3) from ⟨cur, by rw [HC.out.1, PP.out.1, PP.out.2]; rfl, by obtain ⟨cnt, h1, h2⟩ := HC.out.2; exact ⟨cnt, by omega, h2⟩, HO.out⟩)
        have HB3 := Lib.hid HB.out
        clear hown hbel hv'
        go_wp2
        go_loopw [3, 5] (fun v i wr => ∃ (j : Nat) (cur3 : ByteArray), j ≤ L[k].length ∧ i = .int .i64 j ∧ B cur3 = ptT L k ++ stT (L[k].take j) ∧ (∃ cnt, cnt ≤ k * 46 + 1 + j ∧ cur3.size ≤ cnt * U) ∧ wr.ownsRow w.heap.size 5 1 v cur3.size (Lib.strCells cur3) ∧ Below w.heap.size w wr) (fun _ i _ => L[k].length - (intOf i).toNat)
        case atStart =>
          obtain ⟨cur3, c1, c2, c3⟩ := C3.out
          exact ⟨0, cur3, Nat.zero_le _, rfl, c1, c2, c3, HB3.out⟩
        case round =>
          obtain ⟨j, cur3, hj, rfl, hd1, hd2, hown, hbel⟩ := hrel
          obtain ⟨Av3, cv3, rfl, hcv3⟩ := own_form hown
          have hcv3' : cv3 ≤ 9223372036854775807 := hcv3
          have HD := Lib.hid (And.intro hd1 hd2)
          have HBX := Lib.hid hbel
          have HOX := Lib.hid hown
          have x0 := HX.out _ hbel
          clear hd1 hd2 hcv3 hown
          by_cases hlj : j < L[k].length
          · obtain ⟨_, _, _, hb⟩ := rdFds_at (rdFds_good.below HRDW.out hbel)
            obtain ⟨ad3, hA3, had3, f0, f1⟩ := hb j hlj
            subst hA3
            have hfs := HST.out.2 L[k][j] (List.getElem_mem hlj)
            have PSJ := Lib.hid (PSN.out j hlj)
            have FT := Lib.hid (fun V => q5field_any L[k][j] V hfs.1 hfs.2)
            have j2 : (0 : Int) ≤ (j : Int) := by omega
            have j3 : (j : Int) < (L[k].length : Int) := by omega
            clear hfs hb had3 hbel
            go_wp2_with fail
            refine (FT.out _).mono ?_
            rintro e w5 ⟨⟨y, rfl, hy1, hy2⟩, hb5⟩
            have HY := Lib.hid (And.intro hy1 hy2)
            have BW5 := Lib.hid (HBX.out.trans (hb5.mono HBX.out.size))
            have hown5 := own_below HOX.out hb5
            have hsz : cur3.size + y.size ≤ 140737488355328 := by
              obtain ⟨cnt, h1, h2⟩ := HD.out.2
              have h3 : cnt * U ≤ 9661 * U := Nat.mul_le_mul_right _ (by have := HL.out; omega)
              have h4 := HU.out
              have h5 := HY.out.2
              omega
            have hsz2 : cur3.size + y.size ≤ maxLen := by unfold maxLen; omega
            have hbs5 := BW5.out.size
            clear hb5 hy1 hy2
            go_wp2_with (at_builtin; refine Lib.wpList_append_own_string _ rfl _ _ 86 9 rfl w.heap.size 5 i0 Tryz.underlying86 Tryz.underlying9 hi hz0 hz1 hz2 _ _ _ rfl hown5 y rfl hsz2 hsz hbs5 ?_)
            intro v6 w6 hown6 hgrow6 _
            have NX := Lib.hid (show ∃ cur4 : ByteArray, B cur4 = ptT L k ++ stT (L[k].take (j + 1)) ∧ (∃ cnt, cnt ≤ k * 46 + 1 + (j + 1) ∧ cur4.size ≤ cnt * U) ∧ w6.ownsRow w.heap.size 5 1 v6 cur4.size (Lib.strCells cur4) from ⟨cur3 ++ y, by rw [B_append, HD.out.1, PSJ.out, HY.out.1, List.append_assoc], by
              obtain ⟨cnt, h1, h2⟩ := HD.out.2
              refine ⟨cnt + 1, by omega, ?_⟩
              rw [ByteArray.size_append, Nat.succ_mul]
              have h3 := HU.out
              have h4 := HY.out.2
              omega, by rw [ByteArray.size_append, ← strCells_app]; exact hown6⟩)
            have HB6 := Lib.hid (BW5.out.grown hgrow6 (by have := hbs5; omega) (fun k hk => (hown5.lt k hk).1))
            clear hown5 hgrow6 hown6 hsz hsz2
            go_wp2
            go_roundw
            case rel =>
              obtain ⟨cur4, c1, c2, c3⟩ := NX.out
              exact ⟨j + 1, cur4, by omega, by go_num, c1, c2, c3, HB6.out⟩
            case measure => simp [intOf]; omega
          · obtain rfl : j = L[k].length := by omega
            have FIN := Lib.hid (show B cur3 = joinL [10] ((L.take (k + 1)).map stT) ∧ (∃ cnt, cnt ≤ (k + 1) * 46 ∧ cur3.size ≤ cnt * U) from ⟨by rw [HD.out.1, List.take_length, PN.out], by obtain ⟨cnt, h1, h2⟩ := HD.out.2; exact ⟨cnt, by have := HST.out.1; omega, h2⟩⟩)
            clear hbel
            go_wp2
            go_roundw
            case rel => exact ⟨k + 1, cur3, by omega, by go_num, FIN.out.1, FIN.out.2, HOX.out, HBX.out⟩
            case measure => simp [intOf]; omega
    · obtain rfl : k = L.length := by omega
      have FIN := Lib.hid (show B cur = txL L by have := HC.out.1; rwa [List.take_length] at this)
      have SR := str_of_row hown
      clear hown hbel
      go_wp2
      go_ret
      exact ⟨⟨cur, rfl, FIN.out⟩, HB.out⟩
end Go.Proofs.YtmlakjemgmeffaaGreatDoor
end

section
set_option maxRecDepth 100000
set_option linter.unusedVariables false
set_option linter.unusedSimpArgs false
namespace Go.Proofs.YtmlakjemgmeffaaGreatDoor
open Go.RowKit
def Sml (L : List (List Fd)) : Prop := L.length ≤ 210 ∧ ∀ st ∈ L, st.length ≤ 45 ∧ ∀ f ∈ st, f.n.size ≤ 65536 ∧ f.v.size ≤ 60000
theorem okR_stz {L : List (List Fd)} {k : Nat} (hk : k < L.length) (h : stzR L[k] = false) : okR L = false := by
  have : L.all stzR = false := by rw [List.all_eq_false]; exact ⟨L[k], List.getElem_mem hk, by rw [h]; decide⟩
  unfold okR; rw [this]; rfl
set_option maxHeartbeats 4000000 in
theorem q5right_any (A : Option Addr) (n c : Nat) (L : List (List Fd)) (w : World) (h : rdStzs w (lt_ w.heap.size) L [.slice A n c]) (hS : Sml L) :
    Calls Tryz.prog 80 #[.slice A n c] w fun e w' => e = .returned (.bool (okR L)) ∧ Below w.heap.size w w' := by
  obtain ⟨rfl, hnc, hcm, _⟩ := rdStzs_at h
  have hcm' : c ≤ 9223372036854775807 := hcm
  have H := Lib.hid h
  have HS := Lib.hid hS
  have KT := Lib.hid (fun (W : World) (hb : Below w.heap.size w W) => q5text_any A L.length c L W (rdStzs_good.up (rdStzs_good.below h hb) hb.size) hS.1 (fun st hst => ⟨(hS.2 st hst).1, fun f hf => ⟨((hS.2 st hst).2 f hf).1, by have := ((hS.2 st hst).2 f hf).2; omega⟩⟩))
  have OK := Lib.hid (show okR L = (L.all stzR && (decide (L.length ≤ 200) && decide ((txL L).length ≤ 60000))) from rfl)
  clear hcm h hS
  go_enter Tryz.func80, Tryz.ntmps80
  go_wp2
  go_loopw [3] (fun i wr => ∃ k : Nat, k ≤ L.length ∧ i = .int .i64 k ∧ (L.take k).all stzR = true ∧ Below w.heap.size w wr) (fun i _ => L.length - (intOf i).toNat)
  case atStart => exact ⟨0, Nat.zero_le _, rfl, rfl, Below.refl _ _⟩
  case round =>
    obtain ⟨k, hk, rfl, hall, hbel⟩ := hrel
    have HA := Lib.hid hall
    have HB := Lib.hid hbel
    clear hall
    by_cases hlt : k < L.length
    · obtain ⟨_, _, _, ha⟩ := rdStzs_at (rdStzs_good.below H.out hbel)
      obtain ⟨ad, A', c', rfl, had, x0, hrd⟩ := ha k hlt
      have KS := Lib.hid (q5stanza_any A' L[k].length c' L[k] wr (rdFds_good.up hrd hbel.size) (fun f hf => ⟨by have := ((HS.out.2 _ (List.getElem_mem hlt)).2 f hf).1; unfold maxLen; omega, by have := ((HS.out.2 _ (List.getElem_mem hlt)).2 f hf).2; omega⟩))
      have AS := Lib.hid (all_snoc stzR L k hlt)
      have SZ := Lib.hid (fun h => okR_stz (L := L) hlt h)
      have i0 : (0 : Int) ≤ (k : Int) := by omega
      have i1 : (k : Int) < (L.length : Int) := by omega
      clear ha hrd hbel
      cases hst : stzR L[k]
      · have X := Lib.hid (SZ.out hst)
        rw [hst] at KS
        clear hst
        go_wp2_with fail
        refine KS.out.mono ?_
        rintro e w2 ⟨rfl, hb2⟩
        have HB2 := Lib.hid (HB.out.trans (hb2.mono HB.out.size))
        clear hb2
        go_wp2
        go_ret
        exact ⟨by rw [X.out]; try rfl, HB2.out⟩
      · rw [hst] at KS
        have HST := Lib.hid hst
        clear hst
        go_wp2_with fail
        refine KS.out.mono ?_
        rintro e w2 ⟨rfl, hb2⟩
        have HB2 := Lib.hid (HB.out.trans (hb2.mono HB.out.size))
        clear hb2
        go_wp2
        go_roundw
        case rel => exact ⟨k + 1, by omega, by go_num, by rw [AS.out, HA.out, HST.out]; rfl, HB2.out⟩
        case measure => simp [intOf]; omega
    · obtain rfl : k = L.length := by omega
      have X := Lib.hid (show okR L = (decide (L.length ≤ 200) && decide ((txL L).length ≤ 60000)) by
        have h1 := HA.out
        rw [List.take_length] at h1
        rw [OK.out, h1]; rfl)
      clear hbel
      by_cases h200 : L.length ≤ 200
      · have z0 : (L.length : Int) ≤ 200 := by omega
        have X2 := Lib.hid (show okR L = decide ((txL L).length ≤ 60000) by rw [X.out, decide_eq_true h200]; rfl)
        clear h200
        go_wp2_with fail
        refine (KT.out _ HB.out).mono ?_
        rintro e w2 ⟨⟨y, rfl, hy⟩, hb2⟩
        have HB2 := Lib.hid (HB.out.trans (hb2.mono HB.out.size))
        have HY := Lib.hid (show y.size = (txL L).length by rw [← hy, B_len])
        clear hb2 hy
        by_cases h6 : y.size ≤ 60000
        · have z1 : (y.size : Int) ≤ 60000 := by omega
          have X3 := Lib.hid (show okR L = true by rw [X2.out, ← HY.out]; exact decide_eq_true h6)
          clear h6
          go_wp2
          go_ret
          exact ⟨by rw [X3.out]; try rfl, HB2.out⟩
        · have z1 : ¬ (y.size : Int) ≤ 60000 := by omega
          have X3 := Lib.hid (show okR L = false by rw [X2.out, ← HY.out]; exact decide_eq_false h6)
          clear h6
          go_wp2
          go_ret
          have z2 : decide ((y.size : Int) ≤ 60000) = false := decide_eq_false (by omega)
          exact ⟨by rw [X3.out]; first | rfl | (show Ending.returned (.bool (decide ((y.size : Int) ≤ 60000))) = _; rw [z2]), HB2.out⟩
      · have z0 : ¬ (L.length : Int) ≤ 200 := by omega
        have X3 := Lib.hid (show okR L = false by rw [X.out, decide_eq_false h200]; rfl)
        clear h200
        go_wp2
        go_ret
        exact ⟨by rw [X3.out]; try rfl, HB.out⟩
theorem q5print_any (A : Option Addr) (n c : Nat) (L : List (List Fd)) (w : World) (h : rdStzs w (lt_ w.heap.size) L [.slice A n c]) (hS : Sml L) :
    Calls Tryz.prog 45 #[.slice A n c] w fun e w' => e = .returned (.string (if okR L = true then mk (txL L) else { data := #[] })) ∧ Below w.heap.size w w' := by
  have KR := Lib.hid (q5right_any A n c L w h hS)
  have KT := Lib.hid (fun (W : World) (hb : Below w.heap.size w W) => q5text_any A n c L W (rdStzs_good.up (rdStzs_good.below h hb) hb.size) hS.1 (fun st hst => ⟨(hS.2 st hst).1, fun f hf => ⟨((hS.2 st hst).2 f hf).1, by have := ((hS.2 st hst).2 f hf).2; omega⟩⟩))
  clear h hS
  cases hok : okR L
  · rw [hok] at KR
    go_enter Tryz.func45, Tryz.ntmps45
    go_wp2_with fail
    refine KR.out.mono ?_
    rintro e w2 ⟨rfl, hb2⟩
    go_wp2
    go_ret
    exact ⟨rfl, hb2⟩
  · rw [hok] at KR
    go_enter Tryz.func45, Tryz.ntmps45
    go_wp2_with fail
    refine KR.out.mono ?_
    rintro e w2 ⟨rfl, hb2⟩
    have HB := Lib.hid hb2
    clear hb2
    go_wp2_with fail
    refine (KT.out _ HB.out).mono ?_
    rintro e w3 ⟨⟨y, rfl, hy⟩, hb3⟩
    have HB3 := Lib.hid (HB.out.trans (hb3.mono HB.out.size))
    have HY := Lib.hid (eq_mk hy)
    clear hb3 hy
    go_wp2
    go_ret
    exact ⟨by first | (rw [if_pos rfl, ← HY.out]; done) | (rw [← HY.out]; done) | (rw [← HY.out]; rfl) | (rw [if_pos rfl, ← HY.out]; rfl), HB3.out⟩
end Go.Proofs.YtmlakjemgmeffaaGreatDoor
end

section
set_option linter.unusedVariables false
namespace Go.Proofs.YtmlakjemgmeffaaGreatDoor
open Go.RowKit
theorem prtG_len (L : List (List Atm)) : (prtG L).length ≤ 8160 := by
  unfold prtG
  split
  · rename_i h
    have hp := right_parts h
    have := joinL_len (sep := [44, 32]) (l := L.map grpS) (M := 678) (fun t ht => by obtain ⟨g, hg, rfl⟩ := List.mem_map.1 ht; exact grpS_len (hp.1 g hg).1 (hp.1 g hg).2)
    rw [List.length_map] at this
    have h2 : L.length * (678 + [44, 32].length) ≤ 12 * 680 := Nat.mul_le_mul hp.2 (by decide)
    exact Nat.le_trans this h2
  · simp
theorem prtG_lt (L : List (List Atm)) : ∀ c ∈ prtG L, c < 256 := by
  unfold prtG
  split
  · rename_i h
    have hp := right_parts h
    exact joinL_lt (by decide) (fun t ht => by obtain ⟨g, hg, rfl⟩ := List.mem_map.1 ht; exact grpS_lt (hp.1 g hg).1)
  · simp
end Go.Proofs.YtmlakjemgmeffaaGreatDoor
end
