/- What the laws rest on: S5k8, S5k9, P6n, D4f, D4g. -/
import Derived.Test.YtboinnjncaehkaaGreatDoorQBBZA
import Derived.Test.YtboinnjncaehkaaGreatDoorQBUZA
set_option maxRecDepth 100000
set_option linter.unusedVariables false
set_option linter.unusedSimpArgs false
namespace Go.Proofs.YtboinnjncaehkaaGreatDoor
open Go.RowKit
theorem own_below {w w':World} {B:Nat} {e:TypeId} {v:Value} {n:Nat} {xs:List Value} (h:w.ownsRow B e 1 v n xs) (hb:Below w.heap.size w w'):w'.ownsRow B e 1 v n xs:=by
 refine h.kept (row:=none) ⟨hb.os,hb.tape,hb.output,hb.size,fun k hk _=>hb.block k hk⟩ ?_
 cases h:v.ownBlock with
 | none=>exact .inl rfl
 | some x=>exact .inr (by simp)
theorem str_of_row {w:World} {N0:Nat} {v:Value} {cur:ByteArray} (h:w.ownsRow N0 5 1 v cur.size (Lib.strCells cur)):(convert 159 9 v).run Tryz.prog w=.ok (.string cur) w:=by
 rcases h.2 with ⟨rfl,h0⟩|⟨g,cap,cu,rfl,hb,hg,hn,hm,hsz,ht⟩
 ·have:cur={ data:=#[] }:=by
   have hl:(B cur).length=0:=by rw [B_len];exact h0
   exact B_inj (List.eq_nil_of_length_eq_zero hl)
  subst this
  exact (by kernel_rfl:(convert 159 9 (.slice none 0 0)).run Tryz.prog w=.ok (.string { data:=#[] }) w)
 ·have hl:cur.data.toList.length=cur.size:=by rw [Array.length_toList];rfl
  have:=run_convert_bytes_back (P:=Tryz.prog) w 159 9 5 ⟨g,0,none⟩ cap cur.data.toList Tryz.underlying159 Tryz.underlying5 Tryz.underlying9 (fun j hj=>by
   exact h.cells (g:=g) rfl j _ (by unfold Lib.strCells;rw [List.getElem?_map,List.getElem?_eq_getElem hj];rfl))
  rw [hl] at this
  rw [this]
theorem own_form {w:World} {B:Nat} {e:TypeId} {v:Value} {n:Nat} {xs:List Value} (h:w.ownsRow B e 1 v n xs):∃A c,v=.slice A n c∧c≤maxLen:=by
 rcases h.2 with ⟨rfl,h0⟩|⟨g,cap,cu,rfl,hb,hg,hn,hm,hsz,ht⟩
 ·exact ⟨none,0,by rw [h0],Nat.zero_le _⟩
 ·exact ⟨_,cap,rfl,hm⟩
set_option maxHeartbeats 8000000 in
theorem q5text_any (A : Option Addr) (n c : Nat) (L : List (List Fd)) (w : World) (h : rdStzs w (lt_ w.heap.size) L [.slice A n c]) (hL : L.length ≤ 210) (hs : ∀ st ∈ L, st.length ≤ 45 ∧ ∀ f ∈ st, f.n.size ≤ 65536 ∧ f.v.size ≤ 65536) :
    Calls Tryz.prog 89 #[.slice A n c] w fun e w' => (∃ y : ByteArray, e = .returned (.string y) ∧ B y = txL L) ∧ Below w.heap.size w w' := by
  obtain ⟨rfl, hnc, hcm, _⟩ := rdStzs_at h
  have hcm' : c ≤ 9223372036854775807 := hcm
  obtain ⟨i0, hi, hz0, hz1, hz2⟩ := info_parts byteInfo
  have H := Lib.hid h
  have HS := Lib.hid hs
  have HL := Lib.hid hL
  obtain ⟨U, hU⟩ : ∃ U, U = 4400000000 := ⟨_, rfl⟩
  have HU := Lib.hid hU
  clear hU hL
  clear hcm h hs
  go_enter Tryz.func89, Tryz.ntmps89
  go_wp2
  go_loopw [3, 4] (fun v i wr => ∃ (k : Nat) (cur : ByteArray), k ≤ L.length ∧ i = .int .i64 k ∧ B cur = joinL [10] ((L.take k).map stT) ∧ (∃ cnt, cnt ≤ k * 46 ∧ cur.size ≤ cnt * U) ∧ wr.ownsRow w.heap.size 5 1 v cur.size (Lib.strCells cur) ∧ Below w.heap.size w wr) (fun _ i _ => L.length - (intOf i).toNat)
  case atStart => exact ⟨0, { data := #[] }, Nat.zero_le _, rfl, rfl, ⟨0, Nat.zero_le _, Nat.zero_le _⟩, World.ownsRow_nil _ _ _ _, Below.refl _ _⟩
  case round =>
    obtain ⟨k, cur, hk, rfl, hc1, hc2, hown, hbel⟩ := hrel
    obtain ⟨Av, cv, rfl, hcv⟩ := own_form hown
    have hcv' : cv ≤ 9223372036854775807 := hcv
    have HC := Lib.hid (And.intro hc1 hc2)
    have HB := Lib.hid hbel
    have HO := Lib.hid hown
    clear hc1 hc2 hcv
    by_cases hlt : k < L.length
    · obtain ⟨_, _, _, ha⟩ := rdStzs_at H.out
      obtain ⟨ad, A', c', rfl, had, x0w, hrd⟩ := ha k hlt
      have HX := Lib.hid (fun (W : World) (hb : Below w.heap.size w W) => (show W.cell? (ad.add k) = some (.slice A' L[k].length c') from (hb.cell (show (ad.add k).block < w.heap.size by rw [blk_add]; exact had)).trans x0w))
      have HRDW := Lib.hid hrd
      have hcm2' : c' ≤ 9223372036854775807 := (rdFds_at hrd).2.2.1
      have PN := Lib.hid (pt_next (L := L) hlt)
      have PSN := Lib.hid (fun j (hj : j < L[k].length) => stT_snoc L[k] j hj)
      have hst := HS.out L[k] (List.getElem_mem hlt)
      have HST := Lib.hid hst
      have hl45 := hst.1
      have i2 : (0 : Int) ≤ (k : Int) := by omega
      have i3 : (k : Int) < (L.length : Int) := by omega
      clear ha hrd x0w hst
      by_cases hk0 : 0 < k
      · have z1 : (0 : Int) < (k : Int) := by omega
        have PP := Lib.hid (pt_pos (L := L) hk0)
        have hb45 : cur.size + 1 ≤ 140737488355328 := by
          obtain ⟨cnt, h1, h2⟩ := HC.out.2
          have h3 : cnt * U ≤ 9661 * U := Nat.mul_le_mul_right _ (by have := HL.out; omega)
          have := HU.out
          omega
        go_wp2_with (at_builtin; refine wpList_append_own _ rfl _ _ 159 rfl w.heap.size 5 i0 (.int .u8 0) 1 1 Tryz.underlying159 hi hz0 hz1 hz2 rfl (by decide) _ _ _ rfl (hown.alloc _) ⟨wr.heap.size, 0, none⟩ 1 1 [.int .u8 10] rfl rfl ?c1 ?c2 ?c3 ?c4 ?c5 ?_)
        case c2 => rfl
        case c3 => unfold maxLen; omega
        case c5 => have := hbel.size; simp; omega
        intro v' w3 hown' hgrow _
        have C3 := Lib.hid (show ∃ cur3 : ByteArray, B cur3 = ptT L k ++ stT (L[k].take 0) ∧ (∃ cnt, cnt ≤ k * 46 + 1 ∧ cur3.size ≤ cnt * U) ∧ w3.ownsRow w.heap.size 5 1 v' cur3.size (Lib.strCells cur3) from ⟨cur ++ { data := #[10] }, by rw [B_append, HC.out.1, PP.out]; simp [stT]; rfl, by
          obtain ⟨cnt, h1, h2⟩ := HC.out.2
          refine ⟨cnt + 1, by omega, ?_⟩
          rw [ByteArray.size_append, Nat.succ_mul]
          have h3 := HU.out
          have h4 : ({ data := #[10] } : ByteArray).size = 1 := rfl
          omega, by
          rw [ByteArray.size_append, ← strCells_app]; exact hown'⟩)
        have HB3 := Lib.hid ((hbel.alloc hbel.size _).grown hgrow (by have := hbel.size; simp; omega) (fun k hk => (hown.lt k hk).1))
        clear hown hgrow hown' hbel hb45 hk0
        go_wp2
        go_loopw [3, 5] (fun v i wr => ∃ (j : Nat) (cur3 : ByteArray), j ≤ L[k].length ∧ i = .int .i64 j ∧ B cur3 = ptT L k ++ stT (L[k].take j) ∧ (∃ cnt, cnt ≤ k * 46 + 1 + j ∧ cur3.size ≤ cnt * U) ∧ wr.ownsRow w.heap.size 5 1 v cur3.size (Lib.strCells cur3) ∧ Below w.heap.size w wr) (fun _ i _ => L[k].length - (intOf i).toNat)
        case atStart =>
          obtain ⟨cur3, c1, c2, c3⟩ := C3.out
          exact ⟨0, cur3, Nat.zero_le _, rfl, c1, c2, c3, HB3.out⟩
        case round =>
          obtain ⟨j, cur3, hj, rfl, hd1, hd2, hown, hbel⟩ := hrel
          obtain ⟨Av3, cv3, rfl, hcv3⟩ := own_form hown
          have hcv3' : cv3 ≤ 9223372036854775807 := hcv3
          have HD := Lib.hid (And.intro hd1 hd2)
          have HBX := Lib.hid hbel
          have HOX := Lib.hid hown
          have x0 := HX.out _ hbel
          clear hd1 hd2 hcv3 hown
          by_cases hlj : j < L[k].length
          · obtain ⟨_, _, _, hb⟩ := rdFds_at (rdFds_good.below HRDW.out hbel)
            obtain ⟨ad3, hA3, had3, f0, f1⟩ := hb j hlj
            subst hA3
            have hfs := HST.out.2 L[k][j] (List.getElem_mem hlj)
            have PSJ := Lib.hid (PSN.out j hlj)
            have FT := Lib.hid (fun V => q5field_any L[k][j] V hfs.1 hfs.2)
            have j2 : (0 : Int) ≤ (j : Int) := by omega
            have j3 : (j : Int) < (L[k].length : Int) := by omega
            clear hfs hb had3 hbel
            go_wp2_with fail
            refine (FT.out _).mono ?_
            rintro e w5 ⟨⟨y, rfl, hy1, hy2⟩, hb5⟩
            have HY := Lib.hid (And.intro hy1 hy2)
            have BW5 := Lib.hid (HBX.out.trans (hb5.mono HBX.out.size))
            have hown5 := own_below HOX.out hb5
            have hsz : cur3.size + y.size ≤ 140737488355328 := by
              obtain ⟨cnt, h1, h2⟩ := HD.out.2
              have h3 : cnt * U ≤ 9661 * U := Nat.mul_le_mul_right _ (by have := HL.out; omega)
              have h4 := HU.out
              have h5 := HY.out.2
              omega
            have hsz2 : cur3.size + y.size ≤ maxLen := by unfold maxLen; omega
            have hbs5 := BW5.out.size
            clear hb5 hy1 hy2
            go_wp2_with (at_builtin; refine Lib.wpList_append_own_string _ rfl _ _ 159 9 rfl w.heap.size 5 i0 Tryz.underlying159 Tryz.underlying9 hi hz0 hz1 hz2 _ _ _ rfl hown5 y rfl hsz2 hsz hbs5 ?_)
            intro v6 w6 hown6 hgrow6 _
            have NX := Lib.hid (show ∃ cur4 : ByteArray, B cur4 = ptT L k ++ stT (L[k].take (j + 1)) ∧ (∃ cnt, cnt ≤ k * 46 + 1 + (j + 1) ∧ cur4.size ≤ cnt * U) ∧ w6.ownsRow w.heap.size 5 1 v6 cur4.size (Lib.strCells cur4) from ⟨cur3 ++ y, by rw [B_append, HD.out.1, PSJ.out, HY.out.1, List.append_assoc], by
              obtain ⟨cnt, h1, h2⟩ := HD.out.2
              refine ⟨cnt + 1, by omega, ?_⟩
              rw [ByteArray.size_append, Nat.succ_mul]
              have h3 := HU.out
              have h4 := HY.out.2
              omega, by rw [ByteArray.size_append, ← strCells_app]; exact hown6⟩)
            have HB6 := Lib.hid (BW5.out.grown hgrow6 (by have := hbs5; omega) (fun k hk => (hown5.lt k hk).1))
            clear hown5 hgrow6 hown6 hsz hsz2
            go_wp2
            go_roundw
            case rel =>
              obtain ⟨cur4, c1, c2, c3⟩ := NX.out
              exact ⟨j + 1, cur4, by omega, by go_num, c1, c2, c3, HB6.out⟩
            case measure => simp [intOf]; omega
          · obtain rfl : j = L[k].length := by omega
            have FIN := Lib.hid (show B cur3 = joinL [10] ((L.take (k + 1)).map stT) ∧ (∃ cnt, cnt ≤ (k + 1) * 46 ∧ cur3.size ≤ cnt * U) from ⟨by rw [HD.out.1, List.take_length, PN.out], by obtain ⟨cnt, h1, h2⟩ := HD.out.2; exact ⟨cnt, by have := HST.out.1; omega, h2⟩⟩)
            clear hbel
            go_wp2
            go_roundw
            case rel => exact ⟨k + 1, cur3, by omega, by go_num, FIN.out.1, FIN.out.2, HOX.out, HBX.out⟩
            case measure => simp [intOf]; omega
      · have z1 : ¬ (0 : Int) < (k : Int) := by omega
        have PP := Lib.hid (show ptT L k = [] ∧ joinL [10] ((L.take k).map stT) = [] by obtain rfl : k = 0 := by omega
                                                                                        exact ⟨rfl, rfl⟩)
        obtain ⟨v', hv'⟩ : ∃ v', v' = Value.slice Av cur.size cv := ⟨_, rfl⟩
        have C3 := Lib.hid (show ∃ cur3 : ByteArray, B cur3 = ptT L k ++ stT (L[k].take 0) ∧ (∃ cnt, cnt ≤ k * 46 + 1 ∧ cur3.size ≤ cnt * U) ∧ wr.ownsRow w.heap.size 5 1 (Value.slice Av cur.size cv) cur3.size (Lib.strCells cur3) from ⟨cur, by rw [HC.out.1, PP.out.1, PP.out.2]; rfl, by obtain ⟨cnt, h1, h2⟩ := HC.out.2; exact ⟨cnt, by omega, h2⟩, HO.out⟩)
        have HB3 := Lib.hid HB.out
        clear hown hbel hv'
        go_wp2
        go_loopw [3, 5] (fun v i wr => ∃ (j : Nat) (cur3 : ByteArray), j ≤ L[k].length ∧ i = .int .i64 j ∧ B cur3 = ptT L k ++ stT (L[k].take j) ∧ (∃ cnt, cnt ≤ k * 46 + 1 + j ∧ cur3.size ≤ cnt * U) ∧ wr.ownsRow w.heap.size 5 1 v cur3.size (Lib.strCells cur3) ∧ Below w.heap.size w wr) (fun _ i _ => L[k].length - (intOf i).toNat)
        case atStart =>
          obtain ⟨cur3, c1, c2, c3⟩ := C3.out
          exact ⟨0, cur3, Nat.zero_le _, rfl, c1, c2, c3, HB3.out⟩
        case round =>
          obtain ⟨j, cur3, hj, rfl, hd1, hd2, hown, hbel⟩ := hrel
          obtain ⟨Av3, cv3, rfl, hcv3⟩ := own_form hown
          have hcv3' : cv3 ≤ 9223372036854775807 := hcv3
          have HD := Lib.hid (And.intro hd1 hd2)
          have HBX := Lib.hid hbel
          have HOX := Lib.hid hown
          have x0 := HX.out _ hbel
          clear hd1 hd2 hcv3 hown
          by_cases hlj : j < L[k].length
          · obtain ⟨_, _, _, hb⟩ := rdFds_at (rdFds_good.below HRDW.out hbel)
            obtain ⟨ad3, hA3, had3, f0, f1⟩ := hb j hlj
            subst hA3
            have hfs := HST.out.2 L[k][j] (List.getElem_mem hlj)
            have PSJ := Lib.hid (PSN.out j hlj)
            have FT := Lib.hid (fun V => q5field_any L[k][j] V hfs.1 hfs.2)
            have j2 : (0 : Int) ≤ (j : Int) := by omega
            have j3 : (j : Int) < (L[k].length : Int) := by omega
            clear hfs hb had3 hbel
            go_wp2_with fail
            refine (FT.out _).mono ?_
            rintro e w5 ⟨⟨y, rfl, hy1, hy2⟩, hb5⟩
            have HY := Lib.hid (And.intro hy1 hy2)
            have BW5 := Lib.hid (HBX.out.trans (hb5.mono HBX.out.size))
            have hown5 := own_below HOX.out hb5
            have hsz : cur3.size + y.size ≤ 140737488355328 := by
              obtain ⟨cnt, h1, h2⟩ := HD.out.2
              have h3 : cnt * U ≤ 9661 * U := Nat.mul_le_mul_right _ (by have := HL.out; omega)
              have h4 := HU.out
              have h5 := HY.out.2
              omega
            have hsz2 : cur3.size + y.size ≤ maxLen := by unfold maxLen; omega
            have hbs5 := BW5.out.size
            clear hb5 hy1 hy2
            go_wp2_with (at_builtin; refine Lib.wpList_append_own_string _ rfl _ _ 159 9 rfl w.heap.size 5 i0 Tryz.underlying159 Tryz.underlying9 hi hz0 hz1 hz2 _ _ _ rfl hown5 y rfl hsz2 hsz hbs5 ?_)
            intro v6 w6 hown6 hgrow6 _
            have NX := Lib.hid (show ∃ cur4 : ByteArray, B cur4 = ptT L k ++ stT (L[k].take (j + 1)) ∧ (∃ cnt, cnt ≤ k * 46 + 1 + (j + 1) ∧ cur4.size ≤ cnt * U) ∧ w6.ownsRow w.heap.size 5 1 v6 cur4.size (Lib.strCells cur4) from ⟨cur3 ++ y, by rw [B_append, HD.out.1, PSJ.out, HY.out.1, List.append_assoc], by
              obtain ⟨cnt, h1, h2⟩ := HD.out.2
              refine ⟨cnt + 1, by omega, ?_⟩
              rw [ByteArray.size_append, Nat.succ_mul]
              have h3 := HU.out
              have h4 := HY.out.2
              omega, by rw [ByteArray.size_append, ← strCells_app]; exact hown6⟩)
            have HB6 := Lib.hid (BW5.out.grown hgrow6 (by have := hbs5; omega) (fun k hk => (hown5.lt k hk).1))
            clear hown5 hgrow6 hown6 hsz hsz2
            go_wp2
            go_roundw
            case rel =>
              obtain ⟨cur4, c1, c2, c3⟩ := NX.out
              exact ⟨j + 1, cur4, by omega, by go_num, c1, c2, c3, HB6.out⟩
            case measure => simp [intOf]; omega
          · obtain rfl : j = L[k].length := by omega
            have FIN := Lib.hid (show B cur3 = joinL [10] ((L.take (k + 1)).map stT) ∧ (∃ cnt, cnt ≤ (k + 1) * 46 ∧ cur3.size ≤ cnt * U) from ⟨by rw [HD.out.1, List.take_length, PN.out], by obtain ⟨cnt, h1, h2⟩ := HD.out.2; exact ⟨cnt, by have := HST.out.1; omega, h2⟩⟩)
            clear hbel
            go_wp2
            go_roundw
            case rel => exact ⟨k + 1, cur3, by omega, by go_num, FIN.out.1, FIN.out.2, HOX.out, HBX.out⟩
            case measure => simp [intOf]; omega
    · obtain rfl : k = L.length := by omega
      have FIN := Lib.hid (show B cur = txL L by have := HC.out.1; rwa [List.take_length] at this)
      have SR := str_of_row hown
      clear hown hbel
      go_wp2
      go_ret
      exact ⟨⟨cur, rfl, FIN.out⟩, HB.out⟩
def Sml (L:List (List Fd)):Prop:=L.length≤210∧∀st ∈ L,st.length≤45∧∀f ∈ st,f.n.size≤65536∧f.v.size≤60000
theorem okR_stz {L:List (List Fd)} {k:Nat} (hk:k < L.length) (h:stzR L[k]=false):okR L=false:=by
 have:L.all stzR=false:=by rw [List.all_eq_false];exact ⟨L[k],List.getElem_mem hk,by rw [h];decide⟩
 unfold okR;rw [this];rfl
set_option maxHeartbeats 4000000 in
theorem q5right_any (A:Option Addr) (n c:Nat) (L:List (List Fd)) (w:World) (h:rdStzs w (lt_ w.heap.size) L [.slice A n c]) (hS:Sml L) :
  Calls Tryz.prog 88 #[.slice A n c] w fun e w'=>e=.returned (.bool (okR L))∧Below w.heap.size w w':=by
 obtain ⟨rfl,hnc,hcm,_⟩:=rdStzs_at h
 have hcm':c≤9223372036854775807:=hcm
 have H:=Lib.hid h
 have HS:=Lib.hid hS
 have KT:=Lib.hid (fun (W:World) (hb:Below w.heap.size w W)=>q5text_any A L.length c L W (rdStzs_good.up (rdStzs_good.below h hb) hb.size) hS.1 (fun st hst=>⟨(hS.2 st hst).1,fun f hf=>⟨((hS.2 st hst).2 f hf).1,by have:=((hS.2 st hst).2 f hf).2;omega⟩⟩))
 have OK:=Lib.hid (show okR L=(L.all stzR&&(decide (L.length≤200)&&decide ((txL L).length≤60000))) from rfl)
 clear hcm h hS
 go_enter Tryz.func88,Tryz.ntmps88
 go_wp2
 go_loopw [3] (fun i wr=>∃k:Nat,k≤L.length∧i=.int .i64 k∧(L.take k).all stzR=true∧Below w.heap.size w wr) (fun i _=>L.length - (intOf i).toNat)
 case atStart=>exact ⟨0,Nat.zero_le _,rfl,rfl,Below.refl _ _⟩
 case round=>
  obtain ⟨k,hk,rfl,hall,hbel⟩:=hrel
  have HA:=Lib.hid hall
  have HB:=Lib.hid hbel
  clear hall
  by_cases hlt:k < L.length
  ·obtain ⟨_,_,_,ha⟩:=rdStzs_at (rdStzs_good.below H.out hbel)
   obtain ⟨ad,A',c',rfl,had,x0,hrd⟩:=ha k hlt
   have KS:=Lib.hid (q5stanza_any A' L[k].length c' L[k] wr (rdFds_good.up hrd hbel.size) (fun f hf=>⟨by have:=((HS.out.2 _ (List.getElem_mem hlt)).2 f hf).1;unfold maxLen;omega,by have:=((HS.out.2 _ (List.getElem_mem hlt)).2 f hf).2;omega⟩))
   have AS:=Lib.hid (all_snoc stzR L k hlt)
   have SZ:=Lib.hid (fun h=>okR_stz (L:=L) hlt h)
   have i0:(0:Int)≤(k:Int):=by omega
   have i1:(k:Int) < (L.length:Int):=by omega
   clear ha hrd hbel
   cases hst:stzR L[k]
   ·have X:=Lib.hid (SZ.out hst)
    rw [hst] at KS
    clear hst
    go_wp2_with fail
    refine KS.out.mono ?_
    rintro e w2 ⟨rfl,hb2⟩
    have HB2:=Lib.hid (HB.out.trans (hb2.mono HB.out.size))
    clear hb2
    go_wp2
    go_ret
    exact ⟨by rw [X.out];try rfl,HB2.out⟩
   ·rw [hst] at KS
    have HST:=Lib.hid hst
    clear hst
    go_wp2_with fail
    refine KS.out.mono ?_
    rintro e w2 ⟨rfl,hb2⟩
    have HB2:=Lib.hid (HB.out.trans (hb2.mono HB.out.size))
    clear hb2
    go_wp2
    go_roundw
    case rel=>exact ⟨k+1,by omega,by go_num,by rw [AS.out,HA.out,HST.out];rfl,HB2.out⟩
    case measure=>simp [intOf];omega
  ·obtain rfl:k=L.length:=by omega
   have X:=Lib.hid (show okR L=(decide (L.length≤200)&&decide ((txL L).length≤60000)) by
    have h1:=HA.out
    rw [List.take_length] at h1
    rw [OK.out,h1];rfl)
   clear hbel
   by_cases h200:L.length≤200
   ·have z0:(L.length:Int)≤200:=by omega
    have X2:=Lib.hid (show okR L=decide ((txL L).length≤60000) by rw [X.out,decide_eq_true h200];rfl)
    clear h200
    go_wp2_with fail
    refine (KT.out _ HB.out).mono ?_
    rintro e w2 ⟨⟨y,rfl,hy⟩,hb2⟩
    have HB2:=Lib.hid (HB.out.trans (hb2.mono HB.out.size))
    have HY:=Lib.hid (show y.size=(txL L).length by rw [←hy,B_len])
    clear hb2 hy
    by_cases h6:y.size≤60000
    ·have z1:(y.size:Int)≤60000:=by omega
     have X3:=Lib.hid (show okR L=true by rw [X2.out,←HY.out];exact decide_eq_true h6)
     clear h6
     go_wp2
     go_ret
     exact ⟨by rw [X3.out];try rfl,HB2.out⟩
    ·have z1:¬(y.size:Int)≤60000:=by omega
     have X3:=Lib.hid (show okR L=false by rw [X2.out,←HY.out];exact decide_eq_false h6)
     clear h6
     go_wp2
     go_ret
     have z2:decide ((y.size:Int)≤60000)=false:=decide_eq_false (by omega)
     exact ⟨by rw [X3.out];first|rfl|(show Ending.returned (.bool (decide ((y.size:Int)≤60000)))=_;rw [z2]),HB2.out⟩
   ·have z0:¬(L.length:Int)≤200:=by omega
    have X3:=Lib.hid (show okR L=false by rw [X.out,decide_eq_false h200];rfl)
    clear h200
    go_wp2
    go_ret
    exact ⟨by rw [X3.out];try rfl,HB.out⟩
theorem q5print_any (A:Option Addr) (n c:Nat) (L:List (List Fd)) (w:World) (h:rdStzs w (lt_ w.heap.size) L [.slice A n c]) (hS:Sml L) :
  Calls Tryz.prog 47 #[.slice A n c] w fun e w'=>e=.returned (.string (if okR L=true then mk (txL L) else { data:=#[] }))∧Below w.heap.size w w':=by
 have KR:=Lib.hid (q5right_any A n c L w h hS)
 have KT:=Lib.hid (fun (W:World) (hb:Below w.heap.size w W)=>q5text_any A n c L W (rdStzs_good.up (rdStzs_good.below h hb) hb.size) hS.1 (fun st hst=>⟨(hS.2 st hst).1,fun f hf=>⟨((hS.2 st hst).2 f hf).1,by have:=((hS.2 st hst).2 f hf).2;omega⟩⟩))
 clear h hS
 cases hok:okR L
 ·rw [hok] at KR
  go_enter Tryz.func47,Tryz.ntmps47
  go_wp2_with fail
  refine KR.out.mono ?_
  rintro e w2 ⟨rfl,hb2⟩
  go_wp2
  go_ret
  exact ⟨rfl,hb2⟩
 ·rw [hok] at KR
  go_enter Tryz.func47,Tryz.ntmps47
  go_wp2_with fail
  refine KR.out.mono ?_
  rintro e w2 ⟨rfl,hb2⟩
  have HB:=Lib.hid hb2
  clear hb2
  go_wp2_with fail
  refine (KT.out _ HB.out).mono ?_
  rintro e w3 ⟨⟨y,rfl,hy⟩,hb3⟩
  have HB3:=Lib.hid (HB.out.trans (hb3.mono HB.out.size))
  have HY:=Lib.hid (eq_mk hy)
  clear hb3 hy
  go_wp2
  go_ret
  exact ⟨by first|(rw [if_pos rfl,←HY.out];done)|(rw [←HY.out];done)|(rw [←HY.out];rfl)|(rw [if_pos rfl,←HY.out];rfl),HB3.out⟩
theorem wrE_len6 (x:Ent):(wrE x).length≤6:=by
 unfold wrE
 split
 ·exact (wr_len x).2.2.2.2
 ·exact Nat.zero_le _
def prD (L:List (List Fd)):ByteArray:=if okR L=true then mk (txL L) else { data:=#[] }
theorem mk_app (a b:List Nat):mk a++mk b=mk (a++b):=by
 unfold mk
 rw [List.map_append]
 apply ByteArray.ext
 simp
theorem q3print_atom (x:Atm) (w:World) (h:rgt x=true):Calls Tryz.prog 147 #[.agg #[.string x.n,.int .i64 x.o,.string x.v]] w fun e' w'=>e'=.returned (.string (mk (txt x)))∧Below w.heap.size w w':=by
 have hn:x.n.size≤65536:=by
  unfold rgt rightA at h
  simp only [Bool.and_eq_true] at h
  have:=(name_len h.1).2
  rw [B_len] at this;omega
 have:=q3print_any x.n x.o x.v w hn
 unfold printA at this
 rw [if_pos (show rightA (B x.n) x.o (B x.v)=true from h)] at this
 exact this
theorem add_mk (a:List Nat) (y:ByteArray) (b:List Nat) (hy:y=mk b) (ha:a.length≤1000000) (hb:b.length≤1000000):∀w,(Op.stringOp .add (mk a) y).run Tryz.prog w=.ok (.string (mk (a++b))) w:=by
 intro w
 subst hy
 rw [←mk_app]
 exact run_string_add_sum w (mk a) (mk b) (by rw [size_mk,size_mk];omega)
theorem lit_comma:({ data:=#[44,32] }:ByteArray)=mk [44,32]:=rfl
theorem lit_bar:({ data:=#[32,124,32] }:ByteArray)=mk [32,124,32]:=rfl
def pfx (sep:List Nat) (k:Nat) (l:List (List Nat)):List Nat:=if k=0 then [] else joinL sep l++sep
theorem joinL_take {α:Type} (sep:List Nat) (f:α→List Nat) (l:List α) (k:Nat) (hk:k < l.length):joinL sep ((l.take (k+1)).map f)=pfx sep k ((l.take k).map f)++f l[k]:=by
 rw [take_snoc f l k hk,joinL_snoc]
 unfold pfx
 by_cases h0:k=0
 ·subst h0;simp
 ·have hne:(l.take k).map f≠[]:=by
   intro h
   have:=congrArg List.length h
   rw [List.length_map,List.length_take,List.length_nil] at this
   omega
  rw [if_neg hne,if_neg h0];simp
theorem joinL_short {α:Type} (sep:List Nat) (f:α→List Nat) (l:List α) (M N:Nat) (h:∀a ∈ l,(f a).length≤M) (hl:l.length≤N) (k:Nat):(joinL sep ((l.take k).map f)).length≤N*(M+sep.length):=by
 have:=joinL_len (sep:=sep) (l:=(l.take k).map f) (M:=M) (fun t ht=>by obtain ⟨a,ha,rfl⟩:=List.mem_map.1 ht;exact h a (List.mem_of_mem_take ha))
 refine Nat.le_trans this (Nat.mul_le_mul_right _ ?_)
 rw [List.length_map,List.length_take];omega
set_option maxHeartbeats 4000000 in
theorem q4print_any (A:Option Addr) (n c:Nat) (L:List (List Atm)) (w:World) (h:rdGrps w (lt_ w.heap.size) L [.slice A n c]) (hz:∀g ∈ L,∀a ∈ g,a.n.size≤65536) :
  Calls Tryz.prog 86 #[.slice A n c] w fun e w'=>e=.returned (.string (mk (prtG L)))∧Below w.heap.size w w':=by
 have KR:=Lib.hid (q4right_any A n c L w h hz)
 obtain ⟨rfl,hnc,hcm,_⟩:=rdGrps_at h
 have hcm1:c≤9223372036854775807:=hcm
 have HR:=Lib.hid h
 clear h hz
 cases hr:rightG L
 ·have X:=Lib.hid (show prtG L=[] by unfold prtG;rw [hr];rfl)
  rw [hr] at KR
  clear hr
  go_enter Tryz.func86,Tryz.ntmps86
  go_wp2_with fail
  refine KR.out.mono ?_
  rintro e w3 ⟨rfl,hb3⟩
  go_wp2
  go_ret
  exact ⟨by rw [X.out];rfl,hb3⟩
 have X:=Lib.hid (show prtG L=joinL [44,32] (L.map grpS) by unfold prtG;rw [hr];rfl)
 have hp:=right_parts hr
 have HP:=Lib.hid hp.1
 have HJ:=Lib.hid (joinL_short [44,32] grpS L 678 12 (fun g hg=>grpS_len (hp.1 g hg).1 (hp.1 g hg).2) hp.2)
 rw [hr] at KR
 clear hr hp
 go_enter Tryz.func86,Tryz.ntmps86
 go_wp2_with fail
 refine KR.out.mono ?_
 rintro e w1 ⟨rfl,hb1⟩
 have HB1:=Lib.hid hb1
 clear hb1 KR
 go_wp2
 go_loopw [4,5,6] (fun sv i j wr=>∃k:Nat,k≤L.length∧i=.int .i64 k∧sv=.string (mk (joinL [44,32] ((L.take k).map grpS)))∧Below w.heap.size w wr) (fun _ i _ _=>L.length - (intOf i).toNat)
 case atStart=>exact ⟨0,Nat.zero_le _,rfl,rfl,HB1.out⟩
 case round=>
  obtain ⟨k,hk,rfl,rfl,hbel⟩:=hrel
  by_cases hlt:k < L.length
  ·have TJ:=Lib.hid (joinL_take [44,32] grpS L k hlt)
   have hcell:=(rdGrps_at (rdGrps_good.below HR.out hbel)).2.2.2 k hlt
   obtain ⟨ad,A',c',rfl,had,h0,h1⟩:=hcell
   have hg:=HP.out L[k] (List.getElem_mem hlt)
   have HGL:=Lib.hid (show joinL [32,124,32] (L[k].map txt)=grpS L[k] from rfl)
   have HB:=Lib.hid hbel
   have HC2:=Lib.hid (show ∀W,Below w.heap.size w W→W.cell? (ad.add k)=some (.slice A' L[k].length c')∧rdAtms W (lt_ w.heap.size) L[k] [.slice A' L[k].length c'] from fun W hW=>by
    refine ⟨?_,?_⟩
    ·rw [World.cell?_of_block (w:=wr) (by rw [blk_add];rw [hW.block _ had,hbel.block _ had])];exact h0
    ·exact rdAtms_good.keep h1 fun b hb=>by rw [hW.block _ hb,hbel.block _ hb])
   have hc':c'≤9223372036854775807:=(rdAtms_at h1).2.2.1
   have hl1:=HJ.out k
   have hpl:(pfx [44,32] k ((L.take k).map grpS)).length≤8162:=by
    unfold pfx
    split
    ·simp
    ·rw [List.length_append];simp only [List.length_cons,List.length_nil] at hl1 ⊢;omega
   have eA:=add_mk (joinL [44,32] ((L.take k).map grpS)) { data:=#[44,32] } [44,32] lit_comma (by simp only [List.length_cons,List.length_nil] at hl1;omega) (by decide)
   have HS:=Lib.hid (joinL_short [32,124,32] txt L[k] 110 6 (fun a ha=>txt_len (hg.1 a ha)) hg.2)
   have HG:=Lib.hid hg.1
   have hgl:=hg.2
   have E0:=Lib.hid (show k=0→joinL [44,32] ((L.take k).map grpS)=pfx [44,32] k ((L.take k).map grpS) from fun h=>by subst h;rfl)
   have E1:=Lib.hid (show ¬k=0→joinL [44,32] ((L.take k).map grpS)++[44,32]=pfx [44,32] k ((L.take k).map grpS) from fun h=>by unfold pfx;rw [if_neg h])
   clear h1 hg hbel hl1
   generalize L[k]=g at *
   generalize joinL [44,32] ((L.take k).map grpS)=J at *
   generalize pfx [44,32] k ((L.take k).map grpS)=pf at *
   by_cases k0:k=0
   ·have EE:=Lib.hid (E0.out k0)
    have hk0:¬(0:Int) < k:=by omega
    clear k0 eA
    go_wp2
    go_loopw [4,6] (fun sv j wr=>∃q:Nat,q≤g.length∧j=.int .i64 q∧sv=.string (mk (pf++joinL [32,124,32] ((g.take q).map txt)))∧Below w.heap.size w wr) (fun _ j _=>g.length - (intOf j).toNat)
    case atStart=>exact ⟨0,Nat.zero_le _,rfl,(by rw [EE.out];simp [joinL]),HB.out⟩
    case round=>
     obtain ⟨q,hq,rfl,rfl,hbel2⟩:=hrel
     obtain ⟨c0,r0⟩:=HC2.out _ hbel2
     have H2:=Lib.hid hbel2
     clear h0 hbel2
     by_cases hlt2:q < g.length
     ·obtain ⟨ad2,rfl,had2,m0,m1,m2⟩:=(rdAtms_at r0).2.2.2 q hlt2
      have T2:=Lib.hid (joinL_take [32,124,32] txt g q hlt2)
      have hrx:=HG.out g[q] (List.getElem_mem hlt2)
      have K:=Lib.hid (fun w=>q3print_atom g[q] w hrx)
      have hlx:=txt_len hrx
      have hl2:=HS.out q
      have Z0:=Lib.hid (show q=0→joinL [32,124,32] ((g.take q).map txt)=pfx [32,124,32] q ((g.take q).map txt) from fun h=>by subst h;rfl)
      have Z1:=Lib.hid (show ¬q=0→joinL [32,124,32] ((g.take q).map txt)++[32,124,32]=pfx [32,124,32] q ((g.take q).map txt) from fun h=>by unfold pfx;rw [if_neg h])
      simp only [List.length_cons,List.length_nil] at hl2
      clear r0 hrx
      generalize g[q]=x at *
      generalize joinL [32,124,32] ((g.take q).map txt)=IJ at *
      generalize txt x=tx at *
      have e1:=add_mk (pf++IJ) { data:=#[32,124,32] } [32,124,32] lit_bar (by rw [List.length_append];omega) (by decide)
      have e2:=add_mk (pf++IJ) (mk tx) tx rfl (by rw [List.length_append];omega) (by omega)
      have e3:=add_mk ((pf++IJ)++[32,124,32]) (mk tx) tx rfl (by simp only [List.length_append,List.length_cons,List.length_nil];omega) (by omega)
      by_cases q0:q=0
      ·have Y:=Lib.hid (show (pf++IJ)++tx=pf++joinL [32,124,32] ((g.take (q+1)).map txt) by rw [T2.out,←Z0.out q0,List.append_assoc])
       have hq0:¬(0:Int) < q:=by omega
       generalize (pf++IJ)++tx=R at *
       generalize pf++IJ=bq at *
       generalize mk tx=sx at *
       clear q0 e1 e3
       go_wp2_with fail
       refine (K.out _).mono ?_
       rintro e w3 ⟨rfl,hb3⟩
       have HB3:=Lib.hid (bel2 H2.out hb3 (Nat.le_refl _))
       clear hb3
       go_wp2
       go_roundw
       case rel=>exact ⟨q+1,by omega,by go_num,by rw [←Y.out],HB3.out⟩
       case measure=>simp [intOf];omega
      ·have Y:=Lib.hid (show ((pf++IJ)++[32,124,32])++tx=pf++joinL [32,124,32] ((g.take (q+1)).map txt) by rw [T2.out,←Z1.out q0];simp)
       have hq0:(0:Int) < q:=by omega
       generalize ((pf++IJ)++[32,124,32])++tx=R at *
       generalize (pf++IJ)++[32,124,32]=bq2 at *
       generalize pf++IJ=bq at *
       generalize mk tx=sx at *
       clear q0 e2
       go_wp2_with fail
       refine (K.out _).mono ?_
       rintro e w3 ⟨rfl,hb3⟩
       have HB3:=Lib.hid (bel2 H2.out hb3 (Nat.le_refl _))
       clear hb3
       go_wp2
       go_roundw
       case rel=>exact ⟨q+1,by omega,by go_num,by rw [←Y.out],HB3.out⟩
       case measure=>simp [intOf];omega
     ·obtain rfl:q=g.length:=by omega
      have Y:=Lib.hid (show pf++joinL [32,124,32] ((g.take g.length).map txt)=joinL [44,32] ((L.take (k+1)).map grpS) by rw [List.take_length,TJ.out,HGL.out])
      clear r0
      generalize pf++joinL [32,124,32] ((g.take g.length).map txt)=R at *
      go_wp2
      go_roundw
      case rel=>exact ⟨k+1,by omega,by go_num,by rw [←Y.out],H2.out⟩
      case measure=>simp [intOf];omega
   ·have EE:=Lib.hid (E1.out k0)
    have hk0:(0:Int) < k:=by omega
    have hk0n:0 < k:=by omega
    have hd0:decide (0 < k)=true:=decide_eq_true hk0n
    clear k0
    generalize J++[44,32]=JS at *
    go_wp2
    clear eA
    go_loopw [4,6] (fun sv j wr=>∃q:Nat,q≤g.length∧j=.int .i64 q∧sv=.string (mk (pf++joinL [32,124,32] ((g.take q).map txt)))∧Below w.heap.size w wr) (fun _ j _=>g.length - (intOf j).toNat)
    case atStart=>exact ⟨0,Nat.zero_le _,rfl,by rw [EE.out];simp [joinL],HB.out⟩
    case round=>
     obtain ⟨q,hq,rfl,rfl,hbel2⟩:=hrel
     obtain ⟨c0,r0⟩:=HC2.out _ hbel2
     have H2:=Lib.hid hbel2
     clear h0 hbel2
     by_cases hlt2:q < g.length
     ·obtain ⟨ad2,rfl,had2,m0,m1,m2⟩:=(rdAtms_at r0).2.2.2 q hlt2
      have T2:=Lib.hid (joinL_take [32,124,32] txt g q hlt2)
      have hrx:=HG.out g[q] (List.getElem_mem hlt2)
      have K:=Lib.hid (fun w=>q3print_atom g[q] w hrx)
      have hlx:=txt_len hrx
      have hl2:=HS.out q
      have Z0:=Lib.hid (show q=0→joinL [32,124,32] ((g.take q).map txt)=pfx [32,124,32] q ((g.take q).map txt) from fun h=>by subst h;rfl)
      have Z1:=Lib.hid (show ¬q=0→joinL [32,124,32] ((g.take q).map txt)++[32,124,32]=pfx [32,124,32] q ((g.take q).map txt) from fun h=>by unfold pfx;rw [if_neg h])
      simp only [List.length_cons,List.length_nil] at hl2
      clear r0 hrx
      generalize g[q]=x at *
      generalize joinL [32,124,32] ((g.take q).map txt)=IJ at *
      generalize txt x=tx at *
      have e1:=add_mk (pf++IJ) { data:=#[32,124,32] } [32,124,32] lit_bar (by rw [List.length_append];omega) (by decide)
      have e2:=add_mk (pf++IJ) (mk tx) tx rfl (by rw [List.length_append];omega) (by omega)
      have e3:=add_mk ((pf++IJ)++[32,124,32]) (mk tx) tx rfl (by simp only [List.length_append,List.length_cons,List.length_nil];omega) (by omega)
      by_cases q0:q=0
      ·have Y:=Lib.hid (show (pf++IJ)++tx=pf++joinL [32,124,32] ((g.take (q+1)).map txt) by rw [T2.out,←Z0.out q0,List.append_assoc])
       have hq0:¬(0:Int) < q:=by omega
       generalize (pf++IJ)++tx=R at *
       generalize pf++IJ=bq at *
       generalize mk tx=sx at *
       clear q0 e1 e3
       go_wp2_with fail
       refine (K.out _).mono ?_
       rintro e w3 ⟨rfl,hb3⟩
       have HB3:=Lib.hid (bel2 H2.out hb3 (Nat.le_refl _))
       clear hb3
       go_wp2
       go_roundw
       case rel=>exact ⟨q+1,by omega,by go_num,by rw [←Y.out],HB3.out⟩
       case measure=>simp [intOf];omega
      ·have Y:=Lib.hid (show ((pf++IJ)++[32,124,32])++tx=pf++joinL [32,124,32] ((g.take (q+1)).map txt) by rw [T2.out,←Z1.out q0];simp)
       have hq0:(0:Int) < q:=by omega
       generalize ((pf++IJ)++[32,124,32])++tx=R at *
       generalize (pf++IJ)++[32,124,32]=bq2 at *
       generalize pf++IJ=bq at *
       generalize mk tx=sx at *
       clear q0 e2
       go_wp2_with fail
       refine (K.out _).mono ?_
       rintro e w3 ⟨rfl,hb3⟩
       have HB3:=Lib.hid (bel2 H2.out hb3 (Nat.le_refl _))
       clear hb3
       go_wp2
       go_roundw
       case rel=>exact ⟨q+1,by omega,by go_num,by rw [←Y.out],HB3.out⟩
       case measure=>simp [intOf];omega
     ·obtain rfl:q=g.length:=by omega
      have Y:=Lib.hid (show pf++joinL [32,124,32] ((g.take g.length).map txt)=joinL [44,32] ((L.take (k+1)).map grpS) by rw [List.take_length,TJ.out,HGL.out])
      clear r0
      generalize pf++joinL [32,124,32] ((g.take g.length).map txt)=R at *
      go_wp2
      go_roundw
      case rel=>exact ⟨k+1,by omega,by go_num,by rw [←Y.out],H2.out⟩
      case measure=>simp [intOf];omega
  ·obtain rfl:k=L.length:=by omega
   rw [List.take_length]
   go_wp2
   go_ret
   exact ⟨by rw [X.out];try rfl,hbel⟩
set_option maxHeartbeats 2000000 in
theorem q4join_any (A:Option Addr) (n c:Nat) (l:List Atm) (w:World) (h:rdAtms w (lt_ w.heap.size) l [.slice A n c]) (hl:l.length≤1000) (hz:∀a ∈ l,a.n.size≤65536) :
  Calls Tryz.prog 87 #[.slice A n c] w fun e w'=>e=.returned (.string (mk (prtG (l.map fun a=>[a]))))∧Below w.heap.size w w':=by
 obtain ⟨i0,hi,hz0,hz1,hz2⟩:=info_parts grp_info
 obtain ⟨rfl,hnc,hcm,_⟩:=rdAtms_at h
 have hcm':c≤9223372036854775807:=hcm
 have HR:=Lib.hid h
 have HZ:=Lib.hid (show ∀g ∈ (l.map fun a=>[a]),∀a ∈ g,a.n.size≤65536 from fun g hg a ha=>by
  obtain ⟨b,hb,rfl⟩:=List.mem_map.1 hg
  rw [List.mem_singleton.1 ha];exact hz b hb)
 clear h hz
 go_enter Tryz.func87,Tryz.ntmps87
 go_wp2
 go_loopw [3,4] (fun v i wr=>∃k:Nat,k≤l.length∧i=.int .i64 k∧Grow rdAtms 1 (fun _=>True) wr w.heap.size 71 v ((l.take k).map fun a=>[a])∧Below w.heap.size w wr) (fun _ i _=>l.length - (intOf i).toNat)
 case atStart=>exact ⟨0,Nat.zero_le _,rfl,Grow.nil _ _ _ _,Below.refl _ _⟩
 case round=>
  obtain ⟨k,hk,rfl,hG,hbel⟩:=hrel
  by_cases hlt:k < l.length
  ·obtain ⟨ad,rfl,had,e0,e1,e2⟩:=(rdAtms_at (rdAtms_good.below HR.out hbel)).2.2.2 k hlt
   have TS:=Lib.hid (take_snoc (fun a=>[a]) l k hlt)
   have HB:=Lib.hid hbel
   have hl2:=single_len l k hk
   have hbs:=hbel.size
   generalize l[k]=x at *
   have hG2:=hG.alloc rdAtms_good (.cells #[.string x.n,.int .i64 x.o,.string x.v] 109)
   have hE:=(show rdAtms (wr.alloc (.cells #[.string x.n,.int .i64 x.o,.string x.v] 109)) (fun b=>True∧b < (wr.alloc (.cells #[.string x.n,.int .i64 x.o,.string x.v] 109)).heap.size∧u3.ownBlock≠some b) [x] (#[.slice (some ⟨wr.heap.size,0,none⟩) 1 1]:Array Value).toList from by
    have:=rd_single wr x 109 (fun b=>b=wr.heap.size) rfl
    refine rdAtms_good.more this fun b hb=>⟨trivial,by rw [World.size_alloc,hb];omega,fun hh=>by have:=(hG.lt b hh).2;omega⟩)
   have hN:=Lib.hid (show wr.heap.size+1=(wr.alloc (.cells #[.string x.n,.int .i64 x.o,.string x.v] 109)).heap.size by rw [World.size_alloc])
   have HB2:=Lib.hid (hbel.alloc hbs (.cells #[.string x.n,.int .i64 x.o,.string x.v] 109))
   have hn1:((l.take k).map fun a=>[a]).length+1≤maxLen:=by rw [hl2];unfold maxLen;omega
   have hn2:(((l.take k).map fun a=>[a]).length+1)*24≤140737488355328:=by rw [hl2];omega
   have hbs2:w.heap.size≤(wr.alloc (.cells #[.string x.n,.int .i64 x.o,.string x.v] 109)).heap.size:=by rw [World.size_alloc];omega
   clear hG hbel hl2
   go_wp2_with (at_builtin;refine wpList_grow1 (wr.alloc (.cells #[.string x.n,.int .i64 x.o,.string x.v] 109)) rfl _ _ 31 rfl rdAtms_good (by decide) (fun _=>True) w.heap.size 71 i0 _ 24 Tryz.underlying31 hi hz0 hz1 hz2 rfl u3 _ rfl hG2 [x] _ 71 hE _ hN.out rfl hn1 hn2 hbs2 ?_)
   intro v' w' hG' hgr
   have HB':=Lib.hid (grow_below hG2 hgr HB2.out (Nat.le_refl _) hbs2)
   clear hG2 hgr hE
   go_wp2
   go_roundw
   case rel=>exact ⟨k+1,by omega,by go_num,by rw [TS.out,List.map_take];first|exact hG'|(rw [List.map_take] at hG';exact hG'),HB'.out⟩
   case measure=>simp [intOf];omega
  ·obtain rfl:k=l.length:=by omega
   rw [List.take_length] at hG
   have hrd:=hG.read rdAtms_good
   obtain ⟨A',cp',hv',_,_⟩:=hG.own
   rw [hv'] at hrd
   have K:=Lib.hid (q4print_any _ _ _ _ wr hrd HZ.out)
   rw [List.length_map] at hv' K
   have HB:=Lib.hid hbel
   subst hv'
   clear hG hbel hrd
   go_wp2_with fail
   refine K.out.mono ?_
   rintro e w3 ⟨rfl,hb3⟩
   go_wp2
   go_ret
   exact ⟨rfl,bel2 HB.out hb3 (Nat.le_refl _)⟩
end Go.Proofs.YtboinnjncaehkaaGreatDoor
