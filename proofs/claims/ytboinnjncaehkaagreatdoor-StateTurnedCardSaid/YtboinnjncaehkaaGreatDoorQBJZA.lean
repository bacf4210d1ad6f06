/- What the laws rest on: Ver10, Rel3, Rel5, Rel6, P6a, P8l. -/
import Derived.Deep.RegionWith
import Derived.Laws.StructEq
import Derived.Lib.QuietBelow
import Derived.Test.YtboinnjncaehkaaGreatDoorQBFZA
import Derived.Test.YtboinnjncaehkaaGreatDoorQBIZA
set_option maxRecDepth 100000
set_option linter.unusedVariables false
set_option linter.unusedSimpArgs false
namespace Go.Proofs.YtboinnjncaehkaaGreatDoor
open Go.RowKit
theorem trimP_any (s:ByteArray) (w:World):Calls Tryz.prog 183 #[.string s,.string { data:=#[48,58] }] w fun e w'=>e=.returned (.string (mk (trim0 (B s))))∧w=w':=by
 refine (Tryz.strings_TrimPrefix s { data:=#[48,58] } w).mono ?_
 rintro e w' ⟨rfl,rfl⟩
 exact ⟨by rw [←trimP_is],rfl⟩
theorem vparse_long (s:ByteArray) (w:World) (hs:60 < s.size) :
  Calls Tryz.prog 129 #[.string s] w fun e' w'=>e'=.returned (parseV s)∧Below w.heap.size w w':=by
 have h9:parseE (B s)=9:=by unfold parseE;rw [if_pos (by rw [B_len];exact hs)]
 have X:=Lib.hid (parse_bad (s:=s) (by rw [h9];decide))
 have H9:=Lib.hid h9
 clear h9
 have hs2:(60:Int) < (s.size:Int):=by omega
 go_enter Tryz.func129,Tryz.ntmps129
 go_wp2
 exact bodyPost_ret (v:=.tuple #[.agg #[.int .i64 0,.string { data:=#[] },.string { data:=#[] }],.int .i64 9]) (by simp [results,Tryz.results129,go_sem]) rfl ⟨by rw [X.out,H9.out],(Below.refl _ w).alloc (Nat.le_refl _) _⟩
theorem trim0_lt {l:List Nat} (h:∀c ∈ l,c < 256):∀c ∈ trim0 l,c < 256:=by
 rcases trim0_is l with ⟨q,hq,e⟩|⟨_,e⟩
 ·rw [e];intro c hc;exact h c (by rw [hq];simp [hc])
 ·rw [e];exact h
theorem vtext_int (e:Int) (u r:ByteArray) (w:World) (h0:0≤e) (h1:e≤999999999) (hu:u.size≤65536) (hr:r.size≤65536) (E:Env w) :
  Calls Tryz.prog 184 #[.agg #[.int .i64 e,.string u,.string r]] w fun e' w'=>e'=.returned (.string (mk (textL e.toNat (B u) (B r))))∧Below w.heap.size w w':=by
 have:=vtext_any e.toNat u r w (by omega) hu hr E
 rw [Int.toNat_of_nonneg h0] at this
 exact this
theorem res_cells {w w1 V W:World} {T T':TypeId} {x y z a b c:Value} (hb:Below (w.alloc (.cells #[x,y,z] T)).heap.size (w.alloc (.cells #[x,y,z] T)) w1)
  (hV:V=w1.alloc (.cells #[a,b,c] T')) (h2:Below V.heap.size V W) :
  (W.cell? ⟨w.heap.size,0,none⟩=some x∧W.cell? ⟨w.heap.size,1,none⟩=some y∧W.cell? ⟨w.heap.size,2,none⟩=some z)∧
  (W.frozen? ⟨w.heap.size,0,none⟩=false∧W.frozen? ⟨w.heap.size,1,none⟩=false∧W.frozen? ⟨w.heap.size,2,none⟩=false)∧
  (W.cell? ⟨w1.heap.size,0,none⟩=some a∧W.cell? ⟨w1.heap.size,1,none⟩=some b∧W.cell? ⟨w1.heap.size,2,none⟩=some c)∧Below w.heap.size w W:=by
 have hs:w.heap.size+1≤w1.heap.size:=by have:=hb.size;simpa using this
 have hB1:Below (w.heap.size+1) (w.alloc (.cells #[x,y,z] T)) V:=by rw [hV];exact (hb.mono (by simp)).alloc hs _
 have hv:V.heap.size=w1.heap.size+1:=by rw [hV];simp
 have hB:Below (w.heap.size+1) (w.alloc (.cells #[x,y,z] T)) W:=hB1.trans (h2.mono (by omega))
 refine ⟨⟨?_,?_,?_⟩,⟨?_,?_,?_⟩,⟨?_,?_,?_⟩,((Below.refl _ w).alloc (Nat.le_refl _) _).trans (hB.mono (by omega))⟩
 ·exact (hB.cell (by simp)).trans (by simp)
 ·exact (hB.cell (by simp)).trans (by simp)
 ·exact (hB.cell (by simp)).trans (by simp)
 ·exact (hB.frozen (by simp)).trans (by simp)
 ·exact (hB.frozen (by simp)).trans (by simp)
 ·exact (hB.frozen (by simp)).trans (by simp)
 ·exact (h2.cell (by simp only;omega)).trans (by rw [hV];simp)
 ·exact (h2.cell (by simp only;omega)).trans (by rw [hV];simp)
 ·exact (h2.cell (by simp only;omega)).trans (by rw [hV];simp)
theorem env_keep {w w':World} (h:Below w.heap.size w w') (E:Env w):Env w':=E.below h
theorem env_drew {w:World} (E:Env w):Env w.drew:=E.below ⟨rfl,rfl,rfl,Nat.le_refl _,fun _ _=>rfl⟩
set_option maxHeartbeats 1000000 in
theorem vparse_short (s:ByteArray) (w:World) (hs:s.size≤60) (E:Env w) :
  Calls Tryz.prog 129 #[.string s] w fun e' w'=>e'=.returned (parseV s)∧Below w.heap.size w w':=by
 have hs2:¬(60:Int) < (s.size:Int):=by omega
 have hUl:(dashU (colU (B s))).length≤60:=by have h1:=dashU_len (colU (B s));have h2:=colU_len (B s);rw [B_len] at h2;omega
 have hRl:(dashR (colU (B s))).length≤60:=by have h1:=dashR_len (colU (B s));have h2:=colU_len (B s);rw [B_len] at h2;omega
 have KS:=Lib.hid (fun w E=>vsplit_any s w (by omega) E)
 have BU:=Lib.hid (B_mk (l:=dashU (colU (B s))) (fun c hc=>B_lt s c (colU_mem (dashU_mem hc))))
 have BR:=Lib.hid (B_mk (l:=dashR (colU (B s))) (fun c hc=>B_lt s c (colU_mem (dashR_mem hc))))
 obtain ⟨dv,de⟩:=dev_is s
 have DV:=Lib.hid dv
 have DE:=Lib.hid de
 have KT0:=Lib.hid (trimP_any s)
 have hU:(mk (dashU (colU (B s)))).size≤65536:=by rw [size_mk];omega
 have hR:(mk (dashR (colU (B s)))).size≤65536:=by rw [size_mk];omega
 have DB:=Lib.hid (show devB s=(rightB (splE s) (B (mk (dashU (colU (B s))))) (B (mk (dashR (colU (B s)))))&&decide (trim0 (B s)=textL (splE s).toNat (B (mk (dashU (colU (B s))))) (B (mk (dashR (colU (B s))))))) by
  rw [BU.out,BR.out];rfl)
 have HE:=Lib.hid E
 clear dv de E hUl hRl
 have GOOD:=Lib.hid (fun h=>parse_good (s:=s) hs (DE.out h) BU.out BR.out (by rw [←DV.out];exact h))
 have BAD:=Lib.hid (fun h=>parse_wrong (s:=s) hs (by rw [←DV.out];exact h))
 clear BU BR DE DV
 generalize mk (dashU (colU (B s)))=U at *
 generalize mk (dashR (colU (B s)))=R at *
 generalize splE s=ep at *
 have KR:=Lib.hid (fun w E=>vright_any ep U R w hU hR E)
 cases hr:rightB ep (B U) (B R)
 ·have X:=Lib.hid (BAD.out (by rw [DB.out,hr];rfl))
  rw [hr] at KR
  clear hr GOOD BAD DB KT0
  go_enter Tryz.func129,Tryz.ntmps129
  go_wp2_with fail
  refine (KS.out _ (HE.out.alloc _)).mono ?_
  rintro e' w1 ⟨rfl,hb⟩
  go_wp2_with fail
  obtain ⟨V,hV⟩:∃V,V=w1.alloc (.cells #[.int .i64 ep,.string U,.string R] 151):=⟨_,rfl⟩
  have HC:=Lib.hid (fun W h=>res_cells (W:=W) hb hV h)
  have e0:V.cell? ⟨w1.heap.size,0,none⟩=some (.int .i64 ep):=by rw [hV];simp [go_sem]
  have e1:V.cell? ⟨w1.heap.size,1,none⟩=some (.string U):=by rw [hV];simp [go_sem]
  have e2:V.cell? ⟨w1.heap.size,2,none⟩=some (.string R):=by rw [hV];simp [go_sem]
  have EV:Env V:=HE.out.below (HC.out V (Below.refl _ _)).2.2.2
  have bb:=(Below.refl V.heap.size V).drew
  rw [←hV]
  clear hV hb
  first|(go_region_with (go_at_call 182;(with_reducible refine (KR.out _ (env_drew EV)).mono ?_);rintro e' wx ⟨rfl,hbx⟩))|fail
  all_goals
   obtain ⟨⟨c0,c1,c2⟩,⟨f0,f1,f2⟩,⟨d0,d1,d2⟩,hB⟩:=HC.out _ (bb.trans hbx)
   have HB:=Lib.hid hB
   clear hB
   go_wp2
   obtain ⟨k0,k1,k2,bW⟩:=fin3 (x:=.int .i64 0) (y:=.string { data:=#[] }) (z:=.string { data:=#[] }) HB.out c0 c1 c2
   exact bodyPost_ret (v:=.tuple #[.agg #[.int .i64 0,.string { data:=#[] },.string { data:=#[] }],.int .i64 4]) (by simp [results,Tryz.results129,go_sem,k0,k1,k2]) rfl ⟨by rw [X.out],bW⟩
 ·obtain ⟨q0,q1⟩:=rightB_epoch hr
  have KX:=Lib.hid (fun w E=>vtext_int ep U R w q0 q1 hU hR E)
  have hst:=strEq (trim0 (B s)) (mk (textL ep.toNat (B U) (B R))) (trim0_lt (B_lt s))
  rw [B_mk (textL_lt ep.toNat U R)] at hst
  by_cases hq:trim0 (B s)=textL ep.toNat (B U) (B R)
  ·have X:=Lib.hid (GOOD.out (by rw [DB.out,hr,decide_eq_true hq];rfl))
   rw [decide_eq_true hq] at hst
   rw [hr] at KR
   clear hr GOOD BAD DB hq
   generalize mk (textL ep.toNat (B U) (B R))=T at *
   generalize mk (trim0 (B s))=T0 at *
   go_enter Tryz.func129,Tryz.ntmps129
   go_wp2_with fail
   refine (KS.out _ (HE.out.alloc _)).mono ?_
   rintro e' w1 ⟨rfl,hb⟩
   go_wp2_with fail
   obtain ⟨V,hV⟩:∃V,V=w1.alloc (.cells #[.int .i64 ep,.string U,.string R] 151):=⟨_,rfl⟩
   have HC:=Lib.hid (fun W h=>res_cells (W:=W) hb hV h)
   have e0:V.cell? ⟨w1.heap.size,0,none⟩=some (.int .i64 ep):=by rw [hV];simp [go_sem]
   have e1:V.cell? ⟨w1.heap.size,1,none⟩=some (.string U):=by rw [hV];simp [go_sem]
   have e2:V.cell? ⟨w1.heap.size,2,none⟩=some (.string R):=by rw [hV];simp [go_sem]
   have EV:Env V:=HE.out.below (HC.out V (Below.refl _ _)).2.2.2
   have bb:=(Below.refl V.heap.size V).drew
   rw [←hV]
   clear hV hb
   go_region_held3 (fun W=>W.cell? ⟨w1.heap.size,0,none⟩=some (.int .i64 ep)∧W.cell? ⟨w1.heap.size,1,none⟩=some (.string U)∧W.cell? ⟨w1.heap.size,2,none⟩=some (.string R)∧Env W∧Below V.heap.size V W)
    (first|(go_split_ands;refine ⟨?_,?_,?_,?_,?_⟩<;>first|assumption|exact keep_cell hbx (by assumption)|exact env_keep hbx (by assumption)|exact Below.trans (by assumption) (hbx.mono (Below.size (by assumption)))|exact env_drew (by assumption))|go_keep)
    ((first|(go_at_call 182;(with_reducible refine (KR.out _ (by go_split_ands;assumption)).mono ?_);rintro e' wx ⟨rfl,hbx⟩)|(go_at_call 183;(with_reducible refine (KT0.out _).mono ?_);rintro e' wx ⟨rfl,rfl⟩)|(go_at_call 184;(with_reducible refine (KX.out _ (by go_split_ands;assumption)).mono ?_);rintro e' wx ⟨rfl,hbx⟩)))
   all_goals
    go_split_ands
    obtain ⟨⟨c0,c1,c2⟩,⟨f0,f1,f2⟩,⟨d0,d1,d2⟩,hB⟩:=HC.out _ (by assumption)
    have HB:=Lib.hid hB
    clear hB
    go_wp2
    obtain ⟨k0,k1,k2,bW⟩:=fin3 (x:=.int .i64 ep) (y:=.string U) (z:=.string R) HB.out c0 c1 c2
    exact bodyPost_ret (v:=.tuple #[.agg #[.int .i64 ep,.string U,.string R],.int .i64 0]) (by simp [results,Tryz.results129,go_sem,k0,k1,k2]) rfl ⟨by rw [X.out],bW⟩
  ·have X:=Lib.hid (BAD.out (by rw [DB.out,hr,decide_eq_false hq];rfl))
   rw [decide_eq_false hq] at hst
   rw [hr] at KR
   clear hr GOOD BAD DB hq
   generalize mk (textL ep.toNat (B U) (B R))=T at *
   generalize mk (trim0 (B s))=T0 at *
   go_enter Tryz.func129,Tryz.ntmps129
   go_wp2_with fail
   refine (KS.out _ (HE.out.alloc _)).mono ?_
   rintro e' w1 ⟨rfl,hb⟩
   go_wp2_with fail
   obtain ⟨V,hV⟩:∃V,V=w1.alloc (.cells #[.int .i64 ep,.string U,.string R] 151):=⟨_,rfl⟩
   have HC:=Lib.hid (fun W h=>res_cells (W:=W) hb hV h)
   have e0:V.cell? ⟨w1.heap.size,0,none⟩=some (.int .i64 ep):=by rw [hV];simp [go_sem]
   have e1:V.cell? ⟨w1.heap.size,1,none⟩=some (.string U):=by rw [hV];simp [go_sem]
   have e2:V.cell? ⟨w1.heap.size,2,none⟩=some (.string R):=by rw [hV];simp [go_sem]
   have EV:Env V:=HE.out.below (HC.out V (Below.refl _ _)).2.2.2
   have bb:=(Below.refl V.heap.size V).drew
   rw [←hV]
   clear hV hb
   go_region_held3 (fun W=>W.cell? ⟨w1.heap.size,0,none⟩=some (.int .i64 ep)∧W.cell? ⟨w1.heap.size,1,none⟩=some (.string U)∧W.cell? ⟨w1.heap.size,2,none⟩=some (.string R)∧Env W∧Below V.heap.size V W)
    (first|(go_split_ands;refine ⟨?_,?_,?_,?_,?_⟩<;>first|assumption|exact keep_cell hbx (by assumption)|exact env_keep hbx (by assumption)|exact Below.trans (by assumption) (hbx.mono (Below.size (by assumption)))|exact env_drew (by assumption))|go_keep)
    ((first|(go_at_call 182;(with_reducible refine (KR.out _ (by go_split_ands;assumption)).mono ?_);rintro e' wx ⟨rfl,hbx⟩)|(go_at_call 183;(with_reducible refine (KT0.out _).mono ?_);rintro e' wx ⟨rfl,rfl⟩)|(go_at_call 184;(with_reducible refine (KX.out _ (by go_split_ands;assumption)).mono ?_);rintro e' wx ⟨rfl,hbx⟩)))
   all_goals
    go_split_ands
    obtain ⟨⟨c0,c1,c2⟩,⟨f0,f1,f2⟩,⟨d0,d1,d2⟩,hB⟩:=HC.out _ (by assumption)
    have HB:=Lib.hid hB
    clear hB
    go_wp2
    obtain ⟨k0,k1,k2,bW⟩:=fin3 (x:=.int .i64 0) (y:=.string { data:=#[] }) (z:=.string { data:=#[] }) HB.out c0 c1 c2
    exact bodyPost_ret (v:=.tuple #[.agg #[.int .i64 0,.string { data:=#[] },.string { data:=#[] }],.int .i64 4]) (by simp [results,Tryz.results129,go_sem,k0,k1,k2]) rfl ⟨by rw [X.out],bW⟩
theorem vparse_any (s:ByteArray) (w:World) (E:Env w) :
  Calls Tryz.prog 129 #[.string s] w fun e' w'=>e'=.returned (parseV s)∧Below w.heap.size w w':=by
 by_cases h:s.size≤60
 ·exact vparse_short s w h E
 ·exact vparse_long s w (by omega)
structure EnvR (w:World):Prop where
 env:Env w
 sgn:Sgn w
theorem EnvR.below {w w':World} (E:EnvR w) (h:Below w.heap.size w w'):EnvR w':=⟨E.env.below h,E.sgn.below h⟩
theorem EnvR.alloc {w:World} (E:EnvR w) (o:Obj):EnvR (w.alloc o):=E.below ((Below.refl _ w).alloc (Nat.le_refl _) _)
theorem vparse_open3 (s:ByteArray):∃(E e:Int) (U R:ByteArray),E=parse1 (B s)∧e=parseE (B s)∧B U=parse2 (B s)∧B R=parse3 (B s)∧U.size≤60∧R.size≤60∧
  ∀w,Env w→Calls Tryz.prog 129 #[.string s] w fun e' w'=>e'=.returned (.tuple #[.agg #[.int .i64 E,.string U,.string R],.int .i64 e])∧Below w.heap.size w w':=
 ⟨_,_,_,_,rfl,rfl,B_mk (parse2_lt s),B_mk (parse3_lt s),by rw [size_mk];exact parse2_len _,by rw [size_mk];exact parse3_len _,fun w E=>vparse_any s w E⟩
theorem printL_lt (e:Int) (u r:ByteArray):∀c ∈ printL e (B u) (B r),c < 256:=by
 unfold printL
 split
 ·exact textL_lt _ u r
 ·intro c hc;cases hc
theorem rprinted_any (s:ByteArray) (w:World) (E:Env w):Calls Tryz.prog 133 #[.string s] w fun e' w'=>e'=.returned (.bool (prB (B s)))∧Below w.heap.size w w':=by
 obtain ⟨ep,e,U,R,h1,h2,h3,h4,z2,z3,cp⟩:=vparse_open3 s
 have X:prB (B s)=(decide (e=0)&&decide (printL ep (B U) (B R)=B s)):=by unfold prB;rw [h1,h2,h3,h4]
 have CP:=Lib.hid cp
 have CT:=Lib.hid (fun w E=>vprint_any ep U R w (by omega) (by omega) E)
 have hst:=strEq (printL ep (B U) (B R)) s (printL_lt ep U R)
 have HE:=Lib.hid E
 clear cp E h1 h2 h3 h4
 by_cases he:e=0
 ·have t1:(e==0)=true:=by rw [beq_iff_eq];exact he
  rw [decide_eq_true he,Bool.true_and] at X
  rw [←X] at hst
  generalize prB (B s)=b at *
  generalize mk (printL ep (B U) (B R))=T at *
  clear X
  go_enter Tryz.func133,Tryz.ntmps133
  go_wp2_with fail
  refine (CP.out _ HE.out).mono ?_
  rintro e' w1 ⟨rfl,hb1⟩
  have B1:=Lib.hid (show Below w.heap.size w (w1.alloc (.cells #[.int .i64 ep,.string U,.string R] 151)) from hb1.alloc hb1.size _)
  clear hb1
  go_wp2_with fail
  refine (CT.out _ (HE.out.below B1.out)).mono ?_
  rintro e' w2 ⟨rfl,hb2⟩
  have B2:=Lib.hid (bel_2 B1.out hb2)
  clear hb2
  go_wp2
  go_ret
  exact ⟨rfl,B2.out⟩
 ·have t1:(e==0)=false:=by rw [beq_eq_false_iff_ne];exact he
  rw [decide_eq_false he,Bool.false_and] at X
  have XX:=Lib.hid X
  clear X hst CT he
  go_enter Tryz.func133,Tryz.ntmps133
  go_wp2_with fail
  refine (CP.out _ HE.out).mono ?_
  rintro e' w1 ⟨rfl,hb1⟩
  have B1:=Lib.hid (show Below w.heap.size w (w1.alloc (.cells #[.int .i64 ep,.string U,.string R] 151)) from hb1.alloc hb1.size _)
  clear hb1
  go_wp2
  go_ret
  exact ⟨by rw [XX.out];rfl,B1.out⟩
theorem index_cut:∀l:List UInt8,(cutH (l.map UInt8.toNat)=true∧Lib.indexByte l 32=((cutN (l.map UInt8.toNat)).length:Int))∨(cutH (l.map UInt8.toNat)=false∧Lib.indexByte l 32=-1)
 | []=>.inr ⟨rfl,rfl⟩
 | c::l=>by
  have ih:=index_cut l
  by_cases h:c=32
  ·subst h
   exact .inl ⟨by simp [cutH],by simp [cutN,Lib.indexByte]⟩
  ·have h2:c.toNat≠32:=fun hh=>h (UInt8.toNat_inj.1 hh)
   have h3:(c==32)=false:=by rw [beq_eq_false_iff_ne];exact h
   have h4:(c.toNat==32)=false:=by rw [beq_eq_false_iff_ne];exact h2
   have h5:(c.toNat != 32)=true:=by rw [bne_iff_ne];exact h2
   have e1:cutH ((c::l).map UInt8.toNat)=cutH (l.map UInt8.toNat):=by
    show List.any (c.toNat::l.map UInt8.toNat) _=_
    rw [List.any_cons,h4,Bool.false_or];rfl
   have e2:cutN ((c::l).map UInt8.toNat)=c.toNat::cutN (l.map UInt8.toNat):=by
    show List.takeWhile _ (c.toNat::l.map UInt8.toNat)=_
    rw [List.takeWhile_cons,if_pos h5];rfl
   rw [e1,e2]
   simp only [Lib.indexByte,h3,Bool.false_eq_true,if_false]
   rcases ih with ⟨a,b⟩|⟨a,b⟩
   ·refine .inl ⟨a,?_⟩
    rw [b]
    have:(((cutN (l.map UInt8.toNat)).length:Int)==-1)=false:=by rw [beq_eq_false_iff_ne];omega
    rw [this]
    simp only [Bool.false_eq_true,if_false,List.length_cons]
    omega
   ·refine .inr ⟨a,?_⟩
    rw [b];rfl
theorem cut_parts {l a b:List Nat} (h:l=a++32::b):l.take a.length=a∧l.drop (a.length+1)=b:=by
 subst h;simp
theorem cut_is (s:ByteArray):(⟨(Lib.cut s.data.toList [32]).1.toArray⟩:ByteArray)=mk (cutN (B s))∧(⟨(Lib.cut s.data.toList [32]).2.1.toArray⟩:ByteArray)=mk (cutR (B s))∧(Lib.cut s.data.toList [32]).2.2=cutH (B s):=by
 rcases index_cut s.data.toList with ⟨a,b⟩|⟨a,b⟩
 ·have hh:cutH (B s)=true:=a
  have hb:Lib.indexByte s.data.toList 32=((cutN (B s)).length:Int):=b
  have e0:Lib.cut s.data.toList [32]=(s.data.toList.take (cutN (B s)).length,s.data.toList.drop ((cutN (B s)).length+1),true):=by
   unfold Lib.cut;rw [Lib.index_one,if_pos (by omega),show (Lib.indexByte s.data.toList 32).toNat=(cutN (B s)).length by omega];rfl
  have hc:=cut_back hh
  rw [e0,hh]
  refine ⟨?_,?_,rfl⟩
  ·rw [take_mk,(cut_parts hc).1]
  ·rw [drop_mk,(cut_parts hc).2]
 ·have hh:cutH (B s)=false:=a
  obtain ⟨c0,c1,_⟩:=cut_no (cutH_no hh)
  have e0:Lib.cut s.data.toList [32]=(s.data.toList,[],false):=by
   unfold Lib.cut;rw [Lib.index_one,if_neg (by omega)]
  rw [e0,hh,c0,c1]
  exact ⟨eq_mk rfl,rfl,rfl⟩
theorem blank_any (s:ByteArray) (w:World) (hs:s.size≤65536) (E:Env w) :
  Calls Tryz.prog 188 #[.string s,.string { data:=#[32] }] w fun e w'=>e=.returned (.tuple #[.string (mk (cutN (B s))),.string (mk (cutR (B s))),.bool (cutH (B s))])∧∃n,w'=w.drewN n:=by
 obtain ⟨m,hm⟩:=E.max
 refine (Tryz.strings_Cut s { data:=#[32] } m w (by omega) hm).mono ?_
 rintro e w' ⟨rfl,n,rfl⟩
 refine ⟨?_,n,rfl⟩
 obtain ⟨a,b,c⟩:=cut_is s
 show Ending.returned (.tuple #[.string ⟨(Lib.cut s.data.toList [32]).1.toArray⟩,.string ⟨(Lib.cut s.data.toList [32]).2.1.toArray⟩,.bool (Lib.cut s.data.toList [32]).2.2])=_
 rw [a,b,c]
def preB (l:List Nat):Bool:=decide (l.getD 0 0=40)
def sufB (l:List Nat):Bool:=decide (l.getD (l.length - 1) 0=41)
theorem pre_is (s:ByteArray):Lib.hasPrefix s.data.toList [40]=preB (B s):=by
 unfold Lib.hasPrefix preB B
 cases s.data.toList with
 | nil=>rfl
 | cons c l=>
  rw [List.map_cons,List.getD_cons_zero,Bool.eq_iff_iff]
  simp only [List.isPrefixOf,Bool.and_true,beq_iff_eq,decide_eq_true_eq]
  constructor
  ·rintro rfl;rfl
  ·intro h;exact (UInt8.toNat_inj.1 h).symm
theorem suf_is (s:ByteArray):Lib.hasSuffix s.data.toList [41]=sufB (B s):=by
 unfold Lib.hasSuffix sufB B
 rcases List.eq_nil_or_concat s.data.toList with h|⟨l,c,h⟩
 ·rw [h];rfl
 ·rw [h,Bool.eq_iff_iff,List.isSuffixOf_iff_suffix,decide_eq_true_eq]
  simp only [List.concat_eq_append,List.map_append,List.map_cons,List.map_nil,List.length_append,List.length_map,List.length_cons,List.length_nil]
  rw [List.getD_eq_getElem?_getD,List.getElem?_append_right (by simp)]
  simp only [List.length_map,Nat.zero_add,Nat.add_sub_cancel,Nat.sub_self,List.getElem?_cons_zero,Option.getD_some]
  constructor
  ·rintro ⟨t,ht⟩
   have:=congrArg List.getLast? ht
   simp at this
   rw [←this];rfl
  ·intro hc
   have:c=41:=UInt8.toNat_inj.1 hc
   exact ⟨l,by rw [this]⟩
theorem pre_any (s:ByteArray) (w:World):Calls Tryz.prog 217 #[.string s,.string { data:=#[40] }] w fun e w'=>e=.returned (.bool (preB (B s)))∧w=w':=by
 refine (Tryz.strings_HasPrefix s { data:=#[40] } w).mono ?_
 rintro e w' ⟨rfl,rfl⟩
 exact ⟨by rw [←pre_is],rfl⟩
theorem suf_any (s:ByteArray) (w:World) (hs:s.size≤65536):Calls Tryz.prog 256 #[.string s,.string { data:=#[41] }] w fun e w'=>e=.returned (.bool (sufB (B s)))∧w=w':=by
 refine (Tryz.strings_HasSuffix s { data:=#[41] } w (by omega)).mono ?_
 rintro e w' ⟨rfl,rfl⟩
 exact ⟨by rw [←suf_is],rfl⟩
theorem form_two {l:List Nat} (h:preB l=true) (h2:sufB l=true):2≤l.length:=by
 unfold preB at h
 unfold sufB at h2
 rw [decide_eq_true_eq] at h h2
 rcases l with _|⟨a,_|⟨b,l⟩⟩
 ·simp at h
 ·simp at h h2;omega
 ·simp
theorem form_pre {l:List Nat} (h:preB l=false):formB l=false:=by
 unfold preB at h
 unfold formB
 rw [h];simp
theorem form_suf {l:List Nat} (h:sufB l=false):formB l=false:=by
 unfold sufB at h
 unfold formB
 rw [h];simp
theorem form_both {l:List Nat} (h:preB l=true) (h2:sufB l=true):formB l=(cutH (inL l)&&decide (opI (cutN (inL l))≠0))∧l=40::(inL l++[41]):=by
 have hl:=form_two h h2
 constructor
 ·unfold preB at h
  unfold sufB at h2
  unfold formB
  rw [h,h2,decide_eq_true hl];rfl
 ·unfold preB at h
  unfold sufB at h2
  rw [decide_eq_true_eq] at h h2
  exact form_is hl h h2
theorem cut_more {m:List Nat} (h:cutH m=true):cutN (m++[41])=cutN m∧cutR (m++[41])=cutR m++[41]:=by
 have hc:=cut_back h
 have h3:=cut_at (r:=cutR m++[41]) (cutN_no m)
 have e:m++[41]=cutN m++32::(cutR m++[41]):=by
  have:=congrArg (·++[41]) hc
  simpa using this
 rw [←e] at h3
 exact ⟨h3.1,h3.2.1⟩
theorem cutH_more (m:List Nat):cutH (m++[41])=cutH m:=by
 unfold cutH
 rw [List.any_append]
 simp
theorem ext_last {l:List Nat} (h:∀c ∈ l,c < 256):(mk (l++[41])).extract 0 l.length=mk l:=by
 refine eq_mk ?_
 rw [B_extract,B_mk (fun c hc=>by rcases List.mem_append.1 hc with hc|hc;exact h c hc;rw [List.mem_singleton.1 hc];decide)]
 simp
theorem inL_lt (s:ByteArray):∀c ∈ inL (B s),c < 256:=fun c hc=>B_lt s c (inL_mem hc)
theorem verL_lt (s:ByteArray):∀c ∈ verL (B s),c < 256:=fun c hc=>inL_lt s c (cutR_mem hc)
theorem cutN_lt {l:List Nat} (h:∀c ∈ l,c < 256):∀c ∈ cutN l,c < 256:=fun c hc=>h c (cutN_mem hc)
theorem cutR_lt {l:List Nat} (h:∀c ∈ l,c < 256):∀c ∈ cutR l,c < 256:=fun c hc=>h c (cutR_mem hc)
def splV (s:ByteArray):Value:=if formB (B s)=true then .tuple #[.int .i64 (opI (cutN (inL (B s)))),.string (mk (verL (B s))),.bool true] else .tuple #[.int .i64 0,.string { data:=#[] },.bool false]
theorem splV_no {s:ByteArray} (h:formB (B s)=false):splV s=.tuple #[.int .i64 0,.string { data:=#[] },.bool false]:=by unfold splV;rw [if_neg (by rw [h];decide)]
theorem splV_yes {s:ByteArray} (h:formB (B s)=true):splV s=.tuple #[.int .i64 (opI (cutN (inL (B s)))),.string (mk (verL (B s))),.bool true]:=by unfold splV;rw [if_pos h]
set_option maxHeartbeats 2000000 in
theorem rsplit_any (s:ByteArray) (w:World) (hs:s.size≤65536) (E:EnvR w):Calls Tryz.prog 235 #[.string s] w fun e w'=>e=.returned (splV s)∧Below w.heap.size w w':=by
 have HE:=Lib.hid E
 clear E
 have KA:=Lib.hid (fun w=>pre_any s w)
 have KB:=Lib.hid (fun w=>suf_any s w hs)
 cases hp:preB (B s)
 ·have X:=Lib.hid (splV_no (form_pre hp))
  rw [hp] at KA
  clear hp KB
  go_enter Tryz.func235,Tryz.ntmps235
  go_wp2_with fail
  refine (KA.out _).mono ?_
  rintro e' w' ⟨rfl,rfl⟩
  go_wp2
  go_ret3
  exact ⟨by rw [X.out];rfl,Below.refl _ _⟩
 cases hq:sufB (B s)
 ·have X:=Lib.hid (splV_no (form_suf hq))
  rw [hp] at KA
  rw [hq] at KB
  clear hp hq
  go_enter Tryz.func235,Tryz.ntmps235
  go_wp2_with fail
  refine (KA.out _).mono ?_
  rintro e' w' ⟨rfl,rfl⟩
  go_wp2_with fail
  refine (KB.out _).mono ?_
  rintro e' w' ⟨rfl,rfl⟩
  go_wp2
  go_ret3
  exact ⟨by rw [X.out];rfl,Below.refl _ _⟩
 obtain ⟨hf,hl⟩:=form_both hp hq
 have h2:2≤s.size:=by rw [←B_len];exact form_two hp hq
 have hm:B (s.extract 1 s.size)=inL (B s)++[41]:=by
  rw [B_extract,hl]
  simp only [List.drop_succ_cons,List.drop_zero,inL_of]
  rw [List.take_of_length_le (by have:=congrArg List.length hl;rw [B_len] at this;simp at this ⊢;omega)]
 have hms:(s.extract 1 s.size).size≤65536:=by rw [ByteArray.size_extract];omega
 have KC:=Lib.hid (fun w E=>blank_any (s.extract 1 s.size) w hms E)
 rw [hm,cutH_more] at KC
 rw [hp] at KA
 rw [hq] at KB
 cases hc:cutH (inL (B s))
 ·have X:=Lib.hid (splV_no (s:=s) (by rw [hf,hc];rfl))
  have KO:=Lib.hid (fun w E=>rop_any (mk (cutN (inL (B s)++[41]))) w E)
  rw [hc] at KC
  generalize mk (cutN (inL (B s)++[41]))=sg at *
  generalize mk (cutR (inL (B s)++[41]))=vv at *
  clear hm hms hp hq hf hl hc
  generalize opI (B sg)=o at *
  generalize decide (o≠0)=ob at *
  go_enter Tryz.func235,Tryz.ntmps235
  go_wp2_with fail
  refine (KA.out _).mono ?_
  rintro e' w' ⟨rfl,rfl⟩
  go_wp2_with fail
  refine (KB.out _).mono ?_
  rintro e' w' ⟨rfl,rfl⟩
  go_wp2_with fail
  refine (KC.out _ HE.out.env).mono ?_
  rintro e' w' ⟨rfl,n,rfl⟩
  have B1:=Lib.hid (bel_d (Below.refl w.heap.size w) n)
  go_wp2_with fail
  refine (KO.out _ (HE.out.below B1.out).sgn).mono ?_
  rintro e' w' ⟨rfl,rfl⟩
  go_wp2
  go_ret3
  exact ⟨by rw [X.out];rfl,B1.out⟩
 ·obtain ⟨m1,m2⟩:=cut_more hc
  have hB:B (mk (cutN (inL (B s))))=cutN (inL (B s)):=B_mk (cutN_lt (inL_lt s))
  have KO:=Lib.hid (fun w E=>rop_any (mk (cutN (inL (B s)))) w E)
  rw [hB] at KO
  rw [hc,m1,m2] at KC
  by_cases ho:opI (cutN (inL (B s)))=0
  ·have X:=Lib.hid (splV_no (s:=s) (by rw [hf,hc,decide_eq_false (by simpa using ho)];rfl))
   rw [decide_eq_false (p:=opI (cutN (inL (B s)))≠0) (by simpa using ho)] at KO
   generalize mk (cutN (inL (B s)))=sg at *
   generalize mk (cutR (inL (B s))++[41])=vv at *
   clear hm hms hp hq hf hl hc m1 m2 hB ho
   generalize opI (cutN (inL (B s)))=o at *
   go_enter Tryz.func235,Tryz.ntmps235
   go_wp2_with fail
   refine (KA.out _).mono ?_
   rintro e' w' ⟨rfl,rfl⟩
   go_wp2_with fail
   refine (KB.out _).mono ?_
   rintro e' w' ⟨rfl,rfl⟩
   go_wp2_with fail
   refine (KC.out _ HE.out.env).mono ?_
   rintro e' w' ⟨rfl,n,rfl⟩
   have B1:=Lib.hid (bel_d (Below.refl w.heap.size w) n)
   go_wp2_with fail
   refine (KO.out _ (HE.out.below B1.out).sgn).mono ?_
   rintro e' w' ⟨rfl,rfl⟩
   go_wp2
   go_ret3
   exact ⟨by rw [X.out];rfl,B1.out⟩
  ·have X:=Lib.hid (splV_yes (s:=s) (by rw [hf,hc,decide_eq_true (by simpa using ho)];rfl))
   rw [decide_eq_true (p:=opI (cutN (inL (B s)))≠0) (by simpa using ho)] at KO
   have hx:=ext_last (verL_lt s)
   have hz:(mk (verL (B s)++[41])).size=(verL (B s)).length+1:=by rw [size_mk];simp
   have hkk:(verL (B s)).length≤65536:=by
    have a1:=cutR_len (inL (B s))
    have a2:=congrArg List.length hm
    rw [B_len,List.length_append] at a2
    unfold verL
    simp at a2
    omega
   have ev:cutR (inL (B s))=verL (B s):=rfl
   rw [ev] at KC
   generalize (verL (B s)).length=k at *
   generalize mk (verL (B s))=ver at *
   generalize mk (cutN (inL (B s)))=sg at *
   generalize mk (verL (B s)++[41])=vv at *
   clear hm hms hp hq hf hl hc m1 m2 hB ho ev
   generalize opI (cutN (inL (B s)))=o at *
   go_enter Tryz.func235,Tryz.ntmps235
   go_wp2_with fail
   refine (KA.out _).mono ?_
   rintro e' w' ⟨rfl,rfl⟩
   go_wp2_with fail
   refine (KB.out _).mono ?_
   rintro e' w' ⟨rfl,rfl⟩
   go_wp2_with fail
   refine (KC.out _ HE.out.env).mono ?_
   rintro e' w' ⟨rfl,n,rfl⟩
   have B1:=Lib.hid (bel_d (Below.refl w.heap.size w) n)
   go_wp2_with fail
   refine (KO.out _ (HE.out.below B1.out).sgn).mono ?_
   rintro e' w' ⟨rfl,rfl⟩
   go_wp2
   go_quiet (fail)
   go_wp2
   go_ret3
   exact ⟨by rw [X.out];rfl,bel_d B1.out _⟩
theorem box_froz {w w1:World} {T:TypeId} {x y z:Value} (h:Below (w.alloc (.cells #[x,y,z] T)).heap.size (w.alloc (.cells #[x,y,z] T)) w1) :
  w1.frozen? ⟨w.heap.size,0,none⟩=false∧w1.frozen? ⟨w.heap.size,1,none⟩=false∧w1.frozen? ⟨w.heap.size,2,none⟩=false:=
 ⟨(h.frozen (by simp)).trans (by simp),(h.frozen (by simp)).trans (by simp),(h.frozen (by simp)).trans (by simp)⟩
theorem keep_fr {w w1:World} (h:Below w.heap.size w w1) {b o:Nat} (hb:b < w.heap.size) (hf:w.frozen? ⟨b,o,none⟩=false):w1.frozen? ⟨b,o,none⟩=false:=(h.frozen (p:=⟨b,o,none⟩) hb).trans hf
theorem relV_bad {s:ByteArray} {e:Int} (h:relE (B s)=e) (h0:e≠0):relVal s=.tuple #[.agg #[.string { data:=#[] },.int .i64 0,.string { data:=#[] }],.int .i64 e]:=by
 obtain ⟨a,b,c⟩:=rel_none (s:=B s) (by rw [h];exact h0)
 unfold relVal
 rw [a,b,c,h];rfl
theorem relV_bare {s:ByteArray} (hn:nameB (cutN (B s))=true) (hc:cutH (B s)=false):relVal s=.tuple #[.agg #[.string (mk (cutN (B s))),.int .i64 0,.string { data:=#[] }],.int .i64 0]:=by
 have hE:relE (B s)=0:=by unfold relE;rw [if_pos hn,hc];rfl
 unfold relVal relN relO relV
 rw [if_pos hE,if_pos hE,if_pos hE,hE,hc];rfl
theorem relV_full {s:ByteArray} (hn:nameB (cutN (B s))=true) (hc:cutH (B s)=true) (hf:formB (cutR (B s))=true) (hp:prB (verL (cutR (B s)))=true) :
  relVal s=.tuple #[.agg #[.string (mk (cutN (B s))),.int .i64 (opI (cutN (inL (cutR (B s))))),.string (mk (verL (cutR (B s))))],.int .i64 0]:=by
 have hE:relE (B s)=0:=by unfold relE;rw [if_pos hn,if_pos hc,if_pos hf,if_pos hp]
 unfold relVal relN relO relV
 rw [if_pos hE,if_pos hE,if_pos hE,hE,if_pos hc,if_pos hc]
set_option maxHeartbeats 1000000 in
theorem rparse_any (s:ByteArray) (w:World) (hs:s.size≤65536) (E:EnvR w):Calls Tryz.prog 203 #[.string s] w fun e w'=>e=.returned (relVal s)∧Below w.heap.size w w':=by
 have HE:=Lib.hid E
 clear E
 have KC:=Lib.hid (fun w E=>blank_any s w hs E)
 have KN:=Lib.hid (fun w=>rname_any (mk (cutN (B s))) w)
 rw [B_mk (cutN_lt (B_lt s))] at KN
 have hBR:B (mk (cutR (B s)))=cutR (B s):=B_mk (cutR_lt (B_lt s))
 have hRs:(mk (cutR (B s))).size≤65536:=by rw [size_mk];have:=cutR_len (B s);rw [B_len] at this;omega
 cases hn:nameB (cutN (B s))
 ·have X:=Lib.hid (relV_bad (s:=s) (e:=3) (by unfold relE;rw [hn];rfl) (by decide))
  rw [hn] at KN
  clear hBR hRs hn
  generalize mk (cutN (B s))=nm at *
  generalize mk (cutR (B s))=rs at *
  generalize cutH (B s)=ch at *
  go_enter Tryz.func203,Tryz.ntmps203
  go_wp2_with fail
  refine (KC.out _ (HE.out.alloc _).env).mono ?_
  rintro e' w0 ⟨rfl,n,rfl⟩
  go_wp2_with fail
  refine (KN.out _).mono ?_
  rintro e' w1 ⟨rfl,hb⟩
  replace hb:=bel_2 (bel_d (Below.refl _ (w.alloc (.cells #[.string { data:=#[] },.int .i64 0,.string { data:=#[] }] 109))) n) hb
  obtain ⟨c0,c1,c2,s1⟩:=box_cells hb
  obtain ⟨f0,f1,f2⟩:=box_froz hb
  have B1:=Lib.hid (bel_boxed hb)
  clear hb
  go_wp2
  obtain ⟨k0,k1,k2,bW⟩:=fin3 (x:=.string { data:=#[] }) (y:=.int .i64 0) (z:=.string { data:=#[] }) B1.out c0 c1 c2
  exact bodyPost_ret (v:=.tuple #[.agg #[.string { data:=#[] },.int .i64 0,.string { data:=#[] }],.int .i64 3]) (by simp [results,Tryz.results203,go_sem,k0,k1,k2]) rfl ⟨by rw [X.out],bW⟩
 rw [hn] at KN
 cases hc:cutH (B s)
 ·have X:=Lib.hid (relV_bare hn hc)
  rw [hc] at KC
  clear hBR hRs hn hc
  generalize mk (cutN (B s))=nm at *
  generalize mk (cutR (B s))=rs at *
  go_enter Tryz.func203,Tryz.ntmps203
  go_wp2_with fail
  refine (KC.out _ (HE.out.alloc _).env).mono ?_
  rintro e' w0 ⟨rfl,n,rfl⟩
  go_wp2_with fail
  refine (KN.out _).mono ?_
  rintro e' w1 ⟨rfl,hb⟩
  replace hb:=bel_2 (bel_d (Below.refl _ (w.alloc (.cells #[.string { data:=#[] },.int .i64 0,.string { data:=#[] }] 109))) n) hb
  obtain ⟨c0,c1,c2,s1⟩:=box_cells hb
  obtain ⟨f0,f1,f2⟩:=box_froz hb
  have B1:=Lib.hid (bel_boxed hb)
  clear hb
  go_wp2
  obtain ⟨k0,k1,k2,bW⟩:=fin3 (x:=.string nm) (y:=.int .i64 0) (z:=.string { data:=#[] }) B1.out c0 c1 c2
  exact bodyPost_ret (v:=.tuple #[.agg #[.string nm,.int .i64 0,.string { data:=#[] }],.int .i64 0]) (by simp [results,Tryz.results203,go_sem,k0,k1,k2]) rfl ⟨by rw [X.out],bW⟩
 rw [hc] at KC
 have KS:=Lib.hid (fun w E=>rsplit_any (mk (cutR (B s))) w hRs E)
 cases hf:formB (cutR (B s))
 ·have X:=Lib.hid (relV_bad (s:=s) (e:=5) (by unfold relE;rw [if_pos hn,if_pos hc,hf];rfl) (by decide))
  rw [splV_no (by rw [hBR];exact hf)] at KS
  clear hBR hRs hn hc hf
  generalize mk (cutN (B s))=nm at *
  generalize mk (cutR (B s))=rs at *
  go_enter Tryz.func203,Tryz.ntmps203
  go_wp2_with fail
  refine (KC.out _ (HE.out.alloc _).env).mono ?_
  rintro e' w0 ⟨rfl,n,rfl⟩
  go_wp2_with fail
  refine (KN.out _).mono ?_
  rintro e' w1 ⟨rfl,hb⟩
  replace hb:=bel_2 (bel_d (Below.refl _ (w.alloc (.cells #[.string { data:=#[] },.int .i64 0,.string { data:=#[] }] 109))) n) hb
  obtain ⟨c0,c1,c2,s1⟩:=box_cells hb
  obtain ⟨f0,f1,f2⟩:=box_froz hb
  have B1:=Lib.hid (bel_boxed hb)
  clear hb
  go_wp2_with fail
  refine (KS.out _ (HE.out.below B1.out)).mono ?_
  rintro e' w2 ⟨rfl,hb⟩
  replace c0:=keep_cell hb c0
  replace c1:=keep_cell hb c1
  replace c2:=keep_cell hb c2
  replace f0:=keep_fr hb (by omega) f0
  replace f1:=keep_fr hb (by omega) f1
  replace f2:=keep_fr hb (by omega) f2
  have B2:=Lib.hid (bel_2 B1.out hb)
  have s2:w.heap.size+1≤w2.heap.size:=Nat.le_trans s1 hb.size
  clear hb
  go_wp2
  obtain ⟨k0,k1,k2,bW⟩:=fin3 (x:=.string { data:=#[] }) (y:=.int .i64 0) (z:=.string { data:=#[] }) B2.out c0 c1 c2
  exact bodyPost_ret (v:=.tuple #[.agg #[.string { data:=#[] },.int .i64 0,.string { data:=#[] }],.int .i64 5]) (by simp [results,Tryz.results203,go_sem,k0,k1,k2]) rfl ⟨by rw [X.out],bW⟩
 rw [splV_yes (by rw [hBR];exact hf),hBR] at KS
 have KP:=Lib.hid (fun w E=>rprinted_any (mk (verL (cutR (B s)))) w E)
 rw [B_mk (l:=verL (cutR (B s))) (fun c hc=>B_lt s c (cutR_mem (inL_mem (cutR_mem hc))))] at KP
 cases hp:prB (verL (cutR (B s)))
 ·have X:=Lib.hid (relV_bad (s:=s) (e:=4) (by unfold relE;rw [if_pos hn,if_pos hc,if_pos hf,hp];rfl) (by decide))
  rw [hp] at KP
  clear hBR hRs hn hc hf hp
  generalize mk (cutN (B s))=nm at *
  generalize mk (verL (cutR (B s)))=ver at *
  generalize opI (cutN (inL (cutR (B s))))=o at *
  generalize mk (cutR (B s))=rs at *
  go_enter Tryz.func203,Tryz.ntmps203
  go_wp2_with fail
  refine (KC.out _ (HE.out.alloc _).env).mono ?_
  rintro e' w0 ⟨rfl,n,rfl⟩
  go_wp2_with fail
  refine (KN.out _).mono ?_
  rintro e' w1 ⟨rfl,hb⟩
  replace hb:=bel_2 (bel_d (Below.refl _ (w.alloc (.cells #[.string { data:=#[] },.int .i64 0,.string { data:=#[] }] 109))) n) hb
  obtain ⟨c0,c1,c2,s1⟩:=box_cells hb
  obtain ⟨f0,f1,f2⟩:=box_froz hb
  have B1:=Lib.hid (bel_boxed hb)
  clear hb
  go_wp2_with fail
  refine (KS.out _ (HE.out.below B1.out)).mono ?_
  rintro e' w2 ⟨rfl,hb⟩
  replace c0:=keep_cell hb c0
  replace c1:=keep_cell hb c1
  replace c2:=keep_cell hb c2
  replace f0:=keep_fr hb (by omega) f0
  replace f1:=keep_fr hb (by omega) f1
  replace f2:=keep_fr hb (by omega) f2
  have B2:=Lib.hid (bel_2 B1.out hb)
  have s2:w.heap.size+1≤w2.heap.size:=Nat.le_trans s1 hb.size
  clear hb
  go_wp2_with fail
  refine (KP.out _ (HE.out.below B2.out).env).mono ?_
  rintro e' w3 ⟨rfl,hb⟩
  replace c0:=keep_cell hb c0
  replace c1:=keep_cell hb c1
  replace c2:=keep_cell hb c2
  replace f0:=keep_fr hb (by omega) f0
  replace f1:=keep_fr hb (by omega) f1
  replace f2:=keep_fr hb (by omega) f2
  have B3:=Lib.hid (bel_2 B2.out hb)
  clear hb
  go_wp2
  obtain ⟨k0,k1,k2,bW⟩:=fin3 (x:=.string { data:=#[] }) (y:=.int .i64 0) (z:=.string { data:=#[] }) B3.out c0 c1 c2
  exact bodyPost_ret (v:=.tuple #[.agg #[.string { data:=#[] },.int .i64 0,.string { data:=#[] }],.int .i64 4]) (by simp [results,Tryz.results203,go_sem,k0,k1,k2]) rfl ⟨by rw [X.out],bW⟩
 ·have X:=Lib.hid (relV_full hn hc hf hp)
  rw [hp] at KP
  clear hBR hRs hn hc hf hp
  generalize mk (cutN (B s))=nm at *
  generalize mk (verL (cutR (B s)))=ver at *
  generalize opI (cutN (inL (cutR (B s))))=o at *
  generalize mk (cutR (B s))=rs at *
  go_enter Tryz.func203,Tryz.ntmps203
  go_wp2_with fail
  refine (KC.out _ (HE.out.alloc _).env).mono ?_
  rintro e' w0 ⟨rfl,n,rfl⟩
  go_wp2_with fail
  refine (KN.out _).mono ?_
  rintro e' w1 ⟨rfl,hb⟩
  replace hb:=bel_2 (bel_d (Below.refl _ (w.alloc (.cells #[.string { data:=#[] },.int .i64 0,.string { data:=#[] }] 109))) n) hb
  obtain ⟨c0,c1,c2,s1⟩:=box_cells hb
  obtain ⟨f0,f1,f2⟩:=box_froz hb
  have B1:=Lib.hid (bel_boxed hb)
  clear hb
  go_wp2_with fail
  refine (KS.out _ (HE.out.below B1.out)).mono ?_
  rintro e' w2 ⟨rfl,hb⟩
  replace c0:=keep_cell hb c0
  replace c1:=keep_cell hb c1
  replace c2:=keep_cell hb c2
  replace f0:=keep_fr hb (by omega) f0
  replace f1:=keep_fr hb (by omega) f1
  replace f2:=keep_fr hb (by omega) f2
  have B2:=Lib.hid (bel_2 B1.out hb)
  have s2:w.heap.size+1≤w2.heap.size:=Nat.le_trans s1 hb.size
  clear hb
  go_wp2_with fail
  refine (KP.out _ (HE.out.below B2.out).env).mono ?_
  rintro e' w3 ⟨rfl,hb⟩
  replace c0:=keep_cell hb c0
  replace c1:=keep_cell hb c1
  replace c2:=keep_cell hb c2
  replace f0:=keep_fr hb (by omega) f0
  replace f1:=keep_fr hb (by omega) f1
  replace f2:=keep_fr hb (by omega) f2
  have B3:=Lib.hid (bel_2 B2.out hb)
  clear hb
  go_wp2
  obtain ⟨k0,k1,k2,bW⟩:=fin3 (x:=.string nm) (y:=.int .i64 o) (z:=.string ver) B3.out c0 c1 c2
  exact bodyPost_ret (v:=.tuple #[.agg #[.string nm,.int .i64 o,.string ver],.int .i64 0]) (by simp [results,Tryz.results203,go_sem,k0,k1,k2]) rfl ⟨by rw [X.out],bW⟩
set_option maxHeartbeats 1000000 in
theorem eprinted_any (s:ByteArray) (w:World) (E:Env w):Calls Tryz.prog 73 #[.string s] w fun e' w'=>e'=.returned (.bool (prB (B s)))∧Below w.heap.size w w':=by
 obtain ⟨ep,e,U,R,h1,h2,h3,h4,z2,z3,cp⟩:=vparse_open3 s
 have X:prB (B s)=(decide (e=0)&&decide (printL ep (B U) (B R)=B s)):=by unfold prB;rw [h1,h2,h3,h4]
 have CP:=Lib.hid cp
 have CT:=Lib.hid (fun w E=>vprint_any ep U R w (by omega) (by omega) E)
 have hst:=strEq (printL ep (B U) (B R)) s (printL_lt ep U R)
 have HE:=Lib.hid E
 clear cp E h1 h2 h3 h4
 by_cases he:e=0
 ·have t1:(e==0)=true:=by rw [beq_iff_eq];exact he
  rw [decide_eq_true he,Bool.true_and] at X
  rw [←X] at hst
  generalize prB (B s)=b at *
  generalize mk (printL ep (B U) (B R))=T at *
  clear X
  go_enter Tryz.func73,Tryz.ntmps73
  go_wp2_with fail
  refine (CP.out _ HE.out).mono ?_
  rintro e' w1 ⟨rfl,hb1⟩
  have B1:=Lib.hid (show Below w.heap.size w (w1.alloc (.cells #[.int .i64 ep,.string U,.string R] 151)) from hb1.alloc hb1.size _)
  clear hb1
  go_wp2_with fail
  refine (CT.out _ (HE.out.below B1.out)).mono ?_
  rintro e' w2 ⟨rfl,hb2⟩
  have B2:=Lib.hid (bel_2 B1.out hb2)
  clear hb2
  go_wp2
  go_ret
  exact ⟨rfl,B2.out⟩
 ·have t1:(e==0)=false:=by rw [beq_eq_false_iff_ne];exact he
  rw [decide_eq_false he,Bool.false_and] at X
  have XX:=Lib.hid X
  clear X hst CT he
  go_enter Tryz.func73,Tryz.ntmps73
  go_wp2_with fail
  refine (CP.out _ HE.out).mono ?_
  rintro e' w1 ⟨rfl,hb1⟩
  have B1:=Lib.hid (show Below w.heap.size w (w1.alloc (.cells #[.int .i64 ep,.string U,.string R] 151)) from hb1.alloc hb1.size _)
  clear hb1
  go_wp2
  go_ret
  exact ⟨by rw [XX.out];rfl,B1.out⟩
set_option maxHeartbeats 1000000 in
theorem givable6_any (x:Atm) (w:World):Calls Tryz.prog 77 #[.agg #[.string x.n,.int .i64 x.o,.string x.v]] w fun e w'=>e=.returned (.bool (giv6 x))∧Below w.heap.size w w':=by
 have B1:=Lib.hid (show Below w.heap.size w (w.alloc (.cells #[.string x.n,.int .i64 x.o,.string x.v] 109)) from (Below.refl _ w).alloc (Nat.le_refl _) _)
 have X:=Lib.hid (show giv6 x=(x.o==0||x.o==3) from rfl)
 obtain ⟨n,o,v⟩:=x
 simp only at X ⊢
 by_cases h0:o=0
 ·have t0:(o==0)=true:=by rw [beq_iff_eq];exact h0
  have XX:=Lib.hid (show giv6 ⟨n,o,v⟩=true by rw [X.out,t0];rfl)
  clear X h0
  go_enter Tryz.func77,Tryz.ntmps77
  go_wp2
  go_ret
  exact ⟨by rw [XX.out];try rfl,B1.out⟩
 ·have t0:(o==0)=false:=by rw [beq_eq_false_iff_ne];exact h0
  have XX:=Lib.hid (show giv6 ⟨n,o,v⟩=(o==3) by rw [X.out,t0];rfl)
  clear X h0
  generalize giv6 ⟨n,o,v⟩=q at *
  go_enter Tryz.func77,Tryz.ntmps77
  go_wp2
  go_ret
  exact ⟨by rw [XX.out];try rfl,B1.out⟩
set_option maxHeartbeats 4000000 in
theorem each6_any (f:Nat) (p:Atm→Bool) (hcf:∀(args:Array Value) (w:World),(callFunc f args).run Tryz.prog w=.ok (.enter f args) w)
  (hf:∀(x:Atm) (w:World),EnvR w→Calls Tryz.prog f #[.agg #[.string x.n,.int .i64 x.o,.string x.v]] w fun e w'=>e=.returned (.bool (p x))∧Below w.heap.size w w')
  (A:Option Addr) (n c:Nat) (l:List Atm) (w:World) (h:rdAtms w (lt_ w.heap.size) l [.slice A n c]) (E:EnvR w) :
  Calls Tryz.prog 75 #[.slice A n c,.func (.func f) #[] #[]] w fun e w'=>e=.returned (.bool (l.all p))∧Below w.heap.size w w':=by
 obtain ⟨rfl,hnc,hcm,_⟩:=rdAtms_at h
 have hcm':c≤9223372036854775807:=hcm
 have HE:=Lib.hid E
 have H:=Lib.hid h
 have KF:=Lib.hid hf
 clear hcm E h hf
 go_enter Tryz.func75,Tryz.ntmps75
 go_wp2
 go_loopw [6,9] (fun _ i wr=>∃k:Nat,k≤l.length∧i=.int .i64 k∧(l.take k).all p=true∧Below w.heap.size w wr) (fun _ i _=>l.length - (intOf i).toNat)
 case atStart=>exact ⟨0,Nat.zero_le _,rfl,rfl,Below.refl _ _⟩
 case round=>
  obtain ⟨k,hk,rfl,hall,hbel⟩:=hrel
  have HA:=Lib.hid hall
  have HB:=Lib.hid hbel
  clear hall
  by_cases hlt:k < l.length
  ·obtain ⟨_,_,_,hat⟩:=rdAtms_at (rdAtms_good.below H.out hbel)
   obtain ⟨ad,rfl,had,h0,h1,h2⟩:=hat k hlt
   have i0:(0:Int)≤(k:Int):=by omega
   have i1:(k:Int) < (l.length:Int):=by omega
   have ST:=Lib.hid (fun hf=>all_step6 (f:=p) hlt HA.out hf)
   have SP:=Lib.hid (fun hf=>all_stop6 (f:=p) hlt hf)
   generalize l[k]=x at *
   have BX:=Lib.hid (show Below wr.heap.size wr (wr.alloc (.cells #[.string x.n,.int .i64 x.o,.string x.v] 109)) from (Below.refl _ wr).alloc (Nat.le_refl _) _)
   have K:=Lib.hid (KF.out x (wr.alloc (.cells #[.string x.n,.int .i64 x.o,.string x.v] 109)) ((HE.out.below HB.out).below BX.out))
   generalize p x=b at *
   clear had hat hbel
   go_wp2_with fail
   refine K.out.mono ?_
   rintro e w' ⟨rfl,hb⟩
   have HB2:=Lib.hid (HB.out.trans ((BX.out.trans (hb.mono BX.out.size)).mono HB.out.size))
   clear hb h0 h1 h2
   cases b
   ·have XX:=Lib.hid (SP.out rfl)
    go_wp2
    go_ret
    exact ⟨by rw [XX.out];try rfl,HB2.out⟩
   have NX:=Lib.hid (ST.out rfl)
   go_wp2
   go_roundw
   case rel=>exact ⟨k+1,by omega,by go_num,NX.out,HB2.out⟩
   case measure=>simp [intOf];omega
  ·obtain rfl:k=l.length:=by omega
   have FIN:=Lib.hid (show l.all p=true by have:=HA.out;rw [List.take_length] at this;exact this)
   clear hbel
   go_wp2
   go_ret
   exact ⟨by rw [FIN.out];try rfl,HB.out⟩
end Go.Proofs.YtboinnjncaehkaaGreatDoor
namespace Go.Proofs.YtboinnjncaehkaaGreatDoor
open Go.RowKit Go.Sort
set_option maxHeartbeats 4000000 in
theorem turned7_any (A:Option Addr) (n c:Nat) (l:List Hr) (A':Option Addr) (n' c':Nat) (m:List Hr) (w:World) (h:rdHrs w (lt_ w.heap.size) l [.slice A n c]) (h':rdHrs w (lt_ w.heap.size) m [.slice A' n' c']) (hl:l.length≤200) (hm:m.length≤200) :
  Calls Tryz.prog 28 #[.slice A n c,.slice A' n' c'] w (NmW w (tuH l m)):=by
 have K:=Lib.hid (turned0_any A n c l A' n' c' m w h h' hl hm)
 clear h h' hl hm
 go_enter Tryz.func28,Tryz.ntmps28
 go_wp2_with fail
 refine K.out.mono ?_
 rintro e w1 ⟨⟨A1,n1,c1,rfl,hr⟩,hb⟩
 have F:=Lib.hid (show NmW w (tuH l m) (.returned (.slice A1 n1 c1)) w1 from ⟨⟨_,_,_,rfl,hr⟩,hb⟩)
 clear hr hb K
 go_wp2
 go_ret
 exact F.out
end Go.Proofs.YtboinnjncaehkaaGreatDoor
