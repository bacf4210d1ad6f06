/- What the laws rest on: P7b, E7u, P7c, P8r, P8s, P8t, P8u, P8v. -/
import Derived.RangeFuncNested
import Derived.RangeFuncBound
import Derived.RangeFuncCalls
import Derived.RangeFuncLeaves
import Derived.Shelf.Abstract
import Derived.Shelf.RegionOpen
import Derived.TacticsInMore
import Derived.LoopNIn
import Derived.LoopIn
import Derived.Deep.CutRange
import Derived.IntWalk
import Derived.Lib.SplitLaws
import Derived.Shelf.Strings.BuilderX
import Derived.Lib.Builder
import Derived.Lib.AppendStr
import Derived.Lib.UnsafeStr
import Derived.Lib.MakeNoZero
import Derived.Laws.Externs
import Derived.Laws.IdiomCopy
import Derived.Shelf.Spec.SlicesInsertGrow
import Derived.Test.YtboinnjncaehkaaGreatDoorQAKZA
import Derived.Test.YtboinnjncaehkaaGreatDoorQAWZA
set_option maxRecDepth 100000
set_option linter.unusedVariables false
set_option linter.unusedSimpArgs false
namespace Go.Proofs.YtboinnjncaehkaaGreatDoor
open Go.RowKit Go.Sort
set_option maxHeartbeats 4000000 in
theorem with1_any (r s:HrV) (q:Nat) (w:World) (hq:q < w.heap.size) (hc:∀j v,s.cs[j]?=some v→w.cell? ⟨q,j,none⟩=some v) :
  Calls Tryz.prog 51 #[.agg r.cs.toArray,.pointer (some ⟨q,0,none⟩)] w fun e w'=>e=.returned (.bool (Op.bytesLess s.x.e.n.toList r.x.e.n.toList))∧Gw w w':=by
 have KN1:=Lib.hid (fun (W:World)=>name_any r W)
 have KN2:=Lib.hid (fun (W:World)=>name_any s W)
 have hor:=le_or r.x.e.n s.x.e.n
 obtain ⟨V,hV⟩:∃V,V=w.alloc (.cells r.cs.toArray 36):=⟨_,rfl⟩
 have hbx1:=bx8_of (W:=V) (b:=w.heap.size) (r:=r) (by rw [hV,World.size_alloc];exact Nat.lt_succ_self _) (by rw [hV];exact box8_new w r 36)
 have hbx2:=bx8_of (W:=V) (b:=q) (r:=s) (by rw [hV,World.size_alloc];omega) (by rw [hV];exact old8 _ hc)
 have GA:=Lib.hid (show Gw w V by rw [hV];exact Gw.alloc w _)
 generalize hb:w.heap.size=b at *
 obtain ⟨⟨⟨n,v,d,r,e,p⟩,a,h⟩,A1,c1,A2,c2,A3,c3,A4,c4⟩:=r
 obtain ⟨⟨⟨n2,v2,d2,r2,e2,p2⟩,a2,h2⟩,A12,c12,A22,c22,A32,c32,A42,c42⟩:=s
 unfold Bx8 at hbx1 hbx2
 have c10:=fun n os=>(hbx1 n os).1
 have c11:=fun n os=>(hbx1 n os).2.1
 have c12:=fun n os=>(hbx1 n os).2.2.1
 have c13:=fun n os=>(hbx1 n os).2.2.2.1
 have c14:=fun n os=>(hbx1 n os).2.2.2.2.1
 have c15:=fun n os=>(hbx1 n os).2.2.2.2.2.1
 have c16:=fun n os=>(hbx1 n os).2.2.2.2.2.2.1
 have c17:=fun n os=>(hbx1 n os).2.2.2.2.2.2.2
 clear hbx1
 simp only at c10 c11 c12 c13 c14 c15 c16 c17
 have c20:=fun n os=>(hbx2 n os).1
 have c21:=fun n os=>(hbx2 n os).2.1
 have c22:=fun n os=>(hbx2 n os).2.2.1
 have c23:=fun n os=>(hbx2 n os).2.2.2.1
 have c24:=fun n os=>(hbx2 n os).2.2.2.2.1
 have c25:=fun n os=>(hbx2 n os).2.2.2.2.2.1
 have c26:=fun n os=>(hbx2 n os).2.2.2.2.2.2.1
 have c27:=fun n os=>(hbx2 n os).2.2.2.2.2.2.2
 clear hbx2
 simp only at c20 c21 c22 c23 c24 c25 c26 c27
 simp only at hor ⊢
 unfold HrV.cs at *
 clear hc hq
 have HV:=Lib.hid hV
 clear hV
 generalize Op.bytesLess n2.toList n.toList=dd at *
 cases h1:Op.bytesLess n.toList n2.toList
 ·rw [h1,Bool.false_or] at hor
  have mixed:Tryz.prog.follows .mixedOrders=true:=by kernel_rfl
  go_enter Tryz.func51,Tryz.ntmps51
  go_wp2_with fail
  rw [←HV.out]
  go_quiet_grown (first|(go_at_call 33;first|(with_reducible refine Calls.grown_of (KN1.out _))|(with_reducible refine Calls.grown_of (KN2.out _))))
  go_wp2
  go_ret
  exact ⟨by cases dd<;>rfl,GA.out.trans (Gw.grow _ _ _)⟩
 ·obtain rfl:dd=false:=by rw [h1] at hor;cases dd<;>simp_all
  clear hor
  have mixed:Tryz.prog.follows .mixedOrders=true:=by kernel_rfl
  go_enter Tryz.func51,Tryz.ntmps51
  go_wp2_with fail
  rw [←HV.out]
  go_quiet_grown (first|(go_at_call 33;first|(with_reducible refine Calls.grown_of (KN1.out _))|(with_reducible refine Calls.grown_of (KN2.out _))))
  go_wp2
  go_ret
  exact ⟨rfl,GA.out.trans (Gw.grow _ _ _)⟩
end Go.Proofs.YtboinnjncaehkaaGreatDoor
namespace Go.Proofs.YtboinnjncaehkaaGreatDoor
open Go.RowKit
def FdW (w:World) (o:Option Hr) (e:Ending) (w':World):Prop:=(∃A1 c1 A2 c2 A3 c3 A4 c4,e=.returned (.tuple #[(o.getD nil7).val A1 c1 A2 c2 A3 c3 A4 c4,.bool o.isSome])∧EntV w' (lt_ w'.heap.size) (o.getD nil7).e A1 c1 A2 c2 A3 c3 A4 c4)∧Below w.heap.size w w'
structure Con7 (Ev:World→Prop) (RD:List Fd→Int × Ent) (PR:List (List Fd)→ByteArray):Prop where
 below:∀{w w':World},Ev w→Below w.heap.size w w'→Ev w'
 find:∀(A:Option Addr) (n c:Nat) (l:List Hr) (nm:ByteArray) (w:World),rdHrs w (lt_ w.heap.size) l [.slice A n c]→Ev w→Calls Tryz.prog 18 #[.slice A n c,.string nm] w (FdW w (fdH l nm))
 wo:∀(A:Option Addr) (n c:Nat) (l:List Hr) (nm:ByteArray) (w:World),rdHrs w (lt_ w.heap.size) l [.slice A n c]→Ev w→l.length≤200→Calls Tryz.prog 25 #[.slice A n c,.string nm] w (LsW w (woH l nm))
 wi:∀(A:Option Addr) (n c:Nat) (l:List Hr) (x:Hr) (A1:Option Addr) (c1:Nat) (A2:Option Addr) (c2:Nat) (A3:Option Addr) (c3:Nat) (A4:Option Addr) (c4:Nat) (w:World),rdHrs w (lt_ w.heap.size) l [.slice A n c]→EntV w (lt_ w.heap.size) x.e A1 c1 A2 c2 A3 c3 A4 c4→Ev w→l.length≤199→Calls Tryz.prog 23 #[.slice A n c,x.val A1 c1 A2 c2 A3 c3 A4 c4] w (LsW w (wiH l x))
 mark:∀(A:Option Addr) (n c:Nat) (l:List Hr) (nm:ByteArray) (a h:Bool) (w:World),rdHrs w (lt_ w.heap.size) l [.slice A n c]→Ev w→l.length≤200→Calls Tryz.prog 20 #[.slice A n c,.string nm,.bool a,.bool h] w (MkW w (mkL nm a h l) (mkE nm a h l))
 turned:∀(A:Option Addr) (n c:Nat) (l:List Hr) (A':Option Addr) (n' c':Nat) (m:List Hr) (w:World),rdHrs w (lt_ w.heap.size) l [.slice A n c]→rdHrs w (lt_ w.heap.size) m [.slice A' n' c']→Ev w→l.length≤90→m.length≤90→Calls Tryz.prog 28 #[.slice A n c,.slice A' n' c'] w (NmW w (tuH l m))
 right:∀(A:Option Addr) (n c:Nat) (l:List Hr) (w:World),rdHrs w (lt_ w.heap.size) l [.slice A n c]→Ev w→Calls Tryz.prog 14 #[.slice A n c] w fun e w'=>e=.returned (.bool (rightH l))∧Below w.heap.size w w'
 print:∀(A:Option Addr) (n c:Nat) (l:List Hr) (w:World),rdHrs w (lt_ w.heap.size) l [.slice A n c]→Ev w→Calls Tryz.prog 16 #[.slice A n c] w fun e w'=>e=.returned (.string (prH PR l))∧Below w.heap.size w w'
 parse:∀(s:ByteArray) (w:World),Ev w→Calls Tryz.prog 10 #[.string s] w (PaR w (paD RD (B s)))
set_option maxHeartbeats 16000000 in
theorem shown7_any {Ev:World→Prop} {RD:List Fd→Int × Ent} {PR:List (List Fd)→ByteArray} (C:Con7 Ev RD PR) (X1:paD RD (B { data:=#[80,97,99,107,97,103,101,58,32,99,100,10,86,101,114,115,105,111,110,58,32,49,10,65,117,116,111,58,32,121,101,115,10,10,80,97,99,107,97,103,101,58,32,97,98,10,86,101,114,115,105,111,110,58,32,50,10] })=(exL,0,0)) (X2:paD RD (B { data:=#[80,97,99,107,97,103,101,58,32,99,100,10,86,101,114,115,105,111,110,58,32,49,10,65,117,116,111,58,32,109,97,121,98,101] })=([],1,5)) (w:World) (E:Ev w) :
  Calls Tryz.prog 9 #[] w fun e w'=>e=.returned (.bool true)∧Below w.heap.size w w':=by
 have HC:=Lib.hid C
 have HE:=Lib.hid E
 have K1:=Lib.hid (by have:=C.parse { data:=#[80,97,99,107,97,103,101,58,32,99,100,10,86,101,114,115,105,111,110,58,32,49,10,65,117,116,111,58,32,121,101,115,10,10,80,97,99,107,97,103,101,58,32,97,98,10,86,101,114,115,105,111,110,58,32,50,10] } w E;rw [X1] at this;exact this)
 have K2:=Lib.hid (fun (W:World) (hb:Below w.heap.size w W)=>(by have:=C.parse { data:=#[80,97,99,107,97,103,101,58,32,99,100,10,86,101,114,115,105,111,110,58,32,49,10,65,117,116,111,58,32,109,97,121,98,101] } W (C.below E hb);rw [X2] at this;exact this:Calls Tryz.prog 10 #[.string { data:=#[80,97,99,107,97,103,101,58,32,99,100,10,86,101,114,115,105,111,110,58,32,49,10,65,117,116,111,58,32,109,97,121,98,101] }] W (PaR W ([],1,5))))
 clear C E X1 X2
 go_enter Tryz.func9,Tryz.ntmps9
 go_wp2_with fail
 refine K1.out.mono ?_
 rintro e w1 ⟨⟨A,n,c,rfl,hr⟩,hb⟩
 have B1:=Lib.hid hb
 have H1:=Lib.hid hr
 clear hb hr K1
 go_wp2_with fail
 refine (K2.out w1 B1.out).mono ?_
 rintro e w2 ⟨⟨A',n',c',rfl,-⟩,hb⟩
 have V2:=Lib.hid hb
 have B2:=Lib.hid (bel_in B1.out hb)
 have H2:=Lib.hid (rdHrs_good.up (rdHrs_good.below H1.out hb) hb.size)
 clear hb K2
 have K3:=Lib.hid (by have:=HC.out.mark A n c exL { data:=#[101,102] } true true w2 H2.out (HC.out.below HE.out B2.out) (by decide);rw [ex7_mk] at this;exact this)
 go_wp2_with fail
 refine K3.out.mono ?_
 rintro e w3 ⟨⟨A3,n3,c3,rfl,-⟩,hb⟩
 have B3:=Lib.hid (bel_in B2.out hb)
 have H3:=Lib.hid (rdHrs_good.up (rdHrs_good.below H2.out hb) hb.size)
 clear hb K3
 obtain ⟨w4,hw4⟩:∃W,W=w3.alloc (.cells #[.string { data:=#[97,98] },.string { data:=#[50] },.slice none 0 0,.slice none 0 0,.slice none 0 0,.slice none 0 0,.bool false,.bool false,.string { data:=#[99,100] },.string { data:=#[49] },.slice none 0 0,.slice none 0 0,.slice none 0 0,.slice none 0 0,.bool true,.bool false] 36):=⟨_,rfl⟩
 have hb4:Below w3.heap.size w3 w4:=by rw [hw4];exact (Below.refl _ _).alloc (Nat.le_refl _) _
 have B4:=Lib.hid (bel_in B3.out hb4)
 have H4:=Lib.hid (rdHrs_good.up (rdHrs_good.below H3.out hb4) hb4.size)
 have HX:=Lib.hid (show rdHrs w4 (lt_ w4.heap.size) exL [.slice (some ⟨w3.heap.size,0,none⟩) 2 2] by rw [hw4];exact rd_exL w3 _ (by unfold lt_;rw [World.size_alloc];omega))
 have K4:=Lib.hid (by have:=sameAll7_any A (some ⟨w3.heap.size,0,none⟩) n c 2 2 exL exL w4 H4.out HX.out;rw [decide_eq_true rfl] at this;exact this)
 have SX:=Lib.hid hw4
 clear hb4 hw4
 go_wp2_with fail
 rw [←SX.out]
 clear SX
 refine K4.out.mono ?_
 rintro e w5 ⟨rfl,hb⟩
 have B5:=Lib.hid (bel_in B4.out hb)
 have H5:=Lib.hid (rdHrs_good.up (rdHrs_good.below H4.out hb) hb.size)
 clear hb K4
 have K5:=Lib.hid (HC.out.wo A n c exL { data:=#[97,98] } w5 H5.out (HC.out.below HE.out B5.out) (by decide))
 go_wp2_with fail
 refine K5.out.mono ?_
 rintro e w6 ⟨⟨A6,n6,c6,rfl,hr6⟩,hb⟩
 have B6:=Lib.hid (bel_in B5.out hb)
 have H6:=Lib.hid (rdHrs_good.up (rdHrs_good.below H5.out hb) hb.size)
 have K6:=Lib.hid (by have:=HC.out.turned A n c exL A6 n6 c6 _ w6 H6.out hr6 (HC.out.below HE.out B6.out) (by decide) (by decide);rw [ex7_tu] at this;exact this)
 clear hb hr6 K5
 go_wp2_with fail
 refine K6.out.mono ?_
 rintro e w7 ⟨⟨A7,n7,c7,rfl,hr7⟩,hb⟩
 have B7:=Lib.hid (bel_in B6.out hb)
 have H7:=Lib.hid hr7
 clear hb hr7 K6
 obtain ⟨w8,hw8⟩:∃W,W=w7.alloc (.cells #[.string { data:=#[97,98] }] 9):=⟨_,rfl⟩
 have hb8:Below w7.heap.size w7 w8:=by rw [hw8];exact (Below.refl _ _).alloc (Nat.le_refl _) _
 have B8:=Lib.hid (bel_in B7.out hb8)
 have HY:=Lib.hid (show rdNms w8 (lt_ w8.heap.size) [{ data:=#[97,98] }] [.slice (some ⟨w7.heap.size,0,none⟩) 1 1] by rw [hw8];exact rd_ab w7 _ (by unfold lt_;rw [World.size_alloc];omega))
 have K8:=Lib.hid (by have:=sameTexts7_any A7 (some ⟨w7.heap.size,0,none⟩) n7 c7 1 1 _ _ w8 (rdNms_good.up (rdNms_good.below H7.out hb8) hb8.size) HY.out;rw [decide_eq_true rfl] at this;exact this)
 have SY:=Lib.hid hw8
 clear hb8 hw8
 go_wp2_with fail
 rw [←SY.out]
 clear SY
 refine K8.out.mono ?_
 rintro e w9 ⟨rfl,hdr⟩
 go_wp2
 go_ret
 exact ⟨rfl,bel_in B8.out (hdr.below _)⟩
end Go.Proofs.YtboinnjncaehkaaGreatDoor
namespace Go.Proofs.YtboinnjncaehkaaGreatDoor
open Go.RowKit Go.Sort
set_option maxHeartbeats 4000000 in
theorem find7_any (A:Option Addr) (n c:Nat) (l:List Hr) (nm:ByteArray) (w:World) (h:rdHrs w (lt_ w.heap.size) l [.slice A n c]) :
  Calls Tryz.prog 18 #[.slice A n c,.string nm] w (FdW w (fdH l nm)):=by
 obtain ⟨rfl,hnc,hcm,-⟩:=rdHrs_at h
 have hcm':c≤9223372036854775807:=hcm
 obtain ⟨V,hV⟩:∃V,V=w.alloc (.cells #[.string { data:=#[] },.string { data:=#[] },.slice none 0 0,.slice none 0 0,.slice none 0 0,.slice none 0 0,.bool false,.bool false] 36):=⟨_,rfl⟩
 have B1:Below w.heap.size w V:=by rw [hV];exact (Below.refl w.heap.size w).alloc (Nat.le_refl _) _
 have H0:=Lib.hid h
 have h1:=rdHrs_good.up (rdHrs_good.below h B1) B1.size
 have C:=Lib.hid (placeh_any A l.length c l nm _ h1)
 have H:=Lib.hid h1
 have HB:=Lib.hid B1
 have HV:=Lib.hid hV
 clear h hcm B1 h1 hV
 rcases fd_ix (l:=l) (nm:=nm) with ⟨e1,e2⟩|⟨k,hk,e1,-,-,e2⟩
 ·rw [e2] at C
  rw [e1]
  clear e1 e2
  go_enter Tryz.func18,Tryz.ntmps18
  go_wp2_with fail
  rw [←HV.out]
  refine C.out.mono ?_
  rintro e w2 ⟨rfl,hb2⟩
  have B2:=Lib.hid (bel_in HB.out hb2)
  have r0:=keep6 hb2 (show V.cell? ⟨w.heap.size,0,none⟩=some (.string { data:=#[] }) from by rw [HV.out];simp [go_sem])
  have f0:=(hb2.frozen (p:=⟨w.heap.size,0,none⟩) (by show w.heap.size < V.heap.size;rw [HV.out,World.size_alloc];omega)).trans (show V.frozen? ⟨w.heap.size,0,none⟩=false from by rw [HV.out];simp [go_sem])
  have r1:=keep6 hb2 (show V.cell? ⟨w.heap.size,1,none⟩=some (.string { data:=#[] }) from by rw [HV.out];simp [go_sem])
  have f1:=(hb2.frozen (p:=⟨w.heap.size,1,none⟩) (by show w.heap.size < V.heap.size;rw [HV.out,World.size_alloc];omega)).trans (show V.frozen? ⟨w.heap.size,1,none⟩=false from by rw [HV.out];simp [go_sem])
  have r2:=keep6 hb2 (show V.cell? ⟨w.heap.size,2,none⟩=some (.slice none 0 0) from by rw [HV.out];simp [go_sem])
  have f2:=(hb2.frozen (p:=⟨w.heap.size,2,none⟩) (by show w.heap.size < V.heap.size;rw [HV.out,World.size_alloc];omega)).trans (show V.frozen? ⟨w.heap.size,2,none⟩=false from by rw [HV.out];simp [go_sem])
  have r3:=keep6 hb2 (show V.cell? ⟨w.heap.size,3,none⟩=some (.slice none 0 0) from by rw [HV.out];simp [go_sem])
  have f3:=(hb2.frozen (p:=⟨w.heap.size,3,none⟩) (by show w.heap.size < V.heap.size;rw [HV.out,World.size_alloc];omega)).trans (show V.frozen? ⟨w.heap.size,3,none⟩=false from by rw [HV.out];simp [go_sem])
  have r4:=keep6 hb2 (show V.cell? ⟨w.heap.size,4,none⟩=some (.slice none 0 0) from by rw [HV.out];simp [go_sem])
  have f4:=(hb2.frozen (p:=⟨w.heap.size,4,none⟩) (by show w.heap.size < V.heap.size;rw [HV.out,World.size_alloc];omega)).trans (show V.frozen? ⟨w.heap.size,4,none⟩=false from by rw [HV.out];simp [go_sem])
  have r5:=keep6 hb2 (show V.cell? ⟨w.heap.size,5,none⟩=some (.slice none 0 0) from by rw [HV.out];simp [go_sem])
  have f5:=(hb2.frozen (p:=⟨w.heap.size,5,none⟩) (by show w.heap.size < V.heap.size;rw [HV.out,World.size_alloc];omega)).trans (show V.frozen? ⟨w.heap.size,5,none⟩=false from by rw [HV.out];simp [go_sem])
  have r6:=keep6 hb2 (show V.cell? ⟨w.heap.size,6,none⟩=some (.bool false) from by rw [HV.out];simp [go_sem])
  have f6:=(hb2.frozen (p:=⟨w.heap.size,6,none⟩) (by show w.heap.size < V.heap.size;rw [HV.out,World.size_alloc];omega)).trans (show V.frozen? ⟨w.heap.size,6,none⟩=false from by rw [HV.out];simp [go_sem])
  have r7:=keep6 hb2 (show V.cell? ⟨w.heap.size,7,none⟩=some (.bool false) from by rw [HV.out];simp [go_sem])
  have f7:=(hb2.frozen (p:=⟨w.heap.size,7,none⟩) (by show w.heap.size < V.heap.size;rw [HV.out,World.size_alloc];omega)).trans (show V.frozen? ⟨w.heap.size,7,none⟩=false from by rw [HV.out];simp [go_sem])
  clear hb2
  obtain ⟨k0,k1,k2,k3,k4,k5,k6,k7,bW,oW,-⟩:=fin8 (x0:=.string { data:=#[] }) (x1:=.string { data:=#[] }) (x2:=.slice none 0 0) (x3:=.slice none 0 0) (x4:=.slice none 0 0) (x5:=.slice none 0 0) (x6:=.bool false) (x7:=.bool false) B2.out (Nat.le_refl _) r0 r1 r2 r3 r4 r5 r6 r7
  have KK:=Lib.hid (And.intro k0 (And.intro k1 (And.intro k2 (And.intro k3 (And.intro k4 (And.intro k5 (And.intro k6 (And.intro k7 bW))))))))
  clear k0 k1 k2 k3 k4 k5 k6 k7 bW oW
  clear C H HB
  go_wp2
  obtain ⟨k0,k1,k2,k3,k4,k5,k6,k7,bW⟩:=KK.out
  exact bodyPost_ret (v:=.tuple #[.agg #[.string { data:=#[] },.string { data:=#[] },.slice none 0 0,.slice none 0 0,.slice none 0 0,.slice none 0 0,.bool false,.bool false],.bool false]) (by simp [results,Tryz.results18,go_sem,k0,k1,k2,k3,k4,k5,k6,k7]) rfl ⟨⟨none,0,none,0,none,0,none,0,rfl,⟨rdRow_nil _ _,rdRow_nil _ _,rdRow_nil _ _,rdRow_nil _ _⟩⟩,bW⟩
 ·rw [e2,Nat.zero_add] at C
  generalize hxx:l[k]=x at e1
  obtain ⟨⟨n,v,d,r,e,p⟩,a,hh⟩:=x
  rw [e1]
  clear e1 e2
  have HX:=Lib.hid hxx
  clear hxx
  have t0:¬((k:Int) < 0):=by omega
  have t1:(0:Int)≤(k:Int):=by omega
  have t2:(k:Int) < (l.length:Int):=by omega
  go_enter Tryz.func18,Tryz.ntmps18
  go_wp2_with fail
  rw [←HV.out]
  refine C.out.mono ?_
  rintro e' w2 ⟨rfl,hb2⟩
  have B2:=Lib.hid (bel_in HB.out hb2)
  obtain ⟨_,_,_,ha⟩:=rdHrs_at (rdHrs_good.below H0.out B2.out)
  obtain ⟨ad,A1,c1,A2,c2,A3,c3,A4,c4,rfl,had,hv,g0,g1,g2,g3,g4,g5,g6,g7⟩:=ha k hk
  have r0:=keep6 hb2 (show V.cell? ⟨w.heap.size,0,none⟩=some (.string { data:=#[] }) from by rw [HV.out];simp [go_sem])
  have f0:=(hb2.frozen (p:=⟨w.heap.size,0,none⟩) (by show w.heap.size < V.heap.size;rw [HV.out,World.size_alloc];omega)).trans (show V.frozen? ⟨w.heap.size,0,none⟩=false from by rw [HV.out];simp [go_sem])
  have r1:=keep6 hb2 (show V.cell? ⟨w.heap.size,1,none⟩=some (.string { data:=#[] }) from by rw [HV.out];simp [go_sem])
  have f1:=(hb2.frozen (p:=⟨w.heap.size,1,none⟩) (by show w.heap.size < V.heap.size;rw [HV.out,World.size_alloc];omega)).trans (show V.frozen? ⟨w.heap.size,1,none⟩=false from by rw [HV.out];simp [go_sem])
  have r2:=keep6 hb2 (show V.cell? ⟨w.heap.size,2,none⟩=some (.slice none 0 0) from by rw [HV.out];simp [go_sem])
  have f2:=(hb2.frozen (p:=⟨w.heap.size,2,none⟩) (by show w.heap.size < V.heap.size;rw [HV.out,World.size_alloc];omega)).trans (show V.frozen? ⟨w.heap.size,2,none⟩=false from by rw [HV.out];simp [go_sem])
  have r3:=keep6 hb2 (show V.cell? ⟨w.heap.size,3,none⟩=some (.slice none 0 0) from by rw [HV.out];simp [go_sem])
  have f3:=(hb2.frozen (p:=⟨w.heap.size,3,none⟩) (by show w.heap.size < V.heap.size;rw [HV.out,World.size_alloc];omega)).trans (show V.frozen? ⟨w.heap.size,3,none⟩=false from by rw [HV.out];simp [go_sem])
  have r4:=keep6 hb2 (show V.cell? ⟨w.heap.size,4,none⟩=some (.slice none 0 0) from by rw [HV.out];simp [go_sem])
  have f4:=(hb2.frozen (p:=⟨w.heap.size,4,none⟩) (by show w.heap.size < V.heap.size;rw [HV.out,World.size_alloc];omega)).trans (show V.frozen? ⟨w.heap.size,4,none⟩=false from by rw [HV.out];simp [go_sem])
  have r5:=keep6 hb2 (show V.cell? ⟨w.heap.size,5,none⟩=some (.slice none 0 0) from by rw [HV.out];simp [go_sem])
  have f5:=(hb2.frozen (p:=⟨w.heap.size,5,none⟩) (by show w.heap.size < V.heap.size;rw [HV.out,World.size_alloc];omega)).trans (show V.frozen? ⟨w.heap.size,5,none⟩=false from by rw [HV.out];simp [go_sem])
  have r6:=keep6 hb2 (show V.cell? ⟨w.heap.size,6,none⟩=some (.bool false) from by rw [HV.out];simp [go_sem])
  have f6:=(hb2.frozen (p:=⟨w.heap.size,6,none⟩) (by show w.heap.size < V.heap.size;rw [HV.out,World.size_alloc];omega)).trans (show V.frozen? ⟨w.heap.size,6,none⟩=false from by rw [HV.out];simp [go_sem])
  have r7:=keep6 hb2 (show V.cell? ⟨w.heap.size,7,none⟩=some (.bool false) from by rw [HV.out];simp [go_sem])
  have f7:=(hb2.frozen (p:=⟨w.heap.size,7,none⟩) (by show w.heap.size < V.heap.size;rw [HV.out,World.size_alloc];omega)).trans (show V.frozen? ⟨w.heap.size,7,none⟩=false from by rw [HV.out];simp [go_sem])
  have S2:=Lib.hid hb2.size
  clear hb2 ha
  have HA:=Lib.hid had
  rw [HX.out] at hv
  have HVV:=Lib.hid hv
  clear had hv
  simp only [HX.out] at g0 g1 g2 g3 g4 g5 g6 g7
  obtain ⟨k0,k1,k2,k3,k4,k5,k6,k7,bW,oW,-⟩:=fin8 (x0:=.string n) (x1:=.string v) (x2:=.slice A1 d.length c1) (x3:=.slice A2 r.length c2) (x4:=.slice A3 e.length c3) (x5:=.slice A4 p.length c4) (x6:=.bool a) (x7:=.bool hh) B2.out (Nat.le_refl _) r0 r1 r2 r3 r4 r5 r6 r7
  have KK:=Lib.hid (And.intro k0 (And.intro k1 (And.intro k2 (And.intro k3 (And.intro k4 (And.intro k5 (And.intro k6 (And.intro k7 bW))))))))
  have HE:=Lib.hid (HVV.out.to (S':=lt_ (set8 w2 w.heap.size (.string n) (.string v) (.slice A1 d.length c1) (.slice A2 r.length c2) (.slice A3 e.length c3) (.slice A4 p.length c4) (.bool a) (.bool hh)).heap.size) (fun b hb=>oW b (Nat.ne_of_lt hb)) (fun b hb=>by unfold lt_;rw [show (set8 w2 w.heap.size (.string n) (.string v) (.slice A1 d.length c1) (.slice A2 r.length c2) (.slice A3 e.length c3) (.slice A4 p.length c4) (.bool a) (.bool hh)).heap.size=w2.heap.size by simp];exact Nat.lt_of_lt_of_le hb B2.out.size))
  clear k0 k1 k2 k3 k4 k5 k6 k7 bW oW
  clear C H HB H0 HVV HA S2
  go_wp2
  obtain ⟨k0,k1,k2,k3,k4,k5,k6,k7,bW⟩:=KK.out
  exact bodyPost_ret (v:=.tuple #[.agg #[.string n,.string v,.slice A1 d.length c1,.slice A2 r.length c2,.slice A3 e.length c3,.slice A4 p.length c4,.bool a,.bool hh],.bool true]) (by simp [results,Tryz.results18,go_sem,k0,k1,k2,k3,k4,k5,k6,k7]) rfl ⟨⟨A1,c1,A2,c2,A3,c3,A4,c4,rfl,HE.out⟩,bW⟩
theorem run_copyN (w:World) (dT sT ty elem:TypeId) (sz b o dLen dCap:Nat) (a:Addr) (sLen sCap:Nat) (cs:List Value) (hu:Tryz.prog.underlying dT=some (.slice elem)) (hs:(Tryz.prog.info? elem).map (·.size)=some sz)
  (hn:cs.length=Nat.min sLen dLen*sz) (hsrc:∀j v,cs[j]?=some v→w.cell? (a.add j)=some v)
  (hc:∀j,j < cs.length→(w.cell? ⟨b,o+j,none⟩).isSome=true) (hf:∀j,j < cs.length→w.frozen? ⟨b,o+j,none⟩=false) (h1:∀v ∈ cs,v.oneCell'=true) :
  (Builtin.copy_ #[dT,sT] ty #[.slice (some ⟨b,o,none⟩) dLen dCap,.slice (some a) sLen sCap]).run Tryz.prog w=.ok (goInt (Nat.min sLen dLen)) (w.setCells b o cs):=by
 have hl:=run_loadCells_list (P:=Tryz.prog) w a cs hsrc
 have hst:=run_storeCells_cells (P:=Tryz.prog) b o cs 0 w (by simpa using hc) (by simpa using hf) h1
 cases hq:Tryz.prog.info? elem with
 | none=>simp [hq] at hs
 | some i=>
  have hi:i.size=sz:=by simpa [hq] using hs
  simp [Builtin.copy_,run_underlying hu,Builtin.lenOf,Builtin.firstCells,sizeOf,typeInfo,hq,hi,←hn,hl,hst]
def row0 (G n i:Nat) (cs:List Value):Array Value:=(cs.take (i*8)).toArray++Builtin.zeroCells (Value.cells (.agg #[.string { data:=#[] },.string { data:=#[] },.slice none 0 0,.slice none 0 0,.slice none 0 0,.slice none 0 0,.bool false,.bool false]:Value)) (n+1 - i)++Builtin.zeroCells (Value.cells (.agg #[.string { data:=#[] },.string { data:=#[] },.slice none 0 0,.slice none 0 0,.slice none 0 0,.slice none 0 0,.bool false,.bool false]:Value)) (G - (n+1))
theorem row0_size {G n i:Nat} {cs:List Value} (hc:cs.length=n*8) (hi:i < n) (hG:n+1≤G):(row0 G n i cs).size=G*8:=by
 unfold row0
 simp [Builtin.zeroCells,Value.cells,List.length_take,hc]
 omega
def insW (w:World) (G n i:Nat) (cs vs:List Value):World:=(((w.alloc (.cells (row0 G n i cs) 36)).drew.setCells w.heap.size (i*8) vs).drew).setCells w.heap.size ((i+1)*8) (cs.drop (i*8))
set_option maxHeartbeats 2000000 in
theorem ins7_grow (b n c i vb:Nat) (cs vs:List Value) (w:World) (hi:i < n) (hnc:n≤c) (hroom:c < n+1) (hbig:n≤200)
  (hcl:cs.length=n*8) (hvl:vs.length=8)
  (hcs:∀j v,cs[j]?=some v→w.cell? ⟨b,j,none⟩=some v) (hvs:∀j v,vs[j]?=some v→w.cell? ⟨vb,j,none⟩=some v) (h1c:∀v ∈ cs,v.oneCell'=true) (h1v:∀v ∈ vs,v.oneCell'=true) :
  Calls Tryz.prog 52 #[.slice (some ⟨b,0,none⟩) n c,.int .i64 i,.slice (some ⟨vb,0,none⟩) 1 1] w fun e w'=>
   e=.returned (.slice (some ⟨w.heap.size,0,none⟩) (n+1) (grownCap w (n+1) c 36))∧w'=insW w (grownCap w (n+1) c 36) n i cs vs:=by
 have mixed:Tryz.prog.follows .mixedOrders=true:=by kernel_rfl
 obtain ⟨i0,hi0,hz0,hzs,hzb⟩:=info_parts here_info
 have hz2:¬((i:Int)=(n:Int)):=by omega
 have hz3:(c:Int) < (n:Int)+1:=by omega
 have hsz:(Tryz.prog.info? 36).map (·.size)=some 8:=by rw [hi0];simp [hzs]
 have hbw:b < w.heap.size:=block_lt_of_cell (hcs 0 _ (List.getElem?_eq_getElem (by omega)))
 have hvw:vb < w.heap.size:=block_lt_of_cell (hvs 0 _ (List.getElem?_eq_getElem (by omega)))
 have hold:(Builtin.firstCells i0.size i (.slice (some ⟨b,0,none⟩) i c)).run Tryz.prog w.drew=.ok (cs.take (i*8)).toArray w.drew:=by
  rw [hzs]
  exact run_firstCells_some w.drew 8 i ⟨b,0,none⟩ i c (cs.take (i*8)) (by rw [List.length_take,hcl];omega) (fun j v hj=>by
   rw [Addr.add_lit,Nat.zero_add]
   rw [List.getElem?_take] at hj
   split at hj
   ·exact hcs j v hj
   ·cases hj)
 have hrz:∀ty,(Builtin.append_ #[23,3] ty #[.slice (some ⟨b,0,none⟩) i c,.int .i64 ((n:Int)+1 - (i:Int))]).run Tryz.prog w =
   .ok (.slice (some ⟨w.heap.size,0,none⟩) (n+1) (grownCap w (n+1) c 36)) (w.drew.alloc (.cells (row0 (grownCap w (n+1) c 36) n i cs) 36)):=fun ty=>by
  have h:=Lib.run_append_grow_zeros w 23 3 ty 36 i0 _ .i64 .i64 Tryz.underlying23 Tryz.underlying3 hi0 hz0 (some ⟨b,0,none⟩) i c (cs.take (i*8)) hold (n+1 - i) (by omega) (by omega) (by omega) (by omega) (by rw [hzb];omega) (by rw [hzb,show i+(n+1 - i)=n+1 by omega];exact growslice_fits (by omega) (by omega))
  rw [show i+(n+1 - i)=n+1 by omega] at h
  rw [show (n:Int)+1 - (i:Int)=((n+1 - i:Nat):Int) by omega]
  exact h
 have hGn:n+1≤grownCap w (n+1) c 36:=grownCap_ge w _ _ _
 have hG63:grownCap w (n+1) c 36≤9223372036854775807:=by
  have:=grownCap_le_maxLen w (n+1) c 36 (by unfold maxLen;omega)
  unfold maxLen at this
  omega
 unfold insW
 generalize grownCap w (n+1) c 36=G at *
 have hRS:=row0_size (G:=G) hcl hi hGn
 generalize row0 G n i cs=ROW at *
 obtain ⟨W1,hW1⟩:∃W1,W1=w.drew.alloc (.cells ROW 36):=⟨_,rfl⟩
 rw [←hW1] at hrz
 have hN:∀j,j < (n+1)*8→(W1.cell? ⟨w.heap.size,j,none⟩).isSome=true:=fun j hj=>by
  rw [hW1,World.cell?_alloc_at (w:=w.drew) ROW _ w.heap.size j rfl,Array.getElem?_eq_getElem (by omega)];rfl
 have hNf:∀j,W1.frozen? ⟨w.heap.size,j,none⟩=false:=fun j=>by rw [hW1];exact World.frozen?_alloc_at (w:=w.drew) ROW _ w.heap.size j rfl
 have hOb:∀j v,w.cell? ⟨b,j,none⟩=some v→W1.cell? ⟨b,j,none⟩=some v:=fun j v h=>by rw [hW1,World.cell?_alloc_past (w:=w.drew) _ b j hbw];exact h
 have hOv:∀j v,w.cell? ⟨vb,j,none⟩=some v→W1.cell? ⟨vb,j,none⟩=some v:=fun j v h=>by rw [hW1,World.cell?_alloc_past (w:=w.drew) _ vb j hvw];exact h
 have hdl:(cs.drop (i*8)).length=(n - i)*8:=by rw [List.length_drop,hcl];omega
 have hcpA:∀(W:World),(∀x,W.cell? x=W1.cell? x)→(∀x,W.frozen? x=W1.frozen? x)→∀ty dc,(Builtin.copy_ #[23,23] ty #[.slice (some ⟨w.heap.size,i*8,none⟩) (n+1 - i) dc,.slice (some ⟨vb,0,none⟩) 1 1]).run Tryz.prog W=.ok (goInt (Nat.min 1 (n+1 - i))) (W.setCells w.heap.size (i*8) vs):=fun W hWc hWf ty dc=>
  run_copyN W _ _ ty 36 8 w.heap.size (i*8) (n+1 - i) dc ⟨vb,0,none⟩ 1 1 vs Tryz.underlying23 hsz (by rw [hvl];simp only [Nat.min_def];split<;>omega)
   (fun j v hj=>by rw [Addr.add_lit,Nat.zero_add,hWc];exact hOv _ v (hvs j v hj))
   (fun j hj=>by rw [hWc];exact hN _ (by omega)) (fun j hj=>by rw [hWf];exact hNf _) h1v
 have hcpB:∀(W:World),(∀x,W.cell? x=(W1.setCells w.heap.size (i*8) vs).cell? x)→(∀x,W.frozen? x=(W1.setCells w.heap.size (i*8) vs).frozen? x)→∀ty dc sc,(Builtin.copy_ #[23,23] ty #[.slice (some ⟨w.heap.size,(i+1)*8,none⟩) (n+1 - (i+1)) dc,.slice (some ⟨b,i*8,none⟩) (n - i) sc]).run Tryz.prog W=.ok (goInt (Nat.min (n - i) (n+1 - (i+1)))) (W.setCells w.heap.size ((i+1)*8) (cs.drop (i*8))):=fun W hWc hWf ty dc sc=>
  run_copyN W _ _ ty 36 8 w.heap.size ((i+1)*8) (n+1 - (i+1)) dc ⟨b,i*8,none⟩ (n - i) sc (cs.drop (i*8)) Tryz.underlying23 hsz (by rw [hdl];simp only [Nat.min_def];split<;>omega)
   (fun j v hj=>by
    rw [Addr.add_lit,hWc,World.cell?_setCells_out _ _ _ _ _ (fun h _=>absurd h (by show b≠w.heap.size;omega))]
    exact hOb _ v (hcs (i*8+j) v (by rwa [List.getElem?_drop] at hj)))
   (fun j hj=>by rw [hWc];exact isSome_setCells _ _ _ _ (fun t ht=>hN _ (by omega)) _ (hN _ (by omega)))
   (fun j hj=>by rw [hWf,World.frozen?_setCells];exact hNf _) (fun v hv=>h1c v (List.mem_of_mem_drop hv))
 subst hW1
 have hE1:∀x,((w.alloc (.cells ROW 36)).drew).cell? x=(w.drew.alloc (.cells ROW 36)).cell? x:=fun x=>rfl
 have hE2:∀x,((w.alloc (.cells ROW 36)).drew).frozen? x=(w.drew.alloc (.cells ROW 36)).frozen? x:=fun x=>rfl
 have hF1:∀x,(((w.alloc (.cells ROW 36)).drew.setCells w.heap.size (i*8) vs).drew).cell? x=((w.drew.alloc (.cells ROW 36)).setCells w.heap.size (i*8) vs).cell? x:=fun x=>rfl
 have hF2:∀x,(((w.alloc (.cells ROW 36)).drew.setCells w.heap.size (i*8) vs).drew).frozen? x=((w.drew.alloc (.cells ROW 36)).setCells w.heap.size (i*8) vs).frozen? x:=fun x=>rfl
 have hw1:IntKind.i64.wrap ((i:Int)+1)=(i:Int)+1:=by rw [IntKind.wrap_i64];omega
 have hb2:(i:Int)+1≤(n:Int)+1:=by omega
 have hGi:¬(G=i):=by omega
 have hGim:¬(G=i+1):=by omega
 have hci:¬(c=i):=by omega
 have hb1:(0:Int)≤(i:Int)+1:=by omega
 have hin:i≤n:=by omega
 have htn:((i:Int)+1).toNat=i+1:=by omega
 have hb3:(i:Int)≤(n:Int):=by omega
 have hcm:c≤9223372036854775807:=by omega
 clear hold hRS
 go_enter Tryz.func52,Tryz.ntmps52
 go_wp2_with (first
  | (at_builtin;refine Lib.wpList_append_run _ rfl _ _ _ _ rfl _ _ rfl rfl _ _ (hrz _) ?_)
  | (at_builtin;refine wpList_copy_runI _ rfl _ _ 23 23 rfl _ _ rfl rfl (hcpA _ hE1 hE2 _ _) ?_))
 go_region_law_o (refine step_copy_runI rfl _ _ 23 23 rfl (.slice (some ⟨w.heap.size,(i+1)*8,none⟩) (n+1 - (i+1)) (G - (i+1))) (.slice (some ⟨b,i*8,none⟩) (n - i) (c - i)) (by simp [Act.eval,Act.put]) (by simp [Act.eval,Act.put]) (hcpB _ hF1 hF2 3 (G - (i+1)) (c - i)) ?_)
 go_wp2
 go_ret
 exact ⟨rfl,rfl⟩
def shfW (w:World) (b i:Nat) (cs vs:List Value):World:=(w.drew.setCells b ((i+1)*8) (cs.drop (i*8))).setCells b (i*8) vs
set_option maxHeartbeats 2000000 in
theorem ins7_shift (b n c i vb:Nat) (cs vs:List Value) (w:World) (hi:i < n) (hroom:n+1≤c) (hc63:c≤9223372036854775807) (hbig:n≤200) (hvb:vb≠b)
  (hcl:cs.length=n*8) (hvl:vs.length=8)
  (hcs:∀j v,cs[j]?=some v→w.cell? ⟨b,j,none⟩=some v) (hsp:∀j,j < (n+1)*8→(w.cell? ⟨b,j,none⟩).isSome=true) (hfz:∀j,j < (n+1)*8→w.frozen? ⟨b,j,none⟩=false)
  (hvs:∀j v,vs[j]?=some v→w.cell? ⟨vb,j,none⟩=some v) (h1c:∀v ∈ cs,v.oneCell'=true) (h1v:∀v ∈ vs,v.oneCell'=true)
  (tA tB:TypeId) (kA kB:Nat) (hsa:w.shape? vb=some (tA,kA)) (hsb:w.shape? b=some (tB,kB)) (hkB:kB≠0) (hfa:w.frozen? ⟨vb,0,none⟩=false) (hfe:w.frozen? ⟨vb,kA,none⟩=false) :
  Calls Tryz.prog 52 #[.slice (some ⟨b,0,none⟩) n c,.int .i64 i,.slice (some ⟨vb,0,none⟩) 1 1] w fun e w'=>
   e=.returned (.slice (some ⟨b,0,none⟩) (n+1) c)∧w'=shfW w b i cs vs:=by
 have mixed:Tryz.prog.follows .mixedOrders=true:=by kernel_rfl
 obtain ⟨i0,hi0,hz0,hzs,hzb⟩:=info_parts here_info
 have hz2:¬((i:Int)=(n:Int)):=by omega
 have hsz:(Tryz.prog.info? 36).map (·.size)=some 8:=by rw [hi0];simp [hzs]
 have hov:∀lb cb,(callFunc 92 #[.slice (some ⟨vb,0,none⟩) 1 1,.slice (some ⟨b,(i+1)*8,none⟩) lb cb]).run Tryz.prog w=.ok (.value (.bool false)) w:=fun lb cb=>by
  rw [run_callFunc_extern Tryz.func92 (by kernel_rfl) (by kernel_rfl) (by kernel_rfl) (e:=Extern.SlicesOverlaps.overlaps #[23,23] #[4]) (by kernel_rfl),
   Lib.run_overlaps_apart w 23 4 36 Tryz.underlying23 8 Tryz.sizeOf36 ⟨vb,0,none⟩ ⟨b,(i+1)*8,none⟩ 1 1 lb cb hvb tA tB kA kB hsa hsb hkB hfa hfe]
  rfl
 have hdl:(cs.drop (i*8)).length=(n - i)*8:=by rw [List.length_drop,hcl];omega
 have hcp1:∀ty dc sc,(Builtin.copy_ #[23,23] ty #[.slice (some ⟨b,(i+1)*8,none⟩) (n - i) dc,.slice (some ⟨b,i*8,none⟩) (n+1 - i) sc]).run Tryz.prog w.drew=.ok (goInt (Nat.min (n+1 - i) (n - i))) (w.drew.setCells b ((i+1)*8) (cs.drop (i*8))):=fun ty dc sc=>
  run_copyN w.drew _ _ ty 36 8 b ((i+1)*8) (n - i) dc ⟨b,i*8,none⟩ (n+1 - i) sc (cs.drop (i*8)) Tryz.underlying23 hsz (by rw [hdl];simp only [Nat.min_def];split<;>omega)
   (fun j v hj=>by rw [Addr.add_lit];exact hcs (i*8+j) v (by rwa [List.getElem?_drop] at hj))
   (fun j hj=>hsp _ (by omega)) (fun j hj=>hfz _ (by omega)) (fun v hv=>h1c v (List.mem_of_mem_drop hv))
 unfold shfW
 obtain ⟨W1,hW1⟩:∃W1,W1=w.drew.setCells b ((i+1)*8) (cs.drop (i*8)):=⟨_,rfl⟩
 have hsp1:∀k,k < (n+1)*8→(W1.cell? ⟨b,k,none⟩).isSome=true:=fun k hk=>by
  rw [hW1]
  exact isSome_setCells b (cs.drop (i*8)) ((i+1)*8) w.drew (fun j hj=>hsp _ (by rw [hdl] at hj;omega)) k (hsp k hk)
 have hcp2:∀(W:World),(∀x,W.cell? x=W1.cell? x)→(∀x,W.frozen? x=W1.frozen? x)→∀ty dc,(Builtin.copy_ #[23,23] ty #[.slice (some ⟨b,i*8,none⟩) (n+1 - i) dc,.slice (some ⟨vb,0,none⟩) 1 1]).run Tryz.prog W=.ok (goInt (Nat.min 1 (n+1 - i))) (W.setCells b (i*8) vs):=fun W hWc hWf ty dc=>
  run_copyN W _ _ ty 36 8 b (i*8) (n+1 - i) dc ⟨vb,0,none⟩ 1 1 vs Tryz.underlying23 hsz (by rw [hvl];simp only [Nat.min_def];split<;>omega)
   (fun j v hj=>by
    rw [Addr.add_lit,Nat.zero_add,hWc,hW1,World.cell?_setCells_out b _ _ _ _ (fun h _=>absurd h hvb)]
    exact hvs j v hj)
   (fun j hj=>by rw [hWc];exact hsp1 _ (by omega)) (fun j hj=>by rw [hWf,hW1,World.frozen?_setCells];exact hfz _ (by omega)) h1v
 rw [←hW1] at hcp1
 have hw1:IntKind.i64.wrap ((i:Int)+1)=(i:Int)+1:=by rw [IntKind.wrap_i64];omega
 have hw2:IntKind.i64.wrap ((n:Int)+1)=(n:Int)+1:=by rw [IntKind.wrap_i64];omega
 have hz3:¬((c:Int) < (n:Int)+1):=by omega
 have hz4:(n:Int)+1≤(c:Int):=by omega
 have hb1:(0:Int)≤(i:Int)+1:=by omega
 have hb2:(i:Int)+1≤(n:Int)+1:=by omega
 have hin:i≤n:=by omega
 have htn:((i:Int)+1).toNat=i+1:=by omega
 have hb4:¬(c=i+1):=by omega
 have hb3:(i:Int)≤(n:Int)+1:=by omega
 have hb5:¬(c=i):=by omega
 have hb6:(i:Int)≤(n:Int):=by omega
 have hb7:(0:Int)≤(n:Int)+1:=by omega
 have htm:((n:Int)+1).toNat=n+1:=by omega
 clear hsp hfz hcs hvs hfa hfe hsa hsb hkB h1c h1v hsp1
 go_enter Tryz.func52,Tryz.ntmps52
 go_wp2_with (simp only [hov])
 go_region_law_o (refine step_copy_runI rfl _ _ 23 23 rfl _ _ (by simp [Act.eval,Act.put]) (by simp [Act.eval,Act.put]) (hcp1 _ _ _) ?_)
 go_wp2_with (at_builtin;refine wpList_copy_runI _ rfl _ _ 23 23 rfl _ _ rfl rfl (hcp2 _ (fun _=>rfl) (fun _=>rfl) _ _) ?_)
 go_ret
 first|exact ⟨rfl,rfl⟩|exact ⟨rfl,by rw [hW1]⟩
theorem in_at {m:List Hr} {x:Hr} {k:Nat} (hk:k < m.length) (h1:Op.bytesLess x.e.n.toList m[k].e.n.toList=true) (h2:∀j (hj:j < m.length),j < k→Op.bytesLess x.e.n.toList m[j].e.n.toList=false):inH m x=m.take k++x::m.drop k:=by
 have q:m.takeWhile (leH x.e.n)=m.take k++(m.drop k).takeWhile (leH x.e.n):=by
  have:∀i,i≤k→m.takeWhile (leH x.e.n)=m.take i++(m.drop i).takeWhile (leH x.e.n):=fun i=>by
   induction i with
   | zero=>exact fun _=>rfl
   | succ i ih=>exact fun hi=>tw_step (by omega) (ih (by omega)) (by unfold leH;rw [h2 i (by omega) (by omega)];rfl)
  exact this k (Nat.le_refl _)
 obtain ⟨a,b⟩:=tw_stop (Nat.le_of_lt hk) q (fun h=>by unfold leH;rw [h1];rfl)
 unfold inH
 rw [a,b]
theorem tw_all8 {p:Hr→Bool}:∀{m:List Hr},(∀y ∈ m,p y=true)→m.takeWhile p=m∧m.dropWhile p=[]
 | [],_=>⟨rfl,rfl⟩
 | y::m,h=>by
  obtain ⟨a,b⟩:=tw_all8 (m:=m) fun z hz=>h z (List.mem_cons_of_mem _ hz)
  rw [List.takeWhile_cons,List.dropWhile_cons,if_pos (h y (List.mem_cons_self ..)),if_pos (h y (List.mem_cons_self ..)),a,b]
  exact ⟨rfl,rfl⟩
theorem in_none {m:List Hr} {x:Hr} (h2:∀y ∈ m,Op.bytesLess x.e.n.toList y.e.n.toList=false):inH m x=m++[x]:=by
 obtain ⟨a,b⟩:=tw_all8 (p:=leH x.e.n) (m:=m) fun y hy=>by unfold leH;rw [h2 y hy];rfl
 unfold inH
 rw [a,b]
theorem flat_take8:∀{css:List (List Value)} (k:Nat),(∀cs ∈ css,cs.length=8)→(css.take k).flatten=css.flatten.take (k*8)∧(css.drop k).flatten=css.flatten.drop (k*8)
 | css,0,_=>by simp
 | [],k+1,_=>by simp
 | c::css,k+1,h=>by
  obtain ⟨a,b⟩:=flat_take8 (css:=css) k fun cs hc=>h cs (List.mem_cons_of_mem _ hc)
  have hc:=h c (List.mem_cons_self ..)
  constructor
  ·rw [List.take_succ_cons,List.flatten_cons,List.flatten_cons,a,List.take_append,List.take_of_length_le (l:=c) (by omega),hc,show (k+1)*8 - 8=k*8 by omega]
  ·rw [List.drop_succ_cons,List.flatten_cons,b,List.drop_append,show List.drop ((k+1)*8) c=[] from List.drop_of_length_le (by omega),hc,show (k+1)*8 - 8=k*8 by omega,List.nil_append]
def insL (cs vs:List Value) (i:Nat):List Value:=cs.take (i*8)++(vs++cs.drop (i*8))
theorem insL_at {cs vs:List Value} {n i:Nat} (hc:cs.length=n*8) (hv:vs.length=8) (hi:i < n) (j:Nat):(insL cs vs i)[j]?=if j < i*8 then cs[j]? else if j < (i+1)*8 then vs[j - i*8]? else (cs.drop (i*8))[j - (i+1)*8]?:=by
 have hl:(cs.take (i*8)).length=i*8:=by rw [List.length_take,hc];omega
 unfold insL
 split
 ·rw [List.getElem?_append_left (by omega),List.getElem?_take,if_pos (by omega)]
 ·rw [List.getElem?_append_right (by omega),hl]
  split
  ·rw [List.getElem?_append_left (by omega)]
  ·rw [List.getElem?_append_right (by omega),hv,show j - i*8 - 8=j - (i+1)*8 by omega]
theorem shf_cells {w:World} {b n i:Nat} {cs vs:List Value} (hc:cs.length=n*8) (hv:vs.length=8) (hi:i < n) (hcs:∀j v,cs[j]?=some v→w.cell? ⟨b,j,none⟩=some v) (hsp:∀j,j < (n+1)*8→(w.cell? ⟨b,j,none⟩).isSome=true) :
  ∀j u,(insL cs vs i)[j]?=some u→(shfW w b i cs vs).cell? ⟨b,j,none⟩=some u:=fun j u hu=>by
 rw [insL_at hc hv hi] at hu
 have hdl:(cs.drop (i*8)).length=(n - i)*8:=by rw [List.length_drop,hc];omega
 unfold shfW
 have h1:∀t,t < vs.length→((w.drew.setCells b ((i+1)*8) (cs.drop (i*8))).cell? ⟨b,i*8+t,none⟩).isSome=true:=fun t ht=>isSome_setCells b (cs.drop (i*8)) ((i+1)*8) w.drew (fun j hj=>hsp _ (by omega)) _ (hsp _ (by omega))
 split at hu
 ·rename_i hj
  rw [World.cell?_setCells_out b vs _ _ ⟨b,j,none⟩ (fun _ _=>by show j < i*8∨_;omega),World.cell?_setCells_out b _ _ _ ⟨b,j,none⟩ (fun _ _=>by show j < (i+1)*8∨_;omega)]
  exact hcs j u hu
 ·split at hu
  ·rename_i hj hj2
   have q:=World.cell?_setCells_in b vs (i*8) _ h1 (j - i*8) (by omega)
   rw [show i*8+(j - i*8)=j by omega] at q
   rw [q,←hu,List.getElem?_eq_getElem]
  ·rename_i hj hj2
   rw [World.cell?_setCells_out b vs _ _ ⟨b,j,none⟩ (fun _ _=>by show _∨i*8+vs.length≤j;omega)]
   have hlt:=(List.getElem?_eq_some_iff.1 hu).1
   have q:=World.cell?_setCells_in b (cs.drop (i*8)) ((i+1)*8) w.drew (fun t ht=>hsp _ (by omega)) (j - (i+1)*8) hlt
   rw [show (i+1)*8+(j - (i+1)*8)=j by omega] at q
   rw [q,←hu,List.getElem?_eq_getElem hlt]
theorem ins_cells {w:World} {G n i:Nat} {cs vs:List Value} (hc:cs.length=n*8) (hv:vs.length=8) (hi:i < n) (hG:n+1≤G) :
  ∀j u,(insL cs vs i)[j]?=some u→(insW w G n i cs vs).cell? ⟨w.heap.size,j,none⟩=some u:=fun j u hu=>by
 rw [insL_at hc hv hi] at hu
 have hdl:(cs.drop (i*8)).length=(n - i)*8:=by rw [List.length_drop,hc];omega
 have hRS:=row0_size (G:=G) hc hi hG
 have h0:∀t,t < (n+1)*8→((w.alloc (.cells (row0 G n i cs) 36)).drew.cell? ⟨w.heap.size,t,none⟩).isSome=true:=fun t ht=>by
  show ((w.alloc (.cells (row0 G n i cs) 36)).cell? ⟨w.heap.size,t,none⟩).isSome=true
  rw [World.cell?_alloc_at (w:=w) _ _ w.heap.size t rfl,Array.getElem?_eq_getElem (by omega)];rfl
 have h1:∀t,t < (n+1)*8→(((w.alloc (.cells (row0 G n i cs) 36)).drew.setCells w.heap.size (i*8) vs).drew.cell? ⟨w.heap.size,t,none⟩).isSome=true:=fun t ht=>isSome_setCells w.heap.size vs (i*8) _ (fun j hj=>h0 _ (by omega)) t (h0 t ht)
 unfold insW
 split at hu
 ·rename_i hj
  rw [World.cell?_setCells_out w.heap.size _ _ _ ⟨w.heap.size,j,none⟩ (fun _ _=>by show j < (i+1)*8∨_;omega)]
  show ((w.alloc (.cells (row0 G n i cs) 36)).drew.setCells w.heap.size (i*8) vs).cell? _=_
  rw [World.cell?_setCells_out w.heap.size vs _ _ ⟨w.heap.size,j,none⟩ (fun _ _=>by show j < i*8∨_;omega)]
  show (w.alloc (.cells (row0 G n i cs) 36)).cell? _=_
  rw [World.cell?_alloc_at (w:=w) _ _ w.heap.size j rfl]
  unfold row0
  have hl:(cs.take (i*8)).length=i*8:=by rw [List.length_take,hc];omega
  rw [Array.append_assoc,Array.getElem?_append_left (by simp [hl];omega),List.getElem?_toArray,List.getElem?_take,if_pos (by omega)]
  exact hu
 ·split at hu
  ·rename_i hj hj2
   rw [World.cell?_setCells_out w.heap.size _ _ _ ⟨w.heap.size,j,none⟩ (fun _ _=>by show j < (i+1)*8∨_;omega)]
   show ((w.alloc (.cells (row0 G n i cs) 36)).drew.setCells w.heap.size (i*8) vs).cell? _=_
   have q:=World.cell?_setCells_in w.heap.size vs (i*8) _ (fun t ht=>h0 _ (by omega)) (j - i*8) (by omega)
   rw [show i*8+(j - i*8)=j by omega] at q
   rw [q,←hu,List.getElem?_eq_getElem]
  ·rename_i hj hj2
   have hlt:=(List.getElem?_eq_some_iff.1 hu).1
   have q:=World.cell?_setCells_in w.heap.size (cs.drop (i*8)) ((i+1)*8) _ (fun t ht=>h1 _ (by omega)) (j - (i+1)*8) hlt
   rw [show (i+1)*8+(j - (i+1)*8)=j by omega] at q
   rw [q,←hu,List.getElem?_eq_getElem hlt]
theorem rd_hrvs {W:World} {S:Nat→Prop} {g cap:Nat} {d:List HrV} (hS:S g) (hc:d.length≤cap) (hm:cap≤maxLen) (hcells:∀j u,(d.map (·.cs)).flatten[j]?=some u→W.cell? ⟨g,j,none⟩=some u) (hE:∀r ∈ d,rdHr W S r.x r.cs):rdHrs W S (d.map (·.x)) [.slice (some ⟨g,0,none⟩) d.length cap]:=by
 refine ⟨some ⟨g,0,none⟩,cap,by rw [List.length_map],by rw [List.length_map];exact hc,hm,fun k hk=>?_⟩
 have hk':k < d.length:=by simpa using hk
 refine ⟨⟨g,0,none⟩,d[k].cs,rfl,hS,by rw [List.getElem_map];exact hE _ (List.getElem_mem hk'),rfl,fun j u hu=>?_⟩
 rw [Addr.add_lit,Nat.zero_add]
 exact hcells _ u (flatten_at 8 (fun cs hc=>by obtain ⟨r,_,rfl⟩:=List.mem_map.1 hc;rfl) (by simp [hk']) j u hu)
set_option maxHeartbeats 800000 in
theorem ins7_any {T:Nat→Prop} {w:World} {base vb:Nat} {v:Value} {m:List Hr} (hG:Grow rdHr 8 T w base 36 v m) (k:Nat) (hk:k < m.length) (hl:m.length≤200) (xv:HrV) (hvb:w.heap[vb]?=some (.cells xv.cs.toArray 36 (0,0))) (hne:v.ownBlock≠some vb) (hb:base≤w.heap.size)
  (hx:rdHr w (fun b=>b < w.heap.size∧v.ownBlock≠some b) xv.x xv.cs) :
  Calls Tryz.prog 52 #[v,.int .i64 k,.slice (some ⟨vb,0,none⟩) 1 1] w fun e w'=>(∃A n c,e=.returned (.slice A n c)∧rdHrs w' (lt_ w'.heap.size) (m.take k++xv.x::m.drop k) [.slice A n c])∧Below base w w':=by
 obtain ⟨css,hcl,ho,hE⟩:=hG
 rcases ho.2 with ⟨_,h0⟩|⟨gb,cap,cur,rfl,hgb,hg,hn,hm,hs,ht⟩
 ·omega
 obtain ⟨d,d1,d2,d3⟩:=hrvs_of (S:=fun b=>b < w.heap.size∧gb≠b) hcl (fun k hk=>by
  obtain ⟨cs,c1,c2⟩:=hE k hk
  exact ⟨cs,c1,rdHr_good.more c2 fun b hb=>⟨hb.2.1,fun e=>hb.2.2 (by rw [e];rfl)⟩⟩)
 have hdl:d.length=m.length:=by rw [←d1,List.length_map]
 have hlt:gb < w.heap.size:=(Array.getElem?_eq_some_iff.1 hg).1
 have hvlt:vb < w.heap.size:=(Array.getElem?_eq_some_iff.1 hvb).1
 have hne':vb≠gb:=fun e=>hne (by rw [e];rfl)
 have hcsl:css.flatten.length=m.length*8:=ho.1
 have hvl:xv.cs.length=8:=rfl
 have hcs:∀j u,css.flatten[j]?=some u→w.cell? ⟨gb,j,none⟩=some u:=fun j u hu=>by
  rw [cell_of_row w gb j cur _ (0,0) hg]
  rw [←ht,List.getElem?_take] at hu
  split at hu
  ·simpa using hu
  ·cases hu
 have hvs:∀j u,xv.cs[j]?=some u→w.cell? ⟨vb,j,none⟩=some u:=fun j u hu=>by
  rw [cell_of_row w vb j _ _ (0,0) hvb,List.getElem?_toArray];exact hu
 have h1c:∀u ∈ css.flatten,u.oneCell'=true:=fun u hu=>by
  rw [←d2] at hu
  obtain ⟨cs,hc,hu⟩:=List.mem_flatten.1 hu
  obtain ⟨r,_,rfl⟩:=List.mem_map.1 hc
  exact HrV.one r u hu
 have h1v:∀u ∈ xv.cs,u.oneCell'=true:=HrV.one xv
 have hL:((d.take k++xv::d.drop k).map (·.cs)).flatten=insL css.flatten xv.cs k:=by
  obtain ⟨q1,q2⟩:=flat_take8 (css:=css) k fun cs hc=>by
   rw [←d2] at hc
   obtain ⟨r,_,rfl⟩:=List.mem_map.1 hc;rfl
  unfold insL
  rw [←q1,←q2,←d2]
  simp [List.map_take,List.map_drop]
 have hX:(d.take k++xv::d.drop k).map (·.x)=m.take k++xv.x::m.drop k:=by
  rw [←d1];simp [List.map_take,List.map_drop]
 have hlen:(d.take k++xv::d.drop k).length=m.length+1:=by simp [List.length_take,hdl];omega
 have hmem:∀r ∈ d.take k++xv::d.drop k,r=xv∨r ∈ d:=fun r hr=>by
  rcases List.mem_append.1 hr with h|h
  ·exact .inr (List.mem_of_mem_take h)
  ·rcases List.mem_cons.1 h with h|h
   ·exact .inl h
   ·exact .inr (List.mem_of_mem_drop h)
 have hEl:∀(w':World),(∀b,b < w.heap.size→gb≠b→w'.heap[b]?=w.heap[b]?)→w.heap.size≤w'.heap.size→∀r ∈ d.take k++xv::d.drop k,rdHr w' (lt_ w'.heap.size) r.x r.cs:=fun w' hkeep hsz r hr=>by
  have q:rdHr w (fun b=>b < w.heap.size∧gb≠b) r.x r.cs:=by
   rcases hmem r hr with rfl|h
   ·exact rdHr_good.more hx fun b hb=>⟨hb.1,fun e=>hb.2 (by rw [e];rfl)⟩
   ·exact d3 r h
  exact rdHr_good.both q (fun b hb=>hkeep b hb.1 hb.2) fun b hb=>Nat.lt_of_lt_of_le hb.1 hsz
 by_cases hroom:m.length+1≤cap
 ·have hsp:∀j,j < (m.length+1)*8→(w.cell? ⟨gb,j,none⟩).isSome=true:=fun j hj=>by
   rw [cell_of_row w gb j cur _ (0,0) hg,Array.getElem?_eq_getElem (by rw [hs];omega)];rfl
  refine (ins7_shift gb m.length cap k vb css.flatten xv.cs w hk hroom hm hl hne' hcsl hvl hcs hsp (fun j _=>by unfold World.frozen?;rw [hg];simp) hvs h1c h1v 36 36 xv.cs.toArray.size cur.size (by unfold World.shape?;rw [hvb]) (by unfold World.shape?;rw [hg]) (by rw [hs];omega) (by unfold World.frozen?;rw [hvb];simp) (by unfold World.frozen?;rw [hvb];simp)).mono ?_
  rintro e w' ⟨rfl,hw⟩
  have hc:=shf_cells (w:=w) (b:=gb) hcsl hvl hk hcs hsp
  rw [←hw] at hc
  have s1:=swr_os gb (css.flatten.drop (k*8)) ((k+1)*8) w.drew
  have s2:=swr_os gb xv.cs (k*8) (w.drew.setCells gb ((k+1)*8) (css.flatten.drop (k*8)))
  have hsz:w'.heap.size=w.heap.size:=by rw [hw];unfold shfW;rw [size_setCells,size_setCells];rfl
  have hkeep:∀b,b≠gb→w'.heap[b]?=w.heap[b]?:=fun b hb=>by
   rw [hw];unfold shfW
   exact (s2.2.2.2 b hb).trans (s1.2.2.2 b hb)
  refine ⟨⟨_,_,_,rfl,?_⟩,?_⟩
  ·have q:=rd_hrvs (W:=w') (S:=lt_ w'.heap.size) (g:=gb) (cap:=cap) (d:=d.take k++xv::d.drop k) (by unfold lt_;omega) (by rw [hlen];exact hroom) hm (by rw [hL];exact hc) (hEl w' (fun b _ h=>hkeep b (Ne.symm h)) (by omega))
   rw [hX,hlen] at q
   exact q
  ·refine ⟨?_,?_,?_,by omega,fun b hb=>hkeep b (by omega)⟩
   ·rw [hw];exact s2.1.trans s1.1
   ·rw [hw];exact s2.2.1.trans s1.2.1
   ·rw [hw];exact s2.2.2.1.trans s1.2.2.1
 ·refine (ins7_grow gb m.length cap k vb css.flatten xv.cs w hk hn (by omega) hl hcsl hvl hcs hvs h1c h1v).mono ?_
  have hGn:m.length+1≤grownCap w (m.length+1) cap 36:=grownCap_ge w _ _ _
  have hG63:=grownCap_le_maxLen w (m.length+1) cap 36 (by unfold maxLen;omega)
  generalize grownCap w (m.length+1) cap 36=G at *
  rintro e w' ⟨rfl,hw⟩
  have hc:=ins_cells (w:=w) (G:=G) hcsl hvl hk hGn
  rw [←hw] at hc
  have ba:=(Below.refl w.heap.size w).alloc (Nat.le_refl _) (.cells (row0 G m.length k css.flatten) 36)
  have bs:(w.alloc (.cells (row0 G m.length k css.flatten) 36)).heap.size=w.heap.size+1:=World.size_alloc _ _
  unfold insW at hw
  generalize w.alloc (.cells (row0 G m.length k css.flatten) 36)=V1 at *
  have s1:=swr_os w.heap.size xv.cs (k*8) V1.drew
  have z1:(V1.drew.setCells w.heap.size (k*8) xv.cs).heap.size=V1.drew.heap.size:=size_setCells _ _ _ _
  generalize V1.drew.setCells w.heap.size (k*8) xv.cs=V2 at *
  have s2:=swr_os w.heap.size (css.flatten.drop (k*8)) ((k+1)*8) V2.drew
  have z2:(V2.drew.setCells w.heap.size ((k+1)*8) (css.flatten.drop (k*8))).heap.size=V2.drew.heap.size:=size_setCells _ _ _ _
  rw [←hw] at s2 z2
  have d1':V1.drew.heap=V1.heap∧V1.drew.os=V1.os∧V1.drew.tape=V1.tape∧V1.drew.output=V1.output:=⟨rfl,rfl,rfl,rfl⟩
  have d2':V2.drew.heap=V2.heap∧V2.drew.os=V2.os∧V2.drew.tape=V2.tape∧V2.drew.output=V2.output:=⟨rfl,rfl,rfl,rfl⟩
  rw [d1'.1] at z1
  rw [d2'.1] at z2
  rw [d1'.1,d1'.2.1,d1'.2.2.1,d1'.2.2.2] at s1
  rw [d2'.1,d2'.2.1,d2'.2.2.1,d2'.2.2.2] at s2
  have hsz:w'.heap.size=w.heap.size+1:=by omega
  have hkeep:∀b,b < w.heap.size→w'.heap[b]?=w.heap[b]?:=fun b hb=>((s2.2.2.2 b (by omega)).trans (s1.2.2.2 b (by omega))).trans (ba.block b hb)
  clear hw z1 z2 d1' d2' bs
  refine ⟨⟨_,_,_,rfl,?_⟩,?_⟩
  ·have q:=rd_hrvs (W:=w') (S:=lt_ w'.heap.size) (g:=w.heap.size) (cap:=G) (d:=d.take k++xv::d.drop k) (by unfold lt_;omega) (by rw [hlen];exact hGn) hG63 (by rw [hL];exact hc) (hEl w' (fun b h _=>hkeep b h) (by omega))
   rw [hX,hlen] at q
   exact q
  ·refine ⟨?_,?_,?_,by omega,fun b hb'=>hkeep b (by omega)⟩
   ·exact (s2.1.trans s1.1).trans ba.os
   ·exact (s2.2.1.trans s1.2.1).trans ba.tape
   ·exact (s2.2.2.1.trans s1.2.2.1).trans ba.output
end Go.Proofs.YtboinnjncaehkaaGreatDoor
