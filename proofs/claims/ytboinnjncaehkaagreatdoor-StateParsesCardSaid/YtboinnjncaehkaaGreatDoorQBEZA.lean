/- What the laws rest on: P8e, P8f, P8i, P8j. -/
import Derived.ArgAppend
import Derived.Test.YtboinnjncaehkaaGreatDoorQBDZA
set_option maxRecDepth 100000
set_option linter.unusedVariables false
set_option linter.unusedSimpArgs false
namespace Go.Proofs.YtboinnjncaehkaaGreatDoor
open Go.RowKit
theorem dr_gw {a b:World} (h:Dr a b):Gw a b:=by
 obtain ⟨q,rfl⟩:=h
 exact Gw.drewN _ _
set_option maxHeartbeats 8000000 in
theorem sent_any (x y:Ent) (A1:Option Addr) (c1:Nat) (A2:Option Addr) (c2:Nat) (A3:Option Addr) (c3:Nat) (A4:Option Addr) (c4:Nat) (B1:Option Addr) (d1:Nat) (B2v:Option Addr) (d2:Nat) (B3:Option Addr) (d3:Nat) (B4:Option Addr) (d4:Nat) (w:World) (hx:EntV w (lt_ w.heap.size) x A1 c1 A2 c2 A3 c3 A4 c4) (hy:EntV w (lt_ w.heap.size) y B1 d1 B2v d2 B3 d3 B4 d4) :
  Calls Tryz.prog 95 #[x.val A1 c1 A2 c2 A3 c3 A4 c4,y.val B1 d1 B2v d2 B3 d3 B4 d4] w fun e w'=>e=.returned (.bool (decide (x=y)))∧Gw w w':=by
 obtain ⟨n,v,d,r,c,p⟩:=x
 obtain ⟨n',v',d',r',c',p'⟩:=y
 have B2:=Lib.hid (show Below w.heap.size w ((w.alloc (.cells #[.string n,.string v,.slice A1 d.length c1,.slice A2 r.length c2,.slice A3 c.length c3,.slice A4 p.length c4] 34)).alloc (.cells #[.string n',.string v',.slice B1 d'.length d1,.slice B2v r'.length d2,.slice B3 c'.length d3,.slice B4 p'.length d4] 34)) from ((Below.refl _ w).alloc (Nat.le_refl _) _).alloc (by simp) _)
 have GB2:=Lib.hid (show Gw w ((w.alloc (.cells #[.string n,.string v,.slice A1 d.length c1,.slice A2 r.length c2,.slice A3 c.length c3,.slice A4 p.length c4] 34)).alloc (.cells #[.string n',.string v',.slice B1 d'.length d1,.slice B2v r'.length d2,.slice B3 c'.length d3,.slice B4 p'.length d4] 34)) from (Gw.alloc _ _).trans (Gw.alloc _ _))
 have KX:=Lib.hid (fun (W:World) (hb:Below ((w.alloc (.cells #[.string n,.string v,.slice A1 d.length c1,.slice A2 r.length c2,.slice A3 c.length c3,.slice A4 p.length c4] 34)).alloc (.cells #[.string n',.string v',.slice B1 d'.length d1,.slice B2v r'.length d2,.slice B3 c'.length d3,.slice B4 p'.length d4] 34)).heap.size ((w.alloc (.cells #[.string n,.string v,.slice A1 d.length c1,.slice A2 r.length c2,.slice A3 c.length c3,.slice A4 p.length c4] 34)).alloc (.cells #[.string n',.string v',.slice B1 d'.length d1,.slice B2v r'.length d2,.slice B3 c'.length d3,.slice B4 p'.length d4] 34)) W)=>(show W.cell? ⟨w.heap.size,2,none⟩=some (.slice A1 d.length c1)∧W.cell? ⟨w.heap.size,3,none⟩=some (.slice A2 r.length c2)∧W.cell? ⟨w.heap.size,4,none⟩=some (.slice A3 c.length c3)∧W.cell? ⟨w.heap.size,5,none⟩=some (.slice A4 p.length c4)∧W.cell? ⟨w.heap.size+1,2,none⟩=some (.slice B1 d'.length d1)∧W.cell? ⟨w.heap.size+1,3,none⟩=some (.slice B2v r'.length d2)∧W.cell? ⟨w.heap.size+1,4,none⟩=some (.slice B3 c'.length d3)∧W.cell? ⟨w.heap.size+1,5,none⟩=some (.slice B4 p'.length d4) from by
  have z:((w.alloc (.cells #[.string n,.string v,.slice A1 d.length c1,.slice A2 r.length c2,.slice A3 c.length c3,.slice A4 p.length c4] 34)).alloc (.cells #[.string n',.string v',.slice B1 d'.length d1,.slice B2v r'.length d2,.slice B3 c'.length d3,.slice B4 p'.length d4] 34)).heap.size=w.heap.size+2:=by rw [World.size_alloc,World.size_alloc]
  refine ⟨(hb.cell (show (⟨w.heap.size,2,none⟩:Addr).block < _ by rw [z];show w.heap.size < _;omega)).trans (by simp [go_sem]),(hb.cell (show (⟨w.heap.size,3,none⟩:Addr).block < _ by rw [z];show w.heap.size < _;omega)).trans (by simp [go_sem]),(hb.cell (show (⟨w.heap.size,4,none⟩:Addr).block < _ by rw [z];show w.heap.size < _;omega)).trans (by simp [go_sem]),(hb.cell (show (⟨w.heap.size,5,none⟩:Addr).block < _ by rw [z];show w.heap.size < _;omega)).trans (by simp [go_sem]),(hb.cell (show (⟨w.heap.size+1,2,none⟩:Addr).block < _ by rw [z];show w.heap.size+1 < _;omega)).trans (by simp [go_sem]),(hb.cell (show (⟨w.heap.size+1,3,none⟩:Addr).block < _ by rw [z];show w.heap.size+1 < _;omega)).trans (by simp [go_sem]),(hb.cell (show (⟨w.heap.size+1,4,none⟩:Addr).block < _ by rw [z];show w.heap.size+1 < _;omega)).trans (by simp [go_sem]),(hb.cell (show (⟨w.heap.size+1,5,none⟩:Addr).block < _ by rw [z];show w.heap.size+1 < _;omega)).trans (by simp [go_sem])⟩))
 have HX:=Lib.hid hx
 have HY:=Lib.hid hy
 have KD:=Lib.hid (fun W (hb:Below w.heap.size w W)=>eqfG_any A1 B1 d.length c1 d'.length d1 d d' W (HX.out.on hb).d (HY.out.on hb).d)
 have KR:=Lib.hid (fun W (hb:Below w.heap.size w W)=>eqfG_any A2 B2v r.length c2 r'.length d2 r r' W (HX.out.on hb).r (HY.out.on hb).r)
 have KC:=Lib.hid (fun W (hb:Below w.heap.size w W)=>seqA_any A3 B3 c.length c3 c'.length d3 c c' W (HX.out.on hb).c (HY.out.on hb).c)
 have KP:=Lib.hid (fun W (hb:Below w.heap.size w W)=>seqA_any A4 B4 p.length c4 p'.length d4 p p' W (HX.out.on hb).p (HY.out.on hb).p)
 show Calls Tryz.prog 95 #[.agg #[.string n,.string v,.slice A1 d.length c1,.slice A2 r.length c2,.slice A3 c.length c3,.slice A4 p.length c4],.agg #[.string n',.string v',.slice B1 d'.length d1,.slice B2v r'.length d2,.slice B3 c'.length d3,.slice B4 p'.length d4]] w _
 clear hx hy
 have en:=str_eq n n'
 have ev:=str_eq v v'
 by_cases q0:¬n=n'
 ·have X:=Lib.hid (show decide ((⟨n,v,d,r,c,p⟩:Ent)=⟨n',v',d',r',c',p'⟩)=false from decide_eq_false fun e=>q0 (congrArg Ent.n e))
  rw [decide_eq_false q0] at en
  clear q0 ev
  go_enter Tryz.func95,Tryz.ntmps95
  go_wp2
  go_ret
  exact ⟨by rw [X.out];try rfl,GB2.out⟩
 have q0:=Decidable.not_not.1 q0
 by_cases q1:¬v=v'
 ·have X:=Lib.hid (show decide ((⟨n,v,d,r,c,p⟩:Ent)=⟨n',v',d',r',c',p'⟩)=false from decide_eq_false fun e=>q1 (congrArg Ent.v e))
  rw [decide_eq_true q0] at en
  rw [decide_eq_false q1] at ev
  clear q0 q1
  go_enter Tryz.func95,Tryz.ntmps95
  go_wp2
  go_ret
  exact ⟨by rw [X.out];try rfl,GB2.out⟩
 have q1:=Decidable.not_not.1 q1
 by_cases q2:¬d=d'
 ·have X:=Lib.hid (show decide ((⟨n,v,d,r,c,p⟩:Ent)=⟨n',v',d',r',c',p'⟩)=false from decide_eq_false fun e=>q2 (congrArg Ent.d e))
  rw [decide_eq_true q0] at en
  rw [decide_eq_true q1] at ev
  rw [decide_eq_false q2] at KD
  clear q0 q1 q2
  go_enter Tryz.func95,Tryz.ntmps95
  go_wp2_with fail
  refine (KD.out _ B2.out).mono ?_
  rintro e w3 ⟨rfl,hdr⟩
  have C0:=Lib.hid (B2.out.trans ((hdr.below _).mono B2.out.size))
  have GC0:=Lib.hid (GB2.out.trans (dr_gw hdr))
  have V0:=Lib.hid (show Below ((w.alloc (.cells #[.string n,.string v,.slice A1 d.length c1,.slice A2 r.length c2,.slice A3 c.length c3,.slice A4 p.length c4] 34)).alloc (.cells #[.string n',.string v',.slice B1 d'.length d1,.slice B2v r'.length d2,.slice B3 c'.length d3,.slice B4 p'.length d4] 34)).heap.size ((w.alloc (.cells #[.string n,.string v,.slice A1 d.length c1,.slice A2 r.length c2,.slice A3 c.length c3,.slice A4 p.length c4] 34)).alloc (.cells #[.string n',.string v',.slice B1 d'.length d1,.slice B2v r'.length d2,.slice B3 c'.length d3,.slice B4 p'.length d4] 34)) w3 from (Below.refl ((w.alloc (.cells #[.string n,.string v,.slice A1 d.length c1,.slice A2 r.length c2,.slice A3 c.length c3,.slice A4 p.length c4] 34)).alloc (.cells #[.string n',.string v',.slice B1 d'.length d1,.slice B2v r'.length d2,.slice B3 c'.length d3,.slice B4 p'.length d4] 34)).heap.size ((w.alloc (.cells #[.string n,.string v,.slice A1 d.length c1,.slice A2 r.length c2,.slice A3 c.length c3,.slice A4 p.length c4] 34)).alloc (.cells #[.string n',.string v',.slice B1 d'.length d1,.slice B2v r'.length d2,.slice B3 c'.length d3,.slice B4 p'.length d4] 34))).trans ((hdr.below _).mono (Below.refl ((w.alloc (.cells #[.string n,.string v,.slice A1 d.length c1,.slice A2 r.length c2,.slice A3 c.length c3,.slice A4 p.length c4] 34)).alloc (.cells #[.string n',.string v',.slice B1 d'.length d1,.slice B2v r'.length d2,.slice B3 c'.length d3,.slice B4 p'.length d4] 34)).heap.size ((w.alloc (.cells #[.string n,.string v,.slice A1 d.length c1,.slice A2 r.length c2,.slice A3 c.length c3,.slice A4 p.length c4] 34)).alloc (.cells #[.string n',.string v',.slice B1 d'.length d1,.slice B2v r'.length d2,.slice B3 c'.length d3,.slice B4 p'.length d4] 34))).size))
  clear hdr
  obtain ⟨a2,a3,a4,a5,b2,b3,b4,b5⟩:=KX.out _ V0.out
  go_wp2
  go_ret
  exact ⟨by rw [X.out];try rfl,GC0.out⟩
 have q2:=Decidable.not_not.1 q2
 by_cases q3:¬r=r'
 ·have X:=Lib.hid (show decide ((⟨n,v,d,r,c,p⟩:Ent)=⟨n',v',d',r',c',p'⟩)=false from decide_eq_false fun e=>q3 (congrArg Ent.r e))
  rw [decide_eq_true q0] at en
  rw [decide_eq_true q1] at ev
  rw [decide_eq_true q2] at KD
  rw [decide_eq_false q3] at KR
  clear q0 q1 q2 q3
  go_enter Tryz.func95,Tryz.ntmps95
  go_wp2_with fail
  refine (KD.out _ B2.out).mono ?_
  rintro e w3 ⟨rfl,hdr⟩
  have C0:=Lib.hid (B2.out.trans ((hdr.below _).mono B2.out.size))
  have GC0:=Lib.hid (GB2.out.trans (dr_gw hdr))
  have V0:=Lib.hid (show Below ((w.alloc (.cells #[.string n,.string v,.slice A1 d.length c1,.slice A2 r.length c2,.slice A3 c.length c3,.slice A4 p.length c4] 34)).alloc (.cells #[.string n',.string v',.slice B1 d'.length d1,.slice B2v r'.length d2,.slice B3 c'.length d3,.slice B4 p'.length d4] 34)).heap.size ((w.alloc (.cells #[.string n,.string v,.slice A1 d.length c1,.slice A2 r.length c2,.slice A3 c.length c3,.slice A4 p.length c4] 34)).alloc (.cells #[.string n',.string v',.slice B1 d'.length d1,.slice B2v r'.length d2,.slice B3 c'.length d3,.slice B4 p'.length d4] 34)) w3 from (Below.refl ((w.alloc (.cells #[.string n,.string v,.slice A1 d.length c1,.slice A2 r.length c2,.slice A3 c.length c3,.slice A4 p.length c4] 34)).alloc (.cells #[.string n',.string v',.slice B1 d'.length d1,.slice B2v r'.length d2,.slice B3 c'.length d3,.slice B4 p'.length d4] 34)).heap.size ((w.alloc (.cells #[.string n,.string v,.slice A1 d.length c1,.slice A2 r.length c2,.slice A3 c.length c3,.slice A4 p.length c4] 34)).alloc (.cells #[.string n',.string v',.slice B1 d'.length d1,.slice B2v r'.length d2,.slice B3 c'.length d3,.slice B4 p'.length d4] 34))).trans ((hdr.below _).mono (Below.refl ((w.alloc (.cells #[.string n,.string v,.slice A1 d.length c1,.slice A2 r.length c2,.slice A3 c.length c3,.slice A4 p.length c4] 34)).alloc (.cells #[.string n',.string v',.slice B1 d'.length d1,.slice B2v r'.length d2,.slice B3 c'.length d3,.slice B4 p'.length d4] 34)).heap.size ((w.alloc (.cells #[.string n,.string v,.slice A1 d.length c1,.slice A2 r.length c2,.slice A3 c.length c3,.slice A4 p.length c4] 34)).alloc (.cells #[.string n',.string v',.slice B1 d'.length d1,.slice B2v r'.length d2,.slice B3 c'.length d3,.slice B4 p'.length d4] 34))).size))
  clear hdr
  obtain ⟨a2,a3,a4,a5,b2,b3,b4,b5⟩:=KX.out _ V0.out
  go_wp2_with fail
  refine (KR.out _ C0.out).mono ?_
  rintro e w4 ⟨rfl,hdr⟩
  have C1:=Lib.hid (C0.out.trans ((hdr.below _).mono C0.out.size))
  have GC1:=Lib.hid (GC0.out.trans (dr_gw hdr))
  have V1:=Lib.hid (show Below ((w.alloc (.cells #[.string n,.string v,.slice A1 d.length c1,.slice A2 r.length c2,.slice A3 c.length c3,.slice A4 p.length c4] 34)).alloc (.cells #[.string n',.string v',.slice B1 d'.length d1,.slice B2v r'.length d2,.slice B3 c'.length d3,.slice B4 p'.length d4] 34)).heap.size ((w.alloc (.cells #[.string n,.string v,.slice A1 d.length c1,.slice A2 r.length c2,.slice A3 c.length c3,.slice A4 p.length c4] 34)).alloc (.cells #[.string n',.string v',.slice B1 d'.length d1,.slice B2v r'.length d2,.slice B3 c'.length d3,.slice B4 p'.length d4] 34)) w4 from V0.out.trans ((hdr.below _).mono V0.out.size))
  clear hdr
  clear a2 b2 a3 b3 a4 b4 a5 b5
  obtain ⟨a2,a3,a4,a5,b2,b3,b4,b5⟩:=KX.out _ V1.out
  go_wp2
  go_ret
  exact ⟨by rw [X.out];try rfl,GC1.out⟩
 have q3:=Decidable.not_not.1 q3
 by_cases q4:¬c=c'
 ·have X:=Lib.hid (show decide ((⟨n,v,d,r,c,p⟩:Ent)=⟨n',v',d',r',c',p'⟩)=false from decide_eq_false fun e=>q4 (congrArg Ent.c e))
  rw [decide_eq_true q0] at en
  rw [decide_eq_true q1] at ev
  rw [decide_eq_true q2] at KD
  rw [decide_eq_true q3] at KR
  rw [decide_eq_false q4] at KC
  clear q0 q1 q2 q3 q4
  go_enter Tryz.func95,Tryz.ntmps95
  go_wp2_with fail
  refine (KD.out _ B2.out).mono ?_
  rintro e w3 ⟨rfl,hdr⟩
  have C0:=Lib.hid (B2.out.trans ((hdr.below _).mono B2.out.size))
  have GC0:=Lib.hid (GB2.out.trans (dr_gw hdr))
  have V0:=Lib.hid (show Below ((w.alloc (.cells #[.string n,.string v,.slice A1 d.length c1,.slice A2 r.length c2,.slice A3 c.length c3,.slice A4 p.length c4] 34)).alloc (.cells #[.string n',.string v',.slice B1 d'.length d1,.slice B2v r'.length d2,.slice B3 c'.length d3,.slice B4 p'.length d4] 34)).heap.size ((w.alloc (.cells #[.string n,.string v,.slice A1 d.length c1,.slice A2 r.length c2,.slice A3 c.length c3,.slice A4 p.length c4] 34)).alloc (.cells #[.string n',.string v',.slice B1 d'.length d1,.slice B2v r'.length d2,.slice B3 c'.length d3,.slice B4 p'.length d4] 34)) w3 from (Below.refl ((w.alloc (.cells #[.string n,.string v,.slice A1 d.length c1,.slice A2 r.length c2,.slice A3 c.length c3,.slice A4 p.length c4] 34)).alloc (.cells #[.string n',.string v',.slice B1 d'.length d1,.slice B2v r'.length d2,.slice B3 c'.length d3,.slice B4 p'.length d4] 34)).heap.size ((w.alloc (.cells #[.string n,.string v,.slice A1 d.length c1,.slice A2 r.length c2,.slice A3 c.length c3,.slice A4 p.length c4] 34)).alloc (.cells #[.string n',.string v',.slice B1 d'.length d1,.slice B2v r'.length d2,.slice B3 c'.length d3,.slice B4 p'.length d4] 34))).trans ((hdr.below _).mono (Below.refl ((w.alloc (.cells #[.string n,.string v,.slice A1 d.length c1,.slice A2 r.length c2,.slice A3 c.length c3,.slice A4 p.length c4] 34)).alloc (.cells #[.string n',.string v',.slice B1 d'.length d1,.slice B2v r'.length d2,.slice B3 c'.length d3,.slice B4 p'.length d4] 34)).heap.size ((w.alloc (.cells #[.string n,.string v,.slice A1 d.length c1,.slice A2 r.length c2,.slice A3 c.length c3,.slice A4 p.length c4] 34)).alloc (.cells #[.string n',.string v',.slice B1 d'.length d1,.slice B2v r'.length d2,.slice B3 c'.length d3,.slice B4 p'.length d4] 34))).size))
  clear hdr
  obtain ⟨a2,a3,a4,a5,b2,b3,b4,b5⟩:=KX.out _ V0.out
  go_wp2_with fail
  refine (KR.out _ C0.out).mono ?_
  rintro e w4 ⟨rfl,hdr⟩
  have C1:=Lib.hid (C0.out.trans ((hdr.below _).mono C0.out.size))
  have GC1:=Lib.hid (GC0.out.trans (dr_gw hdr))
  have V1:=Lib.hid (show Below ((w.alloc (.cells #[.string n,.string v,.slice A1 d.length c1,.slice A2 r.length c2,.slice A3 c.length c3,.slice A4 p.length c4] 34)).alloc (.cells #[.string n',.string v',.slice B1 d'.length d1,.slice B2v r'.length d2,.slice B3 c'.length d3,.slice B4 p'.length d4] 34)).heap.size ((w.alloc (.cells #[.string n,.string v,.slice A1 d.length c1,.slice A2 r.length c2,.slice A3 c.length c3,.slice A4 p.length c4] 34)).alloc (.cells #[.string n',.string v',.slice B1 d'.length d1,.slice B2v r'.length d2,.slice B3 c'.length d3,.slice B4 p'.length d4] 34)) w4 from V0.out.trans ((hdr.below _).mono V0.out.size))
  clear hdr
  clear a2 b2 a3 b3 a4 b4 a5 b5
  obtain ⟨a2,a3,a4,a5,b2,b3,b4,b5⟩:=KX.out _ V1.out
  go_wp2_with fail
  refine (KC.out _ C1.out).mono ?_
  rintro e w5 ⟨rfl,hdr⟩
  have C2:=Lib.hid (C1.out.trans ((hdr.below _).mono C1.out.size))
  have GC2:=Lib.hid (GC1.out.trans (dr_gw hdr))
  have V2:=Lib.hid (show Below ((w.alloc (.cells #[.string n,.string v,.slice A1 d.length c1,.slice A2 r.length c2,.slice A3 c.length c3,.slice A4 p.length c4] 34)).alloc (.cells #[.string n',.string v',.slice B1 d'.length d1,.slice B2v r'.length d2,.slice B3 c'.length d3,.slice B4 p'.length d4] 34)).heap.size ((w.alloc (.cells #[.string n,.string v,.slice A1 d.length c1,.slice A2 r.length c2,.slice A3 c.length c3,.slice A4 p.length c4] 34)).alloc (.cells #[.string n',.string v',.slice B1 d'.length d1,.slice B2v r'.length d2,.slice B3 c'.length d3,.slice B4 p'.length d4] 34)) w5 from V1.out.trans ((hdr.below _).mono V1.out.size))
  clear hdr
  clear a2 b2 a3 b3 a4 b4 a5 b5
  obtain ⟨a2,a3,a4,a5,b2,b3,b4,b5⟩:=KX.out _ V2.out
  go_wp2
  go_ret
  exact ⟨by rw [X.out];try rfl,GC2.out⟩
 have q4:=Decidable.not_not.1 q4
 by_cases q5:¬p=p'
 ·have X:=Lib.hid (show decide ((⟨n,v,d,r,c,p⟩:Ent)=⟨n',v',d',r',c',p'⟩)=false from decide_eq_false fun e=>q5 (congrArg Ent.p e))
  rw [decide_eq_true q0] at en
  rw [decide_eq_true q1] at ev
  rw [decide_eq_true q2] at KD
  rw [decide_eq_true q3] at KR
  rw [decide_eq_true q4] at KC
  rw [decide_eq_false q5] at KP
  clear q0 q1 q2 q3 q4 q5
  go_enter Tryz.func95,Tryz.ntmps95
  go_wp2_with fail
  refine (KD.out _ B2.out).mono ?_
  rintro e w3 ⟨rfl,hdr⟩
  have C0:=Lib.hid (B2.out.trans ((hdr.below _).mono B2.out.size))
  have GC0:=Lib.hid (GB2.out.trans (dr_gw hdr))
  have V0:=Lib.hid (show Below ((w.alloc (.cells #[.string n,.string v,.slice A1 d.length c1,.slice A2 r.length c2,.slice A3 c.length c3,.slice A4 p.length c4] 34)).alloc (.cells #[.string n',.string v',.slice B1 d'.length d1,.slice B2v r'.length d2,.slice B3 c'.length d3,.slice B4 p'.length d4] 34)).heap.size ((w.alloc (.cells #[.string n,.string v,.slice A1 d.length c1,.slice A2 r.length c2,.slice A3 c.length c3,.slice A4 p.length c4] 34)).alloc (.cells #[.string n',.string v',.slice B1 d'.length d1,.slice B2v r'.length d2,.slice B3 c'.length d3,.slice B4 p'.length d4] 34)) w3 from (Below.refl ((w.alloc (.cells #[.string n,.string v,.slice A1 d.length c1,.slice A2 r.length c2,.slice A3 c.length c3,.slice A4 p.length c4] 34)).alloc (.cells #[.string n',.string v',.slice B1 d'.length d1,.slice B2v r'.length d2,.slice B3 c'.length d3,.slice B4 p'.length d4] 34)).heap.size ((w.alloc (.cells #[.string n,.string v,.slice A1 d.length c1,.slice A2 r.length c2,.slice A3 c.length c3,.slice A4 p.length c4] 34)).alloc (.cells #[.string n',.string v',.slice B1 d'.length d1,.slice B2v r'.length d2,.slice B3 c'.length d3,.slice B4 p'.length d4] 34))).trans ((hdr.below _).mono (Below.refl ((w.alloc (.cells #[.string n,.string v,.slice A1 d.length c1,.slice A2 r.length c2,.slice A3 c.length c3,.slice A4 p.length c4] 34)).alloc (.cells #[.string n',.string v',.slice B1 d'.length d1,.slice B2v r'.length d2,.slice B3 c'.length d3,.slice B4 p'.length d4] 34)).heap.size ((w.alloc (.cells #[.string n,.string v,.slice A1 d.length c1,.slice A2 r.length c2,.slice A3 c.length c3,.slice A4 p.length c4] 34)).alloc (.cells #[.string n',.string v',.slice B1 d'.length d1,.slice B2v r'.length d2,.slice B3 c'.length d3,.slice B4 p'.length d4] 34))).size))
  clear hdr
  obtain ⟨a2,a3,a4,a5,b2,b3,b4,b5⟩:=KX.out _ V0.out
  go_wp2_with fail
  refine (KR.out _ C0.out).mono ?_
  rintro e w4 ⟨rfl,hdr⟩
  have C1:=Lib.hid (C0.out.trans ((hdr.below _).mono C0.out.size))
  have GC1:=Lib.hid (GC0.out.trans (dr_gw hdr))
  have V1:=Lib.hid (show Below ((w.alloc (.cells #[.string n,.string v,.slice A1 d.length c1,.slice A2 r.length c2,.slice A3 c.length c3,.slice A4 p.length c4] 34)).alloc (.cells #[.string n',.string v',.slice B1 d'.length d1,.slice B2v r'.length d2,.slice B3 c'.length d3,.slice B4 p'.length d4] 34)).heap.size ((w.alloc (.cells #[.string n,.string v,.slice A1 d.length c1,.slice A2 r.length c2,.slice A3 c.length c3,.slice A4 p.length c4] 34)).alloc (.cells #[.string n',.string v',.slice B1 d'.length d1,.slice B2v r'.length d2,.slice B3 c'.length d3,.slice B4 p'.length d4] 34)) w4 from V0.out.trans ((hdr.below _).mono V0.out.size))
  clear hdr
  clear a2 b2 a3 b3 a4 b4 a5 b5
  obtain ⟨a2,a3,a4,a5,b2,b3,b4,b5⟩:=KX.out _ V1.out
  go_wp2_with fail
  refine (KC.out _ C1.out).mono ?_
  rintro e w5 ⟨rfl,hdr⟩
  have C2:=Lib.hid (C1.out.trans ((hdr.below _).mono C1.out.size))
  have GC2:=Lib.hid (GC1.out.trans (dr_gw hdr))
  have V2:=Lib.hid (show Below ((w.alloc (.cells #[.string n,.string v,.slice A1 d.length c1,.slice A2 r.length c2,.slice A3 c.length c3,.slice A4 p.length c4] 34)).alloc (.cells #[.string n',.string v',.slice B1 d'.length d1,.slice B2v r'.length d2,.slice B3 c'.length d3,.slice B4 p'.length d4] 34)).heap.size ((w.alloc (.cells #[.string n,.string v,.slice A1 d.length c1,.slice A2 r.length c2,.slice A3 c.length c3,.slice A4 p.length c4] 34)).alloc (.cells #[.string n',.string v',.slice B1 d'.length d1,.slice B2v r'.length d2,.slice B3 c'.length d3,.slice B4 p'.length d4] 34)) w5 from V1.out.trans ((hdr.below _).mono V1.out.size))
  clear hdr
  clear a2 b2 a3 b3 a4 b4 a5 b5
  obtain ⟨a2,a3,a4,a5,b2,b3,b4,b5⟩:=KX.out _ V2.out
  go_wp2_with fail
  refine (KP.out _ C2.out).mono ?_
  rintro e w6 ⟨rfl,hdr⟩
  have C3:=Lib.hid (C2.out.trans ((hdr.below _).mono C2.out.size))
  have GC3:=Lib.hid (GC2.out.trans (dr_gw hdr))
  have V3:=Lib.hid (show Below ((w.alloc (.cells #[.string n,.string v,.slice A1 d.length c1,.slice A2 r.length c2,.slice A3 c.length c3,.slice A4 p.length c4] 34)).alloc (.cells #[.string n',.string v',.slice B1 d'.length d1,.slice B2v r'.length d2,.slice B3 c'.length d3,.slice B4 p'.length d4] 34)).heap.size ((w.alloc (.cells #[.string n,.string v,.slice A1 d.length c1,.slice A2 r.length c2,.slice A3 c.length c3,.slice A4 p.length c4] 34)).alloc (.cells #[.string n',.string v',.slice B1 d'.length d1,.slice B2v r'.length d2,.slice B3 c'.length d3,.slice B4 p'.length d4] 34)) w6 from V2.out.trans ((hdr.below _).mono V2.out.size))
  clear hdr
  clear a2 b2 a3 b3 a4 b4 a5 b5
  obtain ⟨a2,a3,a4,a5,b2,b3,b4,b5⟩:=KX.out _ V3.out
  go_wp2
  go_ret
  exact ⟨by rw [X.out];try rfl,GC3.out⟩
 have q5:=Decidable.not_not.1 q5
 have X:=Lib.hid (show decide ((⟨n,v,d,r,c,p⟩:Ent)=⟨n',v',d',r',c',p'⟩)=true from decide_eq_true (by rw [q0,q1,q2,q3,q4,q5]))
 rw [decide_eq_true q0] at en
 rw [decide_eq_true q1] at ev
 rw [decide_eq_true q2] at KD
 rw [decide_eq_true q3] at KR
 rw [decide_eq_true q4] at KC
 rw [decide_eq_true q5] at KP
 clear q0 q1 q2 q3 q4 q5
 go_enter Tryz.func95,Tryz.ntmps95
 go_wp2_with fail
 refine (KD.out _ B2.out).mono ?_
 rintro e w3 ⟨rfl,hdr⟩
 have C0:=Lib.hid (B2.out.trans ((hdr.below _).mono B2.out.size))
 have GC0:=Lib.hid (GB2.out.trans (dr_gw hdr))
 have V0:=Lib.hid (show Below ((w.alloc (.cells #[.string n,.string v,.slice A1 d.length c1,.slice A2 r.length c2,.slice A3 c.length c3,.slice A4 p.length c4] 34)).alloc (.cells #[.string n',.string v',.slice B1 d'.length d1,.slice B2v r'.length d2,.slice B3 c'.length d3,.slice B4 p'.length d4] 34)).heap.size ((w.alloc (.cells #[.string n,.string v,.slice A1 d.length c1,.slice A2 r.length c2,.slice A3 c.length c3,.slice A4 p.length c4] 34)).alloc (.cells #[.string n',.string v',.slice B1 d'.length d1,.slice B2v r'.length d2,.slice B3 c'.length d3,.slice B4 p'.length d4] 34)) w3 from (Below.refl ((w.alloc (.cells #[.string n,.string v,.slice A1 d.length c1,.slice A2 r.length c2,.slice A3 c.length c3,.slice A4 p.length c4] 34)).alloc (.cells #[.string n',.string v',.slice B1 d'.length d1,.slice B2v r'.length d2,.slice B3 c'.length d3,.slice B4 p'.length d4] 34)).heap.size ((w.alloc (.cells #[.string n,.string v,.slice A1 d.length c1,.slice A2 r.length c2,.slice A3 c.length c3,.slice A4 p.length c4] 34)).alloc (.cells #[.string n',.string v',.slice B1 d'.length d1,.slice B2v r'.length d2,.slice B3 c'.length d3,.slice B4 p'.length d4] 34))).trans ((hdr.below _).mono (Below.refl ((w.alloc (.cells #[.string n,.string v,.slice A1 d.length c1,.slice A2 r.length c2,.slice A3 c.length c3,.slice A4 p.length c4] 34)).alloc (.cells #[.string n',.string v',.slice B1 d'.length d1,.slice B2v r'.length d2,.slice B3 c'.length d3,.slice B4 p'.length d4] 34)).heap.size ((w.alloc (.cells #[.string n,.string v,.slice A1 d.length c1,.slice A2 r.length c2,.slice A3 c.length c3,.slice A4 p.length c4] 34)).alloc (.cells #[.string n',.string v',.slice B1 d'.length d1,.slice B2v r'.length d2,.slice B3 c'.length d3,.slice B4 p'.length d4] 34))).size))
 clear hdr
 obtain ⟨a2,a3,a4,a5,b2,b3,b4,b5⟩:=KX.out _ V0.out
 go_wp2_with fail
 refine (KR.out _ C0.out).mono ?_
 rintro e w4 ⟨rfl,hdr⟩
 have C1:=Lib.hid (C0.out.trans ((hdr.below _).mono C0.out.size))
 have GC1:=Lib.hid (GC0.out.trans (dr_gw hdr))
 have V1:=Lib.hid (show Below ((w.alloc (.cells #[.string n,.string v,.slice A1 d.length c1,.slice A2 r.length c2,.slice A3 c.length c3,.slice A4 p.length c4] 34)).alloc (.cells #[.string n',.string v',.slice B1 d'.length d1,.slice B2v r'.length d2,.slice B3 c'.length d3,.slice B4 p'.length d4] 34)).heap.size ((w.alloc (.cells #[.string n,.string v,.slice A1 d.length c1,.slice A2 r.length c2,.slice A3 c.length c3,.slice A4 p.length c4] 34)).alloc (.cells #[.string n',.string v',.slice B1 d'.length d1,.slice B2v r'.length d2,.slice B3 c'.length d3,.slice B4 p'.length d4] 34)) w4 from V0.out.trans ((hdr.below _).mono V0.out.size))
 clear hdr
 clear a2 b2 a3 b3 a4 b4 a5 b5
 obtain ⟨a2,a3,a4,a5,b2,b3,b4,b5⟩:=KX.out _ V1.out
 go_wp2_with fail
 refine (KC.out _ C1.out).mono ?_
 rintro e w5 ⟨rfl,hdr⟩
 have C2:=Lib.hid (C1.out.trans ((hdr.below _).mono C1.out.size))
 have GC2:=Lib.hid (GC1.out.trans (dr_gw hdr))
 have V2:=Lib.hid (show Below ((w.alloc (.cells #[.string n,.string v,.slice A1 d.length c1,.slice A2 r.length c2,.slice A3 c.length c3,.slice A4 p.length c4] 34)).alloc (.cells #[.string n',.string v',.slice B1 d'.length d1,.slice B2v r'.length d2,.slice B3 c'.length d3,.slice B4 p'.length d4] 34)).heap.size ((w.alloc (.cells #[.string n,.string v,.slice A1 d.length c1,.slice A2 r.length c2,.slice A3 c.length c3,.slice A4 p.length c4] 34)).alloc (.cells #[.string n',.string v',.slice B1 d'.length d1,.slice B2v r'.length d2,.slice B3 c'.length d3,.slice B4 p'.length d4] 34)) w5 from V1.out.trans ((hdr.below _).mono V1.out.size))
 clear hdr
 clear a2 b2 a3 b3 a4 b4 a5 b5
 obtain ⟨a2,a3,a4,a5,b2,b3,b4,b5⟩:=KX.out _ V2.out
 go_wp2_with fail
 refine (KP.out _ C2.out).mono ?_
 rintro e w6 ⟨rfl,hdr⟩
 have C3:=Lib.hid (C2.out.trans ((hdr.below _).mono C2.out.size))
 have GC3:=Lib.hid (GC2.out.trans (dr_gw hdr))
 have V3:=Lib.hid (show Below ((w.alloc (.cells #[.string n,.string v,.slice A1 d.length c1,.slice A2 r.length c2,.slice A3 c.length c3,.slice A4 p.length c4] 34)).alloc (.cells #[.string n',.string v',.slice B1 d'.length d1,.slice B2v r'.length d2,.slice B3 c'.length d3,.slice B4 p'.length d4] 34)).heap.size ((w.alloc (.cells #[.string n,.string v,.slice A1 d.length c1,.slice A2 r.length c2,.slice A3 c.length c3,.slice A4 p.length c4] 34)).alloc (.cells #[.string n',.string v',.slice B1 d'.length d1,.slice B2v r'.length d2,.slice B3 c'.length d3,.slice B4 p'.length d4] 34)) w6 from V2.out.trans ((hdr.below _).mono V2.out.size))
 clear hdr
 clear a2 b2 a3 b3 a4 b4 a5 b5
 obtain ⟨a2,a3,a4,a5,b2,b3,b4,b5⟩:=KX.out _ V3.out
 go_wp2
 go_ret
 exact ⟨by rw [X.out];try rfl,GC3.out⟩
set_option maxHeartbeats 8000000 in
theorem samh_any (r s : HrV) (w : World) (hx : EntV w (lt_ w.heap.size) r.x.e r.A1 r.c1 r.A2 r.c2 r.A3 r.c3 r.A4 r.c4) (hy : EntV w (lt_ w.heap.size) s.x.e s.A1 s.c1 s.A2 s.c2 s.A3 s.c3 s.A4 s.c4) :
    Calls Tryz.prog 54 #[.agg r.cs.toArray, .agg s.cs.toArray] w fun e w' => e = .returned (.bool (decide (r.x = s.x))) ∧ Gw w w' := by
  obtain ⟨⟨⟨n, v, d, rr, c, p⟩, a, h⟩, A1, c1, A2, c2, A3, c3, A4, c4⟩ := r
  obtain ⟨⟨⟨n', v', d', r', c', p'⟩, a', h'⟩, B1, d1, B2v, d2, B3, d3, B4, d4⟩ := s
  simp only at hx hy
  unfold HrV.cs
  simp only
  have B2 := Lib.hid (show Below w.heap.size w ((w.alloc (.cells #[.string n, .string v, .slice A1 d.length c1, .slice A2 rr.length c2, .slice A3 c.length c3, .slice A4 p.length c4, .bool a, .bool h] 36)).alloc (.cells #[.string n', .string v', .slice B1 d'.length d1, .slice B2v r'.length d2, .slice B3 c'.length d3, .slice B4 p'.length d4, .bool a', .bool h'] 36)) from ((Below.refl _ w).alloc (Nat.le_refl _) _).alloc (by simp) _)
  have GB2 := Lib.hid (show Gw w ((w.alloc (.cells #[.string n, .string v, .slice A1 d.length c1, .slice A2 rr.length c2, .slice A3 c.length c3, .slice A4 p.length c4, .bool a, .bool h] 36)).alloc (.cells #[.string n', .string v', .slice B1 d'.length d1, .slice B2v r'.length d2, .slice B3 c'.length d3, .slice B4 p'.length d4, .bool a', .bool h'] 36)) from (Gw.alloc _ _).trans (Gw.alloc _ _))
  have KE := Lib.hid (sent_any ⟨n, v, d, rr, c, p⟩ ⟨n', v', d', r', c', p'⟩ A1 c1 A2 c2 A3 c3 A4 c4 B1 d1 B2v d2 B3 d3 B4 d4 _ (hx.on B2.out) (hy.on B2.out))
  have HE : ∀ q, decide ((⟨n, v, d, rr, c, p⟩ : Ent) = ⟨n', v', d', r', c', p'⟩) = q → decide ((⟨⟨n, v, d, rr, c, p⟩, a, h⟩ : Hr) = ⟨⟨n', v', d', r', c', p'⟩, a', h'⟩) = (q && (a == a' && h == h')) := fun q hq => by
    rw [← hq, Bool.eq_iff_iff]
    simp only [decide_eq_true_iff, Bool.and_eq_true, beq_iff_eq, Hr.mk.injEq]
  have HE := Lib.hid HE
  clear hx hy
  generalize decide ((⟨n, v, d, rr, c, p⟩ : Ent) = ⟨n', v', d', r', c', p'⟩) = q at KE HE
  have HQ := Lib.hid (HE.out q rfl)
  clear HE
  go_enter Tryz.func54, Tryz.ntmps54
  cases a <;> cases h <;> cases a' <;> cases h'
  all_goals first
    | (go_wp2
       go_ret
       exact ⟨by rw [HQ.out]; cases q <;> rfl, GB2.out⟩)
    | (go_wp2_with fail
       refine KE.out.mono ?_
       rintro e w3 ⟨rfl, hb⟩
       have C0 := Lib.hid (GB2.out.trans hb)
       clear hb
       go_wp2
       go_ret
       exact ⟨by rw [HQ.out]; cases q <;> rfl, C0.out⟩)
end Go.Proofs.YtboinnjncaehkaaGreatDoor
namespace Go.Proofs.YtboinnjncaehkaaGreatDoor
open Go.RowKit Go.Sort
def mrg:List Hr→List Hr→List ByteArray
 | [],b=>b.map fun x=>x.e.n
 | a,[]=>a.map fun x=>x.e.n
 | x::a,y::b=>if Op.bytesLess x.e.n.toList y.e.n.toList=true then x.e.n::mrg a (y::b) else if Op.bytesLess y.e.n.toList x.e.n.toList=true then y.e.n::mrg (x::a) b else (if x=y then mrg a b else x.e.n::mrg a b)
termination_by a b=>a.length+b.length
theorem mrg_nil_left (b:List Hr):mrg [] b=b.map fun x=>x.e.n:=by unfold mrg;rfl
theorem mrg_nil_right (a:List Hr):mrg a []=a.map fun x=>x.e.n:=by
 cases a with
 | nil=>unfold mrg;rfl
 | cons x a=>unfold mrg;rfl
theorem mrg_cons (x:Hr) (a:List Hr) (y:Hr) (b:List Hr):mrg (x::a) (y::b)=if Op.bytesLess x.e.n.toList y.e.n.toList=true then x.e.n::mrg a (y::b) else if Op.bytesLess y.e.n.toList x.e.n.toList=true then y.e.n::mrg (x::a) b else (if x=y then mrg a b else x.e.n::mrg a b):=by
 rw [mrg]
theorem fd_none' {l:List Hr} {n:ByteArray} (h:n ∉ l.map fun x=>x.e.n):fdH l n=none:=fd_none.2 fun x hx e=>h (List.mem_map.2 ⟨x,hx,e⟩)
theorem fd_cons (x:Hr) (l:List Hr) (n:ByteArray):fdH (x::l) n=if x.e.n=n then some x else fdH l n:=by
 unfold fdH
 by_cases h:x.e.n=n
 ·rw [if_pos h,List.find?_cons_of_pos (by simp [h])]
 ·rw [if_neg h,List.find?_cons_of_neg (by simp [h])]
theorem fd_some' {l:List Hr} {n:ByteArray} (h:fdH l n≠none):n ∈ l.map fun x=>x.e.n:=by
 cases hf:fdH l n with
 | none=>exact absurd hf h
 | some x=>exact List.mem_map.2 ⟨x,(fd_some hf).1,(fd_some hf).2⟩
theorem mrg_ok:∀(n:Nat) (a b:List Hr),a.length+b.length=n→Ris (a.map fun x=>x.e.n)→Ris (b.map fun x=>x.e.n)→Ris (mrg a b)∧∀nm,nm ∈ mrg a b↔fdH a nm≠fdH b nm
 | n,[],b,_,_,hb=>by
  rw [mrg_nil_left]
  refine ⟨hb,fun nm=>⟨fun h e=>?_,fun h=>fd_some' fun e=>h (by rw [e];rfl)⟩⟩
  obtain ⟨x,hx,hn⟩:=List.mem_map.1 h
  exact fd_none.1 e.symm x hx hn
 | n,x::a,[],_,ha,_=>by
  rw [mrg_nil_right]
  refine ⟨ha,fun nm=>⟨fun h e=>?_,fun h=>fd_some' fun e=>h (by rw [e];rfl)⟩⟩
  obtain ⟨z,hz,hn⟩:=List.mem_map.1 h
  exact fd_none.1 e z hz hn
 | 0,x::a,y::b,h,_,_=>by simp at h
 | n+1,x::a,y::b,hl,ha,hb=>by
  obtain ⟨ha1,ha2⟩:=List.pairwise_cons.1 ha
  obtain ⟨hb1,hb2⟩:=List.pairwise_cons.1 hb
  simp only [List.length_cons] at hl
  rw [mrg_cons]
  split
  ·rename_i h
   obtain ⟨k1,k2⟩:=mrg_ok n a (y::b) (by simp only [List.length_cons];omega) ha2 hb
   have hxb:∀z ∈ (y::b).map fun x=>x.e.n,blt x.e.n z:=fun z hz=>by
    rw [List.map_cons] at hz
    rcases List.mem_cons.1 hz with rfl|hz
    ·exact h
    ·exact blt_tr h (hb1 z hz)
   refine ⟨List.Pairwise.cons (fun z hz=>?_) k1,fun nm=>?_⟩
   ·by_cases q:fdH a z=none
    ·exact hxb z (fd_some' fun e=>(k2 z).1 hz (by rw [q,e]))
    ·exact ha1 z (fd_some' q)
   ·rw [List.mem_cons,k2,fd_cons x a]
    by_cases e:x.e.n=nm
    ·rw [if_pos e]
     refine ⟨fun _=>?_,fun _=>.inl e.symm⟩
     rw [fd_none' (fun hh=>blt_self _ (by rw [←e] at hh;exact hxb _ hh))]
     simp
    ·rw [if_neg e]
     exact ⟨fun hh=>hh.elim (fun q=>absurd q.symm e) id,fun hh=>.inr hh⟩
  ·rename_i h
   split
   ·rename_i h2
    obtain ⟨k1,k2⟩:=mrg_ok n (x::a) b (by simp only [List.length_cons];omega) ha hb2
    have hya:∀z ∈ (x::a).map fun x=>x.e.n,blt y.e.n z:=fun z hz=>by
     rw [List.map_cons] at hz
     rcases List.mem_cons.1 hz with rfl|hz
     ·exact h2
     ·exact blt_tr h2 (ha1 z hz)
    refine ⟨List.Pairwise.cons (fun z hz=>?_) k1,fun nm=>?_⟩
    ·by_cases q:fdH b z=none
     ·exact hya z (fd_some' fun e=>(k2 z).1 hz (by rw [q,e]))
     ·exact hb1 z (fd_some' q)
    ·rw [List.mem_cons,k2,fd_cons y b]
     by_cases e:y.e.n=nm
     ·rw [if_pos e]
      refine ⟨fun _=>?_,fun _=>.inl e.symm⟩
      rw [fd_none' (fun hh=>blt_self _ (by rw [←e] at hh;exact hya _ hh))]
      simp
     ·rw [if_neg e]
      exact ⟨fun hh=>hh.elim (fun q=>absurd q.symm e) id,fun hh=>.inr hh⟩
   ·rename_i h2
    have he:x.e.n=y.e.n:=by
     rcases blt_tot x.e.n y.e.n with q|q|q
     ·exact absurd q h
     ·exact absurd q h2
     ·exact q
    obtain ⟨k1,k2⟩:=mrg_ok (a.length+b.length) a b rfl ha2 hb2
    have na:∀z ∈ mrg a b,blt x.e.n z:=fun z hz=>by
     by_cases q:fdH a z=none
     ·rw [he];exact hb1 z (fd_some' fun e=>(k2 z).1 hz (by rw [q,e]))
     ·exact ha1 z (fd_some' q)
    have za:fdH a x.e.n=none:=fd_none' fun hh=>blt_self _ (ha1 _ hh)
    have zb:fdH b y.e.n=none:=fd_none' fun hh=>blt_self _ (hb1 _ hh)
    split
    ·rename_i hxy
     refine ⟨k1,fun nm=>?_⟩
     rw [k2,fd_cons x a,fd_cons y b]
     by_cases e:x.e.n=nm
     ·rw [if_pos e,if_pos (by rw [←he];exact e),hxy]
      subst e
      rw [za,he,zb]
      simp
     ·rw [if_neg e,if_neg (by rw [←he];exact e)]
    ·rename_i hxy
     refine ⟨List.Pairwise.cons na k1,fun nm=>?_⟩
     rw [List.mem_cons,k2,fd_cons x a,fd_cons y b]
     by_cases e:x.e.n=nm
     ·rw [if_pos e,if_pos (by rw [←he];exact e)]
      exact ⟨fun _ q=>hxy (Option.some.inj q),fun _=>.inl e.symm⟩
     ·rw [if_neg e,if_neg (by rw [←he];exact e)]
      exact ⟨fun hh=>hh.elim (fun q=>absurd q.symm e) id,fun hh=>.inr hh⟩
termination_by n a b=>a.length+b.length
theorem mrg_tu {l m a b:List Hr} (ha:Ris (a.map fun x=>x.e.n)) (hb:Ris (b.map fun x=>x.e.n)) (fa:∀nm,fdH a nm=fdH l nm) (fb:∀nm,fdH b nm=fdH m nm):mrg a b=tuH l m:=by
 obtain ⟨h1,h2⟩:=mrg_ok _ a b rfl ha hb
 exact tu_is h1 fun nm=>by rw [h2,fa,fb]
def RV (w:World) (v:Value) (d:List HrV):Prop:=∃A c,v=.slice A d.length c∧d.length≤c∧c≤maxLen∧∀k (hk:k < d.length),∃ad:Addr,A=some ad∧ad.block < w.heap.size∧∀j u,(d[k].cs)[j]?=some u→w.cell? (ad.add (k*8+j))=some u
theorem RV.keep {w w':World} {v:Value} {d:List HrV} (h:RV w v d) (hb:Below w.heap.size w w'):RV w' v d:=by
 obtain ⟨A,c,e,h1,h2,h3⟩:=h
 refine ⟨A,c,e,h1,h2,fun k hk=>?_⟩
 obtain ⟨ad,e1,e2,e3⟩:=h3 k hk
 exact ⟨ad,e1,Nat.lt_of_lt_of_le e2 hb.size,fun j u hu=>(hb.cell (by rw [blk_add];exact e2)).trans (e3 j u hu)⟩
theorem RV.own {w:World} {v:Value} {d:List HrV} (h:RV w v d):∃A c,v=.slice A d.length c∧d.length≤c∧c≤9223372036854775807:=by
 obtain ⟨A,c,e,h1,h2,_⟩:=h
 exact ⟨A,c,e,h1,h2⟩
theorem RV.grown {w w':World} {v:Value} {d:List HrV} {row:Option Nat} (h:RV w v d) (hg:w.grownBy w' row) (hne:∀b,v.ownBlock=some b→row≠some b):RV w' v d:=by
 obtain ⟨A,c,rfl,h1,h2,h3⟩:=h
 refine ⟨A,c,rfl,h1,h2,fun k hk=>?_⟩
 obtain ⟨ad,rfl,e2,e3⟩:=h3 k hk
 refine ⟨ad,rfl,Nat.lt_of_lt_of_le e2 hg.size,fun j u hu=>?_⟩
 rw [World.cell?_of_block (w:=w) (w':=w') (by rw [blk_add];exact hg.block _ e2 (fun e=>hne ad.block rfl e.symm))]
 exact e3 j u hu
theorem rv_of {w:World} {S:Nat→Prop} {l:List Hr} {A:Option Addr} {n c:Nat} (h:rdHrs w S l [.slice A n c]) (hS:∀b,S b→b < w.heap.size):∃d:List HrV,d.map (·.x)=l∧RV w (.slice A n c) d:=by
 rcases Nat.eq_zero_or_pos l.length with h0|h0
 ·obtain rfl:l=[]:=List.eq_nil_of_length_eq_zero h0
  obtain ⟨rfl,h1,h2,_⟩:=rdHrs_at h
  exact ⟨[],rfl,A,c,rfl,h1,h2,fun k hk=>absurd hk (by simp)⟩
 ·obtain ⟨rfl,h1,h2,_⟩:=rdHrs_at h
  obtain ⟨-,ad,ess,rfl,hSa,hel,hek⟩:=rows_of h h0
  obtain ⟨d,d1,d2,d3⟩:=hrvs_of (S:=S) hel (fun k hk=>by obtain ⟨es,e1,e2,_⟩:=hek k hk;exact ⟨es,e1,e2⟩)
  have hdl:d.length=l.length:=by rw [←d1,List.length_map]
  refine ⟨d,d1,some ad,c,by rw [hdl],by rw [hdl];exact h1,h2,fun k hk=>⟨ad,rfl,hS _ hSa,fun j u hu=>?_⟩⟩
  obtain ⟨es,e1,e2,e3,e4⟩:=hek k (by omega)
  refine e4 j u ?_
  rw [←d2] at e1
  simp only [List.getElem?_map,List.getElem?_eq_getElem hk,Option.map_some,Option.some.injEq] at e1
  rw [←e1];exact hu
def Spr (w:World) (base:Nat) (v:Value):Prop:=∃A n c,v=.slice A n c∧n≤c∧c≤maxLen∧(A=none→c=0)∧∀ad,A=some ad→∃g o,ad=⟨g,o,none⟩∧base≤g∧g < w.heap.size∧∀j,j < c*8→(w.cell? ⟨g,o+j,none⟩).isSome=true∧w.frozen? ⟨g,o+j,none⟩=false
theorem Spr.keep {w w':World} {base:Nat} {v:Value} (h:Spr w base v) (hb:Below w.heap.size w w'):Spr w' base v:=by
 obtain ⟨A,n,c,e,h1,h2,h3,h4⟩:=h
 refine ⟨A,n,c,e,h1,h2,h3,fun ad ha=>?_⟩
 obtain ⟨g,o,e1,e2,e3,e4⟩:=h4 ad ha
 refine ⟨g,o,e1,e2,Nat.lt_of_lt_of_le e3 hb.size,fun j hj=>?_⟩
 rw [hb.cell (p:=⟨g,o+j,none⟩) e3,hb.frozen (p:=⟨g,o+j,none⟩) e3]
 exact e4 j hj
theorem spr_of {T:Nat→Prop} {w:World} {base:Nat} {e:TypeId} {v:Value} {l:List Hr} (h:Grow rdHr 8 T w base e v l):Spr w base v:=by
 obtain ⟨css,hl,ho,hE⟩:=h
 rcases ho.2 with ⟨rfl,h0⟩|⟨gb,cap,cur,rfl,hb,hg,hn,hm,hs,ht⟩
 ·exact ⟨none,0,0,rfl,Nat.le_refl _,Nat.zero_le _,fun _=>rfl,fun ad ha=>by cases ha⟩
 ·refine ⟨_,_,cap,rfl,hn,hm,(fun ha=>by cases ha),fun ad ha=>?_⟩
  obtain rfl:=Option.some.inj ha
  refine ⟨gb,0,rfl,hb,(Array.getElem?_eq_some_iff.1 hg).1,fun j hj=>⟨?_,by unfold World.frozen?;rw [hg];simp⟩⟩
  rw [cell_of_row w gb (0+j) cur e (0,0) hg,Array.getElem?_eq_getElem (by rw [hs];omega)];rfl
theorem Spr.tail {w:World} {base g o n c:Nat} (h:Spr w base (.slice (some ⟨g,o,none⟩) (n+1) c)):Spr w base (.slice (if c=1 then some ⟨g,o,none⟩ else some ⟨g,o+8,none⟩) n (c - 1)):=by
 obtain ⟨A,n',c',e,h1,h2,h3,h4⟩:=h
 simp only [Value.slice.injEq] at e
 obtain ⟨rfl,rfl,rfl⟩:=e
 obtain ⟨g',o',e1,e2,e3,e4⟩:=h4 _ rfl
 simp only [Addr.mk.injEq,and_true] at e1
 obtain ⟨rfl,rfl⟩:=e1
 refine ⟨_,n,c - 1,rfl,by omega,by omega,fun ha=>?_,fun ad ha=>?_⟩
 ·split at ha
  ·omega
  ·cases ha
 ·by_cases hc:c=1
  ·rw [if_pos hc] at ha
   obtain rfl:=Option.some.inj ha
   exact ⟨g,o,rfl,e2,e3,fun j hj=>absurd hj (by omega)⟩
  ·rw [if_neg hc] at ha
   obtain rfl:=Option.some.inj ha
   refine ⟨g,o+8,rfl,e2,e3,fun j hj=>?_⟩
   rw [show o+8+j=o+(8+j) by omega]
   exact e4 (8+j) (by omega)
theorem swr_os (g:Nat):∀(vs:List Value) (o:Nat) (w:World),(w.setCells g o vs).os=w.os∧(w.setCells g o vs).tape=w.tape∧(w.setCells g o vs).output=w.output∧∀b,b≠g→(w.setCells g o vs).heap[b]?=w.heap[b]?
 | [],o,w=>⟨rfl,rfl,rfl,fun _ _=>rfl⟩
 | v::vs,o,w=>by
  obtain ⟨h1,h2,h3,h4⟩:=swr_os g vs (o+1) (w.setCell ⟨g,o,none⟩ v)
  exact ⟨h1,h2,h3,fun b hb=>(h4 b hb).trans (heap_setCell_other _ _ _ _ hb)⟩
theorem append_zero {P:Program} (w:World) (t ty e:TypeId) (i:TypeInfo) (ht:P.underlying t=some (.slice e)) (hi:P.info? e=some i) (A B:Option Addr) (n c cb:Nat) (hn:n≤c):(Builtin.append_ #[t,t] ty #[.slice A n c,.slice B 0 cb]).run P w=.ok (.slice A n c) w:=by
 cases A<;>cases B<;>simp [Builtin.append_,run_underlying ht,sizeOf,typeInfo,hi,Builtin.lenOf,Builtin.firstCells,hn,storeCells,loadCells,loadCellsFrom]
theorem rest_run (w:World) (base:Nat) (ty:TypeId) (va vb:Value) (da db:List HrV) (ha:RV w va da) (hb:RV w vb db) (hs:Spr w base va) (hbs:base≤w.heap.size) (h0:da=[]∨db=[]) (hl:db.length≤400) :
  ∃v' w',(Builtin.append_ #[23,23] ty #[va,vb]).run Tryz.prog w=.ok v' w'∧RV w' v' (da++db)∧Below base w w'∧(∀b,b < w.heap.size→va.ownBlock≠some b→w'.heap[b]?=w.heap[b]?)∧(v'.ownBlock=va.ownBlock∨∃b,v'.ownBlock=some b∧w.heap.size≤b∧b < w'.heap.size):=by
 obtain ⟨i0,hi,hz0,hz1,hz2⟩:=info_parts here_info
 obtain ⟨A,c,rfl,a1,a2,a3⟩:=ha
 obtain ⟨B,cb,rfl,b1,b2,b3⟩:=hb
 by_cases hd:db=[]
 ·subst hd
  refine ⟨_,w,append_zero w _ ty _ i0 Tryz.underlying23 hi A B _ c cb a1,?_,Below.refl _ _,fun _ _ _=>rfl,.inl rfl⟩
  rw [List.append_nil]
  exact ⟨A,c,rfl,a1,a2,a3⟩
 ·obtain rfl:da=[]:=h0.resolve_right hd
  have hdl:0 < db.length:=by
   rcases Nat.eq_zero_or_pos db.length with h|h
   ·exact absurd (List.eq_nil_of_length_eq_zero h) hd
   ·exact h
  obtain ⟨ab,rfl,ab1,-⟩:=b3 0 hdl
  have news:∀j u,(db.map (·.cs)).flatten[j]?=some u→w.cell? (ab.add j)=some u:=fun j u hu=>by
   obtain ⟨k,i,cs,h1,h2,rfl⟩:=flat_back (sz:=8) (by decide) (fun cs hc=>by obtain ⟨r,_,rfl⟩:=List.mem_map.1 hc;rfl) hu
   have hk:k < db.length:=by have:=(List.getElem?_eq_some_iff.1 h1).1;simpa using this
   rw [List.getElem?_map,List.getElem?_eq_getElem hk] at h1
   simp only [Option.map_some,Option.some.injEq] at h1
   subst h1
   obtain ⟨ad,e1,_,e3⟩:=b3 k hk
   obtain rfl:=Option.some.inj e1
   exact e3 i u h2
  have nlen:(db.map (·.cs)).flatten.length=db.length*8:=by rw [flatten_len 8 (fun cs hc=>by obtain ⟨r,_,rfl⟩:=List.mem_map.1 hc;rfl),List.length_map]
  have none1:∀u ∈ (db.map (·.cs)).flatten,u.oneCell'=true:=fun u hu=>by
   obtain ⟨cs,hc,hu⟩:=List.mem_flatten.1 hu
   obtain ⟨r,_,rfl⟩:=List.mem_map.1 hc
   exact HrV.one r u hu
  have rd:∀{W:World} {g o:Nat},(∀j u,(db.map (·.cs)).flatten[j]?=some u→W.cell? ⟨g,o+j,none⟩=some u)→g < W.heap.size→∀k (hk:k < db.length),∃ad:Addr,some (⟨g,o,none⟩:Addr)=some ad∧ad.block < W.heap.size∧∀j u,(db[k].cs)[j]?=some u→W.cell? (ad.add (k*8+j))=some u:=fun {W g o} h hg k hk=>⟨_,rfl,hg,fun j u hu=>by
   rw [Addr.add_lit]
   exact h _ u (flatten_at 8 (fun cs hc=>by obtain ⟨r,_,rfl⟩:=List.mem_map.1 hc;rfl) (by simp [hk]) j u hu)⟩
  obtain ⟨A',n',c',e',s1,s2,s3,s4⟩:=hs
  simp only [Value.slice.injEq] at e'
  obtain ⟨rfl,rfl,rfl⟩:=e'
  simp only [List.length_nil,List.nil_append]
  by_cases hroom:0+db.length≤c
  ·cases A with
   | none=>have:=s3 rfl;omega
   | some ad=>
    obtain ⟨g,o,rfl,g1,g2,g3⟩:=s4 ad rfl
    have hr:=run_append_room_cells (P:=Tryz.prog) w 23 ty _ i0 Tryz.underlying23 hi g o 0 c ab db.length cb _ (by rw [nlen,hz1]) news none1 hroom (fun j hj=>by rw [Nat.zero_mul,Nat.add_zero];exact (g3 j (by rw [nlen] at hj;omega)).1) (fun j hj=>by rw [Nat.zero_mul,Nat.add_zero];exact (g3 j (by rw [nlen] at hj;omega)).2)
    rw [Nat.zero_mul,Nat.add_zero,Nat.zero_add] at hr
    have hc:∀j,j < (db.map (·.cs)).flatten.length→(w.cell? ⟨g,o+j,none⟩).isSome=true:=fun j hj=>(g3 j (by rw [nlen] at hj;omega)).1
    refine ⟨_,_,hr,⟨_,c,rfl,by omega,s2,rd (fun j u hu=>?_) (by rw [size_setCells];exact g2)⟩,?_⟩
    ·have hj:=(List.getElem?_eq_some_iff.1 hu).1
     rw [World.cell?_setCells_in g _ o w hc j hj]
     rw [List.getElem?_eq_getElem hj] at hu
     exact hu
    ·refine ⟨⟨?_,?_,?_,by rw [size_setCells];exact Nat.le_refl _,fun b hb=>?_⟩,fun b hb hne=>(swr_os g _ o w).2.2.2 b (fun e=>hne (by rw [e];rfl)),.inl rfl⟩
     ·exact (swr_os g _ o w).1
     ·exact (swr_os g _ o w).2.1
     ·exact (swr_os g _ o w).2.2.1
     ·exact (swr_os g _ o w).2.2.2 b (by omega)
  ·have hfin:∀v' w',w'.ownsRow w.heap.size 36 8 v' (0+db.length) ([]++(db.map (·.cs)).flatten)→w.grownBy w' none→RV w' v' db∧Below base w w'∧(∀b,b < w.heap.size→w'.heap[b]?=w.heap[b]?)∧∃b,v'.ownBlock=some b∧w.heap.size≤b∧b < w'.heap.size:=fun v' w' ho hg=>by
    rcases ho.2 with ⟨_,h⟩|⟨gb,cap,cur,rfl,hb,hgg,hn,hm,hsz,ht⟩
    ·omega
    ·rw [List.nil_append] at ht
     rw [Nat.zero_add] at hn ht ⊢
     have hlt:gb < w'.heap.size:=(Array.getElem?_eq_some_iff.1 hgg).1
     refine ⟨⟨_,cap,rfl,hn,hm,rd (fun j u hu=>?_) hlt⟩,⟨hg.os,hg.tape,hg.output,hg.size,fun b hb=>hg.block b (by omega) (by simp)⟩,fun b hb=>hg.block b hb (by simp),gb,rfl,hb,hlt⟩
     rw [cell_of_row w' gb (0+j) cur _ (0,0) hgg,Nat.zero_add]
     rw [←ht,List.getElem?_take] at hu
     split at hu
     ·simpa using hu
     ·cases hu
   have hmx:0+db.length≤maxLen:=by unfold maxLen;omega
   cases A with
   | none=>
    obtain rfl:=s3 rfl
    obtain ⟨v',w',hr,ho,hg,-⟩:=run_append_own_at (P:=Tryz.prog) w w.heap.size 23 ty 36 i0 _ 8 136 Tryz.underlying23 hi hz0 hz1 hz2 rfl (by decide) (.slice none 0 0) 0 [] (World.ownsRow_nil _ _ _ _) ab db.length cb _ (by rw [nlen]) news none1 (by omega) (by omega) (Nat.le_refl _)
    obtain ⟨r1,r2,r3,r4⟩:=hfin v' w' ho hg
    exact ⟨v',w',hr,r1,r2,fun b hb _=>r3 b hb,.inr r4⟩
   | some ad=>
    obtain ⟨v',w',hr,ho,hg⟩:=run_append_arg_grows (P:=Tryz.prog) w 23 ty 36 i0 _ 8 136 Tryz.underlying23 hi hz0 hz1 hz2 rfl (by decide) ad 0 c [] rfl (by simp) ab db.length cb _ (by rw [nlen]) news (by omega) hmx (by omega)
    obtain ⟨r1,r2,r3,r4⟩:=hfin v' w' ho hg
    exact ⟨v',w',hr,r1,r2,fun b hb _=>r3 b hb,.inr r4⟩
end Go.Proofs.YtboinnjncaehkaaGreatDoor
