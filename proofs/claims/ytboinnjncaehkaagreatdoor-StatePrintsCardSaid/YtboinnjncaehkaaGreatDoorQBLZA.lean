/- What the laws rest on: P6c, P8l, D4n, D4q, P6t. -/
import Derived.Test.YtboinnjncaehkaaGreatDoorQAKZA
import Derived.Test.YtboinnjncaehkaaGreatDoorQBNZA
set_option maxRecDepth 100000
set_option linter.unusedVariables false
set_option linter.unusedSimpArgs false
namespace Go.Proofs.YtboinnjncaehkaaGreatDoor
open Go.RowKit
theorem rgtE_turn (x:Ent):rgtE x=(nameB (B x.n)&&(prB (B x.v)&&(rightG x.d&&(rightG x.r&&(decide (x.c.length≤12)&&(x.c.all rgt&&(decide (x.p.length≤8)&&(x.p.all rgt&&givs6 x.p)))))))):=by
 unfold rgtE
 generalize nameB (B x.n)=b1
 generalize prB (B x.v)=b2
 generalize rightG x.d=b3
 generalize rightG x.r=b4
 generalize x.c.all rgt=b5
 generalize x.p.all rgt=b6
 generalize givs6 x.p=b7
 generalize decide (x.c.length≤12)=b8
 generalize decide (x.p.length≤8)=b9
 cases b1<;>cases b2<;>cases b3<;>cases b4<;>cases b5<;>cases b6<;>cases b7<;>cases b8<;>cases b9<;>rfl
set_option maxHeartbeats 8000000 in
theorem eright_any (x:Ent) (A1:Option Addr) (c1:Nat) (A2:Option Addr) (c2:Nat) (A3:Option Addr) (c3:Nat) (A4:Option Addr) (c4:Nat) (w:World) (hx:EntV w (lt_ w.heap.size) x A1 c1 A2 c2 A3 c3 A4 c4) (E:EnvR w) :
  Calls Tryz.prog 41 #[x.val A1 c1 A2 c2 A3 c3 A4 c4] w fun e w'=>e=.returned (.bool (rgtE x))∧Below w.heap.size w w':=by
 have XE:=Lib.hid (rgtE_turn x)
 obtain ⟨n,v,d,r,c,p⟩:=x
 have B1:=Lib.hid (show Below w.heap.size w (w.alloc (.cells #[.string n,.string v,.slice A1 d.length c1,.slice A2 r.length c2,.slice A3 c.length c3,.slice A4 p.length c4] 34)) from (Below.refl _ w).alloc (Nat.le_refl _) _)
 have KX:=Lib.hid (fun (W:World) (hb:Below (w.alloc (.cells #[.string n,.string v,.slice A1 d.length c1,.slice A2 r.length c2,.slice A3 c.length c3,.slice A4 p.length c4] 34)).heap.size (w.alloc (.cells #[.string n,.string v,.slice A1 d.length c1,.slice A2 r.length c2,.slice A3 c.length c3,.slice A4 p.length c4] 34)) W)=>box6 hb)
 have HX:=Lib.hid hx
 have HE:=Lib.hid E
 have KN:=Lib.hid (fun W=>rname_any n W)
 have KV:=Lib.hid (fun W (hb:Below w.heap.size w W)=>eprinted_any v W ((HE.out.below hb).env))
 have KD:=Lib.hid (fun W (hb:Below w.heap.size w W)=>right4_any A1 d.length c1 d W (HX.out.on hb).d (HE.out.below hb))
 have KR:=Lib.hid (fun W (hb:Below w.heap.size w W)=>right4_any A2 r.length c2 r W (HX.out.on hb).r (HE.out.below hb))
 have KC:=Lib.hid (fun W (hb:Below w.heap.size w W)=>each6_any 76 rgt (fun _ _=>by kernel_rfl) (fun x W E=>rright_atom x W E) A3 c.length c3 c W (HX.out.on hb).c (HE.out.below hb))
 have KP:=Lib.hid (fun W (hb:Below w.heap.size w W)=>each6_any 76 rgt (fun _ _=>by kernel_rfl) (fun x W E=>rright_atom x W E) A4 p.length c4 p W (HX.out.on hb).p (HE.out.below hb))
 have KG:=Lib.hid (fun W (hb:Below w.heap.size w W)=>each6_any 77 giv6 (fun _ _=>by kernel_rfl) (fun x W _=>givable6_any x W) A4 p.length c4 p W (HX.out.on hb).p (HE.out.below hb))
 show Calls Tryz.prog 41 #[.agg #[.string n,.string v,.slice A1 d.length c1,.slice A2 r.length c2,.slice A3 c.length c3,.slice A4 p.length c4]] w _
 unfold givs6 at XE
 simp only at XE
 clear hx E
 generalize rgtE ⟨n,v,d,r,c,p⟩=bE at *
 generalize nameB (B n)=b1 at *
 generalize prB (B v)=b2 at *
 generalize rightG d=b3 at *
 generalize rightG r=b4 at *
 generalize c.all rgt=b5 at *
 generalize p.all rgt=b6 at *
 generalize p.all giv6=b7 at *
 obtain ⟨W1,hW1⟩:∃W,W=(w.alloc (.cells #[.string n,.string v,.slice A1 d.length c1,.slice A2 r.length c2,.slice A3 c.length c3,.slice A4 p.length c4] 34)):=⟨_,rfl⟩
 rw [←hW1] at B1 KX
 have V0:=Lib.hid (Below.refl W1.heap.size W1)
 have C0:=Lib.hid B1.out
 go_enter Tryz.func41,Tryz.ntmps41
 go_wp2_with fail
 rw [←hW1]
 refine (KN.out _).mono ?_
 clear hW1
 rintro e w1 ⟨rfl,hb⟩
 have V1:=Lib.hid (V0.out.trans (hb.mono V0.out.size))
 have C1:=Lib.hid (C0.out.trans (hb.mono C0.out.size))
 clear hb
 cases b1
 ·go_wp2
  go_ret
  exact ⟨by rw [XE.out];try rfl,C1.out⟩
 obtain ⟨a0,a1,a2,a3,a4,a5⟩:=KX.out _ V1.out
 go_wp2_with fail
 refine (KV.out _ C1.out).mono ?_
 rintro e w2 ⟨rfl,hb⟩
 have V2:=Lib.hid (V1.out.trans (hb.mono V1.out.size))
 have C2:=Lib.hid (C1.out.trans (hb.mono C1.out.size))
 clear hb a0 a1 a2 a3 a4 a5
 cases b2
 ·go_wp2
  go_ret
  exact ⟨by rw [XE.out];try rfl,C2.out⟩
 obtain ⟨a0,a1,a2,a3,a4,a5⟩:=KX.out _ V2.out
 go_wp2_with fail
 refine (KD.out _ C2.out).mono ?_
 rintro e w3 ⟨rfl,hb⟩
 have V3:=Lib.hid (V2.out.trans (hb.mono V2.out.size))
 have C3:=Lib.hid (C2.out.trans (hb.mono C2.out.size))
 clear hb a0 a1 a2 a3 a4 a5
 cases b3
 ·go_wp2
  go_ret
  exact ⟨by rw [XE.out];try rfl,C3.out⟩
 obtain ⟨a0,a1,a2,a3,a4,a5⟩:=KX.out _ V3.out
 go_wp2_with fail
 refine (KR.out _ C3.out).mono ?_
 rintro e w4 ⟨rfl,hb⟩
 have V4:=Lib.hid (V3.out.trans (hb.mono V3.out.size))
 have C4:=Lib.hid (C3.out.trans (hb.mono C3.out.size))
 clear hb a0 a1 a2 a3 a4 a5
 cases b4
 ·go_wp2
  go_ret
  exact ⟨by rw [XE.out];try rfl,C4.out⟩
 by_cases q0:¬(c.length:Int)≤12
 ·have Q:=Lib.hid (show decide (c.length≤12)=false from decide_eq_false (by omega))
  obtain ⟨a0,a1,a2,a3,a4,a5⟩:=KX.out _ V4.out
  go_wp2
  go_ret
  exact ⟨by rw [XE.out,Q.out];try rfl,C4.out⟩
 have q0:=Decidable.not_not.1 q0
 have QC:=Lib.hid (show decide (c.length≤12)=true from decide_eq_true (by omega))
 obtain ⟨a0,a1,a2,a3,a4,a5⟩:=KX.out _ V4.out
 go_wp2_with fail
 refine (KC.out _ C4.out).mono ?_
 rintro e w5 ⟨rfl,hb⟩
 have V5:=Lib.hid (V4.out.trans (hb.mono V4.out.size))
 have C5:=Lib.hid (C4.out.trans (hb.mono C4.out.size))
 clear hb a0 a1 a2 a3 a4 a5
 cases b5
 ·go_wp2
  go_ret
  exact ⟨by rw [XE.out,QC.out];try rfl,C5.out⟩
 by_cases q1:¬(p.length:Int)≤8
 ·have Q:=Lib.hid (show decide (p.length≤8)=false from decide_eq_false (by omega))
  obtain ⟨a0,a1,a2,a3,a4,a5⟩:=KX.out _ V5.out
  go_wp2
  go_ret
  exact ⟨by rw [XE.out,QC.out,Q.out];try rfl,C5.out⟩
 have q1:=Decidable.not_not.1 q1
 have QP:=Lib.hid (show decide (p.length≤8)=true from decide_eq_true (by omega))
 obtain ⟨a0,a1,a2,a3,a4,a5⟩:=KX.out _ V5.out
 go_wp2_with fail
 refine (KP.out _ C5.out).mono ?_
 rintro e w6 ⟨rfl,hb⟩
 have V6:=Lib.hid (V5.out.trans (hb.mono V5.out.size))
 have C6:=Lib.hid (C5.out.trans (hb.mono C5.out.size))
 clear hb a0 a1 a2 a3 a4 a5
 cases b6
 ·go_wp2
  go_ret
  exact ⟨by rw [XE.out,QC.out,QP.out];try rfl,C6.out⟩
 obtain ⟨a0,a1,a2,a3,a4,a5⟩:=KX.out _ V6.out
 go_wp2_with fail
 refine (KG.out _ C6.out).mono ?_
 rintro e w7 ⟨rfl,hb⟩
 have V7:=Lib.hid (V6.out.trans (hb.mono V6.out.size))
 have C7:=Lib.hid (C6.out.trans (hb.mono C6.out.size))
 clear hb a0 a1 a2 a3 a4 a5
 go_wp2
 go_ret
 exact ⟨by rw [XE.out,QC.out,QP.out];try rfl,C7.out⟩
end Go.Proofs.YtboinnjncaehkaaGreatDoor
namespace Go.Proofs.YtboinnjncaehkaaGreatDoor
open Go.RowKit Go.Sort
set_option maxHeartbeats 4000000 in
theorem right7_any (A:Option Addr) (n c:Nat) (l:List Hr) (w:World) (h:rdHrs w (lt_ w.heap.size) l [.slice A n c]) (E:EnvR w) :
  Calls Tryz.prog 14 #[.slice A n c] w fun e w'=>e=.returned (.bool (rightH l))∧Below w.heap.size w w':=by
 have mixed:Tryz.prog.follows .mixedOrders=true:=by kernel_rfl
 obtain ⟨rfl,hnc,hcm,-⟩:=rdHrs_at h
 have hcm':c≤9223372036854775807:=hcm
 have N1:=Lib.hid (fun k (hk:k < l.length) hn=>ri_no (l:=l) (k:=k) hk hn)
 have N2:=Lib.hid (fun k (hk:k+1 < l.length) hn=>ri_dn (l:=l) (i:=k) hk hn)
 have N3:=Lib.hid (fun hn=>ri_all (l:=l) hn)
 have H:=Lib.hid (fun (W:World) (hb:Below w.heap.size w W)=>(rdHrs_good.up (rdHrs_good.below h hb) hb.size:rdHrs W (lt_ W.heap.size) l [.slice A l.length c]))
 have HE:=Lib.hid (fun (W:World) (hb:Below w.heap.size w W)=>E.below hb)
 by_cases h64:l.length≤64
 ·have z64:(l.length:Int)≤64:=by omega
  have hD:decide (l.length≤64)=true:=decide_eq_true h64
  rw [hD] at N3
  clear h E hcm hD h64
  generalize hR:rightH l=R at *
  clear hR
  go_enter Tryz.func14,Tryz.ntmps14
  go_wp2
  go_loopg [10] l.length (fun kx u10 wr=>∃k:Nat,u10=.int .i64 k∧k≤l.length∧l.length - k≤kx∧Hid (RI l k)∧Hid (Below w.heap.size w wr))
  case atStart=>exact ⟨0,rfl,Nat.zero_le _,Nat.le_refl _,Lib.hid (fun j _ hj=>absurd hj (Nat.not_lt_zero _)),Lib.hid (Below.refl _ _)⟩
  case round=>
   obtain ⟨k,rfl,hk,hkx,HI,HB⟩:=hrel
   by_cases hlt:k < l.length
   ·obtain ⟨-,-,-,hat⟩:=rdHrs_at (H.out wr HB.out)
    have HAT:=Lib.hid hat
    obtain ⟨ad,A1,c1,A2,c2,A3,c3,A4,c4,rfl,had,hv,g0,g1,g2,g3,g4,g5,g6,g7⟩:=hat k hlt
    have i0:(0:Int)≤(k:Int):=by omega
    have i1:(k:Int) < (l.length:Int):=by omega
    have K:=Lib.hid (fun (W:World) (hb:Below wr.heap.size wr W)=>eright_any l[k].e A1 c1 A2 c2 A3 c3 A4 c4 W (hv.on hb) (HE.out W (bel_in HB.out hb)))
    have N1k:=Lib.hid (N1.out k hlt)
    have NX:=Lib.hid (fun (hr:rgtE l[k].e=true) (hs:∀i (hi:i < l.length),k=i+1→blt l[i].e.n l[k].e.n)=>show RI l (k+1) from fun j hj hjk=>by
     by_cases e:j=k
     ·subst e;exact ⟨hr,hs⟩
     ·exact HI.out j hj (by omega))
    have NB:=Lib.hid (fun (i:Nat) (hi:i+1 < l.length) (e:k=i+1) (hn:¬blt l[i].e.n l[k].e.n)=>show R=false from N2.out i hi (by subst e;exact hn))
    clear had hv hat HI
    generalize l[k]=x at *
    obtain ⟨⟨nx,vx,dx,rx,ex,px⟩,ax,hx⟩:=x
    have KN:=Lib.hid (fun (W:World)=>name_any ⟨⟨⟨nx,vx,dx,rx,ex,px⟩,ax,hx⟩,A1,c1,A2,c2,A3,c3,A4,c4⟩ W)
    unfold HrV.cs at KN
    unfold Ent.val at K
    simp only at KN K NX NB N1k g0 g1 g2 g3 g4 g5 g6 g7
    go_wp2_with fail
    have BA:=Lib.hid ((Below.refl wr.heap.size wr).alloc (Nat.le_refl _) (.cells #[.string nx,.string vx,.slice A1 dx.length c1,.slice A2 rx.length c2,.slice A3 ex.length c3,.slice A4 px.length c4,.bool ax,.bool hx] 36))
    have BW:=Lib.hid (bel_in HB.out BA.out)
    have x0:=fun d os=>cell_regrown (show (wr.alloc (.cells #[.string nx,.string vx,.slice A1 dx.length c1,.slice A2 rx.length c2,.slice A3 ex.length c3,.slice A4 px.length c4,.bool ax,.bool hx] 36)).cell? ⟨wr.heap.size,0,none⟩=some (.string nx) from (cell_of_row _ _ 0 _ _ (0,0) (heap_alloc_new wr _)).trans rfl) d os
    have x1:=fun d os=>cell_regrown (show (wr.alloc (.cells #[.string nx,.string vx,.slice A1 dx.length c1,.slice A2 rx.length c2,.slice A3 ex.length c3,.slice A4 px.length c4,.bool ax,.bool hx] 36)).cell? ⟨wr.heap.size,1,none⟩=some (.string vx) from (cell_of_row _ _ 1 _ _ (0,0) (heap_alloc_new wr _)).trans rfl) d os
    have x2:=fun d os=>cell_regrown (show (wr.alloc (.cells #[.string nx,.string vx,.slice A1 dx.length c1,.slice A2 rx.length c2,.slice A3 ex.length c3,.slice A4 px.length c4,.bool ax,.bool hx] 36)).cell? ⟨wr.heap.size,2,none⟩=some (.slice A1 dx.length c1) from (cell_of_row _ _ 2 _ _ (0,0) (heap_alloc_new wr _)).trans rfl) d os
    have x3:=fun d os=>cell_regrown (show (wr.alloc (.cells #[.string nx,.string vx,.slice A1 dx.length c1,.slice A2 rx.length c2,.slice A3 ex.length c3,.slice A4 px.length c4,.bool ax,.bool hx] 36)).cell? ⟨wr.heap.size,3,none⟩=some (.slice A2 rx.length c2) from (cell_of_row _ _ 3 _ _ (0,0) (heap_alloc_new wr _)).trans rfl) d os
    have x4:=fun d os=>cell_regrown (show (wr.alloc (.cells #[.string nx,.string vx,.slice A1 dx.length c1,.slice A2 rx.length c2,.slice A3 ex.length c3,.slice A4 px.length c4,.bool ax,.bool hx] 36)).cell? ⟨wr.heap.size,4,none⟩=some (.slice A3 ex.length c3) from (cell_of_row _ _ 4 _ _ (0,0) (heap_alloc_new wr _)).trans rfl) d os
    have x5:=fun d os=>cell_regrown (show (wr.alloc (.cells #[.string nx,.string vx,.slice A1 dx.length c1,.slice A2 rx.length c2,.slice A3 ex.length c3,.slice A4 px.length c4,.bool ax,.bool hx] 36)).cell? ⟨wr.heap.size,5,none⟩=some (.slice A4 px.length c4) from (cell_of_row _ _ 5 _ _ (0,0) (heap_alloc_new wr _)).trans rfl) d os
    have x6:=fun d os=>cell_regrown (show (wr.alloc (.cells #[.string nx,.string vx,.slice A1 dx.length c1,.slice A2 rx.length c2,.slice A3 ex.length c3,.slice A4 px.length c4,.bool ax,.bool hx] 36)).cell? ⟨wr.heap.size,6,none⟩=some (.bool ax) from (cell_of_row _ _ 6 _ _ (0,0) (heap_alloc_new wr _)).trans rfl) d os
    have x7:=fun d os=>cell_regrown (show (wr.alloc (.cells #[.string nx,.string vx,.slice A1 dx.length c1,.slice A2 rx.length c2,.slice A3 ex.length c3,.slice A4 px.length c4,.bool ax,.bool hx] 36)).cell? ⟨wr.heap.size,7,none⟩=some (.bool hx) from (cell_of_row _ _ 7 _ _ (0,0) (heap_alloc_new wr _)).trans rfl) d os
    have K1:=Lib.hid (fun d os=>K.out (grow (redrawn (wr.alloc (.cells #[.string nx,.string vx,.slice A1 dx.length c1,.slice A2 rx.length c2,.slice A3 ex.length c3,.slice A4 px.length c4,.bool ax,.bool hx] 36)) d) os) (BA.out.trans ((below_regrown (wr.alloc (.cells #[.string nx,.string vx,.slice A1 dx.length c1,.slice A2 rx.length c2,.slice A3 ex.length c3,.slice A4 px.length c4,.bool ax,.bool hx] 36)) d os).mono BA.out.size)))
    have BD:=Lib.hid (fun d os=>BW.out.trans ((below_regrown (wr.alloc (.cells #[.string nx,.string vx,.slice A1 dx.length c1,.slice A2 rx.length c2,.slice A3 ex.length c3,.slice A4 px.length c4,.bool ax,.bool hx] 36)) d os).mono BW.out.size))
    clear K g0 g1 g2 g3 g4 g5 g6 g7
    generalize rgtE (⟨nx,vx,dx,rx,ex,px⟩:Ent)=rb at *
    cases rb
    ·have X:=Lib.hid (N1k.out rfl)
     go_wp2_with fail
     refine wp_region_quiet_below (by assumption) (by kernel_rfl) ?_
     repeat (go_big_quiet_step (first|(go_at_call 41;refine Calls.regrown_of (K1.out _ _))))
     refine wpQuiet_nil ?_
     intro _ hw2
     obtain ⟨⟨dq,osq⟩,hw3⟩:=hw2
     subst hw3
     have X2:=Lib.hid (BD.out dq osq)
     clear BD x0 x1 x2 x3 x4 x5 x6 x7
     go_wp2
     go_ret
     exact ⟨by rw [X.out];try rfl,X2.out⟩
    rcases k with _|k
    ·have NX1:=Lib.hid (NX.out (by trivial) (fun i _ h=>by omega))
     go_wp2_with fail
     refine wp_region_quiet_below (by assumption) (by kernel_rfl) ?_
     repeat (go_big_quiet_step (first|(go_at_call 41;refine Calls.regrown_of (K1.out _ _))))
     refine wpQuiet_nil ?_
     intro _ hw2
     obtain ⟨⟨dq,osq⟩,hw3⟩:=hw2
     subst hw3
     have X2:=Lib.hid (BD.out dq osq)
     clear BD x0 x1 x2 x3 x4 x5 x6 x7
     go_wp2
     go_roundg (l.length - 1)
     case measure=>omega
     case rel=>exact ⟨1,by first|rfl|go_num,by omega,Nat.le_refl _,NX1,X2⟩
    ·obtain ⟨ad',E1,e1,E2,e2,E3,e3,E4,e4,had',-,-,j0,j1,j2,j3,j4,j5,j6,j7⟩:=HAT.out k (by omega)
     obtain rfl:ad=ad':=Option.some.inj had'
     have i2:(0:Int)≤(k:Int):=by omega
     have i3:(k:Int) < (l.length:Int):=by omega
     have NB2:=Lib.hid (NB.out k hlt rfl)
     have NX2:=Lib.hid (fun (hs:blt l[k].e.n nx)=>NX.out (by trivial) (fun i hi h=>by have e:i=k:=(by omega);subst e;exact hs))
     clear had' NB NX HAT
     generalize l[k]=y at *
     obtain ⟨⟨ny,vy,dy,ry,ey,py⟩,ay,hy⟩:=y
     simp only at NX2 NB2 j0 j1 j2 j3 j4 j5 j6 j7
     have KM:=Lib.hid (fun (W:World)=>name_any ⟨⟨⟨ny,vy,dy,ry,ey,py⟩,ay,hy⟩,E1,e1,E2,e2,E3,e3,E4,e4⟩ W)
     unfold HrV.cs at KM
     simp only at KM
     have KX1:=Lib.hid (fun d os=>(KN.out (grow (redrawn (wr.alloc (.cells #[.string nx,.string vx,.slice A1 dx.length c1,.slice A2 rx.length c2,.slice A3 ex.length c3,.slice A4 px.length c4,.bool ax,.bool hx] 36)) d) os)).mono (R':=fun e w'=>e=.returned (.string nx)∧Below (grow (redrawn (wr.alloc (.cells #[.string nx,.string vx,.slice A1 dx.length c1,.slice A2 rx.length c2,.slice A3 ex.length c3,.slice A4 px.length c4,.bool ax,.bool hx] 36)) d) os).heap.size (grow (redrawn (wr.alloc (.cells #[.string nx,.string vx,.slice A1 dx.length c1,.slice A2 rx.length c2,.slice A3 ex.length c3,.slice A4 px.length c4,.bool ax,.bool hx] 36)) d) os) w') fun _ _ h=>⟨h.1,h.2.below⟩)
     have KY1:=Lib.hid (fun d os=>(KM.out (grow (redrawn (wr.alloc (.cells #[.string nx,.string vx,.slice A1 dx.length c1,.slice A2 rx.length c2,.slice A3 ex.length c3,.slice A4 px.length c4,.bool ax,.bool hx] 36)) d) os)).mono (R':=fun e w'=>e=.returned (.string ny)∧Below (grow (redrawn (wr.alloc (.cells #[.string nx,.string vx,.slice A1 dx.length c1,.slice A2 rx.length c2,.slice A3 ex.length c3,.slice A4 px.length c4,.bool ax,.bool hx] 36)) d) os).heap.size (grow (redrawn (wr.alloc (.cells #[.string nx,.string vx,.slice A1 dx.length c1,.slice A2 rx.length c2,.slice A3 ex.length c3,.slice A4 px.length c4,.bool ax,.bool hx] 36)) d) os) w') fun _ _ h=>⟨h.1,h.2.below⟩)
     have y0:=fun d os=>cell_regrown (w:=(wr.alloc (.cells #[.string nx,.string vx,.slice A1 dx.length c1,.slice A2 rx.length c2,.slice A3 ex.length c3,.slice A4 px.length c4,.bool ax,.bool hx] 36))) ((BA.out.cell (block_lt_of_cell j0)).trans j0) d os
     have y1:=fun d os=>cell_regrown (w:=(wr.alloc (.cells #[.string nx,.string vx,.slice A1 dx.length c1,.slice A2 rx.length c2,.slice A3 ex.length c3,.slice A4 px.length c4,.bool ax,.bool hx] 36))) ((BA.out.cell (block_lt_of_cell j1)).trans j1) d os
     have y2:=fun d os=>cell_regrown (w:=(wr.alloc (.cells #[.string nx,.string vx,.slice A1 dx.length c1,.slice A2 rx.length c2,.slice A3 ex.length c3,.slice A4 px.length c4,.bool ax,.bool hx] 36))) ((BA.out.cell (block_lt_of_cell j2)).trans j2) d os
     have y3:=fun d os=>cell_regrown (w:=(wr.alloc (.cells #[.string nx,.string vx,.slice A1 dx.length c1,.slice A2 rx.length c2,.slice A3 ex.length c3,.slice A4 px.length c4,.bool ax,.bool hx] 36))) ((BA.out.cell (block_lt_of_cell j3)).trans j3) d os
     have y4:=fun d os=>cell_regrown (w:=(wr.alloc (.cells #[.string nx,.string vx,.slice A1 dx.length c1,.slice A2 rx.length c2,.slice A3 ex.length c3,.slice A4 px.length c4,.bool ax,.bool hx] 36))) ((BA.out.cell (block_lt_of_cell j4)).trans j4) d os
     have y5:=fun d os=>cell_regrown (w:=(wr.alloc (.cells #[.string nx,.string vx,.slice A1 dx.length c1,.slice A2 rx.length c2,.slice A3 ex.length c3,.slice A4 px.length c4,.bool ax,.bool hx] 36))) ((BA.out.cell (block_lt_of_cell j5)).trans j5) d os
     have y6:=fun d os=>cell_regrown (w:=(wr.alloc (.cells #[.string nx,.string vx,.slice A1 dx.length c1,.slice A2 rx.length c2,.slice A3 ex.length c3,.slice A4 px.length c4,.bool ax,.bool hx] 36))) ((BA.out.cell (block_lt_of_cell j6)).trans j6) d os
     have y7:=fun d os=>cell_regrown (w:=(wr.alloc (.cells #[.string nx,.string vx,.slice A1 dx.length c1,.slice A2 rx.length c2,.slice A3 ex.length c3,.slice A4 px.length c4,.bool ax,.bool hx] 36))) ((BA.out.cell (block_lt_of_cell j7)).trans j7) d os
     clear KN KM j0 j1 j2 j3 j4 j5 j6 j7
     by_cases hq:Op.bytesLess ny.toList nx.toList=true
     ·have NX3:=Lib.hid (NX2.out hq)
      clear NX2 NB2
      go_wp2_with fail
      refine wp_region_quiet_below (by assumption) (by kernel_rfl) ?_
      repeat (go_big_quiet_step (first|(go_at_call 41;refine Calls.regrown_of (K1.out _ _))|(go_at_call 33;first|(with_reducible refine Calls.regrown_of (KX1.out _ _))|(with_reducible refine Calls.regrown_of (KY1.out _ _)))))
      refine wpQuiet_nil ?_
      intro _ hw2
      obtain ⟨⟨dq,osq⟩,hw3⟩:=hw2
      subst hw3
      have X2:=Lib.hid (BD.out dq osq)
      clear BD x0 x1 x2 x3 x4 x5 x6 x7 y0 y1 y2 y3 y4 y5 y6 y7
      go_wp2
      go_roundg (l.length - (k+1+1))
      case measure=>omega
      case rel=>exact ⟨k+1+1,by go_num,by omega,Nat.le_refl _,NX3,X2⟩
     ·have X:=Lib.hid (NB2.out (fun h=>hq h))
      have hqf:Op.bytesLess ny.toList nx.toList=false:=Bool.eq_false_iff.2 hq
      clear hq NX2 NB2
      go_wp2_with fail
      refine wp_region_quiet_below (by assumption) (by kernel_rfl) ?_
      repeat (go_big_quiet_step (first|(go_at_call 41;refine Calls.regrown_of (K1.out _ _))|(go_at_call 33;first|(with_reducible refine Calls.regrown_of (KX1.out _ _))|(with_reducible refine Calls.regrown_of (KY1.out _ _)))))
      refine wpQuiet_nil ?_
      intro _ hw2
      obtain ⟨⟨dq,osq⟩,hw3⟩:=hw2
      subst hw3
      have X2:=Lib.hid (BD.out dq osq)
      clear BD x0 x1 x2 x3 x4 x5 x6 x7 y0 y1 y2 y3 y4 y5 y6 y7
      go_wp2
      go_ret
      exact ⟨by rw [X.out];try rfl,X2.out⟩
   ·obtain rfl:k=l.length:=by omega
    have X:=Lib.hid (N3.out HI.out)
    go_wp2
    go_ret
    exact ⟨by rw [X.out];try rfl,HB.out⟩
 ·have z64:(64:Int) < (l.length:Int):=by omega
  have X:=Lib.hid (show rightH l=false from Bool.eq_false_iff.2 fun e=>h64 ((rightH_iff l).1 e).2.2)
  clear h E hcm
  go_enter Tryz.func14,Tryz.ntmps14
  go_wp2
  go_ret
  exact ⟨by rw [X.out];try rfl,Below.refl _ _⟩
end Go.Proofs.YtboinnjncaehkaaGreatDoor
namespace Go.Proofs.YtboinnjncaehkaaGreatDoor
open Go.RowKit
theorem sjoin_any {T:Nat→Prop} {base:Nat} {e:TypeId} {v:Value} {l:List (List Nat)} (w:World) (hG:Grow rdStr 1 T w base e v l) (sep:ByteArray) (hl:l.length≤1000) (hs:∀t ∈ l,t.length≤100000) (hsep:sep.size≤100) :
  Calls Tryz.prog 162 #[v,.string sep] w fun e w'=>e=.returned (.string (mk (joinL (B sep) l)))∧Below w.heap.size w w':=by
 have hrd:=hG.read rdStr_good
 obtain ⟨css,hcl,ho,hE⟩:=hG
 rcases ho.2 with ⟨rfl,h0⟩|⟨gb,cap,cur,rfl,hb,hg,hn,hm,hcs,ht⟩
 ·obtain rfl:l=[]:=List.eq_nil_of_length_eq_zero h0
  refine (Tryz.strings_Join_none none 0 sep w).mono ?_
  rintro e w' ⟨rfl,rfl⟩
  exact ⟨rfl,Below.refl _ _⟩
 ·have hat:=(rdStrs_at hrd).2.2.2
  have hxs:∀k (hk:k < l.length),B (mk l[k])=l[k]:=fun k hk=>by
   obtain ⟨ad,s,_,_,_,hB⟩:=hat k hk
   rw [←hB,mk_B]
  have hmap:(l.map mk).map B=l:=by
   rw [List.map_map]
   conv=>rhs;rw [←List.map_id l]
   refine List.map_congr_left fun t ht=>?_
   obtain ⟨k,hk,rfl⟩:=List.getElem_of_mem ht
   exact hxs k hk
  have hlj:(Lib.join ((l.map mk).map (·.data.toList)) sep.data.toList).length≤140737488355328:=by
   have h1:=congrArg List.length (libjoin_is sep (l.map mk))
   rw [List.length_map,hmap] at h1
   rw [h1]
   have h2:=joinL_len (sep:=B sep) (M:=100000) hs
   rw [B_len] at h2
   have h3:l.length*(100000+sep.size)≤1000*100100:=Nat.mul_le_mul hl (by omega)
   omega
  have hlt:gb < w.heap.size:=(Array.getElem?_eq_some_iff.1 hg).1
  have key:=Tryz.strings_Join gb 0 cap (l.map mk) sep w (fun j x hj=>by
   obtain ⟨hj1,hj2⟩:=List.getElem?_eq_some_iff.1 hj
   rw [List.length_map] at hj1
   obtain ⟨ad,s,e1,_,hc,hB⟩:=hat j hj1
   injection e1 with e1
   subst e1
   have:(⟨gb,0,none⟩:Addr).add j=⟨gb,0+j,none⟩:=by unfold Addr.add;split<;>simp_all
   rw [this] at hc
   rw [hc,←hj2,List.getElem_map,←hB,mk_B]) hlt (by rw [List.length_map];omega) (by rw [List.length_map];exact hn) hlj
  rw [List.length_map] at key
  refine key.mono ?_
  rintro e w' ⟨rfl,hb'⟩
  refine ⟨?_,hb'⟩
  congr 2
  refine eq_mk ?_
  have h1:=libjoin_is sep (l.map mk)
  rw [hmap] at h1
  rw [←h1]
  unfold B;simp
theorem rprint_atom (x:Atm) (w:World) (E:EnvR w) (h:rgt x=true):Calls Tryz.prog 138 #[.agg #[.string x.n,.int .i64 x.o,.string x.v]] w fun e' w'=>e'=.returned (.string (mk (txt x)))∧Below w.heap.size w w':=by
 have:=rprint_any x.n x.o x.v w E
 unfold printA at this
 rw [if_pos (show rightA (B x.n) x.o (B x.v)=true from h)] at this
 exact this
theorem txt_len {a:Atm} (h:rgt a=true):(txt a).length≤110:=by
 have:=@printA_size (B a.n) (B a.v) a.o
 unfold printA at this
 rw [if_pos (show rightA (B a.n) a.o (B a.v)=true from h)] at this
 exact this
theorem txt_lt (a:Atm) (h:rgt a=true):∀c ∈ txt a,c < 256:=by
 intro c hc
 unfold txt textA at hc
 split at hc
 ·exact B_lt _ c hc
 ·rename_i h0
  unfold rgt rightA at h
  rw [if_neg h0] at h
  simp only [Bool.and_eq_true,decide_eq_true_eq] at h
  have:a.o=1∨a.o=2∨a.o=3∨a.o=4∨a.o=5:=by omega
  have hs:∀c ∈ signL a.o,c < 256:=by rcases this with h|h|h|h|h<;>rw [h]<;>decide
  simp only [List.mem_append,List.mem_cons,List.not_mem_nil,or_false] at hc
  rcases hc with hc|rfl|rfl|hc|rfl|hc|rfl
  ·exact B_lt _ c hc
  ·omega
  ·omega
  ·exact hs c hc
  ·omega
  ·exact B_lt _ c hc
  ·omega
set_option maxHeartbeats 1000000 in
theorem joinedA_any (A:Option Addr) (n c:Nat) (g:List Atm) (w:World) (h:rdAtms w (lt_ w.heap.size) g [.slice A n c]) (hr:∀a ∈ g,rgt a=true) (h6:g.length≤6) (E:EnvR w) :
  Calls Tryz.prog 137 #[.slice A n c,.string { data:=#[32,124,32] },.func (.func 138) #[] #[]] w fun e w'=>e=.returned (.string (mk (grpS g)))∧Below w.heap.size w w':=by
 obtain ⟨i0,hi,hz0,hz1,hz2⟩:=info_parts str_info
 obtain ⟨rfl,hnc,hcm,_⟩:=rdAtms_at h
 have hcm':c≤9223372036854775807:=hcm
 have HE:=Lib.hid E
 have HR:=Lib.hid h
 have HA:=Lib.hid hr
 clear E h hr
 go_enter Tryz.func137,Tryz.ntmps137
 go_wp2
 go_loopw [7,9,12] (fun v b i wr=>∃k:Nat,k≤g.length∧i=.int .i64 k∧Grow rdStr 1 (fun _=>True) wr w.heap.size 9 v ((g.take k).map txt)∧Below w.heap.size w wr) (fun _ _ i _=>g.length - (intOf i).toNat)
 case atStart=>exact ⟨0,Nat.zero_le _,rfl,Grow.nil _ _ _ _,Below.refl _ _⟩
 case round=>
  obtain ⟨k,hk,rfl,hG,hbel⟩:=hrel
  by_cases hlt:k < g.length
  ·obtain ⟨ad,rfl,had,e0,e1,e2⟩:=(rdAtms_at (rdAtms_good.below HR.out hbel)).2.2.2 k hlt
   have TS:=Lib.hid (take_snoc txt g k hlt)
   have hrk:=HA.out g[k] (List.getElem_mem hlt)
   have HB:=Lib.hid hbel
   have EE:=Lib.hid (HE.out.below hbel)
   have hbs:=hbel.size
   have hl2:((g.take k).map txt).length=k:=by rw [List.length_map,List.length_take];omega
   clear hbel
   generalize g[k]=x at *
   have K:=Lib.hid (fun w E=>rprint_atom x w E hrk)
   have hT:=B_mk (txt_lt x hrk)
   generalize txt x=tx at *
   generalize mk tx=sx at *
   go_wp2_with fail
   refine (K.out _ (EE.out.alloc _)).mono ?_
   rintro e w3 ⟨rfl,hb3⟩
   have hG2:=hG.below rdStr_good (atm_box hb3)
   have HB3:=Lib.hid (bel2 HB.out (atm_box hb3) (Nat.le_refl _))
   have hE:=(show rdStr w3 (fun b=>True∧b < w3.heap.size∧u7.ownBlock≠some b) tx (#[Value.string sx]:Array Value).toList from ⟨_,rfl,hT⟩)
   have hn1:((g.take k).map txt).length+1≤maxLen:=by rw [hl2];unfold maxLen;omega
   have hn2:(((g.take k).map txt).length+1)*16≤140737488355328:=by rw [hl2];omega
   have hbs3:w.heap.size≤w3.heap.size:=HB3.out.size
   clear hG hb3 hl2
   go_wp2_with (at_builtin;refine wpList_grow1 w3 rfl _ _ 45 rfl rdStr_good (by decide) (fun _=>True) w.heap.size 9 i0 _ 16 Tryz.underlying45 hi hz0 hz1 hz2 rfl u7 _ rfl hG2 tx _ 9 hE _ rfl rfl hn1 hn2 hbs3 ?_)
   intro v' w' hG' hgr
   have HB':=Lib.hid (grow_below hG2 hgr HB3.out (Nat.le_refl _) hbs3)
   clear hG2 hgr hE
   go_wp2
   go_roundw
   case rel=>exact ⟨k+1,by omega,by go_num,by rw [TS.out,List.map_take];exact hG',HB'.out⟩
   case measure=>simp [intOf];omega
  ·obtain rfl:k=g.length:=by omega
   rw [List.take_length] at hG
   have KJ:=Lib.hid (sjoin_any wr hG { data:=#[32,124,32] } (by rw [List.length_map];omega) (fun t ht=>by obtain ⟨a,ha,rfl⟩:=List.mem_map.1 ht;exact Nat.le_trans (txt_len (HA.out a ha)) (by decide)) (by decide))
   have HB:=Lib.hid hbel
   obtain ⟨A',cp',hv',_,_⟩:=hG.own
   simp only [List.length_map] at hv'
   subst hv'
   clear hG hbel
   go_wp2_with fail
   refine KJ.out.mono ?_
   rintro e w3 ⟨rfl,hb3⟩
   go_wp2
   go_ret
   exact ⟨rfl,bel2 HB.out hb3 (Nat.le_refl _)⟩
theorem print1_any (A:Option Addr) (n c:Nat) (g:List Atm) (w:World) (h:rdAtms w (lt_ w.heap.size) g [.slice A n c]) (hr:∀a ∈ g,rgt a=true) (h6:g.length≤6) (E:EnvR w) :
  Calls Tryz.prog 136 #[.slice A n c] w fun e w'=>e=.returned (.string (mk (grpS g)))∧Below w.heap.size w w':=by
 have K:=Lib.hid (joinedA_any A n c g w h hr h6 E)
 go_enter Tryz.func136,Tryz.ntmps136
 go_wp2_with fail
 refine K.out.mono ?_
 rintro e w3 ⟨rfl,hb3⟩
 go_wp2
 go_ret
 exact ⟨rfl,hb3⟩
theorem grpS_len {g:List Atm} (hr:∀a ∈ g,rgt a=true) (h6:g.length≤6):(grpS g).length≤678:=by
 have:=joinL_len (sep:=[32,124,32]) (l:=g.map txt) (M:=110) (fun t ht=>by obtain ⟨a,ha,rfl⟩:=List.mem_map.1 ht;exact txt_len (hr a ha))
 rw [List.length_map] at this
 have h2:g.length*(110+[32,124,32].length)≤6*113:=Nat.mul_le_mul h6 (by decide)
 exact Nat.le_trans this h2
theorem joinL_lt {sep:List Nat} {l:List (List Nat)} (hs:∀c ∈ sep,c < 256) (hl:∀t ∈ l,∀c ∈ t,c < 256):∀c ∈ joinL sep l,c < 256:=by
 intro c hc
 rcases joinL_mem hc with h|⟨t,ht,h⟩
 ·exact hs c h
 ·exact hl t ht c h
theorem grpS_lt {g:List Atm} (hr:∀a ∈ g,rgt a=true):∀c ∈ grpS g,c < 256:=
 joinL_lt (by decide) (fun t ht=>by obtain ⟨a,ha,rfl⟩:=List.mem_map.1 ht;exact txt_lt a (hr a ha))
set_option maxHeartbeats 1000000 in
theorem joinedG_any (A:Option Addr) (n c:Nat) (g:List (List Atm)) (w:World) (h:rdGrps w (lt_ w.heap.size) g [.slice A n c]) (hr:∀q ∈ g,(∀a ∈ q,rgt a=true)∧q.length≤6) (h12:g.length≤12) (E:EnvR w) :
  Calls Tryz.prog 135 #[.slice A n c,.string { data:=#[44,32] },.func (.func 136) #[] #[]] w fun e w'=>e=.returned (.string (mk (joinL [44,32] (g.map grpS))))∧Below w.heap.size w w':=by
 obtain ⟨i0,hi,hz0,hz1,hz2⟩:=info_parts str_info
 obtain ⟨rfl,hnc,hcm,_⟩:=rdGrps_at h
 have hcm':c≤9223372036854775807:=hcm
 have HE:=Lib.hid E
 have HR:=Lib.hid h
 have HA:=Lib.hid hr
 clear E h hr
 go_enter Tryz.func135,Tryz.ntmps135
 go_wp2
 go_loopw [7,9,12] (fun v b i wr=>∃k:Nat,k≤g.length∧i=.int .i64 k∧Grow rdStr 1 (fun _=>True) wr w.heap.size 9 v ((g.take k).map grpS)∧Below w.heap.size w wr) (fun _ _ i _=>g.length - (intOf i).toNat)
 case atStart=>exact ⟨0,Nat.zero_le _,rfl,Grow.nil _ _ _ _,Below.refl _ _⟩
 case round=>
  obtain ⟨k,hk,rfl,hG,hbel⟩:=hrel
  by_cases hlt:k < g.length
  ·obtain ⟨ad,A',c',rfl,had,e0,e1⟩:=(rdGrps_at (rdGrps_good.below HR.out hbel)).2.2.2 k hlt
   have TS:=Lib.hid (take_snoc grpS g k hlt)
   have hrk:=HA.out g[k] (List.getElem_mem hlt)
   have HB:=Lib.hid hbel
   have hbs:=hbel.size
   have hl2:((g.take k).map grpS).length=k:=by rw [List.length_map,List.length_take];omega
   have K:=Lib.hid (print1_any _ _ _ _ _ (rdAtms_good.up e1 hbel.size) hrk.1 hrk.2 (HE.out.below hbel))
   clear hbel e1
   generalize g[k]=x at *
   have hT:=B_mk (grpS_lt hrk.1)
   generalize grpS x=tx at *
   generalize mk tx=sx at *
   go_wp2_with fail
   refine K.out.mono ?_
   rintro e w3 ⟨rfl,hb3⟩
   have hG2:=hG.below rdStr_good (hb3)
   have HB3:=Lib.hid (bel2 HB.out (hb3) (Nat.le_refl _))
   have hE:=(show rdStr w3 (fun b=>True∧b < w3.heap.size∧u7.ownBlock≠some b) tx (#[Value.string sx]:Array Value).toList from ⟨_,rfl,hT⟩)
   have hn1:((g.take k).map grpS).length+1≤maxLen:=by rw [hl2];unfold maxLen;omega
   have hn2:(((g.take k).map grpS).length+1)*16≤140737488355328:=by rw [hl2];omega
   have hbs3:w.heap.size≤w3.heap.size:=HB3.out.size
   clear hG hb3 hl2
   go_wp2_with (at_builtin;refine wpList_grow1 w3 rfl _ _ 45 rfl rdStr_good (by decide) (fun _=>True) w.heap.size 9 i0 _ 16 Tryz.underlying45 hi hz0 hz1 hz2 rfl u7 _ rfl hG2 tx _ 9 hE _ rfl rfl hn1 hn2 hbs3 ?_)
   intro v' w' hG' hgr
   have HB':=Lib.hid (grow_below hG2 hgr HB3.out (Nat.le_refl _) hbs3)
   clear hG2 hgr hE
   go_wp2
   go_roundw
   case rel=>exact ⟨k+1,by omega,by go_num,by rw [TS.out,List.map_take];exact hG',HB'.out⟩
   case measure=>simp [intOf];omega
  ·obtain rfl:k=g.length:=by omega
   rw [List.take_length] at hG
   have KJ:=Lib.hid (sjoin_any wr hG { data:=#[44,32] } (by rw [List.length_map];omega) (fun t ht=>by obtain ⟨a,ha,rfl⟩:=List.mem_map.1 ht;exact Nat.le_trans (grpS_len (HA.out a ha).1 (HA.out a ha).2) (by decide)) (by decide))
   have HB:=Lib.hid hbel
   obtain ⟨A',cp',hv',_,_⟩:=hG.own
   simp only [List.length_map] at hv'
   subst hv'
   clear hG hbel
   go_wp2_with fail
   refine KJ.out.mono ?_
   rintro e w3 ⟨rfl,hb3⟩
   go_wp2
   go_ret
   exact ⟨rfl,bel2 HB.out hb3 (Nat.le_refl _)⟩
theorem print4_any (A:Option Addr) (n c:Nat) (L:List (List Atm)) (w:World) (h:rdGrps w (lt_ w.heap.size) L [.slice A n c]) (E:EnvR w) :
  Calls Tryz.prog 80 #[.slice A n c] w fun e w'=>e=.returned (.string (mk (prtG L)))∧Below w.heap.size w w':=by
 have KR:=Lib.hid (right4_any A n c L w h E)
 have HE:=Lib.hid E
 have HR:=Lib.hid h
 clear E h
 cases hr:rightG L
 ·have X:=Lib.hid (show prtG L=[] by unfold prtG;rw [hr];rfl)
  rw [hr] at KR
  clear hr
  go_enter Tryz.func80,Tryz.ntmps80
  go_wp2_with fail
  refine KR.out.mono ?_
  rintro e w3 ⟨rfl,hb3⟩
  go_wp2
  go_ret
  exact ⟨by rw [X.out];rfl,hb3⟩
 ·have X:=Lib.hid (show prtG L=joinL [44,32] (L.map grpS) by unfold prtG;rw [hr];rfl)
  have hp:=right_parts hr
  have KJ:=Lib.hid (fun w1 (hb:Below w.heap.size w w1)=>joinedG_any A n c L w1 (rdGrps_good.up (rdGrps_good.below HR.out hb) hb.size) hp.1 hp.2 (HE.out.below hb))
  rw [hr] at KR
  clear hr hp
  go_enter Tryz.func80,Tryz.ntmps80
  go_wp2_with fail
  refine KR.out.mono ?_
  rintro e w3 ⟨rfl,hb3⟩
  go_wp2_with fail
  refine (KJ.out _ hb3).mono ?_
  rintro e w4 ⟨rfl,hb4⟩
  go_wp2
  go_ret
  exact ⟨by rw [X.out];rfl,bel2 hb3 hb4 (Nat.le_refl _)⟩
theorem rd_single (w:World) (x:Atm) (T:TypeId) (S:Nat→Prop) (hS:S w.heap.size):rdAtms (w.alloc (.cells #[.string x.n,.int .i64 x.o,.string x.v] T)) S [x] [.slice (some ⟨w.heap.size,0,none⟩) 1 1]:=by
 refine ⟨_,1,rfl,by simp,by unfold maxLen;omega,fun k hk=>?_⟩
 simp only [List.length_singleton] at hk
 obtain rfl:k=0:=by omega
 refine ⟨_,x.cells,rfl,hS,rfl,rfl,fun j u hu=>?_⟩
 rw [Nat.zero_mul,Nat.zero_add]
 exact cells_new w #[.string x.n,.int .i64 x.o,.string x.v] T j u hu
theorem single_len (l:List Atm) (k:Nat) (hk:k≤l.length):((l.take k).map fun a=>[a]).length=k:=by rw [List.length_map,List.length_take];omega
set_option maxHeartbeats 2000000 in
theorem join4_any (A:Option Addr) (n c:Nat) (l:List Atm) (w:World) (h:rdAtms w (lt_ w.heap.size) l [.slice A n c]) (hl:l.length≤1000) (E:EnvR w) :
  Calls Tryz.prog 81 #[.slice A n c] w fun e w'=>e=.returned (.string (mk (prtG (l.map fun a=>[a]))))∧Below w.heap.size w w':=by
 obtain ⟨i0,hi,hz0,hz1,hz2⟩:=info_parts grp_info
 obtain ⟨rfl,hnc,hcm,_⟩:=rdAtms_at h
 have hcm':c≤9223372036854775807:=hcm
 have HE:=Lib.hid E
 have HR:=Lib.hid h
 clear E h
 go_enter Tryz.func81,Tryz.ntmps81
 go_wp2
 go_loopw [3,5,8] (fun v b i wr=>∃k:Nat,k≤l.length∧i=.int .i64 k∧Grow rdAtms 1 (fun _=>True) wr w.heap.size 71 v ((l.take k).map fun a=>[a])∧Below w.heap.size w wr) (fun _ _ i _=>l.length - (intOf i).toNat)
 case atStart=>exact ⟨0,Nat.zero_le _,rfl,Grow.nil _ _ _ _,Below.refl _ _⟩
 case round=>
  obtain ⟨k,hk,rfl,hG,hbel⟩:=hrel
  by_cases hlt:k < l.length
  ·obtain ⟨ad,rfl,had,e0,e1,e2⟩:=(rdAtms_at (rdAtms_good.below HR.out hbel)).2.2.2 k hlt
   have TS:=Lib.hid (take_snoc (fun a=>[a]) l k hlt)
   have HB:=Lib.hid hbel
   have hl2:=single_len l k hk
   have hbs:=hbel.size
   generalize l[k]=x at *
   have hG2:=(hG.alloc rdAtms_good (.cells #[.string x.n,.int .i64 x.o,.string x.v] 109)).alloc rdAtms_good (.cells #[.string x.n,.int .i64 x.o,.string x.v] 109)
   have hE:=(show rdAtms ((wr.alloc (.cells #[.string x.n,.int .i64 x.o,.string x.v] 109)).alloc (.cells #[.string x.n,.int .i64 x.o,.string x.v] 109)) (fun b=>True∧b < ((wr.alloc (.cells #[.string x.n,.int .i64 x.o,.string x.v] 109)).alloc (.cells #[.string x.n,.int .i64 x.o,.string x.v] 109)).heap.size∧u3.ownBlock≠some b) [x] (#[.slice (some ⟨wr.heap.size+1,0,none⟩) 1 1]:Array Value).toList from by
    have:=rd_single (wr.alloc (.cells #[.string x.n,.int .i64 x.o,.string x.v] 109)) x 109 (fun b=>b=wr.heap.size+1) (World.size_alloc _ _)
    rw [World.size_alloc] at this
    refine rdAtms_good.more this fun b hb=>⟨trivial,by rw [World.size_alloc,World.size_alloc,hb];omega,fun hh=>by have:=(hG.lt b hh).2;omega⟩)
   have hN:=Lib.hid (show wr.heap.size+1+1=((wr.alloc (.cells #[.string x.n,.int .i64 x.o,.string x.v] 109)).alloc (.cells #[.string x.n,.int .i64 x.o,.string x.v] 109)).heap.size by rw [World.size_alloc,World.size_alloc])
   have HB2:=Lib.hid ((hbel.alloc hbs (.cells #[.string x.n,.int .i64 x.o,.string x.v] 109)).alloc (by rw [World.size_alloc];omega) (.cells #[.string x.n,.int .i64 x.o,.string x.v] 109))
   have hn1:((l.take k).map fun a=>[a]).length+1≤maxLen:=by rw [hl2];unfold maxLen;omega
   have hn2:(((l.take k).map fun a=>[a]).length+1)*24≤140737488355328:=by rw [hl2];omega
   have hbs2:w.heap.size≤((wr.alloc (.cells #[.string x.n,.int .i64 x.o,.string x.v] 109)).alloc (.cells #[.string x.n,.int .i64 x.o,.string x.v] 109)).heap.size:=by rw [World.size_alloc,World.size_alloc];omega
   clear hG hbel hl2
   go_wp2_with (at_builtin;refine wpList_grow1 ((wr.alloc (.cells #[.string x.n,.int .i64 x.o,.string x.v] 109)).alloc (.cells #[.string x.n,.int .i64 x.o,.string x.v] 109)) rfl _ _ 31 rfl rdAtms_good (by decide) (fun _=>True) w.heap.size 71 i0 _ 24 Tryz.underlying31 hi hz0 hz1 hz2 rfl u3 _ rfl hG2 [x] _ 71 hE _ hN.out rfl hn1 hn2 hbs2 ?_)
   intro v' w' hG' hgr
   have HB':=Lib.hid (grow_below hG2 hgr HB2.out (Nat.le_refl _) hbs2)
   clear hG2 hgr hE
   go_wp2
   go_roundw
   case rel=>exact ⟨k+1,by omega,by go_num,by rw [TS.out,List.map_take];first|exact hG'|(rw [List.map_take] at hG';exact hG'),HB'.out⟩
   case measure=>simp [intOf];omega
  ·obtain rfl:k=l.length:=by omega
   rw [List.take_length] at hG
   have hrd:=hG.read rdAtms_good
   obtain ⟨A',cp',hv',_,_⟩:=hG.own
   rw [hv'] at hrd
   have K:=Lib.hid (print4_any _ _ _ _ wr hrd (HE.out.below hbel))
   rw [List.length_map] at hv' K
   have HB:=Lib.hid hbel
   subst hv'
   clear hG hbel hrd
   go_wp2_with fail
   refine K.out.mono ?_
   rintro e w3 ⟨rfl,hb3⟩
   go_wp2
   go_ret
   exact ⟨rfl,bel2 HB.out hb3 (Nat.le_refl _)⟩
section
variable {α:Type} {E:Rd α} {sz:Nat}
theorem Grow.blk (g:Good E sz) {T:Nat→Prop} {W:World} {base b:Nat} {e:TypeId} {blk:Array Value} {l:List α} {css:List (List Value)} (hb:W.heap[b]?=some (.cells blk e (0,0))) (hbase:base≤b)
  (hl:css.length=l.length) (hf:blk.toList=css.flatten) (hm:l.length≤1000) (hE:∀k (hk:k < l.length),∃cs,css[k]?=some cs∧E W (fun x=>T x∧x < W.heap.size∧(Value.slice (some ⟨b,0,none⟩) l.length l.length).ownBlock≠some x) l[k] cs) :
  Grow E sz T W base e (.slice (some ⟨b,0,none⟩) l.length l.length) l:=by
 have hls:∀cs ∈ css,cs.length=sz:=fun cs hc=>by
  obtain ⟨k,hk,rfl⟩:=List.getElem_of_mem hc
  obtain ⟨cs,h1,h2⟩:=hE k (by omega)
  rw [List.getElem?_eq_getElem hk] at h1
  injection h1 with h1
  rw [h1];exact g.len h2
 have hlen:css.flatten.length=l.length*sz:=by rw [flatten_len sz hls,hl]
 have hbs:blk.size=l.length*sz:=by rw [←hlen,←hf,Array.length_toList]
 exact ⟨css,hl,⟨hlen,.inr ⟨b,l.length,blk,rfl,hbase,hb,Nat.le_refl _,by unfold maxLen;omega,hbs,by rw [←hf,List.take_of_length_le (by rw [Array.length_toList,hbs];exact Nat.le_refl _)]⟩⟩,hE⟩
end
end Go.Proofs.YtboinnjncaehkaaGreatDoor
