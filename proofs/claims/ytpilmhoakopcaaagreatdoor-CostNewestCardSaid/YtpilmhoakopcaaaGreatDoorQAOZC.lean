/- What the laws rest on: P8l. -/
import Derived.Ground.SlsfProg
import Derived.Shelf.SlSortCmp.InsertionK
import Derived.Shelf.SlSortCmp.WholeK
import Derived.Shelf.SlSortCmp.NoneTotal
import Derived.ArgAppend
import Derived.Lib.AppendZeros
import Derived.Test.YtpilmhoakopcaaaGreatDoorQAGZC
set_option maxRecDepth 100000
set_option linter.unusedVariables false
set_option linter.unusedSimpArgs false
namespace Go.Proofs.YtpilmhoakopcaaaGreatDoor
open Go.RowKit Go.Sort
set_option maxHeartbeats 4000000 in
theorem right7_any (A:Option Addr) (n c:Nat) (l:List Hr) (w:World) (h:rdHrs w (lt_ w.heap.size) l [.slice A n c]) (E:EnvR w) :
  Calls Tryz.prog 32 #[.slice A n c] w fun e w'=>e=.returned (.bool (rightH l))∧Below w.heap.size w w':=by
 have mixed:Tryz.prog.follows .mixedOrders=true:=by kernel_rfl
 obtain ⟨rfl,hnc,hcm,-⟩:=rdHrs_at h
 have hcm':c≤9223372036854775807:=hcm
 have N1:=Lib.hid (fun k (hk:k < l.length) hn=>ri_no (l:=l) (k:=k) hk hn)
 have N2:=Lib.hid (fun k (hk:k+1 < l.length) hn=>ri_dn (l:=l) (i:=k) hk hn)
 have N3:=Lib.hid (fun hn=>ri_all (l:=l) hn)
 have H:=Lib.hid (fun (W:World) (hb:Below w.heap.size w W)=>(rdHrs_good.up (rdHrs_good.below h hb) hb.size:rdHrs W (lt_ W.heap.size) l [.slice A l.length c]))
 have HE:=Lib.hid (fun (W:World) (hb:Below w.heap.size w W)=>E.below hb)
 by_cases h64:l.length≤64
 ·have z64:(l.length:Int)≤64:=by omega
  have hD:decide (l.length≤64)=true:=decide_eq_true h64
  rw [hD] at N3
  clear h E hcm hD h64
  generalize hR:rightH l=R at *
  clear hR
  go_enter Tryz.func32,Tryz.ntmps32
  go_wp2
  go_loopg [10] l.length (fun kx u10 wr=>∃k:Nat,u10=.int .i64 k∧k≤l.length∧l.length - k≤kx∧Hid (RI l k)∧Hid (Below w.heap.size w wr))
  case atStart=>exact ⟨0,rfl,Nat.zero_le _,Nat.le_refl _,Lib.hid (fun j _ hj=>absurd hj (Nat.not_lt_zero _)),Lib.hid (Below.refl _ _)⟩
  case round=>
   obtain ⟨k,rfl,hk,hkx,HI,HB⟩:=hrel
   by_cases hlt:k < l.length
   ·obtain ⟨-,-,-,hat⟩:=rdHrs_at (H.out wr HB.out)
    have HAT:=Lib.hid hat
    obtain ⟨ad,A1,c1,A2,c2,A3,c3,A4,c4,rfl,had,hv,g0,g1,g2,g3,g4,g5,g6,g7⟩:=hat k hlt
    have i0:(0:Int)≤(k:Int):=by omega
    have i1:(k:Int) < (l.length:Int):=by omega
    have K:=Lib.hid (fun (W:World) (hb:Below wr.heap.size wr W)=>eright_any l[k].e A1 c1 A2 c2 A3 c3 A4 c4 W (hv.on hb) (HE.out W (bel_in HB.out hb)))
    have N1k:=Lib.hid (N1.out k hlt)
    have NX:=Lib.hid (fun (hr:rgtE l[k].e=true) (hs:∀i (hi:i < l.length),k=i+1→blt l[i].e.n l[k].e.n)=>show RI l (k+1) from fun j hj hjk=>by
     by_cases e:j=k
     ·subst e;exact ⟨hr,hs⟩
     ·exact HI.out j hj (by omega))
    have NB:=Lib.hid (fun (i:Nat) (hi:i+1 < l.length) (e:k=i+1) (hn:¬blt l[i].e.n l[k].e.n)=>show R=false from N2.out i hi (by subst e;exact hn))
    clear had hv hat HI
    generalize l[k]=x at *
    obtain ⟨⟨nx,vx,dx,rx,ex,px⟩,ax,hx⟩:=x
    have KN:=Lib.hid (fun (W:World)=>name_any ⟨⟨⟨nx,vx,dx,rx,ex,px⟩,ax,hx⟩,A1,c1,A2,c2,A3,c3,A4,c4⟩ W)
    unfold HrV.cs at KN
    unfold Ent.val at K
    simp only at KN K NX NB N1k g0 g1 g2 g3 g4 g5 g6 g7
    go_wp2_with fail
    have BA:=Lib.hid ((Below.refl wr.heap.size wr).alloc (Nat.le_refl _) (.cells #[.string nx,.string vx,.slice A1 dx.length c1,.slice A2 rx.length c2,.slice A3 ex.length c3,.slice A4 px.length c4,.bool ax,.bool hx] 67))
    have BW:=Lib.hid (bel_in HB.out BA.out)
    have x0:=fun d os=>cell_regrown (show (wr.alloc (.cells #[.string nx,.string vx,.slice A1 dx.length c1,.slice A2 rx.length c2,.slice A3 ex.length c3,.slice A4 px.length c4,.bool ax,.bool hx] 67)).cell? ⟨wr.heap.size,0,none⟩=some (.string nx) from (cell_of_row _ _ 0 _ _ (0,0) (heap_alloc_new wr _)).trans rfl) d os
    have x1:=fun d os=>cell_regrown (show (wr.alloc (.cells #[.string nx,.string vx,.slice A1 dx.length c1,.slice A2 rx.length c2,.slice A3 ex.length c3,.slice A4 px.length c4,.bool ax,.bool hx] 67)).cell? ⟨wr.heap.size,1,none⟩=some (.string vx) from (cell_of_row _ _ 1 _ _ (0,0) (heap_alloc_new wr _)).trans rfl) d os
    have x2:=fun d os=>cell_regrown (show (wr.alloc (.cells #[.string nx,.string vx,.slice A1 dx.length c1,.slice A2 rx.length c2,.slice A3 ex.length c3,.slice A4 px.length c4,.bool ax,.bool hx] 67)).cell? ⟨wr.heap.size,2,none⟩=some (.slice A1 dx.length c1) from (cell_of_row _ _ 2 _ _ (0,0) (heap_alloc_new wr _)).trans rfl) d os
    have x3:=fun d os=>cell_regrown (show (wr.alloc (.cells #[.string nx,.string vx,.slice A1 dx.length c1,.slice A2 rx.length c2,.slice A3 ex.length c3,.slice A4 px.length c4,.bool ax,.bool hx] 67)).cell? ⟨wr.heap.size,3,none⟩=some (.slice A2 rx.length c2) from (cell_of_row _ _ 3 _ _ (0,0) (heap_alloc_new wr _)).trans rfl) d os
    have x4:=fun d os=>cell_regrown (show (wr.alloc (.cells #[.string nx,.string vx,.slice A1 dx.length c1,.slice A2 rx.length c2,.slice A3 ex.length c3,.slice A4 px.length c4,.bool ax,.bool hx] 67)).cell? ⟨wr.heap.size,4,none⟩=some (.slice A3 ex.length c3) from (cell_of_row _ _ 4 _ _ (0,0) (heap_alloc_new wr _)).trans rfl) d os
    have x5:=fun d os=>cell_regrown (show (wr.alloc (.cells #[.string nx,.string vx,.slice A1 dx.length c1,.slice A2 rx.length c2,.slice A3 ex.length c3,.slice A4 px.length c4,.bool ax,.bool hx] 67)).cell? ⟨wr.heap.size,5,none⟩=some (.slice A4 px.length c4) from (cell_of_row _ _ 5 _ _ (0,0) (heap_alloc_new wr _)).trans rfl) d os
    have x6:=fun d os=>cell_regrown (show (wr.alloc (.cells #[.string nx,.string vx,.slice A1 dx.length c1,.slice A2 rx.length c2,.slice A3 ex.length c3,.slice A4 px.length c4,.bool ax,.bool hx] 67)).cell? ⟨wr.heap.size,6,none⟩=some (.bool ax) from (cell_of_row _ _ 6 _ _ (0,0) (heap_alloc_new wr _)).trans rfl) d os
    have x7:=fun d os=>cell_regrown (show (wr.alloc (.cells #[.string nx,.string vx,.slice A1 dx.length c1,.slice A2 rx.length c2,.slice A3 ex.length c3,.slice A4 px.length c4,.bool ax,.bool hx] 67)).cell? ⟨wr.heap.size,7,none⟩=some (.bool hx) from (cell_of_row _ _ 7 _ _ (0,0) (heap_alloc_new wr _)).trans rfl) d os
    have K1:=Lib.hid (fun d os=>K.out (grow (redrawn (wr.alloc (.cells #[.string nx,.string vx,.slice A1 dx.length c1,.slice A2 rx.length c2,.slice A3 ex.length c3,.slice A4 px.length c4,.bool ax,.bool hx] 67)) d) os) (BA.out.trans ((below_regrown (wr.alloc (.cells #[.string nx,.string vx,.slice A1 dx.length c1,.slice A2 rx.length c2,.slice A3 ex.length c3,.slice A4 px.length c4,.bool ax,.bool hx] 67)) d os).mono BA.out.size)))
    have BD:=Lib.hid (fun d os=>BW.out.trans ((below_regrown (wr.alloc (.cells #[.string nx,.string vx,.slice A1 dx.length c1,.slice A2 rx.length c2,.slice A3 ex.length c3,.slice A4 px.length c4,.bool ax,.bool hx] 67)) d os).mono BW.out.size))
    clear K g0 g1 g2 g3 g4 g5 g6 g7
    generalize rgtE (⟨nx,vx,dx,rx,ex,px⟩:Ent)=rb at *
    cases rb
    ·have X:=Lib.hid (N1k.out rfl)
     go_wp2_with fail
     refine wp_region_quiet_below (by assumption) (by kernel_rfl) ?_
     repeat (go_big_quiet_step (first|(go_at_call 70;refine Calls.regrown_of (K1.out _ _))))
     refine wpQuiet_nil ?_
     intro _ hw2
     obtain ⟨⟨dq,osq⟩,hw3⟩:=hw2
     subst hw3
     have X2:=Lib.hid (BD.out dq osq)
     clear BD x0 x1 x2 x3 x4 x5 x6 x7
     go_wp2
     go_ret
     exact ⟨by rw [X.out];try rfl,X2.out⟩
    rcases k with _|k
    ·have NX1:=Lib.hid (NX.out (by trivial) (fun i _ h=>by omega))
     go_wp2_with fail
     refine wp_region_quiet_below (by assumption) (by kernel_rfl) ?_
     repeat (go_big_quiet_step (first|(go_at_call 70;refine Calls.regrown_of (K1.out _ _))))
     refine wpQuiet_nil ?_
     intro _ hw2
     obtain ⟨⟨dq,osq⟩,hw3⟩:=hw2
     subst hw3
     have X2:=Lib.hid (BD.out dq osq)
     clear BD x0 x1 x2 x3 x4 x5 x6 x7
     go_wp2
     go_roundg (l.length - 1)
     case measure=>omega
     case rel=>exact ⟨1,by first|rfl|go_num,by omega,Nat.le_refl _,NX1,X2⟩
    ·obtain ⟨ad',E1,e1,E2,e2,E3,e3,E4,e4,had',-,-,j0,j1,j2,j3,j4,j5,j6,j7⟩:=HAT.out k (by omega)
     obtain rfl:ad=ad':=Option.some.inj had'
     have i2:(0:Int)≤(k:Int):=by omega
     have i3:(k:Int) < (l.length:Int):=by omega
     have NB2:=Lib.hid (NB.out k hlt rfl)
     have NX2:=Lib.hid (fun (hs:blt l[k].e.n nx)=>NX.out (by trivial) (fun i hi h=>by have e:i=k:=(by omega);subst e;exact hs))
     clear had' NB NX HAT
     generalize l[k]=y at *
     obtain ⟨⟨ny,vy,dy,ry,ey,py⟩,ay,hy⟩:=y
     simp only at NX2 NB2 j0 j1 j2 j3 j4 j5 j6 j7
     have KM:=Lib.hid (fun (W:World)=>name_any ⟨⟨⟨ny,vy,dy,ry,ey,py⟩,ay,hy⟩,E1,e1,E2,e2,E3,e3,E4,e4⟩ W)
     unfold HrV.cs at KM
     simp only at KM
     have KX1:=Lib.hid (fun d os=>(KN.out (grow (redrawn (wr.alloc (.cells #[.string nx,.string vx,.slice A1 dx.length c1,.slice A2 rx.length c2,.slice A3 ex.length c3,.slice A4 px.length c4,.bool ax,.bool hx] 67)) d) os)).mono (R':=fun e w'=>e=.returned (.string nx)∧Below (grow (redrawn (wr.alloc (.cells #[.string nx,.string vx,.slice A1 dx.length c1,.slice A2 rx.length c2,.slice A3 ex.length c3,.slice A4 px.length c4,.bool ax,.bool hx] 67)) d) os).heap.size (grow (redrawn (wr.alloc (.cells #[.string nx,.string vx,.slice A1 dx.length c1,.slice A2 rx.length c2,.slice A3 ex.length c3,.slice A4 px.length c4,.bool ax,.bool hx] 67)) d) os) w') fun _ _ h=>⟨h.1,h.2.below⟩)
     have KY1:=Lib.hid (fun d os=>(KM.out (grow (redrawn (wr.alloc (.cells #[.string nx,.string vx,.slice A1 dx.length c1,.slice A2 rx.length c2,.slice A3 ex.length c3,.slice A4 px.length c4,.bool ax,.bool hx] 67)) d) os)).mono (R':=fun e w'=>e=.returned (.string ny)∧Below (grow (redrawn (wr.alloc (.cells #[.string nx,.string vx,.slice A1 dx.length c1,.slice A2 rx.length c2,.slice A3 ex.length c3,.slice A4 px.length c4,.bool ax,.bool hx] 67)) d) os).heap.size (grow (redrawn (wr.alloc (.cells #[.string nx,.string vx,.slice A1 dx.length c1,.slice A2 rx.length c2,.slice A3 ex.length c3,.slice A4 px.length c4,.bool ax,.bool hx] 67)) d) os) w') fun _ _ h=>⟨h.1,h.2.below⟩)
     have y0:=fun d os=>cell_regrown (w:=(wr.alloc (.cells #[.string nx,.string vx,.slice A1 dx.length c1,.slice A2 rx.length c2,.slice A3 ex.length c3,.slice A4 px.length c4,.bool ax,.bool hx] 67))) ((BA.out.cell (block_lt_of_cell j0)).trans j0) d os
     have y1:=fun d os=>cell_regrown (w:=(wr.alloc (.cells #[.string nx,.string vx,.slice A1 dx.length c1,.slice A2 rx.length c2,.slice A3 ex.length c3,.slice A4 px.length c4,.bool ax,.bool hx] 67))) ((BA.out.cell (block_lt_of_cell j1)).trans j1) d os
     have y2:=fun d os=>cell_regrown (w:=(wr.alloc (.cells #[.string nx,.string vx,.slice A1 dx.length c1,.slice A2 rx.length c2,.slice A3 ex.length c3,.slice A4 px.length c4,.bool ax,.bool hx] 67))) ((BA.out.cell (block_lt_of_cell j2)).trans j2) d os
     have y3:=fun d os=>cell_regrown (w:=(wr.alloc (.cells #[.string nx,.string vx,.slice A1 dx.length c1,.slice A2 rx.length c2,.slice A3 ex.length c3,.slice A4 px.length c4,.bool ax,.bool hx] 67))) ((BA.out.cell (block_lt_of_cell j3)).trans j3) d os
     have y4:=fun d os=>cell_regrown (w:=(wr.alloc (.cells #[.string nx,.string vx,.slice A1 dx.length c1,.slice A2 rx.length c2,.slice A3 ex.length c3,.slice A4 px.length c4,.bool ax,.bool hx] 67))) ((BA.out.cell (block_lt_of_cell j4)).trans j4) d os
     have y5:=fun d os=>cell_regrown (w:=(wr.alloc (.cells #[.string nx,.string vx,.slice A1 dx.length c1,.slice A2 rx.length c2,.slice A3 ex.length c3,.slice A4 px.length c4,.bool ax,.bool hx] 67))) ((BA.out.cell (block_lt_of_cell j5)).trans j5) d os
     have y6:=fun d os=>cell_regrown (w:=(wr.alloc (.cells #[.string nx,.string vx,.slice A1 dx.length c1,.slice A2 rx.length c2,.slice A3 ex.length c3,.slice A4 px.length c4,.bool ax,.bool hx] 67))) ((BA.out.cell (block_lt_of_cell j6)).trans j6) d os
     have y7:=fun d os=>cell_regrown (w:=(wr.alloc (.cells #[.string nx,.string vx,.slice A1 dx.length c1,.slice A2 rx.length c2,.slice A3 ex.length c3,.slice A4 px.length c4,.bool ax,.bool hx] 67))) ((BA.out.cell (block_lt_of_cell j7)).trans j7) d os
     clear KN KM j0 j1 j2 j3 j4 j5 j6 j7
     by_cases hq:Op.bytesLess ny.toList nx.toList=true
     ·have NX3:=Lib.hid (NX2.out hq)
      clear NX2 NB2
      go_wp2_with fail
      refine wp_region_quiet_below (by assumption) (by kernel_rfl) ?_
      repeat (go_big_quiet_step (first|(go_at_call 70;refine Calls.regrown_of (K1.out _ _))|(go_at_call 71;first|(with_reducible refine Calls.regrown_of (KX1.out _ _))|(with_reducible refine Calls.regrown_of (KY1.out _ _)))))
      refine wpQuiet_nil ?_
      intro _ hw2
      obtain ⟨⟨dq,osq⟩,hw3⟩:=hw2
      subst hw3
      have X2:=Lib.hid (BD.out dq osq)
      clear BD x0 x1 x2 x3 x4 x5 x6 x7 y0 y1 y2 y3 y4 y5 y6 y7
      go_wp2
      go_roundg (l.length - (k+1+1))
      case measure=>omega
      case rel=>exact ⟨k+1+1,by go_num,by omega,Nat.le_refl _,NX3,X2⟩
     ·have X:=Lib.hid (NB2.out (fun h=>hq h))
      have hqf:Op.bytesLess ny.toList nx.toList=false:=Bool.eq_false_iff.2 hq
      clear hq NX2 NB2
      go_wp2_with fail
      refine wp_region_quiet_below (by assumption) (by kernel_rfl) ?_
      repeat (go_big_quiet_step (first|(go_at_call 70;refine Calls.regrown_of (K1.out _ _))|(go_at_call 71;first|(with_reducible refine Calls.regrown_of (KX1.out _ _))|(with_reducible refine Calls.regrown_of (KY1.out _ _)))))
      refine wpQuiet_nil ?_
      intro _ hw2
      obtain ⟨⟨dq,osq⟩,hw3⟩:=hw2
      subst hw3
      have X2:=Lib.hid (BD.out dq osq)
      clear BD x0 x1 x2 x3 x4 x5 x6 x7 y0 y1 y2 y3 y4 y5 y6 y7
      go_wp2
      go_ret
      exact ⟨by rw [X.out];try rfl,X2.out⟩
   ·obtain rfl:k=l.length:=by omega
    have X:=Lib.hid (N3.out HI.out)
    go_wp2
    go_ret
    exact ⟨by rw [X.out];try rfl,HB.out⟩
 ·have z64:(64:Int) < (l.length:Int):=by omega
  have X:=Lib.hid (show rightH l=false from Bool.eq_false_iff.2 fun e=>h64 ((rightH_iff l).1 e).2.2)
  clear h E hcm
  go_enter Tryz.func32,Tryz.ntmps32
  go_wp2
  go_ret
  exact ⟨by rw [X.out];try rfl,Below.refl _ _⟩
end Go.Proofs.YtpilmhoakopcaaaGreatDoor
