/- What the laws rest on: E10m, N10g, E10f, E10d, Open2, OpenG, E6j, E7t, E10y, LaidStr, Post2. -/
import Derived.ProofKit
import Derived.OpenShut
import Derived.ChangeMaps5
import Derived.SliceStrings
import Derived.Lib.SmallJoins
import Derived.Deep.Slices
import Derived.Deep.Strs
import Derived.Lib.LaidTab
import Derived.ChangeArms
import Derived.Test.YthchfkhpmgkghaaGreatDoorRows
import Derived.ChangeSame
import Derived.Carry
import Derived.Test.YthchfkhpmgkghaaGreatDoorQBGZA
set_option maxRecDepth 100000
set_option linter.unusedVariables false
set_option linter.unusedSimpArgs false
namespace Go.Proofs.YthchfkhpmgkghaaGreatDoor
open Go.RowKit Go.Sort
theorem rdFts_at {w:World} {S:Nat→Prop} {l:List Ft} {A:Option Addr} {n c:Nat} (h:rdFts w S l [.slice A n c]):n=l.length∧n≤c∧c≤maxLen∧∀k (hk:k < l.length),∃ad,A=some ad∧S ad.block∧
  w.cell? (ad.add (k*3))=some (.int .i64 l[k].k)∧w.cell? ⟨(ad.add (k*3)).block,(ad.add (k*3)).off+1,none⟩=some (.int .i64 l[k].a)∧w.cell? ⟨(ad.add (k*3)).block,(ad.add (k*3)).off+2,none⟩=some (.int .i64 l[k].b):=by
 obtain ⟨A',c',e,h1,h2,h⟩:=h
 simp only [List.cons.injEq,Value.slice.injEq,and_true] at e
 obtain ⟨rfl,rfl,rfl⟩:=e
 refine ⟨rfl,h1,h2,fun k hk=>?_⟩
 obtain ⟨ad,es,e,hS,hE,hl,hc⟩:=h k hk
 rw [show es=[.int .i64 l[k].k,.int .i64 l[k].a,.int .i64 l[k].b] from hE] at hc
 exact ⟨ad,e,hS,hc 0 _ rfl,by rw [off_add ad (k*3) 1 (by omega)];exact hc 1 _ rfl,by rw [off_add ad (k*3) 2 (by omega)];exact hc 2 _ rfl⟩
theorem take_eq10 {l m:List Ft} {k:Nat} (h:l.take k=m.take k) (hk:k < l.length) (hk':k < m.length) (e:l[k]=m[k]):l.take (k+1)=m.take (k+1):=by
 rw [List.take_succ_eq_append_getElem hk,List.take_succ_eq_append_getElem hk',h,e]
set_option maxHeartbeats 16000000 in
theorem alike10_any (A A':Option Addr) (n c n' c':Nat) (l m:List Ft) (w:World) (h:rdFts w (lt_ w.heap.size) l [.slice A n c]) (h':rdFts w (lt_ w.heap.size) m [.slice A' n' c']) :
  Calls Tryz.prog 17 #[.slice A n c,.slice A' n' c'] w fun e w'=>e=.returned (.bool (decide (l=m)))∧Below w.heap.size w w':=by
 have mixed:Tryz.prog.follows .mixedOrders=true:=by kernel_rfl
 obtain ⟨rfl,hnc,hcm,-⟩:=rdFts_at h
 obtain ⟨rfl,hnc',hcm',-⟩:=rdFts_at h'
 have hc1:c≤9223372036854775807:=hcm
 have hc2:c'≤9223372036854775807:=hcm'
 have HA:=Lib.hid (fun (W:World) (hb:Below w.heap.size w W)=>(rdFts_at (rdFts_good.below h hb)).2.2.2)
 have HB':=Lib.hid (fun (W:World) (hb:Below w.heap.size w W)=>(rdFts_at (rdFts_good.below h' hb)).2.2.2)
 have XN:=Lib.hid (fun (k:Nat) (hk:k < l.length) (hk':k < m.length) (e:l[k]≠m[k])=>show decide (l=m)=false from decide_eq_false fun q=>e (by subst q;rfl))
 have XL:=Lib.hid (fun (e:l.length≠m.length)=>show decide (l=m)=false from decide_eq_false fun q=>e (by rw [q]))
 have XY:=Lib.hid (fun (e:l.length=m.length) (q:l.take l.length=m.take l.length)=>show decide (l=m)=true from decide_eq_true (by rw [List.take_length,e,List.take_length] at q;exact q))
 clear h h' hcm hcm'
 generalize decide (l=m)=bb at *
 by_cases hlen:l.length=m.length
 rotate_left
 ·have hd:((l.length:Int) != (m.length:Int))=true:=by rw [bne_iff_ne];omega
  have XX:=Lib.hid (XL.out hlen)
  clear hlen
  go_enter Tryz.func17,Tryz.ntmps17
  go_wp2
  go_ret
  exact ⟨by rw [XX.out];try rfl,Below.refl _ _⟩
 have hd:((l.length:Int) != (m.length:Int))=false:=by rw [hlen];simp
 have HLEN:=Lib.hid hlen
 clear hlen
 go_enter Tryz.func17,Tryz.ntmps17
 go_wp2
 go_loopw [5] (fun i wr=>∃k:Nat,k≤l.length∧i=.int .i64 k∧Hid (l.take k=m.take k)∧Below w.heap.size w wr) (fun i _=>l.length - (intOf i).toNat)
 case atStart=>exact ⟨0,Nat.zero_le _,rfl,Lib.hid rfl,Below.refl _ _⟩
 case round=>
  obtain ⟨k,hk,rfl,HT,hbel⟩:=hrel
  have HB:=Lib.hid hbel
  clear hbel
  by_cases hlt:k < l.length
  ·have hlt':k < m.length:=by rw [←HLEN.out];exact hlt
   obtain ⟨ad,rfl,-,g0,g1,g2⟩:=HA.out wr HB.out k hlt
   obtain ⟨ad',rfl,-,q0,q1,q2⟩:=HB'.out wr HB.out k hlt'
   have i0:(0:Int)≤(k:Int):=by omega
   have i1:(k:Int) < (l.length:Int):=by omega
   have i2:(k:Int) < (m.length:Int):=by omega
   have NO:=Lib.hid (XN.out k hlt hlt')
   have YES:=Lib.hid (fun e=>take_eq10 HT.out hlt hlt' e)
   generalize l[k]=x at *
   generalize m[k]=y at *
   obtain ⟨xk,xa,xb⟩:=x
   obtain ⟨yk,ya,yb⟩:=y
   simp only at g0 g1 g2 q0 q1 q2
   have z0:=fun dd os=>cell_regrown (w:=wr) g0 dd os
   have z1:=fun dd os=>cell_regrown (w:=wr) g1 dd os
   have z2:=fun dd os=>cell_regrown (w:=wr) g2 dd os
   have v0:=fun dd os=>cell_regrown (w:=wr) q0 dd os
   have v1:=fun dd os=>cell_regrown (w:=wr) q1 dd os
   have v2:=fun dd os=>cell_regrown (w:=wr) q2 dd os
   have BD:=Lib.hid (fun dd os=>below_regrown wr dd os)
   clear g0 g1 g2 q0 q1 q2 HT
   by_cases e0:xk=yk
   ·have d0:(xk != yk)=false:=by rw [bne_eq_false_iff_eq];exact e0
    by_cases e1:xa=ya
    ·have d1:(xa != ya)=false:=by rw [bne_eq_false_iff_eq];exact e1
     by_cases e2:xb=yb
     ·have d2:(xb != yb)=false:=by rw [bne_eq_false_iff_eq];exact e2
      have NX:=Lib.hid (YES.out (by rw [e0,e1,e2]))
      clear e0 e1 e2 NO YES
      go_wp2_with fail
      refine wp_region_quiet_below mixed (by kernel_rfl) ?_
      repeat (go_big_quiet_step (fail))
      refine wpQuiet_nil ?_
      intro W3 hw3
      have BX:=Lib.hid (bel_in HB.out (show Below wr.heap.size wr W3 from by obtain ⟨pp,e⟩:=hw3;rw [e];exact BD.out pp.d pp.os))
      clear hw3 BD z0 z1 z2 v0 v1 v2
      go_wp2
      go_roundw
      case rel=>exact ⟨k+1,by omega,by go_num,NX,BX.out⟩
      case measure=>simp [intOf];omega
     ·have d2:(xb != yb)=true:=by rw [bne_iff_ne];exact e2
      have XX:=Lib.hid (NO.out (by intro q;injection q with _ _ q;exact e2 q))
      clear e0 e1 e2 NO YES
      go_wp2_with fail
      refine wp_region_quiet_below mixed (by kernel_rfl) ?_
      repeat (go_big_quiet_step (fail))
      refine wpQuiet_nil ?_
      intro W3 hw3
      have BX:=Lib.hid (bel_in HB.out (show Below wr.heap.size wr W3 from by obtain ⟨pp,e⟩:=hw3;rw [e];exact BD.out pp.d pp.os))
      clear hw3 BD z0 z1 z2 v0 v1 v2
      go_wp2
      go_ret
      exact ⟨by rw [XX.out];try rfl,BX.out⟩
    ·have d1:(xa != ya)=true:=by rw [bne_iff_ne];exact e1
     have XX:=Lib.hid (NO.out (by intro q;injection q with _ q _;exact e1 q))
     clear e0 e1 NO YES
     go_wp2_with fail
     refine wp_region_quiet_below mixed (by kernel_rfl) ?_
     repeat (go_big_quiet_step (fail))
     refine wpQuiet_nil ?_
     intro W3 hw3
     have BX:=Lib.hid (bel_in HB.out (show Below wr.heap.size wr W3 from by obtain ⟨pp,e⟩:=hw3;rw [e];exact BD.out pp.d pp.os))
     clear hw3 BD z0 z1 z2 v0 v1 v2
     go_wp2
     go_ret
     exact ⟨by rw [XX.out];try rfl,BX.out⟩
   ·have d0:(xk != yk)=true:=by rw [bne_iff_ne];exact e0
    have XX:=Lib.hid (NO.out (by intro q;injection q with q _ _;exact e0 q))
    clear e0 NO YES
    go_wp2_with fail
    refine wp_region_quiet_below mixed (by kernel_rfl) ?_
    repeat (go_big_quiet_step (fail))
    refine wpQuiet_nil ?_
    intro W3 hw3
    have BX:=Lib.hid (bel_in HB.out (show Below wr.heap.size wr W3 from by obtain ⟨pp,e⟩:=hw3;rw [e];exact BD.out pp.d pp.os))
    clear hw3 BD z0 z1 z2 v0 v1 v2
    go_wp2
    go_ret
    exact ⟨by rw [XX.out];try rfl,BX.out⟩
  ·obtain rfl:k=l.length:=by omega
   have i0:¬(l.length:Int) < (l.length:Int):=by omega
   have XX:=Lib.hid (XY.out HLEN.out HT.out)
   go_wp2
   go_ret
   exact ⟨by rw [XX.out];try rfl,HB.out⟩
end Go.Proofs.YthchfkhpmgkghaaGreatDoor
namespace Go.Proofs.YthchfkhpmgkghaaGreatDoor
open Go.RowKit
theorem vft10_info:(Tryz.prog.info? 55).map (fun i=>(i.zero,i.size,i.bytes))=some (some (.agg #[.int .i64 0,.int .i64 0,.int .i64 0]),3,24):=by kernel_rfl
def StG (q:Nat) (W:World) (g:List Ft) (O:Nat→Prop):Prop:=
 ∃v,W.cell? ⟨q,0,none⟩=some v∧W.frozen? ⟨q,0,none⟩=false∧Grow rdFt 3 (fun _=>False) W (q+1) 55 v g∧∀b,O b↔b=q∨v.ownBlock=some b
theorem StG.lt {q:Nat} {W:World} {g:List Ft} {O:Nat→Prop} (h:StG q W g O):q < W.heap.size:=by
 obtain ⟨v,h1,-⟩:=h
 exact World.block_lt_of_cell? _ _ h1
set_option maxHeartbeats 2000000 in
theorem sinkG_call (q:Nat) (W:World) (g:List Ft) (O:Nat→Prop) (x:Ft) (h:StG q W g O) (hn:g.length+1≤1000000) :
  Calls Tryz.prog 48 #[.int .i64 x.k,.int .i64 x.a,.int .i64 x.b,.pointer (some ⟨q,0,none⟩)] W fun e W'=>e=.returned (.tuple #[])∧∃O',StG q W' (g++[x]) O'∧Pst W O W' O':=by
 have hq:=h.lt
 obtain ⟨v,c0,f0,hG,hO⟩:=h
 obtain ⟨i0,hi,hz0,hz1,hz2⟩:=info_parts vft10_info
 have HO:=Lib.hid hO
 have hn1:g.length+1≤maxLen:=by unfold maxLen;omega
 have hn2:(g.length+1)*24≤140737488355328:=by omega
 have hbs:q+1≤W.heap.size:=hq
 have hE:=(show rdFt W (fun b=>False∧b < W.heap.size∧v.ownBlock≠some b) x (#[Value.int .i64 x.k,Value.int .i64 x.a,Value.int .i64 x.b]:Array Value).toList from rfl)
 clear hO
 go_enter Tryz.func48,Tryz.ntmps48
 go_wp2_with (at_builtin;refine wpList_grow1_at W rfl _ _ 41 rfl rdFt_good (by decide) (fun _=>False) (q+1) 55 i0 _ 24 Tryz.underlying41 hi hz0 hz1 hz2 rfl v g rfl hG x _ 55 hE _ rfl rfl hn1 hn2 hbs ?_)
 intro v' w' hG' hgr hm
 obtain ⟨Av,cv,hv,-,-⟩:=hG'.own
 obtain ⟨nv,hnv⟩:∃n,n=(g++[x]).length:=⟨_,rfl⟩
 rw [←hnv] at hv
 subst hv
 clear hnv
 have c1:w'.cell? ⟨q,0,none⟩=some v:=hgr.cell c0 (fun e=>by have:=(hG.lt q e.symm).1;omega)
 have f1:w'.frozen? ⟨q,0,none⟩=false:=by
  have:=World.frozen?_of_block (w:=W) (w':=w') (a:=⟨q,0,none⟩) (hgr.block q hq (fun e=>by have:=(hG.lt q e.symm).1;omega))
  rw [this];exact f0
 have PP:=Lib.hid (show ∃O',StG q (w'.setCell ⟨q,0,none⟩ (.slice Av nv cv)) (g++[x]) O'∧Pst W O (w'.setCell ⟨q,0,none⟩ (.slice Av nv cv)) O' from by
  refine ⟨fun b=>b=q∨(Value.slice Av nv cv).ownBlock=some b,⟨.slice Av nv cv,World.cell?_setCell_same _ _ _ c1,by rw [World.frozen?_setCell];exact f1,hG'.setCell rdFt_good (p:=⟨q,0,none⟩) (Nat.lt_succ_self q) id _,fun b=>Iff.rfl⟩,?_⟩
  refine ⟨hgr.os,hgr.tape,hgr.output,by rw [World.size_setCell];exact hgr.size,fun b hb hno=>?_,fun b hb=>?_⟩
  ·rw [HO.out] at hno
   rw [Below.heap_setCell _ _ _ _ (fun e=>hno (.inl e))]
   exact hgr.block b hb fun e=>hno (.inr e.symm)
  ·rcases hb with rfl|hb
   ·exact .inl ((HO.out b).2 (.inl rfl))
   ·rcases hm with e|⟨c,e,hc⟩
    ·exact .inl ((HO.out b).2 (.inr (e.symm.trans hb)))
    ·rw [e] at hb
     cases hb
     exact .inr hc)
 clear hG' hgr hm c0 f0 hE
 go_wp2
 go_end0
 exact ⟨rfl,PP.out⟩
theorem sinkG (N q:Nat) (hN:N≤q):Sink N (StG q) 48 q where
 own:=fun {W g O} h b hb=>by
  have hq:=h.lt
  obtain ⟨v,-,-,hG,hO⟩:=h
  rcases (hO b).1 hb with rfl|e
  ·exact ⟨hN,hq⟩
  ·have:=hG.lt b e;omega
 up:=fun {W W' g O} h hb=>by
  have hq:=h.lt
  obtain ⟨v,c0,f0,hG,hO⟩:=h
  exact ⟨v,(hb.cell hq).trans c0,(hb.frozen hq).trans f0,hG.below rdFt_good hb,hO⟩
 enter:=fun _ _=>by kernel_rfl
 call:=fun W g O x h hn=>sinkG_call q W g O x h hn
end Go.Proofs.YthchfkhpmgkghaaGreatDoor
namespace Go.Proofs.YthchfkhpmgkghaaGreatDoor
open Go.RowKit Go.Sort
def atB (l:List Atm):Bool:=l.all rgt&&decide (l.length≤12)
def rqB (i r:List Atm):Bool:=atB i&&atB r
end Go.Proofs.YthchfkhpmgkghaaGreatDoor
namespace Go.Proofs.YthchfkhpmgkghaaGreatDoor
open Go.RowKit
set_option maxHeartbeats 4000000 in
theorem light10_any (A:Option Addr) (n c:Nat) (l:List Atm) (w:World) (h:rdAtms w (lt_ w.heap.size) l [.slice A n c]) :
  Calls Tryz.prog 36 #[.slice A n c] w fun e w'=>LtR (Lt l) e∧w=w':=by
 obtain ⟨rfl,hnc,hcm,hat⟩:=rdAtms_at h
 have hcm':c≤9223372036854775807:=hcm
 have HAT:=Lib.hid hat
 clear h hat hcm
 by_cases g0:(20:Int) < (l.length:Int)
 ·go_enter Tryz.func36,Tryz.ntmps36
  go_wp2
  go_ret
  exact ⟨ltR_no _,rfl⟩
 have HL:=Lib.hid (show l.length≤20 by omega)
 go_enter Tryz.func36,Tryz.ntmps36
 go_wp2
 go_loop [3] (fun i=>∃k:Nat,k≤l.length∧i=.int .i64 k∧(∀j (hj:j < l.length),j < k→l[j].n.size≤100∧l[j].v.size≤100)) (fun i=>l.length - (intOf i).toNat)
 case atStart=>exact ⟨0,Nat.zero_le _,rfl,fun j _ hj=>absurd hj (Nat.not_lt_zero _)⟩
 case round=>
  obtain ⟨k,hk,rfl,hall⟩:=hrel
  have HA:=Lib.hid hall
  clear hall
  by_cases hlt:k < l.length
  ·obtain ⟨ad,rfl,had,h0,h1,h2⟩:=HAT.out k hlt
   have i0:(0:Int)≤(k:Int):=by omega
   have i1:(k:Int) < (l.length:Int):=by omega
   clear had h1
   by_cases g1:(100:Int) < (l[k].n.size:Int)
   ·go_wp2
    go_ret
    exact ⟨ltR_no _,rfl⟩
   by_cases g2:(100:Int) < (l[k].v.size:Int)
   ·go_wp2
    go_ret
    exact ⟨ltR_no _,rfl⟩
   have NX:=Lib.hid (show l[k].n.size≤100∧l[k].v.size≤100 from ⟨by omega,by omega⟩)
   go_wp2
   go_round
   case rel=>exact ⟨k+1,by omega,by go_num,fun j hj h=>by
    by_cases hjk:j=k
    ·subst hjk;exact NX.out
    ·exact HA.out j hj (by omega)⟩
   case measure=>simp [intOf];omega
  ·obtain rfl:k=l.length:=by omega
   have FIN:=Lib.hid (show Lt l from ⟨HL.out,fun a ha=>by
    obtain ⟨j,hj,rfl⟩:=List.getElem_of_mem ha
    exact HA.out j hj hj⟩)
   go_wp2
   go_ret
   exact ⟨ltR_yes FIN.out,rfl⟩
set_option maxHeartbeats 8000000 in
theorem fine10_any (x:Ent) (A1:Option Addr) (c1:Nat) (A2:Option Addr) (c2:Nat) (A3:Option Addr) (c3:Nat) (A4:Option Addr) (c4:Nat) (w:World) (hx:EntV w (lt_ w.heap.size) x A1 c1 A2 c2 A3 c3 A4 c4) :
  Calls Tryz.prog 35 #[x.val A1 c1 A2 c2 A3 c3 A4 c4] w fun e w'=>LtR (Sm x) e∧Below w.heap.size w w':=by
 obtain ⟨n,v,d,r,c,p⟩:=x
 have B1:=Lib.hid (show Below w.heap.size w (w.alloc (.cells #[.string n,.string v,.slice A1 d.length c1,.slice A2 r.length c2,.slice A3 c.length c3,.slice A4 p.length c4] 67)) from (Below.refl _ w).alloc (Nat.le_refl _) _)
 have hy:=hx.on B1.out
 obtain ⟨hd1,hd2,hd3,hd⟩:=rdGrps_at hy.d
 obtain ⟨hr1,hr2,hr3,hr⟩:=rdGrps_at hy.r
 have hcm1:c1≤9223372036854775807:=hd3
 have hcm2:c2≤9223372036854775807:=hr3
 have KC:=Lib.hid (light10_any A3 c.length c3 c _ hy.c)
 have KP:=Lib.hid (light10_any A4 p.length c4 p _ hy.p)
 have HD:=Lib.hid hd
 have HR:=Lib.hid hr
 clear hx hy hd hr hd1 hr1 hd3 hr3
 show Calls Tryz.prog 35 #[.agg #[.string n,.string v,.slice A1 d.length c1,.slice A2 r.length c2,.slice A3 c.length c3,.slice A4 p.length c4]] w _
 go_enter Tryz.func35,Tryz.ntmps35
 go_wp2_with fail
 refine KC.out.mono ?_
 rintro e w' ⟨⟨b1,rfl,hb1⟩,rfl⟩
 go_wp2_with fail
 refine KP.out.mono ?_
 rintro e w' ⟨⟨b2,rfl,hb2⟩,rfl⟩
 cases b1
 ·go_wp2
  go_ret
  exact ⟨ltR_no _,B1.out⟩
 cases b2
 ·go_wp2
  go_ret
  exact ⟨ltR_no _,B1.out⟩
 have HC:=Lib.hid (hb1 rfl)
 have HP:=Lib.hid (hb2 rfl)
 clear hb1 hb2
 by_cases g0:(100:Int) < (n.size:Int)
 ·go_wp2
  go_ret
  exact ⟨ltR_no _,B1.out⟩
 by_cases g1:(100:Int) < (v.size:Int)
 ·go_wp2
  go_ret
  exact ⟨ltR_no _,B1.out⟩
 by_cases g2:(15:Int) < (d.length:Int)
 ·go_wp2
  go_ret
  exact ⟨ltR_no _,B1.out⟩
 by_cases g3:(15:Int) < (r.length:Int)
 ·go_wp2
  go_ret
  exact ⟨ltR_no _,B1.out⟩
 have HS:=Lib.hid (show n.size≤100∧v.size≤100∧d.length≤15∧r.length≤15 from ⟨by omega,by omega,by omega,by omega⟩)
 go_wp2
 go_loop [5] (fun i=>∃k:Nat,k≤d.length∧i=.int .i64 k∧(∀j (hj:j < d.length),j < k→Lt d[j])) (fun i=>d.length - (intOf i).toNat)
 case atStart=>exact ⟨0,Nat.zero_le _,rfl,fun j _ hj=>absurd hj (Nat.not_lt_zero _)⟩
 case round=>
  obtain ⟨k,hk,rfl,hall⟩:=hrel
  have HA:=Lib.hid hall
  clear hall
  by_cases hlt:k < d.length
  ·obtain ⟨ad,Y,cy,rfl,had,h0,h1⟩:=HD.out k hlt
   have i0:(0:Int)≤(k:Int):=by omega
   have i1:(k:Int) < (d.length:Int):=by omega
   have K:=Lib.hid (light10_any _ _ _ _ _ h1)
   clear had h1
   go_wp2_with fail
   refine K.out.mono ?_
   rintro e w' ⟨⟨b,rfl,hb⟩,rfl⟩
   cases b
   ·go_wp2
    go_ret
    exact ⟨ltR_no _,B1.out⟩
   have NX:=Lib.hid (hb rfl)
   clear hb
   go_wp2
   go_round
   case rel=>exact ⟨k+1,by omega,by go_num,fun j hj h=>by
    by_cases hjk:j=k
    ·subst hjk;exact NX.out
    ·exact HA.out j hj (by omega)⟩
   case measure=>simp [intOf];omega
  ·obtain rfl:k=d.length:=by omega
   have F5:=Lib.hid (show ∀g ∈ d,Lt g from fun g hg=>by
    obtain ⟨j,hj,rfl⟩:=List.getElem_of_mem hg
    exact HA.out j hj hj)
   clear HA
   go_wp2
   go_loop [7] (fun i=>∃k:Nat,k≤r.length∧i=.int .i64 k∧(∀j (hj:j < r.length),j < k→Lt r[j])) (fun i=>r.length - (intOf i).toNat)
   case atStart=>exact ⟨0,Nat.zero_le _,rfl,fun j _ hj=>absurd hj (Nat.not_lt_zero _)⟩
   case round=>
    obtain ⟨k,hk,rfl,hall⟩:=hrel
    have HA:=Lib.hid hall
    clear hall
    by_cases hlt:k < r.length
    ·obtain ⟨ad,Y,cy,rfl,had,h0,h1⟩:=HR.out k hlt
     have i0:(0:Int)≤(k:Int):=by omega
     have i1:(k:Int) < (r.length:Int):=by omega
     have K:=Lib.hid (light10_any _ _ _ _ _ h1)
     clear had h1
     go_wp2_with fail
     refine K.out.mono ?_
     rintro e w' ⟨⟨b,rfl,hb⟩,rfl⟩
     cases b
     ·go_wp2
      go_ret
      exact ⟨ltR_no _,B1.out⟩
     have NX:=Lib.hid (hb rfl)
     clear hb
     go_wp2
     go_round
     case rel=>exact ⟨k+1,by omega,by go_num,fun j hj h=>by
      by_cases hjk:j=k
      ·subst hjk;exact NX.out
      ·exact HA.out j hj (by omega)⟩
     case measure=>simp [intOf];omega
    ·obtain rfl:k=r.length:=by omega
     have F7:=Lib.hid (show ∀g ∈ r,Lt g from fun g hg=>by
      obtain ⟨j,hj,rfl⟩:=List.getElem_of_mem hg
      exact HA.out j hj hj)
     clear HA
     go_wp2
     go_ret
     exact ⟨ltR_yes ⟨HC.out,HP.out,HS.out.1,HS.out.2.1,HS.out.2.2.1,HS.out.2.2.2,F5.out,F7.out⟩,B1.out⟩
def Fw10 (l:List Ent) (m:List Hr):Prop:=(l.length≤30∧∀x ∈ l,Sm x)∧m.length≤30∧∀x ∈ m,Sm x.e
set_option maxHeartbeats 8000000 in
theorem small10_any (A:Option Addr) (n c:Nat) (l:List Ent) (A':Option Addr) (n' c':Nat) (m:List Hr) (w:World) (h:rdEnts w (lt_ w.heap.size) l [.slice A n c]) (h':rdHrs w (lt_ w.heap.size) m [.slice A' n' c']) :
  Calls Tryz.prog 10 #[.slice A n c,.slice A' n' c'] w fun e w'=>LtR (Fw10 l m) e∧Below w.heap.size w w':=by
 obtain ⟨rfl,hnc,hcm,-⟩:=rdEnts_at h
 obtain ⟨rfl,hnc',hcm',-⟩:=rdHrs_at h'
 have hcm1:c≤9223372036854775807:=hcm
 have hcm2:c'≤9223372036854775807:=hcm'
 clear hcm hcm'
 by_cases g0:(30:Int) < (l.length:Int)
 ·go_enter Tryz.func10,Tryz.ntmps10
  go_wp2
  go_ret
  exact ⟨ltR_no _,Below.refl _ _⟩
 by_cases g1:(30:Int) < (m.length:Int)
 ·go_enter Tryz.func10,Tryz.ntmps10
  go_wp2
  go_ret
  exact ⟨ltR_no _,Below.refl _ _⟩
 have HL:=Lib.hid (show l.length≤30∧m.length≤30 by omega)
 have H':=Lib.hid h'
 clear h'
 go_enter Tryz.func10,Tryz.ntmps10
 go_wp2
 go_loopw [5] (fun i wr=>∃k:Nat,k≤l.length∧i=.int .i64 k∧(∀j (hj:j < l.length),j < k→Sm l[j])∧Below w.heap.size w wr) (fun i _=>l.length - (intOf i).toNat)
 case atStart=>exact ⟨0,Nat.zero_le _,rfl,fun j _ hj=>absurd hj (Nat.not_lt_zero _),Below.refl _ _⟩
 case round=>
  obtain ⟨k,hk,rfl,hall,hbel⟩:=hrel
  have HA:=Lib.hid hall
  have HB:=Lib.hid hbel
  clear hall
  by_cases hlt:k < l.length
  ·obtain ⟨_,_,_,hat⟩:=rdEnts_at (rdEnts_good.up (rdEnts_good.below h hbel) hbel.size)
   obtain ⟨ad,A1,c1,A2,c2,A3,c3,A4,c4,rfl,had,hv,h0,h1,h2,h3,h4,h5⟩:=hat k hlt
   have i0:(0:Int)≤(k:Int):=by omega
   have i1:(k:Int) < (l.length:Int):=by omega
   have K:=Lib.hid (fine10_any l[k] A1 c1 A2 c2 A3 c3 A4 c4 _ hv)
   clear had hat hv hbel h
   go_wp2_with fail
   refine K.out.mono ?_
   rintro e w' ⟨⟨b,rfl,hb⟩,hbl⟩
   have HB2:=Lib.hid (HB.out.trans (hbl.mono HB.out.size))
   cases b
   ·go_wp2
    go_ret
    exact ⟨ltR_no _,HB2.out⟩
   have NX:=Lib.hid (hb rfl)
   clear hb hbl h0 h1 h2 h3 h4 h5
   go_wp2
   go_roundw
   case rel=>exact ⟨k+1,by omega,by go_num,fun j hj h=>by
    by_cases hjk:j=k
    ·subst hjk;exact NX.out
    ·exact HA.out j hj (by omega),HB2.out⟩
   case measure=>simp [intOf];omega
  ·obtain rfl:k=l.length:=by omega
   have FIN:=Lib.hid (show ∀x ∈ l,Sm x from fun a ha=>by
    obtain ⟨j,hj,rfl⟩:=List.getElem_of_mem ha
    exact HA.out j hj hj)
   clear h hbel HA
   go_wp2
   go_loopw [7] (fun i wr=>∃k:Nat,k≤m.length∧i=.int .i64 k∧(∀j (hj:j < m.length),j < k→Sm m[j].e)∧Below w.heap.size w wr) (fun i _=>m.length - (intOf i).toNat)
   case atStart=>exact ⟨0,Nat.zero_le _,rfl,fun j _ hj=>absurd hj (Nat.not_lt_zero _),HB.out⟩
   case round=>
    clear HB
    obtain ⟨k,hk,rfl,hall,hbel⟩:=hrel
    have HA:=Lib.hid hall
    have HB:=Lib.hid hbel
    clear hall
    by_cases hlt:k < m.length
    ·obtain ⟨_,_,_,hat⟩:=rdHrs_at (rdHrs_good.up (rdHrs_good.below H'.out hbel) hbel.size)
     obtain ⟨ad,A1,c1,A2,c2,A3,c3,A4,c4,rfl,had,hv,h0,h1,h2,h3,h4,h5,-,-⟩:=hat k hlt
     have i0:(0:Int)≤(k:Int):=by omega
     have i1:(k:Int) < (m.length:Int):=by omega
     have K:=Lib.hid (fine10_any m[k].e A1 c1 A2 c2 A3 c3 A4 c4 _ hv)
     clear had hat hv hbel
     go_wp2_with fail
     refine K.out.mono ?_
     rintro e w' ⟨⟨b,rfl,hb⟩,hbl⟩
     have HB2:=Lib.hid (HB.out.trans (hbl.mono HB.out.size))
     cases b
     ·go_wp2
      go_ret
      exact ⟨ltR_no _,HB2.out⟩
     have NX:=Lib.hid (hb rfl)
     clear hb hbl h0 h1 h2 h3 h4 h5
     go_wp2
     go_roundw
     case rel=>exact ⟨k+1,by omega,by go_num,fun j hj h=>by
      by_cases hjk:j=k
      ·subst hjk;exact NX.out
      ·exact HA.out j hj (by omega),HB2.out⟩
     case measure=>simp [intOf];omega
    ·obtain rfl:k=m.length:=by omega
     have FIN2:=Lib.hid (show Fw10 l m from ⟨⟨HL.out.1,FIN.out⟩,HL.out.2,fun a ha=>by
      obtain ⟨j,hj,rfl⟩:=List.getElem_of_mem ha
      exact HA.out j hj hj⟩)
     clear hbel
     go_wp2
     go_ret
     exact ⟨ltR_yes FIN2.out,HB.out⟩
end Go.Proofs.YthchfkhpmgkghaaGreatDoor
namespace Go.Proofs.YthchfkhpmgkghaaGreatDoor
open Go.RowKit Go.WideShapes Go.ChangeShapes Go.ChangeAt Go.WideMaps Go.WideElems Go.Joins
section
variable {H:Type} {enc:TypeId × Value→H} {W:World}
theorem one_int {base n:Nat} {sp:Nat→Bool} {held:Bool} {v:Value} {y:DataW H × List MemPlace} (h:DataW.trod enc Tryz.prog W base sp held n 3 [v]=some y):∃e:Int,v=.int .i64 e∧(Lit.int .i64 e).wf=true:=by
 obtain ⟨e,h0,_,h2⟩:=DataW.trod_int Tryz.underlying3 h
 injection h0 with h0
 exact ⟨e,h0,h2⟩
theorem one_string {base n:Nat} {sp:Nat→Bool} {held:Bool} {v:Value} {y:DataW H × List MemPlace} (h:DataW.trod enc Tryz.prog W base sp held n 9 [v]=some y):∃s:ByteArray,v=.string s∧s.size≤maxLen:=by
 obtain ⟨s,h0,_,h2⟩:=DataW.trod_string Tryz.underlying9 h
 injection h0 with h0
 exact ⟨s,h0,h2⟩
end
end Go.Proofs.YthchfkhpmgkghaaGreatDoor
namespace Go.Proofs.YthchfkhpmgkghaaGreatDoor
open Go.RowKit Go.WideShapes Go.ChangeShapes Go.ChangeAt Go.WideMaps Go.WideElems Go.Joins Go.Deep
section
variable {H:Type} {enc:TypeId × Value→H} {W:World}
def AtmOk (a:Atm):Prop:=a.n.size≤maxLen∧(Lit.int .i64 a.o).wf=true∧a.v.size≤maxLen
theorem cells_atm:Tryz.prog.cellsOf 62=3:=by kernel_rfl
theorem cells_grp:Tryz.prog.cellsOf 68=1:=by kernel_rfl
theorem trod_atm {base n:Nat} {sp:Nat→Bool} {held:Bool} {cs:List Value} {y:DataW H × List MemPlace} (h:DataW.trod enc Tryz.prog W base sp held n 62 cs=some y):∃x:Atm,cs=x.cells∧AtmOk x:=by
 obtain ⟨y0,y1,y2,m,_,hl,h0,h1,h2⟩:=trod_struct3 Tryz.underlying62 h
 rw [cells_atm] at hl
 rcases cs with _|⟨c0,_|⟨c1,_|⟨c2,_|⟨c3,cs⟩⟩⟩⟩
 ·simp at hl
 ·simp at hl
 ·simp at hl
 ·have e0:DataW.trod enc Tryz.prog W base sp held m 9 [c0]=some y0:=h0
  have e1:DataW.trod enc Tryz.prog W base sp held m 3 [c1]=some y1:=h1
  have e2:DataW.trod enc Tryz.prog W base sp held m 9 [c2]=some y2:=h2
  obtain ⟨u,rfl,wu⟩:=one_string e0
  obtain ⟨e,rfl,we⟩:=one_int e1
  obtain ⟨r,rfl,wr⟩:=one_string e2
  exact ⟨⟨u,e,r⟩,rfl,wu,we,wr⟩
 ·simp at hl
theorem open_atoms_trod {base n:Nat} {sp:Nat→Bool} {held:Bool} {t:TypeId} {cs:List Value} {y:DataW H × List MemPlace} (ht:Tryz.prog.underlying t=some (.slice 62)) (h:DataW.trod enc Tryz.prog W base sp held n t cs=some y) :
  ∃A len c l,cs=[.slice A len c]∧rdAtms W (lt_ W.heap.size) l [.slice A len c]∧(∀a ∈ l,AtmOk a):=by
 rcases open_slice ht h with ⟨rfl,_⟩|⟨a,len,cap,m,k,D,Pl,rfl,hb,hl,hm,hmm,_,hx⟩
 ·exact ⟨none,0,0,[],rfl,rdRow_nil _ _,by simp⟩
 ·have hlm:len≤m:=by rw [hmm];split<;>omega
  have hat:∀i,i < len→∃x:Atm,AtmOk x∧a.block < W.heap.size∧∀j u,x.cells[j]?=some u→W.cell? (a.add (i*3+j))=some u:=by
   intro i hi
   obtain ⟨cs',hc,ht'⟩:=hx i (by omega)
   rw [cells_atm] at hc
   obtain ⟨x,rfl,hok⟩:=trod_atm ht'
   obtain ⟨_,hcl,hcell⟩:=World.cells?_some hc
   have key:∀j u,x.cells[j]?=some u→W.cell? (a.add (i*3+j))=some u:=fun j u hu=>by
    have hj:j < 3:=by have:=(List.getElem?_eq_some_iff.1 hu).1;simpa [Atm.cells] using this
    have:=hcell j hj
    rw [hu] at this
    rw [←this]
    congr 1
    unfold Addr.add
    by_cases h1:i*3=0<;>by_cases h2:j=0<;>simp [h1,h2,Nat.add_assoc]
   have hb':=World.block_lt_of_cell? _ _ (key 0 _ rfl)
   rw [blk_add] at hb'
   exact ⟨x,hok,hb',key⟩
  refine ⟨some a,len,cap,List.ofFn fun i:Fin len=>Classical.choose (hat i.1 i.2),rfl,⟨some a,cap,by simp,by simpa using hl,hm,fun i hi=>?_⟩,fun x hx=>?_⟩
  ·simp only [List.length_ofFn] at hi
   have hs:=Classical.choose_spec (hat i hi)
   refine ⟨a,_,rfl,hs.2.1,?_,?_,hs.2.2⟩
   ·show _=Atm.cells _
    rw [List.getElem_ofFn]
   ·rfl
  ·obtain ⟨i,hi⟩:=List.mem_ofFn.1 hx
   rw [←hi];exact (Classical.choose_spec (hat i.1 i.2)).1
end
section
variable {H:Type} {enc:TypeId × Value→H} {W:World}
def EntOk (x:Ent):Prop:=x.n.size≤maxLen∧x.v.size≤maxLen∧(∀g ∈ x.d,∀a ∈ g,AtmOk a)∧(∀g ∈ x.r,∀a ∈ g,AtmOk a)∧(∀a ∈ x.c,AtmOk a)∧(∀a ∈ x.p,AtmOk a)
theorem cells_ent:Tryz.prog.cellsOf 67=6:=by kernel_rfl
theorem open_grps_trod {base n:Nat} {sp:Nat→Bool} {held:Bool} {t:TypeId} {cs:List Value} {y:DataW H × List MemPlace} (ht:Tryz.prog.underlying t=some (.slice 68)) (hf:DataW.trod enc Tryz.prog W base sp held n t cs=some y) :
  ∃A len c L,cs=[.slice A len c]∧rdGrps W (lt_ W.heap.size) L [.slice A len c]∧(∀g ∈ L,∀a ∈ g,AtmOk a):=by
 rcases open_slice ht hf with ⟨rfl,_⟩|⟨a,len,cap,m,k,D,Pl,rfl,hb,hl,hm,hmm,_,hx⟩
 ·exact ⟨none,0,0,[],rfl,rdRow_nil _ _,by simp⟩
 ·have hlm:len≤m:=by rw [hmm];split<;>omega
  have hat:∀i,i < len→∃(g:List Atm) (u:Value),(∀x ∈ g,AtmOk x)∧a.block < W.heap.size∧rdAtms W (lt_ W.heap.size) g [u]∧W.cell? (a.add (i*1+0))=some u:=by
   intro i hi
   obtain ⟨cs',hc,ht'⟩:=hx i (by omega)
   rw [cells_grp] at hc
   obtain ⟨A,n,c,l,rfl,h1,h2⟩:=open_atoms_trod Tryz.underlying68 ht'
   obtain ⟨_,hcl,hcell⟩:=World.cells?_some hc
   have h0:=hcell 0 (by omega)
   have hadd:((a.add (i*1)).add 0)=a.add (i*1+0):=by unfold Addr.add;simp
   rw [hadd] at h0
   have hb':=World.block_lt_of_cell? W (a.add (i*1+0)) h0
   rw [blk_add] at hb'
   exact ⟨l,_,h2,hb',h1,h0⟩
  refine ⟨some a,len,cap,List.ofFn fun i:Fin len=>Classical.choose (hat i.1 i.2),rfl,⟨some a,cap,by simp,by simpa using hl,hm,fun i hi=>?_⟩,fun g hg=>?_⟩
  ·simp only [List.length_ofFn] at hi
   have hs:=Classical.choose_spec (Classical.choose_spec (hat i hi))
   refine ⟨a,[Classical.choose (Classical.choose_spec (hat i hi))],rfl,hs.2.1,?_,rfl,fun j u hu=>?_⟩
   ·rw [List.getElem_ofFn];exact hs.2.2.1
   ·have hj:j=0:=by have:=(List.getElem?_eq_some_iff.1 hu).1;simpa using this
    subst hj
    simp only [List.getElem?_cons_zero,Option.some.injEq] at hu
    rw [←hu];exact hs.2.2.2
  ·obtain ⟨i,hi⟩:=List.mem_ofFn.1 hg
   rw [←hi];exact (Classical.choose_spec (Classical.choose_spec (hat i.1 i.2))).1
theorem trod_ent {base n:Nat} {sp:Nat→Bool} {held:Bool} {cs:List Value} {y:DataW H × List MemPlace} (h:DataW.trod enc Tryz.prog W base sp held n 67 cs=some y):∃x:Ent,rdEnt W (lt_ W.heap.size) x cs∧EntOk x:=by
 obtain ⟨xs,m,_,rfl,hl,hlen,hf⟩:=DataW.trod_struct Tryz.underlying67 h
 rw [cells_ent] at hl
 rcases cs with _|⟨c0,_|⟨c1,_|⟨c2,_|⟨c3,_|⟨c4,_|⟨c5,_|⟨c6,cs⟩⟩⟩⟩⟩⟩⟩
 ·simp at hl
 ·simp at hl
 ·simp at hl
 ·simp at hl
 ·simp at hl
 ·simp at hl
 ·rcases xs with _|⟨y0,_|⟨y1,_|⟨y2,_|⟨y3,_|⟨y4,_|⟨y5,_|⟨y6,xs⟩⟩⟩⟩⟩⟩⟩
  ·simp at hlen
  ·simp at hlen
  ·simp at hlen
  ·simp at hlen
  ·simp at hlen
  ·simp at hlen
  ·have e0:DataW.trod enc Tryz.prog W base sp held m 9 [c0]=some y0:=hf 0 _ rfl
   have e1:DataW.trod enc Tryz.prog W base sp held m 9 [c1]=some y1:=hf 1 _ rfl
   have e2:DataW.trod enc Tryz.prog W base sp held m 65 [c2]=some y2:=hf 2 _ rfl
   have e3:DataW.trod enc Tryz.prog W base sp held m 65 [c3]=some y3:=hf 3 _ rfl
   have e4:DataW.trod enc Tryz.prog W base sp held m 24 [c4]=some y4:=hf 4 _ rfl
   have e5:DataW.trod enc Tryz.prog W base sp held m 24 [c5]=some y5:=hf 5 _ rfl
   obtain ⟨n,rfl,wn⟩:=one_string e0
   obtain ⟨v,rfl,wv⟩:=one_string e1
   obtain ⟨A1,n1,k1,d,h1,r1,o1⟩:=open_grps_trod Tryz.underlying65 e2
   obtain ⟨A2,n2,k2,r,h2,r2,o2⟩:=open_grps_trod Tryz.underlying65 e3
   obtain ⟨A3,n3,k3,c,h3,r3,o3⟩:=open_atoms_trod Tryz.underlying24 e4
   obtain ⟨A4,n4,k4,p,h4,r4,o4⟩:=open_atoms_trod Tryz.underlying24 e5
   simp only [List.cons.injEq,and_true] at h1 h2 h3 h4
   subst h1
   subst h2
   subst h3
   subst h4
   exact ⟨⟨n,v,d,r,c,p⟩,⟨_,_,_,_,rfl,r1,r2,r3,r4⟩,wn,wv,o1,o2,o3,o4⟩
  ·simp at hlen
 ·simp at hl
theorem open_ents_arg {v:Value} {d:DataW H} {p:List MemPlace} {base:Nat} (hv:Value.okWide Tryz.prog W .any base 22 v) (h:DataW.Trod enc Tryz.prog W 0 (fun _=>true) true 22 v d p) :
  ∃A n c l,v=.slice A n c∧rdEnts W (lt_ W.heap.size) l [.slice A n c]∧(∀x ∈ l,EntOk x):=by
 obtain ⟨a0,len0,cap0,rfl⟩:=okWide_slice Tryz.underlying22 hv
 obtain ⟨fuel,hf⟩:=h
 rcases open_slice Tryz.underlying22 hf with ⟨hcs,_⟩|⟨a,len,cap,m,k,D,Pl,hcs,hb,hl,hm,hmm,_,hx⟩
 ·simp [Value.cells] at hcs
  obtain ⟨rfl,rfl,rfl⟩:=hcs
  exact ⟨none,0,0,[],rfl,rdRow_nil _ _,by simp⟩
 ·simp [Value.cells] at hcs
  obtain ⟨rfl,rfl,rfl⟩:=hcs
  have hlm:len0≤m:=by rw [hmm];split<;>omega
  have hat:∀i,i < len0→∃(x:Ent) (es:List Value),EntOk x∧a.block < W.heap.size∧rdEnt W (lt_ W.heap.size) x es∧es.length=6∧∀j u,es[j]?=some u→W.cell? (a.add (i*6+j))=some u:=by
   intro i hi
   obtain ⟨cs',hc,ht'⟩:=hx i (by omega)
   rw [cells_ent] at hc
   obtain ⟨x,hrd,hok⟩:=trod_ent ht'
   obtain ⟨_,hcl,hcell⟩:=World.cells?_some hc
   have hlen:=rdEnt_good.len hrd
   have key:∀j u,cs'[j]?=some u→W.cell? (a.add (i*6+j))=some u:=fun j u hu=>by
    have hj:j < 6:=by have:=(List.getElem?_eq_some_iff.1 hu).1;omega
    have:=hcell j hj
    rw [hu] at this
    rw [←this]
    congr 1
    unfold Addr.add
    by_cases h1:i*6=0<;>by_cases h2:j=0<;>simp [h1,h2,Nat.add_assoc]
   have hb':=World.block_lt_of_cell? _ _ (key 0 _ (List.getElem?_eq_getElem (by omega)))
   rw [blk_add] at hb'
   exact ⟨x,cs',hok,hb',hrd,hlen,key⟩
  refine ⟨some a,len0,cap0,List.ofFn fun i:Fin len0=>Classical.choose (hat i.1 i.2),rfl,⟨some a,cap0,by simp,by simpa using hl,hm,fun i hi=>?_⟩,fun x hx=>?_⟩
  ·simp only [List.length_ofFn] at hi
   have hs:=Classical.choose_spec (Classical.choose_spec (hat i hi))
   refine ⟨a,Classical.choose (Classical.choose_spec (hat i hi)),rfl,hs.2.1,?_,hs.2.2.2.1,hs.2.2.2.2⟩
   rw [List.getElem_ofFn];exact hs.2.2.1
  ·obtain ⟨i,hi⟩:=List.mem_ofFn.1 hx
   rw [←hi];exact (Classical.choose_spec (Classical.choose_spec (hat i.1 i.2))).1
end
section
variable {H:Type} {enc:TypeId × Value→H} {W:World}
def HrOk (x:Hr):Prop:=EntOk x.e
theorem cells_here:Tryz.prog.cellsOf 78=8:=by kernel_rfl
theorem trod_here {base n:Nat} {sp:Nat→Bool} {held:Bool} {cs:List Value} {y:DataW H × List MemPlace} (h:DataW.trod enc Tryz.prog W base sp held n 78 cs=some y):∃x:Hr,rdHr W (lt_ W.heap.size) x cs∧HrOk x:=by
 obtain ⟨xs,m,_,rfl,hl,hlen,hf⟩:=DataW.trod_struct Tryz.underlying78 h
 rw [cells_here] at hl
 rcases cs with _|⟨c0,_|⟨c1,_|⟨c2,_|⟨c3,_|⟨c4,_|⟨c5,_|⟨c6,_|⟨c7,_|⟨c8,cs⟩⟩⟩⟩⟩⟩⟩⟩⟩
 ·simp at hl
 ·simp at hl
 ·simp at hl
 ·simp at hl
 ·simp at hl
 ·simp at hl
 ·simp at hl
 ·simp at hl
 ·rcases xs with _|⟨y0,_|⟨y1,_|⟨y2,_|⟨y3,xs⟩⟩⟩⟩
  ·simp at hlen
  ·simp at hlen
  ·simp at hlen
  ·have e0:DataW.trod enc Tryz.prog W base sp held m 67 [c0,c1,c2,c3,c4,c5]=some y0:=hf 0 _ rfl
   have e1:DataW.trod enc Tryz.prog W base sp held m 4 [c6]=some y1:=hf 1 _ rfl
   have e2:DataW.trod enc Tryz.prog W base sp held m 4 [c7]=some y2:=hf 2 _ rfl
   obtain ⟨x,hx,ok⟩:=trod_ent e0
   obtain ⟨b1,h1,-⟩:=DataW.trod_bool Tryz.underlying4 e1
   obtain ⟨b2,h2,-⟩:=DataW.trod_bool Tryz.underlying4 e2
   simp only [List.cons.injEq,and_true] at h1 h2
   subst h1
   subst h2
   exact ⟨⟨x,b1,b2⟩,⟨_,rfl,hx⟩,ok⟩
  ·simp at hlen
 ·simp at hl
theorem open_heres_arg {v:Value} {d:DataW H} {p:List MemPlace} {base:Nat} (hv:Value.okWide Tryz.prog W .any base 23 v) (h:DataW.Trod enc Tryz.prog W 0 (fun _=>true) true 23 v d p) :
  ∃A n c l,v=.slice A n c∧rdHrs W (lt_ W.heap.size) l [.slice A n c]∧(∀x ∈ l,HrOk x):=by
 obtain ⟨a0,len0,cap0,rfl⟩:=okWide_slice Tryz.underlying23 hv
 obtain ⟨fuel,hf⟩:=h
 rcases open_slice Tryz.underlying23 hf with ⟨hcs,_⟩|⟨a,len,cap,m,k,D,Pl,hcs,hb,hl,hm,hmm,_,hx⟩
 ·simp [Value.cells] at hcs
  obtain ⟨rfl,rfl,rfl⟩:=hcs
  exact ⟨none,0,0,[],rfl,rdRow_nil _ _,by simp⟩
 ·simp [Value.cells] at hcs
  obtain ⟨rfl,rfl,rfl⟩:=hcs
  have hlm:len0≤m:=by rw [hmm];split<;>omega
  have hat:∀i,i < len0→∃(x:Hr) (es:List Value),HrOk x∧a.block < W.heap.size∧rdHr W (lt_ W.heap.size) x es∧es.length=8∧∀j u,es[j]?=some u→W.cell? (a.add (i*8+j))=some u:=by
   intro i hi
   obtain ⟨cs',hc,ht'⟩:=hx i (by omega)
   rw [cells_here] at hc
   obtain ⟨x,hrd,hok⟩:=trod_here ht'
   obtain ⟨_,hcl,hcell⟩:=World.cells?_some hc
   have hlen:=rdHr_good.len hrd
   have key:∀j u,cs'[j]?=some u→W.cell? (a.add (i*8+j))=some u:=fun j u hu=>by
    have hj:j < 8:=by have:=(List.getElem?_eq_some_iff.1 hu).1;omega
    have:=hcell j hj
    rw [hu] at this
    rw [←this]
    congr 1
    unfold Addr.add
    by_cases h1:i*8=0<;>by_cases h2:j=0<;>simp [h1,h2,Nat.add_assoc]
   have hb':=World.block_lt_of_cell? _ _ (key 0 _ (List.getElem?_eq_getElem (by omega)))
   rw [blk_add] at hb'
   exact ⟨x,cs',hok,hb',hrd,hlen,key⟩
  refine ⟨some a,len0,cap0,List.ofFn fun i:Fin len0=>Classical.choose (hat i.1 i.2),rfl,⟨some a,cap0,by simp,by simpa using hl,hm,fun i hi=>?_⟩,fun x hx=>?_⟩
  ·simp only [List.length_ofFn] at hi
   have hs:=Classical.choose_spec (Classical.choose_spec (hat i hi))
   refine ⟨a,Classical.choose (Classical.choose_spec (hat i hi)),rfl,hs.2.1,?_,hs.2.2.2.1,hs.2.2.2.2⟩
   rw [List.getElem_ofFn];exact hs.2.2.1
  ·obtain ⟨i,hi⟩:=List.mem_ofFn.1 hx
   rw [←hi];exact (Classical.choose_spec (Classical.choose_spec (hat i.1 i.2))).1
end
section
variable {H:Type} {enc:TypeId × Value→H} {W:World}
theorem open_ints10_arg {v:Value} {d:DataW H} {p:List MemPlace} {base:Nat} (hv:Value.okWide Tryz.prog W .any base 27 v) (h:DataW.Trod enc Tryz.prog W 0 (fun _=>true) true 27 v d p) :
  ∃A n c l,v=.slice A n c∧rdInts W (lt_ W.heap.size) l [.slice A n c]∧(∀x ∈ l,(Lit.int .i64 x).wf=true):=by
 obtain ⟨a0,len,cap,rfl⟩:=okWide_slice Tryz.underlying27 hv
 obtain ⟨fuel,hf⟩:=h
 rcases open_ints Tryz.underlying27 Tryz.underlying3 (by kernel_rfl) hf with ⟨hcs,hx⟩|⟨a,len',cap',zs,hcs,_,hl,hm,hz,hx,hcell,hwz⟩
 ·simp [Value.cells] at hcs
  obtain ⟨rfl,rfl,rfl⟩:=hcs
  exact ⟨none,0,0,[],rfl,rdRow_nil _ _,by simp⟩
 ·simp [Value.cells] at hcs
  obtain ⟨rfl,rfl,rfl⟩:=hcs
  have hlz:len≤zs.length:=by rw [hz];split<;>omega
  refine ⟨some a,len,cap,zs.take len,rfl,⟨some a,cap,by rw [List.length_take,Nat.min_eq_left hlz],by rw [List.length_take];omega,hm,fun k hk=>?_⟩,fun x hx=>hwz x (List.mem_of_mem_take hx)⟩
  rw [List.length_take,Nat.min_eq_left hlz] at hk
  have hc:=hcell k (by omega)
  have hb:=World.block_lt_of_cell? W (a.add k) hc
  rw [blk_add] at hb
  refine ⟨a,[.int .i64 (zs.take len)[k]],rfl,hb,rfl,rfl,fun j u hu=>?_⟩
  have hj:j=0:=by have:=(List.getElem?_eq_some_iff.1 hu).1;simpa using this
  subst hj
  simp only [List.getElem?_cons_zero,Option.some.injEq] at hu
  rw [←hu,List.getElem_take,Nat.mul_one,Nat.add_zero,hc]
  simp [List.getElem?_eq_getElem (show k < zs.length by omega)]
end
end Go.Proofs.YthchfkhpmgkghaaGreatDoor
namespace Go.Proofs.YthchfkhpmgkghaaGreatDoor
def strTab {H:Type} (zs:List (List UInt8)):DataW H:=.agg (zs.map fun z=>.lit (.string z))
theorem cells_of_strs {H:Type} {enc:TypeId × Value→H} {P:Program} {w:World} {base:Nat} {sp:Nat→Bool} {held:Bool} {fuel:Nat} {t e:TypeId} {n:Nat} {cs:List Value} {zs:List (List UInt8)} {p:List MemPlace}
  (ht:P.underlying t=some (.array n e)) (he:P.underlying e=some .string) (hce:P.cellsOf e=1) (hct:P.cellsOf t=n)
  (h:DataW.trod enc P w base sp held fuel t cs=some (strTab zs,p)):cs=zs.map fun z=>Value.string ⟨z.toArray⟩:=by
 cases fuel with
 | zero=>simp [DataW.trod] at h
 | succ fuel=>
  simp only [DataW.trod,ht,hce,hct,Nat.mul_one] at h
  split at h
  ·rename_i hl
   obtain ⟨xs,hm,hx⟩:=Option.map_eq_some_iff.1 h
   have hxs:xs.map (·.1)=zs.map fun z=>(DataW.lit (.string z):DataW H):=by
    have:=congrArg Prod.fst hx
    simpa [strTab] using this
   have hxl:xs.length=n:=by simpa using Lib.mapM_length hm
   have hzl:zs.length=n:=by
    have:=congrArg List.length hxs
    simp at this
    omega
   apply List.ext_getElem?
   intro i
   by_cases hi:i < n
   ·obtain ⟨b,hb,hf⟩:=Lib.mapM_at hm i i (by simp [hi])
    obtain ⟨z,hc,rfl,_⟩:=DataW.trod_string he hf
    have h1:cs[i]?=some (.string z):=by
     have:=congrArg (·[0]?) hc
     simpa [List.getElem?_take,List.getElem?_drop] using this
    have h2:(xs.map (·.1))[i]?=some (DataW.lit (.string z.data.toList):DataW H):=by simp [hb]
    rw [hxs] at h2
    simp only [List.getElem?_map,Option.map_eq_some_iff,DataW.lit.injEq,Lit.string.injEq] at h2
    obtain ⟨z',hz',e'⟩:=h2
    rw [h1,List.getElem?_map,hz',e']
    rfl
   ·rw [List.getElem?_eq_none (by omega),List.getElem?_eq_none (by simp;omega)]
  ·cases h
theorem strs_of_head {P:Program} {W:World} {name:String} {zs:List (List UInt8)} {rest:List (String × DataW Unit)} {g:Nat} {t e:TypeId} {n:Nat}
  (hg:P.globalNamed name=some g) (hty:(P.globals[g]?).map (·.type)=some t) (ht:P.underlying t=some (.array n e)) (he:P.underlying e=some .string) (hce:P.cellsOf e=1) (hct:P.cellsOf t=n)
  (h:laidMet P ((name,strTab zs)::rest) W) (i:Nat) (z:List UInt8) (hi:zs[i]?=some z):W.cell? ⟨g,i,none⟩=some (.string ⟨z.toArray⟩):=by
 obtain ⟨ps,⟨g',t',cs,fuel,p,q,hg',ht',hvar,hd,_,_⟩,_⟩:=h
 obtain rfl:=Option.some.inj (hg.symm.trans hg')
 obtain rfl:=Option.some.inj (hty.symm.trans ht')
 have hz:W.var? P name=some (zs.map fun z=>Value.string ⟨z.toArray⟩).toArray:=by
  rw [hvar,←cells_of_strs ht he hce hct hd]
 have:=World.var?_cell hg hz i
 simpa [hi] using this
end Go.Proofs.YthchfkhpmgkghaaGreatDoor
namespace Go.Proofs.YthchfkhpmgkghaaGreatDoor
open Go.RowKit Go.WideShapes Go.ChangeShapes Go.ChangeAt
section
variable {H:Type} {enc:TypeId × Value→H} {P:Program}
end
theorem laid_out:laidOutB Tryz.prog=true:=by kernel_rfl
section
variable {H:Type} {enc:TypeId × Value→H} {P:Program}
theorem trodAll_below {W W':World} (hl:laidOutB P=true) (hb:Below W.heap.size W W'):∀{ts:List TypeId} {vs:List Value} {ds:List (DataW H)} {ps:List MemPlace},(∀t ∈ ts,P.readableRec t=true∧t < P.types.size)→
  DataW.TrodAll enc P W 0 (fun _=>true) true ts vs ds ps→(∀x ∈ ps,x.block < W.heap.size)→DataW.TrodAll enc P W' 0 (fun b=>decide (b < W.heap.size)) true ts vs ds ps
 | [],[],[],_,_,h,_=>h
 | t::ts,v::vs,d::ds,ps,hts,h,hlt=>by
  obtain ⟨p,q,h1,h2,rfl⟩:=h
  refine ⟨p,q,Below.trod hl (hts t (by simp)).1 (hts t (by simp)).2 h1 hb (fun x hx=>hlt x (by simp [hx])),trodAll_below hl hb (fun t ht=>hts t (by simp [ht])) h2 (fun x hx=>hlt x (by simp [hx])),rfl⟩
 | [],[],_::_,_,_,h,_=>h.elim
 | [],_::_,_,_,_,h,_=>h.elim
 | _::_,[],_,_,_,h,_=>h.elim
 | _::_,_::_,[],_,_,h,_=>h.elim
theorem law_post {f:Func} {s:ChangeSpec} {W W':World} {args:Array Value} {ds gs:List (DataW H)} {before:List MemPlace} {b:TypeId} {apart:Bool}
  (hW:DataW.Whole enc P f.params.toList s.vars apart W args.toList ds gs before) (hv:s.vars=[])
  (h1:(s.fn H ds).results=[.lit (.bool true)]) (h2:(s.fn H ds).args=ds) (h3:(s.fn H ds).vars=[])
  (hrt:f.resultTypes=#[b]) (hbool:P.underlying b=some .bool) (hl:laidOutB P=true) (hts:∀t ∈ f.params.toList,P.readableRec t=true∧t < P.types.size)
  (hb:Below W.heap.size W W'):s.post enc P f apart true false false W args (.bool true) W':=by
 have hW':=hW
 have hlt0:=hW.lt
 obtain ⟨p,q,hA,hV,rfl,hz,hn⟩:=hW
 rw [hv] at hV
 obtain ⟨rfl,rfl⟩:=trodVars_none hV
 refine ⟨ds,[],p++[],[],p,[],hW',?_,?_,?_,hb.frame _,fun h=>by cases h⟩
 ·rw [List.append_nil,h1,hrt]
  exact trodAll_cons_mk (shut_bool hbool _) trodAll_mk0
 ·rw [List.append_nil,h2]
  exact trodAll_below hl hb hts hA (fun x hx=>hlt0 x (by simp [hx]))
 ·rw [hv,List.append_nil,h3];rfl
end
end Go.Proofs.YthchfkhpmgkghaaGreatDoor
