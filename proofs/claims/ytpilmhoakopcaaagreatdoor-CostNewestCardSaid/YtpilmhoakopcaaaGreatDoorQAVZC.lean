/- What the laws rest on: N11f, E11s, N9n, N11g. -/
import Derived.Test.YtpilmhoakopcaaaGreatDoorQAUZC
set_option maxRecDepth 100000
set_option linter.unusedVariables false
set_option linter.unusedSimpArgs false
namespace Go.Proofs.YtpilmhoakopcaaaGreatDoor
open Go.RowKit
def s2K (U:List Ent) (here:List Int) (pn:List Pn) (up:Bool) (l:List Int) (k:Nat):Int:=((l.take k).map (w2P U here pn up)).sum
def s4K (U:List Ent) (here:List Int) (l:List Int) (k:Nat):Int:=((l.take k).map (w4P U here)).sum
theorem s2K_step {U:List Ent} {here:List Int} {pn:List Pn} {up:Bool} {l:List Int} {k:Nat} (h:k < l.length):s2K U here pn up l (k+1)=s2K U here pn up l k+w2P U here pn up l[k]:=sum_take h
theorem s4K_step {U:List Ent} {here:List Int} {l:List Int} {k:Nat} (h:k < l.length):s4K U here l (k+1)=s4K U here l k+w4P U here l[k]:=sum_take h
theorem s2K_le {U:List Ent} {here:List Int} {pn:List Pn} {up:Bool} (hU:U.length≤200) {l:List Int} (hl:l.length≤1000) (k:Nat):0≤s2K U here pn up l k∧s2K U here pn up l k≤201000:=by
 have:=sum_up (f:=w2P U here pn up) (M:=201) (l:=l.take k) fun x _=>⟨(w2_le U here pn up x).1,by have:=(w2_le U here pn up x).2;omega⟩
 have h2:(l.take k).length≤l.length:=by rw [List.length_take];omega
 have h3:(l.take k).length*201≤1000*201:=Nat.mul_le_mul_right _ (by omega)
 unfold s2K;omega
theorem s4K_le {U:List Ent} {here:List Int} {l:List Int} (hl:l.length≤1000) (k:Nat):0≤s4K U here l k∧s4K U here l k≤1000:=by
 have:=sum_up (f:=w4P U here) (M:=1) (l:=l.take k) fun x _=>w4_le U here x
 have h2:(l.take k).length≤l.length:=by rw [List.length_take];omega
 unfold s4K;omega
theorem ofC_prog {U:List Ent} {here:List Int} {pn:List Pn} {up:Bool} {l:List Int}:ofC U here pn up l=⟨(a0K U here l here.length:Nat),b1K U pn l l.length,if up=true then s2K U here pn up l l.length else (a2K U here l false here.length:Nat),(wnS U l l:Int),s4K U here l l.length⟩:=by
 unfold ofC a0K b1K s2K s4K a2K c0S c1S c2S
 rw [List.take_length,List.take_length,w4_sum]
 cases up
 ·rfl
 ·rfl
set_option maxHeartbeats 32000000 in
theorem cof_any (b:Nat) (U:List Ent) (m:List Hr) (A:Option Addr) (np c:Nat) (pn:List Pn) (up:Bool) (Al:Option Addr) (nl cl:Nat) (l:List Int) (w:World) (h:UQ w b U m) (hk:UK U m) (hpn:rdPns w (lt_ w.heap.size) pn [.slice A np c]) (hl:rdInts w (lt_ w.heap.size) l [.slice Al nl cl]) (hn:l.length≤1000) (E:EnvR w) :
  Calls Tryz.prog 15 #[.pointer (some ⟨b,0,none⟩),.slice A np c,.bool up,.slice Al nl cl] w fun e w'=>e=.returned (.tuple #[(ofA U (insU U m) pn up l).val,.int .i64 (ofE U pn l)])∧Below w.heap.size w w':=by
 obtain ⟨W0,hW0⟩:∃W,W=w.alloc (.cells #[.int .i64 0,.int .i64 0,.int .i64 0,.int .i64 0,.int .i64 0] 39):=⟨_,rfl⟩
 have b0:Below w.heap.size w W0:=by rw [hW0];exact (Below.refl _ w).alloc (Nat.le_refl _) _
 have z0:W0.heap[w.heap.size]?=some (.cells #[.int .i64 0,.int .i64 0,.int .i64 0,.int .i64 0,.int .i64 0] 39 (0,0)):=by rw [hW0];exact heap_alloc_new w _
 have K0:=Lib.hid (vset_any b U m Al nl cl l W0 (h.up.below b0) (rdInts_good.up (rdInts_good.below hl b0) b0.size))
 have KW:=Lib.hid (fun (W:World) (hb:Below w.heap.size w W)=>cwgt_any b U m A np c pn up W (h.below hb) (rdPns_good.up (rdPns_good.below hpn hb) hb.size) hk.ins hk.one hk.uf.nm)
 have KT:=Lib.hid (fun (hs:SetP U.length l) (W:World) (hb:Below w.heap.size w W)=>cturned_any b U m Al nl cl l W (h.below hb) (rdInts_good.up (rdInts_good.below hl hb) hb.size) hs hk.ins hk.uf.nm)
 have KN:=Lib.hid (fun (W:World) (hb:Below w.heap.size w W)=>cwant_any b U m Al nl cl l W (h.below hb) (rdInts_good.up (rdInts_good.below hl hb) hb.size) hn hk.rc hk.rz (E.below hb))
 obtain ⟨rfl,hlc,hlm,-⟩:=rdInts_at hl
 have hlm':cl≤9223372036854775807:=hlm
 have HL:=Lib.hid (fun (W:World) (hb:Below w.heap.size w W)=>(rdInts_at (rdInts_good.up (rdInts_good.below hl hb) hb.size)).2.2.2)
 have UL:=Lib.hid h.len
 clear h hk hpn hl hlm E
 generalize insU U m=here at *
 have B0:=Lib.hid b0
 have Z0:=Lib.hid z0
 go_enter Tryz.func15,Tryz.ntmps15
 go_upto_region 1 with fail
 rw [←hW0]
 clear hW0 b0 z0
 go_wp2_with fail
 refine K0.out.mono ?_
 rintro e w1 ⟨rfl,rfl⟩
 clear K0
 by_cases hset:setB U.length l=true
 rotate_left
 ·have XA:=Lib.hid (show ofA U here pn up l=zC by unfold ofA;rw [if_neg fun q=>hset q.1])
  have XE:=Lib.hid (show ofE U pn l=1 by unfold ofE;rw [if_neg fun q=>hset q.1])
  rw [Bool.not_eq_true] at hset
  rw [hset]
  clear KW KT KN HL hset
  obtain ⟨V,hV,d0,d1,d2,d3,d4,bV⟩:=fin5 (y:=zC) B0.out (Nat.le_refl _) Z0.out
  have r0:=blk5_cell Z0.out 0
  have r1:=blk5_cell Z0.out 1
  have r2:=blk5_cell Z0.out 2
  have r3:=blk5_cell Z0.out 3
  have r4:=blk5_cell Z0.out 4
  have fr0:=blk5_frozen Z0.out 0
  have fr1:=blk5_frozen Z0.out 1
  have fr2:=blk5_frozen Z0.out 2
  have fr3:=blk5_frozen Z0.out 3
  have fr4:=blk5_frozen Z0.out 4
  simp only [zC] at hV d0 d1 d2 d3 d4
  simp at r0 r1 r2 r3 r4
  go_wp2
  rw [←hV]
  clear hV r0 r1 r2 r3 r4 fr0 fr1 fr2 fr3 fr4
  exact bodyPost_ret (v:=.tuple #[.agg #[.int .i64 0,.int .i64 0,.int .i64 0,.int .i64 0,.int .i64 0],.int .i64 1]) (by simp [results,Tryz.results15,go_sem,d0,d1,d2,d3,d4]) rfl ⟨by rw [XA.out,XE.out];rfl,bV⟩
 have SP:SetP U.length l:=of_decide_eq_true hset
 have KT:=Lib.hid (KT.out SP)
 have SL:=Lib.hid SP.1
 have XW:=Lib.hid (wnt_set hset)
 rw [hset]
 go_wp2_with fail
 refine (KW.out W0 B0.out).mono ?_
 rintro e w2 ⟨⟨Aw,cw,rfl,hrw⟩,hb⟩
 have B2:=Lib.hid (bel_in B0.out hb)
 have Z2:=Lib.hid ((hb.block _ (show w.heap.size < W0.heap.size from lt_of_heap Z0.out)).trans Z0.out)
 by_cases hrt:pn.all rgtN=true
 rotate_left
 ·have XA:=Lib.hid (show ofA U here pn up l=zC by unfold ofA;rw [if_neg fun q=>hrt q.2])
  have XE:=Lib.hid (show ofE U pn l=1 by unfold ofE;rw [if_neg fun q=>hrt q.2])
  have XG:=Lib.hid (show wgE pn=1 by unfold wgE;rw [if_neg hrt])
  rw [XG.out]
  clear KW KT KN HL hset hrw hb hrt
  generalize (wgA U here pn up).length=nw at *
  obtain ⟨V,hV,d0,d1,d2,d3,d4,bV⟩:=fin5 (y:=zC) B2.out (Nat.le_refl _) Z2.out
  have r0:=blk5_cell Z2.out 0
  have r1:=blk5_cell Z2.out 1
  have r2:=blk5_cell Z2.out 2
  have r3:=blk5_cell Z2.out 3
  have r4:=blk5_cell Z2.out 4
  have fr0:=blk5_frozen Z2.out 0
  have fr1:=blk5_frozen Z2.out 1
  have fr2:=blk5_frozen Z2.out 2
  have fr3:=blk5_frozen Z2.out 3
  have fr4:=blk5_frozen Z2.out 4
  simp only [zC] at hV d0 d1 d2 d3 d4
  simp at r0 r1 r2 r3 r4
  go_wp2
  rw [←hV]
  clear hV r0 r1 r2 r3 r4 fr0 fr1 fr2 fr3 fr4
  exact bodyPost_ret (v:=.tuple #[.agg #[.int .i64 0,.int .i64 0,.int .i64 0,.int .i64 0,.int .i64 0],.int .i64 1]) (by simp [results,Tryz.results15,go_sem,d0,d1,d2,d3,d4]) rfl ⟨by rw [XA.out,XE.out];rfl,bV⟩
 have XA:=Lib.hid (show ofA U here pn up l=ofC U here pn up l by unfold ofA;rw [if_pos ⟨hset,hrt⟩])
 have XC:=Lib.hid (ofC_prog (U:=U) (here:=here) (pn:=pn) (up:=up) (l:=l))
 have XE:=Lib.hid (show ofE U pn l=0 by unfold ofE;rw [if_pos ⟨hset,hrt⟩])
 have XG:=Lib.hid (show wgE pn=0 by unfold wgE;rw [if_pos hrt])
 have WA:=Lib.hid (show wgA U here pn up=wgCs U here pn up by unfold wgA;rw [if_pos hrt])
 rw [XG.out]
 rw [WA.out] at hrw
 obtain ⟨hwl,hwc,hwm,-⟩:=rdCs_at hrw
 have hwm':cw≤9223372036854775807:=hwm
 obtain ⟨rb1,rb2⟩:=rgt_bd hrt
 have L1:=Lib.hid (fun k=>b1K_le (U:=U) rb1 (l:=l) hn k)
 have L2:=Lib.hid (fun k=>s2K_le (U:=U) (here:=here) (pn:=pn) (up:=up) (by have:=UL.out;omega) hn k)
 have L4:=Lib.hid (fun k=>s4K_le (U:=U) (here:=here) (l:=l) hn k)
 have WL:=Lib.hid (show (wgA U here pn up).length=U.length by rw [WA.out,wgCs_len])
 have WLC:=wgCs_len U here pn up
 rw [WA.out,WLC]
 rw [WLC] at hrw hwc
 have HRW:=Lib.hid hrw
 clear hset hrt SP rb1 rb2 hb hrw hwm hwl Z0 KW
 obtain ⟨W5,hW5⟩:∃W,W=w2.alloc (.cells #[.int .i64 0,.int .i64 0,.int .i64 0,.int .i64 0,.int .i64 0] 39):=⟨_,rfl⟩
 have b5:Below w2.heap.size w2 W5:=by rw [hW5];exact (Below.refl _ w2).alloc (Nat.le_refl _) _
 have NB:=Lib.hid (show w.heap.size < w2.heap.size from lt_of_heap Z2.out)
 have B5:=Lib.hid (bel_in B2.out b5)
 have Z5':=Lib.hid ((b5.block _ NB.out).trans Z2.out)
 have BX5:=Lib.hid (show Bx W5 w2.heap.size W5 ⟨0,b1K U pn l 0,s2K U here pn up l 0,0,s4K U here l 0⟩ from ⟨Pst.refl _ _,by rw [hW5];exact heap_alloc_new w2 _⟩)
 have HBW:=Lib.hid (fun (W:World) (x:C5) (hx:Bx W5 w2.heap.size W x)=>hx.base B5.out (Nat.le_of_lt NB.out))
 have HZ:=Lib.hid (fun (W:World) (x:C5) (hx:Bx W5 w2.heap.size W x)=>hx.old Z5'.out (show w.heap.size≠w2.heap.size by have:=NB.out;omega))
 have HWR:=Lib.hid (fun (W:World) (x:C5) (hx:Bx W5 w2.heap.size W x)=>(rdCs_at (rdCs_good.up (rdCs_good.below HRW.out (hx.base b5 (Nat.le_refl _))) (hx.base b5 (Nat.le_refl _)).size)).2.2.2)
 clear b5 HRW Z2 B2 B5 Z5'
 go_upto_region 7 with fail
 rw [←hW5]
 clear hW5
 generalize w2.heap.size=cb at *
 go_wp2
 go_loopw [35] (fun i wr=>∃k:Nat,k≤l.length∧i=.int .i64 k∧Bx W5 cb wr ⟨0,b1K U pn l k,s2K U here pn up l k,0,s4K U here l k⟩) (fun i _=>l.length - (intOf i).toNat)
 case atStart=>exact ⟨0,Nat.zero_le _,rfl,BX5.out⟩
 case round=>
  clear BX5
  obtain ⟨k,hk,rfl,hbx⟩:=hrel
  have HX:=Lib.hid hbx
  have HXW:=Lib.hid (HBW.out _ _ hbx)
  clear hbx
  obtain ⟨l1,l1'⟩:=L1.out k
  obtain ⟨l2,l2'⟩:=L2.out k
  obtain ⟨l4,l4'⟩:=L4.out k
  by_cases hlt:k < l.length
  ·obtain ⟨adl,rfl,-,c0⟩:=HL.out wr HXW.out k hlt
   obtain ⟨t0,t1⟩:=SL.out _ (List.getElem_mem hlt)
   have i0:(0:Int)≤(k:Int):=by omega
   have i1:(k:Int) < (l.length:Int):=by omega
   obtain ⟨j,hj⟩:=Int.eq_ofNat_of_zero_le t0
   rw [hj] at c0 t1
   have hjl:j < U.length:=by omega
   have p0:(0:Int)≤(j:Int):=by omega
   have p1:(j:Int) < (U.length:Int):=by omega
   have hjw:j < (wgCs U here pn up).length:=by rw [WLC];exact hjl
   obtain ⟨adw,rfl,-,v0,v1,v2,v3,v4⟩:=HWR.out wr _ HX.out j hjw
   rw [wgCs_at hjw] at v0 v1 v2 v3 v4
   obtain ⟨y0,y1,y2,y3,y4⟩:=HX.out.cells
   simp only [wgC] at v0 v1 v2 v3 v4
   simp only at y0 y1 y2 y3 y4
   have T1:=Lib.hid (b1K_step (U:=U) (pn:=pn) hlt)
   have T2:=Lib.hid (s2K_step (U:=U) (here:=here) (pn:=pn) (up:=up) hlt)
   have T4:=Lib.hid (s4K_step (U:=U) (here:=here) hlt)
   obtain ⟨g1,g1'⟩:=L1.out (k+1)
   obtain ⟨g2,g2'⟩:=L2.out (k+1)
   obtain ⟨g4,g4'⟩:=L4.out (k+1)
   rw [hj] at T1 T2 T4
   have lo0:=los_ge U pn (j:Int)
   have w20:=w2_le U here pn up (j:Int)
   have w40:=w4_le U here (j:Int)
   have HXK:=Lib.hid (fun (W:World) (hb:Below wr.heap.size wr W)=>HX.out.call hb)
   generalize hh1:b1K U pn l (k+1)=n1 at *
   generalize hh2:s2K U here pn up l (k+1)=n2 at *
   generalize hh4:s4K U here l (k+1)=n4 at *
   have H1:=Lib.hid hh1
   have H2:=Lib.hid hh2
   have H4:=Lib.hid hh4
   generalize b1K U pn l k=m1 at *
   generalize s2K U here pn up l k=m2 at *
   generalize s4K U here l k=m4 at *
   generalize los U pn (j:Int)=lo at *
   generalize w2P U here pn up (j:Int)=wp2 at *
   generalize w4P U here (j:Int)=wp4 at *
   have t1:=T1.out
   have t2:=T2.out
   have t4:=T4.out
   have KJ:=Lib.hid (fun (W:World)=>show Calls Tryz.prog 28 #[.agg #[.int .i64 0,.int .i64 m1,.int .i64 m2,.int .i64 0,.int .i64 m4],.agg #[.int .i64 0,.int .i64 lo,.int .i64 wp2,.int .i64 0,.int .i64 wp4]] W fun e w'=>e=.returned (.tuple #[.agg #[.int .i64 0,.int .i64 n1,.int .i64 n2,.int .i64 0,.int .i64 n4],.int .i64 0])∧Below W.heap.size W w' from by
    have h1:InR 0:=inR_small (by omega) (by omega)
    have hj:=Join_any 0 m1 m2 0 m4 0 lo wp2 0 wp4 W h1 h1 (inR_small (by omega) (by omega)) (inR_small (by omega) (by omega)) (inR_small (by omega) (by omega)) (inR_small (by omega) (by omega)) h1 h1 (inR_small (by omega) (by omega)) (inR_small (by omega) (by omega))
    have hc:InR (0+0)∧InR (m1+lo)∧InR (m2+wp2)∧InR (0+0)∧InR (m4+wp4):=⟨h1,inR_small (by omega) (by omega),inR_small (by omega) (by omega),h1,inR_small (by omega) (by omega)⟩
    unfold joinV joinE at hj
    rw [if_pos hc,if_pos hc,←t1,←t2,←t4] at hj
    exact hj)
   clear hh1 hh2 hh4 hj t0 t1 t2 t4 T1 T2 T4
   have yf0:=HX.out.free 0
   have yf1:=HX.out.free 1
   have yf2:=HX.out.free 2
   have yf3:=HX.out.free 3
   have yf4:=HX.out.free 4
   have HXJ:=Lib.hid (fun (w3:World) (hb:Below wr.drew.heap.size wr.drew w3)=>(HX.out.call ((Dr.refl wr).more 1|>.below _)).call hb)
   go_upto_region 10 with fail
   go_region_with (go_at_call 28;refine (KJ.out _).mono ?_;rintro e w3 ⟨rfl,hb⟩;have hq:=HXJ.out _ hb;obtain ⟨q0,q1,q2,q3,q4⟩:=hq.cells;have qf0:=hq.free 0;have qf1:=hq.free 1;have qf2:=hq.free 2;have qf3:=hq.free 3;have qf4:=hq.free 4;simp only at q0 q1 q2 q3 q4;clear y0 y1 y2 y3 y4 yf0 yf1 yf2 yf3 yf4)
   all_goals
    have FIN:=Lib.hid (hq.set5 ⟨0,n1,n2,0,n4⟩)
    clear q0 q1 q2 q3 q4 qf0 qf1 qf2 qf3 qf4 hq v0 v1 v2 v3 v4
    go_wp2
    go_roundw
    case rel=>exact ⟨k+1,by omega,by go_num,by rw [H1.out,H2.out,H4.out];exact FIN.out⟩
    case measure=>simp [intOf];omega
  ·obtain rfl:k=l.length:=by omega
   have j1:¬(l.length:Int) < (l.length:Int):=by omega
   have a0l:=a0K_le U here l here.length
   have a2l:=a2K_le U here l false here.length
   rw [XC.out] at XA
   generalize ((a0K U here l here.length:Nat):Int)=A0 at *
   generalize ((a2K U here l false here.length:Nat):Int)=A2 at *
   generalize b1K U pn l l.length=m1 at *
   generalize s2K U here pn up l l.length=m2 at *
   generalize s4K U here l l.length=m4 at *
   go_wp2_with fail
   refine (KT.out wr HXW.out).mono ?_
   rintro e w7 ⟨rfl,hb⟩
   have HX7:=Lib.hid (HX.out.call hb)
   have x0:=HX7.out.cells.1
   have xf0:=HX7.out.free 0
   simp only at x0
   clear hb HX HXW
   go_upto_region 14 with fail
   obtain ⟨V8,hV8⟩:∃V,V=w7.setCell ⟨cb,0,none⟩ (.int .i64 A0):=⟨_,rfl⟩
   have BX8:=Lib.hid (show Bx W5 cb V8 ⟨A0,m1,m2,0,m4⟩ from by rw [hV8];exact HX7.out.set0 A0)
   rw [←hV8]
   clear hV8 x0 xf0 HX7
   cases up
   ·skip
    have x2:=BX8.out.cells.2.2.1
    have xf2:=BX8.out.free 2
    simp only at x2
    obtain ⟨V6,hV6⟩:∃V,V=V8.setCell ⟨cb,2,none⟩ (.int .i64 A2):=⟨_,rfl⟩
    have BX6:=Lib.hid (show Bx W5 cb V6 ⟨A0,m1,A2,0,m4⟩ from by rw [hV6];exact BX8.out.set2 A2)
    go_upto_region 16 with fail
    rw [←hV6]
    clear hV6 x2 xf2 BX8
    have HW9:=Lib.hid (HBW.out _ _ BX6.out)
    go_wp2_with fail
    refine (KN.out _ HW9.out).mono ?_
    rintro e w9 ⟨rfl,hb⟩
    have BX9:=Lib.hid (BX6.out.call hb)
    rw [XW.out]
    have x3:=BX9.out.cells.2.2.2.1
    have xf3:=BX9.out.free 3
    simp only at x3
    clear hb
    generalize ((wnS U l l:Nat):Int)=wn at *
    go_upto_region 17 with fail
    obtain ⟨VA,hVA⟩:∃V,V=w9.setCell ⟨cb,3,none⟩ (.int .i64 wn):=⟨_,rfl⟩
    have BXA:=Lib.hid (show Bx W5 cb VA ⟨A0,m1,A2,wn,m4⟩ from by rw [hVA];exact BX9.out.set3 wn)
    rw [←hVA]
    clear hVA x3 xf3 BX9
    have HVW:=Lib.hid (HBW.out _ _ BXA.out)
    have Z9:=Lib.hid (HZ.out _ _ BXA.out)
    obtain ⟨y0,y1,y2,y3,y4⟩:=BXA.out.cells
    obtain ⟨V9,hV9,d0,d1,d2,d3,d4,bV⟩:=fin5 (y:=⟨A0,m1,A2,wn,m4⟩) HVW.out (Nat.le_refl _) Z9.out
    have r0:=blk5_cell Z9.out 0
    have r1:=blk5_cell Z9.out 1
    have r2:=blk5_cell Z9.out 2
    have r3:=blk5_cell Z9.out 3
    have r4:=blk5_cell Z9.out 4
    have fr0:=blk5_frozen Z9.out 0
    have fr1:=blk5_frozen Z9.out 1
    have fr2:=blk5_frozen Z9.out 2
    have fr3:=blk5_frozen Z9.out 3
    have fr4:=blk5_frozen Z9.out 4
    simp only at y0 y1 y2 y3 y4 d0 d1 d2 d3 d4 hV9
    simp at r0 r1 r2 r3 r4
    go_wp2
    rw [←hV9]
    clear hV9 r0 r1 r2 r3 r4 fr0 fr1 fr2 fr3 fr4 y0 y1 y2 y3 y4
    exact bodyPost_ret (v:=.tuple #[.agg #[.int .i64 A0,.int .i64 m1,.int .i64 A2,.int .i64 wn,.int .i64 m4],.int .i64 0]) (by simp [results,Tryz.results15,go_sem,d0,d1,d2,d3,d4]) rfl ⟨by rw [XA.out,XE.out];try rfl,bV⟩
   ·skip
    have HW9:=Lib.hid (HBW.out _ _ BX8.out)
    go_wp2_with fail
    refine (KN.out _ HW9.out).mono ?_
    rintro e w9 ⟨rfl,hb⟩
    have BX9:=Lib.hid (BX8.out.call hb)
    rw [XW.out]
    have x3:=BX9.out.cells.2.2.2.1
    have xf3:=BX9.out.free 3
    simp only at x3
    clear hb
    generalize ((wnS U l l:Nat):Int)=wn at *
    go_upto_region 17 with fail
    obtain ⟨VA,hVA⟩:∃V,V=w9.setCell ⟨cb,3,none⟩ (.int .i64 wn):=⟨_,rfl⟩
    have BXA:=Lib.hid (show Bx W5 cb VA ⟨A0,m1,m2,wn,m4⟩ from by rw [hVA];exact BX9.out.set3 wn)
    rw [←hVA]
    clear hVA x3 xf3 BX9
    have HVW:=Lib.hid (HBW.out _ _ BXA.out)
    have Z9:=Lib.hid (HZ.out _ _ BXA.out)
    obtain ⟨y0,y1,y2,y3,y4⟩:=BXA.out.cells
    obtain ⟨V9,hV9,d0,d1,d2,d3,d4,bV⟩:=fin5 (y:=⟨A0,m1,m2,wn,m4⟩) HVW.out (Nat.le_refl _) Z9.out
    have r0:=blk5_cell Z9.out 0
    have r1:=blk5_cell Z9.out 1
    have r2:=blk5_cell Z9.out 2
    have r3:=blk5_cell Z9.out 3
    have r4:=blk5_cell Z9.out 4
    have fr0:=blk5_frozen Z9.out 0
    have fr1:=blk5_frozen Z9.out 1
    have fr2:=blk5_frozen Z9.out 2
    have fr3:=blk5_frozen Z9.out 3
    have fr4:=blk5_frozen Z9.out 4
    simp only at y0 y1 y2 y3 y4 d0 d1 d2 d3 d4 hV9
    simp at r0 r1 r2 r3 r4
    go_wp2
    rw [←hV9]
    clear hV9 r0 r1 r2 r3 r4 fr0 fr1 fr2 fr3 fr4 y0 y1 y2 y3 y4
    exact bodyPost_ret (v:=.tuple #[.agg #[.int .i64 A0,.int .i64 m1,.int .i64 m2,.int .i64 wn,.int .i64 m4],.int .i64 0]) (by simp [results,Tryz.results15,go_sem,d0,d1,d2,d3,d4]) rfl ⟨by rw [XA.out,XE.out];try rfl,bV⟩
end Go.Proofs.YtpilmhoakopcaaaGreatDoor
namespace Go.Proofs.YtpilmhoakopcaaaGreatDoor
open Go.RowKit Go.Sort
set_option maxHeartbeats 4000000 in
theorem sameCosts11_any (A A':Option Addr) (n c n' c':Nat) (l m:List C5) (w:World) (h:rdCs w (lt_ w.heap.size) l [.slice A n c]) (h':rdCs w (lt_ w.heap.size) m [.slice A' n' c']) :
  Calls Tryz.prog 19 #[.slice A n c,.slice A' n' c'] w fun e w'=>e=.returned (.bool (decide (l=m)))∧Below w.heap.size w w':=by
 have mixed:Tryz.prog.follows .mixedOrders=true:=by kernel_rfl
 obtain ⟨rfl,hnc,hcm,_⟩:=rdCs_at h
 obtain ⟨rfl,hnc',hcm',_⟩:=rdCs_at h'
 have hcm1:c≤9223372036854775807:=hcm
 have hcm2:c'≤9223372036854775807:=hcm'
 by_cases hlen:l.length=m.length
 ·have hd:((l.length:Int) != (m.length:Int))=false:=by rw [hlen];simp
  have HL:=Lib.hid hlen
  have HA:=Lib.hid (fun (W:World) (hb:Below w.heap.size w W)=>(rdCs_at (rdCs_good.up (rdCs_good.below h hb) hb.size)).2.2.2)
  have HA':=Lib.hid (fun (W:World) (hb:Below w.heap.size w W)=>(rdCs_at (rdCs_good.up (rdCs_good.below h' hb) hb.size)).2.2.2)
  clear hlen h h'
  go_enter Tryz.func19,Tryz.ntmps19
  go_wp2
  go_loopw [5] (fun i wr=>∃k:Nat,k≤l.length∧i=.int .i64 k∧Hid (l.take k=m.take k)∧Below w.heap.size w wr) (fun i _=>l.length - (intOf i).toNat)
  case atStart=>exact ⟨0,Nat.zero_le _,rfl,Lib.hid rfl,Below.refl _ _⟩
  case round=>
   obtain ⟨k,hk,rfl,htk,hbel⟩:=hrel
   have HB:=Lib.hid hbel
   clear hbel
   by_cases hlt:k < l.length
   ·have hltm:k < m.length:=by rw [←HL.out];exact hlt
    obtain ⟨ad,rfl,-,c0,c1,c2,c3,c4⟩:=HA.out wr HB.out k hlt
    obtain ⟨ad',rfl,-,d0,d1,d2,d3,d4⟩:=HA'.out wr HB.out k hltm
    have T:=Lib.hid (same_take (l:=l) (m:=m) HL.out hlt hltm htk.out)
    have Z:=Lib.hid (show l[k]≠m[k]→l≠m from fun hn e=>hn (by subst e;rfl))
    have i0:(0:Int)≤(k:Int):=by omega
    have i1:(k:Int) < (l.length:Int):=by omega
    have hki:(k:Int) < (m.length:Int):=by omega
    generalize l[k]=x at *
    generalize m[k]=y at *
    have EQ:=Lib.hid (fun W=>eqC_any x y W)
    have BD:=Lib.hid (fun dd os=>below_regrown wr dd os)
    by_cases he:x=y
    ·rw [decide_eq_true he] at EQ
     have TT:=Lib.hid (T.out he)
     clear he T Z
     obtain ⟨x0,x1,x2,x3,x4⟩:=x
     obtain ⟨y0,y1,y2,y3,y4⟩:=y
     simp only at c0 c1 c2 c3 c4 d0 d1 d2 d3 d4
     have heq:∀W,(Op.equalIn 10000 39 (.agg #[.int .i64 x0,.int .i64 x1,.int .i64 x2,.int .i64 x3,.int .i64 x4]) (.agg #[.int .i64 y0,.int .i64 y1,.int .i64 y2,.int .i64 y3,.int .i64 y4])).run Tryz.prog W=.ok true W:=EQ.out
     have a0:=fun dd os=>cell_regrown (w:=wr) c0 dd os
     have a1:=fun dd os=>cell_regrown (w:=wr) c1 dd os
     have a2:=fun dd os=>cell_regrown (w:=wr) c2 dd os
     have a3:=fun dd os=>cell_regrown (w:=wr) c3 dd os
     have a4:=fun dd os=>cell_regrown (w:=wr) c4 dd os
     have b0:=fun dd os=>cell_regrown (w:=wr) d0 dd os
     have b1:=fun dd os=>cell_regrown (w:=wr) d1 dd os
     have b2:=fun dd os=>cell_regrown (w:=wr) d2 dd os
     have b3:=fun dd os=>cell_regrown (w:=wr) d3 dd os
     have b4:=fun dd os=>cell_regrown (w:=wr) d4 dd os
     clear c0 c1 c2 c3 c4 d0 d1 d2 d3 d4
     go_wp2_with fail
     refine wp_region_quiet_below mixed (by kernel_rfl) ?_
     repeat (go_big_quiet_step (fail))
     refine wpQuiet_nil ?_
     intro W3 hw3
     have BX:=Lib.hid (bel_in HB.out (show Below wr.heap.size wr W3 from by obtain ⟨pp,e⟩:=hw3;rw [e];exact BD.out pp.d pp.os))
     clear hw3 BD a0 a1 a2 a3 a4 b0 b1 b2 b3 b4
     go_wp2
     go_roundw
     case rel=>exact ⟨k+1,by omega,by go_num,TT,BX.out⟩
     case measure=>simp [intOf];omega
    ·rw [decide_eq_false he] at EQ
     have ZZ:=Lib.hid (Z.out he)
     clear he T Z
     obtain ⟨x0,x1,x2,x3,x4⟩:=x
     obtain ⟨y0,y1,y2,y3,y4⟩:=y
     simp only at c0 c1 c2 c3 c4 d0 d1 d2 d3 d4
     have heq:∀W,(Op.equalIn 10000 39 (.agg #[.int .i64 x0,.int .i64 x1,.int .i64 x2,.int .i64 x3,.int .i64 x4]) (.agg #[.int .i64 y0,.int .i64 y1,.int .i64 y2,.int .i64 y3,.int .i64 y4])).run Tryz.prog W=.ok false W:=EQ.out
     have a0:=fun dd os=>cell_regrown (w:=wr) c0 dd os
     have a1:=fun dd os=>cell_regrown (w:=wr) c1 dd os
     have a2:=fun dd os=>cell_regrown (w:=wr) c2 dd os
     have a3:=fun dd os=>cell_regrown (w:=wr) c3 dd os
     have a4:=fun dd os=>cell_regrown (w:=wr) c4 dd os
     have b0:=fun dd os=>cell_regrown (w:=wr) d0 dd os
     have b1:=fun dd os=>cell_regrown (w:=wr) d1 dd os
     have b2:=fun dd os=>cell_regrown (w:=wr) d2 dd os
     have b3:=fun dd os=>cell_regrown (w:=wr) d3 dd os
     have b4:=fun dd os=>cell_regrown (w:=wr) d4 dd os
     clear c0 c1 c2 c3 c4 d0 d1 d2 d3 d4
     go_wp2_with fail
     refine wp_region_quiet_below mixed (by kernel_rfl) ?_
     repeat (go_big_quiet_step (fail))
     refine wpQuiet_nil ?_
     intro W3 hw3
     have BX:=Lib.hid (bel_in HB.out (show Below wr.heap.size wr W3 from by obtain ⟨pp,e⟩:=hw3;rw [e];exact BD.out pp.d pp.os))
     clear hw3 BD a0 a1 a2 a3 a4 b0 b1 b2 b3 b4
     go_wp2
     go_ret
     exact ⟨by rw [decide_eq_false ZZ.out];try rfl,BX.out⟩
   ·obtain rfl:k=l.length:=by omega
    have X:=Lib.hid (show l=m by have:=htk.out;rw [List.take_length] at this;rw [this,HL.out,List.take_length])
    clear htk
    go_wp2
    go_ret
    exact ⟨by rw [decide_eq_true X.out];try rfl,HB.out⟩
 ·have hd:((l.length:Int) != (m.length:Int))=true:=by rw [bne_iff_ne];omega
  have X:=Lib.hid (show l≠m by rintro rfl;exact hlen rfl)
  clear hlen
  go_enter Tryz.func19,Tryz.ntmps19
  go_wp2
  go_ret
  exact ⟨by rw [decide_eq_false X.out];try rfl,Below.refl _ _⟩
end Go.Proofs.YtpilmhoakopcaaaGreatDoor
namespace Go.Proofs.YtpilmhoakopcaaaGreatDoor
open Go.RowKit
abbrev s1:ByteArray:={ data:=#[49] }
abbrev s2:ByteArray:={ data:=#[50] }
abbrev s0:ByteArray:={ data:=#[] }
def exAb:Ent:=⟨{ data:=#[97,98] },{ data:=#[49] },[],[],[],[]⟩
def exTwo:Ent:=⟨{ data:=#[97,98] },{ data:=#[50] },[],[],[],[]⟩
def exCd:Ent:=⟨{ data:=#[99,100] },{ data:=#[49] },[],[],[],[⟨{ data:=#[118,118] },0,{ data:=#[] }⟩]⟩
def exHr:Hr:=⟨exAb,false,false⟩
theorem ex9_right:rightH [exHr]=true:=by kernel_rfl
theorem ex9_sz:∀x ∈ [exTwo,exAb,exCd],Sz x:=by
 intro x hx
 simp only [List.mem_cons,List.not_mem_nil,or_false] at hx
 rcases hx with rfl|rfl|rfl
 ·exact ⟨by decide,fun g hg=>absurd hg List.not_mem_nil,fun g hg=>absurd hg List.not_mem_nil,fun g hg=>absurd hg List.not_mem_nil,fun g hg=>absurd hg List.not_mem_nil⟩
 ·exact ⟨by decide,fun g hg=>absurd hg List.not_mem_nil,fun g hg=>absurd hg List.not_mem_nil,fun g hg=>absurd hg List.not_mem_nil,fun g hg=>absurd hg List.not_mem_nil⟩
 ·refine ⟨by decide,fun g hg=>absurd hg List.not_mem_nil,fun g hg=>absurd hg List.not_mem_nil,fun g hg=>absurd hg List.not_mem_nil,fun g hg=>?_⟩
  rw [List.mem_singleton.1 hg];decide
theorem ex9_sz':∀y ∈ [exHr],Sz y.e:=by
 intro y hy
 rw [List.mem_singleton.1 hy]
 exact ex9_sz exAb (by simp)
theorem rd_plain9 (w:World) (S:Nat→Prop) (n v:ByteArray):rdEnt w S ⟨n,v,[],[],[],[]⟩ [.string n,.string v,.slice none 0 0,.slice none 0 0,.slice none 0 0,.slice none 0 0]:=
 ⟨_,_,_,_,rfl,rdRow_nil _ _,rdRow_nil _ _,rdRow_nil _ _,rdRow_nil _ _⟩
theorem rd_three9 {w:World} {S:Nat→Prop} {g:Nat} {T:TypeId} {x y z:Ent} {cx cy cz:List Value} {blk:Array Value} (hb:w.heap[g]?=some (.cells blk T (0,0))) (hk:blk.toList=cx++(cy++(cz++[]))) (hS:S g) (hx:rdEnt w S x cx) (hy:rdEnt w S y cy) (hz:rdEnt w S z cz):rdEnts w S [x,y,z] [.slice (some ⟨g,0,none⟩) 3 3]:=
 rd_block rdEnt_good (l:=[x,y,z]) (css:=[cx,cy,cz]) hb hS rfl hk (fun k hk=>by
  match k,hk with
  | 0,_=>exact ⟨_,rfl,hx⟩
  | 1,_=>exact ⟨_,rfl,hy⟩
  | 2,_=>exact ⟨_,rfl,hz⟩
  | k+3,hk=>exact absurd (show k+3 < 3 from hk) (by omega)) (by simp)
theorem rd_ints9 {w:World} {S:Nat→Prop} {g:Nat} {T:TypeId} {l:List Int} {blk:Array Value} (hb:w.heap[g]?=some (.cells blk T (0,0))) (hk:blk.toList=l.map (Value.int .i64)) (hS:S g) (hl:l.length≤1000):rdInts w S l [.slice (some ⟨g,0,none⟩) l.length l.length]:=
 rd_block rdInt_good (l:=l) (css:=l.map fun i=>[Value.int .i64 i]) hb hS (List.length_map _) (by rw [hk];clear hk hl;induction l with|nil=>rfl|cons a r ih=>simp [ih]) (fun k hk=>⟨[.int .i64 l[k]],by simp [hk],rfl⟩) hl
def exC1:Ent:=⟨{ data:=#[99,100] },{ data:=#[49] },[],[],[],[]⟩
def exU11:List Ent:=[exAb,exTwo,exC1]
theorem ex11_all:exU11.all rgtE=true:=by kernel_rfl
theorem ex11_ent:entU exU11 ([exHr].map fun y=>y.e)=exU11:=by
 have h:decide (entU exU11 ([exHr].map fun y=>y.e)=exU11)=true:=by kernel_rfl
 exact of_decide_eq_true h
theorem ex11_of (up:Bool) (l:List Int) (x:C5) (h:decide (ofA exU11 (insU exU11 [exHr]) [] up l=x)=true):ofA exU11 (insU exU11 [exHr]) [] up l=x:=of_decide_eq_true h
theorem ex11_oe (l:List Int) (h:decide (ofE exU11 [] l=0)=true):ofE exU11 [] l=0:=of_decide_eq_true h
def exWg:List C5:=[⟨0,0,0,0,0⟩,⟨0,0,1,0,0⟩,⟨0,0,0,0,1⟩]
theorem ex11_wg:wgA exU11 (insU exU11 [exHr]) [] false=exWg:=by
 have h:decide (wgA exU11 (insU exU11 [exHr]) [] false=exWg)=true:=by kernel_rfl
 exact of_decide_eq_true h
theorem ex11_bh:bhd exU11 (insU exU11 [exHr]) [] 0=1:=by
 have h:decide (bhd exU11 (insU exU11 [exHr]) [] 0=1)=true:=by kernel_rfl
 exact of_decide_eq_true h
theorem ex11_sm:∀x ∈ exU11,Sm x:=by
 intro x hx
 have no:∀a ∈ ([]:List Atm),a.n.size≤100∧a.v.size≤100:=fun a ha=>absurd ha List.not_mem_nil
 have nog:∀g ∈ ([]:List (List Atm)),Lt g:=fun a ha=>absurd ha List.not_mem_nil
 simp only [exU11,List.mem_cons,List.not_mem_nil,or_false] at hx
 rcases hx with rfl|rfl|rfl
 ·exact ⟨⟨by decide,no⟩,⟨by decide,no⟩,by decide,by decide,by decide,by decide,nog,nog⟩
 ·exact ⟨⟨by decide,no⟩,⟨by decide,no⟩,by decide,by decide,by decide,by decide,nog,nog⟩
 ·exact ⟨⟨by decide,no⟩,⟨by decide,no⟩,by decide,by decide,by decide,by decide,nog,nog⟩
theorem ex11_fw:Fw11 exU11 [exHr]:=⟨⟨by decide,ex11_sm⟩,by decide,fun y hy=>by
 rw [List.mem_singleton.1 hy]
 exact ex11_sm exAb (List.mem_cons_self ..)⟩
theorem rd_costs3 {w:World} {S:Nat→Prop} {g:Nat} {T:TypeId} {x y z:C5} {blk:Array Value} (hb:w.heap[g]?=some (.cells blk T (0,0))) (hk:blk.toList=x.cells++(y.cells++(z.cells++[]))) (hS:S g):rdCs w S [x,y,z] [.slice (some ⟨g,0,none⟩) 3 3]:=
 rd_block rdC_good (l:=[x,y,z]) (css:=[x.cells,y.cells,z.cells]) hb hS rfl hk (fun k hk=>by
  match k,hk with
  | 0,_=>exact ⟨_,rfl,rfl⟩
  | 1,_=>exact ⟨_,rfl,rfl⟩
  | 2,_=>exact ⟨_,rfl,rfl⟩
  | k+3,hk=>exact absurd (show k+3 < 3 from hk) (by omega)) (by simp)
set_option maxHeartbeats 16000000 in
theorem shown11_any (w:World) (E:EnvR w):Calls Tryz.prog 8 #[] w fun e w'=>e=.returned (.bool true)∧Below w.heap.size w w':=by
 obtain ⟨W3,hW3⟩:∃W,W=(((w.alloc (.cells #[.string { data:=#[97,98] },.string { data:=#[49] },.slice none 0 0,.slice none 0 0,.slice none 0 0,.slice none 0 0] 60)).alloc (.cells #[.string { data:=#[97,98] },.string { data:=#[49] },.slice none 0 0,.slice none 0 0,.slice none 0 0,.slice none 0 0,.string { data:=#[97,98] },.string { data:=#[50] },.slice none 0 0,.slice none 0 0,.slice none 0 0,.slice none 0 0,.string { data:=#[99,100] },.string { data:=#[49] },.slice none 0 0,.slice none 0 0,.slice none 0 0,.slice none 0 0] 60)).alloc (.cells #[.string { data:=#[97,98] },.string { data:=#[49] },.slice none 0 0,.slice none 0 0,.slice none 0 0,.slice none 0 0,.bool false,.bool false] 67)):=⟨_,rfl⟩
 have b3:Below w.heap.size w W3:=by rw [hW3];exact (((Below.refl _ w).alloc (Nat.le_refl _) _).alloc (by simp) _).alloc (by simp;omega) _
 have s3:W3.heap.size=w.heap.size+3:=by rw [hW3];simp
 have h1:W3.heap[w.heap.size+1]?=some (.cells #[.string { data:=#[97,98] },.string { data:=#[49] },.slice none 0 0,.slice none 0 0,.slice none 0 0,.slice none 0 0,.string { data:=#[97,98] },.string { data:=#[50] },.slice none 0 0,.slice none 0 0,.slice none 0 0,.slice none 0 0,.string { data:=#[99,100] },.string { data:=#[49] },.slice none 0 0,.slice none 0 0,.slice none 0 0,.slice none 0 0] 60):=by
  rw [hW3]
  have:=heap_alloc_new (w.alloc (.cells #[.string { data:=#[97,98] },.string { data:=#[49] },.slice none 0 0,.slice none 0 0,.slice none 0 0,.slice none 0 0] 60)) (.cells #[.string { data:=#[97,98] },.string { data:=#[49] },.slice none 0 0,.slice none 0 0,.slice none 0 0,.slice none 0 0,.string { data:=#[97,98] },.string { data:=#[50] },.slice none 0 0,.slice none 0 0,.slice none 0 0,.slice none 0 0,.string { data:=#[99,100] },.string { data:=#[49] },.slice none 0 0,.slice none 0 0,.slice none 0 0,.slice none 0 0] 60)
  rw [World.size_alloc] at this
  exact old_heap _ this
 have h2:W3.heap[w.heap.size+2]?=some (.cells #[.string { data:=#[97,98] },.string { data:=#[49] },.slice none 0 0,.slice none 0 0,.slice none 0 0,.slice none 0 0,.bool false,.bool false] 67):=by
  rw [hW3]
  have:=heap_alloc_new ((w.alloc (.cells #[.string { data:=#[97,98] },.string { data:=#[49] },.slice none 0 0,.slice none 0 0,.slice none 0 0,.slice none 0 0] 60)).alloc (.cells #[.string { data:=#[97,98] },.string { data:=#[49] },.slice none 0 0,.slice none 0 0,.slice none 0 0,.slice none 0 0,.string { data:=#[97,98] },.string { data:=#[50] },.slice none 0 0,.slice none 0 0,.slice none 0 0,.slice none 0 0,.string { data:=#[99,100] },.string { data:=#[49] },.slice none 0 0,.slice none 0 0,.slice none 0 0,.slice none 0 0] 60)) (.cells #[.string { data:=#[97,98] },.string { data:=#[49] },.slice none 0 0,.slice none 0 0,.slice none 0 0,.slice none 0 0,.bool false,.bool false] 67)
  rw [World.size_alloc,World.size_alloc] at this
  exact this
 have RI:=Lib.hid (show rdEnts W3 (lt_ W3.heap.size) exU11 [.slice (some ⟨w.heap.size+1,0,none⟩) 3 3] from rd_three9 h1 rfl (by unfold lt_;omega) (rd_plain9 _ _ _ _) (rd_plain9 _ _ _ _) (rd_plain9 _ _ _ _))
 have RH:=Lib.hid (show rdHrs W3 (lt_ W3.heap.size) [exHr] [.slice (some ⟨w.heap.size+2,0,none⟩) 1 1] from one_rd (ty:=67) rdHr_good h2 (EntV.hr (x:=exHr) ⟨rdRow_nil _ _,rdRow_nil _ _,rdRow_nil _ _,rdRow_nil _ _⟩) (by unfold lt_;omega))
 have x0:W3.cell? ⟨w.heap.size,0,none⟩=some (.string { data:=#[97,98] }):=by rw [hW3];simp [go_sem]
 have x1:W3.cell? ⟨w.heap.size,1,none⟩=some (.string { data:=#[49] }):=by rw [hW3];simp [go_sem]
 have x2:W3.cell? ⟨w.heap.size,2,none⟩=some (.slice none 0 0):=by rw [hW3];simp [go_sem]
 have x3:W3.cell? ⟨w.heap.size,3,none⟩=some (.slice none 0 0):=by rw [hW3];simp [go_sem]
 have x4:W3.cell? ⟨w.heap.size,4,none⟩=some (.slice none 0 0):=by rw [hW3];simp [go_sem]
 have x5:W3.cell? ⟨w.heap.size,5,none⟩=some (.slice none 0 0):=by rw [hW3];simp [go_sem]
 have KN:=Lib.hid (new9_any (some ⟨w.heap.size+1,0,none⟩) 3 3 exU11 (some ⟨w.heap.size+2,0,none⟩) 1 1 [exHr] W3 RI.out RH.out (fun x hx=>(ex11_sm x hx).sz) ex9_sz' (E.below b3))
 have HE:=Lib.hid (fun (W:World) (hb:Below w.heap.size w W)=>E.below hb)
 have B3:=Lib.hid b3
 clear b3 h1 h2 s3 E RI RH
 go_enter Tryz.func8,Tryz.ntmps8
 go_wp2_with fail
 rw [←hW3]
 clear hW3 x0 x1 x2 x3 x4 x5
 refine KN.out.mono ?_
 rintro e w9 ⟨hnr,hb⟩
 obtain ⟨b,rfl,hup⟩:=hnr.2.2 ⟨ex11_all,ex9_right⟩ (by rw [ex11_ent];decide)
 have UFF:=uk_of (L:=exU11) (m:=[exHr]) ⟨ex11_all,ex9_right⟩ ex11_fw (by rw [ex11_ent];decide)
 rw [ex11_ent] at hup UFF
 have B9:=Lib.hid (bel_in B3.out hb)
 have UK11:=Lib.hid UFF
 have HU:=Lib.hid (fun (W:World) (hx:Below w9.heap.size w9 W)=>(UFF.uf.uq hup).below hx)
 have HE9:=Lib.hid (fun (W:World) (hx:Below w9.heap.size w9 W)=>HE.out W (bel_in B9.out hx))
 clear hb hnr hup KN HE UFF
 go_upto_region 5 with fail
 obtain ⟨WI0,hWI0⟩:∃W,W=w9.alloc (.cells #[.int .i64 0] 3):=⟨_,rfl⟩
 have bi0:Below w9.heap.size w9 WI0:=by rw [hWI0];exact (Below.refl _ w9).alloc (Nat.le_refl _) _
 have ri0:rdInts WI0 (lt_ WI0.heap.size) [0] [.slice (some ⟨w9.heap.size,0,none⟩) 1 1]:=rd_ints9 (l:=[0]) (by rw [hWI0];exact heap_alloc_new w9 _) rfl (by rw [hWI0];unfold lt_;simp) (by decide)
 have BI0:=Lib.hid (bel_in (Below.refl _ _) bi0)
 have BP0:=Lib.hid bi0
 have KF0:=Lib.hid (cof_any b exU11 [exHr] none 0 0 [] false (some ⟨w9.heap.size,0,none⟩) 1 1 [0] WI0 (HU.out _ BI0.out) UK11.out (rdRow_nil _ _) ri0 (by decide) (HE9.out _ BI0.out))
 rw [ex11_of false [0] ⟨0,0,0,0,0⟩ (by kernel_rfl),ex11_oe [0] (by kernel_rfl)] at KF0
 clear bi0 ri0
 go_wp2_with fail
 rw [←hWI0]
 clear hWI0
 refine KF0.out.mono ?_
 rintro e w10 ⟨rfl,hb⟩
 obtain ⟨V0,hV0⟩:∃V,V=w10.alloc (.cells #[.int .i64 0,.int .i64 0,.int .i64 0,.int .i64 0,.int .i64 0] 39):=⟨_,rfl⟩
 have bv0:Below w10.heap.size w10 V0:=by rw [hV0];exact (Below.refl _ w10).alloc (Nat.le_refl _) _
 have BV0:=Lib.hid (bel_in BI0.out (bel_in hb bv0))
 have BS0:=Lib.hid (bel_in BP0.out (bel_in hb bv0))
 have c0:V0.cell? ⟨w10.heap.size,0,none⟩=some (.int .i64 0)∧V0.cell? ⟨w10.heap.size,1,none⟩=some (.int .i64 0)∧V0.cell? ⟨w10.heap.size,2,none⟩=some (.int .i64 0)∧V0.cell? ⟨w10.heap.size,3,none⟩=some (.int .i64 0)∧V0.cell? ⟨w10.heap.size,4,none⟩=some (.int .i64 0):=by
  rw [hV0];refine ⟨?_,?_,?_,?_,?_⟩<;>simp [go_sem]
 have KX0:=Lib.hid (fun (W:World) (hx:Below V0.heap.size V0 W)=>(show W.cell? ⟨w10.heap.size,0,none⟩=some (.int .i64 0)∧W.cell? ⟨w10.heap.size,1,none⟩=some (.int .i64 0)∧W.cell? ⟨w10.heap.size,2,none⟩=some (.int .i64 0)∧W.cell? ⟨w10.heap.size,3,none⟩=some (.int .i64 0)∧W.cell? ⟨w10.heap.size,4,none⟩=some (.int .i64 0) from ⟨keep6 hx c0.1,keep6 hx c0.2.1,keep6 hx c0.2.2.1,keep6 hx c0.2.2.2.1,keep6 hx c0.2.2.2.2⟩))
 go_upto_region 6 with fail
 rw [←hV0]
 clear hV0 hb bv0 c0 KF0
 generalize w10.heap.size=p0 at *
 obtain ⟨WI1,hWI1⟩:∃W,W=V0.alloc (.cells #[.int .i64 1,.int .i64 2] 3):=⟨_,rfl⟩
 have bi1:Below V0.heap.size V0 WI1:=by rw [hWI1];exact (Below.refl _ V0).alloc (Nat.le_refl _) _
 have ri1:rdInts WI1 (lt_ WI1.heap.size) [1,2] [.slice (some ⟨V0.heap.size,0,none⟩) 2 2]:=rd_ints9 (l:=[1,2]) (by rw [hWI1];exact heap_alloc_new V0 _) rfl (by rw [hWI1];unfold lt_;simp) (by decide)
 have BI1:=Lib.hid (bel_in BV0.out bi1)
 have BP1:=Lib.hid bi1
 have KF1:=Lib.hid (cof_any b exU11 [exHr] none 0 0 [] false (some ⟨V0.heap.size,0,none⟩) 2 2 [1,2] WI1 (HU.out _ BI1.out) UK11.out (rdRow_nil _ _) ri1 (by decide) (HE9.out _ BI1.out))
 rw [ex11_of false [1,2] ⟨0,0,1,0,1⟩ (by kernel_rfl),ex11_oe [1,2] (by kernel_rfl)] at KF1
 clear bi1 ri1
 go_wp2_with fail
 rw [←hWI1]
 clear hWI1
 refine KF1.out.mono ?_
 rintro e w11 ⟨rfl,hb⟩
 obtain ⟨V1,hV1⟩:∃V,V=w11.alloc (.cells #[.int .i64 0,.int .i64 0,.int .i64 1,.int .i64 0,.int .i64 1] 39):=⟨_,rfl⟩
 have bv1:Below w11.heap.size w11 V1:=by rw [hV1];exact (Below.refl _ w11).alloc (Nat.le_refl _) _
 have BV1:=Lib.hid (bel_in BI1.out (bel_in hb bv1))
 have BS1:=Lib.hid (bel_in BP1.out (bel_in hb bv1))
 have c1:V1.cell? ⟨w11.heap.size,0,none⟩=some (.int .i64 0)∧V1.cell? ⟨w11.heap.size,1,none⟩=some (.int .i64 0)∧V1.cell? ⟨w11.heap.size,2,none⟩=some (.int .i64 1)∧V1.cell? ⟨w11.heap.size,3,none⟩=some (.int .i64 0)∧V1.cell? ⟨w11.heap.size,4,none⟩=some (.int .i64 1):=by
  rw [hV1];refine ⟨?_,?_,?_,?_,?_⟩<;>simp [go_sem]
 have KX1:=Lib.hid (fun (W:World) (hx:Below V1.heap.size V1 W)=>(show W.cell? ⟨w11.heap.size,0,none⟩=some (.int .i64 0)∧W.cell? ⟨w11.heap.size,1,none⟩=some (.int .i64 0)∧W.cell? ⟨w11.heap.size,2,none⟩=some (.int .i64 1)∧W.cell? ⟨w11.heap.size,3,none⟩=some (.int .i64 0)∧W.cell? ⟨w11.heap.size,4,none⟩=some (.int .i64 1) from ⟨keep6 hx c1.1,keep6 hx c1.2.1,keep6 hx c1.2.2.1,keep6 hx c1.2.2.2.1,keep6 hx c1.2.2.2.2⟩))
 go_upto_region 7 with fail
 rw [←hV1]
 clear hV1 hb bv1 c1 KF1
 generalize w11.heap.size=p1 at *
 have BI2:=Lib.hid BV1.out
 have BP2:=Lib.hid (Below.refl V1.heap.size V1)
 have KF2:=Lib.hid (cof_any b exU11 [exHr] none 0 0 [] false none 0 0 [] V1 (HU.out _ BI2.out) UK11.out (rdRow_nil _ _) (rdRow_nil _ _) (by decide) (HE9.out _ BI2.out))
 rw [ex11_of false [] ⟨1,0,0,0,0⟩ (by kernel_rfl),ex11_oe [] (by kernel_rfl)] at KF2
 go_wp2_with fail
 refine KF2.out.mono ?_
 rintro e w12 ⟨rfl,hb⟩
 obtain ⟨V2,hV2⟩:∃V,V=w12.alloc (.cells #[.int .i64 1,.int .i64 0,.int .i64 0,.int .i64 0,.int .i64 0] 39):=⟨_,rfl⟩
 have bv2:Below w12.heap.size w12 V2:=by rw [hV2];exact (Below.refl _ w12).alloc (Nat.le_refl _) _
 have BV2:=Lib.hid (bel_in BI2.out (bel_in hb bv2))
 have BS2:=Lib.hid (bel_in BP2.out (bel_in hb bv2))
 have c2:V2.cell? ⟨w12.heap.size,0,none⟩=some (.int .i64 1)∧V2.cell? ⟨w12.heap.size,1,none⟩=some (.int .i64 0)∧V2.cell? ⟨w12.heap.size,2,none⟩=some (.int .i64 0)∧V2.cell? ⟨w12.heap.size,3,none⟩=some (.int .i64 0)∧V2.cell? ⟨w12.heap.size,4,none⟩=some (.int .i64 0):=by
  rw [hV2];refine ⟨?_,?_,?_,?_,?_⟩<;>simp [go_sem]
 have KX2:=Lib.hid (fun (W:World) (hx:Below V2.heap.size V2 W)=>(show W.cell? ⟨w12.heap.size,0,none⟩=some (.int .i64 1)∧W.cell? ⟨w12.heap.size,1,none⟩=some (.int .i64 0)∧W.cell? ⟨w12.heap.size,2,none⟩=some (.int .i64 0)∧W.cell? ⟨w12.heap.size,3,none⟩=some (.int .i64 0)∧W.cell? ⟨w12.heap.size,4,none⟩=some (.int .i64 0) from ⟨keep6 hx c2.1,keep6 hx c2.2.1,keep6 hx c2.2.2.1,keep6 hx c2.2.2.2.1,keep6 hx c2.2.2.2.2⟩))
 go_upto_region 8 with fail
 rw [←hV2]
 clear hV2 hb bv2 c2 KF2
 generalize w12.heap.size=p2 at *
 obtain ⟨WI3,hWI3⟩:∃W,W=V2.alloc (.cells #[.int .i64 0] 3):=⟨_,rfl⟩
 have bi3:Below V2.heap.size V2 WI3:=by rw [hWI3];exact (Below.refl _ V2).alloc (Nat.le_refl _) _
 have ri3:rdInts WI3 (lt_ WI3.heap.size) [0] [.slice (some ⟨V2.heap.size,0,none⟩) 1 1]:=rd_ints9 (l:=[0]) (by rw [hWI3];exact heap_alloc_new V2 _) rfl (by rw [hWI3];unfold lt_;simp) (by decide)
 have BI3:=Lib.hid (bel_in BV2.out bi3)
 have BP3:=Lib.hid bi3
 have KF3:=Lib.hid (cof_any b exU11 [exHr] none 0 0 [] true (some ⟨V2.heap.size,0,none⟩) 1 1 [0] WI3 (HU.out _ BI3.out) UK11.out (rdRow_nil _ _) ri3 (by decide) (HE9.out _ BI3.out))
 rw [ex11_of true [0] ⟨0,0,1,0,0⟩ (by kernel_rfl),ex11_oe [0] (by kernel_rfl)] at KF3
 clear bi3 ri3
 go_wp2_with fail
 rw [←hWI3]
 clear hWI3
 refine KF3.out.mono ?_
 rintro e w13 ⟨rfl,hb⟩
 obtain ⟨V3,hV3⟩:∃V,V=w13.alloc (.cells #[.int .i64 0,.int .i64 0,.int .i64 1,.int .i64 0,.int .i64 0] 39):=⟨_,rfl⟩
 have bv3:Below w13.heap.size w13 V3:=by rw [hV3];exact (Below.refl _ w13).alloc (Nat.le_refl _) _
 have BV3:=Lib.hid (bel_in BI3.out (bel_in hb bv3))
 have BS3:=Lib.hid (bel_in BP3.out (bel_in hb bv3))
 have c3:V3.cell? ⟨w13.heap.size,0,none⟩=some (.int .i64 0)∧V3.cell? ⟨w13.heap.size,1,none⟩=some (.int .i64 0)∧V3.cell? ⟨w13.heap.size,2,none⟩=some (.int .i64 1)∧V3.cell? ⟨w13.heap.size,3,none⟩=some (.int .i64 0)∧V3.cell? ⟨w13.heap.size,4,none⟩=some (.int .i64 0):=by
  rw [hV3];refine ⟨?_,?_,?_,?_,?_⟩<;>simp [go_sem]
 have KX3:=Lib.hid (fun (W:World) (hx:Below V3.heap.size V3 W)=>(show W.cell? ⟨w13.heap.size,0,none⟩=some (.int .i64 0)∧W.cell? ⟨w13.heap.size,1,none⟩=some (.int .i64 0)∧W.cell? ⟨w13.heap.size,2,none⟩=some (.int .i64 1)∧W.cell? ⟨w13.heap.size,3,none⟩=some (.int .i64 0)∧W.cell? ⟨w13.heap.size,4,none⟩=some (.int .i64 0) from ⟨keep6 hx c3.1,keep6 hx c3.2.1,keep6 hx c3.2.2.1,keep6 hx c3.2.2.2.1,keep6 hx c3.2.2.2.2⟩))
 go_upto_region 9 with fail
 rw [←hV3]
 clear hV3 hb bv3 c3 KF3
 generalize w13.heap.size=p3 at *
 have KW:=Lib.hid (cwgt_any b exU11 [exHr] none 0 0 [] false V3 (HU.out _ BV3.out) (rdRow_nil _ _) UK11.out.ins UK11.out.one UK11.out.uf.nm)
 rw [ex11_wg,show wgE []=0 by kernel_rfl] at KW
 go_wp2_with fail
 refine KW.out.mono ?_
 rintro e w20 ⟨⟨Aw,cw,rfl,hrw⟩,hb⟩
 have B20:=Lib.hid (bel_in BV3.out hb)
 have Q20:=Lib.hid hb
 have RW:=Lib.hid (fun (W:World) (hx:Below w20.heap.size w20 W)=>(rdCs_good.up (rdCs_good.below hrw hx) hx.size:rdCs W (lt_ W.heap.size) exWg [.slice Aw exWg.length cw]))
 clear hb hrw KW
 obtain ⟨a00,a01,a02,a03,a04⟩:=KX0.out w20 (bel_in BS1.out (bel_in BS2.out (bel_in BS3.out Q20.out)))
 obtain ⟨a10,a11,a12,a13,a14⟩:=KX1.out w20 (bel_in BS2.out (bel_in BS3.out Q20.out))
 obtain ⟨a20,a21,a22,a23,a24⟩:=KX2.out w20 (bel_in BS3.out Q20.out)
 obtain ⟨a30,a31,a32,a33,a34⟩:=KX3.out w20 Q20.out
 have heq0:∀W,(Op.equalIn 10000 39 (.agg #[.int .i64 0,.int .i64 0,.int .i64 0,.int .i64 0,.int .i64 0]) (.agg #[.int .i64 0,.int .i64 0,.int .i64 0,.int .i64 0,.int .i64 0])).run Tryz.prog W=.ok true W:=fun W=>by have:=eqC_any ⟨0,0,0,0,0⟩ ⟨0,0,0,0,0⟩ W;rwa [decide_eq_true rfl] at this
 have heq1:∀W,(Op.equalIn 10000 39 (.agg #[.int .i64 0,.int .i64 0,.int .i64 1,.int .i64 0,.int .i64 1]) (.agg #[.int .i64 0,.int .i64 0,.int .i64 1,.int .i64 0,.int .i64 1])).run Tryz.prog W=.ok true W:=fun W=>by have:=eqC_any ⟨0,0,1,0,1⟩ ⟨0,0,1,0,1⟩ W;rwa [decide_eq_true rfl] at this
 have heq2:∀W,(Op.equalIn 10000 39 (.agg #[.int .i64 1,.int .i64 0,.int .i64 0,.int .i64 0,.int .i64 0]) (.agg #[.int .i64 1,.int .i64 0,.int .i64 0,.int .i64 0,.int .i64 0])).run Tryz.prog W=.ok true W:=fun W=>by have:=eqC_any ⟨1,0,0,0,0⟩ ⟨1,0,0,0,0⟩ W;rwa [decide_eq_true rfl] at this
 have heq3:∀W,(Op.equalIn 10000 39 (.agg #[.int .i64 0,.int .i64 0,.int .i64 1,.int .i64 0,.int .i64 0]) (.agg #[.int .i64 0,.int .i64 0,.int .i64 1,.int .i64 0,.int .i64 0])).run Tryz.prog W=.ok true W:=fun W=>by have:=eqC_any ⟨0,0,1,0,0⟩ ⟨0,0,1,0,0⟩ W;rwa [decide_eq_true rfl] at this
 obtain ⟨WM,hWM⟩:∃W,W=w20.alloc (.cells #[.int .i64 0,.int .i64 0,.int .i64 0,.int .i64 0,.int .i64 0,.int .i64 0,.int .i64 0,.int .i64 1,.int .i64 0,.int .i64 0,.int .i64 0,.int .i64 0,.int .i64 0,.int .i64 0,.int .i64 1] 39):=⟨_,rfl⟩
 have bm:Below w20.heap.size w20 WM:=by rw [hWM];exact (Below.refl _ w20).alloc (Nat.le_refl _) _
 have rm:rdCs WM (lt_ WM.heap.size) exWg [.slice (some ⟨w20.heap.size,0,none⟩) 3 3]:=rd_costs3 (by rw [hWM];exact heap_alloc_new w20 _) rfl (by rw [hWM];unfold lt_;simp)
 have KS:=Lib.hid (sameCosts11_any Aw (some ⟨w20.heap.size,0,none⟩) exWg.length cw 3 3 exWg exWg WM (RW.out _ bm) rm)
 rw [decide_eq_true rfl] at KS
 have BM:=Lib.hid (bel_in B20.out bm)
 clear bm rm RW
 go_wp2_with fail
 rw [←hWM]
 clear hWM a00 a01 a02 a03 a04 a10 a11 a12 a13 a14 a20 a21 a22 a23 a24 a30 a31 a32 a33 a34
 refine KS.out.mono ?_
 rintro e w21 ⟨rfl,hb⟩
 have B21:=Lib.hid (bel_in BM.out hb)
 clear hb KS
 have KB:=Lib.hid (cbehind_any b exU11 [exHr] none 0 0 [] 0 w21 (HU.out _ B21.out) (rdRow_nil _ _) UK11.out.uf.nm)
 rw [ex11_bh] at KB
 go_wp2_with fail
 refine KB.out.mono ?_
 rintro e w22 ⟨rfl,hb⟩
 have FIN:=Lib.hid (bel_in B9.out (bel_in B21.out hb))
 clear hb KB
 go_wp2
 go_ret
 exact ⟨by first|rfl|simp,FIN.out⟩
end Go.Proofs.YtpilmhoakopcaaaGreatDoor
