/- What the laws rest on: E11o. -/
import Derived.Test.YtpilmhoakopcaaaGreatDoorQBEZA
set_option maxRecDepth 100000
set_option linter.unusedVariables false
set_option linter.unusedSimpArgs false
namespace Go.Proofs.YtpilmhoakopcaaaGreatDoor
open Go.RowKit Go.Sort
theorem any_take11 {α:Type} {f:α→Bool} {l:List α} {k:Nat} (h:k < l.length):(l.take (k+1)).any f=((l.take k).any f||f l[k]):=by
 rw [List.take_succ_eq_append_getElem h,List.any_append];simp
def b2K (U:List Ent) (here:List Int) (pn:List Pn) (l:List Int) (up:Bool) (k:Nat):Int:=if up=true then ((l.take k).map (bhd U here pn)).sum else ((here.filter fun p=>smU U l p&&!l.contains p).length:Nat)
def b4K (U:List Ent) (here l:List Int) (k:Nat):Nat:=((l.take k).filter fun p=>decide (inP U here (entA U p).n < 0)).length
theorem b2K_step {U:List Ent} {here:List Int} {pn:List Pn} {l:List Int} {up:Bool} {k:Nat} (h:k < l.length):b2K U here pn l up (k+1)=if up=true then b2K U here pn l up k+bhd U here pn l[k] else b2K U here pn l up k:=by
 unfold b2K
 cases up
 ·rfl
 ·rw [if_pos rfl,if_pos rfl,if_pos rfl];exact sum_take h
theorem b4K_step {U:List Ent} {here l:List Int} {k:Nat} (h:k < l.length):b4K U here l (k+1)=b4K U here l k+(if decide (inP U here (entA U l[k]).n < 0)=true then 1 else 0):=filN_take h
theorem b4K_le (U:List Ent) (here l:List Int) (k:Nat):b4K U here l k≤l.length:=by
 unfold b4K
 refine Nat.le_trans (List.length_filter_le _ _) ?_
 rw [List.length_take];omega
theorem b2K_le {U:List Ent} {here:List Int} {pn:List Pn} (hU:U.length≤200) {l:List Int} (hl:l.length≤1000) (hh:here.length≤200) (up:Bool) (k:Nat):0≤b2K U here pn l up k∧b2K U here pn l up k≤200000:=by
 have:=sum_up (f:=bhd U here pn) (M:=200) (l:=l.take k) fun x _=>⟨bhd_ge U here pn x,by have:=bhd_le (U:=U) (here:=here) (pn:=pn) x;omega⟩
 have h2:(l.take k).length≤l.length:=by rw [List.length_take];omega
 have h3:(l.take k).length*200≤1000*200:=Nat.mul_le_mul_right _ (by omega)
 have h4:=List.length_filter_le (fun p=>smU U l p&&!l.contains p) here
 unfold b2K
 split<;>omega
theorem b2K_zero {U:List Ent} {here:List Int} {pn:List Pn} {l:List Int} {up:Bool}:((a2K U here l up here.length:Nat):Int)=b2K U here pn l up 0:=by
 unfold a2K b2K
 cases up
 ·rw [if_neg (by decide),if_neg (by decide),List.take_length]
 ·rw [if_pos rfl,if_pos rfl];rfl
theorem ofC_is (U:List Ent) (here:List Int) (pn:List Pn) (up:Bool) (l:List Int):ofC U here pn up l=⟨(a0K U here l here.length:Nat),b1K U pn l l.length,b2K U here pn l up l.length,(wnS U l l:Int),(b4K U here l l.length:Nat)⟩:=by
 unfold ofC a0K b1K b2K b4K c0S c1S c2S c4S
 rw [List.take_length,List.take_length]
theorem ofA_is {U:List Ent} {here:List Int} {pn:List Pn} {up:Bool} {l:List Int} (h:setB U.length l=true∧pn.all rgtN=true):ofA U here pn up l=⟨(a0K U here l here.length:Nat),b1K U pn l l.length,b2K U here pn l up l.length,(wnS U l l:Int),(b4K U here l l.length:Nat)⟩:=by
 unfold ofA
 rw [if_pos h]
 exact ofC_is U here pn up l
theorem smU_take {U:List Ent} {l:List Int} {p:Int} {q:Nat} (h:q < l.length):smU U (l.take (q+1)) p=(smU U (l.take q) p||decide ((entA U l[q]).n=(entA U p).n)):=any_take11 h
set_option maxHeartbeats 32000000 in
theorem q11of_any (b:Nat) (U:List Ent) (m:List Hr) (A:Option Addr) (np c:Nat) (pn:List Pn) (up:Bool) (Al:Option Addr) (nl cl:Nat) (l:List Int) (w:World) (h:UR w b U m) (hpn:rdPns w (lt_ w.heap.size) pn [.slice A np c]) (hl:rdInts w (lt_ w.heap.size) l [.slice Al nl cl]) (hn:l.length≤1000) (hm:m.length≤200) (hU:U.length≤200) (hs:SetP U.length (insU U m)) (hv:∀x ∈ U,x.v.size≤1000000) (hp:∀x ∈ U,x.p.length≤1000) (hr:∀x ∈ U,x.r.length≤15) (hz:∀x ∈ pn,x.n.size≤65536∧x.x.size≤maxLen) :
  Calls Tryz.prog 16 #[.pointer (some ⟨b,0,none⟩),.slice A np c,.bool up,.slice Al nl cl] w fun e w'=>e=.returned (.tuple #[(ofA U (insU U m) pn up l).val,.int .i64 (ofE U pn l)])∧Below w.heap.size w w':=by
 have mixed:Tryz.prog.follows .mixedOrders=true:=by kernel_rfl
 obtain ⟨W0,hW0⟩:∃W,W=w.alloc (.cells #[.int .i64 0,.int .i64 0,.int .i64 0,.int .i64 0,.int .i64 0] 39):=⟨_,rfl⟩
 have b0:Below w.heap.size w W0:=by rw [hW0];exact (Below.refl _ w).alloc (Nat.le_refl _) _
 have z0:W0.heap[w.heap.size]?=some (.cells #[.int .i64 0,.int .i64 0,.int .i64 0,.int .i64 0,.int .i64 0] 39 (0,0)):=by rw [hW0];exact heap_alloc_new w _
 have K0:=Lib.hid (q10set_any b U m Al nl cl l W0 (h.below b0) (rdInts_good.up (rdInts_good.below hl b0) b0.size))
 have KR:=Lib.hid (fun (W:World) (hb:Below w.heap.size w W)=>q11right_any A np c pn W (rdPns_good.up (rdPns_good.below hpn hb) hb.size) hz)
 have KI:=Lib.hid (fun (W:World) (hb:Below w.heap.size w W)=>q9instO_any b U m W (h.below hb) hm)
 have KS:=Lib.hid (fun (n:ByteArray) (W:World) (hb:Below w.heap.size w W)=>q11inst_any b U m n W (h.below hb) hm hs)
 have KL:=Lib.hid (fun (hB:Bd8 pn) (p:Int) (h0:0≤p) (h1:p < (U.length:Int)) (W:World) (hb:Below w.heap.size w W)=>q11loss_any b U m A np c pn p W (h.below hb) (rdPns_good.up (rdPns_good.below hpn hb) hb.size) h0 h1 hU hv (fun x hx=>(hz x hx).2) hB)
 have KB:=Lib.hid (fun (p:Int) (W:World) (hb:Below w.heap.size w W)=>q11behind_any b U m A np c pn p W (h.below hb) (rdPns_good.up (rdPns_good.below hpn hb) hb.size) hm hU hv (fun x hx=>(hz x hx).2))
 have KW:=Lib.hid (fun (W:World) (hb:Below w.heap.size w W)=>q11want_any b U m Al nl cl l W (h.below hb) (rdInts_good.up (rdInts_good.below hl hb) hb.size) hn hp hr)
 have KH:=Lib.hid (fun (p:Int) (W:World) (hb:Below w.heap.size w W)=>q11has_any Al nl cl l p W (rdInts_good.up (rdInts_good.below hl hb) hb.size))
 obtain ⟨rfl,hlc,hlm,-⟩:=rdInts_at hl
 have hlm':cl≤9223372036854775807:=hlm
 have HL:=Lib.hid (fun (W:World) (hb:Below w.heap.size w W)=>(rdInts_at (rdInts_good.up (rdInts_good.below hl hb) hb.size)).2.2.2)
 obtain ⟨Au,cu,Av,cv,h1,-,h3,-⟩:=h
 obtain ⟨-,huc,hum,-⟩:=rdEnts_at h3
 have hum':cu≤9223372036854775807:=hum
 have HU1:=Lib.hid h1
 have HU:=Lib.hid (fun (W:World) (hb:Below w.heap.size w W)=>(rdEnts_at (rdEnts_good.both (w':=W) (S':=lt_ W.heap.size) h3 (fun k hk=>hb.block k hk.1) (fun k hk=>Nat.lt_of_lt_of_le hk.1 hb.size))).2.2.2)
 clear h1 h3 hum hl hlm hv hp hr hz hpn
 have HLN:=Lib.hid (show (insU U m).length≤200 by unfold insU;rw [List.length_map];exact hm)
 generalize insU U m=here at *
 have B0:=Lib.hid b0
 have Z0:=Lib.hid z0
 go_enter Tryz.func16,Tryz.ntmps16
 go_upto_region 1 with fail
 rw [←hW0]
 clear hW0 b0 z0
 go_wp2_with fail
 refine K0.out.mono ?_
 rintro e w1 ⟨rfl,hb⟩
 have B1:=Lib.hid (bel_in B0.out hb)
 have Z1:=Lib.hid ((hb.block _ (show w.heap.size < W0.heap.size from lt_of_heap Z0.out)).trans Z0.out)
 clear hb K0 Z0
 go_wp2_with fail
 refine (KR.out w1 B1.out).mono ?_
 rintro e w2 ⟨rfl,hb⟩
 have B2:=Lib.hid (bel_in B1.out hb)
 have Z2:=Lib.hid ((hb.block _ (show w.heap.size < w1.heap.size from lt_of_heap Z1.out)).trans Z1.out)
 clear hb KR Z1
 by_cases hboth:setB U.length l=true∧pn.all rgtN=true
 rotate_left
 ·have XA:=Lib.hid (show ofA U here pn up l=zC by unfold ofA;rw [if_neg hboth])
  have XE:=Lib.hid (show ofE U pn l=1 by unfold ofE;rw [if_neg hboth])
  generalize setB U.length l=s1 at *
  generalize pn.all rgtN=s2 at *
  obtain ⟨V,hV,d0,d1,d2,d3,d4,bV⟩:=fin5 (y:=zC) B2.out (Nat.le_refl _) Z2.out
  have r0:=blk5_cell Z2.out 0
  have r1:=blk5_cell Z2.out 1
  have r2:=blk5_cell Z2.out 2
  have r3:=blk5_cell Z2.out 3
  have r4:=blk5_cell Z2.out 4
  have fr0:=blk5_frozen Z2.out 0
  have fr1:=blk5_frozen Z2.out 1
  have fr2:=blk5_frozen Z2.out 2
  have fr3:=blk5_frozen Z2.out 3
  have fr4:=blk5_frozen Z2.out 4
  simp only [zC] at hV d0 d1 d2 d3 d4
  simp at r0 r1 r2 r3 r4
  clear KI KS KL KB KW KH HL HU HU1 hs
  cases s1
  ·go_wp2
   rw [←hV]
   clear hV r0 r1 r2 r3 r4 fr0 fr1 fr2 fr3 fr4
   exact bodyPost_ret (v:=.tuple #[.agg #[.int .i64 0,.int .i64 0,.int .i64 0,.int .i64 0,.int .i64 0],.int .i64 1]) (by simp [results,Tryz.results16,go_sem,d0,d1,d2,d3,d4]) rfl ⟨by rw [XA.out,XE.out];rfl,bV⟩
  ·cases s2
   ·go_wp2
    rw [←hV]
    clear hV r0 r1 r2 r3 r4 fr0 fr1 fr2 fr3 fr4
    exact bodyPost_ret (v:=.tuple #[.agg #[.int .i64 0,.int .i64 0,.int .i64 0,.int .i64 0,.int .i64 0],.int .i64 1]) (by simp [results,Tryz.results16,go_sem,d0,d1,d2,d3,d4]) rfl ⟨by rw [XA.out,XE.out];rfl,bV⟩
   ·exact absurd ⟨rfl,rfl⟩ hboth
 obtain ⟨hset,hrt⟩:=hboth
 have XA:=Lib.hid (ofA_is (here:=here) (up:=up) ⟨hset,hrt⟩)
 have XE:=Lib.hid (show ofE U pn l=0 by unfold ofE;rw [if_pos ⟨hset,hrt⟩])
 have SP:SetP U.length l:=of_decide_eq_true hset
 have SL:=Lib.hid SP.1
 have HS:=Lib.hid hs.1
 have XW:=Lib.hid (wnt_set hset)
 obtain ⟨rb1,rb2⟩:=rgt_bd hrt
 have KL:=Lib.hid (KL.out rb2)
 have L1:=Lib.hid (fun k=>b1K_le (U:=U) rb1 (l:=l) hn k)
 have L2:=Lib.hid (fun k=>b2K_le (U:=U) (here:=here) (pn:=pn) hU hn HLN.out up k)
 rw [hset,hrt]
 clear hset hrt SP rb1 rb2 hs
 obtain ⟨W5,hW5⟩:∃W,W=w2.alloc (.cells #[.int .i64 0,.int .i64 0,.int .i64 0,.int .i64 0,.int .i64 0] 39):=⟨_,rfl⟩
 have b5:Below w2.heap.size w2 W5:=by rw [hW5];exact (Below.refl _ w2).alloc (Nat.le_refl _) _
 have B5:=Lib.hid (bel_in B2.out b5)
 have C5':=Lib.hid (show W5.heap[w2.heap.size]?=some (.cells #[.int .i64 0,.int .i64 0,.int .i64 0,.int .i64 0,.int .i64 0] 39 (0,0)) by rw [hW5];exact heap_alloc_new w2 _)
 have Z5':=Lib.hid ((b5.block _ (show w.heap.size < w2.heap.size from lt_of_heap Z2.out)).trans Z2.out)
 have NB:=Lib.hid (show w.heap.size < w2.heap.size from lt_of_heap Z2.out)
 clear b5 Z2
 go_upto_region 6 with fail
 rw [←hW5]
 clear hW5
 go_wp2_with fail
 refine (KI.out W5 B5.out).mono ?_
 rintro e w3 ⟨⟨Ah,ch,rfl,hrr⟩,hb⟩
 obtain ⟨-,hhc,hhm,-⟩:=rdInts_at hrr
 have hhm':ch≤9223372036854775807:=hhm
 have LT5:=lt_of_heap C5'.out
 have B3:=Lib.hid (bel_in B5.out hb)
 have BX3:=Lib.hid (show Bx w3 w2.heap.size w3 zC from ⟨Pst.refl _ _,(hb.block _ LT5).trans C5'.out⟩)
 have Z3:=Lib.hid ((hb.block _ (show w.heap.size < W5.heap.size by have:=NB.out;omega)).trans Z5'.out)
 have HBW:=Lib.hid (fun (W:World) (x:C5) (hx:Bx w3 w2.heap.size W x)=>hx.base B3.out (Nat.le_of_lt NB.out))
 have HZ:=Lib.hid (fun (W:World) (x:C5) (hx:Bx w3 w2.heap.size W x)=>hx.old Z3.out (show w.heap.size≠w2.heap.size by have:=NB.out;omega))
 have HR:=Lib.hid (fun (W:World) (x:C5) (hx:Bx w3 w2.heap.size W x)=>(rdInts_at (hx.keep rdInts_good hrr fun k hk=>⟨hk.2,by have:=hk.1;omega⟩)).2.2.2)
 generalize w2.heap.size=cb at *
 clear hb hrr hhm KI C5' Z5' Z3 B5 B3 B2 B1 B0 LT5
 have Z00:=Lib.hid (show Bx w3 cb w3 ⟨((a0K U here l 0:Nat):Int),0,((a2K U here l up 0:Nat):Int),0,0⟩ from by
  have e0:a0K U here l 0=0:=rfl
  have e2:a2K U here l up 0=0:=by unfold a2K;split<;>rfl
  rw [e0,e2];exact BX3.out)
 clear BX3
 go_wp2
 go_loopw [14] (fun i wr=>∃k:Nat,k≤here.length∧i=.int .i64 k∧Bx w3 cb wr ⟨((a0K U here l k:Nat):Int),0,((a2K U here l up k:Nat):Int),0,0⟩) (fun i _=>here.length - (intOf i).toNat)
 case atStart=>exact ⟨0,Nat.zero_le _,rfl,Z00.out⟩
 case round=>
  obtain ⟨k,hk,rfl,hbx⟩:=hrel
  have HX:=Lib.hid hbx
  clear hbx
  have l0:=a0K_le U here l k
  have l2:=a2K_le U here l up k
  have hln:=HLN.out
  by_cases hlt:k < here.length
  ·obtain ⟨s0,s1⟩:=HS.out _ (List.getElem_mem hlt)
   have S0:=Lib.hid (a0K_step (U:=U) (l:=l) hlt)
   have S2:=Lib.hid (a2K_step (U:=U) (l:=l) (up:=up) hlt)
   have SF:=Lib.hid (show smU U l here[k]=smU U (l.take l.length) here[k] by rw [List.take_length])
   have HRk:=Lib.hid (fun (W:World) (x:C5) (hx:Bx w3 cb W x)=>HR.out W x hx k hlt)
   obtain ⟨i,hi⟩:=Int.eq_ofNat_of_zero_le s0
   have KHk:=Lib.hid (fun (W:World) (hb:Below w.heap.size w W)=>KH.out here[k] W hb)
   rw [hi] at s1 SF HRk S0 S2 KHk
   have hil:i < U.length:=by omega
   have SM:=Lib.hid (fun (q:Nat) (hq:q < l.length)=>show smU U (l.take (q+1)) (i:Int)=(smU U (l.take q) (i:Int)||decide ((entA U l[q]).n=U[i].n)) from by
    have:=smU_take (U:=U) (p:=(i:Int)) hq
    rwa [entA_at hil] at this)
   have i0:(0:Int)≤(k:Int):=by omega
   have i1:(k:Int) < (here.length:Int):=by omega
   have j0:(0:Int)≤(i:Int):=by omega
   have j1:(i:Int) < (U.length:Int):=by omega
   clear hi s0
   generalize hg0:a0K U here l (k+1)=n0 at *
   have G0:=Lib.hid hg0
   clear hg0
   generalize hg2:a2K U here l up (k+1)=n2 at *
   have G2:=Lib.hid hg2
   clear hg2
   generalize a0K U here l k=m0 at *
   generalize a2K U here l up k=m2 at *
   go_wp2
   go_loopw [15,16] (fun v i2 wr=>∃q:Nat,q≤l.length∧i2=.int .i64 q∧v=.bool (smU U (l.take q) (i:Int))∧Bx w3 cb wr ⟨(m0:Int),0,(m2:Int),0,0⟩) (fun _ i _=>l.length - (intOf i).toNat)
   case atStart=>exact ⟨0,Nat.zero_le _,rfl,rfl,HX.out⟩
   case round=>
    obtain ⟨q,hq,rfl,rfl,hbx⟩:=hrel
    have HQ:=Lib.hid hbx
    have HQW:=Lib.hid (HBW.out _ _ hbx)
    clear hbx
    by_cases hqlt:q < l.length
    ·obtain ⟨adl,rfl,-,c0⟩:=HL.out wr HQW.out q hqlt
     obtain ⟨adh,rfl,-,c1⟩:=HRk.out wr _ HQ.out
     obtain ⟨t0,t1⟩:=SL.out _ (List.getElem_mem hqlt)
     have T1:=Lib.hid (SM.out q hqlt)
     obtain ⟨j,hj⟩:=Int.eq_ofNat_of_zero_le t0
     rw [hj] at c0 t1 T1
     have hjl:j < U.length:=by omega
     rw [entA_at hjl] at T1
     obtain ⟨adu,D1,d1,D2,d2,D3,d3,D4,d4,rfl,-,-,u0,-⟩:=HU.out wr HQW.out j hjl
     obtain ⟨adu',E1,e1,E2,e2,E3,e3,E4,e4,e0,-,-,u1,-⟩:=HU.out wr HQW.out i hil
     obtain rfl:adu=adu':=Option.some.inj e0
     have b0:=keep6 HQW.out HU1.out
     have q0:(0:Int)≤(q:Int):=by omega
     have q1:(q:Int) < (l.length:Int):=by omega
     have p0:(0:Int)≤(j:Int):=by omega
     have p1:(j:Int) < (U.length:Int):=by omega
     have z0:=fun dd os=>cell_regrown (w:=wr) c0 dd os
     have z1:=fun dd os=>cell_regrown (w:=wr) c1 dd os
     have v0:=fun dd os=>cell_regrown (w:=wr) u0 dd os
     have v1:=fun dd os=>cell_regrown (w:=wr) u1 dd os
     have zb:=fun dd os=>cell_regrown (w:=wr) b0 dd os
     have BD:=Lib.hid (fun dd os=>below_regrown wr dd os)
     have en:=str_eq U[j].n U[i].n
     generalize U[j]=y at *
     generalize U[i]=x at *
     generalize hgs:smU U (l.take (q+1)) (i:Int)=s2 at *
     have GS:=Lib.hid hgs
     clear hgs
     generalize smU U (l.take q) (i:Int)=sv at *
     clear hj t0 c0 c1 u0 u1 b0 e0
     by_cases he:y.n=x.n
     ·rw [decide_eq_true he] at en T1
      clear he
      cases sv
      ·skip
       go_wp2_with fail
       refine wp_region_quiet_below mixed (by kernel_rfl) ?_
       repeat (go_big_quiet_step (fail))
       refine wpQuiet_nil ?_
       intro W3 hw3
       have BX:=Lib.hid (show Below wr.heap.size wr W3 from by obtain ⟨pp,e⟩:=hw3;rw [e];exact BD.out pp.d pp.os)
       have HQ3:=Lib.hid (HQ.out.call BX.out)
       have NX:=Lib.hid (show s2=true by rw [T1.out];rfl)
       clear hw3 BD z0 z1 v0 v1 zb en
       go_wp2
       go_roundw
       case rel=>exact ⟨q+1,by omega,by go_num,by rw [GS.out,NX.out],HQ3.out⟩
       case measure=>simp [intOf];omega
      ·skip
       go_wp2_with fail
       refine wp_region_quiet_below mixed (by kernel_rfl) ?_
       repeat (go_big_quiet_step (fail))
       refine wpQuiet_nil ?_
       intro W3 hw3
       have BX:=Lib.hid (show Below wr.heap.size wr W3 from by obtain ⟨pp,e⟩:=hw3;rw [e];exact BD.out pp.d pp.os)
       have HQ3:=Lib.hid (HQ.out.call BX.out)
       have NX:=Lib.hid (show s2=true by rw [T1.out];rfl)
       clear hw3 BD z0 z1 v0 v1 zb en
       go_wp2
       go_roundw
       case rel=>exact ⟨q+1,by omega,by go_num,by rw [GS.out,NX.out],HQ3.out⟩
       case measure=>simp [intOf];omega
     ·rw [decide_eq_false he] at en T1
      clear he
      cases sv
      ·skip
       go_wp2_with fail
       refine wp_region_quiet_below mixed (by kernel_rfl) ?_
       repeat (go_big_quiet_step (fail))
       refine wpQuiet_nil ?_
       intro W3 hw3
       have BX:=Lib.hid (show Below wr.heap.size wr W3 from by obtain ⟨pp,e⟩:=hw3;rw [e];exact BD.out pp.d pp.os)
       have HQ3:=Lib.hid (HQ.out.call BX.out)
       have NX:=Lib.hid (show s2=false by rw [T1.out];rfl)
       clear hw3 BD z0 z1 v0 v1 zb en
       go_wp2
       go_roundw
       case rel=>exact ⟨q+1,by omega,by go_num,by rw [GS.out,NX.out],HQ3.out⟩
       case measure=>simp [intOf];omega
      ·skip
       go_wp2_with fail
       refine wp_region_quiet_below mixed (by kernel_rfl) ?_
       repeat (go_big_quiet_step (fail))
       refine wpQuiet_nil ?_
       intro W3 hw3
       have BX:=Lib.hid (show Below wr.heap.size wr W3 from by obtain ⟨pp,e⟩:=hw3;rw [e];exact BD.out pp.d pp.os)
       have HQ3:=Lib.hid (HQ.out.call BX.out)
       have NX:=Lib.hid (show s2=true by rw [T1.out];rfl)
       clear hw3 BD z0 z1 v0 v1 zb en
       go_wp2
       go_roundw
       case rel=>exact ⟨q+1,by omega,by go_num,by rw [GS.out,NX.out],HQ3.out⟩
       case measure=>simp [intOf];omega
    ·obtain rfl:q=l.length:=by omega
     have q1:¬(l.length:Int) < (l.length:Int):=by omega
     rw [←SF.out]
     have KC:=Lib.hid (KHk.out)
     obtain ⟨adh,rfl,-,c1⟩:=HRk.out wr _ HQ.out
     obtain ⟨x0,x1,x2,x3,x4⟩:=HQ.out.cells
     have xf0:=HQ.out.free 0
     have xf1:=HQ.out.free 1
     have xf2:=HQ.out.free 2
     have xf3:=HQ.out.free 3
     have xf4:=HQ.out.free 4
     simp only at x0 x1 x2 x3 x4
     generalize smU U l (i:Int)=sv at *
     cases sv
     ·have N0:=Lib.hid (show n0=m0+1 by rw [S0.out];rfl)
      have N2:=Lib.hid (show n2=m2 by rw [S2.out];rfl)
      have FIN:=Lib.hid (show Bx w3 cb (wr.setCell ⟨cb,0,none⟩ (.int .i64 ((m0:Int)+1))) ⟨(n0:Int),0,(n2:Int),0,0⟩ from by
       have:=HQ.out.set0 ((m0:Int)+1)
       rw [N0.out,N2.out];exact this)
      go_wp2
      go_roundw
      case rel=>exact ⟨k+1,by omega,by go_num,by rw [G0.out,G2.out];exact FIN.out⟩
      case measure=>simp [intOf];omega
     ·have N0:=Lib.hid (show n0=m0 by rw [S0.out];rfl)
      go_wp2_with fail
      refine (KC.out wr HQW.out).mono ?_
      rintro e w6 ⟨rfl,rfl⟩
      generalize l.contains (i:Int)=ct at *
      cases ct
      ·cases up
       ·have N2:=Lib.hid (show n2=m2+1 by rw [S2.out];rfl)
        have FIN:=Lib.hid (show Bx w3 cb (wr.setCell ⟨cb,2,none⟩ (.int .i64 ((m2:Int)+1))) ⟨(n0:Int),0,(n2:Int),0,0⟩ from by
         have:=HQ.out.set2 ((m2:Int)+1)
         rw [N0.out,N2.out];exact this)
        go_wp2
        go_roundw
        case rel=>exact ⟨k+1,by omega,by go_num,by rw [G0.out,G2.out];exact FIN.out⟩
        case measure=>simp [intOf];omega
       ·have N2:=Lib.hid (show n2=m2 by rw [S2.out];rfl)
        go_wp2
        go_roundw
        case rel=>exact ⟨k+1,by omega,by go_num,by rw [G0.out,G2.out,N0.out,N2.out];exact HQ.out⟩
        case measure=>simp [intOf];omega
      ·have N2:=Lib.hid (show n2=m2 by rw [S2.out];rfl)
       go_wp2
       go_roundw
       case rel=>exact ⟨k+1,by omega,by go_num,by rw [G0.out,G2.out,N0.out,N2.out];exact HQ.out⟩
       case measure=>simp [intOf];omega
  ·obtain rfl:k=here.length:=by omega
   have j1:¬(here.length:Int) < (here.length:Int):=by omega
   have START:=Lib.hid (show Bx w3 cb wr ⟨((a0K U here l here.length:Nat):Int),b1K U pn l 0,b2K U here pn l up 0,0,((b4K U here l 0:Nat):Int)⟩ from by
    rw [←b2K_zero];exact HX.out)
   have BS1:=Lib.hid (fun (k:Nat) (hk:k < l.length)=>b1K_step (U:=U) (pn:=pn) hk)
   have BS2:=Lib.hid (fun (k:Nat) (hk:k < l.length)=>b2K_step (U:=U) (here:=here) (pn:=pn) (up:=up) hk)
   have BS4:=Lib.hid (fun (k:Nat) (hk:k < l.length)=>b4K_step (U:=U) (here:=here) hk)
   have L4:=Lib.hid (fun k=>b4K_le U here l k)
   clear HX
   generalize a0K U here l here.length=A0 at *
   go_wp2
   go_loopw [17] (fun i wr=>∃k:Nat,k≤l.length∧i=.int .i64 k∧Bx w3 cb wr ⟨(A0:Int),b1K U pn l k,b2K U here pn l up k,0,((b4K U here l k:Nat):Int)⟩) (fun i _=>l.length - (intOf i).toNat)
   case atStart=>exact ⟨0,Nat.zero_le _,rfl,START.out⟩
   case round=>
    clear START
    obtain ⟨k,hk,rfl,hbx⟩:=hrel
    have HX:=Lib.hid hbx
    have HXW:=Lib.hid (HBW.out _ _ hbx)
    clear hbx
    obtain ⟨l1,l1'⟩:=L1.out k
    obtain ⟨l2,l2'⟩:=L2.out k
    have l4:=L4.out k
    by_cases hlt:k < l.length
    ·obtain ⟨adl,rfl,-,c0⟩:=HL.out wr HXW.out k hlt
     obtain ⟨t0,t1⟩:=SL.out _ (List.getElem_mem hlt)
     have T1:=Lib.hid (BS1.out k hlt)
     have T2:=Lib.hid (BS2.out k hlt)
     have T4:=Lib.hid (BS4.out k hlt)
     have CL:=Lib.hid (fun (W:World) (hb:Below w.heap.size w W)=>(show W.cell? (adl.add k)=some (.int .i64 l[k]) from by
      obtain ⟨ad',e1,-,c0⟩:=HL.out W hb k hlt
      obtain rfl:adl=ad':=Option.some.inj e1
      exact c0))
     obtain ⟨g1,g1'⟩:=L1.out (k+1)
     obtain ⟨g2,g2'⟩:=L2.out (k+1)
     have g4:=L4.out (k+1)
     obtain ⟨j,hj⟩:=Int.eq_ofNat_of_zero_le t0
     rw [hj] at c0 t1 T1 T2 T4 CL
     have hjl:j < U.length:=by omega
     rw [entA_at hjl] at T4
     have KLj:=Lib.hid (fun (W:World) (hb:Below w.heap.size w W)=>KL.out (j:Int) (by omega) t1 W hb)
     have KBj:=Lib.hid (fun (W:World) (hb:Below w.heap.size w W)=>KB.out (j:Int) W hb)
     have KSj:=Lib.hid (fun (W:World) (hb:Below w.heap.size w W)=>KS.out U[j].n W hb)
     obtain ⟨adu,D1,d1,D2,d2,D3,d3,D4,d4,ea,-,-,u0,-⟩:=HU.out wr HXW.out j hjl
     have CU:=Lib.hid (fun (W:World) (hb:Below w.heap.size w W)=>(show W.cell? ⟨b,0,none⟩=some (.slice (some adu) U.length cu)∧W.cell? (adu.add (j*6))=some (.string U[j].n) from by
      obtain ⟨ad',F1,f1,F2,f2,F3,f3,F4,f4,e1,-,-,u0,-⟩:=HU.out W hb j hjl
      obtain rfl:adu=ad':=Option.some.inj (ea.symm.trans e1)
      exact ⟨by rw [←ea];exact keep6 hb HU1.out,u0⟩))
     have q0:(0:Int)≤(k:Int):=by omega
     have q1:(k:Int) < (l.length:Int):=by omega
     have p0:(0:Int)≤(j:Int):=by omega
     have p1:(j:Int) < (U.length:Int):=by omega
     clear hj t0 c0 u0 ea
     generalize inP U here U[j].n=ip at *
     generalize U[j]=y at *
     generalize los U pn (j:Int)=lo at *
     generalize bhd U here pn (j:Int)=bh at *
     generalize hh1:b1K U pn l (k+1)=n1 at *
     have H1G:=Lib.hid hh1
     clear hh1
     generalize b1K U pn l k=m1 at *
     generalize hh2:b2K U here pn l up (k+1)=n2 at *
     have H2G:=Lib.hid hh2
     clear hh2
     generalize b2K U here pn l up k=m2 at *
     generalize hh4:b4K U here l (k+1)=n4 at *
     have H4G:=Lib.hid hh4
     clear hh4
     generalize b4K U here l k=m4 at *
     have KS1:=Lib.hid (fun (V:World) (hx:Bx w3 cb V ⟨(A0:Int),m1,m2,0,(m4:Int)⟩)=>(show V.cell? ⟨cb,1,none⟩=some (.int .i64 m1)∧V.frozen? ⟨cb,1,none⟩=false∧V.cell? (adl.add k)=some (.int .i64 (j:Int)) from ⟨hx.cells.2.1,hx.free 1,CL.out V (HBW.out _ _ hx)⟩))
     have KS2:=Lib.hid (fun (V:World) (hx:Bx w3 cb V ⟨(A0:Int),n1,m2,0,(m4:Int)⟩)=>(show V.cell? ⟨cb,2,none⟩=some (.int .i64 m2)∧V.frozen? ⟨cb,2,none⟩=false∧V.cell? (adl.add k)=some (.int .i64 (j:Int)) from ⟨hx.cells.2.2.1,hx.free 2,CL.out V (HBW.out _ _ hx)⟩))
     have e1:m1+lo=n1:=T1.out.symm
     go_wp2_with fail
     refine wp_region_noPanic ?_
     refine wp_region_D (fun W=>W.cell? ⟨cb,1,none⟩=some (.int .i64 m1)∧W.frozen? ⟨cb,1,none⟩=false∧W.cell? (adl.add k)=some (.int .i64 (j:Int))) 11 (by kernel_rfl) (w0:=wr) (Dr.refl _) (fun V hV=>KS1.out V (HX.out.call (hV.below _))) (fun V hV hHeld=>?_)
     have BV:=Lib.hid (HX.out.call (hV.below _))
     clear hV
     refine wpAnyL_take (i:=0) (v:=?_) [10] rfl (by kernel_rfl) (by kernel_rfl) (by kernel_rfl) (fun _ _ _ h=>h) (by kernel_rfl) (by kernel_rfl) (by kernel_rfl) (Or.inl ⟨by rfl,?_⟩) (by assumption) ?_
     rotate_left
     ·intro w hSw
      try dsimp only at hSw
      go_simp
      first|done|with_reducible rfl
     try simp only [Act.put,List.setIfInBounds_toArray,List.set_cons_zero,List.set_cons_succ]
     refine wpAnyL_take (i:=1) (v:=?_) [10] rfl (by kernel_rfl) (by kernel_rfl) (by kernel_rfl) (fun _ _ _ h=>h) (by kernel_rfl) (by kernel_rfl) (by kernel_rfl) (Or.inl ⟨by rfl,?_⟩) (by assumption) ?_
     rotate_left
     ·intro w hSw
      try dsimp only at hSw
      go_simp
      first|done|with_reducible rfl
     try simp only [Act.put,List.setIfInBounds_toArray,List.set_cons_zero,List.set_cons_succ]
     refine wpAnyL_take (i:=2) (v:=?_) [10] rfl (by kernel_rfl) (by kernel_rfl) (by kernel_rfl) (fun _ _ _ h=>h) (by kernel_rfl) (by kernel_rfl) (by kernel_rfl) (Or.inl ⟨by rfl,?_⟩) (by assumption) ?_
     rotate_left
     ·intro w hSw
      try dsimp only at hSw
      go_simp
      first|done|with_reducible rfl
     try simp only [Act.put,List.setIfInBounds_toArray,List.set_cons_zero,List.set_cons_succ]
     refine wpAnyL_take (i:=3) (v:=?_) [10] rfl (by kernel_rfl) (by kernel_rfl) (by kernel_rfl) (fun _ _ _ h=>h) (by kernel_rfl) (by kernel_rfl) (by kernel_rfl) (Or.inl ⟨by rfl,?_⟩) (by assumption) ?_
     rotate_left
     ·intro w hSw
      try dsimp only at hSw
      go_simp
      first|done|with_reducible rfl
     try simp only [Act.put,List.setIfInBounds_toArray,List.set_cons_zero,List.set_cons_succ]
     refine wpAnyL_take (i:=4) (v:=?_) [10] rfl (by kernel_rfl) (by kernel_rfl) (by kernel_rfl) (fun _ _ _ h=>h) (by kernel_rfl) (by kernel_rfl) (by kernel_rfl) (Or.inl ⟨by rfl,?_⟩) (by assumption) ?_
     rotate_left
     ·intro w hSw
      try dsimp only at hSw
      go_simp
      first|done|with_reducible rfl
     try simp only [Act.put,List.setIfInBounds_toArray,List.set_cons_zero,List.set_cons_succ]
     refine wpAnyL_take (i:=5) (v:=?_) [10] rfl (by kernel_rfl) (by kernel_rfl) (by kernel_rfl) (fun _ _ _ h=>h) (by kernel_rfl) (by kernel_rfl) (by kernel_rfl) (Or.inl ⟨by rfl,?_⟩) (by assumption) ?_
     rotate_left
     ·intro w hSw
      try dsimp only at hSw
      go_simp
      first|done|with_reducible rfl
     try simp only [Act.put,List.setIfInBounds_toArray,List.set_cons_zero,List.set_cons_succ]
     refine wpAnyL_take (i:=6) (v:=?_) [10] rfl (by kernel_rfl) (by kernel_rfl) (by kernel_rfl) (fun _ _ _ h=>h) (by kernel_rfl) (by kernel_rfl) (by kernel_rfl) (Or.inl ⟨by rfl,?_⟩) (by assumption) ?_
     rotate_left
     ·intro w hSw
      try dsimp only at hSw
      go_simp
      first|done|with_reducible rfl
     try simp only [Act.put,List.setIfInBounds_toArray,List.set_cons_zero,List.set_cons_succ]
     refine wpAnyL_take (i:=7) (v:=?_) [10] rfl (by kernel_rfl) (by kernel_rfl) (by kernel_rfl) (fun _ _ _ h=>h) (by kernel_rfl) (by kernel_rfl) (by kernel_rfl) (Or.inl ⟨by rfl,?_⟩) (by assumption) ?_
     rotate_left
     ·intro w hSw
      try dsimp only at hSw
      go_simp
      first|done|with_reducible rfl
     try simp only [Act.put,List.setIfInBounds_toArray,List.set_cons_zero,List.set_cons_succ]
     refine wpAnyL_one (i:=8) (by kernel_rfl) rfl (fun K hK=>?_)
     go_simp
     refine (KLj.out V (HBW.out _ _ BV.out)).mono ?_
     rintro e V2 ⟨rfl,hb⟩
     have BV2:=Lib.hid (BV.out.call hb)
     clear hb
     go_wp2_with fail
     refine hK.out _ _ (KS1.out _ BV2.out) (fun hHeld=>?_)
     clear hK K
     try simp only [Act.put,List.setIfInBounds_toArray,List.set_cons_zero,List.set_cons_succ]
     refine wpAnyL_one (i:=9) (by kernel_rfl) rfl (fun K hK=>?_)
     go_simp
     refine hK.out _ _ (KS1.out _ BV2.out) (fun hHeld=>?_)
     clear hK K
     try simp only [Act.put,List.setIfInBounds_toArray,List.set_cons_zero,List.set_cons_succ]
     refine wpAnyL_one (i:=10) (by kernel_rfl) rfl (fun K hK=>?_)
     go_simp
     refine hK.out _ _ (KS1.out _ BV2.out) (fun hHeld=>?_)
     clear hK K
     try simp only [Act.put,List.setIfInBounds_toArray,List.set_cons_zero,List.set_cons_succ]
     obtain ⟨f0,f1,f2⟩:=hHeld
     refine wpAnyL_last (by kernel_rfl) rfl (by kernel_rfl) (fun K hK=>?_)
     go_simp
     refine hK.out _ _ ?_
     clear hK K
     refine NoPanic.normal ?_
     have BN:=Lib.hid (show Bx w3 cb (V2.setCell ⟨cb,1,none⟩ (.int .i64 n1)) ⟨(A0:Int),n1,m2,0,(m4:Int)⟩ from BV2.out.set1 n1)
     rw [show IntKind.i64.wrap n1=n1 from IntWalk.i64_in _ (by omega)]
     clear f0 f1 f2 HX HXW BV BV2 KS1
     generalize V2.setCell ⟨cb,1,none⟩ (.int .i64 n1)=V3 at *
     have HW3:=Lib.hid (HBW.out _ _ BN.out)
     cases up
     ·have e2:n2=m2:=T2.out
      subst e2
      obtain ⟨V5,hV5⟩:∃V,V=V3:=⟨_,rfl⟩
      have BM:=Lib.hid BN.out
      rw [←hV5] at BM ⊢
      clear hV5
      have AT:=Lib.hid (show n4=m4+(if ip < 0 then 1 else 0) by rw [T4.out];simp)
      have HW5:=Lib.hid (HBW.out _ _ BM.out)
      obtain ⟨g0,u0⟩:=CU.out _ HW5.out
      have c0:=CL.out _ HW5.out
      have z0:=fun dd os=>cell_regrown (w:=V5) c0 dd os
      have v0:=fun dd os=>cell_regrown (w:=V5) u0 dd os
      have zb:=fun dd os=>cell_regrown (w:=V5) g0 dd os
      have BD:=Lib.hid (fun dd os=>below_regrown V5 dd os)
      have P1:=Lib.hid (fun dd os=>KSj.out _ (bel_in HW5.out (below_regrown V5 dd os)))
      clear g0 u0 c0
      by_cases hip:ip < 0
      ·have N4:=Lib.hid (show n4=m4+1 by rw [AT.out,if_pos hip])
       go_wp2_with fail
       refine wp_region_quiet_below mixed (by kernel_rfl) ?_
       repeat (go_big_quiet_step (first|(go_at_call 49;refine Calls.regrown_of (P1.out _ _))))
       refine wpQuiet_nil ?_
       intro W3 hw3
       have BX:=Lib.hid (show Below V5.heap.size V5 W3 from by obtain ⟨pp,e⟩:=hw3;rw [e];exact BD.out pp.d pp.os)
       have BY:=Lib.hid (BM.out.call BX.out)
       have x4:=BY.out.cells.2.2.2.2
       have xf4:=BY.out.free 4
       simp only at x4
       have FIN:=Lib.hid (show Bx w3 cb (W3.setCell ⟨cb,4,none⟩ (.int .i64 ((m4:Int)+1))) ⟨(A0:Int),n1,n2,0,(n4:Int)⟩ from by
        have:=BY.out.set4 ((m4:Int)+1)
        rw [N4.out];exact this)
       clear hw3 BD z0 v0 zb P1
       go_wp2
       go_roundw
       case rel=>exact ⟨k+1,by omega,by go_num,by rw [H1G.out,H2G.out,H4G.out];exact FIN.out⟩
       case measure=>simp [intOf];omega
      ·have N4:=Lib.hid (show n4=m4 by rw [AT.out,if_neg hip];rfl)
       go_wp2_with fail
       refine wp_region_quiet_below mixed (by kernel_rfl) ?_
       repeat (go_big_quiet_step (first|(go_at_call 49;refine Calls.regrown_of (P1.out _ _))))
       refine wpQuiet_nil ?_
       intro W3 hw3
       have BX:=Lib.hid (show Below V5.heap.size V5 W3 from by obtain ⟨pp,e⟩:=hw3;rw [e];exact BD.out pp.d pp.os)
       have BY:=Lib.hid (BM.out.call BX.out)
       clear hw3 BD z0 v0 zb P1
       go_wp2
       go_roundw
       case rel=>exact ⟨k+1,by omega,by go_num,by rw [H1G.out,H2G.out,H4G.out,N4.out];exact BY.out⟩
       case measure=>simp [intOf];omega
     ·have e2:m2+bh=n2:=T2.out.symm
      go_wp2_with fail
      refine wp_region_noPanic ?_
      refine wp_region_D (fun W=>W.cell? ⟨cb,2,none⟩=some (.int .i64 m2)∧W.frozen? ⟨cb,2,none⟩=false∧W.cell? (adl.add k)=some (.int .i64 (j:Int))) 11 (by kernel_rfl) (w0:=V3) (Dr.refl _) (fun V hV=>KS2.out V (BN.out.call (hV.below _))) (fun V hV hHeld=>?_)
      have BV:=Lib.hid (BN.out.call (hV.below _))
      clear hV
      refine wpAnyL_take (i:=0) (v:=?_) [10] rfl (by kernel_rfl) (by kernel_rfl) (by kernel_rfl) (fun _ _ _ h=>h) (by kernel_rfl) (by kernel_rfl) (by kernel_rfl) (Or.inl ⟨by rfl,?_⟩) (by assumption) ?_
      rotate_left
      ·intro w hSw
       try dsimp only at hSw
       go_simp
       first|done|with_reducible rfl
      try simp only [Act.put,List.setIfInBounds_toArray,List.set_cons_zero,List.set_cons_succ]
      refine wpAnyL_take (i:=1) (v:=?_) [10] rfl (by kernel_rfl) (by kernel_rfl) (by kernel_rfl) (fun _ _ _ h=>h) (by kernel_rfl) (by kernel_rfl) (by kernel_rfl) (Or.inl ⟨by rfl,?_⟩) (by assumption) ?_
      rotate_left
      ·intro w hSw
       try dsimp only at hSw
       go_simp
       first|done|with_reducible rfl
      try simp only [Act.put,List.setIfInBounds_toArray,List.set_cons_zero,List.set_cons_succ]
      refine wpAnyL_take (i:=2) (v:=?_) [10] rfl (by kernel_rfl) (by kernel_rfl) (by kernel_rfl) (fun _ _ _ h=>h) (by kernel_rfl) (by kernel_rfl) (by kernel_rfl) (Or.inl ⟨by rfl,?_⟩) (by assumption) ?_
      rotate_left
      ·intro w hSw
       try dsimp only at hSw
       go_simp
       first|done|with_reducible rfl
      try simp only [Act.put,List.setIfInBounds_toArray,List.set_cons_zero,List.set_cons_succ]
      refine wpAnyL_take (i:=3) (v:=?_) [10] rfl (by kernel_rfl) (by kernel_rfl) (by kernel_rfl) (fun _ _ _ h=>h) (by kernel_rfl) (by kernel_rfl) (by kernel_rfl) (Or.inl ⟨by rfl,?_⟩) (by assumption) ?_
      rotate_left
      ·intro w hSw
       try dsimp only at hSw
       go_simp
       first|done|with_reducible rfl
      try simp only [Act.put,List.setIfInBounds_toArray,List.set_cons_zero,List.set_cons_succ]
      refine wpAnyL_take (i:=4) (v:=?_) [10] rfl (by kernel_rfl) (by kernel_rfl) (by kernel_rfl) (fun _ _ _ h=>h) (by kernel_rfl) (by kernel_rfl) (by kernel_rfl) (Or.inl ⟨by rfl,?_⟩) (by assumption) ?_
      rotate_left
      ·intro w hSw
       try dsimp only at hSw
       go_simp
       first|done|with_reducible rfl
      try simp only [Act.put,List.setIfInBounds_toArray,List.set_cons_zero,List.set_cons_succ]
      refine wpAnyL_take (i:=5) (v:=?_) [10] rfl (by kernel_rfl) (by kernel_rfl) (by kernel_rfl) (fun _ _ _ h=>h) (by kernel_rfl) (by kernel_rfl) (by kernel_rfl) (Or.inl ⟨by rfl,?_⟩) (by assumption) ?_
      rotate_left
      ·intro w hSw
       try dsimp only at hSw
       go_simp
       first|done|with_reducible rfl
      try simp only [Act.put,List.setIfInBounds_toArray,List.set_cons_zero,List.set_cons_succ]
      refine wpAnyL_take (i:=6) (v:=?_) [10] rfl (by kernel_rfl) (by kernel_rfl) (by kernel_rfl) (fun _ _ _ h=>h) (by kernel_rfl) (by kernel_rfl) (by kernel_rfl) (Or.inl ⟨by rfl,?_⟩) (by assumption) ?_
      rotate_left
      ·intro w hSw
       try dsimp only at hSw
       go_simp
       first|done|with_reducible rfl
      try simp only [Act.put,List.setIfInBounds_toArray,List.set_cons_zero,List.set_cons_succ]
      refine wpAnyL_take (i:=7) (v:=?_) [10] rfl (by kernel_rfl) (by kernel_rfl) (by kernel_rfl) (fun _ _ _ h=>h) (by kernel_rfl) (by kernel_rfl) (by kernel_rfl) (Or.inl ⟨by rfl,?_⟩) (by assumption) ?_
      rotate_left
      ·intro w hSw
       try dsimp only at hSw
       go_simp
       first|done|with_reducible rfl
      try simp only [Act.put,List.setIfInBounds_toArray,List.set_cons_zero,List.set_cons_succ]
      refine wpAnyL_one (i:=8) (by kernel_rfl) rfl (fun K hK=>?_)
      go_simp
      refine (KBj.out V (HBW.out _ _ BV.out)).mono ?_
      rintro e V2 ⟨rfl,hb⟩
      have BV2:=Lib.hid (BV.out.call hb)
      clear hb
      go_wp2_with fail
      refine hK.out _ _ (KS2.out _ BV2.out) (fun hHeld=>?_)
      clear hK K
      try simp only [Act.put,List.setIfInBounds_toArray,List.set_cons_zero,List.set_cons_succ]
      refine wpAnyL_one (i:=9) (by kernel_rfl) rfl (fun K hK=>?_)
      go_simp
      refine hK.out _ _ (KS2.out _ BV2.out) (fun hHeld=>?_)
      clear hK K
      try simp only [Act.put,List.setIfInBounds_toArray,List.set_cons_zero,List.set_cons_succ]
      refine wpAnyL_one (i:=10) (by kernel_rfl) rfl (fun K hK=>?_)
      go_simp
      refine hK.out _ _ (KS2.out _ BV2.out) (fun hHeld=>?_)
      clear hK K
      try simp only [Act.put,List.setIfInBounds_toArray,List.set_cons_zero,List.set_cons_succ]
      obtain ⟨f0,f1,f2⟩:=hHeld
      refine wpAnyL_last (by kernel_rfl) rfl (by kernel_rfl) (fun K hK=>?_)
      go_simp
      refine hK.out _ _ ?_
      clear hK K
      refine NoPanic.normal ?_
      have BM:=Lib.hid (show Bx w3 cb (V2.setCell ⟨cb,2,none⟩ (.int .i64 n2)) ⟨(A0:Int),n1,n2,0,(m4:Int)⟩ from BV2.out.set2 n2)
      rw [show IntKind.i64.wrap n2=n2 from IntWalk.i64_in _ (by omega)]
      clear f0 f1 f2 BN BV BV2 KS2
      generalize V2.setCell ⟨cb,2,none⟩ (.int .i64 n2)=V5 at *
      have AT:=Lib.hid (show n4=m4+(if ip < 0 then 1 else 0) by rw [T4.out];simp)
      have HW5:=Lib.hid (HBW.out _ _ BM.out)
      obtain ⟨g0,u0⟩:=CU.out _ HW5.out
      have c0:=CL.out _ HW5.out
      have z0:=fun dd os=>cell_regrown (w:=V5) c0 dd os
      have v0:=fun dd os=>cell_regrown (w:=V5) u0 dd os
      have zb:=fun dd os=>cell_regrown (w:=V5) g0 dd os
      have BD:=Lib.hid (fun dd os=>below_regrown V5 dd os)
      have P1:=Lib.hid (fun dd os=>KSj.out _ (bel_in HW5.out (below_regrown V5 dd os)))
      clear g0 u0 c0
      by_cases hip:ip < 0
      ·have N4:=Lib.hid (show n4=m4+1 by rw [AT.out,if_pos hip])
       go_wp2_with fail
       refine wp_region_quiet_below mixed (by kernel_rfl) ?_
       repeat (go_big_quiet_step (first|(go_at_call 49;refine Calls.regrown_of (P1.out _ _))))
       refine wpQuiet_nil ?_
       intro W3 hw3
       have BX:=Lib.hid (show Below V5.heap.size V5 W3 from by obtain ⟨pp,e⟩:=hw3;rw [e];exact BD.out pp.d pp.os)
       have BY:=Lib.hid (BM.out.call BX.out)
       have x4:=BY.out.cells.2.2.2.2
       have xf4:=BY.out.free 4
       simp only at x4
       have FIN:=Lib.hid (show Bx w3 cb (W3.setCell ⟨cb,4,none⟩ (.int .i64 ((m4:Int)+1))) ⟨(A0:Int),n1,n2,0,(n4:Int)⟩ from by
        have:=BY.out.set4 ((m4:Int)+1)
        rw [N4.out];exact this)
       clear hw3 BD z0 v0 zb P1
       go_wp2
       go_roundw
       case rel=>exact ⟨k+1,by omega,by go_num,by rw [H1G.out,H2G.out,H4G.out];exact FIN.out⟩
       case measure=>simp [intOf];omega
      ·have N4:=Lib.hid (show n4=m4 by rw [AT.out,if_neg hip];rfl)
       go_wp2_with fail
       refine wp_region_quiet_below mixed (by kernel_rfl) ?_
       repeat (go_big_quiet_step (first|(go_at_call 49;refine Calls.regrown_of (P1.out _ _))))
       refine wpQuiet_nil ?_
       intro W3 hw3
       have BX:=Lib.hid (show Below V5.heap.size V5 W3 from by obtain ⟨pp,e⟩:=hw3;rw [e];exact BD.out pp.d pp.os)
       have BY:=Lib.hid (BM.out.call BX.out)
       clear hw3 BD z0 v0 zb P1
       go_wp2
       go_roundw
       case rel=>exact ⟨k+1,by omega,by go_num,by rw [H1G.out,H2G.out,H4G.out,N4.out];exact BY.out⟩
       case measure=>simp [intOf];omega
    ·obtain rfl:k=l.length:=by omega
     have q1:¬(l.length:Int) < (l.length:Int):=by omega
     go_wp2_with fail
     refine (KW.out wr HXW.out).mono ?_
     rintro e w7 ⟨rfl,hb⟩
     have HY:=Lib.hid (HX.out.call hb)
     rw [XW.out]
     have x3:=HY.out.cells.2.2.2.1
     have xf3:=HY.out.free 3
     simp only at x3
     clear hb HX
     generalize b1K U pn l l.length=m1 at *
     generalize b2K U here pn l up l.length=m2 at *
     generalize b4K U here l l.length=m4 at *
     generalize ((wnS U l l:Nat):Int)=wn at *
     go_upto_region 28 with fail
     obtain ⟨V,hV⟩:∃V,V=w7.setCell ⟨cb,3,none⟩ (.int .i64 wn):=⟨_,rfl⟩
     have BF:=Lib.hid (show Bx w3 cb V ⟨(A0:Int),m1,m2,wn,(m4:Int)⟩ from by rw [hV];exact HY.out.set3 wn)
     rw [←hV]
     clear hV x3 xf3 HY
     have HVW:=Lib.hid (HBW.out _ _ BF.out)
     have Z9:=Lib.hid (HZ.out _ _ BF.out)
     obtain ⟨y0,y1,y2,y3,y4⟩:=BF.out.cells
     obtain ⟨V9,hV9,d0,d1,d2,d3,d4,bV⟩:=fin5 (y:=⟨(A0:Int),m1,m2,wn,(m4:Int)⟩) HVW.out (Nat.le_refl _) Z9.out
     have r0:=blk5_cell Z9.out 0
     have r1:=blk5_cell Z9.out 1
     have r2:=blk5_cell Z9.out 2
     have r3:=blk5_cell Z9.out 3
     have r4:=blk5_cell Z9.out 4
     have fr0:=blk5_frozen Z9.out 0
     have fr1:=blk5_frozen Z9.out 1
     have fr2:=blk5_frozen Z9.out 2
     have fr3:=blk5_frozen Z9.out 3
     have fr4:=blk5_frozen Z9.out 4
     simp only at y0 y1 y2 y3 y4 d0 d1 d2 d3 d4 hV9
     simp at r0 r1 r2 r3 r4
     go_wp2
     rw [←hV9]
     clear hV9 r0 r1 r2 r3 r4 fr0 fr1 fr2 fr3 fr4 y0 y1 y2 y3 y4
     exact bodyPost_ret (v:=.tuple #[.agg #[.int .i64 (A0:Int),.int .i64 m1,.int .i64 m2,.int .i64 wn,.int .i64 (m4:Int)],.int .i64 0]) (by simp [results,Tryz.results16,go_sem,d0,d1,d2,d3,d4]) rfl ⟨by rw [XA.out,XE.out],bV⟩
end Go.Proofs.YtpilmhoakopcaaaGreatDoor
