/- What the laws rest on: E11j, E11l, E11m, E11n, E11p. -/
import Derived.Test.YtpilmhoakopcaaaGreatDoorQAJZA
import Derived.Test.YtpilmhoakopcaaaGreatDoorQAOZA
import Derived.Test.YtpilmhoakopcaaaGreatDoorQBDZA
set_option maxRecDepth 100000
set_option linter.unusedVariables false
set_option linter.unusedSimpArgs false
namespace Go.Proofs.YtpilmhoakopcaaaGreatDoor
open Go.RowKit Go.Sort
set_option maxHeartbeats 4000000 in
theorem q11right_any (A:Option Addr) (n c:Nat) (l:List Pn) (w:World) (h:rdPns w (lt_ w.heap.size) l [.slice A n c]) (hz:∀x ∈ l,x.n.size≤65536∧x.x.size≤maxLen) :
  Calls Tryz.prog 45 #[.slice A n c] w fun e w'=>e=.returned (.bool (l.all rgtN))∧Below w.heap.size w w':=by
 obtain ⟨rfl,hnc,hcm,-⟩:=rdPns_at h
 have hcm':c≤9223372036854775807:=hcm
 have HA:=Lib.hid (fun (W:World) (hb:Below w.heap.size w W)=>(rdPns_at (rdPns_good.up (rdPns_good.below h hb) hb.size)).2.2.2)
 have KR:=Lib.hid (fun (k:Nat) (hk:k < l.length) (W:World)=>q8right_any l[k] W (hz _ (List.getElem_mem hk)).1 (hz _ (List.getElem_mem hk)).2)
 have ST:=Lib.hid (fun (k:Nat) (hk:k < l.length) h1 h2=>all_step6 (f:=rgtN) hk h1 h2)
 have SP:=Lib.hid (fun (k:Nat) (hk:k < l.length) h2=>all_stop6 (f:=rgtN) hk h2)
 have X:=Lib.hid (show l.all rgtN=(l.take l.length).all rgtN by rw [List.take_length])
 clear h hcm hz
 generalize l.all rgtN=bb at *
 go_enter Tryz.func45,Tryz.ntmps45
 go_wp2
 go_loopw [3] (fun i wr=>∃k:Nat,k≤l.length∧i=.int .i64 k∧Hid ((l.take k).all rgtN=true)∧Below w.heap.size w wr) (fun i _=>l.length - (intOf i).toNat)
 case atStart=>exact ⟨0,Nat.zero_le _,rfl,Lib.hid rfl,Below.refl _ _⟩
 case round=>
  obtain ⟨k,hk,rfl,HP,hbel⟩:=hrel
  have HB:=Lib.hid hbel
  clear hbel
  by_cases hlt:k < l.length
  ·obtain ⟨ad,rfl,-,c0,c1,c2⟩:=HA.out wr HB.out k hlt
   have i0:(0:Int)≤(k:Int):=by omega
   have i1:(k:Int) < (l.length:Int):=by omega
   have K1:=Lib.hid (KR.out k hlt wr)
   have S1:=Lib.hid (ST.out k hlt HP.out)
   have S2:=Lib.hid (SP.out k hlt)
   generalize l[k]=y at *
   obtain ⟨yn,yx,yp⟩:=y
   simp only [Pn.val] at c0 c1 c2 K1
   generalize rgtN ⟨yn,yx,yp⟩=q at *
   go_wp2_with fail
   refine K1.out.mono ?_
   rintro e w2 ⟨rfl,hb⟩
   have HB2:=Lib.hid (bel_in HB.out hb)
   clear hb c0 c1 c2
   cases q
   ·have XX:=Lib.hid (S2.out rfl)
    go_wp2
    go_ret
    exact ⟨by rw [XX.out];try rfl,HB2.out⟩
   ·have NX:=Lib.hid (S1.out rfl)
    go_wp2
    go_roundw
    case rel=>exact ⟨k+1,by omega,by go_num,NX,HB2.out⟩
    case measure=>simp [intOf];omega
  ·obtain rfl:k=l.length:=by omega
   have j0:¬(l.length:Int) < (l.length:Int):=by omega
   have XX:=Lib.hid (X.out.trans HP.out)
   go_wp2
   go_ret
   exact ⟨by rw [XX.out];try rfl,HB.out⟩
theorem inP_at {U:List Ent} {here:List Int} {n:ByteArray} {k:Nat} (hk:k < here.length) (h:∀j (hj:j < here.length),j < k→(entA U here[j]).n≠n) (hp:(entA U here[k]).n=n):inP U here n=here[k]:=by
 unfold inP
 rw [find_here (p:=fun p=>decide ((entA U p).n=n)) hk (fun j hj hjk=>decide_eq_false (h j hj hjk)) (decide_eq_true hp)]
 rfl
theorem inP_no {U:List Ent} {here:List Int} {n:ByteArray} (h:∀j (hj:j < here.length),(entA U here[j]).n≠n):inP U here n=-1:=by
 unfold inP
 rw [List.find?_eq_none.2 fun x hx=>by
  obtain ⟨j,hj,rfl⟩:=List.getElem_of_mem hx
  simpa using h j hj]
 rfl
set_option maxHeartbeats 16000000 in
theorem q11inst_any (b:Nat) (U:List Ent) (m:List Hr) (n:ByteArray) (w:World) (h:UR w b U m) (hm:m.length≤200) (hs:SetP U.length (insU U m)) :
  Calls Tryz.prog 49 #[.pointer (some ⟨b,0,none⟩),.string n] w fun e w'=>e=.returned (.int .i64 (inP U (insU U m) n))∧Below w.heap.size w w':=by
 have mixed:Tryz.prog.follows .mixedOrders=true:=by kernel_rfl
 have K0:=Lib.hid (q9inst_any b U m w h hm)
 obtain ⟨Au,cu,Av,cv,h1,-,h3,-⟩:=h
 obtain ⟨-,huc,hum,-⟩:=rdEnts_at h3
 have hum':cu≤9223372036854775807:=hum
 have HU1:=Lib.hid h1
 have HU:=Lib.hid (fun (W:World) (hb:Below w.heap.size w W)=>(rdEnts_at (rdEnts_good.both (w':=W) (S':=lt_ W.heap.size) h3 (fun k hk=>hb.block k hk.1) (fun k hk=>Nat.lt_of_lt_of_le hk.1 hb.size))).2.2.2)
 clear h1 h3 hum
 generalize insU U m=here at *
 have HS:=Lib.hid hs
 have X1:=Lib.hid (fun (k:Nat) (hk:k < here.length) h hp=>inP_at (U:=U) (n:=n) hk h hp)
 have X2:=Lib.hid (fun h=>inP_no (U:=U) (here:=here) (n:=n) h)
 generalize inP U here n=R at *
 go_enter Tryz.func49,Tryz.ntmps49
 go_wp2_with fail
 refine K0.out.mono ?_
 rintro e w1 ⟨⟨Ah,ch,rfl,hr⟩,hb⟩
 obtain ⟨-,hhc,hhm,-⟩:=rdInts_at hr
 have hhm':ch≤9223372036854775807:=hhm
 have HR:=Lib.hid (fun (W:World) (hx:Below w1.heap.size w1 W)=>(rdInts_at (rdInts_good.up (rdInts_good.below hr hx) hx.size)).2.2.2)
 have B1:=Lib.hid hb
 clear hb hr hhm K0 hs
 go_wp2
 go_loopw [6] (fun i wr=>∃k:Nat,k≤here.length∧i=.int .i64 k∧Hid (∀j (hj:j < here.length),j < k→(entA U here[j]).n≠n)∧Below w1.heap.size w1 wr) (fun i _=>here.length - (intOf i).toNat)
 case atStart=>exact ⟨0,Nat.zero_le _,rfl,Lib.hid (fun j _ hj=>absurd hj (Nat.not_lt_zero _)),Below.refl _ _⟩
 case round=>
  obtain ⟨k,hk,rfl,HA,hbel⟩:=hrel
  have HBI:=Lib.hid hbel
  have HBW:=Lib.hid (bel_in B1.out hbel)
  clear hbel
  by_cases hlt:k < here.length
  ·obtain ⟨adl,rfl,-,l0⟩:=HR.out wr HBI.out k hlt
   obtain ⟨s0,s1⟩:=HS.out.1 _ (List.getElem_mem hlt)
   have Y1:=Lib.hid (X1.out k hlt HA.out)
   have ST:=Lib.hid (fun hp:(entA U here[k]).n≠n=>show ∀j (hj:j < here.length),j < k+1→(entA U here[j]).n≠n from fun j hj h=>by
    by_cases q:j=k
    ·subst q;exact hp
    ·exact HA.out j hj (by omega))
   obtain ⟨j,hj⟩:=Int.eq_ofNat_of_zero_le s0
   rw [hj] at l0 s1 Y1 ST
   have hjl:j < U.length:=by omega
   obtain ⟨adu,A1,c1,A2,c2,A3,c3,A4,c4,rfl,-,hv,u0,-⟩:=HU.out wr HBW.out j hjl
   have b0:=keep6 HBW.out HU1.out
   rw [entA_at hjl] at Y1 ST
   have i0:(0:Int)≤(k:Int):=by omega
   have i1:(k:Int) < (here.length:Int):=by omega
   have j0:(0:Int)≤(j:Int):=by omega
   have j1:(j:Int) < (U.length:Int):=by omega
   have zl:=fun dd os=>cell_regrown (w:=wr) l0 dd os
   have zb:=fun dd os=>cell_regrown (w:=wr) b0 dd os
   have v0:=fun dd os=>cell_regrown (w:=wr) u0 dd os
   have BD:=Lib.hid (fun dd os=>below_regrown wr dd os)
   have CK:=Lib.hid (fun (W:World) (hx:Below wr.heap.size wr W)=>(show W.cell? (adl.add k)=some (.int .i64 (j:Int)) from keep6 hx l0))
   have en:=str_eq U[j].n n
   generalize U[j]=y at *
   clear hv hj s0 u0 l0 b0
   by_cases he:y.n=n
   ·rw [decide_eq_true he] at en
    have XX:=Lib.hid (Y1.out he)
    clear he ST Y1
    go_wp2_with fail
    refine wp_region_quiet_below mixed (by kernel_rfl) ?_
    repeat (go_big_quiet_step (fail))
    refine wpQuiet_nil ?_
    intro W3 hw3
    have BX:=Lib.hid (show Below wr.heap.size wr W3 from by obtain ⟨pp,e⟩:=hw3;rw [e];exact BD.out pp.d pp.os)
    have BW:=Lib.hid (bel_in HBW.out BX.out)
    have l3:=CK.out W3 BX.out
    clear hw3 BD zl zb v0
    go_wp2
    go_ret
    exact ⟨by rw [XX.out];try rfl,BW.out⟩
   ·rw [decide_eq_false he] at en
    have NX:=Lib.hid (ST.out he)
    clear he ST Y1
    go_wp2_with fail
    refine wp_region_quiet_below mixed (by kernel_rfl) ?_
    repeat (go_big_quiet_step (fail))
    refine wpQuiet_nil ?_
    intro W3 hw3
    have BX:=Lib.hid (show Below wr.heap.size wr W3 from by obtain ⟨pp,e⟩:=hw3;rw [e];exact BD.out pp.d pp.os)
    have BI:=Lib.hid (bel_in HBI.out BX.out)
    clear hw3 BD zl zb v0
    go_wp2
    go_roundw
    case rel=>exact ⟨k+1,by omega,by go_num,NX,BI.out⟩
    case measure=>simp [intOf];omega
  ·obtain rfl:k=here.length:=by omega
   have j0:¬(here.length:Int) < (here.length:Int):=by omega
   have XX:=Lib.hid (X2.out fun j hj=>HA.out j hj hj)
   go_wp2
   go_ret
   exact ⟨by rw [XX.out];try rfl,HBW.out⟩
theorem verU_step {U:List Ent} {n:ByteArray} {k:Nat} (hk:k < U.length):verU (U.take (k+1)) n=if U[k].n=n then verU (U.take k) n++[U[k].v] else verU (U.take k) n:=by
 unfold verU
 rw [List.take_succ_eq_append_getElem hk,List.filter_append]
 by_cases h:U[k].n=n
 ·rw [if_pos h,List.filter_cons_of_pos (by simpa using h),List.filter_nil,List.map_append];rfl
 ·rw [if_neg h,List.filter_cons_of_neg (by simpa using h),List.filter_nil,List.append_nil]
theorem verU_len (U:List Ent) (n:ByteArray):(verU U n).length≤U.length:=by
 unfold verU
 rw [List.length_map]
 exact List.length_filter_le _ _
theorem verU_mem {U:List Ent} {n s:ByteArray} (h:s ∈ verU U n):∃x ∈ U,x.v=s:=by
 unfold verU at h
 obtain ⟨x,hx,e⟩:=List.mem_map.1 h
 exact ⟨x,(List.mem_filter.1 hx).1,e⟩
theorem str11l_info:(Tryz.prog.info? 9).map (fun i=>(i.zero,i.size,i.bytes))=some (some (.string { data:=#[] }),1,16):=by kernel_rfl
set_option maxHeartbeats 16000000 in
theorem q11loss_any (b:Nat) (U:List Ent) (m:List Hr) (A:Option Addr) (np c:Nat) (pn:List Pn) (p:Int) (w:World) (h:UR w b U m) (hp:rdPns w (lt_ w.heap.size) pn [.slice A np c]) (h0:0≤p) (h1:p < (U.length:Int)) (hl:U.length≤200) (hv:∀x ∈ U,x.v.size≤1000000) (hx:∀x ∈ pn,x.x.size≤maxLen) (hB:Bd8 pn) :
  Calls Tryz.prog 48 #[.pointer (some ⟨b,0,none⟩),.slice A np c,.int .i64 p] w fun e w'=>e=.returned (.int .i64 (los U pn p))∧Below w.heap.size w w':=by
 have mixed:Tryz.prog.follows .mixedOrders=true:=by kernel_rfl
 obtain ⟨fi,hi,hz0,hz1,hz2⟩:=info_parts str11l_info
 obtain ⟨j,rfl⟩:=Int.eq_ofNat_of_zero_le h0
 have hjl:j < U.length:=by omega
 have X:=Lib.hid (show los U pn (j:Int)=lossN pn U[j].n (verU U U[j].n) U[j].v by unfold los;rw [entA_at hjl])
 have KL:=Lib.hid (fun (Aq:Option Addr) (cq:Nat) (nm vv:ByteArray) (all:List ByteArray) (W:World) (hb:Below w.heap.size w W) hr hvv ha=>q8loss_any A np c pn nm Aq all.length cq all vv W (rdPns_good.up (rdPns_good.below hp hb) hb.size) hr hvv ha hx hB)
 have VZ:=Lib.hid (show ∀n,∀s ∈ verU U n,s.size≤maxLen from fun n s hs=>by obtain ⟨x,hx,rfl⟩:=verU_mem hs;have:=hv x hx;unfold maxLen;omega)
 have VJ:=Lib.hid (show U[j].v.size≤maxLen by have:=hv _ (List.getElem_mem hjl);unfold maxLen;omega)
 have LN:=Lib.hid (fun (n:ByteArray) (k:Nat)=>show (verU (U.take k) n).length≤200 from by
  have h1:=verU_len (U.take k) n
  have h2:(U.take k).length≤U.length:=by rw [List.length_take];omega
  omega)
 obtain ⟨Au,cu,Av,cv,hc1,-,hc3,-⟩:=h
 obtain ⟨-,huc,hum,-⟩:=rdEnts_at hc3
 have hum':cu≤9223372036854775807:=hum
 have HU1:=Lib.hid hc1
 have HU:=Lib.hid (fun (W:World) (hb:Below w.heap.size w W)=>(rdEnts_at (rdEnts_good.both (w':=W) (S':=lt_ W.heap.size) hc3 (fun k hk=>hb.block k hk.1) (fun k hk=>Nat.lt_of_lt_of_le hk.1 hb.size))).2.2.2)
 clear hc1 hc3 hum hp hx hB hv
 obtain ⟨adu,A1,c1,A2,c2,A3,c3,A4,c4,ea,-,-,u0,u1,u2,u3,u4,u5⟩:=HU.out w (Below.refl _ _) j hjl
 have b0:=HU1.out
 subst ea
 obtain ⟨W1,hW1⟩:∃W,W=w.alloc (.cells #[.string U[j].n,.string U[j].v,.slice A1 U[j].d.length c1,.slice A2 U[j].r.length c2,.slice A3 U[j].c.length c3,.slice A4 U[j].p.length c4] 60):=⟨_,rfl⟩
 have B1:=Lib.hid (show Below w.heap.size w W1 by rw [hW1];exact (Below.refl _ w).alloc (Nat.le_refl _) _)
 have KX:=Lib.hid (fun (W:World) (hb:Below W1.heap.size W1 W)=>(show W.cell? ⟨w.heap.size,0,none⟩=some (.string U[j].n)∧W.cell? ⟨w.heap.size,1,none⟩=some (.string U[j].v) from by
  refine ⟨?_,?_⟩<;>exact keep6 hb (by rw [hW1];simp [go_sem])))
 have STV:=Lib.hid (fun (k:Nat) (hk:k < U.length)=>verU_step (n:=U[j].n) hk)
 have VU:=Lib.hid (show verU U U[j].n=verU (U.take U.length) U[j].n by rw [List.take_length])
 have hj1:(j:Int) < (U.length:Int):=h1
 have hj0:(0:Int)≤(j:Int):=h0
 generalize los U pn (j:Int)=R at *
 generalize U[j]=x at *
 go_enter Tryz.func48,Tryz.ntmps48
 go_upto_region 2 with fail
 rw [←hW1]
 clear hW1 u0 u1 u2 u3 u4 u5 b0
 go_wp2
 go_loopw [8,9] (fun v i wr=>∃k:Nat,k≤U.length∧i=.int .i64 k∧Grow rdBa 1 (fun _=>True) wr W1.heap.size 9 v (verU (U.take k) x.n)∧Below W1.heap.size W1 wr) (fun _ i _=>U.length - (intOf i).toNat)
 case atStart=>exact ⟨0,Nat.zero_le _,rfl,Grow.nil _ _ _ _,Below.refl _ _⟩
 case round=>
  obtain ⟨k,hk,rfl,hG,hbel⟩:=hrel
  have HBI:=Lib.hid hbel
  have HBW:=Lib.hid (bel_in B1.out hbel)
  have HG:=Lib.hid hG
  clear hbel hG
  have b0:=keep6 HBW.out HU1.out
  obtain ⟨x0,x1⟩:=KX.out wr HBI.out
  by_cases hlt:k < U.length
  ·obtain ⟨ad',D1,d1,D2,d2,D3,d3,D4,d4,ea,-,-,u0,u1,-⟩:=HU.out wr HBW.out k hlt
   obtain rfl:adu=ad':=Option.some.inj ea
   have i0:(0:Int)≤(k:Int):=by omega
   have i1:(k:Int) < (U.length:Int):=by omega
   have ST:=Lib.hid (STV.out k hlt)
   have ln:=LN.out x.n k
   have GK:=Lib.hid (fun (W:World) (hx:Below wr.heap.size wr W)=>HG.out.below rdBa_good hx)
   have GC:=Lib.hid (fun (W:World) (hx:Below wr.heap.size wr W)=>(show W.cell? ⟨b,0,none⟩=some (.slice (some adu) U.length cu)∧W.cell? (adu.add (k*6))=some (.string U[k].n)∧W.cell? ⟨(adu.add (k*6)).block,(adu.add (k*6)).off+1,none⟩=some (.string U[k].v) from ⟨keep6 hx b0,keep6 hx u0,keep6 hx u1⟩))
   have zb:=fun dd os=>cell_regrown (w:=wr) b0 dd os
   have v0:=fun dd os=>cell_regrown (w:=wr) u0 dd os
   have y0:=fun dd os=>cell_regrown (w:=wr) x0 dd os
   have BD:=Lib.hid (fun dd os=>below_regrown wr dd os)
   have en:=str_eq U[k].n x.n
   generalize hgl:verU (U.take k) x.n=gl at *
   generalize hgn:verU (U.take (k+1)) x.n=gn at *
   generalize U[k]=y at *
   have HGN:=Lib.hid hgn
   clear hgl hgn ea HG u0 u1 x0 x1
   by_cases he:y.n=x.n
   ·rw [decide_eq_true he] at en
    have NX:=Lib.hid (show gn=gl++[y.v] by rw [ST.out,if_pos he])
    clear he ST
    go_wp2_with fail
    refine wp_region_quiet_below mixed (by kernel_rfl) ?_
    repeat (go_big_quiet_step (fail))
    refine wpQuiet_nil ?_
    intro W3 hw3
    have BX:=Lib.hid (show Below wr.heap.size wr W3 from by obtain ⟨pp,e⟩:=hw3;rw [e];exact BD.out pp.d pp.os)
    have B3:=Lib.hid (bel_in HBI.out BX.out)
    have G3:=Lib.hid (GK.out W3 BX.out)
    obtain ⟨g0,g1,g2⟩:=GC.out W3 BX.out
    clear hw3 BD zb v0 y0
    have hE:=(show rdBa W3 (fun b=>True∧b < W3.heap.size∧u8.ownBlock≠some b) y.v (#[Value.string y.v]:Array Value).toList from rfl)
    have hn1:gl.length+1≤maxLen:=by unfold maxLen;omega
    have hn2:(gl.length+1)*16≤140737488355328:=by omega
    have hbs3:W1.heap.size≤W3.heap.size:=B3.out.size
    have hG3:=G3.out
    go_wp2_with (at_builtin;refine wpList_grow1 W3 rfl _ _ 92 rfl rdBa_good (by decide) (fun _=>True) W1.heap.size 9 fi _ 16 Tryz.underlying92 hi hz0 hz1 hz2 rfl u8 gl rfl hG3 y.v _ 9 hE _ rfl rfl hn1 hn2 hbs3 ?_)
    intro v' w' hG' hgr
    have G4:=Lib.hid hG'
    have B4:=Lib.hid (grow_below hG3 hgr B3.out (Nat.le_refl _) hbs3)
    clear hG3 hgr hE hG' G3 g0 g1 g2
    go_wp2
    go_roundw
    case rel=>exact ⟨k+1,by omega,by go_num,by rw [HGN.out,NX.out];exact G4.out,B4.out⟩
    case measure=>simp [intOf];omega
   ·rw [decide_eq_false he] at en
    have NX:=Lib.hid (show gn=gl by rw [ST.out,if_neg he])
    clear he ST
    go_wp2_with fail
    refine wp_region_quiet_below mixed (by kernel_rfl) ?_
    repeat (go_big_quiet_step (fail))
    refine wpQuiet_nil ?_
    intro W3 hw3
    have BX:=Lib.hid (show Below wr.heap.size wr W3 from by obtain ⟨pp,e⟩:=hw3;rw [e];exact BD.out pp.d pp.os)
    have B3:=Lib.hid (bel_in HBI.out BX.out)
    have G3:=Lib.hid (GK.out W3 BX.out)
    clear hw3 BD zb v0 y0
    go_wp2
    go_roundw
    case rel=>exact ⟨k+1,by omega,by go_num,by rw [HGN.out,NX.out];exact G3.out,B3.out⟩
    case measure=>simp [intOf];omega
  ·obtain rfl:k=U.length:=by omega
   have i0:¬(U.length:Int) < (U.length:Int):=by omega
   have RD:=Lib.hid (show rdBas wr (lt_ wr.heap.size) (verU U x.n) [u8] from by
    have:=HG.out.read rdBa_good
    rwa [List.take_length] at this)
   obtain ⟨Aq,cq,hv6,-,-⟩:=id RD.out
   simp only [List.cons.injEq,and_true] at hv6
   subst hv6
   have K1:=Lib.hid (KL.out Aq cq x.n x.v (verU U x.n) wr HBW.out RD.out VJ.out (VZ.out x.n))
   clear HG
   generalize verU U x.n=all at *
   go_wp2_with fail
   refine K1.out.mono ?_
   rintro e w3 ⟨rfl,hb⟩
   have B3:=Lib.hid (bel_in HBW.out hb)
   clear hb x0 x1 b0
   go_wp2
   go_ret
   exact ⟨by rw [X.out];try rfl,B3.out⟩
set_option maxHeartbeats 16000000 in
theorem q11allow_any (b:Nat) (U:List Ent) (m:List Hr) (A:Option Addr) (np c:Nat) (pn:List Pn) (w:World) (h:UR w b U m) (hp:rdPns w (lt_ w.heap.size) pn [.slice A np c]) (hm:m.length≤200) (hl:U.length≤200) (hv:∀x ∈ U,x.v.size≤1000000) (hx:∀x ∈ pn,x.x.size≤maxLen) :
  Calls Tryz.prog 26 #[.pointer (some ⟨b,0,none⟩),.slice A np c] w fun e w'=>(∃A c,e=.returned (.slice A (alw U (insU U m) pn).length c)∧rdInts w' (lt_ w'.heap.size) (alw U (insU U m) pn) [.slice A (alw U (insU U m) pn).length c])∧Below w.heap.size w w':=by
 have mixed:Tryz.prog.follows .mixedOrders=true:=by kernel_rfl
 obtain ⟨fi,hi,hz0,hz1,hz2⟩:=info_parts int9_info
 have K0:=Lib.hid (q9inst_any b U m w h hm)
 have KP:=Lib.hid (fun (k:Nat) (hk:k < U.length) (W:World) (hb:Below w.heap.size w W)=>q8prio_any A np c pn U[k].n U[k].v W (rdPns_good.up (rdPns_good.below hp hb) hb.size) (by have:=hv _ (List.getElem_mem hk);unfold maxLen;omega) hx)
 obtain ⟨Au,cu,Av,cv,h1,-,h3,-⟩:=h
 obtain ⟨-,huc,hum,-⟩:=rdEnts_at h3
 have hum':cu≤9223372036854775807:=hum
 have HU1:=Lib.hid h1
 have HU:=Lib.hid (fun (W:World) (hb:Below w.heap.size w W)=>(rdEnts_at (rdEnts_good.both (w':=W) (S':=lt_ W.heap.size) h3 (fun k hk=>hb.block k hk.1) (fun k hk=>Nat.lt_of_lt_of_le hk.1 hb.size))).2.2.2)
 clear h1 h3 hum hp hx hv
 generalize insU U m=here at *
 have X:=Lib.hid (alw_is U here pn)
 have ST:=Lib.hid (fun (k:Nat) (hk:k < U.length)=>ran_step (alB U here pn) k)
 have FB:=Lib.hid (fun (k:Nat) (hk:k < U.length)=>show alB U here pn (k:Int)=(decide (0≤prioN pn U[k].n U[k].v)||here.contains (k:Int)) from by unfold alB;rw [entA_at hk])
 have LN:=Lib.hid (ran_len (alB U here pn))
 generalize alw U here pn=out at *
 generalize alB U here pn=f at *
 go_enter Tryz.func26,Tryz.ntmps26
 go_wp2_with fail
 refine K0.out.mono ?_
 rintro e w1 ⟨⟨Ah,ch,rfl,hr⟩,hb⟩
 have KH:=Lib.hid (fun (k:Int) (W:World) (hx:Below w1.heap.size w1 W)=>(q11has_any Ah here.length ch here k W (rdInts_good.up (rdInts_good.below hr hx) hx.size)).mono (fun e w' (h:e=.returned (.bool (here.contains k))∧W=w')=>(⟨h.1,h.2 ▸ Below.refl _ _⟩:e=.returned (.bool (here.contains k))∧Below W.heap.size W w')))
 have B1:=Lib.hid hb
 clear hb hr K0
 go_wp2
 go_loopw [6,7] (fun v i wr=>∃k:Nat,k≤U.length∧i=.int .i64 k∧Grow rdInt 1 (fun _=>True) wr w1.heap.size 3 v ((rangU 0 k).filter f)∧Below w1.heap.size w1 wr) (fun _ i _=>U.length - (intOf i).toNat)
 case atStart=>exact ⟨0,Nat.zero_le _,rfl,Grow.nil _ _ _ _,Below.refl _ _⟩
 case round=>
  obtain ⟨k,hk,rfl,hG,hbel⟩:=hrel
  have HBI:=Lib.hid hbel
  have HBW:=Lib.hid (bel_in B1.out hbel)
  have HG:=Lib.hid hG
  clear hbel hG
  have b0:=keep6 HBW.out HU1.out
  by_cases hlt:k < U.length
  ·obtain ⟨adu,A1,c1,A2,c2,A3,c3,A4,c4,rfl,-,-,u0,u1,-⟩:=HU.out wr HBW.out k hlt
   have i0:(0:Int)≤(k:Int):=by omega
   have i1:(k:Int) < (U.length:Int):=by omega
   have S1:=Lib.hid (ST.out k hlt)
   have F1:=Lib.hid (FB.out k hlt)
   have ln:=LN.out k
   have GK:=Lib.hid (fun (W:World) (hx:Below wr.heap.size wr W)=>HG.out.below rdInt_good hx)
   have zb:=fun dd os=>cell_regrown (w:=wr) b0 dd os
   have v0:=fun dd os=>cell_regrown (w:=wr) u0 dd os
   have v1:=fun dd os=>cell_regrown (w:=wr) u1 dd os
   have BD:=Lib.hid (fun dd os=>below_regrown wr dd os)
   have P1:=Lib.hid (fun dd os=>KP.out k hlt _ (bel_in HBW.out (below_regrown wr dd os)))
   have P2:=Lib.hid (fun dd os=>KH.out (k:Int) _ (bel_in HBI.out (below_regrown wr dd os)))
   generalize prioN pn U[k].n U[k].v=pr at *
   generalize U[k]=y at *
   generalize here.contains (k:Int)=hc at *
   generalize hgl:(rangU 0 k).filter f=gl at *
   generalize hgn:(rangU 0 (k+1)).filter f=gn at *
   generalize f (k:Int)=fk at *
   have HGN:=Lib.hid hgn
   clear hgl hgn HG u0 u1
   have yes:∀(W3:World),Below wr.heap.size wr W3→fk=true→Grow rdInt 1 (fun _=>True) W3 w1.heap.size 3 u6 gl∧gn=gl++[(k:Int)]:=fun W3 h1 h2=>⟨GK.out W3 h1,by rw [S1.out,if_pos h2]⟩
   have no:∀(W3:World),Below wr.heap.size wr W3→fk=false→Grow rdInt 1 (fun _=>True) W3 w1.heap.size 3 u6 gn:=fun W3 h1 h2=>by rw [S1.out,if_neg (by rw [h2];decide)];exact GK.out W3 h1
   have YES:=Lib.hid yes
   have NO:=Lib.hid no
   clear yes no S1 GK
   by_cases g:0≤pr
   ·have hd:decide (0≤pr)=true:=decide_eq_true g
    have FK:=Lib.hid (show fk=true by rw [F1.out,hd];rfl)
    clear F1
    go_wp2_with fail
    refine wp_region_quiet_below mixed (by kernel_rfl) ?_
    repeat (go_big_quiet_step (first|(go_at_call 63;refine Calls.regrown_of (P1.out _ _))|(go_at_call 47;refine Calls.regrown_of (P2.out _ _))))
    refine wpQuiet_nil ?_
    intro W3 hw3
    have BX:=Lib.hid (show Below wr.heap.size wr W3 from by obtain ⟨pp,e⟩:=hw3;rw [e];exact BD.out pp.d pp.os)
    have B3:=Lib.hid (bel_in HBI.out BX.out)
    have G3:=Lib.hid (YES.out W3 BX.out FK.out)
    clear hw3 BD zb v0 v1 P1 P2
    have hE:=(show rdInt W3 (fun b=>True∧b < W3.heap.size∧u6.ownBlock≠some b) (k:Int) (#[Value.int .i64 (k:Int)]:Array Value).toList from rfl)
    have hn1:gl.length+1≤maxLen:=by unfold maxLen;omega
    have hn2:(gl.length+1)*8≤140737488355328:=by omega
    have hbs3:w1.heap.size≤W3.heap.size:=B3.out.size
    have hG3:=G3.out.1
    go_wp2_with (at_builtin;refine wpList_grow1 W3 rfl _ _ 25 rfl rdInt_good (by decide) (fun _=>True) w1.heap.size 3 fi _ 8 Tryz.underlying25 hi hz0 hz1 hz2 rfl u6 gl rfl hG3 (k:Int) _ 3 hE _ rfl rfl hn1 hn2 hbs3 ?_)
    intro v' w' hG' hgr
    have G4:=Lib.hid hG'
    have B4:=Lib.hid (grow_below hG3 hgr B3.out (Nat.le_refl _) hbs3)
    clear hG3 hgr hE hG'
    go_wp2
    go_roundw
    case rel=>exact ⟨k+1,by omega,by go_num,by rw [HGN.out,G3.out.2];exact G4.out,B4.out⟩
    case measure=>simp [intOf];omega
   ·have hd:decide (0≤pr)=false:=decide_eq_false g
    cases hc
    ·have FK:=Lib.hid (show fk=false by rw [F1.out,hd];rfl)
     clear F1
     go_wp2_with fail
     refine wp_region_quiet_below mixed (by kernel_rfl) ?_
     repeat (go_big_quiet_step (first|(go_at_call 63;refine Calls.regrown_of (P1.out _ _))|(go_at_call 47;refine Calls.regrown_of (P2.out _ _))))
     refine wpQuiet_nil ?_
     intro W3 hw3
     have BX:=Lib.hid (show Below wr.heap.size wr W3 from by obtain ⟨pp,e⟩:=hw3;rw [e];exact BD.out pp.d pp.os)
     have B3:=Lib.hid (bel_in HBI.out BX.out)
     have G3:=Lib.hid (NO.out W3 BX.out FK.out)
     clear hw3 BD zb v0 v1 P1 P2
     go_wp2
     go_roundw
     case rel=>exact ⟨k+1,by omega,by go_num,by rw [HGN.out];exact G3.out,B3.out⟩
     case measure=>simp [intOf];omega
    ·have FK:=Lib.hid (show fk=true by rw [F1.out,hd];rfl)
     clear F1
     go_wp2_with fail
     refine wp_region_quiet_below mixed (by kernel_rfl) ?_
     repeat (go_big_quiet_step (first|(go_at_call 63;refine Calls.regrown_of (P1.out _ _))|(go_at_call 47;refine Calls.regrown_of (P2.out _ _))))
     refine wpQuiet_nil ?_
     intro W3 hw3
     have BX:=Lib.hid (show Below wr.heap.size wr W3 from by obtain ⟨pp,e⟩:=hw3;rw [e];exact BD.out pp.d pp.os)
     have B3:=Lib.hid (bel_in HBI.out BX.out)
     have G3:=Lib.hid (YES.out W3 BX.out FK.out)
     clear hw3 BD zb v0 v1 P1 P2
     have hE:=(show rdInt W3 (fun b=>True∧b < W3.heap.size∧u6.ownBlock≠some b) (k:Int) (#[Value.int .i64 (k:Int)]:Array Value).toList from rfl)
     have hn1:gl.length+1≤maxLen:=by unfold maxLen;omega
     have hn2:(gl.length+1)*8≤140737488355328:=by omega
     have hbs3:w1.heap.size≤W3.heap.size:=B3.out.size
     have hG3:=G3.out.1
     go_wp2_with (at_builtin;refine wpList_grow1 W3 rfl _ _ 25 rfl rdInt_good (by decide) (fun _=>True) w1.heap.size 3 fi _ 8 Tryz.underlying25 hi hz0 hz1 hz2 rfl u6 gl rfl hG3 (k:Int) _ 3 hE _ rfl rfl hn1 hn2 hbs3 ?_)
     intro v' w' hG' hgr
     have G4:=Lib.hid hG'
     have B4:=Lib.hid (grow_below hG3 hgr B3.out (Nat.le_refl _) hbs3)
     clear hG3 hgr hE hG'
     go_wp2
     go_roundw
     case rel=>exact ⟨k+1,by omega,by go_num,by rw [HGN.out,G3.out.2];exact G4.out,B4.out⟩
     case measure=>simp [intOf];omega
  ·obtain rfl:k=U.length:=by omega
   have i0:¬(U.length:Int) < (U.length:Int):=by omega
   have RD:=Lib.hid (show rdInts wr (lt_ wr.heap.size) out [u6] from by
    rw [X.out];exact HG.out.read rdInt_good)
   obtain ⟨Aq,cq,hv6,-,-⟩:=id RD.out
   simp only [List.cons.injEq,and_true] at hv6
   subst hv6
   clear HG
   go_wp2
   go_ret
   exact ⟨⟨Aq,cq,rfl,RD.out⟩,HBW.out⟩
set_option maxHeartbeats 16000000 in
theorem q11behind_any (b:Nat) (U:List Ent) (m:List Hr) (A:Option Addr) (np c:Nat) (pn:List Pn) (p:Int) (w:World) (h:UR w b U m) (hp:rdPns w (lt_ w.heap.size) pn [.slice A np c]) (hm:m.length≤200) (hl:U.length≤200) (hv:∀x ∈ U,x.v.size≤1000000) (hx:∀x ∈ pn,x.x.size≤maxLen) :
  Calls Tryz.prog 23 #[.pointer (some ⟨b,0,none⟩),.slice A np c,.int .i64 p] w fun e w'=>e=.returned (.int .i64 (bhd U (insU U m) pn p))∧Below w.heap.size w w':=by
 have mixed:Tryz.prog.follows .mixedOrders=true:=by kernel_rfl
 have K0:=Lib.hid (q11allow_any b U m A np c pn w h hp hm hl hv hx)
 obtain ⟨Au,cu,Av,cv,h1,-,h3,-⟩:=h
 obtain ⟨-,huc,hum,-⟩:=rdEnts_at h3
 have hum':cu≤9223372036854775807:=hum
 have HU1:=Lib.hid h1
 have HU:=Lib.hid (fun (W:World) (hb:Below w.heap.size w W)=>(rdEnts_at (rdEnts_good.both (w':=W) (S':=lt_ W.heap.size) h3 (fun k hk=>hb.block k hk.1) (fun k hk=>Nat.lt_of_lt_of_le hk.1 hb.size))).2.2.2)
 clear h1 h3 hum hp hx hv
 have b0:=HU1.out
 by_cases hin:0≤p∧p < (U.length:Int)
 rotate_left
 ·have X:=Lib.hid (show bhd U (insU U m) pn p=0 from bhd_out hin)
  generalize bhd U (insU U m) pn p=R at *
  by_cases h0:p < 0
  ·clear hin K0
   go_enter Tryz.func23,Tryz.ntmps23
   go_wp2
   go_ret
   exact ⟨by rw [X.out];try rfl,Below.refl _ _⟩
  ·have h1:(U.length:Int)≤p:=by omega
   clear hin K0
   go_enter Tryz.func23,Tryz.ntmps23
   go_wp2
   go_ret
   exact ⟨by rw [X.out];try rfl,Below.refl _ _⟩
 obtain ⟨hp0,hp1⟩:=hin
 have hn0:¬p < 0:=by omega
 have hn1:¬(U.length:Int)≤p:=by omega
 have X:=Lib.hid (show bhd U (insU U m) pn p=(((alw U (insU U m) pn).filter fun q=>decide (p < q)&&decide ((entA U q).n=(entA U p).n)).length:Int) from by unfold bhd bhdL;rw [if_pos ⟨hp0,hp1⟩])
 have SM:=Lib.hid (alw_set U (insU U m) pn)
 generalize bhd U (insU U m) pn p=R at *
 have LM:=Lib.hid (show (alw U (insU U m) pn).length≤200 from Nat.le_trans (ran_len _ _) hl)
 generalize alw U (insU U m) pn=may at *
 obtain ⟨j,rfl⟩:=Int.eq_ofNat_of_zero_le hp0
 have hjl:j < U.length:=by omega
 obtain ⟨adu,A1,c1,A2,c2,A3,c3,A4,c4,ea,-⟩:=HU.out w (Below.refl _ _) j hjl
 subst ea
 have PJ:=Lib.hid (fun (W:World) (hb:Below w.heap.size w W)=>(show W.cell? (adu.add (j*6))=some (.string U[j].n) from by
  obtain ⟨ad',D1,d1,D2,d2,D3,d3,D4,d4,e1,-,-,u0,-⟩:=HU.out W hb j hjl
  obtain rfl:adu=ad':=Option.some.inj e1
  exact u0))
 have STP:=Lib.hid (fun (k:Nat) (hk:k < may.length)=>filN_take (p:=fun q=>decide ((j:Int) < q)&&decide ((entA U q).n=(entA U (j:Int)).n)) hk)
 have LE:=Lib.hid (fun (k:Nat)=>show ((may.take k).filter fun q=>decide ((j:Int) < q)&&decide ((entA U q).n=(entA U (j:Int)).n)).length≤200 from by
  have h1:=List.length_filter_le (fun q=>decide ((j:Int) < q)&&decide ((entA U q).n=(entA U (j:Int)).n)) (may.take k)
  have h2:(may.take k).length≤may.length:=by rw [List.length_take];omega
  have:=LM.out;omega)
 rw [entA_at hjl] at X STP LE
 go_enter Tryz.func23,Tryz.ntmps23
 go_wp2_with fail
 refine K0.out.mono ?_
 rintro e w1 ⟨⟨Ah,ch,rfl,hr⟩,hb⟩
 obtain ⟨-,hhc,hhm,-⟩:=rdInts_at hr
 have hhm':ch≤9223372036854775807:=hhm
 have HR:=Lib.hid (fun (W:World) (hx:Below w1.heap.size w1 W)=>(rdInts_at (rdInts_good.up (rdInts_good.below hr hx) hx.size)).2.2.2)
 have B1:=Lib.hid hb
 clear hb hr hhm K0 b0
 go_wp2
 go_loopw [8,9] (fun v i wr=>∃k:Nat,k≤may.length∧i=.int .i64 k∧v=.int .i64 ((((may.take k).filter fun q=>decide ((j:Int) < q)&&decide ((entA U q).n=U[j].n)).length:Nat):Int)∧Below w1.heap.size w1 wr) (fun _ i _=>may.length - (intOf i).toNat)
 case atStart=>exact ⟨0,Nat.zero_le _,rfl,rfl,Below.refl _ _⟩
 case round=>
  obtain ⟨k,hk,rfl,rfl,hbel⟩:=hrel
  have HBI:=Lib.hid hbel
  have HBW:=Lib.hid (bel_in B1.out hbel)
  clear hbel
  have le:=LE.out k
  by_cases hlt:k < may.length
  ·obtain ⟨adl,rfl,-,l0⟩:=HR.out wr HBI.out k hlt
   obtain ⟨s0,s1⟩:=SM.out.1 _ (List.getElem_mem hlt)
   have S1:=Lib.hid (STP.out k hlt)
   obtain ⟨i,hi⟩:=Int.eq_ofNat_of_zero_le s0
   rw [hi] at l0 s1 S1
   have hil:i < U.length:=by omega
   obtain ⟨ad',D1,d1,D2,d2,D3,d3,D4,d4,e1,-,-,u0,-⟩:=HU.out wr HBW.out i hil
   obtain rfl:adu=ad':=Option.some.inj e1
   have p0:=PJ.out wr HBW.out
   have b0:=keep6 HBW.out HU1.out
   rw [entA_at hil] at S1
   have i0:(0:Int)≤(k:Int):=by omega
   have i1:(k:Int) < (may.length:Int):=by omega
   have j0:(0:Int)≤(i:Int):=by omega
   have j1:(i:Int) < (U.length:Int):=by omega
   have zl:=fun dd os=>cell_regrown (w:=wr) l0 dd os
   have zb:=fun dd os=>cell_regrown (w:=wr) b0 dd os
   have v0:=fun dd os=>cell_regrown (w:=wr) u0 dd os
   have vp:=fun dd os=>cell_regrown (w:=wr) p0 dd os
   have BD:=Lib.hid (fun dd os=>below_regrown wr dd os)
   have en:=str_eq U[i].n U[j].n
   generalize gg2:((may.take (k+1)).filter fun q=>decide ((j:Int) < q)&&decide ((entA U q).n=U[j].n)).length=r2 at *
   have GG2:=Lib.hid gg2
   clear gg2
   generalize ((may.take k).filter fun q=>decide ((j:Int) < q)&&decide ((entA U q).n=U[j].n)).length=r1 at *
   generalize U[i]=y at *
   generalize U[j]=x at *
   clear hi s0 u0 l0 b0 p0 e1
   by_cases g:(j:Int) < (i:Int)
   ·have hd:decide ((j:Int) < (i:Int))=true:=decide_eq_true g
    have hdn:decide (j < i)=true:=decide_eq_true (by omega)
    by_cases he:y.n=x.n
    ·rw [decide_eq_true he] at en
     have NX:=Lib.hid (show r2=r1+1 by rw [S1.out,hd,decide_eq_true he];rfl)
     clear he S1
     go_wp2_with fail
     refine wp_region_quiet_below mixed (by kernel_rfl) ?_
     repeat (go_big_quiet_step (fail))
     refine wpQuiet_nil ?_
     intro W3 hw3
     have BX:=Lib.hid (show Below wr.heap.size wr W3 from by obtain ⟨pp,e⟩:=hw3;rw [e];exact BD.out pp.d pp.os)
     have B3:=Lib.hid (bel_in HBI.out BX.out)
     clear hw3 BD zb v0 vp zl
     go_wp2
     go_roundw
     case rel=>exact ⟨k+1,by omega,by go_num,by rw [GG2.out,NX.out];first|rfl|go_num|(congr 1),B3.out⟩
     case measure=>simp [intOf];omega
    ·rw [decide_eq_false he] at en
     have NX:=Lib.hid (show r2=r1 by rw [S1.out,hd,decide_eq_false he];rfl)
     clear he S1
     go_wp2_with fail
     refine wp_region_quiet_below mixed (by kernel_rfl) ?_
     repeat (go_big_quiet_step (fail))
     refine wpQuiet_nil ?_
     intro W3 hw3
     have BX:=Lib.hid (show Below wr.heap.size wr W3 from by obtain ⟨pp,e⟩:=hw3;rw [e];exact BD.out pp.d pp.os)
     have B3:=Lib.hid (bel_in HBI.out BX.out)
     clear hw3 BD zb v0 vp zl
     go_wp2
     go_roundw
     case rel=>exact ⟨k+1,by omega,by go_num,by rw [GG2.out,NX.out],B3.out⟩
     case measure=>simp [intOf];omega
   ·have hd:decide ((j:Int) < (i:Int))=false:=decide_eq_false g
    have hdn:decide (j < i)=false:=decide_eq_false (by omega)
    have NX:=Lib.hid (show r2=r1 by rw [S1.out,hd];rfl)
    clear S1 en
    go_wp2_with fail
    refine wp_region_quiet_below mixed (by kernel_rfl) ?_
    repeat (go_big_quiet_step (fail))
    refine wpQuiet_nil ?_
    intro W3 hw3
    have BX:=Lib.hid (show Below wr.heap.size wr W3 from by obtain ⟨pp,e⟩:=hw3;rw [e];exact BD.out pp.d pp.os)
    have B3:=Lib.hid (bel_in HBI.out BX.out)
    clear hw3 BD zb v0 vp zl
    go_wp2
    go_roundw
    case rel=>exact ⟨k+1,by omega,by go_num,by rw [GG2.out,NX.out],B3.out⟩
    case measure=>simp [intOf];omega
  ·obtain rfl:k=may.length:=by omega
   have i0:¬(may.length:Int) < (may.length:Int):=by omega
   have XX:=Lib.hid X.out
   rw [List.take_length] at *
   generalize (may.filter fun q=>decide ((j:Int) < q)&&decide ((entA U q).n=U[j].n)).length=r1 at *
   go_wp2
   go_ret
   exact ⟨by rw [XX.out];try rfl,HBW.out⟩
set_option maxHeartbeats 16000000 in
theorem q11want_any (b:Nat) (U:List Ent) (m:List Hr) (Al:Option Addr) (nl cl:Nat) (l:List Int) (w:World) (h:UR w b U m) (hl:rdInts w (lt_ w.heap.size) l [.slice Al nl cl]) (hn:l.length≤1000) (hp:∀x ∈ U,x.p.length≤1000) (hr:∀x ∈ U,x.r.length≤15) :
  Calls Tryz.prog 21 #[.pointer (some ⟨b,0,none⟩),.slice Al nl cl] w fun e w'=>e=.returned (.int .i64 (wnt U l))∧Below w.heap.size w w':=by
 have mixed:Tryz.prog.follows .mixedOrders=true:=by kernel_rfl
 have K0:=Lib.hid (q10set_any b U m Al nl cl l w h hl)
 have KG:=Lib.hid (fun (hs:∀p ∈ l,0≤p∧p < (U.length:Int)) (Ag:Option Addr) (cg:Nat) (g:List Atm) (W:World) (hb:Below w.heap.size w W) hg=>q10group_any b U m Al nl cl l Ag g.length cg g W (h.below hb) (rdInts_good.up (rdInts_good.below hl hb) hb.size) hs hp hg)
 obtain ⟨rfl,hlc,hlm,-⟩:=rdInts_at hl
 have hlm':cl≤9223372036854775807:=hlm
 have HL:=Lib.hid (fun (W:World) (hb:Below w.heap.size w W)=>(rdInts_at (rdInts_good.up (rdInts_good.below hl hb) hb.size)).2.2.2)
 obtain ⟨Au,cu,Av,cv,h1,-,h3,-⟩:=h
 obtain ⟨-,huc,hum,-⟩:=rdEnts_at h3
 have hum':cu≤9223372036854775807:=hum
 have HU1:=Lib.hid h1
 have HU:=Lib.hid (fun (W:World) (hb:Below w.heap.size w W)=>(rdEnts_at (rdEnts_good.both (w':=W) (S':=lt_ W.heap.size) h3 (fun k hk=>hb.block k hk.1) (fun k hk=>Nat.lt_of_lt_of_le hk.1 hb.size))).2.2.2)
 clear h1 h3 hum hl hlm
 cases hset:setB U.length l
 ·have X:=Lib.hid (show wnt U l=0 by unfold wnt;rw [hset];rfl)
  rw [hset] at K0
  generalize wnt U l=R at *
  go_enter Tryz.func21,Tryz.ntmps21
  go_wp2_with fail
  refine K0.out.mono ?_
  rintro e w1 ⟨rfl,hb⟩
  have B1:=Lib.hid hb
  clear hb K0 KG hset
  go_wp2
  go_loopw [6,7] (fun v i wr=>v=.int .i64 0∧i=.int .i64 0∧Below w.heap.size w wr) (fun _ _ _=>0)
  case atStart=>exact ⟨rfl,rfl,B1.out⟩
  case round=>
   obtain ⟨rfl,rfl,hbel⟩:=hrel
   have HB:=Lib.hid hbel
   clear hbel
   go_wp2
   go_ret
   exact ⟨by rw [X.out];try rfl,HB.out⟩
 ·have SP:SetP U.length l:=of_decide_eq_true hset
  have X:=Lib.hid (show wnt U l=((wnS U l (l.take l.length):Nat):Int) by unfold wnt;rw [if_pos hset,List.take_length])
  have HS:=Lib.hid SP.1
  have KG:=Lib.hid (KG.out SP.1)
  have WL:=Lib.hid (fun (k:Nat)=>show wnS U l (l.take k)≤15000 from by
   have h1:=wnS_le (U:=U) (l:=l) hr (l.take k)
   have h2:(l.take k).length≤l.length:=by rw [List.length_take];omega
   have h3:(l.take k).length*15≤1000*15:=Nat.mul_le_mul_right _ (by omega)
   omega)
  have ST:=Lib.hid (fun (k:Nat) (hk:k < l.length)=>show wnS U l (l.take (k+1))=wnS U l (l.take k)+wnP U l l[k] from sumN_take (f:=wnP U l) hk)
  have HRR:=Lib.hid hr
  rw [hset] at K0
  clear hr hp hset SP
  generalize wnt U l=R at *
  go_enter Tryz.func21,Tryz.ntmps21
  go_wp2_with fail
  refine K0.out.mono ?_
  rintro e w1 ⟨rfl,hb⟩
  have B1:=Lib.hid hb
  clear hb K0
  go_wp2
  go_loopw [6,7] (fun v i wr=>∃k:Nat,k≤l.length∧i=.int .i64 k∧v=.int .i64 ((wnS U l (l.take k):Nat):Int)∧Below w.heap.size w wr) (fun _ i _=>l.length - (intOf i).toNat)
  case atStart=>exact ⟨0,Nat.zero_le _,rfl,rfl,B1.out⟩
  case round=>
   obtain ⟨k,hk,rfl,rfl,hbel⟩:=hrel
   have HB:=Lib.hid hbel
   clear hbel
   have wl:=WL.out k
   by_cases hlt:k < l.length
   ·obtain ⟨adl,rfl,-,l0⟩:=HL.out wr HB.out k hlt
    obtain ⟨s0,s1⟩:=HS.out _ (List.getElem_mem hlt)
    have S1:=Lib.hid (ST.out k hlt)
    obtain ⟨j,hj⟩:=Int.eq_ofNat_of_zero_le s0
    rw [hj] at l0 s1 S1
    have hjl:j < U.length:=by omega
    obtain ⟨adu,A1,c1,A2,c2,A3,c3,A4,c4,rfl,-,hv,u0,u1,u2,u3,-⟩:=HU.out wr HB.out j hjl
    have b0:=keep6 HB.out HU1.out
    unfold wnP at S1
    rw [entA_at hjl] at S1
    have rl:=HRR.out _ (List.getElem_mem hjl)
    have HVR:=Lib.hid (fun (W:World) (hx:Below wr.heap.size wr W)=>(rdGrps_at (hv.on hx).r))
    have i0:(0:Int)≤(k:Int):=by omega
    have i1:(k:Int) < (l.length:Int):=by omega
    have j0:(0:Int)≤(j:Int):=by omega
    have j1:(j:Int) < (U.length:Int):=by omega
    have zl:=fun dd os=>cell_regrown (w:=wr) l0 dd os
    have zb:=fun dd os=>cell_regrown (w:=wr) b0 dd os
    have v3:=fun dd os=>cell_regrown (w:=wr) u3 dd os
    have BD:=Lib.hid (fun dd os=>below_regrown wr dd os)
    generalize U[j].r=r at *
    generalize gg2:wnS U l (l.take (k+1))=r2 at *
    have GG2:=Lib.hid gg2
    clear gg2
    generalize wnS U l (l.take k)=r1 at *
    have S2:=Lib.hid (show r2=r1+((r.take r.length).filter fun g=>!metS U l g).length by rw [List.take_length];exact S1.out)
    have TS:=Lib.hid (fun (i:Nat) (hi:i < r.length)=>filN_take (p:=fun g=>!metS U l g) hi)
    have TL:=Lib.hid (fun (i:Nat)=>show ((r.take i).filter fun g=>!metS U l g).length≤15 from by
     have h1:=List.length_filter_le (fun g=>!metS U l g) (r.take i)
     have h2:(r.take i).length≤r.length:=by rw [List.length_take];omega
     omega)
    obtain ⟨-,hrc,hrm,-⟩:=HVR.out wr (Below.refl _ _)
    have hrm':c2≤9223372036854775807:=hrm
    clear hj s0 u0 u1 u2 u3 l0 b0 hv S1 hrm
    go_wp2_with fail
    refine wp_region_quiet_below mixed (by kernel_rfl) ?_
    repeat (go_big_quiet_step (fail))
    refine wpQuiet_nil ?_
    intro W3 hw3
    have BX:=Lib.hid (show Below wr.heap.size wr W3 from by obtain ⟨pp,e⟩:=hw3;rw [e];exact BD.out pp.d pp.os)
    have B3:=Lib.hid (bel_in HB.out BX.out)
    have BXX:=Lib.hid BX.out
    clear hw3 BD zb v3 zl BX
    go_wp2
    go_loopw [6,9] (fun v i wq=>∃q:Nat,q≤r.length∧i=.int .i64 q∧v=.int .i64 ((r1+((r.take q).filter fun g=>!metS U l g).length:Nat):Int)∧Below W3.heap.size W3 wq) (fun _ i _=>r.length - (intOf i).toNat)
    case atStart=>exact ⟨0,Nat.zero_le _,rfl,rfl,Below.refl _ _⟩
    case round=>
     obtain ⟨q,hq,rfl,rfl,hbel⟩:=hrel
     have HQ:=Lib.hid (bel_in B3.out hbel)
     have HQR:=Lib.hid (bel_in BXX.out hbel)
     have HQ3:=Lib.hid hbel
     clear hbel
     have tl:=TL.out q
     by_cases hqlt:q < r.length
     ·obtain ⟨adr,Ag,cg,rfl,-,g0,hg⟩:=(HVR.out _ HQR.out).2.2.2 q hqlt
      have K1:=Lib.hid (KG.out Ag cg r[q] _ HQ.out hg)
      have T1:=Lib.hid (TS.out q hqlt)
      have q0:(0:Int)≤(q:Int):=by omega
      have q1:(q:Int) < (r.length:Int):=by omega
      generalize gt2:((r.take (q+1)).filter fun g=>!metS U l g).length=t2 at *
      have GT2:=Lib.hid gt2
      clear gt2
      generalize ((r.take q).filter fun g=>!metS U l g).length=t1 at *
      generalize r[q]=g at *
      generalize metS U l g=mb at *
      clear hg
      go_wp2_with fail
      refine K1.out.mono ?_
      rintro e w5 ⟨rfl,hb⟩
      have H5:=Lib.hid (bel_in HQ3.out hb)
      clear hb g0 K1
      cases mb
      ·have NX:=Lib.hid (show t2=t1+1 by rw [T1.out];rfl)
       go_wp2
       go_roundw
       case rel=>exact ⟨q+1,by omega,by go_num,by rw [GT2.out,NX.out];first|rfl|go_num|simp|(congr 1),H5.out⟩
       case measure=>simp [intOf];omega
      ·have NX:=Lib.hid (show t2=t1 by rw [T1.out];rfl)
       go_wp2
       go_roundw
       case rel=>exact ⟨q+1,by omega,by go_num,by rw [GT2.out,NX.out];first|rfl|go_num|simp,H5.out⟩
       case measure=>simp [intOf];omega
     ·obtain rfl:q=r.length:=by omega
      have q0:¬(r.length:Int) < (r.length:Int):=by omega
      go_wp2
      go_roundw
      case rel=>exact ⟨k+1,by omega,by go_num,by rw [GG2.out,S2.out],HQ.out⟩
      case measure=>simp [intOf];omega
   ·obtain rfl:k=l.length:=by omega
    have j0:¬(l.length:Int) < (l.length:Int):=by omega
    have XX:=Lib.hid X.out
    generalize wnS U l (l.take l.length)=r1 at *
    go_wp2
    go_ret
    exact ⟨by rw [XX.out];try rfl,HB.out⟩
end Go.Proofs.YtpilmhoakopcaaaGreatDoor
namespace Go.Proofs.YtpilmhoakopcaaaGreatDoor
open Go.RowKit
theorem Bx.keep {α:Type} {E:Rd α} {sz:Nat} (g:Good E sz) {w1 W:World} {cb:Nat} {x:C5} {a:α} {cs:List Value} {S:Nat→Prop} (h:Bx w1 cb W x) (hr:E w1 S a cs) (hS:∀b,S b→b < w1.heap.size∧b≠cb):E W (lt_ W.heap.size) a cs:=h.p.keep g hr hS
end Go.Proofs.YtpilmhoakopcaaaGreatDoor
