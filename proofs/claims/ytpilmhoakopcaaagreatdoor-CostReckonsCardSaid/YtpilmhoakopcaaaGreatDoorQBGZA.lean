/- What the laws rest on: E11q. -/
import Derived.Test.YtpilmhoakopcaaaGreatDoorQBEZA
set_option maxRecDepth 100000
set_option linter.unusedVariables false
set_option linter.unusedSimpArgs false
namespace Go.Proofs.YtpilmhoakopcaaaGreatDoor
open Go.RowKit Go.Sort
theorem ran_map {f:Int→C5} (k:Nat):(rangU 0 (k+1)).map f=(rangU 0 k).map f++[f (k:Int)]:=by
 rw [rangU_snoc,List.map_append];rfl
theorem wgC_at {U:List Ent} {here:List Int} {pn:List Pn} {up:Bool} {k:Nat} (h:k < U.length):wgC U here pn up (k:Int)=⟨0,los U pn (k:Int),if up=true then bhd U here pn (k:Int) else if 0≤inP U here U[k].n∧inP U here U[k].n≠(k:Int) then 1 else 0,0,if inP U here U[k].n < 0 then 1 else 0⟩:=by
 unfold wgC w2P w4P
 rw [entA_at h]
set_option maxHeartbeats 32000000 in
theorem q11wgt_any (b:Nat) (U:List Ent) (m:List Hr) (A:Option Addr) (np c:Nat) (pn:List Pn) (up:Bool) (w:World) (h:UR w b U m) (hpn:rdPns w (lt_ w.heap.size) pn [.slice A np c]) (hm:m.length≤200) (hU:U.length≤200) (hs:SetP U.length (insU U m)) (hv:∀x ∈ U,x.v.size≤1000000) (hz:∀x ∈ pn,x.n.size≤65536∧x.x.size≤maxLen) :
  Calls Tryz.prog 18 #[.pointer (some ⟨b,0,none⟩),.slice A np c,.bool up] w fun e w'=>(∃A c,e=.returned (.tuple #[.slice A (wgA U (insU U m) pn up).length c,.int .i64 (wgE pn)])∧rdCs w' (lt_ w'.heap.size) (wgA U (insU U m) pn up) [.slice A (wgA U (insU U m) pn up).length c])∧Below w.heap.size w w':=by
 obtain ⟨fi,hi,hz0,hz1,hz2⟩:=info_parts cost11_info
 have KR:=Lib.hid (q11right_any A np c pn w hpn hz)
 have KS:=Lib.hid (fun (n:ByteArray) (W:World) (hb:Below w.heap.size w W)=>q11inst_any b U m n W (h.below hb) hm hs)
 have KL:=Lib.hid (fun (hB:Bd8 pn) (p:Int) (h0:0≤p) (h1:p < (U.length:Int)) (W:World) (hb:Below w.heap.size w W)=>q11loss_any b U m A np c pn p W (h.below hb) (rdPns_good.up (rdPns_good.below hpn hb) hb.size) h0 h1 hU hv (fun x hx=>(hz x hx).2) hB)
 have KB:=Lib.hid (fun (p:Int) (W:World) (hb:Below w.heap.size w W)=>q11behind_any b U m A np c pn p W (h.below hb) (rdPns_good.up (rdPns_good.below hpn hb) hb.size) hm hU hv (fun x hx=>(hz x hx).2))
 obtain ⟨Au,cu,Av,cv,h1,-,h3,-⟩:=h
 obtain ⟨-,huc,hum,-⟩:=rdEnts_at h3
 have hum':cu≤9223372036854775807:=hum
 have HU1:=Lib.hid h1
 have HU:=Lib.hid (fun (W:World) (hb:Below w.heap.size w W)=>(rdEnts_at (rdEnts_good.both (w':=W) (S':=lt_ W.heap.size) h3 (fun k hk=>hb.block k hk.1) (fun k hk=>Nat.lt_of_lt_of_le hk.1 hb.size))).2.2.2)
 clear h1 h3 hum hv hz hpn
 generalize insU U m=here at *
 cases hrt:pn.all rgtN
 ·have XA:=Lib.hid (show wgA U here pn up=[] by unfold wgA;rw [hrt];rfl)
  have XE:=Lib.hid (show wgE pn=1 by unfold wgE;rw [hrt];rfl)
  rw [hrt] at KR
  generalize wgA U here pn up=R at *
  generalize wgE pn=E at *
  go_enter Tryz.func18,Tryz.ntmps18
  go_wp2_with fail
  refine KR.out.mono ?_
  rintro e w1 ⟨rfl,hb⟩
  have B1:=Lib.hid hb
  have X1:=XA.out
  subst X1
  clear hb KR KS KL KB hrt
  go_wp2
  go_ret2
  exact ⟨⟨none,0,by rw [XE.out];try rfl,rdRow_nil _ _⟩,B1.out⟩
 have XA:=Lib.hid (show wgA U here pn up=(rangU 0 U.length).map (wgC U here pn up) by unfold wgA;rw [hrt];rfl)
 have XE:=Lib.hid (show wgE pn=0 by unfold wgE;rw [hrt];rfl)
 have KL:=Lib.hid (KL.out (rgt_bd hrt).2)
 have AT:=Lib.hid (fun (k:Nat) (hk:k < U.length)=>wgC_at (here:=here) (pn:=pn) (up:=up) hk)
 have ST:=Lib.hid (fun (k:Nat)=>ran_map (f:=wgC U here pn up) k)
 have LN:=Lib.hid (fun (k:Nat)=>show ((rangU 0 k).map (wgC U here pn up)).length=k by rw [List.length_map,rangU_len])
 rw [hrt] at KR
 clear hrt
 generalize wgA U here pn up=R at *
 generalize wgE pn=E at *
 go_enter Tryz.func18,Tryz.ntmps18
 go_wp2_with fail
 refine KR.out.mono ?_
 rintro e w1 ⟨rfl,hb⟩
 have B1:=Lib.hid hb
 clear hb KR
 go_wp2
 go_loopw [9,10] (fun v i wr=>∃k:Nat,k≤U.length∧i=.int .i64 k∧Grow rdC 5 (fun _=>True) wr w.heap.size 39 v ((rangU 0 k).map (wgC U here pn up))∧Below w.heap.size w wr) (fun _ i _=>U.length - (intOf i).toNat)
 case atStart=>exact ⟨0,Nat.zero_le _,rfl,Grow.nil _ _ _ _,B1.out⟩
 case round=>
  obtain ⟨k,hk,rfl,hG,hbel⟩:=hrel
  have HB:=Lib.hid hbel
  have HG:=Lib.hid hG
  clear hbel hG
  have b0:=keep6 HB.out HU1.out
  by_cases hlt:k < U.length
  ·obtain ⟨adu,A1,c1,A2,c2,A3,c3,A4,c4,rfl,-,-,u0,-⟩:=HU.out wr HB.out k hlt
   have i0:(0:Int)≤(k:Int):=by omega
   have i1:(k:Int) < (U.length:Int):=by omega
   have ln:=LN.out k
   have S1:=Lib.hid (ST.out k)
   have A1':=Lib.hid (AT.out k hlt)
   have KSk:=Lib.hid (fun (W:World) (hb:Below w.heap.size w W)=>KS.out U[k].n W hb)
   have KLk:=Lib.hid (fun (W:World) (hb:Below w.heap.size w W)=>KL.out (k:Int) i0 i1 W hb)
   have KBk:=Lib.hid (fun (W:World) (hb:Below w.heap.size w W)=>KB.out (k:Int) W hb)
   generalize hgn:(rangU 0 (k+1)).map (wgC U here pn up)=gn at *
   have HGN:=Lib.hid hgn
   generalize hgl:(rangU 0 k).map (wgC U here pn up)=gl at *
   generalize wgC U here pn up (k:Int)=x at *
   generalize los U pn (k:Int)=lo at *
   generalize bhd U here pn (k:Int)=bh at *
   generalize inP U here U[k].n=ip at *
   generalize U[k].n=yn at *
   clear hgn hgl
   go_wp2_with fail
   refine (KSk.out wr HB.out).mono ?_
   rintro e w2 ⟨rfl,hb2⟩
   have H2:=Lib.hid (bel_in HB.out hb2)
   have Q2:=Lib.hid hb2
   clear hb2 u0
   go_wp2_with fail
   refine (KLk.out w2 H2.out).mono ?_
   rintro e w3 ⟨rfl,hb3⟩
   have H3:=Lib.hid (bel_in H2.out hb3)
   have Q3:=Lib.hid (bel_in Q2.out hb3)
   clear hb3
   obtain ⟨W5,hW5⟩:∃W,W=w3.alloc (.cells #[.int .i64 0,.int .i64 lo,.int .i64 0,.int .i64 0,.int .i64 0] 39):=⟨_,rfl⟩
   have b5:Below w3.heap.size w3 W5:=by rw [hW5];exact (Below.refl _ w3).alloc (Nat.le_refl _) _
   have Q5:=Lib.hid (bel_in Q3.out b5)
   have BX5:=Lib.hid (show Bx W5 w3.heap.size W5 ⟨0,lo,0,0,0⟩ from ⟨Pst.refl _ _,by rw [hW5];exact heap_alloc_new w3 _⟩)
   have HQ:=Lib.hid (fun (W:World) (x:C5) (hx:Bx W5 w3.heap.size W x)=>hx.base Q5.out Q3.out.size)
   have HBQ:=Lib.hid (fun (W:World) (x:C5) (hx:Bx W5 w3.heap.size W x)=>bel_in HB.out (HQ.out W x hx))
   clear b5
   go_upto_region 10 with fail
   rw [←hW5]
   clear hW5 Q2 Q3 H2 H3
   generalize w3.heap.size=cb at *
   by_cases hip:ip < 0
   ·have hnn:¬0≤ip:=by omega
    cases up
    ·skip
     obtain ⟨VV,hVV⟩:∃V,V=W5.setCell ⟨cb,4,none⟩ (.int .i64 1):=⟨_,rfl⟩
     have BF:=Lib.hid (show Bx W5 cb VV ⟨0,lo,0,0,1⟩ from by rw [hVV];exact BX5.out.set4 1)
     have XX:=Lib.hid (show x=⟨0,lo,0,0,1⟩ by rw [A1'.out,if_neg (by decide),if_neg (fun c=>hnn c.1),if_pos hip])
     obtain ⟨p0,p1,p2,p3,p4⟩:=BX5.out.cells
     have f4:=BX5.out.free 4
     simp only at p4
     clear p0 p1 p2 p3
     go_upto_region 16 with fail
     rw [←hVV]
     clear hVV p4 f4
     have GV:=HG.out.below rdC_good (HQ.out _ _ BF.out)
     obtain ⟨y0,y1,y2,y3,y4⟩:=BF.out.cells
     simp only at y0 y1 y2 y3 y4
     have hn1:gl.length+1≤maxLen:=by unfold maxLen;omega
     have hn2:(gl.length+1)*40≤140737488355328:=by omega
     have B3:=Lib.hid (HBQ.out _ _ BF.out)
     have hbs3:w.heap.size≤VV.heap.size:=B3.out.size
     have hE:=(show rdC VV (fun b=>True∧b < VV.heap.size∧u9.ownBlock≠some b) x (#[Value.int .i64 0,Value.int .i64 lo,Value.int .i64 0,Value.int .i64 0,Value.int .i64 1]:Array Value).toList from by rw [XX.out];rfl)
     clear BF
     go_wp2_with (at_builtin;refine wpList_grow1 VV rfl _ _ 43 rfl rdC_good (by decide) (fun _=>True) w.heap.size 39 fi _ 40 Tryz.underlying43 hi hz0 hz1 hz2 rfl u9 gl rfl GV x _ 39 hE _ rfl rfl hn1 hn2 hbs3 ?_)
     intro v' w' hG' hgr
     have G4:=Lib.hid hG'
     have B4:=Lib.hid (grow_below GV hgr B3.out (Nat.le_refl _) hbs3)
     clear hgr hE hG' GV y0 y1 y2 y3 y4
     go_wp2
     go_roundw
     case rel=>exact ⟨k+1,by omega,by go_num,by rw [HGN.out,S1.out];exact G4.out,B4.out⟩
     case measure=>simp [intOf];omega
    ·skip
     obtain ⟨p0,p1,p2,p3,p4⟩:=BX5.out.cells
     have f2:=BX5.out.free 2
     simp only at p2
     clear p0 p1 p3 p4 p2 f2
     go_wp2_with fail
     refine (KBk.out W5 (HBQ.out _ _ BX5.out)).mono ?_
     rintro e w6 ⟨rfl,hb6⟩
     have BX6:=Lib.hid (BX5.out.call hb6)
     obtain ⟨p0,p1,p2,p3,p4⟩:=BX6.out.cells
     have f2:=BX6.out.free 2
     simp only at p2
     clear p0 p1 p3 p4 hb6
     obtain ⟨W7,hW7⟩:∃V,V=w6.setCell ⟨cb,2,none⟩ (.int .i64 bh):=⟨_,rfl⟩
     have BX7:=Lib.hid (show Bx W5 cb W7 ⟨0,lo,bh,0,0⟩ from by rw [hW7];exact BX6.out.set2 bh)
     go_upto_region 12 with fail
     rw [←hW7]
     clear hW7 p2 f2 BX6
     obtain ⟨VV,hVV⟩:∃V,V=W7.setCell ⟨cb,4,none⟩ (.int .i64 1):=⟨_,rfl⟩
     have BF:=Lib.hid (show Bx W5 cb VV ⟨0,lo,bh,0,1⟩ from by rw [hVV];exact BX7.out.set4 1)
     have XX:=Lib.hid (show x=⟨0,lo,bh,0,1⟩ by rw [A1'.out];simp [hip])
     obtain ⟨p0,p1,p2,p3,p4⟩:=BX7.out.cells
     have f4:=BX7.out.free 4
     simp only at p4
     clear p0 p1 p2 p3
     go_upto_region 16 with fail
     rw [←hVV]
     clear hVV p4 f4
     have GV:=HG.out.below rdC_good (HQ.out _ _ BF.out)
     obtain ⟨y0,y1,y2,y3,y4⟩:=BF.out.cells
     simp only at y0 y1 y2 y3 y4
     have hn1:gl.length+1≤maxLen:=by unfold maxLen;omega
     have hn2:(gl.length+1)*40≤140737488355328:=by omega
     have B3:=Lib.hid (HBQ.out _ _ BF.out)
     have hbs3:w.heap.size≤VV.heap.size:=B3.out.size
     have hE:=(show rdC VV (fun b=>True∧b < VV.heap.size∧u9.ownBlock≠some b) x (#[Value.int .i64 0,Value.int .i64 lo,Value.int .i64 bh,Value.int .i64 0,Value.int .i64 1]:Array Value).toList from by rw [XX.out];rfl)
     clear BF
     go_wp2_with (at_builtin;refine wpList_grow1 VV rfl _ _ 43 rfl rdC_good (by decide) (fun _=>True) w.heap.size 39 fi _ 40 Tryz.underlying43 hi hz0 hz1 hz2 rfl u9 gl rfl GV x _ 39 hE _ rfl rfl hn1 hn2 hbs3 ?_)
     intro v' w' hG' hgr
     have G4:=Lib.hid hG'
     have B4:=Lib.hid (grow_below GV hgr B3.out (Nat.le_refl _) hbs3)
     clear hgr hE hG' GV y0 y1 y2 y3 y4
     go_wp2
     go_roundw
     case rel=>exact ⟨k+1,by omega,by go_num,by rw [HGN.out,S1.out];exact G4.out,B4.out⟩
     case measure=>simp [intOf];omega
   ·have hnn:0≤ip:=by omega
    cases up
    ·by_cases hne:ip=(k:Int)
     ·skip
      have hne2:(ip != (k:Int))=false:=by simp [hne]
      obtain ⟨VV,hVV⟩:∃V,V=W5:=⟨_,rfl⟩
      have BF:=Lib.hid (show Bx W5 cb VV ⟨0,lo,0,0,0⟩ from by rw [hVV];exact BX5.out)
      have XX:=Lib.hid (show x=⟨0,lo,0,0,0⟩ by rw [A1'.out,if_neg (by decide),if_neg (fun c=>c.2 hne),if_neg hip])
      go_upto_region 16 with fail
      rw [←hVV]
      clear hVV
      have GV:=HG.out.below rdC_good (HQ.out _ _ BF.out)
      obtain ⟨y0,y1,y2,y3,y4⟩:=BF.out.cells
      simp only at y0 y1 y2 y3 y4
      have hn1:gl.length+1≤maxLen:=by unfold maxLen;omega
      have hn2:(gl.length+1)*40≤140737488355328:=by omega
      have B3:=Lib.hid (HBQ.out _ _ BF.out)
      have hbs3:w.heap.size≤VV.heap.size:=B3.out.size
      have hE:=(show rdC VV (fun b=>True∧b < VV.heap.size∧u9.ownBlock≠some b) x (#[Value.int .i64 0,Value.int .i64 lo,Value.int .i64 0,Value.int .i64 0,Value.int .i64 0]:Array Value).toList from by rw [XX.out];rfl)
      clear BF
      go_wp2_with (at_builtin;refine wpList_grow1 VV rfl _ _ 43 rfl rdC_good (by decide) (fun _=>True) w.heap.size 39 fi _ 40 Tryz.underlying43 hi hz0 hz1 hz2 rfl u9 gl rfl GV x _ 39 hE _ rfl rfl hn1 hn2 hbs3 ?_)
      intro v' w' hG' hgr
      have G4:=Lib.hid hG'
      have B4:=Lib.hid (grow_below GV hgr B3.out (Nat.le_refl _) hbs3)
      clear hgr hE hG' GV y0 y1 y2 y3 y4
      go_wp2
      go_roundw
      case rel=>exact ⟨k+1,by omega,by go_num,by rw [HGN.out,S1.out];exact G4.out,B4.out⟩
      case measure=>simp [intOf];omega
     ·skip
      have hne2:(ip != (k:Int))=true:=by simp [hne]
      obtain ⟨p0,p1,p2,p3,p4⟩:=BX5.out.cells
      have f2:=BX5.out.free 2
      simp only at p2
      clear p0 p1 p3 p4
      obtain ⟨W7,hW7⟩:∃V,V=W5.setCell ⟨cb,2,none⟩ (.int .i64 1):=⟨_,rfl⟩
      have BX7:=Lib.hid (show Bx W5 cb W7 ⟨0,lo,1,0,0⟩ from by rw [hW7];exact BX5.out.set2 1)
      go_upto_region 14 with fail
      rw [←hW7]
      clear hW7 p2 f2
      obtain ⟨VV,hVV⟩:∃V,V=W7:=⟨_,rfl⟩
      have BF:=Lib.hid (show Bx W5 cb VV ⟨0,lo,1,0,0⟩ from by rw [hVV];exact BX7.out)
      have XX:=Lib.hid (show x=⟨0,lo,1,0,0⟩ by rw [A1'.out,if_neg (by decide),if_pos ⟨hnn,hne⟩,if_neg hip])
      go_upto_region 16 with fail
      rw [←hVV]
      clear hVV
      have GV:=HG.out.below rdC_good (HQ.out _ _ BF.out)
      obtain ⟨y0,y1,y2,y3,y4⟩:=BF.out.cells
      simp only at y0 y1 y2 y3 y4
      have hn1:gl.length+1≤maxLen:=by unfold maxLen;omega
      have hn2:(gl.length+1)*40≤140737488355328:=by omega
      have B3:=Lib.hid (HBQ.out _ _ BF.out)
      have hbs3:w.heap.size≤VV.heap.size:=B3.out.size
      have hE:=(show rdC VV (fun b=>True∧b < VV.heap.size∧u9.ownBlock≠some b) x (#[Value.int .i64 0,Value.int .i64 lo,Value.int .i64 1,Value.int .i64 0,Value.int .i64 0]:Array Value).toList from by rw [XX.out];rfl)
      clear BF
      go_wp2_with (at_builtin;refine wpList_grow1 VV rfl _ _ 43 rfl rdC_good (by decide) (fun _=>True) w.heap.size 39 fi _ 40 Tryz.underlying43 hi hz0 hz1 hz2 rfl u9 gl rfl GV x _ 39 hE _ rfl rfl hn1 hn2 hbs3 ?_)
      intro v' w' hG' hgr
      have G4:=Lib.hid hG'
      have B4:=Lib.hid (grow_below GV hgr B3.out (Nat.le_refl _) hbs3)
      clear hgr hE hG' GV y0 y1 y2 y3 y4
      go_wp2
      go_roundw
      case rel=>exact ⟨k+1,by omega,by go_num,by rw [HGN.out,S1.out];exact G4.out,B4.out⟩
      case measure=>simp [intOf];omega
    ·skip
     obtain ⟨p0,p1,p2,p3,p4⟩:=BX5.out.cells
     have f2:=BX5.out.free 2
     simp only at p2
     clear p0 p1 p3 p4 p2 f2
     go_wp2_with fail
     refine (KBk.out W5 (HBQ.out _ _ BX5.out)).mono ?_
     rintro e w6 ⟨rfl,hb6⟩
     have BX6:=Lib.hid (BX5.out.call hb6)
     obtain ⟨p0,p1,p2,p3,p4⟩:=BX6.out.cells
     have f2:=BX6.out.free 2
     simp only at p2
     clear p0 p1 p3 p4 hb6
     obtain ⟨W7,hW7⟩:∃V,V=w6.setCell ⟨cb,2,none⟩ (.int .i64 bh):=⟨_,rfl⟩
     have BX7:=Lib.hid (show Bx W5 cb W7 ⟨0,lo,bh,0,0⟩ from by rw [hW7];exact BX6.out.set2 bh)
     go_upto_region 12 with fail
     rw [←hW7]
     clear hW7 p2 f2 BX6
     obtain ⟨VV,hVV⟩:∃V,V=W7:=⟨_,rfl⟩
     have BF:=Lib.hid (show Bx W5 cb VV ⟨0,lo,bh,0,0⟩ from by rw [hVV];exact BX7.out)
     have XX:=Lib.hid (show x=⟨0,lo,bh,0,0⟩ by rw [A1'.out];simp [hip])
     go_upto_region 16 with fail
     rw [←hVV]
     clear hVV
     have GV:=HG.out.below rdC_good (HQ.out _ _ BF.out)
     obtain ⟨y0,y1,y2,y3,y4⟩:=BF.out.cells
     simp only at y0 y1 y2 y3 y4
     have hn1:gl.length+1≤maxLen:=by unfold maxLen;omega
     have hn2:(gl.length+1)*40≤140737488355328:=by omega
     have B3:=Lib.hid (HBQ.out _ _ BF.out)
     have hbs3:w.heap.size≤VV.heap.size:=B3.out.size
     have hE:=(show rdC VV (fun b=>True∧b < VV.heap.size∧u9.ownBlock≠some b) x (#[Value.int .i64 0,Value.int .i64 lo,Value.int .i64 bh,Value.int .i64 0,Value.int .i64 0]:Array Value).toList from by rw [XX.out];rfl)
     clear BF
     go_wp2_with (at_builtin;refine wpList_grow1 VV rfl _ _ 43 rfl rdC_good (by decide) (fun _=>True) w.heap.size 39 fi _ 40 Tryz.underlying43 hi hz0 hz1 hz2 rfl u9 gl rfl GV x _ 39 hE _ rfl rfl hn1 hn2 hbs3 ?_)
     intro v' w' hG' hgr
     have G4:=Lib.hid hG'
     have B4:=Lib.hid (grow_below GV hgr B3.out (Nat.le_refl _) hbs3)
     clear hgr hE hG' GV y0 y1 y2 y3 y4
     go_wp2
     go_roundw
     case rel=>exact ⟨k+1,by omega,by go_num,by rw [HGN.out,S1.out];exact G4.out,B4.out⟩
     case measure=>simp [intOf];omega
  ·obtain rfl:k=U.length:=by omega
   have i0:¬(U.length:Int) < (U.length:Int):=by omega
   have RD:=Lib.hid (show rdCs wr (lt_ wr.heap.size) R [u9] from by
    rw [XA.out];exact HG.out.read rdC_good)
   obtain ⟨Aq,cq,hv6,-,-⟩:=id RD.out
   simp only [List.cons.injEq,and_true] at hv6
   subst hv6
   clear HG
   go_wp2
   go_ret2
   exact ⟨⟨Aq,cq,by rw [XE.out];try rfl,RD.out⟩,HB.out⟩
end Go.Proofs.YtpilmhoakopcaaaGreatDoor
