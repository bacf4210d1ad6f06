/- What the laws rest on: E10i. -/
import Derived.Test.YthchfkhpmgkghaaGreatDoorQBBZA
import Derived.Test.YthchfkhpmgkghaaGreatDoorQBGZA
set_option maxRecDepth 100000
set_option linter.unusedVariables false
set_option linter.unusedSimpArgs false
namespace Go.Proofs.YthchfkhpmgkghaaGreatDoor
open Go.RowKit Go.Sort
theorem ft10_info:(Tryz.prog.info? 75).map (fun i=>(i.zero,i.size,i.bytes))=some (some (.agg #[.int .i64 0,.int .i64 0,.int .i64 0]),3,24):=by kernel_rfl
theorem ft_flat:∀(w:World) (S S':Nat→Prop) (a:Ft) (cs:List Value),rdFt w S a cs→rdFt w S' a cs:=fun _ _ _ _ _ h=>h
theorem own10_of {w w':World} {base:Nat} {v:Value} {l:List Ft} (h:Grow rdFt 3 (fun _=>True) w' base 75 v l) (hb:w.heap.size≤base):rdFts w' (own10 w w') l [v]:=by
 have h2:Grow rdFt 3 (fun _=>False) w' base 75 v l:=Grow.flat ft_flat h
 exact rdFts_good.more (h2.reads rdFt_good) fun b hh=>⟨Nat.le_trans hb (hh.2.resolve_right id),hh.1⟩
theorem pre_len {α:Type} {g r T:List α} {n:Nat} (h:g++r=T) (hT:T.length≤n):g.length≤n:=by
 have:=congrArg List.length h
 rw [List.length_append] at this
 omega
set_option maxHeartbeats 32000000 in
theorem q10outside_any (b:Nat) (U:List Ent) (m:List Hr) (Al:Option Addr) (nl cl:Nat) (l:List Int) (A1:Option Addr) (c1:Nat) (i:List Atm) (A2:Option Addr) (c2:Nat) (r:List Atm) (up:Bool) (w:World) (h:UR w b U m) (hl:rdInts w (lt_ w.heap.size) l [.slice Al nl cl]) (hs:∀p ∈ l,0≤p∧p < (U.length:Int)) (hp:∀x ∈ U,x.p.length≤1000)
  (hi:rdAtms w (lt_ w.heap.size) i [.slice A1 i.length c1]) (hr:rdAtms w (lt_ w.heap.size) r [.slice A2 r.length c2]) (hm:m.length≤200) (hT:(outS U (heldU U m) i r l).length≤1000000) :
  Calls Tryz.prog 52 #[.pointer (some ⟨b,0,none⟩),.agg #[.slice A1 i.length c1,.slice A2 r.length c2,.bool up],.slice Al nl cl] w fun e w'=>(∃A c,e=.returned (.slice A (outS U (heldU U m) i r l).length c)∧rdFts w' (own10 w w') (outS U (heldU U m) i r l) [.slice A (outS U (heldU U m) i r l).length c])∧Below w.heap.size w w':=by
 have mixed:Tryz.prog.follows .mixedOrders=true:=by kernel_rfl
 obtain ⟨fi,hi0,hz0,hz1,hz2⟩:=info_parts ft10_info
 obtain ⟨rfl,hlc,hlm,-⟩:=rdInts_at hl
 obtain ⟨-,hic,him,-⟩:=rdAtms_at hi
 obtain ⟨-,hrc,hrm,-⟩:=rdAtms_at hr
 have hlm':cl≤9223372036854775807:=hlm
 have him':c1≤9223372036854775807:=him
 have hrm':c2≤9223372036854775807:=hrm
 obtain ⟨w1,hw1⟩:∃W,W=w.alloc (.cells #[.slice A1 i.length c1,.slice A2 r.length c2,.bool up] 26):=⟨_,rfl⟩
 have b1:Below w.heap.size w w1:=by rw [hw1];exact (Below.refl _ w).alloc (Nat.le_refl _) _
 have B1:=Lib.hid b1
 have KX:=Lib.hid (fun (W:World) (hb:Below w1.heap.size w1 W)=>(show W.cell? ⟨w.heap.size,0,none⟩=some (.slice A1 i.length c1)∧W.cell? ⟨w.heap.size,1,none⟩=some (.slice A2 r.length c2) from by
  refine ⟨?_,?_⟩<;>exact keep6 hb (by rw [hw1];simp [go_sem])))
 have HL:=Lib.hid (fun (W:World) (hb:Below w.heap.size w W)=>(rdInts_at (rdInts_good.up (rdInts_good.below hl hb) hb.size)).2.2.2)
 have HLR:=Lib.hid (fun (W:World) (hb:Below w.heap.size w W)=>(rdInts_good.up (rdInts_good.below hl hb) hb.size:rdInts W (lt_ W.heap.size) l [.slice Al l.length cl]))
 have HI:=Lib.hid (fun (W:World) (hb:Below w.heap.size w W)=>(rdAtms_at (rdAtms_good.up (rdAtms_good.below hi hb) hb.size)).2.2.2)
 have HR:=Lib.hid (fun (W:World) (hb:Below w.heap.size w W)=>(rdAtms_at (rdAtms_good.up (rdAtms_good.below hr hb) hb.size)).2.2.2)
 have KG:=Lib.hid (fun (a:Atm) (W:World) (hb:Below w.heap.size w W)=>q10gives_any b U m Al l.length cl l a W (h.below hb) (rdInts_good.up (rdInts_good.below hl hb) hb.size) hs hp)
 have KH:=Lib.hid (fun (W:World) (hb:Below w.heap.size w W)=>q9held_any b U m W (h.below hb) hm)
 obtain ⟨Au,cu,Av,cv,h1,-,h3,-⟩:=h
 obtain ⟨-,huc,hum,-⟩:=rdEnts_at h3
 have hum':cu≤9223372036854775807:=hum
 have HU1:=Lib.hid h1
 have HU:=Lib.hid (fun (W:World) (hb:Below w.heap.size w W)=>(rdEnts_at (rdEnts_good.both (w':=W) (S':=lt_ W.heap.size) h3 (fun k hk=>hb.block k hk.1) (fun k hk=>Nat.lt_of_lt_of_le hk.1 hb.size))).2.2.2)
 have HS:=Lib.hid hs
 have HP:=Lib.hid hp
 clear hl hlm hi him hr hrm h1 h3 hum hs hp b1
 generalize heldU U m=hd at *
 obtain ⟨T1,hT1⟩:∃T,T=awyS hd l 0 U.length:=⟨_,rfl⟩
 obtain ⟨T2,hT2⟩:∃T,T=T1++misS U l i 0:=⟨_,rfl⟩
 obtain ⟨T3,hT3⟩:∃T,T=outS U hd i r l:=⟨_,rfl⟩
 rw [←hT3] at hT ⊢
 have E3:=Lib.hid (show T2++preS U l r 0=T3 by rw [hT3,hT2,hT1];rfl)
 have E1:=Lib.hid hT1
 have E2:=Lib.hid hT2
 have L3:=Lib.hid hT
 have L2:=Lib.hid (pre_len E3.out hT)
 have L1:=Lib.hid (pre_len hT2.symm L2.out)
 clear hT hT1 hT2 hT3
 go_enter Tryz.func52,Tryz.ntmps52
 go_wp2_with fail
 rw [←hw1]
 clear hw1
 go_wp2_with fail
 refine (KH.out _ B1.out).mono ?_
 rintro e w2 ⟨⟨Ah,ch,rfl,hh⟩,hb⟩
 have B12:=Lib.hid hb
 have B2:=Lib.hid (bel_in B1.out hb)
 obtain ⟨-,hhc,hhm,-⟩:=rdInts_at hh
 have hhm':ch≤9223372036854775807:=hhm
 have HH:=Lib.hid (fun (W:World) (hx:Below w2.heap.size w2 W)=>(rdInts_good.up (rdInts_good.below hh hx) hx.size:rdInts W (lt_ W.heap.size) hd [.slice Ah hd.length ch]))
 clear hb hh hhm KH
 go_wp2
 go_loopw [7,9] (fun v i wr=>∃k:Nat,k≤U.length∧i=.int .i64 k∧(∃g,Grow rdFt 3 (fun _=>True) wr w2.heap.size 75 v g∧Hid (g++awyS hd l k (U.length - k)=T1))∧Below w2.heap.size w2 wr) (fun _ i _=>U.length - (intOf i).toNat)
 case atStart=>exact ⟨0,Nat.zero_le _,rfl,⟨[],Grow.nil _ _ _ _,Lib.hid E1.out.symm⟩,Below.refl _ _⟩
 case round=>
  obtain ⟨k,hk,rfl,⟨g,hG,HE⟩,hbel⟩:=hrel
  have HB2:=Lib.hid hbel
  have HB:=Lib.hid (bel_in B2.out hbel)
  have HG:=Lib.hid hG
  clear hbel hG
  have b0:=keep6 HB.out HU1.out
  by_cases hlt:k < U.length
  ·have i0:(0:Int)≤(k:Int):=by omega
   have i1:(k:Int) < (U.length:Int):=by omega
   obtain ⟨n,hn⟩:∃n,U.length - k=n+1:=⟨U.length - k - 1,by omega⟩
   have hn':U.length - (k+1)=n:=by omega
   rw [hn] at HE
   have ST:=Lib.hid (awyS_step (held:=hd) (l:=l) (i:=k) (n:=n))
   have GL:=Lib.hid (pre_len HE.out L1.out)
   have K1:=Lib.hid (q10has_any Ah hd.length ch hd (k:Int) wr (HH.out wr HB2.out))
   have K2:=Lib.hid (q10has_any Al l.length cl l (k:Int) wr (HLR.out wr HB.out))
   generalize hd.contains (k:Int)=p1 at *
   generalize l.contains (k:Int)=p2 at *
   have NO:=Lib.hid (fun (e:(p1&&!p2)=false)=>show Hid (g++awyS hd l (k+1) (U.length - (k+1))=T1) from by rw [hn',←ST.out.2 e];exact HE)
   have YES:=Lib.hid (fun (e:(p1&&!p2)=true)=>show Hid (g++[⟨4,(k:Int),0⟩]++awyS hd l (k+1) (U.length - (k+1))=T1) from by
    rw [hn',List.append_assoc,List.singleton_append,←ST.out.1 e];exact HE)
   clear ST HE hn hn'
   go_wp2_with fail
   refine K1.out.mono ?_
   rintro e _ ⟨rfl,rfl⟩
   cases p1
   ·have NX:=Lib.hid (NO.out rfl)
    clear NO YES K1 K2
    go_wp2
    go_roundw
    case rel=>exact ⟨k+1,by omega,by go_num,⟨g,HG.out,NX.out⟩,HB2.out⟩
    case measure=>simp [intOf];omega
   go_wp2_with fail
   refine K2.out.mono ?_
   rintro e _ ⟨rfl,rfl⟩
   cases p2
   ·have NX:=Lib.hid (YES.out rfl)
    clear NO YES K1 K2
    have hE:=(show rdFt wr (fun b=>True∧b < wr.heap.size∧u7.ownBlock≠some b) ⟨4,(k:Int),0⟩ (#[Value.int .i64 4,Value.int .i64 (k:Int),Value.int .i64 0]:Array Value).toList from rfl)
    have hn1:g.length+1≤maxLen:=by have:=GL.out;unfold maxLen;omega
    have hn2:(g.length+1)*24≤140737488355328:=by have:=GL.out;omega
    have hbs3:w2.heap.size≤wr.heap.size:=HB2.out.size
    have hG3:=HG.out
    go_wp2_with (at_builtin;refine wpList_grow1 wr rfl _ _ 44 rfl rdFt_good (by decide) (fun _=>True) w2.heap.size 75 fi _ 24 Tryz.underlying44 hi0 hz0 hz1 hz2 rfl u7 g rfl hG3 ⟨4,(k:Int),0⟩ _ 75 hE _ rfl rfl hn1 hn2 hbs3 ?_)
    intro v' w' hG' hgr
    have G4:=Lib.hid hG'
    have B4:=Lib.hid (grow_below hG3 hgr HB2.out (Nat.le_refl _) hbs3)
    clear hG3 hgr hE hG'
    go_wp2
    go_roundw
    case rel=>exact ⟨k+1,by omega,by go_num,⟨_,G4.out,NX.out⟩,B4.out⟩
    case measure=>simp [intOf];omega
   ·have NX:=Lib.hid (NO.out rfl)
    clear NO YES K1 K2
    go_wp2
    go_roundw
    case rel=>exact ⟨k+1,by omega,by go_num,⟨g,HG.out,NX.out⟩,HB2.out⟩
    case measure=>simp [intOf];omega
  ·obtain rfl:k=U.length:=by omega
   have i0:¬(U.length:Int) < (U.length:Int):=by omega
   have G0:=Lib.hid (show Hid (g++misS U l (i.drop 0) 0=T2) from by
    have e:g=T1:=by have:=HE.out;rw [Nat.sub_self] at this;simpa [awyS] using this
    rw [e,List.drop_zero];exact E2.out.symm)
   clear HE
   obtain ⟨wa,hwa⟩:∃W,W=wr:=⟨_,rfl⟩
   rw [←hwa] at HB2 HB HG b0 ⊢
   clear hwa
   go_wp2
   go_loopw [7,10] (fun v i9 wr=>∃k:Nat,k≤i.length∧i9=.int .i64 k∧(∃g,Grow rdFt 3 (fun _=>True) wr w2.heap.size 75 v g∧Hid (g++misS U l (i.drop k) k=T2))∧Below w2.heap.size w2 wr) (fun _ i9 _=>i.length - (intOf i9).toNat)
   case atStart=>exact ⟨0,Nat.zero_le _,rfl,⟨g,HG.out,G0.out⟩,HB2.out⟩
   case round=>
    obtain ⟨k,hk,rfl,⟨g,hG,HE⟩,hbel⟩:=hrel
    have HB2:=Lib.hid hbel
    have HB:=Lib.hid (bel_in B2.out hbel)
    have HG:=Lib.hid hG
    clear hbel hG b0
    obtain ⟨x0,x1⟩:=KX.out wr (bel_in B12.out HB2.out)
    by_cases hlt:k < i.length
    ·have i0:(0:Int)≤(k:Int):=by omega
     have i1:(k:Int) < (i.length:Int):=by omega
     obtain ⟨adi,rfl,-,a0,a1,a2⟩:=HI.out wr HB.out k hlt
     have ST:=Lib.hid (misS_step (U:=U) (l:=l) hlt)
     have GL:=Lib.hid (pre_len HE.out L2.out)
     have K1:=Lib.hid (KG.out i[k] wr HB.out)
     generalize hq:givS U l i[k]=q at *
     generalize i[k]=a at *
     obtain ⟨an,ao,av⟩:=a
     simp only at a0 a1 a2 K1
     have NO:=Lib.hid (fun (e:q=true)=>show Hid (g++misS U l (i.drop (k+1)) (k+1)=T2) from by rw [←ST.out.1 e];exact HE)
     have YES:=Lib.hid (fun (e:q=false)=>show Hid (g++[⟨5,(k:Int),0⟩]++misS U l (i.drop (k+1)) (k+1)=T2) from by
      rw [List.append_assoc,List.singleton_append,←ST.out.2 e];exact HE)
     clear ST HE hq
     go_wp2_with fail
     refine K1.out.mono ?_
     rintro e w3 ⟨rfl,hb⟩
     have B3:=Lib.hid (HB2.out.trans (hb.mono HB2.out.size))
     have G3:=Lib.hid (HG.out.below rdFt_good hb)
     clear hb K1 x0 x1 a0 a1 a2 HG
     cases q
     ·have NX:=Lib.hid (YES.out rfl)
      clear NO YES
      have hE:=(show rdFt w3 (fun b=>True∧b < w3.heap.size∧u7.ownBlock≠some b) ⟨5,(k:Int),0⟩ (#[Value.int .i64 5,Value.int .i64 (k:Int),Value.int .i64 0]:Array Value).toList from rfl)
      have hn1:g.length+1≤maxLen:=by have:=GL.out;unfold maxLen;omega
      have hn2:(g.length+1)*24≤140737488355328:=by have:=GL.out;omega
      have hbs3:w2.heap.size≤w3.heap.size:=B3.out.size
      have hG3:=G3.out
      go_wp2_with (at_builtin;refine wpList_grow1 w3 rfl _ _ 44 rfl rdFt_good (by decide) (fun _=>True) w2.heap.size 75 fi _ 24 Tryz.underlying44 hi0 hz0 hz1 hz2 rfl u7 g rfl hG3 ⟨5,(k:Int),0⟩ _ 75 hE _ rfl rfl hn1 hn2 hbs3 ?_)
      intro v' w' hG' hgr
      have G4:=Lib.hid hG'
      have B4:=Lib.hid (grow_below hG3 hgr B3.out (Nat.le_refl _) hbs3)
      clear hG3 hgr hE hG'
      go_wp2
      go_roundw
      case rel=>exact ⟨k+1,by omega,by go_num,⟨_,G4.out,NX.out⟩,B4.out⟩
      case measure=>simp [intOf];omega
     ·have NX:=Lib.hid (NO.out rfl)
      clear NO YES
      go_wp2
      go_roundw
      case rel=>exact ⟨k+1,by omega,by go_num,⟨g,G3.out,NX.out⟩,B3.out⟩
      case measure=>simp [intOf];omega
    ·obtain rfl:k=i.length:=by omega
     have i0:¬(i.length:Int) < (i.length:Int):=by omega
     have G0:=Lib.hid (show Hid (g++preS U l (r.drop 0) 0=T3) from by
      have e:g=T2:=by have:=HE.out;rw [List.drop_length] at this;simpa [misS] using this
      rw [e,List.drop_zero];exact E3.out)
     clear HE
     obtain ⟨wb,hwb⟩:∃W,W=wr:=⟨_,rfl⟩
     rw [←hwb] at HB2 HB HG x0 x1 ⊢
     clear hwb
     go_wp2
     go_loopw [7,12] (fun v i9 wr=>∃k:Nat,k≤r.length∧i9=.int .i64 k∧(∃g,Grow rdFt 3 (fun _=>True) wr w2.heap.size 75 v g∧Hid (g++preS U l (r.drop k) k=T3))∧Below w2.heap.size w2 wr) (fun _ i9 _=>r.length - (intOf i9).toNat)
     case atStart=>exact ⟨0,Nat.zero_le _,rfl,⟨g,HG.out,G0.out⟩,HB2.out⟩
     case round=>
      obtain ⟨k,hk,rfl,⟨g,hG,HE⟩,hbel⟩:=hrel
      have HB2:=Lib.hid hbel
      have HB:=Lib.hid (bel_in B2.out hbel)
      have HG:=Lib.hid hG
      clear hbel hG x0 x1
      obtain ⟨x0,x1⟩:=KX.out wr (bel_in B12.out HB2.out)
      by_cases hlt:k < r.length
      ·have i0:(0:Int)≤(k:Int):=by omega
       have i1:(k:Int) < (r.length:Int):=by omega
       obtain ⟨a,ha⟩:∃a,a=r[k]:=⟨_,rfl⟩
       have HAk:=Lib.hid ha
       have IV:=Lib.hid (show Hid (g++(preP U a k (l.drop 0)++preS U l (r.drop (k+1)) (k+1))=T3) from by rw [List.drop_zero,ha,←preS_step hlt];exact HE)
       clear HE ha
       obtain ⟨wc,hwc⟩:∃W,W=wr:=⟨_,rfl⟩
       rw [←hwc] at HB2 HB HG x0 x1 ⊢
       clear hwc
       go_wp2
       go_loopw [7,13] (fun v i9 wr=>∃j:Nat,j≤l.length∧i9=.int .i64 j∧(∃g,Grow rdFt 3 (fun _=>True) wr w2.heap.size 75 v g∧Hid (g++(preP U a k (l.drop j)++preS U l (r.drop (k+1)) (k+1))=T3))∧Below w2.heap.size w2 wr) (fun _ i9 _=>l.length - (intOf i9).toNat)
       case atStart=>exact ⟨0,Nat.zero_le _,rfl,⟨g,HG.out,IV.out⟩,HB2.out⟩
       case round=>
        obtain ⟨j,hj,rfl,⟨g,hG,HE⟩,hbel⟩:=hrel
        have HB2:=Lib.hid hbel
        have HB:=Lib.hid (bel_in B2.out hbel)
        have HG:=Lib.hid hG
        clear hbel hG x0 x1
        obtain ⟨x0,x1⟩:=KX.out wr (bel_in B12.out HB2.out)
        by_cases hjl:j < l.length
        ·have j0:(0:Int)≤(j:Int):=by omega
         have j1:(j:Int) < (l.length:Int):=by omega
         obtain ⟨adr,rfl,-,a0,a1,a2⟩:=HR.out wr HB.out k hlt
         obtain ⟨adl,rfl,-,l0⟩:=HL.out wr HB.out j hjl
         obtain ⟨s0,s1⟩:=HS.out _ (List.getElem_mem hjl)
         have ST:=Lib.hid (preP_step (U:=U) (a:=a) (i:=k) hjl)
         rw [←HAk.out] at a0 a1 a2
         obtain ⟨p,hp⟩:∃p,p=l[j]:=⟨_,rfl⟩
         rw [←hp] at l0 s0 s1 ST
         clear hp
         obtain ⟨jp,rfl⟩:=Int.eq_ofNat_of_zero_le s0
         have hjp:jp < U.length:=by omega
         rw [entA_at hjp] at ST
         obtain ⟨adu,D1,d1,D2,d2,D3,d3,D4,d4,rfl,-,hv,u0,u1,u2,u3,u4,u5⟩:=HU.out wr HB.out jp hjp
         have b0:=keep6 HB.out HU1.out
         have jp0:(0:Int)≤(jp:Int):=by omega
         have jp1:(jp:Int) < (U.length:Int):=by omega
         have GL:=Lib.hid (pre_len HE.out L3.out)
         have zb:=fun dd os=>cell_regrown (w:=wr) b0 dd os
         have zx:=fun dd os=>cell_regrown (w:=wr) x1 dd os
         have zl:=fun dd os=>cell_regrown (w:=wr) l0 dd os
         have za0:=fun dd os=>cell_regrown (w:=wr) a0 dd os
         have za1:=fun dd os=>cell_regrown (w:=wr) a1 dd os
         have za2:=fun dd os=>cell_regrown (w:=wr) a2 dd os
         have v0:=fun dd os=>cell_regrown (w:=wr) u0 dd os
         have v1:=fun dd os=>cell_regrown (w:=wr) u1 dd os
         have v2:=fun dd os=>cell_regrown (w:=wr) u2 dd os
         have v3:=fun dd os=>cell_regrown (w:=wr) u3 dd os
         have v4:=fun dd os=>cell_regrown (w:=wr) u4 dd os
         have v5:=fun dd os=>cell_regrown (w:=wr) u5 dd os
         have BD:=Lib.hid (fun dd os=>below_regrown wr dd os)
         have K1:=Lib.hid (fun dd os=>q9gives_any U[jp] a D1 d1 D2 d2 D3 d3 D4 d4 (grow (redrawn wr dd) os) (hv.on (below_regrown wr dd os)) (HP.out _ (List.getElem_mem hjp)))
         have LW:=Lib.hid (fun (W:World) (hb:Below wr.heap.size wr W)=>And.intro (HG.out.below rdFt_good hb) (keep6 hb l0))
         generalize hq:gvA a U[jp]=q at *
         generalize U[jp]=xj at *
         obtain ⟨n,v,d,r',c',p'⟩:=xj
         obtain ⟨an,ao,av⟩:=a
         simp only at v0 v1 v2 v3 v4 v5 K1 za0 za1 za2
         have NO:=Lib.hid (fun (e:q=false)=>show Hid (g++(preP U ⟨an,ao,av⟩ k (l.drop (j+1))++preS U l (r.drop (k+1)) (k+1))=T3) from by rw [←ST.out.2 e];exact HE)
         have YES:=Lib.hid (fun (e:q=true)=>show Hid (g++[⟨6,(k:Int),(jp:Int)⟩]++(preP U ⟨an,ao,av⟩ k (l.drop (j+1))++preS U l (r.drop (k+1)) (k+1))=T3) from by
          have:=HE.out
          rw [ST.out.1 e] at this
          rw [List.append_assoc,List.singleton_append];exact this)
         clear ST HE hq u0 u1 u2 u3 u4 u5 l0 a0 a1 a2 hv HG s0 s1
         go_wp2_with fail
         refine wp_region_quiet_below mixed (by kernel_rfl) ?_
         repeat (go_big_quiet_step (first|(go_at_call 88;refine Calls.regrown_of (K1.out _ _))))
         refine wpQuiet_nil ?_
         intro W3 hw3
         have BX:=Lib.hid (show Below wr.heap.size wr W3 from by obtain ⟨pp,e⟩:=hw3;rw [e];exact BD.out pp.d pp.os)
         have B3:=Lib.hid (HB2.out.trans (BX.out.mono HB2.out.size))
         obtain ⟨hg3,l3⟩:=LW.out W3 BX.out
         have G3:=Lib.hid hg3
         clear hw3 BD zb zx zl za0 za1 za2 v0 v1 v2 v3 v4 v5 K1 b0 x0 x1 hg3 LW
         cases q
         ·have NX:=Lib.hid (NO.out rfl)
          clear NO YES
          go_wp2
          go_roundw
          case rel=>exact ⟨j+1,by omega,by go_num,⟨g,G3.out,NX.out⟩,B3.out⟩
          case measure=>simp [intOf];omega
         ·have NX:=Lib.hid (YES.out rfl)
          clear NO YES
          have hE:=(show rdFt W3 (fun b=>True∧b < W3.heap.size∧u7.ownBlock≠some b) ⟨6,(k:Int),(jp:Int)⟩ (#[Value.int .i64 6,Value.int .i64 (k:Int),Value.int .i64 (jp:Int)]:Array Value).toList from rfl)
          have hn1:g.length+1≤maxLen:=by have:=GL.out;unfold maxLen;omega
          have hn2:(g.length+1)*24≤140737488355328:=by have:=GL.out;omega
          have hbs3:w2.heap.size≤W3.heap.size:=B3.out.size
          have hG3:=G3.out
          go_wp2_with (at_builtin;refine wpList_grow1 W3 rfl _ _ 44 rfl rdFt_good (by decide) (fun _=>True) w2.heap.size 75 fi _ 24 Tryz.underlying44 hi0 hz0 hz1 hz2 rfl u7 g rfl hG3 ⟨6,(k:Int),(jp:Int)⟩ _ 75 hE _ rfl rfl hn1 hn2 hbs3 ?_)
          intro v' w' hG' hgr
          have G4:=Lib.hid hG'
          have B4:=Lib.hid (grow_below hG3 hgr B3.out (Nat.le_refl _) hbs3)
          clear hG3 hgr hE hG'
          go_wp2
          go_roundw
          case rel=>exact ⟨j+1,by omega,by go_num,⟨_,G4.out,NX.out⟩,B4.out⟩
          case measure=>simp [intOf];omega
        ·obtain rfl:j=l.length:=by omega
         have j0:¬(l.length:Int) < (l.length:Int):=by omega
         have NX:=Lib.hid (show Hid (g++preS U l (r.drop (k+1)) (k+1)=T3) from by have:=HE.out;rw [List.drop_length] at this;exact this)
         clear HE
         go_wp2
         go_roundw
         case rel=>exact ⟨k+1,by omega,by go_num,⟨g,HG.out,NX.out⟩,HB2.out⟩
         case measure=>simp [intOf];omega
      ·obtain rfl:k=r.length:=by omega
       have i0:¬(r.length:Int) < (r.length:Int):=by omega
       have eg:g=T3:=by have:=HE.out;rw [List.drop_length] at this;simpa [preS] using this
       have RD:=Lib.hid (show rdFts wr (own10 w wr) T3 [u7] from by rw [←eg];exact own10_of HG.out B2.out.size)
       obtain ⟨Av2,cv2,hv6,-,-⟩:=id RD.out
       simp only [List.cons.injEq,and_true] at hv6
       subst hv6
       clear HG HE eg
       go_wp2
       go_ret
       exact ⟨⟨Av2,cv2,rfl,RD.out⟩,HB.out⟩
end Go.Proofs.YthchfkhpmgkghaaGreatDoor
