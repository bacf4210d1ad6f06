/- What the laws rest on: N9j, N9u. -/
import Derived.Test.YthchfkhpmgkghaaGreatDoorQBCZA
import Derived.Test.YthchfkhpmgkghaaGreatDoorQBKZA
import Derived.Test.YthchfkhpmgkghaaGreatDoorQBRZA
set_option maxRecDepth 100000
set_option linter.unusedVariables false
set_option linter.unusedSimpArgs false
namespace Go.Proofs.YthchfkhpmgkghaaGreatDoor
open Go.RowKit
set_option maxHeartbeats 2000000 in
theorem of9_any (b:Nat) (L:List Ent) (m:List Hr) (s:ByteArray) (w:World) (h:UP w b L m) (hl:L.length≤64) (hs:s.size≤1000000) :
  Calls Tryz.prog 32 #[.pointer (some ⟨b,0,none⟩),.string s] w fun e w'=>(∃A c,e=.returned (.slice A (ixU (isN s) L 0).length c)∧rdInts w' (lt_ w'.heap.size) (ixU (isN s) L 0) [.slice A (ixU (isN s) L 0).length c])∧Below w.heap.size w w':=by
 obtain ⟨A,c,A',c',bm,-,-,h3,-,-,h6⟩:=h
 obtain ⟨Px,cp,Gx,cg,hlk,hp,-⟩:=h6.look s hs
 have K:=Lib.hid (cloneI9_any Px _ cp (ixU (isN s) L 0) w hp (by have:=ixU_len (p:=isN s) (L:=L) (i:=0);omega))
 have hlw:=hlk w (Below.refl _ _)
 have hf:=fld9_0
 clear h6 hlk hp
 generalize ixU (isN s) L 0=lp at *
 go_enter Tryz.func32,Tryz.ntmps32
 go_wp2_with fail
 refine K.out.mono ?_
 rintro e w1 ⟨⟨v,rfl,hG⟩,hb⟩
 obtain ⟨Av,cv,hv,-,-⟩:=hG.own
 have R:=Lib.hid (hG.read rdInt_good)
 rw [hv] at R
 subst hv
 clear hG h3 hlw
 go_wp2
 go_ret
 exact ⟨⟨Av,cv,rfl,R.out⟩,hb⟩
end Go.Proofs.YthchfkhpmgkghaaGreatDoor
namespace Go.Proofs.YthchfkhpmgkghaaGreatDoor
open Go.RowKit Go.Sort
set_option maxHeartbeats 16000000 in
theorem fights9_any (b:Nat) (L:List Ent) (m:List Hr) (w:World) (h:UP w b L m) (hl:L.length≤200) (hp:∀x ∈ L,x.p.length≤1000) (E:EnvR w) :
  Calls Tryz.prog 33 #[.pointer (some ⟨b,0,none⟩)] w fun e w'=>(∃A c,e=.returned (.slice A (fgU L 0).length c)∧rdPrs w' (lt_ w'.heap.size) (fgU L 0) [.slice A (fgU L 0).length c])∧Below w.heap.size w w':=by
 have mixed:Tryz.prog.follows .mixedOrders=true:=by kernel_rfl
 obtain ⟨fi,hi,hz0,hz1,hz2⟩:=info_parts pr9_info
 obtain ⟨A,c,A',c',bm,h1,-,-,h3,-,-⟩:=h
 obtain ⟨-,hnc,hcm,-⟩:=rdEnts_at h3
 have hcm':c≤9223372036854775807:=hcm
 have b0:=h1
 have H1:=Lib.hid h1
 have HH:=Lib.hid (fun (W:World) (hb:Below w.heap.size w W)=>(rdEnts_at (rdEnts_good.up (rdEnts_good.below h3 hb) hb.size)).2.2.2)
 have HP:=Lib.hid hp
 have HE:=Lib.hid (fun (W:World) (hb:Below w.heap.size w W)=>E.below hb)
 clear h1 h3 hp E
 have TL:=Lib.hid (show (fgU L 0).length≤100000 from Nat.le_trans (fgU_len L 0) (Nat.le_trans (Nat.mul_le_mul hl hl) (by decide)))
 obtain ⟨T,hT⟩:∃T,T=fgU L 0:=⟨_,rfl⟩
 rw [←hT] at TL ⊢
 have HT:=Lib.hid hT
 clear hT hcm
 go_enter Tryz.func33,Tryz.ntmps33
 go_wp2
 go_loopw [3,11] (fun v i wr=>∃k:Nat,k≤L.length∧i=.int .i64 k∧(∃g,Grow rdPr 2 (fun _=>True) wr w.heap.size 71 v g∧Hid (g++fgU (L.drop k) k=T))∧Below w.heap.size w wr) (fun _ i _=>L.length - (intOf i).toNat)
 case atStart=>exact ⟨0,Nat.zero_le _,rfl,⟨[],Grow.nil _ _ _ _,Lib.hid HT.out.symm⟩,Below.refl _ _⟩
 case round=>
  obtain ⟨k,hk,rfl,⟨g,hG,HI⟩,hbel⟩:=hrel
  have HB:=Lib.hid hbel
  clear b0
  have b0:=(show wr.cell? ⟨b,0,none⟩=some (.slice A L.length c) from keep6 hbel H1.out)
  clear hbel
  by_cases hlt:k < L.length
  ·have i0:(0:Int)≤(k:Int):=by omega
   have i1:(k:Int) < (L.length:Int):=by omega
   have IV:=Lib.hid (show Hid (g++(rwF L[k] k (L.drop (k+1)) (k+1)++fgU (L.drop (k+1)) (k+1))=T) from by rw [←fgU_step hlt];exact HI)
   have HGG:=Lib.hid hG
   have PX:=Lib.hid (HP.out _ (List.getElem_mem hlt))
   generalize hX0:L[k]=X0 at IV PX
   have HX0:=Lib.hid hX0
   clear hX0
   obtain ⟨wo,hwo⟩:∃W,W=wr:=⟨_,rfl⟩
   rw [←hwo] at HB b0 HGG ⊢
   clear hwo hG HI
   have k1:IntKind.i64.wrap ((k:Int)+1)=(k:Int)+1:=IntWalk.i64_in _ (by omega)
   go_wp2
   go_loopw [3,5] (fun v i wr=>∃j:Nat,j≤L.length∧i=.int .i64 j∧(∃g,Grow rdPr 2 (fun _=>True) wr w.heap.size 71 v g∧Hid (g++(rwF X0 k (L.drop j) j++fgU (L.drop (k+1)) (k+1))=T))∧Below w.heap.size w wr) (fun _ i _=>L.length - (intOf i).toNat)
   case atStart=>exact ⟨k+1,by omega,by first|rfl|go_num,⟨g,HGG.out,IV.out⟩,HB.out⟩
   case round=>
    obtain ⟨j,hj,rfl,⟨g,hG,HI⟩,hbel⟩:=hrel
    have HBI:=Lib.hid hbel
    clear b0
    have b0:=(show wr.cell? ⟨b,0,none⟩=some (.slice A L.length c) from keep6 hbel H1.out)
    clear hbel
    by_cases hjl:j < L.length
    ·obtain ⟨ad,A1,c1,A2,c2,A3,c3,A4,c4,ea,-,hv,g0,g1,g2,g3,g4,g5⟩:=HH.out wr HBI.out k hlt
     obtain ⟨ad',D1,d1,D2,d2,D3,d3,D4,d4,ea',-,hv',q0,q1,q2,q3,q4,q5⟩:=HH.out wr HBI.out j hjl
     obtain rfl:ad=ad':=Option.some.inj (ea.symm.trans ea')
     subst ea
     rw [HX0.out] at hv g0 g1 g2 g3 g4 g5
     have j0:(0:Int)≤(j:Int):=by omega
     have j1:(j:Int) < (L.length:Int):=by omega
     have ST:=Lib.hid (rwF_step (x:=X0) (i:=k) hjl)
     have GL:=Lib.hid (show g.length≤100000 from Nat.le_trans (by have:=congrArg List.length HI.out;rw [List.length_append] at this;omega) TL.out)
     have K1:=Lib.hid (fun dd os=>fights6_any X0 L[j] A1 c1 A2 c2 A3 c3 A4 c4 D1 d1 D2 d2 D3 d3 D4 d4 (grow (redrawn wr dd) os) (hv.on (below_regrown wr dd os)) (hv'.on (below_regrown wr dd os)) PX.out (HP.out _ (List.getElem_mem hjl)) (HE.out _ (bel_in HBI.out (below_regrown wr dd os))))
     have BD:=Lib.hid (fun dd os=>bel_in HBI.out (below_regrown wr dd os))
     have xb:=fun dd os=>cell_regrown (w:=wr) b0 dd os
     have x0:=fun dd os=>cell_regrown (w:=wr) g0 dd os
     have y0:=fun dd os=>cell_regrown (w:=wr) q0 dd os
     have x1:=fun dd os=>cell_regrown (w:=wr) g1 dd os
     have y1:=fun dd os=>cell_regrown (w:=wr) q1 dd os
     have x2:=fun dd os=>cell_regrown (w:=wr) g2 dd os
     have y2:=fun dd os=>cell_regrown (w:=wr) q2 dd os
     have x3:=fun dd os=>cell_regrown (w:=wr) g3 dd os
     have y3:=fun dd os=>cell_regrown (w:=wr) q3 dd os
     have x4:=fun dd os=>cell_regrown (w:=wr) g4 dd os
     have y4:=fun dd os=>cell_regrown (w:=wr) q4 dd os
     have x5:=fun dd os=>cell_regrown (w:=wr) g5 dd os
     have y5:=fun dd os=>cell_regrown (w:=wr) q5 dd os
     have HGG:=Lib.hid (fun (W:World) (hb:Below wr.heap.size wr W)=>hG.below rdPr_good hb)
     have BW:=Lib.hid (fun dd os=>below_regrown wr dd os)
     generalize hF:fgt X0 L[j]=F at *
     clear ea' hv hv' g0 g1 g2 g3 g4 g5 q0 q1 q2 q3 q4 q5 hG
     generalize hy:L[j]=Y at y0 y1 y2 y3 y4 y5 K1
     obtain ⟨ny,vy,dy,ry,cy,py⟩:=Y
     simp only at y0 y1 y2 y3 y4 y5 K1
     clear hy
     go_wp2_with fail
     refine wp_region_quiet_below mixed (by kernel_rfl) ?_
     repeat (go_big_quiet_step (first|(go_at_call 61;refine Calls.regrown_of (K1.out _ _))))
     refine wpQuiet_nil ?_
     intro W3 hw3
     have B3:=Lib.hid (show Below w.heap.size w W3 from by obtain ⟨pp,e⟩:=hw3;rw [e];exact BD.out pp.d pp.os)
     have G3:=Lib.hid (show Grow rdPr 2 (fun _=>True) W3 w.heap.size 71 u3 g from HGG.out W3 (by obtain ⟨pp,e⟩:=hw3;rw [e];exact BW.out pp.d pp.os))
     clear hw3 BD BW HGG b0 xb x0 x1 x2 x3 x4 x5 y0 y1 y2 y3 y4 y5 K1
     cases F
     ·have NX:=Lib.hid (show Hid (g++(rwF X0 k (L.drop (j+1)) (j+1)++fgU (L.drop (k+1)) (k+1))=T) from by rw [←ST.out.2 rfl];exact HI)
      go_wp2
      go_roundw
      case rel=>exact ⟨j+1,by omega,by go_num,⟨g,G3.out,NX.out⟩,B3.out⟩
      case measure=>simp [intOf];omega
     ·have NX:=Lib.hid (show Hid (g++[((k:Int),(j:Int))]++(rwF X0 k (L.drop (j+1)) (j+1)++fgU (L.drop (k+1)) (k+1))=T) from by
       have:=HI.out
       rw [ST.out.1 rfl] at this
       rw [List.append_assoc,List.singleton_append];exact this)
      have hE:=(show rdPr W3 (fun b=>True∧b < W3.heap.size∧u3.ownBlock≠some b) ((k:Int),(j:Int)) (#[Value.int .i64 (k:Int),Value.int .i64 (j:Int)]:Array Value).toList from rfl)
      have hn1:g.length+1≤maxLen:=by have:=GL.out;unfold maxLen;omega
      have hn2:(g.length+1)*16≤140737488355328:=by have:=GL.out;omega
      have hbs3:w.heap.size≤W3.heap.size:=B3.out.size
      have hG3:=G3.out
      clear hF
      go_wp2_with (at_builtin;refine wpList_grow1 W3 rfl _ _ 69 rfl rdPr_good (by decide) (fun _=>True) w.heap.size 71 fi _ 16 Tryz.underlying69 hi hz0 hz1 hz2 rfl u3 g rfl hG3 ((k:Int),(j:Int)) _ 71 hE _ rfl rfl hn1 hn2 hbs3 ?_)
      intro v' w' hG' hgr
      have G4:=Lib.hid hG'
      have B4:=Lib.hid (grow_below hG3 hgr B3.out (Nat.le_refl _) hbs3)
      clear hG3 hgr hE hG' G3
      go_wp2
      go_roundw
      case rel=>exact ⟨j+1,by omega,by go_num,⟨_,G4.out,NX.out⟩,B4.out⟩
      case measure=>simp [intOf];omega
    ·obtain rfl:j=L.length:=by omega
     have j0:¬(L.length:Int) < (L.length:Int):=by omega
     have NX:=Lib.hid (show Hid (g++fgU (L.drop (k+1)) (k+1)=T) from by have:=HI.out;rw [List.drop_length] at this;exact this)
     have G4:=Lib.hid hG
     clear hG
     go_wp2
     go_roundw
     case rel=>exact ⟨k+1,by omega,by go_num,⟨g,G4.out,NX.out⟩,HBI.out⟩
     case measure=>simp [intOf];omega
  ·obtain rfl:k=L.length:=by omega
   have i0:¬(L.length:Int) < (L.length:Int):=by omega
   obtain rfl:g=T:=by have:=HI.out;rw [List.drop_length] at this;simpa [fgU] using this
   have RD:=Lib.hid (hG.read rdPr_good)
   obtain ⟨Av,cv,hv6,-,-⟩:=hG.own
   subst hv6
   clear hG
   go_wp2
   go_ret
   exact ⟨⟨Av,cv,rfl,RD.out⟩,HB.out⟩
end Go.Proofs.YthchfkhpmgkghaaGreatDoor
