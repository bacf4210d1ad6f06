/- What the laws rest on: N10k, N10f, N10l, N10m, N9n. -/
import Derived.Test.YthchfkhpmgkghaaGreatDoorQBWZA
set_option maxRecDepth 100000
set_option linter.unusedVariables false
set_option linter.unusedSimpArgs false
namespace Go.Proofs.YthchfkhpmgkghaaGreatDoor
open Go.RowKit
theorem len_glue {g R T:List Ft} {x:Ft} (h:g++[x]++R=T) (hT:T.length≤1000000):g.length+1≤1000000:=by
 have:=congrArg List.length h
 simp only [List.length_append,List.length_singleton] at this
 omega
set_option maxHeartbeats 32000000 in
theorem voutside_any (w0 w:World) (St:World→List Ft→(Nat→Prop)→Prop) (fn q:Nat) (HS:Sink w0.heap.size St fn q) (b:Nat) (L:List Ent) (m:List Hr) (A1:Option Addr) (c1:Nat) (i:List Atm) (A2:Option Addr) (c2:Nat) (r:List Atm) (up:Bool) (Al:Option Addr) (nl cl:Nat) (l:List Int) (g0:List Ft) (O:Nat→Prop) (HU:UQ w0 b L m) (hl:rdInts w0 (lt_ w0.heap.size) l [.slice Al nl cl]) (hi:rdAtms w0 (lt_ w0.heap.size) i [.slice A1 i.length c1]) (hr:rdAtms w0 (lt_ w0.heap.size) r [.slice A2 r.length c2]) (hzi:∀a ∈ i,a.n.size≤1000000) (hzr:∀a ∈ r,a.n.size≤1000000) (E:EnvR w0) (HB:Below w0.heap.size w0 w) (hSt:St w g0 O) (hs:SetP L.length l) (hle:l.length≤1000000) (hT:(g0++outS L (heldU L m) i r l).length≤1000000) :
  Calls Tryz.prog 50 #[.pointer (some ⟨b,0,none⟩),.agg #[.slice A1 i.length c1,.slice A2 r.length c2,.bool up],.slice Al nl cl,.func (.func fn) #[] #[.pointer (some ⟨q,0,none⟩)]] w fun e W'=>e=.returned (.tuple #[])∧∃O',St W' (g0++outS L (heldU L m) i r l) O'∧Pst w O W' O':=by
 have hcf:=HS.enter
 obtain ⟨rfl,hlc,hlm,-⟩:=rdInts_at hl
 obtain ⟨-,hic,him,-⟩:=rdAtms_at hi
 obtain ⟨-,hrc,hrm,-⟩:=rdAtms_at hr
 have hlm':cl≤9223372036854775807:=hlm
 have him':c1≤9223372036854775807:=him
 have hrm':c2≤9223372036854775807:=hrm
 have hO:∀k,O k→w0.heap.size≤k∧k < w.heap.size:=fun k hk=>HS.own hSt k hk
 obtain ⟨W1,hW1⟩:∃W,W=w.alloc (.cells #[.slice A1 i.length c1,.slice A2 r.length c2,.bool up] 26):=⟨_,rfl⟩
 have bb:Below w.heap.size w W1:=by rw [hW1];exact (Below.refl _ w).alloc (Nat.le_refl _) _
 have sb:W1.heap.size=w.heap.size+1:=by rw [hW1];simp
 have z0:W1.cell? ⟨w.heap.size,0,none⟩=some (.slice A1 i.length c1):=by rw [hW1];simp [go_sem]
 have z1:W1.cell? ⟨w.heap.size,1,none⟩=some (.slice A2 r.length c2):=by rw [hW1];simp [go_sem]
 have KH:=Lib.hid (held10_any b L m W1 (HU.up.below (HB.trans (bb.mono HB.size))) HU.hm HU.hz)
 have BB:=Lib.hid bb
 have SB:=Lib.hid sb
 have HBB:=Lib.hid HB
 have HUU:=Lib.hid HU
 have HSS:=Lib.hid HS
 have HST:=Lib.hid hSt
 have HL:=Lib.hid (fun (W:World) (hb:Below w0.heap.size w0 W)=>(rdInts_good.up (rdInts_good.below hl hb) hb.size:rdInts W (lt_ W.heap.size) l [.slice Al l.length cl]))
 have HI:=Lib.hid (fun (W:World) (hb:Below w0.heap.size w0 W)=>(rdAtms_at (rdAtms_good.up (rdAtms_good.below hi hb) hb.size)).2.2.2)
 have HR:=Lib.hid (fun (W:World) (hb:Below w0.heap.size w0 W)=>(rdAtms_at (rdAtms_good.up (rdAtms_good.below hr hb) hb.size)).2.2.2)
 have HEE:=Lib.hid E
 have HP:=Lib.hid hs
 have HO:=Lib.hid hO
 have HLE:=Lib.hid hle
 have HZI:=Lib.hid hzi
 have HZR:=Lib.hid hzr
 have TL:=Lib.hid hT
 obtain ⟨T,hTT⟩:∃T,T=g0++outS L (heldU L m) i r l:=⟨_,rfl⟩
 rw [←hTT] at TL ⊢
 obtain ⟨R2,hR2⟩:∃R,R=preS L l r 0:=⟨_,rfl⟩
 obtain ⟨R1,hR1⟩:∃R,R=misS L l i 0++R2:=⟨_,rfl⟩
 have TI:=Lib.hid (show Hid (g0++(awyL l (heldU L m)++R1)=T) from by
  rw [hTT,hR1,hR2,←awyS_eq HU.held]
  unfold outS
  exact Lib.hid (by simp only [List.append_assoc]))
 have E1:=Lib.hid hR1
 have E2:=Lib.hid hR2
 generalize heldU L m=hd at *
 clear hTT hT hs HS hSt hl hlm him hrm hi hr HB HU E bb sb hO hle hzi hzr hR1 hR2
 go_enter Tryz.func50,Tryz.ntmps50
 go_wp2_with fail
 rw [←hW1]
 clear hW1
 go_wp2_with fail
 refine KH.out.mono ?_
 rintro e w2 ⟨⟨Ah,ch,rfl,hrh⟩,hb⟩
 have y0:=keep6 hb z0
 have y1:=keep6 hb z1
 have BW2:=Lib.hid (bel_in BB.out hb)
 have S2:=Lib.hid (show w.heap.size+1≤w2.heap.size by have:=hb.size;have:=SB.out;omega)
 have HB2:=Lib.hid (HBB.out.trans (BW2.out.mono HBB.out.size))
 have ST2:=Lib.hid (HSS.out.up HST.out BW2.out)
 have P2:=Lib.hid (show Pst w O w2 O from Pst.of_below BW2.out)
 have NO:=Lib.hid (show ¬O w.heap.size from fun q=>by have:=(HO.out _ q).2;omega)
 have KC:=Lib.hid (fun (W:World) (O':Nat→Prop) (hp:Pst w2 O W O')=>(show W.cell? ⟨w.heap.size,0,none⟩=some (.slice A1 i.length c1)∧W.cell? ⟨w.heap.size,1,none⟩=some (.slice A2 r.length c2) from ⟨hp.cell y0 NO.out,hp.cell y1 NO.out⟩))
 have KB:=Lib.hid (fun (W:World) (O':Nat→Prop) (hp:Pst w2 O W O')=>HB2.out.trans (hp.base (fun k hk=>(HO.out k hk).1) HB2.out.size))
 have KD:=Lib.hid (fun (W:World) (O':Nat→Prop) (hp:Pst w2 O W O')=>(rdInts_at (hp.keep rdInts_good hrh fun k hk=>⟨hk.2,fun q=>by have:=(HO.out k q).2;have:=SB.out;omega⟩)).2.2.2)
 obtain ⟨-,hhc,hhm,-⟩:=rdInts_at hrh
 have hhm':ch≤9223372036854775807:=hhm
 clear hrh hb z0 z1 KH hhm
 go_wp2
 go_loopw [19] (fun ix wr=>∃k:Nat,k≤hd.length∧ix=.int .i64 k∧∃g O',St wr g O'∧Hid (g++(awyL l (hd.drop k)++R1)=T)∧Pst w2 O wr O') (fun ix _=>hd.length - (intOf ix).toNat)
 case atStart=>exact ⟨0,Nat.zero_le _,rfl,g0,O,ST2.out,TI.out,Pst.refl _ _⟩
 case round=>
  obtain ⟨k,hk,rfl,g,O1,hst,HJ,hps⟩:=hrel
  have ST:=Lib.hid hst
  have PS:=Lib.hid hps
  clear hst hps y0 y1
  by_cases hlt:k < hd.length
  ·obtain ⟨ad,rfl,-,e0⟩:=KD.out wr O1 PS.out k hlt
   have i0:(0:Int)≤(k:Int):=by omega
   have i1:(k:Int) < (hd.length:Int):=by omega
   have KK:=Lib.hid (vhas_any Al l.length cl l hd[k] wr (HL.out wr (KB.out wr O1 PS.out)) HP.out.2 HLE.out)
   have SR:=Lib.hid (awyL_step (l:=l) hlt)
   have SRT:=Lib.hid (fun (e:l.contains hd[k]=false)=>show g++[⟨4,hd[k],0⟩]++(awyL l (hd.drop (k+1))++R1)=T from by
    have:=HJ.out
    rw [SR.out.2 e] at this
    rw [List.append_assoc,List.singleton_append];exact this)
   have SRF:=Lib.hid (fun (e:l.contains hd[k]=true)=>show g++(awyL l (hd.drop (k+1))++R1)=T from by
    have:=HJ.out
    rw [SR.out.1 e] at this
    exact this)
   generalize hx:hd[k]=x at e0 KK SRT SRF
   generalize hc:l.contains x=cc at KK SRT SRF
   clear SR HJ hx hc
   go_wp2_with fail
   refine KK.out.mono ?_
   rintro e w3 ⟨rfl,rfl⟩
   clear KK e0
   cases cc
   ·have NX:=Lib.hid (Lib.hid (SRT.out rfl))
    have GL:=Lib.hid (len_glue NX.out.out TL.out)
    have KF:=Lib.hid (HSS.out.call wr g O1 ⟨4,x,0⟩ ST.out GL.out)
    clear SRT SRF
    go_wp2_with fail
    refine KF.out.mono ?_
    rintro e w4 ⟨rfl,O4,hst4,hp4⟩
    have ST4:=Lib.hid hst4
    have PS4:=Lib.hid (PS.out.trans hp4)
    clear hst4 hp4 KF
    go_wp2
    go_roundw
    case rel=>exact ⟨k+1,by omega,by go_num,_,O4,ST4.out,NX.out,PS4.out⟩
    case measure=>simp [intOf];omega
   ·have NX:=Lib.hid (Lib.hid (SRF.out rfl))
    clear SRT SRF
    go_wp2
    go_roundw
    case rel=>exact ⟨k+1,by omega,by go_num,g,O1,ST.out,NX.out,PS.out⟩
    case measure=>simp [intOf];omega
  ·obtain rfl:k=hd.length:=by omega
   have NX:=Lib.hid (show Hid (g++(misS L l i 0++R2)=T) from by
    have:=HJ.out
    rw [List.drop_eq_nil_of_le (Nat.le_refl _)] at this
    have e:=E1.out
    rw [e] at this
    exact Lib.hid this)
   obtain ⟨f0,-⟩:=KC.out wr O1 PS.out
   clear HJ
   go_wp2
   go_loopw [34] (fun ix wr=>∃k:Nat,k≤i.length∧ix=.int .i64 k∧∃g O',St wr g O'∧Hid (g++(misS L l (i.drop k) k++R2)=T)∧Pst w2 O wr O') (fun ix _=>i.length - (intOf ix).toNat)
   case atStart=>exact ⟨0,Nat.zero_le _,rfl,g,O1,ST.out,NX.out,PS.out⟩
   case round=>
    obtain ⟨k,hk,rfl,g,O1,hst,HJ,hps⟩:=hrel
    have ST:=Lib.hid hst
    have PS:=Lib.hid hps
    clear hst hps f0 NX
    by_cases hlt:k < i.length
    ·obtain ⟨ad,rfl,-,e0,e1,e2⟩:=HI.out wr (KB.out wr O1 PS.out) k hlt
     have i0:(0:Int)≤(k:Int):=by omega
     have i1:(k:Int) < (i.length:Int):=by omega
     have KK:=Lib.hid (fun (W:World) (hb:Below wr.heap.size wr W)=>(have q:=(KB.out W O1 (PS.out.below hb));vmeets_any b L m i[k] Al l.length cl l W (HUU.out.up.below q) (HL.out W q) HP.out HLE.out (HUU.out.big _) (HZI.out _ (List.getElem_mem hlt)) HUU.out.len (HEE.out.below q)))
     have SR:=Lib.hid (misS_step (U:=L) (l:=l) hlt)
     have SRT:=Lib.hid (fun (e:givS L l i[k]=false)=>show g++[⟨5,(k:Int),0⟩]++(misS L l (i.drop (k+1)) (k+1)++R2)=T from by
      have:=HJ.out
      rw [SR.out.2 e] at this
      rw [List.append_assoc,List.singleton_append];exact this)
     have SRF:=Lib.hid (fun (e:givS L l i[k]=true)=>show g++(misS L l (i.drop (k+1)) (k+1)++R2)=T from by
      have:=HJ.out
      rw [SR.out.1 e] at this
      exact this)
     generalize hx:i[k]=x at e0 e1 e2 KK SRT SRF
     generalize hc:givS L l x=cc at KK SRT SRF
     clear SR HJ hx hc
     obtain ⟨W2,hW2⟩:∃W,W=wr.alloc (.cells #[.string x.n,.int .i64 x.o,.string x.v] 62):=⟨_,rfl⟩
     have B2:=Lib.hid (show Below wr.heap.size wr W2 by rw [hW2];exact (Below.refl _ wr).alloc (Nat.le_refl _) _)
     have x0:W2.cell? ⟨wr.heap.size,0,none⟩=some (.string x.n):=by rw [hW2];simp [go_sem]
     have x1:W2.cell? ⟨wr.heap.size,1,none⟩=some (.int .i64 x.o):=by rw [hW2];simp [go_sem]
     have x2:W2.cell? ⟨wr.heap.size,2,none⟩=some (.string x.v):=by rw [hW2];simp [go_sem]
     go_wp2_with fail
     rw [←hW2]
     clear hW2
     refine (KK.out W2 B2.out).mono ?_
     rintro e w3 ⟨rfl,hb⟩
     have B3:=Lib.hid (bel_in B2.out hb)
     have PS3:=Lib.hid (PS.out.below B3.out)
     have ST3:=Lib.hid (HSS.out.up ST.out B3.out)
     clear hb KK e0 e1 e2 x0 x1 x2
     cases cc
     ·have NX:=Lib.hid (Lib.hid (SRT.out rfl))
      have GL:=Lib.hid (len_glue NX.out.out TL.out)
      have KF:=Lib.hid (HSS.out.call w3 g O1 ⟨5,(k:Int),0⟩ ST3.out GL.out)
      clear SRT SRF
      go_wp2_with fail
      refine KF.out.mono ?_
      rintro e w4 ⟨rfl,O4,hst4,hp4⟩
      have ST4:=Lib.hid hst4
      have PS4:=Lib.hid (PS3.out.trans hp4)
      clear hst4 hp4 KF
      go_wp2
      go_roundw
      case rel=>exact ⟨k+1,by omega,by go_num,_,O4,ST4.out,NX.out,PS4.out⟩
      case measure=>simp [intOf];omega
     ·have NX:=Lib.hid (Lib.hid (SRF.out rfl))
      clear SRT SRF
      go_wp2
      go_roundw
      case rel=>exact ⟨k+1,by omega,by go_num,g,O1,ST3.out,NX.out,PS3.out⟩
      case measure=>simp [intOf];omega
    ·obtain rfl:k=i.length:=by omega
     have NX:=Lib.hid (show Hid (g++preS L l r 0=T) from by
      have:=HJ.out
      rw [List.drop_eq_nil_of_le (Nat.le_refl _)] at this
      have e:=E2.out
      rw [e] at this
      exact Lib.hid this)
     obtain ⟨-,f1⟩:=KC.out wr O1 PS.out
     clear HJ
     go_wp2
     go_loopw [51] (fun ix wr=>∃k:Nat,k≤r.length∧ix=.int .i64 k∧∃g O',St wr g O'∧Hid (g++preS L l (r.drop k) k=T)∧Pst w2 O wr O') (fun ix _=>r.length - (intOf ix).toNat)
     case atStart=>exact ⟨0,Nat.zero_le _,rfl,g,O1,ST.out,NX.out,PS.out⟩
     case round=>
      obtain ⟨k,hk,rfl,g,O1,hst,HJ,hps⟩:=hrel
      have ST:=Lib.hid hst
      have PS:=Lib.hid hps
      clear hst hps f1 NX
      by_cases hlt:k < r.length
      ·obtain ⟨ad,rfl,-,e0,e1,e2⟩:=HR.out wr (KB.out wr O1 PS.out) k hlt
       have i0:(0:Int)≤(k:Int):=by omega
       have i1:(k:Int) < (r.length:Int):=by omega
       have KK:=Lib.hid (fun (W:World) (hb:Below wr.heap.size wr W)=>(have q:=(KB.out W O1 (PS.out.below hb));vgivers_any b L m r[k] Al l.length cl l W (HUU.out.up.below q) (HL.out W q) HP.out.2 HLE.out (HUU.out.big _) (HZR.out _ (List.getElem_mem hlt)) HUU.out.len (HEE.out.below q)))
       have GLN:=Lib.hid (Nat.le_trans (gvS_len L l r[k]) HUU.out.len)
       obtain ⟨R3,hR3⟩:∃R,R=preS L l (r.drop (k+1)) (k+1):=⟨_,rfl⟩
       have IV:=Lib.hid (show Hid (g++(preG k (gvS L l r[k])++R3)=T) from by
        have:=HJ.out
        rw [preS_step hlt,preP_eq HP.out,←hR3] at this
        exact Lib.hid this)
       have E3:=Lib.hid hR3
       generalize hx:r[k]=x at e0 e1 e2 KK IV GLN
       generalize hgg:gvS L l x=G at KK IV GLN
       clear HJ hx hgg hR3
       obtain ⟨W2,hW2⟩:∃W,W=wr.alloc (.cells #[.string x.n,.int .i64 x.o,.string x.v] 62):=⟨_,rfl⟩
       have B2:=Lib.hid (show Below wr.heap.size wr W2 by rw [hW2];exact (Below.refl _ wr).alloc (Nat.le_refl _) _)
       have x0:W2.cell? ⟨wr.heap.size,0,none⟩=some (.string x.n):=by rw [hW2];simp [go_sem]
       have x1:W2.cell? ⟨wr.heap.size,1,none⟩=some (.int .i64 x.o):=by rw [hW2];simp [go_sem]
       have x2:W2.cell? ⟨wr.heap.size,2,none⟩=some (.string x.v):=by rw [hW2];simp [go_sem]
       go_wp2_with fail
       rw [←hW2]
       clear hW2
       refine (KK.out W2 B2.out).mono ?_
       rintro e w3 ⟨⟨Ag,cg,rfl,hrg⟩,hb⟩
       have B3:=Lib.hid (bel_in B2.out hb)
       have PS3:=Lib.hid (PS.out.below B3.out)
       have ST3:=Lib.hid (HSS.out.up ST.out B3.out)
       have OW:=Lib.hid (fun k hk=>HSS.out.own ST.out k hk)
       have HG:=Lib.hid (fun (W:World) (O':Nat→Prop) (hp:Pst w3 O1 W O')=>(rdInts_at (hp.keep rdInts_good hrg fun k hk=>⟨hk.2,fun q=>by have:=(OW.out k q).2;have:=B2.out.size;have:=hk.1;omega⟩)).2.2.2)
       obtain ⟨-,hgc,hgm,-⟩:=rdInts_at hrg
       have hgm':cg≤9223372036854775807:=hgm
       clear hb KK e0 e1 e2 x0 x1 x2 hrg hgm
       go_wp2
       go_loopw [61] (fun ix wr=>∃n:Nat,n≤G.length∧ix=.int .i64 n∧∃g O',St wr g O'∧Hid (g++(preG k (G.drop n)++R3)=T)∧Pst w3 O1 wr O') (fun ix _=>G.length - (intOf ix).toNat)
       case atStart=>exact ⟨0,Nat.zero_le _,rfl,g,O1,ST3.out,IV.out,Pst.refl _ _⟩
       case round=>
        obtain ⟨n,hn,rfl,g,O4,hst,HJ,hps⟩:=hrel
        have ST:=Lib.hid hst
        have PS4:=Lib.hid hps
        clear hst hps
        by_cases hnl:n < G.length
        ·obtain ⟨adg,rfl,-,e0⟩:=HG.out wr O4 PS4.out n hnl
         have n0:(0:Int)≤(n:Int):=by omega
         have n1:(n:Int) < (G.length:Int):=by omega
         have NX:=Lib.hid (show Hid (g++[⟨6,(k:Int),G[n]⟩]++(preG k (G.drop (n+1))++R3)=T) from by
          have:=HJ.out
          rw [preG_step hnl] at this
          rw [List.append_assoc,List.singleton_append];exact Lib.hid this)
         generalize hy:G[n]=y at e0 NX
         have GL:=Lib.hid (len_glue NX.out.out TL.out)
         have KF:=Lib.hid (HSS.out.call wr g O4 ⟨6,(k:Int),y⟩ ST.out GL.out)
         clear hy HJ
         go_wp2_with fail
         refine KF.out.mono ?_
         rintro e w4 ⟨rfl,O5,hst4,hp4⟩
         have ST4:=Lib.hid hst4
         have PS5:=Lib.hid (PS4.out.trans hp4)
         clear hst4 hp4 KF e0
         go_wp2
         go_roundw
         case rel=>exact ⟨n+1,by omega,by go_num,_,O5,ST4.out,NX.out,PS5.out⟩
         case measure=>simp [intOf];omega
        ·have NX:=Lib.hid (show Hid (g++preS L l (r.drop (k+1)) (k+1)=T) from by
          have:=HJ.out
          rw [List.drop_eq_nil_of_le (by omega)] at this
          have e:=E3.out
          rw [←e]
          exact Lib.hid this)
         have PS6:=Lib.hid (PS3.out.trans PS4.out)
         go_wp2
         go_roundw
         case rel=>exact ⟨k+1,by omega,by go_num,g,O4,ST.out,NX.out,PS6.out⟩
         case measure=>simp [intOf];omega
      ·obtain rfl:k=r.length:=by omega
       have FIN:=Lib.hid (show g=T from by have:=HJ.out;rw [List.drop_eq_nil_of_le (Nat.le_refl _)] at this;exact (List.append_nil g).symm.trans this)
       go_wp2
       go_end0
       exact ⟨rfl,O1,by rw [←FIN.out];exact ST.out,P2.out.trans PS.out⟩
set_option maxHeartbeats 4000000 in
theorem vatoms_any (A:Option Addr) (n c:Nat) (l:List Atm) (w:World) (h:rdAtms w (lt_ w.heap.size) l [.slice A n c]) (E:EnvR w) :
  Calls Tryz.prog 53 #[.slice A n c] w fun e w'=>e=.returned (.bool (atB l))∧Below w.heap.size w w':=by
 obtain ⟨rfl,hnc,hcm,_⟩:=rdAtms_at h
 have hcm':c≤9223372036854775807:=hcm
 have KA:=Lib.hid (fun (x:Atm) (W:World) (hb:Below w.heap.size w W)=>rright_atom x W (E.below hb))
 have HR:=Lib.hid (fun (W:World) (hb:Below w.heap.size w W)=>(rdAtms_at (rdAtms_good.up (rdAtms_good.below h hb) hb.size)).2.2.2)
 have S1:=Lib.hid (fun (k:Nat) (hk:k < l.length) (hf:rgt l[k]=false)=>show atB l=false by unfold atB;rw [all_stop6 hk hf];rfl)
 have S2:=Lib.hid (fun (h:l.all rgt=true)=>show atB l=decide (l.length≤12) by unfold atB;rw [h];rfl)
 have S3:=Lib.hid (fun (h:¬l.length≤12)=>show atB l=false by unfold atB;rw [decide_eq_false h,Bool.and_false])
 obtain ⟨R,hR⟩:∃R,R=atB l:=⟨_,rfl⟩
 rw [←hR] at S1 S2 S3 ⊢
 clear hR h hcm E
 by_cases h12:l.length≤12
 rotate_left
 ·have hi:(12:Int) < (l.length:Int):=by omega
  have XX:=Lib.hid (S3.out h12)
  have h12':12 < l.length:=by omega
  clear S1 S2 S3 h12
  go_enter Tryz.func53,Tryz.ntmps53
  go_wp2
  go_ret
  exact ⟨by rw [XX.out];try rfl,Below.refl _ _⟩
 have hi:¬(12:Int) < (l.length:Int):=by omega
 have h12':¬12 < l.length:=by omega
 have SE:=Lib.hid (fun (h:l.all rgt=true)=>(S2.out h).trans (decide_eq_true h12))
 clear S2 S3 h12
 go_enter Tryz.func53,Tryz.ntmps53
 go_wp2
 go_loopw [10] (fun i wr=>∃k:Nat,k≤l.length∧i=.int .i64 k∧(l.take k).all rgt=true∧Below w.heap.size w wr) (fun i _=>l.length - (intOf i).toNat)
 case atStart=>exact ⟨0,Nat.zero_le _,rfl,rfl,Below.refl _ _⟩
 case round=>
  obtain ⟨k,hk,rfl,hall,hbel⟩:=hrel
  have HA:=Lib.hid hall
  have HB:=Lib.hid hbel
  clear hall hbel
  by_cases hlt:k < l.length
  ·obtain ⟨ad,rfl,had,h0,h1,h2⟩:=HR.out wr HB.out k hlt
   have i0:(0:Int)≤(k:Int):=by omega
   have i1:(k:Int) < (l.length:Int):=by omega
   have ST:=Lib.hid (fun hf=>all_step6 (f:=rgt) hlt HA.out hf)
   have SP:=Lib.hid (S1.out k hlt)
   have K:=Lib.hid (KA.out l[k])
   clear had
   generalize l[k]=x at *
   generalize rgt x=b at *
   obtain ⟨W2,hW2⟩:∃W,W=wr.alloc (.cells #[.string x.n,.int .i64 x.o,.string x.v] 62):=⟨_,rfl⟩
   have B2:=Lib.hid (HB.out.trans (show Below w.heap.size wr W2 by rw [hW2];exact (Below.refl _ wr).alloc HB.out.size _))
   have x0:W2.cell? ⟨wr.heap.size,0,none⟩=some (.string x.n):=by rw [hW2];simp [go_sem]
   have x1:W2.cell? ⟨wr.heap.size,1,none⟩=some (.int .i64 x.o):=by rw [hW2];simp [go_sem]
   have x2:W2.cell? ⟨wr.heap.size,2,none⟩=some (.string x.v):=by rw [hW2];simp [go_sem]
   go_wp2_with fail
   rw [←hW2]
   clear hW2
   refine (K.out _ B2.out).mono ?_
   rintro e w' ⟨rfl,hb⟩
   have HB2:=Lib.hid (B2.out.trans (hb.mono B2.out.size))
   clear hb h0 h1 h2 x0 x1 x2
   cases b
   ·have XX:=Lib.hid (SP.out rfl)
    go_wp2
    go_ret
    exact ⟨by rw [XX.out];try rfl,HB2.out⟩
   have NX:=Lib.hid (ST.out rfl)
   go_wp2
   go_roundw
   case rel=>exact ⟨k+1,by omega,by go_num,NX.out,HB2.out⟩
   case measure=>simp [intOf];omega
  ·obtain rfl:k=l.length:=by omega
   have FIN:=Lib.hid (SE.out (by have:=HA.out;rw [List.take_length] at this;exact this))
   go_wp2
   go_ret
   exact ⟨by rw [FIN.out];try rfl,HB.out⟩
set_option maxHeartbeats 4000000 in
theorem vright10_any (A1:Option Addr) (c1:Nat) (A2:Option Addr) (c2:Nat) (i r:List Atm) (up:Bool) (w:World) (hi:rdAtms w (lt_ w.heap.size) i [.slice A1 i.length c1]) (hr:rdAtms w (lt_ w.heap.size) r [.slice A2 r.length c2]) (E:EnvR w) :
  Calls Tryz.prog 18 #[.agg #[.slice A1 i.length c1,.slice A2 r.length c2,.bool up]] w fun e w'=>e=.returned (.bool (rqB i r))∧Below w.heap.size w w':=by
 have KX:=Lib.hid (fun (W:World) (hb:Below w.heap.size w W)=>vatoms_any A1 i.length c1 i W (rdAtms_good.up (rdAtms_good.below hi hb) hb.size) (E.below hb))
 have KB:=Lib.hid (fun (W:World) (hb:Below w.heap.size w W)=>vatoms_any A2 r.length c2 r W (rdAtms_good.up (rdAtms_good.below hr hb) hb.size) (E.below hb))
 have X:=Lib.hid (show rqB i r=(atB i&&atB r) from rfl)
 generalize atB i=a at *
 generalize atB r=b at *
 generalize rqB i r=R at *
 obtain ⟨W1,hW1⟩:∃W,W=w.alloc (.cells #[.slice A1 i.length c1,.slice A2 r.length c2,.bool up] 26):=⟨_,rfl⟩
 have b1:Below w.heap.size w W1:=by rw [hW1];exact (Below.refl _ w).alloc (Nat.le_refl _) _
 have x0:W1.cell? ⟨w.heap.size,0,none⟩=some (.slice A1 i.length c1):=by rw [hW1];simp [go_sem]
 have x1:W1.cell? ⟨w.heap.size,1,none⟩=some (.slice A2 r.length c2):=by rw [hW1];simp [go_sem]
 have B1:=Lib.hid b1
 clear hi hr b1 E
 go_enter Tryz.func18,Tryz.ntmps18
 go_wp2_with fail
 rw [←hW1]
 clear hW1
 go_wp2_with fail
 refine (KX.out _ B1.out).mono ?_
 rintro e w2 ⟨rfl,hb⟩
 have B2:=Lib.hid (bel_in B1.out hb)
 have y1:=keep6 hb x1
 clear hb x0 x1
 cases a
 ·go_wp2
  go_ret
  exact ⟨by rw [X.out];try rfl,B2.out⟩
 go_wp2_with fail
 refine (KB.out _ B2.out).mono ?_
 rintro e w3 ⟨rfl,hb⟩
 have B3:=Lib.hid (bel_in B2.out hb)
 clear hb y1
 go_wp2
 go_ret
 exact ⟨by rw [X.out];try rfl,B3.out⟩
def LstP (l:List Int) (k:Nat) (t:Int):Prop:=(k=0→t=0)∧∀j (hj:j < l.length),k=j+1→t=l[j]+1
theorem lst_ok {n k:Nat} {l:List Int} {t:Int} (hk:k < l.length) (hA:AdjP n l k) (hT:LstP l k t) (h0:¬l[k] < t) (h1:l[k] < (n:Int)):AdjP n l (k+1):=by
 refine AdjP.step hA hk ?_ h1 fun i hi e=>?_
 ·rcases k with _|k
  ·have:=hT.1 rfl;omega
  ·have a:=hT.2 k (by omega) rfl
   have b:=(hA k (by omega) (by omega)).1.1
   omega
 ·have:=hT.2 i hi e;omega
theorem lst_no {n k:Nat} {l:List Int} {t:Int} (hk:k < l.length) (hT:LstP l k t) (h0:l[k] < t):setB n l=false:=by
 rcases k with _|k
 ·exact setB_lo hk (by have:=hT.1 rfl;omega)
 ·exact setB_dn hk (by have:=hT.2 k (by omega) rfl;omega)
theorem lst_next {l:List Int} {k:Nat} (hk:k < l.length):LstP l (k+1) (l[k]+1):=⟨fun e=>absurd e (Nat.succ_ne_zero k),fun j hj e=>by
 have:j=k:=by omega
 subst this;rfl⟩
set_option maxHeartbeats 4000000 in
theorem vset_any (b:Nat) (L:List Ent) (m:List Hr) (Al:Option Addr) (nl cl:Nat) (l:List Int) (w:World) (h:UP w b L m) (hl:rdInts w (lt_ w.heap.size) l [.slice Al nl cl]) :
  Calls Tryz.prog 20 #[.pointer (some ⟨b,0,none⟩),.slice Al nl cl] w fun e w'=>e=.returned (.bool (setB L.length l))∧w=w':=by
 obtain ⟨rfl,hlc,hlm,hat⟩:=rdInts_at hl
 have hlm':cl≤9223372036854775807:=hlm
 have HL:=Lib.hid hat
 have KL:=Lib.hid (len9_any b L m w h)
 have hnb:L.length≤9223372036854775807:=by
  obtain ⟨A,c,A',c',bm,-,-,-,h4,-⟩:=h
  obtain ⟨-,a1,a2,-⟩:=rdEnts_at h4
  exact Nat.le_trans a1 a2
 have X1:=Lib.hid (fun (k:Nat) (t:Int) (hk:k < l.length) (hT:LstP l k t) (h:l[k] < t)=>lst_no (n:=L.length) hk hT h)
 have X2:=Lib.hid (fun (k:Nat) (hk:k < l.length) (h:(L.length:Int)≤l[k])=>setB_hi (n:=L.length) hk h)
 have X3:=Lib.hid (fun (k:Nat) (t:Int) (hk:k < l.length) (hA:AdjP L.length l k) (hT:LstP l k t) h0 h1=>lst_ok hk hA hT h0 h1)
 have X4:=Lib.hid (fun (h:AdjP L.length l l.length)=>adj_set h)
 generalize setB L.length l=bb at *
 generalize L.length=N at *
 clear hl hat hlm h
 go_enter Tryz.func20,Tryz.ntmps20
 go_wp2_with fail
 refine KL.out.mono ?_
 rintro e w1 ⟨rfl,rfl⟩
 clear KL
 go_wp2
 go_loopw [5,13] (fun s i wr=>∃k:Nat,k≤l.length∧i=.int .i64 k∧(∃t:Int,s=.int .i64 t∧Hid (LstP l k t))∧Hid (AdjP N l k)∧w=wr) (fun _ i _=>l.length - (intOf i).toNat)
 case atStart=>exact ⟨0,Nat.zero_le _,rfl,⟨0,rfl,Lib.hid ⟨fun _=>rfl,fun j hj e=>by omega⟩⟩,Lib.hid (AdjP.zero _ _),rfl⟩
 case round=>
  obtain ⟨k,hk,rfl,⟨t,rfl,HT⟩,HA,rfl⟩:=hrel
  by_cases hlt:k < l.length
  ·obtain ⟨adl,rfl,-,l0⟩:=HL.out k hlt
   have i0:(0:Int)≤(k:Int):=by omega
   have i1:(k:Int) < (l.length:Int):=by omega
   have Y1:=Lib.hid (X1.out k t hlt HT.out)
   have Y2:=Lib.hid (X2.out k hlt)
   have Y3:=Lib.hid (X3.out k t hlt HA.out HT.out)
   have NT:=Lib.hid (lst_next hlt)
   generalize hx:l[k]=x at l0 Y1 Y2 Y3 NT
   clear hx
   by_cases h0:x < t
   ·have XX:=Lib.hid (show bb=false from Y1.out h0)
    clear Y1 Y2 Y3 NT
    go_wp2
    go_ret
    exact ⟨by rw [XX.out];try rfl,rfl⟩
   by_cases h1:(N:Int)≤x
   ·have XX:=Lib.hid (show bb=false from Y2.out h1)
    clear Y1 Y2 Y3 NT
    go_wp2
    go_ret
    exact ⟨by rw [XX.out];try rfl,rfl⟩
   have NX:=Lib.hid (Y3.out (by omega) (by omega))
   have x0:0≤x:=by
    have:=(NX.out k hlt (Nat.lt_succ_self _)).1.1
    have e:=NT.out.2 k hlt rfl
    omega
   have k1:IntKind.i64.wrap (x+1)=x+1:=IntWalk.i64_in _ (by omega)
   clear Y1 Y2 Y3
   go_wp2
   go_roundw
   case rel=>exact ⟨k+1,by omega,by go_num,⟨x+1,rfl,NT⟩,NX,by first|trivial|rfl⟩
   case measure=>simp [intOf];omega
  ·obtain rfl:k=l.length:=by omega
   have XX:=Lib.hid (X4.out HA.out)
   go_wp2
   go_ret
   exact ⟨by rw [XX.out];try rfl,rfl⟩
set_option maxHeartbeats 8000000 in
theorem vfaults_any (b:Nat) (L:List Ent) (m:List Hr) (A1:Option Addr) (c1:Nat) (i:List Atm) (A2:Option Addr) (c2:Nat) (r:List Atm) (up:Bool) (Al:Option Addr) (nl cl:Nat) (l:List Int) (w:World) (HU:UQ w b L m) (hl:rdInts w (lt_ w.heap.size) l [.slice Al nl cl]) (hi:rdAtms w (lt_ w.heap.size) i [.slice A1 i.length c1]) (hr:rdAtms w (lt_ w.heap.size) r [.slice A2 r.length c2]) (hzi:∀a ∈ i,a.n.size≤1000000) (hzr:∀a ∈ r,a.n.size≤1000000) (E:EnvR w) (hle:l.length≤1000000) (hT:(fltS L (heldU L m) i r l).length≤1000000) :
  Calls Tryz.prog 15 #[.pointer (some ⟨b,0,none⟩),.agg #[.slice A1 i.length c1,.slice A2 r.length c2,.bool up],.slice Al nl cl] w fun e w'=>FltR w w' (rqB i r&&setB L.length l) (fltS L (heldU L m) i r l) e∧Below w.heap.size w w':=by
 obtain ⟨rfl,hlc,hlm,-⟩:=rdInts_at hl
 obtain ⟨W1,hW1⟩:∃W,W=w.alloc (.cells #[.slice A1 i.length c1,.slice A2 r.length c2,.bool up] 26):=⟨_,rfl⟩
 have b1:Below w.heap.size w W1:=by rw [hW1];exact (Below.refl _ w).alloc (Nat.le_refl _) _
 have s1:W1.heap.size=w.heap.size+1:=by rw [hW1];simp
 have x0:W1.cell? ⟨w.heap.size,0,none⟩=some (.slice A1 i.length c1):=by rw [hW1];simp [go_sem]
 have x1:W1.cell? ⟨w.heap.size,1,none⟩=some (.slice A2 r.length c2):=by rw [hW1];simp [go_sem]
 have x2:W1.cell? ⟨w.heap.size,2,none⟩=some (.bool up):=by rw [hW1];simp [go_sem]
 have KR:=Lib.hid (vright10_any A1 c1 A2 c2 i r up W1 (rdAtms_good.up (rdAtms_good.below hi b1) b1.size) (rdAtms_good.up (rdAtms_good.below hr b1) b1.size) (E.below b1))
 have KS:=Lib.hid (fun (W:World) (hb:Below w.heap.size w W)=>vset_any b L m Al l.length cl l W (HU.up.below hb) (rdInts_good.up (rdInts_good.below hl hb) hb.size))
 have LT:=Lib.hid (show (([]:List Ft)++insS L l).length≤1000000∧(insS L l++outS L (heldU L m) i r l).length≤1000000 from by
  unfold fltS at hT
  rw [List.length_append] at hT
  rw [List.nil_append,List.length_append]
  omega)
 have KI:=Lib.hid (fun (W:World) (q:Nat) (O:Nat→Prop) (hb:Below w.heap.size w W) (hq:w.heap.size≤q) (hst:StG q W [] O) (hs:setB L.length l=true)=>vinside_any w W (StG q) 48 q (sinkG w.heap.size q hq) b L m Al l.length cl l [] O HU hl E hb hst (setB_true.1 hs) LT.out.1)
 have KO:=Lib.hid (fun (W:World) (q:Nat) (O:Nat→Prop) (hb:Below w.heap.size w W) (hq:w.heap.size≤q) (hst:StG q W (insS L l) O) (hs:setB L.length l=true)=>voutside_any w W (StG q) 48 q (sinkG w.heap.size q hq) b L m A1 c1 i A2 c2 r up Al l.length cl l (insS L l) O HU hl hi hr hzi hzr E hb hst (setB_true.1 hs) hle LT.out.2)
 have TE:=Lib.hid (show fltS L (heldU L m) i r l=insS L l++outS L (heldU L m) i r l from rfl)
 have B1:=Lib.hid b1
 have S1:=Lib.hid s1
 clear HU hl hi hr hzi hzr E hle hT b1 hlm s1
 generalize insS L l=I at *
 generalize outS L (heldU L m) i r l=U at *
 generalize fltS L (heldU L m) i r l=T at *
 generalize hsb:setB L.length l=sb at *
 generalize rqB i r=rq at *
 clear hsb
 go_enter Tryz.func15,Tryz.ntmps15
 go_wp2_with fail
 rw [←hW1]
 clear hW1
 go_wp2_with fail
 refine KR.out.mono ?_
 rintro e w2 ⟨rfl,hb⟩
 have B12:=Lib.hid hb
 have B2:=Lib.hid (bel_in B1.out hb)
 have y0:=keep6 hb x0
 have y1:=keep6 hb x1
 have y2:=keep6 hb x2
 clear hb x0 x1 x2 KR
 cases rq
 ·go_wp2
  go_ret2
  exact ⟨⟨fun _=>rfl,fun e=>by cases e⟩,B2.out⟩
 go_wp2_with fail
 refine (KS.out _ B2.out).mono ?_
 rintro e w3 ⟨rfl,rfl⟩
 clear KS
 cases sb
 ·go_wp2
  go_ret2
  exact ⟨⟨fun _=>rfl,fun e=>by cases e⟩,B2.out⟩
 obtain ⟨W4,hW4⟩:∃W,W=w2.alloc (.cells #[.slice none 0 0] 41):=⟨_,rfl⟩
 have b4:Below w2.heap.size w2 W4:=by rw [hW4];exact (Below.refl _ w2).alloc (Nat.le_refl _) _
 have B4:=Lib.hid (bel_in B2.out b4)
 have S2:=Lib.hid (show w.heap.size+1≤w2.heap.size by have:=B12.out.size;have:=S1.out;omega)
 have HQ:=Lib.hid (show w.heap.size≤w2.heap.size by have:=S2.out;omega)
 have ST0:=Lib.hid (show StG w2.heap.size W4 [] (fun k=>k=w2.heap.size) from ⟨.slice none 0 0,by rw [hW4];simp [go_sem],by rw [hW4];simp [go_sem],Grow.nil _ _ _ _,fun k=>by simp [Value.ownBlock]⟩)
 have z0:=keep6 b4 y0
 have z1:=keep6 b4 y1
 have z2:=keep6 b4 y2
 have K1:=Lib.hid (KI.out W4 w2.heap.size _ B4.out HQ.out ST0.out (by first|trivial|rfl))
 clear b4 y0 y1 y2 KI
 go_wp2_with fail
 rw [←hW4]
 clear hW4
 go_wp2_with fail
 refine K1.out.mono ?_
 rintro e w5 ⟨rfl,O5,hst5,hp5⟩
 have ST5:=Lib.hid (show StG w2.heap.size w5 I O5 from by rw [List.nil_append] at hst5;exact hst5)
 have P5:=Lib.hid hp5
 have B5:=Lib.hid (B4.out.trans (hp5.base (fun k (hk:k=w2.heap.size)=>by have:=HQ.out;omega) B4.out.size))
 have u0:=hp5.cell z0 (fun (e:w.heap.size=w2.heap.size)=>by have:=S2.out;omega)
 have u1:=hp5.cell z1 (fun (e:w.heap.size=w2.heap.size)=>by have:=S2.out;omega)
 have u2:=hp5.cell z2 (fun (e:w.heap.size=w2.heap.size)=>by have:=S2.out;omega)
 have K2:=Lib.hid (KO.out w5 w2.heap.size O5 B5.out HQ.out ST5.out (by first|trivial|rfl))
 clear hst5 hp5 z0 z1 z2 K1 KO
 go_wp2_with fail
 refine K2.out.mono ?_
 rintro e w6 ⟨rfl,O6,hst6,hp6⟩
 have B6:=Lib.hid (B5.out.trans (hp6.base (fun k hk=>by
  rcases P5.out.own k hk with q|q
  ·have q:k=w2.heap.size:=q
   have:=HQ.out;omega
  ·have:=B4.out.size;omega) B5.out.size))
 rw [←TE.out] at hst6
 obtain ⟨v,v0,-,hG,-⟩:=hst6
 obtain ⟨Av,cv,hv,-,-⟩:=hG.own
 have RD:=Lib.hid (show rdFts w6 (own10 w w6) T [v] from rdFts_good.more (hG.reads rdFt_good) fun k hk=>⟨by have:=hk.2.resolve_right id;have:=HQ.out;omega,hk.1⟩)
 obtain ⟨nT,hnT⟩:∃n,n=T.length:=⟨_,rfl⟩
 rw [←hnT] at hv
 subst hv
 have NT:=Lib.hid hnT
 clear hp6 hG u0 u1 u2 K2 hnT
 go_wp2
 go_ret2
 refine ⟨⟨fun e=>by (cases e),fun _=>⟨Av,cv,by rw [←NT.out];try rfl,?_⟩⟩,B6.out⟩
 have:=RD.out
 rw [NT.out] at this
 exact this
set_option maxHeartbeats 8000000 in
theorem vmeet_any (b:Nat) (L:List Ent) (m:List Hr) (A1:Option Addr) (c1:Nat) (i:List Atm) (A2:Option Addr) (c2:Nat) (r:List Atm) (up:Bool) (Al:Option Addr) (nl cl:Nat) (l:List Int) (w:World) (HU:UQ w b L m) (hl:rdInts w (lt_ w.heap.size) l [.slice Al nl cl]) (hi:rdAtms w (lt_ w.heap.size) i [.slice A1 i.length c1]) (hr:rdAtms w (lt_ w.heap.size) r [.slice A2 r.length c2]) (hzi:∀a ∈ i,a.n.size≤1000000) (hzr:∀a ∈ r,a.n.size≤1000000) (E:EnvR w) (hle:l.length≤1000000) (hT:(fltS L (heldU L m) i r l).length≤1000000) :
  Calls Tryz.prog 22 #[.pointer (some ⟨b,0,none⟩),.agg #[.slice A1 i.length c1,.slice A2 r.length c2,.bool up],.slice Al nl cl] w fun e w'=>e=.returned (.bool ((rqB i r&&setB L.length l)&&(fltS L (heldU L m) i r l).isEmpty))∧Below w.heap.size w w':=by
 obtain ⟨w1,hw1⟩:∃W,W=w.alloc (.cells #[.slice A1 i.length c1,.slice A2 r.length c2,.bool up] 26):=⟨_,rfl⟩
 have b1:Below w.heap.size w w1:=by rw [hw1];exact (Below.refl _ w).alloc (Nat.le_refl _) _
 have B1:=Lib.hid b1
 obtain ⟨x0,x1,x2⟩:w1.cell? ⟨w.heap.size,0,none⟩=some (.slice A1 i.length c1)∧w1.cell? ⟨w.heap.size,1,none⟩=some (.slice A2 r.length c2)∧w1.cell? ⟨w.heap.size,2,none⟩=some (.bool up):=by
  refine ⟨?_,?_,?_⟩<;>rw [hw1]<;>simp [go_sem]
 have KF:=Lib.hid (vfaults_any b L m A1 c1 i A2 c2 r up Al nl cl l w1 (HU.below b1) (rdInts_good.up (rdInts_good.below hl b1) b1.size) (rdAtms_good.up (rdAtms_good.below hi b1) b1.size) (rdAtms_good.up (rdAtms_good.below hr b1) b1.size) hzi hzr (E.below b1) hle hT)
 clear HU hl hi hr hzi hzr E hle hT b1
 generalize fltS L (heldU L m) i r l=T at *
 generalize (rqB i r&&setB L.length l)=ok at *
 go_enter Tryz.func22,Tryz.ntmps22
 go_wp2_with fail
 rw [←hw1]
 clear hw1
 go_wp2_with fail
 refine KF.out.mono ?_
 rintro e w2 ⟨hf,hb⟩
 have B2:=Lib.hid (bel_in B1.out hb)
 clear hb KF x0 x1 x2
 cases ok
 ·obtain rfl:=hf.1 rfl
  clear hf
  go_wp2
  go_ret
  exact ⟨rfl,B2.out⟩
 ·obtain ⟨A,c,rfl,hr⟩:=hf.2 rfl
  clear hf hr
  by_cases he:T=[]
  ·have hn:((T.length:Int)==0)=true:=by rw [he];rfl
   have XX:=Lib.hid (show T.isEmpty=true by rw [he];rfl)
   clear he
   go_wp2
   go_ret
   exact ⟨by rw [XX.out];try rfl,B2.out⟩
  ·have hn:((T.length:Int)==0)=false:=by
    rw [beq_eq_false_iff_ne]
    intro q
    exact he (List.eq_nil_of_length_eq_zero (by omega))
   have XX:=Lib.hid (show T.isEmpty=false by
    cases hh:T with
    | nil=>exact absurd hh he
    | cons a r=>rfl)
   clear he
   go_wp2
   go_ret
   exact ⟨by rw [XX.out];try rfl,B2.out⟩
theorem ent_all10 {P:Ent→Prop} {L he:List Ent} (h:∀x ∈ L,P x) (h':∀x ∈ he,P x) (ho:Once9 he):∀x ∈ entU L he,P x:=by
 intro x hx
 have key:∀(ix M:List Ent),(∀x ∈ M,P x)→(∀x ∈ ix,P x)→∀x ∈ ix.foldl addU M,P x:=by
  intro ix
  induction ix with
  | nil=>intro M h1 _ x hx;exact h1 x hx
  | cons a r ih=>
   intro M h1 h2 x hx
   refine ih (addU M a) (fun y hy=>?_) (fun y hy=>h2 y (List.mem_cons_of_mem _ hy)) x hx
   unfold addU at hy
   split at hy
   ·exact h1 y hy
   ·rcases put9_mem.1 hy with rfl|hy
    ·exact h2 y (List.mem_cons_self ..)
    ·exact h1 y hy
 refine key L (he.foldl putU []) (fun y hy=>?_) h x hx
 rcases ((fold_put he [] List.Pairwise.nil ho (fun x hx=>by cases hx)).2 y).1 hy with q|q
 ·cases q
 ·exact h' y q
structure UF (U:List Ent) (m:List Hr):Prop where
 len:U.length≤64
 dep:∀x ∈ U,x.d.length≤15
 pr:∀x ∈ U,x.p.length≤1000
 sz:∀x ∈ U,∀g ∈ x.d,∀a ∈ g,a.n.size≤1000000
 nm:∀x ∈ U,x.n.size≤1000000
 srt:Srt9 U
 hm:m.length≤200
 hz:∀y ∈ m,y.e.n.size≤1000000
 held:SetP U.length (heldU U m)
 big:∀s,(gfU s U 0).length≤200000
theorem UF.uq {w:World} {b:Nat} {U:List Ent} {m:List Hr} (h:UF U m) (hu:UP w b U m):UQ w b U m:=⟨hu,h.big,h.len,h.sz,h.pr,h.hm,h.hz,h.held⟩
theorem uf_of {L:List Ent} {m:List Hr} (hb:L.all rgtE=true∧rightH m=true) (hf:Fw10 L m) (hl:¬64 < (entU L (m.map fun y=>y.e)).length):UF (entU L (m.map fun y=>y.e)) m:=by
 obtain ⟨h1,h2,h3⟩:=(rightH_iff m).1 hb.2
 have ho:=once_right h2
 have hs:Srt9 (entU L (m.map fun y=>y.e)):=entU_srt ho
 have all:∀x ∈ entU L (m.map fun y=>y.e),Sm x∧rgtE x=true:=ent_all10 (fun x hx=>⟨hf.1.2 x hx,List.all_eq_true.1 hb.1 x hx⟩) (fun x hx=>by
  obtain ⟨y,hy,rfl⟩:=List.mem_map.1 hx
  exact ⟨hf.2.2 y hy,h1 y hy⟩) ho
 have pr:∀x ∈ entU L (m.map fun y=>y.e),x.p.length≤8:=fun x hx=>(rgt_v (all x hx).2).2
 refine ⟨by omega,fun x hx=>(all x hx).1.2.2.2.2.1,fun x hx=>by have:=pr x hx;omega,fun x hx g hg a ha=>?_,fun x hx=>?_,hs,by have:=hf.2.1;omega,fun y hy=>?_,held_ris hs h2 fun y hy=>here_in ho _ (List.mem_map.2 ⟨y,hy,rfl⟩),fun s=>?_⟩
 ·have:=(all x hx).1.sz.2.1 g hg a ha;omega
 ·have:=(all x hx).1.sz.1;omega
 ·have:=(hf.2.2 y hy).sz.1;omega
 ·refine Nat.le_trans (gfU_len (m:=8) pr) ?_
  have:(entU L (m.map fun y=>y.e)).length*9≤64*9:=Nat.mul_le_mul_right _ (by omega)
  omega
theorem ins_bound {U:List Ent} {l:List Int} (hd:∀x ∈ U,x.d.length≤15) (hl:l.length≤200):(insS U l).length≤100000:=by
 unfold insS
 rw [List.length_append,List.length_append]
 have h1:=pairP_len (f:=smN) (k:=1) (U:=U) l
 have h2:=pairP_len (f:=fgt) (k:=2) (U:=U) l
 have h3:=opnS_len (U:=U) (l:=l) hd l
 have h4:l.length*l.length≤200*200:=Nat.mul_le_mul hl hl
 have h5:l.length*15≤200*15:=Nat.mul_le_mul_right _ hl
 omega
abbrev s1:ByteArray:={ data:=#[49] }
abbrev s2:ByteArray:={ data:=#[50] }
abbrev s0:ByteArray:={ data:=#[] }
theorem rd_three9 {w:World} {S:Nat→Prop} {g:Nat} {T:TypeId} {x y z:Ent} {cx cy cz:List Value} {blk:Array Value} (hb:w.heap[g]?=some (.cells blk T (0,0))) (hk:blk.toList=cx++(cy++(cz++[]))) (hS:S g) (hx:rdEnt w S x cx) (hy:rdEnt w S y cy) (hz:rdEnt w S z cz):rdEnts w S [x,y,z] [.slice (some ⟨g,0,none⟩) 3 3]:=
 rd_block rdEnt_good (l:=[x,y,z]) (css:=[cx,cy,cz]) hb hS rfl hk (fun k hk=>by
  match k,hk with
  | 0,_=>exact ⟨_,rfl,hx⟩
  | 1,_=>exact ⟨_,rfl,hy⟩
  | 2,_=>exact ⟨_,rfl,hz⟩
  | k+3,hk=>exact absurd (show k+3 < 3 from hk) (by omega)) (by simp)
theorem rd_ints9 {w:World} {S:Nat→Prop} {g:Nat} {T:TypeId} {l:List Int} {blk:Array Value} (hb:w.heap[g]?=some (.cells blk T (0,0))) (hk:blk.toList=l.map (Value.int .i64)) (hS:S g) (hl:l.length≤1000):rdInts w S l [.slice (some ⟨g,0,none⟩) l.length l.length]:=
 rd_block rdInt_good (l:=l) (css:=l.map fun i=>[Value.int .i64 i]) hb hS (List.length_map _) (by rw [hk];clear hk hl;induction l with|nil=>rfl|cons a r ih=>simp [ih]) (fun k hk=>⟨[.int .i64 l[k]],by simp [hk],rfl⟩) hl
end Go.Proofs.YthchfkhpmgkghaaGreatDoor
