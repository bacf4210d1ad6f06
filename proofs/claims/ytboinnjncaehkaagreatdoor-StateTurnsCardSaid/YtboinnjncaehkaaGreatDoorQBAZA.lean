/- What the laws rest on: E7k. -/
import Derived.Test.YtboinnjncaehkaaGreatDoorQAZZA
set_option maxRecDepth 100000
set_option linter.unusedVariables false
set_option linter.unusedSimpArgs false
namespace Go.Proofs.YtboinnjncaehkaaGreatDoor
open Go.RowKit
theorem opt_eq7 (o1 o2:Option Hr):decide (o1=o2)=((o1.isSome==o2.isSome)&&decide (o1.getD nil7=o2.getD nil7)):=by
 cases o1<;>cases o2<;>simp
theorem tu_step (a b:List Hr) {all:List Hr} {k:Nat} (hk:k < all.length) (out:List ByteArray) (h:out=(all.take k).foldl (tuS a b) []) :
  (all.take (k+1)).foldl (tuS a b) []=if decide (fdH a all[k].e.n=fdH b all[k].e.n)=true then out else putN out all[k].e.n:=by
 rw [List.take_succ_eq_append_getElem hk,List.foldl_append,←h]
 show tuS a b out all[k]=_
 unfold tuS
 by_cases q:fdH a all[k].e.n=fdH b all[k].e.n
 ·rw [if_pos q,if_pos (decide_eq_true q)]
 ·rw [if_neg q,if_neg (by rw [decide_eq_false q];decide)]
set_option maxHeartbeats 16000000 in
theorem q7turned_any (A:Option Addr) (n c:Nat) (l:List Hr) (A':Option Addr) (n' c':Nat) (m:List Hr) (w:World) (h:rdHrs w (lt_ w.heap.size) l [.slice A n c]) (h':rdHrs w (lt_ w.heap.size) m [.slice A' n' c']) (hl:l.length≤90) (hm:m.length≤90) :
  Calls Tryz.prog 29 #[.slice A n c,.slice A' n' c'] w fun e w'=>(∃A n c,e=.returned (.slice A n c)∧rdNms w' (lt_ w'.heap.size) (tuH l m) [.slice A n c])∧Below w.heap.size w w':=by
 obtain ⟨fi,hi,hz0,hz1,hz2⟩:=info_parts here_info
 obtain ⟨rfl,hnc,hcm,_⟩:=rdHrs_at h
 obtain ⟨rfl,hnc',hcm',_⟩:=rdHrs_at h'
 have hcm1:c≤9223372036854775807:=hcm
 have hcm2:c'≤9223372036854775807:=hcm'
 have B1:=(Below.refl w.heap.size w).alloc (Nat.le_refl _) (.cells #[] 36)
 have hG:=Grow.empty (E:=rdHr) (sz:=8) (fun _=>True) (W:=w.alloc (.cells #[] 36)) (base:=w.heap.size) (heap_alloc_new w _) (Nat.le_refl _)
 have hX:=rdHrs_good.below h B1
 have hn1:([]:List Hr).length+l.length≤maxLen:=by simp only [List.length_nil];unfold maxLen;omega
 have hn2:(([]:List Hr).length+l.length)*136≤140737488355328:=by simp only [List.length_nil];omega
 have hn3:l.length+m.length≤maxLen:=by unfold maxLen;omega
 have hn4:(l.length+m.length)*136≤140737488355328:=by omega
 have hS:∀b,lt_ w.heap.size b→True∧b < (w.alloc (.cells #[] 36)).heap.size∧(Value.slice (some ⟨w.heap.size,0,none⟩) 0 0).ownBlock≠some b:=fun b hb=>⟨trivial,by rw [World.size_alloc];unfold lt_ at hb;omega,fun hh=>by simp only [Value.ownBlock,Option.some.injEq] at hh;unfold lt_ at hb;omega⟩
 have hbs:w.heap.size≤(w.alloc (.cells #[] 36)).heap.size:=by rw [World.size_alloc];omega
 have HB1:=Lib.hid B1
 have HL:=Lib.hid h
 have HM:=Lib.hid h'
 have HLM:=Lib.hid (show (l++m).length≤180 by rw [List.length_append];omega)
 have TS:=Lib.hid (fun k (hk:k < (l++m).length) out ho=>tu_step l m hk out ho)
 have TE:=Lib.hid (show tuH l m=(l++m).foldl (tuS l m) [] from rfl)
 have KF:=Lib.hid (fun (nm:ByteArray) (W:World) (hb:Below w.heap.size w W)=>q7find_any A l.length c l nm W (rdHrs_good.up (rdHrs_good.below h hb) hb.size))
 have KF2:=Lib.hid (fun (nm:ByteArray) (W:World) (hb:Below w.heap.size w W)=>q7find_any A' m.length c' m nm W (rdHrs_good.up (rdHrs_good.below h' hb) hb.size))
 clear h h' B1 hcm hcm' hl hm
 go_enter Tryz.func29,Tryz.ntmps29
 go_wp2_with (at_builtin;refine wpList_growN _ rfl _ _ 23 23 rfl rdHr_good (by decide) (fun _=>True) w.heap.size 36 36 fi (.agg #[.string { data:=#[] },.string { data:=#[] },.slice none 0 0,.slice none 0 0,.slice none 0 0,.slice none 0 0,.bool false,.bool false]) 136 Tryz.underlying23 Tryz.underlying23 hi hz0 hz1 hz2 rfl _ _ rfl hG l _ A l.length c rfl hX hS hn1 hn2 hbs ?_)
 intro v1 w1 hG1 hg1
 have HB2:=Lib.hid (grow_below hG hg1 HB1.out (Nat.le_refl _) hbs)
 have hX2:=rdHrs_good.below HM.out HB2.out
 have hS2:∀b,lt_ w.heap.size b→True∧b < w1.heap.size∧v1.ownBlock≠some b:=fun b hb=>⟨trivial,Nat.lt_of_lt_of_le hb HB2.out.size,fun hh=>by have:=(hG1.lt b hh).1;unfold lt_ at hb;omega⟩
 have hbs2:=HB2.out.size
 clear hG hX hg1 hn1 hn2 hS hbs
 go_wp2_with (at_builtin;refine wpList_growN _ rfl _ _ 23 23 rfl rdHr_good (by decide) (fun _=>True) w.heap.size 36 36 fi (.agg #[.string { data:=#[] },.string { data:=#[] },.slice none 0 0,.slice none 0 0,.slice none 0 0,.slice none 0 0,.bool false,.bool false]) 136 Tryz.underlying23 Tryz.underlying23 hi hz0 hz1 hz2 rfl _ _ rfl hG1 m _ A' m.length c' rfl hX2 hS2 hn3 hn4 hbs2 ?_)
 intro v2 w2 hG2 hg2
 have HB3:=Lib.hid (grow_below hG1 hg2 HB2.out (Nat.le_refl _) hbs2)
 have hrd:=hG2.read rdHr_good
 obtain ⟨A0,c0,rfl,_,_⟩:=hG2.own
 have hrd:rdHrs w2 (lt_ w2.heap.size) (l++m) [.slice A0 (l++m).length c0]:=hrd
 clear hG1 hG2 hg2 hX2 hS2 hbs2 hn3 hn4
 generalize l++m=all at *
 obtain ⟨-,hac,ham,hat⟩:=rdHrs_at hrd
 have ham1:c0≤9223372036854775807:=ham
 have HAT:=Lib.hid hat
 clear hrd hat ham
 go_wp2
 go_loopw [6,7] (fun u i wr=>∃(k:Nat) (out:List ByteArray),k≤all.length∧i=.int .i64 k∧out=(all.take k).foldl (tuS l m) []∧out.length≤k∧(∃Au nu cu,u=.slice Au nu cu∧rdNms wr (lt_ wr.heap.size) out [.slice Au nu cu])∧Below w2.heap.size w2 wr) (fun _ i _=>all.length - (intOf i).toNat)
 case atStart=>exact ⟨0,[],Nat.zero_le _,rfl,rfl,Nat.le_refl _,⟨none,0,0,rfl,rdRow_nil _ _⟩,Below.refl _ _⟩
 case round=>
  obtain ⟨k,out,hk,rfl,hout,hol,⟨Au,nu,cu,rfl,hru⟩,hb1⟩:=hrel
  have HO:=Lib.hid hout
  have HOL:=Lib.hid hol
  have HU:=Lib.hid hru
  have HB:=Lib.hid hb1
  have HBW:=Lib.hid (bel_in HB3.out hb1)
  clear hout hol hru hb1
  by_cases hlt:k < all.length
  ·obtain ⟨ad,E1,e1,E2,e2,E3,e3,E4,e4,rfl,had,hv,h0,-⟩:=HAT.out k hlt
   have i0:(0:Int)≤(k:Int):=by omega
   have i1:(k:Int) < (all.length:Int):=by omega
   have g0:=keep6 HB.out h0
   have ST:=Lib.hid (TS.out k hlt out HO.out)
   clear had hv h0
   generalize all[k].e.n=nm at *
   have K1:=Lib.hid (KF.out nm wr HBW.out)
   have K2:=Lib.hid (fun W (hb:Below wr.heap.size wr W)=>KF2.out nm W (bel_in HBW.out hb))
   have OE:=Lib.hid (opt_eq7 (fdH l nm) (fdH m nm))
   generalize fdH l nm=o1 at *
   generalize fdH m nm=o2 at *
   go_wp2_with fail
   refine K1.out.mono ?_
   rintro e w3 ⟨⟨A1,c1,A2,c2,A3,c3,A4,c4,rfl,hx⟩,hb⟩
   have V3:=Lib.hid hb
   have HX:=Lib.hid hx
   clear hb hx g0 K1
   generalize o1.getD nil7=x at *
   generalize o1.isSome=s1 at *
   obtain ⟨w4,hw4⟩:∃W,W=w3.alloc (.cells #[.string x.e.n,.string x.e.v,.slice A1 x.e.d.length c1,.slice A2 x.e.r.length c2,.slice A3 x.e.c.length c3,.slice A4 x.e.p.length c4,.bool x.a,.bool x.h] 36):=⟨_,rfl⟩
   have hb4:Below w3.heap.size w3 w4:=by rw [hw4];exact (Below.refl _ _).alloc (Nat.le_refl _) _
   have hc4:(show World→Prop from fun W=>W.cell? ⟨w3.heap.size,0,none⟩=some (.string x.e.n)∧W.cell? ⟨w3.heap.size,1,none⟩=some (.string x.e.v)∧W.cell? ⟨w3.heap.size,2,none⟩=some (.slice A1 x.e.d.length c1)∧W.cell? ⟨w3.heap.size,3,none⟩=some (.slice A2 x.e.r.length c2)∧W.cell? ⟨w3.heap.size,4,none⟩=some (.slice A3 x.e.c.length c3)∧W.cell? ⟨w3.heap.size,5,none⟩=some (.slice A4 x.e.p.length c4)∧W.cell? ⟨w3.heap.size,6,none⟩=some (.bool x.a)∧W.cell? ⟨w3.heap.size,7,none⟩=some (.bool x.h)) w4:=by rw [hw4];refine ⟨?_,?_,?_,?_,?_,?_,?_,?_⟩<;>simp [go_sem]
   have V4:=Lib.hid (bel_in V3.out hb4)
   have KC:=Lib.hid (fun (W:World) (hb:Below w4.heap.size w4 W)=>(show W.cell? ⟨w3.heap.size,0,none⟩=some (.string x.e.n)∧W.cell? ⟨w3.heap.size,1,none⟩=some (.string x.e.v)∧W.cell? ⟨w3.heap.size,2,none⟩=some (.slice A1 x.e.d.length c1)∧W.cell? ⟨w3.heap.size,3,none⟩=some (.slice A2 x.e.r.length c2)∧W.cell? ⟨w3.heap.size,4,none⟩=some (.slice A3 x.e.c.length c3)∧W.cell? ⟨w3.heap.size,5,none⟩=some (.slice A4 x.e.p.length c4)∧W.cell? ⟨w3.heap.size,6,none⟩=some (.bool x.a)∧W.cell? ⟨w3.heap.size,7,none⟩=some (.bool x.h) from by
    obtain ⟨k0,k1,k2,k3,k4,k5,k6,k7⟩:=hc4
    exact ⟨keep6 hb k0,keep6 hb k1,keep6 hb k2,keep6 hb k3,keep6 hb k4,keep6 hb k5,keep6 hb k6,keep6 hb k7⟩))
   have SX:=Lib.hid hw4
   have K2:=Lib.hid (K2.out w4 V4.out)
   have HX4:=Lib.hid (HX.out.up V3.out.size|>fun z=>z.on hb4)
   clear hb4 hc4
   go_wp2_with fail
   rw [←SX.out]
   clear SX hw4
   refine K2.out.mono ?_
   rintro e w5 ⟨⟨B1,d1,B2v,d2,B3,d3,B4,d4,rfl,hy⟩,hb⟩
   have V5:=Lib.hid (bel_in V4.out hb)
   have HY:=Lib.hid (hy.up hb.size)
   have HX5:=Lib.hid (HX4.out.on hb)
   have KC:=Lib.hid (fun (W:World) (hx:Below w5.heap.size w5 W)=>KC.out W (bel_in hb hx))
   clear hb hy K2
   generalize o2.getD nil7=y at *
   generalize o2.isSome=s2 at *
   obtain ⟨w6,hw6⟩:∃W,W=w5.alloc (.cells #[.string y.e.n,.string y.e.v,.slice B1 y.e.d.length d1,.slice B2v y.e.r.length d2,.slice B3 y.e.c.length d3,.slice B4 y.e.p.length d4,.bool y.a,.bool y.h] 36):=⟨_,rfl⟩
   have hb6:Below w5.heap.size w5 w6:=by rw [hw6];exact (Below.refl _ _).alloc (Nat.le_refl _) _
   have V6:=Lib.hid (bel_in V5.out hb6)
   have KS:=Lib.hid (same7_any x y A1 c1 A2 c2 A3 c3 A4 c4 B1 d1 B2v d2 B3 d3 B4 d4 w6 (HX5.out.on hb6) (HY.out.on hb6))
   obtain ⟨k0,k1,k2,k3,k4,k5,k6,k7⟩:=KC.out w6 hb6
   have SY:=Lib.hid hw6
   rw [hw6] at k0 k1 k2 k3 k4 k5 k6 k7
   clear hb6
   generalize decide (x=y)=d at *
   go_wp2_with fail
   rw [←SY.out]
   clear SY hw6 k0 k1 k2 k3 k4 k5 k6 k7
   refine KS.out.mono ?_
   rintro e w7 ⟨rfl,hb⟩
   have V7:=Lib.hid (bel_in V6.out hb)
   have KP:=Lib.hid (q7put_any Au nu cu out nm w7 (rdNms_good.up (rdNms_good.below HU.out V7.out) V7.out.size) (by have:=HOL.out;have:=HLM.out;omega))
   have PL:=Lib.hid (put_len out nm)
   have ST:=Lib.hid (ST.out)
   clear hb KS
   cases s1
   ·cases s2
    ·cases d
     ·have NX:=Lib.hid (show (all.take (k+1)).foldl (tuS l m) []=putN out nm by rw [ST.out,OE.out];rfl)
      go_wp2_with fail
      refine KP.out.mono ?_
      rintro e w8 ⟨⟨A8,n8,c8,rfl,hr8⟩,hb⟩
      have V8:=Lib.hid (bel_in V7.out hb)
      have H8:=Lib.hid hr8
      clear hb hr8
      go_wp2
      go_roundw
      case rel=>exact ⟨k+1,_,by omega,by go_num,NX.out.symm,by have:=PL.out;have:=HOL.out;omega,⟨A8,n8,c8,rfl,H8.out⟩,bel_in HB.out V8.out⟩
      case measure=>simp [intOf];omega
     ·have NX:=Lib.hid (show (all.take (k+1)).foldl (tuS l m) []=out by rw [ST.out,OE.out];rfl)
      have H8:=Lib.hid (rdNms_good.up (rdNms_good.below HU.out V7.out) V7.out.size)
      go_wp2
      go_roundw
      case rel=>exact ⟨k+1,_,by omega,by go_num,NX.out.symm,by have:=HOL.out;omega,⟨Au,nu,cu,rfl,H8.out⟩,bel_in HB.out V7.out⟩
      case measure=>simp [intOf];omega
    ·cases d
     ·have NX:=Lib.hid (show (all.take (k+1)).foldl (tuS l m) []=putN out nm by rw [ST.out,OE.out];rfl)
      go_wp2_with fail
      refine KP.out.mono ?_
      rintro e w8 ⟨⟨A8,n8,c8,rfl,hr8⟩,hb⟩
      have V8:=Lib.hid (bel_in V7.out hb)
      have H8:=Lib.hid hr8
      clear hb hr8
      go_wp2
      go_roundw
      case rel=>exact ⟨k+1,_,by omega,by go_num,NX.out.symm,by have:=PL.out;have:=HOL.out;omega,⟨A8,n8,c8,rfl,H8.out⟩,bel_in HB.out V8.out⟩
      case measure=>simp [intOf];omega
     ·have NX:=Lib.hid (show (all.take (k+1)).foldl (tuS l m) []=putN out nm by rw [ST.out,OE.out];rfl)
      go_wp2_with fail
      refine KP.out.mono ?_
      rintro e w8 ⟨⟨A8,n8,c8,rfl,hr8⟩,hb⟩
      have V8:=Lib.hid (bel_in V7.out hb)
      have H8:=Lib.hid hr8
      clear hb hr8
      go_wp2
      go_roundw
      case rel=>exact ⟨k+1,_,by omega,by go_num,NX.out.symm,by have:=PL.out;have:=HOL.out;omega,⟨A8,n8,c8,rfl,H8.out⟩,bel_in HB.out V8.out⟩
      case measure=>simp [intOf];omega
   ·cases s2
    ·cases d
     ·have NX:=Lib.hid (show (all.take (k+1)).foldl (tuS l m) []=putN out nm by rw [ST.out,OE.out];rfl)
      go_wp2_with fail
      refine KP.out.mono ?_
      rintro e w8 ⟨⟨A8,n8,c8,rfl,hr8⟩,hb⟩
      have V8:=Lib.hid (bel_in V7.out hb)
      have H8:=Lib.hid hr8
      clear hb hr8
      go_wp2
      go_roundw
      case rel=>exact ⟨k+1,_,by omega,by go_num,NX.out.symm,by have:=PL.out;have:=HOL.out;omega,⟨A8,n8,c8,rfl,H8.out⟩,bel_in HB.out V8.out⟩
      case measure=>simp [intOf];omega
     ·have NX:=Lib.hid (show (all.take (k+1)).foldl (tuS l m) []=putN out nm by rw [ST.out,OE.out];rfl)
      go_wp2_with fail
      refine KP.out.mono ?_
      rintro e w8 ⟨⟨A8,n8,c8,rfl,hr8⟩,hb⟩
      have V8:=Lib.hid (bel_in V7.out hb)
      have H8:=Lib.hid hr8
      clear hb hr8
      go_wp2
      go_roundw
      case rel=>exact ⟨k+1,_,by omega,by go_num,NX.out.symm,by have:=PL.out;have:=HOL.out;omega,⟨A8,n8,c8,rfl,H8.out⟩,bel_in HB.out V8.out⟩
      case measure=>simp [intOf];omega
    ·cases d
     ·have NX:=Lib.hid (show (all.take (k+1)).foldl (tuS l m) []=putN out nm by rw [ST.out,OE.out];rfl)
      go_wp2_with fail
      refine KP.out.mono ?_
      rintro e w8 ⟨⟨A8,n8,c8,rfl,hr8⟩,hb⟩
      have V8:=Lib.hid (bel_in V7.out hb)
      have H8:=Lib.hid hr8
      clear hb hr8
      go_wp2
      go_roundw
      case rel=>exact ⟨k+1,_,by omega,by go_num,NX.out.symm,by have:=PL.out;have:=HOL.out;omega,⟨A8,n8,c8,rfl,H8.out⟩,bel_in HB.out V8.out⟩
      case measure=>simp [intOf];omega
     ·have NX:=Lib.hid (show (all.take (k+1)).foldl (tuS l m) []=out by rw [ST.out,OE.out];rfl)
      have H8:=Lib.hid (rdNms_good.up (rdNms_good.below HU.out V7.out) V7.out.size)
      go_wp2
      go_roundw
      case rel=>exact ⟨k+1,_,by omega,by go_num,NX.out.symm,by have:=HOL.out;omega,⟨Au,nu,cu,rfl,H8.out⟩,bel_in HB.out V7.out⟩
      case measure=>simp [intOf];omega
  ·obtain rfl:k=all.length:=by omega
   have X1:=Lib.hid (show out=tuH l m by rw [HO.out,List.take_length];exact TE.out.symm)
   go_wp2
   go_ret
   exact ⟨⟨Au,nu,cu,rfl,by rw [←X1.out];exact HU.out⟩,HBW.out⟩
end Go.Proofs.YtboinnjncaehkaaGreatDoor
