/- What the laws rest on: P8k, Rel1. -/
import Derived.Lib.AppendZeros
import Derived.Test.YtboinnjncaehkaaGreatDoorQBEZA
set_option maxRecDepth 100000
set_option linter.unusedVariables false
set_option linter.unusedSimpArgs false
namespace Go.Proofs.YtboinnjncaehkaaGreatDoor
open Go.RowKit Go.Sort
def TS (w:World) (base:Nat) (l:List Hr) (v:Value):Prop:=rdHrs w (lt_ w.heap.size) l [v]∧Spr w base v
def At8 (w:World) (g o:Nat) (hv:HrV):Prop:=∀j u,hv.cs[j]?=some u→w.cell? ⟨g,o+j,none⟩=some u
theorem ts_shape {w:World} {base:Nat} {l:List Hr} {v:Value} (h:TS w base l v):∃A c,v=.slice A l.length c∧l.length≤c∧c≤9223372036854775807:=by
 obtain ⟨⟨A,c,e,h1,h2,_⟩,_⟩:=h
 simp only [List.cons.injEq,and_true] at e
 exact ⟨A,c,e,h1,h2⟩
theorem ts_head {w:World} {base:Nat} {x:Hr} {r:List Hr} {v:Value} (h:TS w base (x::r) v):∃g o c hv,v=.slice (some ⟨g,o,none⟩) (r.length+1) c∧hv.x=x∧r.length+1≤c∧c≤9223372036854775807∧g < w.heap.size∧At8 w g o hv∧EntV w (lt_ w.heap.size) hv.x.e hv.A1 hv.c1 hv.A2 hv.c2 hv.A3 hv.c3 hv.A4 hv.c4∧TS w base r (.slice (if c=1 then some ⟨g,o,none⟩ else some ⟨g,o+8,none⟩) r.length (c - 1)):=by
 obtain ⟨A,c,rfl,h1,h2⟩:=ts_shape h
 obtain ⟨hr,hs⟩:=h
 simp only [List.length_cons] at h1 hr hs ⊢
 obtain ⟨_,_,_,hat⟩:=rdHrs_at hr
 obtain ⟨ad,A1,c1,A2,c2,A3,c3,A4,c4,rfl,had,hv,g0,g1,g2,g3,g4,g5,g6,g7⟩:=hat 0 (by simp)
 obtain ⟨A',n',c',e,s1,s2,s3,s4⟩:=id hs
 simp only [Value.slice.injEq] at e
 obtain ⟨rfl,rfl,rfl⟩:=e
 obtain ⟨g,o,rfl,s5,s6,s7⟩:=s4 _ rfl
 simp only [Nat.zero_mul,Addr.add_lit,Nat.add_zero,List.getElem_cons_zero] at g0 g1 g2 g3 g4 g5 g6 g7 hv
 refine ⟨g,o,c,⟨x,A1,c1,A2,c2,A3,c3,A4,c4⟩,rfl,rfl,h1,h2,s6,fun j u hj=>?_,hv,?_,hs.tail⟩
 ·have hl:j < 8:=(List.getElem?_eq_some_iff.1 hj).1
  unfold HrV.cs at hj
  rcases j with _|_|_|_|_|_|_|_|j
  ·simp only [List.getElem?_cons_zero,Option.some.injEq] at hj;rw [←hj];exact g0
  ·simp only [List.getElem?_cons_succ,List.getElem?_cons_zero,Option.some.injEq] at hj;rw [←hj];exact g1
  ·simp only [List.getElem?_cons_succ,List.getElem?_cons_zero,Option.some.injEq] at hj;rw [←hj];exact g2
  ·simp only [List.getElem?_cons_succ,List.getElem?_cons_zero,Option.some.injEq] at hj;rw [←hj];exact g3
  ·simp only [List.getElem?_cons_succ,List.getElem?_cons_zero,Option.some.injEq] at hj;rw [←hj];exact g4
  ·simp only [List.getElem?_cons_succ,List.getElem?_cons_zero,Option.some.injEq] at hj;rw [←hj];exact g5
  ·simp only [List.getElem?_cons_succ,List.getElem?_cons_zero,Option.some.injEq] at hj;rw [←hj];exact g6
  ·simp only [List.getElem?_cons_succ,List.getElem?_cons_zero,Option.some.injEq] at hj;rw [←hj];exact g7
  ·omega
 ·have q:=rdRow_drop (k:=1) hr (by simp)
  simp only [List.drop_one,List.tail_cons,Nat.one_mul,Addr.add_lit,Nat.add_sub_cancel] at q
  exact q
theorem At8.bx {w W:World} {g o:Nat} {hv:HrV} (h:At8 w g o hv) (hg:g < w.heap.size) (hb:Below w.heap.size w W):∀n os j u,hv.cs[j]?=some u→(grow (W.drewN n) os).cell? ⟨g,o+j,none⟩=some u:=fun n os j u hj=>cell_grown (Nat.lt_of_lt_of_le hg hb.size) ((hb.cell (p:=⟨g,o+j,none⟩) hg).trans (h j u hj)) n os
set_option maxHeartbeats 64000000 in
theorem turned0_any (A:Option Addr) (n c:Nat) (l:List Hr) (A':Option Addr) (n' c':Nat) (m:List Hr) (w:World) (h:rdHrs w (lt_ w.heap.size) l [.slice A n c]) (h':rdHrs w (lt_ w.heap.size) m [.slice A' n' c']) (hl:l.length≤200) (hm:m.length≤200) :
  Calls Tryz.prog 53 #[.slice A n c,.slice A' n' c',.func (.func 33) #[] #[],.func (.func 54) #[] #[]] w (NmW w (tuH l m)):=by
 have mixed:Tryz.prog.follows .mixedOrders=true:=by kernel_rfl
 have hcf1:∀(args:Array Value) (w:World),(callFunc 33 args).run Tryz.prog w=.ok (.enter 33 args) w:=fun _ _=>by kernel_rfl
 have hcf2:∀(args:Array Value) (w:World),(callFunc 54 args).run Tryz.prog w=.ok (.enter 54 args) w:=fun _ _=>by kernel_rfl
 obtain ⟨fi,hi,hz0,hz1,hz2⟩:=info_parts str_info
 have K1:=Lib.hid (firsts7_any A n c l w h hl)
 have K2:=Lib.hid (fun (W:World) (hb:Below w.heap.size w W)=>firsts7_any A' n' c' m W (rdHrs_good.up (rdHrs_good.below h' hb) hb.size) hm)
 have HL:=Lib.hid (And.intro hl hm)
 clear h h' hl hm
 go_enter Tryz.func53,Tryz.ntmps53
 go_wp2_with fail
 refine K1.out.mono ?_
 rintro e w1 ⟨⟨va,la,rfl,hGa,hla,hra,hfa⟩,hb1⟩
 have KK:=Lib.hid (K2.out w1 hb1)
 have B1:=Lib.hid hb1
 have GA1:=Lib.hid hGa
 have PA:=Lib.hid (And.intro hla (And.intro hra hfa))
 obtain ⟨Aa,ca,hva,-,-⟩:=hGa.own
 have HVA:=Lib.hid hva
 clear hGa hb1 hla hra hfa K1 K2 hva
 go_wp2_with fail
 refine KK.out.mono ?_
 rintro e w2 ⟨⟨vb,lb,rfl,hGb,hlb,hrb,hfb⟩,hb2⟩
 have B2:=Lib.hid (bel_in B1.out hb2)
 have TA:=Lib.hid (show TS w2 w.heap.size la va from ⟨rdHrs_good.up (rdHrs_good.below (GA1.out.read rdHr_good) hb2) hb2.size,(spr_of GA1.out).keep hb2⟩)
 have TB:=Lib.hid (show TS w2 w.heap.size lb vb from ⟨hGb.read rdHr_good,spr_of (grow_low hGb B1.out.size)⟩)
 have HM:=Lib.hid (show mrg la lb=tuH l m from mrg_tu PA.out.2.1 hrb PA.out.2.2 hfb)
 have HLL:=Lib.hid (show la.length+lb.length≤400 by have:=PA.out.1;have:=HL.out.1;have:=HL.out.2;omega)
 obtain ⟨Aa',ca',rfl,-,-⟩:=ts_shape TA.out
 obtain ⟨Ab,cb,rfl,-,-⟩:=ts_shape TB.out
 clear hGb hb2 hlb hrb hfb KK GA1 PA HVA HL
 go_wp2
 go_loopg [0,1,9] (la.length+lb.length) (fun kx u0 u1 u9 wr=>∃(la' lb':List Hr) (out:List ByteArray),(∃A c,u0=.slice A la'.length c)∧(∃A c,u1=.slice A lb'.length c)∧Hid (TS w2 w.heap.size la' u0)∧Hid (TS w2 w.heap.size lb' u1)∧Hid (Grow rdNm 1 (fun _=>True) wr w2.heap.size 9 u9 out)∧Hid (out++mrg la' lb'=tuH l m)∧Hid (Below w2.heap.size w2 wr)∧la'.length+lb'.length≤kx∧out.length+(la'.length+lb'.length)≤400)
 case atStart=>exact ⟨la,lb,[],⟨_,_,rfl⟩,⟨_,_,rfl⟩,TA,TB,Lib.hid (Grow.nil _ _ _ _),Lib.hid HM.out,Lib.hid (Below.refl _ _),Nat.le_refl _,by simpa using HLL.out⟩
 case round=>
  clear TA TB HM HLL
  obtain ⟨la',lb',out,⟨A1,c1,rfl⟩,⟨A2,c2,rfl⟩,TA,TB,GO,HM,BW,hkx,hlo⟩:=hrel
  rcases Nat.eq_zero_or_pos la'.length with ha0|ha0
  ·have za:¬((0:Int) < (la'.length:Int)):=by omega
   obtain ⟨da,e1,RA⟩:=rv_of TA.out.1 fun b hb=>hb
   obtain ⟨db,e2,RB⟩:=rv_of TB.out.1 fun b hb=>hb
   have l1:da.length=la'.length:=by rw [←e1,List.length_map]
   have l2:db.length=lb'.length:=by rw [←e2,List.length_map]
   have MN:=Lib.hid (show out++(da++db).map (fun r=>r.x.e.n)=tuH l m by
    rw [←HM.out,List.map_append]
    congr 1
    rcases Nat.eq_zero_or_pos la'.length with h|h
    ·obtain rfl:la'=[]:=List.eq_nil_of_length_eq_zero h
     obtain rfl:da=[]:=List.eq_nil_of_length_eq_zero (by omega)
     rw [mrg_nil_left,←e2,List.map_map];rfl
    ·obtain rfl:lb'=[]:=List.eq_nil_of_length_eq_zero (by omega)
     obtain rfl:db=[]:=List.eq_nil_of_length_eq_zero (by rw [l2];rfl)
     rw [mrg_nil_right,←e1,List.map_map,List.map_nil,List.append_nil];rfl)
   have OFv:=Lib.hid (show ∀b,(Value.slice A1 la'.length c1).ownBlock=some b→b < w2.heap.size from fun b hb=>by
    obtain ⟨A0,n0,c0,e0,s1,s2,s3,s4⟩:=TA.out.2
    simp only [Value.slice.injEq] at e0
    obtain ⟨rfl,rfl,rfl⟩:=e0
    cases A1 with
    | none=>cases hb
    | some ad=>
     obtain ⟨g,o,rfl,s5,s6,s7⟩:=s4 ad rfl
     obtain rfl:=Option.some.inj hb
     exact s6)
   obtain ⟨v5,w5,hr5,RV5,hb5,ho5,hm5⟩:=rest_run wr w.heap.size 23 _ _ da db (RA.keep BW.out) (RB.keep BW.out) ((TA.out.2).keep BW.out) (Nat.le_trans B2.out.size BW.out.size) (by
    rcases Nat.eq_zero_or_pos la'.length with h|h
    ·exact .inl (List.eq_nil_of_length_eq_zero (by omega))
    ·exact .inr (List.eq_nil_of_length_eq_zero (by omega))) (by omega)
   have hlt9:=GO.out.lt
   have O5:=Lib.hid (show Off u9 v5 from fun b hb hv=>by
    obtain ⟨q1,q2⟩:=hlt9 b hb
    rcases hm5 with q|⟨b',q,q3,q4⟩
    ·rw [q] at hv;have:=OFv.out b hv;omega
    ·rw [q] at hv;obtain rfl:=Option.some.inj hv;omega)
   have L5:=Lib.hid (show ∀b,v5.ownBlock=some b→b < w5.heap.size from fun b hv=>by
    rcases hm5 with q|⟨b',q,q3,q4⟩
    ·rw [q] at hv;have:=OFv.out b hv;have:=BW.out.size;have:=hb5.size;omega
    ·rw [q] at hv;obtain rfl:=Option.some.inj hv;exact q4)
   have G5:=Lib.hid (show Grow rdNm 1 (fun _=>False) w5 w2.heap.size 9 u9 out from (GO.out.flat (T':=fun _=>False) (fun _ _ _ _ _ h=>h)).kept rdNm_good hb5.size fun b hb hx=>ho5 b hb fun e=>by
    have:=OFv.out b e
    rcases hx with hx|hx
    ·omega
    ·exact hx)
   have Z0:=Lib.hid (Nat.le_trans BW.out.size hb5.size)
   have B5:=Lib.hid (show Below w.heap.size w w5 from (B2.out.trans (BW.out.mono B2.out.size)).trans hb5)
   have hdl:(da++db).length≤400 - out.length:=by rw [List.length_append];omega
   have R5:=Lib.hid RV5
   obtain ⟨A5,c5,rfl,n5,c5m⟩:=RV5.own
   generalize da++db=dd at *
   clear RA RB e1 e2 l1 l2 hb5 ho5 hm5 hlt9 RV5 TA TB GO HM OFv ha0
   go_wp2_with (at_builtin;refine Lib.wpList_append_run _ rfl _ _ 23 23 rfl _ _ rfl rfl _ _ hr5 ?_)
   clear hr5
   go_wp2
   go_loopg [9,89] dd.length (fun kx u9 u89 wr=>∃(k:Nat) (o2:List ByteArray),u89=.int .i64 k∧k≤dd.length∧dd.length - k≤kx∧o2.length=out.length+k∧Hid (o2=out++(dd.take k).map fun r=>r.x.e.n)∧Hid (Grow rdNm 1 (fun _=>False) wr w2.heap.size 9 u9 o2)∧Hid (RV wr (.slice A5 dd.length c5) dd)∧Hid (Off u9 (.slice A5 dd.length c5))∧Hid (∀b,(Value.slice A5 dd.length c5).ownBlock=some b→b < wr.heap.size)∧Hid (Below w.heap.size w wr)∧Hid (w2.heap.size≤wr.heap.size))
   case atStart=>exact ⟨0,out,rfl,Nat.zero_le _,Nat.le_refl _,rfl,Lib.hid (by simp),G5,R5,O5,L5,B5,Z0⟩
   case round=>
    clear G5 R5 O5 L5 B5 Z0
    obtain ⟨k,o2,rfl,hk,hkx3,hol,HO,G5,R5,O5,L5,B5,Z5⟩:=hrel
    by_cases hlt:k < dd.length
    ·have hltz:(k:Int) < (dd.length:Int):=by omega
     have hk0:(0:Int)≤(k:Int):=by omega
     obtain ⟨A0,c0,e0,-,-,hat⟩:=R5.out
     simp only [Value.slice.injEq,true_and] at e0
     obtain ⟨rfl,rfl⟩:=e0
     obtain ⟨ad,rfl,adl,hcs⟩:=hat k hlt
     have NX:=Lib.hid (show o2++[dd[k].x.e.n]=out++(dd.take (k+1)).map (fun r=>r.x.e.n) by rw [HO.out,List.take_succ_eq_append_getElem hlt,List.map_append,List.append_assoc];rfl)
     generalize dd[k]=hv at *
     obtain ⟨⟨⟨nx,vx,dx,rx,ex,px⟩,ax,hx⟩,A1x,c1x,A2x,c2x,A3x,c3x,A4x,c4x⟩:=hv
     have g0:=hcs 0 _ rfl
     simp only [Nat.add_zero] at g0
     have g1:=(show wr.cell? ⟨(ad.add (k*8)).block,(ad.add (k*8)).off+1,none⟩=some (.string vx) by rw [off_add ad (k*8) 1 (by omega)];exact hcs 1 _ rfl)
     have g2:=(show wr.cell? ⟨(ad.add (k*8)).block,(ad.add (k*8)).off+2,none⟩=some (.slice A1x dx.length c1x) by rw [off_add ad (k*8) 2 (by omega)];exact hcs 2 _ rfl)
     have g3:=(show wr.cell? ⟨(ad.add (k*8)).block,(ad.add (k*8)).off+3,none⟩=some (.slice A2x rx.length c2x) by rw [off_add ad (k*8) 3 (by omega)];exact hcs 3 _ rfl)
     have g4:=(show wr.cell? ⟨(ad.add (k*8)).block,(ad.add (k*8)).off+4,none⟩=some (.slice A3x ex.length c3x) by rw [off_add ad (k*8) 4 (by omega)];exact hcs 4 _ rfl)
     have g5:=(show wr.cell? ⟨(ad.add (k*8)).block,(ad.add (k*8)).off+5,none⟩=some (.slice A4x px.length c4x) by rw [off_add ad (k*8) 5 (by omega)];exact hcs 5 _ rfl)
     have g6:=(show wr.cell? ⟨(ad.add (k*8)).block,(ad.add (k*8)).off+6,none⟩=some (.bool ax) by rw [off_add ad (k*8) 6 (by omega)];exact hcs 6 _ rfl)
     have g7:=(show wr.cell? ⟨(ad.add (k*8)).block,(ad.add (k*8)).off+7,none⟩=some (.bool hx) by rw [off_add ad (k*8) 7 (by omega)];exact hcs 7 _ rfl)
     have NM:=Lib.hid (fun (W:World)=>name_any ⟨⟨⟨nx,vx,dx,rx,ex,px⟩,ax,hx⟩,A1x,c1x,A2x,c2x,A3x,c3x,A4x,c4x⟩ W)
     unfold HrV.cs at NM
     simp only at NM NX
     have GV:=Lib.hid (Gw.alloc wr (.cells #[.string nx,.string vx,.slice A1x dx.length c1x,.slice A2x rx.length c2x,.slice A3x ex.length c3x,.slice A4x px.length c4x,.bool ax,.bool hx] 36))
     clear hcs hat adl
     go_wp2_with fail
     refine (NM.out _).mono ?_
     rintro e w4 ⟨rfl,hg4⟩
     have GW:=Lib.hid (GV.out.trans hg4)
     have GO4:=Lib.hid (G5.out.below rdNm_good GW.out.below)
     have EY:=Lib.hid (show rdNm w4 (fun b=>False∧b < w4.heap.size∧u9.ownBlock≠some b) nx (#[.string nx]:Array Value).toList from rfl)
     have hn1:o2.length+1≤maxLen:=by unfold maxLen;omega
     have hn2:(o2.length+1)*16≤140737488355328:=by omega
     have hbs:w2.heap.size≤w4.heap.size:=Nat.le_trans Z5.out GW.out.below.size
     clear hg4
     go_wp2_with (at_builtin;refine wpList_grow1_at w4 rfl _ _ 45 rfl rdNm_good (by decide) (fun _=>False) w2.heap.size 9 fi _ 16 Tryz.underlying45 hi hz0 hz1 hz2 rfl u9 _ rfl GO4.out nx _ 9 EY.out _ rfl rfl hn1 hn2 hbs ?_)
     intro v7 w7 hG7 hg7 hm7
     have B7:=Lib.hid ((belG7 B5.out GW.out).trans (show Below w.heap.size w4 w7 from ⟨hg7.os,hg7.tape,hg7.output,hg7.size,fun b hb=>hg7.block b (by have:=(belG7 B5.out GW.out).size;omega) fun e=>by have:=(GO4.out.lt b e.symm).1;have:=B2.out.size;omega⟩))
     have R7:=Lib.hid ((R5.out.keep GW.out.below).grown hg7 fun b hb e=>O5.out b e hb)
     have L4:=Lib.hid (fun b hb=>Nat.lt_of_lt_of_le (L5.out b hb) GW.out.below.size)
     have O7:=Lib.hid (O5.out.moved L4.out hm7)
     have L7:=Lib.hid (fun b hb=>Nat.lt_of_lt_of_le (L4.out b hb) hg7.size)
     have Z7:=Lib.hid (Nat.le_trans hbs hg7.size)
     have G7:=Lib.hid hG7
     clear hG7 hg7 hm7 hn1 hn2 hbs g0 g1 g2 g3 g4 g5 g6 g7
     go_wp2
     go_roundg (dd.length - (k+1))
     case measure=>omega
     case rel=>exact ⟨k+1,o2++[nx],by go_num,by omega,Nat.le_refl _,by rw [List.length_append,List.length_singleton];omega,NX,G7,R7,O7,L7,B7,Z7⟩
    ·obtain rfl:k=dd.length:=by omega
     have F:=Lib.hid (show NmW w (tuH l m) (.returned u9) wr by
      obtain ⟨A9,c9,e9,-,-⟩:=G5.out.own
      have hr:=G5.out.read rdNm_good
      rw [e9] at hr ⊢
      have ho:o2=tuH l m:=by rw [HO.out,List.take_length,MN.out]
      rw [ho] at hr ⊢
      exact ⟨⟨_,_,_,rfl,hr⟩,B5.out⟩)
     have hltz:¬((dd.length:Int) < (dd.length:Int)):=by omega
     clear G5 R5 O5 L5 B5 MN HO
     go_wp2
     go_ret
     exact F.out
  ·rcases Nat.eq_zero_or_pos lb'.length with hb0|hb0
   ·have za:(0:Int) < (la'.length:Int):=by omega
    have zb:¬((0:Int) < (lb'.length:Int)):=by omega
    obtain ⟨da,e1,RA⟩:=rv_of TA.out.1 fun b hb=>hb
    obtain ⟨db,e2,RB⟩:=rv_of TB.out.1 fun b hb=>hb
    have l1:da.length=la'.length:=by rw [←e1,List.length_map]
    have l2:db.length=lb'.length:=by rw [←e2,List.length_map]
    have MN:=Lib.hid (show out++(da++db).map (fun r=>r.x.e.n)=tuH l m by
     rw [←HM.out,List.map_append]
     congr 1
     rcases Nat.eq_zero_or_pos la'.length with h|h
     ·obtain rfl:la'=[]:=List.eq_nil_of_length_eq_zero h
      obtain rfl:da=[]:=List.eq_nil_of_length_eq_zero (by omega)
      rw [mrg_nil_left,←e2,List.map_map];rfl
     ·obtain rfl:lb'=[]:=List.eq_nil_of_length_eq_zero (by omega)
      obtain rfl:db=[]:=List.eq_nil_of_length_eq_zero (by rw [l2];rfl)
      rw [mrg_nil_right,←e1,List.map_map,List.map_nil,List.append_nil];rfl)
    have OFv:=Lib.hid (show ∀b,(Value.slice A1 la'.length c1).ownBlock=some b→b < w2.heap.size from fun b hb=>by
     obtain ⟨A0,n0,c0,e0,s1,s2,s3,s4⟩:=TA.out.2
     simp only [Value.slice.injEq] at e0
     obtain ⟨rfl,rfl,rfl⟩:=e0
     cases A1 with
     | none=>cases hb
     | some ad=>
      obtain ⟨g,o,rfl,s5,s6,s7⟩:=s4 ad rfl
      obtain rfl:=Option.some.inj hb
      exact s6)
    obtain ⟨v5,w5,hr5,RV5,hb5,ho5,hm5⟩:=rest_run wr w.heap.size 23 _ _ da db (RA.keep BW.out) (RB.keep BW.out) ((TA.out.2).keep BW.out) (Nat.le_trans B2.out.size BW.out.size) (by
     rcases Nat.eq_zero_or_pos la'.length with h|h
     ·exact .inl (List.eq_nil_of_length_eq_zero (by omega))
     ·exact .inr (List.eq_nil_of_length_eq_zero (by omega))) (by omega)
    have hlt9:=GO.out.lt
    have O5:=Lib.hid (show Off u9 v5 from fun b hb hv=>by
     obtain ⟨q1,q2⟩:=hlt9 b hb
     rcases hm5 with q|⟨b',q,q3,q4⟩
     ·rw [q] at hv;have:=OFv.out b hv;omega
     ·rw [q] at hv;obtain rfl:=Option.some.inj hv;omega)
    have L5:=Lib.hid (show ∀b,v5.ownBlock=some b→b < w5.heap.size from fun b hv=>by
     rcases hm5 with q|⟨b',q,q3,q4⟩
     ·rw [q] at hv;have:=OFv.out b hv;have:=BW.out.size;have:=hb5.size;omega
     ·rw [q] at hv;obtain rfl:=Option.some.inj hv;exact q4)
    have G5:=Lib.hid (show Grow rdNm 1 (fun _=>False) w5 w2.heap.size 9 u9 out from (GO.out.flat (T':=fun _=>False) (fun _ _ _ _ _ h=>h)).kept rdNm_good hb5.size fun b hb hx=>ho5 b hb fun e=>by
     have:=OFv.out b e
     rcases hx with hx|hx
     ·omega
     ·exact hx)
    have Z0:=Lib.hid (Nat.le_trans BW.out.size hb5.size)
    have B5:=Lib.hid (show Below w.heap.size w w5 from (B2.out.trans (BW.out.mono B2.out.size)).trans hb5)
    have hdl:(da++db).length≤400 - out.length:=by rw [List.length_append];omega
    have R5:=Lib.hid RV5
    obtain ⟨A5,c5,rfl,n5,c5m⟩:=RV5.own
    generalize da++db=dd at *
    clear RA RB e1 e2 l1 l2 hb5 ho5 hm5 hlt9 RV5 TA TB GO HM OFv ha0 hb0
    go_wp2_with (at_builtin;refine Lib.wpList_append_run _ rfl _ _ 23 23 rfl _ _ rfl rfl _ _ hr5 ?_)
    clear hr5
    go_wp2
    go_loopg [9,89] dd.length (fun kx u9 u89 wr=>∃(k:Nat) (o2:List ByteArray),u89=.int .i64 k∧k≤dd.length∧dd.length - k≤kx∧o2.length=out.length+k∧Hid (o2=out++(dd.take k).map fun r=>r.x.e.n)∧Hid (Grow rdNm 1 (fun _=>False) wr w2.heap.size 9 u9 o2)∧Hid (RV wr (.slice A5 dd.length c5) dd)∧Hid (Off u9 (.slice A5 dd.length c5))∧Hid (∀b,(Value.slice A5 dd.length c5).ownBlock=some b→b < wr.heap.size)∧Hid (Below w.heap.size w wr)∧Hid (w2.heap.size≤wr.heap.size))
    case atStart=>exact ⟨0,out,rfl,Nat.zero_le _,Nat.le_refl _,rfl,Lib.hid (by simp),G5,R5,O5,L5,B5,Z0⟩
    case round=>
     clear G5 R5 O5 L5 B5 Z0
     obtain ⟨k,o2,rfl,hk,hkx3,hol,HO,G5,R5,O5,L5,B5,Z5⟩:=hrel
     by_cases hlt:k < dd.length
     ·have hltz:(k:Int) < (dd.length:Int):=by omega
      have hk0:(0:Int)≤(k:Int):=by omega
      obtain ⟨A0,c0,e0,-,-,hat⟩:=R5.out
      simp only [Value.slice.injEq,true_and] at e0
      obtain ⟨rfl,rfl⟩:=e0
      obtain ⟨ad,rfl,adl,hcs⟩:=hat k hlt
      have NX:=Lib.hid (show o2++[dd[k].x.e.n]=out++(dd.take (k+1)).map (fun r=>r.x.e.n) by rw [HO.out,List.take_succ_eq_append_getElem hlt,List.map_append,List.append_assoc];rfl)
      generalize dd[k]=hv at *
      obtain ⟨⟨⟨nx,vx,dx,rx,ex,px⟩,ax,hx⟩,A1x,c1x,A2x,c2x,A3x,c3x,A4x,c4x⟩:=hv
      have g0:=hcs 0 _ rfl
      simp only [Nat.add_zero] at g0
      have g1:=(show wr.cell? ⟨(ad.add (k*8)).block,(ad.add (k*8)).off+1,none⟩=some (.string vx) by rw [off_add ad (k*8) 1 (by omega)];exact hcs 1 _ rfl)
      have g2:=(show wr.cell? ⟨(ad.add (k*8)).block,(ad.add (k*8)).off+2,none⟩=some (.slice A1x dx.length c1x) by rw [off_add ad (k*8) 2 (by omega)];exact hcs 2 _ rfl)
      have g3:=(show wr.cell? ⟨(ad.add (k*8)).block,(ad.add (k*8)).off+3,none⟩=some (.slice A2x rx.length c2x) by rw [off_add ad (k*8) 3 (by omega)];exact hcs 3 _ rfl)
      have g4:=(show wr.cell? ⟨(ad.add (k*8)).block,(ad.add (k*8)).off+4,none⟩=some (.slice A3x ex.length c3x) by rw [off_add ad (k*8) 4 (by omega)];exact hcs 4 _ rfl)
      have g5:=(show wr.cell? ⟨(ad.add (k*8)).block,(ad.add (k*8)).off+5,none⟩=some (.slice A4x px.length c4x) by rw [off_add ad (k*8) 5 (by omega)];exact hcs 5 _ rfl)
      have g6:=(show wr.cell? ⟨(ad.add (k*8)).block,(ad.add (k*8)).off+6,none⟩=some (.bool ax) by rw [off_add ad (k*8) 6 (by omega)];exact hcs 6 _ rfl)
      have g7:=(show wr.cell? ⟨(ad.add (k*8)).block,(ad.add (k*8)).off+7,none⟩=some (.bool hx) by rw [off_add ad (k*8) 7 (by omega)];exact hcs 7 _ rfl)
      have NM:=Lib.hid (fun (W:World)=>name_any ⟨⟨⟨nx,vx,dx,rx,ex,px⟩,ax,hx⟩,A1x,c1x,A2x,c2x,A3x,c3x,A4x,c4x⟩ W)
      unfold HrV.cs at NM
      simp only at NM NX
      have GV:=Lib.hid (Gw.alloc wr (.cells #[.string nx,.string vx,.slice A1x dx.length c1x,.slice A2x rx.length c2x,.slice A3x ex.length c3x,.slice A4x px.length c4x,.bool ax,.bool hx] 36))
      clear hcs hat adl
      go_wp2_with fail
      refine (NM.out _).mono ?_
      rintro e w4 ⟨rfl,hg4⟩
      have GW:=Lib.hid (GV.out.trans hg4)
      have GO4:=Lib.hid (G5.out.below rdNm_good GW.out.below)
      have EY:=Lib.hid (show rdNm w4 (fun b=>False∧b < w4.heap.size∧u9.ownBlock≠some b) nx (#[.string nx]:Array Value).toList from rfl)
      have hn1:o2.length+1≤maxLen:=by unfold maxLen;omega
      have hn2:(o2.length+1)*16≤140737488355328:=by omega
      have hbs:w2.heap.size≤w4.heap.size:=Nat.le_trans Z5.out GW.out.below.size
      clear hg4
      go_wp2_with (at_builtin;refine wpList_grow1_at w4 rfl _ _ 45 rfl rdNm_good (by decide) (fun _=>False) w2.heap.size 9 fi _ 16 Tryz.underlying45 hi hz0 hz1 hz2 rfl u9 _ rfl GO4.out nx _ 9 EY.out _ rfl rfl hn1 hn2 hbs ?_)
      intro v7 w7 hG7 hg7 hm7
      have B7:=Lib.hid ((belG7 B5.out GW.out).trans (show Below w.heap.size w4 w7 from ⟨hg7.os,hg7.tape,hg7.output,hg7.size,fun b hb=>hg7.block b (by have:=(belG7 B5.out GW.out).size;omega) fun e=>by have:=(GO4.out.lt b e.symm).1;have:=B2.out.size;omega⟩))
      have R7:=Lib.hid ((R5.out.keep GW.out.below).grown hg7 fun b hb e=>O5.out b e hb)
      have L4:=Lib.hid (fun b hb=>Nat.lt_of_lt_of_le (L5.out b hb) GW.out.below.size)
      have O7:=Lib.hid (O5.out.moved L4.out hm7)
      have L7:=Lib.hid (fun b hb=>Nat.lt_of_lt_of_le (L4.out b hb) hg7.size)
      have Z7:=Lib.hid (Nat.le_trans hbs hg7.size)
      have G7:=Lib.hid hG7
      clear hG7 hg7 hm7 hn1 hn2 hbs g0 g1 g2 g3 g4 g5 g6 g7
      go_wp2
      go_roundg (dd.length - (k+1))
      case measure=>omega
      case rel=>exact ⟨k+1,o2++[nx],by go_num,by omega,Nat.le_refl _,by rw [List.length_append,List.length_singleton];omega,NX,G7,R7,O7,L7,B7,Z7⟩
     ·obtain rfl:k=dd.length:=by omega
      have F:=Lib.hid (show NmW w (tuH l m) (.returned u9) wr by
       obtain ⟨A9,c9,e9,-,-⟩:=G5.out.own
       have hr:=G5.out.read rdNm_good
       rw [e9] at hr ⊢
       have ho:o2=tuH l m:=by rw [HO.out,List.take_length,MN.out]
       rw [ho] at hr ⊢
       exact ⟨⟨_,_,_,rfl,hr⟩,B5.out⟩)
      have hltz:¬((dd.length:Int) < (dd.length:Int)):=by omega
      clear G5 R5 O5 L5 B5 MN HO
      go_wp2
      go_ret
      exact F.out
   ·obtain ⟨x,ra,rfl⟩:=List.exists_cons_of_length_pos ha0
    obtain ⟨y,rb,rfl⟩:=List.exists_cons_of_length_pos hb0
    clear ha0 hb0
    obtain ⟨ga,oa,ca,xv,ea,rfl,xa1,xa2,xa3,xa4,xa5,xa6⟩:=ts_head TA.out
    obtain ⟨gb,ob,cb,yv,eb,rfl,ya1,ya2,ya3,ya4,ya5,ya6⟩:=ts_head TB.out
    simp only [List.length_cons,Value.slice.injEq] at ea eb
    obtain ⟨rfl,-,rfl⟩:=ea
    obtain ⟨rfl,-,rfl⟩:=eb
    have bxa:=xa4.bx xa3 BW.out
    have bxb:=ya4.bx ya3 BW.out
    have KX:=Lib.hid (fun (W:World)=>name_any xv W)
    have KY:=Lib.hid (fun (W:World)=>name_any yv W)
    have KS:=Lib.hid (fun (W:World) (hb:Below w2.heap.size w2 W)=>samh_any xv yv W (xa5.to (S':=lt_ W.heap.size) (fun b hb'=>hb.block b hb') (fun b hb'=>Nat.lt_of_lt_of_le hb' hb.size)) (ya5.to (S':=lt_ W.heap.size) (fun b hb'=>hb.block b hb') (fun b hb'=>Nat.lt_of_lt_of_le hb' hb.size)))
    have KC:=Lib.hid (fun (W:World)=>(cmps_any xv.x.e.n yv.x.e.n W).mono (R':=fun e w'=>e=.returned (.int .i64 (cmpN xv.x.e.n yv.x.e.n))∧Gw W w') fun _ _ h=>⟨h.1,by rw [h.2];exact Gw.refl W⟩)
    have TA2:=Lib.hid xa6
    have TB2:=Lib.hid ya6
    have MC:=Lib.hid (mrg_cons xv.x ra yv.x rb)
    have XA:=Lib.hid (And.intro xa4 xa3)
    have YA:=Lib.hid (And.intro ya4 ya3)
    clear xa3 xa4 xa5 xa6 ya3 ya4 ya5 ya6
    obtain ⟨⟨⟨nx,vx,dx,rx,ex,px⟩,ax,hx⟩,A1x,c1x,A2x,c2x,A3x,c3x,A4x,c4x⟩:=xv
    obtain ⟨⟨⟨ny,vy,dy,ry,ey,py⟩,ay,hy⟩,A1y,c1y,A2y,c2y,A3y,c3y,A4y,c4y⟩:=yv
    have ca0:=fun n os=>bxa n os 0 _ rfl
    have ca1:=fun n os=>bxa n os 1 _ rfl
    have ca2:=fun n os=>bxa n os 2 _ rfl
    have ca3:=fun n os=>bxa n os 3 _ rfl
    have ca4:=fun n os=>bxa n os 4 _ rfl
    have ca5:=fun n os=>bxa n os 5 _ rfl
    have ca6:=fun n os=>bxa n os 6 _ rfl
    have ca7:=fun n os=>bxa n os 7 _ rfl
    have cb0:=fun n os=>bxb n os 0 _ rfl
    have cb1:=fun n os=>bxb n os 1 _ rfl
    have cb2:=fun n os=>bxb n os 2 _ rfl
    have cb3:=fun n os=>bxb n os 3 _ rfl
    have cb4:=fun n os=>bxb n os 4 _ rfl
    have cb5:=fun n os=>bxb n os 5 _ rfl
    have cb6:=fun n os=>bxb n os 6 _ rfl
    have cb7:=fun n os=>bxb n os 7 _ rfl
    clear bxa bxb
    unfold HrV.cs at *
    simp only [Nat.add_zero] at ca0 cb0 KC KS
    simp only at MC
    have k1:(1:Int)≤(ra.length:Int)+1:=by omega
    have k2:(1:Int)≤(rb.length:Int)+1:=by omega
    simp only [List.length_cons] at hkx hlo
    cases h1:Op.bytesLess nx.toList ny.toList
    ·cases h2:Op.bytesLess ny.toList nx.toList
     ·
      rw [show cmpN nx ny=0 by unfold cmpN;rw [h1,h2];rfl] at KC
      rw [h1,h2] at MC
      clear h1 h2
      simp only [Bool.false_eq_true,if_false] at MC
      go_wp2_with fail
      go_quiet_grown (first|(go_at_call 33;first|(with_reducible refine Calls.grown_of (KX.out _))|(with_reducible refine Calls.grown_of (KY.out _)))|(go_at_call 36;refine Calls.grown_of (KC.out _)))
      clear ca0 ca1 ca2 ca3 ca4 ca5 ca6 ca7 cb0 cb1 cb2 cb3 cb4 cb5 cb6 cb7 KC
      have GW3:=Lib.hid (Gw.grow wr nq osq)
      have BW3:=Lib.hid (BW.out.trans (GW3.out.below.mono BW.out.size))
      have GO3:=Lib.hid (GO.out.below rdNm_good GW3.out.below)
      generalize grow (wr.drewN nq) osq=w3 at *
      have bxa:=XA.out.1.bx XA.out.2 BW3.out
      have bxb:=YA.out.1.bx YA.out.2 BW3.out
      have ca0:=fun n os=>bxa n os 0 _ rfl
      have ca1:=fun n os=>bxa n os 1 _ rfl
      have ca2:=fun n os=>bxa n os 2 _ rfl
      have ca3:=fun n os=>bxa n os 3 _ rfl
      have ca4:=fun n os=>bxa n os 4 _ rfl
      have ca5:=fun n os=>bxa n os 5 _ rfl
      have ca6:=fun n os=>bxa n os 6 _ rfl
      have ca7:=fun n os=>bxa n os 7 _ rfl
      have cb0:=fun n os=>bxb n os 0 _ rfl
      have cb1:=fun n os=>bxb n os 1 _ rfl
      have cb2:=fun n os=>bxb n os 2 _ rfl
      have cb3:=fun n os=>bxb n os 3 _ rfl
      have cb4:=fun n os=>bxb n os 4 _ rfl
      have cb5:=fun n os=>bxb n os 5 _ rfl
      have cb6:=fun n os=>bxb n os 6 _ rfl
      have cb7:=fun n os=>bxb n os 7 _ rfl
      clear bxa bxb
      unfold HrV.cs at *
      simp only [Nat.add_zero] at ca0 cb0
      have KS3:=Lib.hid (fun n os=>KS.out (grow (w3.drewN n) os) (BW3.out.trans ((Gw.grow w3 n os).below.mono BW3.out.size)))
      clear KS XA YA
      by_cases hxy:(⟨⟨nx,vx,dx,rx,ex,px⟩,ax,hx⟩:Hr)=(⟨⟨ny,vy,dy,ry,ey,py⟩,ay,hy⟩:Hr)
      ·simp only [decide_eq_true hxy] at KS3
       have HM2:=Lib.hid (show out++mrg ra rb=tuH l m by have q:=HM.out;rw [MC.out,if_pos hxy] at q;exact q)
       clear hxy MC HM
       go_wp2_with fail
       go_quiet_grown ((go_at_call 54;refine Calls.grown_of (KS3.out _ _)))
       clear ca0 ca1 ca2 ca3 ca4 ca5 ca6 ca7 cb0 cb1 cb2 cb3 cb4 cb5 cb6 cb7 KS3
       have GW5:=Lib.hid (Gw.grow w3 nq osq)
       have BW5:=Lib.hid (BW3.out.trans (GW5.out.below.mono BW3.out.size))
       have GO5:=Lib.hid (GO3.out.below rdNm_good GW5.out.below)
       generalize grow (w3.drewN nq) osq=w5 at *
       by_cases h1c:c1=1<;>by_cases h2c:c2=1
       ·subst h1c
        obtain rfl:ra=[]:=List.eq_nil_of_length_eq_zero (by omega)
        rw [if_pos rfl] at TA2
        subst h2c
        obtain rfl:rb=[]:=List.eq_nil_of_length_eq_zero (by omega)
        rw [if_pos rfl] at TB2
        go_wp2_with fail
        go_quiet_grown (fail)
        have GW8:=Lib.hid (Gw.grow w5 nq osq)
        have BW8:=Lib.hid (BW5.out.trans (GW8.out.below.mono BW5.out.size))
        have GO8:=Lib.hid (GO5.out.below rdNm_good GW8.out.below)
        generalize grow (w5.drewN nq) osq=w8 at *
        go_wp2
        go_roundg (0+0)
        case measure=>omega
        case rel=>exact ⟨[],[],out,⟨_,_,rfl⟩,⟨_,_,rfl⟩,TA2,TB2,GO8,HM2,BW8,by first|omega|(simp only [List.length_nil];omega),by first|omega|(simp only [List.length_append,List.length_singleton,List.length_nil];omega)⟩
       ·subst h1c
        obtain rfl:ra=[]:=List.eq_nil_of_length_eq_zero (by omega)
        rw [if_pos rfl] at TA2
        rw [if_neg h2c] at TB2
        go_wp2_with fail
        go_quiet_grown (fail)
        have GW8:=Lib.hid (Gw.grow w5 nq osq)
        have BW8:=Lib.hid (BW5.out.trans (GW8.out.below.mono BW5.out.size))
        have GO8:=Lib.hid (GO5.out.below rdNm_good GW8.out.below)
        generalize grow (w5.drewN nq) osq=w8 at *
        go_wp2
        go_roundg (0+rb.length)
        case measure=>omega
        case rel=>exact ⟨[],rb,out,⟨_,_,rfl⟩,⟨_,_,rfl⟩,TA2,TB2,GO8,HM2,BW8,by first|omega|(simp only [List.length_nil];omega),by first|omega|(simp only [List.length_append,List.length_singleton,List.length_nil];omega)⟩
       ·rw [if_neg h1c] at TA2
        subst h2c
        obtain rfl:rb=[]:=List.eq_nil_of_length_eq_zero (by omega)
        rw [if_pos rfl] at TB2
        go_wp2_with fail
        go_quiet_grown (fail)
        have GW8:=Lib.hid (Gw.grow w5 nq osq)
        have BW8:=Lib.hid (BW5.out.trans (GW8.out.below.mono BW5.out.size))
        have GO8:=Lib.hid (GO5.out.below rdNm_good GW8.out.below)
        generalize grow (w5.drewN nq) osq=w8 at *
        go_wp2
        go_roundg (ra.length+0)
        case measure=>omega
        case rel=>exact ⟨ra,[],out,⟨_,_,rfl⟩,⟨_,_,rfl⟩,TA2,TB2,GO8,HM2,BW8,by first|omega|(simp only [List.length_nil];omega),by first|omega|(simp only [List.length_append,List.length_singleton,List.length_nil];omega)⟩
       ·rw [if_neg h1c] at TA2
        rw [if_neg h2c] at TB2
        go_wp2_with fail
        go_quiet_grown (fail)
        have GW8:=Lib.hid (Gw.grow w5 nq osq)
        have BW8:=Lib.hid (BW5.out.trans (GW8.out.below.mono BW5.out.size))
        have GO8:=Lib.hid (GO5.out.below rdNm_good GW8.out.below)
        generalize grow (w5.drewN nq) osq=w8 at *
        go_wp2
        go_roundg (ra.length+rb.length)
        case measure=>omega
        case rel=>exact ⟨ra,rb,out,⟨_,_,rfl⟩,⟨_,_,rfl⟩,TA2,TB2,GO8,HM2,BW8,by first|omega|(simp only [List.length_nil];omega),by first|omega|(simp only [List.length_append,List.length_singleton,List.length_nil];omega)⟩
      ·simp only [decide_eq_false hxy] at KS3
       have HM2:=Lib.hid (show (out++[nx])++mrg ra rb=tuH l m by have q:=HM.out;rw [MC.out,if_neg hxy] at q;rw [List.append_assoc];exact q)
       clear hxy MC HM
       go_wp2_with fail
       go_quiet_grown ((go_at_call 54;refine Calls.grown_of (KS3.out _ _)))
       have da0:=ca0 nq osq
       have da1:=ca1 nq osq
       have da2:=ca2 nq osq
       have da3:=ca3 nq osq
       have da4:=ca4 nq osq
       have da5:=ca5 nq osq
       have da6:=ca6 nq osq
       have da7:=ca7 nq osq
       clear ca0 ca1 ca2 ca3 ca4 ca5 ca6 ca7 cb0 cb1 cb2 cb3 cb4 cb5 cb6 cb7 KS3
       have GW5:=Lib.hid (Gw.grow w3 nq osq)
       have BW5:=Lib.hid (BW3.out.trans (GW5.out.below.mono BW3.out.size))
       have GO5:=Lib.hid (GO3.out.below rdNm_good GW5.out.below)
       generalize grow (w3.drewN nq) osq=w5 at *
       go_wp2_with fail
       refine (KX.out _).mono ?_
       rintro e w6 ⟨rfl,hg4⟩
       have BW6:=Lib.hid (BW5.out.trans (hg4.below.mono BW5.out.size))
       have GO6:=Lib.hid (GO5.out.below rdNm_good hg4.below)
       have EY:=Lib.hid (show rdNm w6 (fun b=>True∧b < w6.heap.size∧u9.ownBlock≠some b) nx (#[.string nx]:Array Value).toList from rfl)
       have hn1:out.length+1≤maxLen:=by unfold maxLen;omega
       have hn2:(out.length+1)*16≤140737488355328:=by omega
       have hbs:w2.heap.size≤w6.heap.size:=BW6.out.size
       clear hg4
       go_wp2_with (at_builtin;refine wpList_grow1 w6 rfl _ _ 45 rfl rdNm_good (by decide) (fun _=>True) w2.heap.size 9 fi _ 16 Tryz.underlying45 hi hz0 hz1 hz2 rfl u9 _ rfl GO6.out nx _ 9 EY.out _ rfl rfl hn1 hn2 hbs ?_)
       intro v7 w7 hG7 hg7
       have BW7:=Lib.hid (grow_below GO6.out hg7 BW6.out (Nat.le_refl _) hbs)
       have GO7:=Lib.hid hG7
       clear hG7 hg7 hn1 hn2 hbs
       clear da0 da1 da2 da3 da4 da5 da6 da7
       by_cases h1c:c1=1<;>by_cases h2c:c2=1
       ·subst h1c
        obtain rfl:ra=[]:=List.eq_nil_of_length_eq_zero (by omega)
        rw [if_pos rfl] at TA2
        subst h2c
        obtain rfl:rb=[]:=List.eq_nil_of_length_eq_zero (by omega)
        rw [if_pos rfl] at TB2
        go_wp2_with fail
        go_quiet_grown (fail)
        have GW8:=Lib.hid (Gw.grow w7 nq osq)
        have BW8:=Lib.hid (BW7.out.trans (GW8.out.below.mono BW7.out.size))
        have GO8:=Lib.hid (GO7.out.below rdNm_good GW8.out.below)
        generalize grow (w7.drewN nq) osq=w8 at *
        go_wp2
        go_roundg (0+0)
        case measure=>omega
        case rel=>exact ⟨[],[],(out++[nx]),⟨_,_,rfl⟩,⟨_,_,rfl⟩,TA2,TB2,GO8,HM2,BW8,by first|omega|(simp only [List.length_nil];omega),by first|omega|(simp only [List.length_append,List.length_singleton,List.length_nil];omega)⟩
       ·subst h1c
        obtain rfl:ra=[]:=List.eq_nil_of_length_eq_zero (by omega)
        rw [if_pos rfl] at TA2
        rw [if_neg h2c] at TB2
        go_wp2_with fail
        go_quiet_grown (fail)
        have GW8:=Lib.hid (Gw.grow w7 nq osq)
        have BW8:=Lib.hid (BW7.out.trans (GW8.out.below.mono BW7.out.size))
        have GO8:=Lib.hid (GO7.out.below rdNm_good GW8.out.below)
        generalize grow (w7.drewN nq) osq=w8 at *
        go_wp2
        go_roundg (0+rb.length)
        case measure=>omega
        case rel=>exact ⟨[],rb,(out++[nx]),⟨_,_,rfl⟩,⟨_,_,rfl⟩,TA2,TB2,GO8,HM2,BW8,by first|omega|(simp only [List.length_nil];omega),by first|omega|(simp only [List.length_append,List.length_singleton,List.length_nil];omega)⟩
       ·rw [if_neg h1c] at TA2
        subst h2c
        obtain rfl:rb=[]:=List.eq_nil_of_length_eq_zero (by omega)
        rw [if_pos rfl] at TB2
        go_wp2_with fail
        go_quiet_grown (fail)
        have GW8:=Lib.hid (Gw.grow w7 nq osq)
        have BW8:=Lib.hid (BW7.out.trans (GW8.out.below.mono BW7.out.size))
        have GO8:=Lib.hid (GO7.out.below rdNm_good GW8.out.below)
        generalize grow (w7.drewN nq) osq=w8 at *
        go_wp2
        go_roundg (ra.length+0)
        case measure=>omega
        case rel=>exact ⟨ra,[],(out++[nx]),⟨_,_,rfl⟩,⟨_,_,rfl⟩,TA2,TB2,GO8,HM2,BW8,by first|omega|(simp only [List.length_nil];omega),by first|omega|(simp only [List.length_append,List.length_singleton,List.length_nil];omega)⟩
       ·rw [if_neg h1c] at TA2
        rw [if_neg h2c] at TB2
        go_wp2_with fail
        go_quiet_grown (fail)
        have GW8:=Lib.hid (Gw.grow w7 nq osq)
        have BW8:=Lib.hid (BW7.out.trans (GW8.out.below.mono BW7.out.size))
        have GO8:=Lib.hid (GO7.out.below rdNm_good GW8.out.below)
        generalize grow (w7.drewN nq) osq=w8 at *
        go_wp2
        go_roundg (ra.length+rb.length)
        case measure=>omega
        case rel=>exact ⟨ra,rb,(out++[nx]),⟨_,_,rfl⟩,⟨_,_,rfl⟩,TA2,TB2,GO8,HM2,BW8,by first|omega|(simp only [List.length_nil];omega),by first|omega|(simp only [List.length_append,List.length_singleton,List.length_nil];omega)⟩
     ·
      rw [show cmpN nx ny=1 by unfold cmpN;rw [h1,h2];rfl] at KC
      rw [h1,h2] at MC
      clear h1 h2
      go_wp2_with fail
      go_quiet_grown (first|(go_at_call 33;first|(with_reducible refine Calls.grown_of (KX.out _))|(with_reducible refine Calls.grown_of (KY.out _)))|(go_at_call 36;refine Calls.grown_of (KC.out _)))
      have db0:=cb0 nq osq
      have db1:=cb1 nq osq
      have db2:=cb2 nq osq
      have db3:=cb3 nq osq
      have db4:=cb4 nq osq
      have db5:=cb5 nq osq
      have db6:=cb6 nq osq
      have db7:=cb7 nq osq
      clear ca0 ca1 ca2 ca3 ca4 ca5 ca6 ca7 cb0 cb1 cb2 cb3 cb4 cb5 cb6 cb7
      have GW3:=Lib.hid (Gw.grow wr nq osq)
      have BW3:=Lib.hid (BW.out.trans (GW3.out.below.mono BW.out.size))
      have GO3:=Lib.hid (GO.out.below rdNm_good GW3.out.below)
      generalize grow (wr.drewN nq) osq=w3 at *
      go_wp2_with fail
      refine (KY.out _).mono ?_
      rintro e w4 ⟨rfl,hg4⟩
      have BW4:=Lib.hid (BW3.out.trans (hg4.below.mono BW3.out.size))
      have GO4:=Lib.hid (GO3.out.below rdNm_good hg4.below)
      have EY:=Lib.hid (show rdNm w4 (fun b=>True∧b < w4.heap.size∧u9.ownBlock≠some b) ny (#[.string ny]:Array Value).toList from rfl)
      have hn1:out.length+1≤maxLen:=by unfold maxLen;omega
      have hn2:(out.length+1)*16≤140737488355328:=by omega
      have hbs:w2.heap.size≤w4.heap.size:=BW4.out.size
      clear hg4
      go_wp2_with (at_builtin;refine wpList_grow1 w4 rfl _ _ 45 rfl rdNm_good (by decide) (fun _=>True) w2.heap.size 9 fi _ 16 Tryz.underlying45 hi hz0 hz1 hz2 rfl u9 _ rfl GO4.out ny _ 9 EY.out _ rfl rfl hn1 hn2 hbs ?_)
      intro v7 w7 hG7 hg7
      have BW7:=Lib.hid (grow_below GO4.out hg7 BW4.out (Nat.le_refl _) hbs)
      have GO7:=Lib.hid hG7
      clear hG7 hg7 hn1 hn2 hbs
      clear db0 db1 db2 db3 db4 db5 db6 db7
      by_cases hc:c2=1
      ·subst hc
       obtain rfl:rb=[]:=List.eq_nil_of_length_eq_zero (by omega)
       rw [if_pos rfl] at TB2
       go_wp2
       go_roundg (ra.length+1+0)
       case measure=>omega
       case rel=>exact ⟨_::ra,[],out++[ny],⟨_,_,rfl⟩,⟨_,_,rfl⟩,TA,TB2,GO7,Lib.hid (by have q:=HM.out;rw [MC.out] at q;simpa using q),BW7,by simp only [List.length_cons];omega,by simp only [List.length_cons,List.length_append,List.length_singleton,List.length_nil];omega⟩
      ·rw [if_neg hc] at TB2
       go_wp2
       go_roundg (ra.length+1+rb.length)
       case measure=>omega
       case rel=>exact ⟨_::ra,rb,out++[ny],⟨_,_,rfl⟩,⟨_,_,rfl⟩,TA,TB2,GO7,Lib.hid (by have q:=HM.out;rw [MC.out] at q;simpa using q),BW7,by simp only [List.length_cons];omega,by simp only [List.length_cons,List.length_append,List.length_singleton,List.length_nil];omega⟩
    ·
     rw [show cmpN nx ny=-1 by unfold cmpN;rw [h1];rfl] at KC
     rw [h1] at MC
     clear h1
     go_wp2_with fail
     go_quiet_grown (first|(go_at_call 33;first|(with_reducible refine Calls.grown_of (KX.out _))|(with_reducible refine Calls.grown_of (KY.out _)))|(go_at_call 36;refine Calls.grown_of (KC.out _)))
     have da0:=ca0 nq osq
     have da1:=ca1 nq osq
     have da2:=ca2 nq osq
     have da3:=ca3 nq osq
     have da4:=ca4 nq osq
     have da5:=ca5 nq osq
     have da6:=ca6 nq osq
     have da7:=ca7 nq osq
     clear ca0 ca1 ca2 ca3 ca4 ca5 ca6 ca7 cb0 cb1 cb2 cb3 cb4 cb5 cb6 cb7
     have GW3:=Lib.hid (Gw.grow wr nq osq)
     have BW3:=Lib.hid (BW.out.trans (GW3.out.below.mono BW.out.size))
     have GO3:=Lib.hid (GO.out.below rdNm_good GW3.out.below)
     generalize grow (wr.drewN nq) osq=w3 at *
     go_wp2_with fail
     refine (KX.out _).mono ?_
     rintro e w4 ⟨rfl,hg4⟩
     have BW4:=Lib.hid (BW3.out.trans (hg4.below.mono BW3.out.size))
     have GO4:=Lib.hid (GO3.out.below rdNm_good hg4.below)
     have EY:=Lib.hid (show rdNm w4 (fun b=>True∧b < w4.heap.size∧u9.ownBlock≠some b) nx (#[.string nx]:Array Value).toList from rfl)
     have hn1:out.length+1≤maxLen:=by unfold maxLen;omega
     have hn2:(out.length+1)*16≤140737488355328:=by omega
     have hbs:w2.heap.size≤w4.heap.size:=BW4.out.size
     clear hg4
     go_wp2_with (at_builtin;refine wpList_grow1 w4 rfl _ _ 45 rfl rdNm_good (by decide) (fun _=>True) w2.heap.size 9 fi _ 16 Tryz.underlying45 hi hz0 hz1 hz2 rfl u9 _ rfl GO4.out nx _ 9 EY.out _ rfl rfl hn1 hn2 hbs ?_)
     intro v7 w7 hG7 hg7
     have BW7:=Lib.hid (grow_below GO4.out hg7 BW4.out (Nat.le_refl _) hbs)
     have GO7:=Lib.hid hG7
     clear hG7 hg7 hn1 hn2 hbs
     clear da0 da1 da2 da3 da4 da5 da6 da7
     by_cases hc:c1=1
     ·subst hc
      obtain rfl:ra=[]:=List.eq_nil_of_length_eq_zero (by omega)
      rw [if_pos rfl] at TA2
      go_wp2
      go_roundg (0+(rb.length+1))
      case measure=>omega
      case rel=>exact ⟨[],_::rb,out++[nx],⟨_,_,rfl⟩,⟨_,_,rfl⟩,TA2,TB,GO7,Lib.hid (by have q:=HM.out;rw [MC.out] at q;simpa using q),BW7,by simp only [List.length_cons];omega,by simp only [List.length_cons,List.length_append,List.length_singleton,List.length_nil];omega⟩
     ·rw [if_neg hc] at TA2
      go_wp2
      go_roundg (ra.length+(rb.length+1))
      case measure=>omega
      case rel=>exact ⟨ra,_::rb,out++[nx],⟨_,_,rfl⟩,⟨_,_,rfl⟩,TA2,TB,GO7,Lib.hid (by have q:=HM.out;rw [MC.out] at q;simpa using q),BW7,by simp only [List.length_cons];omega,by simp only [List.length_cons,List.length_append,List.length_singleton,List.length_nil];omega⟩
end Go.Proofs.YtboinnjncaehkaaGreatDoor
namespace Go.Proofs.YtboinnjncaehkaaGreatDoor
open Go.RowKit
structure Sgn (w:World):Prop where
 s0:w.cell? ⟨0,0,none⟩=some (.string { data:=#[60,60] })
 s1:w.cell? ⟨0,1,none⟩=some (.string { data:=#[60,61] })
 s2:w.cell? ⟨0,2,none⟩=some (.string { data:=#[61] })
 s3:w.cell? ⟨0,3,none⟩=some (.string { data:=#[62,61] })
 s4:w.cell? ⟨0,4,none⟩=some (.string { data:=#[62,62] })
theorem Sgn.below {w w':World} (E:Sgn w) (h:Below w.heap.size w w'):Sgn w':=by
 obtain ⟨h0,h1,h2,h3,h4⟩:=E
 exact ⟨by rw [h.cell (World.block_lt_of_cell? _ _ h0)];exact h0,by rw [h.cell (World.block_lt_of_cell? _ _ h1)];exact h1,by rw [h.cell (World.block_lt_of_cell? _ _ h2)];exact h2,by rw [h.cell (World.block_lt_of_cell? _ _ h3)];exact h3,by rw [h.cell (World.block_lt_of_cell? _ _ h4)];exact h4⟩
theorem signL_out {op:Int} (h:op < 1∨5 < op):signL op=[]:=by
 unfold signL
 rw [if_neg (by omega),if_neg (by omega),if_neg (by omega),if_neg (by omega),if_neg (by omega)]
theorem rsign_any (op:Int) (w:World) (E:Sgn w):Calls Tryz.prog 132 #[.int .i64 op] w fun e w'=>e=.returned (.string (mk (signL op)))∧w=w':=by
 obtain ⟨c0,c1,c2,c3,c4⟩:=E
 by_cases h:op < 1∨5 < op
 ·have X:=Lib.hid (signL_out h)
  by_cases h1:op < 1
  ·clear h
   go_enter Tryz.func132,Tryz.ntmps132
   go_wp2
   go_ret
   exact ⟨by rw [X.out];rfl,rfl⟩
  ·have h2:5 < op:=by omega
   clear h
   go_enter Tryz.func132,Tryz.ntmps132
   go_wp2
   go_ret
   exact ⟨by rw [X.out];rfl,rfl⟩
 ·have:op=1∨op=2∨op=3∨op=4∨op=5:=by omega
  clear h
  rcases this with rfl|rfl|rfl|rfl|rfl
  all_goals
   go_enter Tryz.func132,Tryz.ntmps132
   go_wp2
   go_ret
   exact ⟨rfl,rfl⟩
theorem sEq (s:ByteArray) (l:List Nat) (hl:∀c ∈ l,c < 256):(s.toList==(mk l).toList)=decide (B s=l):=by
 have h:=strEq l s hl
 rw [Bool.eq_iff_iff] at h ⊢
 simp only [beq_iff_eq,decide_eq_true_eq] at h ⊢
 exact ⟨fun e=>(h.1 e.symm).symm,fun e=>(h.2 e.symm).symm⟩
theorem sEqL (s:ByteArray) (m:List UInt8) (l:List Nat) (e:m=l.map UInt8.ofNat) (hl:∀c ∈ l,c < 256):(s.toList==m)=decide (B s=l):=by
 rw [←sEq s l hl,toList_data (mk l),e];rfl
theorem rop_any (s:ByteArray) (w:World) (E:Sgn w):Calls Tryz.prog 257 #[.string s] w fun e w'=>e=.returned (.tuple #[.int .i64 (opI (B s)),.bool (decide (opI (B s)≠0))])∧w=w':=by
 obtain ⟨c0,c1,c2,c3,c4⟩:=E
 have q0:(s.toList==[60,60])=decide (B s=[60,60]):=sEqL s [60,60] [60,60] rfl (by decide)
 have q1:(s.toList==[60,61])=decide (B s=[60,61]):=sEqL s [60,61] [60,61] rfl (by decide)
 have q2:(s.toList==[61])=decide (B s=[61]):=sEqL s [61] [61] rfl (by decide)
 have q3:(s.toList==[62,61])=decide (B s=[62,61]):=sEqL s [62,61] [62,61] rfl (by decide)
 have q4:(s.toList==[62,62])=decide (B s=[62,62]):=sEqL s [62,62] [62,62] rfl (by decide)
 have X:=Lib.hid (show opI (B s)=if B s=[60,60] then 1 else if B s=[60,61] then 2 else if B s=[61] then 3 else if B s=[62,61] then 4 else if B s=[62,62] then 5 else 0 from rfl)
 generalize B s=b at *
 have five:∀r:Int,opI b=r→(r=1∧decide (b=[60,60])=true∨r=2∧decide (b=[60,60])=false∧decide (b=[60,61])=true∨r=3∧decide (b=[60,60])=false∧decide (b=[60,61])=false∧decide (b=[61])=true∨
   r=4∧decide (b=[60,60])=false∧decide (b=[60,61])=false∧decide (b=[61])=false∧decide (b=[62,61])=true∨r=5∧decide (b=[60,60])=false∧decide (b=[60,61])=false∧decide (b=[61])=false∧decide (b=[62,61])=false∧decide (b=[62,62])=true∨
   r=0∧decide (b=[60,60])=false∧decide (b=[60,61])=false∧decide (b=[61])=false∧decide (b=[62,61])=false∧decide (b=[62,62])=false):=by
  intro r hr
  rw [X.out] at hr
  simp only [decide_eq_true_eq,decide_eq_false_iff_not]
  repeat' split at hr
  all_goals simp_all
 obtain ⟨r,hr⟩:∃r,opI b=r:=⟨_,rfl⟩
 have h5:=five r hr
 rw [hr]
 clear X five hr
 have i0:∀w,(Instr.index 207 (.agg #[.string { data:=#[60,60] },.string { data:=#[60,61] },.string { data:=#[61] },.string { data:=#[62,61] },.string { data:=#[62,62] }]) (.int .i64 0)).run Tryz.prog w=.ok (.string { data:=#[60,60] }) w:=fun _=>by kernel_rfl
 have i1:∀w,(Instr.index 207 (.agg #[.string { data:=#[60,60] },.string { data:=#[60,61] },.string { data:=#[61] },.string { data:=#[62,61] },.string { data:=#[62,62] }]) (.int .i64 1)).run Tryz.prog w=.ok (.string { data:=#[60,61] }) w:=fun _=>by kernel_rfl
 have i2:∀w,(Instr.index 207 (.agg #[.string { data:=#[60,60] },.string { data:=#[60,61] },.string { data:=#[61] },.string { data:=#[62,61] },.string { data:=#[62,62] }]) (.int .i64 2)).run Tryz.prog w=.ok (.string { data:=#[61] }) w:=fun _=>by kernel_rfl
 have i3:∀w,(Instr.index 207 (.agg #[.string { data:=#[60,60] },.string { data:=#[60,61] },.string { data:=#[61] },.string { data:=#[62,61] },.string { data:=#[62,62] }]) (.int .i64 3)).run Tryz.prog w=.ok (.string { data:=#[62,61] }) w:=fun _=>by kernel_rfl
 have i4:∀w,(Instr.index 207 (.agg #[.string { data:=#[60,60] },.string { data:=#[60,61] },.string { data:=#[61] },.string { data:=#[62,61] },.string { data:=#[62,62] }]) (.int .i64 4)).run Tryz.prog w=.ok (.string { data:=#[62,62] }) w:=fun _=>by kernel_rfl
 rcases h5 with ⟨rfl,a0⟩|⟨rfl,a0,a1⟩|⟨rfl,a0,a1,a2⟩|⟨rfl,a0,a1,a2,a3⟩|⟨rfl,a0,a1,a2,a3,a4⟩|⟨rfl,a0,a1,a2,a3,a4⟩
 ·rw [a0] at q0
  clear a0
  go_enter Tryz.func257,Tryz.ntmps257
  go_wp2
  go_loop [7] (fun x=>∃k:Nat,k≤0∧x=.int .i64 k) (fun x=>5 - (intOf x).toNat)
  case atStart=>exact ⟨0,Nat.zero_le _,rfl⟩
  case round=>
   obtain ⟨k,hk,rfl⟩:=hrel
   have hk':k=0:=by omega
   clear hk
   obtain rfl:=hk'
   ·go_wp2
    go_ret2
    exact ⟨rfl,rfl⟩
 ·rw [a0] at q0
  rw [a1] at q1
  clear a0 a1
  go_enter Tryz.func257,Tryz.ntmps257
  go_wp2
  go_loop [7] (fun x=>∃k:Nat,k≤1∧x=.int .i64 k) (fun x=>5 - (intOf x).toNat)
  case atStart=>exact ⟨0,Nat.zero_le _,rfl⟩
  case round=>
   obtain ⟨k,hk,rfl⟩:=hrel
   have hk':k=0∨k=1:=by omega
   clear hk
   rcases hk' with rfl|rfl
   ·go_wp2
    go_round
    case rel=>exact ⟨1,by omega,by go_num⟩
    case measure=>simp [intOf]
   ·go_wp2
    go_ret2
    exact ⟨rfl,rfl⟩
 ·rw [a0] at q0
  rw [a1] at q1
  rw [a2] at q2
  clear a0 a1 a2
  go_enter Tryz.func257,Tryz.ntmps257
  go_wp2
  go_loop [7] (fun x=>∃k:Nat,k≤2∧x=.int .i64 k) (fun x=>5 - (intOf x).toNat)
  case atStart=>exact ⟨0,Nat.zero_le _,rfl⟩
  case round=>
   obtain ⟨k,hk,rfl⟩:=hrel
   have hk':k=0∨k=1∨k=2:=by omega
   clear hk
   rcases hk' with rfl|rfl|rfl
   ·go_wp2
    go_round
    case rel=>exact ⟨1,by omega,by go_num⟩
    case measure=>simp [intOf]
   ·go_wp2
    go_round
    case rel=>exact ⟨2,by omega,by go_num⟩
    case measure=>simp [intOf]
   ·go_wp2
    go_ret2
    exact ⟨rfl,rfl⟩
 ·rw [a0] at q0
  rw [a1] at q1
  rw [a2] at q2
  rw [a3] at q3
  clear a0 a1 a2 a3
  go_enter Tryz.func257,Tryz.ntmps257
  go_wp2
  go_loop [7] (fun x=>∃k:Nat,k≤3∧x=.int .i64 k) (fun x=>5 - (intOf x).toNat)
  case atStart=>exact ⟨0,Nat.zero_le _,rfl⟩
  case round=>
   obtain ⟨k,hk,rfl⟩:=hrel
   have hk':k=0∨k=1∨k=2∨k=3:=by omega
   clear hk
   rcases hk' with rfl|rfl|rfl|rfl
   ·go_wp2
    go_round
    case rel=>exact ⟨1,by omega,by go_num⟩
    case measure=>simp [intOf]
   ·go_wp2
    go_round
    case rel=>exact ⟨2,by omega,by go_num⟩
    case measure=>simp [intOf]
   ·go_wp2
    go_round
    case rel=>exact ⟨3,by omega,by go_num⟩
    case measure=>simp [intOf]
   ·go_wp2
    go_ret2
    exact ⟨rfl,rfl⟩
 ·rw [a0] at q0
  rw [a1] at q1
  rw [a2] at q2
  rw [a3] at q3
  rw [a4] at q4
  clear a0 a1 a2 a3 a4
  go_enter Tryz.func257,Tryz.ntmps257
  go_wp2
  go_loop [7] (fun x=>∃k:Nat,k≤4∧x=.int .i64 k) (fun x=>5 - (intOf x).toNat)
  case atStart=>exact ⟨0,Nat.zero_le _,rfl⟩
  case round=>
   obtain ⟨k,hk,rfl⟩:=hrel
   have hk':k=0∨k=1∨k=2∨k=3∨k=4:=by omega
   clear hk
   rcases hk' with rfl|rfl|rfl|rfl|rfl
   ·go_wp2
    go_round
    case rel=>exact ⟨1,by omega,by go_num⟩
    case measure=>simp [intOf]
   ·go_wp2
    go_round
    case rel=>exact ⟨2,by omega,by go_num⟩
    case measure=>simp [intOf]
   ·go_wp2
    go_round
    case rel=>exact ⟨3,by omega,by go_num⟩
    case measure=>simp [intOf]
   ·go_wp2
    go_round
    case rel=>exact ⟨4,by omega,by go_num⟩
    case measure=>simp [intOf]
   ·go_wp2
    go_ret2
    exact ⟨rfl,rfl⟩
 ·rw [a0] at q0
  rw [a1] at q1
  rw [a2] at q2
  rw [a3] at q3
  rw [a4] at q4
  clear a0 a1 a2 a3 a4
  go_enter Tryz.func257,Tryz.ntmps257
  go_wp2
  go_loop [7] (fun x=>∃k:Nat,k≤5∧x=.int .i64 k) (fun x=>5 - (intOf x).toNat)
  case atStart=>exact ⟨0,Nat.zero_le _,rfl⟩
  case round=>
   obtain ⟨k,hk,rfl⟩:=hrel
   have hk':k=0∨k=1∨k=2∨k=3∨k=4∨k=5:=by omega
   clear hk
   rcases hk' with rfl|rfl|rfl|rfl|rfl|rfl
   ·go_wp2
    go_round
    case rel=>exact ⟨1,by omega,by go_num⟩
    case measure=>simp [intOf]
   ·go_wp2
    go_round
    case rel=>exact ⟨2,by omega,by go_num⟩
    case measure=>simp [intOf]
   ·go_wp2
    go_round
    case rel=>exact ⟨3,by omega,by go_num⟩
    case measure=>simp [intOf]
   ·go_wp2
    go_round
    case rel=>exact ⟨4,by omega,by go_num⟩
    case measure=>simp [intOf]
   ·go_wp2
    go_round
    case rel=>exact ⟨5,by omega,by go_num⟩
    case measure=>simp [intOf]
   ·go_wp2
    go_ret2
    exact ⟨rfl,rfl⟩
end Go.Proofs.YtboinnjncaehkaaGreatDoor
