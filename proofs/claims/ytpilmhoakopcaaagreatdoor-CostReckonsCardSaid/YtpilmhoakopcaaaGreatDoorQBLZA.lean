/- What the laws rest on: E9f. -/
import Derived.Test.YtpilmhoakopcaaaGreatDoorQAFZA
import Derived.Test.YtpilmhoakopcaaaGreatDoorQBKZA
set_option maxRecDepth 100000
set_option linter.unusedVariables false
set_option linter.unusedSimpArgs false
namespace Go.Proofs.YtpilmhoakopcaaaGreatDoor
open Go.RowKit Go.Sort
theorem EntV.six9 {w:World} {S:Nat→Prop} {x:Ent} {A1 A2 A3 A4:Option Addr} {c1 c2 c3 c4:Nat} (h:EntV w S x A1 c1 A2 c2 A3 c3 A4 c4):rdEnt w S x (#[.string x.n,.string x.v,.slice A1 x.d.length c1,.slice A2 x.r.length c2,.slice A3 x.c.length c3,.slice A4 x.p.length c4]:Array Value).toList:=
 ⟨_,_,_,_,rfl,h.d,h.r,h.c,h.p⟩
theorem UR.put9 {w V w7:World} {b:Nat} {l':List Ent} {m:List Hr} {A' A7:Option Addr} {c' c7:Nat} (hb:b < w.heap.size) (B:Below w.heap.size w V) (h1:w.cell? ⟨b,1,none⟩=some (.slice A' m.length c')) (hf:w.frozen? ⟨b,0,none⟩=false) (h0:(w7.cell? ⟨b,0,none⟩).isSome=true) (h4:rdHrs w (fun k=>k < w.heap.size∧k≠b) m [.slice A' m.length c'])
  (E:Below V.heap.size V w7∧rdEnts w7 (fun c=>c < w7.heap.size∧c≠b) l' [.slice A7 l'.length c7]) :
  UR (w7.setCell ⟨b,0,none⟩ (.slice A7 l'.length c7)) b l' m∧w.grownBy (w7.setCell ⟨b,0,none⟩ (.slice A7 l'.length c7)) (some b)∧(w7.setCell ⟨b,0,none⟩ (.slice A7 l'.length c7)).frozen? ⟨b,0,none⟩=false:=by
 have B7:=bel_in B E.1
 have hsz:(w7.setCell ⟨b,0,none⟩ (.slice A7 l'.length c7)).heap.size=w7.heap.size:=by simp [World.setCell]
 have hk:∀k,k≠b→(w7.setCell ⟨b,0,none⟩ (.slice A7 l'.length c7)).heap[k]?=w7.heap[k]?:=fun k h=>Below.heap_setCell _ _ _ _ h
 refine ⟨⟨A7,c7,A',c',World.cell?_setCell_same' _ _ _ h0,?_,rdEnts_good.both E.2 (fun k h=>hk k h.2) (fun k h=>⟨by rw [hsz];exact h.1,h.2⟩),rdHrs_good.both h4 (fun k h=>(hk k h.2).trans (B7.block k h.1)) (fun k h=>⟨by rw [hsz];exact Nat.lt_of_lt_of_le h.1 B7.size,h.2⟩)⟩,⟨B7.os,B7.tape,B7.output,by rw [hsz];exact B7.size,fun k h hne=>(hk k (fun e=>hne (by rw [e]))).trans (B7.block k h)⟩,?_⟩
 ·rw [World.cell?_setCell_other _ _ _ _ (by intro e;cases e)]
  exact keep6 B7 h1
 ·rw [World.frozen?_setCell]
  exact (World.frozen?_of_block (B7.block b hb)).trans hf
theorem putU_split {l:List Ent} {x:Ent} {k:Nat} (h:l.takeWhile (fun y=>lesB y x)=l.take k∧l.dropWhile (fun y=>lesB y x)=l.drop k):putU l x=l.take k++[x]++l.drop k:=by
 unfold putU
 rw [h.1,h.2,List.append_assoc,List.singleton_append]
set_option maxHeartbeats 16000000 in
theorem q9put_any (b:Nat) (l:List Ent) (m:List Hr) (x:Ent) (A1:Option Addr) (c1:Nat) (A2:Option Addr) (c2:Nat) (A3:Option Addr) (c3:Nat) (A4:Option Addr) (c4:Nat) (w:World) (h:UR w b l m) (hf:w.frozen? ⟨b,0,none⟩=false) (hx:EntV w (fun k=>k < w.heap.size∧k≠b) x A1 c1 A2 c2 A3 c3 A4 c4) (hl:l.length≤200) :
  Calls Tryz.prog 39 #[.pointer (some ⟨b,0,none⟩),x.val A1 c1 A2 c2 A3 c3 A4 c4] w fun e w'=>e=.returned (.tuple #[])∧UR w' b (putU l x) m∧w.grownBy w' (some b)∧w'.frozen? ⟨b,0,none⟩=false:=by
 have mixed:Tryz.prog.follows .mixedOrders=true:=by kernel_rfl
 obtain ⟨n,v,d,r,cc,p⟩:=x
 obtain ⟨wi,hwi⟩:∃wi,wi=putU l ⟨n,v,d,r,cc,p⟩:=⟨_,rfl⟩
 rw [←hwi]
 have HW:=Lib.hid hwi
 clear hwi
 have HX:=Lib.hid hx
 obtain ⟨w1,hw1⟩:∃W,W=w.alloc (.cells #[.string n,.string v,.slice A1 d.length c1,.slice A2 r.length c2,.slice A3 cc.length c3,.slice A4 p.length c4] 60):=⟨_,rfl⟩
 have hb1:Below w.heap.size w w1:=by rw [hw1];exact (Below.refl _ w).alloc (Nat.le_refl _) _
 have B1:=Lib.hid hb1
 have hc1:(show World→Prop from fun W=>W.cell? ⟨w.heap.size,0,none⟩=some (.string n)∧W.cell? ⟨w.heap.size,1,none⟩=some (.string v)∧W.cell? ⟨w.heap.size,2,none⟩=some (.slice A1 d.length c1)∧W.cell? ⟨w.heap.size,3,none⟩=some (.slice A2 r.length c2)∧W.cell? ⟨w.heap.size,4,none⟩=some (.slice A3 cc.length c3)∧W.cell? ⟨w.heap.size,5,none⟩=some (.slice A4 p.length c4)) w1:=by rw [hw1];refine ⟨?_,?_,?_,?_,?_,?_⟩<;>simp [go_sem]
 have KC:=Lib.hid (fun (W:World) (hb:Below w1.heap.size w1 W)=>(show W.cell? ⟨w.heap.size,0,none⟩=some (.string n)∧W.cell? ⟨w.heap.size,1,none⟩=some (.string v)∧W.cell? ⟨w.heap.size,2,none⟩=some (.slice A1 d.length c1)∧W.cell? ⟨w.heap.size,3,none⟩=some (.slice A2 r.length c2)∧W.cell? ⟨w.heap.size,4,none⟩=some (.slice A3 cc.length c3)∧W.cell? ⟨w.heap.size,5,none⟩=some (.slice A4 p.length c4) from by
  obtain ⟨k0,k1,k2,k3,k4,k5⟩:=hc1
  exact ⟨keep6 hb k0,keep6 hb k1,keep6 hb k2,keep6 hb k3,keep6 hb k4,keep6 hb k5⟩))
 obtain ⟨A,c,A',c',h1,h2,h3,h4⟩:=h
 have HBW:=Lib.hid (block_lt_of_cell h1)
 obtain ⟨-,hnc,hcm,hat⟩:=rdEnts_at h3
 have hcm':c≤9223372036854775807:=hcm
 have HAT:=Lib.hid hat
 have H1:=Lib.hid h1
 have H2:=Lib.hid h2
 have H3:=Lib.hid h3
 have H4:=Lib.hid h4
 have HF:=Lib.hid hf
 have KL:=Lib.hid (fun (y:Ent) (A1y:Option Addr) (c1y:Nat) (A2y:Option Addr) (c2y:Nat) (A3y:Option Addr) (c3y:Nat) (A4y:Option Addr) (c4y:Nat) (W:World)=>q6less_any y ⟨n,v,d,r,cc,p⟩ A1y c1y A2y c2y A3y c3y A4y c4y A1 c1 A2 c2 A3 c3 A4 c4 W)
 have KC4:=Lib.hid (fun (W:World) (hb:Below w1.heap.size w1 W)=>(show (W.cell? ⟨b,0,none⟩=some (.slice A l.length c)∧W.frozen? ⟨b,0,none⟩=false)∧W.cell? ⟨w.heap.size,0,none⟩=some (.string n)∧W.cell? ⟨w.heap.size,1,none⟩=some (.string v)∧W.cell? ⟨w.heap.size,2,none⟩=some (.slice A1 d.length c1)∧W.cell? ⟨w.heap.size,3,none⟩=some (.slice A2 r.length c2)∧W.cell? ⟨w.heap.size,4,none⟩=some (.slice A3 cc.length c3)∧W.cell? ⟨w.heap.size,5,none⟩=some (.slice A4 p.length c4) from
  ⟨⟨keep6 (bel_in B1.out hb) H1.out,(World.frozen?_of_block ((bel_in B1.out hb).block b HBW.out)).trans HF.out⟩,KC.out W hb⟩))
 obtain ⟨fi,hi,hz0,hz1,hz2⟩:=info_parts ent9_info
 clear hat h1 h2 h3 h4 hx hcm hb1 hc1 hf
 show Calls Tryz.prog 39 #[.pointer (some ⟨b,0,none⟩),.agg #[.string n,.string v,.slice A1 d.length c1,.slice A2 r.length c2,.slice A3 cc.length c3,.slice A4 p.length c4]] w _
 go_enter Tryz.func39,Tryz.ntmps39
 go_wp2_with fail
 rw [←hw1]
 clear hw1
 go_wp2
 go_loopw [4] (fun i wr=>∃k:Nat,k≤l.length∧i=.int .i64 k∧Hid (l.takeWhile (fun y=>lesB y ⟨n,v,d,r,cc,p⟩)=l.take k++(l.drop k).takeWhile (fun y=>lesB y ⟨n,v,d,r,cc,p⟩))∧Below w1.heap.size w1 wr) (fun i _=>l.length - (intOf i).toNat)
 case atStart=>exact ⟨0,Nat.zero_le _,rfl,Lib.hid rfl,Below.refl _ _⟩
 case round=>
  obtain ⟨k,hk,rfl,HT,hbel⟩:=hrel
  have HB:=Lib.hid hbel
  clear hbel
  have hkc:k≤c:=Nat.le_trans hk hnc
  have b0:=fun dd os=>cell_regrown (w:=wr) (keep6 (bel_in B1.out HB.out) H1.out) dd os
  have x0:=fun dd os=>cell_regrown (w:=wr) (show wr.cell? ⟨w.heap.size,0,none⟩=some (.string n) from (KC.out wr HB.out).1) dd os
  have x1:=fun dd os=>cell_regrown (w:=wr) (show wr.cell? ⟨w.heap.size,1,none⟩=some (.string v) from (KC.out wr HB.out).2.1) dd os
  have x2:=fun dd os=>cell_regrown (w:=wr) (show wr.cell? ⟨w.heap.size,2,none⟩=some (.slice A1 d.length c1) from (KC.out wr HB.out).2.2.1) dd os
  have x3:=fun dd os=>cell_regrown (w:=wr) (show wr.cell? ⟨w.heap.size,3,none⟩=some (.slice A2 r.length c2) from (KC.out wr HB.out).2.2.2.1) dd os
  have x4:=fun dd os=>cell_regrown (w:=wr) (show wr.cell? ⟨w.heap.size,4,none⟩=some (.slice A3 cc.length c3) from (KC.out wr HB.out).2.2.2.2.1) dd os
  have x5:=fun dd os=>cell_regrown (w:=wr) (show wr.cell? ⟨w.heap.size,5,none⟩=some (.slice A4 p.length c4) from (KC.out wr HB.out).2.2.2.2.2) dd os
  have BD:=Lib.hid (fun dd os=>bel_in HB.out (below_regrown wr dd os))
  by_cases hlt:k < l.length
  ·obtain ⟨ad,D1,e1,D2,e2,D3,e3,D4,e4,rfl,-,-,h0,h1,h2,h3,h4,h5⟩:=HAT.out k hlt
   have i0:(0:Int)≤(k:Int):=by omega
   have i1:(k:Int) < (l.length:Int):=by omega
   have y0:=fun dd os=>cell_regrown (w:=wr) (show wr.cell? (ad.add (k*6))=some (.string l[k].n) from keep6 (bel_in (bel_in B1.out HB.out) (Below.refl _ _)) h0) dd os
   have y1:=fun dd os=>cell_regrown (w:=wr) (show wr.cell? (⟨(ad.add (k*6)).block,(ad.add (k*6)).off+1,none⟩)=some (.string l[k].v) from keep6 (bel_in (bel_in B1.out HB.out) (Below.refl _ _)) h1) dd os
   have y2:=fun dd os=>cell_regrown (w:=wr) (show wr.cell? (⟨(ad.add (k*6)).block,(ad.add (k*6)).off+2,none⟩)=some (.slice D1 l[k].d.length e1) from keep6 (bel_in (bel_in B1.out HB.out) (Below.refl _ _)) h2) dd os
   have y3:=fun dd os=>cell_regrown (w:=wr) (show wr.cell? (⟨(ad.add (k*6)).block,(ad.add (k*6)).off+3,none⟩)=some (.slice D2 l[k].r.length e2) from keep6 (bel_in (bel_in B1.out HB.out) (Below.refl _ _)) h3) dd os
   have y4:=fun dd os=>cell_regrown (w:=wr) (show wr.cell? (⟨(ad.add (k*6)).block,(ad.add (k*6)).off+4,none⟩)=some (.slice D3 l[k].c.length e3) from keep6 (bel_in (bel_in B1.out HB.out) (Below.refl _ _)) h4) dd os
   have y5:=fun dd os=>cell_regrown (w:=wr) (show wr.cell? (⟨(ad.add (k*6)).block,(ad.add (k*6)).off+5,none⟩)=some (.slice D4 l[k].p.length e4) from keep6 (bel_in (bel_in B1.out HB.out) (Below.refl _ _)) h5) dd os
   have ST:=Lib.hid (fun hp=>tw_step (p:=fun y=>lesB y ⟨n,v,d,r,cc,p⟩) hlt HT.out hp)
   have SP:=Lib.hid (fun hp=>tw_stop (p:=fun y=>lesB y ⟨n,v,d,r,cc,p⟩) hk HT.out hp)
   have K1:=Lib.hid (fun dd os=>KL.out l[k] D1 e1 D2 e2 D3 e3 D4 e4 (grow (redrawn wr dd) os))
   generalize hq:lesB l[k] ⟨n,v,d,r,cc,p⟩=q at *
   clear h0 h1 h2 h3 h4 h5 HT KL
   go_wp2_with fail
   refine wp_region_quiet_below mixed (by kernel_rfl) ?_
   repeat (go_big_quiet_step (first|(go_at_call 77;refine Calls.regrown_of (K1.out _ _))))
   refine wpQuiet_nil ?_
   intro W3 hw2
   have BW3:=Lib.hid (show Below w1.heap.size w1 W3 from by obtain ⟨pp,e⟩:=hw2;rw [e];exact BD.out pp.d pp.os)
   clear hw2 BD b0 x0 x1 x2 x3 x4 x5 y0 y1 y2 y3 y4 y5 K1
   cases q
   ·have TWS:=Lib.hid (SP.out (fun _=>hq))
    clear SP ST HAT hq
    go_wp2_with fail
    refine wp_region_noPanic ?_
    refine wp_region_D (fun W=>(W.cell? ⟨b,0,none⟩=some (.slice (some ad) l.length c)∧W.frozen? ⟨b,0,none⟩=false)∧W.cell? ⟨w.heap.size,0,none⟩=some (.string n)∧W.cell? ⟨w.heap.size,1,none⟩=some (.string v)∧W.cell? ⟨w.heap.size,2,none⟩=some (.slice A1 d.length c1)∧W.cell? ⟨w.heap.size,3,none⟩=some (.slice A2 r.length c2)∧W.cell? ⟨w.heap.size,4,none⟩=some (.slice A3 cc.length c3)∧W.cell? ⟨w.heap.size,5,none⟩=some (.slice A4 p.length c4)) 21 (by kernel_rfl) (w0:=W3) (Dr.refl _) (fun V hV=>KC4.out V (bel_in BW3.out (hV.below W3.heap.size))) (fun V hV hHeld=>?_)
    have BV:=Lib.hid (bel_in BW3.out (hV.below W3.heap.size))
    have BWV:=Lib.hid (bel_in B1.out BV.out)
    have HTC:=Lib.hid (fun c (hc:V.heap.size≤c)=>show c≠b by have:=HBW.out;have:=BWV.out.size;omega)
    have HRV:=Lib.hid (show rdEnts V (lT V (fun c=>c≠b)) l [.slice (some ad) l.length c] from rdEnts_good.both H3.out (fun k hk=>BWV.out.block k hk.1) (fun k hk=>⟨Nat.lt_of_lt_of_le hk.1 BWV.out.size,hk.2⟩))
    have KS:=Lib.hid (fun (W:World) (hb:Below V.heap.size V W)=>KC4.out W (bel_in BV.out hb))
    have XA:=Lib.hid (rdRow_take (k:=k) HRV.out hk)
    have XB:=Lib.hid (rdRow_drop (k:=k) HRV.out hk)
    have HWI:=Lib.hid (show wi=l.take k++[⟨n,v,d,r,cc,p⟩]++l.drop k from HW.out.trans (putU_split TWS.out))
    clear HW
    have hl1:(l.take k).length≤200:=by rw [List.length_take];omega
    have hl2:(l.drop k).length≤200:=by rw [List.length_drop];omega
    generalize l.take k=L1 at *
    generalize l.drop k=L2 at *
    have EY:=Lib.hid (rdEnt_good.both (w':=V) (S':=lT V (fun c=>c≠b)) HX.out.six9 (fun k hk=>BWV.out.block k hk.1) (fun k hk=>⟨Nat.lt_of_lt_of_le hk.1 BWV.out.size,hk.2⟩))
    have hm1:([]:List Ent).length+L1.length≤maxLen:=by simp only [List.length_nil];unfold maxLen;omega
    have hm2:(([]:List Ent).length+L1.length)*128≤140737488355328:=by simp only [List.length_nil];omega
    have hm3:L1.length+[(⟨n,v,d,r,cc,p⟩:Ent)].length≤maxLen:=by simp only [List.length_singleton];unfold maxLen;omega
    have hm4:(L1.length+[(⟨n,v,d,r,cc,p⟩:Ent)].length)*128≤140737488355328:=by simp only [List.length_singleton];omega
    have hm5:(L1++[(⟨n,v,d,r,cc,p⟩:Ent)]).length+L2.length≤maxLen:=by simp only [List.length_append,List.length_singleton];unfold maxLen;omega
    have hm6:((L1++[(⟨n,v,d,r,cc,p⟩:Ent)]).length+L2.length)*128≤140737488355328:=by simp only [List.length_append,List.length_singleton];omega
    have AA:=Lib.hid (mgTA (T:=fun c=>c≠b) (ty:=60) rdEnt_good XA.out)
    have AB:=Lib.hid (mgTB (T:=fun c=>c≠b) (ty:=60) rdEnt_good #[.string n,.string v,.slice A1 d.length c1,.slice A2 r.length c2,.slice A3 cc.length c3,.slice A4 p.length c4] 60 XA.out)
    have AC:=Lib.hid (mgTC (T:=fun c=>c≠b) (ty:=60) rdEnt_good #[.string n,.string v,.slice A1 d.length c1,.slice A2 r.length c2,.slice A3 cc.length c3,.slice A4 p.length c4] 60 XA.out)
    have BC:=Lib.hid (show Below V.heap.size V (V.alloc (Obj.cells #[.string n,.string v,.slice A1 d.length c1,.slice A2 r.length c2,.slice A3 cc.length c3,.slice A4 p.length c4] 60)) from (Below.refl _ V).alloc (Nat.le_refl _) _)
    clear hV hl1 hl2
    refine wpAnyL_take (i:=0) (v:=?_) [20,19] rfl (by kernel_rfl) (by kernel_rfl) (by kernel_rfl) (fun _ _ _ h=>h) (by kernel_rfl) (by kernel_rfl) (by kernel_rfl) (Or.inl ⟨by rfl,?_⟩) (by assumption) ?_
    rotate_left
    ·intro w hSw
     try dsimp only at hSw
     go_simp
     first|done|with_reducible rfl
    try simp only [Act.put,List.setIfInBounds_toArray,List.set_cons_zero,List.set_cons_succ]
    refine wpAnyL_take (i:=2) (v:=?_) [18,11,8,7,5,4,3] rfl (by kernel_rfl) (by kernel_rfl) (by kernel_rfl) (fun _ _ _ h=>h) (by kernel_rfl) (by kernel_rfl) (by kernel_rfl) (Or.inl ⟨by rfl,?_⟩) (by assumption) ?_
    rotate_left
    ·intro w hSw
     try dsimp only at hSw
     go_simp
     first|done|with_reducible rfl
    try simp only [Act.put,List.setIfInBounds_toArray,List.set_cons_zero,List.set_cons_succ]
    refine wpAnyL_take (i:=3) (v:=?_) [18,11,8,7,5,4] rfl (by kernel_rfl) (by kernel_rfl) (by kernel_rfl) (fun _ _ _ h=>h) (by kernel_rfl) (by kernel_rfl) (by kernel_rfl) (Or.inl ⟨by rfl,?_⟩) (by assumption) ?_
    rotate_left
    ·intro w hSw
     try dsimp only at hSw
     go_simp
     first|done|with_reducible rfl
    try simp only [Act.put,List.setIfInBounds_toArray,List.set_cons_zero,List.set_cons_succ]
    refine wpAnyL_take (i:=4) (v:=?_) [18,11,8,7,5] rfl (by kernel_rfl) (by kernel_rfl) (by kernel_rfl) (fun _ _ _ h=>h) (by kernel_rfl) (by kernel_rfl) (by kernel_rfl) (Or.inl ⟨by rfl,?_⟩) (by assumption) ?_
    rotate_left
    ·intro w hSw
     try dsimp only at hSw
     go_simp
     first|done|with_reducible rfl
    try simp only [Act.put,List.setIfInBounds_toArray,List.set_cons_zero,List.set_cons_succ]
    refine wpAnyL_take (i:=5) (v:=?_) [18,11,8,7] rfl (by kernel_rfl) (by kernel_rfl) (by kernel_rfl) (fun _ _ _ h=>h) (by kernel_rfl) (by kernel_rfl) (by kernel_rfl) (Or.inl ⟨by rfl,?_⟩) (by assumption) ?_
    rotate_left
    ·intro w hSw
     try dsimp only at hSw
     go_simp
     first|done|with_reducible rfl
    try simp only [Act.put,List.setIfInBounds_toArray,List.set_cons_zero,List.set_cons_succ]
    refine wpAnyL_take (i:=6) (v:=?_) [18,11,8,7] rfl (by kernel_rfl) (by kernel_rfl) (by kernel_rfl) (fun _ _ _ h=>h) (by kernel_rfl) (by kernel_rfl) (by kernel_rfl) (Or.inl ⟨by rfl,?_⟩) (by assumption) ?_
    rotate_left
    ·intro w hSw
     try dsimp only at hSw
     go_simp
     first|done|with_reducible rfl
    try simp only [Act.put,List.setIfInBounds_toArray,List.set_cons_zero,List.set_cons_succ]
    refine wpAnyL_take (i:=7) (v:=?_) [18,11,8] rfl (by kernel_rfl) (by kernel_rfl) (by kernel_rfl) (fun _ _ _ h=>h) (by kernel_rfl) (by kernel_rfl) (by kernel_rfl) (Or.inl ⟨by rfl,?_⟩) (by assumption) ?_
    rotate_left
    ·intro w hSw
     try dsimp only at hSw
     go_simp
     first|done|with_reducible rfl
    try simp only [Act.put,List.setIfInBounds_toArray,List.set_cons_zero,List.set_cons_succ]
    refine wpAnyL_take (i:=9) (v:=?_) [18,11,10] rfl (by kernel_rfl) (by kernel_rfl) (by kernel_rfl) (fun _ _ _ h=>h) (by kernel_rfl) (by kernel_rfl) (by kernel_rfl) (Or.inl ⟨by rfl,?_⟩) (by assumption) ?_
    rotate_left
    ·intro w hSw
     try dsimp only at hSw
     go_simp
     first|done|with_reducible rfl
    try simp only [Act.put,List.setIfInBounds_toArray,List.set_cons_zero,List.set_cons_succ]
    refine wpAnyL_take (i:=12) (v:=?_) [18,17,15,14,13] rfl (by kernel_rfl) (by kernel_rfl) (by kernel_rfl) (fun _ _ _ h=>h) (by kernel_rfl) (by kernel_rfl) (by kernel_rfl) (Or.inl ⟨by rfl,?_⟩) (by assumption) ?_
    rotate_left
    ·intro w hSw
     try dsimp only at hSw
     go_simp
     first|done|with_reducible rfl
    try simp only [Act.put,List.setIfInBounds_toArray,List.set_cons_zero,List.set_cons_succ]
    refine wpAnyL_take (i:=13) (v:=?_) [18,17,15,14] rfl (by kernel_rfl) (by kernel_rfl) (by kernel_rfl) (fun _ _ _ h=>h) (by kernel_rfl) (by kernel_rfl) (by kernel_rfl) (Or.inl ⟨by rfl,?_⟩) (by assumption) ?_
    rotate_left
    ·intro w hSw
     try dsimp only at hSw
     go_simp
     first|done|with_reducible rfl
    try simp only [Act.put,List.setIfInBounds_toArray,List.set_cons_zero,List.set_cons_succ]
    refine wpAnyL_take (i:=14) (v:=?_) [18,17,15] rfl (by kernel_rfl) (by kernel_rfl) (by kernel_rfl) (fun _ _ _ h=>h) (by kernel_rfl) (by kernel_rfl) (by kernel_rfl) (Or.inl ⟨by rfl,?_⟩) (by assumption) ?_
    rotate_left
    ·intro w hSw
     try dsimp only at hSw
     go_simp
     first|done|with_reducible rfl
    try simp only [Act.put,List.setIfInBounds_toArray,List.set_cons_zero,List.set_cons_succ]
    refine wpAnyL_take (i:=15) (v:=?_) [18,17] rfl (by kernel_rfl) (by kernel_rfl) (by kernel_rfl) (fun _ _ _ h=>h) (by kernel_rfl) (by kernel_rfl) (by kernel_rfl) (Or.inl ⟨by rfl,?_⟩) (by assumption) ?_
    rotate_left
    ·intro w hSw
     try dsimp only at hSw
     go_simp
     first|done|with_reducible rfl
    try simp only [Act.put,List.setIfInBounds_toArray,List.set_cons_zero,List.set_cons_succ]
    refine wpAnyL_take (i:=16) (v:=?_) [18,17] rfl (by kernel_rfl) (by kernel_rfl) (by kernel_rfl) (fun _ _ _ h=>h) (by kernel_rfl) (by kernel_rfl) (by kernel_rfl) (Or.inl ⟨by rfl,?_⟩) (by assumption) ?_
    rotate_left
    ·intro w hSw
     try dsimp only at hSw
     go_simp
     first|done|with_reducible rfl
    try simp only [Act.put,List.setIfInBounds_toArray,List.set_cons_zero,List.set_cons_succ]
    refine wpAnyL_take (i:=17) (v:=?_) [18] rfl (by kernel_rfl) (by kernel_rfl) (by kernel_rfl) (fun _ _ _ h=>h) (by kernel_rfl) (by kernel_rfl) (by kernel_rfl) (Or.inl ⟨by rfl,?_⟩) (by assumption) ?_
    rotate_left
    ·intro w hSw
     try dsimp only at hSw
     go_simp
     first|done|with_reducible rfl
    try simp only [Act.put,List.setIfInBounds_toArray,List.set_cons_zero,List.set_cons_succ]
    refine wpAnyL_two (i:=1) (k:=10) (by kernel_rfl) rfl rfl (fun K hK=>?_) (fun K hK=>?_)
    ·go_simp
     refine hK.out _ _ (KS.out _ AA.out.bel) (fun hHeld=>?_)
     clear hK K
     try simp only [Act.put,List.setIfInBounds_toArray,List.set_cons_zero,List.set_cons_succ]
     refine wpAnyL_two (i:=8) (k:=10) (by kernel_rfl) rfl rfl (fun K hK=>?_) (fun K hK=>?_)
     ·refine step_growN _ (by rfl) _ _ 22 22 (by rfl) rdEnt_good (by decide) (fun c=>c≠b) V.heap.size 60 60 fi _ 128 Tryz.underlying22 Tryz.underlying22 hi hz0 hz1 hz2 rfl _ _ (by rfl) AA.out.g _ _ _ _ _ (by rfl) AA.out.x AA.out.s hm1 hm2 AA.out.bs ?_
      intro v3 w3 hG3 hg3 hm3'
      have B3:=Lib.hid (mgT_next (v3:=v3) AA.out hg3).2
      have Y2:=Lib.hid (mgT2A rdEnt_good HTC.out #[.string n,.string v,.slice A1 d.length c1,.slice A2 r.length c2,.slice A3 cc.length c3,.slice A4 p.length c4] 60 EY.out AA.out hG3 hg3)
      obtain ⟨A3',c3',rfl,_,_⟩:=hG3.own
      clear hG3 hg3 hm3'
      refine hK.out _ _ (KS.out _ B3.out) (fun hHeld=>?_)
      clear hK K
      try simp only [Act.put,List.setIfInBounds_toArray,List.set_cons_zero,List.set_cons_succ]
      refine wpAnyL_one (i:=10) (by kernel_rfl) rfl (fun K hK=>?_)
      go_simp
      refine hK.out _ _ (KS.out _ Y2.out.bel) (fun hHeld=>?_)
      clear hK K
      try simp only [Act.put,List.setIfInBounds_toArray,List.set_cons_zero,List.set_cons_succ]
      refine wpAnyL_one (i:=11) (by kernel_rfl) rfl (fun K hK=>?_)
      refine step_growN _ (by rfl) _ _ 22 22 (by rfl) rdEnt_good (by decide) (fun c=>c≠b) V.heap.size 60 60 fi _ 128 Tryz.underlying22 Tryz.underlying22 hi hz0 hz1 hz2 rfl _ _ (by rfl) Y2.out.g _ _ _ _ _ (by rfl) Y2.out.x Y2.out.s hm3 hm4 Y2.out.bs ?_
      intro v5 w5 hG5 hg5 _
      have Y3:=Lib.hid (mgT_3 rdEnt_good Y2.out XB.out hG5 hg5)
      obtain ⟨A5,c5,rfl,_,_⟩:=hG5.own
      clear hG5 hg5
      refine hK.out _ _ (KS.out _ Y3.out.bel) (fun hHeld=>?_)
      clear hK K
      try simp only [Act.put,List.setIfInBounds_toArray,List.set_cons_zero,List.set_cons_succ]
      refine wpAnyL_one (i:=18) (by kernel_rfl) rfl (fun K hK=>?_)
      refine step_growN _ (by rfl) _ _ 22 22 (by rfl) rdEnt_good (by decide) (fun c=>c≠b) V.heap.size 60 60 fi _ 128 Tryz.underlying22 Tryz.underlying22 hi hz0 hz1 hz2 rfl _ _ (by rfl) Y3.out.g _ _ _ _ _ (by rfl) Y3.out.x Y3.out.s hm5 hm6 Y3.out.bs ?_
      intro v7 w7 hG7 hg7 _
      have EN:=Lib.hid (mgT_end rdEnt_good HTC.out Y3.out hG7 hg7)
      obtain ⟨A7,c7,hv7,_,_⟩:=hG7.own
      rw [←HWI.out] at EN hv7
      subst hv7
      clear hG7 hg7
      refine hK.out _ _ (KS.out _ EN.out.1) (fun hHeld=>?_)
      clear hK K
      try simp only [Act.put,List.setIfInBounds_toArray,List.set_cons_zero,List.set_cons_succ]
      refine wpAnyL_one (i:=19) (by kernel_rfl) rfl (fun K hK=>?_)
      go_simp
      refine hK.out _ _ (KS.out _ EN.out.1) (fun hHeld=>?_)
      clear hK K
      try simp only [Act.put,List.setIfInBounds_toArray,List.set_cons_zero,List.set_cons_succ]
      refine wpAnyL_one (i:=20) (by kernel_rfl) rfl (fun K hK=>?_)
      go_simp
      refine hK.out _ _ (KS.out _ EN.out.1) (fun hHeld=>?_)
      clear hK K
      try simp only [Act.put,List.setIfInBounds_toArray,List.set_cons_zero,List.set_cons_succ]
      refine wpAnyL_last (by kernel_rfl) rfl (by kernel_rfl) (fun K hK=>?_)
      go_simp
      refine hK.out _ _ ?_
      clear hK K
      refine NoPanic.normal ?_
      have FIN:=Lib.hid (UR.put9 HBW.out BWV.out H2.out HF.out (by rw [hHeld.1.1];rfl) H4.out EN.out)
      clear hHeld
      go_wp2
      all_goals
       go_end0
       exact ⟨rfl,FIN.out⟩
     ·go_simp
      refine hK.out _ _ (KS.out _ AB.out.bel) (fun hHeld=>?_)
      clear hK K
      try simp only [Act.put,List.setIfInBounds_toArray,List.set_cons_zero,List.set_cons_succ]
      refine wpAnyL_one (i:=8) (by kernel_rfl) rfl (fun K hK=>?_)
      refine step_growN _ (by rfl) _ _ 22 22 (by rfl) rdEnt_good (by decide) (fun c=>c≠b) V.heap.size 60 60 fi _ 128 Tryz.underlying22 Tryz.underlying22 hi hz0 hz1 hz2 rfl _ _ (by rfl) AB.out.g _ _ _ _ _ (by rfl) AB.out.x AB.out.s hm1 hm2 AB.out.bs ?_
      intro v3 w3 hG3 hg3 hm3'
      have B3:=Lib.hid (mgT_next (v3:=v3) AB.out hg3).2
      have Y2:=Lib.hid (mgT2B rdEnt_good HTC.out EY.out AB.out hG3 hg3 hm3')
      obtain ⟨A3',c3',rfl,_,_⟩:=hG3.own
      clear hG3 hg3 hm3'
      refine hK.out _ _ (KS.out _ B3.out) (fun hHeld=>?_)
      clear hK K
      try simp only [Act.put,List.setIfInBounds_toArray,List.set_cons_zero,List.set_cons_succ]
      refine wpAnyL_one (i:=11) (by kernel_rfl) rfl (fun K hK=>?_)
      refine step_growN _ (by rfl) _ _ 22 22 (by rfl) rdEnt_good (by decide) (fun c=>c≠b) V.heap.size 60 60 fi _ 128 Tryz.underlying22 Tryz.underlying22 hi hz0 hz1 hz2 rfl _ _ (by rfl) Y2.out.g _ _ _ _ _ (by rfl) Y2.out.x Y2.out.s hm3 hm4 Y2.out.bs ?_
      intro v5 w5 hG5 hg5 _
      have Y3:=Lib.hid (mgT_3 rdEnt_good Y2.out XB.out hG5 hg5)
      obtain ⟨A5,c5,rfl,_,_⟩:=hG5.own
      clear hG5 hg5
      refine hK.out _ _ (KS.out _ Y3.out.bel) (fun hHeld=>?_)
      clear hK K
      try simp only [Act.put,List.setIfInBounds_toArray,List.set_cons_zero,List.set_cons_succ]
      refine wpAnyL_one (i:=18) (by kernel_rfl) rfl (fun K hK=>?_)
      refine step_growN _ (by rfl) _ _ 22 22 (by rfl) rdEnt_good (by decide) (fun c=>c≠b) V.heap.size 60 60 fi _ 128 Tryz.underlying22 Tryz.underlying22 hi hz0 hz1 hz2 rfl _ _ (by rfl) Y3.out.g _ _ _ _ _ (by rfl) Y3.out.x Y3.out.s hm5 hm6 Y3.out.bs ?_
      intro v7 w7 hG7 hg7 _
      have EN:=Lib.hid (mgT_end rdEnt_good HTC.out Y3.out hG7 hg7)
      obtain ⟨A7,c7,hv7,_,_⟩:=hG7.own
      rw [←HWI.out] at EN hv7
      subst hv7
      clear hG7 hg7
      refine hK.out _ _ (KS.out _ EN.out.1) (fun hHeld=>?_)
      clear hK K
      try simp only [Act.put,List.setIfInBounds_toArray,List.set_cons_zero,List.set_cons_succ]
      refine wpAnyL_one (i:=19) (by kernel_rfl) rfl (fun K hK=>?_)
      go_simp
      refine hK.out _ _ (KS.out _ EN.out.1) (fun hHeld=>?_)
      clear hK K
      try simp only [Act.put,List.setIfInBounds_toArray,List.set_cons_zero,List.set_cons_succ]
      refine wpAnyL_one (i:=20) (by kernel_rfl) rfl (fun K hK=>?_)
      go_simp
      refine hK.out _ _ (KS.out _ EN.out.1) (fun hHeld=>?_)
      clear hK K
      try simp only [Act.put,List.setIfInBounds_toArray,List.set_cons_zero,List.set_cons_succ]
      refine wpAnyL_last (by kernel_rfl) rfl (by kernel_rfl) (fun K hK=>?_)
      go_simp
      refine hK.out _ _ ?_
      clear hK K
      refine NoPanic.normal ?_
      have FIN:=Lib.hid (UR.put9 HBW.out BWV.out H2.out HF.out (by rw [hHeld.1.1];rfl) H4.out EN.out)
      clear hHeld
      go_wp2
      all_goals
       go_end0
       exact ⟨rfl,FIN.out⟩
    ·go_simp
     refine hK.out _ _ (KS.out _ BC.out) (fun hHeld=>?_)
     clear hK K
     try simp only [Act.put,List.setIfInBounds_toArray,List.set_cons_zero,List.set_cons_succ]
     refine wpAnyL_one (i:=1) (by kernel_rfl) rfl (fun K hK=>?_)
     go_simp
     refine hK.out _ _ (KS.out _ AC.out.bel) (fun hHeld=>?_)
     clear hK K
     try simp only [Act.put,List.setIfInBounds_toArray,List.set_cons_zero,List.set_cons_succ]
     refine wpAnyL_one (i:=8) (by kernel_rfl) rfl (fun K hK=>?_)
     refine step_growN _ (by rfl) _ _ 22 22 (by rfl) rdEnt_good (by decide) (fun c=>c≠b) V.heap.size 60 60 fi _ 128 Tryz.underlying22 Tryz.underlying22 hi hz0 hz1 hz2 rfl _ _ (by rfl) AC.out.g _ _ _ _ _ (by rfl) AC.out.x AC.out.s hm1 hm2 AC.out.bs ?_
     intro v3 w3 hG3 hg3 hm3'
     have B3:=Lib.hid (mgT_next (v3:=v3) AC.out hg3).2
     have Y2:=Lib.hid (mgT2C rdEnt_good HTC.out EY.out AC.out hG3 hg3 hm3')
     obtain ⟨A3',c3',rfl,_,_⟩:=hG3.own
     clear hG3 hg3 hm3'
     refine hK.out _ _ (KS.out _ B3.out) (fun hHeld=>?_)
     clear hK K
     try simp only [Act.put,List.setIfInBounds_toArray,List.set_cons_zero,List.set_cons_succ]
     refine wpAnyL_one (i:=11) (by kernel_rfl) rfl (fun K hK=>?_)
     refine step_growN _ (by rfl) _ _ 22 22 (by rfl) rdEnt_good (by decide) (fun c=>c≠b) V.heap.size 60 60 fi _ 128 Tryz.underlying22 Tryz.underlying22 hi hz0 hz1 hz2 rfl _ _ (by rfl) Y2.out.g _ _ _ _ _ (by rfl) Y2.out.x Y2.out.s hm3 hm4 Y2.out.bs ?_
     intro v5 w5 hG5 hg5 _
     have Y3:=Lib.hid (mgT_3 rdEnt_good Y2.out XB.out hG5 hg5)
     obtain ⟨A5,c5,rfl,_,_⟩:=hG5.own
     clear hG5 hg5
     refine hK.out _ _ (KS.out _ Y3.out.bel) (fun hHeld=>?_)
     clear hK K
     try simp only [Act.put,List.setIfInBounds_toArray,List.set_cons_zero,List.set_cons_succ]
     refine wpAnyL_one (i:=18) (by kernel_rfl) rfl (fun K hK=>?_)
     refine step_growN _ (by rfl) _ _ 22 22 (by rfl) rdEnt_good (by decide) (fun c=>c≠b) V.heap.size 60 60 fi _ 128 Tryz.underlying22 Tryz.underlying22 hi hz0 hz1 hz2 rfl _ _ (by rfl) Y3.out.g _ _ _ _ _ (by rfl) Y3.out.x Y3.out.s hm5 hm6 Y3.out.bs ?_
     intro v7 w7 hG7 hg7 _
     have EN:=Lib.hid (mgT_end rdEnt_good HTC.out Y3.out hG7 hg7)
     obtain ⟨A7,c7,hv7,_,_⟩:=hG7.own
     rw [←HWI.out] at EN hv7
     subst hv7
     clear hG7 hg7
     refine hK.out _ _ (KS.out _ EN.out.1) (fun hHeld=>?_)
     clear hK K
     try simp only [Act.put,List.setIfInBounds_toArray,List.set_cons_zero,List.set_cons_succ]
     refine wpAnyL_one (i:=19) (by kernel_rfl) rfl (fun K hK=>?_)
     go_simp
     refine hK.out _ _ (KS.out _ EN.out.1) (fun hHeld=>?_)
     clear hK K
     try simp only [Act.put,List.setIfInBounds_toArray,List.set_cons_zero,List.set_cons_succ]
     refine wpAnyL_one (i:=20) (by kernel_rfl) rfl (fun K hK=>?_)
     go_simp
     refine hK.out _ _ (KS.out _ EN.out.1) (fun hHeld=>?_)
     clear hK K
     try simp only [Act.put,List.setIfInBounds_toArray,List.set_cons_zero,List.set_cons_succ]
     refine wpAnyL_last (by kernel_rfl) rfl (by kernel_rfl) (fun K hK=>?_)
     go_simp
     refine hK.out _ _ ?_
     clear hK K
     refine NoPanic.normal ?_
     have FIN:=Lib.hid (UR.put9 HBW.out BWV.out H2.out HF.out (by rw [hHeld.1.1];rfl) H4.out EN.out)
     clear hHeld
     go_wp2
     all_goals
      go_end0
      exact ⟨rfl,FIN.out⟩
   ·have NX:=Lib.hid (ST.out rfl)
    go_wp2
    go_roundw
    case rel=>exact ⟨k+1,by omega,by go_num,NX,BW3.out⟩
    case measure=>simp [intOf];omega
  ·have i0:¬(k:Int) < (l.length:Int):=by omega
   have TWS:=Lib.hid (tw_stop (p:=fun y=>lesB y ⟨n,v,d,r,cc,p⟩) hk HT.out (fun h=>absurd h hlt))
   have K1:=Lib.hid True.intro
   rcases A with _|ad
   ·have hl0:l=[]:=by
     by_cases hz:0 < l.length
     ·obtain ⟨ad,_,_,_,_,_,_,_,_,e,-⟩:=HAT.out 0 hz
      cases e
     ·exact List.eq_nil_of_length_eq_zero (by omega)
    clear HAT
    subst hl0
    obtain rfl:k=0:=by simpa using hk
    go_wp2_with fail
    refine wp_region_quiet_below mixed (by kernel_rfl) ?_
    repeat (go_big_quiet_step (fail))
    refine wpQuiet_nil ?_
    intro W3 hw2
    have BW3:=Lib.hid (show Below w1.heap.size w1 W3 from by obtain ⟨pp,e⟩:=hw2;rw [e];exact BD.out pp.d pp.os)
    clear hw2 BD b0 x0 x1 x2 x3 x4 x5
    go_wp2_with fail
    refine wp_region_noPanic ?_
    refine wp_region_D (fun W=>(W.cell? ⟨b,0,none⟩=some (.slice none 0 c)∧W.frozen? ⟨b,0,none⟩=false)∧W.cell? ⟨w.heap.size,0,none⟩=some (.string n)∧W.cell? ⟨w.heap.size,1,none⟩=some (.string v)∧W.cell? ⟨w.heap.size,2,none⟩=some (.slice A1 d.length c1)∧W.cell? ⟨w.heap.size,3,none⟩=some (.slice A2 r.length c2)∧W.cell? ⟨w.heap.size,4,none⟩=some (.slice A3 cc.length c3)∧W.cell? ⟨w.heap.size,5,none⟩=some (.slice A4 p.length c4)) 21 (by kernel_rfl) (w0:=W3) (Dr.refl _) (fun V hV=>KC4.out V (bel_in BW3.out (hV.below W3.heap.size))) (fun V hV hHeld=>?_)
    have BV:=Lib.hid (bel_in BW3.out (hV.below W3.heap.size))
    have BWV:=Lib.hid (bel_in B1.out BV.out)
    have HTC:=Lib.hid (fun c (hc:V.heap.size≤c)=>show c≠b by have:=HBW.out;have:=BWV.out.size;omega)
    have HRV:=Lib.hid (show rdEnts V (lT V (fun c=>c≠b)) [] [.slice none 0 c] from rdEnts_good.both H3.out (fun k hk=>BWV.out.block k hk.1) (fun k hk=>⟨Nat.lt_of_lt_of_le hk.1 BWV.out.size,hk.2⟩))
    have KS:=Lib.hid (fun (W:World) (hb:Below V.heap.size V W)=>KC4.out W (bel_in BV.out hb))
    obtain ⟨L1,hL1⟩:∃L:List Ent,L=[]:=⟨_,rfl⟩
    obtain ⟨L2,hL2⟩:∃L:List Ent,L=[]:=⟨_,rfl⟩
    have XA:=Lib.hid (show rdEnts V (lT V (fun c=>c≠b)) L1 [.slice none 0 c] by rw [hL1];exact HRV.out)
    have XB:=Lib.hid (show rdEnts V (lT V (fun c=>c≠b)) L2 [.slice none 0 c] by rw [hL2];exact HRV.out)
    have HWI:=Lib.hid (show wi=L1++[⟨n,v,d,r,cc,p⟩]++L2 by rw [hL1,hL2];exact HW.out)
    clear HW
    have hl1:L1.length≤200:=by rw [hL1];decide
    have hl2:L2.length≤200:=by rw [hL2];decide
    clear hL1 hL2
    have EY:=Lib.hid (rdEnt_good.both (w':=V) (S':=lT V (fun c=>c≠b)) HX.out.six9 (fun k hk=>BWV.out.block k hk.1) (fun k hk=>⟨Nat.lt_of_lt_of_le hk.1 BWV.out.size,hk.2⟩))
    have hm1:([]:List Ent).length+L1.length≤maxLen:=by simp only [List.length_nil];unfold maxLen;omega
    have hm2:(([]:List Ent).length+L1.length)*128≤140737488355328:=by simp only [List.length_nil];omega
    have hm3:L1.length+[(⟨n,v,d,r,cc,p⟩:Ent)].length≤maxLen:=by simp only [List.length_singleton];unfold maxLen;omega
    have hm4:(L1.length+[(⟨n,v,d,r,cc,p⟩:Ent)].length)*128≤140737488355328:=by simp only [List.length_singleton];omega
    have hm5:(L1++[(⟨n,v,d,r,cc,p⟩:Ent)]).length+L2.length≤maxLen:=by simp only [List.length_append,List.length_singleton];unfold maxLen;omega
    have hm6:((L1++[(⟨n,v,d,r,cc,p⟩:Ent)]).length+L2.length)*128≤140737488355328:=by simp only [List.length_append,List.length_singleton];omega
    have AA:=Lib.hid (mgTA (T:=fun c=>c≠b) (ty:=60) rdEnt_good XA.out)
    have AB:=Lib.hid (mgTB (T:=fun c=>c≠b) (ty:=60) rdEnt_good #[.string n,.string v,.slice A1 d.length c1,.slice A2 r.length c2,.slice A3 cc.length c3,.slice A4 p.length c4] 60 XA.out)
    have AC:=Lib.hid (mgTC (T:=fun c=>c≠b) (ty:=60) rdEnt_good #[.string n,.string v,.slice A1 d.length c1,.slice A2 r.length c2,.slice A3 cc.length c3,.slice A4 p.length c4] 60 XA.out)
    have BC:=Lib.hid (show Below V.heap.size V (V.alloc (Obj.cells #[.string n,.string v,.slice A1 d.length c1,.slice A2 r.length c2,.slice A3 cc.length c3,.slice A4 p.length c4] 60)) from (Below.refl _ V).alloc (Nat.le_refl _) _)
    clear hV hl1 hl2
    refine wpAnyL_take (i:=0) (v:=?_) [20,19] rfl (by kernel_rfl) (by kernel_rfl) (by kernel_rfl) (fun _ _ _ h=>h) (by kernel_rfl) (by kernel_rfl) (by kernel_rfl) (Or.inl ⟨by rfl,?_⟩) (by assumption) ?_
    rotate_left
    ·intro w hSw
     try dsimp only at hSw
     go_simp
     first|done|with_reducible rfl
    try simp only [Act.put,List.setIfInBounds_toArray,List.set_cons_zero,List.set_cons_succ]
    refine wpAnyL_take (i:=2) (v:=?_) [18,11,8,7,5,4,3] rfl (by kernel_rfl) (by kernel_rfl) (by kernel_rfl) (fun _ _ _ h=>h) (by kernel_rfl) (by kernel_rfl) (by kernel_rfl) (Or.inl ⟨by rfl,?_⟩) (by assumption) ?_
    rotate_left
    ·intro w hSw
     try dsimp only at hSw
     go_simp
     first|done|with_reducible rfl
    try simp only [Act.put,List.setIfInBounds_toArray,List.set_cons_zero,List.set_cons_succ]
    refine wpAnyL_take (i:=3) (v:=?_) [18,11,8,7,5,4] rfl (by kernel_rfl) (by kernel_rfl) (by kernel_rfl) (fun _ _ _ h=>h) (by kernel_rfl) (by kernel_rfl) (by kernel_rfl) (Or.inl ⟨by rfl,?_⟩) (by assumption) ?_
    rotate_left
    ·intro w hSw
     try dsimp only at hSw
     go_simp
     first|done|with_reducible rfl
    try simp only [Act.put,List.setIfInBounds_toArray,List.set_cons_zero,List.set_cons_succ]
    refine wpAnyL_take (i:=4) (v:=?_) [18,11,8,7,5] rfl (by kernel_rfl) (by kernel_rfl) (by kernel_rfl) (fun _ _ _ h=>h) (by kernel_rfl) (by kernel_rfl) (by kernel_rfl) (Or.inl ⟨by rfl,?_⟩) (by assumption) ?_
    rotate_left
    ·intro w hSw
     try dsimp only at hSw
     go_simp
     first|done|with_reducible rfl
    try simp only [Act.put,List.setIfInBounds_toArray,List.set_cons_zero,List.set_cons_succ]
    refine wpAnyL_take (i:=5) (v:=?_) [18,11,8,7] rfl (by kernel_rfl) (by kernel_rfl) (by kernel_rfl) (fun _ _ _ h=>h) (by kernel_rfl) (by kernel_rfl) (by kernel_rfl) (Or.inl ⟨by rfl,?_⟩) (by assumption) ?_
    rotate_left
    ·intro w hSw
     try dsimp only at hSw
     go_simp
     first|done|with_reducible rfl
    try simp only [Act.put,List.setIfInBounds_toArray,List.set_cons_zero,List.set_cons_succ]
    refine wpAnyL_take (i:=6) (v:=?_) [18,11,8,7] rfl (by kernel_rfl) (by kernel_rfl) (by kernel_rfl) (fun _ _ _ h=>h) (by kernel_rfl) (by kernel_rfl) (by kernel_rfl) (Or.inl ⟨by rfl,?_⟩) (by assumption) ?_
    rotate_left
    ·intro w hSw
     try dsimp only at hSw
     go_simp
     first|done|with_reducible rfl
    try simp only [Act.put,List.setIfInBounds_toArray,List.set_cons_zero,List.set_cons_succ]
    refine wpAnyL_take (i:=7) (v:=?_) [18,11,8] rfl (by kernel_rfl) (by kernel_rfl) (by kernel_rfl) (fun _ _ _ h=>h) (by kernel_rfl) (by kernel_rfl) (by kernel_rfl) (Or.inl ⟨by rfl,?_⟩) (by assumption) ?_
    rotate_left
    ·intro w hSw
     try dsimp only at hSw
     go_simp
     first|done|with_reducible rfl
    try simp only [Act.put,List.setIfInBounds_toArray,List.set_cons_zero,List.set_cons_succ]
    refine wpAnyL_take (i:=9) (v:=?_) [18,11,10] rfl (by kernel_rfl) (by kernel_rfl) (by kernel_rfl) (fun _ _ _ h=>h) (by kernel_rfl) (by kernel_rfl) (by kernel_rfl) (Or.inl ⟨by rfl,?_⟩) (by assumption) ?_
    rotate_left
    ·intro w hSw
     try dsimp only at hSw
     go_simp
     first|done|with_reducible rfl
    try simp only [Act.put,List.setIfInBounds_toArray,List.set_cons_zero,List.set_cons_succ]
    refine wpAnyL_take (i:=12) (v:=?_) [18,17,15,14,13] rfl (by kernel_rfl) (by kernel_rfl) (by kernel_rfl) (fun _ _ _ h=>h) (by kernel_rfl) (by kernel_rfl) (by kernel_rfl) (Or.inl ⟨by rfl,?_⟩) (by assumption) ?_
    rotate_left
    ·intro w hSw
     try dsimp only at hSw
     go_simp
     first|done|with_reducible rfl
    try simp only [Act.put,List.setIfInBounds_toArray,List.set_cons_zero,List.set_cons_succ]
    refine wpAnyL_take (i:=13) (v:=?_) [18,17,15,14] rfl (by kernel_rfl) (by kernel_rfl) (by kernel_rfl) (fun _ _ _ h=>h) (by kernel_rfl) (by kernel_rfl) (by kernel_rfl) (Or.inl ⟨by rfl,?_⟩) (by assumption) ?_
    rotate_left
    ·intro w hSw
     try dsimp only at hSw
     go_simp
     first|done|with_reducible rfl
    try simp only [Act.put,List.setIfInBounds_toArray,List.set_cons_zero,List.set_cons_succ]
    refine wpAnyL_take (i:=14) (v:=?_) [18,17,15] rfl (by kernel_rfl) (by kernel_rfl) (by kernel_rfl) (fun _ _ _ h=>h) (by kernel_rfl) (by kernel_rfl) (by kernel_rfl) (Or.inl ⟨by rfl,?_⟩) (by assumption) ?_
    rotate_left
    ·intro w hSw
     try dsimp only at hSw
     go_simp
     first|done|with_reducible rfl
    try simp only [Act.put,List.setIfInBounds_toArray,List.set_cons_zero,List.set_cons_succ]
    refine wpAnyL_take (i:=15) (v:=?_) [18,17] rfl (by kernel_rfl) (by kernel_rfl) (by kernel_rfl) (fun _ _ _ h=>h) (by kernel_rfl) (by kernel_rfl) (by kernel_rfl) (Or.inl ⟨by rfl,?_⟩) (by assumption) ?_
    rotate_left
    ·intro w hSw
     try dsimp only at hSw
     go_simp
     first|done|with_reducible rfl
    try simp only [Act.put,List.setIfInBounds_toArray,List.set_cons_zero,List.set_cons_succ]
    refine wpAnyL_take (i:=16) (v:=?_) [18,17] rfl (by kernel_rfl) (by kernel_rfl) (by kernel_rfl) (fun _ _ _ h=>h) (by kernel_rfl) (by kernel_rfl) (by kernel_rfl) (Or.inl ⟨by rfl,?_⟩) (by assumption) ?_
    rotate_left
    ·intro w hSw
     try dsimp only at hSw
     go_simp
     first|done|with_reducible rfl
    try simp only [Act.put,List.setIfInBounds_toArray,List.set_cons_zero,List.set_cons_succ]
    refine wpAnyL_take (i:=17) (v:=?_) [18] rfl (by kernel_rfl) (by kernel_rfl) (by kernel_rfl) (fun _ _ _ h=>h) (by kernel_rfl) (by kernel_rfl) (by kernel_rfl) (Or.inl ⟨by rfl,?_⟩) (by assumption) ?_
    rotate_left
    ·intro w hSw
     try dsimp only at hSw
     go_simp
     first|done|with_reducible rfl
    try simp only [Act.put,List.setIfInBounds_toArray,List.set_cons_zero,List.set_cons_succ]
    refine wpAnyL_two (i:=1) (k:=10) (by kernel_rfl) rfl rfl (fun K hK=>?_) (fun K hK=>?_)
    ·go_simp
     refine hK.out _ _ (KS.out _ AA.out.bel) (fun hHeld=>?_)
     clear hK K
     try simp only [Act.put,List.setIfInBounds_toArray,List.set_cons_zero,List.set_cons_succ]
     refine wpAnyL_two (i:=8) (k:=10) (by kernel_rfl) rfl rfl (fun K hK=>?_) (fun K hK=>?_)
     ·refine step_growN _ (by rfl) _ _ 22 22 (by rfl) rdEnt_good (by decide) (fun c=>c≠b) V.heap.size 60 60 fi _ 128 Tryz.underlying22 Tryz.underlying22 hi hz0 hz1 hz2 rfl _ _ (by rfl) AA.out.g _ _ _ _ _ (by rfl) AA.out.x AA.out.s hm1 hm2 AA.out.bs ?_
      intro v3 w3 hG3 hg3 hm3'
      have B3:=Lib.hid (mgT_next (v3:=v3) AA.out hg3).2
      have Y2:=Lib.hid (mgT2A rdEnt_good HTC.out #[.string n,.string v,.slice A1 d.length c1,.slice A2 r.length c2,.slice A3 cc.length c3,.slice A4 p.length c4] 60 EY.out AA.out hG3 hg3)
      obtain ⟨A3',c3',rfl,_,_⟩:=hG3.own
      clear hG3 hg3 hm3'
      refine hK.out _ _ (KS.out _ B3.out) (fun hHeld=>?_)
      clear hK K
      try simp only [Act.put,List.setIfInBounds_toArray,List.set_cons_zero,List.set_cons_succ]
      refine wpAnyL_one (i:=10) (by kernel_rfl) rfl (fun K hK=>?_)
      go_simp
      refine hK.out _ _ (KS.out _ Y2.out.bel) (fun hHeld=>?_)
      clear hK K
      try simp only [Act.put,List.setIfInBounds_toArray,List.set_cons_zero,List.set_cons_succ]
      refine wpAnyL_one (i:=11) (by kernel_rfl) rfl (fun K hK=>?_)
      refine step_growN _ (by rfl) _ _ 22 22 (by rfl) rdEnt_good (by decide) (fun c=>c≠b) V.heap.size 60 60 fi _ 128 Tryz.underlying22 Tryz.underlying22 hi hz0 hz1 hz2 rfl _ _ (by rfl) Y2.out.g _ _ _ _ _ (by rfl) Y2.out.x Y2.out.s hm3 hm4 Y2.out.bs ?_
      intro v5 w5 hG5 hg5 _
      have Y3:=Lib.hid (mgT_3 rdEnt_good Y2.out XB.out hG5 hg5)
      obtain ⟨A5,c5,rfl,_,_⟩:=hG5.own
      clear hG5 hg5
      refine hK.out _ _ (KS.out _ Y3.out.bel) (fun hHeld=>?_)
      clear hK K
      try simp only [Act.put,List.setIfInBounds_toArray,List.set_cons_zero,List.set_cons_succ]
      refine wpAnyL_one (i:=18) (by kernel_rfl) rfl (fun K hK=>?_)
      refine step_growN _ (by rfl) _ _ 22 22 (by rfl) rdEnt_good (by decide) (fun c=>c≠b) V.heap.size 60 60 fi _ 128 Tryz.underlying22 Tryz.underlying22 hi hz0 hz1 hz2 rfl _ _ (by rfl) Y3.out.g _ _ _ _ _ (by rfl) Y3.out.x Y3.out.s hm5 hm6 Y3.out.bs ?_
      intro v7 w7 hG7 hg7 _
      have EN:=Lib.hid (mgT_end rdEnt_good HTC.out Y3.out hG7 hg7)
      obtain ⟨A7,c7,hv7,_,_⟩:=hG7.own
      rw [←HWI.out] at EN hv7
      subst hv7
      clear hG7 hg7
      refine hK.out _ _ (KS.out _ EN.out.1) (fun hHeld=>?_)
      clear hK K
      try simp only [Act.put,List.setIfInBounds_toArray,List.set_cons_zero,List.set_cons_succ]
      refine wpAnyL_one (i:=19) (by kernel_rfl) rfl (fun K hK=>?_)
      go_simp
      refine hK.out _ _ (KS.out _ EN.out.1) (fun hHeld=>?_)
      clear hK K
      try simp only [Act.put,List.setIfInBounds_toArray,List.set_cons_zero,List.set_cons_succ]
      refine wpAnyL_one (i:=20) (by kernel_rfl) rfl (fun K hK=>?_)
      go_simp
      refine hK.out _ _ (KS.out _ EN.out.1) (fun hHeld=>?_)
      clear hK K
      try simp only [Act.put,List.setIfInBounds_toArray,List.set_cons_zero,List.set_cons_succ]
      refine wpAnyL_last (by kernel_rfl) rfl (by kernel_rfl) (fun K hK=>?_)
      go_simp
      refine hK.out _ _ ?_
      clear hK K
      refine NoPanic.normal ?_
      have FIN:=Lib.hid (UR.put9 HBW.out BWV.out H2.out HF.out (by rw [hHeld.1.1];rfl) H4.out EN.out)
      clear hHeld
      go_wp2
      all_goals
       go_end0
       exact ⟨rfl,FIN.out⟩
     ·go_simp
      refine hK.out _ _ (KS.out _ AB.out.bel) (fun hHeld=>?_)
      clear hK K
      try simp only [Act.put,List.setIfInBounds_toArray,List.set_cons_zero,List.set_cons_succ]
      refine wpAnyL_one (i:=8) (by kernel_rfl) rfl (fun K hK=>?_)
      refine step_growN _ (by rfl) _ _ 22 22 (by rfl) rdEnt_good (by decide) (fun c=>c≠b) V.heap.size 60 60 fi _ 128 Tryz.underlying22 Tryz.underlying22 hi hz0 hz1 hz2 rfl _ _ (by rfl) AB.out.g _ _ _ _ _ (by rfl) AB.out.x AB.out.s hm1 hm2 AB.out.bs ?_
      intro v3 w3 hG3 hg3 hm3'
      have B3:=Lib.hid (mgT_next (v3:=v3) AB.out hg3).2
      have Y2:=Lib.hid (mgT2B rdEnt_good HTC.out EY.out AB.out hG3 hg3 hm3')
      obtain ⟨A3',c3',rfl,_,_⟩:=hG3.own
      clear hG3 hg3 hm3'
      refine hK.out _ _ (KS.out _ B3.out) (fun hHeld=>?_)
      clear hK K
      try simp only [Act.put,List.setIfInBounds_toArray,List.set_cons_zero,List.set_cons_succ]
      refine wpAnyL_one (i:=11) (by kernel_rfl) rfl (fun K hK=>?_)
      refine step_growN _ (by rfl) _ _ 22 22 (by rfl) rdEnt_good (by decide) (fun c=>c≠b) V.heap.size 60 60 fi _ 128 Tryz.underlying22 Tryz.underlying22 hi hz0 hz1 hz2 rfl _ _ (by rfl) Y2.out.g _ _ _ _ _ (by rfl) Y2.out.x Y2.out.s hm3 hm4 Y2.out.bs ?_
      intro v5 w5 hG5 hg5 _
      have Y3:=Lib.hid (mgT_3 rdEnt_good Y2.out XB.out hG5 hg5)
      obtain ⟨A5,c5,rfl,_,_⟩:=hG5.own
      clear hG5 hg5
      refine hK.out _ _ (KS.out _ Y3.out.bel) (fun hHeld=>?_)
      clear hK K
      try simp only [Act.put,List.setIfInBounds_toArray,List.set_cons_zero,List.set_cons_succ]
      refine wpAnyL_one (i:=18) (by kernel_rfl) rfl (fun K hK=>?_)
      refine step_growN _ (by rfl) _ _ 22 22 (by rfl) rdEnt_good (by decide) (fun c=>c≠b) V.heap.size 60 60 fi _ 128 Tryz.underlying22 Tryz.underlying22 hi hz0 hz1 hz2 rfl _ _ (by rfl) Y3.out.g _ _ _ _ _ (by rfl) Y3.out.x Y3.out.s hm5 hm6 Y3.out.bs ?_
      intro v7 w7 hG7 hg7 _
      have EN:=Lib.hid (mgT_end rdEnt_good HTC.out Y3.out hG7 hg7)
      obtain ⟨A7,c7,hv7,_,_⟩:=hG7.own
      rw [←HWI.out] at EN hv7
      subst hv7
      clear hG7 hg7
      refine hK.out _ _ (KS.out _ EN.out.1) (fun hHeld=>?_)
      clear hK K
      try simp only [Act.put,List.setIfInBounds_toArray,List.set_cons_zero,List.set_cons_succ]
      refine wpAnyL_one (i:=19) (by kernel_rfl) rfl (fun K hK=>?_)
      go_simp
      refine hK.out _ _ (KS.out _ EN.out.1) (fun hHeld=>?_)
      clear hK K
      try simp only [Act.put,List.setIfInBounds_toArray,List.set_cons_zero,List.set_cons_succ]
      refine wpAnyL_one (i:=20) (by kernel_rfl) rfl (fun K hK=>?_)
      go_simp
      refine hK.out _ _ (KS.out _ EN.out.1) (fun hHeld=>?_)
      clear hK K
      try simp only [Act.put,List.setIfInBounds_toArray,List.set_cons_zero,List.set_cons_succ]
      refine wpAnyL_last (by kernel_rfl) rfl (by kernel_rfl) (fun K hK=>?_)
      go_simp
      refine hK.out _ _ ?_
      clear hK K
      refine NoPanic.normal ?_
      have FIN:=Lib.hid (UR.put9 HBW.out BWV.out H2.out HF.out (by rw [hHeld.1.1];rfl) H4.out EN.out)
      clear hHeld
      go_wp2
      all_goals
       go_end0
       exact ⟨rfl,FIN.out⟩
    ·go_simp
     refine hK.out _ _ (KS.out _ BC.out) (fun hHeld=>?_)
     clear hK K
     try simp only [Act.put,List.setIfInBounds_toArray,List.set_cons_zero,List.set_cons_succ]
     refine wpAnyL_one (i:=1) (by kernel_rfl) rfl (fun K hK=>?_)
     go_simp
     refine hK.out _ _ (KS.out _ AC.out.bel) (fun hHeld=>?_)
     clear hK K
     try simp only [Act.put,List.setIfInBounds_toArray,List.set_cons_zero,List.set_cons_succ]
     refine wpAnyL_one (i:=8) (by kernel_rfl) rfl (fun K hK=>?_)
     refine step_growN _ (by rfl) _ _ 22 22 (by rfl) rdEnt_good (by decide) (fun c=>c≠b) V.heap.size 60 60 fi _ 128 Tryz.underlying22 Tryz.underlying22 hi hz0 hz1 hz2 rfl _ _ (by rfl) AC.out.g _ _ _ _ _ (by rfl) AC.out.x AC.out.s hm1 hm2 AC.out.bs ?_
     intro v3 w3 hG3 hg3 hm3'
     have B3:=Lib.hid (mgT_next (v3:=v3) AC.out hg3).2
     have Y2:=Lib.hid (mgT2C rdEnt_good HTC.out EY.out AC.out hG3 hg3 hm3')
     obtain ⟨A3',c3',rfl,_,_⟩:=hG3.own
     clear hG3 hg3 hm3'
     refine hK.out _ _ (KS.out _ B3.out) (fun hHeld=>?_)
     clear hK K
     try simp only [Act.put,List.setIfInBounds_toArray,List.set_cons_zero,List.set_cons_succ]
     refine wpAnyL_one (i:=11) (by kernel_rfl) rfl (fun K hK=>?_)
     refine step_growN _ (by rfl) _ _ 22 22 (by rfl) rdEnt_good (by decide) (fun c=>c≠b) V.heap.size 60 60 fi _ 128 Tryz.underlying22 Tryz.underlying22 hi hz0 hz1 hz2 rfl _ _ (by rfl) Y2.out.g _ _ _ _ _ (by rfl) Y2.out.x Y2.out.s hm3 hm4 Y2.out.bs ?_
     intro v5 w5 hG5 hg5 _
     have Y3:=Lib.hid (mgT_3 rdEnt_good Y2.out XB.out hG5 hg5)
     obtain ⟨A5,c5,rfl,_,_⟩:=hG5.own
     clear hG5 hg5
     refine hK.out _ _ (KS.out _ Y3.out.bel) (fun hHeld=>?_)
     clear hK K
     try simp only [Act.put,List.setIfInBounds_toArray,List.set_cons_zero,List.set_cons_succ]
     refine wpAnyL_one (i:=18) (by kernel_rfl) rfl (fun K hK=>?_)
     refine step_growN _ (by rfl) _ _ 22 22 (by rfl) rdEnt_good (by decide) (fun c=>c≠b) V.heap.size 60 60 fi _ 128 Tryz.underlying22 Tryz.underlying22 hi hz0 hz1 hz2 rfl _ _ (by rfl) Y3.out.g _ _ _ _ _ (by rfl) Y3.out.x Y3.out.s hm5 hm6 Y3.out.bs ?_
     intro v7 w7 hG7 hg7 _
     have EN:=Lib.hid (mgT_end rdEnt_good HTC.out Y3.out hG7 hg7)
     obtain ⟨A7,c7,hv7,_,_⟩:=hG7.own
     rw [←HWI.out] at EN hv7
     subst hv7
     clear hG7 hg7
     refine hK.out _ _ (KS.out _ EN.out.1) (fun hHeld=>?_)
     clear hK K
     try simp only [Act.put,List.setIfInBounds_toArray,List.set_cons_zero,List.set_cons_succ]
     refine wpAnyL_one (i:=19) (by kernel_rfl) rfl (fun K hK=>?_)
     go_simp
     refine hK.out _ _ (KS.out _ EN.out.1) (fun hHeld=>?_)
     clear hK K
     try simp only [Act.put,List.setIfInBounds_toArray,List.set_cons_zero,List.set_cons_succ]
     refine wpAnyL_one (i:=20) (by kernel_rfl) rfl (fun K hK=>?_)
     go_simp
     refine hK.out _ _ (KS.out _ EN.out.1) (fun hHeld=>?_)
     clear hK K
     try simp only [Act.put,List.setIfInBounds_toArray,List.set_cons_zero,List.set_cons_succ]
     refine wpAnyL_last (by kernel_rfl) rfl (by kernel_rfl) (fun K hK=>?_)
     go_simp
     refine hK.out _ _ ?_
     clear hK K
     refine NoPanic.normal ?_
     have FIN:=Lib.hid (UR.put9 HBW.out BWV.out H2.out HF.out (by rw [hHeld.1.1];rfl) H4.out EN.out)
     clear hHeld
     go_wp2
     all_goals
      go_end0
      exact ⟨rfl,FIN.out⟩
   ·clear HAT
    go_wp2_with fail
    refine wp_region_quiet_below mixed (by kernel_rfl) ?_
    repeat (go_big_quiet_step (fail))
    refine wpQuiet_nil ?_
    intro W3 hw2
    have BW3:=Lib.hid (show Below w1.heap.size w1 W3 from by obtain ⟨pp,e⟩:=hw2;rw [e];exact BD.out pp.d pp.os)
    clear hw2 BD b0 x0 x1 x2 x3 x4 x5
    go_wp2_with fail
    refine wp_region_noPanic ?_
    refine wp_region_D (fun W=>(W.cell? ⟨b,0,none⟩=some (.slice (some ad) l.length c)∧W.frozen? ⟨b,0,none⟩=false)∧W.cell? ⟨w.heap.size,0,none⟩=some (.string n)∧W.cell? ⟨w.heap.size,1,none⟩=some (.string v)∧W.cell? ⟨w.heap.size,2,none⟩=some (.slice A1 d.length c1)∧W.cell? ⟨w.heap.size,3,none⟩=some (.slice A2 r.length c2)∧W.cell? ⟨w.heap.size,4,none⟩=some (.slice A3 cc.length c3)∧W.cell? ⟨w.heap.size,5,none⟩=some (.slice A4 p.length c4)) 21 (by kernel_rfl) (w0:=W3) (Dr.refl _) (fun V hV=>KC4.out V (bel_in BW3.out (hV.below W3.heap.size))) (fun V hV hHeld=>?_)
    have BV:=Lib.hid (bel_in BW3.out (hV.below W3.heap.size))
    have BWV:=Lib.hid (bel_in B1.out BV.out)
    have HTC:=Lib.hid (fun c (hc:V.heap.size≤c)=>show c≠b by have:=HBW.out;have:=BWV.out.size;omega)
    have HRV:=Lib.hid (show rdEnts V (lT V (fun c=>c≠b)) l [.slice (some ad) l.length c] from rdEnts_good.both H3.out (fun k hk=>BWV.out.block k hk.1) (fun k hk=>⟨Nat.lt_of_lt_of_le hk.1 BWV.out.size,hk.2⟩))
    have KS:=Lib.hid (fun (W:World) (hb:Below V.heap.size V W)=>KC4.out W (bel_in BV.out hb))
    have XA:=Lib.hid (rdRow_take (k:=k) HRV.out hk)
    have XB:=Lib.hid (rdRow_drop (k:=k) HRV.out hk)
    have HWI:=Lib.hid (show wi=l.take k++[⟨n,v,d,r,cc,p⟩]++l.drop k from HW.out.trans (putU_split TWS.out))
    clear HW
    have hl1:(l.take k).length≤200:=by rw [List.length_take];omega
    have hl2:(l.drop k).length≤200:=by rw [List.length_drop];omega
    generalize l.take k=L1 at *
    generalize l.drop k=L2 at *
    have EY:=Lib.hid (rdEnt_good.both (w':=V) (S':=lT V (fun c=>c≠b)) HX.out.six9 (fun k hk=>BWV.out.block k hk.1) (fun k hk=>⟨Nat.lt_of_lt_of_le hk.1 BWV.out.size,hk.2⟩))
    have hm1:([]:List Ent).length+L1.length≤maxLen:=by simp only [List.length_nil];unfold maxLen;omega
    have hm2:(([]:List Ent).length+L1.length)*128≤140737488355328:=by simp only [List.length_nil];omega
    have hm3:L1.length+[(⟨n,v,d,r,cc,p⟩:Ent)].length≤maxLen:=by simp only [List.length_singleton];unfold maxLen;omega
    have hm4:(L1.length+[(⟨n,v,d,r,cc,p⟩:Ent)].length)*128≤140737488355328:=by simp only [List.length_singleton];omega
    have hm5:(L1++[(⟨n,v,d,r,cc,p⟩:Ent)]).length+L2.length≤maxLen:=by simp only [List.length_append,List.length_singleton];unfold maxLen;omega
    have hm6:((L1++[(⟨n,v,d,r,cc,p⟩:Ent)]).length+L2.length)*128≤140737488355328:=by simp only [List.length_append,List.length_singleton];omega
    have AA:=Lib.hid (mgTA (T:=fun c=>c≠b) (ty:=60) rdEnt_good XA.out)
    have AB:=Lib.hid (mgTB (T:=fun c=>c≠b) (ty:=60) rdEnt_good #[.string n,.string v,.slice A1 d.length c1,.slice A2 r.length c2,.slice A3 cc.length c3,.slice A4 p.length c4] 60 XA.out)
    have AC:=Lib.hid (mgTC (T:=fun c=>c≠b) (ty:=60) rdEnt_good #[.string n,.string v,.slice A1 d.length c1,.slice A2 r.length c2,.slice A3 cc.length c3,.slice A4 p.length c4] 60 XA.out)
    have BC:=Lib.hid (show Below V.heap.size V (V.alloc (Obj.cells #[.string n,.string v,.slice A1 d.length c1,.slice A2 r.length c2,.slice A3 cc.length c3,.slice A4 p.length c4] 60)) from (Below.refl _ V).alloc (Nat.le_refl _) _)
    clear hV hl1 hl2
    refine wpAnyL_take (i:=0) (v:=?_) [20,19] rfl (by kernel_rfl) (by kernel_rfl) (by kernel_rfl) (fun _ _ _ h=>h) (by kernel_rfl) (by kernel_rfl) (by kernel_rfl) (Or.inl ⟨by rfl,?_⟩) (by assumption) ?_
    rotate_left
    ·intro w hSw
     try dsimp only at hSw
     go_simp
     first|done|with_reducible rfl
    try simp only [Act.put,List.setIfInBounds_toArray,List.set_cons_zero,List.set_cons_succ]
    refine wpAnyL_take (i:=2) (v:=?_) [18,11,8,7,5,4,3] rfl (by kernel_rfl) (by kernel_rfl) (by kernel_rfl) (fun _ _ _ h=>h) (by kernel_rfl) (by kernel_rfl) (by kernel_rfl) (Or.inl ⟨by rfl,?_⟩) (by assumption) ?_
    rotate_left
    ·intro w hSw
     try dsimp only at hSw
     go_simp
     first|done|with_reducible rfl
    try simp only [Act.put,List.setIfInBounds_toArray,List.set_cons_zero,List.set_cons_succ]
    refine wpAnyL_take (i:=3) (v:=?_) [18,11,8,7,5,4] rfl (by kernel_rfl) (by kernel_rfl) (by kernel_rfl) (fun _ _ _ h=>h) (by kernel_rfl) (by kernel_rfl) (by kernel_rfl) (Or.inl ⟨by rfl,?_⟩) (by assumption) ?_
    rotate_left
    ·intro w hSw
     try dsimp only at hSw
     go_simp
     first|done|with_reducible rfl
    try simp only [Act.put,List.setIfInBounds_toArray,List.set_cons_zero,List.set_cons_succ]
    refine wpAnyL_take (i:=4) (v:=?_) [18,11,8,7,5] rfl (by kernel_rfl) (by kernel_rfl) (by kernel_rfl) (fun _ _ _ h=>h) (by kernel_rfl) (by kernel_rfl) (by kernel_rfl) (Or.inl ⟨by rfl,?_⟩) (by assumption) ?_
    rotate_left
    ·intro w hSw
     try dsimp only at hSw
     go_simp
     first|done|with_reducible rfl
    try simp only [Act.put,List.setIfInBounds_toArray,List.set_cons_zero,List.set_cons_succ]
    refine wpAnyL_take (i:=5) (v:=?_) [18,11,8,7] rfl (by kernel_rfl) (by kernel_rfl) (by kernel_rfl) (fun _ _ _ h=>h) (by kernel_rfl) (by kernel_rfl) (by kernel_rfl) (Or.inl ⟨by rfl,?_⟩) (by assumption) ?_
    rotate_left
    ·intro w hSw
     try dsimp only at hSw
     go_simp
     first|done|with_reducible rfl
    try simp only [Act.put,List.setIfInBounds_toArray,List.set_cons_zero,List.set_cons_succ]
    refine wpAnyL_take (i:=6) (v:=?_) [18,11,8,7] rfl (by kernel_rfl) (by kernel_rfl) (by kernel_rfl) (fun _ _ _ h=>h) (by kernel_rfl) (by kernel_rfl) (by kernel_rfl) (Or.inl ⟨by rfl,?_⟩) (by assumption) ?_
    rotate_left
    ·intro w hSw
     try dsimp only at hSw
     go_simp
     first|done|with_reducible rfl
    try simp only [Act.put,List.setIfInBounds_toArray,List.set_cons_zero,List.set_cons_succ]
    refine wpAnyL_take (i:=7) (v:=?_) [18,11,8] rfl (by kernel_rfl) (by kernel_rfl) (by kernel_rfl) (fun _ _ _ h=>h) (by kernel_rfl) (by kernel_rfl) (by kernel_rfl) (Or.inl ⟨by rfl,?_⟩) (by assumption) ?_
    rotate_left
    ·intro w hSw
     try dsimp only at hSw
     go_simp
     first|done|with_reducible rfl
    try simp only [Act.put,List.setIfInBounds_toArray,List.set_cons_zero,List.set_cons_succ]
    refine wpAnyL_take (i:=9) (v:=?_) [18,11,10] rfl (by kernel_rfl) (by kernel_rfl) (by kernel_rfl) (fun _ _ _ h=>h) (by kernel_rfl) (by kernel_rfl) (by kernel_rfl) (Or.inl ⟨by rfl,?_⟩) (by assumption) ?_
    rotate_left
    ·intro w hSw
     try dsimp only at hSw
     go_simp
     first|done|with_reducible rfl
    try simp only [Act.put,List.setIfInBounds_toArray,List.set_cons_zero,List.set_cons_succ]
    refine wpAnyL_take (i:=12) (v:=?_) [18,17,15,14,13] rfl (by kernel_rfl) (by kernel_rfl) (by kernel_rfl) (fun _ _ _ h=>h) (by kernel_rfl) (by kernel_rfl) (by kernel_rfl) (Or.inl ⟨by rfl,?_⟩) (by assumption) ?_
    rotate_left
    ·intro w hSw
     try dsimp only at hSw
     go_simp
     first|done|with_reducible rfl
    try simp only [Act.put,List.setIfInBounds_toArray,List.set_cons_zero,List.set_cons_succ]
    refine wpAnyL_take (i:=13) (v:=?_) [18,17,15,14] rfl (by kernel_rfl) (by kernel_rfl) (by kernel_rfl) (fun _ _ _ h=>h) (by kernel_rfl) (by kernel_rfl) (by kernel_rfl) (Or.inl ⟨by rfl,?_⟩) (by assumption) ?_
    rotate_left
    ·intro w hSw
     try dsimp only at hSw
     go_simp
     first|done|with_reducible rfl
    try simp only [Act.put,List.setIfInBounds_toArray,List.set_cons_zero,List.set_cons_succ]
    refine wpAnyL_take (i:=14) (v:=?_) [18,17,15] rfl (by kernel_rfl) (by kernel_rfl) (by kernel_rfl) (fun _ _ _ h=>h) (by kernel_rfl) (by kernel_rfl) (by kernel_rfl) (Or.inl ⟨by rfl,?_⟩) (by assumption) ?_
    rotate_left
    ·intro w hSw
     try dsimp only at hSw
     go_simp
     first|done|with_reducible rfl
    try simp only [Act.put,List.setIfInBounds_toArray,List.set_cons_zero,List.set_cons_succ]
    refine wpAnyL_take (i:=15) (v:=?_) [18,17] rfl (by kernel_rfl) (by kernel_rfl) (by kernel_rfl) (fun _ _ _ h=>h) (by kernel_rfl) (by kernel_rfl) (by kernel_rfl) (Or.inl ⟨by rfl,?_⟩) (by assumption) ?_
    rotate_left
    ·intro w hSw
     try dsimp only at hSw
     go_simp
     first|done|with_reducible rfl
    try simp only [Act.put,List.setIfInBounds_toArray,List.set_cons_zero,List.set_cons_succ]
    refine wpAnyL_take (i:=16) (v:=?_) [18,17] rfl (by kernel_rfl) (by kernel_rfl) (by kernel_rfl) (fun _ _ _ h=>h) (by kernel_rfl) (by kernel_rfl) (by kernel_rfl) (Or.inl ⟨by rfl,?_⟩) (by assumption) ?_
    rotate_left
    ·intro w hSw
     try dsimp only at hSw
     go_simp
     first|done|with_reducible rfl
    try simp only [Act.put,List.setIfInBounds_toArray,List.set_cons_zero,List.set_cons_succ]
    refine wpAnyL_take (i:=17) (v:=?_) [18] rfl (by kernel_rfl) (by kernel_rfl) (by kernel_rfl) (fun _ _ _ h=>h) (by kernel_rfl) (by kernel_rfl) (by kernel_rfl) (Or.inl ⟨by rfl,?_⟩) (by assumption) ?_
    rotate_left
    ·intro w hSw
     try dsimp only at hSw
     go_simp
     first|done|with_reducible rfl
    try simp only [Act.put,List.setIfInBounds_toArray,List.set_cons_zero,List.set_cons_succ]
    refine wpAnyL_two (i:=1) (k:=10) (by kernel_rfl) rfl rfl (fun K hK=>?_) (fun K hK=>?_)
    ·go_simp
     refine hK.out _ _ (KS.out _ AA.out.bel) (fun hHeld=>?_)
     clear hK K
     try simp only [Act.put,List.setIfInBounds_toArray,List.set_cons_zero,List.set_cons_succ]
     refine wpAnyL_two (i:=8) (k:=10) (by kernel_rfl) rfl rfl (fun K hK=>?_) (fun K hK=>?_)
     ·refine step_growN _ (by rfl) _ _ 22 22 (by rfl) rdEnt_good (by decide) (fun c=>c≠b) V.heap.size 60 60 fi _ 128 Tryz.underlying22 Tryz.underlying22 hi hz0 hz1 hz2 rfl _ _ (by rfl) AA.out.g _ _ _ _ _ (by rfl) AA.out.x AA.out.s hm1 hm2 AA.out.bs ?_
      intro v3 w3 hG3 hg3 hm3'
      have B3:=Lib.hid (mgT_next (v3:=v3) AA.out hg3).2
      have Y2:=Lib.hid (mgT2A rdEnt_good HTC.out #[.string n,.string v,.slice A1 d.length c1,.slice A2 r.length c2,.slice A3 cc.length c3,.slice A4 p.length c4] 60 EY.out AA.out hG3 hg3)
      obtain ⟨A3',c3',rfl,_,_⟩:=hG3.own
      clear hG3 hg3 hm3'
      refine hK.out _ _ (KS.out _ B3.out) (fun hHeld=>?_)
      clear hK K
      try simp only [Act.put,List.setIfInBounds_toArray,List.set_cons_zero,List.set_cons_succ]
      refine wpAnyL_one (i:=10) (by kernel_rfl) rfl (fun K hK=>?_)
      go_simp
      refine hK.out _ _ (KS.out _ Y2.out.bel) (fun hHeld=>?_)
      clear hK K
      try simp only [Act.put,List.setIfInBounds_toArray,List.set_cons_zero,List.set_cons_succ]
      refine wpAnyL_one (i:=11) (by kernel_rfl) rfl (fun K hK=>?_)
      refine step_growN _ (by rfl) _ _ 22 22 (by rfl) rdEnt_good (by decide) (fun c=>c≠b) V.heap.size 60 60 fi _ 128 Tryz.underlying22 Tryz.underlying22 hi hz0 hz1 hz2 rfl _ _ (by rfl) Y2.out.g _ _ _ _ _ (by rfl) Y2.out.x Y2.out.s hm3 hm4 Y2.out.bs ?_
      intro v5 w5 hG5 hg5 _
      have Y3:=Lib.hid (mgT_3 rdEnt_good Y2.out XB.out hG5 hg5)
      obtain ⟨A5,c5,rfl,_,_⟩:=hG5.own
      clear hG5 hg5
      refine hK.out _ _ (KS.out _ Y3.out.bel) (fun hHeld=>?_)
      clear hK K
      try simp only [Act.put,List.setIfInBounds_toArray,List.set_cons_zero,List.set_cons_succ]
      refine wpAnyL_one (i:=18) (by kernel_rfl) rfl (fun K hK=>?_)
      refine step_growN _ (by rfl) _ _ 22 22 (by rfl) rdEnt_good (by decide) (fun c=>c≠b) V.heap.size 60 60 fi _ 128 Tryz.underlying22 Tryz.underlying22 hi hz0 hz1 hz2 rfl _ _ (by rfl) Y3.out.g _ _ _ _ _ (by rfl) Y3.out.x Y3.out.s hm5 hm6 Y3.out.bs ?_
      intro v7 w7 hG7 hg7 _
      have EN:=Lib.hid (mgT_end rdEnt_good HTC.out Y3.out hG7 hg7)
      obtain ⟨A7,c7,hv7,_,_⟩:=hG7.own
      rw [←HWI.out] at EN hv7
      subst hv7
      clear hG7 hg7
      refine hK.out _ _ (KS.out _ EN.out.1) (fun hHeld=>?_)
      clear hK K
      try simp only [Act.put,List.setIfInBounds_toArray,List.set_cons_zero,List.set_cons_succ]
      refine wpAnyL_one (i:=19) (by kernel_rfl) rfl (fun K hK=>?_)
      go_simp
      refine hK.out _ _ (KS.out _ EN.out.1) (fun hHeld=>?_)
      clear hK K
      try simp only [Act.put,List.setIfInBounds_toArray,List.set_cons_zero,List.set_cons_succ]
      refine wpAnyL_one (i:=20) (by kernel_rfl) rfl (fun K hK=>?_)
      go_simp
      refine hK.out _ _ (KS.out _ EN.out.1) (fun hHeld=>?_)
      clear hK K
      try simp only [Act.put,List.setIfInBounds_toArray,List.set_cons_zero,List.set_cons_succ]
      refine wpAnyL_last (by kernel_rfl) rfl (by kernel_rfl) (fun K hK=>?_)
      go_simp
      refine hK.out _ _ ?_
      clear hK K
      refine NoPanic.normal ?_
      have FIN:=Lib.hid (UR.put9 HBW.out BWV.out H2.out HF.out (by rw [hHeld.1.1];rfl) H4.out EN.out)
      clear hHeld
      go_wp2
      all_goals
       go_end0
       exact ⟨rfl,FIN.out⟩
     ·go_simp
      refine hK.out _ _ (KS.out _ AB.out.bel) (fun hHeld=>?_)
      clear hK K
      try simp only [Act.put,List.setIfInBounds_toArray,List.set_cons_zero,List.set_cons_succ]
      refine wpAnyL_one (i:=8) (by kernel_rfl) rfl (fun K hK=>?_)
      refine step_growN _ (by rfl) _ _ 22 22 (by rfl) rdEnt_good (by decide) (fun c=>c≠b) V.heap.size 60 60 fi _ 128 Tryz.underlying22 Tryz.underlying22 hi hz0 hz1 hz2 rfl _ _ (by rfl) AB.out.g _ _ _ _ _ (by rfl) AB.out.x AB.out.s hm1 hm2 AB.out.bs ?_
      intro v3 w3 hG3 hg3 hm3'
      have B3:=Lib.hid (mgT_next (v3:=v3) AB.out hg3).2
      have Y2:=Lib.hid (mgT2B rdEnt_good HTC.out EY.out AB.out hG3 hg3 hm3')
      obtain ⟨A3',c3',rfl,_,_⟩:=hG3.own
      clear hG3 hg3 hm3'
      refine hK.out _ _ (KS.out _ B3.out) (fun hHeld=>?_)
      clear hK K
      try simp only [Act.put,List.setIfInBounds_toArray,List.set_cons_zero,List.set_cons_succ]
      refine wpAnyL_one (i:=11) (by kernel_rfl) rfl (fun K hK=>?_)
      refine step_growN _ (by rfl) _ _ 22 22 (by rfl) rdEnt_good (by decide) (fun c=>c≠b) V.heap.size 60 60 fi _ 128 Tryz.underlying22 Tryz.underlying22 hi hz0 hz1 hz2 rfl _ _ (by rfl) Y2.out.g _ _ _ _ _ (by rfl) Y2.out.x Y2.out.s hm3 hm4 Y2.out.bs ?_
      intro v5 w5 hG5 hg5 _
      have Y3:=Lib.hid (mgT_3 rdEnt_good Y2.out XB.out hG5 hg5)
      obtain ⟨A5,c5,rfl,_,_⟩:=hG5.own
      clear hG5 hg5
      refine hK.out _ _ (KS.out _ Y3.out.bel) (fun hHeld=>?_)
      clear hK K
      try simp only [Act.put,List.setIfInBounds_toArray,List.set_cons_zero,List.set_cons_succ]
      refine wpAnyL_one (i:=18) (by kernel_rfl) rfl (fun K hK=>?_)
      refine step_growN _ (by rfl) _ _ 22 22 (by rfl) rdEnt_good (by decide) (fun c=>c≠b) V.heap.size 60 60 fi _ 128 Tryz.underlying22 Tryz.underlying22 hi hz0 hz1 hz2 rfl _ _ (by rfl) Y3.out.g _ _ _ _ _ (by rfl) Y3.out.x Y3.out.s hm5 hm6 Y3.out.bs ?_
      intro v7 w7 hG7 hg7 _
      have EN:=Lib.hid (mgT_end rdEnt_good HTC.out Y3.out hG7 hg7)
      obtain ⟨A7,c7,hv7,_,_⟩:=hG7.own
      rw [←HWI.out] at EN hv7
      subst hv7
      clear hG7 hg7
      refine hK.out _ _ (KS.out _ EN.out.1) (fun hHeld=>?_)
      clear hK K
      try simp only [Act.put,List.setIfInBounds_toArray,List.set_cons_zero,List.set_cons_succ]
      refine wpAnyL_one (i:=19) (by kernel_rfl) rfl (fun K hK=>?_)
      go_simp
      refine hK.out _ _ (KS.out _ EN.out.1) (fun hHeld=>?_)
      clear hK K
      try simp only [Act.put,List.setIfInBounds_toArray,List.set_cons_zero,List.set_cons_succ]
      refine wpAnyL_one (i:=20) (by kernel_rfl) rfl (fun K hK=>?_)
      go_simp
      refine hK.out _ _ (KS.out _ EN.out.1) (fun hHeld=>?_)
      clear hK K
      try simp only [Act.put,List.setIfInBounds_toArray,List.set_cons_zero,List.set_cons_succ]
      refine wpAnyL_last (by kernel_rfl) rfl (by kernel_rfl) (fun K hK=>?_)
      go_simp
      refine hK.out _ _ ?_
      clear hK K
      refine NoPanic.normal ?_
      have FIN:=Lib.hid (UR.put9 HBW.out BWV.out H2.out HF.out (by rw [hHeld.1.1];rfl) H4.out EN.out)
      clear hHeld
      go_wp2
      all_goals
       go_end0
       exact ⟨rfl,FIN.out⟩
    ·go_simp
     refine hK.out _ _ (KS.out _ BC.out) (fun hHeld=>?_)
     clear hK K
     try simp only [Act.put,List.setIfInBounds_toArray,List.set_cons_zero,List.set_cons_succ]
     refine wpAnyL_one (i:=1) (by kernel_rfl) rfl (fun K hK=>?_)
     go_simp
     refine hK.out _ _ (KS.out _ AC.out.bel) (fun hHeld=>?_)
     clear hK K
     try simp only [Act.put,List.setIfInBounds_toArray,List.set_cons_zero,List.set_cons_succ]
     refine wpAnyL_one (i:=8) (by kernel_rfl) rfl (fun K hK=>?_)
     refine step_growN _ (by rfl) _ _ 22 22 (by rfl) rdEnt_good (by decide) (fun c=>c≠b) V.heap.size 60 60 fi _ 128 Tryz.underlying22 Tryz.underlying22 hi hz0 hz1 hz2 rfl _ _ (by rfl) AC.out.g _ _ _ _ _ (by rfl) AC.out.x AC.out.s hm1 hm2 AC.out.bs ?_
     intro v3 w3 hG3 hg3 hm3'
     have B3:=Lib.hid (mgT_next (v3:=v3) AC.out hg3).2
     have Y2:=Lib.hid (mgT2C rdEnt_good HTC.out EY.out AC.out hG3 hg3 hm3')
     obtain ⟨A3',c3',rfl,_,_⟩:=hG3.own
     clear hG3 hg3 hm3'
     refine hK.out _ _ (KS.out _ B3.out) (fun hHeld=>?_)
     clear hK K
     try simp only [Act.put,List.setIfInBounds_toArray,List.set_cons_zero,List.set_cons_succ]
     refine wpAnyL_one (i:=11) (by kernel_rfl) rfl (fun K hK=>?_)
     refine step_growN _ (by rfl) _ _ 22 22 (by rfl) rdEnt_good (by decide) (fun c=>c≠b) V.heap.size 60 60 fi _ 128 Tryz.underlying22 Tryz.underlying22 hi hz0 hz1 hz2 rfl _ _ (by rfl) Y2.out.g _ _ _ _ _ (by rfl) Y2.out.x Y2.out.s hm3 hm4 Y2.out.bs ?_
     intro v5 w5 hG5 hg5 _
     have Y3:=Lib.hid (mgT_3 rdEnt_good Y2.out XB.out hG5 hg5)
     obtain ⟨A5,c5,rfl,_,_⟩:=hG5.own
     clear hG5 hg5
     refine hK.out _ _ (KS.out _ Y3.out.bel) (fun hHeld=>?_)
     clear hK K
     try simp only [Act.put,List.setIfInBounds_toArray,List.set_cons_zero,List.set_cons_succ]
     refine wpAnyL_one (i:=18) (by kernel_rfl) rfl (fun K hK=>?_)
     refine step_growN _ (by rfl) _ _ 22 22 (by rfl) rdEnt_good (by decide) (fun c=>c≠b) V.heap.size 60 60 fi _ 128 Tryz.underlying22 Tryz.underlying22 hi hz0 hz1 hz2 rfl _ _ (by rfl) Y3.out.g _ _ _ _ _ (by rfl) Y3.out.x Y3.out.s hm5 hm6 Y3.out.bs ?_
     intro v7 w7 hG7 hg7 _
     have EN:=Lib.hid (mgT_end rdEnt_good HTC.out Y3.out hG7 hg7)
     obtain ⟨A7,c7,hv7,_,_⟩:=hG7.own
     rw [←HWI.out] at EN hv7
     subst hv7
     clear hG7 hg7
     refine hK.out _ _ (KS.out _ EN.out.1) (fun hHeld=>?_)
     clear hK K
     try simp only [Act.put,List.setIfInBounds_toArray,List.set_cons_zero,List.set_cons_succ]
     refine wpAnyL_one (i:=19) (by kernel_rfl) rfl (fun K hK=>?_)
     go_simp
     refine hK.out _ _ (KS.out _ EN.out.1) (fun hHeld=>?_)
     clear hK K
     try simp only [Act.put,List.setIfInBounds_toArray,List.set_cons_zero,List.set_cons_succ]
     refine wpAnyL_one (i:=20) (by kernel_rfl) rfl (fun K hK=>?_)
     go_simp
     refine hK.out _ _ (KS.out _ EN.out.1) (fun hHeld=>?_)
     clear hK K
     try simp only [Act.put,List.setIfInBounds_toArray,List.set_cons_zero,List.set_cons_succ]
     refine wpAnyL_last (by kernel_rfl) rfl (by kernel_rfl) (fun K hK=>?_)
     go_simp
     refine hK.out _ _ ?_
     clear hK K
     refine NoPanic.normal ?_
     have FIN:=Lib.hid (UR.put9 HBW.out BWV.out H2.out HF.out (by rw [hHeld.1.1];rfl) H4.out EN.out)
     clear hHeld
     go_wp2
     all_goals
      go_end0
      exact ⟨rfl,FIN.out⟩
end Go.Proofs.YtpilmhoakopcaaaGreatDoor
