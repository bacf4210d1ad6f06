/- What the laws rest on: E11r, N11e. -/
import Derived.Test.YtpilmhoakopcaaaGreatDoorQASZC
import Derived.Test.YtpilmhoakopcaaaGreatDoorQATZC
set_option maxRecDepth 100000
set_option linter.unusedVariables false
set_option linter.unusedSimpArgs false
namespace Go.Proofs.YtpilmhoakopcaaaGreatDoor
open Go.RowKit
structure Wx (w1:World) (wb n:Nat) (W:World) (f:Nat→C5):Prop where
 p:Pst w1 (fun k=>k=wb) W (fun k=>k=wb)
 c:∃cur:Array Value,W.heap[wb]?=some (.cells cur 39 (0,0))∧cur.size=n*5∧∀j,j < n→∀i v,(f j).cells[i]?=some v→cur[j*5+i]?=some v
theorem Wx.lt {w1 W:World} {wb n:Nat} {f:Nat→C5} (h:Wx w1 wb n W f):wb < W.heap.size:=by
 obtain ⟨cur,hc,-⟩:=h.c
 exact lt_of_heap hc
theorem Wx.call {w1 W W':World} {wb n:Nat} {f:Nat→C5} (h:Wx w1 wb n W f) (hb:Below W.heap.size W W'):Wx w1 wb n W' f:=
 ⟨h.p.below hb,by obtain ⟨cur,hc,r⟩:=h.c;exact ⟨cur,(hb.block wb h.lt).trans hc,r⟩⟩
theorem Wx.trans {w1 w2 W:World} {wb n:Nat} {f g:Nat→C5} (h:Wx w1 wb n w2 f) (k:Wx w2 wb n W g):Wx w1 wb n W g:=⟨h.p.trans k.p,k.c⟩
theorem Wx.start {w1 W:World} {wb n:Nat} {f:Nat→C5} (h:Wx w1 wb n W f):Wx W wb n W f:=⟨Pst.refl _ _,h.c⟩
theorem Wx.cell {w1 W:World} {wb n:Nat} {f:Nat→C5} (h:Wx w1 wb n W f) {j:Nat} (hj:j < n):W.cell? ⟨wb,j*5+1,none⟩=some (.int .i64 (f j).b)∧W.cell? ⟨wb,j*5+2,none⟩=some (.int .i64 (f j).c)∧W.cell? ⟨wb,j*5+4,none⟩=some (.int .i64 (f j).e):=by
 obtain ⟨cur,hc,-,r⟩:=h.c
 exact ⟨by rw [blk5_cell hc];exact r j hj 1 _ rfl,by rw [blk5_cell hc];exact r j hj 2 _ rfl,by rw [blk5_cell hc];exact r j hj 4 _ rfl⟩
theorem Wx.free {w1 W:World} {wb n:Nat} {f:Nat→C5} (h:Wx w1 wb n W f) (i:Nat):W.frozen? ⟨wb,i,none⟩=false:=by
 obtain ⟨cur,hc,-⟩:=h.c
 exact blk5_frozen hc i
theorem Wx.set {w1 W:World} {wb n:Nat} {f g:Nat→C5} (h:Wx w1 wb n W f) {j i:Nat} {v:Value} (hj:j < n) (hi:i < 5) (hg:∀t,t≠j→g t=f t) (hv:(g j).cells[i]?=some v) (ho:∀k,k≠i→(g j).cells[k]?=(f j).cells[k]?):Wx w1 wb n (W.setCell ⟨wb,j*5+i,none⟩ v) g:=by
 refine ⟨h.p.set _ _,?_⟩
 obtain ⟨cur,hc,hs,r⟩:=h.c
 refine ⟨cur.setIfInBounds (j*5+i) v,blk5_set hc _ _,by rw [Array.size_setIfInBounds];exact hs,fun t ht k u hu=>?_⟩
 have hk:k < 5:=by have:=(List.getElem?_eq_some_iff.1 hu).1;simpa [C5.cells] using this
 rw [Array.getElem?_setIfInBounds]
 by_cases e:t=j
 ·subst e
  by_cases e2:k=i
  ·subst e2
   rw [if_pos rfl,if_pos (by omega)]
   rw [hv] at hu;exact hu
  ·rw [if_neg (by omega)]
   rw [ho k e2] at hu
   exact r t ht k u hu
 ·rw [if_neg (by omega)]
  rw [hg t e] at hu
  exact r t ht k u hu
def upC (f:Nat→C5) (j:Nat) (x:C5):Nat→C5:=fun t=>if t=j then x else f t
theorem upC_at (f:Nat→C5) (j:Nat) (x:C5):upC f j x j=x:=if_pos rfl
theorem upC_ne {f:Nat→C5} {j t:Nat} {x:C5} (h:t≠j):upC f j x t=f t:=if_neg h
theorem upC_up (f:Nat→C5) (j:Nat) (x y:C5):upC (upC f j x) j y=upC f j y:=by
 funext t;unfold upC;split<;>rfl
theorem Wx.set1 {w1 W:World} {wb n:Nat} {f:Nat→C5} (h:Wx w1 wb n W f) {j:Nat} (hj:j < n) (v:Int):Wx w1 wb n (W.setCell ⟨wb,j*5+1,none⟩ (.int .i64 v)) (upC f j ⟨(f j).a,v,(f j).c,(f j).d,(f j).e⟩):=
 h.set hj (by omega) (fun t ht=>upC_ne ht) (by rw [upC_at];rfl) (fun k hk=>by
  rw [upC_at]
  match k,hk with
  | 0,_=>rfl
  | 1,hk=>exact absurd rfl hk
  | 2,_=>rfl
  | 3,_=>rfl
  | 4,_=>rfl
  | k+5,_=>rfl)
theorem Wx.set2 {w1 W:World} {wb n:Nat} {f:Nat→C5} (h:Wx w1 wb n W f) {j:Nat} (hj:j < n) (v:Int):Wx w1 wb n (W.setCell ⟨wb,j*5+2,none⟩ (.int .i64 v)) (upC f j ⟨(f j).a,(f j).b,v,(f j).d,(f j).e⟩):=
 h.set hj (by omega) (fun t ht=>upC_ne ht) (by rw [upC_at];rfl) (fun k hk=>by
  rw [upC_at]
  match k,hk with
  | 0,_=>rfl
  | 1,_=>rfl
  | 2,hk=>exact absurd rfl hk
  | 3,_=>rfl
  | 4,_=>rfl
  | k+5,_=>rfl)
theorem Wx.set4 {w1 W:World} {wb n:Nat} {f:Nat→C5} (h:Wx w1 wb n W f) {j:Nat} (hj:j < n) (v:Int):Wx w1 wb n (W.setCell ⟨wb,j*5+4,none⟩ (.int .i64 v)) (upC f j ⟨(f j).a,(f j).b,(f j).c,(f j).d,v⟩):=
 h.set hj (by omega) (fun t ht=>upC_ne ht) (by rw [upC_at];rfl) (fun k hk=>by
  rw [upC_at]
  match k,hk with
  | 0,_=>rfl
  | 1,_=>rfl
  | 2,_=>rfl
  | 3,_=>rfl
  | 4,hk=>exact absurd rfl hk
  | k+5,_=>rfl)
theorem Wx.base {w w1 W:World} {wb n:Nat} {f:Nat→C5} (h:Wx w1 wb n W f) (hb:Below w.heap.size w w1) (hn:w.heap.size≤wb):Below w.heap.size w W:=hb.trans (h.p.base (fun b hb=>by rw [hb];exact hn) hb.size)
theorem Wx.keep {α:Type} {E:Rd α} {sz:Nat} (g:Good E sz) {w1 W:World} {wb n:Nat} {f:Nat→C5} {a:α} {cs:List Value} {S:Nat→Prop} (h:Wx w1 wb n W f) (hr:E w1 S a cs) (hS:∀b,S b→b < w1.heap.size∧b≠wb):E W (lt_ W.heap.size) a cs:=h.p.keep g hr hS
theorem add11_0 (b k:Nat):(⟨b,0,none⟩:Addr).add k=⟨b,k,none⟩:=by unfold Addr.add;split<;>simp_all
theorem Wx.made {w W:World} {n:Nat} (hr:W.ownsRow w.heap.size 39 5 (.slice (some ⟨w.heap.size,0,none⟩) n n) n (madeCells zC.val.cells (n*5)).toList):Wx W w.heap.size n W (fun _=>zC):=by
 refine ⟨Pst.refl _ _,?_⟩
 obtain ⟨-,h⟩:=hr
 rcases h with ⟨h,-⟩|⟨g,cap,cur,h,-,hc,-,-,hs,ht⟩
 ·simp at h
 ·simp only [Value.slice.injEq,Option.some.injEq,Addr.mk.injEq,and_true,true_and] at h
  obtain ⟨rfl,rfl⟩:=h
  refine ⟨cur,hc,hs,fun j hj i v hi=>?_⟩
  have hi5:i < 5:=by have:=(List.getElem?_eq_some_iff.1 hi).1;simpa [C5.cells] using this
  have e:cur.toList=(madeCells zC.val.cells (n*5)).toList:=by
   rw [←ht,List.take_of_length_le]
   rw [Array.length_toList,hs];exact Nat.le_refl _
  have e2:cur=madeCells zC.val.cells (n*5):=Array.toList_inj.1 e
  rw [e2]
  have hm:(j*5+i) % 5=i:=by omega
  have hlt:j*5+i < n*5:=by omega
  have hv:v=.int .i64 0:=by
   match i,hi5,hi with
   | 0,_,hi=>exact (Option.some.inj hi).symm
   | 1,_,hi=>exact (Option.some.inj hi).symm
   | 2,_,hi=>exact (Option.some.inj hi).symm
   | 3,_,hi=>exact (Option.some.inj hi).symm
   | 4,_,hi=>exact (Option.some.inj hi).symm
  rw [hv]
  unfold madeCells
  rw [Array.getElem?_map,Array.getElem?_range,if_pos hlt]
  show some ((zC.val.cells:Array Value)[(j*5+i) % 5]!)=_
  rw [hm]
  match i,hi5 with
  | 0,_=>rfl
  | 1,_=>rfl
  | 2,_=>rfl
  | 3,_=>rfl
  | 4,_=>rfl
theorem Wx.read {w1 W:World} {wb n:Nat} {f:Nat→C5} (h:Wx w1 wb n W f) (hn:n≤maxLen):rdCs W (lt_ W.heap.size) ((List.range n).map f) [.slice (some ⟨wb,0,none⟩) n n]:=by
 obtain ⟨cur,hc,hs,r⟩:=h.c
 refine ⟨some ⟨wb,0,none⟩,n,by rw [List.length_map,List.length_range],by rw [List.length_map,List.length_range];exact Nat.le_refl _,hn,fun k hk=>?_⟩
 have hk':k < n:=by rw [List.length_map,List.length_range] at hk;exact hk
 refine ⟨⟨wb,0,none⟩,(f k).cells,rfl,lt_of_heap hc,by rw [List.getElem_map,List.getElem_range];rfl,rfl,fun j u hu=>?_⟩
 rw [add11_0,blk5_cell hc]
 exact r k hk' j u hu
theorem nmU_all:∀{U:List Ent} {p:Option ByteArray} {x:Ent},x ∈ U→x.n ∈ nmU p U∨p=some x.n
 | [],_,_,h=>absurd h List.not_mem_nil
 | y::r,p,x,h=>by
  rw [nmU_cons]
  rcases List.mem_cons.1 h with rfl|h
  ·split
   ·next e=>exact .inr (by simpa using e)
   ·exact .inl (List.mem_cons_self ..)
  ·rcases nmU_all (p:=some y.n) h with q|q
   ·refine .inl ?_
    split
    ·next e=>rw [e];exact q
    ·exact List.mem_cons_of_mem _ q
   ·have q':y.n=x.n:=Option.some.inj q
    split
    ·next e=>exact .inr (by rw [←q'];simpa using e)
    ·exact .inl (by rw [←q'];exact List.mem_cons_self ..)
structure Wv (U:List Ent) (here:List Int) (pn:List Pn) (up:Bool) (names:List ByteArray) (own:List Int) (f:Nat→C5):Prop where
 one:∀i,i < U.length→f i=zC∨f i=wgC U here pn up (i:Int)
 nms:∀i (hi:i < U.length),U[i].n ∈ names→f i=wgC U here pn up (i:Int)
 own:∀i,i < U.length→(i:Int) ∈ own→f i=wgC U here pn up (i:Int)
theorem Wv.init (U:List Ent) (here:List Int) (pn:List Pn) (up:Bool):Wv U here pn up [] [] (fun _=>zC):=⟨fun _ _=>.inl rfl,fun _ _ h=>absurd h List.not_mem_nil,fun _ _ h=>absurd h List.not_mem_nil⟩
theorem Wv.step {U:List Ent} {here:List Int} {pn:List Pn} {up:Bool} {names:List ByteArray} {own:List Int} {f:Nat→C5} {q j:Nat} (h:Wv U here pn up names (own.take q) f) (hq:q < own.length) (hj:own[q]=(j:Int)):Wv U here pn up names (own.take (q+1)) (upC f j (wgC U here pn up (j:Int))):=by
 refine ⟨fun i hi=>?_,fun i hi hm=>?_,fun i hi hm=>?_⟩
 ·by_cases e:i=j
  ·subst e;rw [upC_at];exact .inr rfl
  ·rw [upC_ne e];exact h.one i hi
 ·by_cases e:i=j
  ·subst e;rw [upC_at]
  ·rw [upC_ne e];exact h.nms i hi hm
 ·by_cases e:i=j
  ·subst e;rw [upC_at]
  ·rw [upC_ne e]
   rw [List.take_succ_eq_append_getElem hq] at hm
   rcases List.mem_append.1 hm with hm|hm
   ·exact h.own i hi hm
   ·rw [List.mem_singleton,hj] at hm
    exact absurd (by omega) e
theorem Wv.done {U:List Ent} {here:List Int} {pn:List Pn} {up:Bool} {names:List ByteArray} {nm:ByteArray} {f:Nat→C5} (h:Wv U here pn up names (ixU (isN nm) U 0) f):Wv U here pn up (names++[nm]) [] f:=by
 refine ⟨h.one,fun i hi hm=>?_,fun _ _ h=>absurd h List.not_mem_nil⟩
 rcases List.mem_append.1 hm with hm|hm
 ·exact h.nms i hi hm
 ·refine h.own i hi ((own_mem (by omega) (by omega)).2 ?_)
  rw [entA_at hi]
  exact List.mem_singleton.1 hm
theorem Wv.fresh {U:List Ent} {here:List Int} {pn:List Pn} {up:Bool} {names:List ByteArray} {f:Nat→C5} (h:Wv U here pn up names [] f) (own:List Int):Wv U here pn up names (own.take 0) f:=by
 rw [List.take_zero];exact h
theorem Wv.all {U:List Ent} {here:List Int} {pn:List Pn} {up:Bool} {f:Nat→C5} (h:Wv U here pn up (nmU none U) [] f):(List.range U.length).map f=wgCs U here pn up:=by
 refine List.ext_getElem (by rw [List.length_map,List.length_range,wgCs_len]) fun i h1 h2=>?_
 rw [wgCs_at h2,List.getElem_map,List.getElem_range]
 have hi:i < U.length:=by rwa [List.length_map,List.length_range] at h1
 rcases nmU_all (p:=none) (List.getElem_mem hi) with q|q
 ·exact h.nms i hi q
 ·cases q
theorem wg_row {U:List Ent} {here:List Int} {pn:List Pn} {up:Bool} (hh:SetP U.length here) (hn:NmB U here) {j:Nat} (hj:j < U.length) {x:C5} (hx:x=zC∨x=wgC U here pn up (j:Int)) :
  (⟨x.a,los U pn (j:Int),if up=true then bhd U here pn (j:Int) else if (shr (ixU (isN U[j].n) U 0) here&&!here.contains (j:Int))=true then 1 else x.c,x.d,if shr (ixU (isN U[j].n) U 0) here=true then x.e else 1⟩:C5)=wgC U here pn up (j:Int):=by
 have e:=entA_at hj
 have k:=shr_known hh U[j].n
 have w2:=w2_prog (pn:=pn) hh hn (j:Int)
 have w4:w4P U here (j:Int)=if inP U here (entA U (j:Int)).n < 0 then 1 else 0:=rfl
 rw [e] at w2 w4
 have wc:wgC U here pn up (j:Int)=⟨0,los U pn (j:Int),w2P U here pn up (j:Int),0,w4P U here (j:Int)⟩:=rfl
 rw [k]
 by_cases g:0≤inP U here U[j].n
 ·have w4':w4P U here (j:Int)=0:=by rw [w4,if_neg (by omega)]
  rw [decide_eq_true g]
  cases up
  ·by_cases c:(j:Int) ∈ here
   ·have c':here.contains (j:Int)=true:=by simpa using c
    have w2':w2P U here pn false (j:Int)=0:=by rw [w2,if_neg fun q=>q.2 c]
    rcases hx with rfl|rfl<;>simp only [wc,w2',w4',zC,c']<;>rfl
   ·have c':here.contains (j:Int)=false:=by simpa using c
    have w2':w2P U here pn false (j:Int)=1:=by rw [w2,if_pos ⟨g,c⟩]
    rcases hx with rfl|rfl<;>simp only [wc,w2',w4',zC,c']<;>rfl
  ·have w2':w2P U here pn true (j:Int)=bhd U here pn (j:Int):=if_pos rfl
   rcases hx with rfl|rfl<;>simp only [wc,w2',w4',zC]<;>rfl
 ·have w4':w4P U here (j:Int)=1:=by rw [w4,if_pos (by omega)]
  rw [decide_eq_false g]
  cases up
  ·have w2':w2P U here pn false (j:Int)=0:=by rw [w2,if_neg fun q=>g q.1]
   rcases hx with rfl|rfl<;>simp only [wc,w2',w4',zC]<;>rfl
  ·have w2':w2P U here pn true (j:Int)=bhd U here pn (j:Int):=if_pos rfl
   rcases hx with rfl|rfl<;>simp only [wc,w2',w4',zC]<;>rfl
set_option maxHeartbeats 32000000 in
theorem cwgt_any (b:Nat) (U:List Ent) (m:List Hr) (A:Option Addr) (np c:Nat) (pn:List Pn) (up:Bool) (w:World) (h:UQ w b U m) (hpn:rdPns w (lt_ w.heap.size) pn [.slice A np c]) (hins:SetP U.length (insU U m)) (hone:NmB U (insU U m)) (hnm:∀x ∈ U,x.n.size≤1000000) :
  Calls Tryz.prog 17 #[.pointer (some ⟨b,0,none⟩),.slice A np c,.bool up] w fun e w'=>(∃A c,e=.returned (.tuple #[.slice A (wgA U (insU U m) pn up).length c,.int .i64 (wgE pn)])∧rdCs w' (lt_ w'.heap.size) (wgA U (insU U m) pn up) [.slice A (wgA U (insU U m) pn up).length c])∧Below w.heap.size w w':=by
 have hmixed:Tryz.prog.follows .mixedOrders=true:=by kernel_rfl
 obtain ⟨fi,hi,hz0,hz1,hz2⟩:=info_parts cost11_info
 have KR:=Lib.hid (crightp_any A np c pn w hpn)
 have KE:=Lib.hid (fun (W:World) (hb:Below w.heap.size w W)=>entries9_any b U m W (h.up.below hb) (by have:=h.len;omega))
 have KI:=Lib.hid (fun (W:World) (hb:Below w.heap.size w W)=>inst9_any b U m W (h.up.below hb) h.hm h.hz)
 have KA:=Lib.hid (fun (W:World) (hb:Below w.heap.size w W)=>callow_any b U m A np c pn W (h.below hb) (rdPns_good.up (rdPns_good.below hpn hb) hb.size))
 have KN:=Lib.hid (fun (W:World) (hb:Below w.heap.size w W)=>names9O_any b U m W (h.up.below hb) h.len)
 have KO:=Lib.hid (fun (nm:ByteArray) (hz:nm.size≤1000000) (W:World) (hb:Below w.heap.size w W)=>of9O_any b U m nm W (h.up.below hb) h.len hz)
 have KL:=Lib.hid (fun (hB:Bd8 pn) (nm:ByteArray) (Aa:Option Addr) (ca:Nat) (all:List ByteArray) (v:ByteArray) (W:World) (hb:Below w.heap.size w W) hra=>ploss_any A np c pn nm Aa all.length ca all v W (rdPns_good.up (rdPns_good.below hpn hb) hb.size) hra hB)
 have UL:=Lib.hid h.len
 have NZ:=Lib.hid (show ∀nm ∈ nmU none U,nm.size≤1000000 from fun nm hm=>by obtain ⟨x,hx,rfl⟩:=nmU_mem hm;exact hnm x hx)
 have NL:=Lib.hid (show ∀nm,(ixU (isN nm) U 0).length≤200 from fun nm=>by have:=ixU_len10 (isN nm) U 0;have:=h.len;omega)
 clear h hnm
 have HINS:=Lib.hid hins
 have HONE:=Lib.hid hone
 generalize hhere:insU U m=here at *
 clear hhere hins hone
 cases hrt:pn.all rgtN
 ·have XA:=Lib.hid (show wgA U here pn up=[] by unfold wgA;rw [hrt];rfl)
  have XE:=Lib.hid (show wgE pn=1 by unfold wgE;rw [hrt];rfl)
  rw [hrt] at KR
  generalize wgA U here pn up=R at *
  generalize wgE pn=E at *
  go_enter Tryz.func17,Tryz.ntmps17
  go_wp2_with fail
  refine KR.out.mono ?_
  rintro e w1 ⟨rfl,hb⟩
  have B1:=Lib.hid hb
  have X1:=XA.out
  subst X1
  clear hb KR KE KI KA KN KO KL hrt
  go_wp2
  go_ret2
  exact ⟨⟨none,0,by rw [XE.out];try rfl,rdRow_nil _ _⟩,B1.out⟩
 have XA:=Lib.hid (show wgA U here pn up=wgCs U here pn up by unfold wgA;rw [hrt];rfl)
 have XE:=Lib.hid (show wgE pn=0 by unfold wgE;rw [hrt];rfl)
 have KL:=Lib.hid (KL.out (rgt_bd hrt).2)
 rw [hrt] at KR
 clear hrt hpn
 generalize wgA U here pn up=R at *
 generalize wgE pn=E at *
 go_enter Tryz.func17,Tryz.ntmps17
 go_wp2_with fail
 refine KR.out.mono ?_
 rintro e w1 ⟨rfl,hb⟩
 have B1:=Lib.hid hb
 clear hb KR
 go_wp2_with fail
 refine (KE.out w1 B1.out).mono ?_
 rintro e w2 ⟨⟨Ae,ce,rfl,hre⟩,hb⟩
 have B2:=Lib.hid (bel_in B1.out hb)
 obtain ⟨-,hec,hem,-⟩:=rdEnts_at hre
 have hem':ce≤9223372036854775807:=hem
 clear hb hem KE
 go_wp2_with fail
 refine (KI.out w2 B2.out).mono ?_
 rintro e w3 ⟨⟨Ai,ci,rfl,hri⟩,hb⟩
 have B3:=Lib.hid (bel_in B2.out hb)
 have Q3:=Lib.hid hb
 clear hb KI
 go_wp2_with fail
 refine (KA.out w3 B3.out).mono ?_
 rintro e w4 ⟨⟨Am,cm,rfl,hrm⟩,hb⟩
 have B4:=Lib.hid (bel_in B3.out hb)
 have Q4:=Lib.hid (bel_in Q3.out hb)
 have P4:=Lib.hid hb
 have ul:=UL.out
 have HRE:=Lib.hid (rdEnts_good.up (rdEnts_good.below hre Q4.out) Q4.out.size:rdEnts w4 (lt_ w4.heap.size) U [.slice Ae U.length ce])
 have HRI:=Lib.hid (rdInts_good.up (rdInts_good.below hri P4.out) P4.out.size:rdInts w4 (lt_ w4.heap.size) here [.slice Ai here.length ci])
 have HRM:=Lib.hid hrm
 generalize hmay:alw U here pn=may at *
 clear hb hre hri hrm KA Q3 Q4 P4
 go_wp2_with (at_make;refine wpList_make_full w4 rfl _ _ 43 rfl w4.heap.size 39 fi _ 5 Tryz.underlying43 hi hz0 hz1 .i64 .i64 (U.length:Int) (U.length:Int) U.length rfl rfl rfl rfl (by rw [hz2];omega) (by unfold maxLen;omega) (Nat.le_refl _) ?_)
 intro w5 hown hgr
 have B45:=Lib.hid (show Below w4.heap.size w4 w5 from ⟨hgr.os,hgr.tape,hgr.output,hgr.size,fun k hk=>hgr.block k hk (by simp)⟩)
 have B5:=Lib.hid (bel_in B4.out B45.out)
 have WX5:=Lib.hid (Wx.made hown)
 clear hown hgr
 go_wp2_with fail
 refine (KN.out w5 B5.out).mono ?_
 rintro e w6 ⟨⟨An,cn,rfl,hrn⟩,hb⟩
 have B46:=Lib.hid (show Below w4.heap.size w4 w6 from bel_in B45.out hb)
 have LTW:=WX5.out.lt
 have WX6:=Lib.hid (WX5.out.call hb).start
 have HBW:=Lib.hid (fun (W:World) (f:Nat→C5) (hx:Wx w6 w4.heap.size U.length W f)=>hx.base B46.out (Nat.le_refl _))
 have HW0:=Lib.hid (fun (W:World) (f:Nat→C5) (hx:Wx w6 w4.heap.size U.length W f)=>bel_in B4.out (HBW.out W f hx))
 have HEW:=Lib.hid (fun (W:World) (f:Nat→C5) (hx:Wx w6 w4.heap.size U.length W f)=>(rdEnts_good.up (rdEnts_good.below HRE.out (HBW.out W f hx)) (HBW.out W f hx).size:rdEnts W (lt_ W.heap.size) U [.slice Ae U.length ce]))
 have HIW:=Lib.hid (fun (W:World) (f:Nat→C5) (hx:Wx w6 w4.heap.size U.length W f)=>(rdInts_good.up (rdInts_good.below HRI.out (HBW.out W f hx)) (HBW.out W f hx).size:rdInts W (lt_ W.heap.size) here [.slice Ai here.length ci]))
 have HMW:=Lib.hid (fun (W:World) (f:Nat→C5) (hx:Wx w6 w4.heap.size U.length W f)=>(rdInts_good.up (rdInts_good.below HRM.out (HBW.out W f hx)) (HBW.out W f hx).size:rdInts W (lt_ W.heap.size) may [.slice Am may.length cm]))
 obtain ⟨-,hnc,hnm',-⟩:=rdBas_at (show rdBas w6 _ (nmU none U) [.slice An (nmU none U).length cn] from hrn)
 have hnm'':cn≤9223372036854775807:=hnm'
 have HNW:=Lib.hid (fun (W:World) (f:Nat→C5) (hx:Wx w6 w4.heap.size U.length W f)=>(rdBas_at (show rdBas W (lt_ W.heap.size) (nmU none U) [.slice An (nmU none U).length cn] from hx.keep rdNms_good hrn fun k hk=>⟨hk.2,by have:=hk.1;omega⟩)).2.2.2)
 have WV0:=Lib.hid (Wv.init U here pn up)
 have AL:=Lib.hid (fun (f:Nat→C5) (h:Wv U here pn up (nmU none U) [] f)=>h.all)
 clear hb hrn hnm' KN WX5 HRE HRI HRM B45 B5
 generalize nmU none U=names at *
 go_wp2
 go_loopw [36] (fun i wr=>∃k:Nat,k≤names.length∧i=.int .i64 k∧∃f,Wx w6 w4.heap.size U.length wr f∧Hid (Wv U here pn up (names.take k) [] f)) (fun i _=>names.length - (intOf i).toNat)
 case atStart=>exact ⟨0,Nat.zero_le _,rfl,_,WX6.out,WV0⟩
 case round=>
  obtain ⟨k,hk,rfl,f,hwx,HV⟩:=hrel
  have HX:=Lib.hid hwx
  clear hwx
  by_cases hlt:k < names.length
  ·obtain ⟨adn,rfl,-,c0⟩:=HNW.out wr f HX.out k hlt
   have i0:(0:Int)≤(k:Int):=by omega
   have i1:(k:Int) < (names.length:Int):=by omega
   have KOk:=Lib.hid (KO.out names[k] (NZ.out _ (List.getElem_mem hlt)))
   have VO:=Lib.hid (ver_own U names[k])
   have OS:=Lib.hid (own_set U (isN names[k]))
   have OL:=Lib.hid (NL.out names[k])
   have OM:=Lib.hid (fun (j:Nat) (hj:j < U.length) (h:(j:Int) ∈ ixU (isN names[k]) U 0)=>show U[j].n=names[k] from by have:=(own_mem (by omega) (by omega)).1 h;rwa [entA_at hj] at this)
   have DN:=Lib.hid (fun (g:Nat→C5) (h:Wv U here pn up (names.take k) (ixU (isN names[k]) U 0) g)=>show Wv U here pn up (names.take (k+1)) [] g from by rw [List.take_succ_eq_append_getElem hlt];exact h.done)
   have WG:=Lib.hid (fun (j:Nat) (hj:j < U.length) (hn:U[j].n=names[k]) (x:C5) (hx:x=zC∨x=wgC U here pn up (j:Int))=>show (⟨x.a,los U pn (j:Int),if up=true then bhd U here pn (j:Int) else if (shr (ixU (isN names[k]) U 0) here&&!here.contains (j:Int))=true then 1 else x.c,x.d,if shr (ixU (isN names[k]) U 0) here=true then x.e else 1⟩:C5)=wgC U here pn up (j:Int) from by have:=wg_row (pn:=pn) (up:=up) HINS.out HONE.out hj hx;rwa [hn] at this)
   have LO:=Lib.hid (fun (j:Nat) (hj:j < U.length) (hn:U[j].n=names[k])=>show los U pn (j:Int)=lossN pn names[k] (verU U names[k]) U[j].v from by unfold los;rw [entA_at hj,hn])
   have AB:=Lib.hid (fun (j:Nat) (hj:j < U.length) (hn:U[j].n=names[k])=>show ((abv (ixU (isN names[k]) U 0) (alw U here pn) (j:Int):Nat):Int)=bhd U here pn (j:Int) from by have:=abv_bhd (U:=U) (here:=here) (pn:=pn) (p:=(j:Int)) (by omega) (by omega);rwa [entA_at hj,hn] at this)
   rw [hmay] at AB
   generalize hnm:names[k]=nm at *
   clear hnm
   generalize hown:ixU (isN nm) U 0=own at *
   clear hown
   go_wp2_with fail
   refine (KOk.out wr (HW0.out _ _ HX.out)).mono ?_
   rintro e w7 ⟨⟨Ao,co,rfl,hro⟩,hb⟩
   have WX7:=Lib.hid (HX.out.call hb)
   have S7:=Lib.hid hb.size
   have LT:=HX.out.lt
   obtain ⟨-,hoc,hom,-⟩:=rdInts_at hro
   have hom':co≤9223372036854775807:=hom
   have KV:=Lib.hid (cver_any Ae U.length ce U Ao own.length co own w7 (HEW.out _ _ WX7.out) (rdInts_good.more hro fun k hk=>hk.2) OS.out.1 OL.out)
   rw [VO.out] at KV
   have HO7:=Lib.hid hro
   clear hb hro hom c0 VO KOk
   generalize verU U nm=all at *
   go_wp2_with fail
   refine KV.out.mono ?_
   rintro e w8 ⟨⟨Aa,ca,rfl,hra⟩,hb⟩
   have WX8:=Lib.hid (WX7.out.call hb)
   have S8:=Lib.hid hb.size
   have HO8:=Lib.hid (rdInts_good.keep (w':=w8) HO7.out fun k hk=>hb.block k hk.2)
   have HA8:=Lib.hid hra
   have KSH:=Lib.hid (cshare_any Ao own.length co own Ai here.length ci here w8 (rdInts_good.more HO8.out fun k hk=>show k < w8.heap.size by have:=hk.2;have:=hb.size;omega) (HIW.out _ _ WX8.out))
   clear hb hra KV HO7
   go_wp2_with fail
   refine KSH.out.mono ?_
   rintro e w9 ⟨rfl,hb⟩
   have WX9:=Lib.hid (WX8.out.call hb)
   have HO9:=Lib.hid (rdInts_good.keep (w':=w9) HO8.out fun k hk=>hb.block k (by have:=hk.2;have:=S8.out;omega))
   have HA9:=Lib.hid (rdBas_good.keep (w':=w9) HA8.out fun k hk=>hb.block k hk.2)
   have S9:=Lib.hid hb.size
   have TR:=Lib.hid (fun (W:World) (g:Nat→C5) (hx:Wx w9 w4.heap.size U.length W g)=>WX9.out.trans hx)
   have HOW:=Lib.hid (fun (W:World) (g:Nat→C5) (hx:Wx w9 w4.heap.size U.length W g)=>(hx.keep rdInts_good HO9.out fun k hk=>⟨by have:=hk.2;have:=S8.out;have:=S9.out;omega,by have:=hk.1;omega⟩:rdInts W (lt_ W.heap.size) own [.slice Ao own.length co]))
   have HAW:=Lib.hid (fun (W:World) (g:Nat→C5) (hx:Wx w9 w4.heap.size U.length W g)=>(hx.keep rdBas_good HA9.out fun k hk=>⟨by have:=hk.2;have:=S9.out;omega,by have:=hk.1;have:=S7.out;omega⟩:rdBas W (lt_ W.heap.size) all [.slice Aa all.length ca]))
   have WS:=Lib.hid WX9.out.start
   have FR:=Lib.hid (HV.out.fresh own)
   clear hb KSH HO8 HA8 HO9 HA9 WX7 WX8 WX9 HV LT
   generalize hkn:shr own here=kn at *
   clear hkn
   go_wp2
   go_loopw [51] (fun i wq=>∃q:Nat,q≤own.length∧i=.int .i64 q∧∃g,Wx w9 w4.heap.size U.length wq g∧Hid (Wv U here pn up (names.take k) (own.take q) g)) (fun i _=>own.length - (intOf i).toNat)
   case atStart=>exact ⟨0,Nat.zero_le _,rfl,_,WS.out,FR⟩
   case round=>
    clear WS FR
    obtain ⟨q,hq,rfl,g,hwx,HV⟩:=hrel
    have HG:=Lib.hid hwx
    clear hwx
    by_cases hqlt:q < own.length
    ·obtain ⟨ado,rfl,-,c1⟩:=(rdInts_at (HOW.out _ _ HG.out)).2.2.2 q hqlt
     obtain ⟨s0,s1⟩:=OS.out.1 _ (List.getElem_mem hqlt)
     obtain ⟨j,hj⟩:=Int.eq_ofNat_of_zero_le s0
     have hjm:(j:Int) ∈ own:=by rw [←hj];exact List.getElem_mem hqlt
     rw [hj] at c1 s1
     have hjl:j < U.length:=by omega
     have hjn:=OM.out j hjl hjm
     have HXJ:=HV.out.one j hjl
     have STP:=Lib.hid (HV.out.step hqlt hj)
     have W1:=Lib.hid (WG.out j hjl hjn (g j) HXJ)
     have L1:=Lib.hid (LO.out j hjl hjn)
     have A1:=Lib.hid (AB.out j hjl hjn)
     obtain ⟨ade,D1,d1,D2,d2,D3,d3,D4,d4,rfl,-,-,-,u1,-⟩:=(rdEnts_at (HEW.out _ _ (TR.out _ _ HG.out))).2.2.2 j hjl
     have CE:=Lib.hid (fun (V:World) (g:Nat→C5) (hx:Wx w9 w4.heap.size U.length V g)=>(show V.cell? ⟨(ade.add (j*6)).block,(ade.add (j*6)).off+1,none⟩=some (.string U[j].v) from by
      obtain ⟨ad',E1,e1,E2,e2,E3,e3,E4,e4,ea,-,-,-,u1,-⟩:=(rdEnts_at (HEW.out _ _ (TR.out _ _ hx))).2.2.2 j hjl
      obtain rfl:ade=ad':=Option.some.inj ea
      exact u1))
     have q0:(0:Int)≤(q:Int):=by omega
     have q1:(q:Int) < (own.length:Int):=by omega
     have p0:(0:Int)≤(j:Int):=by omega
     have p1:(j:Int) < (U.length:Int):=by omega
     generalize wgC U here pn up (j:Int)=wg at *
     generalize los U pn (j:Int)=lo at *
     generalize bhd U here pn (j:Int)=bh at *
     generalize U[j].v=vj at *
     generalize hgj:g j=x at *
     have GJ:=Lib.hid hgj
     clear hgj hj s0 hjm hjn HXJ u1
     have K14:=Lib.hid (fun (V:World) (g:Nat→C5) (hg:g j=x) (hx:Wx w9 w4.heap.size U.length V g)=>(show V.cell? ⟨(ade.add (j*6)).block,(ade.add (j*6)).off+1,none⟩=some (.string vj)∧V.cell? ⟨w4.heap.size,j*5+1,none⟩=some (.int .i64 x.b)∧V.frozen? ⟨w4.heap.size,j*5+1,none⟩=false from ⟨CE.out V g hx,by rw [←hg];exact (hx.cell hjl).1,hx.free _⟩))
     go_upto_region 14 with fail
     refine wp_region_noPanic ?_
     refine wp_region_D (fun W=>W.cell? ⟨(ade.add (j*6)).block,(ade.add (j*6)).off+1,none⟩=some (.string vj)∧W.cell? ⟨w4.heap.size,j*5+1,none⟩=some (.int .i64 x.b)∧W.frozen? ⟨w4.heap.size,j*5+1,none⟩=false) 12 (by kernel_rfl) (w0:=wr) (Dr.refl _) (fun V hV=>(K14.out V g GJ.out (HG.out.call (hV.below _)))) (fun V hV hHeld=>?_)
     have BV:=Lib.hid (HG.out.call (hV.below _))
     clear hV
     refine wpAnyL_take (i:=0) (v:=?_) [11] rfl (by kernel_rfl) (by kernel_rfl) (by kernel_rfl) (fun _ _ _ h=>h) (by kernel_rfl) (by kernel_rfl) (by kernel_rfl) (Or.inl ⟨by rfl,?_⟩) (by assumption) ?_
     rotate_left
     ·intro w hSw
      try dsimp only at hSw
      go_simp
      first|done|with_reducible rfl
     try simp only [Act.put,List.setIfInBounds_toArray,List.set_cons_zero,List.set_cons_succ]
     refine wpAnyL_take (i:=1) (v:=?_) [11] rfl (by kernel_rfl) (by kernel_rfl) (by kernel_rfl) (fun _ _ _ h=>h) (by kernel_rfl) (by kernel_rfl) (by kernel_rfl) (Or.inl ⟨by rfl,?_⟩) (by assumption) ?_
     rotate_left
     ·intro w hSw
      try dsimp only at hSw
      go_simp
      first|done|with_reducible rfl
     try simp only [Act.put,List.setIfInBounds_toArray,List.set_cons_zero,List.set_cons_succ]
     refine wpAnyL_take (i:=2) (v:=?_) [11] rfl (by kernel_rfl) (by kernel_rfl) (by kernel_rfl) (fun _ _ _ h=>h) (by kernel_rfl) (by kernel_rfl) (by kernel_rfl) (Or.inl ⟨by rfl,?_⟩) (by assumption) ?_
     rotate_left
     ·intro w hSw
      try dsimp only at hSw
      go_simp
      first|done|with_reducible rfl
     try simp only [Act.put,List.setIfInBounds_toArray,List.set_cons_zero,List.set_cons_succ]
     refine wpAnyL_take (i:=3) (v:=?_) [11] rfl (by kernel_rfl) (by kernel_rfl) (by kernel_rfl) (fun _ _ _ h=>h) (by kernel_rfl) (by kernel_rfl) (by kernel_rfl) (Or.inl ⟨by rfl,?_⟩) (by assumption) ?_
     rotate_left
     ·intro w hSw
      try dsimp only at hSw
      go_simp
      first|done|with_reducible rfl
     try simp only [Act.put,List.setIfInBounds_toArray,List.set_cons_zero,List.set_cons_succ]
     refine wpAnyL_take (i:=4) (v:=?_) [11] rfl (by kernel_rfl) (by kernel_rfl) (by kernel_rfl) (fun _ _ _ h=>h) (by kernel_rfl) (by kernel_rfl) (by kernel_rfl) (Or.inl ⟨by rfl,?_⟩) (by assumption) ?_
     rotate_left
     ·intro w hSw
      try dsimp only at hSw
      go_simp
      first|done|with_reducible rfl
     try simp only [Act.put,List.setIfInBounds_toArray,List.set_cons_zero,List.set_cons_succ]
     refine wpAnyL_take (i:=5) (v:=?_) [11] rfl (by kernel_rfl) (by kernel_rfl) (by kernel_rfl) (fun _ _ _ h=>h) (by kernel_rfl) (by kernel_rfl) (by kernel_rfl) (Or.inl ⟨by rfl,?_⟩) (by assumption) ?_
     rotate_left
     ·intro w hSw
      try dsimp only at hSw
      go_simp
      first|done|with_reducible rfl
     try simp only [Act.put,List.setIfInBounds_toArray,List.set_cons_zero,List.set_cons_succ]
     refine wpAnyL_take (i:=6) (v:=?_) [11] rfl (by kernel_rfl) (by kernel_rfl) (by kernel_rfl) (fun _ _ _ h=>h) (by kernel_rfl) (by kernel_rfl) (by kernel_rfl) (Or.inl ⟨by rfl,?_⟩) (by assumption) ?_
     rotate_left
     ·intro w hSw
      try dsimp only at hSw
      go_simp
      first|done|with_reducible rfl
     try simp only [Act.put,List.setIfInBounds_toArray,List.set_cons_zero,List.set_cons_succ]
     refine wpAnyL_take (i:=7) (v:=?_) [11] rfl (by kernel_rfl) (by kernel_rfl) (by kernel_rfl) (fun _ _ _ h=>h) (by kernel_rfl) (by kernel_rfl) (by kernel_rfl) (Or.inl ⟨by rfl,?_⟩) (by assumption) ?_
     rotate_left
     ·intro w hSw
      try dsimp only at hSw
      go_simp
      first|done|with_reducible rfl
     try simp only [Act.put,List.setIfInBounds_toArray,List.set_cons_zero,List.set_cons_succ]
     refine wpAnyL_take (i:=8) (v:=?_) [11] rfl (by kernel_rfl) (by kernel_rfl) (by kernel_rfl) (fun _ _ _ h=>h) (by kernel_rfl) (by kernel_rfl) (by kernel_rfl) (Or.inl ⟨by rfl,?_⟩) (by assumption) ?_
     rotate_left
     ·intro w hSw
      try dsimp only at hSw
      go_simp
      first|done|with_reducible rfl
     try simp only [Act.put,List.setIfInBounds_toArray,List.set_cons_zero,List.set_cons_succ]
     refine wpAnyL_take (i:=10) (v:=?_) [11] rfl (by kernel_rfl) (by kernel_rfl) (by kernel_rfl) (fun _ _ _ h=>h) (by kernel_rfl) (by kernel_rfl) (by kernel_rfl) (Or.inl ⟨by rfl,?_⟩) (by assumption) ?_
     rotate_left
     ·intro w hSw
      try dsimp only at hSw
      go_simp
      first|done|with_reducible rfl
     try simp only [Act.put,List.setIfInBounds_toArray,List.set_cons_zero,List.set_cons_succ]
     refine wpAnyL_one (i:=9) (by kernel_rfl) rfl (fun K hK=>?_)
     go_simp
     refine (KL.out nm Aa ca all vj V (HW0.out _ _ (TR.out _ _ BV.out)) (HAW.out _ _ BV.out)).mono ?_
     rintro e V2 ⟨rfl,hb⟩
     have BV2:=Lib.hid (BV.out.call hb)
     clear hb
     go_wp2_with fail
     refine hK.out _ _ (K14.out _ g GJ.out BV2.out) (fun hHeld=>?_)
     clear hK K
     try simp only [Act.put,List.setIfInBounds_toArray,List.set_cons_zero,List.set_cons_succ]
     refine wpAnyL_one (i:=11) (by kernel_rfl) rfl (fun K hK=>?_)
     go_simp
     refine hK.out _ _ (K14.out _ g GJ.out BV2.out) (fun hHeld=>?_)
     clear hK K
     try simp only [Act.put,List.setIfInBounds_toArray,List.set_cons_zero,List.set_cons_succ]
     obtain ⟨f0,f1,f2⟩:=hHeld
     refine wpAnyL_last (by kernel_rfl) rfl (by kernel_rfl) (fun K hK=>?_)
     go_simp
     refine hK.out _ _ ?_
     clear hK K
     refine NoPanic.normal ?_
     rw [←L1.out]
     have BA:=Lib.hid (show Wx w9 w4.heap.size U.length (V2.setCell ⟨w4.heap.size,j*5+1,none⟩ (.int .i64 lo)) (upC g j ⟨x.a,lo,x.c,x.d,x.e⟩) from by
      have:=BV2.out.set1 hjl lo
      rwa [GJ.out] at this)
     clear f0 f1 f2 BV BV2 K14 HG
     generalize V2.setCell ⟨w4.heap.size,j*5+1,none⟩ (.int .i64 lo)=VA at *
     cases up
     ·cases kn
      ·skip
       obtain ⟨-,-,x4⟩:=BA.out.cell hjl
       rw [upC_at] at x4
       have f4:=BA.out.free (j*5+4)
       have FIN:=Lib.hid (show Wx w9 w4.heap.size U.length (VA.setCell ⟨w4.heap.size,j*5+4,none⟩ (.int .i64 1)) (upC g j wg) from by
        have:=BA.out.set4 hjl 1
        rw [upC_at,upC_up] at this
        have R:(⟨x.a,lo,x.c,x.d,1⟩:C5)=wg:=W1.out
        rw [←R];exact this)
       go_wp2
       go_roundw
       case rel=>exact ⟨q+1,by omega,by go_num,_,FIN.out,STP⟩
       case measure=>simp [intOf];omega
      ·skip
       have KCI:=Lib.hid (ccont_any Ai here.length ci here (j:Int) VA (HIW.out _ _ (TR.out _ _ BA.out)))
       generalize here.contains (j:Int)=ct at *
       go_wp2_with fail
       refine KCI.out.mono ?_
       rintro e w10 ⟨rfl,rfl⟩
       cases ct
       ·obtain ⟨-,x2,-⟩:=BA.out.cell hjl
        rw [upC_at] at x2
        have f2:=BA.out.free (j*5+2)
        have FIN:=Lib.hid (show Wx w9 w4.heap.size U.length (VA.setCell ⟨w4.heap.size,j*5+2,none⟩ (.int .i64 1)) (upC g j wg) from by
         have:=BA.out.set2 hjl 1
         rw [upC_at,upC_up] at this
         have R:(⟨x.a,lo,1,x.d,x.e⟩:C5)=wg:=W1.out
         rw [←R];exact this)
        go_wp2
        go_roundw
        case rel=>exact ⟨q+1,by omega,by go_num,_,FIN.out,STP⟩
        case measure=>simp [intOf];omega
       ·have FIN:=Lib.hid (show Wx w9 w4.heap.size U.length VA (upC g j wg) from by
         have R:(⟨x.a,lo,x.c,x.d,x.e⟩:C5)=wg:=W1.out
         rw [←R];exact BA.out)
        go_wp2
        go_roundw
        case rel=>exact ⟨q+1,by omega,by go_num,_,FIN.out,STP⟩
        case measure=>simp [intOf];omega
     ·skip
      have K16:=Lib.hid (fun (V:World) (hx:Wx w9 w4.heap.size U.length V (upC g j ⟨x.a,lo,x.c,x.d,x.e⟩))=>(show V.cell? ⟨w4.heap.size,j*5+2,none⟩=some (.int .i64 x.c)∧V.frozen? ⟨w4.heap.size,j*5+2,none⟩=false∧True from ⟨by have:=(hx.cell hjl).2.1;rwa [upC_at] at this,hx.free _,trivial⟩))
      go_upto_region 16 with fail
      refine wp_region_noPanic ?_
      refine wp_region_D (fun W=>W.cell? ⟨w4.heap.size,j*5+2,none⟩=some (.int .i64 x.c)∧W.frozen? ⟨w4.heap.size,j*5+2,none⟩=false∧True) 7 (by kernel_rfl) (w0:=VA) (Dr.refl _) (fun V hV=>(K16.out V (BA.out.call (hV.below _)))) (fun V hV hHeld=>?_)
      have BV:=Lib.hid (BA.out.call (hV.below _))
      clear hV
      refine wpAnyL_take (i:=0) (v:=?_) [6] rfl (by kernel_rfl) (by kernel_rfl) (by kernel_rfl) (fun _ _ _ h=>h) (by kernel_rfl) (by kernel_rfl) (by kernel_rfl) (Or.inl ⟨by rfl,?_⟩) (by assumption) ?_
      rotate_left
      ·intro w hSw
       try dsimp only at hSw
       go_simp
       first|done|with_reducible rfl
      try simp only [Act.put,List.setIfInBounds_toArray,List.set_cons_zero,List.set_cons_succ]
      refine wpAnyL_take (i:=1) (v:=?_) [6] rfl (by kernel_rfl) (by kernel_rfl) (by kernel_rfl) (fun _ _ _ h=>h) (by kernel_rfl) (by kernel_rfl) (by kernel_rfl) (Or.inl ⟨by rfl,?_⟩) (by assumption) ?_
      rotate_left
      ·intro w hSw
       try dsimp only at hSw
       go_simp
       first|done|with_reducible rfl
      try simp only [Act.put,List.setIfInBounds_toArray,List.set_cons_zero,List.set_cons_succ]
      refine wpAnyL_take (i:=2) (v:=?_) [6] rfl (by kernel_rfl) (by kernel_rfl) (by kernel_rfl) (fun _ _ _ h=>h) (by kernel_rfl) (by kernel_rfl) (by kernel_rfl) (Or.inl ⟨by rfl,?_⟩) (by assumption) ?_
      rotate_left
      ·intro w hSw
       try dsimp only at hSw
       go_simp
       first|done|with_reducible rfl
      try simp only [Act.put,List.setIfInBounds_toArray,List.set_cons_zero,List.set_cons_succ]
      refine wpAnyL_take (i:=3) (v:=?_) [6] rfl (by kernel_rfl) (by kernel_rfl) (by kernel_rfl) (fun _ _ _ h=>h) (by kernel_rfl) (by kernel_rfl) (by kernel_rfl) (Or.inl ⟨by rfl,?_⟩) (by assumption) ?_
      rotate_left
      ·intro w hSw
       try dsimp only at hSw
       go_simp
       first|done|with_reducible rfl
      try simp only [Act.put,List.setIfInBounds_toArray,List.set_cons_zero,List.set_cons_succ]
      refine wpAnyL_take (i:=5) (v:=?_) [6] rfl (by kernel_rfl) (by kernel_rfl) (by kernel_rfl) (fun _ _ _ h=>h) (by kernel_rfl) (by kernel_rfl) (by kernel_rfl) (Or.inl ⟨by rfl,?_⟩) (by assumption) ?_
      rotate_left
      ·intro w hSw
       try dsimp only at hSw
       go_simp
       first|done|with_reducible rfl
      try simp only [Act.put,List.setIfInBounds_toArray,List.set_cons_zero,List.set_cons_succ]
      refine wpAnyL_one (i:=4) (by kernel_rfl) rfl (fun K hK=>?_)
      go_simp
      refine (cabove_any (some ado) own.length co own Am may.length cm may (j:Int) V (HOW.out _ _ BV.out) (HMW.out _ _ (TR.out _ _ BV.out)) (by have:=OL.out;omega)).mono ?_
      rintro e V2 ⟨rfl,rfl⟩
      have BV2:=BV
      go_wp2_with fail
      refine hK.out _ _ (K16.out _ BV2.out) (fun hHeld=>?_)
      clear hK K
      try simp only [Act.put,List.setIfInBounds_toArray,List.set_cons_zero,List.set_cons_succ]
      refine wpAnyL_one (i:=6) (by kernel_rfl) rfl (fun K hK=>?_)
      go_simp
      refine hK.out _ _ (K16.out _ BV2.out) (fun hHeld=>?_)
      clear hK K
      try simp only [Act.put,List.setIfInBounds_toArray,List.set_cons_zero,List.set_cons_succ]
      obtain ⟨f0,f1,f2⟩:=hHeld
      refine wpAnyL_last (by kernel_rfl) rfl (by kernel_rfl) (fun K hK=>?_)
      go_simp
      refine hK.out _ _ ?_
      clear hK K
      refine NoPanic.normal ?_
      rw [A1.out]
      have BB:=Lib.hid (show Wx w9 w4.heap.size U.length (V.setCell ⟨w4.heap.size,j*5+2,none⟩ (.int .i64 bh)) (upC g j ⟨x.a,lo,bh,x.d,x.e⟩) from by
       have:=BV.out.set2 hjl bh
       rw [upC_at,upC_up] at this
       exact this)
      clear f0 f1 f2 BV BV2 K16 BA
      generalize V.setCell ⟨w4.heap.size,j*5+2,none⟩ (.int .i64 bh)=VB at *
      cases kn
      ·obtain ⟨-,-,x4⟩:=BB.out.cell hjl
       rw [upC_at] at x4
       have f4:=BB.out.free (j*5+4)
       have FIN:=Lib.hid (show Wx w9 w4.heap.size U.length (VB.setCell ⟨w4.heap.size,j*5+4,none⟩ (.int .i64 1)) (upC g j wg) from by
        have:=BB.out.set4 hjl 1
        rw [upC_at,upC_up] at this
        have R:(⟨x.a,lo,bh,x.d,1⟩:C5)=wg:=W1.out
        rw [←R];exact this)
       go_wp2
       go_roundw
       case rel=>exact ⟨q+1,by omega,by go_num,_,FIN.out,STP⟩
       case measure=>simp [intOf];omega
      ·have FIN:=Lib.hid (show Wx w9 w4.heap.size U.length VB (upC g j wg) from by
        have R:(⟨x.a,lo,bh,x.d,x.e⟩:C5)=wg:=W1.out
        rw [←R];exact BB.out)
       go_wp2
       go_roundw
       case rel=>exact ⟨q+1,by omega,by go_num,_,FIN.out,STP⟩
       case measure=>simp [intOf];omega
    ·obtain rfl:q=own.length:=by omega
     have q1:¬(own.length:Int) < (own.length:Int):=by omega
     have D1:=Lib.hid (DN.out g (by have:=HV.out;rwa [List.take_length] at this))
     have T1:=Lib.hid (TR.out _ _ HG.out)
     go_wp2
     go_roundw
     case rel=>exact ⟨k+1,by omega,by go_num,g,T1.out,D1⟩
     case measure=>simp [intOf];omega
  ·obtain rfl:k=names.length:=by omega
   have j1:¬(names.length:Int) < (names.length:Int):=by omega
   have FE:=Lib.hid (show (List.range U.length).map f=wgCs U here pn up from AL.out f (by have:=HV.out;rwa [List.take_length] at this))
   have RD:=Lib.hid (show rdCs wr (lt_ wr.heap.size) R [.slice (some ⟨w4.heap.size,0,none⟩) U.length U.length] from by
    rw [XA.out,←FE.out];exact HX.out.read (by unfold maxLen;omega))
   have RL:=Lib.hid (show U.length=R.length by rw [XA.out,wgCs_len])
   have BF:=Lib.hid (HW0.out _ _ HX.out)
   go_wp2
   go_ret2
   exact ⟨⟨some ⟨w4.heap.size,0,none⟩,U.length,by rw [XE.out,←RL.out];try rfl,by rw [←RL.out];exact RD.out⟩,BF.out⟩
end Go.Proofs.YtpilmhoakopcaaaGreatDoor
