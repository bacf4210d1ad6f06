/- What the laws rest on: P8w, P8x, P8y. -/
import Derived.Test.YtboinnjncaehkaaGreatDoorQAYZA
import Derived.Test.YtboinnjncaehkaaGreatDoorQBXZA
set_option maxRecDepth 100000
set_option linter.unusedVariables false
set_option linter.unusedSimpArgs false
namespace Go.Proofs.YtboinnjncaehkaaGreatDoor
open Go.RowKit Go.Sort
set_option maxHeartbeats 2000000 in
theorem with7_any (A:Option Addr) (n c:Nat) (l:List Hr) (x:Hr) (A1:Option Addr) (c1:Nat) (A2:Option Addr) (c2:Nat) (A3:Option Addr) (c3:Nat) (A4:Option Addr) (c4:Nat) (w:World) (h:rdHrs w (lt_ w.heap.size) l [.slice A n c]) (hv:EntV w (lt_ w.heap.size) x.e A1 c1 A2 c2 A3 c3 A4 c4) (hl:l.length≤199) :
  Calls Tryz.prog 23 #[.slice A n c,x.val A1 c1 A2 c2 A3 c3 A4 c4] w (LsW w (wiH l x)):=by
 have hcf:∀(args:Array Value) (w:World),(callFunc 51 args).run Tryz.prog w=.ok (.enter 51 args) w:=fun _ _=>by kernel_rfl
 have hmf:∀(fn:Fn) (first cap:Array Value) (w:World),(Instr.makeFunc fn first cap).run Tryz.prog w=.ok (.func fn first cap) w:=fun _ _ _ _=>rfl
 obtain ⟨fi,hi,hz0,hz1,hz2⟩:=info_parts here_info
 obtain ⟨⟨nx,vx,dx,rx,ex,px⟩,ax,hx⟩:=x
 simp only at hv
 have XW:=Lib.hid (show wiH l (⟨⟨nx,vx,dx,rx,ex,px⟩,ax,hx⟩:Hr)=inH (woH l nx) (⟨⟨nx,vx,dx,rx,ex,px⟩,ax,hx⟩:Hr) from rfl)
 have ML:=Lib.hid (show (woH l nx).length≤199 from Nat.le_trans (List.length_filter_le _ _) hl)
 obtain ⟨U,hU⟩:∃U,U=w.alloc (.cells #[.string nx,.string vx,.slice A1 dx.length c1,.slice A2 rx.length c2,.slice A3 ex.length c3,.slice A4 px.length c4,.bool ax,.bool hx] 36):=⟨_,rfl⟩
 have B1:=Lib.hid (show Below w.heap.size w U by rw [hU];exact (Below.refl w.heap.size w).alloc (Nat.le_refl _) _)
 have SU:=Lib.hid (show w.heap.size < U.heap.size by rw [hU,World.size_alloc];omega)
 have XC:=Lib.hid (show ∀j u,([.string nx,.string vx,.slice A1 dx.length c1,.slice A2 rx.length c2,.slice A3 ex.length c3,.slice A4 px.length c4,.bool ax,.bool hx]:List Value)[j]?=some u→U.cell? ⟨w.heap.size,j,none⟩=some u from fun j u hu=>by
  rw [hU]
  refine (cell_of_row _ _ j _ _ (0,0) (heap_alloc_new w _)).trans ?_
  rw [←hu];simp)
 have HU:=Lib.hid hU
 have KN:=Lib.hid (name_any (⟨⟨⟨nx,vx,dx,rx,ex,px⟩,ax,hx⟩,A1,c1,A2,c2,A3,c3,A4,c4⟩:HrV) U)
 have KW:=Lib.hid (fun (W:World) (hb:Below w.heap.size w W)=>without7_any A n c l nx W (rdHrs_good.up (rdHrs_good.below h hb) hb.size) (by omega))
 have HV:=Lib.hid hv
 clear h hv hl hU
 generalize wiH l (⟨⟨nx,vx,dx,rx,ex,px⟩,ax,hx⟩:Hr)=R at *
 generalize woH l nx=m at *
 unfold HrV.cs at KN
 simp only at KN
 go_enter Tryz.func23,Tryz.ntmps23
 go_wp2_with fail
 rw [←HU.out]
 refine KN.out.mono ?_
 rintro e w2 ⟨rfl,hg2⟩
 have U2:=Lib.hid hg2.below
 have B2:=Lib.hid (bel_in B1.out U2.out)
 clear hg2 KN HU
 go_wp2_with fail
 refine (KW.out w2 B2.out).mono ?_
 rintro e w3 ⟨⟨v3,rfl,hG3⟩,hb3⟩
 have U3:=Lib.hid (bel_in U2.out hb3)
 have B3:=Lib.hid (bel_in B2.out hb3)
 have V3:=Lib.hid hb3
 have G3:=Lib.hid hG3
 obtain ⟨Au,cu,hu,-,-⟩:=hG3.own
 have KI:=Lib.hid (show Calls Tryz.prog 50 #[v3,.func (.func 51) #[] #[.pointer (some ⟨w.heap.size,0,none⟩)]] w3 fun e w'=>e=.returned (.int .i64 (ixP7 (fun y=>Op.bytesLess nx.toList y.e.n.toList) m 0))∧Below w3.heap.size w3 w' by
  have hr:=hG3.read rdHr_good
  rw [hu] at hr ⊢
  exact ixHr_any 51 #[.pointer (some ⟨w.heap.size,0,none⟩)] (fun y=>Op.bytesLess nx.toList y.e.n.toList) Au m.length cu m w3 hcf hr (fun r W hb=>with1_any r (⟨⟨⟨nx,vx,dx,rx,ex,px⟩,ax,hx⟩,A1,c1,A2,c2,A3,c3,A4,c4⟩:HrV) w.heap.size W (by have:=SU.out;have:=U3.out.size;have:=hb.size;omega) (fun j u hj=>keep6 (bel_in U3.out hb) (XC.out j u hj))))
 clear hG3 hb3 KW hu
 by_cases hp:∃y ∈ m,(fun y:Hr=>Op.bytesLess nx.toList y.e.n.toList) y=true
 ·obtain ⟨k,hk,e1,e2,e3⟩:=ix_yes (i:=0) hp
  rw [e1,Nat.zero_add] at KI
  have XR:=Lib.hid (show R=m.take k++(⟨⟨nx,vx,dx,rx,ex,px⟩,ax,hx⟩:Hr)::m.drop k from XW.out.trans (in_at (x:=(⟨⟨nx,vx,dx,rx,ex,px⟩,ax,hx⟩:Hr)) hk e2 e3))
  have t0:¬((k:Int) < 0):=by omega
  have HK:=Lib.hid hk
  clear hp e1 e2 e3 hk
  go_wp2_with fail
  refine KI.out.mono ?_
  rintro e w4 ⟨rfl,hb4⟩
  have U4:=Lib.hid (bel_in U3.out hb4)
  have B4:=Lib.hid (bel_in B3.out hb4)
  have G4:=Lib.hid (G3.out.below rdHr_good hb4)
  have V4:=Lib.hid (bel_in V3.out hb4)
  clear hb4 KI
  have c0':=keep6 U4.out (XC.out 0 _ rfl)
  have c1':=keep6 U4.out (XC.out 1 _ rfl)
  have c2':=keep6 U4.out (XC.out 2 _ rfl)
  have c3':=keep6 U4.out (XC.out 3 _ rfl)
  have c4':=keep6 U4.out (XC.out 4 _ rfl)
  have c5':=keep6 U4.out (XC.out 5 _ rfl)
  have c6':=keep6 U4.out (XC.out 6 _ rfl)
  have c7':=keep6 U4.out (XC.out 7 _ rfl)
  go_wp2_with fail
  obtain ⟨w5,hw5⟩:∃w5,w5=w4.alloc (.cells #[.string nx,.string vx,.slice A1 dx.length c1,.slice A2 rx.length c2,.slice A3 ex.length c3,.slice A4 px.length c4,.bool ax,.bool hx] 36):=⟨_,rfl⟩
  rw [←hw5]
  have B45:Below w4.heap.size w4 w5:=by rw [hw5];exact (Below.refl _ _).alloc (Nat.le_refl _) _
  have S45:w5.heap.size=w4.heap.size+1:=by rw [hw5];exact World.size_alloc _ _
  have q5:w5.heap[w4.heap.size]?=some (.cells (⟨⟨⟨nx,vx,dx,rx,ex,px⟩,ax,hx⟩,A1,c1,A2,c2,A3,c3,A4,c4⟩:HrV).cs.toArray 36 (0,0)):=by rw [hw5];exact heap_alloc_new w4 _
  refine (ins7_any (G4.out.below rdHr_good B45) k HK.out (by have:=ML.out;omega) (⟨⟨⟨nx,vx,dx,rx,ex,px⟩,ax,hx⟩,A1,c1,A2,c2,A3,c3,A4,c4⟩:HrV) q5 (fun hh=>by have:=(G4.out.lt _ hh).2;omega) (Nat.le_trans V4.out.size B45.size) (EntV.hr (x:=(⟨⟨nx,vx,dx,rx,ex,px⟩,ax,hx⟩:Hr)) (HV.out.to (fun b hb=>(B45.block b (Nat.lt_of_lt_of_le hb B4.out.size)).trans (B4.out.block b hb)) (fun b hb=>⟨by have:=B4.out.size;unfold lt_ at hb;omega,fun hh=>by have:=(G4.out.lt b hh).1;have:=B2.out.size;unfold lt_ at hb;omega⟩)))).mono ?_
  rintro e w6 ⟨⟨A6,n6,c6,rfl,hr6⟩,hb6⟩
  have F:=Lib.hid (show LsW w R (.returned (.slice A6 n6 c6)) w6 from ⟨⟨_,_,_,rfl,by rw [XR.out];exact hr6⟩,(B4.out.trans (B45.mono B4.out.size)).trans (hb6.mono B2.out.size)⟩)
  clear hr6 hb6 hw5 q5 c0' c1' c2' c3' c4' c5' c6' c7'
  go_wp2
  go_ret
  exact F.out
 ·have e1:=ix_no (p:=fun y:Hr=>Op.bytesLess nx.toList y.e.n.toList) (l:=m) (i:=0) (fun y hy=>Bool.eq_false_iff.2 fun e=>hp ⟨y,hy,e⟩)
  rw [e1] at KI
  have XR:=Lib.hid (show R=m++[(⟨⟨nx,vx,dx,rx,ex,px⟩,ax,hx⟩:Hr)] from XW.out.trans (in_none (x:=(⟨⟨nx,vx,dx,rx,ex,px⟩,ax,hx⟩:Hr)) fun y hy=>Bool.eq_false_iff.2 fun e=>hp ⟨y,hy,e⟩))
  clear hp e1
  go_wp2_with fail
  refine KI.out.mono ?_
  rintro e w4 ⟨rfl,hb4⟩
  have U4:=Lib.hid (bel_in U3.out hb4)
  have B4:=Lib.hid (bel_in B3.out hb4)
  have G4:=Lib.hid (G3.out.below rdHr_good hb4)
  have V4:=Lib.hid (bel_in V3.out hb4)
  clear hb4 KI
  have c0':=keep6 U4.out (XC.out 0 _ rfl)
  have c1':=keep6 U4.out (XC.out 1 _ rfl)
  have c2':=keep6 U4.out (XC.out 2 _ rfl)
  have c3':=keep6 U4.out (XC.out 3 _ rfl)
  have c4':=keep6 U4.out (XC.out 4 _ rfl)
  have c5':=keep6 U4.out (XC.out 5 _ rfl)
  have c6':=keep6 U4.out (XC.out 6 _ rfl)
  have c7':=keep6 U4.out (XC.out 7 _ rfl)
  have hE:=EntV.hr (x:=(⟨⟨nx,vx,dx,rx,ex,px⟩,ax,hx⟩:Hr)) (HV.out.to (wr:=w4) (S':=fun b=>lt_ w2.heap.size b∧b < w4.heap.size∧v3.ownBlock≠some b) (fun b hb=>B4.out.block b hb) (fun b hb=>⟨by have:=B2.out.size;unfold lt_ at hb ⊢;omega,by have:=B4.out.size;unfold lt_ at hb;omega,fun hh=>by have:=(G4.out.lt b hh).1;have:=B2.out.size;unfold lt_ at hb;omega⟩))
  simp only at hE
  have hn1:m.length+1≤maxLen:=by have:=ML.out;unfold maxLen;omega
  have hn2:(m.length+1)*136≤140737488355328:=by have:=ML.out;omega
  have hs4:w2.heap.size≤w4.heap.size:=V4.out.size
  go_wp2_with (at_builtin;refine wpList_grow1 w4 rfl _ _ 23 rfl rdHr_good (by decide) (lt_ w2.heap.size) w2.heap.size 36 fi _ 136 Tryz.underlying23 hi hz0 hz1 hz2 rfl v3 _ rfl G4.out (⟨⟨nx,vx,dx,rx,ex,px⟩,ax,hx⟩:Hr) _ 36 hE _ rfl rfl hn1 hn2 hs4 ?_)
  intro v7 w7 hG7 hg7
  have B7:=grow_below G4.out hg7 B4.out B2.out.size B4.out.size
  have hr7:=hG7.read rdHr_good
  obtain ⟨A7,c7,hv7,-,-⟩:=hG7.own
  rw [hv7] at hr7
  have F:=Lib.hid (show LsW w R (.returned v7) w7 from ⟨⟨_,_,_,by rw [hv7],by rw [XR.out];exact hr7⟩,B7⟩)
  clear hG7 hg7 hE hn1 hn2 hs4 c0' c1' c2' c3' c4' c5' c6' c7' hr7 hv7 B7
  go_wp2
  go_ret
  exact F.out
theorem con7:Con7 EnvR rdP prP where
 below:=fun E h=>E.below h
 find:=fun A n c l nm w h _=>find7_any A n c l nm w h
 wo:=fun A n c l nm w h _ hl=>(without7_any A n c l nm w h hl).mono fun e w' ⟨⟨v,he,hG⟩,hb⟩=>by
  obtain ⟨A',c',hv,-,-⟩:=hG.own
  have hr:=hG.read rdHr_good
  rw [hv] at hr
  exact ⟨⟨_,_,_,by rw [he,hv],hr⟩,hb⟩
 wi:=fun A n c l x A1 c1 A2 c2 A3 c3 A4 c4 w h hv _ hl=>with7_any A n c l x A1 c1 A2 c2 A3 c3 A4 c4 w h hv hl
 mark:=fun A n c l nm a hh w h _ hl=>mark7_any A n c l nm a hh w h hl
 turned:=fun A n c l A' n' c' m w h h' _ hl hm=>turned7_any A n c l A' n' c' m w h h' (by omega) (by omega)
 right:=fun A n c l w h E=>right7_any A n c l w h E
 print:=fun A n c l w h E=>print7_any A n c l w h E
 parse:=fun s w E=>parse7_any s w E
end Go.Proofs.YtboinnjncaehkaaGreatDoor
namespace Go.Proofs.YtboinnjncaehkaaGreatDoor
open Go.RowKit
theorem ex7_1:paD rdP (B { data:=#[80,97,99,107,97,103,101,58,32,99,100,10,86,101,114,115,105,111,110,58,32,49,10,65,117,116,111,58,32,121,101,115,10,10,80,97,99,107,97,103,101,58,32,97,98,10,86,101,114,115,105,111,110,58,32,50,10] })=(exL,0,0):=by kernel_rfl
theorem ex7_2:paD rdP (B { data:=#[80,97,99,107,97,103,101,58,32,99,100,10,86,101,114,115,105,111,110,58,32,49,10,65,117,116,111,58,32,109,97,121,98,101] })=([],1,5):=by kernel_rfl
theorem shown7 (w:World) (E:EnvR w):Calls Tryz.prog 9 #[] w fun e w'=>e=.returned (.bool true)∧Below w.heap.size w w':=shown7_any con7 ex7_1 ex7_2 w E
end Go.Proofs.YtboinnjncaehkaaGreatDoor
