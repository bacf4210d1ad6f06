/- What the laws rest on: S5l, P8o, Open2, OpenG, E6j, E7t. -/
import Derived.ChangeMaps5
import Derived.SliceStrings
import Derived.Lib.SmallJoins
import Derived.Deep.Slices
import Derived.Deep.Strs
import Derived.Test.YtboinnjncaehkaaGreatDoorQBUZA
set_option maxRecDepth 100000
set_option linter.unusedVariables false
set_option linter.unusedSimpArgs false
namespace Go.Proofs.YtboinnjncaehkaaGreatDoor
open Go.RowKit
set_option maxHeartbeats 2000000 in
theorem clone5_any (A:Option Addr) (n c:Nat) (l:List Fd) (w:World) (h:rdFds w (lt_ w.heap.size) l [.slice A n c]) (hl:l.length≤100000) :
  Calls Tryz.prog 82 #[.slice A n c] w fun e w'=>(∃v',e=.returned v'∧Grow rdFd 2 (fun _=>True) w' w.heap.size 78 v' l)∧Below w.heap.size w w':=by
 have qT:∀(w:World) (a:Option Addr) (n c n' c':Nat),(binOp .eql 55 (.slice a n c) (.slice none n' c')).run Tryz.prog w=.ok (.bool a.isNone) w:=fun w a n c n' c'=>Lib.run_eql_slice_nil w _ _ a n c n' c' Tryz.underlying55
 obtain ⟨i0,hi,hz0,hz1,hz2⟩:=info_parts fd_info
 obtain ⟨rfl,hnc,hcm,hat⟩:=rdFds_at h
 have hcm':c≤9223372036854775807:=hcm
 cases A with
 | none=>
  obtain rfl:l=[]:=by
   rcases Nat.eq_zero_or_pos l.length with h0|h0
   ·exact List.eq_nil_of_length_eq_zero h0
   ·obtain ⟨_,e,_⟩:=hat 0 h0
    cases e
  clear h hat hcm
  go_enter Tryz.func82,Tryz.ntmps82
  go_wp2
  go_ret
  exact ⟨⟨_,rfl,Grow.nil _ _ _ _⟩,Below.refl _ _⟩
 | some ad=>
  have B1:=(Below.refl w.heap.size w).alloc (Nat.le_refl _) (.cells #[] 78)
  have hG:=Grow.empty (E:=rdFd) (sz:=2) (fun _=>True) (W:=w.alloc (.cells #[] 78)) (base:=w.heap.size) (heap_alloc_new w _) (Nat.le_refl _)
  have hX:=rdFds_good.below h B1
  have hn1:([]:List Fd).length+l.length≤maxLen:=by simp only [List.length_nil];unfold maxLen;omega
  have hn2:(([]:List Fd).length+l.length)*32≤140737488355328:=by simp only [List.length_nil];omega
  have hS:∀b,lt_ w.heap.size b→True∧b < (w.alloc (.cells #[] 78)).heap.size∧(Value.slice (some ⟨w.heap.size,0,none⟩) 0 0).ownBlock≠some b:=fun b hb=>⟨trivial,by rw [World.size_alloc];unfold lt_ at hb;omega,fun hh=>by simp only [Value.ownBlock,Option.some.injEq] at hh;unfold lt_ at hb;omega⟩
  have hbs:w.heap.size≤(w.alloc (.cells #[] 78)).heap.size:=by rw [World.size_alloc];omega
  have HB1:=Lib.hid B1
  clear h B1 hcm hat
  go_enter Tryz.func82,Tryz.ntmps82
  go_wp2_with (at_builtin;refine wpList_growN _ rfl _ _ 55 55 rfl rdFd_good (by decide) (fun _=>True) w.heap.size 78 78 i0 (.agg #[.string { data:=#[] },.string { data:=#[] }]) 32 Tryz.underlying55 Tryz.underlying55 hi hz0 hz1 hz2 rfl _ _ rfl hG l _ (some ad) l.length c rfl hX hS hn1 hn2 hbs ?_)
  intro v' w1 hG1 hg1
  have HB2:=Lib.hid (grow_below hG hg1 HB1.out (Nat.le_refl _) hbs)
  have HG:=Lib.hid hG1
  clear hG hX hg1 hn1 hn2 hS hbs hG1
  go_wp2
  go_ret
  exact ⟨⟨_,rfl,HG.out⟩,HB2.out⟩
end Go.Proofs.YtboinnjncaehkaaGreatDoor
namespace Go.Proofs.YtboinnjncaehkaaGreatDoor
open Go.RowKit Go.Sort
set_option maxHeartbeats 2000000 in
theorem put5_new (A:Option Addr) (n c:Nat) (l:List Fd) (nm v:ByteArray) (w:World) (h:rdFds w (lt_ w.heap.size) l [.slice A n c]) (hl:l.length≤100000) (hg:getV l nm=false) :
  Calls Tryz.prog 44 #[.slice A n c,.string nm,.string v] w fun e w'=>(∃A n c,e=.returned (.slice A n c)∧rdFds w' (fun b=>w.heap.size≤b∧b < w'.heap.size) (l++[⟨nm,v⟩]) [.slice A n c])∧Below w.heap.size w w':=by
 obtain ⟨i0,hi,hz0,hz1,hz2⟩:=info_parts fd_info
 have C:=Lib.hid (clone5_any A n c l w h hl)
 have P:=Lib.hid (fun (w1:World) (hb:Below w.heap.size w w1)=>place_any A n c l nm w1 (rdFds_good.more (rdFds_good.below h hb) fun b hh=>Nat.lt_of_lt_of_le hh hb.size))
 have HL:=Lib.hid hl
 clear h hl
 ·obtain ⟨e1,_,e2⟩:=pl_no (i:=0) hg
  rw [e1] at P
  have X:=Lib.hid (e2 v)
  clear e1 e2 hg
  go_enter Tryz.func44,Tryz.ntmps44
  go_wp2_with fail
  refine C.out.mono ?_
  rintro e w1 ⟨⟨v1,rfl,hG1⟩,hb1⟩
  obtain ⟨A1,c1,rfl,hnc1,hcm1⟩:=hG1.own
  have hcm1':c1≤9223372036854775807:=hcm1
  have HG1:=Lib.hid hG1
  have HB1:=Lib.hid hb1
  clear hG1 hb1 hcm1
  go_wp2_with fail
  refine (P.out _ HB1.out).mono ?_
  rintro e w2 ⟨rfl,hb2⟩
  have hG:=HG1.out.below rdFd_good hb2
  have HB2:=Lib.hid (HB1.out.trans (hb2.mono HB1.out.size))
  have hbs:=HB2.out.size
  clear hb2
  have hE:=(show rdFd w2 (fun b=>True∧b < w2.heap.size∧(Value.slice A1 l.length c1).ownBlock≠some b) ⟨nm,v⟩ (#[.string nm,.string v]:Array Value).toList from rfl)
  have hn1:l.length+1≤maxLen:=by have:=HL.out;unfold maxLen;omega
  have hn2:(l.length+1)*32≤140737488355328:=by have:=HL.out;omega
  go_wp2_with (at_builtin;refine wpList_grow1 _ rfl _ _ 55 rfl rdFd_good (by decide) (fun _=>True) w.heap.size 78 i0 (.agg #[.string { data:=#[] },.string { data:=#[] }]) 32 Tryz.underlying55 hi hz0 hz1 hz2 rfl _ _ rfl hG ⟨nm,v⟩ _ 78 hE _ rfl rfl hn1 hn2 hbs ?_)
  intro v' w3 hG2 hg2
  have HB3:=Lib.hid (grow_below hG hg2 HB2.out (Nat.le_refl _) hbs)
  clear hG hg2 hE
  obtain ⟨A2,c2,rfl,_,_⟩:=hG2.own
  go_wp2
  go_ret
  exact ⟨⟨_,_,_,rfl,rdFds_good.more ((Grow.flat (T':=fun _=>False) (fun _ _ _ _ _ h=>h) hG2).reads rdFd_good) fun b hb=>⟨hb.2.resolve_right id,hb.1⟩⟩,HB3.out⟩
theorem stH_names (x:Hr):∀f ∈ stH x,f.n.size≤10:=by
 intro f hf
 unfold stH at hf
 rcases List.mem_append.1 hf with h|h
 ·exact wrE_names x.e f h
 ·rcases List.mem_append.1 h with h|h
  ·unfold mrk at h
   split at h
   ·obtain rfl:=List.mem_singleton.1 h;decide
   ·cases h
  ·unfold mrk at h
   split at h
   ·obtain rfl:=List.mem_singleton.1 h;decide
   ·cases h
set_option maxHeartbeats 4000000 in
theorem print7_any (A:Option Addr) (n c:Nat) (l:List Hr) (w:World) (h:rdHrs w (lt_ w.heap.size) l [.slice A n c]) (E:EnvR w) :
  Calls Tryz.prog 16 #[.slice A n c] w fun e w'=>e=.returned (.string (prH prP l))∧Below w.heap.size w w':=by
 obtain ⟨rfl,hnc,hcm,-⟩:=rdHrs_at h
 have hcm':c≤9223372036854775807:=hcm
 obtain ⟨fi,hi,hz0,hz1,hz2⟩:=info_parts stz_info
 have KR:=Lib.hid (right7_any A l.length c l w h E)
 have H:=Lib.hid (fun (W:World) (hb:Below w.heap.size w W)=>(rdHrs_good.up (rdHrs_good.below h hb) hb.size:rdHrs W (lt_ W.heap.size) l [.slice A l.length c]))
 have HE:=Lib.hid (fun (W:World) (hb:Below w.heap.size w W)=>E.below hb)
 clear h E hcm
 by_cases hr:rightH l=true
 case neg=>
  have X:=Lib.hid (show prH prP l={ data:=#[] } from if_neg hr)
  rw [Bool.eq_false_iff.2 hr] at KR
  clear hr
  go_enter Tryz.func16,Tryz.ntmps16
  go_wp2_with fail
  refine KR.out.mono ?_
  rintro e w1 ⟨rfl,hb⟩
  go_wp2
  go_ret
  exact ⟨by rw [X.out];try rfl,hb⟩
 have X:=Lib.hid (show prH prP l=prP (l.map stH) from if_pos hr)
 have RR:=Lib.hid ((rightH_iff l).1 hr)
 have h64:l.length≤64:=RR.out.2.2
 rw [hr] at KR
 clear hr
 go_enter Tryz.func16,Tryz.ntmps16
 go_wp2_with fail
 refine KR.out.mono ?_
 rintro e w1 ⟨rfl,hb⟩
 have B1:=Lib.hid hb
 clear hb KR
 go_wp2
 go_loopg [3,12] l.length (fun kx u3 u12 wr=>∃k:Nat,u12=.int .i64 k∧k≤l.length∧l.length - k≤kx∧Hid (Grow rdFds 1 (fun _=>True) wr w.heap.size 55 u3 ((l.take k).map stH))∧Hid (Below w.heap.size w wr))
 case atStart=>exact ⟨0,rfl,Nat.zero_le _,Nat.le_refl _,Lib.hid (Grow.nil _ _ _ _),B1⟩
 case round=>
  obtain ⟨k,rfl,hk,hkx,HG,HB⟩:=hrel
  by_cases hlt:k < l.length
  ·obtain ⟨-,-,-,hat⟩:=rdHrs_at (H.out wr HB.out)
   obtain ⟨ad,A1,c1,A2,c2,A3,c3,A4,c4,rfl,had,hv,g0,g1,g2,g3,g4,g5,g6,g7⟩:=hat k hlt
   have i0:(0:Int)≤(k:Int):=by omega
   have i1:(k:Int) < (l.length:Int):=by omega
   have TS:=Lib.hid (take_snoc stH l k hlt)
   have KW:=Lib.hid (fun (W:World) (hb:Below wr.heap.size wr W)=>ewrite_any l[k].e A1 c1 A2 c2 A3 c3 A4 c4 W (hv.on hb) (HE.out W (bel_in HB.out hb)))
   have RX:=Lib.hid (RR.out.1 _ (List.getElem_mem hlt))
   clear had hv hat
   generalize l[k]=x at *
   obtain ⟨⟨nx,vx,dx,rx,ex,px⟩,ax,hx⟩:=x
   have WE:=Lib.hid (show wrE ⟨nx,vx,dx,rx,ex,px⟩=wr4 ⟨nx,vx,dx,rx,ex,px⟩ from if_pos RX.out)
   unfold Ent.val at KW
   simp only at KW g0 g1 g2 g3 g4 g5 g6 g7
   have S0:=Lib.hid (show ∀a h,stH ⟨⟨nx,vx,dx,rx,ex,px⟩,a,h⟩=wrE ⟨nx,vx,dx,rx,ex,px⟩++(mrk a nAu++mrk h nHo) from fun _ _=>rfl)
   have S1:=Lib.hid (show getV (wrE ⟨nx,vx,dx,rx,ex,px⟩) nAu=false by rw [WE.out];exact wr4_au _)
   have S2:=Lib.hid (show getV (wrE ⟨nx,vx,dx,rx,ex,px⟩) nHo=false by rw [WE.out];exact wr4_ho _)
   have S3:=Lib.hid (show (wrE ⟨nx,vx,dx,rx,ex,px⟩).length≤6 by rw [WE.out];exact (wr_len _).2.2.2.2)
   clear WE RX
   generalize wrE ⟨nx,vx,dx,rx,ex,px⟩=s0 at *
   go_upto_region 7 with (fail)
   obtain ⟨U,hU⟩:∃U,U=wr.alloc (.cells #[.string nx,.string vx,.slice A1 dx.length c1,.slice A2 rx.length c2,.slice A3 ex.length c3,.slice A4 px.length c4,.bool ax,.bool hx] 36):=⟨_,rfl⟩
   rw [←hU]
   have VU:=Lib.hid (show Below wr.heap.size wr U by rw [hU];exact (Below.refl _ _).alloc (Nat.le_refl _) _)
   have SU:=Lib.hid (show wr.heap.size < U.heap.size by rw [hU,World.size_alloc];omega)
   have EC:=Lib.hid (show ∀j u,([.string nx,.string vx,.slice A1 dx.length c1,.slice A2 rx.length c2,.slice A3 ex.length c3,.slice A4 px.length c4,.bool ax,.bool hx]:List Value)[j]?=some u→U.cell? ⟨wr.heap.size,j,none⟩=some u from fun j u hu=>by
    rw [hU]
    refine (cell_of_row _ _ j _ _ (0,0) (heap_alloc_new wr _)).trans ?_
    rw [←hu];simp)
   clear hU g0 g1 g2 g3 g4 g5 g6 g7
   have ue0:=EC.out 0 _ rfl
   have ue1:=EC.out 1 _ rfl
   have ue2:=EC.out 2 _ rfl
   have ue3:=EC.out 3 _ rfl
   have ue4:=EC.out 4 _ rfl
   have ue5:=EC.out 5 _ rfl
   go_wp2_with fail
   refine (KW.out U VU.out).mono ?_
   rintro e w2 ⟨⟨D0,b0,rfl,hr0⟩,hb⟩
   have R0:=Lib.hid (show rdFds w2 (fun b=>wr.heap.size≤b∧b < w2.heap.size) s0 [.slice D0 s0.length b0] from rdFds_good.more hr0 fun b hb=>⟨by have:=hb.1;have:=SU.out;omega,hb.2⟩)
   have V0:=Lib.hid (bel_in VU.out hb)
   have U0:=Lib.hid hb
   clear hb hr0 KW
   have a6:=keep6 U0.out (EC.out 6 _ rfl)
   cases ax
   ·cases hx
    ·have a7:=keep6 U0.out (EC.out 7 _ rfl)
     have HX:stH ⟨⟨nx,vx,dx,rx,ex,px⟩,false,false⟩=s0:=(S0.out false false).trans (by first|rfl|(rw [List.append_assoc];rfl)|(simp [mrk]))
     rw [HX] at TS
     have G4:=Lib.hid (HG.out.below rdFds_good V0.out)
     have hE:=(show rdFds w2 (fun b=>True∧b < w2.heap.size∧u3.ownBlock≠some b) (s0) (#[.slice D0 s0.length b0]:Array Value).toList from rdFds_good.more R0.out fun b hb=>⟨trivial,hb.2,fun hh=>by have h8:=(HG.out.lt b hh).2;have h7:=hb.1;omega⟩)
     have hlm:((l.take k).map stH).length=k:=by rw [List.length_map,List.length_take];omega
     have hn1:((l.take k).map stH).length+1≤maxLen:=by rw [hlm];unfold maxLen;omega
     have hn2:(((l.take k).map stH).length+1)*24≤140737488355328:=by rw [hlm];omega
     have hs4:w.heap.size≤w2.heap.size:=Nat.le_trans HB.out.size V0.out.size
     clear hlm HX
     go_wp2_with (at_builtin;refine wpList_grow1 w2 rfl _ _ 51 rfl rdFds_good (by decide) (fun _=>True) w.heap.size 55 fi _ 24 Tryz.underlying51 hi hz0 hz1 hz2 rfl u3 _ rfl G4.out (s0) _ 55 hE _ rfl rfl hn1 hn2 hs4 ?_)
     intro v8 w8 hG8 hg8
     have HB8:=Lib.hid (grow_below G4.out hg8 (bel_in HB.out V0.out) (Nat.le_refl _) hs4)
     have G8:=Lib.hid (show Grow rdFds 1 (fun _=>True) w8 w.heap.size 55 v8 ((l.take (k+1)).map stH) by rw [TS.out];first|exact hG8|(rw [List.map_take];exact hG8)|(simpa using hG8))
     clear hG8 hg8 hE
     go_wp2
     go_roundg (l.length - (k+1))
     case measure=>omega
     case rel=>exact ⟨k+1,by go_num,by omega,Nat.le_refl _,G8,HB8⟩
    ·have a7:=keep6 U0.out (EC.out 7 _ rfl)
     go_wp2_with fail
     refine (put5_new _ _ _ s0 { data:=#[72,111,108,100] } { data:=#[121,101,115] } w2 (rdFds_good.more R0.out fun b hb=>hb.2) (by have:=S3.out;omega) S2.out).mono ?_
     rintro e w3 ⟨⟨D1,m1,b1,rfl,hr0⟩,hb⟩
     have V1:=Lib.hid (bel_in V0.out hb)
     have U1:=Lib.hid (bel_in U0.out hb)
     have R1:=Lib.hid (show rdFds w3 (fun b=>wr.heap.size≤b∧b < w3.heap.size) (s0++[(⟨{ data:=#[72,111,108,100] },{ data:=#[121,101,115] }⟩:Fd)]) [.slice D1 m1 b1] from rdFds_good.more hr0 fun b hb=>⟨by have:=hb.1;have:=V0.out.size;omega,hb.2⟩)
     clear hb hr0
     have HX:stH ⟨⟨nx,vx,dx,rx,ex,px⟩,false,true⟩=s0++[(⟨{ data:=#[72,111,108,100] },{ data:=#[121,101,115] }⟩:Fd)]:=(S0.out false true).trans (by first|rfl|(rw [List.append_assoc];rfl)|(simp [mrk]))
     rw [HX] at TS
     have G4:=Lib.hid (HG.out.below rdFds_good V1.out)
     have hE:=(show rdFds w3 (fun b=>True∧b < w3.heap.size∧u3.ownBlock≠some b) (s0++[(⟨{ data:=#[72,111,108,100] },{ data:=#[121,101,115] }⟩:Fd)]) (#[.slice D1 m1 b1]:Array Value).toList from rdFds_good.more R1.out fun b hb=>⟨trivial,hb.2,fun hh=>by have h8:=(HG.out.lt b hh).2;have h7:=hb.1;omega⟩)
     have hlm:((l.take k).map stH).length=k:=by rw [List.length_map,List.length_take];omega
     have hn1:((l.take k).map stH).length+1≤maxLen:=by rw [hlm];unfold maxLen;omega
     have hn2:(((l.take k).map stH).length+1)*24≤140737488355328:=by rw [hlm];omega
     have hs4:w.heap.size≤w3.heap.size:=Nat.le_trans HB.out.size V1.out.size
     clear hlm HX
     go_wp2_with (at_builtin;refine wpList_grow1 w3 rfl _ _ 51 rfl rdFds_good (by decide) (fun _=>True) w.heap.size 55 fi _ 24 Tryz.underlying51 hi hz0 hz1 hz2 rfl u3 _ rfl G4.out (s0++[(⟨{ data:=#[72,111,108,100] },{ data:=#[121,101,115] }⟩:Fd)]) _ 55 hE _ rfl rfl hn1 hn2 hs4 ?_)
     intro v8 w8 hG8 hg8
     have HB8:=Lib.hid (grow_below G4.out hg8 (bel_in HB.out V1.out) (Nat.le_refl _) hs4)
     have G8:=Lib.hid (show Grow rdFds 1 (fun _=>True) w8 w.heap.size 55 v8 ((l.take (k+1)).map stH) by rw [TS.out];first|exact hG8|(rw [List.map_take];exact hG8)|(simpa using hG8))
     clear hG8 hg8 hE
     go_wp2
     go_roundg (l.length - (k+1))
     case measure=>omega
     case rel=>exact ⟨k+1,by go_num,by omega,Nat.le_refl _,G8,HB8⟩
   ·go_wp2_with fail
    refine (put5_new _ _ _ s0 { data:=#[65,117,116,111] } { data:=#[121,101,115] } w2 (rdFds_good.more R0.out fun b hb=>hb.2) (by have:=S3.out;omega) S1.out).mono ?_
    rintro e w3 ⟨⟨D1,m1,b1,rfl,hr0⟩,hb⟩
    have V1:=Lib.hid (bel_in V0.out hb)
    have U1:=Lib.hid (bel_in U0.out hb)
    have R1:=Lib.hid (show rdFds w3 (fun b=>wr.heap.size≤b∧b < w3.heap.size) (s0++[(⟨{ data:=#[65,117,116,111] },{ data:=#[121,101,115] }⟩:Fd)]) [.slice D1 m1 b1] from rdFds_good.more hr0 fun b hb=>⟨by have:=hb.1;have:=V0.out.size;omega,hb.2⟩)
    clear hb hr0
    have S4:=Lib.hid (show getV (s0++[(⟨{ data:=#[65,117,116,111] },{ data:=#[121,101,115] }⟩:Fd)]) { data:=#[72,111,108,100] }=false by rw [getV_app];rw [show getV s0 { data:=#[72,111,108,100] }=false from S2.out];kernel_rfl)
    cases hx
    ·have a7:=keep6 U1.out (EC.out 7 _ rfl)
     have HX:stH ⟨⟨nx,vx,dx,rx,ex,px⟩,true,false⟩=s0++[(⟨{ data:=#[65,117,116,111] },{ data:=#[121,101,115] }⟩:Fd)]:=(S0.out true false).trans (by first|rfl|(rw [List.append_assoc];rfl)|(simp [mrk]))
     rw [HX] at TS
     have G4:=Lib.hid (HG.out.below rdFds_good V1.out)
     have hE:=(show rdFds w3 (fun b=>True∧b < w3.heap.size∧u3.ownBlock≠some b) (s0++[(⟨{ data:=#[65,117,116,111] },{ data:=#[121,101,115] }⟩:Fd)]) (#[.slice D1 m1 b1]:Array Value).toList from rdFds_good.more R1.out fun b hb=>⟨trivial,hb.2,fun hh=>by have h8:=(HG.out.lt b hh).2;have h7:=hb.1;omega⟩)
     have hlm:((l.take k).map stH).length=k:=by rw [List.length_map,List.length_take];omega
     have hn1:((l.take k).map stH).length+1≤maxLen:=by rw [hlm];unfold maxLen;omega
     have hn2:(((l.take k).map stH).length+1)*24≤140737488355328:=by rw [hlm];omega
     have hs4:w.heap.size≤w3.heap.size:=Nat.le_trans HB.out.size V1.out.size
     clear hlm HX
     go_wp2_with (at_builtin;refine wpList_grow1 w3 rfl _ _ 51 rfl rdFds_good (by decide) (fun _=>True) w.heap.size 55 fi _ 24 Tryz.underlying51 hi hz0 hz1 hz2 rfl u3 _ rfl G4.out (s0++[(⟨{ data:=#[65,117,116,111] },{ data:=#[121,101,115] }⟩:Fd)]) _ 55 hE _ rfl rfl hn1 hn2 hs4 ?_)
     intro v8 w8 hG8 hg8
     have HB8:=Lib.hid (grow_below G4.out hg8 (bel_in HB.out V1.out) (Nat.le_refl _) hs4)
     have G8:=Lib.hid (show Grow rdFds 1 (fun _=>True) w8 w.heap.size 55 v8 ((l.take (k+1)).map stH) by rw [TS.out];first|exact hG8|(rw [List.map_take];exact hG8)|(simpa using hG8))
     clear hG8 hg8 hE
     go_wp2
     go_roundg (l.length - (k+1))
     case measure=>omega
     case rel=>exact ⟨k+1,by go_num,by omega,Nat.le_refl _,G8,HB8⟩
    ·have a7:=keep6 U1.out (EC.out 7 _ rfl)
     go_wp2_with fail
     refine (put5_new _ _ _ (s0++[(⟨{ data:=#[65,117,116,111] },{ data:=#[121,101,115] }⟩:Fd)]) { data:=#[72,111,108,100] } { data:=#[121,101,115] } w3 (rdFds_good.more R1.out fun b hb=>hb.2) (by have:=S3.out;simp only [List.length_append,List.length_singleton];omega) S4.out).mono ?_
     rintro e w4 ⟨⟨D2,m2,b2,rfl,hr0⟩,hb⟩
     have V2:=Lib.hid (bel_in V1.out hb)
     have U2:=Lib.hid (bel_in U1.out hb)
     have R2:=Lib.hid (show rdFds w4 (fun b=>wr.heap.size≤b∧b < w4.heap.size) ((s0++[(⟨{ data:=#[65,117,116,111] },{ data:=#[121,101,115] }⟩:Fd)])++[(⟨{ data:=#[72,111,108,100] },{ data:=#[121,101,115] }⟩:Fd)]) [.slice D2 m2 b2] from rdFds_good.more hr0 fun b hb=>⟨by have:=hb.1;have:=V1.out.size;omega,hb.2⟩)
     clear hb hr0
     have HX:stH ⟨⟨nx,vx,dx,rx,ex,px⟩,true,true⟩=(s0++[(⟨{ data:=#[65,117,116,111] },{ data:=#[121,101,115] }⟩:Fd)])++[(⟨{ data:=#[72,111,108,100] },{ data:=#[121,101,115] }⟩:Fd)]:=(S0.out true true).trans (by first|rfl|(rw [List.append_assoc];rfl)|(simp [mrk]))
     rw [HX] at TS
     have G4:=Lib.hid (HG.out.below rdFds_good V2.out)
     have hE:=(show rdFds w4 (fun b=>True∧b < w4.heap.size∧u3.ownBlock≠some b) ((s0++[(⟨{ data:=#[65,117,116,111] },{ data:=#[121,101,115] }⟩:Fd)])++[(⟨{ data:=#[72,111,108,100] },{ data:=#[121,101,115] }⟩:Fd)]) (#[.slice D2 m2 b2]:Array Value).toList from rdFds_good.more R2.out fun b hb=>⟨trivial,hb.2,fun hh=>by have h8:=(HG.out.lt b hh).2;have h7:=hb.1;omega⟩)
     have hlm:((l.take k).map stH).length=k:=by rw [List.length_map,List.length_take];omega
     have hn1:((l.take k).map stH).length+1≤maxLen:=by rw [hlm];unfold maxLen;omega
     have hn2:(((l.take k).map stH).length+1)*24≤140737488355328:=by rw [hlm];omega
     have hs4:w.heap.size≤w4.heap.size:=Nat.le_trans HB.out.size V2.out.size
     clear hlm HX
     go_wp2_with (at_builtin;refine wpList_grow1 w4 rfl _ _ 51 rfl rdFds_good (by decide) (fun _=>True) w.heap.size 55 fi _ 24 Tryz.underlying51 hi hz0 hz1 hz2 rfl u3 _ rfl G4.out ((s0++[(⟨{ data:=#[65,117,116,111] },{ data:=#[121,101,115] }⟩:Fd)])++[(⟨{ data:=#[72,111,108,100] },{ data:=#[121,101,115] }⟩:Fd)]) _ 55 hE _ rfl rfl hn1 hn2 hs4 ?_)
     intro v8 w8 hG8 hg8
     have HB8:=Lib.hid (grow_below G4.out hg8 (bel_in HB.out V2.out) (Nat.le_refl _) hs4)
     have G8:=Lib.hid (show Grow rdFds 1 (fun _=>True) w8 w.heap.size 55 v8 ((l.take (k+1)).map stH) by rw [TS.out];first|exact hG8|(rw [List.map_take];exact hG8)|(simpa using hG8))
     clear hG8 hg8 hE
     go_wp2
     go_roundg (l.length - (k+1))
     case measure=>omega
     case rel=>exact ⟨k+1,by go_num,by omega,Nat.le_refl _,G8,HB8⟩
  ·obtain rfl:k=l.length:=by omega
   have HG2:=HG.out
   rw [List.take_length] at HG2
   have hrd:=HG2.read rdFds_good
   obtain ⟨A',cp',hv',_,_⟩:=HG2.own
   rw [hv'] at hrd
   have K:=Lib.hid (print5_any _ _ _ _ wr hrd (HE.out wr HB.out).five (fun st hst f hf=>by
    obtain ⟨x,_,rfl⟩:=List.mem_map.1 hst
    have:=stH_names x f hf;unfold maxLen;omega))
   rw [List.length_map] at hv' K
   subst hv'
   clear HG2 HG hrd
   go_wp2_with fail
   refine K.out.mono ?_
   rintro e w5 ⟨rfl,hb⟩
   have B5:=Lib.hid (bel_in HB.out hb)
   clear hb K
   go_wp2
   go_ret
   exact ⟨by rw [X.out];try rfl,B5.out⟩
end Go.Proofs.YtboinnjncaehkaaGreatDoor
namespace Go.Proofs.YtboinnjncaehkaaGreatDoor
open Go.RowKit Go.WideShapes Go.ChangeShapes Go.ChangeAt Go.WideMaps Go.WideElems Go.Joins
section
variable {H:Type} {enc:TypeId × Value→H} {W:World}
theorem one_int {base n:Nat} {sp:Nat→Bool} {held:Bool} {v:Value} {y:DataW H × List MemPlace} (h:DataW.trod enc Tryz.prog W base sp held n 3 [v]=some y):∃e:Int,v=.int .i64 e∧(Lit.int .i64 e).wf=true:=by
 obtain ⟨e,h0,_,h2⟩:=DataW.trod_int Tryz.underlying3 h
 injection h0 with h0
 exact ⟨e,h0,h2⟩
theorem one_string {base n:Nat} {sp:Nat→Bool} {held:Bool} {v:Value} {y:DataW H × List MemPlace} (h:DataW.trod enc Tryz.prog W base sp held n 9 [v]=some y):∃s:ByteArray,v=.string s∧s.size≤maxLen:=by
 obtain ⟨s,h0,_,h2⟩:=DataW.trod_string Tryz.underlying9 h
 injection h0 with h0
 exact ⟨s,h0,h2⟩
end
end Go.Proofs.YtboinnjncaehkaaGreatDoor
namespace Go.Proofs.YtboinnjncaehkaaGreatDoor
open Go.RowKit Go.WideShapes Go.ChangeShapes Go.ChangeAt Go.WideMaps Go.WideElems Go.Joins Go.Deep
section
variable {H:Type} {enc:TypeId × Value→H} {W:World}
def AtmOk (a:Atm):Prop:=a.n.size≤maxLen∧(Lit.int .i64 a.o).wf=true∧a.v.size≤maxLen
theorem cells_atm:Tryz.prog.cellsOf 109=3:=by kernel_rfl
theorem cells_grp:Tryz.prog.cellsOf 71=1:=by kernel_rfl
theorem trod_atm {base n:Nat} {sp:Nat→Bool} {held:Bool} {cs:List Value} {y:DataW H × List MemPlace} (h:DataW.trod enc Tryz.prog W base sp held n 109 cs=some y):∃x:Atm,cs=x.cells∧AtmOk x:=by
 obtain ⟨y0,y1,y2,m,_,hl,h0,h1,h2⟩:=trod_struct3 Tryz.underlying109 h
 rw [cells_atm] at hl
 rcases cs with _|⟨c0,_|⟨c1,_|⟨c2,_|⟨c3,cs⟩⟩⟩⟩
 ·simp at hl
 ·simp at hl
 ·simp at hl
 ·have e0:DataW.trod enc Tryz.prog W base sp held m 9 [c0]=some y0:=h0
  have e1:DataW.trod enc Tryz.prog W base sp held m 3 [c1]=some y1:=h1
  have e2:DataW.trod enc Tryz.prog W base sp held m 9 [c2]=some y2:=h2
  obtain ⟨u,rfl,wu⟩:=one_string e0
  obtain ⟨e,rfl,we⟩:=one_int e1
  obtain ⟨r,rfl,wr⟩:=one_string e2
  exact ⟨⟨u,e,r⟩,rfl,wu,we,wr⟩
 ·simp at hl
theorem open_atoms_trod {base n:Nat} {sp:Nat→Bool} {held:Bool} {t:TypeId} {cs:List Value} {y:DataW H × List MemPlace} (ht:Tryz.prog.underlying t=some (.slice 109)) (h:DataW.trod enc Tryz.prog W base sp held n t cs=some y) :
  ∃A len c l,cs=[.slice A len c]∧rdAtms W (lt_ W.heap.size) l [.slice A len c]∧(∀a ∈ l,AtmOk a):=by
 rcases open_slice ht h with ⟨rfl,_⟩|⟨a,len,cap,m,k,D,Pl,rfl,hb,hl,hm,hmm,_,hx⟩
 ·exact ⟨none,0,0,[],rfl,rdRow_nil _ _,by simp⟩
 ·have hlm:len≤m:=by rw [hmm];split<;>omega
  have hat:∀i,i < len→∃x:Atm,AtmOk x∧a.block < W.heap.size∧∀j u,x.cells[j]?=some u→W.cell? (a.add (i*3+j))=some u:=by
   intro i hi
   obtain ⟨cs',hc,ht'⟩:=hx i (by omega)
   rw [cells_atm] at hc
   obtain ⟨x,rfl,hok⟩:=trod_atm ht'
   obtain ⟨_,hcl,hcell⟩:=World.cells?_some hc
   have key:∀j u,x.cells[j]?=some u→W.cell? (a.add (i*3+j))=some u:=fun j u hu=>by
    have hj:j < 3:=by have:=(List.getElem?_eq_some_iff.1 hu).1;simpa [Atm.cells] using this
    have:=hcell j hj
    rw [hu] at this
    rw [←this]
    congr 1
    unfold Addr.add
    by_cases h1:i*3=0<;>by_cases h2:j=0<;>simp [h1,h2,Nat.add_assoc]
   have hb':=World.block_lt_of_cell? _ _ (key 0 _ rfl)
   rw [blk_add] at hb'
   exact ⟨x,hok,hb',key⟩
  refine ⟨some a,len,cap,List.ofFn fun i:Fin len=>Classical.choose (hat i.1 i.2),rfl,⟨some a,cap,by simp,by simpa using hl,hm,fun i hi=>?_⟩,fun x hx=>?_⟩
  ·simp only [List.length_ofFn] at hi
   have hs:=Classical.choose_spec (hat i hi)
   refine ⟨a,_,rfl,hs.2.1,?_,?_,hs.2.2⟩
   ·show _=Atm.cells _
    rw [List.getElem_ofFn]
   ·rfl
  ·obtain ⟨i,hi⟩:=List.mem_ofFn.1 hx
   rw [←hi];exact (Classical.choose_spec (hat i.1 i.2)).1
end
section
variable {H:Type} {enc:TypeId × Value→H} {W:World}
def EntOk (x:Ent):Prop:=x.n.size≤maxLen∧x.v.size≤maxLen∧(∀g ∈ x.d,∀a ∈ g,AtmOk a)∧(∀g ∈ x.r,∀a ∈ g,AtmOk a)∧(∀a ∈ x.c,AtmOk a)∧(∀a ∈ x.p,AtmOk a)
theorem cells_ent:Tryz.prog.cellsOf 34=6:=by kernel_rfl
theorem open_grps_trod {base n:Nat} {sp:Nat→Bool} {held:Bool} {t:TypeId} {cs:List Value} {y:DataW H × List MemPlace} (ht:Tryz.prog.underlying t=some (.slice 71)) (hf:DataW.trod enc Tryz.prog W base sp held n t cs=some y) :
  ∃A len c L,cs=[.slice A len c]∧rdGrps W (lt_ W.heap.size) L [.slice A len c]∧(∀g ∈ L,∀a ∈ g,AtmOk a):=by
 rcases open_slice ht hf with ⟨rfl,_⟩|⟨a,len,cap,m,k,D,Pl,rfl,hb,hl,hm,hmm,_,hx⟩
 ·exact ⟨none,0,0,[],rfl,rdRow_nil _ _,by simp⟩
 ·have hlm:len≤m:=by rw [hmm];split<;>omega
  have hat:∀i,i < len→∃(g:List Atm) (u:Value),(∀x ∈ g,AtmOk x)∧a.block < W.heap.size∧rdAtms W (lt_ W.heap.size) g [u]∧W.cell? (a.add (i*1+0))=some u:=by
   intro i hi
   obtain ⟨cs',hc,ht'⟩:=hx i (by omega)
   rw [cells_grp] at hc
   obtain ⟨A,n,c,l,rfl,h1,h2⟩:=open_atoms_trod Tryz.underlying71 ht'
   obtain ⟨_,hcl,hcell⟩:=World.cells?_some hc
   have h0:=hcell 0 (by omega)
   have hadd:((a.add (i*1)).add 0)=a.add (i*1+0):=by unfold Addr.add;simp
   rw [hadd] at h0
   have hb':=World.block_lt_of_cell? W (a.add (i*1+0)) h0
   rw [blk_add] at hb'
   exact ⟨l,_,h2,hb',h1,h0⟩
  refine ⟨some a,len,cap,List.ofFn fun i:Fin len=>Classical.choose (hat i.1 i.2),rfl,⟨some a,cap,by simp,by simpa using hl,hm,fun i hi=>?_⟩,fun g hg=>?_⟩
  ·simp only [List.length_ofFn] at hi
   have hs:=Classical.choose_spec (Classical.choose_spec (hat i hi))
   refine ⟨a,[Classical.choose (Classical.choose_spec (hat i hi))],rfl,hs.2.1,?_,rfl,fun j u hu=>?_⟩
   ·rw [List.getElem_ofFn];exact hs.2.2.1
   ·have hj:j=0:=by have:=(List.getElem?_eq_some_iff.1 hu).1;simpa using this
    subst hj
    simp only [List.getElem?_cons_zero,Option.some.injEq] at hu
    rw [←hu];exact hs.2.2.2
  ·obtain ⟨i,hi⟩:=List.mem_ofFn.1 hg
   rw [←hi];exact (Classical.choose_spec (Classical.choose_spec (hat i.1 i.2))).1
theorem trod_ent {base n:Nat} {sp:Nat→Bool} {held:Bool} {cs:List Value} {y:DataW H × List MemPlace} (h:DataW.trod enc Tryz.prog W base sp held n 34 cs=some y):∃x:Ent,rdEnt W (lt_ W.heap.size) x cs∧EntOk x:=by
 obtain ⟨xs,m,_,rfl,hl,hlen,hf⟩:=DataW.trod_struct Tryz.underlying34 h
 rw [cells_ent] at hl
 rcases cs with _|⟨c0,_|⟨c1,_|⟨c2,_|⟨c3,_|⟨c4,_|⟨c5,_|⟨c6,cs⟩⟩⟩⟩⟩⟩⟩
 ·simp at hl
 ·simp at hl
 ·simp at hl
 ·simp at hl
 ·simp at hl
 ·simp at hl
 ·rcases xs with _|⟨y0,_|⟨y1,_|⟨y2,_|⟨y3,_|⟨y4,_|⟨y5,_|⟨y6,xs⟩⟩⟩⟩⟩⟩⟩
  ·simp at hlen
  ·simp at hlen
  ·simp at hlen
  ·simp at hlen
  ·simp at hlen
  ·simp at hlen
  ·have e0:DataW.trod enc Tryz.prog W base sp held m 9 [c0]=some y0:=hf 0 _ rfl
   have e1:DataW.trod enc Tryz.prog W base sp held m 9 [c1]=some y1:=hf 1 _ rfl
   have e2:DataW.trod enc Tryz.prog W base sp held m 31 [c2]=some y2:=hf 2 _ rfl
   have e3:DataW.trod enc Tryz.prog W base sp held m 31 [c3]=some y3:=hf 3 _ rfl
   have e4:DataW.trod enc Tryz.prog W base sp held m 32 [c4]=some y4:=hf 4 _ rfl
   have e5:DataW.trod enc Tryz.prog W base sp held m 32 [c5]=some y5:=hf 5 _ rfl
   obtain ⟨n,rfl,wn⟩:=one_string e0
   obtain ⟨v,rfl,wv⟩:=one_string e1
   obtain ⟨A1,n1,k1,d,h1,r1,o1⟩:=open_grps_trod Tryz.underlying31 e2
   obtain ⟨A2,n2,k2,r,h2,r2,o2⟩:=open_grps_trod Tryz.underlying31 e3
   obtain ⟨A3,n3,k3,c,h3,r3,o3⟩:=open_atoms_trod Tryz.underlying32 e4
   obtain ⟨A4,n4,k4,p,h4,r4,o4⟩:=open_atoms_trod Tryz.underlying32 e5
   simp only [List.cons.injEq,and_true] at h1 h2 h3 h4
   subst h1
   subst h2
   subst h3
   subst h4
   exact ⟨⟨n,v,d,r,c,p⟩,⟨_,_,_,_,rfl,r1,r2,r3,r4⟩,wn,wv,o1,o2,o3,o4⟩
  ·simp at hlen
 ·simp at hl
end
section
variable {H:Type} {enc:TypeId × Value→H} {W:World}
def HrOk (x:Hr):Prop:=EntOk x.e
theorem cells_here:Tryz.prog.cellsOf 36=8:=by kernel_rfl
theorem trod_here {base n:Nat} {sp:Nat→Bool} {held:Bool} {cs:List Value} {y:DataW H × List MemPlace} (h:DataW.trod enc Tryz.prog W base sp held n 36 cs=some y):∃x:Hr,rdHr W (lt_ W.heap.size) x cs∧HrOk x:=by
 obtain ⟨xs,m,_,rfl,hl,hlen,hf⟩:=DataW.trod_struct Tryz.underlying36 h
 rw [cells_here] at hl
 rcases cs with _|⟨c0,_|⟨c1,_|⟨c2,_|⟨c3,_|⟨c4,_|⟨c5,_|⟨c6,_|⟨c7,_|⟨c8,cs⟩⟩⟩⟩⟩⟩⟩⟩⟩
 ·simp at hl
 ·simp at hl
 ·simp at hl
 ·simp at hl
 ·simp at hl
 ·simp at hl
 ·simp at hl
 ·simp at hl
 ·rcases xs with _|⟨y0,_|⟨y1,_|⟨y2,_|⟨y3,xs⟩⟩⟩⟩
  ·simp at hlen
  ·simp at hlen
  ·simp at hlen
  ·have e0:DataW.trod enc Tryz.prog W base sp held m 34 [c0,c1,c2,c3,c4,c5]=some y0:=hf 0 _ rfl
   have e1:DataW.trod enc Tryz.prog W base sp held m 4 [c6]=some y1:=hf 1 _ rfl
   have e2:DataW.trod enc Tryz.prog W base sp held m 4 [c7]=some y2:=hf 2 _ rfl
   obtain ⟨x,hx,ok⟩:=trod_ent e0
   obtain ⟨b1,h1,-⟩:=DataW.trod_bool Tryz.underlying4 e1
   obtain ⟨b2,h2,-⟩:=DataW.trod_bool Tryz.underlying4 e2
   simp only [List.cons.injEq,and_true] at h1 h2
   subst h1
   subst h2
   exact ⟨⟨x,b1,b2⟩,⟨_,rfl,hx⟩,ok⟩
  ·simp at hlen
 ·simp at hl
theorem open_heres_arg {v:Value} {d:DataW H} {p:List MemPlace} {base:Nat} (hv:Value.okWide Tryz.prog W .any base 23 v) (h:DataW.Trod enc Tryz.prog W 0 (fun _=>true) true 23 v d p) :
  ∃A n c l,v=.slice A n c∧rdHrs W (lt_ W.heap.size) l [.slice A n c]∧(∀x ∈ l,HrOk x):=by
 obtain ⟨a0,len0,cap0,rfl⟩:=okWide_slice Tryz.underlying23 hv
 obtain ⟨fuel,hf⟩:=h
 rcases open_slice Tryz.underlying23 hf with ⟨hcs,_⟩|⟨a,len,cap,m,k,D,Pl,hcs,hb,hl,hm,hmm,_,hx⟩
 ·simp [Value.cells] at hcs
  obtain ⟨rfl,rfl,rfl⟩:=hcs
  exact ⟨none,0,0,[],rfl,rdRow_nil _ _,by simp⟩
 ·simp [Value.cells] at hcs
  obtain ⟨rfl,rfl,rfl⟩:=hcs
  have hlm:len0≤m:=by rw [hmm];split<;>omega
  have hat:∀i,i < len0→∃(x:Hr) (es:List Value),HrOk x∧a.block < W.heap.size∧rdHr W (lt_ W.heap.size) x es∧es.length=8∧∀j u,es[j]?=some u→W.cell? (a.add (i*8+j))=some u:=by
   intro i hi
   obtain ⟨cs',hc,ht'⟩:=hx i (by omega)
   rw [cells_here] at hc
   obtain ⟨x,hrd,hok⟩:=trod_here ht'
   obtain ⟨_,hcl,hcell⟩:=World.cells?_some hc
   have hlen:=rdHr_good.len hrd
   have key:∀j u,cs'[j]?=some u→W.cell? (a.add (i*8+j))=some u:=fun j u hu=>by
    have hj:j < 8:=by have:=(List.getElem?_eq_some_iff.1 hu).1;omega
    have:=hcell j hj
    rw [hu] at this
    rw [←this]
    congr 1
    unfold Addr.add
    by_cases h1:i*8=0<;>by_cases h2:j=0<;>simp [h1,h2,Nat.add_assoc]
   have hb':=World.block_lt_of_cell? _ _ (key 0 _ (List.getElem?_eq_getElem (by omega)))
   rw [blk_add] at hb'
   exact ⟨x,cs',hok,hb',hrd,hlen,key⟩
  refine ⟨some a,len0,cap0,List.ofFn fun i:Fin len0=>Classical.choose (hat i.1 i.2),rfl,⟨some a,cap0,by simp,by simpa using hl,hm,fun i hi=>?_⟩,fun x hx=>?_⟩
  ·simp only [List.length_ofFn] at hi
   have hs:=Classical.choose_spec (Classical.choose_spec (hat i hi))
   refine ⟨a,Classical.choose (Classical.choose_spec (hat i hi)),rfl,hs.2.1,?_,hs.2.2.2.1,hs.2.2.2.2⟩
   rw [List.getElem_ofFn];exact hs.2.2.1
  ·obtain ⟨i,hi⟩:=List.mem_ofFn.1 hx
   rw [←hi];exact (Classical.choose_spec (Classical.choose_spec (hat i.1 i.2))).1
end
end Go.Proofs.YtboinnjncaehkaaGreatDoor
