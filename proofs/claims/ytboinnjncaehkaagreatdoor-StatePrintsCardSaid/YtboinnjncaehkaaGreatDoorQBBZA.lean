/- What the laws rest on: E7m, RelRef, D4d, S5k6, S5k7. -/
import Derived.IntWalk
import Derived.Lib.SplitLaws
import Derived.Shelf.Strings.BuilderX
import Derived.Lib.Builder
import Derived.Lib.AppendStr
import Derived.Lib.UnsafeStr
import Derived.Lib.MakeNoZero
import Derived.Laws.Externs
import Derived.Test.YtboinnjncaehkaaGreatDoorQANZA
import Derived.Test.YtboinnjncaehkaaGreatDoorQBKZA
set_option maxRecDepth 100000
set_option linter.unusedVariables false
set_option linter.unusedSimpArgs false
namespace Go.Proofs.YtboinnjncaehkaaGreatDoor
open Go.RowKit
set_option maxHeartbeats 16000000 in
theorem q7print_any (KR:∀(x:Ent) (A1:Option Addr) (c1:Nat) (A2:Option Addr) (c2:Nat) (A3:Option Addr) (c3:Nat) (A4:Option Addr) (c4:Nat) (w:World),EntV w (lt_ w.heap.size) x A1 c1 A2 c2 A3 c3 A4 c4→Sz x→Calls Tryz.prog 42 #[x.val A1 c1 A2 c2 A3 c3 A4 c4] w fun e w'=>e=.returned (.bool (rgtE x))∧Below w.heap.size w w') (KW:∀(x:Ent) (A1:Option Addr) (c1:Nat) (A2:Option Addr) (c2:Nat) (A3:Option Addr) (c3:Nat) (A4:Option Addr) (c4:Nat) (w:World),EntV w (lt_ w.heap.size) x A1 c1 A2 c2 A3 c3 A4 c4→Sz x→Calls Tryz.prog 46 #[x.val A1 c1 A2 c2 A3 c3 A4 c4] w fun e w'=>(∃A c,e=.returned (.slice A (wrE x).length c)∧rdFds w' (fun b=>w.heap.size≤b∧b < w'.heap.size) (wrE x) [.slice A (wrE x).length c])∧Below w.heap.size w w') (PR:List (List Fd)→ByteArray) (SM:List (List Fd)→Prop) (KZ:∀(A:Option Addr) (n c:Nat) (L:List (List Fd)) (w:World),rdStzs w (lt_ w.heap.size) L [.slice A n c]→SM L→Calls Tryz.prog 47 #[.slice A n c] w fun e w'=>e=.returned (.string (PR L))∧Below w.heap.size w w') (A:Option Addr) (n c:Nat) (l:List Hr) (w:World) (h:rdHrs w (lt_ w.heap.size) l [.slice A n c]) (hz:∀x ∈ l,Sz x.e) (hsm:l.length≤200) (hSM:rightH l=true→SM (l.map stH)) :
  Calls Tryz.prog 17 #[.slice A n c] w fun e w'=>e=.returned (.string (prH PR l))∧Below w.heap.size w w':=by
 obtain ⟨rfl,hnc,hcm,hat⟩:=rdHrs_at h
 have hcm':c≤9223372036854775807:=hcm
 obtain ⟨fi,hi,hz0,hz1,hz2⟩:=info_parts fds_info
 obtain ⟨fj,hj,hy0,hy1,hy2⟩:=info_parts fd_info
 have HAT:=Lib.hid hat
 have HZ:=Lib.hid hz
 have HS:=Lib.hid hSM
 have H200:=Lib.hid hsm
 have HH:=Lib.hid h
 have KR7:=Lib.hid (q7right_any KR A l.length c l w h hz)
 have KW:=Lib.hid KW
 have KZ:=Lib.hid KZ
 clear hat h hz hSM hcm hsm KR
 by_cases hr:rightH l=true
 case neg=>
  have X:=Lib.hid (show prH PR l={ data:=#[] } from if_neg hr)
  rw [Bool.eq_false_iff.2 hr] at KR7
  clear hr
  go_enter Tryz.func17,Tryz.ntmps17
  go_wp2_with fail
  refine KR7.out.mono ?_
  rintro e w1 ⟨rfl,hb⟩
  go_wp2
  go_ret
  exact ⟨by rw [X.out];try rfl,hb⟩
 have X:=Lib.hid (show prH PR l=PR (l.map stH) from if_pos hr)
 have HS:=Lib.hid (HS.out hr)
 rw [hr] at KR7
 clear hr
 go_enter Tryz.func17,Tryz.ntmps17
 go_wp2_with fail
 refine KR7.out.mono ?_
 rintro e w1 ⟨rfl,hb⟩
 have B1:=Lib.hid hb
 clear hb KR7
 go_wp2
 go_loopw [4,5] (fun v i wr=>∃k:Nat,k≤l.length∧i=.int .i64 k∧Grow rdFds 1 (fun _=>True) wr w.heap.size 54 v ((l.take k).map stH)∧Below w.heap.size w wr) (fun _ i _=>l.length - (intOf i).toNat)
 case atStart=>exact ⟨0,Nat.zero_le _,rfl,Grow.nil _ _ _ _,B1.out⟩
 case round=>
  obtain ⟨k,hk,rfl,hG,hbel⟩:=hrel
  have HB:=Lib.hid hbel
  have HG:=Lib.hid hG
  clear hG hbel
  by_cases hlt:k < l.length
  ·obtain ⟨ad,A1,c1,A2,c2,A3,c3,A4,c4,rfl,had,hv,g0,g1,g2,g3,g4,g5,g6,g7⟩:=HAT.out k hlt
   have i0:(0:Int)≤(k:Int):=by omega
   have i1:(k:Int) < (l.length:Int):=by omega
   have TS:=Lib.hid (take_snoc stH l k hlt)
   have K:=Lib.hid (KW.out l[k].e A1 c1 A2 c2 A3 c3 A4 c4 wr (hv.on HB.out) (HZ.out _ (List.getElem_mem hlt)))
   have KC:=Lib.hid (fun (W:World) (hb:Below wr.heap.size wr W)=>(show W.cell? ⟨(ad.add (k*8)).block,(ad.add (k*8)).off+6,none⟩=some (.bool l[k].a)∧W.cell? ⟨(ad.add (k*8)).block,(ad.add (k*8)).off+7,none⟩=some (.bool l[k].h) from ⟨keep6 (bel_in HB.out hb) g6,keep6 (bel_in HB.out hb) g7⟩))
   have h0:=keep6 HB.out g0
   have h1:=keep6 HB.out g1
   have h2:=keep6 HB.out g2
   have h3:=keep6 HB.out g3
   have h4:=keep6 HB.out g4
   have h5:=keep6 HB.out g5
   clear had hv g0 g1 g2 g3 g4 g5 g6 g7
   generalize l[k]=x at *
   obtain ⟨xe,xa,xh⟩:=x
   simp only at K KC h0 h1 h2 h3 h4 h5
   go_wp2_with fail
   refine K.out.mono ?_
   rintro e w2 ⟨⟨A2',cc2,rfl,hrw⟩,hb⟩
   have V2:=Lib.hid hb
   have N2:=Lib.hid (show (wrE xe).length≤6 by unfold wrE;split;exact (wr_len xe).2.2.2.2;exact Nat.zero_le _)
   have M2:=Lib.hid (show (wrE xe).length≤10 by have:=N2.out;omega)
   have R2:=Lib.hid hrw
   have XE2:=Lib.hid (show stH ⟨xe,xa,xh⟩=wrE xe++(mrk xa nAu++mrk xh nHo) from rfl)
   obtain ⟨s2,hs2⟩:∃s,s=wrE xe:=⟨_,rfl⟩
   rw [←hs2] at N2 M2 R2 XE2 ⊢
   clear hb hrw h0 h1 h2 h3 h4 h5 K hs2
   cases xa
   ·have b6:=(KC.out w2 V2.out).1
    cases xh
    ·have b7:=(KC.out w2 V2.out).2
     have HE:=Lib.hid (show s2=stH ⟨xe,false,false⟩ by rw [XE2.out];simp [mrk])
     have G4:=Lib.hid (HG.out.below rdFds_good V2.out)
     have hE:=(show rdFds w2 (fun b=>True∧b < w2.heap.size∧u4.ownBlock≠some b) s2 (#[.slice A2' s2.length cc2]:Array Value).toList from rdFds_good.more R2.out fun b hb=>⟨trivial,hb.2,fun hh=>by have h8:=(HG.out.lt b hh).2;have h7:=hb.1;omega⟩)
     have hlm:((l.take k).map stH).length=k:=by rw [List.length_map,List.length_take];omega
     have hn1:((l.take k).map stH).length+1≤maxLen:=by have:=H200.out;rw [hlm];unfold maxLen;omega
     have hn2:(((l.take k).map stH).length+1)*24≤140737488355328:=by have:=H200.out;rw [hlm];omega
     have hs4:w.heap.size≤w2.heap.size:=Nat.le_trans HB.out.size V2.out.size
     clear hlm
     go_wp2_with (at_builtin;refine wpList_grow1 w2 rfl _ _ 63 rfl rdFds_good (by decide) (fun _=>True) w.heap.size 54 fi _ 24 Tryz.underlying63 hi hz0 hz1 hz2 rfl u4 _ rfl G4.out s2 _ 54 hE _ rfl rfl hn1 hn2 hs4 ?_)
     intro v8 w8 hG8 hg8
     have HB8:=Lib.hid (grow_below G4.out hg8 (bel_in HB.out V2.out) (Nat.le_refl _) hs4)
     rw [HE.out] at hG8
     have G8:=Lib.hid hG8
     clear hG8 hg8 hE
     go_wp2
     go_roundw
     case rel=>exact ⟨k+1,by omega,by go_num,by rw [TS.out];first|exact G8.out|(rw [List.map_take];exact G8.out),HB8.out⟩
     case measure=>simp [intOf];omega
    ·have b7:=(KC.out w2 V2.out).2
     obtain ⟨s6,hs6⟩:∃L,L=s2++[(⟨{ data:=#[72,111,108,100] },{ data:=#[121,101,115] }⟩:Fd)]:=⟨_,rfl⟩
     have E6:=Lib.hid hs6
     have L6:=Lib.hid (show s6.length=s2.length+1 by rw [hs6];simp)
     clear hs6
     have GE:=Lib.hid (show Grow rdFd 2 (fun _=>True) (w2.alloc (Obj.cells #[] 78)) w2.heap.size 78 (.slice (some ⟨w2.heap.size,0,none⟩) 0 0) [] from Grow.empty _ (heap_alloc_new w2 _) (Nat.le_refl _))
     have BE:=Lib.hid (show Below w2.heap.size w2 (w2.alloc (Obj.cells #[] 78)) from (Below.refl _ _).alloc (Nat.le_refl _) _)
     have XE:=Lib.hid (rdFds_good.below (rdFds_good.more R2.out fun b hb=>hb.2) BE.out)
     have SE:=Lib.hid (show ∀b,lt_ w2.heap.size b→True∧b < (w2.alloc (Obj.cells #[] 78)).heap.size∧(Value.slice (some ⟨w2.heap.size,0,none⟩) 0 0).ownBlock≠some b from fun b hb=>⟨trivial,by simp;unfold lt_ at hb;omega,fun hh=>by simp only [Value.ownBlock,Option.some.injEq] at hh;unfold lt_ at hb;omega⟩)
     have hs0:w2.heap.size≤(w2.alloc (Obj.cells #[] 78)).heap.size:=BE.out.size
     have hq1:([]:List Fd).length+s2.length≤maxLen:=by have:=M2.out;simp only [List.length_nil];unfold maxLen;omega
     have hq2:(([]:List Fd).length+s2.length)*32≤140737488355328:=by have:=M2.out;simp only [List.length_nil];omega
     have hq3:s2.length+1≤maxLen:=by have:=M2.out;unfold maxLen;omega
     have hq4:(s2.length+1)*32≤140737488355328:=by have:=M2.out;omega
     go_wp2_with (at_builtin;refine wpList_growN _ rfl _ _ 54 54 rfl rdFd_good (by decide) (fun _=>True) w2.heap.size 78 78 fj (.agg #[.string { data:=#[] },.string { data:=#[] }]) 32 Tryz.underlying54 Tryz.underlying54 hj hy0 hy1 hy2 rfl _ _ rfl GE.out s2 _ A2' s2.length cc2 rfl XE.out SE.out hq1 hq2 hs0 ?_)
     intro v3 w3 hG3 hg3
     have B3:=Lib.hid (grow_below GE.out hg3 BE.out (Nat.le_refl _) hs0)
     have G3:=Lib.hid (show Grow rdFd 2 (fun _=>True) w3 w2.heap.size 78 v3 s2 from hG3)
     have hs3:w2.heap.size≤w3.heap.size:=B3.out.size
     have hE:=(show rdFd w3 (fun b=>True∧b < w3.heap.size∧v3.ownBlock≠some b) (⟨{ data:=#[72,111,108,100] },{ data:=#[121,101,115] }⟩:Fd) (#[.string { data:=#[72,111,108,100] },.string { data:=#[121,101,115] }]:Array Value).toList from rfl)
     clear hG3 hg3
     go_wp2_with (at_builtin;refine wpList_grow1 w3 rfl _ _ 54 rfl rdFd_good (by decide) (fun _=>True) w2.heap.size 78 fj _ 32 Tryz.underlying54 hj hy0 hy1 hy2 rfl v3 s2 rfl G3.out (⟨{ data:=#[72,111,108,100] },{ data:=#[121,101,115] }⟩:Fd) _ 78 hE _ rfl rfl hq3 hq4 hs3 ?_)
     intro v5 w6 hG5 hg5
     have B5:=Lib.hid (grow_below G3.out hg5 B3.out (Nat.le_refl _) hs3)
     have V6:=Lib.hid (bel_in V2.out B5.out)
     rw [←E6.out] at hG5
     have R6:=Lib.hid (show rdFds w6 (fun b=>wr.heap.size≤b∧b < w6.heap.size) s6 [v5] from by
      have h2:Grow rdFd 2 (fun _=>False) w6 w2.heap.size 78 v5 s6:=Grow.flat (fun _ _ _ _ _ h=>h) hG5
      exact rdFds_good.more (h2.reads rdFd_good) fun b hb=>⟨Nat.le_trans V2.out.size (hb.2.resolve_right id),hb.1⟩)
     obtain ⟨A6,cc6,hv5,_⟩:=id R6.out
     simp only [List.cons.injEq,and_true] at hv5
     subst hv5
     have M6:=Lib.hid (show s6.length≤10 by have:=L6.out;have:=N2.out;omega)
     have N6:=Lib.hid (show s6.length≤8 by have:=L6.out;have:=N2.out;omega)
     clear hG5 hg5 GE BE XE SE hE B3 B5 G3 hs3 hs0 hq1 hq2 hq3 hq4
     have HE:=Lib.hid (show s6=stH ⟨xe,false,true⟩ by rw [E6.out,XE2.out];simp [mrk,nHo,yes7])
     have G4:=Lib.hid (HG.out.below rdFds_good V6.out)
     have hE:=(show rdFds w6 (fun b=>True∧b < w6.heap.size∧u4.ownBlock≠some b) s6 (#[.slice A6 s6.length cc6]:Array Value).toList from rdFds_good.more R6.out fun b hb=>⟨trivial,hb.2,fun hh=>by have h8:=(HG.out.lt b hh).2;have h7:=hb.1;omega⟩)
     have hlm:((l.take k).map stH).length=k:=by rw [List.length_map,List.length_take];omega
     have hn1:((l.take k).map stH).length+1≤maxLen:=by have:=H200.out;rw [hlm];unfold maxLen;omega
     have hn2:(((l.take k).map stH).length+1)*24≤140737488355328:=by have:=H200.out;rw [hlm];omega
     have hs4:w.heap.size≤w6.heap.size:=Nat.le_trans HB.out.size V6.out.size
     clear hlm
     go_wp2_with (at_builtin;refine wpList_grow1 w6 rfl _ _ 63 rfl rdFds_good (by decide) (fun _=>True) w.heap.size 54 fi _ 24 Tryz.underlying63 hi hz0 hz1 hz2 rfl u4 _ rfl G4.out s6 _ 54 hE _ rfl rfl hn1 hn2 hs4 ?_)
     intro v8 w8 hG8 hg8
     have HB8:=Lib.hid (grow_below G4.out hg8 (bel_in HB.out V6.out) (Nat.le_refl _) hs4)
     rw [HE.out] at hG8
     have G8:=Lib.hid hG8
     clear hG8 hg8 hE
     go_wp2
     go_roundw
     case rel=>exact ⟨k+1,by omega,by go_num,by rw [TS.out];first|exact G8.out|(rw [List.map_take];exact G8.out),HB8.out⟩
     case measure=>simp [intOf];omega
   ·have b6:=(KC.out w2 V2.out).1
    obtain ⟨s4,hs4⟩:∃L,L=s2++[(⟨{ data:=#[65,117,116,111] },{ data:=#[121,101,115] }⟩:Fd)]:=⟨_,rfl⟩
    have E4:=Lib.hid hs4
    have L4:=Lib.hid (show s4.length=s2.length+1 by rw [hs4];simp)
    clear hs4
    have GE:=Lib.hid (show Grow rdFd 2 (fun _=>True) (w2.alloc (Obj.cells #[] 78)) w2.heap.size 78 (.slice (some ⟨w2.heap.size,0,none⟩) 0 0) [] from Grow.empty _ (heap_alloc_new w2 _) (Nat.le_refl _))
    have BE:=Lib.hid (show Below w2.heap.size w2 (w2.alloc (Obj.cells #[] 78)) from (Below.refl _ _).alloc (Nat.le_refl _) _)
    have XE:=Lib.hid (rdFds_good.below (rdFds_good.more R2.out fun b hb=>hb.2) BE.out)
    have SE:=Lib.hid (show ∀b,lt_ w2.heap.size b→True∧b < (w2.alloc (Obj.cells #[] 78)).heap.size∧(Value.slice (some ⟨w2.heap.size,0,none⟩) 0 0).ownBlock≠some b from fun b hb=>⟨trivial,by simp;unfold lt_ at hb;omega,fun hh=>by simp only [Value.ownBlock,Option.some.injEq] at hh;unfold lt_ at hb;omega⟩)
    have hs0:w2.heap.size≤(w2.alloc (Obj.cells #[] 78)).heap.size:=BE.out.size
    have hq1:([]:List Fd).length+s2.length≤maxLen:=by have:=M2.out;simp only [List.length_nil];unfold maxLen;omega
    have hq2:(([]:List Fd).length+s2.length)*32≤140737488355328:=by have:=M2.out;simp only [List.length_nil];omega
    have hq3:s2.length+1≤maxLen:=by have:=M2.out;unfold maxLen;omega
    have hq4:(s2.length+1)*32≤140737488355328:=by have:=M2.out;omega
    go_wp2_with (at_builtin;refine wpList_growN _ rfl _ _ 54 54 rfl rdFd_good (by decide) (fun _=>True) w2.heap.size 78 78 fj (.agg #[.string { data:=#[] },.string { data:=#[] }]) 32 Tryz.underlying54 Tryz.underlying54 hj hy0 hy1 hy2 rfl _ _ rfl GE.out s2 _ A2' s2.length cc2 rfl XE.out SE.out hq1 hq2 hs0 ?_)
    intro v3 w3 hG3 hg3
    have B3:=Lib.hid (grow_below GE.out hg3 BE.out (Nat.le_refl _) hs0)
    have G3:=Lib.hid (show Grow rdFd 2 (fun _=>True) w3 w2.heap.size 78 v3 s2 from hG3)
    have hs3:w2.heap.size≤w3.heap.size:=B3.out.size
    have hE:=(show rdFd w3 (fun b=>True∧b < w3.heap.size∧v3.ownBlock≠some b) (⟨{ data:=#[65,117,116,111] },{ data:=#[121,101,115] }⟩:Fd) (#[.string { data:=#[65,117,116,111] },.string { data:=#[121,101,115] }]:Array Value).toList from rfl)
    clear hG3 hg3
    go_wp2_with (at_builtin;refine wpList_grow1 w3 rfl _ _ 54 rfl rdFd_good (by decide) (fun _=>True) w2.heap.size 78 fj _ 32 Tryz.underlying54 hj hy0 hy1 hy2 rfl v3 s2 rfl G3.out (⟨{ data:=#[65,117,116,111] },{ data:=#[121,101,115] }⟩:Fd) _ 78 hE _ rfl rfl hq3 hq4 hs3 ?_)
    intro v5 w4 hG5 hg5
    have B5:=Lib.hid (grow_below G3.out hg5 B3.out (Nat.le_refl _) hs3)
    have V4:=Lib.hid (bel_in V2.out B5.out)
    rw [←E4.out] at hG5
    have R4:=Lib.hid (show rdFds w4 (fun b=>wr.heap.size≤b∧b < w4.heap.size) s4 [v5] from by
     have h2:Grow rdFd 2 (fun _=>False) w4 w2.heap.size 78 v5 s4:=Grow.flat (fun _ _ _ _ _ h=>h) hG5
     exact rdFds_good.more (h2.reads rdFd_good) fun b hb=>⟨Nat.le_trans V2.out.size (hb.2.resolve_right id),hb.1⟩)
    obtain ⟨A4,cc4,hv5,_⟩:=id R4.out
    simp only [List.cons.injEq,and_true] at hv5
    subst hv5
    have M4:=Lib.hid (show s4.length≤10 by have:=L4.out;have:=N2.out;omega)
    have N4:=Lib.hid (show s4.length≤7 by have:=L4.out;have:=N2.out;omega)
    clear hG5 hg5 GE BE XE SE hE B3 B5 G3 hs3 hs0 hq1 hq2 hq3 hq4
    cases xh
    ·have b7:=(KC.out w4 V4.out).2
     have HE:=Lib.hid (show s4=stH ⟨xe,true,false⟩ by rw [XE2.out];rw [E4.out];simp [mrk,nAu,yes7])
     have G4:=Lib.hid (HG.out.below rdFds_good V4.out)
     have hE:=(show rdFds w4 (fun b=>True∧b < w4.heap.size∧u4.ownBlock≠some b) s4 (#[.slice A4 s4.length cc4]:Array Value).toList from rdFds_good.more R4.out fun b hb=>⟨trivial,hb.2,fun hh=>by have h8:=(HG.out.lt b hh).2;have h7:=hb.1;omega⟩)
     have hlm:((l.take k).map stH).length=k:=by rw [List.length_map,List.length_take];omega
     have hn1:((l.take k).map stH).length+1≤maxLen:=by have:=H200.out;rw [hlm];unfold maxLen;omega
     have hn2:(((l.take k).map stH).length+1)*24≤140737488355328:=by have:=H200.out;rw [hlm];omega
     have hs4:w.heap.size≤w4.heap.size:=Nat.le_trans HB.out.size V4.out.size
     clear hlm
     go_wp2_with (at_builtin;refine wpList_grow1 w4 rfl _ _ 63 rfl rdFds_good (by decide) (fun _=>True) w.heap.size 54 fi _ 24 Tryz.underlying63 hi hz0 hz1 hz2 rfl u4 _ rfl G4.out s4 _ 54 hE _ rfl rfl hn1 hn2 hs4 ?_)
     intro v8 w8 hG8 hg8
     have HB8:=Lib.hid (grow_below G4.out hg8 (bel_in HB.out V4.out) (Nat.le_refl _) hs4)
     rw [HE.out] at hG8
     have G8:=Lib.hid hG8
     clear hG8 hg8 hE
     go_wp2
     go_roundw
     case rel=>exact ⟨k+1,by omega,by go_num,by rw [TS.out];first|exact G8.out|(rw [List.map_take];exact G8.out),HB8.out⟩
     case measure=>simp [intOf];omega
    ·have b7:=(KC.out w4 V4.out).2
     obtain ⟨s6,hs6⟩:∃L,L=s4++[(⟨{ data:=#[72,111,108,100] },{ data:=#[121,101,115] }⟩:Fd)]:=⟨_,rfl⟩
     have E6:=Lib.hid hs6
     have L6:=Lib.hid (show s6.length=s4.length+1 by rw [hs6];simp)
     clear hs6
     have GE:=Lib.hid (show Grow rdFd 2 (fun _=>True) (w4.alloc (Obj.cells #[] 78)) w4.heap.size 78 (.slice (some ⟨w4.heap.size,0,none⟩) 0 0) [] from Grow.empty _ (heap_alloc_new w4 _) (Nat.le_refl _))
     have BE:=Lib.hid (show Below w4.heap.size w4 (w4.alloc (Obj.cells #[] 78)) from (Below.refl _ _).alloc (Nat.le_refl _) _)
     have XE:=Lib.hid (rdFds_good.below (rdFds_good.more R4.out fun b hb=>hb.2) BE.out)
     have SE:=Lib.hid (show ∀b,lt_ w4.heap.size b→True∧b < (w4.alloc (Obj.cells #[] 78)).heap.size∧(Value.slice (some ⟨w4.heap.size,0,none⟩) 0 0).ownBlock≠some b from fun b hb=>⟨trivial,by simp;unfold lt_ at hb;omega,fun hh=>by simp only [Value.ownBlock,Option.some.injEq] at hh;unfold lt_ at hb;omega⟩)
     have hs0:w4.heap.size≤(w4.alloc (Obj.cells #[] 78)).heap.size:=BE.out.size
     have hq1:([]:List Fd).length+s4.length≤maxLen:=by have:=M4.out;simp only [List.length_nil];unfold maxLen;omega
     have hq2:(([]:List Fd).length+s4.length)*32≤140737488355328:=by have:=M4.out;simp only [List.length_nil];omega
     have hq3:s4.length+1≤maxLen:=by have:=M4.out;unfold maxLen;omega
     have hq4:(s4.length+1)*32≤140737488355328:=by have:=M4.out;omega
     go_wp2_with (at_builtin;refine wpList_growN _ rfl _ _ 54 54 rfl rdFd_good (by decide) (fun _=>True) w4.heap.size 78 78 fj (.agg #[.string { data:=#[] },.string { data:=#[] }]) 32 Tryz.underlying54 Tryz.underlying54 hj hy0 hy1 hy2 rfl _ _ rfl GE.out s4 _ A4 s4.length cc4 rfl XE.out SE.out hq1 hq2 hs0 ?_)
     intro v3 w3 hG3 hg3
     have B3:=Lib.hid (grow_below GE.out hg3 BE.out (Nat.le_refl _) hs0)
     have G3:=Lib.hid (show Grow rdFd 2 (fun _=>True) w3 w4.heap.size 78 v3 s4 from hG3)
     have hs3:w4.heap.size≤w3.heap.size:=B3.out.size
     have hE:=(show rdFd w3 (fun b=>True∧b < w3.heap.size∧v3.ownBlock≠some b) (⟨{ data:=#[72,111,108,100] },{ data:=#[121,101,115] }⟩:Fd) (#[.string { data:=#[72,111,108,100] },.string { data:=#[121,101,115] }]:Array Value).toList from rfl)
     clear hG3 hg3
     go_wp2_with (at_builtin;refine wpList_grow1 w3 rfl _ _ 54 rfl rdFd_good (by decide) (fun _=>True) w4.heap.size 78 fj _ 32 Tryz.underlying54 hj hy0 hy1 hy2 rfl v3 s4 rfl G3.out (⟨{ data:=#[72,111,108,100] },{ data:=#[121,101,115] }⟩:Fd) _ 78 hE _ rfl rfl hq3 hq4 hs3 ?_)
     intro v5 w6 hG5 hg5
     have B5:=Lib.hid (grow_below G3.out hg5 B3.out (Nat.le_refl _) hs3)
     have V6:=Lib.hid (bel_in V4.out B5.out)
     rw [←E6.out] at hG5
     have R6:=Lib.hid (show rdFds w6 (fun b=>wr.heap.size≤b∧b < w6.heap.size) s6 [v5] from by
      have h2:Grow rdFd 2 (fun _=>False) w6 w4.heap.size 78 v5 s6:=Grow.flat (fun _ _ _ _ _ h=>h) hG5
      exact rdFds_good.more (h2.reads rdFd_good) fun b hb=>⟨Nat.le_trans V4.out.size (hb.2.resolve_right id),hb.1⟩)
     obtain ⟨A6,cc6,hv5,_⟩:=id R6.out
     simp only [List.cons.injEq,and_true] at hv5
     subst hv5
     have M6:=Lib.hid (show s6.length≤10 by have:=L6.out;have:=N4.out;omega)
     have N6:=Lib.hid (show s6.length≤8 by have:=L6.out;have:=N4.out;omega)
     clear hG5 hg5 GE BE XE SE hE B3 B5 G3 hs3 hs0 hq1 hq2 hq3 hq4
     have HE:=Lib.hid (show s6=stH ⟨xe,true,true⟩ by rw [E6.out,E4.out,XE2.out];simp [mrk,nAu,nHo,yes7])
     have G4:=Lib.hid (HG.out.below rdFds_good V6.out)
     have hE:=(show rdFds w6 (fun b=>True∧b < w6.heap.size∧u4.ownBlock≠some b) s6 (#[.slice A6 s6.length cc6]:Array Value).toList from rdFds_good.more R6.out fun b hb=>⟨trivial,hb.2,fun hh=>by have h8:=(HG.out.lt b hh).2;have h7:=hb.1;omega⟩)
     have hlm:((l.take k).map stH).length=k:=by rw [List.length_map,List.length_take];omega
     have hn1:((l.take k).map stH).length+1≤maxLen:=by have:=H200.out;rw [hlm];unfold maxLen;omega
     have hn2:(((l.take k).map stH).length+1)*24≤140737488355328:=by have:=H200.out;rw [hlm];omega
     have hs4:w.heap.size≤w6.heap.size:=Nat.le_trans HB.out.size V6.out.size
     clear hlm
     go_wp2_with (at_builtin;refine wpList_grow1 w6 rfl _ _ 63 rfl rdFds_good (by decide) (fun _=>True) w.heap.size 54 fi _ 24 Tryz.underlying63 hi hz0 hz1 hz2 rfl u4 _ rfl G4.out s6 _ 54 hE _ rfl rfl hn1 hn2 hs4 ?_)
     intro v8 w8 hG8 hg8
     have HB8:=Lib.hid (grow_below G4.out hg8 (bel_in HB.out V6.out) (Nat.le_refl _) hs4)
     rw [HE.out] at hG8
     have G8:=Lib.hid hG8
     clear hG8 hg8 hE
     go_wp2
     go_roundw
     case rel=>exact ⟨k+1,by omega,by go_num,by rw [TS.out];first|exact G8.out|(rw [List.map_take];exact G8.out),HB8.out⟩
     case measure=>simp [intOf];omega
  ·obtain rfl:k=l.length:=by omega
   have HG2:=HG.out
   rw [List.take_length] at HG2
   have hrd:=HG2.read rdFds_good
   obtain ⟨A',cp',hv',_,_⟩:=HG2.own
   rw [hv'] at hrd
   have K:=Lib.hid (KZ.out _ _ _ _ wr hrd HS.out)
   rw [List.length_map] at hv' K
   subst hv'
   clear HG2 HG hrd
   go_wp2_with fail
   refine K.out.mono ?_
   rintro e w3 ⟨rfl,hb3⟩
   have B3:=Lib.hid (bel_in HB.out hb3)
   clear hb3
   go_wp2
   go_ret
   exact ⟨by rw [X.out];try rfl,B3.out⟩
theorem q3right_any (n:ByteArray) (op:Int) (v:ByteArray) (w:World) (hn:n.size≤65536):Calls Tryz.prog 134 #[.agg #[.string n,.int .i64 op,.string v]] w fun e' w'=>e'=.returned (.bool (rightA (B n) op (B v)))∧Below w.heap.size w w':=by
 have B1:=Lib.hid (show Below w.heap.size w (w.alloc (.cells #[.string n,.int .i64 op,.string v] 109)) from (Below.refl _ w).alloc (Nat.le_refl _) _)
 have KN:=Lib.hid (fun w=>q3name_any n w hn)
 cases hb:nameB (B n)
 ·have X:=Lib.hid (show rightA (B n) op (B v)=false by unfold rightA;rw [hb];rfl)
  rw [hb] at KN
  clear hb
  go_enter Tryz.func134,Tryz.ntmps134
  go_wp2_with fail
  refine (KN.out _).mono ?_
  rintro e' w' ⟨rfl,rfl⟩
  go_wp2
  go_ret
  exact ⟨by rw [X.out];rfl,B1.out⟩
 rw [hb] at KN
 by_cases h0:op=0
 ·subst h0
  have X:=Lib.hid (show v.toList.isEmpty=rightA (B n) 0 (B v) by unfold rightA;rw [hb,if_pos rfl,Bool.true_and,empty_is])
  clear hb
  go_enter Tryz.func134,Tryz.ntmps134
  go_wp2_with fail
  refine (KN.out _).mono ?_
  rintro e' w' ⟨rfl,rfl⟩
  go_wp2
  go_ret
  exact ⟨by rw [←X.out];rfl,B1.out⟩
 have t0:(op==0)=false:=by rw [beq_eq_false_iff_ne];exact h0
 by_cases ho:1≤op∧op≤5
 ·have X:=Lib.hid (show rightA (B n) op (B v)=prB (B v) by unfold rightA;rw [hb,if_neg h0,Bool.true_and,decide_eq_true ho,Bool.true_and])
  have KP:=Lib.hid (fun w=>q3plain_any v w)
  have j1:0≤op:=by omega
  have j2:op≤5:=ho.2
  clear hb h0 ho
  go_enter Tryz.func134,Tryz.ntmps134
  go_wp2_with fail
  refine (KN.out _).mono ?_
  rintro e' w' ⟨rfl,rfl⟩
  go_wp2_with fail
  refine (KP.out _).mono ?_
  rintro e' w2 ⟨rfl,hb⟩
  have B2:=Lib.hid (bel_2 B1.out hb)
  clear hb
  go_wp2
  go_ret
  exact ⟨by rw [X.out];rfl,B2.out⟩
 ·have X:=Lib.hid (show rightA (B n) op (B v)=false by unfold rightA;rw [if_neg h0,decide_eq_false ho,Bool.false_and,Bool.and_false])
  by_cases j1:op < 0
  ·clear hb h0 ho
   go_enter Tryz.func134,Tryz.ntmps134
   go_wp2_with fail
   refine (KN.out _).mono ?_
   rintro e' w' ⟨rfl,rfl⟩
   go_wp2
   go_ret
   exact ⟨by rw [X.out];rfl,B1.out⟩
  ·have j2:5 < op:=by omega
   have j0:0≤op:=by omega
   clear hb h0 ho j1
   go_enter Tryz.func134,Tryz.ntmps134
   go_wp2_with fail
   refine (KN.out _).mono ?_
   rintro e' w' ⟨rfl,rfl⟩
   go_wp2
   go_ret
   exact ⟨by rw [X.out];rfl,B1.out⟩
theorem q3sign_drewN (op:Int) (w:World) (m:Nat):Calls Tryz.prog 190 #[.int .i64 op] (w.drewN m) fun e w'=>e=.returned (.string (mk (signL op)))∧w'=w.drewN m:=
 (q3sign_any op (w.drewN m)).mono fun _ _ h=>⟨h.1,h.2.symm⟩
theorem q3print_any (n:ByteArray) (op:Int) (v:ByteArray) (w:World) (hn:n.size≤65536):Calls Tryz.prog 147 #[.agg #[.string n,.int .i64 op,.string v]] w fun e' w'=>e'=.returned (.string (mk (printA (B n) op (B v))))∧Below w.heap.size w w':=by
 have KR:=Lib.hid (fun w=>q3right_any n op v w hn)
 cases hr:rightA (B n) op (B v)
 ·have X:=Lib.hid (show printA (B n) op (B v)=[] by unfold printA;rw [hr];rfl)
  rw [hr] at KR
  clear hr
  go_enter Tryz.func147,Tryz.ntmps147
  go_wp2_with fail
  refine (KR.out _).mono ?_
  rintro e' w1 ⟨rfl,hb⟩
  have B1:=Lib.hid (bel_boxed hb)
  clear hb
  go_wp2
  go_ret
  exact ⟨by rw [X.out];rfl,B1.out⟩
 ·by_cases h0:op=0
  ·have X:=Lib.hid (show mk (printA (B n) op (B v))=n by unfold printA textA;rw [if_pos hr,if_pos h0,mk_B])
   have t0:(op==0)=true:=by rw [beq_iff_eq];exact h0
   rw [hr] at KR
   clear hr h0
   go_enter Tryz.func147,Tryz.ntmps147
   go_wp2_with fail
   refine (KR.out _).mono ?_
   rintro e' w1 ⟨rfl,hb⟩
   have B1:=Lib.hid (bel_boxed hb)
   obtain ⟨c0,c1,c2,s1⟩:=box_cells hb
   clear hb
   go_wp2
   go_ret
   exact ⟨by rw [X.out];rfl,B1.out⟩
  ·have t0:(op==0)=false:=by rw [beq_eq_false_iff_ne];exact h0
   have hsz:=@printA_size (B n) (B v) op
   have hb0:=(show printA (B n) op (B v)=B n++32::40::(signL op++32::(B v++[41])) by unfold printA textA;rw [if_pos hr,if_neg h0])
   have hls:(mk (signL op)).size=(signL op).length:=size_mk _
   have hsl:∀c ∈ signL op,c < 256:=by
    have hr2:=hr
    unfold rightA at hr2
    rw [if_neg h0] at hr2
    simp only [Bool.and_eq_true,decide_eq_true_eq] at hr2
    have:op=1∨op=2∨op=3∨op=4∨op=5:=by omega
    rcases this with rfl|rfl|rfl|rfl|rfl<;>decide
   have X:=Lib.hid (show n++{ data:=#[32,40] }++mk (signL op)++{ data:=#[32] }++v++{ data:=#[41] }=mk (printA (B n) op (B v)) by
    rw [hb0]
    refine eq_mk ?_
    simp only [B_append]
    rw [B_mk hsl]
    simp [B])
   rw [hb0] at hsz
   simp only [List.length_append,List.length_cons,B_len] at hsz
   have z1:n.size≤110:=by omega
   have z2:v.size≤110:=by omega
   have z3:(mk (signL op)).size≤110:=by omega
   have KS:=Lib.hid (fun w m=>q3sign_drewN op w m)
   generalize mk (signL op)=sg at *
   rw [hr] at KR
   clear hr h0 hsz hb0 hls hsl
   obtain ⟨N1,e1,k1⟩:=add_out n { data:=#[32,40] } 110 2 z1 (by decide)
   obtain ⟨N2,e2,k2⟩:=add_out N1 sg 112 110 k1.2 z3
   obtain ⟨N3,e3,k3⟩:=add_out N2 { data:=#[32] } 222 1 k2.2 (by decide)
   obtain ⟨N4,e4,k4⟩:=add_out N3 v 223 110 k3.2 z2
   obtain ⟨N5,e5,k5⟩:=add_out N4 { data:=#[41] } 333 1 k4.2 (by decide)
   rw [←k1.1,←k2.1,←k3.1,←k4.1,←k5.1] at X
   clear k1 k2 k3 k4 k5
   go_enter Tryz.func147,Tryz.ntmps147
   go_wp2_with fail
   refine (KR.out _).mono ?_
   rintro e' w1 ⟨rfl,hb⟩
   have B1:=Lib.hid (bel_boxed hb)
   obtain ⟨c0,c1,c2,s1⟩:=box_cells hb
   clear hb
   go_wp2_with fail
   go_quiet (first|(go_at_call 190;refine Calls.quiet_of_same (KS.out _ _)))
   go_wp2
   go_ret
   exact ⟨by rw [←X.out];rfl,bel_d B1.out _⟩
theorem q4r_atom (x:Atm) (w:World) (h:x.n.size≤65536):Calls Tryz.prog 134 #[.agg #[.string x.n,.int .i64 x.o,.string x.v]] w fun e' w'=>e'=.returned (.bool (rgt x))∧Below w.heap.size w w':=q3right_any x.n x.o x.v w h
set_option maxHeartbeats 2000000 in
theorem q4right_any (A:Option Addr) (n c:Nat) (L:List (List Atm)) (w:World) (h:rdGrps w (lt_ w.heap.size) L [.slice A n c]) (hz:∀g ∈ L,∀a ∈ g,a.n.size≤65536) :
  Calls Tryz.prog 78 #[.slice A n c] w fun e w'=>e=.returned (.bool (rightG L))∧Below w.heap.size w w':=by
 obtain ⟨rfl,hnc,hcm,_⟩:=rdGrps_at h
 have hcm1:c≤9223372036854775807:=hcm
 have HZ:=Lib.hid hz
 clear hz
 go_enter Tryz.func78,Tryz.ntmps78
 go_wp2
 go_loopw [3,4,5] (fun i n v wr=>∃k:Nat,k≤L.length∧i=.int .i64 k∧(L.take k).all rgtOne=true∧Below w.heap.size w wr) (fun i _ _ _=>L.length - (intOf i).toNat)
 case atStart=>exact ⟨0,Nat.zero_le _,rfl,rfl,Below.refl _ _⟩
 case round=>
  obtain ⟨k,hk,rfl,htk,hbel⟩:=hrel
  by_cases hlt:k < L.length
  ·have T:=Lib.hid (all_takeL rgtOne L k hlt)
   have Z:=Lib.hid (right_stop (L:=L) (k:=k) hlt)
   have H:=Lib.hid htk
   have HB:=Lib.hid hbel
   have hcell:=fun W (hW:Below w.heap.size w W)=>(rdGrps_at (rdGrps_good.below h hW)).2.2.2 k hlt
   have HC:=Lib.hid hcell
   have hzg:=HZ.out L[k] (List.getElem_mem hlt)
   obtain ⟨ad,A',c',rfl,had,h0,h1⟩:=hcell wr hbel
   clear htk hcell hbel
   have hc':c'≤9223372036854775807:=(rdAtms_at h1).2.2.1
   have hgc:=(rdAtms_at h1).2.1
   have HC2:=Lib.hid (show ∀W,Below w.heap.size w W→W.cell? (ad.add k)=some (.slice A' L[k].length c')∧rdAtms W (lt_ w.heap.size) L[k] [.slice A' L[k].length c'] from fun W hW=>by
    refine ⟨?_,?_⟩
    ·rw [World.cell?_of_block (w:=wr) (by rw [blk_add];rw [hW.block _ had,HB.out.block _ had])];exact h0
    ·exact rdAtms_good.keep h1 fun b hb=>by rw [hW.block _ hb,HB.out.block _ hb])
   clear h1 HC h
   generalize L[k]=g at *
   go_wp2
   go_loopw [4,5] (fun n v wr2=>∃q:Nat,q≤g.length∧n=.int .i64 q∧(g.take q).all rgt=true∧Below w.heap.size w wr2) (fun n _ _=>g.length - (intOf n).toNat)
   case atStart=>exact ⟨0,Nat.zero_le _,rfl,rfl,HB.out⟩
   case round=>
    obtain ⟨q,hq,rfl,hall,hbel2⟩:=hrel
    obtain ⟨g0,g1⟩:=HC2.out _ hbel2
    have H2:=Lib.hid hbel2
    clear h0 hbel2
    by_cases hlt2:q < g.length
    ·obtain ⟨ad2,rfl,had2,e0,e1,e2⟩:=(rdAtms_at g1).2.2.2 q hlt2
     have T2:=Lib.hid (all_takeL rgt g q hlt2)
     have Z2:=Lib.hid (rgtOne_stop (g:=g) (k:=q) hlt2)
     have A2:=Lib.hid hall
     have hx:=hzg g[q] (List.getElem_mem hlt2)
     clear hall g1 hzg
     generalize g[q]=x at *
     have K:=Lib.hid (fun W=>q4r_atom x W hx)
     clear hx
     cases hr:rgt x
     ·have R:=Lib.hid hr
      rw [hr] at K
      clear hr
      go_wp2_with (go_at_call 134;refine (K.out _).mono ?_;rintro e w3 ⟨rfl,hb3⟩)
      go_ret
      exact ⟨by rw [Z.out (Z2.out R.out)];try rfl,bel2 H2.out hb3 (Nat.le_refl _)⟩
     ·have R:=Lib.hid hr
      rw [hr] at K
      clear hr
      go_wp2_with (go_at_call 134;refine (K.out _).mono ?_;rintro e w3 ⟨rfl,hb3⟩)
      go_roundw
      case rel=>exact ⟨q+1,by omega,by go_num,by rw [T2.out,A2.out,R.out];rfl,bel2 H2.out hb3 (Nat.le_refl _)⟩
      case measure=>simp [intOf];omega
    ·obtain rfl:q=g.length:=by omega
     have A2:=Lib.hid hall
     clear hall g1 hzg
     by_cases hl1:g.length < 1
     ·have X:=Lib.hid (Z.out (rgtOne_len (g:=g) (by omega)))
      have hl1':(g.length:Int) < 1:=by omega
      go_wp2
      go_ret
      exact ⟨by rw [X.out];try rfl,H2.out⟩
     ·by_cases hl6:6 < g.length
      ·have X:=Lib.hid (Z.out (rgtOne_len (g:=g) (by omega)))
       have hl1':¬(g.length:Int) < 1:=by omega
       have hl6':(6:Int) < g.length:=by omega
       go_wp2
       go_ret
       exact ⟨by rw [X.out];try rfl,H2.out⟩
      ·have X:=Lib.hid (show (L.take (k+1)).all rgtOne=true by rw [T.out,H.out,rgtOne_yes (by omega) (by omega) A2.out];rfl)
       have hl1':¬(g.length:Int) < 1:=by omega
       have hl6':¬(6:Int) < g.length:=by omega
       go_wp2
       go_roundw
       case rel=>exact ⟨k+1,by omega,by go_num,X.out,H2.out⟩
       case measure=>simp [intOf];omega
  ·obtain rfl:k=L.length:=by omega
   have X:=Lib.hid (right_all htk)
   clear htk h
   by_cases h12:L.length≤12
   ·have hd:decide ((L.length:Int)≤12)=true:=by rw [decide_eq_true_eq];omega
    have X2:=Lib.hid (X.out.trans (decide_eq_true h12))
    go_wp2
    go_ret
    exact ⟨by rw [X2.out];try rfl,hbel⟩
   ·have hd:decide ((L.length:Int)≤12)=false:=by rw [decide_eq_false_iff_not];omega
    have X2:=Lib.hid (X.out.trans (decide_eq_false h12))
    go_wp2
    go_ret
    exact ⟨by rw [X2.out];try rfl,hbel⟩
def fbT (n:List Nat) (L:List (List Nat)) (k:Nat):List Nat:=n++(58::((if L.getD 0 []=[] then [] else 32::L.getD 0 [])++10::(((L.take k).drop 1).map fun l=>32::(l++[10])).flatten))
theorem fb_end (f:Fd):fbT (B f.n) (cutBy 10 (B f.v)) (cutBy 10 (B f.v)).length=fldT f:=by
 unfold fbT fldT
 rw [List.take_length]
 cases h:cutBy 10 (B f.v) with
 | nil=>exact absurd h (cutBy_ne _ _)
 | cons x r=>rfl
theorem fb_step {n:List Nat} {L:List (List Nat)} {k:Nat} (h1:1≤k) (hk:k < L.length):fbT n L (k+1)=fbT n L k++([32]++(L[k]++[10])):=by
 unfold fbT
 have:(L.take (k+1)).drop 1=(L.take k).drop 1++[L[k]]:=by
  rw [List.take_succ_eq_append_getElem hk,List.drop_append_of_le_length (by rw [List.length_take];omega)]
 rw [this,List.map_append,List.flatten_append]
 simp
set_option maxHeartbeats 4000000 in
theorem q5field_any (f:Fd) (w:World) (hn:f.n.size≤65536) (hv:f.v.size≤65536) :
  Calls Tryz.prog 149 #[.agg #[.string f.n,.string f.v]] w fun e w'=>(∃y:ByteArray,e=.returned (.string y)∧B y=fldT f∧y.size≤4400000000)∧Below w.heap.size w w':=by
 have FE:=Lib.hid (fb_end f)
 obtain ⟨fn,fv⟩:=f
 have BA:=Lib.hid ((Below.refl w.heap.size w).alloc (Nat.le_refl _) (.cells #[.string fn,.string fv] 78))
 have Z:=Lib.hid (show (w.alloc (.cells #[.string fn,.string fv] 78)).heap.size=w.heap.size+1 by rw [World.size_alloc])
 have Q:=Lib.hid (show (w.alloc (.cells #[.string fn,.string fv] 78)).cell? ⟨w.heap.size,0,none⟩=some (.string fn)∧(w.alloc (.cells #[.string fn,.string fv] 78)).cell? ⟨w.heap.size,1,none⟩=some (.string fv) from ⟨by simp [go_sem],by simp [go_sem]⟩)
 have KL:=Lib.hid (q5lines_any fv (w.alloc (.cells #[.string fn,.string fv] 78)) hv)
 have HLL:=Lib.hid (show (cutBy 10 (B fv)).length≤65537 by rw [cutBy_len];have:=List.count_le_length (a:=10) (l:=B fv);rw [B_len] at this;have hv:fv.size≤65536:=hv;omega)
 have HL0:=Lib.hid (cut_zero 10 (B fv))
 have HLB:=Lib.hid (fun l (hl:l ∈ cutBy 10 (B fv))=>(show l.length≤65536 from by have:=cutBy_mem_len hl;rw [B_len] at this;have hv:fv.size≤65536:=hv;omega))
 have HN:=Lib.hid (show fn.size≤65536 from hn)
 clear hn hv
 generalize cutBy 10 (B fv)=L at *
 go_enter Tryz.func149,Tryz.ntmps149
 go_wp2_with fail
 refine KL.out.mono ?_
 rintro e w1 ⟨⟨A1,n1,c1,rfl,hr⟩,hb⟩
 obtain ⟨rfl,hnc1,hcm1,ha⟩:=rdStrs_at hr
 have hcm1':c1≤9223372036854775807:=hcm1
 have x0:=(hb.cell (show (⟨w.heap.size,0,none⟩:Addr).block < _ by rw [Z.out];exact Nat.lt_succ_self _)).trans Q.out.1
 have HB:=Lib.hid (BA.out.trans (hb.mono BA.out.size))
 have HA:=Lib.hid ha
 obtain ⟨ad,l0,rfl,had,g0,hB0⟩:=ha 0 HL0.out
 rw [add_0] at g0
 have L0:=Lib.hid (show L.getD 0 []=B l0 by rw [List.getD_eq_getElem?_getD,List.getElem?_eq_getElem HL0.out];exact hB0.symm)
 have Z0:=Lib.hid (show l0.size≤65536 by rw [←B_len,hB0];exact HLB.out _ (List.getElem_mem HL0.out))
 have i0:(0:Int) < (L.length:Int):=by have:=HL0.out;omega
 have hll:=HLL.out
 obtain ⟨y1,a1,p1,z1⟩:=add_out fn { data:=#[58] } 65536 1 HN.out (by decide)
 have em:=emp_eq l0
 have P1:=Lib.hid p1
 clear hr hb ha hB0 hcm1 p1
 rcases (by
  by_cases h0:B l0=[]
  ·exact Or.inl h0
  ·exact Or.inr h0:B l0=[]∨¬B l0=[]) with h0|h0
 ·rw [decide_eq_true h0] at em
  obtain ⟨y4,a4,p4,z4⟩:=add_out y1 { data:=#[10] } 65537 1 z1 (by decide)
  have ST:=Lib.hid (show B y4=fbT (B fn) L 1∧y4.size≤200000 from ⟨by
   rw [p4,P1.out,B_append,B_append]
   unfold fbT
   rw [L0.out,if_pos h0,show (L.take 1).drop 1=[] from List.drop_eq_nil_of_le (by rw [List.length_take];omega)]
   show B fn++[58]++[10]=B fn++(58::([]++10::[]))
   simp,by omega⟩)
  clear p4 z4 h0 z1
  go_wp2
  clear x0
  go_loop [4,5] (fun v i=>∃(k:Nat) (y:ByteArray),1≤k∧k≤L.length∧i=.int .i64 k∧v=.string y∧B y=fbT (B fn) L k∧y.size≤200000+k*65538) (fun _ i=>L.length - (intOf i).toNat)
  case atStart=>exact ⟨1,y4,Nat.le_refl _,HL0.out,by go_num,rfl,ST.out.1,by have:=ST.out.2;omega⟩
  case round=>
   obtain ⟨k,y,hk1,hk,rfl,rfl,hy,hys⟩:=hrel
   have HY:=Lib.hid (And.intro hy hys)
   clear hy hys
   by_cases hlt:k < L.length
   ·obtain ⟨ad',s,e',_,gk,hB⟩:=HA.out k hlt
    injection e' with e'
    subst e'
    have FS:=Lib.hid (fb_step (n:=B fn) hk1 hlt)
    have SZ:=Lib.hid (show s.size≤65536 by rw [←B_len,hB];exact HLB.out _ (List.getElem_mem hlt))
    obtain ⟨u1,b1,r1,t1⟩:=add_out y { data:=#[32] } (200000+k*65538) 1 HY.out.2 (by decide) (by omega)
    obtain ⟨u2,b2,r2,t2⟩:=add_out u1 s (200000+k*65538+1) 65536 t1 SZ.out (by omega)
    obtain ⟨u3,b3,r3,t3⟩:=add_out u2 { data:=#[10] } (200000+k*65538+1+65536) 1 t2 (by decide) (by omega)
    have NX:=Lib.hid (show B u3=fbT (B fn) L (k+1)∧u3.size≤200000+(k+1)*65538 from ⟨by
     rw [r3,r2,r1,B_append,B_append,B_append,HY.out.1,FS.out,hB]
     show _++[32]++_++[10]=_
     simp,by omega⟩)
    clear r1 r2 r3 t1 t2 t3 hB
    go_wp2
    go_round
    case rel=>exact ⟨k+1,u3,by omega,by omega,by go_num,rfl,NX.out.1,NX.out.2⟩
    case measure=>simp [intOf];omega
   ·obtain rfl:k=L.length:=by omega
    have FIN:=Lib.hid (show B y=fldT ⟨fn,fv⟩∧y.size≤4400000000 from ⟨HY.out.1.trans FE.out,by have h1:=HY.out.2;have:=HLL.out;omega⟩)
    go_wp2
    go_ret
    exact ⟨⟨y,rfl,FIN.out.1,FIN.out.2⟩,HB.out⟩
 ·rw [decide_eq_false h0] at em
  obtain ⟨y2,a2,p2,z2⟩:=add_out y1 { data:=#[32] } 65537 1 z1 (by decide)
  obtain ⟨y3,a3,p3,z3⟩:=add_out y2 l0 65538 65536 z2 Z0.out
  obtain ⟨y4,a4,p4,z4⟩:=add_out y3 { data:=#[10] } 131074 1 z3 (by decide)
  have ST:=Lib.hid (show B y4=fbT (B fn) L 1∧y4.size≤200000 from ⟨by
   rw [p4,p3,p2,P1.out,B_append,B_append,B_append,B_append]
   unfold fbT
   rw [L0.out,if_neg h0,show (L.take 1).drop 1=[] from List.drop_eq_nil_of_le (by rw [List.length_take];omega)]
   show B fn++[58]++[32]++B l0++[10]=B fn++(58::((32::B l0)++10::[]))
   simp,by omega⟩)
  clear p2 p3 p4 z4 z3 z2 h0 z1
  go_wp2
  clear x0
  go_loop [4,5] (fun v i=>∃(k:Nat) (y:ByteArray),1≤k∧k≤L.length∧i=.int .i64 k∧v=.string y∧B y=fbT (B fn) L k∧y.size≤200000+k*65538) (fun _ i=>L.length - (intOf i).toNat)
  case atStart=>exact ⟨1,y4,Nat.le_refl _,HL0.out,by go_num,rfl,ST.out.1,by have:=ST.out.2;omega⟩
  case round=>
   obtain ⟨k,y,hk1,hk,rfl,rfl,hy,hys⟩:=hrel
   have HY:=Lib.hid (And.intro hy hys)
   clear hy hys
   by_cases hlt:k < L.length
   ·obtain ⟨ad',s,e',_,gk,hB⟩:=HA.out k hlt
    injection e' with e'
    subst e'
    have FS:=Lib.hid (fb_step (n:=B fn) hk1 hlt)
    have SZ:=Lib.hid (show s.size≤65536 by rw [←B_len,hB];exact HLB.out _ (List.getElem_mem hlt))
    obtain ⟨u1,b1,r1,t1⟩:=add_out y { data:=#[32] } (200000+k*65538) 1 HY.out.2 (by decide) (by omega)
    obtain ⟨u2,b2,r2,t2⟩:=add_out u1 s (200000+k*65538+1) 65536 t1 SZ.out (by omega)
    obtain ⟨u3,b3,r3,t3⟩:=add_out u2 { data:=#[10] } (200000+k*65538+1+65536) 1 t2 (by decide) (by omega)
    have NX:=Lib.hid (show B u3=fbT (B fn) L (k+1)∧u3.size≤200000+(k+1)*65538 from ⟨by
     rw [r3,r2,r1,B_append,B_append,B_append,HY.out.1,FS.out,hB]
     show _++[32]++_++[10]=_
     simp,by omega⟩)
    clear r1 r2 r3 t1 t2 t3 hB
    go_wp2
    go_round
    case rel=>exact ⟨k+1,u3,by omega,by omega,by go_num,rfl,NX.out.1,NX.out.2⟩
    case measure=>simp [intOf];omega
   ·obtain rfl:k=L.length:=by omega
    have FIN:=Lib.hid (show B y=fldT ⟨fn,fv⟩∧y.size≤4400000000 from ⟨HY.out.1.trans FE.out,by have h1:=HY.out.2;have:=HLL.out;omega⟩)
    go_wp2
    go_ret
    exact ⟨⟨y,rfl,FIN.out.1,FIN.out.2⟩,HB.out⟩
set_option maxHeartbeats 8000000 in
theorem q5stanza_any (A:Option Addr) (n c:Nat) (l:List Fd) (w:World) (h:rdFds w (lt_ w.heap.size) l [.slice A n c]) (hs:∀f ∈ l,f.n.size≤maxLen∧f.v.size≤65536) :
  Calls Tryz.prog 148 #[.slice A n c] w fun e w'=>e=.returned (.bool (stzR l))∧Below w.heap.size w w':=by
 obtain ⟨rfl,hnc,hcm,_⟩:=rdFds_at h
 have hcm':c≤9223372036854775807:=hcm
 have H:=Lib.hid h
 have HS:=Lib.hid hs
 have SD:=Lib.hid (show stzR l=(l.all fdR&&noDup [] l&&(decide (1≤l.length)&&decide (l.length≤40))) from rfl)
 clear hcm h hs
 go_enter Tryz.func148,Tryz.ntmps148
 go_wp2
 go_loopw [3] (fun i wr=>∃k:Nat,k≤l.length∧i=.int .i64 k∧(l.take k).all fdR=true∧noDup [] l=noDup (l.take k) (l.drop k)∧Below w.heap.size w wr) (fun i _=>l.length - (intOf i).toNat)
 case atStart=>exact ⟨0,Nat.zero_le _,rfl,rfl,rfl,Below.refl _ _⟩
 case round=>
  obtain ⟨k,hk,rfl,hall,hdup,hbel⟩:=hrel
  have HA:=Lib.hid hall
  have HD:=Lib.hid hdup
  have HB:=Lib.hid hbel
  clear hall hdup
  by_cases hlt:k < l.length
  ·obtain ⟨_,_,_,ha⟩:=rdFds_at (rdFds_good.below H.out hbel)
   obtain ⟨ad,rfl,had,x0,x1⟩:=ha k hlt
   have hf:=HS.out l[k] (List.getElem_mem hlt)
   have KN:=Lib.hid (fun w=>q5name_any l[k].n w hf.1)
   have KV:=Lib.hid (fun w=>q5value_any l[k].v w hf.2)
   have AS:=Lib.hid (all_snoc fdR l k hlt)
   have AN:=Lib.hid (fun h=>all_not5 (p:=fdR) (l:=l) (k:=k) hlt h)
   have DS:=Lib.hid (noDup_step hlt)
   have FDK:=Lib.hid (show fdR l[k]=(fnB (B l[k].n)&&valB (B l[k].v)) from rfl)
   have i0:(0:Int)≤(k:Int):=by omega
   have i1:(k:Int) < (l.length:Int):=by omega
   have hki:k < l.length:=hlt
   clear ha hbel hf
   cases h1:fnB (B l[k].n)
   ·have X:=Lib.hid (show stzR l=false by rw [SD.out,AN.out (by rw [FDK.out,h1];rfl)];rfl)
    rw [h1] at KN
    clear h1
    go_wp2_with fail
    refine (KN.out _).mono ?_
    rintro e w' ⟨rfl,rfl⟩
    go_wp2_with fail
    refine (KV.out _).mono ?_
    rintro e w2 ⟨rfl,hb2⟩
    have HB2:=Lib.hid (HB.out.trans (hb2.mono HB.out.size))
    clear hb2
    go_wp2
    go_ret
    exact ⟨by rw [X.out];try rfl,HB2.out⟩
   ·rw [h1] at KN
    cases h2:valB (B l[k].v)
    ·have X:=Lib.hid (show stzR l=false by rw [SD.out,AN.out (by rw [FDK.out,h1,h2];rfl)];rfl)
     rw [h2] at KV
     clear h1 h2
     go_wp2_with fail
     refine (KN.out _).mono ?_
     rintro e w' ⟨rfl,rfl⟩
     go_wp2_with fail
     refine (KV.out _).mono ?_
     rintro e w2 ⟨rfl,hb2⟩
     have HB2:=Lib.hid (HB.out.trans (hb2.mono HB.out.size))
     clear hb2
     go_wp2
     go_ret
     exact ⟨by rw [X.out];try rfl,HB2.out⟩
    ·rw [h2] at KV
     have FOK:=Lib.hid (show fdR l[k]=true by rw [FDK.out,h1,h2];rfl)
     clear h1 h2 FDK
     go_wp2_with fail
     refine (KN.out _).mono ?_
     rintro e w' ⟨rfl,rfl⟩
     go_wp2_with fail
     refine (KV.out _).mono ?_
     rintro e w2 ⟨rfl,hb2⟩
     have HB2:=Lib.hid (HB.out.trans (hb2.mono HB.out.size))
     clear hb2 x0 x1
     go_wp2
     go_loopw [6] (fun i wr=>∃q:Nat,q≤k∧i=.int .i64 q∧getV (l.take q) l[k].n=false∧Dr w2 wr) (fun i _=>k - (intOf i).toNat)
     case atStart=>exact ⟨0,Nat.zero_le _,rfl,rfl,Dr.refl _⟩
     case round=>
      obtain ⟨q,hq,rfl,hg,hdr⟩:=hrel
      have HG:=Lib.hid hg
      have HDR:=Lib.hid hdr
      clear hg
      by_cases hlq:q < k
      ·have hql:q < l.length:=by omega
       have BX:=hdr.below w.heap.size
       obtain ⟨_,_,_,ha⟩:=rdFds_at (rdFds_good.below H.out (HB2.out.trans BX))
       obtain ⟨ad1,e1,had1,c0,_⟩:=ha k hlt
       obtain ⟨ad2,e2,had2,g0,_⟩:=ha q hql
       injection e1 with e1
       injection e2 with e2
       subst e1
       subst e2
       have GS:=Lib.hid (show getV (l.take (q+1)) l[k].n=(getV (l.take q) l[k].n||decide (l[q].n=l[k].n)) from any_snoc (fun f:Fd=>decide (f.n=l[k].n)) l q hql)
       have GH:=Lib.hid (fun (h:l[q].n=l[k].n)=>(show getV (l.take k) l[k].n=true from by
        unfold getV
        rw [List.any_eq_true]
        exact ⟨l[q],by rw [List.mem_take_iff_getElem];exact ⟨q,by omega,rfl⟩,decide_eq_true h⟩))
       have he:=str_eq l[q].n l[k].n
       have j0:(0:Int)≤(q:Int):=by omega
       have j1:(q:Int) < (l.length:Int):=by omega
       clear ha hdr BX had1 had2
       by_cases hn:l[q].n=l[k].n
       ·have X:=Lib.hid (show stzR l=false by rw [SD.out,HD.out,DS.out,GH.out hn];simp)
        rw [decide_eq_true hn] at he
        clear hn
        generalize l[q].n=s1 at *
        generalize l[k].n=s2 at *
        go_wp2_with fail
        go_quiet (fail)
        go_wp2
        go_ret
        exact ⟨by rw [X.out];try rfl,HB2.out.trans ((HDR.out.more _).below _)⟩
       ·have Y:=Lib.hid (show getV (l.take (q+1)) l[k].n=false by rw [GS.out,HG.out,decide_eq_false hn];rfl)
        rw [decide_eq_false hn] at he
        clear hn
        go_wp2_with fail
        go_quiet (fail)
        go_wp2
        go_roundw
        case rel=>exact ⟨q+1,by omega,by go_num,Y.out,HDR.out.more _⟩
        case measure=>simp [intOf];omega
      ·obtain rfl:q=k:=by omega
       have Y:=Lib.hid (show (l.take (q+1)).all fdR=true∧noDup [] l=noDup (l.take (q+1)) (l.drop (q+1)) from ⟨by rw [AS.out,HA.out,FOK.out];rfl,by rw [HD.out,DS.out,HG.out];rfl⟩)
       clear hdr
       go_wp2
       go_roundw
       case rel=>exact ⟨q+1,by omega,by go_num,Y.out.1,Y.out.2,HB2.out.trans (HDR.out.below _)⟩
       case measure=>simp [intOf];omega
  ·obtain rfl:k=l.length:=by omega
   have X:=Lib.hid (show stzR l=(decide (1≤l.length)&&decide (l.length≤40)) by
    have h1:=HA.out
    have h2:=HD.out
    rw [List.take_length] at h1 h2
    rw [SD.out,h1,h2,List.drop_length];rfl)
   clear hbel
   by_cases h0:1≤l.length
   ·have z0:(1:Int)≤(l.length:Int):=by omega
    by_cases h40:l.length≤40
    ·have z1:(l.length:Int)≤40:=by omega
     go_wp2
     go_ret
     exact ⟨by rw [X.out,decide_eq_true h0,decide_eq_true h40];try rfl,HB.out⟩
    ·have z1:¬(l.length:Int)≤40:=by omega
     go_wp2
     go_ret
     exact ⟨by rw [X.out,decide_eq_true h0,decide_eq_false h40];try rfl,HB.out⟩
   ·have z0:¬(1:Int)≤(l.length:Int):=by omega
    go_wp2
    go_ret
    exact ⟨by rw [X.out,decide_eq_false h0];try rfl,HB.out⟩
end Go.Proofs.YtboinnjncaehkaaGreatDoor
