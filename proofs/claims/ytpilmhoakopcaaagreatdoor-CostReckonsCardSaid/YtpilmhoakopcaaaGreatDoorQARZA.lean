/- What the laws rest on: N9b, P6e, N9e, N9e2, N9f. -/
import Derived.Test.YtpilmhoakopcaaaGreatDoorQANZA
set_option maxRecDepth 100000
set_option linter.unusedVariables false
set_option linter.unusedSimpArgs false
namespace Go.Proofs.YtpilmhoakopcaaaGreatDoor
open Go.RowKit Go.Sort
set_option maxHeartbeats 1000000 in
theorem among19_any (y:Ent) (A1:Option Addr) (c1:Nat) (A2:Option Addr) (c2:Nat) (A3:Option Addr) (c3:Nat) (A4:Option Addr) (c4:Nat) (n v:ByteArray) (q:Nat) (w:World) (h0:w.cell? ⟨q,0,none⟩=some (.string n)) (h1:w.cell? ⟨q,1,none⟩=some (.string v)) :
  Calls Tryz.prog 108 #[y.val A1 c1 A2 c2 A3 c3 A4 c4,.pointer (some ⟨q,0,none⟩)] w fun e w'=>e=.returned (.bool (thr n v y))∧Below w.heap.size w w':=by
 have B1:=(Below.refl w.heap.size w).alloc (Nat.le_refl _) (.cells #[.string y.n,.string y.v,.slice A1 y.d.length c1,.slice A2 y.r.length c2,.slice A3 y.c.length c3,.slice A4 y.p.length c4] 60)
 have g0:=keep6 B1 h0
 have g1:=keep6 B1 h1
 have HB:=Lib.hid B1
 have e0:=str_eq y.n n
 have e1:=str_eq y.v v
 have X:=Lib.hid (show thr n v y=(decide (y.n=n)&&decide (y.v=v)) from rfl)
 generalize decide (y.n=n)=d0 at *
 generalize decide (y.v=v)=d1 at *
 generalize thr n v y=b at *
 obtain ⟨yn,yv,yd,yr,yc,yp⟩:=y
 clear B1 h0 h1
 show Calls Tryz.prog 108 #[.agg #[.string yn,.string yv,.slice A1 yd.length c1,.slice A2 yr.length c2,.slice A3 yc.length c3,.slice A4 yp.length c4],.pointer (some ⟨q,0,none⟩)] w _
 cases d0
 ·go_enter Tryz.func108,Tryz.ntmps108
  go_wp2
  go_ret
  exact ⟨by rw [X.out];try rfl,HB.out⟩
 ·go_enter Tryz.func108,Tryz.ntmps108
  go_wp2
  go_ret
  exact ⟨by rw [X.out];try rfl,HB.out⟩
set_option maxHeartbeats 4000000 in
theorem ixEnt9_any (A:Option Addr) (m cc:Nat) (l:List Ent) (n v:ByteArray) (q:Nat) (w:World) (h:rdEnts w (lt_ w.heap.size) l [.slice A m cc]) (h0:w.cell? ⟨q,0,none⟩=some (.string n)) (h1:w.cell? ⟨q,1,none⟩=some (.string v)) :
  Calls Tryz.prog 140 #[.slice A m cc,.func (.func 108) #[] #[.pointer (some ⟨q,0,none⟩)]] w fun e w'=>e=.returned (.int .i64 (ixP (thr n v) l 0))∧Below w.heap.size w w':=by
 have hcf:∀(args:Array Value) (w:World),(callFunc 108 args).run Tryz.prog w=.ok (.enter 108 args) w:=fun _ _=>by kernel_rfl
 obtain ⟨rfl,hnc,hcm,_⟩:=rdEnts_at h
 have hcm':cc≤9223372036854775807:=hcm
 have H:=Lib.hid h
 have H0:=Lib.hid h0
 have H1:=Lib.hid h1
 clear h hcm h0 h1
 go_enter Tryz.func140,Tryz.ntmps140
 go_wp2
 go_loopw [8] (fun i wr=>∃k:Nat,k≤l.length∧i=.int .i64 k∧ixP (thr n v) l 0=ixP (thr n v) (l.drop k) k∧Below w.heap.size w wr) (fun i _=>l.length - (intOf i).toNat)
 case atStart=>exact ⟨0,Nat.zero_le _,rfl,rfl,Below.refl _ _⟩
 case round=>
  obtain ⟨k,hk,rfl,hx,hbel⟩:=hrel
  have HX:=Lib.hid hx
  have HB:=Lib.hid hbel
  clear hx
  by_cases hlt:k < l.length
  ·obtain ⟨_,_,_,ha⟩:=rdEnts_at (rdEnts_good.below H.out hbel)
   obtain ⟨ad,A1,c1,A2,c2,A3,c3,A4,c4,rfl,had,hv,g0,g1,g2,g3,g4,g5⟩:=ha k hlt
   have i0:(0:Int)≤(k:Int):=by omega
   have i1:(k:Int) < (l.length:Int):=by omega
   have CL:=Lib.hid (among19_any l[k] A1 c1 A2 c2 A3 c3 A4 c4 n v q wr (keep6 hbel H0.out) (keep6 hbel H1.out))
   have PA:=Lib.hid (ixP_at (p:=thr n v) hlt)
   clear ha hbel hv had
   have SZ:=Lib.hid HB.out.size
   generalize l[k]=x at *
   cases he:thr n v x
   ·have X:=Lib.hid (PA.out.2 he)
    rw [he] at CL
    clear he
    go_wp2_with fail
    refine CL.out.mono ?_
    rintro e w' ⟨rfl,hb2⟩
    have HB2:=Lib.hid hb2
    clear hb2
    go_wp2
    go_roundw
    case rel=>exact ⟨k+1,by omega,by go_num,by rw [HX.out,X.out],HB.out.trans (HB2.out.mono SZ.out)⟩
    case measure=>simp [intOf];omega
   ·have X:=Lib.hid (PA.out.1 he)
    rw [he] at CL
    clear he
    go_wp2_with fail
    refine CL.out.mono ?_
    rintro e w' ⟨rfl,hb2⟩
    have HB2:=Lib.hid hb2
    clear hb2
    go_wp2
    go_ret
    exact ⟨by rw [HX.out,X.out];try rfl,HB.out.trans (HB2.out.mono SZ.out)⟩
  ·have X:=Lib.hid (show ixP (thr n v) l 0=-1 by rw [HX.out,List.drop_eq_nil_of_le (by omega)];rfl)
   go_wp2
   go_ret
   exact ⟨by rw [X.out];try rfl,HB.out⟩
set_option maxHeartbeats 2000000 in
theorem hasEnt9_any (A:Option Addr) (m cc:Nat) (l:List Ent) (n v:ByteArray) (q:Nat) (w:World) (h:rdEnts w (lt_ w.heap.size) l [.slice A m cc]) (h0:w.cell? ⟨q,0,none⟩=some (.string n)) (h1:w.cell? ⟨q,1,none⟩=some (.string v)) :
  Calls Tryz.prog 107 #[.slice A m cc,.func (.func 108) #[] #[.pointer (some ⟨q,0,none⟩)]] w fun e w'=>e=.returned (.bool (l.any (thr n v)))∧Below w.heap.size w w':=by
 have C:=Lib.hid (ixEnt9_any A m cc l n v q w h h0 h1)
 have X:=Lib.hid (ixP_any (p:=thr n v) (l:=l) (i:=0))
 clear h h0 h1
 go_enter Tryz.func107,Tryz.ntmps107
 go_wp2_with (go_at_call 140;(with_reducible refine C.out.mono ?_);rintro e w' ⟨rfl,hb2⟩)
 go_ret
 exact ⟨by rw [←X.out];rfl,hb2⟩
set_option maxHeartbeats 2000000 in
theorem among9_any (A:Option Addr) (m cc:Nat) (l:List Ent) (x:Ent) (A1:Option Addr) (c1:Nat) (A2:Option Addr) (c2:Nat) (A3:Option Addr) (c3:Nat) (A4:Option Addr) (c4:Nat) (w:World) (h:rdEnts w (lt_ w.heap.size) l [.slice A m cc]) :
  Calls Tryz.prog 72 #[.slice A m cc,x.val A1 c1 A2 c2 A3 c3 A4 c4] w fun e w'=>e=.returned (.bool (thB l x))∧Below w.heap.size w w':=by
 have B1:=(Below.refl w.heap.size w).alloc (Nat.le_refl _) (.cells #[.string x.n,.string x.v,.slice A1 x.d.length c1,.slice A2 x.r.length c2,.slice A3 x.c.length c3,.slice A4 x.p.length c4] 60)
 have C:=Lib.hid (hasEnt9_any A m cc l x.n x.v w.heap.size (w.alloc (.cells #[.string x.n,.string x.v,.slice A1 x.d.length c1,.slice A2 x.r.length c2,.slice A3 x.c.length c3,.slice A4 x.p.length c4] 60)) (rdEnts_good.up (rdEnts_good.below h B1) B1.size) (by simp [go_sem]) (by simp [go_sem]))
 have HB:=Lib.hid B1
 have X:=Lib.hid (show l.any (thr x.n x.v)=thB l x from rfl)
 generalize l.any (thr x.n x.v)=b at *
 generalize thB l x=b' at *
 have hmf:∀(fn:Fn) (first cap:Array Value) (w:World),(Instr.makeFunc fn first cap).run Tryz.prog w=.ok (.func fn first cap) w:=fun _ _ _ _=>rfl
 obtain ⟨n,v,d,r,c,p⟩:=x
 clear h B1
 show Calls Tryz.prog 72 #[.slice A m cc,.agg #[.string n,.string v,.slice A1 d.length c1,.slice A2 r.length c2,.slice A3 c.length c3,.slice A4 p.length c4]] w _
 go_enter Tryz.func72,Tryz.ntmps72
 go_wp2_with (go_at_call 107;(with_reducible refine C.out.mono ?_);rintro e w' ⟨rfl,hb2⟩)
 have HB2:=Lib.hid hb2
 clear hb2
 go_wp2
 go_ret
 exact ⟨by rw [X.out];try rfl,HB.out.trans (HB2.out.mono HB.out.size)⟩
set_option maxHeartbeats 2000000 in
theorem cloneE9_any (A:Option Addr) (n c:Nat) (l:List Ent) (w:World) (h:rdEnts w (lt_ w.heap.size) l [.slice A n c]) (hl:l.length≤200) :
  Calls Tryz.prog 64 #[.slice A n c] w fun e w'=>(∃v',e=.returned v'∧Grow rdEnt 6 (lt_ w.heap.size) w' w.heap.size 60 v' l)∧Below w.heap.size w w':=by
 have qT:∀(w:World) (a:Option Addr) (n c n' c':Nat),(binOp .eql 22 (.slice a n c) (.slice none n' c')).run Tryz.prog w=.ok (.bool a.isNone) w:=fun w a n c n' c'=>Lib.run_eql_slice_nil w _ _ a n c n' c' Tryz.underlying22
 obtain ⟨i0,hi,hz0,hz1,hz2⟩:=info_parts ent9_info
 obtain ⟨rfl,hnc,hcm,hat⟩:=rdEnts_at h
 have hcm':c≤9223372036854775807:=hcm
 cases A with
 | none=>
  obtain rfl:l=[]:=by
   rcases Nat.eq_zero_or_pos l.length with h0|h0
   ·exact List.eq_nil_of_length_eq_zero h0
   ·obtain ⟨_,_,_,_,_,_,_,_,_,e,_⟩:=hat 0 h0
    cases e
  clear h hat hcm
  go_enter Tryz.func64,Tryz.ntmps64
  go_wp2
  go_ret
  exact ⟨⟨_,rfl,Grow.nil _ _ _ _⟩,Below.refl _ _⟩
 | some ad=>
  have B1:=(Below.refl w.heap.size w).alloc (Nat.le_refl _) (.cells #[] 60)
  have hG:=Grow.empty (E:=rdEnt) (sz:=6) (lt_ w.heap.size) (W:=w.alloc (.cells #[] 60)) (base:=w.heap.size) (heap_alloc_new w _) (Nat.le_refl _)
  have hX:=rdEnts_good.below h B1
  have hn1:([]:List Ent).length+l.length≤maxLen:=by simp only [List.length_nil];unfold maxLen;omega
  have hn2:(([]:List Ent).length+l.length)*128≤140737488355328:=by simp only [List.length_nil];omega
  have hS:∀b,lt_ w.heap.size b→lt_ w.heap.size b∧b < (w.alloc (.cells #[] 60)).heap.size∧(Value.slice (some ⟨w.heap.size,0,none⟩) 0 0).ownBlock≠some b:=fun b hb=>⟨hb,by rw [World.size_alloc];unfold lt_ at hb;omega,fun hh=>by simp only [Value.ownBlock,Option.some.injEq] at hh;unfold lt_ at hb;omega⟩
  have hbs:w.heap.size≤(w.alloc (.cells #[] 60)).heap.size:=by rw [World.size_alloc];omega
  have HB1:=Lib.hid B1
  clear h B1 hcm hat
  go_enter Tryz.func64,Tryz.ntmps64
  go_wp2_with (at_builtin;refine wpList_growN _ rfl _ _ 22 22 rfl rdEnt_good (by decide) (lt_ w.heap.size) w.heap.size 60 60 i0 (.agg #[.string { data:=#[] },.string { data:=#[] },.slice none 0 0,.slice none 0 0,.slice none 0 0,.slice none 0 0]) 128 Tryz.underlying22 Tryz.underlying22 hi hz0 hz1 hz2 rfl _ _ rfl hG l _ (some ad) l.length c rfl hX hS hn1 hn2 hbs ?_)
  intro v' w1 hG1 hg1
  have HB2:=Lib.hid (grow_below hG hg1 HB1.out (Nat.le_refl _) hbs)
  have HG:=Lib.hid hG1
  clear hG hX hg1 hn1 hn2 hS hbs hG1
  go_wp2
  go_ret
  exact ⟨⟨_,rfl,HG.out⟩,HB2.out⟩
set_option maxHeartbeats 2000000 in
theorem cloneI9_any (A:Option Addr) (n c:Nat) (l:List Int) (w:World) (h:rdInts w (lt_ w.heap.size) l [.slice A n c]) (hl:l.length≤200) :
  Calls Tryz.prog 87 #[.slice A n c] w fun e w'=>(∃v',e=.returned v'∧Grow rdInt 1 (lt_ w.heap.size) w' w.heap.size 3 v' l)∧Below w.heap.size w w':=by
 have qT:∀(w:World) (a:Option Addr) (n c n' c':Nat),(binOp .eql 25 (.slice a n c) (.slice none n' c')).run Tryz.prog w=.ok (.bool a.isNone) w:=fun w a n c n' c'=>Lib.run_eql_slice_nil w _ _ a n c n' c' Tryz.underlying25
 obtain ⟨i0,hi,hz0,hz1,hz2⟩:=info_parts int9_info
 obtain ⟨rfl,hnc,hcm,hat⟩:=rdInts_at h
 have hcm':c≤9223372036854775807:=hcm
 cases A with
 | none=>
  obtain rfl:l=[]:=by
   rcases Nat.eq_zero_or_pos l.length with h0|h0
   ·exact List.eq_nil_of_length_eq_zero h0
   ·obtain ⟨_,e,_⟩:=hat 0 h0
    cases e
  clear h hat hcm
  go_enter Tryz.func87,Tryz.ntmps87
  go_wp2
  go_ret
  exact ⟨⟨_,rfl,Grow.nil _ _ _ _⟩,Below.refl _ _⟩
 | some ad=>
  have B1:=(Below.refl w.heap.size w).alloc (Nat.le_refl _) (.cells #[] 3)
  have hG:=Grow.empty (E:=rdInt) (sz:=1) (lt_ w.heap.size) (W:=w.alloc (.cells #[] 3)) (base:=w.heap.size) (heap_alloc_new w _) (Nat.le_refl _)
  have hX:=rdInts_good.below h B1
  have hn1:([]:List Int).length+l.length≤maxLen:=by simp only [List.length_nil];unfold maxLen;omega
  have hn2:(([]:List Int).length+l.length)*8≤140737488355328:=by simp only [List.length_nil];omega
  have hS:∀b,lt_ w.heap.size b→lt_ w.heap.size b∧b < (w.alloc (.cells #[] 3)).heap.size∧(Value.slice (some ⟨w.heap.size,0,none⟩) 0 0).ownBlock≠some b:=fun b hb=>⟨hb,by rw [World.size_alloc];unfold lt_ at hb;omega,fun hh=>by simp only [Value.ownBlock,Option.some.injEq] at hh;unfold lt_ at hb;omega⟩
  have hbs:w.heap.size≤(w.alloc (.cells #[] 3)).heap.size:=by rw [World.size_alloc];omega
  have HB1:=Lib.hid B1
  clear h B1 hcm hat
  go_enter Tryz.func87,Tryz.ntmps87
  go_wp2_with (at_builtin;refine wpList_growN _ rfl _ _ 25 25 rfl rdInt_good (by decide) (lt_ w.heap.size) w.heap.size 3 3 i0 (.int .i64 0) 8 Tryz.underlying25 Tryz.underlying25 hi hz0 hz1 hz2 rfl _ _ rfl hG l _ (some ad) l.length c rfl hX hS hn1 hn2 hbs ?_)
  intro v' w1 hG1 hg1
  have HB2:=Lib.hid (grow_below hG hg1 HB1.out (Nat.le_refl _) hbs)
  have HG:=Lib.hid hG1
  clear hG hX hg1 hn1 hn2 hS hbs hG1
  go_wp2
  go_ret
  exact ⟨⟨_,rfl,HG.out⟩,HB2.out⟩
end Go.Proofs.YtpilmhoakopcaaaGreatDoor
namespace Go.Proofs.YtpilmhoakopcaaaGreatDoor
open Go.RowKit
set_option maxHeartbeats 4000000 in
theorem gives6_any (x:Ent) (A1:Option Addr) (c1:Nat) (A2:Option Addr) (c2:Nat) (A3:Option Addr) (c3:Nat) (A4:Option Addr) (c4:Nat) (w:World) (hx:EntV w (lt_ w.heap.size) x A1 c1 A2 c2 A3 c3 A4 c4) (hp:x.p.length≤1000) :
  Calls Tryz.prog 76 #[x.val A1 c1 A2 c2 A3 c3 A4 c4] w fun e w'=>(∃A c,e=.returned (.slice A (gvs x).length c)∧rdAtms w' (fun b=>w.heap.size≤b∧b < w'.heap.size) (gvs x) [.slice A (gvs x).length c])∧Below w.heap.size w w':=by
 obtain ⟨n,v,d,r,c,p⟩:=x
 obtain ⟨fi,hi,hz0,hz1,hz2⟩:=info_parts atm_info
 have HP:=Lib.hid hx.p
 obtain ⟨_,hc4,hm4,_⟩:=rdAtms_at hx.p
 have hm4':c4≤9223372036854775807:=hm4
 simp only at hp hc4
 have hq1:1+p.length≤maxLen:=by unfold maxLen;omega
 have hq2:(1+p.length)*40≤140737488355328:=by omega
 obtain ⟨W3,hW3⟩:∃W,W=(((w.alloc (.cells #[.string n,.string v,.slice A1 d.length c1,.slice A2 r.length c2,.slice A3 c.length c3,.slice A4 p.length c4] 60)).alloc (.cells #[.string n,.int .i64 3,.string v] 100)).alloc (.cells #[.string n,.int .i64 3,.string v] 100)):=⟨_,rfl⟩
 have GE:=Lib.hid (show Grow rdAtm 3 (fun _=>True) W3 w.heap.size 100 (.slice (some ⟨w.heap.size+2,0,none⟩) 1 1) [⟨n,3,v⟩] from gr_self (by rw [hW3];exact heap_alloc_new ((w.alloc (.cells #[.string n,.string v,.slice A1 d.length c1,.slice A2 r.length c2,.slice A3 c.length c3,.slice A4 p.length c4] 60)).alloc (.cells #[.string n,.int .i64 3,.string v] 100)) _|>fun h=>by rw [World.size_alloc,World.size_alloc] at h;exact h) (by omega))
 have B3:=Lib.hid (show Below w.heap.size w W3 by rw [hW3];exact (((Below.refl _ w).alloc (Nat.le_refl _) _).alloc (by simp) _).alloc (by simp;omega) _)
 have XE:=Lib.hid (rdAtms_good.below HP.out B3.out)
 have SE:=Lib.hid (show ∀b,lt_ w.heap.size b→True∧b < W3.heap.size∧(Value.slice (some ⟨w.heap.size+2,0,none⟩) 1 1).ownBlock≠some b from fun b hb=>⟨trivial,Nat.lt_of_lt_of_le hb B3.out.size,fun hh=>by simp only [Value.ownBlock,Option.some.injEq] at hh;unfold lt_ at hb;omega⟩)
 have hs3:=Lib.hid B3.out.size
 show Calls Tryz.prog 76 #[.agg #[.string n,.string v,.slice A1 d.length c1,.slice A2 r.length c2,.slice A3 c.length c3,.slice A4 p.length c4]] w _
 clear hx hp hm4
 go_enter Tryz.func76,Tryz.ntmps76
 go_wp2_with (at_builtin;rw [←hW3];refine wpList_growN W3 rfl _ _ 58 58 rfl rdAtm_good (by decide) (fun _=>True) w.heap.size 100 100 fi (.agg #[.string { data:=#[] },.int .i64 0,.string { data:=#[] }]) 40 Tryz.underlying58 Tryz.underlying58 hi hz0 hz1 hz2 rfl _ _ rfl GE.out p _ A4 p.length c4 rfl XE.out SE.out hq1 hq2 hs3.out ?_)
 intro v5 w5 hG5 hg5
 have B5:=Lib.hid (grow_below GE.out (by rw [hW3];exact hg5) B3.out (Nat.le_refl _) hs3.out)
 have R5:=Lib.hid (show rdAtms w5 (fun b=>w.heap.size≤b∧b < w5.heap.size) (gvs ⟨n,v,d,r,c,p⟩) [v5] from by
  have h2:Grow rdAtm 3 (fun _=>False) w5 w.heap.size 100 v5 (gvs ⟨n,v,d,r,c,p⟩):=Grow.flat (fun _ _ _ _ _ h=>h) (show Grow rdAtm 3 (fun _=>True) w5 w.heap.size 100 v5 (gvs ⟨n,v,d,r,c,p⟩) from hG5)
  exact rdAtms_good.more (h2.reads rdAtm_good) fun b hb=>⟨hb.2.resolve_right id,hb.1⟩)
 obtain ⟨A5,c5,hv5,_⟩:=id R5.out
 simp only [List.cons.injEq,and_true] at hv5
 subst hv5
 clear hG5 hg5 GE XE SE hW3
 go_wp2
 go_ret
 exact ⟨⟨A5,c5,rfl,R5.out⟩,B5.out⟩
structure Gf where
 k:Int
 a:Atm
def rdGf:Rd Gf:=fun _ _ g cs=>cs=[.int .i64 g.k,.string g.a.n,.int .i64 g.a.o,.string g.a.v]
theorem rdGf_good:Good rdGf 4:=⟨fun h _=>h,fun h _=>h,fun h _ _=>h,fun h=>by rw [h];rfl,fun h u hu=>by rw [h] at hu;simp at hu;rcases hu with rfl|rfl|rfl|rfl<;>rfl⟩
abbrev rdGfs:Rd (List Gf):=rdRow 4 rdGf
theorem rdGfs_good:Good rdGfs 1:=rdRow_good rdGf_good
theorem rdGfs_at {w:World} {S:Nat→Prop} {l:List Gf} {A:Option Addr} {n c:Nat} (h:rdGfs w S l [.slice A n c]):n=l.length∧n≤c∧c≤maxLen∧∀k (hk:k < l.length),∃ad,A=some ad∧S ad.block∧
  w.cell? (ad.add (k*4))=some (.int .i64 l[k].k)∧w.cell? ⟨(ad.add (k*4)).block,(ad.add (k*4)).off+1,none⟩=some (.string l[k].a.n)∧w.cell? ⟨(ad.add (k*4)).block,(ad.add (k*4)).off+2,none⟩=some (.int .i64 l[k].a.o)∧w.cell? ⟨(ad.add (k*4)).block,(ad.add (k*4)).off+3,none⟩=some (.string l[k].a.v):=by
 obtain ⟨A',c',e,h1,h2,h⟩:=h
 simp only [List.cons.injEq,Value.slice.injEq,and_true] at e
 obtain ⟨rfl,rfl,rfl⟩:=e
 refine ⟨rfl,h1,h2,fun k hk=>?_⟩
 obtain ⟨ad,es,e,hS,hE,hl,hc⟩:=h k hk
 rw [show es=[.int .i64 l[k].k,.string l[k].a.n,.int .i64 l[k].a.o,.string l[k].a.v] from hE] at hc
 exact ⟨ad,e,hS,hc 0 _ rfl,by rw [off_add ad (k*4) 1 (by omega)];exact hc 1 _ rfl,by rw [off_add ad (k*4) 2 (by omega)];exact hc 2 _ rfl,by rw [off_add ad (k*4) 3 (by omega)];exact hc 3 _ rfl⟩
def gfs1 (n:ByteArray) (i:Nat) (g:List Atm):List Gf:=(g.filter fun a=>decide (a.n=n)).map (Gf.mk (i:Int))
def gfU (n:ByteArray):List Ent→Nat→List Gf
 | [],_=>[]
 | x::r,i=>gfs1 n i (gvs x)++gfU n r (i+1)
theorem gfU_app {n:ByteArray}:∀(a b:List Ent) (i:Nat),gfU n (a++b) i=gfU n a i++gfU n b (i+a.length)
 | [],b,i=>rfl
 | x::r,b,i=>by
  have ih:=gfU_app (n:=n) r b (i+1)
  rw [List.cons_append,List.length_cons,show i+(r.length+1)=i+1+r.length by omega]
  show gfs1 n i (gvs x)++gfU n (r++b) (i+1)=(gfs1 n i (gvs x)++gfU n r (i+1))++gfU n b (i+1+r.length)
  rw [ih,List.append_assoc]
theorem gfU_take {n:ByteArray} {L:List Ent} {k:Nat} (hk:k < L.length):gfU n (L.take (k+1)) 0=gfU n (L.take k) 0++gfs1 n k (gvs L[k]):=by
 rw [List.take_succ_eq_append_getElem hk,gfU_app]
 show _++(gfs1 n _ (gvs L[k])++[])=_
 rw [List.append_nil,List.length_take,Nat.zero_add,Nat.min_eq_left (by omega)]
theorem gfs1_take {n:ByteArray} {i:Nat} {g:List Atm} {j:Nat} (hj:j < g.length):gfs1 n i (g.take (j+1))=if g[j].n=n then gfs1 n i (g.take j)++[⟨(i:Int),g[j]⟩] else gfs1 n i (g.take j):=by
 unfold gfs1
 rw [List.take_succ_eq_append_getElem hj,List.filter_append]
 by_cases h:g[j].n=n
 ·rw [if_pos h,List.filter_cons_of_pos (by rw [decide_eq_true h]),List.filter_nil,List.map_append];rfl
 ·rw [if_neg h,List.filter_cons_of_neg (by rw [decide_eq_false h];decide),List.filter_nil,List.append_nil]
theorem ixU_take {n:ByteArray} {L:List Ent} {k:Nat} (hk:k < L.length):ixU (isN n) (L.take (k+1)) 0=if L[k].n=n then ixU (isN n) (L.take k) 0++[(k:Int)] else ixU (isN n) (L.take k) 0:=by
 rw [List.take_succ_eq_append_getElem hk,ixU_app,List.length_take,Nat.zero_add,Nat.min_eq_left (by omega),ixU_cons]
 unfold isN
 by_cases h:L[k].n=n
 ·rw [if_pos h,if_pos (decide_eq_true h)];rfl
 ·rw [if_neg h,if_neg (by rw [decide_eq_false h];decide)]
  show _++[]=_
  rw [List.append_nil]
theorem gfU_len {n:ByteArray}:∀{L:List Ent} {i:Nat} {m:Nat},(∀x ∈ L,x.p.length≤m)→(gfU n L i).length≤L.length*(m+1)
 | [],i,m,h=>by simp [gfU]
 | x::r,i,m,h=>by
  have ih:=gfU_len (n:=n) (L:=r) (i:=i+1) (m:=m) (fun y hy=>h y (List.mem_cons_of_mem _ hy))
  have hx:=h x (List.mem_cons_self ..)
  have h1:(gfs1 n i (gvs x)).length≤m+1:=by
   unfold gfs1
   rw [List.length_map]
   refine Nat.le_trans (List.length_filter_le _ _) ?_
   show x.p.length+1≤m+1
   omega
  show (gfs1 n i (gvs x)++gfU n r (i+1)).length≤(r.length+1)*(m+1)
  rw [List.length_append,Nat.add_mul]
  omega
theorem ixU_len {p:Ent→Bool}:∀{L:List Ent} {i:Nat},(ixU p L i).length≤L.length
 | [],i=>Nat.le_refl _
 | x::r,i=>by
  rw [ixU_cons,List.length_cons]
  have:=ixU_len (p:=p) (L:=r) (i:=i+1)
  split
  ·rw [List.length_cons];omega
  ·omega
section
variable {α:Type} {E:Rd α} {sz:Nat}
theorem Grow.flatKept {T:Nat→Prop} {W w':World} {base:Nat} {e:TypeId} {v:Value} {l:List α} {row:Option Nat} (hf:∀(w w':World) (S S':Nat→Prop) a cs,E w S a cs→E w' S' a cs) (h:Grow E sz T W base e v l) (hg:W.grownBy w' row) (hne:∀b,v.ownBlock=some b→row≠some b):Grow E sz T w' base e v l:=by
 obtain ⟨css,hl,hown,hE⟩:=h
 refine ⟨css,hl,hown.kept hg ?_,fun k hk=>?_⟩
 ·cases hb:v.ownBlock with
  | none=>exact .inl rfl
  | some b=>exact .inr fun hh=>hne b hb hh.symm
 ·obtain ⟨cs,h1,h2⟩:=hE k hk
  exact ⟨cs,h1,hf _ _ _ _ _ _ h2⟩
end
structure NmS (W:World) (base:Nat) (F:ByteArray→Value × Value) (pl:ByteArray→List Int) (gl:ByteArray→List Gf):Prop where
 p:∀s,Grow rdInt 1 (fun _=>True) W base 3 (F s).1 (pl s)
 g:∀s,Grow rdGf 4 (fun _=>True) W base 124 (F s).2 (gl s)
 pg:∀s s',Off (F s).1 (F s').2
 pp:∀s s',s≠s'→Off (F s).1 (F s').1
 gg:∀s s',s≠s'→Off (F s).2 (F s').2
def nmv (F:ByteArray→Value × Value):ByteArray→Value:=fun s=>.agg #[(F s).1,(F s).2]
theorem nmv_upd (F:ByteArray→Value × Value) (s:ByteArray) (p:Value × Value):nmv (upd9 F s p)=upd9 (nmv F) s (.agg #[p.1,p.2]):=by
 funext x
 unfold nmv upd9
 by_cases h:x=s
 ·simp [h]
 ·simp [h]
section
variable {W w':World} {base:Nat} {F:ByteArray→Value × Value} {pl:ByteArray→List Int} {gl:ByteArray→List Gf}
theorem NmS.nil (W:World) (base:Nat):NmS W base (fun _=>(.slice none 0 0,.slice none 0 0)) (fun _=>[]) (fun _=>[]):=
 ⟨fun _=>Grow.nil _ _ _ _,fun _=>Grow.nil _ _ _ _,fun _ _=>Off.nil _,fun _ _ _=>Off.nil _,fun _ _ _=>Off.nil _⟩
theorem NmS.below (h:NmS W base F pl gl) (hb:Below W.heap.size W w'):NmS w' base F pl gl:=
 ⟨fun s=>(h.p s).below rdInt_good hb,fun s=>(h.g s).below rdGf_good hb,h.pg,h.pp,h.gg⟩
theorem NmS.row (h : NmS W base F pl gl) {b : Nat} (hg : W.grownBy w' (some b)) (hb : b < base) : NmS w' base F pl gl :=
  ⟨fun s => (h.p s).flatKept (fun _ _ _ _ _ _ h => h) hg (fun q hq e => by have := ((h.p s).lt q hq).1; injection e with e; omega),
   fun s => (h.g s).flatKept (fun _ _ _ _ _ _ h => h) hg (fun q hq e => by have := ((h.g s).lt q hq).1; injection e with e; omega), h.pg, h.pp, h.gg⟩
theorem NmS.cast {pl':ByteArray→List Int} {gl':ByteArray→List Gf} (h:NmS W base F pl gl) (h1:∀s,pl s=pl' s) (h2:∀s,gl s=gl' s):NmS W base F pl' gl':=by
 obtain rfl:pl=pl':=funext h1
 obtain rfl:gl=gl':=funext h2
 exact h
theorem NmS.addP (h:NmS W base F pl gl) (s:ByteArray) {v':Value} {l':List Int} (hG:Grow rdInt 1 (fun _=>True) w' base 3 v' l') (hg:W.grownBy w' (F s).1.ownBlock) (hm:Moved W (F s).1 v'):NmS w' base (upd9 F s (v',(F s).2)) (upd9 pl s l') gl:=by
 have lp:∀x b,(F x).1.ownBlock=some b→b < W.heap.size:=fun x b hb=>((h.p x).lt b hb).2
 have lg:∀x b,(F x).2.ownBlock=some b→b < W.heap.size:=fun x b hb=>((h.g x).lt b hb).2
 have f2:∀x,(upd9 F s (v',(F s).2) x).2=(F x).2:=fun x=>by
  by_cases e:x=s
  ·rw [e,upd9_same]
  ·rw [upd9_ne _ _ e]
 refine ⟨fun x=>?_,fun x=>?_,fun x y=>?_,fun x y hxy=>?_,fun x y hxy=>?_⟩
 ·by_cases e:x=s
  ·rw [e,upd9_same,upd9_same];exact hG
  ·rw [upd9_ne _ _ e,upd9_ne _ _ e]
   exact (h.p x).flatKept (fun _ _ _ _ _ _ h=>h) hg (fun b hb hr=>h.pp x s e b hb hr)
 ·rw [f2]
  exact (h.g x).flatKept (fun _ _ _ _ _ _ h=>h) hg (fun b hb hr=>h.pg s x b hr hb)
 ·rw [f2]
  by_cases e:x=s
  ·rw [e,upd9_same];exact Off.moved (h.pg s y) (lg y) hm
  ·rw [upd9_ne _ _ e];exact h.pg x y
 ·by_cases e:x=s
  ·rw [e,upd9_same,upd9_ne _ _ (fun q=>hxy (e.trans q.symm))]
   exact Off.moved (h.pp s y (fun q=>hxy (e.trans q))) (lp y) hm
  ·rw [upd9_ne _ _ e]
   by_cases e':y=s
   ·rw [e',upd9_same];exact (Off.moved (h.pp s x (fun q=>e q.symm)) (lp x) hm).symm
   ·rw [upd9_ne _ _ e'];exact h.pp x y hxy
 ·rw [f2,f2];exact h.gg x y hxy
theorem NmS.addG (h:NmS W base F pl gl) (s:ByteArray) {v':Value} {l':List Gf} (hG:Grow rdGf 4 (fun _=>True) w' base 124 v' l') (hg:W.grownBy w' (F s).2.ownBlock) (hm:Moved W (F s).2 v'):NmS w' base (upd9 F s ((F s).1,v')) pl (upd9 gl s l'):=by
 have lp:∀x b,(F x).1.ownBlock=some b→b < W.heap.size:=fun x b hb=>((h.p x).lt b hb).2
 have lg:∀x b,(F x).2.ownBlock=some b→b < W.heap.size:=fun x b hb=>((h.g x).lt b hb).2
 have f1:∀x,(upd9 F s ((F s).1,v') x).1=(F x).1:=fun x=>by
  by_cases e:x=s
  ·rw [e,upd9_same]
  ·rw [upd9_ne _ _ e]
 refine ⟨fun x=>?_,fun x=>?_,fun x y=>?_,fun x y hxy=>?_,fun x y hxy=>?_⟩
 ·rw [f1]
  exact (h.p x).flatKept (fun _ _ _ _ _ _ h=>h) hg (fun b hb hr=>h.pg x s b hb hr)
 ·by_cases e:x=s
  ·rw [e,upd9_same,upd9_same];exact hG
  ·rw [upd9_ne _ _ e,upd9_ne _ _ e]
   exact (h.g x).flatKept (fun _ _ _ _ _ _ h=>h) hg (fun b hb hr=>h.gg x s e b hb hr)
 ·rw [f1]
  by_cases e:y=s
  ·rw [e,upd9_same];exact (Off.moved (h.pg x s).symm (lp x) hm).symm
  ·rw [upd9_ne _ _ e];exact h.pg x y
 ·rw [f1,f1];exact h.pp x y hxy
 ·by_cases e:x=s
  ·rw [e,upd9_same,upd9_ne _ _ (fun q=>hxy (e.trans q.symm))]
   exact Off.moved (h.gg s y (fun q=>hxy (e.trans q))) (lg y) hm
  ·rw [upd9_ne _ _ e]
   by_cases e':y=s
   ·rw [e',upd9_same];exact (Off.moved (h.gg s x (fun q=>e q.symm)) (lg x) hm).symm
   ·rw [upd9_ne _ _ e'];exact h.gg x y hxy
end
theorem far9 {W w':World} {row:Option Nat} {b o:Nat} {v:Value} (hg:W.grownBy w' row) (hb:b < W.heap.size) (hne:row≠some b) (h:W.cell? ⟨b,o,none⟩=some v):w'.cell? ⟨b,o,none⟩=some v:=
 (World.cell?_of_block (a:=⟨b,o,none⟩) (hg.block b hb (fun e=>hne e.symm))).trans h
theorem frz9 {W w':World} {row:Option Nat} {b o:Nat} (hg:W.grownBy w' row) (hb:b < W.heap.size) (hne:row≠some b) (h:W.frozen? ⟨b,o,none⟩=false):w'.frozen? ⟨b,o,none⟩=false:=
 (World.frozen?_of_block (a:=⟨b,o,none⟩) (hg.block b hb (fun e=>hne e.symm))).trans h
theorem gift_info:(Tryz.prog.info? 124).map (fun i=>(i.zero,i.size,i.bytes))=some (some (.agg #[.int .i64 0,.string { data:=#[] },.int .i64 0,.string { data:=#[] }]),4,48):=by kernel_rfl
theorem zeroNm9 (w:World):(zeroValue 121).run Tryz.prog w=.ok (.agg #[.slice none 0 0,.slice none 0 0]) w:=by kernel_rfl
theorem lawStr9:Maps.Keyed Tryz.prog 9:=Maps.string_keyed Tryz.underlying9
def Gap9 (lo hi:Nat) (F:ByteArray→Value × Value):Prop:=∀s b,(F s).1.ownBlock=some b∨(F s).2.ownBlock=some b→b < lo∨hi≤b
section
variable {W w' wr W2 w4 w6:World} {base lo hi:Nat} {F:ByteArray→Value × Value} {pl:ByteArray→List Int} {gl:ByteArray→List Gf}
theorem NmS.gap (h:NmS W base F pl gl) (hi:Nat):Gap9 W.heap.size hi F:=fun s b hb=>by
 rcases hb with hb|hb
 ·exact .inl ((h.p s).lt b hb).2
 ·exact .inl ((h.g s).lt b hb).2
theorem Gap9.addP (h:Gap9 lo hi F) {s:ByteArray} {v':Value} (hm:Moved W (F s).1 v') (hW:hi≤W.heap.size):Gap9 lo hi (upd9 F s (v',(F s).2)):=fun x b hb=>by
 by_cases e:x=s
 ·subst e
  rw [upd9_same] at hb
  rcases hb with hb|hb
  ·rcases hm with q|⟨d,q,hd⟩
   ·exact h x b (.inl (q ▸ hb))
   ·have hb:v'.ownBlock=some b:=hb
    rw [q] at hb;injection hb with hb;exact .inr (by omega)
  ·exact h x b (.inr hb)
 ·rw [upd9_ne _ _ e] at hb;exact h x b hb
theorem Gap9.addG (h:Gap9 lo hi F) {s:ByteArray} {v':Value} (hm:Moved W (F s).2 v') (hW:hi≤W.heap.size):Gap9 lo hi (upd9 F s ((F s).1,v')):=fun x b hb=>by
 by_cases e:x=s
 ·subst e
  rw [upd9_same] at hb
  rcases hb with hb|hb
  ·exact h x b (.inl hb)
  ·rcases hm with q|⟨d,q,hd⟩
   ·exact h x b (.inr (q ▸ hb))
   ·have hb:v'.ownBlock=some b:=hb
    rw [q] at hb;injection hb with hb;exact .inr (by omega)
 ·rw [upd9_ne _ _ e] at hb;exact h x b hb
theorem NmS.gapRow (h : NmS W base F pl gl) {b : Nat} (hg : W.grownBy w' (some b)) (hG : Gap9 lo hi F) (h1 : lo ≤ b) (h2 : b < hi) : NmS w' base F pl gl :=
  ⟨fun s => (h.p s).flatKept (fun _ _ _ _ _ _ h => h) hg (fun q hq e => by have := hG s q (.inl hq); injection e with e; omega),
   fun s => (h.g s).flatKept (fun _ _ _ _ _ _ h => h) hg (fun q hq e => by have := hG s q (.inr hq); injection e with e; omega), h.pg, h.pp, h.gg⟩
theorem grown_set (w:World) (a:Addr) (u:Value):w.grownBy (w.setCell a u) (some a.block):=
 ⟨rfl,rfl,rfl,by simp [World.setCell],fun k hk hne=>Below.heap_setCell w a u k (fun e=>hne (by rw [e]))⟩
theorem NmS.stepP (h:NmS wr base F pl gl) (hb2:Below wr.heap.size wr W2) (hs2:W2.heap.size=wr.heap.size+2) (s:ByteArray) {v':Value} {l':List Int} (hG:Grow rdInt 1 (fun _=>True) w4 base 3 v' l') (hg:W2.grownBy w4 (F s).1.ownBlock) (hm:Moved W2 (F s).1 v')
  {b:Nat} (hbb:b < base) {o:Nat} {u:Value} (hg6:(w4.setCell ⟨wr.heap.size+1,o,none⟩ u).grownBy w6 (some b)):NmS w6 base (upd9 F s (v',(F s).2)) (upd9 pl s l') gl:=by
 have h1:=(h.below hb2).addP s hG hg hm
 have hgap:Gap9 wr.heap.size (wr.heap.size+2) (upd9 F s (v',(F s).2)):=(h.gap _).addP hm (by omega)
 exact (h1.gapRow (grown_set w4 ⟨wr.heap.size+1,o,none⟩ u) hgap (Nat.le_succ _) (by show wr.heap.size+1 < wr.heap.size+2;omega)).row hg6 hbb
theorem NmS.stepG (h:NmS wr base F pl gl) (hb2:Below wr.heap.size wr W2) (hs2:W2.heap.size=wr.heap.size+2) (s:ByteArray) {v':Value} {l':List Gf} (hG:Grow rdGf 4 (fun _=>True) w4 base 124 v' l') (hg:W2.grownBy w4 (F s).2.ownBlock) (hm:Moved W2 (F s).2 v')
  {b:Nat} (hbb:b < base) {o:Nat} {u:Value} (hg6:(w4.setCell ⟨wr.heap.size+1,o,none⟩ u).grownBy w6 (some b)):NmS w6 base (upd9 F s ((F s).1,v')) pl (upd9 gl s l'):=by
 have h1:=(h.below hb2).addG s hG hg hm
 have hgap:Gap9 wr.heap.size (wr.heap.size+2) (upd9 F s ((F s).1,v')):=(h.gap _).addG hm (by omega)
 exact (h1.gapRow (grown_set w4 ⟨wr.heap.size+1,o,none⟩ u) hgap (Nat.le_succ _) (by show wr.heap.size+1 < wr.heap.size+2;omega)).row hg6 hbb
theorem step_mid {q b o:Nat} {u:Value} {row:Option Nat} (hb2:Below wr.heap.size wr W2) (hg:W2.grownBy w4 row) (hg6:(w4.setCell ⟨wr.heap.size+1,o,none⟩ u).grownBy w6 (some b)) (hq:q < wr.heap.size) (hr:row≠some q) (hqb:q≠b):w6.heap[q]?=wr.heap[q]?:=by
 have h1:=hb2.size
 have h2:=hg.size
 have e1:=hb2.block q hq
 have e2:=hg.block q (by omega) (fun e=>hr e.symm)
 have e3:=Below.heap_setCell w4 ⟨wr.heap.size+1,o,none⟩ u q (by show q≠wr.heap.size+1;omega)
 have e4:=hg6.block q (by rw [World.size_setCell];omega) (fun e=>hqb (Option.some.inj e))
 rw [e4,e3,e2,e1]
theorem step_below {w:World} {b o:Nat} {u:Value} {row:Option Nat} (hb:Below w.heap.size w wr) (hb2:Below wr.heap.size wr W2) (hg:W2.grownBy w4 row) (hr:∀q,row=some q→w.heap.size≤q) (hg6:(w4.setCell ⟨wr.heap.size+1,o,none⟩ u).grownBy w6 (some b)) (hbw:w.heap.size≤b):Below w.heap.size w w6:=by
 have h1:=hb.size
 have h2:=hb2.size
 have h3:=hg.size
 have c1:Below w.heap.size w w4:=(hb.trans (hb2.mono h1)).grown hg (by omega) hr
 have c2:Below w.heap.size w (w4.setCell ⟨wr.heap.size+1,o,none⟩ u):=c1.setCell (by show w.heap.size≤wr.heap.size+1;omega) u
 exact c2.grown hg6 (by rw [World.size_setCell];omega) (fun q hq=>by injection hq with hq;omega)
end
abbrev zz9:Value:=.agg #[.slice none 0 0,.slice none 0 0]
abbrev MapN (w:World) (b n:Nat) (F:ByteArray→Value × Value):Prop:=MapF Tryz.prog 9 zz9 w b n (nmv F)
theorem bel_mid {N:Nat} {a b c:World} (h:Below N a b) (k:Below N a c) (hs:b.heap.size≤c.heap.size):Below N b c:=⟨k.os.trans h.os.symm,k.tape.trans h.tape.symm,k.output.trans h.output.symm,hs,fun q hq=>(k.block q hq).trans (h.block q hq).symm⟩
theorem MapN.look {w:World} {b n:Nat} {F:ByteArray→Value × Value} (h:MapN w b n F) (s:ByteArray) (hs:s.size≤1000000) {pv gv:Value} (hp:(F s).1=pv) (hg:(F s).2=gv) :
  (Instr.lookup 78 (.map (some b)) (.string s) false).run Tryz.prog w=.ok (.agg #[pv,gv]) w:=by
 rw [MapF.look h lawStr9 Tryz.underlying9 Tryz.underlying78 (zeroNm9 w) s (by unfold maxLen;omega)]
 unfold nmv
 rw [hp,hg]
set_option maxHeartbeats 16000000 in
theorem byName9_any (A:Option Addr) (n0 c:Nat) (L:List Ent) (w:World) (h:rdEnts w (lt_ w.heap.size) L [.slice A n0 c]) (hl:L.length≤64) (hp:∀x ∈ L,x.p.length≤1000∧x.n.size≤65536∧∀a ∈ gvs x,a.n.size≤65536) :
  Calls Tryz.prog 37 #[.slice A n0 c] w fun e w'=>e=.returned (.map (some w.heap.size))∧(∃F n,MapN w' w.heap.size n F∧NmS w' (w.heap.size+1) F (fun s=>ixU (isN s) L 0) (fun s=>gfU s L 0))∧Below w.heap.size w w':=by
 have hmm:=@run_makeMap Tryz.prog
 obtain ⟨rfl,hnc,hcm,-⟩:=rdEnts_at h
 have hcm':c≤9223372036854775807:=hcm
 obtain ⟨fi,hi,hz0,hz1,hz2⟩:=info_parts int9_info
 obtain ⟨fg,hj,hy0,hy1,hy2⟩:=info_parts gift_info
 have H:=Lib.hid h
 have HP:=Lib.hid hp
 clear h hcm hp
 go_enter Tryz.func37,Tryz.ntmps37
 go_wp2
 go_loopw [13] (fun i wr=>∃k:Nat,k≤L.length∧i=.int .i64 k∧(∃F n,n≤k*2000∧MapN wr w.heap.size n F∧NmS wr (w.heap.size+1) F (fun s=>ixU (isN s) (L.take k) 0) (fun s=>gfU s (L.take k) 0))∧Below w.heap.size w wr∧w.heap.size+1≤wr.heap.size) (fun i _=>L.length - (intOf i).toNat)
 case atStart=>exact ⟨0,Nat.zero_le _,rfl,⟨fun _=>(.slice none 0 0,.slice none 0 0),0,Nat.zero_le _,MapF.made w _ _ _,NmS.nil _ _⟩,(Below.refl _ _).alloc (Nat.le_refl _) _,by rw [World.size_alloc];exact Nat.le_refl _⟩
 case round=>
  obtain ⟨k,hk,rfl,⟨F,nn,hnn,hM,hN⟩,hbel,hsw⟩:=hrel
  have HB:=Lib.hid hbel
  by_cases hlt:k < L.length
  ·obtain ⟨-,-,-,hat⟩:=rdEnts_at (rdEnts_good.below H.out hbel)
   obtain ⟨ad,A1,c1,A2,c2,A3,c3,A4,c4,rfl,had,hv,h0,h1,h2,h3,h4,h5⟩:=hat k hlt
   have i0:(0:Int)≤(k:Int):=by omega
   have i1:(k:Int) < (L.length:Int):=by omega
   have HX:=Lib.hid hv
   have PX:=Lib.hid (HP.out L[k] (List.getElem_mem hlt))
   have STP:=Lib.hid (fun s=>ixU_take (n:=s) hlt)
   have STG:=Lib.hid (fun s=>gfU_take (n:=s) hlt)
   have LNP:=Lib.hid (fun s=>Nat.le_trans (ixU_len (p:=isN s) (L:=L.take k) (i:=0)) (List.length_take_le _ _))
   have LNG:=Lib.hid (fun s=>gfU_len (n:=s) (L:=L.take k) (i:=0) (m:=1000) (fun x hx=>(HP.out x (List.mem_of_mem_take hx)).1))
   have HK:=Lib.hid (show k≤63 by omega)
   clear had hat hv hbel
   generalize L[k]=x at *
   obtain ⟨n,v,d,r,c',p⟩:=x
   simp only at h0 h1 h2 h3 h4 h5
   have hns:n.size≤1000000:=by have:=PX.out.2.1;simp only at this;omega
   have hnm:n.size≤maxLen:=by unfold maxLen;omega
   obtain ⟨Axp,cp,hpv,-,-⟩:=(hN.p n).own
   obtain ⟨Axg,cg,hgv,-,-⟩:=(hN.g n).own
   have GP:=Lib.hid (hN.p n)
   rw [hpv] at GP
   obtain ⟨np,hnp⟩:∃m,m=(ixU (isN n) (L.take k) 0).length:=⟨_,rfl⟩
   obtain ⟨ng,hng⟩:∃m,m=(gfU n (L.take k) 0).length:=⟨_,rfl⟩
   rw [←hnp] at hpv GP
   rw [←hng] at hgv
   have hlp:(ixU (isN n) (L.take k) 0).length+1≤65:=by have:=LNP.out n;have:=HK.out;omega
   have HPL:=Lib.hid (STP.out n)
   generalize hplx:ixU (isN n) (L.take k) 0=lp at GP hlp HPL
   have HPX:=Lib.hid hplx
   clear hplx
   have hlk:=MapN.look (F:=F) (hM.kept (World.grownBy_alloc wr (.cells #[.string n,.string v,.slice A1 d.length c1,.slice A2 r.length c2,.slice A3 c'.length c3,.slice A4 p.length c4] 60) none) (by simp)) n hns hpv hgv
   have HPV:=Lib.hid hpv
   have HGV:=Lib.hid hgv
   have HNN:=Lib.hid hnn
   clear hpv hgv hnp hng hnn
   obtain ⟨W2,hW2⟩:∃W,W=(wr.alloc (.cells #[.string n,.string v,.slice A1 d.length c1,.slice A2 r.length c2,.slice A3 c'.length c3,.slice A4 p.length c4] 60)).alloc (.cells #[.slice Axp np cp,.slice Axg ng cg] 121):=⟨_,rfl⟩
   have b2:Below wr.heap.size wr W2:=by rw [hW2];exact ((Below.refl _ wr).alloc (Nat.le_refl _) _).alloc (by simp) _
   have s2:W2.heap.size=wr.heap.size+2:=by rw [hW2];simp
   have x0:W2.cell? ⟨wr.heap.size,0,none⟩=some (.string n):=by rw [hW2];simp [go_sem]
   have x1:W2.cell? ⟨wr.heap.size,1,none⟩=some (.string v):=by rw [hW2];simp [go_sem]
   have x2:W2.cell? ⟨wr.heap.size,2,none⟩=some (.slice A1 d.length c1):=by rw [hW2];simp [go_sem]
   have x3:W2.cell? ⟨wr.heap.size,3,none⟩=some (.slice A2 r.length c2):=by rw [hW2];simp [go_sem]
   have x4:W2.cell? ⟨wr.heap.size,4,none⟩=some (.slice A3 c'.length c3):=by rw [hW2];simp [go_sem]
   have x5:W2.cell? ⟨wr.heap.size,5,none⟩=some (.slice A4 p.length c4):=by rw [hW2];simp [go_sem]
   have y0:W2.cell? ⟨wr.heap.size+1,0,none⟩=some (.slice Axp np cp):=by rw [hW2];simp [go_sem]
   have y1:W2.cell? ⟨wr.heap.size+1,1,none⟩=some (.slice Axg ng cg):=by rw [hW2];simp [go_sem]
   have f0:W2.frozen? ⟨wr.heap.size+1,0,none⟩=false:=by rw [hW2];simp [go_sem]
   have HB2:=Lib.hid b2
   have HS2:=Lib.hid s2
   have GP2:=Lib.hid (GP.out.below rdInt_good b2)
   have HM:=Lib.hid (hM.kept (w':=W2) (row:=none) ⟨b2.os,b2.tape,b2.output,b2.size,fun q hq _=>b2.block q hq⟩ (by simp))
   have HN:=Lib.hid hN
   clear hM hN GP
   have hn1:lp.length+1≤maxLen:=by unfold maxLen;omega
   have hn2:(lp.length+1)*8≤140737488355328:=by omega
   have hbs:w.heap.size+1≤W2.heap.size:=by omega
   have HSW:=Lib.hid hsw
   clear hsw b2 s2
   go_wp2_with (at_builtin;rw [←hW2];refine wpList_grow1_at W2 rfl _ _ 25 rfl rdInt_good (by decide) (fun _=>True) (w.heap.size+1) 3 fi _ 8 Tryz.underlying25 hi hz0 hz1 hz2 rfl (.slice Axp np cp) lp rfl GP2.out (k:Int) _ 3 rfl (wr.heap.size+2) HS2.out.symm rfl hn1 hn2 hbs ?_)
   intro v1 w4 hG4 hg4 hm4
   rw [←hW2] at hg4 hm4
   obtain ⟨Axq,cq,hv1,-,-⟩:=hG4.own
   obtain ⟨nq,hnq⟩:∃m,m=(lp++[(k:Int)]).length:=⟨_,rfl⟩
   rw [←hnq] at hv1
   subst hv1
   have rowne:∀q,wr.heap.size≤q→(Value.slice Axp np cp).ownBlock≠some q:=fun q hq hh=>by
    have:=((HN.out.p n).lt q (by rw [HPV.out];exact hh)).2
    omega
   have rowge:∀q,(Value.slice Axp np cp).ownBlock=some q→w.heap.size+1≤q:=fun q hh=>((HN.out.p n).lt q (by rw [HPV.out];exact hh)).1
   have hsz4:wr.heap.size+2≤w4.heap.size:=by have:=hg4.size;have:=HS2.out;omega
   replace x0:=far9 hg4 (by have:=HS2.out;omega) (rowne _ (Nat.le_refl _)) x0
   replace x1:=far9 hg4 (by have:=HS2.out;omega) (rowne _ (Nat.le_refl _)) x1
   replace x2:=far9 hg4 (by have:=HS2.out;omega) (rowne _ (Nat.le_refl _)) x2
   replace x3:=far9 hg4 (by have:=HS2.out;omega) (rowne _ (Nat.le_refl _)) x3
   replace x4:=far9 hg4 (by have:=HS2.out;omega) (rowne _ (Nat.le_refl _)) x4
   replace x5:=far9 hg4 (by have:=HS2.out;omega) (rowne _ (Nat.le_refl _)) x5
   replace y0:=far9 (b:=wr.heap.size+1) hg4 (by have:=HS2.out;omega) (rowne (wr.heap.size+1) (Nat.le_succ _)) y0
   replace y1:=far9 (b:=wr.heap.size+1) hg4 (by have:=HS2.out;omega) (rowne (wr.heap.size+1) (Nat.le_succ _)) y1
   replace f0:=frz9 (b:=wr.heap.size+1) hg4 (by have:=HS2.out;omega) (rowne (wr.heap.size+1) (Nat.le_succ _)) f0
   obtain ⟨V,hV⟩:∃V,V=w4.setCell ⟨wr.heap.size+1,0,none⟩ (.slice Axq nq cq):=⟨_,rfl⟩
   have z0:V.cell? ⟨wr.heap.size,0,none⟩=some (.string n):=by rw [hV];simp [go_sem,x0]
   have z1:V.cell? ⟨wr.heap.size,1,none⟩=some (.string v):=by rw [hV];simp [go_sem,x1]
   have z2:V.cell? ⟨wr.heap.size,2,none⟩=some (.slice A1 d.length c1):=by rw [hV];simp [go_sem,x2]
   have z3:V.cell? ⟨wr.heap.size,3,none⟩=some (.slice A2 r.length c2):=by rw [hV];simp [go_sem,x3]
   have z4:V.cell? ⟨wr.heap.size,4,none⟩=some (.slice A3 c'.length c3):=by rw [hV];simp [go_sem,x4]
   have z5:V.cell? ⟨wr.heap.size,5,none⟩=some (.slice A4 p.length c4):=by rw [hV];simp [go_sem,x5]
   have t0:V.cell? ⟨wr.heap.size+1,0,none⟩=some (.slice Axq nq cq):=by rw [hV];simp [go_sem,y0,f0]
   have t1:V.cell? ⟨wr.heap.size+1,1,none⟩=some (.slice Axg ng cg):=by rw [hV];simp [go_sem,y1]
   have HMV:=Lib.hid (show MapN V w.heap.size nn F from by
    rw [hV]
    exact (HM.out.kept hg4 (fun e=>by have:=rowge _ e.symm;omega)).kept (grown_set w4 _ _) (fun e=>by injection e with e;have:=HSW.out;simp only at e;omega))
   have hVs:V.heap.size=w4.heap.size:=by rw [hV];simp
   have HG4:=Lib.hid hG4
   have Hg4:=Lib.hid hg4
   have Hm4:=Lib.hid hm4
   have ROW:=Lib.hid (And.intro rowne rowge)
   have hn4:nn < maxLen:=by have:=HNN.out;have:=HK.out;unfold maxLen;omega
   have HV:=Lib.hid hV
   clear x1 x2 x3 x4 x5 hG4 hg4 hm4 rowne rowge hnq hlk hW2
   go_wp2_with (at_mapUpdate;rw [←hV];refine wpList_mapUpdate_fn rfl _ _ _ rfl lawStr9 Tryz.underlying9 Tryz.underlying78 HMV.out rfl hn4 n (.agg #[.slice Axq nq cq,.slice Axg ng cg]) rfl rfl hnm ?_)
   intro w6 hM6 hg6
   rw [←hV] at hg6
   clear hV x0 y0 y1 f0 t0 t1
   have HM6:=Lib.hid (show MapN w6 w.heap.size (nn+1) (upd9 F n (.slice Axq nq cq,(F n).2)) from by
    show MapF Tryz.prog 9 zz9 w6 w.heap.size (nn+1) (nmv (upd9 F n (.slice Axq nq cq,(F n).2)))
    rw [nmv_upd]
    simp only
    rw [HGV.out]
    exact hM6)
   have HN6:=Lib.hid ((HN.out.stepP HB2.out HS2.out n HG4.out (by rw [HPV.out];exact Hg4.out) (by rw [HPV.out];exact Hm4.out) (Nat.lt_succ_self w.heap.size) (by rw [←HV.out];exact hg6)).cast (pl':=fun s=>ixU (isN s) (L.take (k+1)) 0) (gl':=fun s=>gfU s (L.take k) 0) (fun s=>by
    by_cases e:s=n
    ·subst e
     rw [upd9_same,STP.out,HPX.out]
     exact (if_pos rfl).symm
    ·rw [upd9_ne _ _ e,STP.out]
     exact (if_neg (fun q=>e q.symm)).symm) (fun s=>rfl))
   have BM6:=Lib.hid (step_below HB.out HB2.out Hg4.out (fun q hq=>Nat.le_of_succ_le (ROW.out.2 q hq)) (show (w4.setCell ⟨wr.heap.size+1,0,none⟩ (.slice Axq nq cq)).grownBy w6 (some w.heap.size) by rw [←HV.out];exact hg6) (Nat.le_refl _))
   have hs6:wr.heap.size+2≤w6.heap.size:=by have:=hg6.size;omega
   replace z0:=far9 hg6 (by omega) (fun e=>by injection e with e;have:=HSW.out;omega) z0
   replace z1:=far9 hg6 (by omega) (fun e=>by injection e with e;have:=HSW.out;omega) z1
   replace z2:=far9 hg6 (by omega) (fun e=>by injection e with e;have:=HSW.out;omega) z2
   replace z3:=far9 hg6 (by omega) (fun e=>by injection e with e;have:=HSW.out;omega) z3
   replace z4:=far9 hg6 (by omega) (fun e=>by injection e with e;have:=HSW.out;omega) z4
   replace z5:=far9 hg6 (by omega) (fun e=>by injection e with e;have:=HSW.out;omega) z5
   have KG:=Lib.hid (gives6_any ⟨n,v,d,r,c',p⟩ A1 c1 A2 c2 A3 c3 A4 c4 w6 ((HX.out.below (bel_mid HB.out BM6.out (by omega))).up BM6.out.size) PX.out.1)
   have SN6:=Lib.hid hs6
   clear hM6 hg6 HMV hVs HG4 Hg4 Hm4 ROW HV HM HN GP2 HB2 HS2 HPV HGV hn4 hsz4 hn1 hn2 hbs HPL HPX STP HX h0 h1 h2 h3 h4 h5 hlp LNP
   generalize hgx:gvs ⟨n,v,d,r,c',p⟩=g at *
   have HGX:=Lib.hid hgx
   clear hgx
   go_wp2_with fail
   refine KG.out.mono ?_
   rintro e w7 ⟨⟨Ah,ch,rfl,hr7⟩,hb7⟩
   obtain ⟨-,hnc7,hcm7,-⟩:=rdAtms_at hr7
   have hcm7':ch≤9223372036854775807:=hcm7
   have HR7:=Lib.hid hr7
   have HB7:=Lib.hid hb7
   clear hr7 hb7 hcm7 KG z0 z1 z2 z3 z4 z5
   obtain ⟨wo,rfl⟩:∃W,W=wr:=⟨_,rfl⟩
   go_wp2
   go_loopw [35] (fun i wr=>∃j:Nat,j≤g.length∧i=.int .i64 j∧(∃F' n',n'≤k*2000+1+j∧MapN wr w.heap.size n' F'∧NmS wr (w.heap.size+1) F' (fun s=>ixU (isN s) (L.take (k+1)) 0) (fun s=>gfU s (L.take k) 0++gfs1 s k (g.take j))∧Gap9 w6.heap.size w7.heap.size F')∧(∀q,w6.heap.size≤q→q < w7.heap.size→wr.heap[q]?=w7.heap[q]?)∧w7.heap.size≤wr.heap.size∧Below w.heap.size w wr) (fun i _=>g.length - (intOf i).toNat)
   case atStart=>exact ⟨0,Nat.zero_le _,rfl,⟨_,nn+1,by have:=HNN.out;omega,HM6.out.below HM6.out.lt HB7.out,(HN6.out.below HB7.out).cast (fun _=>rfl) (fun s=>(List.append_nil _).symm),HN6.out.gap _⟩,fun _ _ _=>rfl,Nat.le_refl _,BM6.out.trans (HB7.out.mono BM6.out.size)⟩
   case round=>
    clear HM6 HN6 BM6
    obtain ⟨j,hjl,rfl,⟨F',n',hn',hM',hN',hG'⟩,hmid,hsz7,hbi⟩:=hrel
    have HBI:=Lib.hid hbi
    have HMID:=Lib.hid hmid
    have HS7:=Lib.hid hsz7
    have HGP:=Lib.hid hG'
    have HN':=Lib.hid hn'
    have S67:=Lib.hid (show w6.heap.size≤w7.heap.size∧wo.heap.size+2≤w6.heap.size∧w.heap.size+1≤wo.heap.size from ⟨HB7.out.size,SN6.out,HSW.out⟩)
    clear hmid hG' hn' hbi
    by_cases hlt2:j < g.length
    ·obtain ⟨-,-,-,hat⟩:=rdAtms_at (rdAtms_good.keep HR7.out (fun b hb=>HMID.out b hb.1 hb.2))
     obtain ⟨ad2,rfl,had2,a0,a1,a2⟩:=hat j hlt2
     have i0:(0:Int)≤(j:Int):=by omega
     have i1:(j:Int) < (g.length:Int):=by omega
     have NS2:=Lib.hid (PX.out.2.2 g[j] (List.getElem_mem hlt2))
     have STJ:=Lib.hid (fun s=>gfs1_take (n:=s) (i:=k) hlt2)
     have LNJ:=Lib.hid (fun s=>show (gfs1 s k (g.take j)).length≤j from by unfold gfs1;rw [List.length_map];exact Nat.le_trans (List.length_filter_le _ _) (List.length_take_le _ _))
     have HJ:=Lib.hid (show j≤1000 by
      have e1:g.length=p.length+1:=by rw [←HGX.out];rfl
      have:=PX.out.1
      try simp only at this
      omega)
     clear had2 hat
     generalize g[j]=a at *
     obtain ⟨an,ao,av⟩:=a
     try simp only at a0 a1 a2
     have hns2:an.size≤1000000:=by have:=NS2.out;simp only at this;omega
     have hnm2:an.size≤maxLen:=by unfold maxLen;omega
     obtain ⟨Bp,dp,hpv,-,-⟩:=(hN'.p an).own
     obtain ⟨Bg,dg,hgv,-,-⟩:=(hN'.g an).own
     have GG:=Lib.hid (hN'.g an)
     rw [hgv] at GG
     have hlg:(gfU an (L.take k) 0++gfs1 an k (g.take j)).length≤200000:=by
      rw [List.length_append]
      have q1:=LNG.out an
      have q2:=LNJ.out an
      have q3:=HJ.out
      have q4:=HK.out
      have q5:(L.take k).length≤k:=List.length_take_le _ _
      have q6:(L.take k).length*(1000+1)≤63*1001:=Nat.mul_le_mul (Nat.le_trans q5 q4) (Nat.le_refl _)
      omega
     obtain ⟨mp,hmp⟩:∃m,m=(ixU (isN an) (L.take (k+1)) 0).length:=⟨_,rfl⟩
     obtain ⟨mg,hmg⟩:∃m,m=(gfU an (L.take k) 0++gfs1 an k (g.take j)).length:=⟨_,rfl⟩
     rw [←hmp] at hpv
     rw [←hmg] at hgv GG
     have hlk:=MapN.look (F:=F') (hM'.kept (World.grownBy_alloc wr (.cells #[.string an,.int .i64 ao,.string av] 100) none) (by simp)) an hns2 hpv hgv
     generalize hglx:gfU an (L.take k) 0++gfs1 an k (g.take j)=lg at GG hlg
     have HGL:=Lib.hid hglx
     have HPV:=Lib.hid hpv
     have HGV:=Lib.hid hgv
     clear hpv hgv hmp hmg hglx
     obtain ⟨W2,hW2⟩:∃W,W=(wr.alloc (.cells #[.string an,.int .i64 ao,.string av] 100)).alloc (.cells #[.slice Bp mp dp,.slice Bg mg dg] 121):=⟨_,rfl⟩
     have b2:Below wr.heap.size wr W2:=by rw [hW2];exact ((Below.refl _ wr).alloc (Nat.le_refl _) _).alloc (by simp) _
     have s2:W2.heap.size=wr.heap.size+2:=by rw [hW2];simp
     have x0:W2.cell? ⟨wr.heap.size,0,none⟩=some (.string an):=by rw [hW2];simp [go_sem]
     have x1:W2.cell? ⟨wr.heap.size,1,none⟩=some (.int .i64 ao):=by rw [hW2];simp [go_sem]
     have x2:W2.cell? ⟨wr.heap.size,2,none⟩=some (.string av):=by rw [hW2];simp [go_sem]
     have y0:W2.cell? ⟨wr.heap.size+1,0,none⟩=some (.slice Bp mp dp):=by rw [hW2];simp [go_sem]
     have y1:W2.cell? ⟨wr.heap.size+1,1,none⟩=some (.slice Bg mg dg):=by rw [hW2];simp [go_sem]
     have f0:W2.frozen? ⟨wr.heap.size+1,1,none⟩=false:=by rw [hW2];simp [go_sem]
     have HB2:=Lib.hid b2
     have HS2:=Lib.hid s2
     have GG2:=Lib.hid (GG.out.below rdGf_good b2)
     have HM:=Lib.hid (hM'.kept (w':=W2) (row:=none) ⟨b2.os,b2.tape,b2.output,b2.size,fun q hq _=>b2.block q hq⟩ (by simp))
     have HNI:=Lib.hid hN'
     clear hM' hN' GG
     have hn1:lg.length+1≤maxLen:=by unfold maxLen;omega
     have hn2:(lg.length+1)*48≤140737488355328:=by omega
     have hbs:w.heap.size+1≤W2.heap.size:=by have:=S67.out;omega
     clear b2 s2
     go_wp2_with (at_builtin;rw [←hW2];refine wpList_grow1_at W2 rfl _ _ 119 rfl rdGf_good (by decide) (fun _=>True) (w.heap.size+1) 124 fg _ 48 Tryz.underlying119 hj hy0 hy1 hy2 rfl (.slice Bg mg dg) lg rfl GG2.out ⟨(k:Int),⟨an,ao,av⟩⟩ _ 124 rfl (wr.heap.size+2) HS2.out.symm rfl hn1 hn2 hbs ?_)
     intro v1 w8 hG4 hg4 hm4
     rw [←hW2] at hg4 hm4
     obtain ⟨Bq,dq,hv1,-,-⟩:=hG4.own
     obtain ⟨mq,hmq⟩:∃m,m=(lg++[(⟨(k:Int),⟨an,ao,av⟩⟩:Gf)]).length:=⟨_,rfl⟩
     rw [←hmq] at hv1
     subst hv1
     have rowne:∀q,wr.heap.size≤q→(Value.slice Bg mg dg).ownBlock≠some q:=fun q hq hh=>by
      have:=((HNI.out.g an).lt q (by rw [HGV.out];exact hh)).2
      omega
     have rowge:∀q,(Value.slice Bg mg dg).ownBlock=some q→w.heap.size+1≤q:=fun q hh=>((HNI.out.g an).lt q (by rw [HGV.out];exact hh)).1
     have rowgap:∀q,w6.heap.size≤q→q < w7.heap.size→(Value.slice Bg mg dg).ownBlock≠some q:=fun q h1 h2 hh=>by
      have:=HGP.out an q (.inr (by rw [HGV.out];exact hh))
      omega
     have hsz4:wr.heap.size+2≤w8.heap.size:=by have:=hg4.size;have:=HS2.out;omega
     replace x0:=far9 hg4 (by have:=HS2.out;omega) (rowne _ (Nat.le_refl _)) x0
     replace x1:=far9 hg4 (by have:=HS2.out;omega) (rowne _ (Nat.le_refl _)) x1
     replace x2:=far9 hg4 (by have:=HS2.out;omega) (rowne _ (Nat.le_refl _)) x2
     replace y0:=far9 (b:=wr.heap.size+1) hg4 (by have:=HS2.out;omega) (rowne (wr.heap.size+1) (Nat.le_succ _)) y0
     replace y1:=far9 (b:=wr.heap.size+1) hg4 (by have:=HS2.out;omega) (rowne (wr.heap.size+1) (Nat.le_succ _)) y1
     replace f0:=frz9 (b:=wr.heap.size+1) hg4 (by have:=HS2.out;omega) (rowne (wr.heap.size+1) (Nat.le_succ _)) f0
     obtain ⟨V,hV⟩:∃V,V=w8.setCell ⟨wr.heap.size+1,1,none⟩ (.slice Bq mq dq):=⟨_,rfl⟩
     have HMV:=Lib.hid (show MapN V w.heap.size n' F' from by
      rw [hV]
      exact (HM.out.kept hg4 (fun e=>by have:=rowge _ e.symm;omega)).kept (grown_set w8 _ _) (fun e=>by injection e with e;have:=S67.out;simp only at e;omega))
     have hVs:V.heap.size=w8.heap.size:=by rw [hV];simp
     have HG4:=Lib.hid hG4
     have Hg4:=Lib.hid hg4
     have Hm4:=Lib.hid hm4
     have ROW:=Lib.hid (And.intro rowgap rowge)
     have hn4:n' < maxLen:=by have:=HN'.out;have:=HK.out;have:=HJ.out;unfold maxLen;omega
     have HV:=Lib.hid hV
     clear x1 x2 hG4 hg4 hm4 rowne rowge rowgap hmq hlk hW2
     go_wp2_with (at_mapUpdate;rw [←hV];refine wpList_mapUpdate_fn rfl _ _ _ rfl lawStr9 Tryz.underlying9 Tryz.underlying78 HMV.out rfl hn4 an (.agg #[.slice Bp mp dp,.slice Bq mq dq]) rfl rfl hnm2 ?_)
     intro w9 hM9 hg9
     rw [←hV] at hg9
     clear hV x0 y0 y1 f0
     have HM9:=Lib.hid (show MapN w9 w.heap.size (n'+1) (upd9 F' an ((F' an).1,.slice Bq mq dq)) from by
      show MapF Tryz.prog 9 zz9 w9 w.heap.size (n'+1) (nmv (upd9 F' an ((F' an).1,.slice Bq mq dq)))
      rw [nmv_upd]
      simp only
      rw [HPV.out]
      exact hM9)
     have HN9:=Lib.hid ((HNI.out.stepG HB2.out HS2.out an HG4.out (by rw [HGV.out];exact Hg4.out) (by rw [HGV.out];exact Hm4.out) (Nat.lt_succ_self w.heap.size) (by rw [←HV.out];exact hg9)).cast (pl':=fun s=>ixU (isN s) (L.take (k+1)) 0) (gl':=fun s=>gfU s (L.take k) 0++gfs1 s k (g.take (j+1))) (fun s=>rfl) (fun s=>by
      by_cases e:s=an
      ·subst e
       rw [upd9_same,STJ.out,←HGL.out,List.append_assoc]
       exact congrArg _ (if_pos rfl).symm
      ·rw [upd9_ne _ _ e,STJ.out]
       exact congrArg _ (if_neg (fun q=>e q.symm)).symm))
     have HP9:=Lib.hid (HGP.out.addG (W:=W2) (s:=an) (v':=.slice Bq mq dq) (by rw [HGV.out];exact Hm4.out) (by have:=HS2.out;have:=HS7.out;omega))
     have hg9':(w8.setCell ⟨wr.heap.size+1,1,none⟩ (.slice Bq mq dq)).grownBy w9 (some w.heap.size):=by rw [←HV.out];exact hg9
     have HMD:=Lib.hid (fun q (h1:w6.heap.size≤q) (h2:q < w7.heap.size)=>(step_mid HB2.out Hg4.out hg9' (by have:=HS7.out;omega) (ROW.out.1 q h1 h2) (by have:=S67.out;omega)).trans (HMID.out q h1 h2))
     have BM9:=Lib.hid (step_below HBI.out HB2.out Hg4.out (fun q hq=>Nat.le_of_succ_le (ROW.out.2 q hq)) hg9' (Nat.le_refl _))
     have HS9:=Lib.hid (show w7.heap.size≤w9.heap.size by have:=hg9.size;have:=HS7.out;omega)
     clear hM9 hg9 hg9' HMV hVs HG4 Hg4 Hm4 ROW HV HM HNI GG2 HB2 HS2 HPV HGV hn4 hsz4 hn1 hn2 hbs HGL STJ a0 a1 a2 HBI HMID HGP HS7
     go_wp2
     go_roundw
     case rel=>exact ⟨j+1,by omega,by go_num,⟨_,n'+1,by have:=HN'.out;omega,HM9.out,HN9.out,HP9.out⟩,HMD.out,HS9.out,BM9.out⟩
     case measure=>simp [intOf];omega
    ·obtain rfl:j=g.length:=by omega
     have HJ:=Lib.hid (show g.length≤1001 by
      have e1:g.length=p.length+1:=by rw [←HGX.out];rfl
      have:=PX.out.1
      try simp only at this
      omega)
     have HMI:=Lib.hid hM'
     have HNI:=Lib.hid (hN'.cast (pl':=fun s=>ixU (isN s) (L.take (k+1)) 0) (gl':=fun s=>gfU s (L.take (k+1)) 0) (fun _=>rfl) (fun s=>by rw [STG.out,List.take_length]))
     clear hM' hN' hsz7
     go_wp2
     go_roundw
     case rel=>exact ⟨k+1,by omega,by go_num,⟨F',n',by have:=HN'.out;have:=HJ.out;omega,HMI.out,HNI.out⟩,HBI.out,by have:=S67.out;have:=HS7.out;omega⟩
     case measure=>simp [intOf];omega
  ·obtain rfl:k=L.length:=by omega
   have HMI:=Lib.hid hM
   have HNI:=Lib.hid (hN.cast (pl':=fun s=>ixU (isN s) L 0) (gl':=fun s=>gfU s L 0) (fun s=>by rw [List.take_length]) (fun s=>by rw [List.take_length]))
   clear hM hN hbel
   go_wp2
   go_ret
   exact ⟨rfl,⟨F,nn,HMI.out,HNI.out⟩,HB.out⟩
end Go.Proofs.YtpilmhoakopcaaaGreatDoor
