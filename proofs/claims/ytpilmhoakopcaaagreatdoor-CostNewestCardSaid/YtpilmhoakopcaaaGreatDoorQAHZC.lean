/- What the laws rest on: E11c, N9b, P6e, N9e, N9e2. -/
import Derived.Test.YtpilmhoakopcaaaGreatDoorQAGZC
set_option maxRecDepth 100000
set_option linter.unusedVariables false
set_option linter.unusedSimpArgs false
namespace Go.Proofs.YtpilmhoakopcaaaGreatDoor
open Go.RowKit
theorem maxF_le {f:ByteArray→Int} {M:Int} (h:∀v,f v≤M):∀(all:List ByteArray) (b:Int),b≤M→maxF f b all≤M
 | [],b,hb=>hb
 | v::r,b,hb=>by
  have:=h v
  exact maxF_le h r (max b (f v)) (by omega)
theorem los_le {U:List Ent} {pn:List Pn} (h:∀x ∈ pn,-1000≤x.p∧x.p≤1000) (p:Int):los U pn p≤2000:=by
 unfold los lossN
 have h1:=maxF_le (f:=prioN pn (entA U p).n) (M:=1000) (fun v=>(prio_in (by decide) h _ v).2) (verU U (entA U p).n) (prioN pn (entA U p).n (entA U p).v) (prio_in (by decide) h _ _).2
 have h2:=(prio_in (b:=1000) (by decide) h (entA U p).n (entA U p).v).1
 omega
theorem sum_up {f:Int→Int} {M:Nat}:∀{l:List Int},(∀x ∈ l,0≤f x∧f x≤(M:Int))→0≤(l.map f).sum∧(l.map f).sum≤((l.length*M:Nat):Int)
 | [],_=>by simp
 | x::r,h=>by
  have ih:=sum_up (f:=f) (M:=M) (l:=r) fun y hy=>h y (List.mem_cons_of_mem _ hy)
  have:=h x (List.mem_cons_self ..)
  rw [List.map_cons,List.sum_cons,List.length_cons,Nat.succ_mul]
  omega
theorem bhd_le {U:List Ent} {here:List Int} {pn:List Pn} (p:Int):bhd U here pn p≤(U.length:Int):=by
 unfold bhd
 split
 ·have h1:(bhdL U (alw U here pn) p).length≤(alw U here pn).length:=List.length_filter_le _ _
  have h2:(alw U here pn).length≤U.length:=by
   unfold alw
   refine Nat.le_trans (List.length_filter_le _ _) ?_
   unfold rangU;simp
  omega
 ·omega
theorem wnS_le {U:List Ent} {l:List Int} {M:Nat} (h:∀x ∈ U,x.r.length≤M):∀(m:List Int),wnS U l m≤m.length*M
 | []=>Nat.zero_le _
 | p::r=>by
  have ih:=wnS_le (l:=l) h r
  have h1:wnP U l p≤M:=by
   unfold wnP
   refine Nat.le_trans (List.length_filter_le _ _) ?_
   unfold entA
   rw [List.getD_eq_getElem?_getD]
   cases e:U[p.toNat]? with
   | none=>exact Nat.zero_le _
   | some x=>exact h x (List.mem_of_getElem? e)
  unfold wnS at *
  rw [List.map_cons,List.sum_cons,List.length_cons,Nat.succ_mul]
  omega
theorem sum_take {f:Int→Int} {l:List Int} {k:Nat} (h:k < l.length):((l.take (k+1)).map f).sum=((l.take k).map f).sum+f l[k]:=by
 rw [List.take_succ_eq_append_getElem h,List.map_append,List.sum_append];simp
theorem sumN_take {f:Int→Nat} {l:List Int} {k:Nat} (h:k < l.length):((l.take (k+1)).map f).sum=((l.take k).map f).sum+f l[k]:=by
 rw [List.take_succ_eq_append_getElem h,List.map_append,List.sum_append];simp
theorem filN_take {α:Type} {p:α→Bool} {l:List α} {k:Nat} (h:k < l.length):((l.take (k+1)).filter p).length=((l.take k).filter p).length+(if p l[k]=true then 1 else 0):=by
 rw [List.take_succ_eq_append_getElem h,List.filter_append,List.length_append,List.filter_cons]
 split<;>simp
end Go.Proofs.YtpilmhoakopcaaaGreatDoor
namespace Go.Proofs.YtpilmhoakopcaaaGreatDoor
open Go.RowKit Go.Sort
set_option maxHeartbeats 1000000 in
theorem among19_any (y:Ent) (A1:Option Addr) (c1:Nat) (A2:Option Addr) (c2:Nat) (A3:Option Addr) (c3:Nat) (A4:Option Addr) (c4:Nat) (n v:ByteArray) (q:Nat) (w:World) (h0:w.cell? ⟨q,0,none⟩=some (.string n)) (h1:w.cell? ⟨q,1,none⟩=some (.string v)) :
  Calls Tryz.prog 108 #[y.val A1 c1 A2 c2 A3 c3 A4 c4,.pointer (some ⟨q,0,none⟩)] w fun e w'=>e=.returned (.bool (thr n v y))∧Below w.heap.size w w':=by
 have B1:=(Below.refl w.heap.size w).alloc (Nat.le_refl _) (.cells #[.string y.n,.string y.v,.slice A1 y.d.length c1,.slice A2 y.r.length c2,.slice A3 y.c.length c3,.slice A4 y.p.length c4] 60)
 have g0:=keep6 B1 h0
 have g1:=keep6 B1 h1
 have HB:=Lib.hid B1
 have e0:=str_eq y.n n
 have e1:=str_eq y.v v
 have X:=Lib.hid (show thr n v y=(decide (y.n=n)&&decide (y.v=v)) from rfl)
 generalize decide (y.n=n)=d0 at *
 generalize decide (y.v=v)=d1 at *
 generalize thr n v y=b at *
 obtain ⟨yn,yv,yd,yr,yc,yp⟩:=y
 clear B1 h0 h1
 show Calls Tryz.prog 108 #[.agg #[.string yn,.string yv,.slice A1 yd.length c1,.slice A2 yr.length c2,.slice A3 yc.length c3,.slice A4 yp.length c4],.pointer (some ⟨q,0,none⟩)] w _
 cases d0
 ·go_enter Tryz.func108,Tryz.ntmps108
  go_wp2
  go_ret
  exact ⟨by rw [X.out];try rfl,HB.out⟩
 ·go_enter Tryz.func108,Tryz.ntmps108
  go_wp2
  go_ret
  exact ⟨by rw [X.out];try rfl,HB.out⟩
set_option maxHeartbeats 4000000 in
theorem ixEnt9_any (A:Option Addr) (m cc:Nat) (l:List Ent) (n v:ByteArray) (q:Nat) (w:World) (h:rdEnts w (lt_ w.heap.size) l [.slice A m cc]) (h0:w.cell? ⟨q,0,none⟩=some (.string n)) (h1:w.cell? ⟨q,1,none⟩=some (.string v)) :
  Calls Tryz.prog 140 #[.slice A m cc,.func (.func 108) #[] #[.pointer (some ⟨q,0,none⟩)]] w fun e w'=>e=.returned (.int .i64 (ixP (thr n v) l 0))∧Below w.heap.size w w':=by
 have hcf:∀(args:Array Value) (w:World),(callFunc 108 args).run Tryz.prog w=.ok (.enter 108 args) w:=fun _ _=>by kernel_rfl
 obtain ⟨rfl,hnc,hcm,_⟩:=rdEnts_at h
 have hcm':cc≤9223372036854775807:=hcm
 have H:=Lib.hid h
 have H0:=Lib.hid h0
 have H1:=Lib.hid h1
 clear h hcm h0 h1
 go_enter Tryz.func140,Tryz.ntmps140
 go_wp2
 go_loopw [8] (fun i wr=>∃k:Nat,k≤l.length∧i=.int .i64 k∧ixP (thr n v) l 0=ixP (thr n v) (l.drop k) k∧Below w.heap.size w wr) (fun i _=>l.length - (intOf i).toNat)
 case atStart=>exact ⟨0,Nat.zero_le _,rfl,rfl,Below.refl _ _⟩
 case round=>
  obtain ⟨k,hk,rfl,hx,hbel⟩:=hrel
  have HX:=Lib.hid hx
  have HB:=Lib.hid hbel
  clear hx
  by_cases hlt:k < l.length
  ·obtain ⟨_,_,_,ha⟩:=rdEnts_at (rdEnts_good.below H.out hbel)
   obtain ⟨ad,A1,c1,A2,c2,A3,c3,A4,c4,rfl,had,hv,g0,g1,g2,g3,g4,g5⟩:=ha k hlt
   have i0:(0:Int)≤(k:Int):=by omega
   have i1:(k:Int) < (l.length:Int):=by omega
   have CL:=Lib.hid (among19_any l[k] A1 c1 A2 c2 A3 c3 A4 c4 n v q wr (keep6 hbel H0.out) (keep6 hbel H1.out))
   have PA:=Lib.hid (ixP_at (p:=thr n v) hlt)
   clear ha hbel hv had
   have SZ:=Lib.hid HB.out.size
   generalize l[k]=x at *
   cases he:thr n v x
   ·have X:=Lib.hid (PA.out.2 he)
    rw [he] at CL
    clear he
    go_wp2_with fail
    refine CL.out.mono ?_
    rintro e w' ⟨rfl,hb2⟩
    have HB2:=Lib.hid hb2
    clear hb2
    go_wp2
    go_roundw
    case rel=>exact ⟨k+1,by omega,by go_num,by rw [HX.out,X.out],HB.out.trans (HB2.out.mono SZ.out)⟩
    case measure=>simp [intOf];omega
   ·have X:=Lib.hid (PA.out.1 he)
    rw [he] at CL
    clear he
    go_wp2_with fail
    refine CL.out.mono ?_
    rintro e w' ⟨rfl,hb2⟩
    have HB2:=Lib.hid hb2
    clear hb2
    go_wp2
    go_ret
    exact ⟨by rw [HX.out,X.out];try rfl,HB.out.trans (HB2.out.mono SZ.out)⟩
  ·have X:=Lib.hid (show ixP (thr n v) l 0=-1 by rw [HX.out,List.drop_eq_nil_of_le (by omega)];rfl)
   go_wp2
   go_ret
   exact ⟨by rw [X.out];try rfl,HB.out⟩
set_option maxHeartbeats 2000000 in
theorem hasEnt9_any (A:Option Addr) (m cc:Nat) (l:List Ent) (n v:ByteArray) (q:Nat) (w:World) (h:rdEnts w (lt_ w.heap.size) l [.slice A m cc]) (h0:w.cell? ⟨q,0,none⟩=some (.string n)) (h1:w.cell? ⟨q,1,none⟩=some (.string v)) :
  Calls Tryz.prog 107 #[.slice A m cc,.func (.func 108) #[] #[.pointer (some ⟨q,0,none⟩)]] w fun e w'=>e=.returned (.bool (l.any (thr n v)))∧Below w.heap.size w w':=by
 have C:=Lib.hid (ixEnt9_any A m cc l n v q w h h0 h1)
 have X:=Lib.hid (ixP_any (p:=thr n v) (l:=l) (i:=0))
 clear h h0 h1
 go_enter Tryz.func107,Tryz.ntmps107
 go_wp2_with (go_at_call 140;(with_reducible refine C.out.mono ?_);rintro e w' ⟨rfl,hb2⟩)
 go_ret
 exact ⟨by rw [←X.out];rfl,hb2⟩
set_option maxHeartbeats 2000000 in
theorem among9_any (A:Option Addr) (m cc:Nat) (l:List Ent) (x:Ent) (A1:Option Addr) (c1:Nat) (A2:Option Addr) (c2:Nat) (A3:Option Addr) (c3:Nat) (A4:Option Addr) (c4:Nat) (w:World) (h:rdEnts w (lt_ w.heap.size) l [.slice A m cc]) :
  Calls Tryz.prog 72 #[.slice A m cc,x.val A1 c1 A2 c2 A3 c3 A4 c4] w fun e w'=>e=.returned (.bool (thB l x))∧Below w.heap.size w w':=by
 have B1:=(Below.refl w.heap.size w).alloc (Nat.le_refl _) (.cells #[.string x.n,.string x.v,.slice A1 x.d.length c1,.slice A2 x.r.length c2,.slice A3 x.c.length c3,.slice A4 x.p.length c4] 60)
 have C:=Lib.hid (hasEnt9_any A m cc l x.n x.v w.heap.size (w.alloc (.cells #[.string x.n,.string x.v,.slice A1 x.d.length c1,.slice A2 x.r.length c2,.slice A3 x.c.length c3,.slice A4 x.p.length c4] 60)) (rdEnts_good.up (rdEnts_good.below h B1) B1.size) (by simp [go_sem]) (by simp [go_sem]))
 have HB:=Lib.hid B1
 have X:=Lib.hid (show l.any (thr x.n x.v)=thB l x from rfl)
 generalize l.any (thr x.n x.v)=b at *
 generalize thB l x=b' at *
 have hmf:∀(fn:Fn) (first cap:Array Value) (w:World),(Instr.makeFunc fn first cap).run Tryz.prog w=.ok (.func fn first cap) w:=fun _ _ _ _=>rfl
 obtain ⟨n,v,d,r,c,p⟩:=x
 clear h B1
 show Calls Tryz.prog 72 #[.slice A m cc,.agg #[.string n,.string v,.slice A1 d.length c1,.slice A2 r.length c2,.slice A3 c.length c3,.slice A4 p.length c4]] w _
 go_enter Tryz.func72,Tryz.ntmps72
 go_wp2_with (go_at_call 107;(with_reducible refine C.out.mono ?_);rintro e w' ⟨rfl,hb2⟩)
 have HB2:=Lib.hid hb2
 clear hb2
 go_wp2
 go_ret
 exact ⟨by rw [X.out];try rfl,HB.out.trans (HB2.out.mono HB.out.size)⟩
set_option maxHeartbeats 2000000 in
theorem cloneE9_any (A:Option Addr) (n c:Nat) (l:List Ent) (w:World) (h:rdEnts w (lt_ w.heap.size) l [.slice A n c]) (hl:l.length≤200) :
  Calls Tryz.prog 64 #[.slice A n c] w fun e w'=>(∃v',e=.returned v'∧Grow rdEnt 6 (lt_ w.heap.size) w' w.heap.size 60 v' l)∧Below w.heap.size w w':=by
 have qT:∀(w:World) (a:Option Addr) (n c n' c':Nat),(binOp .eql 22 (.slice a n c) (.slice none n' c')).run Tryz.prog w=.ok (.bool a.isNone) w:=fun w a n c n' c'=>Lib.run_eql_slice_nil w _ _ a n c n' c' Tryz.underlying22
 obtain ⟨i0,hi,hz0,hz1,hz2⟩:=info_parts ent9_info
 obtain ⟨rfl,hnc,hcm,hat⟩:=rdEnts_at h
 have hcm':c≤9223372036854775807:=hcm
 cases A with
 | none=>
  obtain rfl:l=[]:=by
   rcases Nat.eq_zero_or_pos l.length with h0|h0
   ·exact List.eq_nil_of_length_eq_zero h0
   ·obtain ⟨_,_,_,_,_,_,_,_,_,e,_⟩:=hat 0 h0
    cases e
  clear h hat hcm
  go_enter Tryz.func64,Tryz.ntmps64
  go_wp2
  go_ret
  exact ⟨⟨_,rfl,Grow.nil _ _ _ _⟩,Below.refl _ _⟩
 | some ad=>
  have B1:=(Below.refl w.heap.size w).alloc (Nat.le_refl _) (.cells #[] 60)
  have hG:=Grow.empty (E:=rdEnt) (sz:=6) (lt_ w.heap.size) (W:=w.alloc (.cells #[] 60)) (base:=w.heap.size) (heap_alloc_new w _) (Nat.le_refl _)
  have hX:=rdEnts_good.below h B1
  have hn1:([]:List Ent).length+l.length≤maxLen:=by simp only [List.length_nil];unfold maxLen;omega
  have hn2:(([]:List Ent).length+l.length)*128≤140737488355328:=by simp only [List.length_nil];omega
  have hS:∀b,lt_ w.heap.size b→lt_ w.heap.size b∧b < (w.alloc (.cells #[] 60)).heap.size∧(Value.slice (some ⟨w.heap.size,0,none⟩) 0 0).ownBlock≠some b:=fun b hb=>⟨hb,by rw [World.size_alloc];unfold lt_ at hb;omega,fun hh=>by simp only [Value.ownBlock,Option.some.injEq] at hh;unfold lt_ at hb;omega⟩
  have hbs:w.heap.size≤(w.alloc (.cells #[] 60)).heap.size:=by rw [World.size_alloc];omega
  have HB1:=Lib.hid B1
  clear h B1 hcm hat
  go_enter Tryz.func64,Tryz.ntmps64
  go_wp2_with (at_builtin;refine wpList_growN _ rfl _ _ 22 22 rfl rdEnt_good (by decide) (lt_ w.heap.size) w.heap.size 60 60 i0 (.agg #[.string { data:=#[] },.string { data:=#[] },.slice none 0 0,.slice none 0 0,.slice none 0 0,.slice none 0 0]) 128 Tryz.underlying22 Tryz.underlying22 hi hz0 hz1 hz2 rfl _ _ rfl hG l _ (some ad) l.length c rfl hX hS hn1 hn2 hbs ?_)
  intro v' w1 hG1 hg1
  have HB2:=Lib.hid (grow_below hG hg1 HB1.out (Nat.le_refl _) hbs)
  have HG:=Lib.hid hG1
  clear hG hX hg1 hn1 hn2 hS hbs hG1
  go_wp2
  go_ret
  exact ⟨⟨_,rfl,HG.out⟩,HB2.out⟩
set_option maxHeartbeats 2000000 in
theorem cloneI9_any (A:Option Addr) (n c:Nat) (l:List Int) (w:World) (h:rdInts w (lt_ w.heap.size) l [.slice A n c]) (hl:l.length≤200) :
  Calls Tryz.prog 87 #[.slice A n c] w fun e w'=>(∃v',e=.returned v'∧Grow rdInt 1 (lt_ w.heap.size) w' w.heap.size 3 v' l)∧Below w.heap.size w w':=by
 have qT:∀(w:World) (a:Option Addr) (n c n' c':Nat),(binOp .eql 25 (.slice a n c) (.slice none n' c')).run Tryz.prog w=.ok (.bool a.isNone) w:=fun w a n c n' c'=>Lib.run_eql_slice_nil w _ _ a n c n' c' Tryz.underlying25
 obtain ⟨i0,hi,hz0,hz1,hz2⟩:=info_parts int9_info
 obtain ⟨rfl,hnc,hcm,hat⟩:=rdInts_at h
 have hcm':c≤9223372036854775807:=hcm
 cases A with
 | none=>
  obtain rfl:l=[]:=by
   rcases Nat.eq_zero_or_pos l.length with h0|h0
   ·exact List.eq_nil_of_length_eq_zero h0
   ·obtain ⟨_,e,_⟩:=hat 0 h0
    cases e
  clear h hat hcm
  go_enter Tryz.func87,Tryz.ntmps87
  go_wp2
  go_ret
  exact ⟨⟨_,rfl,Grow.nil _ _ _ _⟩,Below.refl _ _⟩
 | some ad=>
  have B1:=(Below.refl w.heap.size w).alloc (Nat.le_refl _) (.cells #[] 3)
  have hG:=Grow.empty (E:=rdInt) (sz:=1) (lt_ w.heap.size) (W:=w.alloc (.cells #[] 3)) (base:=w.heap.size) (heap_alloc_new w _) (Nat.le_refl _)
  have hX:=rdInts_good.below h B1
  have hn1:([]:List Int).length+l.length≤maxLen:=by simp only [List.length_nil];unfold maxLen;omega
  have hn2:(([]:List Int).length+l.length)*8≤140737488355328:=by simp only [List.length_nil];omega
  have hS:∀b,lt_ w.heap.size b→lt_ w.heap.size b∧b < (w.alloc (.cells #[] 3)).heap.size∧(Value.slice (some ⟨w.heap.size,0,none⟩) 0 0).ownBlock≠some b:=fun b hb=>⟨hb,by rw [World.size_alloc];unfold lt_ at hb;omega,fun hh=>by simp only [Value.ownBlock,Option.some.injEq] at hh;unfold lt_ at hb;omega⟩
  have hbs:w.heap.size≤(w.alloc (.cells #[] 3)).heap.size:=by rw [World.size_alloc];omega
  have HB1:=Lib.hid B1
  clear h B1 hcm hat
  go_enter Tryz.func87,Tryz.ntmps87
  go_wp2_with (at_builtin;refine wpList_growN _ rfl _ _ 25 25 rfl rdInt_good (by decide) (lt_ w.heap.size) w.heap.size 3 3 i0 (.int .i64 0) 8 Tryz.underlying25 Tryz.underlying25 hi hz0 hz1 hz2 rfl _ _ rfl hG l _ (some ad) l.length c rfl hX hS hn1 hn2 hbs ?_)
  intro v' w1 hG1 hg1
  have HB2:=Lib.hid (grow_below hG hg1 HB1.out (Nat.le_refl _) hbs)
  have HG:=Lib.hid hG1
  clear hG hX hg1 hn1 hn2 hS hbs hG1
  go_wp2
  go_ret
  exact ⟨⟨_,rfl,HG.out⟩,HB2.out⟩
end Go.Proofs.YtpilmhoakopcaaaGreatDoor
namespace Go.Proofs.YtpilmhoakopcaaaGreatDoor
open Go.RowKit
set_option maxHeartbeats 4000000 in
theorem gives6_any (x:Ent) (A1:Option Addr) (c1:Nat) (A2:Option Addr) (c2:Nat) (A3:Option Addr) (c3:Nat) (A4:Option Addr) (c4:Nat) (w:World) (hx:EntV w (lt_ w.heap.size) x A1 c1 A2 c2 A3 c3 A4 c4) (hp:x.p.length≤1000) :
  Calls Tryz.prog 76 #[x.val A1 c1 A2 c2 A3 c3 A4 c4] w fun e w'=>(∃A c,e=.returned (.slice A (gvs x).length c)∧rdAtms w' (fun b=>w.heap.size≤b∧b < w'.heap.size) (gvs x) [.slice A (gvs x).length c])∧Below w.heap.size w w':=by
 obtain ⟨n,v,d,r,c,p⟩:=x
 obtain ⟨fi,hi,hz0,hz1,hz2⟩:=info_parts atm_info
 have HP:=Lib.hid hx.p
 obtain ⟨_,hc4,hm4,_⟩:=rdAtms_at hx.p
 have hm4':c4≤9223372036854775807:=hm4
 simp only at hp hc4
 have hq1:1+p.length≤maxLen:=by unfold maxLen;omega
 have hq2:(1+p.length)*40≤140737488355328:=by omega
 obtain ⟨W3,hW3⟩:∃W,W=(((w.alloc (.cells #[.string n,.string v,.slice A1 d.length c1,.slice A2 r.length c2,.slice A3 c.length c3,.slice A4 p.length c4] 60)).alloc (.cells #[.string n,.int .i64 3,.string v] 100)).alloc (.cells #[.string n,.int .i64 3,.string v] 100)):=⟨_,rfl⟩
 have GE:=Lib.hid (show Grow rdAtm 3 (fun _=>True) W3 w.heap.size 100 (.slice (some ⟨w.heap.size+2,0,none⟩) 1 1) [⟨n,3,v⟩] from gr_self (by rw [hW3];exact heap_alloc_new ((w.alloc (.cells #[.string n,.string v,.slice A1 d.length c1,.slice A2 r.length c2,.slice A3 c.length c3,.slice A4 p.length c4] 60)).alloc (.cells #[.string n,.int .i64 3,.string v] 100)) _|>fun h=>by rw [World.size_alloc,World.size_alloc] at h;exact h) (by omega))
 have B3:=Lib.hid (show Below w.heap.size w W3 by rw [hW3];exact (((Below.refl _ w).alloc (Nat.le_refl _) _).alloc (by simp) _).alloc (by simp;omega) _)
 have XE:=Lib.hid (rdAtms_good.below HP.out B3.out)
 have SE:=Lib.hid (show ∀b,lt_ w.heap.size b→True∧b < W3.heap.size∧(Value.slice (some ⟨w.heap.size+2,0,none⟩) 1 1).ownBlock≠some b from fun b hb=>⟨trivial,Nat.lt_of_lt_of_le hb B3.out.size,fun hh=>by simp only [Value.ownBlock,Option.some.injEq] at hh;unfold lt_ at hb;omega⟩)
 have hs3:=Lib.hid B3.out.size
 show Calls Tryz.prog 76 #[.agg #[.string n,.string v,.slice A1 d.length c1,.slice A2 r.length c2,.slice A3 c.length c3,.slice A4 p.length c4]] w _
 clear hx hp hm4
 go_enter Tryz.func76,Tryz.ntmps76
 go_wp2_with (at_builtin;rw [←hW3];refine wpList_growN W3 rfl _ _ 58 58 rfl rdAtm_good (by decide) (fun _=>True) w.heap.size 100 100 fi (.agg #[.string { data:=#[] },.int .i64 0,.string { data:=#[] }]) 40 Tryz.underlying58 Tryz.underlying58 hi hz0 hz1 hz2 rfl _ _ rfl GE.out p _ A4 p.length c4 rfl XE.out SE.out hq1 hq2 hs3.out ?_)
 intro v5 w5 hG5 hg5
 have B5:=Lib.hid (grow_below GE.out (by rw [hW3];exact hg5) B3.out (Nat.le_refl _) hs3.out)
 have R5:=Lib.hid (show rdAtms w5 (fun b=>w.heap.size≤b∧b < w5.heap.size) (gvs ⟨n,v,d,r,c,p⟩) [v5] from by
  have h2:Grow rdAtm 3 (fun _=>False) w5 w.heap.size 100 v5 (gvs ⟨n,v,d,r,c,p⟩):=Grow.flat (fun _ _ _ _ _ h=>h) (show Grow rdAtm 3 (fun _=>True) w5 w.heap.size 100 v5 (gvs ⟨n,v,d,r,c,p⟩) from hG5)
  exact rdAtms_good.more (h2.reads rdAtm_good) fun b hb=>⟨hb.2.resolve_right id,hb.1⟩)
 obtain ⟨A5,c5,hv5,_⟩:=id R5.out
 simp only [List.cons.injEq,and_true] at hv5
 subst hv5
 clear hG5 hg5 GE XE SE hW3
 go_wp2
 go_ret
 exact ⟨⟨A5,c5,rfl,R5.out⟩,B5.out⟩
structure Gf where
 k:Int
 a:Atm
def rdGf:Rd Gf:=fun _ _ g cs=>cs=[.int .i64 g.k,.string g.a.n,.int .i64 g.a.o,.string g.a.v]
theorem rdGf_good:Good rdGf 4:=⟨fun h _=>h,fun h _=>h,fun h _ _=>h,fun h=>by rw [h];rfl,fun h u hu=>by rw [h] at hu;simp at hu;rcases hu with rfl|rfl|rfl|rfl<;>rfl⟩
abbrev rdGfs:Rd (List Gf):=rdRow 4 rdGf
theorem rdGfs_good:Good rdGfs 1:=rdRow_good rdGf_good
theorem rdGfs_at {w:World} {S:Nat→Prop} {l:List Gf} {A:Option Addr} {n c:Nat} (h:rdGfs w S l [.slice A n c]):n=l.length∧n≤c∧c≤maxLen∧∀k (hk:k < l.length),∃ad,A=some ad∧S ad.block∧
  w.cell? (ad.add (k*4))=some (.int .i64 l[k].k)∧w.cell? ⟨(ad.add (k*4)).block,(ad.add (k*4)).off+1,none⟩=some (.string l[k].a.n)∧w.cell? ⟨(ad.add (k*4)).block,(ad.add (k*4)).off+2,none⟩=some (.int .i64 l[k].a.o)∧w.cell? ⟨(ad.add (k*4)).block,(ad.add (k*4)).off+3,none⟩=some (.string l[k].a.v):=by
 obtain ⟨A',c',e,h1,h2,h⟩:=h
 simp only [List.cons.injEq,Value.slice.injEq,and_true] at e
 obtain ⟨rfl,rfl,rfl⟩:=e
 refine ⟨rfl,h1,h2,fun k hk=>?_⟩
 obtain ⟨ad,es,e,hS,hE,hl,hc⟩:=h k hk
 rw [show es=[.int .i64 l[k].k,.string l[k].a.n,.int .i64 l[k].a.o,.string l[k].a.v] from hE] at hc
 exact ⟨ad,e,hS,hc 0 _ rfl,by rw [off_add ad (k*4) 1 (by omega)];exact hc 1 _ rfl,by rw [off_add ad (k*4) 2 (by omega)];exact hc 2 _ rfl,by rw [off_add ad (k*4) 3 (by omega)];exact hc 3 _ rfl⟩
def gfs1 (n:ByteArray) (i:Nat) (g:List Atm):List Gf:=(g.filter fun a=>decide (a.n=n)).map (Gf.mk (i:Int))
def gfU (n:ByteArray):List Ent→Nat→List Gf
 | [],_=>[]
 | x::r,i=>gfs1 n i (gvs x)++gfU n r (i+1)
theorem gfU_app {n:ByteArray}:∀(a b:List Ent) (i:Nat),gfU n (a++b) i=gfU n a i++gfU n b (i+a.length)
 | [],b,i=>rfl
 | x::r,b,i=>by
  have ih:=gfU_app (n:=n) r b (i+1)
  rw [List.cons_append,List.length_cons,show i+(r.length+1)=i+1+r.length by omega]
  show gfs1 n i (gvs x)++gfU n (r++b) (i+1)=(gfs1 n i (gvs x)++gfU n r (i+1))++gfU n b (i+1+r.length)
  rw [ih,List.append_assoc]
theorem gfU_take {n:ByteArray} {L:List Ent} {k:Nat} (hk:k < L.length):gfU n (L.take (k+1)) 0=gfU n (L.take k) 0++gfs1 n k (gvs L[k]):=by
 rw [List.take_succ_eq_append_getElem hk,gfU_app]
 show _++(gfs1 n _ (gvs L[k])++[])=_
 rw [List.append_nil,List.length_take,Nat.zero_add,Nat.min_eq_left (by omega)]
theorem gfs1_take {n:ByteArray} {i:Nat} {g:List Atm} {j:Nat} (hj:j < g.length):gfs1 n i (g.take (j+1))=if g[j].n=n then gfs1 n i (g.take j)++[⟨(i:Int),g[j]⟩] else gfs1 n i (g.take j):=by
 unfold gfs1
 rw [List.take_succ_eq_append_getElem hj,List.filter_append]
 by_cases h:g[j].n=n
 ·rw [if_pos h,List.filter_cons_of_pos (by rw [decide_eq_true h]),List.filter_nil,List.map_append];rfl
 ·rw [if_neg h,List.filter_cons_of_neg (by rw [decide_eq_false h];decide),List.filter_nil,List.append_nil]
theorem ixU_take {n:ByteArray} {L:List Ent} {k:Nat} (hk:k < L.length):ixU (isN n) (L.take (k+1)) 0=if L[k].n=n then ixU (isN n) (L.take k) 0++[(k:Int)] else ixU (isN n) (L.take k) 0:=by
 rw [List.take_succ_eq_append_getElem hk,ixU_app,List.length_take,Nat.zero_add,Nat.min_eq_left (by omega),ixU_cons]
 unfold isN
 by_cases h:L[k].n=n
 ·rw [if_pos h,if_pos (decide_eq_true h)];rfl
 ·rw [if_neg h,if_neg (by rw [decide_eq_false h];decide)]
  show _++[]=_
  rw [List.append_nil]
theorem gfU_len {n:ByteArray}:∀{L:List Ent} {i:Nat} {m:Nat},(∀x ∈ L,x.p.length≤m)→(gfU n L i).length≤L.length*(m+1)
 | [],i,m,h=>by simp [gfU]
 | x::r,i,m,h=>by
  have ih:=gfU_len (n:=n) (L:=r) (i:=i+1) (m:=m) (fun y hy=>h y (List.mem_cons_of_mem _ hy))
  have hx:=h x (List.mem_cons_self ..)
  have h1:(gfs1 n i (gvs x)).length≤m+1:=by
   unfold gfs1
   rw [List.length_map]
   refine Nat.le_trans (List.length_filter_le _ _) ?_
   show x.p.length+1≤m+1
   omega
  show (gfs1 n i (gvs x)++gfU n r (i+1)).length≤(r.length+1)*(m+1)
  rw [List.length_append,Nat.add_mul]
  omega
theorem ixU_len {p:Ent→Bool}:∀{L:List Ent} {i:Nat},(ixU p L i).length≤L.length
 | [],i=>Nat.le_refl _
 | x::r,i=>by
  rw [ixU_cons,List.length_cons]
  have:=ixU_len (p:=p) (L:=r) (i:=i+1)
  split
  ·rw [List.length_cons];omega
  ·omega
section
variable {α:Type} {E:Rd α} {sz:Nat}
theorem Grow.flatKept {T:Nat→Prop} {W w':World} {base:Nat} {e:TypeId} {v:Value} {l:List α} {row:Option Nat} (hf:∀(w w':World) (S S':Nat→Prop) a cs,E w S a cs→E w' S' a cs) (h:Grow E sz T W base e v l) (hg:W.grownBy w' row) (hne:∀b,v.ownBlock=some b→row≠some b):Grow E sz T w' base e v l:=by
 obtain ⟨css,hl,hown,hE⟩:=h
 refine ⟨css,hl,hown.kept hg ?_,fun k hk=>?_⟩
 ·cases hb:v.ownBlock with
  | none=>exact .inl rfl
  | some b=>exact .inr fun hh=>hne b hb hh.symm
 ·obtain ⟨cs,h1,h2⟩:=hE k hk
  exact ⟨cs,h1,hf _ _ _ _ _ _ h2⟩
end
structure NmS (W:World) (base:Nat) (F:ByteArray→Value × Value) (pl:ByteArray→List Int) (gl:ByteArray→List Gf):Prop where
 p:∀s,Grow rdInt 1 (fun _=>True) W base 3 (F s).1 (pl s)
 g:∀s,Grow rdGf 4 (fun _=>True) W base 124 (F s).2 (gl s)
 pg:∀s s',Off (F s).1 (F s').2
 pp:∀s s',s≠s'→Off (F s).1 (F s').1
 gg:∀s s',s≠s'→Off (F s).2 (F s').2
def nmv (F:ByteArray→Value × Value):ByteArray→Value:=fun s=>.agg #[(F s).1,(F s).2]
theorem nmv_upd (F:ByteArray→Value × Value) (s:ByteArray) (p:Value × Value):nmv (upd9 F s p)=upd9 (nmv F) s (.agg #[p.1,p.2]):=by
 funext x
 unfold nmv upd9
 by_cases h:x=s
 ·simp [h]
 ·simp [h]
section
variable {W w':World} {base:Nat} {F:ByteArray→Value × Value} {pl:ByteArray→List Int} {gl:ByteArray→List Gf}
theorem NmS.nil (W:World) (base:Nat):NmS W base (fun _=>(.slice none 0 0,.slice none 0 0)) (fun _=>[]) (fun _=>[]):=
 ⟨fun _=>Grow.nil _ _ _ _,fun _=>Grow.nil _ _ _ _,fun _ _=>Off.nil _,fun _ _ _=>Off.nil _,fun _ _ _=>Off.nil _⟩
theorem NmS.below (h:NmS W base F pl gl) (hb:Below W.heap.size W w'):NmS w' base F pl gl:=
 ⟨fun s=>(h.p s).below rdInt_good hb,fun s=>(h.g s).below rdGf_good hb,h.pg,h.pp,h.gg⟩
theorem NmS.row (h : NmS W base F pl gl) {b : Nat} (hg : W.grownBy w' (some b)) (hb : b < base) : NmS w' base F pl gl :=
  ⟨fun s => (h.p s).flatKept (fun _ _ _ _ _ _ h => h) hg (fun q hq e => by have := ((h.p s).lt q hq).1; injection e with e; omega),
   fun s => (h.g s).flatKept (fun _ _ _ _ _ _ h => h) hg (fun q hq e => by have := ((h.g s).lt q hq).1; injection e with e; omega), h.pg, h.pp, h.gg⟩
theorem NmS.cast {pl':ByteArray→List Int} {gl':ByteArray→List Gf} (h:NmS W base F pl gl) (h1:∀s,pl s=pl' s) (h2:∀s,gl s=gl' s):NmS W base F pl' gl':=by
 obtain rfl:pl=pl':=funext h1
 obtain rfl:gl=gl':=funext h2
 exact h
theorem NmS.addP (h:NmS W base F pl gl) (s:ByteArray) {v':Value} {l':List Int} (hG:Grow rdInt 1 (fun _=>True) w' base 3 v' l') (hg:W.grownBy w' (F s).1.ownBlock) (hm:Moved W (F s).1 v'):NmS w' base (upd9 F s (v',(F s).2)) (upd9 pl s l') gl:=by
 have lp:∀x b,(F x).1.ownBlock=some b→b < W.heap.size:=fun x b hb=>((h.p x).lt b hb).2
 have lg:∀x b,(F x).2.ownBlock=some b→b < W.heap.size:=fun x b hb=>((h.g x).lt b hb).2
 have f2:∀x,(upd9 F s (v',(F s).2) x).2=(F x).2:=fun x=>by
  by_cases e:x=s
  ·rw [e,upd9_same]
  ·rw [upd9_ne _ _ e]
 refine ⟨fun x=>?_,fun x=>?_,fun x y=>?_,fun x y hxy=>?_,fun x y hxy=>?_⟩
 ·by_cases e:x=s
  ·rw [e,upd9_same,upd9_same];exact hG
  ·rw [upd9_ne _ _ e,upd9_ne _ _ e]
   exact (h.p x).flatKept (fun _ _ _ _ _ _ h=>h) hg (fun b hb hr=>h.pp x s e b hb hr)
 ·rw [f2]
  exact (h.g x).flatKept (fun _ _ _ _ _ _ h=>h) hg (fun b hb hr=>h.pg s x b hr hb)
 ·rw [f2]
  by_cases e:x=s
  ·rw [e,upd9_same];exact Off.moved (h.pg s y) (lg y) hm
  ·rw [upd9_ne _ _ e];exact h.pg x y
 ·by_cases e:x=s
  ·rw [e,upd9_same,upd9_ne _ _ (fun q=>hxy (e.trans q.symm))]
   exact Off.moved (h.pp s y (fun q=>hxy (e.trans q))) (lp y) hm
  ·rw [upd9_ne _ _ e]
   by_cases e':y=s
   ·rw [e',upd9_same];exact (Off.moved (h.pp s x (fun q=>e q.symm)) (lp x) hm).symm
   ·rw [upd9_ne _ _ e'];exact h.pp x y hxy
 ·rw [f2,f2];exact h.gg x y hxy
theorem NmS.addG (h:NmS W base F pl gl) (s:ByteArray) {v':Value} {l':List Gf} (hG:Grow rdGf 4 (fun _=>True) w' base 124 v' l') (hg:W.grownBy w' (F s).2.ownBlock) (hm:Moved W (F s).2 v'):NmS w' base (upd9 F s ((F s).1,v')) pl (upd9 gl s l'):=by
 have lp:∀x b,(F x).1.ownBlock=some b→b < W.heap.size:=fun x b hb=>((h.p x).lt b hb).2
 have lg:∀x b,(F x).2.ownBlock=some b→b < W.heap.size:=fun x b hb=>((h.g x).lt b hb).2
 have f1:∀x,(upd9 F s ((F s).1,v') x).1=(F x).1:=fun x=>by
  by_cases e:x=s
  ·rw [e,upd9_same]
  ·rw [upd9_ne _ _ e]
 refine ⟨fun x=>?_,fun x=>?_,fun x y=>?_,fun x y hxy=>?_,fun x y hxy=>?_⟩
 ·rw [f1]
  exact (h.p x).flatKept (fun _ _ _ _ _ _ h=>h) hg (fun b hb hr=>h.pg x s b hb hr)
 ·by_cases e:x=s
  ·rw [e,upd9_same,upd9_same];exact hG
  ·rw [upd9_ne _ _ e,upd9_ne _ _ e]
   exact (h.g x).flatKept (fun _ _ _ _ _ _ h=>h) hg (fun b hb hr=>h.gg x s e b hb hr)
 ·rw [f1]
  by_cases e:y=s
  ·rw [e,upd9_same];exact (Off.moved (h.pg x s).symm (lp x) hm).symm
  ·rw [upd9_ne _ _ e];exact h.pg x y
 ·rw [f1,f1];exact h.pp x y hxy
 ·by_cases e:x=s
  ·rw [e,upd9_same,upd9_ne _ _ (fun q=>hxy (e.trans q.symm))]
   exact Off.moved (h.gg s y (fun q=>hxy (e.trans q))) (lg y) hm
  ·rw [upd9_ne _ _ e]
   by_cases e':y=s
   ·rw [e',upd9_same];exact (Off.moved (h.gg s x (fun q=>e q.symm)) (lg x) hm).symm
   ·rw [upd9_ne _ _ e'];exact h.gg x y hxy
end
theorem far9 {W w':World} {row:Option Nat} {b o:Nat} {v:Value} (hg:W.grownBy w' row) (hb:b < W.heap.size) (hne:row≠some b) (h:W.cell? ⟨b,o,none⟩=some v):w'.cell? ⟨b,o,none⟩=some v:=
 (World.cell?_of_block (a:=⟨b,o,none⟩) (hg.block b hb (fun e=>hne e.symm))).trans h
theorem frz9 {W w':World} {row:Option Nat} {b o:Nat} (hg:W.grownBy w' row) (hb:b < W.heap.size) (hne:row≠some b) (h:W.frozen? ⟨b,o,none⟩=false):w'.frozen? ⟨b,o,none⟩=false:=
 (World.frozen?_of_block (a:=⟨b,o,none⟩) (hg.block b hb (fun e=>hne e.symm))).trans h
theorem gift_info:(Tryz.prog.info? 124).map (fun i=>(i.zero,i.size,i.bytes))=some (some (.agg #[.int .i64 0,.string { data:=#[] },.int .i64 0,.string { data:=#[] }]),4,48):=by kernel_rfl
theorem zeroNm9 (w:World):(zeroValue 121).run Tryz.prog w=.ok (.agg #[.slice none 0 0,.slice none 0 0]) w:=by kernel_rfl
theorem lawStr9:Maps.Keyed Tryz.prog 9:=Maps.string_keyed Tryz.underlying9
def Gap9 (lo hi:Nat) (F:ByteArray→Value × Value):Prop:=∀s b,(F s).1.ownBlock=some b∨(F s).2.ownBlock=some b→b < lo∨hi≤b
section
variable {W w' wr W2 w4 w6:World} {base lo hi:Nat} {F:ByteArray→Value × Value} {pl:ByteArray→List Int} {gl:ByteArray→List Gf}
theorem NmS.gap (h:NmS W base F pl gl) (hi:Nat):Gap9 W.heap.size hi F:=fun s b hb=>by
 rcases hb with hb|hb
 ·exact .inl ((h.p s).lt b hb).2
 ·exact .inl ((h.g s).lt b hb).2
theorem Gap9.addP (h:Gap9 lo hi F) {s:ByteArray} {v':Value} (hm:Moved W (F s).1 v') (hW:hi≤W.heap.size):Gap9 lo hi (upd9 F s (v',(F s).2)):=fun x b hb=>by
 by_cases e:x=s
 ·subst e
  rw [upd9_same] at hb
  rcases hb with hb|hb
  ·rcases hm with q|⟨d,q,hd⟩
   ·exact h x b (.inl (q ▸ hb))
   ·have hb:v'.ownBlock=some b:=hb
    rw [q] at hb;injection hb with hb;exact .inr (by omega)
  ·exact h x b (.inr hb)
 ·rw [upd9_ne _ _ e] at hb;exact h x b hb
theorem Gap9.addG (h:Gap9 lo hi F) {s:ByteArray} {v':Value} (hm:Moved W (F s).2 v') (hW:hi≤W.heap.size):Gap9 lo hi (upd9 F s ((F s).1,v')):=fun x b hb=>by
 by_cases e:x=s
 ·subst e
  rw [upd9_same] at hb
  rcases hb with hb|hb
  ·exact h x b (.inl hb)
  ·rcases hm with q|⟨d,q,hd⟩
   ·exact h x b (.inr (q ▸ hb))
   ·have hb:v'.ownBlock=some b:=hb
    rw [q] at hb;injection hb with hb;exact .inr (by omega)
 ·rw [upd9_ne _ _ e] at hb;exact h x b hb
theorem NmS.gapRow (h : NmS W base F pl gl) {b : Nat} (hg : W.grownBy w' (some b)) (hG : Gap9 lo hi F) (h1 : lo ≤ b) (h2 : b < hi) : NmS w' base F pl gl :=
  ⟨fun s => (h.p s).flatKept (fun _ _ _ _ _ _ h => h) hg (fun q hq e => by have := hG s q (.inl hq); injection e with e; omega),
   fun s => (h.g s).flatKept (fun _ _ _ _ _ _ h => h) hg (fun q hq e => by have := hG s q (.inr hq); injection e with e; omega), h.pg, h.pp, h.gg⟩
theorem grown_set (w:World) (a:Addr) (u:Value):w.grownBy (w.setCell a u) (some a.block):=
 ⟨rfl,rfl,rfl,by simp [World.setCell],fun k hk hne=>Below.heap_setCell w a u k (fun e=>hne (by rw [e]))⟩
theorem NmS.stepP (h:NmS wr base F pl gl) (hb2:Below wr.heap.size wr W2) (hs2:W2.heap.size=wr.heap.size+2) (s:ByteArray) {v':Value} {l':List Int} (hG:Grow rdInt 1 (fun _=>True) w4 base 3 v' l') (hg:W2.grownBy w4 (F s).1.ownBlock) (hm:Moved W2 (F s).1 v')
  {b:Nat} (hbb:b < base) {o:Nat} {u:Value} (hg6:(w4.setCell ⟨wr.heap.size+1,o,none⟩ u).grownBy w6 (some b)):NmS w6 base (upd9 F s (v',(F s).2)) (upd9 pl s l') gl:=by
 have h1:=(h.below hb2).addP s hG hg hm
 have hgap:Gap9 wr.heap.size (wr.heap.size+2) (upd9 F s (v',(F s).2)):=(h.gap _).addP hm (by omega)
 exact (h1.gapRow (grown_set w4 ⟨wr.heap.size+1,o,none⟩ u) hgap (Nat.le_succ _) (by show wr.heap.size+1 < wr.heap.size+2;omega)).row hg6 hbb
theorem NmS.stepG (h:NmS wr base F pl gl) (hb2:Below wr.heap.size wr W2) (hs2:W2.heap.size=wr.heap.size+2) (s:ByteArray) {v':Value} {l':List Gf} (hG:Grow rdGf 4 (fun _=>True) w4 base 124 v' l') (hg:W2.grownBy w4 (F s).2.ownBlock) (hm:Moved W2 (F s).2 v')
  {b:Nat} (hbb:b < base) {o:Nat} {u:Value} (hg6:(w4.setCell ⟨wr.heap.size+1,o,none⟩ u).grownBy w6 (some b)):NmS w6 base (upd9 F s ((F s).1,v')) pl (upd9 gl s l'):=by
 have h1:=(h.below hb2).addG s hG hg hm
 have hgap:Gap9 wr.heap.size (wr.heap.size+2) (upd9 F s ((F s).1,v')):=(h.gap _).addG hm (by omega)
 exact (h1.gapRow (grown_set w4 ⟨wr.heap.size+1,o,none⟩ u) hgap (Nat.le_succ _) (by show wr.heap.size+1 < wr.heap.size+2;omega)).row hg6 hbb
theorem step_mid {q b o:Nat} {u:Value} {row:Option Nat} (hb2:Below wr.heap.size wr W2) (hg:W2.grownBy w4 row) (hg6:(w4.setCell ⟨wr.heap.size+1,o,none⟩ u).grownBy w6 (some b)) (hq:q < wr.heap.size) (hr:row≠some q) (hqb:q≠b):w6.heap[q]?=wr.heap[q]?:=by
 have h1:=hb2.size
 have h2:=hg.size
 have e1:=hb2.block q hq
 have e2:=hg.block q (by omega) (fun e=>hr e.symm)
 have e3:=Below.heap_setCell w4 ⟨wr.heap.size+1,o,none⟩ u q (by show q≠wr.heap.size+1;omega)
 have e4:=hg6.block q (by rw [World.size_setCell];omega) (fun e=>hqb (Option.some.inj e))
 rw [e4,e3,e2,e1]
theorem step_below {w:World} {b o:Nat} {u:Value} {row:Option Nat} (hb:Below w.heap.size w wr) (hb2:Below wr.heap.size wr W2) (hg:W2.grownBy w4 row) (hr:∀q,row=some q→w.heap.size≤q) (hg6:(w4.setCell ⟨wr.heap.size+1,o,none⟩ u).grownBy w6 (some b)) (hbw:w.heap.size≤b):Below w.heap.size w w6:=by
 have h1:=hb.size
 have h2:=hb2.size
 have h3:=hg.size
 have c1:Below w.heap.size w w4:=(hb.trans (hb2.mono h1)).grown hg (by omega) hr
 have c2:Below w.heap.size w (w4.setCell ⟨wr.heap.size+1,o,none⟩ u):=c1.setCell (by show w.heap.size≤wr.heap.size+1;omega) u
 exact c2.grown hg6 (by rw [World.size_setCell];omega) (fun q hq=>by injection hq with hq;omega)
end
end Go.Proofs.YtpilmhoakopcaaaGreatDoor
