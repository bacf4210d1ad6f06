/- What the laws rest on: S5k, P6i, P6j, P6k, P8m. -/
import Derived.Test.YtboinnjncaehkaaGreatDoorQBNZA
set_option maxRecDepth 100000
set_option linter.unusedVariables false
set_option linter.unusedSimpArgs false
namespace Go.Proofs.YtboinnjncaehkaaGreatDoor
open Go.RowKit
def plX:List Fd→ByteArray→Nat→Int
 | [],_,_=>-1
 | f::r,n,i=>if f.n=n then i else plX r n (i+1)
theorem pl_at {l:List Fd} {n:ByteArray} {k:Nat} (hk:k < l.length):(l[k].n=n→plX (l.drop k) n k=k)∧(l[k].n≠n→plX (l.drop k) n k=plX (l.drop (k+1)) n (k+1)):=by
 rw [List.drop_eq_getElem_cons hk]
 exact ⟨fun h=>if_pos h,fun h=>if_neg h⟩
theorem pl_no {n:ByteArray}:∀{l:List Fd} {i:Nat},getV l n=false→plX l n i=-1∧fstV l n={ data:=#[] }∧∀v,putF n v l=l++[⟨n,v⟩]
 | [],_,_=>⟨rfl,rfl,fun _=>rfl⟩
 | f::r,i,h=>by
  rw [getV_cons,Bool.or_eq_false_iff,decide_eq_false_iff_not] at h
  obtain ⟨a,b,c⟩:=pl_no (i:=i+1) h.2
  exact ⟨(if_neg h.1).trans a,(if_neg h.1).trans b,fun v=>(if_neg h.1).trans (by rw [c];rfl)⟩
theorem pl_yes {n:ByteArray}:∀{l:List Fd} {i:Nat},getV l n=true→∃k,∃hk:k < l.length,plX l n i=((i+k:Nat):Int)∧l[k].n=n∧fstV l n=l[k].v∧∀v,putF n v l=l.set k ⟨l[k].n,v⟩
 | [],_,h=>by simp [getV] at h
 | f::r,i,h=>by
  by_cases hf:f.n=n
  ·exact ⟨0,by simp,if_pos hf,hf,if_pos hf,fun v=>if_pos hf⟩
  ·rw [getV_cons,decide_eq_false hf,Bool.false_or] at h
   obtain ⟨k,hk,a,b,c,d⟩:=pl_yes (i:=i+1) h
   exact ⟨k+1,by simp only [List.length_cons];omega,(if_neg hf).trans (by rw [a];congr 1;omega),b,(if_neg hf).trans c,fun v=>(if_neg hf).trans (by rw [d];rfl)⟩
set_option maxHeartbeats 1000000 in
theorem place1_any (f:Fd) (nm:ByteArray) (q:Addr) (w:World) (hq:q.block < w.heap.size) (hc:w.cell? q=some (.string nm)) :
  Calls Tryz.prog 140 #[f.val,.pointer (some q)] w fun e w'=>e=.returned (.bool (decide (f.n=nm)))∧Below w.heap.size w w':=by
 have B1:=(Below.refl w.heap.size w).alloc (Nat.le_refl _) (.cells #[.string f.n,.string f.v] 78)
 have hc1:=((B1.cell hq).trans hc)
 have HB:=Lib.hid B1
 have he:=str_eq f.n nm
 generalize decide (f.n=nm)=d at *
 clear B1 hc
 unfold Fd.val
 go_enter Tryz.func140,Tryz.ntmps140
 go_wp2
 go_ret
 exact ⟨rfl,HB.out⟩
set_option maxHeartbeats 2000000 in
theorem ixFd_any (A:Option Addr) (n c:Nat) (l:List Fd) (nm:ByteArray) (q:Addr) (w:World) (h:rdFds w (lt_ w.heap.size) l [.slice A n c]) (hq:q.block < w.heap.size) (hc:w.cell? q=some (.string nm)) :
  Calls Tryz.prog 139 #[.slice A n c,.func (.func 140) #[] #[.pointer (some q)]] w fun e w'=>e=.returned (.int .i64 (plX l nm 0))∧Below w.heap.size w w':=by
 have hcf:∀(args:Array Value) (w:World),(callFunc 140 args).run Tryz.prog w=.ok (.enter 140 args) w:=fun _ _=>by kernel_rfl
 obtain ⟨rfl,hnc,hcm,_⟩:=rdFds_at h
 have hcm':c≤9223372036854775807:=hcm
 have H:=Lib.hid h
 have HQ:=Lib.hid hq
 have HC:=Lib.hid hc
 clear h hcm hc hq
 go_enter Tryz.func139,Tryz.ntmps139
 go_wp2
 go_loopw [8] (fun i wr=>∃k:Nat,k≤l.length∧i=.int .i64 k∧plX l nm 0=plX (l.drop k) nm k∧Below w.heap.size w wr) (fun i _=>l.length - (intOf i).toNat)
 case atStart=>exact ⟨0,Nat.zero_le _,rfl,rfl,Below.refl _ _⟩
 case round=>
  obtain ⟨k,hk,rfl,h1,hbel⟩:=hrel
  have H1:=Lib.hid h1
  have HB:=Lib.hid hbel
  clear h1
  by_cases hlt:k < l.length
  ·obtain ⟨_,_,_,ha⟩:=rdFds_at (rdFds_good.below H.out hbel)
   obtain ⟨ad,rfl,had,c0,c1⟩:=ha k hlt
   have hqr:q.block < wr.heap.size:=Nat.lt_of_lt_of_le HQ.out hbel.size
   have CL:=Lib.hid (place1_any l[k] nm q wr hqr ((hbel.cell HQ.out).trans HC.out))
   have PA:=Lib.hid (pl_at (l:=l) (n:=nm) hlt)
   clear ha hbel hqr
   have SZ:=Lib.hid HB.out.size
   by_cases he:l[k].n=nm
   ·have X:=Lib.hid (PA.out.1 he)
    have DT:=Lib.hid (decide_eq_true he)
    clear he
    go_wp2_with fail
    refine CL.out.mono ?_
    rw [DT.out]
    rintro e w' ⟨rfl,hb2⟩
    have HB2:=Lib.hid hb2
    clear hb2
    go_wp2
    go_ret
    exact ⟨by rw [H1.out,X.out];try rfl,HB.out.trans (HB2.out.mono SZ.out)⟩
   ·have X:=Lib.hid (PA.out.2 he)
    have DT:=Lib.hid (decide_eq_false he)
    clear he
    go_wp2_with fail
    refine CL.out.mono ?_
    rw [DT.out]
    rintro e w' ⟨rfl,hb2⟩
    have HB2:=Lib.hid hb2
    clear hb2
    go_wp2
    go_roundw
    case rel=>exact ⟨k+1,by omega,by go_num,by rw [H1.out,X.out],HB.out.trans (HB2.out.mono SZ.out)⟩
    case measure=>simp [intOf];omega
  ·have X:=Lib.hid (show plX l nm 0=-1 by rw [H1.out,List.drop_eq_nil_of_le (by omega)];rfl)
   go_wp2
   go_ret
   exact ⟨by rw [X.out];try rfl,HB.out⟩
set_option maxHeartbeats 2000000 in
theorem place_any (A:Option Addr) (n c:Nat) (l:List Fd) (nm:ByteArray) (w:World) (h:rdFds w (lt_ w.heap.size) l [.slice A n c]) :
  Calls Tryz.prog 83 #[.slice A n c,.string nm] w fun e w'=>e=.returned (.int .i64 (plX l nm 0))∧Below w.heap.size w w':=by
 have B1:=(Below.refl w.heap.size w).alloc (Nat.le_refl _) (.cells #[.string nm] 9)
 have hq:(⟨w.heap.size,0,none⟩:Addr).block < (w.alloc (.cells #[.string nm] 9)).heap.size:=by rw [World.size_alloc];exact Nat.lt_succ_self _
 have hc:(w.alloc (.cells #[.string nm] 9)).cell? ⟨w.heap.size,0,none⟩=some (.string nm):=by simp [go_sem]
 have C:=Lib.hid (ixFd_any A n c l nm ⟨w.heap.size,0,none⟩ (w.alloc (.cells #[.string nm] 9)) (rdFds_good.more (rdFds_good.below h B1) fun b hb=>Nat.lt_of_lt_of_le hb B1.size) hq hc)
 have HB:=Lib.hid B1
 have hmf:∀(fn:Fn) (first cap:Array Value) (w:World),(Instr.makeFunc fn first cap).run Tryz.prog w=.ok (.func fn first cap) w:=fun _ _ _ _=>rfl
 clear h B1 hq hc
 go_enter Tryz.func83,Tryz.ntmps83
 go_wp2_with (go_at_call 139;(with_reducible refine C.out.mono ?_);rintro e w' ⟨rfl,hb2⟩)
 have HB2:=Lib.hid hb2
 clear hb2
 go_wp2
 go_ret
 exact ⟨rfl,HB.out.trans (HB2.out.mono HB.out.size)⟩
set_option maxHeartbeats 2000000 in
theorem get5_any (A:Option Addr) (n c:Nat) (l:List Fd) (nm:ByteArray) (w:World) (h:rdFds w (lt_ w.heap.size) l [.slice A n c]) :
  Calls Tryz.prog 100 #[.slice A n c,.string nm] w fun e w'=>e=.returned (.tuple #[.string (fstV l nm),.bool (getV l nm)])∧Below w.heap.size w w':=by
 obtain ⟨rfl,hnc,hcm,_⟩:=rdFds_at h
 have hcm':c≤9223372036854775807:=hcm
 have C:=Lib.hid (place_any A l.length c l nm w h)
 have H:=Lib.hid h
 clear h hcm
 cases hg:getV l nm
 ·obtain ⟨e1,e2,_⟩:=pl_no (i:=0) hg
  rw [e1] at C
  rw [e2]
  clear e1 e2 hg
  go_enter Tryz.func100,Tryz.ntmps100
  go_wp2_with (go_at_call 83;(with_reducible refine C.out.mono ?_);rintro e w' ⟨rfl,hb2⟩)
  go_ret2
  exact ⟨rfl,hb2⟩
 ·obtain ⟨k,hk,e1,_,e2,_⟩:=pl_yes (i:=0) hg
  rw [Nat.zero_add] at e1
  rw [e1] at C
  rw [e2]
  clear e1 e2 hg
  have t0:¬((k:Int) < 0):=by omega
  go_enter Tryz.func100,Tryz.ntmps100
  go_wp2_with (go_at_call 83;(with_reducible refine C.out.mono ?_);rintro e w' ⟨rfl,hb2⟩)
  obtain ⟨_,_,_,ha⟩:=rdFds_at (rdFds_good.below H.out hb2)
  obtain ⟨ad,rfl,had,c0,c1⟩:=ha k hk
  have HB2:=Lib.hid hb2
  clear hb2 ha
  go_wp2
  go_ret2
  exact ⟨rfl,HB2.out⟩
def EntC (W:World) (S:Nat→Prop) (x:Ent) (cv:Nat→Value):Prop:=cv 0=.string x.n∧cv 1=.string x.v∧rdGrps W S x.d [cv 2]∧rdGrps W S x.r [cv 3]∧rdAtms W S x.c [cv 4]∧rdAtms W S x.p [cv 5]
theorem EntC.both {W W':World} {S S':Nat→Prop} {x:Ent} {cv:Nat→Value} (h:EntC W S x cv) (hk:∀b,S b→W'.heap[b]?=W.heap[b]?) (hm:∀b,S b→S' b):EntC W' S' x cv:=
 ⟨h.1,h.2.1,rdGrps_good.both h.2.2.1 hk hm,rdGrps_good.both h.2.2.2.1 hk hm,rdAtms_good.both h.2.2.2.2.1 hk hm,rdAtms_good.both h.2.2.2.2.2 hk hm⟩
def upd (cv:Nat→Value) (k:Nat) (v:Value):Nat→Value:=fun o=>if o=k then v else cv o
def zv:Nat→Value
 | 0=>.string { data:=#[] }
 | 1=>.string { data:=#[] }
 | _=>.slice none 0 0
def inS (N eb fb rb:Nat) (W:World):Nat→Prop:=fun b=>N≤b∧b < W.heap.size∧b≠eb∧b≠fb∧b≠rb
structure RdS (w0:World) (sb rb eb fb:Nat) (sv:Value) (W:World) (s:Int × Ent) (cv:Nat→Value):Prop where
 ord:w0.heap.size≤sb∧sb < rb∧rb < eb∧eb < fb∧fb < W.heap.size
 bel:Below w0.heap.size w0 W
 cs:W.cell? ⟨sb,0,none⟩=some sv
 cf:W.cell? ⟨fb,0,none⟩=some (.int .i64 s.1)
 ff:W.frozen? ⟨fb,0,none⟩=false
 ce:∀o,o < 6→W.cell? ⟨eb,o,none⟩=some (cv o)
 fe:∀o,o < 6→W.frozen? ⟨eb,o,none⟩=false
 cr:∀o,o < 6→W.cell? ⟨rb,o,none⟩=some (zv o)
 fr:∀o,o < 6→W.frozen? ⟨rb,o,none⟩=false
 rd:EntC W (inS w0.heap.size eb fb rb W) s.2 cv
section
variable {w0 W:World} {sb rb eb fb:Nat} {sv:Value} {s:Int × Ent} {cv:Nat→Value}
theorem RdS.on (R:RdS w0 sb rb eb fb sv W s cv) {W':World} (hb:Below W.heap.size W W'):RdS w0 sb rb eb fb sv W' s cv:=by
 obtain ⟨⟨o1,o2,o3,o4,o5⟩,bel,cs,cf,ff,ce,fe,cr,fr,rd⟩:=R
 exact ⟨⟨o1,o2,o3,o4,Nat.lt_of_lt_of_le o5 hb.size⟩,bel.trans (hb.mono bel.size),keep6 hb cs,keep6 hb cf,(hb.frozen (p:=⟨fb,0,none⟩) (show fb < W.heap.size from o5)).trans ff,fun o ho=>keep6 hb (ce o ho),
  fun o ho=>(hb.frozen (p:=⟨eb,o,none⟩) (show eb < W.heap.size by omega)).trans (fe o ho),fun o ho=>keep6 hb (cr o ho),fun o ho=>(hb.frozen (p:=⟨rb,o,none⟩) (show rb < W.heap.size by omega)).trans (fr o ho),
  rd.both (fun b h=>hb.block b h.2.1) fun b h=>⟨h.1,Nat.lt_of_lt_of_le h.2.1 hb.size,h.2.2⟩⟩
theorem RdS.setF (R:RdS w0 sb rb eb fb sv W s cv) (er:Int):RdS w0 sb rb eb fb sv (W.setCell ⟨fb,0,none⟩ (.int .i64 er)) (er,s.2) cv:=by
 obtain ⟨⟨o1,o2,o3,o4,o5⟩,bel,cs,cf,ff,ce,fe,cr,fr,rd⟩:=R
 refine ⟨⟨o1,o2,o3,o4,by rw [World.size_setCell];exact o5⟩,bel.setCell (by show w0.heap.size≤fb;omega) _,set_ne cs (blk_ne (by omega)),World.cell?_setCell_same _ _ _ cf,by rw [World.frozen?_setCell];exact ff,
  fun o ho=>set_ne (ce o ho) (blk_ne (by omega)),fun o ho=>by rw [World.frozen?_setCell];exact fe o ho,fun o ho=>set_ne (cr o ho) (blk_ne (by omega)),fun o ho=>by rw [World.frozen?_setCell];exact fr o ho,
  rd.both (fun b h=>heap_setCell_other _ _ _ _ h.2.2.2.1) fun b h=>⟨h.1,by rw [World.size_setCell];exact h.2.1,h.2.2⟩⟩
theorem RdS.setE (R:RdS w0 sb rb eb fb sv W s cv) {k:Nat} (hk:k < 6) (v:Value) (x:Ent) (hx:EntC W (inS w0.heap.size eb fb rb W) x (upd cv k v)):RdS w0 sb rb eb fb sv (W.setCell ⟨eb,k,none⟩ v) (s.1,x) (upd cv k v):=by
 obtain ⟨⟨o1,o2,o3,o4,o5⟩,bel,cs,cf,ff,ce,fe,cr,fr,rd⟩:=R
 refine ⟨⟨o1,o2,o3,o4,by rw [World.size_setCell];exact o5⟩,bel.setCell (by show w0.heap.size≤eb;omega) _,set_ne cs (blk_ne (by omega)),set_ne cf (blk_ne (by omega)),by rw [World.frozen?_setCell];exact ff,
  fun o ho=>?_,fun o ho=>by rw [World.frozen?_setCell];exact fe o ho,fun o ho=>set_ne (cr o ho) (blk_ne (by omega)),fun o ho=>by rw [World.frozen?_setCell];exact fr o ho,
  hx.both (fun b h=>heap_setCell_other _ _ _ _ h.2.2.1) fun b h=>⟨h.1,by rw [World.size_setCell];exact h.2.1,h.2.2⟩⟩
 unfold upd
 by_cases h:o=k
 ·subst h;rw [if_pos rfl];exact World.cell?_setCell_same _ _ _ (ce o ho)
 ·rw [if_neg h];exact set_ne (ce o ho) (fun e=>h (congrArg Addr.off e).symm)
end
set_option maxHeartbeats 2000000 in
theorem read1_skip (nm:ByteArray) (take sp:Value) (fb:Nat) (er:Int) (h:er≠0) (w:World) (hc:w.cell? ⟨fb,0,none⟩=some (.int .i64 er)) :
  Calls Tryz.prog 101 #[.string nm,take,.pointer (some ⟨fb,0,none⟩),sp] w fun e w'=>e=.returned (.tuple #[])∧w=w':=by
 have t0:(er==0)=false:=by rw [beq_eq_false_iff_ne];exact h
 clear h
 go_enter Tryz.func101,Tryz.ntmps101
 go_wp2
 go_end0
 exact ⟨rfl,rfl⟩
set_option maxHeartbeats 4000000 in
theorem read1_go (nm:ByteArray) (g:Nat) (hcf:∀(args:Array Value) (w:World),(callFunc g args).run Tryz.prog w=.ok (.enter g args) w) (pb tb fb sb:Nat) (A:Option Addr) (n c:Nat) (st:List Fd) (er:Int) (R:World→Prop) (w:World)
  (hc:w.cell? ⟨fb,0,none⟩=some (.int .i64 0)) (hs:w.cell? ⟨sb,0,none⟩=some (.slice A n c)) (hr:rdFds w (lt_ w.heap.size) st [.slice A n c])
  (hKT:∀W:World,Below w.heap.size w W→Calls Tryz.prog g #[.string (fstV st nm),.pointer (some ⟨pb,0,none⟩),.pointer (some ⟨tb,0,none⟩)] W fun e W'=>e=.returned (.int .i64 er)∧R W')
  (hR:∀W':World,R W'→W'.cell? ⟨fb,0,none⟩=some (.int .i64 0)∧W'.frozen? ⟨fb,0,none⟩=false) :
  Calls Tryz.prog 101 #[.string nm,.func (.func g) #[] #[.pointer (some ⟨pb,0,none⟩),.pointer (some ⟨tb,0,none⟩)],.pointer (some ⟨fb,0,none⟩),.pointer (some ⟨sb,0,none⟩)] w fun e w'=>e=.returned (.tuple #[])∧∃w1,R w1∧w'=w1.setCell ⟨fb,0,none⟩ (.int .i64 er):=by
 have KG:=Lib.hid (get5_any A n c st nm w hr)
 have KT:=Lib.hid hKT
 have HR:=Lib.hid hR
 generalize fstV st nm=val at *
 clear hr hKT hR
 go_enter Tryz.func101,Tryz.ntmps101
 go_wp2_with fail
 refine KG.out.mono ?_
 rintro e w1 ⟨rfl,hb⟩
 have HB:=Lib.hid hb
 clear hb
 go_wp2_with fail
 refine (KT.out _ HB.out).mono ?_
 rintro e w2 ⟨rfl,hr⟩
 obtain ⟨f0,f1⟩:=HR.out _ hr
 have HRR:=Lib.hid hr
 clear hr hc hs
 go_wp2
 go_end0
 exact ⟨rfl,w2,HRR.out,rfl⟩
def stp (s:Int × Ent) (e:Int) (x:Ent):Int × Ent:=if s.1=0 then (e,x) else s
theorem step6 {w0 W:World} {sb rb eb fb:Nat} {s:Int × Ent} {cv:Nat→Value} {A:Option Addr} {n c:Nat} {st:List Fd} (R:RdS w0 sb rb eb fb (.slice A n c) W s cv) (hst:rdFds w0 (lt_ w0.heap.size) st [.slice A n c]) {k:Nat} (hk:k < 6) (nm:ByteArray) (g:Nat)
  (hcf:∀(args:Array Value) (w:World),(callFunc g args).run Tryz.prog w=.ok (.enter g args) w) (o1 o2:Obj) (x:Ent) (er:Int)
  (hKT:∀V:World,Below ((W.alloc o1).alloc o2).heap.size ((W.alloc o1).alloc o2) V→Calls Tryz.prog g #[.string (fstV st nm),.pointer (some ⟨W.heap.size+1,0,none⟩),.pointer (some ⟨W.heap.size,0,none⟩)] V fun e W'=>e=.returned (.int .i64 er)∧∃v w1,Below V.heap.size V w1∧EntC w1 (inS w0.heap.size eb fb rb w1) x (upd cv k v)∧W'=w1.setCell ⟨eb,k,none⟩ v) :
  Calls Tryz.prog 101 #[.string nm,.func (.func g) #[] #[.pointer (some ⟨W.heap.size+1,0,none⟩),.pointer (some ⟨W.heap.size,0,none⟩)],.pointer (some ⟨fb,0,none⟩),.pointer (some ⟨sb,0,none⟩)] ((W.alloc o1).alloc o2) fun e W'=>e=.returned (.tuple #[])∧∃cv',RdS w0 sb rb eb fb (.slice A n c) W' (stp s er x) cv':=by
 have hb2:Below W.heap.size W ((W.alloc o1).alloc o2):=((Below.refl _ W).alloc (Nat.le_refl _) _).alloc (by simp) _
 have R2:=R.on hb2
 by_cases h0:s.1=0
 ·refine (read1_go nm g hcf _ _ fb sb A n c st er (fun W'=>∃cv',RdS w0 sb rb eb fb (.slice A n c) W' (s.1,x) cv') ((W.alloc o1).alloc o2) (by rw [←h0];exact R2.cf) R2.cs (rdFds_good.up (rdFds_good.below hst R2.bel) R2.bel.size)
   (fun V hV=>(hKT V hV).mono fun e W' ⟨h1,v,w1,hb,hx,e2⟩=>⟨h1,⟨upd cv k v,by rw [e2];exact ((R2.on hV).on hb).setE hk v x hx⟩⟩)
   (fun W' h=>?_)).mono ?_
  ·obtain ⟨cv',h⟩:=h
   exact ⟨by rw [←h0];exact h.cf,h.ff⟩
  ·rintro e W' ⟨h1,w1,h,h2⟩
   have hs:stp s er x=(er,x):=if_pos h0
   refine ⟨h1,?_⟩
   rw [hs,h2]
   obtain ⟨cv',h⟩:=h
   exact ⟨_,h.setF er⟩
 ·refine (read1_skip nm _ _ fb s.1 h0 _ R2.cf).mono ?_
  rintro e W' ⟨h1,rfl⟩
  have hs:stp s er x=s:=if_neg h0
  exact ⟨h1,cv,by rw [hs];exact R2⟩
def fN (st:List Fd) (s:Int × Ent):Int × Ent:=stp s (if nameB (B (fstV st nPk))=true then 0 else 3) { s.2 with n:=if nameB (B (fstV st nPk))=true then fstV st nPk else { data:=#[] } }
def fV (st:List Fd) (s:Int × Ent):Int × Ent:=stp s (if prB (B (fstV st nVe))=true then 0 else 4) { s.2 with v:=if prB (B (fstV st nVe))=true then fstV st nVe else { data:=#[] } }
def fD (st:List Fd) (s:Int × Ent):Int × Ent:=stp s (depE (B (fstV st nDe))) { s.2 with d:=depL (B (fstV st nDe)) }
def fR (st:List Fd) (s:Int × Ent):Int × Ent:=stp s (depE (B (fstV st nRe))) { s.2 with r:=depL (B (fstV st nRe)) }
def fC (st:List Fd) (s:Int × Ent):Int × Ent:=stp s (atE (B (fstV st nCo))) { s.2 with c:=atL (B (fstV st nCo)) }
def fP (st:List Fd) (s:Int × Ent):Int × Ent:=stp s (pvE (B (fstV st nPr))) { s.2 with p:=pvL (B (fstV st nPr)) }
def rdS (st:List Fd):Int × Ent:=fP st (fC st (fR st (fD st (fV st (fN st (0,emp))))))
def rdP (st:List Fd):Int × Ent:=if getV st nPk=false∨getV st nVe=false then (6,emp) else if (rdS st).1=0 then rdS st else ((rdS st).1,emp)
section
variable {w0 W:World} {sb rb eb fb:Nat} {s:Int × Ent} {cv:Nat→Value} {A:Option Addr} {n c:Nat} {st:List Fd}
theorem stN_any (R:RdS w0 sb rb eb fb (.slice A n c) W s cv) (hst:rdFds w0 (lt_ w0.heap.size) st [.slice A n c]) (E:EnvR w0) :
  Calls Tryz.prog 101 #[.string { data:=#[80,97,99,107,97,103,101] },.func (.func 163) #[] #[.pointer (some ⟨W.heap.size+1,0,none⟩),.pointer (some ⟨W.heap.size,0,none⟩)],.pointer (some ⟨fb,0,none⟩),.pointer (some ⟨sb,0,none⟩)]
   ((W.alloc (.cells #[.pointer (some ⟨eb,0,none⟩)] 130)).alloc (.cells #[.func (.func 103) #[] #[]] 131)) fun e W'=>e=.returned (.tuple #[])∧∃cv',RdS w0 sb rb eb fb (.slice A n c) W' (fN st s) cv':=
 step6 R hst (k:=0) (by decide) nPk 163 (fun _ _=>by kernel_rfl) _ _ { s.2 with n:=(if nameB (B (fstV st nPk))=true then fstV st nPk else { data:=#[] }) } (if nameB (B (fstV st nPk))=true then 0 else 3) fun V hV=>by
  have hb2:Below W.heap.size W ((W.alloc (.cells #[.pointer (some ⟨eb,0,none⟩)] 130)).alloc (.cells #[.func (.func 103) #[] #[]] 131)):=((Below.refl _ W).alloc (Nat.le_refl _) _).alloc (by simp) _
  have RV:=(R.on hb2).on hV
  obtain ⟨o1,o2,o3,o4,o5⟩:=R.ord
  refine (into1S_any 103 (fun _ _=>by kernel_rfl) (fstV st nPk) (if nameB (B (fstV st nPk))=true then fstV st nPk else { data:=#[] }) (if nameB (B (fstV st nPk))=true then 0 else 3) (W.heap.size+1) W.heap.size eb 0 (cv 0) V (keep6 hV (by simp [go_sem])) (keep6 hV (by simp [go_sem])) (RV.fe 0 (by decide)) (RV.ce 0 (by decide)) (by omega) (by omega)
   (fun V' hV'=>pname_any _ V')).mono ?_
  rintro e W' ⟨h1,w1,hb,e2⟩
  have h:=(RV.on hb).rd
  exact ⟨h1,_,w1,hb,⟨rfl,h.2.1,h.2.2.1,h.2.2.2.1,h.2.2.2.2.1,h.2.2.2.2.2⟩,e2⟩
theorem stV_any (R:RdS w0 sb rb eb fb (.slice A n c) W s cv) (hst:rdFds w0 (lt_ w0.heap.size) st [.slice A n c]) (E:EnvR w0) :
  Calls Tryz.prog 101 #[.string { data:=#[86,101,114,115,105,111,110] },.func (.func 163) #[] #[.pointer (some ⟨W.heap.size+1,0,none⟩),.pointer (some ⟨W.heap.size,0,none⟩)],.pointer (some ⟨fb,0,none⟩),.pointer (some ⟨sb,0,none⟩)]
   ((W.alloc (.cells #[.pointer (some ⟨eb,1,none⟩)] 130)).alloc (.cells #[.func (.func 104) #[] #[]] 131)) fun e W'=>e=.returned (.tuple #[])∧∃cv',RdS w0 sb rb eb fb (.slice A n c) W' (fV st s) cv':=
 step6 R hst (k:=1) (by decide) nVe 163 (fun _ _=>by kernel_rfl) _ _ { s.2 with v:=(if prB (B (fstV st nVe))=true then fstV st nVe else { data:=#[] }) } (if prB (B (fstV st nVe))=true then 0 else 4) fun V hV=>by
  have hb2:Below W.heap.size W ((W.alloc (.cells #[.pointer (some ⟨eb,1,none⟩)] 130)).alloc (.cells #[.func (.func 104) #[] #[]] 131)):=((Below.refl _ W).alloc (Nat.le_refl _) _).alloc (by simp) _
  have RV:=(R.on hb2).on hV
  obtain ⟨o1,o2,o3,o4,o5⟩:=R.ord
  refine (into1S_any 104 (fun _ _=>by kernel_rfl) (fstV st nVe) (if prB (B (fstV st nVe))=true then fstV st nVe else { data:=#[] }) (if prB (B (fstV st nVe))=true then 0 else 4) (W.heap.size+1) W.heap.size eb 1 (cv 1) V (keep6 hV (by simp [go_sem])) (keep6 hV (by simp [go_sem])) (RV.fe 1 (by decide)) (RV.ce 1 (by decide)) (by omega) (by omega)
   (fun V' hV'=>pver_any _ V' (E.below (RV.bel.trans (hV'.mono RV.bel.size))).env)).mono ?_
  rintro e W' ⟨h1,w1,hb,e2⟩
  have h:=(RV.on hb).rd
  exact ⟨h1,_,w1,hb,⟨h.1,rfl,h.2.2.1,h.2.2.2.1,h.2.2.2.2.1,h.2.2.2.2.2⟩,e2⟩
theorem stD_any (R:RdS w0 sb rb eb fb (.slice A n c) W s cv) (hst:rdFds w0 (lt_ w0.heap.size) st [.slice A n c]) (E:EnvR w0) (hz:(fstV st nDe).size≤65536) :
  Calls Tryz.prog 101 #[.string { data:=#[68,101,112,101,110,100,115] },.func (.func 164) #[] #[.pointer (some ⟨W.heap.size+1,0,none⟩),.pointer (some ⟨W.heap.size,0,none⟩)],.pointer (some ⟨fb,0,none⟩),.pointer (some ⟨sb,0,none⟩)]
   ((W.alloc (.cells #[.pointer (some ⟨eb,2,none⟩)] 133)).alloc (.cells #[.func (.func 106) #[] #[]] 105)) fun e W'=>e=.returned (.tuple #[])∧∃cv',RdS w0 sb rb eb fb (.slice A n c) W' (fD st s) cv':=
 step6 R hst (k:=2) (by decide) nDe 164 (fun _ _=>by kernel_rfl) _ _ { s.2 with d:=depL (B (fstV st nDe)) } (depE (B (fstV st nDe))) fun V hV=>by
  have hb2:Below W.heap.size W ((W.alloc (.cells #[.pointer (some ⟨eb,2,none⟩)] 133)).alloc (.cells #[.func (.func 106) #[] #[]] 105)):=((Below.refl _ W).alloc (Nat.le_refl _) _).alloc (by simp) _
  have RV:=(R.on hb2).on hV
  obtain ⟨o1,o2,o3,o4,o5⟩:=R.ord
  have o6:=Nat.le_trans hb2.size hV.size
  refine (into1G_any 106 (fun _ _=>by kernel_rfl) (fstV st nDe) (depE (B (fstV st nDe))) (fun v W'=>rdGrps W' (fun b=>V.heap.size≤b∧b < W'.heap.size) (depL (B (fstV st nDe))) [v]) (W.heap.size+1) W.heap.size eb 2 (cv 2) V (keep6 hV (by simp [go_sem])) (keep6 hV (by simp [go_sem])) (RV.fe 2 (by decide)) (RV.ce 2 (by decide)) (by omega) (by omega)
   (fun V' hV'=>(parse4_new _ V' hz (E.below (RV.bel.trans (hV'.mono RV.bel.size)))).mono fun e W' ⟨⟨v,h1,h2⟩,h3⟩=>by
    obtain ⟨A,c,hv,_⟩:=id h2
    simp only [List.cons.injEq,and_true] at hv
    subst hv
    exact ⟨⟨A,_,c,h1,rdGrps_good.more h2 fun b hb=>⟨Nat.le_trans hV'.size hb.1,hb.2⟩⟩,h3⟩)).mono ?_
  rintro e W' ⟨h1,A,n,c,w1,hb,hp,e2⟩
  have h:=(RV.on hb).rd
  have hq:rdGrps w1 (inS w0.heap.size eb fb rb w1) (depL (B (fstV st nDe))) [.slice A n c]:=rdGrps_good.more hp fun b hb'=>⟨by omega,hb'.2,by omega,by omega,by omega⟩
  exact ⟨h1,_,w1,hb,⟨h.1,h.2.1,hq,h.2.2.2.1,h.2.2.2.2.1,h.2.2.2.2.2⟩,e2⟩
theorem stR_any (R:RdS w0 sb rb eb fb (.slice A n c) W s cv) (hst:rdFds w0 (lt_ w0.heap.size) st [.slice A n c]) (E:EnvR w0) (hz:(fstV st nRe).size≤65536) :
  Calls Tryz.prog 101 #[.string { data:=#[82,101,99,111,109,109,101,110,100,115] },.func (.func 164) #[] #[.pointer (some ⟨W.heap.size+1,0,none⟩),.pointer (some ⟨W.heap.size,0,none⟩)],.pointer (some ⟨fb,0,none⟩),.pointer (some ⟨sb,0,none⟩)]
   ((W.alloc (.cells #[.pointer (some ⟨eb,3,none⟩)] 133)).alloc (.cells #[.func (.func 106) #[] #[]] 105)) fun e W'=>e=.returned (.tuple #[])∧∃cv',RdS w0 sb rb eb fb (.slice A n c) W' (fR st s) cv':=
 step6 R hst (k:=3) (by decide) nRe 164 (fun _ _=>by kernel_rfl) _ _ { s.2 with r:=depL (B (fstV st nRe)) } (depE (B (fstV st nRe))) fun V hV=>by
  have hb2:Below W.heap.size W ((W.alloc (.cells #[.pointer (some ⟨eb,3,none⟩)] 133)).alloc (.cells #[.func (.func 106) #[] #[]] 105)):=((Below.refl _ W).alloc (Nat.le_refl _) _).alloc (by simp) _
  have RV:=(R.on hb2).on hV
  obtain ⟨o1,o2,o3,o4,o5⟩:=R.ord
  have o6:=Nat.le_trans hb2.size hV.size
  refine (into1G_any 106 (fun _ _=>by kernel_rfl) (fstV st nRe) (depE (B (fstV st nRe))) (fun v W'=>rdGrps W' (fun b=>V.heap.size≤b∧b < W'.heap.size) (depL (B (fstV st nRe))) [v]) (W.heap.size+1) W.heap.size eb 3 (cv 3) V (keep6 hV (by simp [go_sem])) (keep6 hV (by simp [go_sem])) (RV.fe 3 (by decide)) (RV.ce 3 (by decide)) (by omega) (by omega)
   (fun V' hV'=>(parse4_new _ V' hz (E.below (RV.bel.trans (hV'.mono RV.bel.size)))).mono fun e W' ⟨⟨v,h1,h2⟩,h3⟩=>by
    obtain ⟨A,c,hv,_⟩:=id h2
    simp only [List.cons.injEq,and_true] at hv
    subst hv
    exact ⟨⟨A,_,c,h1,rdGrps_good.more h2 fun b hb=>⟨Nat.le_trans hV'.size hb.1,hb.2⟩⟩,h3⟩)).mono ?_
  rintro e W' ⟨h1,A,n,c,w1,hb,hp,e2⟩
  have h:=(RV.on hb).rd
  have hq:rdGrps w1 (inS w0.heap.size eb fb rb w1) (depL (B (fstV st nRe))) [.slice A n c]:=rdGrps_good.more hp fun b hb'=>⟨by omega,hb'.2,by omega,by omega,by omega⟩
  exact ⟨h1,_,w1,hb,⟨h.1,h.2.1,h.2.2.1,hq,h.2.2.2.2.1,h.2.2.2.2.2⟩,e2⟩
theorem stC_any (R:RdS w0 sb rb eb fb (.slice A n c) W s cv) (hst:rdFds w0 (lt_ w0.heap.size) st [.slice A n c]) (E:EnvR w0) (hz:(fstV st nCo).size≤65536) :
  Calls Tryz.prog 101 #[.string { data:=#[67,111,110,102,108,105,99,116,115] },.func (.func 168) #[] #[.pointer (some ⟨W.heap.size+1,0,none⟩),.pointer (some ⟨W.heap.size,0,none⟩)],.pointer (some ⟨fb,0,none⟩),.pointer (some ⟨sb,0,none⟩)]
   ((W.alloc (.cells #[.pointer (some ⟨eb,4,none⟩)] 135)).alloc (.cells #[.func (.func 108) #[] #[]] 107)) fun e W'=>e=.returned (.tuple #[])∧∃cv',RdS w0 sb rb eb fb (.slice A n c) W' (fC st s) cv':=
 step6 R hst (k:=4) (by decide) nCo 168 (fun _ _=>by kernel_rfl) _ _ { s.2 with c:=atL (B (fstV st nCo)) } (atE (B (fstV st nCo))) fun V hV=>by
  have hb2:Below W.heap.size W ((W.alloc (.cells #[.pointer (some ⟨eb,4,none⟩)] 135)).alloc (.cells #[.func (.func 108) #[] #[]] 107)):=((Below.refl _ W).alloc (Nat.le_refl _) _).alloc (by simp) _
  have RV:=(R.on hb2).on hV
  obtain ⟨o1,o2,o3,o4,o5⟩:=R.ord
  have o6:=Nat.le_trans hb2.size hV.size
  refine (into1A_any 108 (fun _ _=>by kernel_rfl) (fstV st nCo) (atE (B (fstV st nCo))) (fun v W'=>rdAtms W' (fun b=>V.heap.size≤b∧b < W'.heap.size) (atL (B (fstV st nCo))) [v]) (W.heap.size+1) W.heap.size eb 4 (cv 4) V (keep6 hV (by simp [go_sem])) (keep6 hV (by simp [go_sem])) (RV.fe 4 (by decide)) (RV.ce 4 (by decide)) (by omega) (by omega)
   (fun V' hV'=>(atoms4_new _ V' hz (E.below (RV.bel.trans (hV'.mono RV.bel.size)))).mono fun e W' ⟨⟨v,h1,h2⟩,h3⟩=>by
    obtain ⟨A,c,hv,_⟩:=id h2
    simp only [List.cons.injEq,and_true] at hv
    subst hv
    exact ⟨⟨A,_,c,h1,rdAtms_good.more h2 fun b hb=>⟨Nat.le_trans hV'.size hb.1,hb.2⟩⟩,h3⟩)).mono ?_
  rintro e W' ⟨h1,A,n,c,w1,hb,hp,e2⟩
  have h:=(RV.on hb).rd
  have hq:rdAtms w1 (inS w0.heap.size eb fb rb w1) (atL (B (fstV st nCo))) [.slice A n c]:=rdAtms_good.more hp fun b hb'=>⟨by omega,hb'.2,by omega,by omega,by omega⟩
  exact ⟨h1,_,w1,hb,⟨h.1,h.2.1,h.2.2.1,h.2.2.2.1,hq,h.2.2.2.2.2⟩,e2⟩
theorem stP_any (R:RdS w0 sb rb eb fb (.slice A n c) W s cv) (hst:rdFds w0 (lt_ w0.heap.size) st [.slice A n c]) (E:EnvR w0) (hz:(fstV st nPr).size≤65536) :
  Calls Tryz.prog 101 #[.string { data:=#[80,114,111,118,105,100,101,115] },.func (.func 168) #[] #[.pointer (some ⟨W.heap.size+1,0,none⟩),.pointer (some ⟨W.heap.size,0,none⟩)],.pointer (some ⟨fb,0,none⟩),.pointer (some ⟨sb,0,none⟩)]
   ((W.alloc (.cells #[.pointer (some ⟨eb,5,none⟩)] 135)).alloc (.cells #[.func (.func 109) #[] #[]] 107)) fun e W'=>e=.returned (.tuple #[])∧∃cv',RdS w0 sb rb eb fb (.slice A n c) W' (fP st s) cv':=
 step6 R hst (k:=5) (by decide) nPr 168 (fun _ _=>by kernel_rfl) _ _ { s.2 with p:=pvL (B (fstV st nPr)) } (pvE (B (fstV st nPr))) fun V hV=>by
  have hb2:Below W.heap.size W ((W.alloc (.cells #[.pointer (some ⟨eb,5,none⟩)] 135)).alloc (.cells #[.func (.func 109) #[] #[]] 107)):=((Below.refl _ W).alloc (Nat.le_refl _) _).alloc (by simp) _
  have RV:=(R.on hb2).on hV
  obtain ⟨o1,o2,o3,o4,o5⟩:=R.ord
  have o6:=Nat.le_trans hb2.size hV.size
  refine (into1A_any 109 (fun _ _=>by kernel_rfl) (fstV st nPr) (pvE (B (fstV st nPr))) (fun v W'=>rdAtms W' (fun b=>V.heap.size≤b∧b < W'.heap.size) (pvL (B (fstV st nPr))) [v]) (W.heap.size+1) W.heap.size eb 5 (cv 5) V (keep6 hV (by simp [go_sem])) (keep6 hV (by simp [go_sem])) (RV.fe 5 (by decide)) (RV.ce 5 (by decide)) (by omega) (by omega)
   (fun V' hV'=>(pprov_any _ V' hz (E.below (RV.bel.trans (hV'.mono RV.bel.size)))).mono fun e W' ⟨⟨A,n,c,h1,h2⟩,h3⟩=>⟨⟨A,n,c,h1,rdAtms_good.more h2 fun b hb=>⟨Nat.le_trans hV'.size hb.1,hb.2⟩⟩,h3⟩)).mono ?_
  rintro e W' ⟨h1,A,n,c,w1,hb,hp,e2⟩
  have h:=(RV.on hb).rd
  have hq:rdAtms w1 (inS w0.heap.size eb fb rb w1) (pvL (B (fstV st nPr))) [.slice A n c]:=rdAtms_good.more hp fun b hb'=>⟨by omega,hb'.2,by omega,by omega,by omega⟩
  exact ⟨h1,_,w1,hb,⟨h.1,h.2.1,h.2.2.1,h.2.2.2.1,h.2.2.2.2.1,hq⟩,e2⟩
end
theorem fin6 {W:World} {rb N:Nat} {w:World} {a0 a1 a2 a3 a4 a5 x0 x1 x2 x3 x4 x5:Value} (hb:Below N w W) (hN:N≤rb) (h0:W.cell? ⟨rb,0,none⟩=some a0) (h1:W.cell? ⟨rb,1,none⟩=some a1) (h2:W.cell? ⟨rb,2,none⟩=some a2) (h3:W.cell? ⟨rb,3,none⟩=some a3) (h4:W.cell? ⟨rb,4,none⟩=some a4) (h5:W.cell? ⟨rb,5,none⟩=some a5) :
  ((((((W.setCell ⟨rb,0,none⟩ x0).setCell ⟨rb,1,none⟩ x1).setCell ⟨rb,2,none⟩ x2).setCell ⟨rb,3,none⟩ x3).setCell ⟨rb,4,none⟩ x4).setCell ⟨rb,5,none⟩ x5).cell? ⟨rb,0,none⟩=some x0∧((((((W.setCell ⟨rb,0,none⟩ x0).setCell ⟨rb,1,none⟩ x1).setCell ⟨rb,2,none⟩ x2).setCell ⟨rb,3,none⟩ x3).setCell ⟨rb,4,none⟩ x4).setCell ⟨rb,5,none⟩ x5).cell? ⟨rb,1,none⟩=some x1∧((((((W.setCell ⟨rb,0,none⟩ x0).setCell ⟨rb,1,none⟩ x1).setCell ⟨rb,2,none⟩ x2).setCell ⟨rb,3,none⟩ x3).setCell ⟨rb,4,none⟩ x4).setCell ⟨rb,5,none⟩ x5).cell? ⟨rb,2,none⟩=some x2∧((((((W.setCell ⟨rb,0,none⟩ x0).setCell ⟨rb,1,none⟩ x1).setCell ⟨rb,2,none⟩ x2).setCell ⟨rb,3,none⟩ x3).setCell ⟨rb,4,none⟩ x4).setCell ⟨rb,5,none⟩ x5).cell? ⟨rb,3,none⟩=some x3∧((((((W.setCell ⟨rb,0,none⟩ x0).setCell ⟨rb,1,none⟩ x1).setCell ⟨rb,2,none⟩ x2).setCell ⟨rb,3,none⟩ x3).setCell ⟨rb,4,none⟩ x4).setCell ⟨rb,5,none⟩ x5).cell? ⟨rb,4,none⟩=some x4∧((((((W.setCell ⟨rb,0,none⟩ x0).setCell ⟨rb,1,none⟩ x1).setCell ⟨rb,2,none⟩ x2).setCell ⟨rb,3,none⟩ x3).setCell ⟨rb,4,none⟩ x4).setCell ⟨rb,5,none⟩ x5).cell? ⟨rb,5,none⟩=some x5∧
   Below N w ((((((W.setCell ⟨rb,0,none⟩ x0).setCell ⟨rb,1,none⟩ x1).setCell ⟨rb,2,none⟩ x2).setCell ⟨rb,3,none⟩ x3).setCell ⟨rb,4,none⟩ x4).setCell ⟨rb,5,none⟩ x5)∧(∀b,b≠rb→((((((W.setCell ⟨rb,0,none⟩ x0).setCell ⟨rb,1,none⟩ x1).setCell ⟨rb,2,none⟩ x2).setCell ⟨rb,3,none⟩ x3).setCell ⟨rb,4,none⟩ x4).setCell ⟨rb,5,none⟩ x5).heap[b]?=W.heap[b]?)∧((((((W.setCell ⟨rb,0,none⟩ x0).setCell ⟨rb,1,none⟩ x1).setCell ⟨rb,2,none⟩ x2).setCell ⟨rb,3,none⟩ x3).setCell ⟨rb,4,none⟩ x4).setCell ⟨rb,5,none⟩ x5).heap.size=W.heap.size:=by
 refine ⟨by simp [go_sem,h0],by simp [go_sem,h1],by simp [go_sem,h2],by simp [go_sem,h3],by simp [go_sem,h4],by simp [go_sem,h5],(((((hb.setCell hN _).setCell hN _).setCell hN _).setCell hN _).setCell hN _).setCell hN _,fun b h=>?_,by simp⟩
 rw [heap_setCell_other _ _ _ _ h,heap_setCell_other _ _ _ _ h,heap_setCell_other _ _ _ _ h,heap_setCell_other _ _ _ _ h,heap_setCell_other _ _ _ _ h,heap_setCell_other _ _ _ _ h]
theorem zv_all {w:World} {rb:Nat} (h0:w.cell? ⟨rb,0,none⟩=some (.string { data:=#[] })) (h1:w.cell? ⟨rb,1,none⟩=some (.string { data:=#[] })) (h2:w.cell? ⟨rb,2,none⟩=some (.slice none 0 0)) (h3:w.cell? ⟨rb,3,none⟩=some (.slice none 0 0)) (h4:w.cell? ⟨rb,4,none⟩=some (.slice none 0 0)) (h5:w.cell? ⟨rb,5,none⟩=some (.slice none 0 0)):∀o,o < 6→w.cell? ⟨rb,o,none⟩=some (zv o)
 | 0,_=>h0
 | 1,_=>h1
 | 2,_=>h2
 | 3,_=>h3
 | 4,_=>h4
 | 5,_=>h5
 | _+6,h=>absurd h (by omega)
theorem emp_c (W:World) (S:Nat→Prop):EntC W S emp zv:=⟨rfl,rfl,rdRow_nil _ _,rdRow_nil _ _,rdRow_nil _ _,rdRow_nil _ _⟩
theorem emp_v (W:World) (S:Nat→Prop):EntV W S emp none 0 none 0 none 0 none 0:=⟨rdRow_nil _ _,rdRow_nil _ _,rdRow_nil _ _,rdRow_nil _ _⟩
def RdR6 (w:World) (s:Int × Ent) (e:Ending) (w':World):Prop:=(∃A1 c1 A2 c2 A3 c3 A4 c4,e=.returned (.tuple #[s.2.val A1 c1 A2 c2 A3 c3 A4 c4,.int .i64 s.1])∧EntV w' (fun b=>w.heap.size≤b∧b < w'.heap.size) s.2 A1 c1 A2 c2 A3 c3 A4 c4)∧Below w.heap.size w w'
theorem rdR6_none {w w':World} (er:Int) (hb:Below w.heap.size w w'):RdR6 w (er,emp) (.returned (.tuple #[.agg #[.string { data:=#[] },.string { data:=#[] },.slice none 0 0,.slice none 0 0,.slice none 0 0,.slice none 0 0],.int .i64 er])) w':=⟨⟨none,0,none,0,none,0,none,0,rfl,emp_v _ _⟩,hb⟩
set_option maxHeartbeats 16000000 in
theorem eread_any (A:Option Addr) (n c:Nat) (st:List Fd) (w:World) (h:rdFds w (lt_ w.heap.size) st [.slice A n c]) (hz:∀nm,(fstV st nm).size≤65536) (E:EnvR w) :
  Calls Tryz.prog 57 #[.slice A n c] w fun e w'=>RdR6 w (rdP st) e w':=by
 have hcf:∀(args:Array Value) (w:World),(callFunc 101 args).run Tryz.prog w=.ok (.enter 101 args) w:=fun _ _=>by kernel_rfl
 have hmf:∀(fn:Fn) (first cap:Array Value) (w:World),(Instr.makeFunc fn first cap).run Tryz.prog w=.ok (.func fn first cap) w:=fun _ _ _ _=>rfl
 have H:=Lib.hid h
 have HZ:=Lib.hid hz
 have HE:=Lib.hid E
 have KG:=Lib.hid (fun (nm:ByteArray) (W:World) (hb:Below w.heap.size w W)=>get5_any A n c st nm W (rdFds_good.up (rdFds_good.below h hb) hb.size))
 have XP:=Lib.hid (show rdP st=if getV st nPk=false∨getV st nVe=false then (6,emp) else if (rdS st).1=0 then rdS st else ((rdS st).1,emp) from rfl)
 obtain ⟨rfl,hnc,hcm,-⟩:=rdFds_at h
 have hcm':c≤9223372036854775807:=hcm
 clear h hz E hcm
 obtain ⟨W1,hW1⟩:∃W,W=((w.alloc (.cells #[.slice A st.length c] 55)).alloc (.cells #[.string { data:=#[] },.string { data:=#[] },.slice none 0 0,.slice none 0 0,.slice none 0 0,.slice none 0 0] 34)):=⟨_,rfl⟩
 have B1:=Lib.hid (show Below w.heap.size w W1 by rw [hW1];exact ((Below.refl _ w).alloc (Nat.le_refl _) _).alloc (by simp) _)
 have Q1:=Lib.hid (show W1.heap.size=w.heap.size+2 by rw [hW1,World.size_alloc,World.size_alloc])
 have P1:=Lib.hid (show W1.cell? ⟨w.heap.size,0,none⟩=some (.slice A st.length c)∧(∀o,o < 6→W1.cell? ⟨w.heap.size+1,o,none⟩=some (zv o))∧(∀o,W1.frozen? ⟨w.heap.size+1,o,none⟩=false) from by
  rw [hW1]
  exact ⟨by simp [go_sem],zv_all (by simp [go_sem]) (by simp [go_sem]) (by simp [go_sem]) (by simp [go_sem]) (by simp [go_sem]) (by simp [go_sem]),fun o=>by simp [go_sem]⟩)
 have q0:=P1.out.1
 go_enter Tryz.func57,Tryz.ntmps57
 go_wp2_with fail
 rw [←hW1]
 clear hW1
 refine (KG.out nPk _ B1.out).mono ?_
 rintro e w2 ⟨rfl,hb⟩
 have V2:=Lib.hid hb
 have B2:=Lib.hid (B1.out.trans (hb.mono B1.out.size))
 replace q0:=keep6 hb q0
 clear hb
 go_wp2_with fail
 refine (KG.out nVe _ B2.out).mono ?_
 rintro e w3 ⟨rfl,hb⟩
 have V3:=Lib.hid (V2.out.trans (hb.mono V2.out.size))
 have B3:=Lib.hid (B2.out.trans (hb.mono B2.out.size))
 clear hb q0
 have R3:=Lib.hid (show (∀o,o < 6→w3.cell? ⟨w.heap.size+1,o,none⟩=some (zv o))∧(∀o,w3.frozen? ⟨w.heap.size+1,o,none⟩=false)∧w3.cell? ⟨w.heap.size,0,none⟩=some (.slice A st.length c)∧w.heap.size+2≤w3.heap.size from ⟨fun o ho=>keep6 V3.out (P1.out.2.1 o ho),fun o=>(V3.out.frozen (p:=⟨w.heap.size+1,o,none⟩) (by show w.heap.size+1 < W1.heap.size;rw [Q1.out];omega)).trans (P1.out.2.2 o),keep6 V3.out P1.out.1,by rw [←Q1.out];exact V3.out.size⟩)
 by_cases hg:getV st nPk=false∨getV st nVe=false
 ·have X:=Lib.hid (show rdP st=(6,emp) from XP.out.trans (if_pos hg))
  have r0:=R3.out.1 0 (by decide)
  have r1:=R3.out.1 1 (by decide)
  have r2:=R3.out.1 2 (by decide)
  have r3:=R3.out.1 3 (by decide)
  have r4:=R3.out.1 4 (by decide)
  have r5:=R3.out.1 5 (by decide)
  have f0:=R3.out.2.1 0
  have f1:=R3.out.2.1 1
  have f2:=R3.out.2.1 2
  have f3:=R3.out.2.1 3
  have f4:=R3.out.2.1 4
  have f5:=R3.out.2.1 5
  obtain ⟨k0,k1,k2,k3,k4,k5,bW,-,-⟩:=fin6 (x0:=.string { data:=#[] }) (x1:=.string { data:=#[] }) (x2:=.slice none 0 0) (x3:=.slice none 0 0) (x4:=.slice none 0 0) (x5:=.slice none 0 0) B3.out (by omega) r0 r1 r2 r3 r4 r5
  have KK:=Lib.hid (And.intro k0 (And.intro k1 (And.intro k2 (And.intro k3 (And.intro k4 (And.intro k5 bW))))))
  clear k0 k1 k2 k3 k4 k5 bW
  generalize getV st nPk=g1 at *
  generalize getV st nVe=g2 at *
  cases g1
  ·clear hg
   go_wp2
   obtain ⟨k0,k1,k2,k3,k4,k5,bW⟩:=KK.out
   exact bodyPost_ret (v:=.tuple #[.agg #[.string { data:=#[] },.string { data:=#[] },.slice none 0 0,.slice none 0 0,.slice none 0 0,.slice none 0 0],.int .i64 6]) (by simp [results,Tryz.results57,go_sem,k0,k1,k2,k3,k4,k5]) rfl (by rw [X.out];exact rdR6_none 6 bW)
  ·obtain rfl:g2=false:=hg.elim (fun h=>absurd h (by decide)) id
   clear hg
   go_wp2
   obtain ⟨k0,k1,k2,k3,k4,k5,bW⟩:=KK.out
   exact bodyPost_ret (v:=.tuple #[.agg #[.string { data:=#[] },.string { data:=#[] },.slice none 0 0,.slice none 0 0,.slice none 0 0,.slice none 0 0],.int .i64 6]) (by simp [results,Tryz.results57,go_sem,k0,k1,k2,k3,k4,k5]) rfl (by rw [X.out];exact rdR6_none 6 bW)
 have XP2:=Lib.hid (show rdP st=if (rdS st).1=0 then rdS st else ((rdS st).1,emp) from XP.out.trans (if_neg hg))
 have g1:getV st nPk=true:=by cases h:getV st nPk<;>first|rfl|exact absurd (Or.inl h) hg
 have g2:getV st nVe=true:=by cases h:getV st nVe<;>first|rfl|exact absurd (Or.inr h) hg
 clear hg XP KG P1 Q1 V2 V3 B1 B2
 obtain ⟨W5,hW5⟩:∃W,W=((w3.alloc (.cells #[.string { data:=#[] },.string { data:=#[] },.slice none 0 0,.slice none 0 0,.slice none 0 0,.slice none 0 0] 34)).alloc (.cells #[.int .i64 0] 24)):=⟨_,rfl⟩
 have hb5:Below w3.heap.size w3 W5:=by rw [hW5];exact ((Below.refl _ w3).alloc (Nat.le_refl _) _).alloc (by simp) _
 have R5:=Lib.hid (show RdS w w.heap.size (w.heap.size+1) w3.heap.size (w3.heap.size+1) (.slice A st.length c) W5 (0,emp) zv from
  ⟨⟨Nat.le_refl _,by omega,by have:=R3.out.2.2.2;omega,by omega,by rw [hW5,World.size_alloc,World.size_alloc];omega⟩,B3.out.trans (hb5.mono B3.out.size),keep6 hb5 R3.out.2.2.1,by rw [hW5];simp [go_sem],by rw [hW5];simp [go_sem],
   by rw [hW5];exact zv_all (by simp [go_sem]) (by simp [go_sem]) (by simp [go_sem]) (by simp [go_sem]) (by simp [go_sem]) (by simp [go_sem]),fun o _=>by rw [hW5];simp [go_sem],fun o ho=>keep6 hb5 (R3.out.1 o ho),
   fun o ho=>(hb5.frozen (p:=⟨w.heap.size+1,o,none⟩) (by show w.heap.size+1 < w3.heap.size;have:=R3.out.2.2.2;omega)).trans (R3.out.2.1 o),emp_c _ _⟩)
 have SX:=Lib.hid (show fP st (fC st (fR st (fD st (fV st (fN st (0,emp))))))=rdS st from rfl)
 clear hb5 B3 R3
 go_wp2_with fail
 rw [←hW5]
 clear hW5
 refine (intoS_any 103 _ _ _).mono ?_
 rintro e w' ⟨rfl,rfl⟩
 go_wp2_with fail
 refine (stN_any R5.out H.out HE.out).mono ?_
 rintro e U0 ⟨rfl,cv0,hR⟩
 have Y0:=Lib.hid hR
 clear hR R5
 generalize fN st (0,emp)=s1 at *
 go_wp2_with fail
 refine (intoS_any 104 _ _ _).mono ?_
 rintro e w' ⟨rfl,rfl⟩
 go_wp2_with fail
 refine (stV_any Y0.out H.out HE.out).mono ?_
 rintro e U1 ⟨rfl,cv1,hR⟩
 have Y1:=Lib.hid hR
 clear hR Y0
 generalize fV st s1=s2 at *
 go_wp2_with fail
 refine (intoG_any 106 _ _ _).mono ?_
 rintro e w' ⟨rfl,rfl⟩
 go_wp2_with fail
 refine (stD_any Y1.out H.out HE.out (HZ.out _)).mono ?_
 rintro e U2 ⟨rfl,cv2,hR⟩
 have Y2:=Lib.hid hR
 clear hR Y1
 generalize fD st s2=s3 at *
 go_wp2_with fail
 refine (intoG_any 106 _ _ _).mono ?_
 rintro e w' ⟨rfl,rfl⟩
 go_wp2_with fail
 refine (stR_any Y2.out H.out HE.out (HZ.out _)).mono ?_
 rintro e U3 ⟨rfl,cv3,hR⟩
 have Y3:=Lib.hid hR
 clear hR Y2
 generalize fR st s3=s4 at *
 go_wp2_with fail
 refine (intoA_any 108 _ _ _).mono ?_
 rintro e w' ⟨rfl,rfl⟩
 go_wp2_with fail
 refine (stC_any Y3.out H.out HE.out (HZ.out _)).mono ?_
 rintro e U4 ⟨rfl,cv4,hR⟩
 have Y4:=Lib.hid hR
 clear hR Y3
 generalize fC st s4=s5 at *
 go_wp2_with fail
 refine (intoA_any 109 _ _ _).mono ?_
 rintro e w' ⟨rfl,rfl⟩
 go_wp2_with fail
 refine (stP_any Y4.out H.out HE.out (HZ.out _)).mono ?_
 rintro e U5 ⟨rfl,cv5,hR⟩
 have Y5:=Lib.hid hR
 clear hR Y4
 generalize fP st s5=s6 at *
 have SX6:=Lib.hid SX.out.symm
 clear SX
 have q0:=Y5.out.cf
 by_cases h0:s6.1=0
 ·have X:=Lib.hid (show rdP st=s6 by rw [XP2.out,SX6.out,if_pos h0])
  have hR:=Y5.out.rd
  obtain ⟨e0,e1,e2,e3,e4,e5⟩:=id hR
  obtain ⟨A1,d1,v1,_⟩:=id e2
  obtain ⟨A2,d2,v2,_⟩:=id e3
  obtain ⟨A3,d3,v3,_⟩:=id e4
  obtain ⟨A4,d4,v4,_⟩:=id e5
  simp only [List.cons.injEq,and_true] at v1 v2 v3 v4
  have HV:=Lib.hid (show EntV U5 (inS w.heap.size w3.heap.size (w3.heap.size+1) (w.heap.size+1) U5) s6.2 A1 d1 A2 d2 A3 d3 A4 d4 from ⟨by rw [←v1];exact e2,by rw [←v2];exact e3,by rw [←v3];exact e4,by rw [←v4];exact e5⟩)
  have c0:=(Y5.out.ce 0 (by decide)).trans (congrArg some e0)
  have c1:=(Y5.out.ce 1 (by decide)).trans (congrArg some e1)
  have c2:=(Y5.out.ce 2 (by decide)).trans (congrArg some v1)
  have c3:=(Y5.out.ce 3 (by decide)).trans (congrArg some v2)
  have c4:=(Y5.out.ce 4 (by decide)).trans (congrArg some v3)
  have c5:=(Y5.out.ce 5 (by decide)).trans (congrArg some v4)
  have r0:=Y5.out.cr 0 (by decide)
  have r1:=Y5.out.cr 1 (by decide)
  have r2:=Y5.out.cr 2 (by decide)
  have r3:=Y5.out.cr 3 (by decide)
  have r4:=Y5.out.cr 4 (by decide)
  have r5:=Y5.out.cr 5 (by decide)
  have f0:=Y5.out.fr 0 (by decide)
  have f1:=Y5.out.fr 1 (by decide)
  have f2:=Y5.out.fr 2 (by decide)
  have f3:=Y5.out.fr 3 (by decide)
  have f4:=Y5.out.fr 4 (by decide)
  have f5:=Y5.out.fr 5 (by decide)
  obtain ⟨k0,k1,k2,k3,k4,k5,bW,hk,hs⟩:=fin6 (x0:=.string s6.2.n) (x1:=.string s6.2.v) (x2:=.slice A1 s6.2.d.length d1) (x3:=.slice A2 s6.2.r.length d2) (x4:=.slice A3 s6.2.c.length d3) (x5:=.slice A4 s6.2.p.length d4) Y5.out.bel (by omega) r0 r1 r2 r3 r4 r5
  have KK:=Lib.hid (And.intro k0 (And.intro k1 (And.intro k2 (And.intro k3 (And.intro k4 (And.intro k5 (And.intro bW (And.intro hk hs))))))))
  clear hR e0 e1 e2 e3 e4 e5 v1 v2 v3 v4 k0 k1 k2 k3 k4 k5 bW hk hs
  have H0:=Lib.hid h0
  rw [h0] at q0
  clear h0
  go_wp2
  obtain ⟨k0,k1,k2,k3,k4,k5,bW,hk,hs⟩:=KK.out
  obtain ⟨WF,hWF⟩:∃WF,WF=((((((U5.setCell ⟨w.heap.size+1,0,none⟩ (.string s6.2.n)).setCell ⟨w.heap.size+1,1,none⟩ (.string s6.2.v)).setCell ⟨w.heap.size+1,2,none⟩ (.slice A1 s6.2.d.length d1)).setCell ⟨w.heap.size+1,3,none⟩ (.slice A2 s6.2.r.length d2)).setCell ⟨w.heap.size+1,4,none⟩ (.slice A3 s6.2.c.length d3)).setCell ⟨w.heap.size+1,5,none⟩ (.slice A4 s6.2.p.length d4)):=⟨_,rfl⟩
  rw [←hWF] at k0 k1 k2 k3 k4 k5 bW hk hs ⊢
  clear hWF
  refine bodyPost_ret (v:=.tuple #[.agg #[.string s6.2.n,.string s6.2.v,.slice A1 s6.2.d.length d1,.slice A2 s6.2.r.length d2,.slice A3 s6.2.c.length d3,.slice A4 s6.2.p.length d4],.int .i64 0]) (by clear H HZ HE XP2 SX6 Y5 HV KK X H0 hcf hmf;simp [results,Tryz.results57,go_sem,k0,k1,k2,k3,k4,k5]) rfl ?_
  rw [X.out]
  refine ⟨⟨A1,d1,A2,d2,A3,d3,A4,d4,by rw [H0.out],?_⟩,bW⟩
  exact ⟨rdGrps_good.both HV.out.d (fun b h=>hk b h.2.2.2.2) fun b h=>⟨h.1,by rw [hs];exact h.2.1⟩,rdGrps_good.both HV.out.r (fun b h=>hk b h.2.2.2.2) fun b h=>⟨h.1,by rw [hs];exact h.2.1⟩,
   rdAtms_good.both HV.out.c (fun b h=>hk b h.2.2.2.2) fun b h=>⟨h.1,by rw [hs];exact h.2.1⟩,rdAtms_good.both HV.out.p (fun b h=>hk b h.2.2.2.2) fun b h=>⟨h.1,by rw [hs];exact h.2.1⟩⟩
 ·have X:=Lib.hid (show rdP st=(s6.1,emp) by rw [XP2.out,SX6.out,if_neg h0])
  have t0:(s6.1 != 0)=true:=by rw [bne_iff_ne];exact h0
  have r0:=Y5.out.cr 0 (by decide)
  have r1:=Y5.out.cr 1 (by decide)
  have r2:=Y5.out.cr 2 (by decide)
  have r3:=Y5.out.cr 3 (by decide)
  have r4:=Y5.out.cr 4 (by decide)
  have r5:=Y5.out.cr 5 (by decide)
  have f0:=Y5.out.fr 0 (by decide)
  have f1:=Y5.out.fr 1 (by decide)
  have f2:=Y5.out.fr 2 (by decide)
  have f3:=Y5.out.fr 3 (by decide)
  have f4:=Y5.out.fr 4 (by decide)
  have f5:=Y5.out.fr 5 (by decide)
  obtain ⟨k0,k1,k2,k3,k4,k5,bW,-,-⟩:=fin6 (x0:=.string { data:=#[] }) (x1:=.string { data:=#[] }) (x2:=.slice none 0 0) (x3:=.slice none 0 0) (x4:=.slice none 0 0) (x5:=.slice none 0 0) Y5.out.bel (by omega) r0 r1 r2 r3 r4 r5
  have KK:=Lib.hid (And.intro k0 (And.intro k1 (And.intro k2 (And.intro k3 (And.intro k4 (And.intro k5 bW))))))
  have qs:((((((U5.setCell ⟨w.heap.size+1,0,none⟩ (.string { data:=#[] })).setCell ⟨w.heap.size+1,1,none⟩ (.string { data:=#[] })).setCell ⟨w.heap.size+1,2,none⟩ (.slice none 0 0)).setCell ⟨w.heap.size+1,3,none⟩ (.slice none 0 0)).setCell ⟨w.heap.size+1,4,none⟩ (.slice none 0 0)).setCell ⟨w.heap.size+1,5,none⟩ (.slice none 0 0)).cell? ⟨w3.heap.size+1,0,none⟩=some (.int .i64 s6.1):=by
   have hne:=Y5.out.ord
   exact set_ne (set_ne (set_ne (set_ne (set_ne (set_ne q0 (blk_ne (by omega))) (blk_ne (by omega))) (blk_ne (by omega))) (blk_ne (by omega))) (blk_ne (by omega))) (blk_ne (by omega))
  clear k0 k1 k2 k3 k4 k5 bW h0
  go_wp2_with fail
  go_region
  go_wp2
  obtain ⟨k0,k1,k2,k3,k4,k5,bW⟩:=KK.out
  obtain ⟨WF,hWF⟩:∃WF,WF=((((((U5.setCell ⟨w.heap.size+1,0,none⟩ (.string { data:=#[] })).setCell ⟨w.heap.size+1,1,none⟩ (.string { data:=#[] })).setCell ⟨w.heap.size+1,2,none⟩ (.slice none 0 0)).setCell ⟨w.heap.size+1,3,none⟩ (.slice none 0 0)).setCell ⟨w.heap.size+1,4,none⟩ (.slice none 0 0)).setCell ⟨w.heap.size+1,5,none⟩ (.slice none 0 0)):=⟨_,rfl⟩
  rw [←hWF] at k0 k1 k2 k3 k4 k5 bW ⊢
  clear hWF
  exact bodyPost_ret (v:=.tuple #[.agg #[.string { data:=#[] },.string { data:=#[] },.slice none 0 0,.slice none 0 0,.slice none 0 0,.slice none 0 0],.int .i64 s6.1]) (by clear H HZ HE XP2 SX6 Y5 KK hcf hmf;simp [results,Tryz.results57,go_sem,k0,k1,k2,k3,k4,k5]) rfl (by rw [X.out];exact rdR6_none _ (belD bW 1))
end Go.Proofs.YtboinnjncaehkaaGreatDoor
namespace Go.Proofs.YtboinnjncaehkaaGreatDoor
open Go.RowKit Go.Sort
def orE (a b:Int):Int:=if a≠0 then a else b
set_option maxHeartbeats 2000000 in
theorem or7_any (g:Nat) (a b:Int) (w:World) (h0:w.cell? ⟨g,0,none⟩=some (.int .i64 a)) (h1:w.cell? ⟨g,1,none⟩=some (.int .i64 b)) :
  Calls Tryz.prog 59 #[.slice (some ⟨g,0,none⟩) 2 2] w fun e w'=>e=.returned (.int .i64 (orE a b))∧w=w':=by
 have X:=Lib.hid (show (a≠0→orE a b=a)∧(a=0→orE a b=b) from ⟨fun h=>if_pos h,fun h=>if_neg (by simp [h])⟩)
 generalize orE a b=q at *
 by_cases ha:a=0
 ·subst ha
  have Y:=X.out.2 rfl
  subst Y
  clear X
  by_cases hb:q=0
  ·subst hb
   go_enter Tryz.func59,Tryz.ntmps59
   go_wp2
   go_loopg [5,8] 2 (fun kx u5 u8 wr=>∃k:Nat,u8=.int .i64 k∧k≤2∧2 - k≤kx∧w=wr)
   case atStart=>exact ⟨0,rfl,by omega,by omega,rfl⟩
   case round=>
    obtain ⟨k,rfl,hk,hkx,rfl⟩:=hrel
    have hc:k=0∨k=1∨k=2:=by omega
    rcases hc with rfl|rfl|rfl
    ·go_wp2
     go_roundg 1
     case measure=>omega
     case rel=>exact ⟨1,rfl,by omega,by omega,rfl⟩
    ·go_wp2
     go_roundg 0
     case measure=>omega
     case rel=>exact ⟨2,rfl,by omega,by omega,rfl⟩
    ·go_wp2
     go_ret
     exact ⟨rfl,rfl⟩
  ·have tb:(q != 0)=true:=by rw [bne_iff_ne];exact hb
   go_enter Tryz.func59,Tryz.ntmps59
   go_wp2
   go_loopg [5,8] 2 (fun kx u5 u8 wr=>∃k:Nat,u8=.int .i64 k∧k≤1∧2 - k≤kx∧w=wr)
   case atStart=>exact ⟨0,rfl,by omega,by omega,rfl⟩
   case round=>
    obtain ⟨k,rfl,hk,hkx,rfl⟩:=hrel
    have hc:k=0∨k=1:=by omega
    rcases hc with rfl|rfl
    ·go_wp2
     go_roundg 1
     case measure=>omega
     case rel=>exact ⟨1,rfl,by omega,by omega,rfl⟩
    ·go_wp2
     go_ret
     exact ⟨rfl,rfl⟩
 ·have Y:=X.out.1 ha
  subst Y
  clear X
  have tb:(q != 0)=true:=by rw [bne_iff_ne];exact ha
  go_enter Tryz.func59,Tryz.ntmps59
  go_wp2
  go_loopg [5,8] 2 (fun kx u5 u8 wr=>∃k:Nat,u8=.int .i64 k∧k=0∧2≤kx∧w=wr)
  case atStart=>exact ⟨0,rfl,rfl,by omega,rfl⟩
  case round=>
   obtain ⟨k,rfl,rfl,hkx,rfl⟩:=hrel
   go_wp2
   go_ret
   exact ⟨rfl,rfl⟩
def mkN (st:List Fd) (nm:ByteArray):Int:=if mkO st nm=true then 0 else 5
set_option maxHeartbeats 2000000 in
theorem mark5_any (A:Option Addr) (n c:Nat) (st:List Fd) (nm:ByteArray) (w:World) (h:rdFds w (lt_ w.heap.size) st [.slice A n c]) :
  Calls Tryz.prog 58 #[.slice A n c,.string nm] w fun e w'=>e=.returned (.tuple #[.bool (mkB st nm),.int .i64 (mkN st nm)])∧Below w.heap.size w w':=by
 have KG:=Lib.hid (get5_any A n c st nm w h)
 have X:=Lib.hid (show mkB st nm=(getV st nm&&decide (fstV st nm=yes7))∧mkN st nm=if (!getV st nm||(decide (fstV st nm=yes7)||decide (fstV st nm=no7)))=true then 0 else 5 from ⟨rfl,rfl⟩)
 generalize mkB st nm=b1 at *
 generalize mkN st nm=b2 at *
 clear h
 have ny:decide (fstV st nm=yes7)=true→decide (fstV st nm=no7)=false:=fun h=>by
  rw [of_decide_eq_true h];kernel_rfl
 generalize fstV st nm=v at *
 generalize getV st nm=g at *
 have e1:yes7.toList=[121,101,115]:=by kernel_rfl
 have e2:no7.toList=[110,111]:=by kernel_rfl
 have hy:(v.toList==[121,101,115])=decide (v=yes7):=by rw [←str_eq,e1]
 have hn:(v.toList==[110,111])=decide (v=no7):=by rw [←str_eq,e2]
 clear e1 e2
 generalize decide (v=yes7)=dy at *
 generalize decide (v=no7)=dn at *
 cases g
 ·clear ny
  go_enter Tryz.func58,Tryz.ntmps58
  go_wp2_with fail
  refine KG.out.mono ?_
  rintro e w' ⟨rfl,hb⟩
  have HB:=Lib.hid hb
  clear hb
  go_wp2
  go_ret2
  exact ⟨by rw [X.out.1,X.out.2];try rfl,HB.out⟩
 ·cases dy<;>cases dn
  case' true.true=>exact absurd (ny rfl) (by decide)
  all_goals
   clear ny
   go_enter Tryz.func58,Tryz.ntmps58
   go_wp2_with fail
   refine KG.out.mono ?_
   rintro e w' ⟨rfl,hb⟩
   have HB:=Lib.hid hb
   clear hb
   go_wp2
   go_ret2
   exact ⟨by rw [X.out.1,X.out.2];try rfl,HB.out⟩
end Go.Proofs.YtboinnjncaehkaaGreatDoor
