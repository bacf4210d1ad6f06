/- What the laws rest on: P7c, P7d, P7e, P7z, ShelS, P8a, P8b. -/
import Derived.Lib.SliceRun
import Derived.Ground.SlsfProg
import Derived.Shelf.SlSortCmp.InsertionK
import Derived.Shelf.SlSortCmp.WholeK
import Derived.Shelf.SlSortCmp.NoneTotal
import Derived.Test.YtboinnjncaehkaaGreatDoorQAPZA
set_option maxRecDepth 100000
set_option linter.unusedVariables false
set_option linter.unusedSimpArgs false
namespace Go.Proofs.YtboinnjncaehkaaGreatDoor
open Go.RowKit Go.Sort
theorem belG7 {w w1 w2:World} (h:Below w.heap.size w w1) (k:Gw w1 w2):Below w.heap.size w w2:=h.trans (k.below.mono h.size)
abbrev set8 (W:World) (rb:Nat) (x0 x1 x2 x3 x4 x5 x6 x7:Value):World:=((((((((W.setCell ⟨rb,0,none⟩ x0).setCell ⟨rb,1,none⟩ x1).setCell ⟨rb,2,none⟩ x2).setCell ⟨rb,3,none⟩ x3).setCell ⟨rb,4,none⟩ x4).setCell ⟨rb,5,none⟩ x5).setCell ⟨rb,6,none⟩ x6).setCell ⟨rb,7,none⟩ x7)
theorem fin8 {W w:World} {rb N:Nat} {a0 a1 a2 a3 a4 a5 a6 a7 x0 x1 x2 x3 x4 x5 x6 x7:Value} (hb:Below N w W) (hN:N≤rb) (h0:W.cell? ⟨rb,0,none⟩=some a0) (h1:W.cell? ⟨rb,1,none⟩=some a1) (h2:W.cell? ⟨rb,2,none⟩=some a2) (h3:W.cell? ⟨rb,3,none⟩=some a3) (h4:W.cell? ⟨rb,4,none⟩=some a4) (h5:W.cell? ⟨rb,5,none⟩=some a5) (h6:W.cell? ⟨rb,6,none⟩=some a6) (h7:W.cell? ⟨rb,7,none⟩=some a7) :
  (set8 W rb x0 x1 x2 x3 x4 x5 x6 x7).cell? ⟨rb,0,none⟩=some x0∧(set8 W rb x0 x1 x2 x3 x4 x5 x6 x7).cell? ⟨rb,1,none⟩=some x1∧(set8 W rb x0 x1 x2 x3 x4 x5 x6 x7).cell? ⟨rb,2,none⟩=some x2∧(set8 W rb x0 x1 x2 x3 x4 x5 x6 x7).cell? ⟨rb,3,none⟩=some x3∧(set8 W rb x0 x1 x2 x3 x4 x5 x6 x7).cell? ⟨rb,4,none⟩=some x4∧(set8 W rb x0 x1 x2 x3 x4 x5 x6 x7).cell? ⟨rb,5,none⟩=some x5∧(set8 W rb x0 x1 x2 x3 x4 x5 x6 x7).cell? ⟨rb,6,none⟩=some x6∧(set8 W rb x0 x1 x2 x3 x4 x5 x6 x7).cell? ⟨rb,7,none⟩=some x7∧Below N w (set8 W rb x0 x1 x2 x3 x4 x5 x6 x7)∧(∀b,b≠rb→(set8 W rb x0 x1 x2 x3 x4 x5 x6 x7).heap[b]?=W.heap[b]?)∧(set8 W rb x0 x1 x2 x3 x4 x5 x6 x7).heap.size=W.heap.size:=by
 refine ⟨by simp [go_sem,h0],by simp [go_sem,h1],by simp [go_sem,h2],by simp [go_sem,h3],by simp [go_sem,h4],by simp [go_sem,h5],by simp [go_sem,h6],by simp [go_sem,h7],(((((((hb.setCell hN _).setCell hN _).setCell hN _).setCell hN _).setCell hN _).setCell hN _).setCell hN _).setCell hN _,fun b h=>?_,by simp⟩
 rw [heap_setCell_other _ _ _ _ h,heap_setCell_other _ _ _ _ h,heap_setCell_other _ _ _ _ h,heap_setCell_other _ _ _ _ h,heap_setCell_other _ _ _ _ h,heap_setCell_other _ _ _ _ h,heap_setCell_other _ _ _ _ h,heap_setCell_other _ _ _ _ h]
def ixP7 (p:Hr→Bool):List Hr→Nat→Int
 | [],_=>-1
 | x::r,i=>if p x=true then i else ixP7 p r (i+1)
theorem ix_at {p:Hr→Bool} {l:List Hr} {k:Nat} (hk:k < l.length):(p l[k]=true→ixP7 p (l.drop k) k=k)∧(p l[k]=false→ixP7 p (l.drop k) k=ixP7 p (l.drop (k+1)) (k+1)):=by
 rw [List.drop_eq_getElem_cons hk]
 exact ⟨fun h=>if_pos h,fun h=>if_neg (by rw [h];simp)⟩
theorem ix_no {p:Hr→Bool}:∀{l:List Hr} {i:Nat},(∀x ∈ l,p x=false)→ixP7 p l i=-1
 | [],_,_=>rfl
 | x::r,i,h=>(if_neg (by rw [h x (by simp)];simp)).trans (ix_no fun y hy=>h y (by simp [hy]))
theorem ix_yes {p:Hr→Bool}:∀{l:List Hr} {i:Nat},(∃x ∈ l,p x=true)→∃k,∃hk:k < l.length,ixP7 p l i=((i+k:Nat):Int)∧p l[k]=true∧∀j (hj:j < l.length),j < k→p l[j]=false
 | [],_,h=>by obtain ⟨x,hx,_⟩:=h;cases hx
 | x::r,i,h=>by
  by_cases hp:p x=true
  ·exact ⟨0,by simp,if_pos hp,hp,fun j _ hj=>absurd hj (Nat.not_lt_zero _)⟩
  ·obtain ⟨y,hy,hy2⟩:=h
   obtain ⟨k,hk,a,b,c⟩:=ix_yes (p:=p) (l:=r) (i:=i+1) ⟨y,by
    rcases List.mem_cons.1 hy with rfl|hy
    ·exact absurd hy2 hp
    ·exact hy,hy2⟩
   refine ⟨k+1,by simp only [List.length_cons];omega,(if_neg hp).trans (by rw [a];congr 1;omega),b,fun j hj hjk=>?_⟩
   cases j with
   | zero=>exact Bool.eq_false_iff.2 hp
   | succ j=>exact c j (by simpa using hj) (by omega)
set_option maxHeartbeats 4000000 in
theorem ixHr_any (g:Nat) (cap:Array Value) (p:Hr→Bool) (A:Option Addr) (n c:Nat) (l:List Hr) (w:World) (hcf:∀(args:Array Value) (w:World),(callFunc g args).run Tryz.prog w=.ok (.enter g args) w) (h:rdHrs w (lt_ w.heap.size) l [.slice A n c])
  (KP:∀(r:HrV) (W:World),Below w.heap.size w W→Calls Tryz.prog g (#[.agg r.cs.toArray]++cap) W fun e w'=>e=.returned (.bool (p r.x))∧Gw W w') :
  Calls Tryz.prog 50 #[.slice A n c,.func (.func g) #[] cap] w fun e w'=>e=.returned (.int .i64 (ixP7 p l 0))∧Below w.heap.size w w':=by
 obtain ⟨rfl,hnc,hcm,_⟩:=rdHrs_at h
 have hcm':c≤9223372036854775807:=hcm
 have H:=Lib.hid h
 have HK:=Lib.hid KP
 clear h hcm KP
 go_enter Tryz.func50,Tryz.ntmps50
 go_wp2
 go_loopw [8] (fun i wr=>∃k:Nat,k≤l.length∧i=.int .i64 k∧ixP7 p l 0=ixP7 p (l.drop k) k∧Below w.heap.size w wr) (fun i _=>l.length - (intOf i).toNat)
 case atStart=>exact ⟨0,Nat.zero_le _,rfl,rfl,Below.refl _ _⟩
 case round=>
  obtain ⟨k,hk,rfl,h1,hbel⟩:=hrel
  have H1:=Lib.hid h1
  have HB:=Lib.hid hbel
  clear h1
  by_cases hlt:k < l.length
  ·obtain ⟨_,_,_,ha⟩:=rdHrs_at (rdHrs_good.below H.out hbel)
   obtain ⟨ad,A1,c1,A2,c2,A3,c3,A4,c4,rfl,had,hv,g0,g1,g2,g3,g4,g5,g6,g7⟩:=ha k hlt
   have CL:=Lib.hid (HK.out ⟨l[k],A1,c1,A2,c2,A3,c3,A4,c4⟩ wr hbel)
   have PA:=Lib.hid (ix_at (p:=p) hlt)
   have i0:(0:Int)≤(k:Int):=by omega
   have i1:(k:Int) < (l.length:Int):=by omega
   clear ha hbel had hv
   generalize l[k]=x at *
   cases he:p x
   ·have X:=Lib.hid (PA.out.2 he)
    simp only [HrV.cs] at CL
    rw [he] at CL
    go_wp2_with fail
    refine CL.out.mono ?_
    rintro e w' ⟨rfl,hb2⟩
    have HB2:=Lib.hid hb2
    clear hb2
    go_wp2
    go_roundw
    case rel=>exact ⟨k+1,by omega,by go_num,by rw [H1.out,X.out],belG7 HB.out HB2.out⟩
    case measure=>simp [intOf];omega
   ·have X:=Lib.hid (PA.out.1 he)
    simp only [HrV.cs] at CL
    rw [he] at CL
    go_wp2_with fail
    refine CL.out.mono ?_
    rintro e w' ⟨rfl,hb2⟩
    have HB2:=Lib.hid hb2
    clear hb2
    go_wp2
    go_ret
    exact ⟨by rw [H1.out,X.out];try rfl,belG7 HB.out HB2.out⟩
  ·have X:=Lib.hid (show ixP7 p l 0=-1 by rw [H1.out,List.drop_eq_nil_of_le (by omega)];rfl)
   go_wp2
   go_ret
   exact ⟨by rw [X.out];try rfl,HB.out⟩
set_option maxHeartbeats 2000000 in
theorem placeh_any (A:Option Addr) (n c:Nat) (l:List Hr) (nm:ByteArray) (w:World) (h:rdHrs w (lt_ w.heap.size) l [.slice A n c]) :
  Calls Tryz.prog 32 #[.slice A n c,.string nm] w fun e w'=>e=.returned (.int .i64 (ixP7 (fun x=>decide (x.e.n=nm)) l 0))∧Below w.heap.size w w':=by
 have B1:=(Below.refl w.heap.size w).alloc (Nat.le_refl _) (.cells #[.string nm] 9)
 have hq:(⟨w.heap.size,0,none⟩:Addr).block < (w.alloc (.cells #[.string nm] 9)).heap.size:=by rw [World.size_alloc];exact Nat.lt_succ_self _
 have hc:(w.alloc (.cells #[.string nm] 9)).cell? ⟨w.heap.size,0,none⟩=some (.string nm):=by simp [go_sem]
 have C:=Lib.hid (ixHr_any 60 #[.pointer (some ⟨w.heap.size,0,none⟩)] (fun x=>decide (x.e.n=nm)) A n c l (w.alloc (.cells #[.string nm] 9)) (fun _ _=>by kernel_rfl) (rdHrs_good.up (rdHrs_good.below h B1) B1.size)
  (fun r W hb=>place1h_any r nm ⟨w.heap.size,0,none⟩ W (Nat.lt_of_lt_of_le hq hb.size) ((hb.cell hq).trans hc)))
 have HB:=Lib.hid B1
 have hmf:∀(fn:Fn) (first cap:Array Value) (w:World),(Instr.makeFunc fn first cap).run Tryz.prog w=.ok (.func fn first cap) w:=fun _ _ _ _=>rfl
 clear h B1 hq hc
 go_enter Tryz.func32,Tryz.ntmps32
 go_wp2_with (go_at_call 50;(with_reducible refine C.out.mono ?_);rintro e w' ⟨rfl,hb2⟩)
 have HB2:=Lib.hid hb2
 clear hb2
 go_wp2
 go_ret
 exact ⟨rfl,HB.out.trans (HB2.out.mono HB.out.size)⟩
theorem fd_ix {l:List Hr} {nm:ByteArray}:(fdH l nm=none∧∀i,ixP7 (fun x=>decide (x.e.n=nm)) l i=-1)∨∃k,∃hk:k < l.length,fdH l nm=some l[k]∧l[k].e.n=nm∧(∀j (hj:j < l.length),j < k→l[j].e.n≠nm)∧∀i,ixP7 (fun x=>decide (x.e.n=nm)) l i=((i+k:Nat):Int):=by
 by_cases h:∃x ∈ l,decide (x.e.n=nm)=true
 ·obtain ⟨k,hk,a,b,c⟩:=ix_yes (i:=0) h
  refine .inr ⟨k,hk,fd_at hk (fd_none.2 fun x hx=>?_) (of_decide_eq_true b),of_decide_eq_true b,fun j hj hjk=>of_decide_eq_false (c j hj hjk),fun i=>?_⟩
  ·obtain ⟨j,hj,rfl⟩:=List.getElem_of_mem hx
   rw [List.length_take] at hj
   rw [List.getElem_take]
   exact of_decide_eq_false (c j (by omega) (by omega))
  ·obtain ⟨k',hk',a',b',c'⟩:=ix_yes (i:=i) h
   rcases Nat.lt_trichotomy k k' with q|q|q
   ·have:=c' k hk q;rw [b] at this;cases this
   ·subst q;exact a'
   ·have:=c k' hk' q;rw [b'] at this;cases this
 ·have h':∀x ∈ l,decide (x.e.n=nm)=false:=fun x hx=>by
   cases q:decide (x.e.n=nm) with
   | false=>rfl
   | true=>exact absurd ⟨x,hx,q⟩ h
  exact .inl ⟨fd_none.2 fun x hx=>of_decide_eq_false (h' x hx),fun i=>ix_no h'⟩
theorem mk_far {n:ByteArray} {a h:Bool} {l:List Hr}:∀{k:Nat} (hk:k≤l.length),(∀j (hj:j < l.length),j < k→l[j].e.n≠n)→mkH n a h l=(mkH n a h (l.drop k)).map (l.take k++·)
 | 0,_,_=>by rw [List.drop_zero];cases mkH n a h l<;>rfl
 | k+1,hk,hn=>mk_miss (by omega) (mk_far (by omega) fun j hj hjk=>hn j hj (by omega)) (hn k (by omega) (by omega))
set_option maxHeartbeats 2000000 in
theorem cloneh_any (A:Option Addr) (n c:Nat) (l:List Hr) (w:World) (h:rdHrs w (lt_ w.heap.size) l [.slice A n c]) (hl:l.length≤200) :
  Calls Tryz.prog 48 #[.slice A n c] w fun e w'=>(∃v',e=.returned v'∧Grow rdHr 8 (lt_ w.heap.size) w' w.heap.size 36 v' l)∧Below w.heap.size w w':=by
 have qT:∀(w:World) (a:Option Addr) (n c n' c':Nat),(binOp .eql 23 (.slice a n c) (.slice none n' c')).run Tryz.prog w=.ok (.bool a.isNone) w:=fun w a n c n' c'=>Lib.run_eql_slice_nil w _ _ a n c n' c' Tryz.underlying23
 obtain ⟨i0,hi,hz0,hz1,hz2⟩:=info_parts here_info
 obtain ⟨rfl,hnc,hcm,hat⟩:=rdHrs_at h
 have hcm':c≤9223372036854775807:=hcm
 cases A with
 | none=>
  obtain rfl:l=[]:=by
   rcases Nat.eq_zero_or_pos l.length with h0|h0
   ·exact List.eq_nil_of_length_eq_zero h0
   ·obtain ⟨_,_,_,_,_,_,_,_,_,e,_⟩:=hat 0 h0
    cases e
  clear h hat hcm
  go_enter Tryz.func48,Tryz.ntmps48
  go_wp2
  go_ret
  exact ⟨⟨_,rfl,Grow.nil _ _ _ _⟩,Below.refl _ _⟩
 | some ad=>
  have B1:=(Below.refl w.heap.size w).alloc (Nat.le_refl _) (.cells #[] 36)
  have hG:=Grow.empty (E:=rdHr) (sz:=8) (lt_ w.heap.size) (W:=w.alloc (.cells #[] 36)) (base:=w.heap.size) (heap_alloc_new w _) (Nat.le_refl _)
  have hX:=rdHrs_good.below h B1
  have hn1:([]:List Hr).length+l.length≤maxLen:=by simp only [List.length_nil];unfold maxLen;omega
  have hn2:(([]:List Hr).length+l.length)*136≤140737488355328:=by simp only [List.length_nil];omega
  have hS:∀b,lt_ w.heap.size b→lt_ w.heap.size b∧b < (w.alloc (.cells #[] 36)).heap.size∧(Value.slice (some ⟨w.heap.size,0,none⟩) 0 0).ownBlock≠some b:=fun b hb=>⟨hb,by rw [World.size_alloc];unfold lt_ at hb;omega,fun hh=>by simp only [Value.ownBlock,Option.some.injEq] at hh;unfold lt_ at hb;omega⟩
  have hbs:w.heap.size≤(w.alloc (.cells #[] 36)).heap.size:=by rw [World.size_alloc];omega
  have HB1:=Lib.hid B1
  clear h B1 hcm hat
  go_enter Tryz.func48,Tryz.ntmps48
  go_wp2_with (at_builtin;refine wpList_growN _ rfl _ _ 23 23 rfl rdHr_good (by decide) (lt_ w.heap.size) w.heap.size 36 36 i0 (.agg #[.string { data:=#[] },.string { data:=#[] },.slice none 0 0,.slice none 0 0,.slice none 0 0,.slice none 0 0,.bool false,.bool false]) 136 Tryz.underlying23 Tryz.underlying23 hi hz0 hz1 hz2 rfl _ _ rfl hG l _ (some ad) l.length c rfl hX hS hn1 hn2 hbs ?_)
  intro v' w1 hG1 hg1
  have HB2:=Lib.hid (grow_below hG hg1 HB1.out (Nat.le_refl _) hbs)
  have HG:=Lib.hid hG1
  clear hG hX hg1 hn1 hn2 hS hbs hG1
  go_wp2
  go_ret
  exact ⟨⟨_,rfl,HG.out⟩,HB2.out⟩
set_option maxHeartbeats 4000000 in
theorem mark7_any (A:Option Addr) (n c:Nat) (l:List Hr) (nm:ByteArray) (a h:Bool) (w:World) (hr:rdHrs w (lt_ w.heap.size) l [.slice A n c]) (hl:l.length≤200) :
  Calls Tryz.prog 20 #[.slice A n c,.string nm,.bool a,.bool h] w (MkW w (mkL nm a h l) (mkE nm a h l)):=by
 have P:=Lib.hid (placeh_any A n c l nm w hr)
 have C:=Lib.hid (fun (w1:World) (hb:Below w.heap.size w w1)=>cloneh_any A n c l w1 (rdHrs_good.up (rdHrs_good.below hr hb) hb.size) hl)
 clear hr hl
 rcases fd_ix (l:=l) (nm:=nm) with ⟨e1,e2⟩|⟨k,hk,e1,hkn,hkm,e2⟩
 ·rw [e2] at P
  have X:=Lib.hid (mk_none (n:=nm) (a:=a) (h:=h) (l:=l) (mk_far (Nat.le_refl _) fun j hj _=>fd_none.1 e1 _ (List.getElem_mem hj)))
  clear e1 e2
  go_enter Tryz.func20,Tryz.ntmps20
  go_wp2_with fail
  refine P.out.mono ?_
  rintro e w1 ⟨rfl,hb1⟩
  have HB1:=Lib.hid hb1
  clear hb1 P C
  go_wp2
  go_ret2
  exact ⟨⟨none,0,0,by rw [X.out.2];try rfl,by rw [X.out.1];exact rdRow_nil _ _⟩,HB1.out⟩
 ·rw [e2,Nat.zero_add] at P
  have X:=Lib.hid (mk_hit (n:=nm) (a:=a) (h:=h) (l:=l) hk (mk_far (by omega) hkm) hkn)
  clear e1 e2 hkn hkm
  have t0:(0:Int)≤(k:Int):=by omega
  have t1:(k:Int) < (l.length:Int):=by omega
  have t2:¬((k:Int) < 0):=by omega
  go_enter Tryz.func20,Tryz.ntmps20
  go_wp2_with fail
  refine P.out.mono ?_
  rintro e w1 ⟨rfl,hb1⟩
  have HB1:=Lib.hid hb1
  clear hb1 P
  go_wp2_with fail
  refine (C.out w1 HB1.out).mono ?_
  rintro e w2 ⟨⟨v1,rfl,hG1⟩,hb2⟩
  obtain ⟨A1,c1,rfl,hnc1,hcm1⟩:=hG1.own
  have hcm1':c1≤9223372036854775807:=hcm1
  have HG:=Lib.hid hG1
  have HB2:=Lib.hid (HB1.out.trans (hb2.mono HB1.out.size))
  have HBS:=Lib.hid HB1.out.size
  clear hG1 hb2 hcm1 C
  have hat:=(rdHrs_at (HG.out.read rdHr_good)).2.2.2
  obtain ⟨ad,E1,e1,E2,e2,E3,e3,E4,e4,rfl,-,-,c0,-,-,-,-,-,c6,c7⟩:=hat k hk
  obtain ⟨e0,hba,hbb,_,hfz⟩:=HG.out.spot
  have hba2:w.heap.size≤ad.block:=Nat.le_trans HBS.out hba
  have f6:w2.frozen? ⟨(ad.add (k*8)).block,(ad.add (k*8)).off+6,none⟩=false:=by rw [blk_add];exact hfz _
  have f7:w2.frozen? ⟨(ad.add (k*8)).block,(ad.add (k*8)).off+7,none⟩=false:=by rw [blk_add];exact hfz _
  obtain ⟨S1,S2⟩:=HG.out.set rdHr_good hk (j:=6) (by decide) (.bool a) ⟨l[k].e,a,l[k].h⟩ (fun cs hcs=>hr_set6 hcs a)
  have hlt2:k < (l.set k ⟨l[k].e,a,l[k].h⟩).length:=by rw [List.length_set];exact hk
  obtain ⟨S3,S4⟩:=S1.set rdHr_good hlt2 (j:=7) (by decide) (.bool h) ⟨l[k].e,a,h⟩ (fun cs hcs=>by rw [List.getElem_set_self] at hcs;exact hr_set7 hcs h)
  rw [List.set_set,←off2_add ad (k*8) 6 (by omega),←off2_add ad (k*8) 7 (by omega)] at S3
  have R1:=Lib.hid (S3.read rdHr_good)
  have R2:=Lib.hid (set_below (set_below HB2.out (a:=⟨(ad.add (k*8)).block,(ad.add (k*8)).off+6,none⟩) (by rw [blk_add];exact hba2) (.bool a)) (a:=⟨(ad.add (k*8)).block,(ad.add (k*8)).off+7,none⟩) (by rw [blk_add];exact hba2) (.bool h))
  clear S1 S2 S3 S4 e0 hfz hba hba2 hbb hlt2 hat
  go_wp2
  go_ret2
  exact ⟨⟨_,_,_,by rw [X.out.2];try rfl,by rw [X.out.1];first|exact R1.out|(have:=R1.out;rw [List.length_set] at this;exact this)⟩,R2.out⟩
set_option maxHeartbeats 8000000 in
theorem without7_any (A:Option Addr) (n c:Nat) (l:List Hr) (nm:ByteArray) (w:World) (h:rdHrs w (lt_ w.heap.size) l [.slice A n c]) (hsm:l.length≤200) :
  Calls Tryz.prog 25 #[.slice A n c,.string nm] w fun e w'=>(∃v',e=.returned v'∧Grow rdHr 8 (lt_ w.heap.size) w' w.heap.size 36 v' (woH l nm))∧Below w.heap.size w w':=by
 obtain ⟨rfl,hnc,hcm,hat⟩:=rdHrs_at h
 have hcm':c≤9223372036854775807:=hcm
 have HAT:=Lib.hid hat
 have HS:=Lib.hid hsm
 obtain ⟨fi,hi,hz0,hz1,hz2⟩:=info_parts here_info
 clear hcm hat h hsm
 go_enter Tryz.func25,Tryz.ntmps25
 go_wp2
 go_loopw [5,10] (fun u i wr=>∃(k:Nat) (out:List Hr),k≤l.length∧i=.int .i64 k∧out=woH (l.take k) nm∧out.length≤k∧Grow rdHr 8 (lt_ w.heap.size) wr w.heap.size 36 u out∧Below w.heap.size w wr) (fun _ i _=>l.length - (intOf i).toNat)
 case atStart=>exact ⟨0,[],Nat.zero_le _,rfl,rfl,Nat.le_refl _,Grow.nil _ _ _ _,Below.refl _ _⟩
 case round=>
  obtain ⟨k,out,hk,rfl,hout,hol,hG,hb1⟩:=hrel
  have HB:=Lib.hid hb1
  have HG:=Lib.hid hG
  have HO:=Lib.hid hout
  have HOL:=Lib.hid hol
  clear hG hb1 hout hol
  by_cases hlt:k < l.length
  ·obtain ⟨ad,A1,c1,A2,c2,A3,c3,A4,c4,rfl,had,hv,g0,g1,g2,g3,g4,g5,g6,g7⟩:=HAT.out k hlt
   have i0:(0:Int)≤(k:Int):=by omega
   have i1:(k:Int) < (l.length:Int):=by omega
   have h0:=keep6 HB.out g0
   have h1:=keep6 HB.out g1
   have h2:=keep6 HB.out g2
   have h3:=keep6 HB.out g3
   have h4:=keep6 HB.out g4
   have h5:=keep6 HB.out g5
   have h6:=keep6 HB.out g6
   have h7:=keep6 HB.out g7
   clear had g0 g1 g2 g3 g4 g5 g6 g7
   have hq:=str_eq l[k].e.n nm
   have ST:=Lib.hid (wo_step (n:=nm) hlt)
   generalize l[k]=x at *
   have HV:=Lib.hid hv
   clear hv
   obtain ⟨V,hV⟩:∃V,V=wr.alloc (.cells #[.string x.e.n,.string x.e.v,.slice A1 x.e.d.length c1,.slice A2 x.e.r.length c2,.slice A3 x.e.c.length c3,.slice A4 x.e.p.length c4,.bool x.a,.bool x.h] 36):=⟨_,rfl⟩
   have GV:=Lib.hid (show Gw wr V by rw [hV];exact Gw.alloc _ _)
   have NM:=Lib.hid (name_any ⟨x,A1,c1,A2,c2,A3,c3,A4,c4⟩ V)
   have b0:=(show V.cell? ⟨wr.heap.size,0,none⟩=some (.string x.e.n) from by rw [hV];simp [go_sem])
   have b1:=(show V.cell? ⟨wr.heap.size,1,none⟩=some (.string x.e.v) from by rw [hV];simp [go_sem])
   have b2:=(show V.cell? ⟨wr.heap.size,2,none⟩=some (.slice A1 x.e.d.length c1) from by rw [hV];simp [go_sem])
   have b3:=(show V.cell? ⟨wr.heap.size,3,none⟩=some (.slice A2 x.e.r.length c2) from by rw [hV];simp [go_sem])
   have b4:=(show V.cell? ⟨wr.heap.size,4,none⟩=some (.slice A3 x.e.c.length c3) from by rw [hV];simp [go_sem])
   have b5:=(show V.cell? ⟨wr.heap.size,5,none⟩=some (.slice A4 x.e.p.length c4) from by rw [hV];simp [go_sem])
   have b6:=(show V.cell? ⟨wr.heap.size,6,none⟩=some (.bool x.a) from by rw [hV];simp [go_sem])
   have b7:=(show V.cell? ⟨wr.heap.size,7,none⟩=some (.bool x.h) from by rw [hV];simp [go_sem])
   have HVV:=Lib.hid hV
   have SV:=Lib.hid (show wr.heap.size < V.heap.size by rw [hV,World.size_alloc];omega)
   clear hV
   by_cases he:x.e.n=nm
   ·have NX:=Lib.hid (ST.out.trans (if_pos he))
    rw [decide_eq_true he] at hq
    clear he b1 b2 b3 b4 b5 b6 b7
    go_wp2_with fail
    rw [←HVV.out]
    refine NM.out.mono ?_
    rintro e w2 ⟨rfl,hg2⟩
    have G2:=Lib.hid hg2
    have HB2:=Lib.hid (belG7 HB.out (GV.out.trans hg2))
    clear hg2
    go_wp2
    go_roundw
    case rel=>exact ⟨k+1,out,by omega,by go_num,HO.out.trans NX.out.symm,by have:=HOL.out;omega,HG.out.below rdHr_good ((GV.out.trans G2.out).below),HB2.out⟩
    case measure=>simp [intOf];omega
   ·have NX:=Lib.hid (ST.out.trans (if_neg he))
    rw [decide_eq_false he] at hq
    clear he
    go_wp2_with fail
    rw [←HVV.out]
    refine NM.out.mono ?_
    rintro e w2 ⟨rfl,hg2⟩
    have HB2:=Lib.hid (belG7 HB.out (GV.out.trans hg2))
    have G2:=Lib.hid (HG.out.below rdHr_good ((GV.out.trans hg2).below))
    have k0:=hg2.cell (a:=⟨wr.heap.size,0,none⟩) SV.out b0
    have k1:=hg2.cell (a:=⟨wr.heap.size,1,none⟩) SV.out b1
    have k2:=hg2.cell (a:=⟨wr.heap.size,2,none⟩) SV.out b2
    have k3:=hg2.cell (a:=⟨wr.heap.size,3,none⟩) SV.out b3
    have k4:=hg2.cell (a:=⟨wr.heap.size,4,none⟩) SV.out b4
    have k5:=hg2.cell (a:=⟨wr.heap.size,5,none⟩) SV.out b5
    have k6:=hg2.cell (a:=⟨wr.heap.size,6,none⟩) SV.out b6
    have k7:=hg2.cell (a:=⟨wr.heap.size,7,none⟩) SV.out b7
    have hE:=HV.out.to (wr:=w2) (S':=fun b=>lt_ w.heap.size b∧b < w2.heap.size∧u5.ownBlock≠some b) (fun b hb=>HB2.out.block b hb) (fun b hb=>⟨hb,by have hb:b < w.heap.size:=hb;have:=HB2.out.size;omega,fun hh=>by have hb:b < w.heap.size:=hb;have:=(HG.out.lt b hh).1;omega⟩)
    have HE:=Lib.hid hE.hr
    have hn1:out.length+1≤maxLen:=by have:=HOL.out;have:=HS.out;unfold maxLen;omega
    have hn2:(out.length+1)*136≤140737488355328:=by have:=HOL.out;have:=HS.out;omega
    have hs4:w.heap.size≤w2.heap.size:=HB2.out.size
    clear hg2 hE b0 b1 b2 b3 b4 b5 b6 b7 h0 h1 h2 h3 h4 h5 h6 h7
    go_wp2_with (at_builtin;refine wpList_grow1 w2 rfl _ _ 23 rfl rdHr_good (by decide) (lt_ w.heap.size) w.heap.size 36 fi _ 136 Tryz.underlying23 hi hz0 hz1 hz2 rfl u5 _ rfl G2.out x _ 36 HE.out _ rfl rfl hn1 hn2 hs4 ?_)
    intro v7 w7 hG7 hg7
    have HB7:=Lib.hid (grow_below G2.out hg7 HB2.out (Nat.le_refl _) hs4)
    have G7:=Lib.hid hG7
    clear hG7 hg7 k0 k1 k2 k3 k4 k5 k6 k7
    go_wp2
    go_roundw
    case rel=>exact ⟨k+1,_,by omega,by go_num,by rw [HO.out];exact NX.out.symm,by rw [List.length_append,List.length_singleton];have:=HOL.out;omega,G7.out,HB7.out⟩
    case measure=>simp [intOf];omega
  ·obtain rfl:k=l.length:=by omega
   have X1:=Lib.hid (show out=woH l nm by rw [HO.out,List.take_length])
   have HG2:=Lib.hid (by rw [X1.out] at HG;exact HG.out)
   clear HG
   go_wp2
   go_ret
   exact ⟨⟨_,rfl,HG2.out⟩,HB.out⟩
section
variable {α:Type} [Inhabited α] {enc:α→List Value} {k:Nat} {w W:World} {blk off:Nat} {d:Array α}
theorem swk_heap (h:SWK enc k w blk off d W) {cur:Array Value} {e:TypeId} {fr:Nat × Nat} (hb:w.heap[blk]?=some (.cells cur e fr)):∃cur',W.heap[blk]?=some (.cells cur' e fr)∧cur'.size=cur.size:=by
 obtain ⟨n,os,rfl⟩:=h
 have hlt:blk < w.heap.size:=(Array.getElem?_eq_some_iff.1 hb).1
 refine ⟨putCells id off (flatK enc k d) cur,?_,by simp [putCells]⟩
 unfold sortWorldK
 rw [heap_grow_old _ _ (by rw [size_putRowK];exact hlt)]
 unfold putRowK putRow mapBlock
 simp only [Array.getElem?_modify,if_true]
 show (w.heap[blk]?).map _=_
 rw [hb];rfl
theorem swk_other (h:SWK enc k w blk off d W):∀b,b≠blk→b < w.heap.size→W.heap[b]?=w.heap[b]?:=by
 obtain ⟨n,os,rfl⟩:=h
 intro b hb hlt
 unfold sortWorldK
 rw [heap_grow_old _ _ (by rw [size_putRowK];exact hlt)]
 unfold putRowK putRow mapBlock
 simp only [Array.getElem?_modify,if_neg (Ne.symm hb)]
 rfl
theorem swk_below (h:SWK enc k w blk off d W) {N:Nat} (hN:N≤blk) (hlt:blk < w.heap.size):Below N w W:=by
 refine ⟨?_,?_,?_,h.le,fun b hb=>swk_other h b (by omega) (by omega)⟩
 ·obtain ⟨n,os,rfl⟩:=h;rfl
 ·obtain ⟨n,os,rfl⟩:=h;rfl
 ·obtain ⟨n,os,rfl⟩:=h;rfl
end
theorem hrv_of {w:World} {S:Nat→Prop} {x:Hr} {cs:List Value} (h:rdHr w S x cs):∃r:HrV,r.x=x∧r.cs=cs:=by
 obtain ⟨es,rfl,⟨dv,rv,cv,pv,rfl,g1,g2,g3,g4⟩⟩:=h
 obtain ⟨A1,c1,e1,_⟩:=id g1
 obtain ⟨A2,c2,e2,_⟩:=id g2
 obtain ⟨A3,c3,e3,_⟩:=id g3
 obtain ⟨A4,c4,e4,_⟩:=id g4
 simp only [List.cons.injEq,and_true] at e1 e2 e3 e4
 subst e1 e2 e3 e4
 exact ⟨⟨x,A1,c1,A2,c2,A3,c3,A4,c4⟩,rfl,rfl⟩
theorem hrvs_of {w:World} {S:Nat→Prop}:∀{l:List Hr} {css:List (List Value)},css.length=l.length→(∀k (hk:k < l.length),∃cs,css[k]?=some cs∧rdHr w S l[k] cs)→∃d:List HrV,d.map (·.x)=l∧d.map (·.cs)=css∧∀r ∈ d,rdHr w S r.x r.cs
 | [],[],_,_=>⟨[],rfl,rfl,by simp⟩
 | x::l,cs::css,hl,h=>by
  obtain ⟨cs',e,hr⟩:=h 0 (by simp)
  simp only [List.getElem?_cons_zero,Option.some.injEq] at e
  subst e
  obtain ⟨d,d1,d2,d3⟩:=hrvs_of (l:=l) (css:=css) (by simpa using hl) (fun k hk=>by
   obtain ⟨cs',e,hr⟩:=h (k+1) (by simpa using hk)
   exact ⟨cs',by simpa using e,by simpa using hr⟩)
  obtain ⟨r,r1,r2⟩:=hrv_of hr
  refine ⟨r::d,by simp [r1,d1],by simp [r2,d2],fun q hq=>?_⟩
  rcases List.mem_cons.1 hq with rfl|hq
  ·rw [r1,r2];exact hr
  ·exact d3 q hq
theorem flat_get {d:List HrV} {t:Nat} (ht:t < d.length*8):(d.map (·.cs)).flatten[t]?=some ((flatK HrV.cs 8 d.toArray)[t]!):=by
 have hk:t / 8 < d.length:=by omega
 rw [get_flatK _ _ _ t (by simpa using ht)]
 have hd:(d.toArray)[t / 8]! = d[t / 8]:=by rw [getElem!_pos _ _ (by simpa using hk)];simp
 rw [hd]
 have hl:t % 8 < (d[t / 8].cs).length:=by rw [HrV.len];omega
 rw [getElem!_pos (d[t / 8].cs) (t % 8) hl]
 have:=flatten_at 8 (css:=d.map (·.cs)) (fun cs hc=>by obtain ⟨r,_,rfl⟩:=List.mem_map.1 hc;rfl) (k:=t / 8) (cs:=d[t / 8].cs) (by simp [hk]) (t % 8) _ (List.getElem?_eq_getElem hl)
 rw [show t / 8*8+t % 8=t by omega] at this
 exact this
theorem own_row {T:Nat→Prop} {w:World} {base:Nat} {e:TypeId} {v:Value} {l:List Hr} (h:Grow rdHr 8 T w base e v l) (hne:l≠[]) :
  ∃gb cap,∃d:List HrV,v=.slice (some ⟨gb,0,none⟩) l.length cap∧base≤gb∧gb < w.heap.size∧d.map (·.x)=l∧RowK HrV.cs 8 w gb 0 d.toArray∧∀r ∈ d,rdHr w (fun b=>T b∧b < w.heap.size∧gb≠b) r.x r.cs:=by
 obtain ⟨css,hl,ho,hE⟩:=h
 rcases ho.2 with ⟨_,h0⟩|⟨gb,cap,cur,rfl,hb,hg,hn,hm,hs,ht⟩
 ·exact absurd (List.eq_nil_of_length_eq_zero h0) hne
 ·obtain ⟨d,d1,d2,d3⟩:=hrvs_of (S:=fun b=>T b∧b < w.heap.size∧gb≠b) hl (fun k hk=>by
   obtain ⟨cs,c1,c2⟩:=hE k hk
   exact ⟨cs,c1,rdHr_good.more c2 fun b hb=>⟨hb.1,hb.2.1,fun e=>hb.2.2 (by rw [e];rfl)⟩⟩)
  have hlt:gb < w.heap.size:=(Array.getElem?_eq_some_iff.1 hg).1
  have hdl:d.length=l.length:=by rw [←d1,List.length_map]
  refine ⟨gb,cap,d,rfl,hb,hlt,d1,⟨fun _=>rfl,HrV.one,fun j hj=>?_,hlt⟩,d3⟩
  rw [size_flatK,List.size_toArray] at hj
  refine ⟨?_,by unfold World.frozen?;rw [hg];simp⟩
  rw [cell_of_row w gb (0+j) cur e (0,0) hg,Nat.zero_add]
  have q:=flat_get hj
  rw [d2,←ht,List.getElem?_take,if_pos (by omega)] at q
  simpa using q
theorem own_sorted {T:Nat→Prop} {w W:World} {base:Nat} {e:TypeId} {gb cap n:Nat} {l:List Hr} {d Z:List HrV} (h:Grow rdHr 8 T w base e (.slice (some ⟨gb,0,none⟩) n cap) l) (hT:∀b,T b→gb≠b) (hd:d.map (·.x)=l) (R:RowK HrV.cs 8 w gb 0 d.toArray) (hr:∀r ∈ d,rdHr w (fun b=>T b∧b < w.heap.size∧gb≠b) r.x r.cs)
  (hZ:Z.length=d.length) (hm:∀r ∈ Z,r ∈ d) (S:SWK HrV.cs 8 w gb 0 Z.toArray W):Grow rdHr 8 T W base e (.slice (some ⟨gb,0,none⟩) n cap) (Z.map (·.x)):=by
 obtain ⟨css,hl,ho,hE⟩:=h
 rcases ho.2 with ⟨h1,_⟩|⟨gb',cap',cur,e1,hb,hg,hn,hmx,hs,ht⟩
 ·cases h1
 ·simp only [Value.slice.injEq,Option.some.injEq,Addr.mk.injEq,and_true] at e1
  obtain ⟨rfl,rfl,rfl⟩:=e1
  have hdl:d.length=l.length:=by rw [←hd,List.length_map]
  obtain ⟨cur',g1,g2⟩:=swk_heap S hg
  have hH:=S.holds R.hblk R.hH (by simpa using hZ)
  have hn':l.length=(Z.map (·.x)).length:=by rw [List.length_map,hZ,hdl]
  refine ⟨Z.map (·.cs),by rw [List.length_map,List.length_map],⟨?_,.inr ⟨gb,cap,cur',by rw [←hn'],hb,g1,by rw [←hn'];exact hn,hmx,by rw [g2,hs],?_⟩⟩,fun k hk=>?_⟩
  ·rw [flatten_len 8 (fun cs hc=>by obtain ⟨r,_,rfl⟩:=List.mem_map.1 hc;rfl),List.length_map,List.length_map]
  ·refine List.ext_getElem? fun t=>?_
   rw [List.getElem?_take]
   have hcs:cur'.size=cap*8:=by rw [g2,hs]
   by_cases htl:t < (Z.map (·.x)).length*8
   ·rw [if_pos htl,flat_get (by rw [List.length_map] at htl;exact htl)]
    have q:=(hH t (by rw [size_flatK];rw [List.length_map] at htl;simpa using htl)).1
    rw [cell_of_row W gb (0+t) cur' e (0,0) g1,Nat.zero_add] at q
    simpa using q
   ·rw [if_neg htl,List.getElem?_eq_none]
    rw [flatten_len 8 (fun cs hc=>by obtain ⟨r,_,rfl⟩:=List.mem_map.1 hc;rfl),List.length_map]
    rw [List.length_map] at htl
    omega
  ·rw [List.length_map] at hk
   refine ⟨Z[k].cs,by simp [hk],?_⟩
   rw [List.getElem_map]
   refine rdHr_good.both (hr _ (hm _ (List.getElem_mem hk))) (fun b hb=>swk_other S b (Ne.symm hb.2.2) hb.2.1) (fun b hb=>⟨hb.1,Nat.lt_of_lt_of_le hb.2.1 S.le,fun hh=>?_⟩)
   simp only [Value.ownBlock,Option.some.injEq] at hh
   exact hb.2.2 hh
def cfN (r s:HrV):Int:=cmpN r.x.e.n s.x.e.n
theorem lt_n (r s:HrV):ltOf cfN r s=Op.bytesLess r.x.e.n.toList s.x.e.n.toList:=cmpN_lt _ _
theorem swo_n:SWO (ltOf cfN) where
 irrefl r:=by
  rw [lt_n]
  cases h:Op.bytesLess r.x.e.n.toList r.x.e.n.toList with
  | false=>rfl
  | true=>exact absurd h (blt_self _)
 trans r s t h k:=by
  rw [lt_n] at h k ⊢
  exact blt_tr h k
 ntrans r s t h k:=by
  rw [lt_n] at h k ⊢
  cases q:Op.bytesLess r.x.e.n.toList t.x.e.n.toList with
  | false=>rfl
  | true=>
   rcases blt_tot r.x.e.n s.x.e.n with a|a|a
   ·unfold blt at a;rw [h] at a;cases a
   ·exact absurd (blt_tr a q) (by unfold blt;rw [k];simp)
   ·rw [←a,q] at k;cases k
end Go.Proofs.YtboinnjncaehkaaGreatDoor
namespace Go.Proofs
open Go.Shelf
def Tryz.laysSlF020_f110_ren:Go.Shelf.Ren:=⟨fun|20=>110|n=>n,fun|24=>36|22=>23|3=>3|25=>62|4=>4|0=>0|n=>n,fun|n=>n⟩
theorem Tryz.laysSlF020_f110:Go.Proofs.SlLaysF0.n20 Tryz.prog Tryz.laysSlF020_f110_ren:={
 mixed:=by kernel_rfl
 f20:=⟨Tryz.f110.name,by decide,Tryz.func110.trans (congrArg some (by kernel_rfl))⟩
 t0:=Tryz.underlying0
 a0:=Tryz.isAgg0
 z0:=Tryz.sizeOf0
 v0:=Tryz.zeroValue0
 t3:=Tryz.underlying3
 a3:=Tryz.isAgg3
 z3:=Tryz.sizeOf3
 v3:=Tryz.zeroValue3
 t4:=Tryz.underlying4
 a4:=Tryz.isAgg4
 z4:=Tryz.sizeOf4
 v4:=Tryz.zeroValue4
 t22:=Tryz.underlying23
 a22:=Tryz.isAgg23
 z22:=Tryz.sizeOf23
 v22:=Tryz.zeroValue23
 t25:=Tryz.underlying62
 a25:=Tryz.isAgg62
 z25:=Tryz.sizeOf62
 v25:=Tryz.zeroValue62 }
open Go.RowKit Go.Lib Go.Sort in
theorem Tryz.insertionSortCmpFunc {α:Type} [Inhabited α] (k:Nat) (aE:∀w,(isAgg (Tryz.laysSlF020_f110_ren.t 24)).run Tryz.prog w=.ok true w) (zE:∀w,(Go.sizeOf (Tryz.laysSlF020_f110_ren.t 24)).run Tryz.prog w=.ok k w) (enc:α→List Value) (hk:∀x,(enc x).length=k) (h1:∀x,∀v ∈ enc x,v.oneCell'=true) (cf:α→α→Int) (g:Nat) (cb:Array Value) (blk off cap a b:Nat) (d:Array α) (w:World) (eg:∀args w,(callFunc g args).run Tryz.prog w=.ok (.enter g args) w) (hcmp:CmpLays Tryz.prog g cb enc k cf blk off d.size w) (hH:HoldsK enc k w blk off d) (hblk:blk < w.heap.size) (hab:a≤b) (hb:b≤d.size) (hsz:d.size < 4611686018427387904) :
  Calls Tryz.prog 110 #[.slice (some ⟨blk,off,none⟩) d.size cap,.int .i64 a,.int .i64 b,.func (.func g) #[] cb] w fun e w'=>
   e=.returned (.tuple #[])∧∃n os,w'=sortWorldK enc k w blk off n (Sort.insertionSort (ltOf cf) d a b) os:=AnyQ.insertionSortCmpFunc Tryz.laysSlF020_f110 k aE zE enc hk h1 cf g cb blk off cap a b d w eg hcmp hH hblk hab hb hsz
def Tryz.laysSlF06_f34_ren:Go.Shelf.Ren:=⟨fun|6=>34|15=>62|14=>61|28=>118|29=>119|20=>110|21=>111|22=>112|23=>113|24=>114|25=>115|26=>116|27=>117|46=>169|47=>170|48=>171|49=>172|50=>173|57=>204|n=>n,fun|22=>23|24=>36|25=>62|3=>3|39=>97|0=>0|53=>146|55=>148|4=>4|46=>139|45=>138|50=>143|5=>5|9=>9|66=>194|70=>198|76=>218|77=>219|n=>n,fun|n=>n⟩
theorem Tryz.laysSlF06_f34:Go.Proofs.SlLaysF0.n6 Tryz.prog Tryz.laysSlF06_f34_ren:={
 mixed:=by kernel_rfl
 f6:=⟨Tryz.f34.name,by decide,Tryz.func34.trans (congrArg some (by kernel_rfl))⟩
 f14:=⟨Tryz.f61.name,by decide,Tryz.func61.trans (congrArg some (by kernel_rfl))⟩
 f15:=Tryz.func62.trans (congrArg some (by kernel_rfl))
 f20:=⟨Tryz.f110.name,by decide,Tryz.func110.trans (congrArg some (by kernel_rfl))⟩
 f21:=⟨Tryz.f111.name,by decide,Tryz.func111.trans (congrArg some (by kernel_rfl))⟩
 f22:=⟨Tryz.f112.name,by decide,Tryz.func112.trans (congrArg some (by kernel_rfl))⟩
 f23:=⟨Tryz.f113.name,by decide,Tryz.func113.trans (congrArg some (by kernel_rfl))⟩
 f24:=⟨Tryz.f114.name,by decide,Tryz.func114.trans (congrArg some (by kernel_rfl))⟩
 f25:=⟨Tryz.f115.name,by decide,Tryz.func115.trans (congrArg some (by kernel_rfl))⟩
 f26:=⟨Tryz.f116.name,by decide,Tryz.func116.trans (congrArg some (by kernel_rfl))⟩
 f27:=⟨Tryz.f117.name,by decide,Tryz.func117.trans (congrArg some (by kernel_rfl))⟩
 f28:=Tryz.func118.trans (congrArg some (by kernel_rfl))
 f29:=Tryz.func119.trans (congrArg some (by kernel_rfl))
 f46:=⟨Tryz.f169.name,by decide,Tryz.func169.trans (congrArg some (by kernel_rfl))⟩
 f47:=Tryz.func170.trans (congrArg some (by kernel_rfl))
 f48:=Tryz.func171.trans (congrArg some (by kernel_rfl))
 f49:=⟨Tryz.f172.name,by decide,Tryz.func172.trans (congrArg some (by kernel_rfl))⟩
 f50:=⟨Tryz.f173.name,by decide,Tryz.func173.trans (congrArg some (by kernel_rfl))⟩
 f57:=⟨Tryz.f204.name,by decide,Tryz.func204.trans (congrArg some (by kernel_rfl))⟩
 t0:=Tryz.underlying0
 a0:=Tryz.isAgg0
 z0:=Tryz.sizeOf0
 v0:=Tryz.zeroValue0
 t3:=Tryz.underlying3
 a3:=Tryz.isAgg3
 z3:=Tryz.sizeOf3
 v3:=Tryz.zeroValue3
 t4:=Tryz.underlying4
 a4:=Tryz.isAgg4
 z4:=Tryz.sizeOf4
 v4:=Tryz.zeroValue4
 t5:=Tryz.underlying5
 a5:=Tryz.isAgg5
 z5:=Tryz.sizeOf5
 v5:=Tryz.zeroValue5
 t9:=Tryz.underlying9
 a9:=Tryz.isAgg9
 z9:=Tryz.sizeOf9
 v9:=Tryz.zeroValue9
 t22:=Tryz.underlying23
 a22:=Tryz.isAgg23
 z22:=Tryz.sizeOf23
 v22:=Tryz.zeroValue23
 t25:=Tryz.underlying62
 a25:=Tryz.isAgg62
 z25:=Tryz.sizeOf62
 v25:=Tryz.zeroValue62
 t39:=Tryz.underlying97
 a39:=Tryz.isAgg97
 z39:=Tryz.sizeOf97
 v39:=Tryz.zeroValue97
 t45:=Tryz.underlying138
 a45:=Tryz.isAgg138
 z45:=Tryz.sizeOf138
 v45:=Tryz.zeroValue138
 t46:=Tryz.underlying139
 a46:=Tryz.isAgg139
 z46:=Tryz.sizeOf139
 v46:=Tryz.zeroValue139
 t50:=Tryz.underlying143
 a50:=Tryz.isAgg143
 z50:=Tryz.sizeOf143
 v50:=Tryz.zeroValue143
 t53:=Tryz.underlying146
 a53:=Tryz.isAgg146
 z53:=Tryz.sizeOf146
 v53:=Tryz.zeroValue146
 t55:=Tryz.underlying148
 a55:=Tryz.isAgg148
 z55:=Tryz.sizeOf148
 v55:=Tryz.zeroValue148
 t66:=Tryz.underlying194
 a66:=Tryz.isAgg194
 z66:=Tryz.sizeOf194
 v66:=Tryz.zeroValue194
 t70:=Tryz.underlying198
 a70:=Tryz.isAgg198
 z70:=Tryz.sizeOf198
 v70:=Tryz.zeroValue198
 t76:=Tryz.underlying218
 a76:=Tryz.isAgg218
 z76:=Tryz.sizeOf218
 v76:=Tryz.zeroValue218
 t77:=Tryz.underlying219
 a77:=Tryz.isAgg219
 z77:=Tryz.sizeOf219
 v77:=Tryz.zeroValue219 }
open Go.RowKit Go.Lib Go.Sort in
theorem Tryz.slices_SortFunc {α:Type} [Inhabited α] (k:Nat) (aE:∀w,(isAgg (Tryz.laysSlF06_f34_ren.t 24)).run Tryz.prog w=.ok true w) (zE:∀w,(Go.sizeOf (Tryz.laysSlF06_f34_ren.t 24)).run Tryz.prog w=.ok k w) (enc:α→List Value) (hk:∀x,(enc x).length=k) (h1:∀x,∀v ∈ enc x,v.oneCell'=true) (cf:α→α→Int) (hO:SWO (ltOf cf)) (g:Nat) (cb:Array Value) (blk off cap:Nat) (d:Array α) (w:World) (eg:∀args w,(callFunc g args).run Tryz.prog w=.ok (.enter g args) w) (hcmp:CmpLays Tryz.prog g cb enc k cf blk off d.size w) (hH:HoldsK enc k w blk off d) (hblk:blk < w.heap.size) (hsz:d.size < 4611686018427387904) :
  Calls Tryz.prog 34 #[.slice (some ⟨blk,off,none⟩) d.size cap,.func (.func g) #[] cb] w fun e w'=>
   e=.returned (.tuple #[])∧∃d' n os,PermIn 0 d.size d d'∧SortedIn (ltOf cf) 0 d.size d'∧w'=sortWorldK enc k w blk off n d' os:=AnyQ.slices_SortFunc Tryz.laysSlF06_f34 k aE zE enc hk h1 cf hO g cb blk off cap d w eg hcmp hH hblk hsz
open Go.RowKit Go.Lib Go.Sort in
theorem Tryz.insertionSortCmpFunc_none {α:Type} [Inhabited α] (p:Option Addr) (cap:Nat) (fv:Value) (w:World) :
  Calls Tryz.prog 110 #[.slice p 0 cap,.int .i64 0,.int .i64 0,fv] w fun e w'=>e=.returned (.tuple #[])∧w'=w:=AnyF.insertionSortCmpFunc_none Tryz.laysSlF020_f110 p cap fv w
open Go.RowKit Go.Lib Go.Sort in
theorem Tryz.slices_SortFunc_none {α:Type} [Inhabited α] (p:Option Addr) (cap:Nat) (fv:Value) (w:World) :
  Calls Tryz.prog 34 #[.slice p 0 cap,fv] w fun e w'=>e=.returned (.tuple #[])∧w'=w:=AnyF.slices_SortFunc_none Tryz.laysSlF06_f34 p cap fv w
end Go.Proofs
namespace Go.Proofs.YtboinnjncaehkaaGreatDoor
open Go.RowKit Go.Sort
def SrtN (l:List Hr):Prop:=l.Pairwise fun x y=>Op.bytesLess y.e.n.toList x.e.n.toList=false
theorem eqv_n (z x:HrV):eqvB (ltOf cfN) z x=decide (x.x.e.n=z.x.e.n):=by
 unfold eqvB
 rw [lt_n,lt_n]
 by_cases h:x.x.e.n=z.x.e.n
 ·rw [decide_eq_true h,h]
  cases q:Op.bytesLess z.x.e.n.toList z.x.e.n.toList with
  | false=>rfl
  | true=>exact absurd q (blt_self _)
 ·rw [decide_eq_false h]
  rcases blt_tot z.x.e.n x.x.e.n with a|a|a
  ·unfold blt at a;rw [a];rfl
  ·unfold blt at a;rw [a];simp
  ·exact absurd a.symm h
theorem flt_names {Z d:List HrV} (h:Flt (ltOf cfN) Z d) (nm:ByteArray):(Z.map (·.x)).filter (fun x=>decide (x.e.n=nm))=(d.map (·.x)).filter (fun x=>decide (x.e.n=nm)):=by
 have q:=h ⟨⟨⟨nm,nm,[],[],[],[]⟩,false,false⟩,none,0,none,0,none,0,none,0⟩
 rw [show eqvB (ltOf cfN) ⟨⟨⟨nm,nm,[],[],[],[]⟩,false,false⟩,none,0,none,0,none,0,none,0⟩=fun x:HrV=>decide (x.x.e.n=nm) from funext fun x=>eqv_n _ x] at q
 rw [List.filter_map,List.filter_map]
 have:=congrArg (List.map (fun r:HrV=>r.x)) q
 exact this
theorem srt_names {Z:List HrV} (h:Srt (ltOf cfN) Z):SrtN (Z.map (·.x)):=by
 refine List.pairwise_map.2 (List.Pairwise.imp (fun {r s} q=>?_) h)
 rw [lt_n] at q
 exact q
theorem cl_any (blk size:Nat) (w:World):CmpLays Tryz.prog 35 #[] HrV.cs 8 cfN blk 0 size w:=fun m os dk hs x y=>(parse1h_any x y _).mono fun e w' h=>h
theorem clf_any (q:Addr) (blk size:Nat) (w:World) (hq:q.block < w.heap.size) (hne:q.block≠blk) (hc:w.cell? q=some (.func (.func 33) #[] #[])) :
  CmpLays Tryz.prog 152 #[.pointer (some q)] HrV.cs 8 cfN blk 0 size w:=fun m os dk hs x y=>by
 have S:SWK HrV.cs 8 w blk 0 dk (sortWorldK HrV.cs 8 w blk 0 m dk os):=⟨m,os,rfl⟩
 refine (firsts1_any x y q _ (Nat.lt_of_lt_of_le hq S.le) ?_).mono fun e w' h=>h
 rw [World.cell?_of_block (swk_other S q.block hne hq)]
 exact hc
theorem ins_c (g:Nat) (cb:Array Value) (eg:∀args w,(callFunc g args).run Tryz.prog w=.ok (.enter g args) w) (blk cap N:Nat) (d0:Array HrV) (w0:World) (hcmp:CmpLays Tryz.prog g cb HrV.cs 8 cfN blk 0 d0.size w0) (h0:d0.size=N) (R:RowK HrV.cs 8 w0 blk 0 d0) (hsz:N < 1000000):InsC Tryz.prog HrV.cs 8 cfN g cb blk 0 cap N w0:=by
 intro a b Pl X Q w ha hb hN S
 have hs:(Pl++(X++Q)).toArray.size=N:=by rw [List.size_toArray,hN]
 have hC:CmpLays Tryz.prog g cb HrV.cs 8 cfN blk 0 (Pl++(X++Q)).toArray.size w:=fun m os dk hdk x y=>by
  obtain ⟨n0,os0,rfl⟩:=S
  rw [sortWorldK_on HrV.cs 8 w0 blk 0 n0 m _ dk os0 os R.hblk hdk]
  exact hcmp _ _ dk (by rw [hdk,hs,h0]) x y
 have hl:N=Pl.length+(X.length+Q.length):=by rw [hN];simp
 have h:=Tryz.insertionSortCmpFunc 8 Tryz.isAgg36 Tryz.sizeOf36 HrV.cs R.hk R.h1 cfN g cb blk 0 cap a b _ w eg hC (S.holds R.hblk R.hH (by rw [hs,h0])) (S.lt R.hblk) (by omega) (by rw [hs];omega) (by rw [hs];omega)
 rw [hs] at h
 refine h.mono ?_
 rintro e w' ⟨rfl,n,os,rfl⟩
 obtain ⟨Z,z1,z2,z3,z4⟩:=ins_list swo_n Pl X Q ha hb
 rw [z1]
 exact ⟨rfl,Z,z2,z3,z4,S.on R.hblk n _ os (by simp [z2])⟩
theorem sst7_any {T:Nat→Prop} {base:Nat} {e:TypeId} (v:Value) (l:List Hr) (q:Addr) (w:World) (hG:Grow rdHr 8 T w base e v l) (hne:l≠[]) (hT:∀b,T b→b < base) (hq:q.block < base) (hbs:base≤w.heap.size) (hc:w.cell? q=some (.func (.func 33) #[] #[])) (hl:l.length≤200) :
  Calls Tryz.prog 151 #[v,.func (.func 152) #[] #[.pointer (some q)]] w fun e' w'=>e'=.returned (.tuple #[])∧(∃l',Grow rdHr 8 T w' base e v l'∧l'.length=l.length∧SrtN l'∧∀nm,l'.filter (fun x=>decide (x.e.n=nm))=l.filter (fun x=>decide (x.e.n=nm)))∧Below base w w':=by
 have eg:∀args w,(callFunc 152 args).run Tryz.prog w=.ok (.enter 152 args) w:=fun _ _=>by kernel_rfl
 have ei:∀args w,(callFunc 110 args).run Tryz.prog w=.ok (.enter 110 args) w:=fun _ _=>by kernel_rfl
 obtain ⟨gb,cap,d,rfl,g1,g2,g3,R,g4⟩:=own_row hG hne
 have hdl:d.length=l.length:=by rw [←g3,List.length_map]
 have hC:=clf_any q gb d.toArray.size w (by omega) (by omega) hc
 have hs:d.toArray.size=l.length:=by simp [hdl]
 refine (sst_any ss_prog HrV.cs cfN swo_n 152 #[.pointer (some q)] eg gb 0 cap l.length d.toArray w w hC hs R (by omega) ei (ins_c _ _ eg gb cap l.length d.toArray w hC hs R (by omega)) d hdl.symm (SWK.start R.hH)).mono ?_
 rintro e' w' ⟨rfl,Z,hZl,z1,z2,z3⟩
 have hperm:∀r,r ∈ Z↔r ∈ d:=fun r=>⟨z2.mem swo_n,z2.symm.mem swo_n⟩
 refine ⟨rfl,⟨Z.map (·.x),own_sorted hG (fun b hb he=>by have:=hT b hb;omega) g3 R g4 hZl (fun r hr=>(hperm r).1 hr) z3,by rw [List.length_map,hZl,hdl],srt_names z1,fun nm=>by rw [flt_names z2,g3]⟩,swk_below z3 g1 g2⟩
theorem srt7_nil (p:Option Addr) (cap:Nat) (fv:Value) (w:World):Calls Tryz.prog 34 #[.slice p 0 cap,fv] w fun e w'=>e=.returned (.tuple #[])∧w'=w:=Tryz.slices_SortFunc_none (α:=HrV) p cap fv w
set_option maxHeartbeats 4000000 in
theorem stb7_nil (p:Option Addr) (cap:Nat) (fv:Value) (w:World):Calls Tryz.prog 193 #[.slice p 0 cap,.int .i64 0,fv] w fun e w'=>e=.returned (.tuple #[])∧w'=w:=by
 have HI:=Lib.hid (fun (W:World)=>Tryz.insertionSortCmpFunc_none (α:=HrV) p cap fv W)
 go_enter Tryz.func193,Tryz.ntmps193
 go_wp2
 refine wp_loop_rounds 1 ?_
 rw [rounds_succ]
 go_wp2_with fail
 refine Calls.mono (HI.out _) ?_
 rintro e w' ⟨rfl,rfl⟩
 go_wp2
 refine wp_loop_rounds 1 ?_
 rw [rounds_succ]
 go_wp2
 go_end0
 exact ⟨rfl,rfl⟩
set_option maxHeartbeats 4000000 in
theorem sst7_nil (p:Option Addr) (cap:Nat) (fv:Value) (w:World):Calls Tryz.prog 151 #[.slice p 0 cap,fv] w fun e w'=>e=.returned (.tuple #[])∧w'=w:=by
 have HI:=Lib.hid (fun (W:World)=>stb7_nil p cap fv W)
 go_enter Tryz.func151,Tryz.ntmps151
 go_wp2_with fail
 refine (HI.out _).mono ?_
 rintro e w' ⟨rfl,rfl⟩
 go_wp2
 go_end0
 exact ⟨rfl,rfl⟩
end Go.Proofs.YtboinnjncaehkaaGreatDoor
