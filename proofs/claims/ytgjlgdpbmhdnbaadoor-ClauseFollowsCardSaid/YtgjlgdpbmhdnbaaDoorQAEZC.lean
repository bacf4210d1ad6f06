/- What the laws rest on: E12e, N12i, N12j. -/
import Derived.Test.YtgjlgdpbmhdnbaaDoorQADZC
set_option maxRecDepth 100000
set_option linter.unusedVariables false
set_option linter.unusedSimpArgs false
namespace Go.Proofs.YtgjlgdpbmhdnbaaDoor
open Go.RowKit
theorem rows12_info:(Tryd.prog.info? 59).map (fun i=>(i.zero,i.size,i.bytes))=some (some (.slice none 0 0),1,24):=by kernel_rfl
section
variable {P:Program} {ops:Array Oper} {Q:Exit→Act→World→Prop} {md:Region.Mode} {S:World→Prop} {z:Nat}
theorem wpAnyL_three {i k m:Nat} {o p q:Oper} {fuel:Nat} {listed:Array Bool} {a:Act} {w:World} (hr:Region.ready md ops listed=[i,k,m]) (ho:ops[i]?=some o) (hp:ops[k]?=some p) (hq:ops[m]?=some q)
  (h:∀K':Act→World→Prop,Shut (∀a w,S w→(S w→wpAnyL P md ops Q S z fuel (listed.setIfInBounds i true) a w)→K' a w)→if Region.wanted o (yielded ops a.tmps)=true then Oper.wp P o a w K' Q else K' (a.put o.dst undef) w)
  (h2:∀K':Act→World→Prop,Shut (∀a w,S w→(S w→wpAnyL P md ops Q S z fuel (listed.setIfInBounds k true) a w)→K' a w)→if Region.wanted p (yielded ops a.tmps)=true then Oper.wp P p a w K' Q else K' (a.put p.dst undef) w)
  (h3:∀K':Act→World→Prop,Shut (∀a w,S w→(S w→wpAnyL P md ops Q S z fuel (listed.setIfInBounds m true) a w)→K' a w)→if Region.wanted q (yielded ops a.tmps)=true then Oper.wp P q a w K' Q else K' (a.put q.dst undef) w) :
  wpAnyL P md ops Q S z (fuel+1) listed a w:=by
 refine ⟨fun h0=>(by rw [hr] at h0;cases h0),fun j hj=>?_⟩
 rw [hr] at hj
 rcases List.mem_cons.1 hj with rfl|hj
 ·exact wpOp_step ho fun K' hK=>h K' (fun a w hS hW=>hK a w ⟨fun _=>hS,hW hS⟩)
 ·rcases List.mem_cons.1 hj with rfl|hj
  ·exact wpOp_step hp fun K' hK=>h2 K' (fun a w hS hW=>hK a w ⟨fun _=>hS,hW hS⟩)
  ·rw [List.mem_singleton] at hj
   subst hj
   exact wpOp_step hq fun K' hK=>h3 K' (fun a w hS hW=>hK a w ⟨fun _=>hS,hW hS⟩)
end
theorem step_make {P:Program} {ops:Array Oper} {o:Oper} {a:Act} {K:Act→World→Prop} {Q:Exit→Act→World→Prop} {F:Prop} (w:World) (hgd:o.guard=none) (l c:Operand) (t:TypeId) (hop:o.op=Op.makeSlice t l c)
  (base:Nat) (e:TypeId) (i:TypeInfo) (z:Value) (h1:P.underlying t=some (.slice e)) (h2:P.info? e=some i) (h3:i.zero=some z) (h4:i.size=1)
  (L C:Int) (n:Nat) (hl:a.eval l=.int .i64 L) (hc:a.eval c=.int .i64 C) (hL:L=(n:Int)) (hC:C=(n:Int)) (b2:i.bytes*n≤281474976710656) (b3:n≤maxLen) (b4:base≤w.heap.size)
  (hK:∀w',w'.ownsRow base e 1 (.slice (some ⟨w.heap.size,0,none⟩) n n) n (madeCells z.cells (n*1)).toList→w.grownBy w' none→K (a.put o.dst (.slice (some ⟨w.heap.size,0,none⟩) n n)) w') :
  if Region.wanted o (yielded ops a.tmps)=true then Oper.wp P o a w K Q else F:=by
 have hw:Region.wanted o (yielded ops a.tmps)=true:=by simp [Region.wanted,hgd]
 rw [if_pos hw]
 obtain ⟨w',hrun,r1,r2⟩:=run_make_full (P:=P) w base t e i z 1 h1 h2 h3 h4 .i64 .i64 n b2 b3 b4
 subst hL
 subst hC
 unfold Oper.wp
 simp [execOp,hop,hl,hc,hrun,Result.andThen]
 exact hK w' r1 r2
theorem own_full {w:World} {base g n:Nat} {e:TypeId} {u:Value} (h:w.ownsRow base e 1 (.slice (some ⟨g,0,none⟩) n n) n (madeCells #[u] (n*1)).toList):w.heap[g]?=some (.cells (List.replicate n u).toArray e (0,0)):=by
 rcases h.2 with ⟨h',_⟩|⟨g',cap,cur,h',_,hc,_,_,hs,ht⟩
 ·simp at h'
 ·simp only [Value.slice.injEq,Option.some.injEq,Addr.mk.injEq,and_true,true_and] at h'
  obtain ⟨rfl,rfl⟩:=h'
  rw [hc]
  have:cur=(List.replicate n u).toArray:=by
   apply Array.toList_inj.1
   rw [Nat.mul_one] at ht hs
   rw [toList_madeCells_one] at ht
   rw [←ht,List.take_of_length_le]
   rw [Array.length_toList,hs];exact Nat.le_refl _
  rw [this]
structure Rg (w:World) (N n:Nat) (W:World) (T H S:Option Nat):Prop where
 b:Below N w W
 q:N≤W.heap.size
 t:∀k,T=some k→N≤k∧W.heap[k]?=some (.cells (List.replicate n (Value.int .i64 0)).toArray 3 (0,0))
 h:∀k,H=some k→N≤k∧W.heap[k]?=some (.cells (List.replicate (2*n+1) (Value.slice none 0 0)).toArray 59 (0,0))
 s:∀k,S=some k→N≤k∧W.heap[k]?=some (.cells #[.slice none 0 0,.slice none 0 0,.slice none 0 0] 41 (0,0))
section
variable {w W W':World} {N n:Nat} {T H S:Option Nat}
theorem Rg.grow (r:Rg w N n W T H S) (hb:Below W.heap.size W W'):Rg w N n W' T H S where
 b:=r.b.trans (hb.mono r.q)
 q:=Nat.le_trans r.q hb.size
 t:=fun k e=>⟨(r.t k e).1,(hb.block k (cb_lt (r.t k e).2)).trans (r.t k e).2⟩
 h:=fun k e=>⟨(r.h k e).1,(hb.block k (cb_lt (r.h k e).2)).trans (r.h k e).2⟩
 s:=fun k e=>⟨(r.s k e).1,(hb.block k (cb_lt (r.s k e).2)).trans (r.s k e).2⟩
theorem grown_below0 (hg:W.grownBy W' none):Below W.heap.size W W':=⟨hg.os,hg.tape,hg.output,hg.size,fun k hk=>hg.block k hk (by simp)⟩
theorem Rg.mkT (r:Rg w N n W none H S) (ho:W'.ownsRow N 3 1 (.slice (some ⟨W.heap.size,0,none⟩) n n) n (madeCells (Value.int .i64 0).cells (n*1)).toList) (hg:W.grownBy W' none):Rg w N n W' (some W.heap.size) H S:=
 let r':=r.grow (grown_below0 hg)
 ⟨r'.b,r'.q,fun k e=>by injection e with e;subst e;exact ⟨r.q,own_full ho⟩,r'.h,r'.s⟩
theorem Rg.mkH (r:Rg w N n W T none S) (ho:W'.ownsRow N 59 1 (.slice (some ⟨W.heap.size,0,none⟩) (2*n+1) (2*n+1)) (2*n+1) (madeCells (Value.slice none 0 0).cells ((2*n+1)*1)).toList) (hg:W.grownBy W' none):Rg w N n W' T (some W.heap.size) S:=
 let r':=r.grow (grown_below0 hg)
 ⟨r'.b,r'.q,r'.t,fun k e=>by injection e with e;subst e;exact ⟨r.q,own_full ho⟩,r'.s⟩
theorem Rg.al (r:Rg w N n W T H none):Rg w N n (W.alloc (.cells #[.slice none 0 0,.slice none 0 0,.slice none 0 0] 41)) T H (some W.heap.size):=
 let r':=r.grow ((Below.refl _ W).alloc (Nat.le_refl _) (.cells #[.slice none 0 0,.slice none 0 0,.slice none 0 0] 41))
 ⟨r'.b,r'.q,r'.t,r'.h,fun k e=>by injection e with e;subst e;exact ⟨r.q,heap_alloc_new W _⟩⟩
theorem Rg.fin {tb hb sb:Nat} (r:Rg w N n W (some tb) (some hb) (some sb)):∃V,V=(((W.setCell ⟨sb,0,none⟩ (.slice (some ⟨tb,0,none⟩) n n)).setCell ⟨sb,1,none⟩ (.slice none 0 0)).setCell ⟨sb,2,none⟩ (.slice (some ⟨hb,0,none⟩) (2*n+1) (2*n+1)))∧Below N w V∧
  SpM V N sb tb hb n (fun _=>0) (.slice none 0 0) (fun _=>.slice none 0 0) (fun _=>.slice none 0 0) ⟨List.replicate n 0,[],[],fun _=>[]⟩:=by
 obtain ⟨t1,t2⟩:=r.t tb rfl
 obtain ⟨h1,h2⟩:=r.h hb rfl
 obtain ⟨s1,s2⟩:=r.s sb rfl
 have nt:sb≠tb:=cb_ne s2 t2 (by decide)
 have nh:sb≠hb:=cb_ne s2 h2 (by decide)
 have k0:=cb_set s2 0 (.slice (some ⟨tb,0,none⟩) n n)
 have k1:=cb_set k0 1 (.slice none 0 0)
 have k2:=cb_set k1 2 (.slice (some ⟨hb,0,none⟩) (2*n+1) (2*n+1))
 have O:∀b,b≠sb→(((W.setCell ⟨sb,0,none⟩ (.slice (some ⟨tb,0,none⟩) n n)).setCell ⟨sb,1,none⟩ (.slice none 0 0)).setCell ⟨sb,2,none⟩ (.slice (some ⟨hb,0,none⟩) (2*n+1) (2*n+1))).heap[b]?=W.heap[b]?:=fun b hb'=>
  ((heap_setCell_other _ ⟨sb,2,none⟩ b _ hb').trans (heap_setCell_other _ ⟨sb,1,none⟩ b _ hb')).trans (heap_setCell_other _ ⟨sb,0,none⟩ b _ hb')
 refine ⟨_,rfl,((r.b.setCell (p:=⟨sb,0,none⟩) s1 _).setCell (p:=⟨sb,1,none⟩) s1 _).setCell (p:=⟨sb,2,none⟩) s1 _,?_⟩
 exact {
  sbx:=by rw [k2];rfl
  nl:=List.length_replicate
  tbx:=by rw [O tb (Ne.symm nt),t2,List.map_replicate]
  mrow:=World.ownsRow_nil _ _ _ _
  mtb:=by intro e;cases e
  hbx:=by
   rw [O hb (Ne.symm nh),h2]
   congr 2
   apply Array.toList_inj.1
   apply List.ext_getElem
   ·simp
   ·intro i a b;simp
  rows:=fun k hk=>World.ownsRow_nil _ _ _ _
  dis:=fun k k' b _ _ e=>by cases e
  box:=fun j hj=>absurd hj (Nat.not_lt_zero _)
  pbi:=fun j j' hj=>absurd hj (Nat.not_lt_zero _)
  pbn:=fun j hj=>absurd hj (Nat.not_lt_zero _)
  rest:=fun j hj=>absurd hj (Nat.not_lt_zero _)
  wlb:=fun k hk j hj=>absurd hj List.not_mem_nil
  ns:=s1
  nt:=t1
  nh:=h1
  nw:=by rw [World.size_setCell,World.size_setCell,World.size_setCell];exact r.q }
end
def UnA (n:Int) (l:List (List Int)) (g:List Int) (r:List Int) (ok:Bool):Prop:=(okF n l=false∧r=[]∧ok=false)∨(okF n l=true∧IsU n.toNat l g r ok)
theorem unA_one {n:Int} {l:List (List Int)} {g r r':List Int} {ok ok':Bool} (h:UnA n l g r ok) (h':UnA n l g r' ok'):r=r'∧ok=ok':=by
 rcases h with ⟨a,b,c⟩|⟨a,b⟩<;>rcases h' with ⟨a',b',c'⟩|⟨a',b'⟩
 ·exact ⟨b.trans b'.symm,c.trans c'.symm⟩
 ·rw [a] at a';cases a'
 ·rw [a] at a';cases a'
 ·exact isU_one b b'
def UnP (n:Int) (l:List (List Int)) (g:List Int) (w:World) (e:Ending) (w':World):Prop:=
 ∃r ok A c,e=.returned (.tuple #[.slice A r.length c,.bool ok])∧UnA n l g r ok∧rdInts w' (lt_ w'.heap.size) r [.slice A r.length c]∧Below w.heap.size w w'
theorem s3cells {w W:World} {N n:Nat} {T H:Option Nat} {sb:Nat} (r:Rg w N n W T H (some sb)):W.cell? ⟨sb,0,none⟩=some (.slice none 0 0)∧W.cell? ⟨sb,1,none⟩=some (.slice none 0 0)∧W.cell? ⟨sb,2,none⟩=some (.slice none 0 0)∧W.frozen? ⟨sb,0,none⟩=false∧W.frozen? ⟨sb,1,none⟩=false∧W.frozen? ⟨sb,2,none⟩=false:=by
 obtain ⟨-,h⟩:=r.s sb rfl
 exact ⟨by rw [cb_cell h];rfl,by rw [cb_cell h];rfl,by rw [cb_cell h];rfl,cb_froz h 0,cb_froz h 1,cb_froz h 2⟩
set_option maxHeartbeats 32000000 in
theorem units12_any (n:Int) (Al Ag:Option Addr) (nl cl ng cg:Nat) (l:List (List Int)) (g:List Int) (w:World) (hl:rdIss w (lt_ w.heap.size) l [.slice Al nl cl]) (hg:rdInts w (lt_ w.heap.size) g [.slice Ag ng cg]) :
  Calls Tryd.prog 9 #[.int .i64 n,.slice Al nl cl,.slice Ag ng cg] w fun e w'=>UnP n l g w e w'∧True:=by
 obtain ⟨fi,hi,hz0,hz1,hz2⟩:=info_parts int12_info
 obtain ⟨gi,gh,gz0,gz1,gz2⟩:=info_parts rows12_info
 have KR:=Lib.hid (right12_any n Al nl cl l w hl)
 cases hok:okF n l
 ·have PX:=Lib.hid (fun W (hb:Below w.heap.size w W)=>(show UnP n l g w (.returned (.tuple #[.slice none 0 0,.bool false])) W from ⟨[],false,none,0,rfl,Or.inl ⟨hok,rfl,rfl⟩,rdRow_nil _ _,hb⟩))
  rw [hok] at KR
  clear hok hl hg
  go_enter Tryd.func9,Tryd.ntmps9
  go_wp2_with fail
  refine KR.out.mono ?_
  rintro e w1 ⟨rfl,hb⟩
  have PY:=Lib.hid (PX.out w1 hb)
  clear PX hb
  go_wp2
  go_ret2
  first|exact PY.out|exact ⟨PY.out,trivial⟩
 obtain ⟨o1,o2,o3,o4⟩:=okF_spec hok
 obtain ⟨m,rfl⟩:∃m:Nat,n=(m:Int):=⟨n.toNat,by omega⟩
 rw [Int.toNat_natCast] at o4
 rw [hok] at KR
 have hn:m≤20000:=by omega
 have R:=Lib.hid (fun c hc=>(o4 c hc).2)
 have PB:=Lib.hid (fun W (hB:Bad m l g) (hb:Below w.heap.size w W)=>(show UnP m l g w (.returned (.tuple #[.slice none 0 0,.bool false])) W from ⟨[],false,none,0,rfl,Or.inr ⟨hok,by rw [Int.toNat_natCast];exact Or.inl ⟨rfl,rfl,hB⟩⟩,rdRow_nil _ _,hb⟩))
 have PO:=Lib.hid (fun W r tb (hr:IsU m l g r true) (hl:r.length=m) (hb:Below w.heap.size w W) (hrd:rdInts W (lt_ W.heap.size) r [.slice (some ⟨tb,0,none⟩) m m])=>(show UnP m l g w (.returned (.tuple #[.slice (some ⟨tb,0,none⟩) m m,.bool true])) W from ⟨r,true,_,m,by rw [hl],Or.inr ⟨hok,by rw [Int.toNat_natCast];exact hr⟩,by rw [hl];exact hrd,hb⟩))
 clear hok o1 o2 o4
 obtain ⟨N,hN⟩:∃N,N=w.heap.size:=⟨_,rfl⟩
 rw [←hN] at hl hg
 have HLW:=Lib.hid (fun (W:World) (hb:Below N w W)=>rdIss_good.below hl hb)
 have HGW:=Lib.hid (fun (W:World) (hb:Below N w W)=>rdInts_good.below hg hb)
 have hm1:m≤maxLen:=by unfold maxLen;omega
 have hm2:2*m+1≤maxLen:=by unfold maxLen;omega
 have hw1:IntKind.i64.wrap (2*(m:Int))=2*(m:Int):=by rw [IntKind.wrap_i64];omega
 have hw2:IntKind.i64.wrap (2*(m:Int)+1)=2*(m:Int)+1:=by rw [IntKind.wrap_i64];omega
 have hw3:wrap64 (2*(m:Int))=2*(m:Int):=by unfold wrap64;omega
 have hw4:wrap64 (2*(m:Int)+1)=2*(m:Int)+1:=by unfold wrap64;omega
 have CS:=Lib.hid (fun (W:World) T H sb (r:Rg w N m W T H (some sb))=>s3cells r)
 clear hl hg
 go_enter Tryd.func9,Tryd.ntmps9
 go_upto_region 3 with (go_at_call 12;(with_reducible refine KR.out.mono ?_);rintro e w1 ⟨rfl,hb1⟩)
 rw [←hN] at hb1
 have R0:=Lib.hid (show Rg w N m w1.drew none none none from ⟨belD hb1 1,by have:=hb1.size;show N≤w1.heap.size;omega,fun k e=>(by cases e),fun k e=>(by cases e),fun k e=>(by cases e)⟩)
 clear hb1 KR
 go_cut [8] from 13 to 19 (fun s8 wx=>∃sb tb hb:Nat,s8=.pointer (some ⟨sb,0,none⟩)∧Below N w wx∧SpM wx N sb tb hb m (fun _=>0) (.slice none 0 0) (fun _=>.slice none 0 0) (fun _=>.slice none 0 0) ⟨List.replicate m 0,[],[],fun _=>[]⟩)
 case first=>
  refine wp_region_noPanic ?_
  refine wp_region_L (fun W=>True) 8 (by kernel_rfl) trivial (fun hHeld=>?_)
  refine wpAnyL_take (i:=0) (v:=?_) [6,1] rfl (by kernel_rfl) (by kernel_rfl) (by kernel_rfl) (fun _ _ _ h=>h) (by kernel_rfl) (by kernel_rfl) (by kernel_rfl) (Or.inl ⟨by rfl,?_⟩) (by assumption) ?_
  rotate_left
  ·intro w hSw
   try dsimp only at hSw
   go_simp
   first|done|with_reducible rfl
  try simp only [Act.put,List.getElem_toArray,List.getElem_cons_zero,List.getElem_cons_succ,List.setIfInBounds_toArray,List.set_cons_zero,List.set_cons_succ]
  refine wpAnyL_take (i:=2) (v:=?_) [6,5,4,3] rfl (by kernel_rfl) (by kernel_rfl) (by kernel_rfl) (fun _ _ _ h=>h) (by kernel_rfl) (by kernel_rfl) (by kernel_rfl) (Or.inl ⟨by rfl,?_⟩) (by assumption) ?_
  rotate_left
  ·intro w hSw
   try dsimp only at hSw
   go_simp
   first|done|with_reducible rfl
  try simp only [Act.put,List.getElem_toArray,List.getElem_cons_zero,List.getElem_cons_succ,List.setIfInBounds_toArray,List.set_cons_zero,List.set_cons_succ]
  refine wpAnyL_take (i:=3) (v:=?_) [6,5,4] rfl (by kernel_rfl) (by kernel_rfl) (by kernel_rfl) (fun _ _ _ h=>h) (by kernel_rfl) (by kernel_rfl) (by kernel_rfl) (Or.inl ⟨by rfl,?_⟩) (by assumption) ?_
  rotate_left
  ·intro w hSw
   try dsimp only at hSw
   go_simp
   first|done|with_reducible rfl
  try simp only [Act.put,List.getElem_toArray,List.getElem_cons_zero,List.getElem_cons_succ,List.setIfInBounds_toArray,List.set_cons_zero,List.set_cons_succ]
  refine wpAnyL_take (i:=4) (v:=?_) [6,5] rfl (by kernel_rfl) (by kernel_rfl) (by kernel_rfl) (fun _ _ _ h=>h) (by kernel_rfl) (by kernel_rfl) (by kernel_rfl) (Or.inl ⟨by rfl,?_⟩) (by assumption) ?_
  rotate_left
  ·intro w hSw
   try dsimp only at hSw
   go_simp
   first|done|with_reducible rfl
  try simp only [Act.put,List.getElem_toArray,List.getElem_cons_zero,List.getElem_cons_succ,List.setIfInBounds_toArray,List.set_cons_zero,List.set_cons_succ]
  refine wpAnyL_three (i:=1) (k:=5) (m:=7) (by kernel_rfl) rfl rfl rfl (fun K hK=>?_) (fun K hK=>?_) (fun K hK=>?_)
  ·refine step_make _ (by rfl) _ _ 23 (by rfl) N 3 fi _ Tryd.underlying23 hi hz0 hz1 (m:Int) (m:Int) m (by rfl) (by rfl) rfl rfl (by rw [hz2];omega) hm1 R0.out.q ?_
   intro w0 hr hg
   have R1:=Lib.hid (show Rg w N m _ (some w1.heap.size) none none from R0.out.mkT hr hg)
   clear hr hg
   refine hK.out _ _ trivial (fun hHeld=>?_)
   clear hK K
   try simp only [Act.put,List.getElem_toArray,List.getElem_cons_zero,List.getElem_cons_succ,List.setIfInBounds_toArray,List.set_cons_zero,List.set_cons_succ]
   refine wpAnyL_two (i:=5) (k:=7) (by kernel_rfl) rfl rfl (fun K hK=>?_) (fun K hK=>?_)
   ·refine step_make _ (by rfl) _ _ 39 (by rfl) N 59 gi _ Tryd.underlying39 gh gz0 gz1 (2*(m:Int)+1) (2*(m:Int)+1) (2*m+1) (by rfl) (by rfl) (by omega) (by omega) (by rw [gz2];omega) hm2 R1.out.q ?_
    intro w1 hr hg
    have R2:=Lib.hid (R1.out.mkH hr hg)
    clear hr hg
    refine hK.out _ _ trivial (fun hHeld=>?_)
    clear hK K
    try simp only [Act.put,List.getElem_toArray,List.getElem_cons_zero,List.getElem_cons_succ,List.setIfInBounds_toArray,List.set_cons_zero,List.set_cons_succ]
    refine wpAnyL_two (i:=6) (k:=7) (by kernel_rfl) rfl rfl (fun K hK=>?_) (fun K hK=>?_)
    ·go_simp
     refine hK.out _ _ trivial (fun hHeld=>?_)
     clear hK K
     try simp only [Act.put,List.getElem_toArray,List.getElem_cons_zero,List.getElem_cons_succ,List.setIfInBounds_toArray,List.set_cons_zero,List.set_cons_succ]
     refine wpAnyL_one (i:=7) (by kernel_rfl) rfl (fun K hK=>?_)
     have R3:=Lib.hid (R2.out.al)
     go_simp
     refine hK.out _ _ trivial (fun hHeld=>?_)
     clear hK K
     try simp only [Act.put,List.getElem_toArray,List.getElem_cons_zero,List.getElem_cons_succ,List.setIfInBounds_toArray,List.set_cons_zero,List.set_cons_succ]
     obtain ⟨V,hV,bV,sV⟩:=R3.out.fin
     have SV:=Lib.hid sV
     have BV:=Lib.hid bV
     clear sV bV
     obtain ⟨z0,z1,z2,zf0,zf1,zf2⟩:=CS.out _ _ _ _ R3.out
     try simp only [go_sem] at z0 z1 z2 zf0 zf1 zf2
     refine wpAnyL_last (by kernel_rfl) rfl (by kernel_rfl) (fun K hK=>?_)
     go_simp
     refine hK.out _ _ ?_
     clear hK K
     refine NoPanic.normal ?_
     go_wp2_with fail
     go_meet
     first|(rw [←hV];exact ⟨_,_,_,rfl,BV.out,SV.out⟩)|(rw [hV] at BV SV;clear hV;have qb:=BV.out;have qs:=SV.out;simp [go_sem] at qb qs;exact ⟨_,_,_,rfl,qb,qs⟩)
    ·have R3:=Lib.hid (R2.out.al)
     go_simp
     refine hK.out _ _ trivial (fun hHeld=>?_)
     clear hK K
     try simp only [Act.put,List.getElem_toArray,List.getElem_cons_zero,List.getElem_cons_succ,List.setIfInBounds_toArray,List.set_cons_zero,List.set_cons_succ]
     refine wpAnyL_one (i:=6) (by kernel_rfl) rfl (fun K hK=>?_)
     go_simp
     refine hK.out _ _ trivial (fun hHeld=>?_)
     clear hK K
     try simp only [Act.put,List.getElem_toArray,List.getElem_cons_zero,List.getElem_cons_succ,List.setIfInBounds_toArray,List.set_cons_zero,List.set_cons_succ]
     obtain ⟨V,hV,bV,sV⟩:=R3.out.fin
     have SV:=Lib.hid sV
     have BV:=Lib.hid bV
     clear sV bV
     obtain ⟨z0,z1,z2,zf0,zf1,zf2⟩:=CS.out _ _ _ _ R3.out
     try simp only [go_sem] at z0 z1 z2 zf0 zf1 zf2
     refine wpAnyL_last (by kernel_rfl) rfl (by kernel_rfl) (fun K hK=>?_)
     go_simp
     refine hK.out _ _ ?_
     clear hK K
     refine NoPanic.normal ?_
     go_wp2_with fail
     go_meet
     first|(rw [←hV];exact ⟨_,_,_,rfl,BV.out,SV.out⟩)|(rw [hV] at BV SV;clear hV;have qb:=BV.out;have qs:=SV.out;simp [go_sem] at qb qs;exact ⟨_,_,_,rfl,qb,qs⟩)
   ·have R2:=Lib.hid (R1.out.al)
    go_simp
    refine hK.out _ _ trivial (fun hHeld=>?_)
    clear hK K
    try simp only [Act.put,List.getElem_toArray,List.getElem_cons_zero,List.getElem_cons_succ,List.setIfInBounds_toArray,List.set_cons_zero,List.set_cons_succ]
    refine wpAnyL_one (i:=5) (by kernel_rfl) rfl (fun K hK=>?_)
    refine step_make _ (by rfl) _ _ 39 (by rfl) N 59 gi _ Tryd.underlying39 gh gz0 gz1 (2*(m:Int)+1) (2*(m:Int)+1) (2*m+1) (by rfl) (by rfl) (by omega) (by omega) (by rw [gz2];omega) hm2 R2.out.q ?_
    intro w2 hr hg
    have R3:=Lib.hid (R2.out.mkH hr hg)
    clear hr hg
    refine hK.out _ _ trivial (fun hHeld=>?_)
    clear hK K
    try simp only [Act.put,List.getElem_toArray,List.getElem_cons_zero,List.getElem_cons_succ,List.setIfInBounds_toArray,List.set_cons_zero,List.set_cons_succ]
    refine wpAnyL_one (i:=6) (by kernel_rfl) rfl (fun K hK=>?_)
    go_simp
    refine hK.out _ _ trivial (fun hHeld=>?_)
    clear hK K
    try simp only [Act.put,List.getElem_toArray,List.getElem_cons_zero,List.getElem_cons_succ,List.setIfInBounds_toArray,List.set_cons_zero,List.set_cons_succ]
    obtain ⟨V,hV,bV,sV⟩:=R3.out.fin
    have SV:=Lib.hid sV
    have BV:=Lib.hid bV
    clear sV bV
    obtain ⟨z0,z1,z2,zf0,zf1,zf2⟩:=CS.out _ _ _ _ R3.out
    try simp only [go_sem] at z0 z1 z2 zf0 zf1 zf2
    refine wpAnyL_last (by kernel_rfl) rfl (by kernel_rfl) (fun K hK=>?_)
    go_simp
    refine hK.out _ _ ?_
    clear hK K
    refine NoPanic.normal ?_
    go_wp2_with fail
    go_meet
    first|(rw [←hV];exact ⟨_,_,_,rfl,BV.out,SV.out⟩)|(rw [hV] at BV SV;clear hV;have qb:=BV.out;have qs:=SV.out;simp [go_sem] at qb qs;exact ⟨_,_,_,rfl,qb,qs⟩)
  ·refine step_make _ (by rfl) _ _ 39 (by rfl) N 59 gi _ Tryd.underlying39 gh gz0 gz1 (2*(m:Int)+1) (2*(m:Int)+1) (2*m+1) (by rfl) (by rfl) (by omega) (by omega) (by rw [gz2];omega) hm2 R0.out.q ?_
   intro w0 hr hg
   have R1:=Lib.hid (show Rg w N m _ none (some w1.heap.size) none from R0.out.mkH hr hg)
   clear hr hg
   refine hK.out _ _ trivial (fun hHeld=>?_)
   clear hK K
   try simp only [Act.put,List.getElem_toArray,List.getElem_cons_zero,List.getElem_cons_succ,List.setIfInBounds_toArray,List.set_cons_zero,List.set_cons_succ]
   refine wpAnyL_two (i:=1) (k:=7) (by kernel_rfl) rfl rfl (fun K hK=>?_) (fun K hK=>?_)
   ·refine step_make _ (by rfl) _ _ 23 (by rfl) N 3 fi _ Tryd.underlying23 hi hz0 hz1 (m:Int) (m:Int) m (by rfl) (by rfl) rfl rfl (by rw [hz2];omega) hm1 R1.out.q ?_
    intro w1 hr hg
    have R2:=Lib.hid (R1.out.mkT hr hg)
    clear hr hg
    refine hK.out _ _ trivial (fun hHeld=>?_)
    clear hK K
    try simp only [Act.put,List.getElem_toArray,List.getElem_cons_zero,List.getElem_cons_succ,List.setIfInBounds_toArray,List.set_cons_zero,List.set_cons_succ]
    refine wpAnyL_two (i:=6) (k:=7) (by kernel_rfl) rfl rfl (fun K hK=>?_) (fun K hK=>?_)
    ·go_simp
     refine hK.out _ _ trivial (fun hHeld=>?_)
     clear hK K
     try simp only [Act.put,List.getElem_toArray,List.getElem_cons_zero,List.getElem_cons_succ,List.setIfInBounds_toArray,List.set_cons_zero,List.set_cons_succ]
     refine wpAnyL_one (i:=7) (by kernel_rfl) rfl (fun K hK=>?_)
     have R3:=Lib.hid (R2.out.al)
     go_simp
     refine hK.out _ _ trivial (fun hHeld=>?_)
     clear hK K
     try simp only [Act.put,List.getElem_toArray,List.getElem_cons_zero,List.getElem_cons_succ,List.setIfInBounds_toArray,List.set_cons_zero,List.set_cons_succ]
     obtain ⟨V,hV,bV,sV⟩:=R3.out.fin
     have SV:=Lib.hid sV
     have BV:=Lib.hid bV
     clear sV bV
     obtain ⟨z0,z1,z2,zf0,zf1,zf2⟩:=CS.out _ _ _ _ R3.out
     try simp only [go_sem] at z0 z1 z2 zf0 zf1 zf2
     refine wpAnyL_last (by kernel_rfl) rfl (by kernel_rfl) (fun K hK=>?_)
     go_simp
     refine hK.out _ _ ?_
     clear hK K
     refine NoPanic.normal ?_
     go_wp2_with fail
     go_meet
     first|(rw [←hV];exact ⟨_,_,_,rfl,BV.out,SV.out⟩)|(rw [hV] at BV SV;clear hV;have qb:=BV.out;have qs:=SV.out;simp [go_sem] at qb qs;exact ⟨_,_,_,rfl,qb,qs⟩)
    ·have R3:=Lib.hid (R2.out.al)
     go_simp
     refine hK.out _ _ trivial (fun hHeld=>?_)
     clear hK K
     try simp only [Act.put,List.getElem_toArray,List.getElem_cons_zero,List.getElem_cons_succ,List.setIfInBounds_toArray,List.set_cons_zero,List.set_cons_succ]
     refine wpAnyL_one (i:=6) (by kernel_rfl) rfl (fun K hK=>?_)
     go_simp
     refine hK.out _ _ trivial (fun hHeld=>?_)
     clear hK K
     try simp only [Act.put,List.getElem_toArray,List.getElem_cons_zero,List.getElem_cons_succ,List.setIfInBounds_toArray,List.set_cons_zero,List.set_cons_succ]
     obtain ⟨V,hV,bV,sV⟩:=R3.out.fin
     have SV:=Lib.hid sV
     have BV:=Lib.hid bV
     clear sV bV
     obtain ⟨z0,z1,z2,zf0,zf1,zf2⟩:=CS.out _ _ _ _ R3.out
     try simp only [go_sem] at z0 z1 z2 zf0 zf1 zf2
     refine wpAnyL_last (by kernel_rfl) rfl (by kernel_rfl) (fun K hK=>?_)
     go_simp
     refine hK.out _ _ ?_
     clear hK K
     refine NoPanic.normal ?_
     go_wp2_with fail
     go_meet
     first|(rw [←hV];exact ⟨_,_,_,rfl,BV.out,SV.out⟩)|(rw [hV] at BV SV;clear hV;have qb:=BV.out;have qs:=SV.out;simp [go_sem] at qb qs;exact ⟨_,_,_,rfl,qb,qs⟩)
   ·have R2:=Lib.hid (R1.out.al)
    go_simp
    refine hK.out _ _ trivial (fun hHeld=>?_)
    clear hK K
    try simp only [Act.put,List.getElem_toArray,List.getElem_cons_zero,List.getElem_cons_succ,List.setIfInBounds_toArray,List.set_cons_zero,List.set_cons_succ]
    refine wpAnyL_one (i:=1) (by kernel_rfl) rfl (fun K hK=>?_)
    refine step_make _ (by rfl) _ _ 23 (by rfl) N 3 fi _ Tryd.underlying23 hi hz0 hz1 (m:Int) (m:Int) m (by rfl) (by rfl) rfl rfl (by rw [hz2];omega) hm1 R2.out.q ?_
    intro w2 hr hg
    have R3:=Lib.hid (R2.out.mkT hr hg)
    clear hr hg
    refine hK.out _ _ trivial (fun hHeld=>?_)
    clear hK K
    try simp only [Act.put,List.getElem_toArray,List.getElem_cons_zero,List.getElem_cons_succ,List.setIfInBounds_toArray,List.set_cons_zero,List.set_cons_succ]
    refine wpAnyL_one (i:=6) (by kernel_rfl) rfl (fun K hK=>?_)
    go_simp
    refine hK.out _ _ trivial (fun hHeld=>?_)
    clear hK K
    try simp only [Act.put,List.getElem_toArray,List.getElem_cons_zero,List.getElem_cons_succ,List.setIfInBounds_toArray,List.set_cons_zero,List.set_cons_succ]
    obtain ⟨V,hV,bV,sV⟩:=R3.out.fin
    have SV:=Lib.hid sV
    have BV:=Lib.hid bV
    clear sV bV
    obtain ⟨z0,z1,z2,zf0,zf1,zf2⟩:=CS.out _ _ _ _ R3.out
    try simp only [go_sem] at z0 z1 z2 zf0 zf1 zf2
    refine wpAnyL_last (by kernel_rfl) rfl (by kernel_rfl) (fun K hK=>?_)
    go_simp
    refine hK.out _ _ ?_
    clear hK K
    refine NoPanic.normal ?_
    go_wp2_with fail
    go_meet
    first|(rw [←hV];exact ⟨_,_,_,rfl,BV.out,SV.out⟩)|(rw [hV] at BV SV;clear hV;have qb:=BV.out;have qs:=SV.out;simp [go_sem] at qb qs;exact ⟨_,_,_,rfl,qb,qs⟩)
  ·have R1:=Lib.hid (show Rg w N m _ none none (some w1.heap.size) from R0.out.al)
   go_simp
   refine hK.out _ _ trivial (fun hHeld=>?_)
   clear hK K
   try simp only [Act.put,List.getElem_toArray,List.getElem_cons_zero,List.getElem_cons_succ,List.setIfInBounds_toArray,List.set_cons_zero,List.set_cons_succ]
   refine wpAnyL_two (i:=1) (k:=5) (by kernel_rfl) rfl rfl (fun K hK=>?_) (fun K hK=>?_)
   ·refine step_make _ (by rfl) _ _ 23 (by rfl) N 3 fi _ Tryd.underlying23 hi hz0 hz1 (m:Int) (m:Int) m (by rfl) (by rfl) rfl rfl (by rw [hz2];omega) hm1 R1.out.q ?_
    intro w1 hr hg
    have R2:=Lib.hid (R1.out.mkT hr hg)
    clear hr hg
    refine hK.out _ _ trivial (fun hHeld=>?_)
    clear hK K
    try simp only [Act.put,List.getElem_toArray,List.getElem_cons_zero,List.getElem_cons_succ,List.setIfInBounds_toArray,List.set_cons_zero,List.set_cons_succ]
    refine wpAnyL_one (i:=5) (by kernel_rfl) rfl (fun K hK=>?_)
    refine step_make _ (by rfl) _ _ 39 (by rfl) N 59 gi _ Tryd.underlying39 gh gz0 gz1 (2*(m:Int)+1) (2*(m:Int)+1) (2*m+1) (by rfl) (by rfl) (by omega) (by omega) (by rw [gz2];omega) hm2 R2.out.q ?_
    intro w2 hr hg
    have R3:=Lib.hid (R2.out.mkH hr hg)
    clear hr hg
    refine hK.out _ _ trivial (fun hHeld=>?_)
    clear hK K
    try simp only [Act.put,List.getElem_toArray,List.getElem_cons_zero,List.getElem_cons_succ,List.setIfInBounds_toArray,List.set_cons_zero,List.set_cons_succ]
    refine wpAnyL_one (i:=6) (by kernel_rfl) rfl (fun K hK=>?_)
    go_simp
    refine hK.out _ _ trivial (fun hHeld=>?_)
    clear hK K
    try simp only [Act.put,List.getElem_toArray,List.getElem_cons_zero,List.getElem_cons_succ,List.setIfInBounds_toArray,List.set_cons_zero,List.set_cons_succ]
    obtain ⟨V,hV,bV,sV⟩:=R3.out.fin
    have SV:=Lib.hid sV
    have BV:=Lib.hid bV
    clear sV bV
    obtain ⟨z0,z1,z2,zf0,zf1,zf2⟩:=CS.out _ _ _ _ R3.out
    try simp only [go_sem] at z0 z1 z2 zf0 zf1 zf2
    refine wpAnyL_last (by kernel_rfl) rfl (by kernel_rfl) (fun K hK=>?_)
    go_simp
    refine hK.out _ _ ?_
    clear hK K
    refine NoPanic.normal ?_
    go_wp2_with fail
    go_meet
    first|(rw [←hV];exact ⟨_,_,_,rfl,BV.out,SV.out⟩)|(rw [hV] at BV SV;clear hV;have qb:=BV.out;have qs:=SV.out;simp [go_sem] at qb qs;exact ⟨_,_,_,rfl,qb,qs⟩)
   ·refine step_make _ (by rfl) _ _ 39 (by rfl) N 59 gi _ Tryd.underlying39 gh gz0 gz1 (2*(m:Int)+1) (2*(m:Int)+1) (2*m+1) (by rfl) (by rfl) (by omega) (by omega) (by rw [gz2];omega) hm2 R1.out.q ?_
    intro w1 hr hg
    have R2:=Lib.hid (R1.out.mkH hr hg)
    clear hr hg
    refine hK.out _ _ trivial (fun hHeld=>?_)
    clear hK K
    try simp only [Act.put,List.getElem_toArray,List.getElem_cons_zero,List.getElem_cons_succ,List.setIfInBounds_toArray,List.set_cons_zero,List.set_cons_succ]
    refine wpAnyL_one (i:=1) (by kernel_rfl) rfl (fun K hK=>?_)
    refine step_make _ (by rfl) _ _ 23 (by rfl) N 3 fi _ Tryd.underlying23 hi hz0 hz1 (m:Int) (m:Int) m (by rfl) (by rfl) rfl rfl (by rw [hz2];omega) hm1 R2.out.q ?_
    intro w2 hr hg
    have R3:=Lib.hid (R2.out.mkT hr hg)
    clear hr hg
    refine hK.out _ _ trivial (fun hHeld=>?_)
    clear hK K
    try simp only [Act.put,List.getElem_toArray,List.getElem_cons_zero,List.getElem_cons_succ,List.setIfInBounds_toArray,List.set_cons_zero,List.set_cons_succ]
    refine wpAnyL_one (i:=6) (by kernel_rfl) rfl (fun K hK=>?_)
    go_simp
    refine hK.out _ _ trivial (fun hHeld=>?_)
    clear hK K
    try simp only [Act.put,List.getElem_toArray,List.getElem_cons_zero,List.getElem_cons_succ,List.setIfInBounds_toArray,List.set_cons_zero,List.set_cons_succ]
    obtain ⟨V,hV,bV,sV⟩:=R3.out.fin
    have SV:=Lib.hid sV
    have BV:=Lib.hid bV
    clear sV bV
    obtain ⟨z0,z1,z2,zf0,zf1,zf2⟩:=CS.out _ _ _ _ R3.out
    try simp only [go_sem] at z0 z1 z2 zf0 zf1 zf2
    refine wpAnyL_last (by kernel_rfl) rfl (by kernel_rfl) (fun K hK=>?_)
    go_simp
    refine hK.out _ _ ?_
    clear hK K
    refine NoPanic.normal ?_
    go_wp2_with fail
    go_meet
    first|(rw [←hV];exact ⟨_,_,_,rfl,BV.out,SV.out⟩)|(rw [hV] at BV SV;clear hV;have qb:=BV.out;have qs:=SV.out;simp [go_sem] at qb qs;exact ⟨_,_,_,rfl,qb,qs⟩)
 case rest=>
  obtain ⟨sb,tb,hb,rfl,B1,S1⟩:=hcut
  obtain ⟨w2,rfl⟩:∃w2:World,w2=wc:=⟨_,rfl⟩
  have BG:=Lib.hid (begin12_any S1 hn (start_iv m l g) R.out o3 (HLW.out w2 B1) (HGW.out w2 B1))
  have HB1:=Lib.hid B1
  rw [←hN] at PB PO
  clear B1 S1 R0 HLW HGW CS
  go_wp2_with fail
  refine BG.out.mono ?_
  rintro e w3 ⟨hq,-⟩
  rcases hq with ⟨rfl,q1,q2⟩|⟨rfl,q2,pb,mv,hd,rv,s,S3,I3,M3⟩
  ·have PX:=Lib.hid (PB.out w3 q1 (HB1.out.trans q2))
   clear q1 q2 BG PB PO
   go_wp2
   go_ret2
   first|exact PX.out|exact ⟨PX.out,trivial⟩
  ·have GO:=Lib.hid (goOn12_any (w:=w3) hn R.out o3 ⟨pb,mv,hd,rv,s,S3,I3,M3⟩)
   have HB3:=Lib.hid (HB1.out.trans q2)
   clear q2 S3 I3 M3 BG
   go_wp2_with fail
   refine GO.out.mono ?_
   rintro e w4 ⟨hq,-⟩
   rcases hq with ⟨rfl,q1,q2⟩|⟨rfl,q2,pb,mv,hd,rv,s,S4,U4⟩
   ·have PX:=Lib.hid (PB.out w4 q1 (HB3.out.trans q2))
    clear q1 q2 PB PO GO
    go_wp2
    go_ret2
    first|exact PX.out|exact ⟨PX.out,trivial⟩
   ·have PX:=Lib.hid (PO.out w4 s.t tb U4 S4.nl (HB3.out.trans q2) (S4.tread hm1))
    have c0:=S4.s0
    clear q2 PB PO GO S4 U4
    go_wp2
    go_ret2
    first|exact PX.out|exact ⟨PX.out,trivial⟩
structure SrtW (w0:World) (N0 blk fb:Nat) (tail:List Value) (d:List Int) (f:Bool) (w:World):Prop where
 os:w.os=w0.os
 tape:w.tape=w0.tape
 output:w.output=w0.output
 size:N0≤w.heap.size
 row:w.heap[blk]?=some (.cells (d.map (Value.int .i64)++tail).toArray 3 (0,0))
 flg:w.heap[fb]?=some (.cells #[.bool f] 4 (0,0))
 oth:∀k,k < N0→k≠blk→k≠fb→w.heap[k]?=w0.heap[k]?
 bn:blk < N0
 fn:fb < N0
section
variable {w0 w:World} {N0 blk fb:Nat} {tail:List Value} {d:List Int} {f:Bool}
theorem SrtW.ne (h:SrtW w0 N0 blk fb tail d f w):blk≠fb:=cb_ne h.row h.flg (by decide)
theorem SrtW.cell (h:SrtW w0 N0 blk fb tail d f w) {i:Nat} (hi:i < d.length):w.cell? ⟨blk,i,none⟩=some (.int .i64 d[i]!):=by
 rw [cb_cell h.row,getElem!_pos d i hi]
 simp [List.getElem?_append_left,hi]
theorem SrtW.fz (h:SrtW w0 N0 blk fb tail d f w) (i:Nat):w.frozen? ⟨blk,i,none⟩=false:=cb_froz h.row i
theorem SrtW.fcell (h:SrtW w0 N0 blk fb tail d f w):w.cell? ⟨fb,0,none⟩=some (.bool f):=by rw [cb_cell h.flg];rfl
theorem SrtW.ffz (h:SrtW w0 N0 blk fb tail d f w):w.frozen? ⟨fb,0,none⟩=false:=cb_froz h.flg 0
theorem SrtW.drew (h:SrtW w0 N0 blk fb tail d f w):SrtW w0 N0 blk fb tail d f w.drew:=⟨h.os,h.tape,h.output,h.size,h.row,h.flg,h.oth,h.bn,h.fn⟩
theorem SrtW.below (h:SrtW w0 N0 blk fb tail d f w) {w':World} (hb:Below w.heap.size w w'):SrtW w0 N0 blk fb tail d f w' where
 os:=hb.os.trans h.os
 tape:=hb.tape.trans h.tape
 output:=hb.output.trans h.output
 size:=Nat.le_trans h.size hb.size
 row:=(hb.block _ (cb_lt h.row)).trans h.row
 flg:=(hb.block _ (cb_lt h.flg)).trans h.flg
 oth:=fun k hk h1 h2=>(hb.block k (Nat.lt_of_lt_of_le hk h.size)).trans (h.oth k hk h1 h2)
 bn:=h.bn
 fn:=h.fn
theorem SrtW.alloc (h:SrtW w0 N0 blk fb tail d f w) (o:Obj):SrtW w0 N0 blk fb tail d f (w.alloc o):=h.below ((Below.refl _ w).alloc (Nat.le_refl _) o)
theorem row_set (d:List Int) (tail:List Value) {i:Nat} (hi:i < d.length) (x:Int):((d.map (Value.int .i64)++tail).toArray).setIfInBounds i (.int .i64 x)=((d.set i x).map (Value.int .i64)++tail).toArray:=by
 rw [List.setIfInBounds_toArray,List.set_append_left _ _ (by rw [List.length_map];exact hi),List.map_set]
theorem SrtW.put (h:SrtW w0 N0 blk fb tail d f w) {i:Nat} (hi:i < d.length) (x:Int):SrtW w0 N0 blk fb tail (d.set i x) f (w.setCell ⟨blk,i,none⟩ (.int .i64 x)) where
 os:=h.os
 tape:=h.tape
 output:=h.output
 size:=by rw [World.size_setCell];exact h.size
 row:=by rw [cb_set h.row,row_set d tail hi]
 flg:=(heap_setCell_other w ⟨blk,i,none⟩ fb _ (Ne.symm h.ne)).trans h.flg
 oth:=fun k hk h1 h2=>(heap_setCell_other w ⟨blk,i,none⟩ k _ h1).trans (h.oth k hk h1 h2)
 bn:=h.bn
 fn:=h.fn
theorem SrtW.flag (h:SrtW w0 N0 blk fb tail d f w) (b:Bool):SrtW w0 N0 blk fb tail d b (w.setCell ⟨fb,0,none⟩ (.bool b)) where
 os:=h.os
 tape:=h.tape
 output:=h.output
 size:=by rw [World.size_setCell];exact h.size
 row:=(heap_setCell_other w ⟨fb,0,none⟩ blk _ h.ne).trans h.row
 flg:=by rw [cb_set h.flg];rfl
 oth:=fun k hk h1 h2=>(heap_setCell_other w ⟨fb,0,none⟩ k _ h2).trans (h.oth k hk h1 h2)
 bn:=h.bn
 fn:=h.fn
end
def Sup (N0:Nat) (w w':World):Prop:=w.heap.size≤w'.heap.size∧∀k,N0≤k→k < w.heap.size→w'.heap[k]?=w.heap[k]?
theorem Sup.refl (N0:Nat) (w:World):Sup N0 w w:=⟨Nat.le_refl _,fun _ _ _=>rfl⟩
theorem Sup.trans {N0:Nat} {a b c:World} (h:Sup N0 a b) (k:Sup N0 b c):Sup N0 a c:=⟨Nat.le_trans h.1 k.1,fun q h1 h2=>(k.2 q h1 (Nat.lt_of_lt_of_le h2 h.1)).trans (h.2 q h1 h2)⟩
theorem Sup.of_below {N0:Nat} {w w':World} (h:Below w.heap.size w w'):Sup N0 w w':=⟨h.size,fun k _ hk=>h.block k hk⟩
theorem Sup.set {N0:Nat} {w:World} {b i:Nat} {v:Value} (hb:b < N0):Sup N0 w (w.setCell ⟨b,i,none⟩ v):=⟨by rw [World.size_setCell];exact Nat.le_refl _,fun k hk _=>heap_setCell_other w ⟨b,i,none⟩ k v (by show k≠b;omega)⟩
theorem Sup.drew {N0:Nat} {w w':World} (h:Sup N0 w w'):Sup N0 w w'.drew:=h
def absW (x:Int):Int:=max x (wrap64 (-x))
def byV (x y:Int):Int:=sgn (absW x - absW y)
def cfT (x y:Int):Int:=if byV x y≠0 then byV x y else sgn (y - x)
def bfT (x y:Int):Bool:=byV x y==0&&x != y
theorem cfT_or (x y:Int):cfT x y=orL [byV x y,sgn (y - x)]:=by
 unfold cfT orL orL orL
 by_cases e:byV x y≠0
 ·rw [if_pos e,if_pos e]
 ·rw [if_neg e,if_neg e]
  by_cases e2:sgn (y - x)≠0
  ·rw [if_pos e2]
  ·rw [if_neg e2];exact Decidable.not_not.1 e2
set_option maxHeartbeats 4000000 in
theorem tidyC_any {w0 w:World} {N0 blk fb:Nat} {tail:List Value} {d:List Int} {f:Bool} (h:SrtW w0 N0 blk fb tail d f w) (x y:Int) :
  Calls Tryd.prog 32 #[.int .i64 x,.int .i64 y,.pointer (some ⟨fb,0,none⟩)] w fun e w'=>e=.returned (.int .i64 (cfT x y))∧SrtW w0 N0 blk fb tail d (f||bfT x y) w'∧Sup N0 w w':=by
 have CM:=Lib.hid cmpInt_any
 have c0:=h.fcell
 have f0:=h.ffz
 obtain ⟨nx,hnx⟩:∃n,n=wrap64 (-x):=⟨_,rfl⟩
 obtain ⟨ny,hny⟩:∃n,n=wrap64 (-y):=⟨_,rfl⟩
 have hx1:wrap64 (-x)=nx:=hnx.symm
 have hy1:wrap64 (-y)=ny:=hny.symm
 have hx2:IntKind.i64.wrap (-x)=nx:=by rw [hnx,IntKind.wrap_i64];unfold wrap64;omega
 have hy2:IntKind.i64.wrap (-y)=ny:=by rw [hny,IntKind.wrap_i64];unfold wrap64;omega
 obtain ⟨bv,hbv⟩:∃b,b=byV x y:=⟨_,rfl⟩
 have FL:=Lib.hid (show bfT x y=(bv==0&&x != y) from by rw [hbv];rfl)
 have CF:=Lib.hid (show cfT x y=orL [bv,sgn (y - x)] by rw [hbv];exact cfT_or x y)
 have S1:=Lib.hid (show ∀b,SrtW w0 N0 blk fb tail d b ((w.setCell ⟨fb,0,none⟩ (.bool b)).alloc (.cells #[.int .i64 bv,.int .i64 (sgn (y - x))] 3))∧Sup N0 w ((w.setCell ⟨fb,0,none⟩ (.bool b)).alloc (.cells #[.int .i64 bv,.int .i64 (sgn (y - x))] 3)) from fun b=>⟨(h.flag b).alloc _,(Sup.set h.fn).trans (Sup.of_below ((Below.refl _ _).alloc (Nat.le_refl _) _))⟩)
 have OR:=Lib.hid (fun (b:Bool)=>or_any w.heap.size 2 [bv,sgn (y - x)] ((w.setCell ⟨fb,0,none⟩ (.bool b)).alloc (.cells #[.int .i64 bv,.int .i64 (sgn (y - x))] 3)) rfl (by omega) (fun k hk=>by
  match k,hk with
  | 0,_=>simp [go_sem]
  | 1,_=>simp [go_sem]))
 have mx:∀u v:Int,(if u < v then v else u)=max u v:=fun u v=>by split<;>omega
 have BV:=Lib.hid (show sgn (max x nx - max y ny)=bv by rw [hbv,hnx,hny];rfl)
 generalize cfT x y=cf at *
 generalize bfT x y=bf at *
 clear h hnx hny hbv
 go_enter Tryd.func32,Tryd.ntmps32
 go_upto_region 2 with (go_at_call 33;(with_reducible refine (CM.out _ _ _).mono ?_);rintro e w' ⟨rfl,rfl⟩)
 rw [BV.out]
 clear BV mx hx1 hy1 hx2 hy2
 have OT:∀b,(f||bf)=b→(SrtW w0 N0 blk fb tail d (f||bf) ((w.setCell ⟨fb,0,none⟩ (.bool b)).alloc (.cells #[.int .i64 bv,.int .i64 (sgn (y - x))] 3))∧Sup N0 w ((w.setCell ⟨fb,0,none⟩ (.bool b)).alloc (.cells #[.int .i64 bv,.int .i64 (sgn (y - x))] 3))):=fun b e=>by rw [e];exact S1.out b
 have OTH:=Lib.hid OT
 clear OT
 cases f
 ·by_cases hb:bv=0
  ·have b0:(bv==0)=true:=beq_iff_eq.2 hb
   by_cases he:x=y
   ·have e0:(x != y)=false:=by simp [he]
    have HB:=Lib.hid hb
    have HE:=Lib.hid he
    clear hb he
    have OO:=Lib.hid (OTH.out false (by rw [FL.out,b0,e0];rfl))
    have ORb:=Lib.hid (OR.out false)
    clear OTH S1 OR FL
    go_wp2_with (first|(go_at_call 33;(with_reducible refine (CM.out _ _ _).mono ?_);rintro e w' ⟨rfl,rfl⟩)|(go_at_call 34;refine ORb.out.mono ?_;rintro e w' ⟨rfl,rfl⟩))
    go_ret
    exact ⟨by rw [CF.out];try rfl,OO.out⟩
   ·have e0:(x != y)=true:=by simp [he]
    have HB:=Lib.hid hb
    clear hb
    have OO:=Lib.hid (OTH.out true (by rw [FL.out,b0,e0];rfl))
    have ORb:=Lib.hid (OR.out true)
    clear OTH S1 OR FL
    go_wp2_with (first|(go_at_call 33;(with_reducible refine (CM.out _ _ _).mono ?_);rintro e w' ⟨rfl,rfl⟩)|(go_at_call 34;refine ORb.out.mono ?_;rintro e w' ⟨rfl,rfl⟩))
    go_ret
    exact ⟨by rw [CF.out];try rfl,OO.out⟩
  ·have b0:(bv==0)=false:=beq_eq_false_iff_ne.2 hb
   have OO:=Lib.hid (OTH.out false (by rw [FL.out,b0];rfl))
   have ORb:=Lib.hid (OR.out false)
   clear OTH S1 OR FL
   go_wp2_with (first|(go_at_call 33;(with_reducible refine (CM.out _ _ _).mono ?_);rintro e w' ⟨rfl,rfl⟩)|(go_at_call 34;refine ORb.out.mono ?_;rintro e w' ⟨rfl,rfl⟩))
   go_ret
   exact ⟨by rw [CF.out];try rfl,OO.out⟩
 ·skip
  have OO:=Lib.hid (OTH.out true (by rfl))
  have ORb:=Lib.hid (OR.out true)
  clear OTH S1 OR FL
  go_wp2_with (first|(go_at_call 33;(with_reducible refine (CM.out _ _ _).mono ?_);rintro e w' ⟨rfl,rfl⟩)|(go_at_call 34;refine ORb.out.mono ?_;rintro e w' ⟨rfl,rfl⟩))
  go_ret
  exact ⟨by rw [CF.out];try rfl,OO.out⟩
end Go.Proofs.YtgjlgdpbmhdnbaaDoor
