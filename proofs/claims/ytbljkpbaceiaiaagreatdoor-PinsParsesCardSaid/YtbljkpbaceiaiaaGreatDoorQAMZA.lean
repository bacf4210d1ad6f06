/- What the laws rest on: S5d, S5i, S5j, S5n, S5o, S5p, S5q, S5r, S5t. -/
import Derived.IntWalk
import Derived.Lib.SplitLaws
import Derived.Test.YtbljkpbaceiaiaaGreatDoorQAJZA
set_option maxRecDepth 100000
set_option linter.unusedVariables false
set_option linter.unusedSimpArgs false
namespace Go.Proofs.YtbljkpbaceiaiaaGreatDoor
open Go.RowKit
theorem nm_le (l:List Nat):(nmOf l).length≤l.length:=by
 unfold nmOf
 exact (List.takeWhile_prefix _).length_le
theorem nm_take (l:List Nat):l.take (nmOf l).length=nmOf l:=by
 obtain ⟨r,hr⟩:=List.takeWhile_prefix (p:=fun c=>c != 58) (l:=l)
 have:(nmOf l++r).take (nmOf l).length=nmOf l:=by simp
 rwa [show nmOf l++r=l from hr] at this
structure Fr (N r:Nat) (W W':World):Prop where
 bel:Below r W W'
 mid:∀b,r < b→b < N→W'.heap[b]?=W.heap[b]?
theorem Fr.refl (N r:Nat) (W:World):Fr N r W W:=⟨Below.refl _ _,fun _ _ _=>rfl⟩
theorem Fr.trans {N r:Nat} {a b c:World} (h:Fr N r a b) (k:Fr N r b c):Fr N r a c:=⟨h.bel.trans k.bel,fun i h1 h2=>(k.mid i h1 h2).trans (h.mid i h1 h2)⟩
theorem Fr.of {N r:Nat} {W W':World} (h:Below N W W') (hr:r≤N):Fr N r W W':=⟨h.mono hr,fun b _ hb=>h.block b hb⟩
theorem Fr.set {N r:Nat} {W W':World} (h:Fr N r W W') {p:Addr} (hp:p.block=r∨N≤p.block) (hN:r≤N) (u:Value):Fr N r W (W'.setCell p u):=
 ⟨h.bel.setCell (by rcases hp with h|h<;>omega) u,fun b h1 h2=>(heap_setCell_other W' p b u (by rcases hp with h|h<;>omega)).trans (h.mid b h1 h2)⟩
theorem blk_of {W W':World} {r:Nat} (h:W'.heap[r]?=W.heap[r]?) (o:Nat):W'.cell? ⟨r,o,none⟩=W.cell? ⟨r,o,none⟩∧W'.frozen? ⟨r,o,none⟩=W.frozen? ⟨r,o,none⟩:=
 ⟨World.cell?_of_block (a:=⟨r,o,none⟩) h,World.frozen?_of_block (a:=⟨r,o,none⟩) h⟩
theorem opn_info:(Tryz.prog.info? 105).map (fun i=>(i.zero,i.size,i.bytes))=some (some (.agg #[.string { data:=#[] },.slice none 0 0]),2,40):=by kernel_rfl
def plainV (v:Value):Prop:=∀ad n c,v=.slice (some ad) n c→ad=⟨ad.block,ad.off,none⟩
def rdOpX:Rd (Opn ⊕ (ByteArray × Value)):=fun w S x cs=>match x with
 | .inl f=>∃v,cs=[.string f.1,v]∧rdStrs w S f.2 [v]∧plainV v
 | .inr p=>cs=[.string p.1,p.2]∧p.2.oneCell'=true
theorem rdOpX_good:Good rdOpX 2 where
 keep:=by
  rintro w w' S x cs h hk
  cases x with
  | inl f=>obtain ⟨v,e,h,hp⟩:=h;exact ⟨v,e,rdStrs_good.keep h hk,hp⟩
  | inr p=>exact h
 more:=by
  rintro w S S' x cs h hm
  cases x with
  | inl f=>obtain ⟨v,e,h,hp⟩:=h;exact ⟨v,e,rdStrs_good.more h hm,hp⟩
  | inr p=>exact h
 turn:=by
  rintro w w' S x cs row h hg hr
  cases x with
  | inl f=>obtain ⟨v,e,h,hp⟩:=h;exact ⟨v,e,rdStrs_good.turn h hg hr,hp⟩
  | inr p=>exact h
 len:=by
  rintro w S x cs h
  cases x with
  | inl f=>obtain ⟨v,rfl,h,_⟩:=h;rfl
  | inr p=>rw [h.1];rfl
 one:=by
  rintro w S x cs h u hu
  cases x with
  | inl f=>
   obtain ⟨v,rfl,h,_⟩:=h
   rcases List.mem_cons.1 hu with rfl|hu
   ·rfl
   ·exact rdStrs_good.one h u hu
  | inr p=>
   rw [h.1] at hu
   rcases List.mem_cons.1 hu with rfl|hu
   ·rfl
   ·rw [List.mem_singleton.1 hu];exact h.2
def opX (op:List Opn) (vl:Value):List (Opn ⊕ (ByteArray × Value)):=match op.getLast? with
 | none=>[]
 | some f=>op.dropLast.map .inl++[.inr (f.1,vl)]
theorem opX_snoc (i:List Opn) (f:Opn) (vl:Value):opX (i++[f]) vl=i.map .inl++[.inr (f.1,vl)]:=by unfold opX;simp
theorem opX_len (op:List Opn) (vl:Value):(opX op vl).length=op.length:=by
 rcases List.eq_nil_or_concat op with rfl|⟨i,f,rfl⟩
 ·rfl
 ·rw [List.concat_eq_append,opX_snoc];simp
def lastLn (op:List Opn):List (List Nat):=match op.getLast? with
 | none=>[]
 | some f=>f.2
theorem lastLn_snoc (i:List Opn) (f:Opn):lastLn (i++[f])=f.2:=by unfold lastLn;simp
structure RdP (W:World) (N r k:Nat) (p:PS) (vs vo vl:Value):Prop where
 f0:∀o,W.frozen? ⟨r,o,none⟩=false
 c0:W.cell? ⟨r,0,none⟩=some (.int .i64 k)
 c1:W.cell? ⟨r,1,none⟩=some vs
 c2:W.cell? ⟨r,2,none⟩=some vo
 gs:Grow rdFds 1 (fun b=>(N≤b∧vo.ownBlock≠some b)∧vl.ownBlock≠some b) W N 48 vs p.dn
 go:Grow rdOpX 2 (fun b=>N≤b∧vl.ownBlock≠some b) W N 105 vo (opX p.op vl)
 gl:Grow rdStr 1 (fun b=>N≤b) W N 9 vl (lastLn p.op)
 so:Off vs vo
 sl:Off vs vl
 ol:Off vo vl
theorem RdP.below {W W':World} {N r k:Nat} {p:PS} {vs vo vl:Value} (h:RdP W N r k p vs vo vl) (hb:Below W.heap.size W W') (hr:r < W.heap.size):RdP W' N r k p vs vo vl:=by
 have hk:=hb.block r hr
 exact ⟨fun o=>((blk_of hk o).2).trans (h.f0 o),((blk_of hk 0).1).trans h.c0,((blk_of hk 1).1).trans h.c1,((blk_of hk 2).1).trans h.c2,h.gs.below rdFds_good hb,h.go.below rdOpX_good hb,h.gl.below rdStr_good hb,h.so,h.sl,h.ol⟩
theorem Grow.plain {α:Type} {E:Rd α} {sz:Nat} {T:Nat→Prop} {w:World} {base:Nat} {e:TypeId} {v:Value} {l:List α} (h:Grow E sz T w base e v l):plainV v:=by
 obtain ⟨css,hl,ho,hE⟩:=h
 rcases ho.2 with ⟨rfl,h0⟩|⟨gb,cap,cur,rfl,hb,hg,hn,hm,hs,ht⟩
 ·intro ad n c h;cases h
 ·intro ad n c h;cases h;rfl
theorem strFlat {T T':Nat→Prop} {w:World} {base:Nat} {e:TypeId} {v:Value} {l:List (List Nat)} (h:Grow rdStr 1 T w base e v l):Grow rdStr 1 T' w base e v l:=h.flat fun _ _ _ _ _ h=>h
theorem Grow.store {β:Type} {F:Rd β} {tz:Nat} (g:Good F tz) {T:Nat→Prop} {W w':World} {base:Nat} {e:TypeId} {v x:Value} {m:List β} (hx:Grow F tz (fun b=>T b∧v.ownBlock≠some b) W base e x m) (ho:Off x v) (hg:W.grownBy w' v.ownBlock):Grow F tz (fun b=>T b∧v.ownBlock≠some b) w' base e x m:=
 (Grow.beside g hx ho hg (.inl rfl)).1
theorem RdP.on {W w1:World} {N r k n c:Nat} {p:PS} {vs vl vl':Value} {i:List Opn} {f:Opn} {x:List Nat} {ad:Addr} (hR:RdP W N r k p vs (.slice (some ad) n c) vl) (hop:p.op=i++[f]) (hr:r < N) (hN:N≤W.heap.size) (hg:W.grownBy w1 vl.ownBlock) (hm:Moved W vl vl')
  (hG:Grow rdStr 1 (fun b=>N≤b) w1 N 9 vl' (f.2++[x])) (hv:vl'.oneCell'=true) :
  RdP (w1.setCell (ad.add (i.length*2+1)) vl') N r k ⟨p.dn,i++[(f.1,f.2++[x])]⟩ vs (.slice (some ad) n c) vl'∧Fr N r W (w1.setCell (ad.add (i.length*2+1)) vl')∧
   w1.cell? (ad.add (i.length*2+1))=some vl∧w1.frozen? (ad.add (i.length*2+1))=false:=by
 obtain ⟨f0,c0,c1,c2,gs,go,gl,so,sl,ol⟩:=hR
 have hrl:some r≠vl.ownBlock:=fun h=>by have:=(gl.lt r h.symm).1;omega
 have hk:=hg.block r (by omega) hrl
 obtain ⟨gs1,sl1⟩:=Grow.beside rdFds_good gs sl hg hm
 obtain ⟨go1,ol1⟩:=Grow.beside rdOpX_good go ol hg hm
 rw [hop,opX_snoc] at go1
 have hil:i.length < (i.map (Sum.inl (β:=ByteArray × Value))++[Sum.inr (f.1,vl)]).length:=by simp
 have hel:(i.map (Sum.inl (β:=ByteArray × Value))++[Sum.inr (f.1,vl)])[i.length]=Sum.inr (f.1,vl):=by
  rw [List.getElem_append_right (by simp)];simp
 obtain ⟨e0,hba,hbb,hnl,hfz⟩:=go1.spot
 obtain ⟨ad1,es,e1,_,hE,_,hcell⟩:=(show ∃ad1 es,some ad=some ad1∧_∧rdOpX w1 _ _ es∧_∧∀j u,es[j]?=some u→w1.cell? (ad1.add (i.length*2+j))=some u from by
  obtain ⟨A',c',e,h1,h2,h⟩:=go1.read rdOpX_good
  simp only [List.cons.injEq,Value.slice.injEq,and_true] at e
  obtain ⟨rfl,_,_⟩:=e
  exact h i.length hil)
 injection e1 with e1
 subst e1
 rw [hel] at hE
 have hcl:w1.cell? (ad.add (i.length*2+1))=some vl:=hcell 1 vl (by rw [hE.1];rfl)
 have hfr:w1.frozen? (ad.add (i.length*2+1))=false:=go1.frz _
 obtain ⟨go2,hg2⟩:=go1.set rdOpX_good hil (j:=1) (by decide) vl' (.inr (f.1,vl')) (fun cs hcs=>by
  rw [hel] at hcs
  exact ⟨by rw [hcs.1];rfl,hv⟩)
 have hset:(i.map (Sum.inl (β:=ByteArray × Value))++[Sum.inr (f.1,vl)]).set i.length (.inr (f.1,vl'))=i.map Sum.inl++[Sum.inr (f.1,vl')]:=by
  rw [List.set_append_right _ _ (by simp)];simp
 rw [hset] at go2
 have gs2:=Grow.store rdFds_good (v:=.slice (some ad) n c) (gs1.retag rdFds_good (T':=fun b=>(N≤b∧vl'.ownBlock≠some b)∧(Value.slice (some ad) n c).ownBlock≠some b) fun b h _=>⟨⟨h.1.1,h.2⟩,h.1.2⟩) so hg2
 have gl2:=Grow.store rdStr_good (v:=.slice (some ad) n c) (strFlat hG (T':=fun b=>N≤b∧(Value.slice (some ad) n c).ownBlock≠some b)) ol1.symm hg2
 have hne:∀o,(⟨r,o,none⟩:Addr)≠ad.add (i.length*2+1):=fun o e=>by have:=congrArg Addr.block e;rw [blk_add] at this;simp only at this;omega
 have hB1:Below N W w1:=grow_below gl hg (Below.refl N W) (Nat.le_refl _) hN
 refine ⟨⟨fun o=>?_,?_,?_,?_,gs2.retag rdFds_good fun b h _=>⟨⟨h.1.1,h.2⟩,h.1.2⟩,by rw [opX_snoc];exact go2,by rw [lastLn_snoc];exact strFlat gl2,so,sl1,ol1⟩,(Fr.of hB1 (Nat.le_of_lt hr)).set (.inr (by rw [blk_add];exact hba)) (Nat.le_of_lt hr) _,hcl,hfr⟩
 ·rw [World.frozen?_setCell];exact ((blk_of hk o).2).trans (f0 o)
 ·rw [World.cell?_setCell_other _ _ _ _ (fun e=>hne 0 e.symm)];exact ((blk_of hk 0).1).trans c0
 ·rw [World.cell?_setCell_other _ _ _ _ (fun e=>hne 1 e.symm)];exact ((blk_of hk 1).1).trans c1
 ·rw [World.cell?_setCell_other _ _ _ _ (fun e=>hne 2 e.symm)];exact ((blk_of hk 2).1).trans c2
abbrev erE (n:Int):Ending:=.panicked [{ v:=.iface 24 (.int .i64 n),recovered:=false }]
theorem RdP.own {W:World} {N r k:Nat} {p:PS} {vs vo vl:Value} (h:RdP W N r k p vs vo vl):∃A c,vo=.slice A p.op.length c∧p.op.length≤c∧c≤maxLen:=by
 have:=h.go.own
 rw [opX_len] at this;exact this
set_option maxHeartbeats 1000000 in
theorem goOn5_no (x:ByteArray) (N r k:Nat) (p:PS) (vs vo vl:Value) (w:World) (hR:RdP w N r k p vs vo vl) (h:p.op=[]∨B x=[]) :
  Calls Tryz.prog 83 #[.pointer (some ⟨r,0,none⟩),.string x] w fun e w'=>e=erE 5∧w=w':=by
 obtain ⟨A,c,rfl,hc1,hc2⟩:=hR.own
 have hc2':c≤9223372036854775807:=hc2
 have c2:=hR.c2
 by_cases h0:p.op=[]
 ·rw [h0] at c2
  simp only [List.length_nil] at c2
  clear hR h h0 hc1 hc2
  go_enter Tryz.func83,Tryz.ntmps83
  go_wp2
  exact ⟨rfl,rfl,rfl⟩
 ·have em:=emp_eq x
  rw [decide_eq_true (h.resolve_left h0)] at em
  have hl:=List.length_pos_iff.2 h0
  have q0:((p.op.length:Int)==0)=false:=by rw [beq_eq_false_iff_ne];omega
  clear hR h h0 hc1 hc2
  go_enter Tryz.func83,Tryz.ntmps83
  go_wp2
  exact ⟨rfl,rfl,rfl⟩
theorem RdP.cellL {W:World} {N r k n c:Nat} {p:PS} {vs vl:Value} {i:List Opn} {f:Opn} {ad:Addr} (hR:RdP W N r k p vs (.slice (some ad) n c) vl) (hop:p.op=i++[f]):W.cell? (ad.add (i.length*2+1))=some vl:=by
 have go1:=hR.go
 rw [hop,opX_snoc] at go1
 have hil:i.length < (i.map (Sum.inl (β:=ByteArray × Value))++[Sum.inr (f.1,vl)]).length:=by simp
 have hel:(i.map (Sum.inl (β:=ByteArray × Value))++[Sum.inr (f.1,vl)])[i.length]=Sum.inr (f.1,vl):=by
  rw [List.getElem_append_right (by simp)];simp
 obtain ⟨A',c',e,h1,h2,h⟩:=go1.read rdOpX_good
 simp only [List.cons.injEq,Value.slice.injEq,and_true] at e
 obtain ⟨rfl,_,_⟩:=e
 obtain ⟨ad1,es,e1,_,hE,_,hcell⟩:=h i.length hil
 injection e1 with e1
 subst e1
 rw [hel] at hE
 exact hcell 1 vl (by rw [hE.1];rfl)
set_option maxHeartbeats 2000000 in
theorem goOn5_ok (x:ByteArray) (N r k:Nat) (p:PS) (vs vo vl:Value) (w:World) (hR:RdP w N r k p vs vo vl) (hr:r < N) (hN:N≤w.heap.size) (h0:p.op≠[]) (hx:B x≠[]) (hol:p.op.length≤1000) (hll:(lastLn p.op).length≤1000000) :
  Calls Tryz.prog 83 #[.pointer (some ⟨r,0,none⟩),.string x] w fun e w'=>e=.returned (.tuple #[])∧(∃vl',RdP w' N r k ⟨p.dn,onLast (B x) p.op⟩ vs vo vl')∧Fr N r w w':=by
 obtain ⟨is,his,hz0,hz1,hz2⟩:=info_parts str_info
 obtain ⟨A,c,rfl,hc1,hc2⟩:=hR.own
 have hc2':c≤9223372036854775807:=hc2
 have hl:=List.length_pos_iff.2 h0
 rcases List.eq_nil_or_concat p.op with e|⟨i,f,hop⟩
 ·exact absurd e h0
 rw [List.concat_eq_append] at hop
 have hln:p.op.length=i.length+1:=by rw [hop];simp
 have q0:((p.op.length:Int)==0)=false:=by rw [beq_eq_false_iff_ne];omega
 have em:=emp_eq x
 rw [decide_eq_false hx] at em
 have w1m:IntKind.i64.wrap ((p.op.length:Int) - 1)=(i.length:Int):=by rw [hln];rw [IntWalk.i64_in _ (by omega)];omega
 have i2:(0:Int)≤(i.length:Int):=by omega
 have i3:(i.length:Int) < (p.op.length:Int):=by omega
 have hlast:lastLn p.op=f.2:=by rw [hop,lastLn_snoc]
 have HON:=Lib.hid (show onLast (B x) p.op=i++[(f.1,f.2++[B x])] by rw [hop,onLast_snoc])
 have HOP:=Lib.hid hop
 have HR:=Lib.hid hR
 have c2:=hR.c2
 obtain ⟨ad,hA⟩:∃ad,A=some ad:=by
  have hn:=hR.go.read rdOpX_good
  obtain ⟨A',c',e,h1,h2,h⟩:=hn
  simp only [List.cons.injEq,Value.slice.injEq,and_true] at e
  obtain ⟨rfl,_,_⟩:=e
  obtain ⟨ad,es,e1,_⟩:=h 0 (by rw [opX_len];omega)
  exact ⟨ad,e1⟩
 subst hA
 rw [hlast] at hll
 have HLN:=Lib.hid hln
 clear hR hop h0 hx hc1 hc2 hlast hl hln
 go_enter Tryz.func83,Tryz.ntmps83
 go_wp2
 go_quiet (fail)
 obtain ⟨W2,hW2⟩:∃W2,W2=w.drewN nq:=⟨_,rfl⟩
 have hb2:Below w.heap.size w W2:=by rw [hW2];exact belD (Below.refl _ _) _
 have hz:W2.heap.size=w.heap.size:=by rw [hW2];rfl
 rw [←hW2]
 clear hW2
 have hR2:=HR.out.below hb2 (by omega)
 have hN2:N≤W2.heap.size:=by omega
 have hcl:=hR2.cellL HOP.out
 have hgl:=hR2.gl
 rw [HOP.out,lastLn_snoc] at hgl
 obtain ⟨Al,cl,rfl,_,_⟩:=hgl.own
 rw [←off2_add ad (i.length*2) 1 (by omega)] at hcl
 have HR2:=Lib.hid hR2
 have HB2:=Lib.hid hb2
 have hE:=(show rdStr W2 (fun b=>N≤b∧b < W2.heap.size∧(Value.slice Al f.2.length cl).ownBlock≠some b) (B x) (#[Value.string x]:Array Value).toList from ⟨x,rfl,rfl⟩)
 have hn1:f.2.length+1≤maxLen:=by unfold maxLen;omega
 have hn2:(f.2.length+1)*16≤140737488355328:=by omega
 clear hR2 hb2 hz c2
 go_wp2_with (at_builtin;refine wpList_grow1_at W2 rfl _ _ 35 rfl rdStr_good (by decide) (fun b=>N≤b) N 9 is (.string { data:=#[] }) 16 Tryz.underlying35 his hz0 hz1 hz2 rfl (.slice Al f.2.length cl) f.2 rfl hgl (B x) _ 9 hE _ rfl rfl hn1 hn2 hN2 ?_)
 intro v' w1 hG' hgr hmv
 obtain ⟨A',c',hv',_,_⟩:=hG'.own
 rw [List.length_append,List.length_singleton] at hv'
 subst hv'
 obtain ⟨o1,o2,o3,o4⟩:=RdP.on HR2.out HOP.out hr hN2 hgr hmv hG' rfl
 rw [←off2_add ad (i.length*2) 1 (by omega)] at o1 o2 o3 o4
 have O1:=Lib.hid o1
 have O2:=Lib.hid o2
 clear o1 o2 hG' hgr hmv hE hgl hcl
 go_wp2
 go_end0
 exact ⟨rfl,⟨_,by rw [HON.out];exact O1.out⟩,(Fr.of (HB2.out.mono hN) (Nat.le_of_lt hr)).trans O2.out⟩
theorem opX_at (op:List Opn) (vl:Value) (k:Nat) (hk:k < op.length) (hk':k < (opX op vl).length):(opX op vl)[k]=.inl op[k]∨((opX op vl)[k]=.inr (op[k].1,vl)∧lastLn op=op[k].2):=by
 rcases List.eq_nil_or_concat op with rfl|⟨i,f,e⟩
 ·simp at hk
 ·rw [List.concat_eq_append] at e
  subst e
  simp only [opX_snoc,lastLn_snoc]
  by_cases h:k < i.length
  ·left
   rw [List.getElem_append_left (by simpa using h),List.getElem_append_left h,List.getElem_map]
  ·right
   obtain rfl:k=i.length:=by simp at hk;omega
   simp
theorem rdOp_at {w:World} {S:Nat→Prop} {op:List Opn} {vl:Value} {A:Option Addr} {n c:Nat} (h:rdRow 2 rdOpX w S (opX op vl) [.slice A n c]) (hvl:rdStrs w S (lastLn op) [vl]) (hpv:plainV vl):n=op.length∧n≤c∧c≤maxLen∧∀k (hk:k < op.length),∃ad A2 n2 c2,A=some ad∧S ad.block∧
  w.cell? (ad.add (k*2))=some (.string op[k].1)∧w.cell? ⟨(ad.add (k*2)).block,(ad.add (k*2)).off+1,none⟩=some (.slice A2 n2 c2)∧rdStrs w S op[k].2 [.slice A2 n2 c2]∧plainV (.slice A2 n2 c2):=by
 obtain ⟨A',c',e,h1,h2,h⟩:=h
 simp only [List.cons.injEq,Value.slice.injEq,and_true] at e
 obtain ⟨rfl,rfl,rfl⟩:=e
 rw [opX_len] at h1
 refine ⟨opX_len op vl,by rw [opX_len];exact h1,h2,fun k hk=>?_⟩
 have hk':k < (opX op vl).length:=by rw [opX_len];exact hk
 obtain ⟨ad,es,e,hS,hE,hl,hc⟩:=h k hk'
 rcases opX_at op vl k hk hk' with e1|⟨e1,e2⟩
 ·rw [e1] at hE
  obtain ⟨v,rfl,hv,hp⟩:=hE
  have hv':=hv
  obtain ⟨A2,c2,e3,_⟩:=hv'
  simp only [List.cons.injEq,and_true] at e3
  subst e3
  exact ⟨ad,_,_,_,e,hS,hc 0 _ rfl,by rw [off2_add ad (k*2) 1 (by omega)];exact hc 1 _ rfl,hv,hp⟩
 ·rw [e1] at hE
  obtain ⟨rfl,_⟩:=hE
  rw [e2] at hvl
  have hv':=hvl
  obtain ⟨A2,c2,e3,_⟩:=hv'
  simp only [List.cons.injEq,and_true] at e3
  subst e3
  exact ⟨ad,_,_,_,e,hS,hc 0 _ rfl,by rw [off2_add ad (k*2) 1 (by omega)];exact hc 1 _ rfl,hvl,hpv⟩
set_option maxHeartbeats 1000000 in
theorem begin1_any (s:ByteArray) (A2:Option Addr) (n2 c2:Nat) (nm:ByteArray) (q:Addr) (w:World) (hq:q.block < w.heap.size) (hc:w.cell? q=some (.string nm)) :
  Calls Tryz.prog 106 #[.agg #[.string s,.slice A2 n2 c2],.pointer (some q)] w fun e w'=>e=.returned (.bool (decide (s=nm)))∧Below w.heap.size w w':=by
 have B1:=(Below.refl w.heap.size w).alloc (Nat.le_refl _) (.cells #[.string s,.slice A2 n2 c2] 105)
 have hc1:=((B1.cell hq).trans hc)
 have HB:=Lib.hid B1
 have he:=str_eq s nm
 generalize decide (s=nm)=d at *
 clear B1 hc
 go_enter Tryz.func106,Tryz.ntmps106
 go_wp2
 go_ret
 exact ⟨rfl,HB.out⟩
def opHas (op:List Opn) (n:ByteArray):Bool:=op.any fun f=>decide (f.1=n)
def oplX:List Opn→ByteArray→Nat→Int
 | [],_,_=>-1
 | f::r,n,i=>if f.1=n then i else oplX r n (i+1)
theorem opl_at {l:List Opn} {n:ByteArray} {k:Nat} (hk:k < l.length):(l[k].1=n→oplX (l.drop k) n k=k)∧(l[k].1≠n→oplX (l.drop k) n k=oplX (l.drop (k+1)) n (k+1)):=by
 rw [List.drop_eq_getElem_cons hk]
 exact ⟨fun h=>if_pos h,fun h=>if_neg h⟩
theorem opl_has {n:ByteArray}:∀{l:List Opn} {i:Nat},decide (0≤oplX l n i)=opHas l n
 | [],_=>rfl
 | f::r,i=>by
  unfold opHas oplX
  rw [List.any_cons]
  by_cases h:f.1=n
  ·rw [if_pos h,decide_eq_true h,Bool.true_or,decide_eq_true_iff];omega
  ·rw [if_neg h,decide_eq_false h,Bool.false_or];exact opl_has
set_option maxHeartbeats 2000000 in
theorem ixOp_any (A:Option Addr) (n c:Nat) (op:List Opn) (vl:Value) (nm:ByteArray) (q:Addr) (w:World) (h:rdRow 2 rdOpX w (lt_ w.heap.size) (opX op vl) [.slice A n c]) (hvl:rdStrs w (lt_ w.heap.size) (lastLn op) [vl]) (hpv:plainV vl) (hq:q.block < w.heap.size) (hc:w.cell? q=some (.string nm)) :
  Calls Tryz.prog 123 #[.slice A n c,.func (.func 106) #[] #[.pointer (some q)]] w fun e w'=>e=.returned (.int .i64 (oplX op nm 0))∧Below w.heap.size w w':=by
 have hcf:∀(args:Array Value) (w:World),(callFunc 106 args).run Tryz.prog w=.ok (.enter 106 args) w:=fun _ _=>by kernel_rfl
 obtain ⟨rfl,hnc,hcm,_⟩:=rdOp_at h hvl hpv
 have hcm':c≤9223372036854775807:=hcm
 have H:=Lib.hid h
 have HV:=Lib.hid hvl
 have HPV:=Lib.hid hpv
 have HQ:=Lib.hid hq
 have HC:=Lib.hid hc
 clear h hvl hcm hc hq hpv
 go_enter Tryz.func123,Tryz.ntmps123
 go_wp2
 go_loopw [8] (fun i wr=>∃k:Nat,k≤op.length∧i=.int .i64 k∧oplX op nm 0=oplX (op.drop k) nm k∧Below w.heap.size w wr) (fun i _=>op.length - (intOf i).toNat)
 case atStart=>exact ⟨0,Nat.zero_le _,rfl,rfl,Below.refl _ _⟩
 case round=>
  obtain ⟨k,hk,rfl,h1,hbel⟩:=hrel
  have H1:=Lib.hid h1
  have HB:=Lib.hid hbel
  clear h1
  by_cases hlt:k < op.length
  ·obtain ⟨_,_,_,ha⟩:=rdOp_at ((rdRow_good rdOpX_good).below H.out hbel) (rdStrs_good.below HV.out hbel) HPV.out
   obtain ⟨ad,A2,n2,c2,rfl,had,c0,c1,_⟩:=ha k hlt
   have hqr:q.block < wr.heap.size:=Nat.lt_of_lt_of_le HQ.out hbel.size
   have CL:=Lib.hid (begin1_any op[k].1 A2 n2 c2 nm q wr hqr ((hbel.cell HQ.out).trans HC.out))
   have PA:=Lib.hid (opl_at (l:=op) (n:=nm) hlt)
   clear ha hbel hqr
   have SZ:=Lib.hid HB.out.size
   by_cases he:op[k].1=nm
   ·have X:=Lib.hid (PA.out.1 he)
    have DT:=Lib.hid (decide_eq_true he)
    clear he
    go_wp2_with fail
    refine CL.out.mono ?_
    rw [DT.out]
    rintro e w' ⟨rfl,hb2⟩
    have HB2:=Lib.hid hb2
    clear hb2
    go_wp2
    go_ret
    exact ⟨by rw [H1.out,X.out];try rfl,HB.out.trans (HB2.out.mono SZ.out)⟩
   ·have X:=Lib.hid (PA.out.2 he)
    have DT:=Lib.hid (decide_eq_false he)
    clear he
    go_wp2_with fail
    refine CL.out.mono ?_
    rw [DT.out]
    rintro e w' ⟨rfl,hb2⟩
    have HB2:=Lib.hid hb2
    clear hb2
    go_wp2
    go_roundw
    case rel=>exact ⟨k+1,by omega,by go_num,by rw [H1.out,X.out],HB.out.trans (HB2.out.mono SZ.out)⟩
    case measure=>simp [intOf];omega
  ·have X:=Lib.hid (show oplX op nm 0=-1 by rw [H1.out,List.drop_eq_nil_of_le (by omega)];rfl)
   go_wp2
   go_ret
   exact ⟨by rw [X.out];try rfl,HB.out⟩
set_option maxHeartbeats 2000000 in
theorem hasOp_any (A:Option Addr) (n c:Nat) (op:List Opn) (vl:Value) (nm:ByteArray) (q:Addr) (w:World) (h:rdRow 2 rdOpX w (lt_ w.heap.size) (opX op vl) [.slice A n c]) (hvl:rdStrs w (lt_ w.heap.size) (lastLn op) [vl]) (hpv:plainV vl) (hq:q.block < w.heap.size) (hc:w.cell? q=some (.string nm)) :
  Calls Tryz.prog 105 #[.slice A n c,.func (.func 106) #[] #[.pointer (some q)]] w fun e w'=>e=.returned (.bool (opHas op nm))∧Below w.heap.size w w':=by
 have C:=Lib.hid (ixOp_any A n c op vl nm q w h hvl hpv hq hc)
 have X:=Lib.hid (opl_has (l:=op) (n:=nm) (i:=0))
 clear h hvl hpv hq hc
 go_enter Tryz.func105,Tryz.ntmps105
 go_wp2_with (go_at_call 123;(with_reducible refine C.out.mono ?_);rintro e w' ⟨rfl,hb2⟩)
 go_ret
 exact ⟨by rw [←X.out];rfl,hb2⟩
theorem sjoin5_any {A:Option Addr} {n c:Nat} {l:List (List Nat)} (w:World) (h:rdStrs w (lt_ w.heap.size) l [.slice A n c]) (hp:plainV (.slice A n c)) (sep:ByteArray) (hl:l.length≤140737488355328) (hj:(joinL (B sep) l).length≤140737488355328) :
  Calls Tryz.prog 85 #[.slice A n c,.string sep] w fun e w'=>e=.returned (.string (mk (joinL (B sep) l)))∧Below w.heap.size w w':=by
 obtain ⟨rfl,hnc,hcm,hat⟩:=rdStrs_at h
 rcases Nat.eq_zero_or_pos l.length with h0|h0
 ·obtain rfl:l=[]:=List.eq_nil_of_length_eq_zero h0
  refine (Tryz.strings_Join_none A c sep w).mono ?_
  rintro e w' ⟨rfl,rfl⟩
  exact ⟨rfl,Below.refl _ _⟩
 ·obtain ⟨ad,_,hA,hlt,_⟩:=hat 0 h0
  have had:=hp ad _ c (by rw [hA])
  obtain ⟨bk,o,sp⟩:=ad
  simp only [Addr.mk.injEq,true_and] at had
  subst had
  subst hA
  have hxs:∀k (hk:k < l.length),B (mk l[k])=l[k]:=fun k hk=>by
   obtain ⟨ad,s,_,_,_,hB⟩:=hat k hk
   rw [←hB,mk_B]
  have hmap:(l.map mk).map B=l:=by
   rw [List.map_map]
   conv=>rhs;rw [←List.map_id l]
   refine List.map_congr_left fun t ht=>?_
   obtain ⟨k,hk,rfl⟩:=List.getElem_of_mem ht
   exact hxs k hk
  have hlj:(Lib.join ((l.map mk).map (·.data.toList)) sep.data.toList).length≤140737488355328:=by
   have h1:=congrArg List.length (libjoin_is sep (l.map mk))
   rw [List.length_map,hmap] at h1
   rw [h1];exact hj
  have key:=Tryz.strings_Join bk o c (l.map mk) sep w (fun j x hj=>by
   obtain ⟨hj1,hj2⟩:=List.getElem?_eq_some_iff.1 hj
   rw [List.length_map] at hj1
   obtain ⟨ad,s,e1,_,hc,hB⟩:=hat j hj1
   injection e1 with e1
   subst e1
   have:(⟨bk,o,none⟩:Addr).add j=⟨bk,o+j,none⟩:=by unfold Addr.add;split<;>simp_all
   rw [this] at hc
   rw [hc,←hj2,List.getElem_map,←hB,mk_B]) hlt (by rw [List.length_map];exact hl) (by rw [List.length_map];exact hnc) hlj
  rw [List.length_map] at key
  refine key.mono ?_
  rintro e w' ⟨rfl,hb'⟩
  refine ⟨?_,hb'⟩
  congr 2
  refine eq_mk ?_
  have h1:=libjoin_is sep (l.map mk)
  rw [hmap] at h1
  rw [←h1]
  unfold B;simp
def ahead (c:Nat) (l:List Nat):List Nat:=l.takeWhile fun x=>x != c
theorem index_nm (b:UInt8):∀l:List UInt8,(b.toNat ∈ l.map UInt8.toNat∧Lib.indexByte l b=((ahead b.toNat (l.map UInt8.toNat)).length:Int))∨(b.toNat ∉ l.map UInt8.toNat∧Lib.indexByte l b=-1∧ahead b.toNat (l.map UInt8.toNat)=l.map UInt8.toNat)
 | []=>.inr ⟨by simp,rfl,rfl⟩
 | c::l=>by
  have ih:=index_nm b l
  by_cases h:c=b
  ·subst h
   exact .inl ⟨by simp,by simp [ahead,Lib.indexByte]⟩
  ·have h2:c.toNat≠b.toNat:=fun hh=>h (UInt8.toNat_inj.1 hh)
   have h3:(c==b)=false:=by rw [beq_eq_false_iff_ne];exact h
   have h5:(c.toNat != b.toNat)=true:=by rw [bne_iff_ne];exact h2
   have e2:ahead b.toNat ((c::l).map UInt8.toNat)=c.toNat::ahead b.toNat (l.map UInt8.toNat):=by
    show List.takeWhile _ (c.toNat::l.map UInt8.toNat)=_
    rw [List.takeWhile_cons,if_pos h5];rfl
   rw [e2]
   simp only [Lib.indexByte,h3,Bool.false_eq_true,if_false]
   rcases ih with ⟨a,b'⟩|⟨a,b',d⟩
   ·refine .inl ⟨by rw [List.map_cons];exact List.mem_cons_of_mem _ a,?_⟩
    rw [b']
    have:(((ahead b.toNat (l.map UInt8.toNat)).length:Int)==-1)=false:=by rw [beq_eq_false_iff_ne];omega
    rw [this]
    simp only [Bool.false_eq_true,if_false,List.length_cons]
    omega
   ·refine .inr ⟨by rw [List.map_cons,List.mem_cons];exact fun e=>e.elim (fun e=>h2 e.symm) a,?_,by rw [d];rfl⟩
    rw [b'];rfl
theorem ahead_take (c:Nat) (l:List Nat):l.take (ahead c l).length=ahead c l:=(List.prefix_iff_eq_take.1 (List.takeWhile_prefix _)).symm
theorem cut5_is (s:ByteArray) (b:UInt8):(⟨(Lib.cut s.data.toList [b]).1.toArray⟩:ByteArray)=mk (ahead b.toNat (B s))∧(⟨(Lib.cut s.data.toList [b]).2.1.toArray⟩:ByteArray)=mk ((B s).drop ((ahead b.toNat (B s)).length+1))∧(Lib.cut s.data.toList [b]).2.2=decide (b.toNat ∈ B s):=by
 rcases index_nm b s.data.toList with ⟨a,h⟩|⟨a,h,d⟩
 ·have hh:b.toNat ∈ B s:=a
  have hb:Lib.indexByte s.data.toList b=((ahead b.toNat (B s)).length:Int):=h
  have e0:Lib.cut s.data.toList [b]=(s.data.toList.take (ahead b.toNat (B s)).length,s.data.toList.drop ((ahead b.toNat (B s)).length+1),true):=by
   unfold Lib.cut;rw [Lib.index_one,if_pos (by omega),show (Lib.indexByte s.data.toList b).toNat=(ahead b.toNat (B s)).length by omega];rfl
  rw [e0,decide_eq_true hh]
  refine ⟨?_,?_,rfl⟩
  ·rw [take_mk,ahead_take]
  ·rw [drop_mk]
 ·have hh:b.toNat ∉ B s:=a
  have hd:ahead b.toNat (B s)=B s:=d
  have e0:Lib.cut s.data.toList [b]=(s.data.toList,[],false):=by
   unfold Lib.cut;rw [Lib.index_one,if_neg (by omega)]
  rw [e0,decide_eq_false hh,hd,List.drop_eq_nil_of_le (by omega)]
  exact ⟨eq_mk rfl,rfl,rfl⟩
theorem colon_any (s:ByteArray) (m:Int) (w:World) (hs:s.size≤65536) (hm:w.cell? ⟨2,0,none⟩=some (.int .i64 m)) :
  Calls Tryz.prog 99 #[.string s,.string { data:=#[58] }] w fun e w'=>e=.returned (.tuple #[.string (mk (nmOf (B s))),.string (mk ((B s).drop ((nmOf (B s)).length+1))),.bool (decide (58 ∈ B s))])∧∃n,w'=w.drewN n:=by
 refine (Tryz.strings_Cut s { data:=#[58] } m w (by omega) hm).mono ?_
 rintro e w' ⟨rfl,n,rfl⟩
 refine ⟨?_,n,rfl⟩
 obtain ⟨a,b,c⟩:=cut5_is s 58
 show Ending.returned (.tuple #[.string ⟨(Lib.cut s.data.toList [58]).1.toArray⟩,.string ⟨(Lib.cut s.data.toList [58]).2.1.toArray⟩,.bool (Lib.cut s.data.toList [58]).2.2])=_
 rw [a,b,c]
 rfl
theorem drop_while_nat (b:UInt8):∀l:List UInt8,(l.dropWhile (·==b)).map UInt8.toNat=(l.map UInt8.toNat).dropWhile fun c=>c==b.toNat
 | []=>rfl
 | c::l=>by
  by_cases h:c=b
  ·subst h
   rw [List.map_cons,List.dropWhile_cons,List.dropWhile_cons,if_pos (beq_self_eq_true _),if_pos (beq_self_eq_true _)]
   exact drop_while_nat c l
  ·have h2:c.toNat≠b.toNat:=fun hh=>h (UInt8.toNat_inj.1 hh)
   rw [List.map_cons,List.dropWhile_cons,List.dropWhile_cons,if_neg (by simpa using h),if_neg (by simpa using h2)]
   rfl
theorem trim5_any (s:ByteArray) (w:World) :
  Calls Tryz.prog 107 #[.string s,.string { data:=#[32] }] w fun e w'=>e=.returned (.string (mk ((B s).dropWhile fun c=>c==32)))∧w'=w:=by
 refine (Tryz.strings_TrimLeft_one s 32 (by decide) w).mono ?_
 rintro e w' ⟨rfl,rfl⟩
 refine ⟨?_,rfl⟩
 congr 2
 refine eq_mk ?_
 have h:=drop_while_nat 32 s.data.toList
 unfold Lib.trimLeftB
 unfold B
 rw [List.toList_toArray]
 exact h
theorem ahead_at {c:Nat}:∀{l:List Nat},c ∈ l→l=ahead c l++c::l.drop ((ahead c l).length+1)
 | [],h=>by simp at h
 | x::l,h=>by
  unfold ahead
  by_cases hx:x=c
  ·subst hx;simp
  ·have hb:(x != c)=true:=by rw [bne_iff_ne];exact hx
   have:=ahead_at ((List.mem_cons.1 h).resolve_left fun e=>hx e.symm)
   rw [List.takeWhile_cons,if_pos hb,List.length_cons,List.drop_succ_cons,List.cons_append]
   congr 1
theorem ahead_ne {c:Nat}:∀{l:List Nat},∀x ∈ ahead c l,x≠c
 | [],x,hx=>by simp [ahead] at hx
 | y::l,x,hx=>by
  unfold ahead at hx
  rw [List.takeWhile_cons] at hx
  split at hx
  ·rename_i hy
   rcases List.mem_cons.1 hx with rfl|hx
   ·simpa using hy
   ·exact ahead_ne x hx
  ·cases hx
theorem ext0_mk {s:ByteArray} {k:Nat}:s.extract 0 k=mk ((B s).take k):=by
 apply eq_mk;rw [B_extract];simp
theorem ext1_B {s:ByteArray} {k:Nat}:B (s.extract k s.size)=(B s).drop k:=by
 rw [B_extract,List.take_of_length_le (by rw [List.length_drop,B_len];omega)]
theorem split5_is:∀(k:Nat) (s:ByteArray),Lib.countB s { data:=#[10] }=k→Lib.splitB { data:=#[10] } 0 k s=(cutBy 10 (B s)).map mk:=by
 have miss:∀s:ByteArray,10 ∉ B s→[s]=(cutBy 10 (B s)).map mk:=fun s a=>by
  rw [cutBy_none (fun x hx e=>a (by rw [←e];exact hx)),List.map_singleton,mk_B]
 intro k
 induction k with
 | zero=>
  intro s h
  rw [Lib.splitB_zero]
  refine miss s fun a=>?_
  rcases index_nm 10 s.data.toList with ⟨_,h'⟩|⟨a',_⟩
  ·have hi:Lib.indexB s { data:=#[10] }=((ahead 10 (B s)).length:Nat):=(Lib.index_one _ _).trans h'
   have:=Lib.countB_hit s { data:=#[10] } _ (by decide) hi
   omega
  ·exact a' a
 | succ k ih=>
  intro s h
  rcases index_nm 10 s.data.toList with ⟨a,h'⟩|⟨_,h',_⟩
  ·have hi:Lib.indexB s { data:=#[10] }=((ahead 10 (B s)).length:Nat):=(Lib.index_one _ _).trans h'
   have hc:=Lib.countB_hit s { data:=#[10] } _ (by decide) hi
   have hm:¬(Lib.indexB s { data:=#[10] }==-1)=true:=fun e=>by have:=beq_iff_eq.1 e;omega
   unfold Lib.splitB
   rw [if_neg hm,hi,ih _ (by rw [show ((ahead 10 (B s)).length:Int).toNat=(ahead 10 (B s)).length by omega];omega)]
   have e:=ahead_at (c:=10) (l:=B s) a
   have e2:cutBy 10 (B s)=ahead 10 (B s)::cutBy 10 ((B s).drop ((ahead 10 (B s)).length+1)):=by
    conv=>lhs;rw [e]
    exact cutBy_at ahead_ne _
   rw [e2,List.map_cons,ext0_mk,ext1_B,show ((ahead 10 (B s)).length:Int).toNat+0=(ahead 10 (B s)).length by omega,ahead_take]
   rfl
  ·have hi:Lib.indexB s { data:=#[10] }=-1:=(Lib.index_one _ _).trans h'
   have:=Lib.countB_miss s _ hi
   omega
theorem split5_any (s:ByteArray) (m:Int) (w:World) (hs:s.size≤65536) (hm:w.cell? ⟨2,0,none⟩=some (.int .i64 m)) :
  Calls Tryz.prog 62 #[.string s,.string { data:=#[10] }] w fun e w'=>e=.returned (.slice (some ⟨w.heap.size,0,none⟩) (cutBy 10 (B s)).length (cutBy 10 (B s)).length)∧
   w'=w.alloc (.cells (((cutBy 10 (B s)).map mk).map Value.string).toArray 9):=by
 have e:=split5_is _ s rfl
 have el:=Lib.splitB_all { data:=#[10] } (by decide) 0 _ s rfl
 rw [e,List.length_map] at el
 refine (Tryz.strings_Split s { data:=#[10] } m w (by omega) hm (by decide)).mono ?_
 rintro e' w' ⟨rfl,rfl⟩
 rw [e,←el]
 exact ⟨rfl,rfl⟩
set_option maxHeartbeats 2000000 in
theorem begin5_form (x:ByteArray) (N r k:Nat) (p:PS) (vs vo vl:Value) (m:Int) (w:World) (hR:RdP w N r k p vs vo vl) (hx:x.size≤65536) (hm:w.cell? ⟨2,0,none⟩=some (.int .i64 m)) (h:(decide (58 ∈ B x)&&fnB (nmOf (B x)))=false) :
  Calls Tryz.prog 84 #[.pointer (some ⟨r,0,none⟩),.string x] w fun e w'=>e=erE 5∧Below w.heap.size w w':=by
 have C:=Lib.hid (colon_any x m w hx hm)
 have HX:=Lib.hid hx
 have nmB5:B (mk (nmOf (B x)))=nmOf (B x):=by
  have e:B (mk ((B x).take (nmOf (B x)).length))=(B x).take (nmOf (B x)).length:=by rw [←ext0_mk,B_extract];simp
  rwa [nm_take] at e
 clear hR hm
 cases h1:decide (58 ∈ B x)
 ·rw [h1] at C
  clear h h1 hx nmB5
  go_enter Tryz.func84,Tryz.ntmps84
  go_wp2_with fail
  refine C.out.mono ?_
  rintro e w1 ⟨rfl,n,rfl⟩
  have hb:=belD (Below.refl w.heap.size w) n
  generalize w.drewN n=V at *
  have HB:=Lib.hid (hb.alloc hb.size (.cells #[.string (mk (nmOf (B x)))] 9))
  clear hb
  go_wp2
  exact ⟨rfl,rfl,HB.out⟩
 ·rw [h1] at C
  rw [h1,Bool.true_and] at h
  have NM:=Lib.hid (fun W=>name5_any (mk (nmOf (B x))) W (by rw [←B_len];have:=nm_le (B x);rw [B_len] at this;rw [nmB5];unfold maxLen;omega))
  rw [nmB5,h] at NM
  clear h h1 hx nmB5
  go_enter Tryz.func84,Tryz.ntmps84
  go_wp2_with fail
  refine C.out.mono ?_
  rintro e w1 ⟨rfl,n,rfl⟩
  have hb:=belD (Below.refl w.heap.size w) n
  generalize w.drewN n=V at *
  have HB:=Lib.hid (hb.alloc hb.size (.cells #[.string (mk (nmOf (B x)))] 9))
  clear hb
  go_wp2_with fail
  refine (NM.out _).mono ?_
  rintro e w2 ⟨rfl,hb2⟩
  have HB2:=Lib.hid (HB.out.trans (hb2.mono HB.out.size))
  clear hb2
  go_wp2
  exact ⟨rfl,rfl,HB2.out⟩
theorem nm_mk (x:ByteArray):B (mk (nmOf (B x)))=nmOf (B x):=by
 have e:B (mk ((B x).take (nmOf (B x)).length))=(B x).take (nmOf (B x)).length:=by rw [←ext0_mk,B_extract];simp
 rwa [nm_take] at e
set_option maxHeartbeats 2000000 in
theorem begin5_there (x:ByteArray) (N r k:Nat) (p:PS) (vs vo vl:Value) (m:Int) (w:World) (hR:RdP w N r k p vs vo vl) (hr:r < w.heap.size) (hx:x.size≤65536) (hm:w.cell? ⟨2,0,none⟩=some (.int .i64 m)) (h:(decide (58 ∈ B x)&&fnB (nmOf (B x)))=true)
  (hh:opHas p.op (mk (nmOf (B x)))=true) :
  Calls Tryz.prog 84 #[.pointer (some ⟨r,0,none⟩),.string x] w fun e w'=>e=erE 7∧Below w.heap.size w w':=by
 have C:=Lib.hid (colon_any x m w hx hm)
 rw [Bool.and_eq_true] at h
 obtain ⟨A,c,rfl,hc1,hc2⟩:=hR.own
 have hc2':c≤9223372036854775807:=hc2
 rw [h.1] at C
 have NM:=Lib.hid (fun W=>name5_any (mk (nmOf (B x))) W (by rw [←B_len,nm_mk];have:=nm_le (B x);rw [B_len] at this;unfold maxLen;omega))
 rw [nm_mk,h.2] at NM
 have HR:=Lib.hid hR
 have HH:=Lib.hid hh
 have HRR:=Lib.hid hr
 clear hR hm hx h hh hc2 hr
 go_enter Tryz.func84,Tryz.ntmps84
 go_wp2_with fail
 refine C.out.mono ?_
 rintro e w1 ⟨rfl,n,rfl⟩
 have hb:=belD (Below.refl w.heap.size w) n
 generalize w.drewN n=V at *
 have HB:=Lib.hid (hb.alloc hb.size (.cells #[.string (mk (nmOf (B x)))] 9))
 have hq:(⟨V.heap.size,0,none⟩:Addr).block < (V.alloc (.cells #[.string (mk (nmOf (B x)))] 9)).heap.size:=by rw [World.size_alloc];exact Nat.lt_succ_self _
 have hc:(V.alloc (.cells #[.string (mk (nmOf (B x)))] 9)).cell? ⟨V.heap.size,0,none⟩=some (.string (mk (nmOf (B x)))):=by simp [go_sem]
 have HQ:=Lib.hid hq
 have HC:=Lib.hid hc
 clear hb hq hc
 go_wp2_with fail
 refine (NM.out _).mono ?_
 rintro e w2 ⟨rfl,hb2⟩
 have HB2:=Lib.hid (HB.out.trans (hb2.mono HB.out.size))
 have R2:=Lib.hid (HR.out.below HB2.out HRR.out)
 have c2:=R2.out.c2
 have CF:=Lib.hid (hasOp_any A p.op.length c p.op vl (mk (nmOf (B x))) ⟨V.heap.size,0,none⟩ w2 (R2.out.go.read rdOpX_good) (R2.out.gl.read rdStr_good) R2.out.gl.plain (Nat.lt_of_lt_of_le HQ.out hb2.size) ((hb2.cell HQ.out).trans HC.out))
 rw [HH.out] at CF
 clear hb2
 have hmf:∀(fn:Fn) (first cap:Array Value) (w:World),(Instr.makeFunc fn first cap).run Tryz.prog w=.ok (.func fn first cap) w:=fun _ _ _ _=>rfl
 go_wp2_with fail
 refine CF.out.mono ?_
 rintro e w3 ⟨rfl,hb3⟩
 have HB3:=Lib.hid (HB2.out.trans (hb3.mono HB2.out.size))
 clear hb3 c2
 go_wp2
 exact ⟨rfl,rfl,HB3.out⟩
set_option maxHeartbeats 2000000 in
theorem begin5_many (x:ByteArray) (N r k:Nat) (p:PS) (vs vo vl:Value) (m:Int) (w:World) (hR:RdP w N r k p vs vo vl) (hr:r < w.heap.size) (hx:x.size≤65536) (hm:w.cell? ⟨2,0,none⟩=some (.int .i64 m)) (h:(decide (58 ∈ B x)&&fnB (nmOf (B x)))=true)
  (hh:opHas p.op (mk (nmOf (B x)))=false) (h8:p.op.length=40∨p.dn.length=200) :
  Calls Tryz.prog 84 #[.pointer (some ⟨r,0,none⟩),.string x] w fun e w'=>e=erE 8∧Below w.heap.size w w':=by
 have C:=Lib.hid (colon_any x m w hx hm)
 rw [Bool.and_eq_true] at h
 obtain ⟨A,c,rfl,hc1,hc2⟩:=hR.own
 have hc2':c≤9223372036854775807:=hc2
 obtain ⟨As,cs,hvs,_,hs2⟩:=hR.gs.own
 have hs2':cs≤9223372036854775807:=hs2
 have H8:=Lib.hid h8
 rw [h.1] at C
 have NM:=Lib.hid (fun W=>name5_any (mk (nmOf (B x))) W (by rw [←B_len,nm_mk];have:=nm_le (B x);rw [B_len] at this;unfold maxLen;omega))
 rw [nm_mk,h.2] at NM
 have HR:=Lib.hid hR
 have HH:=Lib.hid hh
 have HRR:=Lib.hid hr
 clear hR hm hx h hh hc2 hr hs2 h8
 go_enter Tryz.func84,Tryz.ntmps84
 go_wp2_with fail
 refine C.out.mono ?_
 rintro e w1 ⟨rfl,n,rfl⟩
 have hb:=belD (Below.refl w.heap.size w) n
 generalize w.drewN n=V at *
 have HB:=Lib.hid (hb.alloc hb.size (.cells #[.string (mk (nmOf (B x)))] 9))
 have hq:(⟨V.heap.size,0,none⟩:Addr).block < (V.alloc (.cells #[.string (mk (nmOf (B x)))] 9)).heap.size:=by rw [World.size_alloc];exact Nat.lt_succ_self _
 have hc:(V.alloc (.cells #[.string (mk (nmOf (B x)))] 9)).cell? ⟨V.heap.size,0,none⟩=some (.string (mk (nmOf (B x)))):=by simp [go_sem]
 have HQ:=Lib.hid hq
 have HC:=Lib.hid hc
 clear hb hq hc
 go_wp2_with fail
 refine (NM.out _).mono ?_
 rintro e w2 ⟨rfl,hb2⟩
 have HB2:=Lib.hid (HB.out.trans (hb2.mono HB.out.size))
 have R2:=Lib.hid (HR.out.below HB2.out HRR.out)
 have c2:=R2.out.c2
 have CF:=Lib.hid (hasOp_any A p.op.length c p.op vl (mk (nmOf (B x))) ⟨V.heap.size,0,none⟩ w2 (R2.out.go.read rdOpX_good) (R2.out.gl.read rdStr_good) R2.out.gl.plain (Nat.lt_of_lt_of_le HQ.out hb2.size) ((hb2.cell HQ.out).trans HC.out))
 rw [HH.out] at CF
 clear hb2
 have hmf:∀(fn:Fn) (first cap:Array Value) (w:World),(Instr.makeFunc fn first cap).run Tryz.prog w=.ok (.func fn first cap) w:=fun _ _ _ _=>rfl
 go_wp2_with fail
 refine CF.out.mono ?_
 rintro e w3 ⟨rfl,hb3⟩
 have HB3:=Lib.hid (HB2.out.trans (hb3.mono HB2.out.size))
 have R3:=HR.out.below HB3.out HRR.out
 have d2:=R3.c2
 have d1:=R3.c1
 rw [hvs] at d1
 clear hb3 c2 R3
 by_cases h40:p.op.length=40
 ·have q0:((p.op.length:Int)==40)=true:=by rw [h40];rfl
  clear H8
  go_wp2
  exact ⟨rfl,rfl,HB3.out⟩
 ·have q0:((p.op.length:Int)==40)=false:=by rw [beq_eq_false_iff_ne];omega
  have q1:((p.dn.length:Int)==200)=true:=by rw [H8.out.resolve_left h40];rfl
  clear H8 h40
  go_wp2
  exact ⟨rfl,rfl,HB3.out⟩
theorem begin5_no (x:ByteArray) (N r k:Nat) (p:PS) (vs vo vl:Value) (m:Int) (w:World) (hR:RdP w N r k p vs vo vl) (hr:r < w.heap.size) (hx:x.size≤65536) (hm:w.cell? ⟨2,0,none⟩=some (.int .i64 m)) (h:begE p (B x)≠0) :
  Calls Tryz.prog 84 #[.pointer (some ⟨r,0,none⟩),.string x] w fun e w'=>e=erE (begE p (B x))∧Below w.heap.size w w':=by
 unfold begE at h ⊢
 by_cases h1:(decide (58 ∈ B x)&&fnB (nmOf (B x)))=true
 ·rw [if_pos h1] at h ⊢
  by_cases h2:(p.op.any fun f=>decide (f.1=mk (nmOf (B x))))=true
  ·rw [if_pos h2] at h ⊢
   exact begin5_there x N r k p vs vo vl m w hR hr hx hm h1 h2
  ·rw [if_neg h2] at h ⊢
   by_cases h3:(decide (p.op.length=40)||decide (p.dn.length=200))=true
   ·rw [if_pos h3] at h ⊢
    rw [Bool.or_eq_true,decide_eq_true_iff,decide_eq_true_iff] at h3
    exact begin5_many x N r k p vs vo vl m w hR hr hx hm h1 (Bool.eq_false_iff.2 h2) h3
   ·rw [if_neg h3] at h
    exact absurd rfl h
 ·rw [if_neg h1] at h ⊢
  exact begin5_form x N r k p vs vo vl m w hR hx hm (Bool.eq_false_iff.2 h1)
set_option maxHeartbeats 1000000 in
theorem end5_none (N r k:Nat) (p:PS) (vs vo vl:Value) (w:World) (hR:RdP w N r k p vs vo vl) (h:p.op=[]) :
  Calls Tryz.prog 64 #[.pointer (some ⟨r,0,none⟩)] w fun e w'=>e=.returned (.tuple #[])∧w=w':=by
 obtain ⟨A,c,rfl,hc1,hc2⟩:=hR.own
 have hc2':c≤9223372036854775807:=hc2
 have c2:=hR.c2
 rw [h] at c2
 simp only [List.length_nil] at c2
 clear hR h hc1 hc2
 go_enter Tryz.func64,Tryz.ntmps64
 go_wp2
 exact bodyPost_ret_by (results_none (by rfl) _ _ _) rfl ⟨rfl,rfl⟩
set_option maxHeartbeats 2000000 in
theorem read5_no (x:ByteArray) (N r k:Nat) (p:PS) (vs vo vl:Value) (m:Int) (w:World) (hR:RdP w N r k p vs vo vl) (hr:r < w.heap.size) (hx:x.size≤65536) (hm:w.cell? ⟨2,0,none⟩=some (.int .i64 m)) (h:lnE p (B x)≠0) :
  Calls Tryz.prog 63 #[.pointer (some ⟨r,0,none⟩),.string x] w fun e w'=>e=erE (lnE p (B x))∧Below w.heap.size w w':=by
 have LW:=Lib.hid (low5_any x w (by unfold maxLen;omega))
 unfold lnE at h ⊢
 by_cases h1:lowB (B x)=true
 ·rw [if_pos h1]
  rw [h1] at LW
  clear hR hr hm h h1 hx
  go_enter Tryz.func63,Tryz.ntmps63
  go_wp2_with fail
  refine LW.out.mono ?_
  rintro e w1 ⟨rfl,hb⟩
  go_wp2
  exact ⟨rfl,rfl,hb⟩
 ·rw [if_neg h1] at h ⊢
  rw [Bool.eq_false_iff.2 h1] at LW
  clear h1
  have em:=emp_eq x
  cases hB:B x with
  | nil=>rw [hB] at h;exact absurd rfl h
  | cons c rs=>
   rw [hB] at h
   simp only at h ⊢
   rw [decide_eq_false (show ¬B x=[] by rw [hB];simp)] at em
   have hs0:0 < x.size:=by rw [←B_len,hB];simp
   have hc:x[0].toNat=c:=by rw [←B_getD x 0 hs0,hB];rfl
   have hE:B (x.extract 1 x.size)=rs:=by rw [ext1_B,hB];rfl
   have HR:=Lib.hid hR
   have HRR:=Lib.hid hr
   have HM:=Lib.hid hm
   have HH:=Lib.hid h
   have HX:=Lib.hid hx
   have HBX:=Lib.hid hB
   clear hR hr hm h hB
   by_cases h32:c=32
   ·rw [if_pos h32]
    have HG:=Lib.hid (show goE p rs≠0 by have:=HH.out;rwa [if_pos h32] at this)
    have q0:((x[0].toNat:Int)==32)=true:=by rw [hc,h32];rfl
    have GN:=Lib.hid (show p.op=[]∨B (x.extract 1 x.size)=[] by
     have:=HG.out
     unfold goE at this
     split at this
     ·rename_i hh
      rw [Bool.or_eq_true,decide_eq_true_iff,decide_eq_true_iff] at hh
      rw [hE];exact hh
     ·exact absurd rfl this)
    have G5:=Lib.hid (show goE p rs=5 by
     have:=HG.out
     unfold goE at this ⊢
     split at this
     ·rename_i hh;rw [if_pos hh]
     ·exact absurd rfl this)
    clear hc hE h32 HH
    go_enter Tryz.func63,Tryz.ntmps63
    go_wp2_with fail
    refine LW.out.mono ?_
    rintro e w1 ⟨rfl,hb⟩
    have R1:=Lib.hid (HR.out.below hb HRR.out)
    have HB:=Lib.hid hb
    clear hb
    go_wp2_with fail
    refine (goOn5_no (x.extract 1 x.size) N r k p vs vo vl _ R1.out GN.out).mono ?_
    rintro e w2 ⟨rfl,rfl⟩
    go_wp2
    exact ⟨rfl,by rw [G5.out],HB.out⟩
   ·rw [if_neg h32]
    have HG:=Lib.hid (show begE p (B x)≠0 by have:=HH.out;rw [if_neg h32] at this;rw [HBX.out];exact this)
    have q0:((x[0].toNat:Int)==32)=false:=by rw [hc,beq_eq_false_iff_ne];omega
    clear hc hE h32 HH
    go_enter Tryz.func63,Tryz.ntmps63
    go_wp2_with fail
    refine LW.out.mono ?_
    rintro e w1 ⟨rfl,hb⟩
    have R1:=Lib.hid (HR.out.below hb HRR.out)
    have HB:=Lib.hid hb
    have M1:=Lib.hid ((hb.cell (show (⟨2,0,none⟩:Addr).block < w.heap.size from World.block_lt_of_cell? _ _ HM.out)).trans HM.out)
    clear hb
    go_wp2_with fail
    refine (begin5_no x N r k p vs vo vl m _ R1.out (Nat.lt_of_lt_of_le HRR.out HB.out.size) HX.out M1.out HG.out).mono ?_
    rintro e w2 ⟨rfl,hb2⟩
    have HB2:=Lib.hid (HB.out.trans (hb2.mono HB.out.size))
    clear hb2
    go_wp2
    exact ⟨rfl,by rw [←HBX.out],HB2.out⟩
theorem Grow.recast {α β:Type} {E:Rd α} {F:Rd β} {sz:Nat} {T:Nat→Prop} {w:World} {base:Nat} {e:TypeId} {v:Value} {l:List α} (h:Grow E sz T w base e v l) (l':List β) (hl:l'.length=l.length)
  (hE:∀k (hk:k < l.length) (hk':k < l'.length) cs,E w (fun b=>T b∧b < w.heap.size∧v.ownBlock≠some b) l[k] cs→F w (fun b=>T b∧b < w.heap.size∧v.ownBlock≠some b) l'[k] cs):Grow F sz T w base e v l':=by
 obtain ⟨css,hc,ho,h⟩:=h
 refine ⟨css,by rw [hc,hl],by rw [hl];exact ho,fun k hk=>?_⟩
 obtain ⟨cs,h1,h2⟩:=h k (by omega)
 exact ⟨cs,h1,hE k (by omega) hk cs h2⟩
theorem Grow.inOwn {α:Type} {E:Rd α} {sz:Nat} (g:Good E sz) (hf:∀(w:World) (S S':Nat→Prop) a cs,E w S a cs→E w S' a cs) {T:Nat→Prop} {w:World} {base:Nat} {e:TypeId} {v:Value} {l:List α} (h:Grow E sz T w base e v l):rdRow sz E w (fun b=>v.ownBlock=some b∧base≤b∧b < w.heap.size) l [v]:=by
 obtain ⟨css,hl,ho,hE⟩:=h
 have hls:=Grow.lens g hl hE
 rcases ho.2 with ⟨rfl,h0⟩|⟨gb,cap,cur,rfl,hb,hg,hn,hm,hs,ht⟩
 ·obtain rfl:l=[]:=List.eq_nil_of_length_eq_zero h0
  exact rdRow_nil w _
 ·have hlt:gb < w.heap.size:=(Array.getElem?_eq_some_iff.1 hg).1
  refine ⟨_,cap,rfl,hn,hm,fun k hk=>?_⟩
  obtain ⟨cs,h1,h2⟩:=hE k hk
  refine ⟨_,cs,rfl,⟨rfl,hb,hlt⟩,hf _ _ _ _ _ h2,g.len h2,fun j u hu=>?_⟩
  exact ho.cells (g:=gb) rfl _ _ (flatten_at sz hls h1 j u hu)
theorem RdP.shut {W:World} {N r k:Nat} {p:PS} {vs vo vl:Value} (h:RdP W N r k p vs vo vl):Grow rdOpX 2 (fun b=>N≤b) W N 105 vo (p.op.map Sum.inl):=by
 refine (h.go.retag rdOpX_good (T':=fun b=>N≤b) fun b hb _=>hb.1).recast _ (by rw [List.length_map,opX_len]) fun k hk hk' cs hE=>?_
 have hk2:k < p.op.length:=by rw [opX_len] at hk;exact hk
 rw [List.getElem_map]
 rcases opX_at p.op vl k hk2 hk with e|⟨e,e2⟩
 ·rw [e] at hE;exact hE
 ·rw [e] at hE
  refine ⟨vl,hE.1,?_,h.gl.plain⟩
  rw [←e2]
  exact rdStrs_good.more (h.gl.inOwn rdStr_good fun _ _ _ _ _ h=>h) fun b hb=>⟨hb.2.1,hb.2.2,fun e=>h.ol b e hb.1⟩
theorem Grow.one {T:Nat→Prop} {W:World} {base b:Nat} {e:TypeId} {x:ByteArray} (hb:W.heap[b]?=some (.cells #[.string x] e (0,0))) (hbase:base≤b):Grow rdStr 1 T W base e (.slice (some ⟨b,0,none⟩) 1 1) [B x]:=
 ⟨[[.string x]],rfl,⟨by simp,.inr ⟨b,1,#[.string x],rfl,hbase,hb,Nat.le_refl _,by decide,by simp,by simp⟩⟩,fun k hk=>by
  simp only [List.length_singleton] at hk
  obtain rfl:k=0:=by omega
  exact ⟨_,rfl,x,rfl,rfl⟩⟩
abbrev lnBk (val:ByteArray):Obj:=Obj.cells #[Value.string val] 9
abbrev opBk (nm:ByteArray) (b:Nat):Obj:=Obj.cells #[Value.string nm,Value.slice (some ⟨b,0,none⟩) 1 1] 105
structure Op0 (V W:World) (N:Nat) (op:List Opn) (vo:Value) (nm:ByteArray):Prop where
 g:Grow rdOpX 2 (fun b=>N≤b∧(Value.slice (some ⟨V.heap.size,0,none⟩) 1 1).ownBlock≠some b) W N 105 vo (op.map Sum.inl)
 x:rdRow 2 rdOpX W (fun b=>b=V.heap.size+1) [.inr (nm,.slice (some ⟨V.heap.size,0,none⟩) 1 1)] [.slice (some ⟨V.heap.size+1,0,none⟩) 1 1]
 s:∀b,b=V.heap.size+1→(N≤b∧(Value.slice (some ⟨V.heap.size,0,none⟩) 1 1).ownBlock≠some b)∧b < W.heap.size∧vo.ownBlock≠some b
 bs:N≤W.heap.size
 bel:Below V.heap.size V W
theorem own_some (b n c:Nat):(Value.slice (some ⟨b,0,none⟩) n c).ownBlock=some b:=rfl
theorem RdP.op0 {V:World} {N r k:Nat} {p:PS} {vs vo vl:Value} (hR:RdP V N r k p vs vo vl) (hN:N≤V.heap.size) (nm val:ByteArray):Op0 V ((V.alloc (lnBk val)).alloc (opBk nm V.heap.size)) N p.op vo nm:=by
 have hb:Below V.heap.size V ((V.alloc (lnBk val)).alloc (opBk nm V.heap.size)):=((Below.refl _ V).alloc (Nat.le_refl _) _).alloc (by simp) _
 have hs:((V.alloc (lnBk val)).alloc (opBk nm V.heap.size)).heap.size=V.heap.size+2:=by rw [World.size_alloc,World.size_alloc]
 have hh:=new_heap (V.alloc (lnBk val)) (opBk nm V.heap.size)
 rw [World.size_alloc] at hh
 refine ⟨(hR.shut.retag rdOpX_good fun b h1 h2=>⟨h1,by rw [own_some];intro e;injection e with e;omega⟩).below rdOpX_good hb,?_,?_,by rw [hs];omega,hb⟩
 ·exact rd_block rdOpX_good (S:=fun b=>b=V.heap.size+1) (l:=[.inr (nm,.slice (some ⟨V.heap.size,0,none⟩) 1 1)]) (css:=[[.string nm,.slice (some ⟨V.heap.size,0,none⟩) 1 1]]) hh rfl rfl rfl (fun k hk=>by
   simp only [List.length_singleton] at hk
   obtain rfl:k=0:=by omega
   exact ⟨_,rfl,rfl,rfl⟩) (by simp)
 ·rintro b rfl
  refine ⟨⟨by omega,by rw [own_some];intro e;injection e with e;omega⟩,by rw [hs];omega,fun e=>?_⟩
  have:=(hR.go.lt _ e).2
  omega
theorem RdP.opened {V w1:World} {N r k:Nat} {p:PS} {vs vo vl vo':Value} {nm val:ByteArray} (hR:RdP V N r k p vs vo vl) (hr:r < N) (hN:N≤V.heap.size)
  (hG:Grow rdOpX 2 (fun b=>N≤b∧(Value.slice (some ⟨V.heap.size,0,none⟩) 1 1).ownBlock≠some b) w1 N 105 vo' (p.op.map Sum.inl++[.inr (nm,.slice (some ⟨V.heap.size,0,none⟩) 1 1)]))
  (hg:((V.alloc (lnBk val)).alloc (opBk nm V.heap.size)).grownBy w1 vo.ownBlock) (hm:Moved ((V.alloc (lnBk val)).alloc (opBk nm V.heap.size)) vo vo') :
  RdP (w1.setCell ⟨r,2,none⟩ vo') N r k ⟨p.dn,p.op++[(nm,[B val])]⟩ vs vo' (.slice (some ⟨V.heap.size,0,none⟩) 1 1)∧Fr N r V (w1.setCell ⟨r,2,none⟩ vo')∧w1.cell? ⟨r,2,none⟩=some vo∧w1.frozen? ⟨r,2,none⟩=false:=by
 have O:=hR.op0 hN nm val
 have hs:((V.alloc (lnBk val)).alloc (opBk nm V.heap.size)).heap.size=V.heap.size+2:=by rw [World.size_alloc,World.size_alloc]
 have hln:=old_heap (opBk nm V.heap.size) (new_heap V (lnBk val))
 generalize (V.alloc (lnBk val)).alloc (opBk nm V.heap.size)=W at *
 obtain ⟨f0,c0,c1,c2,gs,go,gl,so,sl,ol⟩:=hR
 have hvs:=gs.lt
 have hvo:=go.lt
 have hrl:some r≠vo.ownBlock:=fun h=>by have:=(hvo r h.symm).1;omega
 have hk1:=O.bel.block r (by omega)
 have hk2:=hg.block r (by rw [hs];omega) hrl
 have hk:w1.heap[r]?=V.heap[r]?:=hk2.trans hk1
 obtain ⟨gs1,so1⟩:=Grow.beside rdFds_good (v:=vo) (v':=vo') (T:=fun b=>N≤b∧(Value.slice (some ⟨V.heap.size,0,none⟩) 1 1).ownBlock≠some b) ((gs.retag rdFds_good fun b h1 h2=>⟨⟨h1.1.1,by rw [own_some];intro e;injection e with e;omega⟩,h1.1.2⟩).below rdFds_good O.bel) so hg hm
 have gl0:Grow rdStr 1 (fun b=>N≤b) W N 9 (.slice (some ⟨V.heap.size,0,none⟩) 1 1) [B val]:=Grow.one hln hN
 have hol:Off (.slice (some ⟨V.heap.size,0,none⟩) 1 1) vo:=fun b hb e=>by
  rw [own_some] at hb;injection hb with hb;have:=(hvo b e).2;omega
 obtain ⟨gl1,ol1⟩:=Grow.beside rdStr_good (T:=fun b=>N≤b) (strFlat gl0) hol hg hm
 have hB1:Below N V w1:=grow_below O.g hg (O.bel.mono hN) (Nat.le_refl _) O.bs
 have hset:∀o,o≠2→(⟨r,o,none⟩:Addr)≠⟨r,2,none⟩:=fun o ho e=>ho (congrArg Addr.off e)
 have hrr:(⟨r,2,none⟩:Addr).block < N:=hr
 refine ⟨⟨fun o=>?_,?_,?_,?_,?_,?_,?_,so1,fun b hb=>?_,ol1.symm⟩,(Fr.of hB1 (Nat.le_of_lt hr)).set (.inl rfl) (Nat.le_of_lt hr) _,(blk_of hk 2).1.trans c2,(blk_of hk 2).2.trans (f0 2)⟩
 ·rw [World.frozen?_setCell];exact ((blk_of hk o).2).trans (f0 o)
 ·rw [World.cell?_setCell_other _ _ _ _ (fun e=>hset 0 (by decide) e.symm)];exact ((blk_of hk 0).1).trans c0
 ·rw [World.cell?_setCell_other _ _ _ _ (fun e=>hset 1 (by decide) e.symm)];exact ((blk_of hk 1).1).trans c1
 ·exact World.cell?_setCell_same _ _ _ ((blk_of hk 2).1.trans c2)
 ·refine (gs1.retag rdFds_good fun b h1 h2=>⟨⟨h1.1.1,h1.2⟩,h1.1.2⟩).setCell rdFds_good hrr (fun h=>by have:=h.1.1;simp only at this;omega) _
 ·rw [opX_snoc];exact hG.setCell rdOpX_good hrr (fun h=>by have:=h.1;simp only at this;omega) _
 ·rw [lastLn_snoc];exact (strFlat (T':=fun b=>N≤b) gl1).setCell rdStr_good hrr (fun h=>by simp only at h;omega) _
 ·rw [own_some];intro e;injection e with e;have:=(hvs b hb).2;omega
end Go.Proofs.YtbljkpbaceiaiaaGreatDoor
