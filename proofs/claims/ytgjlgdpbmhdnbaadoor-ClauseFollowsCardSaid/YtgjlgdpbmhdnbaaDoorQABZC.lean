/- What the laws rest on: Deep2, Deep3, D4b, E12c, Ver2, Deep4, HeldL, HeldG, N12a. -/
import Derived.Test.YtgjlgdpbmhdnbaaDoorChecked
import Derived.WalkLawsBesides
import Derived.WalkSpells
import Derived.StillTailTactics
import Derived.Deep.QuietTactic
import Derived.Outline
import Derived.RegionTactic
import Derived.OrdersHeld
import Derived.Deep.RegionHeld
import Derived.Deep.RegionHeld3
import Derived.Lib.QuietBelow
import Derived.Test.YtgjlgdpbmhdnbaaDoorQAAZC
set_option maxRecDepth 100000
set_option linter.unusedVariables false
set_option linter.unusedSimpArgs false
namespace Go.Proofs.YtgjlgdpbmhdnbaaDoor
open Go.RowKit
section
variable {P:Program}
theorem append_types (t t' ty e e':TypeId) (i:TypeInfo) (hi:P.info? e=some i) (ht:P.underlying t=some (.slice e)) (ht':P.underlying t'=some (.slice e')) (A:Option Addr) (n c:Nat) (x:Value) (w:World) :
  (Builtin.append_ #[t,t'] ty #[.slice A n c,x]).run P w=(Builtin.append_ #[t,t] ty #[.slice A n c,x]).run P w:=by
 simp [Builtin.append_,run_underlying ht,run_underlying ht',sizeOf,typeInfo,hi]
theorem append_none (w:World) (base:Nat) (t ty e:TypeId) (i:TypeInfo) (size:Nat) (ht:P.underlying t=some (.slice e)) (hi:P.info? e=some i)
  (v:Value) (n:Nat) (xs:List Value) (hown:w.ownsRow base e size v n xs) (A:Option Addr) (c:Nat):(Builtin.append_ #[t,t] ty #[v,.slice A 0 c]).run P w=.ok v w:=by
 rcases hown.2 with ⟨rfl,rfl⟩|⟨g,cap,cur,rfl,_,_,hnc,_⟩
 ·cases A<;>simp [Builtin.append_,run_underlying ht,sizeOf,typeInfo,hi,Builtin.lenOf,Builtin.firstCells,loadCells,loadCellsFrom]
 ·cases A<;>simp [Builtin.append_,run_underlying ht,sizeOf,typeInfo,hi,Builtin.lenOf,Builtin.firstCells,hnc,storeCells,loadCells,loadCellsFrom]
end
section
variable {α:Type} {E:Rd α} {sz:Nat}
theorem rows_of {w:World} {S:Nat→Prop} {m:List α} {A:Option Addr} {n c:Nat} (h:rdRow sz E w S m [.slice A n c]) (h0:0 < m.length) :
  n=m.length∧∃(ad:Addr) (ess:List (List Value)),A=some ad∧S ad.block∧ess.length=m.length∧(∀k (hk:k < m.length),∃es,ess[k]?=some es∧E w S m[k] es∧es.length=sz∧∀j u,es[j]?=some u→w.cell? (ad.add (k*sz+j))=some u):=by
 obtain ⟨A',c',e,h1,h2,h⟩:=h
 simp only [List.cons.injEq,Value.slice.injEq,and_true] at e
 obtain ⟨rfl,rfl,rfl⟩:=e
 obtain ⟨ad,_,rfl,hS,_⟩:=h 0 h0
 refine ⟨rfl,ad,List.ofFn fun k:Fin m.length=>Classical.choose (Classical.choose_spec (h k.1 k.2)),rfl,hS,by simp,fun k hk=>?_⟩
 have hs:=Classical.choose_spec (Classical.choose_spec (h k hk))
 refine ⟨_,by rw [List.getElem?_ofFn,dif_pos hk],hs.2.2.1,hs.2.2.2.1,fun j u hu=>?_⟩
 have e1:=hs.1
 injection e1 with e1
 have:=hs.2.2.2.2 j u hu
 rwa [←e1] at this
theorem flat_back (hsz:0 < sz):∀{css:List (List Value)},(∀cs ∈ css,cs.length=sz)→∀{j:Nat} {u:Value},css.flatten[j]?=some u→∃k i cs,css[k]?=some cs∧cs[i]?=some u∧j=k*sz+i
 | [],_,j,u,h=>by simp at h
 | c::css,hl,j,u,h=>by
  have hc:=hl c (by simp)
  rw [List.flatten_cons] at h
  by_cases hj:j < c.length
  ·rw [List.getElem?_append_left hj] at h
   exact ⟨0,j,c,rfl,h,by omega⟩
  ·rw [List.getElem?_append_right (by omega)] at h
   obtain ⟨k,i,cs,h1,h2,h3⟩:=flat_back hsz (fun cs hc=>hl cs (by simp [hc])) h
   exact ⟨k+1,i,cs,h1,h2,by rw [Nat.add_mul];omega⟩
theorem run_growN {P:Program} (W:World) (t t' ty:TypeId) (g:Good E sz) (hsz:0 < sz) (T:Nat→Prop) (base:Nat) (e e':TypeId) (i:TypeInfo) (z:Value) (bytes:Nat)
  (ht:P.underlying t=some (.slice e)) (ht':P.underlying t'=some (.slice e')) (hi:P.info? e=some i) (hz:i.zero=some z) (hsize:i.size=sz) (hby:i.bytes=bytes) (hzs:z.cells.size=sz)
  (v:Value) (l:List α) (hG:Grow E sz T W base e v l) (m:List α) (S:Nat→Prop) (A:Option Addr) (n c:Nat) (hX:rdRow sz E W S m [.slice A n c]) (hS:∀b,S b→T b∧b < W.heap.size∧v.ownBlock≠some b)
  (hn:l.length+m.length≤maxLen) (hb2:(l.length+m.length)*bytes≤140737488355328) (hbase:base≤W.heap.size) :
  ∃v' w',(Builtin.append_ #[t,t'] ty #[v,.slice A n c]).run P W=.ok v' w'∧Grow E sz T w' base e v' (l++m)∧W.grownBy w' v.ownBlock∧(v'.ownBlock=v.ownBlock∨∃b,v'.ownBlock=some b∧W.heap.size≤b):=by
 have hty:∀x,(Builtin.append_ #[t,t'] ty #[v,x]).run P W=(Builtin.append_ #[t,t] ty #[v,x]).run P W:=by
  obtain ⟨vA,vc,hv,_,_⟩:=hG.own
  subst hv
  exact fun x=>append_types t t' ty e e' i hi ht ht' _ _ _ x W
 rw [hty]
 by_cases h0:m.length=0
 ·obtain rfl:m=[]:=List.eq_nil_of_length_eq_zero h0
  obtain ⟨A',c',e1,_⟩:=id hX
  simp only [List.cons.injEq,Value.slice.injEq,and_true,List.length_nil] at e1
  obtain ⟨_,rfl,_⟩:=e1
  obtain ⟨css,hl,hown,hEs⟩:=id hG
  exact ⟨v,W,append_none W base t ty e i sz ht hi v _ _ hown A c,by rw [List.append_nil];exact hG,⟨rfl,rfl,rfl,Nat.le_refl _,fun _ _ _=>rfl⟩,.inl rfl⟩
 ·obtain ⟨rfl,ad,ess,rfl,hSa,hel,hek⟩:=rows_of hX (by omega)
  obtain ⟨css,hl,hown,hEs⟩:=hG
  have hes:∀cs ∈ ess,cs.length=sz:=fun cs hc=>by
   obtain ⟨k,hk,rfl⟩:=List.getElem_of_mem hc
   obtain ⟨es,h1,_,h2,_⟩:=hek k (by omega)
   rw [List.getElem?_eq_getElem hk] at h1
   injection h1 with h1
   rw [h1];exact h2
  have hcell:∀j u,ess.flatten[j]?=some u→W.cell? (ad.add j)=some u:=fun j u hu=>by
   obtain ⟨k,i',cs,h1,h2,rfl⟩:=flat_back hsz hes hu
   have hk:k < m.length:=by have:=(List.getElem?_eq_some_iff.1 h1).1;omega
   obtain ⟨es,h3,_,_,h4⟩:=hek k hk
   rw [h3] at h1
   injection h1 with h1
   subst h1
   exact h4 i' u h2
  have hone:∀u ∈ ess.flatten,u.oneCell'=true:=fun u hu=>by
   obtain ⟨cs,hc,hu⟩:=List.mem_flatten.1 hu
   obtain ⟨k,hk,rfl⟩:=List.getElem_of_mem hc
   obtain ⟨es,h1,h2,_,_⟩:=hek k (by omega)
   rw [List.getElem?_eq_getElem hk] at h1
   injection h1 with h1
   exact g.one h2 u (h1 ▸ hu)
  obtain ⟨v',w',hr,hown',hgrow,_,hat⟩:=run_append_own_at (P:=P) W base t ty e i z sz bytes ht hi hz hsize hby hzs hsz v l.length css.flatten hown ad m.length c ess.flatten (by rw [flatten_len sz hes,hel]) hcell hone hn hb2 hbase
  have hat2:v'.ownBlock=v.ownBlock∨∃b,v'.ownBlock=some b∧W.heap.size≤b:=by
   rcases hat with h1|h1
   ·exact .inl h1
   ·exact .inr ⟨_,h1,Nat.le_refl _⟩
  refine ⟨v',w',hr,Grow.step g hl hEs hel (fun k hk=>?_) hown' hgrow hat2,hgrow,hat2⟩
  obtain ⟨es,h1,h2,_,_⟩:=hek k hk
  exact ⟨es,h1,g.more h2 hS⟩
theorem wpList_growN {P:Program} {ops:Array Oper} {rest:List Oper} {o:Oper} {a:Act} {Q:Exit→Act→World→Prop} (W:World) (hgd:o.guard=none) (s x:Operand) (t t':TypeId)
  (ho:o.op=.call { callee:=.builtin .append,args:=#[s,x],argTypes:=#[t,t'] }) (g:Good E sz) (hsz:0 < sz) (T:Nat→Prop) (base:Nat) (e e':TypeId) (i:TypeInfo) (z:Value) (bytes:Nat)
  (ht:P.underlying t=some (.slice e)) (ht':P.underlying t'=some (.slice e')) (hi:P.info? e=some i) (hz:i.zero=some z) (hsize:i.size=sz) (hby:i.bytes=bytes) (hzs:z.cells.size=sz)
  (v:Value) (l:List α) (hs:a.eval s=v) (hG:Grow E sz T W base e v l) (m:List α) (S:Nat→Prop) (A:Option Addr) (n c:Nat) (hx:a.eval x=.slice A n c) (hX:rdRow sz E W S m [.slice A n c]) (hS:∀b,S b→T b∧b < W.heap.size∧v.ownBlock≠some b)
  (hn:l.length+m.length≤maxLen) (hb2:(l.length+m.length)*bytes≤140737488355328) (hbase:base≤W.heap.size)
  (h:∀v' w',Grow E sz T w' base e v' (l++m)→W.grownBy w' v.ownBlock→wpList P ops Q rest (a.put o.dst v') w') :
  wpList P ops Q (o::rest) a W:=by
 refine wpList_plain hgd fun K hK=>?_
 obtain ⟨v',w',hr,h2,h3,_⟩:=run_growN (P:=P) W t t' o.type g hsz T base e e' i z bytes ht ht' hi hz hsize hby hzs v l hG m S A n c hX hS hn hb2 hbase
 unfold Oper.wp execOp
 simp only [ho,resolve,invoke,builtin,Sem.run_bind,Sem.run_pure,Result.andThen_ok,List.map_toArray,List.map_cons,List.map_nil,hs,hx,hr]
 exact hK _ _ (h v' w' h2 h3)
end
section
variable {α β:Type} {E:Rd α} {F:Rd β} {sz tz:Nat}
theorem Grow.retag (g:Good E sz) {T T':Nat→Prop} {W:World} {base:Nat} {e:TypeId} {v:Value} {l:List α} (h:Grow E sz T W base e v l) (ht:∀b,T b→b < W.heap.size→T' b):Grow E sz T' W base e v l:=by
 obtain ⟨css,hl,hown,hE⟩:=h
 refine ⟨css,hl,hown,fun k hk=>?_⟩
 obtain ⟨cs,h1,h2⟩:=hE k hk
 exact ⟨cs,h1,g.more h2 fun b hb=>⟨ht b hb.1 hb.2.1,hb.2.1,hb.2.2⟩⟩
end
theorem same_take {α:Type} [DecidableEq α] {l m:List α} {k:Nat} (hl:l.length=m.length) (hk:k < l.length) (hm:k < m.length) (h:l.take k=m.take k) (he:l[k]=m[k]):l.take (k+1)=m.take (k+1):=by
 rw [List.take_succ_eq_append_getElem hk,List.take_succ_eq_append_getElem hm,h,he]
def rdInt:Rd Int:=fun _ _ a cs=>cs=[.int .i64 a]
theorem rdInt_good:Good rdInt 1:=⟨fun h _=>h,fun h _=>h,fun h _ _=>h,fun h=>by rw [h];rfl,fun h u hu=>by rw [h] at hu;simp at hu;subst hu;rfl⟩
abbrev rdInts:Rd (List Int):=rdRow 1 rdInt
theorem rdInts_good:Good rdInts 1:=rdRow_good rdInt_good
theorem rdInts_at {w:World} {S:Nat→Prop} {l:List Int} {A:Option Addr} {n c:Nat} (h:rdInts w S l [.slice A n c]):n=l.length∧n≤c∧c≤maxLen∧∀k (hk:k < l.length),∃ad,A=some ad∧S ad.block∧
  w.cell? (ad.add k)=some (.int .i64 l[k]):=by
 obtain ⟨A',c',e,h1,h2,h⟩:=h
 simp only [List.cons.injEq,Value.slice.injEq,and_true] at e
 obtain ⟨rfl,rfl,rfl⟩:=e
 refine ⟨rfl,h1,h2,fun k hk=>?_⟩
 obtain ⟨ad,es,e,hS,hE,hl,hc⟩:=h k hk
 rw [show es=[.int .i64 l[k]] from hE] at hc
 have:=hc 0 _ rfl
 rw [Nat.mul_one] at this
 exact ⟨ad,e,hS,this⟩
theorem cb_cell {w:World} {g:Nat} {t:TypeId} {cs:Array Value} (h:w.heap[g]?=some (.cells cs t (0,0))) (i:Nat):w.cell? ⟨g,i,none⟩=cs[i]?:=cell_of_row w g i cs t (0,0) h
theorem cb_froz {w:World} {g:Nat} {t:TypeId} {cs:Array Value} (h:w.heap[g]?=some (.cells cs t (0,0))) (i:Nat):w.frozen? ⟨g,i,none⟩=false:=by simp [World.frozen?,h]
theorem cb_set {w:World} {g:Nat} {t:TypeId} {cs:Array Value} (h:w.heap[g]?=some (.cells cs t (0,0))) (i:Nat) (u:Value):(w.setCell ⟨g,i,none⟩ u).heap[g]?=some (.cells (cs.setIfInBounds i u) t (0,0)):=by
 simp [World.setCell,Array.getElem?_modify,h]
theorem cb_lt {W:World} {b:Nat} {o:Obj} (h:W.heap[b]?=some o):b < W.heap.size:=by
 rcases Nat.lt_or_ge b W.heap.size with q|q
 ·exact q
 ·rw [Array.getElem?_eq_none q] at h;cases h
theorem cb_ne {w:World} {b b':Nat} {cs cs':Array Value} {t t':TypeId} (h:w.heap[b]?=some (.cells cs t (0,0))) (h':w.heap[b']?=some (.cells cs' t' (0,0))) (ht:t≠t'):b≠b':=by
 rintro rfl
 rw [h] at h'
 injection h' with h'
 injection h' with _ h'
 exact ht h'
theorem ownsRow_of {w w':World} {base:Nat} {e:TypeId} {size:Nat} {v:Value} {n:Nat} {xs:List Value} (h:w.ownsRow base e size v n xs) (hk:∀b,v.ownBlock=some b→w'.heap[b]?=w.heap[b]?):w'.ownsRow base e size v n xs:=by
 refine ⟨h.1,?_⟩
 rcases h.2 with h2|⟨g,cap,cur,rfl,h3,h4,h5⟩
 ·exact .inl h2
 ·exact .inr ⟨g,cap,cur,rfl,h3,(hk g rfl).trans h4,h5⟩
theorem ownsRow_blk {w:World} {base:Nat} {e:TypeId} {size:Nat} {v:Value} {n:Nat} {xs:List Value} (h:w.ownsRow base e size v n xs) {b:Nat} (hb:v.ownBlock=some b):base≤b∧∃cur,w.heap[b]?=some (.cells cur e (0,0)):=by
 rcases h.2 with ⟨rfl,_⟩|⟨g,cap,cur,rfl,h3,h4,_⟩
 ·cases hb
 ·injection hb with hb
  subst hb
  exact ⟨h3,cur,h4⟩
def ptW (pb:Nat→Nat) (j:Nat):Value:=.pointer (some ⟨pb j,0,none⟩)
structure SpM (w:World) (N sb tb hb n:Nat) (pb:Nat→Nat) (mv:Value) (hd rv:Nat→Value) (s:Sp):Prop where
 sbx:w.heap[sb]?=some (.cells #[.slice (some ⟨tb,0,none⟩) n n,mv,.slice (some ⟨hb,0,none⟩) (2*n+1) (2*n+1)] 41 (0,0))
 nl:s.t.length=n
 tbx:w.heap[tb]?=some (.cells (s.t.map (Value.int .i64)).toArray 3 (0,0))
 mrow:w.ownsRow N 3 1 mv s.made.length (s.made.map (Value.int .i64))
 mtb:mv.ownBlock≠some tb
 hbx:w.heap[hb]?=some (.cells ((List.range (2*n+1)).map hd).toArray 59 (0,0))
 rows:∀k,k < 2*n+1→w.ownsRow N 53 1 (hd k) (s.wl k).length ((s.wl k).map (ptW pb))
 dis:∀k k' b,k < 2*n+1→k' < 2*n+1→(hd k).ownBlock=some b→(hd k').ownBlock=some b→k=k'
 box:∀j,j < s.ws.length→w.heap[pb j]?=some (.cells #[.int .i64 (s.ws[j]!).a,.int .i64 (s.ws[j]!).b,rv j] 55 (0,0))
 pbi:∀j j',j < s.ws.length→j' < s.ws.length→pb j=pb j'→j=j'
 pbn:∀j,j < s.ws.length→N≤pb j
 rest:∀j,j < s.ws.length→rdInts w (lt_ N) (s.ws[j]!).r [rv j]
 wlb:∀k,k < 2*n+1→∀j ∈ s.wl k,j < s.ws.length
 ns:N≤sb
 nt:N≤tb
 nh:N≤hb
 nw:N≤w.heap.size
section
variable {w w':World} {N sb tb hb n:Nat} {pb:Nat→Nat} {mv:Value} {hd rv:Nat→Value} {s:Sp}
theorem SpM.same (h:SpM w N sb tb hb n pb mv hd rv s) (hs:w.heap.size≤w'.heap.size) (hk:∀b,b < w.heap.size→w'.heap[b]?=w.heap[b]?):SpM w' N sb tb hb n pb mv hd rv s where
 sbx:=(hk _ (cb_lt h.sbx)).trans h.sbx
 nl:=h.nl
 tbx:=(hk _ (cb_lt h.tbx)).trans h.tbx
 mrow:=ownsRow_of h.mrow fun b hb'=>hk b (h.mrow.lt b hb').2
 mtb:=h.mtb
 hbx:=(hk _ (cb_lt h.hbx)).trans h.hbx
 rows:=fun k hk'=>ownsRow_of (h.rows k hk') fun b hb'=>hk b ((h.rows k hk').lt b hb').2
 dis:=h.dis
 box:=fun j hj=>(hk _ (cb_lt (h.box j hj))).trans (h.box j hj)
 pbi:=h.pbi
 pbn:=h.pbn
 rest:=fun j hj=>rdInts_good.keep (h.rest j hj) fun b hb'=>hk b (Nat.lt_of_lt_of_le hb' h.nw)
 wlb:=h.wlb
 ns:=h.ns
 nt:=h.nt
 nh:=h.nh
 nw:=Nat.le_trans h.nw hs
theorem SpM.below (h:SpM w N sb tb hb n pb mv hd rv s) (hb':Below w.heap.size w w'):SpM w' N sb tb hb n pb mv hd rv s:=h.same hb'.size hb'.block
theorem rest_set (h:SpM w N sb tb hb n pb mv hd rv s) {g i:Nat} {u:Value} (hg:N≤g):∀j,j < s.ws.length→rdInts (w.setCell ⟨g,i,none⟩ u) (lt_ N) (s.ws[j]!).r [rv j]:=fun j hj=>
 rdInts_good.keep (h.rest j hj) fun b hb'=>heap_setCell_other w ⟨g,i,none⟩ b u (by intro e;have:b < N:=hb';simp only at e;omega)
theorem SpM.sne (h:SpM w N sb tb hb n pb mv hd rv s):sb≠tb∧sb≠hb∧tb≠hb∧mv.ownBlock≠some sb∧mv.ownBlock≠some hb:=by
 refine ⟨cb_ne h.sbx h.tbx (by decide),cb_ne h.sbx h.hbx (by decide),cb_ne h.tbx h.hbx (by decide),fun e=>?_,fun e=>?_⟩
 ·obtain ⟨_,cur,hc⟩:=ownsRow_blk h.mrow e;exact cb_ne hc h.sbx (by decide) rfl
 ·obtain ⟨_,cur,hc⟩:=ownsRow_blk h.mrow e;exact cb_ne hc h.hbx (by decide) rfl
theorem SpM.rne (h:SpM w N sb tb hb n pb mv hd rv s) {k:Nat} (hk:k < 2*n+1) {b:Nat} (hb':(hd k).ownBlock=some b):b≠sb∧b≠tb∧b≠hb∧mv.ownBlock≠some b∧∀j,j < s.ws.length→b≠pb j:=by
 obtain ⟨_,cur,hc⟩:=ownsRow_blk (h.rows k hk) hb'
 refine ⟨cb_ne hc h.sbx (by decide),cb_ne hc h.tbx (by decide),cb_ne hc h.hbx (by decide),fun e=>?_,fun j hj=>cb_ne hc (h.box j hj) (by decide)⟩
 obtain ⟨_,cur',hc'⟩:=ownsRow_blk h.mrow e;exact cb_ne hc hc' (by decide) rfl
theorem SpM.bne (h:SpM w N sb tb hb n pb mv hd rv s) {j:Nat} (hj:j < s.ws.length):pb j≠sb∧pb j≠tb∧pb j≠hb∧mv.ownBlock≠some (pb j):=by
 have hc:=h.box j hj
 refine ⟨cb_ne hc h.sbx (by decide),cb_ne hc h.tbx (by decide),cb_ne hc h.hbx (by decide),fun e=>?_⟩
 obtain ⟨_,cur',hc'⟩:=ownsRow_blk h.mrow e;exact cb_ne hc hc' (by decide) rfl
theorem map_set_i (t:List Int) (i:Nat) (x:Int):((t.map (Value.int .i64)).toArray).setIfInBounds i (.int .i64 x)=((t.set i x).map (Value.int .i64)).toArray:=by
 rw [List.map_set];simp
theorem hd_set (m k:Nat) (v:Value) (hd:Nat→Value) (hk:k < m):((List.range m).map hd).toArray.setIfInBounds k v=((List.range m).map fun q=>if q=k then v else hd q).toArray:=by
 rw [List.setIfInBounds_toArray]
 congr 1
 apply List.ext_getElem
 ·simp
 ·intro i h1 h2
  rw [List.getElem_set,List.getElem_map,List.getElem_map,List.getElem_range]
  by_cases e:k=i
  ·rw [if_pos e,if_pos e.symm]
  ·rw [if_neg e,if_neg (fun z=>e z.symm)]
theorem SpM.truth (h:SpM w N sb tb hb n pb mv hd rv s) (i:Nat) (x:Int):SpM (w.setCell ⟨tb,i,none⟩ (.int .i64 x)) N sb tb hb n pb mv hd rv { s with t:=s.t.set i x }:=by
 obtain ⟨n1,n2,n3,n4,n5⟩:=h.sne
 have O:∀b,b≠tb→(w.setCell ⟨tb,i,none⟩ (.int .i64 x)).heap[b]?=w.heap[b]?:=fun b hb'=>heap_setCell_other w ⟨tb,i,none⟩ b _ hb'
 exact {
  sbx:=(O _ n1).trans h.sbx
  nl:=(List.length_set ..).trans h.nl
  tbx:=by rw [cb_set h.tbx,map_set_i]
  mrow:=ownsRow_of h.mrow fun b hb'=>O b (fun e=>h.mtb (e ▸ hb'))
  mtb:=h.mtb
  hbx:=(O _ (Ne.symm n3)).trans h.hbx
  rows:=fun k hk=>ownsRow_of (h.rows k hk) fun b hb'=>O b (h.rne hk hb').2.1
  dis:=h.dis
  box:=fun j hj=>(O _ (h.bne hj).2.1).trans (h.box j hj)
  pbi:=h.pbi
  pbn:=h.pbn
  rest:=rest_set h h.nt
  wlb:=h.wlb
  ns:=h.ns
  nt:=h.nt
  nh:=h.nh
  nw:=by rw [World.size_setCell];exact h.nw }
theorem SpM.push (h:SpM w N sb tb hb n pb mv hd rv s) {mv':Value} {x:Int} (hr:w'.ownsRow N 3 1 mv' (s.made++[x]).length ((s.made++[x]).map (Value.int .i64))) (hg:w.grownBy w' mv.ownBlock) (hm:mv'.ownBlock=mv.ownBlock∨∃b,mv'.ownBlock=some b∧w.heap.size≤b) :
  SpM (w'.setCell ⟨sb,1,none⟩ mv') N sb tb hb n pb mv' hd rv { s with made:=s.made++[x] }:=by
 obtain ⟨n1,n2,n3,n4,n5⟩:=h.sne
 have G:∀b,b < w.heap.size→mv.ownBlock≠some b→w'.heap[b]?=w.heap[b]?:=fun b hb' hne=>hg.block b hb' (fun e=>hne e.symm)
 have O:∀b,b≠sb→(w'.setCell ⟨sb,1,none⟩ mv').heap[b]?=w'.heap[b]?:=fun b hb'=>heap_setCell_other w' ⟨sb,1,none⟩ b _ hb'
 have sb':w'.heap[sb]?=_:=(G sb (cb_lt h.sbx) n4).trans h.sbx
 exact {
  sbx:=by rw [cb_set sb'];rfl
  nl:=h.nl
  tbx:=((O _ (Ne.symm n1)).trans (G tb (cb_lt h.tbx) h.mtb)).trans h.tbx
  mrow:=ownsRow_of hr fun b hb'=>O b (fun e=>by
   obtain ⟨_,cur,hc⟩:=ownsRow_blk hr hb'
   exact cb_ne hc sb' (by decide) e)
  mtb:=fun e=>by
   rcases hm with q|⟨b,q,hb'⟩
   ·exact h.mtb (q.symm.trans e)
   ·rw [q] at e;injection e with e;have:=cb_lt h.tbx;omega
  hbx:=((O _ (Ne.symm n2)).trans (G hb (cb_lt h.hbx) n5)).trans h.hbx
  rows:=fun k hk=>ownsRow_of (h.rows k hk) fun b hb'=>(O b (h.rne hk hb').1).trans (G b ((h.rows k hk).lt b hb').2 (h.rne hk hb').2.2.2.1)
  dis:=h.dis
  box:=fun j hj=>((O _ (h.bne hj).1).trans (G _ (cb_lt (h.box j hj)) (h.bne hj).2.2.2)).trans (h.box j hj)
  pbi:=h.pbi
  pbn:=h.pbn
  rest:=fun j hj=>rdInts_good.keep (h.rest j hj) fun b hb'=>by
   have hb'':b < N:=hb'
   refine (O b (by have:=h.ns;omega)).trans (G b (Nat.lt_of_lt_of_le hb'' h.nw) fun e=>?_)
   have:=(h.mrow.lt b e).1;omega
  wlb:=h.wlb
  ns:=h.ns
  nt:=h.nt
  nh:=h.nh
  nw:=by rw [World.size_setCell];exact Nat.le_trans h.nw hg.size }
theorem SpM.watch (h:SpM w N sb tb hb n pb mv hd rv s) {k j:Nat} {v':Value} (hk:k < 2*n+1) (hj:j < s.ws.length) (hr:w'.ownsRow N 53 1 v' (s.wl k++[j]).length ((s.wl k++[j]).map (ptW pb))) (hg:w.grownBy w' (hd k).ownBlock) (hm:v'.ownBlock=(hd k).ownBlock∨∃b,v'.ownBlock=some b∧w.heap.size≤b) :
  SpM (w'.setCell ⟨hb,k,none⟩ v') N sb tb hb n pb mv (fun q=>if q=k then v' else hd q) rv { s with wl:=upW s.wl k (s.wl k++[j]) }:=by
 obtain ⟨n1,n2,n3,n4,n5⟩:=h.sne
 have G:∀b,b < w.heap.size→(hd k).ownBlock≠some b→w'.heap[b]?=w.heap[b]?:=fun b hb' hne=>hg.block b hb' (fun e=>hne e.symm)
 have O:∀b,b≠hb→(w'.setCell ⟨hb,k,none⟩ v').heap[b]?=w'.heap[b]?:=fun b hb'=>heap_setCell_other w' ⟨hb,k,none⟩ b _ hb'
 have hb':w'.heap[hb]?=_:=(G hb (cb_lt h.hbx) fun e=>(h.rne hk e).2.2.1 rfl).trans h.hbx
 have vne:∀b,v'.ownBlock=some b→b≠hb:=fun b e q=>by
  obtain ⟨_,cur,hc⟩:=ownsRow_blk hr e
  exact cb_ne hc hb' (by decide) q
 have vdis:∀q b,q < 2*n+1→q≠k→(hd q).ownBlock=some b→v'.ownBlock≠some b:=fun q b hq hne e e'=>by
  rcases hm with z|⟨b',z,hz⟩
  ·exact hne (h.dis q k b hq hk e (z.symm.trans e'))
  ·rw [z] at e';injection e' with e'
   have:=((h.rows q hq).lt b e).2;omega
 exact {
  sbx:=((O _ n2).trans (G sb (cb_lt h.sbx) fun e=>(h.rne hk e).1 rfl)).trans h.sbx
  nl:=h.nl
  tbx:=((O _ n3).trans (G tb (cb_lt h.tbx) fun e=>(h.rne hk e).2.1 rfl)).trans h.tbx
  mrow:=ownsRow_of h.mrow fun b e=>(O b (fun q=>n5 (q ▸ e))).trans (G b (h.mrow.lt b e).2 fun e2=>(h.rne hk e2).2.2.2.1 e)
  mtb:=h.mtb
  hbx:=by
   rw [cb_set hb',hd_set _ _ _ _ hk]
  rows:=fun q hq=>by
   by_cases e:q=k
   ·subst e
    rw [if_pos rfl,show ({ s with wl:=upW s.wl q (s.wl q++[j]) }:Sp).wl q=s.wl q++[j] from upW_same _ _ _]
    exact ownsRow_of hr fun b z=>O b (vne b z)
   ·rw [if_neg e,show ({ s with wl:=upW s.wl k (s.wl k++[j]) }:Sp).wl q=s.wl q from upW_ne e]
    exact ownsRow_of (h.rows q hq) fun b z=>(O b (h.rne hq z).2.2.1).trans (G b ((h.rows q hq).lt b z).2 fun z2=>e (h.dis q k b hq hk z z2))
  dis:=fun a c b ha hc ea ec=>by
   by_cases e1:a=k
   ·by_cases e2:c=k
    ·exact e1.trans e2.symm
    ·rw [if_pos e1] at ea;rw [if_neg e2] at ec
     exact absurd ea (vdis c b hc e2 ec)
   ·rw [if_neg e1] at ea
    by_cases e2:c=k
    ·rw [if_pos e2] at ec;exact absurd ec (vdis a b ha e1 ea)
    ·rw [if_neg e2] at ec;exact h.dis a c b ha hc ea ec
  box:=fun i hi=>((O _ (h.bne hi).2.2.1).trans (G _ (cb_lt (h.box i hi)) fun e=>(h.rne hk e).2.2.2.2 i hi rfl)).trans (h.box i hi)
  pbi:=h.pbi
  pbn:=h.pbn
  rest:=fun i hi=>rdInts_good.keep (h.rest i hi) fun b hb2=>by
   have hb3:b < N:=hb2
   refine (O b (by have:=h.nh;omega)).trans (G b (Nat.lt_of_lt_of_le hb3 h.nw) fun e=>?_)
   have:=((h.rows k hk).lt b e).1;omega
  wlb:=fun q hq i hi=>by
   by_cases e:q=k
   ·rw [e,show ({ s with wl:=upW s.wl k (s.wl k++[j]) }:Sp).wl k=s.wl k++[j] from upW_same _ _ _] at hi
    rcases List.mem_append.1 hi with z|z
    ·exact h.wlb k hk i z
    ·rw [List.mem_singleton.1 z];exact hj
   ·rw [show ({ s with wl:=upW s.wl k (s.wl k++[j]) }:Sp).wl q=s.wl q from upW_ne e] at hi
    exact h.wlb q hq i hi
  ns:=h.ns
  nt:=h.nt
  nh:=h.nh
  nw:=by rw [World.size_setCell];exact Nat.le_trans h.nw hg.size }
theorem SpM.empty (h:SpM w N sb tb hb n pb mv hd rv s) {k:Nat} (hk:k < 2*n+1) :
  SpM (w.setCell ⟨hb,k,none⟩ (.slice none 0 0)) N sb tb hb n pb mv (fun q=>if q=k then .slice none 0 0 else hd q) rv (cutW s k []):=by
 obtain ⟨n1,n2,n3,n4,n5⟩:=h.sne
 have O:∀b,b≠hb→(w.setCell ⟨hb,k,none⟩ (.slice none 0 0)).heap[b]?=w.heap[b]?:=fun b hb'=>heap_setCell_other w ⟨hb,k,none⟩ b _ hb'
 exact {
  sbx:=(O _ n2).trans h.sbx
  nl:=h.nl
  tbx:=(O _ n3).trans h.tbx
  mrow:=ownsRow_of h.mrow fun b e=>O b (fun q=>n5 (q ▸ e))
  mtb:=h.mtb
  hbx:=by
   rw [cb_set h.hbx,hd_set _ _ _ _ hk]
  rows:=fun q hq=>by
   by_cases e:q=k
   ·subst e
    rw [if_pos rfl,show (cutW s q []).wl q=[] from upW_same _ _ _]
    exact World.ownsRow_nil _ _ _ _
   ·rw [if_neg e,show (cutW s k []).wl q=s.wl q from upW_ne e]
    exact ownsRow_of (h.rows q hq) fun b z=>O b (h.rne hq z).2.2.1
  dis:=fun a c b ha hc ea ec=>by
   by_cases e1:a=k
   ·rw [if_pos e1] at ea;cases ea
   ·by_cases e2:c=k
    ·rw [if_pos e2] at ec;cases ec
    ·rw [if_neg e1] at ea;rw [if_neg e2] at ec;exact h.dis a c b ha hc ea ec
  box:=fun i hi=>(O _ (h.bne hi).2.2.1).trans (h.box i hi)
  pbi:=h.pbi
  pbn:=h.pbn
  rest:=rest_set h h.nh
  wlb:=fun q hq i hi=>by
   by_cases e:q=k
   ·rw [e,show (cutW s k []).wl k=[] from upW_same _ _ _] at hi;exact absurd hi List.not_mem_nil
   ·rw [show (cutW s k []).wl q=s.wl q from upW_ne e] at hi;exact h.wlb q hq i hi
  ns:=h.ns
  nt:=h.nt
  nh:=h.nh
  nw:=by rw [World.size_setCell];exact h.nw }
theorem SpM.boxed (h:SpM w N sb tb hb n pb mv hd rv s) {j i:Nat} {u:Value} {x:Wt} {rv':Value} (hj:j < s.ws.length) (hu:(#[.int .i64 (s.ws[j]!).a,.int .i64 (s.ws[j]!).b,rv j]:Array Value).setIfInBounds i u=#[.int .i64 x.a,.int .i64 x.b,rv']) (hx:rdInts w (lt_ N) x.r [rv']) :
  SpM (w.setCell ⟨pb j,i,none⟩ u) N sb tb hb n pb mv hd (fun q=>if q=j then rv' else rv q) { s with ws:=s.ws.set j x }:=by
 obtain ⟨n1,n2,n3,n4⟩:=h.bne hj
 have O:∀b,b≠pb j→(w.setCell ⟨pb j,i,none⟩ u).heap[b]?=w.heap[b]?:=fun b hb'=>heap_setCell_other w ⟨pb j,i,none⟩ b _ hb'
 have len:(s.ws.set j x).length=s.ws.length:=List.length_set ..
 have at':∀k,(s.ws.set j x)[k]! = if k=j then x else s.ws[k]! :=fun k=>get_set hj
 have keepN:∀{l:List Int} {v:Value},rdInts w (lt_ N) l [v]→rdInts (w.setCell ⟨pb j,i,none⟩ u) (lt_ N) l [v]:=fun hl=>rdInts_good.keep hl fun b hb'=>O b (by have:=h.pbn j hj;have:b < N:=hb';omega)
 exact {
  sbx:=(O _ (Ne.symm n1)).trans h.sbx
  nl:=h.nl
  tbx:=(O _ (Ne.symm n2)).trans h.tbx
  mrow:=ownsRow_of h.mrow fun b e=>O b (fun q=>n4 (q ▸ e))
  mtb:=h.mtb
  hbx:=(O _ (Ne.symm n3)).trans h.hbx
  rows:=fun q hq=>ownsRow_of (h.rows q hq) fun b z=>O b ((h.rne hq z).2.2.2.2 j hj)
  dis:=h.dis
  box:=fun k hk=>by
   have hk':k < s.ws.length:=by rw [←len];exact hk
   show _=some (Obj.cells #[.int .i64 ((s.ws.set j x)[k]!).a,.int .i64 ((s.ws.set j x)[k]!).b,if k=j then rv' else rv k] _ _)
   rw [at']
   by_cases e:k=j
   ·subst e
    rw [if_pos rfl,if_pos rfl,cb_set (h.box k hk'),hu]
   ·rw [if_neg e,if_neg e]
    exact (O _ (fun z=>e (h.pbi k j hk' hj z))).trans (h.box k hk')
  pbi:=fun a c ha hc=>h.pbi a c (by rw [←len];exact ha) (by rw [←len];exact hc)
  pbn:=fun a ha=>h.pbn a (by rw [←len];exact ha)
  rest:=fun k hk=>by
   have hk':k < s.ws.length:=by rw [←len];exact hk
   show rdInts _ _ ((s.ws.set j x)[k]!).r [if k=j then rv' else rv k]
   rw [at']
   by_cases e:k=j
   ·rw [if_pos e,if_pos e];exact keepN hx
   ·rw [if_neg e,if_neg e];exact keepN (h.rest k hk')
  wlb:=fun q hq k hk=>by show k < (s.ws.set j x).length;rw [len];exact h.wlb q hq k hk
  ns:=h.ns
  nt:=h.nt
  nh:=h.nh
  nw:=by rw [World.size_setCell];exact h.nw }
theorem SpM.more (h:SpM w N sb tb hb n pb mv hd rv s) {r:List Int} {v:Value} (hr:rdInts w (lt_ N) r [v]) :
  SpM (w.alloc (.cells #[.int .i64 0,.int .i64 0,v] 55)) N sb tb hb n (fun q=>if q=s.ws.length then w.heap.size else pb q) mv hd (fun q=>if q=s.ws.length then v else rv q) { s with ws:=s.ws++[⟨0,0,r⟩] }:=by
 have hk:∀b,b < w.heap.size→(w.alloc (.cells #[.int .i64 0,.int .i64 0,v] 55)).heap[b]?=w.heap[b]?:=fun b hb'=>Below.heap_alloc w _ b hb'
 have len:(s.ws++[(⟨0,0,r⟩:Wt)]).length=s.ws.length+1:=by rw [List.length_append];rfl
 have wo:∀k,k < s.ws.length→(s.ws++[(⟨0,0,r⟩:Wt)])[k]! = s.ws[k]! :=fun k hk=>by
  rw [getElem!_pos (s.ws++[(⟨0,0,r⟩:Wt)]) k (by rw [len];omega),List.getElem_append_left hk,getElem!_pos s.ws k hk]
 have we:(s.ws++[(⟨0,0,r⟩:Wt)])[s.ws.length]! = ⟨0,0,r⟩:=by
  rw [getElem!_pos (s.ws++[(⟨0,0,r⟩:Wt)]) s.ws.length (by rw [len];omega),List.getElem_append_right (Nat.le_refl _)];simp
 have K:∀{l:List Int} {v':Value},rdInts w (lt_ N) l [v']→rdInts (w.alloc (.cells #[.int .i64 0,.int .i64 0,v] 55)) (lt_ N) l [v']:=fun hl=>rdInts_good.keep hl fun b hb'=>hk b (Nat.lt_of_lt_of_le hb' h.nw)
 have mp:∀q,q < 2*n+1→(s.wl q).map (ptW fun q=>if q=s.ws.length then w.heap.size else pb q)=(s.wl q).map (ptW pb):=fun q hq=>List.map_congr_left fun j hj=>by
  unfold ptW;simp only;rw [if_neg (Nat.ne_of_lt (h.wlb q hq j hj))]
 exact {
  sbx:=(hk _ (cb_lt h.sbx)).trans h.sbx
  nl:=h.nl
  tbx:=(hk _ (cb_lt h.tbx)).trans h.tbx
  mrow:=ownsRow_of h.mrow fun b hb'=>hk b (h.mrow.lt b hb').2
  mtb:=h.mtb
  hbx:=(hk _ (cb_lt h.hbx)).trans h.hbx
  rows:=fun k hk'=>by
   show World.ownsRow _ N _ 1 (hd k) (s.wl k).length ((s.wl k).map _)
   rw [mp k hk']
   exact ownsRow_of (h.rows k hk') fun b hb'=>hk b ((h.rows k hk').lt b hb').2
  dis:=h.dis
  box:=fun j hj=>by
   have hj':j < s.ws.length+1:=by rw [←len];exact hj
   show _=some (Obj.cells #[.int .i64 ((s.ws++[(⟨0,0,r⟩:Wt)])[j]!).a,.int .i64 ((s.ws++[(⟨0,0,r⟩:Wt)])[j]!).b,if j=s.ws.length then v else rv j] _ _)
   by_cases e:j=s.ws.length
   ·subst e
    rw [if_pos rfl,if_pos rfl,we]
    exact heap_alloc_new w _
   ·rw [if_neg e,if_neg e,wo j (by omega)]
    exact (hk _ (cb_lt (h.box j (by omega)))).trans (h.box j (by omega))
  pbi:=fun a c ha hc e=>by
   have ha':a < s.ws.length+1:=by rw [←len];exact ha
   have hc':c < s.ws.length+1:=by rw [←len];exact hc
   by_cases e1:a=s.ws.length
   ·by_cases e2:c=s.ws.length
    ·exact e1.trans e2.symm
    ·rw [if_pos e1,if_neg e2] at e
     have:=cb_lt (h.box c (by omega));omega
   ·by_cases e2:c=s.ws.length
    ·rw [if_neg e1,if_pos e2] at e
     have:=cb_lt (h.box a (by omega));omega
    ·rw [if_neg e1,if_neg e2] at e
     exact h.pbi a c (by omega) (by omega) e
  pbn:=fun a ha=>by
   have ha':a < s.ws.length+1:=by rw [←len];exact ha
   show N≤if a=s.ws.length then _ else _
   split
   ·exact h.nw
   ·exact h.pbn a (by omega)
  rest:=fun j hj=>by
   have hj':j < s.ws.length+1:=by rw [←len];exact hj
   show rdInts _ _ ((s.ws++[(⟨0,0,r⟩:Wt)])[j]!).r [if j=s.ws.length then v else rv j]
   by_cases e:j=s.ws.length
   ·subst e;rw [if_pos rfl,we];exact K hr
   ·rw [if_neg e,wo j (by omega)];exact K (h.rest j (by omega))
  wlb:=fun q hq j hj=>by show j < (s.ws++[(⟨0,0,r⟩:Wt)]).length;rw [len];exact Nat.lt_succ_of_lt (h.wlb q hq j hj)
  ns:=h.ns
  nt:=h.nt
  nh:=h.nh
  nw:=by show N≤(w.heap.push _).size;rw [Array.size_push];exact Nat.le_succ_of_le h.nw }
end
theorem cmpInt_any (x y:Int) (w:World):Calls Tryd.prog 33 #[.int .i64 x,.int .i64 y] w fun e w'=>e=.returned (.int .i64 (sgn (x - y)))∧w=w':=by
 have h0:(x != x)=false:=by simp
 have h1:(y != y)=false:=by simp
 rcases Int.lt_trichotomy x y with h|h|h
 ·have X:=Lib.hid (show sgn (x - y)=-1 by unfold sgn;rw [if_pos (by omega)])
  go_enter Tryd.func33,Tryd.ntmps33
  go_wp2
  go_ret
  exact ⟨by rw [X.out];rfl,rfl⟩
 ·have X:=Lib.hid (show sgn (x - y)=0 by unfold sgn;rw [if_neg (by omega),if_neg (by omega)])
  have a:¬x < y:=by omega
  have b:¬y < x:=by omega
  have H:=Lib.hid h
  clear h
  go_enter Tryd.func33,Tryd.ntmps33
  go_wp2
  all_goals
   go_ret
   exact ⟨by rw [X.out];rfl,rfl⟩
 ·have X:=Lib.hid (show sgn (x - y)=1 by unfold sgn;rw [if_neg (by omega),if_pos (by omega)])
  have a:¬x < y:=by omega
  go_enter Tryd.func33,Tryd.ntmps33
  go_wp2
  go_ret
  exact ⟨by rw [X.out];rfl,rfl⟩
def orL:List Int→Int
 | []=>0
 | x::l=>if x≠0 then x else orL l
theorem orL_at:∀(l:List Int) (k:Nat),k < l.length→(∀j,j < k→l.getD j 0=0)→l.getD k 0≠0→orL l=l.getD k 0
 | [],k,h,_,_=>by simp at h
 | x::l,0,_,_,hne=>by simp only [orL];rw [if_pos (by simpa using hne)];simp
 | x::l,k+1,h,hz,hne=>by
  have h0:=hz 0 (by omega)
  simp only [List.getD_cons_zero] at h0
  simp only [orL]
  rw [if_neg (by simp [h0]),List.getD_cons_succ]
  exact orL_at l k (by simpa using h) (fun j hj=>by have:=hz (j+1) (by omega);simpa using this) (by simpa using hne)
theorem orL_none:∀(l:List Int),(∀j,j < l.length→l.getD j 0=0)→orL l=0
 | [],_=>rfl
 | x::l,hz=>by
  have h0:=hz 0 (by simp)
  simp only [List.getD_cons_zero] at h0
  simp only [orL]
  rw [if_neg (by simp [h0])]
  exact orL_none l (fun j hj=>by have:=hz (j+1) (by simpa using hj);simpa using this)
theorem or_any (g n:Nat) (l:List Int) (w:World) (hl:l.length=n) (hn:n≤65536) (hc:∀k,k < n→w.cell? ⟨g,k,none⟩=some (.int .i64 (l.getD k 0))) :
  Calls Tryd.prog 34 #[.slice (some ⟨g,0,none⟩) n n] w fun e w'=>e=.returned (.int .i64 (orL l))∧w=w':=by
 have HL:=Lib.hid hl
 have HC:=Lib.hid hc
 clear hl hc
 go_enter Tryd.func34,Tryd.ntmps34
 go_wp2
 go_loop [5,8] (fun _ i=>∃k:Nat,k≤n∧i=.int .i64 k∧∀j,j < k→l.getD j 0=0) (fun _ i=>n - (intOf i).toNat)
 case atStart=>exact ⟨0,Nat.zero_le _,rfl,fun j hj=>by omega⟩
 case round=>
  obtain ⟨k,hk',rfl,hno⟩:=hrel
  have HN:=Lib.hid hno
  clear hno
  by_cases hlt:k < n
  ·have c0:w.cell? ⟨g,k,none⟩=some (.int .i64 (l.getD k 0)):=HC.out k hlt
   by_cases hx:l.getD k 0=0
   ·have HX:=Lib.hid hx
    have t1:(l.getD k 0 != 0)=false:=by rw [bne_eq_false_iff_eq];exact hx
    clear hx
    generalize hy:l.getD k 0=y at *
    have HY:=Lib.hid hy
    clear hy
    go_wp2
    go_round
    case rel=>exact ⟨k+1,by omega,by go_num,fun j hj=>by rcases (by omega:j < k∨j=k) with h|rfl;exact HN.out j h;rw [HY.out];exact HX.out⟩
    case measure=>simp [intOf];omega
   ·have X:=Lib.hid (orL_at l k (by rw [HL.out];exact hlt) HN.out hx)
    have t1:(l.getD k 0 != 0)=true:=by rw [bne_iff_ne];exact hx
    clear hx
    generalize l.getD k 0=y at *
    go_wp2
    go_ret
    exact ⟨by rw [X.out];rfl,rfl⟩
  ·have X:=Lib.hid (orL_none l (fun j hj=>HN.out j (by rw [HL.out] at hj;omega)))
   go_wp2
   go_ret
   exact ⟨by rw [X.out];rfl,rfl⟩
section
variable {α:Type} {E:Rd α} {sz:Nat}
theorem Grow.empty (T:Nat→Prop) {W:World} {base b:Nat} {e:TypeId} (hb:W.heap[b]?=some (.cells #[] e (0,0))) (hbase:base≤b):Grow E sz T W base e (.slice (some ⟨b,0,none⟩) 0 0) []:=
 ⟨[],rfl,⟨by simp,.inr ⟨b,0,#[],rfl,hbase,hb,Nat.le_refl _,Nat.zero_le _,by simp,by simp⟩⟩,fun k hk=>absurd hk (by simp)⟩
end
end Go.Proofs.YtgjlgdpbmhdnbaaDoor
namespace Go.Proofs.YtgjlgdpbmhdnbaaDoor
open Go
section
variable {P:Program} {ops:Array Oper} {Q:Exit→Act→World→Prop} {md:Region.Mode} {S:World→Prop} {z:Nat}
def wpAnyL (P:Program) (md:Region.Mode) (ops:Array Oper) (Q:Exit→Act→World→Prop) (S:World→Prop) (z:Nat):Nat→Array Bool→Act→World→Prop
 | 0,listed,a,w=>Region.ready md ops listed=[]∧Q .normal a w
 | fuel+1,listed,a,w=>
  (Region.ready md ops listed=[]→Q .normal a w)∧
  ∀i ∈ Region.ready md ops listed,wpOp P ops Q i (fun a' w'=>(i≠z→S w')∧wpAnyL P md ops Q S z fuel (listed.setIfInBounds i true) a' w') a w
theorem wpAny_of_L:∀(fuel:Nat) (listed:Array Bool) (a:Act) (w:World),wpAnyL P md ops Q S z fuel listed a w→wpAny P md ops Q fuel listed a w
 | 0,_,_,_,h=>h
 | fuel+1,_,_,_,h=>⟨h.1,fun i hi=>wpOp_mono (fun a' w' h'=>wpAny_of_L fuel _ a' w' h'.2) (h.2 i hi)⟩
def Full (md:Region.Mode) (ops:Array Oper) (listed:Array Bool):Prop:=∀j o,ops[j]?=some o→listed.getD j false=true→∀e ∈ o.after,Region.binds md e=true→listed.getD e.on false=true
def fullB (md:Region.Mode) (ops:Array Oper) (listed:Array Bool):Bool:=
 (List.range ops.size).all fun j=>!listed.getD j false||((ops[j]?).map (·.after.all fun e=>!Region.binds md e||listed.getD e.on false)).getD true
theorem full_of {listed:Array Bool} (h:fullB md ops listed=true):Full md ops listed:=by
 intro j o ho hj e he hb
 have hlt:j < ops.size:=(Array.getElem?_eq_some_iff.1 ho).1
 unfold fullB at h
 rw [List.all_eq_true] at h
 have:=h j (List.mem_range.2 hlt)
 rw [ho,hj] at this
 simp only [Bool.not_true,Bool.false_or,Option.map_some,Option.getD_some] at this
 have:=Array.all_eq_true_iff_forall_mem.1 this e he
 rw [hb] at this
 simpa using this
theorem Full.step {listed:Array Bool} {i:Nat} (h:Full md ops listed) (hi:i ∈ Region.ready md ops listed):Full md ops (listed.setIfInBounds i true):=by
 intro j o ho hj e he hb
 obtain ⟨_,oi,hoi,hall⟩:=mem_ready.1 hi
 by_cases hji:i=j
 ·subst hji
  rw [hoi] at ho
  injection ho with ho
  subst ho
  exact getD_set_true (hall e he hb)
 ·rw [getD_set_ne false hji] at hj
  exact getD_set_true (h j o ho hj e he hb)
def waitB (md:Region.Mode) (ops:Array Oper):List Nat→Bool
 | j::k::r=>((ops[j]?).map (·.after.any fun e=>Region.binds md e&&e.on==k)).getD false&&waitB md ops (k::r)
 | _=>true
theorem wait_edge {j k:Nat} (h:((ops[j]?).map (·.after.any fun e=>Region.binds md e&&e.on==k)).getD false=true):∃o e,ops[j]?=some o∧e ∈ o.after∧Region.binds md e=true∧e.on=k:=by
 cases ho:ops[j]? with
 | none=>rw [ho] at h;simp at h
 | some o=>
  rw [ho] at h
  simp only [Option.map_some,Option.getD_some] at h
  obtain ⟨e,he,hb⟩:=Array.any_eq_true'.1 h
  simp only [Bool.and_eq_true,beq_iff_eq] at hb
  exact ⟨o,e,rfl,he,hb.1,hb.2⟩
theorem wait_listed {listed:Array Bool} (hc:Full md ops listed) {i:Nat}:∀(r:List Nat) (j:Nat),waitB md ops (j::(r++[i]))=true→(∀o,ops[j]?=some o→∀e ∈ o.after,Region.binds md e=true→listed.getD e.on false=true)→listed.getD i false=true
 | [],j,h,hj=>by
  unfold waitB at h
  rw [List.nil_append] at h
  simp only [Bool.and_eq_true] at h
  obtain ⟨o,e,ho,he,hb,rfl⟩:=wait_edge h.1
  exact hj o ho e he hb
 | k::r,j,h,hj=>by
  rw [List.cons_append] at h
  unfold waitB at h
  simp only [Bool.and_eq_true] at h
  obtain ⟨o,e,ho,he,hb,rfl⟩:=wait_edge h.1
  exact wait_listed hc r e.on h.2 fun o' ho'=>hc e.on o' ho' (hj o ho e he hb)
theorem wpAnyL_first {i:Nat} {oi:Oper} {v:Value} (hi:ops[i]?=some oi) (hsel:∀(j:Nat) (o:Oper) cs b,ops[j]?=some o→o.op≠.select cs b)
  (hQ:∀c a w,Q (.panic c) (a.put oi.dst v) w→Q (.panic c) a w) (hiz:i≠z) (hz:∀listed,Full md ops listed→z ∈ Region.ready md ops listed→listed.getD i false=true) :
  ∀(fuel:Nat) (listed:Array Bool) (a:Act) (w:World),Full md ops listed→
   (∀j oj,ops[j]?=some oj→j≠i→listed.getD j true=false→(∀e ∈ oj.after,Region.binds md e=true→e.on≠i)→oi.apart ops oj=true)→
   i ∈ Region.ready md ops listed→YieldsIf P ops S oi v a→S w→
   wpAnyL P md ops Q S z fuel (listed.setIfInBounds i true) (a.put oi.dst v) w→wpAnyL P md ops Q S z (fuel+1) listed a w:=by
 intro fuel
 induction fuel with
 | zero=>
  intro listed a w _ _ hr hy hS H
  refine ⟨fun h=>(by rw [h] at hr;cases hr),fun j hj=>?_⟩
  by_cases hji:j=i
  ·subst hji;exact hy.wpOp hi hS ⟨fun _=>hS,H⟩
  ·have:=ready_mono hj hji
   rw [H.1] at this
   cases this
 | succ fuel ih=>
  intro listed a w hc hfree hr hy hS H
  refine ⟨fun h=>(by rw [h] at hr;cases hr),fun j hj=>?_⟩
  by_cases hji:j=i
  ·subst hji;exact hy.wpOp hi hS ⟨fun _=>hS,H⟩
  ·have h1:=H.2 j (ready_mono hj hji)
   obtain ⟨hjun,oj,hoj,hall⟩:=mem_ready.1 hj
   have hil:listed.getD i false=false:=by
    have h0:=(mem_ready.1 hr).1
    rcases Nat.lt_or_ge i listed.size with h'|h'
    ·simp [h'] at h0 ⊢;exact h0
    ·simp [Array.getElem?_eq_none h']
   have hnot:∀e ∈ oj.after,Region.binds md e=true→e.on≠i:=fun e he hb heq=>by
    have h1:=hall e he hb
    rw [heq,hil] at h1
    cases h1
   have hjz:j≠z:=fun e=>by
    subst e
    rw [hz listed hc hj] at hil
    cases hil
   have h2:=wpOp_putIf hoj (hfree j oj hoj hji hjun hnot) (fun cs b=>hsel i oi cs b hi) (fun cs b=>hsel j oj cs b hoj) hQ hy h1
   have hfree':∀k ok,ops[k]?=some ok→k≠i→(listed.setIfInBounds j true).getD k true=false→
     (∀e ∈ ok.after,Region.binds md e=true→e.on≠i)→oi.apart ops ok=true:=fun k ok hk hki hun hno=>by
    refine hfree k ok hk hki ?_ hno
    by_cases hjk:j=k
    ·subst hjk;exact hjun
    ·rw [getD_set_ne true hjk] at hun;exact hun
   refine wpOp_mono (fun a' w' h3=>⟨h3.2.1,ih (listed.setIfInBounds j true) a' w' (hc.step hj) hfree' (ready_mono hr (Ne.symm hji)) h3.1 (h3.2.1 hjz) ?_⟩) h2
   rw [Array.setIfInBounds_comm _ _ hji]
   exact h3.2.2
theorem wpAnyL_take {i:Nat} {oi:Oper} {v:Value} {fuel:Nat} {listed:Array Bool} {a:Act} {w:World} (r:List Nat) (hi:ops[i]?=some oi)
  (hs:Region.noSelect ops=true) (hf:Region.free md ops listed i=true) (hr:(Region.ready md ops listed).contains i=true)
  (hQ:∀c a w,Q (.panic c) (a.put oi.dst v) w→Q (.panic c) a w) (hiz:(i==z)=false) (hw:waitB md ops (z::(r++[i]))=true) (hc:fullB md ops listed=true) (hy:YieldsIf P ops S oi v a) (hS:S w)
  (h:wpAnyL P md ops Q S z fuel (listed.setIfInBounds i true) (a.put oi.dst v) w):wpAnyL P md ops Q S z (fuel+1) listed a w:=
 wpAnyL_first hi (Region.noSelect_spec hs) hQ (by simpa using hiz) (fun L hL hzL=>by
  obtain ⟨_,o,ho,hall⟩:=mem_ready.1 hzL
  exact wait_listed hL r z hw fun o' ho'=>by rw [ho] at ho';injection ho' with ho';subst ho';exact hall)
  fuel listed a w (full_of hc) (Region.free_spec hi hf) (by simpa using hr) hy hS h
theorem wpAnyL_done {listed:Array Bool} {a:Act} {w:World} (hr:Region.ready md ops listed=[]) (h:Q .normal a w) :
  ∀fuel,wpAnyL P md ops Q S z fuel listed a w
 | 0=>⟨hr,h⟩
 | _+1=>⟨fun _=>h,by rw [hr];simp⟩
theorem wpAnyL_one {i:Nat} {o:Oper} {fuel:Nat} {listed:Array Bool} {a:Act} {w:World} (hr:Region.ready md ops listed=[i]) (ho:ops[i]?=some o)
  (h:∀K':Act→World→Prop,Shut (∀a w,S w→(S w→wpAnyL P md ops Q S z fuel (listed.setIfInBounds i true) a w)→K' a w)→if Region.wanted o (yielded ops a.tmps)=true then Oper.wp P o a w K' Q else K' (a.put o.dst undef) w) :
  wpAnyL P md ops Q S z (fuel+1) listed a w:=by
 refine ⟨fun h0=>(by rw [hr] at h0;cases h0),fun j hj=>?_⟩
 rw [hr,List.mem_singleton] at hj
 subst hj
 exact wpOp_step ho fun K' hK=>h K' (fun a w hS hW=>hK a w ⟨fun _=>hS,hW hS⟩)
theorem wpAnyL_two {i k:Nat} {o p:Oper} {fuel:Nat} {listed:Array Bool} {a:Act} {w:World} (hr:Region.ready md ops listed=[i,k]) (ho:ops[i]?=some o) (hp:ops[k]?=some p)
  (h:∀K':Act→World→Prop,Shut (∀a w,S w→(S w→wpAnyL P md ops Q S z fuel (listed.setIfInBounds i true) a w)→K' a w)→if Region.wanted o (yielded ops a.tmps)=true then Oper.wp P o a w K' Q else K' (a.put o.dst undef) w)
  (h2:∀K':Act→World→Prop,Shut (∀a w,S w→(S w→wpAnyL P md ops Q S z fuel (listed.setIfInBounds k true) a w)→K' a w)→if Region.wanted p (yielded ops a.tmps)=true then Oper.wp P p a w K' Q else K' (a.put p.dst undef) w) :
  wpAnyL P md ops Q S z (fuel+1) listed a w:=by
 refine ⟨fun h0=>(by rw [hr] at h0;cases h0),fun j hj=>?_⟩
 rw [hr] at hj
 rcases List.mem_cons.1 hj with rfl|hj
 ·exact wpOp_step ho fun K' hK=>h K' (fun a w hS hW=>hK a w ⟨fun _=>hS,hW hS⟩)
 ·rw [List.mem_singleton] at hj
  subst hj
  exact wpOp_step hp fun K' hK=>h2 K' (fun a w hS hW=>hK a w ⟨fun _=>hS,hW hS⟩)
theorem wpAnyL_last {o:Oper} {fuel:Nat} {listed:Array Bool} {a:Act} {w:World} (hr:Region.ready md ops listed=[z]) (ho:ops[z]?=some o) (hr2:Region.ready md ops (listed.setIfInBounds z true)=[])
  (h:∀K':Act→World→Prop,Shut (∀a w,Q .normal a w→K' a w)→if Region.wanted o (yielded ops a.tmps)=true then Oper.wp P o a w K' Q else K' (a.put o.dst undef) w) :
  wpAnyL P md ops Q S z (fuel+1) listed a w:=by
 refine ⟨fun h0=>(by rw [hr] at h0;cases h0),fun j hj=>?_⟩
 rw [hr,List.mem_singleton] at hj
 subst hj
 exact wpOp_step ho fun K' hK=>h K' (fun a w hq=>hK a w ⟨fun h=>absurd rfl h,wpAnyL_done hr2 hq _⟩)
theorem wp_region_L {id:Nat} {a:Act} {w:World} (S:World→Prop) (z:Nat) (hm:P.follows .mixedOrders=true) (hS:S w.drew)
  (h:S w.drew→wpAnyL P .any ops Q S z ops.size (Array.replicate ops.size false) a w.drew):(Code.region id ops true).wp P Q a w:=
 wp_region_any hm (wpAny_of_L _ _ _ _ (h hS))
end
end Go.Proofs.YtgjlgdpbmhdnbaaDoor
namespace Go.Proofs.YtgjlgdpbmhdnbaaDoor
open Go.RowKit
section
variable {α:Type} {E:Rd α} {sz:Nat} {ty:TypeId}
theorem rdRow_drop {w:World} {S:Nat→Prop} {l:List α} {ad:Addr} {n c k:Nat} (h:rdRow sz E w S l [.slice (some ad) n c]) (hk:k≤l.length):rdRow sz E w S (l.drop k) [.slice (if c=k then some ad else some (ad.add (k*sz))) (n - k) (c - k)]:=by
 obtain ⟨A',c',e,h1,h2,h⟩:=h
 simp only [List.cons.injEq,Value.slice.injEq,and_true] at e
 obtain ⟨rfl,rfl,rfl⟩:=e
 have hlen:(l.drop k).length=l.length - k:=List.length_drop ..
 refine ⟨_,c - k,by rw [hlen],by omega,by omega,fun j hj=>?_⟩
 obtain ⟨ad',es,a1,a2,a3,a4,a5⟩:=h (k+j) (by omega)
 obtain rfl:ad=ad':=Option.some.inj a1
 have hck:¬c=k:=by omega
 refine ⟨ad.add (k*sz),es,by rw [if_neg hck],by rw [blk_add];exact a2,by rw [List.getElem_drop];exact a3,a4,fun t u ht=>?_⟩
 have e:(ad.add (k*sz)).add (j*sz+t)=ad.add ((k+j)*sz+t):=by
  rw [Nat.add_mul]
  unfold Addr.add
  by_cases h1:k*sz=0<;>by_cases h2:j*sz+t=0<;>simp [h1,h2,Nat.add_assoc]<;>omega
 rw [e];exact a5 t u ht
end
def plI (x:Int) (n:Nat):Int:=if x=0∨x < -(n:Int)∨(n:Int) < x then -1 else (plc x:Int)
theorem plI_lit {x:Int} {n:Nat} (h:litN n x):plI x n=(plc x:Int):=by
 obtain ⟨a,b,c⟩:=h;unfold plI;rw [if_neg (by omega)]
theorem plI_not {x:Int} {n:Nat} (h:¬litN n x):plI x n=-1:=by
 unfold plI;rw [if_pos];unfold litN at h;omega
theorem pla12_any (x:Int) (n:Nat) (w:World) (hn:n≤4611686018427387904):Calls Tryd.prog 25 #[.int .i64 x,.int .i64 n] w fun e w'=>e=.returned (.int .i64 (plI x n))∧w=w':=by
 have hwn:IntKind.i64.wrap (-(n:Int))=-(n:Int):=by rw [IntKind.wrap_i64];omega
 by_cases h0:x=0
 ·have X:=Lib.hid (show plI x n=-1 by unfold plI;rw [if_pos (Or.inl h0)])
  have e0:(x==0)=true:=by simp [h0]
  clear h0
  go_enter Tryd.func25,Tryd.ntmps25
  go_wp2
  go_ret
  exact ⟨by rw [X.out];try rfl,rfl⟩
 have e0:(x==0)=false:=by simp [h0]
 by_cases h1:x < -(n:Int)
 ·have X:=Lib.hid (show plI x n=-1 by unfold plI;rw [if_pos (Or.inr (Or.inl h1))])
  have e1:decide (x < -(n:Int))=true:=decide_eq_true h1
  go_enter Tryd.func25,Tryd.ntmps25
  go_wp2
  go_ret
  exact ⟨by rw [X.out];try rfl,rfl⟩
 have e1:decide (x < -(n:Int))=false:=decide_eq_false h1
 by_cases h2:(n:Int) < x
 ·have X:=Lib.hid (show plI x n=-1 by unfold plI;rw [if_pos (Or.inr (Or.inr h2))])
  have e2:decide ((n:Int) < x)=true:=decide_eq_true h2
  go_enter Tryd.func25,Tryd.ntmps25
  go_wp2
  go_ret
  exact ⟨by rw [X.out];try rfl,rfl⟩
 have e2:decide ((n:Int) < x)=false:=decide_eq_false h2
 have hwx:IntKind.i64.wrap (-x)=-x:=by rw [IntKind.wrap_i64];omega
 have hl:litN n x:=⟨h0,by omega,by omega⟩
 have X:=Lib.hid (show plI x n=(plc x:Int) from plI_lit hl)
 clear hl
 go_enter Tryd.func25,Tryd.ntmps25
 go_wp2
 all_goals
  go_ret
  refine ⟨?_,rfl⟩
  rw [X.out]
  have q:∀u:Int,u=(plc x:Int)→Ending.returned (Value.int IntKind.i64 u)=Ending.returned (Value.int IntKind.i64 (plc x:Int)):=fun u e=>by rw [e]
  refine q _ ?_
  unfold plc
  omega
theorem tv_sgn {a:List Int} {x:Int} (h:litN a.length x):tv a x=(a[plc x]!).sign*x.sign:=by
 obtain ⟨h1,h2,h3⟩:=h
 unfold tv;rw [if_pos ⟨by omega,by omega⟩]
theorem tv_none {a:List Int} {x:Int} (h:¬litN a.length x):tv a x=0:=by
 unfold tv;rw [if_neg];unfold litN at h;omega
theorem sgn_sign (n:Int):sgn n=n.sign:=by
 unfold sgn
 rcases Int.lt_trichotomy n 0 with h|h|h
 ·rw [if_pos (by omega),Int.sign_eq_neg_one_of_neg h]
 ·subst h;rfl
 ·rw [if_neg (by omega),if_pos (by omega),Int.sign_eq_one_of_pos h]
theorem sign_r (n:Int):-1≤n.sign∧n.sign≤1:=by
 rcases Int.lt_trichotomy n 0 with h|h|h
 ·rw [Int.sign_eq_neg_one_of_neg h];decide
 ·subst h;decide
 ·rw [Int.sign_eq_one_of_pos h];decide
theorem tru12_any (A:Option Addr) (na ca:Nat) (a:List Int) (x:Int) (S:Nat→Prop) (w:World) (h:rdInts w S a [.slice A na ca]) (hb:a.length≤4611686018427387904):Calls Tryd.prog 52 #[.int .i64 x,.slice A na ca] w fun e w'=>e=.returned (.int .i64 (tv a x))∧w=w':=by
 obtain ⟨hl,hlc,hcm,hat⟩:=rdInts_at h
 subst hl
 have hcm':ca≤9223372036854775807:=hcm
 have PL:=Lib.hid (pla12_any x a.length w hb)
 have CM:=Lib.hid cmpInt_any
 by_cases hx:litN a.length x
 ·have hp:=plc_lt hx
  obtain ⟨ad,rfl,-,hc⟩:=hat (plc x) hp
  have X:=Lib.hid (show tv a x=(a[plc x]).sign*x.sign by rw [tv_sgn hx,getElem!_pos a _ hp])
  have E:=Lib.hid (plI_lit hx)
  rw [plI_lit hx] at PL
  have r1:=sign_r (a[plc x])
  have r2:=sign_r x
  have WR:=Lib.hid (show wrap64 ((a[plc x]).sign*x.sign)=(a[plc x]).sign*x.sign by
   unfold wrap64
   have:-1≤(a[plc x]).sign*x.sign∧(a[plc x]).sign*x.sign≤1:=by
    rcases (show (a[plc x]).sign=-1∨(a[plc x]).sign=0∨(a[plc x]).sign=1 by omega) with q|q|q<;>rw [q]<;>omega
   omega)
  have p0:¬(plc x:Int) < 0:=by omega
  have p1:(0:Int)≤(plc x:Int):=by omega
  have p2:(plc x:Int) < (a.length:Int):=by omega
  have S1:=Lib.hid (sgn_sign (a[plc x]))
  have S2:=Lib.hid (sgn_sign x)
  generalize a[plc x]=y at *
  clear r1 r2 h hat hx
  generalize plc x=p at *
  go_enter Tryd.func52,Tryd.ntmps52
  go_wp2_with (first|(go_at_call 25;(with_reducible refine PL.out.mono ?_);rintro e w' ⟨rfl,rfl⟩)|(go_at_call 33;(with_reducible refine (CM.out _ _ _).mono ?_);rintro e w' ⟨rfl,rfl⟩))
  go_ret
  exact ⟨by rw [S1.out,S2.out,WR.out,X.out];try rfl,rfl⟩
 ·have X:=Lib.hid (tv_none hx)
  rw [plI_not hx] at PL
  clear hat h hx
  go_enter Tryd.func52,Tryd.ntmps52
  go_wp2_with (first|(go_at_call 25;(with_reducible refine PL.out.mono ?_);rintro e w' ⟨rfl,rfl⟩))
  go_ret
  exact ⟨by rw [X.out];try rfl,rfl⟩
end Go.Proofs.YtgjlgdpbmhdnbaaDoor
