/- What the laws rest on: Str, CutP, Deep, StrRow, Deep2, S5a, D4a, Ref2a, Ref2b, RefDec. -/
import Derived.WalkKit
import Derived.Lib.Hide
import Derived.Test.YtoopkofekekmoaaGreatDoorProg
import Derived.Maps.AppendAt
import Derived.OwnWalk
import Derived.Below
import Derived.OneCell
import Derived.BigQuiet
import Derived.RangeFuncOwn
import Derived.OwnWalkIn
import Derived.Lib.Join
import Derived.Laws.IdiomStrings
import Derived.StillTailTactics
import Derived.Deep.QuietTactic
import Derived.Test.YtoopkofekekmoaaGreatDoorChecked
import Derived.WalkLawsBesides
import Derived.WalkSpells
set_option maxRecDepth 100000
set_option linter.unusedVariables false
set_option linter.unusedSimpArgs false
namespace Go.Proofs.YtoopkofekekmoaaGreatDoor
open Go.RowKit
def B (s:ByteArray):List Nat:=s.data.toList.map UInt8.toNat
def mk (l:List Nat):ByteArray:=⟨(l.map UInt8.ofNat).toArray⟩
theorem B_len (s:ByteArray):(B s).length=s.size:=by unfold B;rw [List.length_map,Array.length_toList];rfl
theorem B_lt (s:ByteArray):∀c ∈ B s,c < 256:=by
 intro c hc
 obtain ⟨u,_,rfl⟩:=List.mem_map.1 hc
 exact u.toNat_lt
theorem mk_B (s:ByteArray):mk (B s)=s:=by
 obtain ⟨⟨l⟩⟩:=s
 simp only [mk,B,List.map_map]
 congr 2
 rw [List.map_congr_left (g:=id) (by intro u _;simp),List.map_id]
theorem B_mk {l:List Nat} (h:∀c ∈ l,c < 256):B (mk l)=l:=by
 simp only [mk,B,List.map_map]
 rw [List.map_congr_left (g:=id) (by intro c hc;have:=h c hc;simp;omega),List.map_id]
theorem B_inj {s t:ByteArray} (h:B s=B t):s=t:=by rw [←mk_B s,h,mk_B]
theorem eq_mk {s:ByteArray} {l:List Nat} (h:B s=l):s=mk l:=by rw [←h,mk_B]
theorem B_at (s:ByteArray) (k:Nat) (hk:k < s.size):(B s)[k]?=some s[k].toNat:=by
 unfold B
 rw [List.getElem?_map,List.getElem?_eq_getElem (by rw [Array.length_toList];exact hk)]
 rfl
theorem B_getD (s:ByteArray) (k:Nat) (hk:k < s.size):(B s).getD k 0=s[k].toNat:=by
 rw [List.getD_eq_getElem?_getD,B_at s k hk];rfl
theorem B_drop (s:ByteArray) (k:Nat) (hk:k < s.size):(B s).drop k=s[k].toNat::(B s).drop (k+1):=by
 have h:=B_at s k hk
 have hl:k < (B s).length:=by rw [B_len];exact hk
 rw [List.drop_eq_getElem_cons hl]
 rw [List.getElem?_eq_getElem hl] at h
 injection h with h
 rw [h]
theorem B_drop_end (s:ByteArray) (k:Nat) (hk:s.size≤k):(B s).drop k=[]:=List.drop_eq_nil_of_le (by rw [B_len];exact hk)
theorem B_extract (s:ByteArray) (i j:Nat):B (s.extract i j)=((B s).drop i).take (j - i):=by
 unfold B
 rw [ByteArray.data_extract,Array.toList_extract]
 simp [List.extract,List.map_take,List.map_drop]
theorem B_append (s t:ByteArray):B (s++t)=B s++B t:=by
 unfold B
 rw [ByteArray.data_append,Array.toList_append,List.map_append]
theorem byte_le (s:ByteArray) (k:Nat) (hk:k < s.size):s[k].toNat < 256:=s[k].toNat_lt
def digB (c:Nat):Bool:=decide (48≤c∧c≤57)
def letB (c:Nat):Bool:=decide (97≤c∧c≤122∨65≤c∧c≤90)
def sgn (n:Int):Int:=if n < 0 then -1 else if 0 < n then 1 else 0
def wt:List Nat→Int
 | []=>0
 | c::_=>if digB c then 0 else if c=126 then -1 else if letB c then c else 1000+c
theorem toList_data (s:ByteArray):s.toList=s.data.toList:=ByteArray.toList_eq s
theorem B_take_snoc (s:ByteArray) (k:Nat) (hk:k < s.size):(B s).take (k+1)=(B s).take k++[s[k].toNat]:=by
 rw [List.take_add_one,B_at s k hk];rfl
theorem strEq (a:List Nat) (s:ByteArray) (h:∀c ∈ a,c < 256):((mk a).toList==s.toList)=decide (a=B s):=by
 rw [Bool.eq_iff_iff,beq_iff_eq,decide_eq_true_eq]
 constructor
 ·intro he
  rw [toList_data,toList_data] at he
  rw [←B_mk h]
  unfold B
  rw [he]
 ·rintro rfl
  rw [mk_B]
theorem take_mk (s:ByteArray) (i:Nat):(⟨(s.data.toList.take i).toArray⟩:ByteArray)=mk ((B s).take i):=by
 apply eq_mk;unfold B;rw [←List.map_take]
theorem drop_mk (s:ByteArray) (i:Nat):(⟨(s.data.toList.drop i).toArray⟩:ByteArray)=mk ((B s).drop i):=by
 apply eq_mk;unfold B;rw [←List.map_drop]
theorem blk_add (a:Addr) (k:Nat):(a.add k).block=a.block:=by unfold Addr.add;split<;>rfl
theorem belD {N:Nat} {a w:World} (h:Below N a w) (n:Nat):Below N a (w.drewN n):=⟨h.os,h.tape,h.output,h.size,h.block⟩
theorem bel2 {a b c:World} {N:Nat} (h:Below N a b) (k:Below b.heap.size b c):N≤a.heap.size→Below N a c:=fun hn=>h.trans (k.mono (Nat.le_trans hn h.size))
def Dr (w w':World):Prop:=∃q,w'=w.drewN q
theorem Dr.refl (w:World):Dr w w:=⟨0,rfl⟩
theorem Dr.more {w w':World} (h:Dr w w') (n:Nat):Dr w (w'.drewN n):=by obtain ⟨q,rfl⟩:=h;exact ⟨q+n,by rw [World.drewN_drewN]⟩
theorem Dr.below {w w':World} (h:Dr w w') (N:Nat):Below N w w':=by obtain ⟨q,rfl⟩:=h;exact belD (Below.refl _ _) q
theorem Dr.size {w w':World} (h:Dr w w'):w'.heap.size=w.heap.size:=by obtain ⟨q,rfl⟩:=h;rfl
abbrev Rd (α:Type):=World→(Nat→Prop)→α→List Value→Prop
structure Good {α:Type} (E:Rd α) (sz:Nat):Prop where
 keep:∀{w w':World} {S:Nat→Prop} {a:α} {cs:List Value},E w S a cs→(∀b,S b→w'.heap[b]?=w.heap[b]?)→E w' S a cs
 more:∀{w:World} {S S':Nat→Prop} {a:α} {cs:List Value},E w S a cs→(∀b,S b→S' b)→E w S' a cs
 turn:∀{w w':World} {S:Nat→Prop} {a:α} {cs:List Value} {row:Option Nat},E w S a cs→w.grownBy w' row→(∀r,row=some r→∃o:Obj,w.heap[r]?=some o∧o.isCells=false)→E w' S a cs
 len:∀{w:World} {S:Nat→Prop} {a:α} {cs:List Value},E w S a cs→cs.length=sz
 one:∀{w:World} {S:Nat→Prop} {a:α} {cs:List Value},E w S a cs→∀u ∈ cs,u.oneCell'=true
section
variable {α:Type} {E:Rd α} {sz:Nat}
theorem Good.both (g:Good E sz) {w w':World} {S S':Nat→Prop} {a:α} {cs:List Value} (h:E w S a cs) (hk:∀b,S b→w'.heap[b]?=w.heap[b]?) (hm:∀b,S b→S' b):E w' S' a cs:=g.more (g.keep h hk) hm
def rdRow (sz:Nat) (E:Rd α):Rd (List α):=fun w S l cs=>
 ∃A c,cs=[.slice A l.length c]∧l.length≤c∧c≤maxLen∧
  ∀k (hk:k < l.length),∃ad es,A=some ad∧S ad.block∧E w S l[k] es∧es.length=sz∧∀j u,es[j]?=some u→w.cell? (ad.add (k*sz+j))=some u
theorem rdRow_good (g:Good E sz):Good (rdRow sz E) 1 where
 keep:=by
  rintro w w' S l cs ⟨A,c,rfl,h1,h2,h⟩ hk
  refine ⟨A,c,rfl,h1,h2,fun k hk'=>?_⟩
  obtain ⟨ad,es,e,hS,hE,hl,hc⟩:=h k hk'
  refine ⟨ad,es,e,hS,g.keep hE hk,hl,fun j u hu=>?_⟩
  rw [←hc j u hu]
  exact World.cell?_of_block (by rw [blk_add];exact hk _ hS)
 more:=by
  rintro w S S' l cs ⟨A,c,rfl,h1,h2,h⟩ hm
  refine ⟨A,c,rfl,h1,h2,fun k hk'=>?_⟩
  obtain ⟨ad,es,e,hS,hE,hl,hc⟩:=h k hk'
  exact ⟨ad,es,e,hm _ hS,g.more hE hm,hl,hc⟩
 turn:=by
  rintro w w' S l cs row ⟨A,c,rfl,h1,h2,h⟩ hg hr
  refine ⟨A,c,rfl,h1,h2,fun k hk'=>?_⟩
  obtain ⟨ad,es,e,hS,hE,hl,hc⟩:=h k hk'
  exact ⟨ad,es,e,hS,g.turn hE hg hr,hl,fun j u hu=>cell_kept (hc j u hu) hg hr⟩
 len:=by rintro w S l cs ⟨A,c,rfl,_⟩;rfl
 one:=by rintro w S l cs ⟨A,c,rfl,_⟩ u hu;rw [List.mem_singleton.1 hu];rfl
theorem rdRow_nil (w:World) (S:Nat→Prop):rdRow sz E w S [] [.slice none 0 0]:=⟨none,0,rfl,Nat.le_refl _,Nat.zero_le _,fun k hk=>absurd hk (by simp)⟩
def lt_ (N:Nat):Nat→Prop:=fun b=>b < N
theorem Good.below (g:Good E sz) {N:Nat} {w w':World} {a:α} {cs:List Value} (h:E w (lt_ N) a cs) (hb:Below N w w'):E w' (lt_ N) a cs:=g.keep h fun b hb'=>hb.block b hb'
theorem Good.up (g:Good E sz) {N N':Nat} {w:World} {a:α} {cs:List Value} (h:E w (lt_ N) a cs) (hn:N≤N'):E w (lt_ N') a cs:=g.more h fun _ hb=>Nat.lt_of_lt_of_le hb hn
def Grow (E:Rd α) (sz:Nat) (T:Nat→Prop) (w:World) (base:Nat) (e:TypeId) (v:Value) (l:List α):Prop:=
 ∃css:List (List Value),css.length=l.length∧w.ownsRow base e sz v l.length css.flatten∧
  ∀k (hk:k < l.length),∃cs,css[k]?=some cs∧E w (fun b=>T b∧b < w.heap.size∧v.ownBlock≠some b) l[k] cs
theorem Grow.nil (T:Nat→Prop) (w:World) (base:Nat) (e:TypeId):Grow E sz T w base e (.slice none 0 0) []:=
 ⟨[],rfl,World.ownsRow_nil w base e sz,fun k hk=>absurd hk (by simp)⟩
theorem flatten_len (sz:Nat):∀{css:List (List Value)},(∀cs ∈ css,cs.length=sz)→css.flatten.length=css.length*sz
 | [],_=>by simp
 | c::css,h=>by
  have:=flatten_len sz (css:=css) (fun cs hc=>h cs (by simp [hc]))
  rw [List.flatten_cons,List.length_append,this,h c (by simp),List.length_cons,Nat.add_mul];omega
theorem flatten_at (sz:Nat):∀{css:List (List Value)},(∀cs ∈ css,cs.length=sz)→∀{k:Nat} {cs:List Value},css[k]?=some cs→∀j u,cs[j]?=some u→css.flatten[k*sz+j]?=some u
 | [],_,k,cs,hk,_,_,_=>by simp at hk
 | c::css,h,0,cs,hk,j,u,hu=>by
  simp only [List.getElem?_cons_zero,Option.some.injEq] at hk
  subst hk
  rw [List.flatten_cons,Nat.zero_mul,Nat.zero_add,List.getElem?_append_left (List.getElem?_eq_some_iff.1 hu).1];exact hu
 | c::css,h,k+1,cs,hk,j,u,hu=>by
  rw [List.getElem?_cons_succ] at hk
  have:=flatten_at sz (fun cs hc=>h cs (by simp [hc])) hk j u hu
  have hc:=h c (by simp)
  rw [List.flatten_cons,List.getElem?_append_right (by rw [hc,Nat.add_mul];omega),hc,←this]
  congr 1
  rw [Nat.add_mul];omega
theorem Grow.lens (g:Good E sz) {T:Nat→Prop} {w:World} {v:Value} {l:List α} {css:List (List Value)} (hl:css.length=l.length)
  (h:∀k (hk:k < l.length),∃cs,css[k]?=some cs∧E w (fun b=>T b∧b < w.heap.size∧v.ownBlock≠some b) l[k] cs):∀cs ∈ css,cs.length=sz:=by
 intro cs hc
 obtain ⟨k,hk,rfl⟩:=List.getElem_of_mem hc
 obtain ⟨cs,h1,h2⟩:=h k (by omega)
 rw [List.getElem?_eq_getElem hk] at h1
 injection h1 with h1
 rw [h1];exact g.len h2
theorem Grow.reads (g:Good E sz) {T:Nat→Prop} {w:World} {base:Nat} {e:TypeId} {v:Value} {l:List α} (h:Grow E sz T w base e v l):rdRow sz E w (fun b=>b < w.heap.size∧(base≤b∨T b)) l [v]:=by
 obtain ⟨css,hl,ho,hE⟩:=h
 have hls:=Grow.lens g hl hE
 rcases ho.2 with ⟨rfl,h0⟩|⟨gb,cap,cur,rfl,hb,hg,hn,hm,hs,ht⟩
 ·obtain rfl:l=[]:=List.eq_nil_of_length_eq_zero h0
  exact rdRow_nil w _
 ·have hlt:gb < w.heap.size:=(Array.getElem?_eq_some_iff.1 hg).1
  refine ⟨_,cap,rfl,hn,hm,fun k hk=>?_⟩
  obtain ⟨cs,h1,h2⟩:=hE k hk
  refine ⟨_,cs,rfl,⟨hlt,.inl hb⟩,g.more h2 (fun b hb=>⟨hb.2.1,.inr hb.1⟩),g.len h2,fun j u hu=>?_⟩
  exact ho.cells (g:=gb) rfl _ _ (flatten_at sz hls h1 j u hu)
theorem Grow.read (g:Good E sz) {T:Nat→Prop} {w:World} {base:Nat} {e:TypeId} {v:Value} {l:List α} (h:Grow E sz T w base e v l):rdRow sz E w (lt_ w.heap.size) l [v]:=(rdRow_good g).more (h.reads g) fun _ hb=>hb.1
theorem Grow.own {T:Nat→Prop} {w:World} {base:Nat} {e:TypeId} {v:Value} {l:List α} (h:Grow E sz T w base e v l):∃A c,v=.slice A l.length c∧l.length≤c∧c≤maxLen:=by
 obtain ⟨css,hl,ho,hE⟩:=h
 rcases ho.2 with ⟨rfl,h0⟩|⟨gb,cap,cur,rfl,hb,hg,hn,hm,hs,ht⟩
 ·exact ⟨none,0,by rw [h0],by omega,Nat.zero_le _⟩
 ·exact ⟨_,cap,rfl,hn,hm⟩
theorem Grow.lt {T:Nat→Prop} {w:World} {base:Nat} {e:TypeId} {v:Value} {l:List α} (h:Grow E sz T w base e v l):∀b,v.ownBlock=some b→base≤b∧b < w.heap.size:=by
 obtain ⟨css,hl,ho,hE⟩:=h
 exact ho.lt
theorem Grow.kept (g:Good E sz) {T:Nat→Prop} {w w':World} {base:Nat} {e:TypeId} {v:Value} {l:List α} (h:Grow E sz T w base e v l) (hs:w.heap.size≤w'.heap.size)
  (hk:∀b,b < w.heap.size→(base≤b∨T b)→w'.heap[b]?=w.heap[b]?):Grow E sz T w' base e v l:=by
 have hlt:=h.lt
 obtain ⟨css,hl,ho,hE⟩:=h
 refine ⟨css,hl,⟨ho.1,?_⟩,fun k hk'=>?_⟩
 ·rcases ho.2 with hn|⟨gb,cap,cur,rfl,hb,hg,rest⟩
  ·exact .inl hn
  ·exact .inr ⟨gb,cap,cur,rfl,hb,by rw [hk gb (Array.getElem?_eq_some_iff.1 hg).1 (.inl hb)];exact hg,rest⟩
 ·obtain ⟨cs,h1,h2⟩:=hE k hk'
  exact ⟨cs,h1,g.both h2 (fun b hb=>hk b hb.2.1 (.inr hb.1)) (fun b hb=>⟨hb.1,Nat.lt_of_lt_of_le hb.2.1 hs,hb.2.2⟩)⟩
theorem Grow.below (g:Good E sz) {T:Nat→Prop} {w w':World} {base:Nat} {e:TypeId} {v:Value} {l:List α} (h:Grow E sz T w base e v l) (hb:Below w.heap.size w w'):Grow E sz T w' base e v l:=
 h.kept g hb.size fun b hb' _=>hb.block b hb'
theorem Grow.turn (g:Good E sz) {T:Nat→Prop} {w w':World} {base:Nat} {e:TypeId} {v:Value} {l:List α} {row:Option Nat} (h:Grow E sz T w base e v l) (hg:w.grownBy w' row) (hr:∀r,row=some r→∃o:Obj,w.heap[r]?=some o∧o.isCells=false):Grow E sz T w' base e v l:=by
 obtain ⟨css,hl,ho,hE⟩:=h
 refine ⟨css,hl,ho.kept hg ?_,fun k hk'=>?_⟩
 ·rcases ho.2 with ⟨rfl,_⟩|⟨gb,cap,cur,rfl,hb,hgg,_⟩
  ·exact .inl rfl
  ·refine .inr fun hh=>?_
   obtain ⟨o,h1,h2⟩:=hr gb hh.symm
   rw [hgg] at h1
   injection h1 with h1
   subst h1
   cases h2
 ·obtain ⟨cs,h1,h2⟩:=hE k hk'
  exact ⟨cs,h1,g.more (g.turn h2 hg hr) fun b hb=>⟨hb.1,Nat.lt_of_lt_of_le hb.2.1 hg.size,hb.2.2⟩⟩
theorem Grow.alloc (g:Good E sz) {T:Nat→Prop} {w:World} {base:Nat} {e:TypeId} {v:Value} {l:List α} (h:Grow E sz T w base e v l) (o:Obj):Grow E sz T (w.alloc o) base e v l:=
 h.below g ((Below.refl _ w).alloc (Nat.le_refl _) o)
theorem Grow.step (g:Good E sz) {T:Nat→Prop} {w w':World} {base:Nat} {e:TypeId} {v v':Value} {l:List α} {css:List (List Value)} {m:List α} {ess:List (List Value)}
  (hl:css.length=l.length) (hE:∀k (hk:k < l.length),∃cs,css[k]?=some cs∧E w (fun b=>T b∧b < w.heap.size∧v.ownBlock≠some b) l[k] cs)
  (hm:ess.length=m.length) (hM:∀k (hk:k < m.length),∃cs,ess[k]?=some cs∧E w (fun b=>T b∧b < w.heap.size∧v.ownBlock≠some b) m[k] cs)
  (hown:w'.ownsRow base e sz v' (l.length+m.length) (css.flatten++ess.flatten)) (hg:w.grownBy w' v.ownBlock) (hat:v'.ownBlock=v.ownBlock∨∃b,v'.ownBlock=some b∧w.heap.size≤b) :
  Grow E sz T w' base e v' (l++m):=by
 have key:∀(a:α) (cs:List Value),E w (fun b=>T b∧b < w.heap.size∧v.ownBlock≠some b) a cs→E w' (fun b=>T b∧b < w'.heap.size∧v'.ownBlock≠some b) a cs:=by
  intro a cs h
  refine g.both h (fun b hb=>hg.block b hb.2.1 (fun hh=>hb.2.2 hh.symm)) (fun b hb=>⟨hb.1,Nat.lt_of_lt_of_le hb.2.1 hg.size,?_⟩)
  rcases hat with h1|⟨b',h1,h2⟩
  ·rw [h1];exact hb.2.2
  ·rw [h1];intro hh;injection hh with hh;have:=hb.2.1;omega
 refine ⟨css++ess,by rw [List.length_append,List.length_append,hl,hm],by rw [List.length_append,List.flatten_append];exact hown,fun k hk=>?_⟩
 by_cases hkl:k < l.length
 ·obtain ⟨cs,h1,h2⟩:=hE k hkl
  refine ⟨cs,by rw [List.getElem?_append_left (by omega)];exact h1,?_⟩
  rw [List.getElem_append_left hkl];exact key _ _ h2
 ·rw [List.length_append] at hk
  obtain ⟨cs,h1,h2⟩:=hM (k - l.length) (by omega)
  refine ⟨cs,by rw [List.getElem?_append_right (by omega),hl];exact h1,?_⟩
  rw [List.getElem_append_right (by omega)];exact key _ _ h2
theorem cells_new (w:World) (blk:Array Value) (te:TypeId):∀j u,blk.toList[j]?=some u→(w.alloc (.cells blk te)).cell? ((⟨w.heap.size,0,none⟩:Addr).add j)=some u:=by
 intro j u hj
 have hadd:(⟨w.heap.size,0,none⟩:Addr).add j=⟨w.heap.size,j,none⟩:=by unfold Addr.add;split<;>simp_all
 rw [hadd,cell_of_row (w.alloc (.cells blk te)) w.heap.size j blk te (0,0) (heap_alloc_new w _)]
 simpa using hj
theorem wpList_grow1 {P:Program} {ops:Array Oper} {rest:List Oper} {o:Oper} {a:Act} {Q:Exit→Act→World→Prop} (W:World) (hgd:o.guard=none) (s x:Operand) (t:TypeId)
  (ho:o.op=.call { callee:=.builtin .append,args:=#[s,x],argTypes:=#[t,t] })
  (g:Good E sz) (hsz:0 < sz) (T:Nat→Prop) (base:Nat) (e:TypeId) (i:TypeInfo) (z:Value) (bytes:Nat) (ht:P.underlying t=some (.slice e)) (hi:P.info? e=some i) (hz:i.zero=some z)
  (hsize:i.size=sz) (hby:i.bytes=bytes) (hzs:z.cells.size=sz)
  (v:Value) (l:List α) (hs:a.eval s=v) (hG:Grow E sz T W base e v l) (y:α) (blk:Array Value) (te:TypeId)
  (hE:E W (fun b=>T b∧b < W.heap.size∧v.ownBlock≠some b) y blk.toList) (N:Nat) (hN:N=W.heap.size) (hx:a.eval x=.slice (some ⟨N,0,none⟩) 1 1)
  (hn:l.length+1≤maxLen) (hb2:(l.length+1)*bytes≤140737488355328) (hbase:base≤W.heap.size)
  (h:∀v' w',Grow E sz T w' base e v' (l++[y])→W.grownBy w' v.ownBlock→wpList P ops Q rest (a.put o.dst v') w') :
  wpList P ops Q (o::rest) a (W.alloc (.cells blk te)):=by
 subst hN
 obtain ⟨css,hl,hown,hEs⟩:=hG
 refine wpList_append_own_at _ hgd s x t ho base e i z sz bytes ht hi hz hsize hby hzs hsz v l.length css.flatten hs (hown.alloc _) ⟨W.heap.size,0,none⟩ 1 1 blk.toList hx (by rw [g.len hE];simp) (cells_new W blk te) (g.one hE) hn hb2 (by simp;omega) ?_
 intro v' w' hown' hgrow _ hat
 have hg2:W.grownBy w' v.ownBlock:=by
  refine ⟨hgrow.os,hgrow.tape,hgrow.output,?_,fun k hk hne=>?_⟩
  ·have:=hgrow.size;simp at this;omega
  ·rw [hgrow.block k (by simp;omega) hne]
   exact Below.heap_alloc W _ k hk
 refine h v' w' ?_ hg2
 refine Grow.step g hl hEs (m:=[y]) (ess:=[blk.toList]) rfl (fun k hk=>?_) (by simpa using hown') hg2 ?_
 ·simp only [List.length_singleton] at hk
  obtain rfl:k=0:=by omega
  exact ⟨_,rfl,hE⟩
 ·rcases hat with h1|h1
  ·exact .inl h1
  ·exact .inr ⟨_,h1,by simp⟩
theorem grow_below {B:Nat} {w0 W w':World} {T:Nat→Prop} {base:Nat} {e:TypeId} {v:Value} {l:List α} (hG:Grow E sz T W base e v l) (hg:W.grownBy w' v.ownBlock) (hb:Below B w0 W) (hB:B≤base) (hs:B≤W.heap.size):Below B w0 w':=
 hb.grown hg hs fun g hg'=>Nat.le_trans hB (hG.lt g hg').1
end
theorem bytes_cells (w:World) (s:ByteArray):∃(cap:Nat) (w1:World),(convert 9 124 (.string s)).run Tryz.prog w=.ok (.slice (some ⟨w.heap.size,0,none⟩) s.size cap) w1∧Below w.heap.size w w1∧∀(k:Nat) (hk:k < s.size),w1.cell? ⟨w.heap.size,k,none⟩=some (.int .u8 (s[k].toNat:Int)):=by
 refine ⟨_,_,run_bytes_of_string w 9 124 5 s Tryz.underlying9 Tryz.underlying124 Tryz.underlying5,(Below.refl _ w).drew.alloc (Nat.le_refl _) _,?_⟩
 intro k hk
 have hk2:k < s.data.size:=hk
 have:(bytesRow s (grownCap w s.size 0 5))[k]?=some (.int .u8 (s[k].toNat:Int)):=by
  unfold bytesRow
  rw [Array.getElem?_append_left (by simpa using hk2),Array.getElem?_map,Array.getElem?_eq_getElem hk2]
  rfl
 exact (World.cell?_alloc_mark w.drew _ _ _ k).trans this
section
variable {P:Program}
theorem append_types (t t' ty e e':TypeId) (i:TypeInfo) (hi:P.info? e=some i) (ht:P.underlying t=some (.slice e)) (ht':P.underlying t'=some (.slice e')) (A:Option Addr) (n c:Nat) (x:Value) (w:World) :
  (Builtin.append_ #[t,t'] ty #[.slice A n c,x]).run P w=(Builtin.append_ #[t,t] ty #[.slice A n c,x]).run P w:=by
 simp [Builtin.append_,run_underlying ht,run_underlying ht',sizeOf,typeInfo,hi]
theorem append_none (w:World) (base:Nat) (t ty e:TypeId) (i:TypeInfo) (size:Nat) (ht:P.underlying t=some (.slice e)) (hi:P.info? e=some i)
  (v:Value) (n:Nat) (xs:List Value) (hown:w.ownsRow base e size v n xs) (A:Option Addr) (c:Nat):(Builtin.append_ #[t,t] ty #[v,.slice A 0 c]).run P w=.ok v w:=by
 rcases hown.2 with ⟨rfl,rfl⟩|⟨g,cap,cur,rfl,_,_,hnc,_⟩
 ·cases A<;>simp [Builtin.append_,run_underlying ht,sizeOf,typeInfo,hi,Builtin.lenOf,Builtin.firstCells,loadCells,loadCellsFrom]
 ·cases A<;>simp [Builtin.append_,run_underlying ht,sizeOf,typeInfo,hi,Builtin.lenOf,Builtin.firstCells,hnc,storeCells,loadCells,loadCellsFrom]
end
section
variable {α:Type} {E:Rd α} {sz:Nat}
theorem rows_of {w:World} {S:Nat→Prop} {m:List α} {A:Option Addr} {n c:Nat} (h:rdRow sz E w S m [.slice A n c]) (h0:0 < m.length) :
  n=m.length∧∃(ad:Addr) (ess:List (List Value)),A=some ad∧S ad.block∧ess.length=m.length∧(∀k (hk:k < m.length),∃es,ess[k]?=some es∧E w S m[k] es∧es.length=sz∧∀j u,es[j]?=some u→w.cell? (ad.add (k*sz+j))=some u):=by
 obtain ⟨A',c',e,h1,h2,h⟩:=h
 simp only [List.cons.injEq,Value.slice.injEq,and_true] at e
 obtain ⟨rfl,rfl,rfl⟩:=e
 obtain ⟨ad,_,rfl,hS,_⟩:=h 0 h0
 refine ⟨rfl,ad,List.ofFn fun k:Fin m.length=>Classical.choose (Classical.choose_spec (h k.1 k.2)),rfl,hS,by simp,fun k hk=>?_⟩
 have hs:=Classical.choose_spec (Classical.choose_spec (h k hk))
 refine ⟨_,by rw [List.getElem?_ofFn,dif_pos hk],hs.2.2.1,hs.2.2.2.1,fun j u hu=>?_⟩
 have e1:=hs.1
 injection e1 with e1
 have:=hs.2.2.2.2 j u hu
 rwa [←e1] at this
theorem flat_back (hsz:0 < sz):∀{css:List (List Value)},(∀cs ∈ css,cs.length=sz)→∀{j:Nat} {u:Value},css.flatten[j]?=some u→∃k i cs,css[k]?=some cs∧cs[i]?=some u∧j=k*sz+i
 | [],_,j,u,h=>by simp at h
 | c::css,hl,j,u,h=>by
  have hc:=hl c (by simp)
  rw [List.flatten_cons] at h
  by_cases hj:j < c.length
  ·rw [List.getElem?_append_left hj] at h
   exact ⟨0,j,c,rfl,h,by omega⟩
  ·rw [List.getElem?_append_right (by omega)] at h
   obtain ⟨k,i,cs,h1,h2,h3⟩:=flat_back hsz (fun cs hc=>hl cs (by simp [hc])) h
   exact ⟨k+1,i,cs,h1,h2,by rw [Nat.add_mul];omega⟩
theorem run_growN {P:Program} (W:World) (t t' ty:TypeId) (g:Good E sz) (hsz:0 < sz) (T:Nat→Prop) (base:Nat) (e e':TypeId) (i:TypeInfo) (z:Value) (bytes:Nat)
  (ht:P.underlying t=some (.slice e)) (ht':P.underlying t'=some (.slice e')) (hi:P.info? e=some i) (hz:i.zero=some z) (hsize:i.size=sz) (hby:i.bytes=bytes) (hzs:z.cells.size=sz)
  (v:Value) (l:List α) (hG:Grow E sz T W base e v l) (m:List α) (S:Nat→Prop) (A:Option Addr) (n c:Nat) (hX:rdRow sz E W S m [.slice A n c]) (hS:∀b,S b→T b∧b < W.heap.size∧v.ownBlock≠some b)
  (hn:l.length+m.length≤maxLen) (hb2:(l.length+m.length)*bytes≤140737488355328) (hbase:base≤W.heap.size) :
  ∃v' w',(Builtin.append_ #[t,t'] ty #[v,.slice A n c]).run P W=.ok v' w'∧Grow E sz T w' base e v' (l++m)∧W.grownBy w' v.ownBlock∧(v'.ownBlock=v.ownBlock∨∃b,v'.ownBlock=some b∧W.heap.size≤b):=by
 have hty:∀x,(Builtin.append_ #[t,t'] ty #[v,x]).run P W=(Builtin.append_ #[t,t] ty #[v,x]).run P W:=by
  obtain ⟨vA,vc,hv,_,_⟩:=hG.own
  subst hv
  exact fun x=>append_types t t' ty e e' i hi ht ht' _ _ _ x W
 rw [hty]
 by_cases h0:m.length=0
 ·obtain rfl:m=[]:=List.eq_nil_of_length_eq_zero h0
  obtain ⟨A',c',e1,_⟩:=id hX
  simp only [List.cons.injEq,Value.slice.injEq,and_true,List.length_nil] at e1
  obtain ⟨_,rfl,_⟩:=e1
  obtain ⟨css,hl,hown,hEs⟩:=id hG
  exact ⟨v,W,append_none W base t ty e i sz ht hi v _ _ hown A c,by rw [List.append_nil];exact hG,⟨rfl,rfl,rfl,Nat.le_refl _,fun _ _ _=>rfl⟩,.inl rfl⟩
 ·obtain ⟨rfl,ad,ess,rfl,hSa,hel,hek⟩:=rows_of hX (by omega)
  obtain ⟨css,hl,hown,hEs⟩:=hG
  have hes:∀cs ∈ ess,cs.length=sz:=fun cs hc=>by
   obtain ⟨k,hk,rfl⟩:=List.getElem_of_mem hc
   obtain ⟨es,h1,_,h2,_⟩:=hek k (by omega)
   rw [List.getElem?_eq_getElem hk] at h1
   injection h1 with h1
   rw [h1];exact h2
  have hcell:∀j u,ess.flatten[j]?=some u→W.cell? (ad.add j)=some u:=fun j u hu=>by
   obtain ⟨k,i',cs,h1,h2,rfl⟩:=flat_back hsz hes hu
   have hk:k < m.length:=by have:=(List.getElem?_eq_some_iff.1 h1).1;omega
   obtain ⟨es,h3,_,_,h4⟩:=hek k hk
   rw [h3] at h1
   injection h1 with h1
   subst h1
   exact h4 i' u h2
  have hone:∀u ∈ ess.flatten,u.oneCell'=true:=fun u hu=>by
   obtain ⟨cs,hc,hu⟩:=List.mem_flatten.1 hu
   obtain ⟨k,hk,rfl⟩:=List.getElem_of_mem hc
   obtain ⟨es,h1,h2,_,_⟩:=hek k (by omega)
   rw [List.getElem?_eq_getElem hk] at h1
   injection h1 with h1
   exact g.one h2 u (h1 ▸ hu)
  obtain ⟨v',w',hr,hown',hgrow,_,hat⟩:=run_append_own_at (P:=P) W base t ty e i z sz bytes ht hi hz hsize hby hzs hsz v l.length css.flatten hown ad m.length c ess.flatten (by rw [flatten_len sz hes,hel]) hcell hone hn hb2 hbase
  have hat2:v'.ownBlock=v.ownBlock∨∃b,v'.ownBlock=some b∧W.heap.size≤b:=by
   rcases hat with h1|h1
   ·exact .inl h1
   ·exact .inr ⟨_,h1,Nat.le_refl _⟩
  refine ⟨v',w',hr,Grow.step g hl hEs hel (fun k hk=>?_) hown' hgrow hat2,hgrow,hat2⟩
  obtain ⟨es,h1,h2,_,_⟩:=hek k hk
  exact ⟨es,h1,g.more h2 hS⟩
theorem wpList_growN {P:Program} {ops:Array Oper} {rest:List Oper} {o:Oper} {a:Act} {Q:Exit→Act→World→Prop} (W:World) (hgd:o.guard=none) (s x:Operand) (t t':TypeId)
  (ho:o.op=.call { callee:=.builtin .append,args:=#[s,x],argTypes:=#[t,t'] }) (g:Good E sz) (hsz:0 < sz) (T:Nat→Prop) (base:Nat) (e e':TypeId) (i:TypeInfo) (z:Value) (bytes:Nat)
  (ht:P.underlying t=some (.slice e)) (ht':P.underlying t'=some (.slice e')) (hi:P.info? e=some i) (hz:i.zero=some z) (hsize:i.size=sz) (hby:i.bytes=bytes) (hzs:z.cells.size=sz)
  (v:Value) (l:List α) (hs:a.eval s=v) (hG:Grow E sz T W base e v l) (m:List α) (S:Nat→Prop) (A:Option Addr) (n c:Nat) (hx:a.eval x=.slice A n c) (hX:rdRow sz E W S m [.slice A n c]) (hS:∀b,S b→T b∧b < W.heap.size∧v.ownBlock≠some b)
  (hn:l.length+m.length≤maxLen) (hb2:(l.length+m.length)*bytes≤140737488355328) (hbase:base≤W.heap.size)
  (h:∀v' w',Grow E sz T w' base e v' (l++m)→W.grownBy w' v.ownBlock→wpList P ops Q rest (a.put o.dst v') w') :
  wpList P ops Q (o::rest) a W:=by
 refine wpList_plain hgd fun K hK=>?_
 obtain ⟨v',w',hr,h2,h3,_⟩:=run_growN (P:=P) W t t' o.type g hsz T base e e' i z bytes ht ht' hi hz hsize hby hzs v l hG m S A n c hX hS hn hb2 hbase
 unfold Oper.wp execOp
 simp only [ho,resolve,invoke,builtin,Sem.run_bind,Sem.run_pure,Result.andThen_ok,List.map_toArray,List.map_cons,List.map_nil,hs,hx,hr]
 exact hK _ _ (h v' w' h2 h3)
end
theorem rd_block {α:Type} {E:Rd α} {sz:Nat} (g:Good E sz) {w:World} {S:Nat→Prop} {b:Nat} {blk:Array Value} {T:TypeId} {l:List α} {css:List (List Value)} (hb:w.heap[b]?=some (.cells blk T (0,0))) (hS:S b)
  (hl:css.length=l.length) (hf:blk.toList=css.flatten) (hE:∀k (hk:k < l.length),∃cs,css[k]?=some cs∧E w S l[k] cs) (hm:l.length≤1000):rdRow sz E w S l [.slice (some ⟨b,0,none⟩) l.length l.length]:=by
 have hls:∀cs ∈ css,cs.length=sz:=fun cs hc=>by
  obtain ⟨k,hk,rfl⟩:=List.getElem_of_mem hc
  obtain ⟨cs,h1,h2⟩:=hE k (by omega)
  rw [List.getElem?_eq_getElem hk] at h1
  injection h1 with h1
  rw [h1];exact g.len h2
 refine ⟨_,_,rfl,Nat.le_refl _,by unfold maxLen;omega,fun k hk=>?_⟩
 obtain ⟨cs,h1,h2⟩:=hE k hk
 refine ⟨_,cs,rfl,hS,h2,g.len h2,fun j u hu=>?_⟩
 have hadd:(⟨b,0,none⟩:Addr).add (k*sz+j)=⟨b,k*sz+j,none⟩:=by unfold Addr.add;split<;>simp_all
 rw [hadd,cell_of_row w b (k*sz+j) blk T (0,0) hb]
 have:=flatten_at sz hls h1 j u hu
 rw [←hf] at this
 simpa using this
theorem old_heap {w:World} {b:Nat} {o':Obj} (o:Obj) (h:w.heap[b]?=some o'):(w.alloc o).heap[b]?=some o':=(Below.heap_alloc w o b (Array.getElem?_eq_some_iff.1 h).1).trans h
theorem str_eq (a b:ByteArray):(a.toList==b.toList)=decide (a=b):=by
 have h:=strEq (B a) b (B_lt a)
 rw [mk_B] at h
 rw [h,decide_eq_decide]
 exact ⟨fun h=>B_inj h,fun h=>by rw [h]⟩
theorem same_take5 {α:Type} [DecidableEq α] {l m:List α} {k:Nat} (hl:l.length=m.length) (hk:k < l.length) (hm:k < m.length) (h:l.take k=m.take k) (he:l[k]=m[k]):l.take (k+1)=m.take (k+1):=by
 rw [List.take_succ_eq_append_getElem hk,List.take_succ_eq_append_getElem hm,h,he]
structure Atm where
 n:ByteArray
 o:Int
 v:ByteArray
deriving instance DecidableEq for Atm
def Atm.val (a:Atm):Value:=.agg #[.string a.n,.int .i64 a.o,.string a.v]
def Atm.cells (a:Atm):List Value:=[.string a.n,.int .i64 a.o,.string a.v]
def rdAtm:Rd Atm:=fun _ _ a cs=>cs=a.cells
theorem rdAtm_good:Good rdAtm 3:=⟨fun h _=>h,fun h _=>h,fun h _ _=>h,fun h=>by rw [h];rfl,fun h u hu=>by rw [h] at hu;simp [Atm.cells] at hu;rcases hu with rfl|rfl|rfl<;>rfl⟩
abbrev rdAtms:Rd (List Atm):=rdRow 3 rdAtm
abbrev rdGrps:Rd (List (List Atm)):=rdRow 1 rdAtms
theorem rdAtms_good:Good rdAtms 1:=rdRow_good rdAtm_good
theorem rdGrps_good:Good rdGrps 1:=rdRow_good rdAtms_good
theorem off_add (a:Addr) (k j:Nat) (hj:j≠0):(⟨(a.add k).block,(a.add k).off+j,none⟩:Addr)=a.add (k+j):=by
 unfold Addr.add;by_cases hk:k=0<;>simp [hk,hj,Nat.add_assoc]
theorem rdAtms_at {w:World} {S:Nat→Prop} {l:List Atm} {A:Option Addr} {n c:Nat} (h:rdAtms w S l [.slice A n c]):n=l.length∧n≤c∧c≤maxLen∧∀k (hk:k < l.length),∃ad,A=some ad∧S ad.block∧
  w.cell? (ad.add (k*3))=some (.string l[k].n)∧w.cell? ⟨(ad.add (k*3)).block,(ad.add (k*3)).off+1,none⟩=some (.int .i64 l[k].o)∧w.cell? ⟨(ad.add (k*3)).block,(ad.add (k*3)).off+2,none⟩=some (.string l[k].v):=by
 obtain ⟨A',c',e,h1,h2,h⟩:=h
 simp only [List.cons.injEq,Value.slice.injEq,and_true] at e
 obtain ⟨rfl,rfl,rfl⟩:=e
 refine ⟨rfl,h1,h2,fun k hk=>?_⟩
 obtain ⟨ad,es,e,hS,hE,hl,hc⟩:=h k hk
 rw [show es=l[k].cells from hE] at hc
 exact ⟨ad,e,hS,hc 0 _ rfl,by rw [off_add ad (k*3) 1 (by omega)];exact hc 1 _ rfl,by rw [off_add ad (k*3) 2 (by omega)];exact hc 2 _ rfl⟩
theorem rdGrps_at {w:World} {S:Nat→Prop} {l:List (List Atm)} {A:Option Addr} {n c:Nat} (h:rdGrps w S l [.slice A n c]):n=l.length∧n≤c∧c≤maxLen∧∀k (hk:k < l.length),∃ad A' c',A=some ad∧S ad.block∧
  w.cell? (ad.add k)=some (.slice A' l[k].length c')∧rdAtms w S l[k] [.slice A' l[k].length c']:=by
 obtain ⟨A',c',e,h1,h2,h⟩:=h
 simp only [List.cons.injEq,Value.slice.injEq,and_true] at e
 obtain ⟨rfl,rfl,rfl⟩:=e
 refine ⟨rfl,h1,h2,fun k hk=>?_⟩
 obtain ⟨ad,es,e,hS,hE,hl,hc⟩:=h k hk
 have hE':=hE
 obtain ⟨A2,c2,rfl,_⟩:=hE'
 refine ⟨ad,A2,c2,e,hS,?_,hE⟩
 have:=hc 0 _ rfl
 rwa [Nat.mul_one] at this
theorem all_takeL {α:Type} (p:α→Bool) (l:List α) (k:Nat) (hk:k < l.length):(l.take (k+1)).all p=((l.take k).all p&&p l[k]):=by
 rw [List.take_succ_eq_append_getElem hk,List.all_append];simp
theorem all_stopL {α:Type} {p:α→Bool} {l:List α} {k:Nat} (hk:k < l.length) (h:p l[k]=false):l.all p=false:=by
 rw [List.all_eq_false];exact ⟨l[k],List.getElem_mem hk,by rw [h];decide⟩
theorem Digit_any (c:Nat) (w:World):Calls Tryz.prog 94 #[.int .u8 (c:Int)] w fun e w'=>e=.returned (.bool (digB c))∧w=w':=by
 have X:=Lib.hid (show digB c=(decide ((48:Int)≤c)&&decide ((c:Int)≤57)) by unfold digB;rw [Bool.eq_iff_iff];simp;omega)
 by_cases h:(48:Int)≤c
 ·go_enter Tryz.func94,Tryz.ntmps94
  go_wp2
  go_ret
  refine ⟨?_,rfl⟩
  rw [X.out];simp [h]
 ·have h2:(c:Int) < 48:=by omega
  go_enter Tryz.func94,Tryz.ntmps94
  go_wp2
  go_ret
  refine ⟨?_,rfl⟩
  rw [X.out];simp;omega
theorem Letter_any (c:Nat) (w:World):Calls Tryz.prog 134 #[.int .u8 (c:Int)] w fun e w'=>e=.returned (.bool (letB c))∧w=w':=by
 have X:=Lib.hid (show letB c=((decide ((97:Int)≤c)&&decide ((c:Int)≤122))||(decide ((65:Int)≤c)&&decide ((c:Int)≤90))) by unfold letB;rw [Bool.eq_iff_iff];simp;omega)
 go_enter Tryz.func134,Tryz.ntmps134
 go_wp2
 all_goals
  go_ret
  refine ⟨congrArg (fun b=>Ending.returned (.bool b)) ?_,rfl⟩
  rw [X.out,Bool.eq_iff_iff]
  simp
  omega
theorem sign_any (n:Int) (w:World):Calls Tryz.prog 149 #[.int .i64 n] w fun e w'=>e=.returned (.int .i64 (sgn n))∧w=w':=by
 have X:=Lib.hid (show (n < 0→sgn n=-1)∧(0 < n→sgn n=1)∧(¬n < 0→¬0 < n→sgn n=0) by unfold sgn;refine ⟨fun h=>if_pos h,fun h=>by rw [if_neg (by omega),if_pos h],fun h h2=>by rw [if_neg h,if_neg h2]⟩)
 rcases Int.lt_trichotomy n 0 with h|h|h
 ·go_enter Tryz.func149,Tryz.ntmps149
  go_wp2
  go_ret
  exact ⟨by rw [X.out.1 h];rfl,rfl⟩
 ·have h1:n≤0:=by omega
  have h2:0≤n:=by omega
  clear h
  go_enter Tryz.func149,Tryz.ntmps149
  go_wp2
  go_ret
  exact ⟨by rw [X.out.2.2 (by omega) (by omega)];rfl,rfl⟩
 ·go_enter Tryz.func149,Tryz.ntmps149
  go_wp2
  go_ret
  exact ⟨by rw [X.out.2.1 h];rfl,rfl⟩
def hasB (l:List Nat) (c:Nat):Bool:=l.contains c
theorem hasB_take {l:List Nat} {c k:Nat} (h:∀j,j < k→l.getD j 256≠c) (hk:l.length≤k):hasB l c=false:=by
 unfold hasB
 rw [Bool.eq_false_iff]
 intro hc
 obtain ⟨j,hj,e⟩:=List.getElem_of_mem (List.contains_iff_mem.1 hc)
 exact h j (by omega) (by rw [List.getD_eq_getElem?_getD,List.getElem?_eq_getElem hj];exact e)
theorem has_any (s:ByteArray) (c:Nat) (w:World) (hs:s.size≤9223372036854775807):Calls Tryz.prog 133 #[.string s,.int .u8 (c:Int)] w fun e w'=>e=.returned (.bool (hasB (B s) c))∧w=w':=by
 go_enter Tryz.func133,Tryz.ntmps133
 go_wp2
 go_loop [5] (fun i=>∃k:Nat,k≤s.size∧i=.int .i64 k∧∀j,j < k→(B s).getD j 256≠c) (fun i=>s.size - (intOf i).toNat)
 case atStart=>exact ⟨0,Nat.zero_le _,rfl,fun j hj=>by omega⟩
 case round=>
  obtain ⟨k,hk,rfl,hno⟩:=hrel
  have HN:=Lib.hid hno
  clear hno
  by_cases hlt:k < s.size
  ·have hb:=B_at s k hlt
   have HB:=Lib.hid hb
   clear hb
   by_cases hc:s[k].toNat=c
   ·have h1:((s[k].toNat:Int)==(c:Int))=true:=by rw [beq_iff_eq];omega
    have HC:=Lib.hid hc
    clear hc
    go_wp2
    go_ret
    refine ⟨congrArg (fun b=>Ending.returned (.bool b)) ?_,rfl⟩
    unfold hasB
    rw [eq_comm,List.contains_iff_mem]
    exact List.mem_of_getElem? (HC.out ▸ HB.out)
   ·have h1:((s[k].toNat:Int)==(c:Int))=false:=by rw [beq_eq_false_iff_ne];omega
    have HC:=Lib.hid hc
    clear hc
    go_wp2
    go_round
    case rel=>exact ⟨k+1,by omega,by go_num,fun j hj=>by rcases (by omega:j < k∨j=k) with h|rfl;exact HN.out j h;rw [List.getD_eq_getElem?_getD,HB.out];exact HC.out⟩
    case measure=>simp [intOf];omega
  ·go_wp2
   go_ret
   exact ⟨by rw [hasB_take HN.out (by rw [B_len];omega)];rfl,rfl⟩
theorem weight_any (s:ByteArray) (k:Nat) (w:World):Calls Tryz.prog 150 #[.string s,.int .i64 (k:Int)] w fun e w'=>e=.returned (.int .i64 (wt ((B s).drop k)))∧w=w':=by
 by_cases hk:k < s.size
 ·have hl:=byte_le s k hk
  have hd:=Lib.hid (B_drop s k hk)
  have t0:decide (s.size≤k)=false:=by simp;omega
  cases h1:digB s[k].toNat
  ·have W:=Lib.hid (show wt ((B s).drop k)=if s[k].toNat=126 then -1 else if letB s[k].toNat then (s[k].toNat:Int) else 1000+s[k].toNat by rw [hd.out];simp [wt,h1])
   by_cases h2:s[k].toNat=126
   ·have t2:((s[k].toNat:Int)==126)=true:=by rw [beq_iff_eq];omega
    have H2:=Lib.hid h2
    clear h2
    go_enter Tryz.func150,Tryz.ntmps150
    go_wp2_with (go_at_call 94;refine (Digit_any _ _).mono ?_;rw [h1];rintro e w' ⟨rfl,rfl⟩)
    go_ret
    exact ⟨by rw [W.out,if_pos H2.out];rfl,rfl⟩
   ·have t2:((s[k].toNat:Int)==126)=false:=by rw [beq_eq_false_iff_ne];omega
    have H2:=Lib.hid h2
    clear h2
    cases h3:letB s[k].toNat
    ·go_enter Tryz.func150,Tryz.ntmps150
     go_wp2_with (first|(go_at_call 94;refine (Digit_any _ _).mono ?_;rw [h1];rintro e w' ⟨rfl,rfl⟩)|(go_at_call 134;refine (Letter_any _ _).mono ?_;rw [h3];rintro e w' ⟨rfl,rfl⟩))
     go_ret
     exact ⟨by rw [W.out,if_neg H2.out,h3];rfl,rfl⟩
    ·go_enter Tryz.func150,Tryz.ntmps150
     go_wp2_with (first|(go_at_call 94;refine (Digit_any _ _).mono ?_;rw [h1];rintro e w' ⟨rfl,rfl⟩)|(go_at_call 134;refine (Letter_any _ _).mono ?_;rw [h3];rintro e w' ⟨rfl,rfl⟩))
     go_ret
     exact ⟨by rw [W.out,if_neg H2.out,h3];rfl,rfl⟩
  ·have W:=Lib.hid (show wt ((B s).drop k)=0 by rw [hd.out];simp [wt,h1])
   go_enter Tryz.func150,Tryz.ntmps150
   go_wp2_with (go_at_call 94;refine (Digit_any _ _).mono ?_;rw [h1];rintro e w' ⟨rfl,rfl⟩)
   go_ret
   exact ⟨by rw [W.out];rfl,rfl⟩
 ·have W:=Lib.hid (show wt ((B s).drop k)=0 by rw [B_drop_end s k (by omega)];rfl)
  have t0:decide (s.size≤k)=true:=by simp;omega
  go_enter Tryz.func150,Tryz.ntmps150
  go_wp2
  go_ret
  exact ⟨by rw [W.out];rfl,rfl⟩
def digs (l:List Nat):List Nat:=(l.takeWhile digB).dropWhile (fun c=>c==48)
def numD (l:List Nat):Nat:=(l.takeWhile digB).length
def endD (l:List Nat) (i:Nat):Nat:=i+numD (l.drop i)
theorem takeWhile_is {p:Nat→Bool}:∀{l:List Nat} {n:Nat},n≤l.length→(∀j,j < n→p (l.getD j 0)=true)→(n=l.length∨p (l.getD n 0)=false)→l.takeWhile p=l.take n
 | [],n,hn,_,_=>by simp
 | c::l,0,_,_,h=>by
  have:p c=false:=by simpa using h
  simp [this]
 | c::l,n+1,hn,h1,h2=>by
  have hc:p c=true:=by simpa using h1 0 (by omega)
  rw [List.takeWhile_cons,if_pos hc,List.take_succ_cons]
  congr 1
  exact takeWhile_is (by simpa using hn) (fun j hj=>by simpa using h1 (j+1) (by omega)) (by simpa using h2)
theorem dropWhile_is {p:Nat→Bool}:∀{l:List Nat} {n:Nat},n≤l.length→(∀j,j < n→p (l.getD j 0)=true)→(n=l.length∨p (l.getD n 0)=false)→l.dropWhile p=l.drop n
 | [],n,hn,_,_=>by simp
 | c::l,0,_,_,h=>by
  have:p c=false:=by simpa using h
  simp [this]
 | c::l,n+1,hn,h1,h2=>by
  have hc:p c=true:=by simpa using h1 0 (by omega)
  rw [List.dropWhile_cons,if_pos hc,List.drop_succ_cons]
  exact dropWhile_is (by simpa using hn) (fun j hj=>by simpa using h1 (j+1) (by omega)) (by simpa using h2)
theorem getD_drop (l:List Nat) (i j:Nat):(l.drop i).getD j 0=l.getD (i+j) 0:=by
 rw [List.getD_eq_getElem?_getD,List.getD_eq_getElem?_getD,List.getElem?_drop]
theorem getD_take (l:List Nat) (n j:Nat) (h:j < n):(l.take n).getD j 0=l.getD j 0:=by
 rw [List.getD_eq_getElem?_getD,List.getD_eq_getElem?_getD,List.getElem?_take,if_pos h]
theorem digits_ends {s:ByteArray} {i k:Nat} (hi:i≤k) (hk:k≤s.size) (h:∀j,i≤j→j < k→digB ((B s).getD j 0)=true) (he:k=s.size∨digB ((B s).getD k 0)=false) :
  ((B s).drop i).takeWhile digB=((B s).drop i).take (k - i):=by
 refine takeWhile_is (by rw [List.length_drop,B_len];omega) (fun j hj=>by rw [getD_drop];exact h _ (by omega) (by omega)) ?_
 rcases he with he|he
 ·left;rw [List.length_drop,B_len];omega
 ·right;rw [getD_drop,show i+(k - i)=k by omega];exact he
theorem digits_of {s:ByteArray} {i k m:Nat} (hi:i≤m) (hm:m≤k) (hk:k≤s.size) (h1:((B s).drop i).takeWhile digB=((B s).drop i).take (k - i)) (h:∀j,i≤j→j < m→(B s).getD j 0=48) (he:m=k∨(B s).getD m 0≠48) :
  s.extract m k=mk (digs ((B s).drop i)):=by
 refine eq_mk ?_
 have hl:(((B s).drop i).take (k - i)).length=k - i:=by rw [List.length_take,List.length_drop,B_len];omega
 unfold digs
 rw [h1,B_extract,dropWhile_is (n:=m - i) (by omega) (fun j hj=>by rw [getD_take _ _ _ (by omega),getD_drop,h _ (by omega) (by omega)];rfl)]
 ·rw [List.drop_take,List.drop_drop,show i+(m - i)=m by omega,show k - i - (m - i)=k - m by omega]
 ·rcases he with he|he
  ·left;omega
  ·by_cases hmk:m=k
   ·left;omega
   ·right
    rw [getD_take _ _ _ (by omega),getD_drop,show i+(m - i)=m by omega]
    simpa using he
theorem numD_of {s:ByteArray} {i k:Nat} (hi:i≤k) (hk:k≤s.size) (h1:((B s).drop i).takeWhile digB=((B s).drop i).take (k - i)):endD (B s) i=k:=by
 unfold endD numD
 rw [h1,List.length_take,List.length_drop,B_len]
 omega
set_option maxHeartbeats 1000000 in
theorem digits_any (s:ByteArray) (i:Nat) (w:World) (hs:s.size≤9223372036854775807) (hi:i≤s.size) :
  Calls Tryz.prog 151 #[.string s,.int .i64 (i:Int)] w fun e w'=>e=.returned (.tuple #[.string (mk (digs ((B s).drop i))),.int .i64 (endD (B s) i:Int)])∧w=w':=by
 go_enter Tryz.func151,Tryz.ntmps151
 go_wp2
 go_loop [6] (fun x=>∃k:Nat,i≤k∧k≤s.size∧x=.int .i64 k∧∀j,i≤j→j < k→digB ((B s).getD j 0)=true) (fun x=>s.size - (intOf x).toNat)
 case atStart=>exact ⟨i,Nat.le_refl _,hi,rfl,fun j h1 h2=>by omega⟩
 case round=>
  obtain ⟨k,hik,hk,rfl,hall⟩:=hrel
  have HA:=Lib.hid hall
  clear hall
  by_cases hgo:k < s.size∧digB ((B s).getD k 0)=true
  ·obtain ⟨hlt,hd⟩:=hgo
   have hb:=B_getD s k hlt
   have HD:=Lib.hid hd
   rw [hb] at hd
   clear hb
   have HD2:=Lib.hid hd
   clear hd
   go_wp2_with (go_at_call 94;refine (Digit_any _ _).mono ?_;rw [HD2.out];rintro e w' ⟨rfl,rfl⟩)
   go_round
   case rel=>exact ⟨k+1,by omega,by omega,by go_num,fun j h1 h2=>by rcases (by omega:j < k∨j=k) with h|rfl;exact HA.out j h1 h;exact HD.out⟩
   case measure=>simp [intOf];omega
  ·have hend:k=s.size∨digB ((B s).getD k 0)=false:=by
    by_cases h:k < s.size
    ·right
     cases hd:digB ((B s).getD k 0)
     ·rfl
     ·exact absurd ⟨h,hd⟩ hgo
    ·left;omega
   have H1:=Lib.hid (digits_ends hik hk HA.out hend)
   have HEND:=Lib.hid hend
   clear hgo hend HA
   by_cases hlt:k < s.size
   ·have hd:=HEND.out.resolve_left (by omega)
    rw [B_getD s k hlt] at hd
    have HD:=Lib.hid hd
    clear hd
    go_wp2_with (go_at_call 94;refine (Digit_any _ _).mono ?_;rw [HD.out];rintro e w' ⟨rfl,rfl⟩)
    go_loop [7] (fun x=>∃m:Nat,i≤m∧m≤k∧x=.int .i64 m∧∀j,i≤j→j < m→(B s).getD j 0=48) (fun x=>k - (intOf x).toNat)
    case atStart=>exact ⟨i,Nat.le_refl _,hik,rfl,fun j h1 h2=>by omega⟩
    case round=>
     obtain ⟨m,him,hmk,rfl,hall⟩:=hrel
     have HA:=Lib.hid hall
     clear hall
     by_cases hmlt:m < k
     ·have hms:m < s.size:=by omega
      have hb:=B_getD s m hms
      by_cases hz:s[m].toNat=48
      ·have t1:((s[m].toNat:Int)==48)=true:=by rw [beq_iff_eq];omega
       have HZ:=Lib.hid (hb.trans hz)
       clear hb hz
       go_wp2
       go_round
       case rel=>exact ⟨m+1,by omega,by omega,by go_num,fun j h1 h2=>by rcases (by omega:j < m∨j=m) with h|rfl;exact HA.out j h1 h;exact HZ.out⟩
       case measure=>simp [intOf];omega
      ·have t1:((s[m].toNat:Int)==48)=false:=by rw [beq_eq_false_iff_ne];omega
       have HZ:=Lib.hid (show (B s).getD m 0≠48 by rw [hb];exact hz)
       have HF:=Lib.hid (digits_of him hmk hk H1.out HA.out (.inr HZ.out))
       clear hb hz
       go_wp2
       go_ret2
       exact ⟨by rw [←HF.out,numD_of hik hk H1.out];rfl,rfl⟩
     ·have hmk2:m=k:=by omega
      have HF:=Lib.hid (digits_of him hmk hk H1.out HA.out (.inl hmk2))
      clear hmk2
      go_wp2
      go_ret2
      exact ⟨by rw [←HF.out,numD_of hik hk H1.out];rfl,rfl⟩
   ·go_wp2_with fail
    go_loop [7] (fun x=>∃m:Nat,i≤m∧m≤k∧x=.int .i64 m∧∀j,i≤j→j < m→(B s).getD j 0=48) (fun x=>k - (intOf x).toNat)
    case atStart=>exact ⟨i,Nat.le_refl _,hik,rfl,fun j h1 h2=>by omega⟩
    case round=>
     obtain ⟨m,him,hmk,rfl,hall⟩:=hrel
     have HA:=Lib.hid hall
     clear hall
     by_cases hmlt:m < k
     ·have hms:m < s.size:=by omega
      have hb:=B_getD s m hms
      by_cases hz:s[m].toNat=48
      ·have t1:((s[m].toNat:Int)==48)=true:=by rw [beq_iff_eq];omega
       have HZ:=Lib.hid (hb.trans hz)
       clear hb hz
       go_wp2
       go_round
       case rel=>exact ⟨m+1,by omega,by omega,by go_num,fun j h1 h2=>by rcases (by omega:j < m∨j=m) with h|rfl;exact HA.out j h1 h;exact HZ.out⟩
       case measure=>simp [intOf];omega
      ·have t1:((s[m].toNat:Int)==48)=false:=by rw [beq_eq_false_iff_ne];omega
       have HZ:=Lib.hid (show (B s).getD m 0≠48 by rw [hb];exact hz)
       have HF:=Lib.hid (digits_of him hmk hk H1.out HA.out (.inr HZ.out))
       clear hb hz
       go_wp2
       go_ret2
       exact ⟨by rw [←HF.out,numD_of hik hk H1.out];rfl,rfl⟩
     ·have hmk2:m=k:=by omega
      have HF:=Lib.hid (digits_of him hmk hk H1.out HA.out (.inl hmk2))
      clear hmk2
      go_wp2
      go_ret2
      exact ⟨by rw [←HF.out,numD_of hik hk H1.out];rfl,rfl⟩
def lexL:List Nat→List Nat→Int
 | x::a,y::b=>if x < y then -1 else if y < x then 1 else lexL a b
 | [],[]=>0
 | [],_=>-1
 | _,[]=>1
def numC (a b:List Nat):Int:=if a.length≠b.length then sgn ((a.length:Int) - b.length) else lexL a b
theorem bytesLess_lex:∀(x y:List UInt8),x.length=y.length→(Op.bytesLess x y=true↔lexL (x.map UInt8.toNat) (y.map UInt8.toNat)=-1)∧(x=y↔lexL (x.map UInt8.toNat) (y.map UInt8.toNat)=0)∧(lexL (x.map UInt8.toNat) (y.map UInt8.toNat)=-1∨lexL (x.map UInt8.toNat) (y.map UInt8.toNat)=0∨lexL (x.map UInt8.toNat) (y.map UInt8.toNat)=1)
 | [],[],_=>by simp [Op.bytesLess,lexL]
 | [],_::_,h=>by simp at h
 | _::_,[],h=>by simp at h
 | a::x,b::y,h=>by
  obtain ⟨i1,i2,i3⟩:=bytesLess_lex x y (by simpa using h)
  simp only [Op.bytesLess,List.map_cons,lexL,Bool.or_eq_true,Bool.and_eq_true,decide_eq_true_eq,beq_iff_eq,List.cons.injEq]
  rcases Nat.lt_trichotomy a.toNat b.toNat with hl|he|hg
  ·have h1:a < b:=UInt8.lt_iff_toNat_lt.2 hl
   have h2:a≠b:=by rintro rfl;omega
   rw [if_pos hl]
   exact ⟨⟨fun _=>rfl,fun _=>.inl h1⟩,⟨fun hh=>absurd hh.1 h2,fun hh=>by omega⟩,.inl rfl⟩
  ·have h1:a=b:=UInt8.toNat_inj.1 he
   subst h1
   rw [if_neg (by omega),if_neg (by omega)]
   refine ⟨⟨fun hh=>?_,fun hh=>.inr ⟨rfl,i1.2 hh⟩⟩,⟨fun hh=>i2.1 hh.2,fun hh=>⟨rfl,i2.2 hh⟩⟩,i3⟩
   rcases hh with hh|hh
   ·exact absurd (UInt8.lt_iff_toNat_lt.1 hh) (by omega)
   ·exact i1.1 hh.2
  ·have h1:¬a < b:=fun hh=>by have:=UInt8.lt_iff_toNat_lt.1 hh;omega
   have h2:a≠b:=by rintro rfl;omega
   rw [if_neg (by omega),if_pos hg]
   refine ⟨⟨fun hh=>?_,fun hh=>by omega⟩,⟨fun hh=>absurd hh.1 h2,fun hh=>by omega⟩,.inr (.inr rfl)⟩
   rcases hh with hh|hh
   ·exact absurd hh h1
   ·exact absurd hh.1 h2
theorem numbers_any (s t:ByteArray) (w:World) (hs:s.size≤9223372036854775807) (ht:t.size≤9223372036854775807) :
  Calls Tryz.prog 152 #[.string s,.string t] w fun e w'=>e=.returned (.int .i64 (numC (B s) (B t)))∧w=w':=by
 by_cases hl:s.size=t.size
 ·have t1:((s.size:Int) != (t.size:Int))=false:=by rw [bne_eq_false_iff_eq];omega
  have N:=Lib.hid (show (Op.bytesLess s.toList t.toList=true→numC (B s) (B t)=-1)∧(Op.bytesLess s.toList t.toList=false→¬s.toList=t.toList→numC (B s) (B t)=1)∧(s.toList=t.toList→numC (B s) (B t)=0) by
   have hll:s.toList.length=t.toList.length:=by rw [toList_data,toList_data,Array.length_toList,Array.length_toList];exact hl
   obtain ⟨i1,i2,i3⟩:=bytesLess_lex s.toList t.toList hll
   have en:numC (B s) (B t)=lexL (s.toList.map UInt8.toNat) (t.toList.map UInt8.toNat):=by
    unfold numC;rw [if_neg (by rw [B_len,B_len];omega),toList_data,toList_data];rfl
   rw [en]
   refine ⟨i1.1,fun h1 h2=>?_,i2.1⟩
   rcases i3 with h|h|h
   ·have:=i1.2 h;rw [h1] at this;cases this
   ·exact absurd (i2.2 h) h2
   ·exact h)
  clear hl
  go_enter Tryz.func152,Tryz.ntmps152
  go_wp2
  ·have h1:Op.bytesLess s.toList t.toList=true:=by assumption
   go_ret
   exact ⟨by rw [N.out.1 h1];rfl,rfl⟩
  ·have h1:Op.bytesLess s.toList t.toList=false:=by assumption
   have h2:(!s.toList==t.toList)=true:=by assumption
   go_ret
   exact ⟨by rw [N.out.2.1 h1 (by simpa using h2)];rfl,rfl⟩
  ·have h2:(!s.toList==t.toList)=false:=by assumption
   go_ret
   exact ⟨by rw [N.out.2.2 (by simpa using h2)];rfl,rfl⟩
 ·have t1:((s.size:Int) != (t.size:Int))=true:=by rw [bne_iff_ne];omega
  have HN:=Lib.hid (show numC (B s) (B t)=sgn ((s.size:Int) - t.size) by unfold numC;rw [B_len,B_len,if_pos hl])
  clear hl
  go_enter Tryz.func152,Tryz.ntmps152
  go_wp2_with (go_at_call 149;refine (sign_any _ _).mono ?_;rintro e w' ⟨rfl,rfl⟩)
  go_ret
  exact ⟨by rw [HN.out];rfl,rfl⟩
def decF:Nat→Nat→List Nat→List Nat
 | 0,_,l=>l
 | f+1,n,l=>if n < 10 then (48+n)::l else decF f (n / 10) ((48+n % 10)::l)
def decL (n:Nat):List Nat:=decF (n+1) n []
theorem decF_fuel:∀(f g n:Nat) (l:List Nat),n < f→n < g→decF f n l=decF g n l
 | 0,_,_,_,h,_=>by omega
 | _+1,0,_,_,_,h=>by omega
 | f+1,g+1,n,l,h1,h2=>by
  simp only [decF]
  by_cases h:n < 10
  ·rw [if_pos h,if_pos h]
  ·rw [if_neg h,if_neg h]
   exact decF_fuel f g _ _ (by omega) (by omega)
theorem decF_lt:∀(f n:Nat) (l:List Nat),(∀c ∈ l,c < 256)→∀c ∈ decF f n l,c < 256
 | 0,_,_,h=>h
 | f+1,n,l,h=>by
  simp only [decF]
  split
  ·intro c hc
   rcases List.mem_cons.1 hc with rfl|hc
   ·omega
   ·exact h c hc
  ·refine decF_lt f _ _ (fun c hc=>?_)
   rcases List.mem_cons.1 hc with rfl|hc
   ·omega
   ·exact h c hc
theorem decL_lt (n:Nat):∀c ∈ decL n,c < 256:=decF_lt _ _ _ (by simp)
def tenS:ByteArray:={ data:=#[48,49,50,51,52,53,54,55,56,57] }
theorem digit_at:∀d,d < 10→((B tenS).drop d).take (d+1 - d)=[48+d]:=by decide
theorem B_digit (s:ByteArray) (d:Nat) (h:d < 10):B (tenS.extract d (d+1)++s)=(48+d)::B s:=by
 rw [B_append,B_extract,digit_at d h];rfl
theorem digit_size (s:ByteArray) (d:Nat) (h:d < 10):(tenS.extract d (d+1)++s).size=s.size+1:=by
 rw [←B_len,B_digit s d h,List.length_cons,B_len]
def DecRel (n m:Nat) (s:ByteArray):Prop:=(s.size=0∧m=n)∨(s.size≠0∧decL n=if m=0 then B s else decF (m+1) m (B s))
theorem decRel_step {n m:Nat} {s:ByteArray} (h:DecRel n m s) (hg:0 < m∨s.size=0):DecRel n (m / 10) (tenS.extract (m % 10) (m % 10+1)++s):=by
 have hd:m % 10 < 10:=Nat.mod_lt _ (by omega)
 right
 rw [digit_size s _ hd,B_digit s _ hd]
 refine ⟨by omega,?_⟩
 have e:decL n=decF (m+1) m (B s):=by
  rcases h with ⟨h1,rfl⟩|⟨h1,h2⟩
  ·have:B s=[]:=List.eq_nil_of_length_eq_zero (by rw [B_len];exact h1)
   rw [this];rfl
  ·rw [h2,if_neg (by omega)]
 rw [e]
 simp only [decF]
 by_cases h10:m < 10
 ·rw [if_pos h10,if_pos (by omega),Nat.mod_eq_of_lt h10]
 ·rw [if_neg h10,if_neg (by omega)]
  have:=decF_fuel m (m / 10+1) (m / 10) ((48+m % 10)::B s) (by omega) (by omega)
  rw [this]
  rfl
def decM (x y:Value):Nat:=(intOf x).toNat+(match y with|.string s=>1 - s.size|_=>0)
theorem decM_step {m:Nat} {s:ByteArray} (h:0 < m∨s.size=0):decM (.int .i64 ((m:Int) / 10)) (.string (tenS.extract (m % 10) (m % 10+1)++s)) < decM (.int .i64 m) (.string s):=by
 have e:=digit_size s (m % 10) (Nat.mod_lt _ (by omega))
 unfold decM intOf
 simp only [e]
 omega
theorem decimal_any (n:Nat) (w:World) (hn:n≤9223372036854775807) :
  Calls Tryz.prog 132 #[.int .i64 (n:Int)] w fun e w'=>e=.returned (.string (mk (decL n)))∧w=w':=by
 go_enter Tryz.func132,Tryz.ntmps132
 go_wp2
 go_loop [0,3] (fun x y=>∃(m:Nat) (s:ByteArray),(s.size+m≤n∨(m=0∧s.size≤1))∧x=.int .i64 m∧y=.string s∧DecRel n m s) (fun x y=>decM x y)
 case atStart=>exact ⟨n,_,.inl (by show 0+n≤n;omega),rfl,rfl,.inl ⟨rfl,rfl⟩⟩
 case round=>
  obtain ⟨m,s,hm,rfl,rfl,hd⟩:=hrel
  have HD:=Lib.hid hd
  have HM:=Lib.hid hm
  clear hd
  by_cases h:0 < m
  ·have hmn:m≤n:=by omega
   have hsz:min (m % 10+1) 10 - m % 10+s.size≤9223372036854775807:=by omega
   clear hm
   go_wp2
   go_round
   case rel=>exact ⟨m / 10,_,by have:=HM.out;have e:=digit_size s (m % 10) (Nat.mod_lt _ (by omega));show (tenS.extract (m % 10) (m % 10+1)++s).size+m / 10≤n∨_;rw [e];omega,by go_num,rfl,decRel_step HD.out (.inl h)⟩
   case measure=>exact decM_step (.inl h)
  ·have hm0:m≤0:=by omega
   by_cases hs:s.size=0
   ·have t1:s.toList.isEmpty=true:=by rw [toList_data,List.isEmpty_iff];exact List.eq_nil_of_length_eq_zero (by rw [Array.length_toList];exact hs)
    have hsz:min (m % 10+1) 10 - m % 10+s.size≤9223372036854775807:=by omega
    have HS:=Lib.hid hs
    clear hs hm
    go_wp2
    go_round
    case rel=>exact ⟨m / 10,_,by have:=HS.out;have e:=digit_size s (m % 10) (Nat.mod_lt _ (by omega));show (tenS.extract (m % 10) (m % 10+1)++s).size+m / 10≤n∨(m / 10=0∧(tenS.extract (m % 10) (m % 10+1)++s).size≤1);rw [e];omega,by go_num,rfl,decRel_step HD.out (.inr HS.out)⟩
    case measure=>exact decM_step (.inr HS.out)
   ·have t1:s.toList.isEmpty=false:=by
     rw [toList_data,List.isEmpty_eq_false_iff]
     intro he
     apply hs
     have:=congrArg List.length he
     rw [Array.length_toList] at this
     exact this
    have HF:=Lib.hid (show s=mk (decL n) by
     refine eq_mk ?_
     rcases HD.out with ⟨h1,_⟩|⟨_,h2⟩
     ·exact absurd h1 hs
     ·rw [h2,if_pos (by omega)])
    clear hs hm
    go_wp2
    go_ret
    exact ⟨by rw [←HF.out];rfl,rfl⟩
end Go.Proofs.YtoopkofekekmoaaGreatDoor
