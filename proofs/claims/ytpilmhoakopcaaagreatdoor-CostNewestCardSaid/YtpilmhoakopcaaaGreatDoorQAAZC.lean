/- What the laws rest on: Str, CutP, Deep, StrRow, Deep2, S5a, D4a, Ref2a, Ref2b, RefDec, RefText, D4b, E6a, E6b, E7a, CmpT. -/
import Derived.WalkKit
import Derived.Lib.Hide
import Derived.Test.YtpilmhoakopcaaaGreatDoorProg
import Derived.Maps.AppendAt
import Derived.OwnWalk
import Derived.Below
import Derived.OneCell
import Derived.BigQuiet
import Derived.RangeFuncOwn
import Derived.OwnWalkIn
import Derived.Lib.Join
import Derived.Laws.IdiomStrings
import Derived.StillTailTactics
import Derived.Deep.QuietTactic
import Derived.Test.YtpilmhoakopcaaaGreatDoorChecked
import Derived.WalkLawsBesides
import Derived.WalkSpells
set_option maxRecDepth 100000
set_option linter.unusedVariables false
set_option linter.unusedSimpArgs false
namespace Go.Proofs.YtpilmhoakopcaaaGreatDoor
open Go.RowKit
def B (s:ByteArray):List Nat:=s.data.toList.map UInt8.toNat
def mk (l:List Nat):ByteArray:=⟨(l.map UInt8.ofNat).toArray⟩
theorem B_len (s:ByteArray):(B s).length=s.size:=by unfold B;rw [List.length_map,Array.length_toList];rfl
theorem B_lt (s:ByteArray):∀c ∈ B s,c < 256:=by
 intro c hc
 obtain ⟨u,_,rfl⟩:=List.mem_map.1 hc
 exact u.toNat_lt
theorem mk_B (s:ByteArray):mk (B s)=s:=by
 obtain ⟨⟨l⟩⟩:=s
 simp only [mk,B,List.map_map]
 congr 2
 rw [List.map_congr_left (g:=id) (by intro u _;simp),List.map_id]
theorem B_mk {l:List Nat} (h:∀c ∈ l,c < 256):B (mk l)=l:=by
 simp only [mk,B,List.map_map]
 rw [List.map_congr_left (g:=id) (by intro c hc;have:=h c hc;simp;omega),List.map_id]
theorem B_inj {s t:ByteArray} (h:B s=B t):s=t:=by rw [←mk_B s,h,mk_B]
theorem eq_mk {s:ByteArray} {l:List Nat} (h:B s=l):s=mk l:=by rw [←h,mk_B]
theorem B_at (s:ByteArray) (k:Nat) (hk:k < s.size):(B s)[k]?=some s[k].toNat:=by
 unfold B
 rw [List.getElem?_map,List.getElem?_eq_getElem (by rw [Array.length_toList];exact hk)]
 rfl
theorem B_getD (s:ByteArray) (k:Nat) (hk:k < s.size):(B s).getD k 0=s[k].toNat:=by
 rw [List.getD_eq_getElem?_getD,B_at s k hk];rfl
theorem B_drop (s:ByteArray) (k:Nat) (hk:k < s.size):(B s).drop k=s[k].toNat::(B s).drop (k+1):=by
 have h:=B_at s k hk
 have hl:k < (B s).length:=by rw [B_len];exact hk
 rw [List.drop_eq_getElem_cons hl]
 rw [List.getElem?_eq_getElem hl] at h
 injection h with h
 rw [h]
theorem B_drop_end (s:ByteArray) (k:Nat) (hk:s.size≤k):(B s).drop k=[]:=List.drop_eq_nil_of_le (by rw [B_len];exact hk)
theorem B_extract (s:ByteArray) (i j:Nat):B (s.extract i j)=((B s).drop i).take (j - i):=by
 unfold B
 rw [ByteArray.data_extract,Array.toList_extract]
 simp [List.extract,List.map_take,List.map_drop]
theorem B_append (s t:ByteArray):B (s++t)=B s++B t:=by
 unfold B
 rw [ByteArray.data_append,Array.toList_append,List.map_append]
theorem byte_le (s:ByteArray) (k:Nat) (hk:k < s.size):s[k].toNat < 256:=s[k].toNat_lt
def digB (c:Nat):Bool:=decide (48≤c∧c≤57)
def letB (c:Nat):Bool:=decide (97≤c∧c≤122∨65≤c∧c≤90)
def sgn (n:Int):Int:=if n < 0 then -1 else if 0 < n then 1 else 0
def wt:List Nat→Int
 | []=>0
 | c::_=>if digB c then 0 else if c=126 then -1 else if letB c then c else 1000+c
theorem toList_data (s:ByteArray):s.toList=s.data.toList:=ByteArray.toList_eq s
theorem strEq (a:List Nat) (s:ByteArray) (h:∀c ∈ a,c < 256):((mk a).toList==s.toList)=decide (a=B s):=by
 rw [Bool.eq_iff_iff,beq_iff_eq,decide_eq_true_eq]
 constructor
 ·intro he
  rw [toList_data,toList_data] at he
  rw [←B_mk h]
  unfold B
  rw [he]
 ·rintro rfl
  rw [mk_B]
theorem take_mk (s:ByteArray) (i:Nat):(⟨(s.data.toList.take i).toArray⟩:ByteArray)=mk ((B s).take i):=by
 apply eq_mk;unfold B;rw [←List.map_take]
theorem drop_mk (s:ByteArray) (i:Nat):(⟨(s.data.toList.drop i).toArray⟩:ByteArray)=mk ((B s).drop i):=by
 apply eq_mk;unfold B;rw [←List.map_drop]
theorem blk_add (a:Addr) (k:Nat):(a.add k).block=a.block:=by unfold Addr.add;split<;>rfl
theorem belD {N:Nat} {a w:World} (h:Below N a w) (n:Nat):Below N a (w.drewN n):=⟨h.os,h.tape,h.output,h.size,h.block⟩
theorem bel2 {a b c:World} {N:Nat} (h:Below N a b) (k:Below b.heap.size b c):N≤a.heap.size→Below N a c:=fun hn=>h.trans (k.mono (Nat.le_trans hn h.size))
def Dr (w w':World):Prop:=∃q,w'=w.drewN q
theorem Dr.refl (w:World):Dr w w:=⟨0,rfl⟩
theorem Dr.more {w w':World} (h:Dr w w') (n:Nat):Dr w (w'.drewN n):=by obtain ⟨q,rfl⟩:=h;exact ⟨q+n,by rw [World.drewN_drewN]⟩
theorem Dr.below {w w':World} (h:Dr w w') (N:Nat):Below N w w':=by obtain ⟨q,rfl⟩:=h;exact belD (Below.refl _ _) q
theorem Dr.size {w w':World} (h:Dr w w'):w'.heap.size=w.heap.size:=by obtain ⟨q,rfl⟩:=h;rfl
abbrev Rd (α:Type):=World→(Nat→Prop)→α→List Value→Prop
structure Good {α:Type} (E:Rd α) (sz:Nat):Prop where
 keep:∀{w w':World} {S:Nat→Prop} {a:α} {cs:List Value},E w S a cs→(∀b,S b→w'.heap[b]?=w.heap[b]?)→E w' S a cs
 more:∀{w:World} {S S':Nat→Prop} {a:α} {cs:List Value},E w S a cs→(∀b,S b→S' b)→E w S' a cs
 turn:∀{w w':World} {S:Nat→Prop} {a:α} {cs:List Value} {row:Option Nat},E w S a cs→w.grownBy w' row→(∀r,row=some r→∃o:Obj,w.heap[r]?=some o∧o.isCells=false)→E w' S a cs
 len:∀{w:World} {S:Nat→Prop} {a:α} {cs:List Value},E w S a cs→cs.length=sz
 one:∀{w:World} {S:Nat→Prop} {a:α} {cs:List Value},E w S a cs→∀u ∈ cs,u.oneCell'=true
section
variable {α:Type} {E:Rd α} {sz:Nat}
theorem Good.both (g:Good E sz) {w w':World} {S S':Nat→Prop} {a:α} {cs:List Value} (h:E w S a cs) (hk:∀b,S b→w'.heap[b]?=w.heap[b]?) (hm:∀b,S b→S' b):E w' S' a cs:=g.more (g.keep h hk) hm
def rdRow (sz:Nat) (E:Rd α):Rd (List α):=fun w S l cs=>
 ∃A c,cs=[.slice A l.length c]∧l.length≤c∧c≤maxLen∧
  ∀k (hk:k < l.length),∃ad es,A=some ad∧S ad.block∧E w S l[k] es∧es.length=sz∧∀j u,es[j]?=some u→w.cell? (ad.add (k*sz+j))=some u
theorem rdRow_good (g:Good E sz):Good (rdRow sz E) 1 where
 keep:=by
  rintro w w' S l cs ⟨A,c,rfl,h1,h2,h⟩ hk
  refine ⟨A,c,rfl,h1,h2,fun k hk'=>?_⟩
  obtain ⟨ad,es,e,hS,hE,hl,hc⟩:=h k hk'
  refine ⟨ad,es,e,hS,g.keep hE hk,hl,fun j u hu=>?_⟩
  rw [←hc j u hu]
  exact World.cell?_of_block (by rw [blk_add];exact hk _ hS)
 more:=by
  rintro w S S' l cs ⟨A,c,rfl,h1,h2,h⟩ hm
  refine ⟨A,c,rfl,h1,h2,fun k hk'=>?_⟩
  obtain ⟨ad,es,e,hS,hE,hl,hc⟩:=h k hk'
  exact ⟨ad,es,e,hm _ hS,g.more hE hm,hl,hc⟩
 turn:=by
  rintro w w' S l cs row ⟨A,c,rfl,h1,h2,h⟩ hg hr
  refine ⟨A,c,rfl,h1,h2,fun k hk'=>?_⟩
  obtain ⟨ad,es,e,hS,hE,hl,hc⟩:=h k hk'
  exact ⟨ad,es,e,hS,g.turn hE hg hr,hl,fun j u hu=>cell_kept (hc j u hu) hg hr⟩
 len:=by rintro w S l cs ⟨A,c,rfl,_⟩;rfl
 one:=by rintro w S l cs ⟨A,c,rfl,_⟩ u hu;rw [List.mem_singleton.1 hu];rfl
theorem rdRow_nil (w:World) (S:Nat→Prop):rdRow sz E w S [] [.slice none 0 0]:=⟨none,0,rfl,Nat.le_refl _,Nat.zero_le _,fun k hk=>absurd hk (by simp)⟩
def lt_ (N:Nat):Nat→Prop:=fun b=>b < N
theorem Good.below (g:Good E sz) {N:Nat} {w w':World} {a:α} {cs:List Value} (h:E w (lt_ N) a cs) (hb:Below N w w'):E w' (lt_ N) a cs:=g.keep h fun b hb'=>hb.block b hb'
theorem Good.up (g:Good E sz) {N N':Nat} {w:World} {a:α} {cs:List Value} (h:E w (lt_ N) a cs) (hn:N≤N'):E w (lt_ N') a cs:=g.more h fun _ hb=>Nat.lt_of_lt_of_le hb hn
def Grow (E:Rd α) (sz:Nat) (T:Nat→Prop) (w:World) (base:Nat) (e:TypeId) (v:Value) (l:List α):Prop:=
 ∃css:List (List Value),css.length=l.length∧w.ownsRow base e sz v l.length css.flatten∧
  ∀k (hk:k < l.length),∃cs,css[k]?=some cs∧E w (fun b=>T b∧b < w.heap.size∧v.ownBlock≠some b) l[k] cs
theorem Grow.nil (T:Nat→Prop) (w:World) (base:Nat) (e:TypeId):Grow E sz T w base e (.slice none 0 0) []:=
 ⟨[],rfl,World.ownsRow_nil w base e sz,fun k hk=>absurd hk (by simp)⟩
theorem flatten_len (sz:Nat):∀{css:List (List Value)},(∀cs ∈ css,cs.length=sz)→css.flatten.length=css.length*sz
 | [],_=>by simp
 | c::css,h=>by
  have:=flatten_len sz (css:=css) (fun cs hc=>h cs (by simp [hc]))
  rw [List.flatten_cons,List.length_append,this,h c (by simp),List.length_cons,Nat.add_mul];omega
theorem flatten_at (sz:Nat):∀{css:List (List Value)},(∀cs ∈ css,cs.length=sz)→∀{k:Nat} {cs:List Value},css[k]?=some cs→∀j u,cs[j]?=some u→css.flatten[k*sz+j]?=some u
 | [],_,k,cs,hk,_,_,_=>by simp at hk
 | c::css,h,0,cs,hk,j,u,hu=>by
  simp only [List.getElem?_cons_zero,Option.some.injEq] at hk
  subst hk
  rw [List.flatten_cons,Nat.zero_mul,Nat.zero_add,List.getElem?_append_left (List.getElem?_eq_some_iff.1 hu).1];exact hu
 | c::css,h,k+1,cs,hk,j,u,hu=>by
  rw [List.getElem?_cons_succ] at hk
  have:=flatten_at sz (fun cs hc=>h cs (by simp [hc])) hk j u hu
  have hc:=h c (by simp)
  rw [List.flatten_cons,List.getElem?_append_right (by rw [hc,Nat.add_mul];omega),hc,←this]
  congr 1
  rw [Nat.add_mul];omega
theorem Grow.lens (g:Good E sz) {T:Nat→Prop} {w:World} {v:Value} {l:List α} {css:List (List Value)} (hl:css.length=l.length)
  (h:∀k (hk:k < l.length),∃cs,css[k]?=some cs∧E w (fun b=>T b∧b < w.heap.size∧v.ownBlock≠some b) l[k] cs):∀cs ∈ css,cs.length=sz:=by
 intro cs hc
 obtain ⟨k,hk,rfl⟩:=List.getElem_of_mem hc
 obtain ⟨cs,h1,h2⟩:=h k (by omega)
 rw [List.getElem?_eq_getElem hk] at h1
 injection h1 with h1
 rw [h1];exact g.len h2
theorem Grow.reads (g:Good E sz) {T:Nat→Prop} {w:World} {base:Nat} {e:TypeId} {v:Value} {l:List α} (h:Grow E sz T w base e v l):rdRow sz E w (fun b=>b < w.heap.size∧(base≤b∨T b)) l [v]:=by
 obtain ⟨css,hl,ho,hE⟩:=h
 have hls:=Grow.lens g hl hE
 rcases ho.2 with ⟨rfl,h0⟩|⟨gb,cap,cur,rfl,hb,hg,hn,hm,hs,ht⟩
 ·obtain rfl:l=[]:=List.eq_nil_of_length_eq_zero h0
  exact rdRow_nil w _
 ·have hlt:gb < w.heap.size:=(Array.getElem?_eq_some_iff.1 hg).1
  refine ⟨_,cap,rfl,hn,hm,fun k hk=>?_⟩
  obtain ⟨cs,h1,h2⟩:=hE k hk
  refine ⟨_,cs,rfl,⟨hlt,.inl hb⟩,g.more h2 (fun b hb=>⟨hb.2.1,.inr hb.1⟩),g.len h2,fun j u hu=>?_⟩
  exact ho.cells (g:=gb) rfl _ _ (flatten_at sz hls h1 j u hu)
theorem Grow.read (g:Good E sz) {T:Nat→Prop} {w:World} {base:Nat} {e:TypeId} {v:Value} {l:List α} (h:Grow E sz T w base e v l):rdRow sz E w (lt_ w.heap.size) l [v]:=(rdRow_good g).more (h.reads g) fun _ hb=>hb.1
theorem Grow.own {T:Nat→Prop} {w:World} {base:Nat} {e:TypeId} {v:Value} {l:List α} (h:Grow E sz T w base e v l):∃A c,v=.slice A l.length c∧l.length≤c∧c≤maxLen:=by
 obtain ⟨css,hl,ho,hE⟩:=h
 rcases ho.2 with ⟨rfl,h0⟩|⟨gb,cap,cur,rfl,hb,hg,hn,hm,hs,ht⟩
 ·exact ⟨none,0,by rw [h0],by omega,Nat.zero_le _⟩
 ·exact ⟨_,cap,rfl,hn,hm⟩
theorem Grow.lt {T:Nat→Prop} {w:World} {base:Nat} {e:TypeId} {v:Value} {l:List α} (h:Grow E sz T w base e v l):∀b,v.ownBlock=some b→base≤b∧b < w.heap.size:=by
 obtain ⟨css,hl,ho,hE⟩:=h
 exact ho.lt
theorem Grow.kept (g:Good E sz) {T:Nat→Prop} {w w':World} {base:Nat} {e:TypeId} {v:Value} {l:List α} (h:Grow E sz T w base e v l) (hs:w.heap.size≤w'.heap.size)
  (hk:∀b,b < w.heap.size→(base≤b∨T b)→w'.heap[b]?=w.heap[b]?):Grow E sz T w' base e v l:=by
 have hlt:=h.lt
 obtain ⟨css,hl,ho,hE⟩:=h
 refine ⟨css,hl,⟨ho.1,?_⟩,fun k hk'=>?_⟩
 ·rcases ho.2 with hn|⟨gb,cap,cur,rfl,hb,hg,rest⟩
  ·exact .inl hn
  ·exact .inr ⟨gb,cap,cur,rfl,hb,by rw [hk gb (Array.getElem?_eq_some_iff.1 hg).1 (.inl hb)];exact hg,rest⟩
 ·obtain ⟨cs,h1,h2⟩:=hE k hk'
  exact ⟨cs,h1,g.both h2 (fun b hb=>hk b hb.2.1 (.inr hb.1)) (fun b hb=>⟨hb.1,Nat.lt_of_lt_of_le hb.2.1 hs,hb.2.2⟩)⟩
theorem Grow.below (g:Good E sz) {T:Nat→Prop} {w w':World} {base:Nat} {e:TypeId} {v:Value} {l:List α} (h:Grow E sz T w base e v l) (hb:Below w.heap.size w w'):Grow E sz T w' base e v l:=
 h.kept g hb.size fun b hb' _=>hb.block b hb'
theorem Grow.turn (g:Good E sz) {T:Nat→Prop} {w w':World} {base:Nat} {e:TypeId} {v:Value} {l:List α} {row:Option Nat} (h:Grow E sz T w base e v l) (hg:w.grownBy w' row) (hr:∀r,row=some r→∃o:Obj,w.heap[r]?=some o∧o.isCells=false):Grow E sz T w' base e v l:=by
 obtain ⟨css,hl,ho,hE⟩:=h
 refine ⟨css,hl,ho.kept hg ?_,fun k hk'=>?_⟩
 ·rcases ho.2 with ⟨rfl,_⟩|⟨gb,cap,cur,rfl,hb,hgg,_⟩
  ·exact .inl rfl
  ·refine .inr fun hh=>?_
   obtain ⟨o,h1,h2⟩:=hr gb hh.symm
   rw [hgg] at h1
   injection h1 with h1
   subst h1
   cases h2
 ·obtain ⟨cs,h1,h2⟩:=hE k hk'
  exact ⟨cs,h1,g.more (g.turn h2 hg hr) fun b hb=>⟨hb.1,Nat.lt_of_lt_of_le hb.2.1 hg.size,hb.2.2⟩⟩
theorem Grow.step (g:Good E sz) {T:Nat→Prop} {w w':World} {base:Nat} {e:TypeId} {v v':Value} {l:List α} {css:List (List Value)} {m:List α} {ess:List (List Value)}
  (hl:css.length=l.length) (hE:∀k (hk:k < l.length),∃cs,css[k]?=some cs∧E w (fun b=>T b∧b < w.heap.size∧v.ownBlock≠some b) l[k] cs)
  (hm:ess.length=m.length) (hM:∀k (hk:k < m.length),∃cs,ess[k]?=some cs∧E w (fun b=>T b∧b < w.heap.size∧v.ownBlock≠some b) m[k] cs)
  (hown:w'.ownsRow base e sz v' (l.length+m.length) (css.flatten++ess.flatten)) (hg:w.grownBy w' v.ownBlock) (hat:v'.ownBlock=v.ownBlock∨∃b,v'.ownBlock=some b∧w.heap.size≤b) :
  Grow E sz T w' base e v' (l++m):=by
 have key:∀(a:α) (cs:List Value),E w (fun b=>T b∧b < w.heap.size∧v.ownBlock≠some b) a cs→E w' (fun b=>T b∧b < w'.heap.size∧v'.ownBlock≠some b) a cs:=by
  intro a cs h
  refine g.both h (fun b hb=>hg.block b hb.2.1 (fun hh=>hb.2.2 hh.symm)) (fun b hb=>⟨hb.1,Nat.lt_of_lt_of_le hb.2.1 hg.size,?_⟩)
  rcases hat with h1|⟨b',h1,h2⟩
  ·rw [h1];exact hb.2.2
  ·rw [h1];intro hh;injection hh with hh;have:=hb.2.1;omega
 refine ⟨css++ess,by rw [List.length_append,List.length_append,hl,hm],by rw [List.length_append,List.flatten_append];exact hown,fun k hk=>?_⟩
 by_cases hkl:k < l.length
 ·obtain ⟨cs,h1,h2⟩:=hE k hkl
  refine ⟨cs,by rw [List.getElem?_append_left (by omega)];exact h1,?_⟩
  rw [List.getElem_append_left hkl];exact key _ _ h2
 ·rw [List.length_append] at hk
  obtain ⟨cs,h1,h2⟩:=hM (k - l.length) (by omega)
  refine ⟨cs,by rw [List.getElem?_append_right (by omega),hl];exact h1,?_⟩
  rw [List.getElem_append_right (by omega)];exact key _ _ h2
theorem cells_new (w:World) (blk:Array Value) (te:TypeId):∀j u,blk.toList[j]?=some u→(w.alloc (.cells blk te)).cell? ((⟨w.heap.size,0,none⟩:Addr).add j)=some u:=by
 intro j u hj
 have hadd:(⟨w.heap.size,0,none⟩:Addr).add j=⟨w.heap.size,j,none⟩:=by unfold Addr.add;split<;>simp_all
 rw [hadd,cell_of_row (w.alloc (.cells blk te)) w.heap.size j blk te (0,0) (heap_alloc_new w _)]
 simpa using hj
theorem wpList_grow1 {P:Program} {ops:Array Oper} {rest:List Oper} {o:Oper} {a:Act} {Q:Exit→Act→World→Prop} (W:World) (hgd:o.guard=none) (s x:Operand) (t:TypeId)
  (ho:o.op=.call { callee:=.builtin .append,args:=#[s,x],argTypes:=#[t,t] })
  (g:Good E sz) (hsz:0 < sz) (T:Nat→Prop) (base:Nat) (e:TypeId) (i:TypeInfo) (z:Value) (bytes:Nat) (ht:P.underlying t=some (.slice e)) (hi:P.info? e=some i) (hz:i.zero=some z)
  (hsize:i.size=sz) (hby:i.bytes=bytes) (hzs:z.cells.size=sz)
  (v:Value) (l:List α) (hs:a.eval s=v) (hG:Grow E sz T W base e v l) (y:α) (blk:Array Value) (te:TypeId)
  (hE:E W (fun b=>T b∧b < W.heap.size∧v.ownBlock≠some b) y blk.toList) (N:Nat) (hN:N=W.heap.size) (hx:a.eval x=.slice (some ⟨N,0,none⟩) 1 1)
  (hn:l.length+1≤maxLen) (hb2:(l.length+1)*bytes≤140737488355328) (hbase:base≤W.heap.size)
  (h:∀v' w',Grow E sz T w' base e v' (l++[y])→W.grownBy w' v.ownBlock→wpList P ops Q rest (a.put o.dst v') w') :
  wpList P ops Q (o::rest) a (W.alloc (.cells blk te)):=by
 subst hN
 obtain ⟨css,hl,hown,hEs⟩:=hG
 refine wpList_append_own_at _ hgd s x t ho base e i z sz bytes ht hi hz hsize hby hzs hsz v l.length css.flatten hs (hown.alloc _) ⟨W.heap.size,0,none⟩ 1 1 blk.toList hx (by rw [g.len hE];simp) (cells_new W blk te) (g.one hE) hn hb2 (by simp;omega) ?_
 intro v' w' hown' hgrow _ hat
 have hg2:W.grownBy w' v.ownBlock:=by
  refine ⟨hgrow.os,hgrow.tape,hgrow.output,?_,fun k hk hne=>?_⟩
  ·have:=hgrow.size;simp at this;omega
  ·rw [hgrow.block k (by simp;omega) hne]
   exact Below.heap_alloc W _ k hk
 refine h v' w' ?_ hg2
 refine Grow.step g hl hEs (m:=[y]) (ess:=[blk.toList]) rfl (fun k hk=>?_) (by simpa using hown') hg2 ?_
 ·simp only [List.length_singleton] at hk
  obtain rfl:k=0:=by omega
  exact ⟨_,rfl,hE⟩
 ·rcases hat with h1|h1
  ·exact .inl h1
  ·exact .inr ⟨_,h1,by simp⟩
theorem grow_below {B:Nat} {w0 W w':World} {T:Nat→Prop} {base:Nat} {e:TypeId} {v:Value} {l:List α} (hG:Grow E sz T W base e v l) (hg:W.grownBy w' v.ownBlock) (hb:Below B w0 W) (hB:B≤base) (hs:B≤W.heap.size):Below B w0 w':=
 hb.grown hg hs fun g hg'=>Nat.le_trans hB (hG.lt g hg').1
end
theorem bytes_cells (w:World) (s:ByteArray):∃(cap:Nat) (w1:World),(convert 9 166 (.string s)).run Tryz.prog w=.ok (.slice (some ⟨w.heap.size,0,none⟩) s.size cap) w1∧Below w.heap.size w w1∧∀(k:Nat) (hk:k < s.size),w1.cell? ⟨w.heap.size,k,none⟩=some (.int .u8 (s[k].toNat:Int)):=by
 refine ⟨_,_,run_bytes_of_string w 9 166 5 s Tryz.underlying9 Tryz.underlying166 Tryz.underlying5,(Below.refl _ w).drew.alloc (Nat.le_refl _) _,?_⟩
 intro k hk
 have hk2:k < s.data.size:=hk
 have:(bytesRow s (grownCap w s.size 0 5))[k]?=some (.int .u8 (s[k].toNat:Int)):=by
  unfold bytesRow
  rw [Array.getElem?_append_left (by simpa using hk2),Array.getElem?_map,Array.getElem?_eq_getElem hk2]
  rfl
 exact (World.cell?_alloc_mark w.drew _ _ _ k).trans this
section
variable {P:Program}
theorem append_types (t t' ty e e':TypeId) (i:TypeInfo) (hi:P.info? e=some i) (ht:P.underlying t=some (.slice e)) (ht':P.underlying t'=some (.slice e')) (A:Option Addr) (n c:Nat) (x:Value) (w:World) :
  (Builtin.append_ #[t,t'] ty #[.slice A n c,x]).run P w=(Builtin.append_ #[t,t] ty #[.slice A n c,x]).run P w:=by
 simp [Builtin.append_,run_underlying ht,run_underlying ht',sizeOf,typeInfo,hi]
theorem append_none (w:World) (base:Nat) (t ty e:TypeId) (i:TypeInfo) (size:Nat) (ht:P.underlying t=some (.slice e)) (hi:P.info? e=some i)
  (v:Value) (n:Nat) (xs:List Value) (hown:w.ownsRow base e size v n xs) (A:Option Addr) (c:Nat):(Builtin.append_ #[t,t] ty #[v,.slice A 0 c]).run P w=.ok v w:=by
 rcases hown.2 with ⟨rfl,rfl⟩|⟨g,cap,cur,rfl,_,_,hnc,_⟩
 ·cases A<;>simp [Builtin.append_,run_underlying ht,sizeOf,typeInfo,hi,Builtin.lenOf,Builtin.firstCells,loadCells,loadCellsFrom]
 ·cases A<;>simp [Builtin.append_,run_underlying ht,sizeOf,typeInfo,hi,Builtin.lenOf,Builtin.firstCells,hnc,storeCells,loadCells,loadCellsFrom]
end
section
variable {α:Type} {E:Rd α} {sz:Nat}
theorem rows_of {w:World} {S:Nat→Prop} {m:List α} {A:Option Addr} {n c:Nat} (h:rdRow sz E w S m [.slice A n c]) (h0:0 < m.length) :
  n=m.length∧∃(ad:Addr) (ess:List (List Value)),A=some ad∧S ad.block∧ess.length=m.length∧(∀k (hk:k < m.length),∃es,ess[k]?=some es∧E w S m[k] es∧es.length=sz∧∀j u,es[j]?=some u→w.cell? (ad.add (k*sz+j))=some u):=by
 obtain ⟨A',c',e,h1,h2,h⟩:=h
 simp only [List.cons.injEq,Value.slice.injEq,and_true] at e
 obtain ⟨rfl,rfl,rfl⟩:=e
 obtain ⟨ad,_,rfl,hS,_⟩:=h 0 h0
 refine ⟨rfl,ad,List.ofFn fun k:Fin m.length=>Classical.choose (Classical.choose_spec (h k.1 k.2)),rfl,hS,by simp,fun k hk=>?_⟩
 have hs:=Classical.choose_spec (Classical.choose_spec (h k hk))
 refine ⟨_,by rw [List.getElem?_ofFn,dif_pos hk],hs.2.2.1,hs.2.2.2.1,fun j u hu=>?_⟩
 have e1:=hs.1
 injection e1 with e1
 have:=hs.2.2.2.2 j u hu
 rwa [←e1] at this
theorem flat_back (hsz:0 < sz):∀{css:List (List Value)},(∀cs ∈ css,cs.length=sz)→∀{j:Nat} {u:Value},css.flatten[j]?=some u→∃k i cs,css[k]?=some cs∧cs[i]?=some u∧j=k*sz+i
 | [],_,j,u,h=>by simp at h
 | c::css,hl,j,u,h=>by
  have hc:=hl c (by simp)
  rw [List.flatten_cons] at h
  by_cases hj:j < c.length
  ·rw [List.getElem?_append_left hj] at h
   exact ⟨0,j,c,rfl,h,by omega⟩
  ·rw [List.getElem?_append_right (by omega)] at h
   obtain ⟨k,i,cs,h1,h2,h3⟩:=flat_back hsz (fun cs hc=>hl cs (by simp [hc])) h
   exact ⟨k+1,i,cs,h1,h2,by rw [Nat.add_mul];omega⟩
theorem run_growN {P:Program} (W:World) (t t' ty:TypeId) (g:Good E sz) (hsz:0 < sz) (T:Nat→Prop) (base:Nat) (e e':TypeId) (i:TypeInfo) (z:Value) (bytes:Nat)
  (ht:P.underlying t=some (.slice e)) (ht':P.underlying t'=some (.slice e')) (hi:P.info? e=some i) (hz:i.zero=some z) (hsize:i.size=sz) (hby:i.bytes=bytes) (hzs:z.cells.size=sz)
  (v:Value) (l:List α) (hG:Grow E sz T W base e v l) (m:List α) (S:Nat→Prop) (A:Option Addr) (n c:Nat) (hX:rdRow sz E W S m [.slice A n c]) (hS:∀b,S b→T b∧b < W.heap.size∧v.ownBlock≠some b)
  (hn:l.length+m.length≤maxLen) (hb2:(l.length+m.length)*bytes≤140737488355328) (hbase:base≤W.heap.size) :
  ∃v' w',(Builtin.append_ #[t,t'] ty #[v,.slice A n c]).run P W=.ok v' w'∧Grow E sz T w' base e v' (l++m)∧W.grownBy w' v.ownBlock∧(v'.ownBlock=v.ownBlock∨∃b,v'.ownBlock=some b∧W.heap.size≤b):=by
 have hty:∀x,(Builtin.append_ #[t,t'] ty #[v,x]).run P W=(Builtin.append_ #[t,t] ty #[v,x]).run P W:=by
  obtain ⟨vA,vc,hv,_,_⟩:=hG.own
  subst hv
  exact fun x=>append_types t t' ty e e' i hi ht ht' _ _ _ x W
 rw [hty]
 by_cases h0:m.length=0
 ·obtain rfl:m=[]:=List.eq_nil_of_length_eq_zero h0
  obtain ⟨A',c',e1,_⟩:=id hX
  simp only [List.cons.injEq,Value.slice.injEq,and_true,List.length_nil] at e1
  obtain ⟨_,rfl,_⟩:=e1
  obtain ⟨css,hl,hown,hEs⟩:=id hG
  exact ⟨v,W,append_none W base t ty e i sz ht hi v _ _ hown A c,by rw [List.append_nil];exact hG,⟨rfl,rfl,rfl,Nat.le_refl _,fun _ _ _=>rfl⟩,.inl rfl⟩
 ·obtain ⟨rfl,ad,ess,rfl,hSa,hel,hek⟩:=rows_of hX (by omega)
  obtain ⟨css,hl,hown,hEs⟩:=hG
  have hes:∀cs ∈ ess,cs.length=sz:=fun cs hc=>by
   obtain ⟨k,hk,rfl⟩:=List.getElem_of_mem hc
   obtain ⟨es,h1,_,h2,_⟩:=hek k (by omega)
   rw [List.getElem?_eq_getElem hk] at h1
   injection h1 with h1
   rw [h1];exact h2
  have hcell:∀j u,ess.flatten[j]?=some u→W.cell? (ad.add j)=some u:=fun j u hu=>by
   obtain ⟨k,i',cs,h1,h2,rfl⟩:=flat_back hsz hes hu
   have hk:k < m.length:=by have:=(List.getElem?_eq_some_iff.1 h1).1;omega
   obtain ⟨es,h3,_,_,h4⟩:=hek k hk
   rw [h3] at h1
   injection h1 with h1
   subst h1
   exact h4 i' u h2
  have hone:∀u ∈ ess.flatten,u.oneCell'=true:=fun u hu=>by
   obtain ⟨cs,hc,hu⟩:=List.mem_flatten.1 hu
   obtain ⟨k,hk,rfl⟩:=List.getElem_of_mem hc
   obtain ⟨es,h1,h2,_,_⟩:=hek k (by omega)
   rw [List.getElem?_eq_getElem hk] at h1
   injection h1 with h1
   exact g.one h2 u (h1 ▸ hu)
  obtain ⟨v',w',hr,hown',hgrow,_,hat⟩:=run_append_own_at (P:=P) W base t ty e i z sz bytes ht hi hz hsize hby hzs hsz v l.length css.flatten hown ad m.length c ess.flatten (by rw [flatten_len sz hes,hel]) hcell hone hn hb2 hbase
  have hat2:v'.ownBlock=v.ownBlock∨∃b,v'.ownBlock=some b∧W.heap.size≤b:=by
   rcases hat with h1|h1
   ·exact .inl h1
   ·exact .inr ⟨_,h1,Nat.le_refl _⟩
  refine ⟨v',w',hr,Grow.step g hl hEs hel (fun k hk=>?_) hown' hgrow hat2,hgrow,hat2⟩
  obtain ⟨es,h1,h2,_,_⟩:=hek k hk
  exact ⟨es,h1,g.more h2 hS⟩
theorem wpList_growN {P:Program} {ops:Array Oper} {rest:List Oper} {o:Oper} {a:Act} {Q:Exit→Act→World→Prop} (W:World) (hgd:o.guard=none) (s x:Operand) (t t':TypeId)
  (ho:o.op=.call { callee:=.builtin .append,args:=#[s,x],argTypes:=#[t,t'] }) (g:Good E sz) (hsz:0 < sz) (T:Nat→Prop) (base:Nat) (e e':TypeId) (i:TypeInfo) (z:Value) (bytes:Nat)
  (ht:P.underlying t=some (.slice e)) (ht':P.underlying t'=some (.slice e')) (hi:P.info? e=some i) (hz:i.zero=some z) (hsize:i.size=sz) (hby:i.bytes=bytes) (hzs:z.cells.size=sz)
  (v:Value) (l:List α) (hs:a.eval s=v) (hG:Grow E sz T W base e v l) (m:List α) (S:Nat→Prop) (A:Option Addr) (n c:Nat) (hx:a.eval x=.slice A n c) (hX:rdRow sz E W S m [.slice A n c]) (hS:∀b,S b→T b∧b < W.heap.size∧v.ownBlock≠some b)
  (hn:l.length+m.length≤maxLen) (hb2:(l.length+m.length)*bytes≤140737488355328) (hbase:base≤W.heap.size)
  (h:∀v' w',Grow E sz T w' base e v' (l++m)→W.grownBy w' v.ownBlock→wpList P ops Q rest (a.put o.dst v') w') :
  wpList P ops Q (o::rest) a W:=by
 refine wpList_plain hgd fun K hK=>?_
 obtain ⟨v',w',hr,h2,h3,_⟩:=run_growN (P:=P) W t t' o.type g hsz T base e e' i z bytes ht ht' hi hz hsize hby hzs v l hG m S A n c hX hS hn hb2 hbase
 unfold Oper.wp execOp
 simp only [ho,resolve,invoke,builtin,Sem.run_bind,Sem.run_pure,Result.andThen_ok,List.map_toArray,List.map_cons,List.map_nil,hs,hx,hr]
 exact hK _ _ (h v' w' h2 h3)
end
theorem rd_block {α:Type} {E:Rd α} {sz:Nat} (g:Good E sz) {w:World} {S:Nat→Prop} {b:Nat} {blk:Array Value} {T:TypeId} {l:List α} {css:List (List Value)} (hb:w.heap[b]?=some (.cells blk T (0,0))) (hS:S b)
  (hl:css.length=l.length) (hf:blk.toList=css.flatten) (hE:∀k (hk:k < l.length),∃cs,css[k]?=some cs∧E w S l[k] cs) (hm:l.length≤1000):rdRow sz E w S l [.slice (some ⟨b,0,none⟩) l.length l.length]:=by
 have hls:∀cs ∈ css,cs.length=sz:=fun cs hc=>by
  obtain ⟨k,hk,rfl⟩:=List.getElem_of_mem hc
  obtain ⟨cs,h1,h2⟩:=hE k (by omega)
  rw [List.getElem?_eq_getElem hk] at h1
  injection h1 with h1
  rw [h1];exact g.len h2
 refine ⟨_,_,rfl,Nat.le_refl _,by unfold maxLen;omega,fun k hk=>?_⟩
 obtain ⟨cs,h1,h2⟩:=hE k hk
 refine ⟨_,cs,rfl,hS,h2,g.len h2,fun j u hu=>?_⟩
 have hadd:(⟨b,0,none⟩:Addr).add (k*sz+j)=⟨b,k*sz+j,none⟩:=by unfold Addr.add;split<;>simp_all
 rw [hadd,cell_of_row w b (k*sz+j) blk T (0,0) hb]
 have:=flatten_at sz hls h1 j u hu
 rw [←hf] at this
 simpa using this
theorem old_heap {w:World} {b:Nat} {o':Obj} (o:Obj) (h:w.heap[b]?=some o'):(w.alloc o).heap[b]?=some o':=(Below.heap_alloc w o b (Array.getElem?_eq_some_iff.1 h).1).trans h
theorem str_eq (a b:ByteArray):(a.toList==b.toList)=decide (a=b):=by
 have h:=strEq (B a) b (B_lt a)
 rw [mk_B] at h
 rw [h,decide_eq_decide]
 exact ⟨fun h=>B_inj h,fun h=>by rw [h]⟩
structure Atm where
 n:ByteArray
 o:Int
 v:ByteArray
deriving instance DecidableEq for Atm
def Atm.cells (a:Atm):List Value:=[.string a.n,.int .i64 a.o,.string a.v]
def rdAtm:Rd Atm:=fun _ _ a cs=>cs=a.cells
theorem rdAtm_good:Good rdAtm 3:=⟨fun h _=>h,fun h _=>h,fun h _ _=>h,fun h=>by rw [h];rfl,fun h u hu=>by rw [h] at hu;simp [Atm.cells] at hu;rcases hu with rfl|rfl|rfl<;>rfl⟩
abbrev rdAtms:Rd (List Atm):=rdRow 3 rdAtm
abbrev rdGrps:Rd (List (List Atm)):=rdRow 1 rdAtms
theorem rdAtms_good:Good rdAtms 1:=rdRow_good rdAtm_good
theorem rdGrps_good:Good rdGrps 1:=rdRow_good rdAtms_good
theorem off_add (a:Addr) (k j:Nat) (hj:j≠0):(⟨(a.add k).block,(a.add k).off+j,none⟩:Addr)=a.add (k+j):=by
 unfold Addr.add;by_cases hk:k=0<;>simp [hk,hj,Nat.add_assoc]
theorem rdAtms_at {w:World} {S:Nat→Prop} {l:List Atm} {A:Option Addr} {n c:Nat} (h:rdAtms w S l [.slice A n c]):n=l.length∧n≤c∧c≤maxLen∧∀k (hk:k < l.length),∃ad,A=some ad∧S ad.block∧
  w.cell? (ad.add (k*3))=some (.string l[k].n)∧w.cell? ⟨(ad.add (k*3)).block,(ad.add (k*3)).off+1,none⟩=some (.int .i64 l[k].o)∧w.cell? ⟨(ad.add (k*3)).block,(ad.add (k*3)).off+2,none⟩=some (.string l[k].v):=by
 obtain ⟨A',c',e,h1,h2,h⟩:=h
 simp only [List.cons.injEq,Value.slice.injEq,and_true] at e
 obtain ⟨rfl,rfl,rfl⟩:=e
 refine ⟨rfl,h1,h2,fun k hk=>?_⟩
 obtain ⟨ad,es,e,hS,hE,hl,hc⟩:=h k hk
 rw [show es=l[k].cells from hE] at hc
 exact ⟨ad,e,hS,hc 0 _ rfl,by rw [off_add ad (k*3) 1 (by omega)];exact hc 1 _ rfl,by rw [off_add ad (k*3) 2 (by omega)];exact hc 2 _ rfl⟩
theorem rdGrps_at {w:World} {S:Nat→Prop} {l:List (List Atm)} {A:Option Addr} {n c:Nat} (h:rdGrps w S l [.slice A n c]):n=l.length∧n≤c∧c≤maxLen∧∀k (hk:k < l.length),∃ad A' c',A=some ad∧S ad.block∧
  w.cell? (ad.add k)=some (.slice A' l[k].length c')∧rdAtms w S l[k] [.slice A' l[k].length c']:=by
 obtain ⟨A',c',e,h1,h2,h⟩:=h
 simp only [List.cons.injEq,Value.slice.injEq,and_true] at e
 obtain ⟨rfl,rfl,rfl⟩:=e
 refine ⟨rfl,h1,h2,fun k hk=>?_⟩
 obtain ⟨ad,es,e,hS,hE,hl,hc⟩:=h k hk
 have hE':=hE
 obtain ⟨A2,c2,rfl,_⟩:=hE'
 refine ⟨ad,A2,c2,e,hS,?_,hE⟩
 have:=hc 0 _ rfl
 rwa [Nat.mul_one] at this
theorem all_takeL {α:Type} (p:α→Bool) (l:List α) (k:Nat) (hk:k < l.length):(l.take (k+1)).all p=((l.take k).all p&&p l[k]):=by
 rw [List.take_succ_eq_append_getElem hk,List.all_append];simp
theorem all_stopL {α:Type} {p:α→Bool} {l:List α} {k:Nat} (hk:k < l.length) (h:p l[k]=false):l.all p=false:=by
 rw [List.all_eq_false];exact ⟨l[k],List.getElem_mem hk,by rw [h];decide⟩
def hasB (l:List Nat) (c:Nat):Bool:=l.contains c
def digs (l:List Nat):List Nat:=(l.takeWhile digB).dropWhile (fun c=>c==48)
def numD (l:List Nat):Nat:=(l.takeWhile digB).length
theorem takeWhile_is {p:Nat→Bool}:∀{l:List Nat} {n:Nat},n≤l.length→(∀j,j < n→p (l.getD j 0)=true)→(n=l.length∨p (l.getD n 0)=false)→l.takeWhile p=l.take n
 | [],n,hn,_,_=>by simp
 | c::l,0,_,_,h=>by
  have:p c=false:=by simpa using h
  simp [this]
 | c::l,n+1,hn,h1,h2=>by
  have hc:p c=true:=by simpa using h1 0 (by omega)
  rw [List.takeWhile_cons,if_pos hc,List.take_succ_cons]
  congr 1
  exact takeWhile_is (by simpa using hn) (fun j hj=>by simpa using h1 (j+1) (by omega)) (by simpa using h2)
theorem dropWhile_is {p:Nat→Bool}:∀{l:List Nat} {n:Nat},n≤l.length→(∀j,j < n→p (l.getD j 0)=true)→(n=l.length∨p (l.getD n 0)=false)→l.dropWhile p=l.drop n
 | [],n,hn,_,_=>by simp
 | c::l,0,_,_,h=>by
  have:p c=false:=by simpa using h
  simp [this]
 | c::l,n+1,hn,h1,h2=>by
  have hc:p c=true:=by simpa using h1 0 (by omega)
  rw [List.dropWhile_cons,if_pos hc,List.drop_succ_cons]
  exact dropWhile_is (by simpa using hn) (fun j hj=>by simpa using h1 (j+1) (by omega)) (by simpa using h2)
def lexL:List Nat→List Nat→Int
 | x::a,y::b=>if x < y then -1 else if y < x then 1 else lexL a b
 | [],[]=>0
 | [],_=>-1
 | _,[]=>1
def numC (a b:List Nat):Int:=if a.length≠b.length then sgn ((a.length:Int) - b.length) else lexL a b
theorem bytesLess_lex:∀(x y:List UInt8),x.length=y.length→(Op.bytesLess x y=true↔lexL (x.map UInt8.toNat) (y.map UInt8.toNat)=-1)∧(x=y↔lexL (x.map UInt8.toNat) (y.map UInt8.toNat)=0)∧(lexL (x.map UInt8.toNat) (y.map UInt8.toNat)=-1∨lexL (x.map UInt8.toNat) (y.map UInt8.toNat)=0∨lexL (x.map UInt8.toNat) (y.map UInt8.toNat)=1)
 | [],[],_=>by simp [Op.bytesLess,lexL]
 | [],_::_,h=>by simp at h
 | _::_,[],h=>by simp at h
 | a::x,b::y,h=>by
  obtain ⟨i1,i2,i3⟩:=bytesLess_lex x y (by simpa using h)
  simp only [Op.bytesLess,List.map_cons,lexL,Bool.or_eq_true,Bool.and_eq_true,decide_eq_true_eq,beq_iff_eq,List.cons.injEq]
  rcases Nat.lt_trichotomy a.toNat b.toNat with hl|he|hg
  ·have h1:a < b:=UInt8.lt_iff_toNat_lt.2 hl
   have h2:a≠b:=by rintro rfl;omega
   rw [if_pos hl]
   exact ⟨⟨fun _=>rfl,fun _=>.inl h1⟩,⟨fun hh=>absurd hh.1 h2,fun hh=>by omega⟩,.inl rfl⟩
  ·have h1:a=b:=UInt8.toNat_inj.1 he
   subst h1
   rw [if_neg (by omega),if_neg (by omega)]
   refine ⟨⟨fun hh=>?_,fun hh=>.inr ⟨rfl,i1.2 hh⟩⟩,⟨fun hh=>i2.1 hh.2,fun hh=>⟨rfl,i2.2 hh⟩⟩,i3⟩
   rcases hh with hh|hh
   ·exact absurd (UInt8.lt_iff_toNat_lt.1 hh) (by omega)
   ·exact i1.1 hh.2
  ·have h1:¬a < b:=fun hh=>by have:=UInt8.lt_iff_toNat_lt.1 hh;omega
   have h2:a≠b:=by rintro rfl;omega
   rw [if_neg (by omega),if_pos hg]
   refine ⟨⟨fun hh=>?_,fun hh=>by omega⟩,⟨fun hh=>absurd hh.1 h2,fun hh=>by omega⟩,.inr (.inr rfl)⟩
   rcases hh with hh|hh
   ·exact absurd hh h1
   ·exact absurd hh.1 h2
def decF:Nat→Nat→List Nat→List Nat
 | 0,_,l=>l
 | f+1,n,l=>if n < 10 then (48+n)::l else decF f (n / 10) ((48+n % 10)::l)
def decL (n:Nat):List Nat:=decF (n+1) n []
theorem decF_lt:∀(f n:Nat) (l:List Nat),(∀c ∈ l,c < 256)→∀c ∈ decF f n l,c < 256
 | 0,_,_,h=>h
 | f+1,n,l,h=>by
  simp only [decF]
  split
  ·intro c hc
   rcases List.mem_cons.1 hc with rfl|hc
   ·omega
   ·exact h c hc
  ·refine decF_lt f _ _ (fun c hc=>?_)
   rcases List.mem_cons.1 hc with rfl|hc
   ·omega
   ·exact h c hc
theorem decL_lt (n:Nat):∀c ∈ decL n,c < 256:=decF_lt _ _ _ (by simp)
def textL (e:Nat) (u r:List Nat):List Nat:=(if e=0 then [] else decL e++[58])++u++(if r=[] then [] else 45::r)
theorem decF_len:∀(f n:Nat) (l:List Nat),(decF f n l).length≤f+l.length
 | 0,_,l=>by simp [decF]
 | f+1,n,l=>by
  simp only [decF]
  split
  ·simp;omega
  ·have:=decF_len f (n / 10) ((48+n % 10)::l);simp at this;omega
theorem decL_len (n:Nat):(decL n).length≤n+1:=by have:=decF_len (n+1) n [];simpa [decL] using this
theorem size_mk (l:List Nat):(mk l).size=l.length:=by
 unfold mk
 show (List.toArray _).size=_
 simp
theorem empty_iff (s:ByteArray):s.toList.isEmpty=true↔B s=[]:=by
 rw [toList_data,List.isEmpty_iff]
 unfold B
 simp
theorem B_colon:B { data:=#[58] }=[58]:=by decide
theorem B_dash:B { data:=#[45] }=[45]:=by decide
def numV (l:List Nat):Nat:=l.foldl (fun n c=>10*n+(c - 48)) 0
def numL (l:List Nat):Int:=if l≠[]∧l.length≤9∧l.all digB=true∧decL (numV l)=l then (numV l:Int) else -1
theorem numV_snoc (l:List Nat) (c:Nat):numV (l++[c])=10*numV l+(c - 48):=by simp [numV,List.foldl_append]
theorem digB_iff {c:Nat}:digB c=true↔48≤c∧c≤57:=by simp [digB]
theorem numV_lt:∀(l:List Nat),(∀c ∈ l,digB c=true)→numV l+1≤10 ^ l.length:=by
 intro l
 rw [←List.reverse_reverse l]
 induction l.reverse with
 | nil=>intro _;simp [numV]
 | cons c l ih=>
  intro h
  rw [List.reverse_cons,numV_snoc,List.length_append]
  have h1:=ih (fun d hd=>h d (by simp [hd]))
  have h2:=digB_iff.1 (h c (by simp))
  simp only [List.length_singleton,Nat.pow_succ,List.length_reverse] at h1 ⊢
  omega
theorem same_take {α:Type} [DecidableEq α] {l m:List α} {k:Nat} (hl:l.length=m.length) (hk:k < l.length) (hm:k < m.length) (h:l.take k=m.take k) (he:l[k]=m[k]):l.take (k+1)=m.take (k+1):=by
 rw [List.take_succ_eq_append_getElem hk,List.take_succ_eq_append_getElem hm,h,he]
def rdInt:Rd Int:=fun _ _ a cs=>cs=[.int .i64 a]
theorem rdInt_good:Good rdInt 1:=⟨fun h _=>h,fun h _=>h,fun h _ _=>h,fun h=>by rw [h];rfl,fun h u hu=>by rw [h] at hu;simp at hu;subst hu;rfl⟩
abbrev rdInts:Rd (List Int):=rdRow 1 rdInt
theorem rdInts_good:Good rdInts 1:=rdRow_good rdInt_good
theorem rdInts_at {w:World} {S:Nat→Prop} {l:List Int} {A:Option Addr} {n c:Nat} (h:rdInts w S l [.slice A n c]):n=l.length∧n≤c∧c≤maxLen∧∀k (hk:k < l.length),∃ad,A=some ad∧S ad.block∧
  w.cell? (ad.add k)=some (.int .i64 l[k]):=by
 obtain ⟨A',c',e,h1,h2,h⟩:=h
 simp only [List.cons.injEq,Value.slice.injEq,and_true] at e
 obtain ⟨rfl,rfl,rfl⟩:=e
 refine ⟨rfl,h1,h2,fun k hk=>?_⟩
 obtain ⟨ad,es,e,hS,hE,hl,hc⟩:=h k hk
 rw [show es=[.int .i64 l[k]] from hE] at hc
 have:=hc 0 _ rfl
 rw [Nat.mul_one] at this
 exact ⟨ad,e,hS,this⟩
structure Ent where
 n:ByteArray
 v:ByteArray
 d:List (List Atm)
 r:List (List Atm)
 c:List Atm
 p:List Atm
deriving instance DecidableEq for Ent
def rdEnt:Rd Ent:=fun w S x cs=>∃dv rv cv pv,cs=[.string x.n,.string x.v,dv,rv,cv,pv]∧rdGrps w S x.d [dv]∧rdGrps w S x.r [rv]∧rdAtms w S x.c [cv]∧rdAtms w S x.p [pv]
theorem rdEnt_good:Good rdEnt 6 where
 keep:=by
  rintro w w' S x cs ⟨dv,rv,cv,pv,e,h1,h2,h3,h4⟩ hk
  exact ⟨dv,rv,cv,pv,e,rdGrps_good.keep h1 hk,rdGrps_good.keep h2 hk,rdAtms_good.keep h3 hk,rdAtms_good.keep h4 hk⟩
 more:=by
  rintro w S S' x cs ⟨dv,rv,cv,pv,e,h1,h2,h3,h4⟩ hm
  exact ⟨dv,rv,cv,pv,e,rdGrps_good.more h1 hm,rdGrps_good.more h2 hm,rdAtms_good.more h3 hm,rdAtms_good.more h4 hm⟩
 turn:=by
  rintro w w' S x cs row ⟨dv,rv,cv,pv,e,h1,h2,h3,h4⟩ hg hr
  exact ⟨dv,rv,cv,pv,e,rdGrps_good.turn h1 hg hr,rdGrps_good.turn h2 hg hr,rdAtms_good.turn h3 hg hr,rdAtms_good.turn h4 hg hr⟩
 len:=by rintro w S x cs ⟨dv,rv,cv,pv,rfl,_⟩;rfl
 one:=by
  rintro w S x cs ⟨dv,rv,cv,pv,rfl,h1,h2,h3,h4⟩ u hu
  simp only [List.mem_cons,List.not_mem_nil,or_false] at hu
  rcases hu with rfl|rfl|rfl|rfl|rfl|rfl
  ·rfl
  ·rfl
  ·exact rdGrps_good.one h1 _ (by simp)
  ·exact rdGrps_good.one h2 _ (by simp)
  ·exact rdAtms_good.one h3 _ (by simp)
  ·exact rdAtms_good.one h4 _ (by simp)
abbrev rdEnts:Rd (List Ent):=rdRow 6 rdEnt
theorem rdEnts_good:Good rdEnts 1:=rdRow_good rdEnt_good
structure EntV (w:World) (S:Nat→Prop) (x:Ent) (A1:Option Addr) (c1:Nat) (A2:Option Addr) (c2:Nat) (A3:Option Addr) (c3:Nat) (A4:Option Addr) (c4:Nat):Prop where
 d:rdGrps w S x.d [.slice A1 x.d.length c1]
 r:rdGrps w S x.r [.slice A2 x.r.length c2]
 c:rdAtms w S x.c [.slice A3 x.c.length c3]
 p:rdAtms w S x.p [.slice A4 x.p.length c4]
theorem EntV.below {w w':World} {N:Nat} {x:Ent} {A1 A2 A3 A4:Option Addr} {c1 c2 c3 c4:Nat} (h:EntV w (lt_ N) x A1 c1 A2 c2 A3 c3 A4 c4) (hb:Below N w w'):EntV w' (lt_ N) x A1 c1 A2 c2 A3 c3 A4 c4:=
 ⟨rdGrps_good.below h.d hb,rdGrps_good.below h.r hb,rdAtms_good.below h.c hb,rdAtms_good.below h.p hb⟩
theorem EntV.up {w:World} {N N':Nat} {x:Ent} {A1 A2 A3 A4:Option Addr} {c1 c2 c3 c4:Nat} (h:EntV w (lt_ N) x A1 c1 A2 c2 A3 c3 A4 c4) (hn:N≤N'):EntV w (lt_ N') x A1 c1 A2 c2 A3 c3 A4 c4:=
 ⟨rdGrps_good.up h.d hn,rdGrps_good.up h.r hn,rdAtms_good.up h.c hn,rdAtms_good.up h.p hn⟩
theorem EntV.on {w w':World} {x:Ent} {A1 A2 A3 A4:Option Addr} {c1 c2 c3 c4:Nat} (h:EntV w (lt_ w.heap.size) x A1 c1 A2 c2 A3 c3 A4 c4) (hb:Below w.heap.size w w'):EntV w' (lt_ w'.heap.size) x A1 c1 A2 c2 A3 c3 A4 c4:=(h.below hb).up hb.size
abbrev Ent.val (x:Ent) (A1:Option Addr) (c1:Nat) (A2:Option Addr) (c2:Nat) (A3:Option Addr) (c3:Nat) (A4:Option Addr) (c4:Nat):Value:=
 .agg #[.string x.n,.string x.v,.slice A1 x.d.length c1,.slice A2 x.r.length c2,.slice A3 x.c.length c3,.slice A4 x.p.length c4]
theorem rdEnts_at {w:World} {S:Nat→Prop} {l:List Ent} {A:Option Addr} {n c:Nat} (h:rdEnts w S l [.slice A n c]):n=l.length∧n≤c∧c≤maxLen∧∀k (hk:k < l.length),∃ad A1 c1 A2 c2 A3 c3 A4 c4,A=some ad∧S ad.block∧EntV w S l[k] A1 c1 A2 c2 A3 c3 A4 c4∧
  w.cell? (ad.add (k*6))=some (.string l[k].n)∧w.cell? ⟨(ad.add (k*6)).block,(ad.add (k*6)).off+1,none⟩=some (.string l[k].v)∧w.cell? ⟨(ad.add (k*6)).block,(ad.add (k*6)).off+2,none⟩=some (.slice A1 l[k].d.length c1)∧
  w.cell? ⟨(ad.add (k*6)).block,(ad.add (k*6)).off+3,none⟩=some (.slice A2 l[k].r.length c2)∧w.cell? ⟨(ad.add (k*6)).block,(ad.add (k*6)).off+4,none⟩=some (.slice A3 l[k].c.length c3)∧w.cell? ⟨(ad.add (k*6)).block,(ad.add (k*6)).off+5,none⟩=some (.slice A4 l[k].p.length c4):=by
 obtain ⟨A',c',e,h1,h2,h⟩:=h
 simp only [List.cons.injEq,Value.slice.injEq,and_true] at e
 obtain ⟨rfl,rfl,rfl⟩:=e
 refine ⟨rfl,h1,h2,fun k hk=>?_⟩
 obtain ⟨ad,es,e,hS,⟨dv,rv,cv,pv,rfl,g1,g2,g3,g4⟩,hl,hc⟩:=h k hk
 obtain ⟨A1,c1,e1,_⟩:=id g1
 obtain ⟨A2,c2,e2,_⟩:=id g2
 obtain ⟨A3,c3,e3,_⟩:=id g3
 obtain ⟨A4,c4,e4,_⟩:=id g4
 simp only [List.cons.injEq,and_true] at e1 e2 e3 e4
 subst e1
 subst e2
 subst e3
 subst e4
 exact ⟨ad,A1,c1,A2,c2,A3,c3,A4,c4,e,hS,⟨g1,g2,g3,g4⟩,hc 0 _ rfl,by rw [off_add ad (k*6) 1 (by omega)];exact hc 1 _ rfl,by rw [off_add ad (k*6) 2 (by omega)];exact hc 2 _ rfl,by rw [off_add ad (k*6) 3 (by omega)];exact hc 3 _ rfl,by rw [off_add ad (k*6) 4 (by omega)];exact hc 4 _ rfl,by rw [off_add ad (k*6) 5 (by omega)];exact hc 5 _ rfl⟩
def Lt (l:List Atm):Prop:=l.length≤20∧∀a ∈ l,a.n.size≤100∧a.v.size≤100
def LtR (P:Prop) (e:Ending):Prop:=∃b:Bool,e=.returned (.bool b)∧(b=true→P)
theorem ltR_no (P:Prop):LtR P (.returned (.bool false)):=⟨false,rfl,fun h=>by cases h⟩
theorem ltR_yes {P:Prop} (h:P):LtR P (.returned (.bool true)):=⟨true,rfl,fun _=>h⟩
structure Hr where
 e:Ent
 a:Bool
 h:Bool
deriving instance DecidableEq for Hr
def rdHr:Rd Hr:=fun w S x cs=>∃es,cs=es++[.bool x.a,.bool x.h]∧rdEnt w S x.e es
theorem rdHr_good:Good rdHr 8 where
 keep:=by
  rintro w w' S x cs ⟨es,e,h⟩ hk
  exact ⟨es,e,rdEnt_good.keep h hk⟩
 more:=by
  rintro w S S' x cs ⟨es,e,h⟩ hm
  exact ⟨es,e,rdEnt_good.more h hm⟩
 turn:=by
  rintro w w' S x cs row ⟨es,e,h⟩ hg hr
  exact ⟨es,e,rdEnt_good.turn h hg hr⟩
 len:=by
  rintro w S x cs ⟨es,rfl,h⟩
  rw [List.length_append,rdEnt_good.len h];rfl
 one:=by
  rintro w S x cs ⟨es,rfl,h⟩ u hu
  rcases List.mem_append.1 hu with hu|hu
  ·exact rdEnt_good.one h u hu
  ·simp only [List.mem_cons,List.not_mem_nil,or_false] at hu
   rcases hu with rfl|rfl<;>rfl
abbrev rdHrs:Rd (List Hr):=rdRow 8 rdHr
theorem rdHrs_good:Good rdHrs 1:=rdRow_good rdHr_good
theorem rdHrs_at {w:World} {S:Nat→Prop} {l:List Hr} {A:Option Addr} {n c:Nat} (h:rdHrs w S l [.slice A n c]):n=l.length∧n≤c∧c≤maxLen∧∀k (hk:k < l.length),∃ad A1 c1 A2 c2 A3 c3 A4 c4,A=some ad∧S ad.block∧EntV w S l[k].e A1 c1 A2 c2 A3 c3 A4 c4∧
  w.cell? (ad.add (k*8))=some (.string l[k].e.n)∧w.cell? ⟨(ad.add (k*8)).block,(ad.add (k*8)).off+1,none⟩=some (.string l[k].e.v)∧w.cell? ⟨(ad.add (k*8)).block,(ad.add (k*8)).off+2,none⟩=some (.slice A1 l[k].e.d.length c1)∧
  w.cell? ⟨(ad.add (k*8)).block,(ad.add (k*8)).off+3,none⟩=some (.slice A2 l[k].e.r.length c2)∧w.cell? ⟨(ad.add (k*8)).block,(ad.add (k*8)).off+4,none⟩=some (.slice A3 l[k].e.c.length c3)∧w.cell? ⟨(ad.add (k*8)).block,(ad.add (k*8)).off+5,none⟩=some (.slice A4 l[k].e.p.length c4)∧
  w.cell? ⟨(ad.add (k*8)).block,(ad.add (k*8)).off+6,none⟩=some (.bool l[k].a)∧w.cell? ⟨(ad.add (k*8)).block,(ad.add (k*8)).off+7,none⟩=some (.bool l[k].h):=by
 obtain ⟨A',c',e,h1,h2,h⟩:=h
 simp only [List.cons.injEq,Value.slice.injEq,and_true] at e
 obtain ⟨rfl,rfl,rfl⟩:=e
 refine ⟨rfl,h1,h2,fun k hk=>?_⟩
 obtain ⟨ad,es,e,hS,⟨es6,rfl,⟨dv,rv,cv,pv,rfl,g1,g2,g3,g4⟩⟩,hl,hc⟩:=h k hk
 obtain ⟨A1,c1,e1,_⟩:=id g1
 obtain ⟨A2,c2,e2,_⟩:=id g2
 obtain ⟨A3,c3,e3,_⟩:=id g3
 obtain ⟨A4,c4,e4,_⟩:=id g4
 simp only [List.cons.injEq,and_true] at e1 e2 e3 e4
 subst e1
 subst e2
 subst e3
 subst e4
 exact ⟨ad,A1,c1,A2,c2,A3,c3,A4,c4,e,hS,⟨g1,g2,g3,g4⟩,hc 0 _ rfl,by rw [off_add ad (k*8) 1 (by omega)];exact hc 1 _ rfl,by rw [off_add ad (k*8) 2 (by omega)];exact hc 2 _ rfl,by rw [off_add ad (k*8) 3 (by omega)];exact hc 3 _ rfl,by rw [off_add ad (k*8) 4 (by omega)];exact hc 4 _ rfl,by rw [off_add ad (k*8) 5 (by omega)];exact hc 5 _ rfl,by rw [off_add ad (k*8) 6 (by omega)];exact hc 6 _ rfl,by rw [off_add ad (k*8) 7 (by omega)];exact hc 7 _ rfl⟩
def nonD:List Nat→Bool
 | []=>false
 | c::_=>!digB c
def cmpT:Nat→List Nat→List Nat→Int
 | 0,_,_=>0
 | f+1,a,b=>
  if a=[]∧b=[] then 0
  else if (nonD a||nonD b)=true then if sgn (wt a - wt b)≠0 then sgn (wt a - wt b) else cmpT f (a.drop 1) (b.drop 1)
  else if numC (digs a) (digs b)≠0 then numC (digs a) (digs b) else cmpT f (a.drop (numD a)) (b.drop (numD b))
def cmpS (a b:List Nat):Int:=cmpT (a.length+b.length+1) a b
theorem wt_non {l:List Nat} (h:nonD l=true):wt l≠0:=by
 cases l with
 | nil=>simp [nonD] at h
 | cons c l=>
  simp only [nonD,Bool.not_eq_true'] at h
  simp only [wt,h]
  by_cases h1:c=126
  ·simp [h1]
  ·by_cases h2:letB c=true
   ·simp [h1,h2]
    rintro rfl
    simp [letB] at h2
   ·simp [h1,h2];omega
theorem wt_end {l:List Nat} (h:nonD l=false):wt l=0:=by
 cases l with
 | nil=>rfl
 | cons c l=>
  simp only [nonD,Bool.not_eq_false'] at h
  simp [wt,h]
theorem sgn_zero {n:Int}:sgn n=0↔n=0:=by unfold sgn;split<;>(try split)<;>omega
theorem both_non {a b:List Nat} (h:(nonD a||nonD b)=true) (h0:¬sgn (wt a - wt b)≠0):nonD a=true∧nonD b=true:=by
 have h1:wt a=wt b:=by have:=sgn_zero.1 (Classical.not_not.1 h0);omega
 cases ha:nonD a<;>cases hb:nonD b
 ·simp [ha,hb] at h
 ·have:=wt_end ha;have:=wt_non hb;omega
 ·have:=wt_non ha;have:=wt_end hb;omega
 ·exact ⟨rfl,rfl⟩
theorem non_len {l:List Nat} (h:nonD l=true):1≤l.length:=by
 cases l with
 | nil=>simp [nonD] at h
 | cons c l=>simp
theorem num_len {l:List Nat} (h:nonD l=false) (hl:l≠[]):1≤numD l:=by
 cases l with
 | nil=>exact absurd rfl hl
 | cons c l=>
  simp only [nonD,Bool.not_eq_false'] at h
  simp [numD,h]
theorem numD_le (l:List Nat):numD l≤l.length:=by unfold numD;exact (List.takeWhile_prefix digB).length_le
theorem cmpT_fuel:∀(f g:Nat) (a b:List Nat),a.length+b.length < f→a.length+b.length < g→cmpT f a b=cmpT g a b
 | 0,_,_,_,h,_=>by omega
 | _+1,0,_,_,_,h=>by omega
 | f+1,g+1,a,b,hf,hg=>by
  simp only [cmpT]
  by_cases h0:a=[]∧b=[]
  ·rw [if_pos h0,if_pos h0]
  ·rw [if_neg h0,if_neg h0]
   by_cases h1:(nonD a||nonD b)=true
   ·rw [if_pos h1,if_pos h1]
    by_cases h2:sgn (wt a - wt b)≠0
    ·rw [if_pos h2,if_pos h2]
    ·rw [if_neg h2,if_neg h2]
     obtain ⟨ha,hb⟩:=both_non h1 h2
     have:=non_len ha
     have:=non_len hb
     exact cmpT_fuel f g _ _ (by simp;omega) (by simp;omega)
   ·rw [if_neg h1,if_neg h1]
    by_cases h2:numC (digs a) (digs b)≠0
    ·rw [if_pos h2,if_pos h2]
    ·rw [if_neg h2,if_neg h2]
     have hna:nonD a=false:=by cases h:nonD a<;>simp_all
     have hnb:nonD b=false:=by cases h:nonD b<;>simp_all
     have la:=numD_le a
     have lb:=numD_le b
     have hs:1≤numD a+numD b:=by
      by_cases ha:a=[]
      ·have:=num_len hnb (fun hb=>h0 ⟨ha,hb⟩);omega
      ·have:=num_len hna ha;omega
     exact cmpT_fuel f g _ _ (by simp;omega) (by simp;omega)
theorem cmpS_wt {a b:List Nat} (h1:(nonD a||nonD b)=true):cmpS a b=if sgn (wt a - wt b)≠0 then sgn (wt a - wt b) else cmpS (a.drop 1) (b.drop 1):=by
 have h0:¬(a=[]∧b=[]):=by rintro ⟨rfl,rfl⟩;simp [nonD] at h1
 unfold cmpS
 rw [cmpT,if_neg h0,if_pos h1]
 by_cases h2:sgn (wt a - wt b)≠0
 ·rw [if_pos h2,if_pos h2]
 ·rw [if_neg h2,if_neg h2]
  obtain ⟨ha,hb⟩:=both_non h1 h2
  have:=non_len ha
  have:=non_len hb
  exact cmpT_fuel _ _ _ _ (by simp;omega) (by omega)
theorem cmpS_num {a b:List Nat} (h0:¬(a=[]∧b=[])) (h1:(nonD a||nonD b)=false):cmpS a b=if numC (digs a) (digs b)≠0 then numC (digs a) (digs b) else cmpS (a.drop (numD a)) (b.drop (numD b)):=by
 unfold cmpS
 rw [cmpT,if_neg h0,if_neg (by simp [h1])]
 by_cases h2:numC (digs a) (digs b)≠0
 ·rw [if_pos h2,if_pos h2]
 ·rw [if_neg h2,if_neg h2]
  have hna:nonD a=false:=by cases h:nonD a<;>simp_all
  have hnb:nonD b=false:=by cases h:nonD b<;>simp_all
  have la:=numD_le a
  have lb:=numD_le b
  have hs:1≤numD a+numD b:=by
   by_cases ha:a=[]
   ·have:=num_len hnb (fun hb=>h0 ⟨ha,hb⟩);omega
   ·have:=num_len hna ha;omega
  exact cmpT_fuel _ _ _ _ (by simp;omega) (by omega)
end Go.Proofs.YtpilmhoakopcaaaGreatDoor
