/- What the laws rest on: Deep2, S5a, D4a, Ref2a, Ref2b, RefDec, RefText, D4b, E6a, E7a, E7b, E6d. -/
import Derived.StillTailTactics
import Derived.Deep.QuietTactic
import Derived.Test.YtboinnjncaehkaaGreatDoorChecked
import Derived.WalkLawsBesides
import Derived.WalkSpells
import Derived.Deep.RegionHeld3
import Derived.Test.YtboinnjncaehkaaGreatDoorQAEZA
set_option maxRecDepth 100000
set_option linter.unusedVariables false
set_option linter.unusedSimpArgs false
namespace Go.Proofs.YtboinnjncaehkaaGreatDoor
open Go.RowKit
section
variable {P:Program}
theorem append_types (t t' ty e e':TypeId) (i:TypeInfo) (hi:P.info? e=some i) (ht:P.underlying t=some (.slice e)) (ht':P.underlying t'=some (.slice e')) (A:Option Addr) (n c:Nat) (x:Value) (w:World) :
  (Builtin.append_ #[t,t'] ty #[.slice A n c,x]).run P w=(Builtin.append_ #[t,t] ty #[.slice A n c,x]).run P w:=by
 simp [Builtin.append_,run_underlying ht,run_underlying ht',sizeOf,typeInfo,hi]
theorem append_none (w:World) (base:Nat) (t ty e:TypeId) (i:TypeInfo) (size:Nat) (ht:P.underlying t=some (.slice e)) (hi:P.info? e=some i)
  (v:Value) (n:Nat) (xs:List Value) (hown:w.ownsRow base e size v n xs) (A:Option Addr) (c:Nat):(Builtin.append_ #[t,t] ty #[v,.slice A 0 c]).run P w=.ok v w:=by
 rcases hown.2 with ⟨rfl,rfl⟩|⟨g,cap,cur,rfl,_,_,hnc,_⟩
 ·cases A<;>simp [Builtin.append_,run_underlying ht,sizeOf,typeInfo,hi,Builtin.lenOf,Builtin.firstCells,loadCells,loadCellsFrom]
 ·cases A<;>simp [Builtin.append_,run_underlying ht,sizeOf,typeInfo,hi,Builtin.lenOf,Builtin.firstCells,hnc,storeCells,loadCells,loadCellsFrom]
end
section
variable {α:Type} {E:Rd α} {sz:Nat}
theorem rows_of {w:World} {S:Nat→Prop} {m:List α} {A:Option Addr} {n c:Nat} (h:rdRow sz E w S m [.slice A n c]) (h0:0 < m.length) :
  n=m.length∧∃(ad:Addr) (ess:List (List Value)),A=some ad∧S ad.block∧ess.length=m.length∧(∀k (hk:k < m.length),∃es,ess[k]?=some es∧E w S m[k] es∧es.length=sz∧∀j u,es[j]?=some u→w.cell? (ad.add (k*sz+j))=some u):=by
 obtain ⟨A',c',e,h1,h2,h⟩:=h
 simp only [List.cons.injEq,Value.slice.injEq,and_true] at e
 obtain ⟨rfl,rfl,rfl⟩:=e
 obtain ⟨ad,_,rfl,hS,_⟩:=h 0 h0
 refine ⟨rfl,ad,List.ofFn fun k:Fin m.length=>Classical.choose (Classical.choose_spec (h k.1 k.2)),rfl,hS,by simp,fun k hk=>?_⟩
 have hs:=Classical.choose_spec (Classical.choose_spec (h k hk))
 refine ⟨_,by rw [List.getElem?_ofFn,dif_pos hk],hs.2.2.1,hs.2.2.2.1,fun j u hu=>?_⟩
 have e1:=hs.1
 injection e1 with e1
 have:=hs.2.2.2.2 j u hu
 rwa [←e1] at this
theorem flat_back (hsz:0 < sz):∀{css:List (List Value)},(∀cs ∈ css,cs.length=sz)→∀{j:Nat} {u:Value},css.flatten[j]?=some u→∃k i cs,css[k]?=some cs∧cs[i]?=some u∧j=k*sz+i
 | [],_,j,u,h=>by simp at h
 | c::css,hl,j,u,h=>by
  have hc:=hl c (by simp)
  rw [List.flatten_cons] at h
  by_cases hj:j < c.length
  ·rw [List.getElem?_append_left hj] at h
   exact ⟨0,j,c,rfl,h,by omega⟩
  ·rw [List.getElem?_append_right (by omega)] at h
   obtain ⟨k,i,cs,h1,h2,h3⟩:=flat_back hsz (fun cs hc=>hl cs (by simp [hc])) h
   exact ⟨k+1,i,cs,h1,h2,by rw [Nat.add_mul];omega⟩
theorem run_growN {P:Program} (W:World) (t t' ty:TypeId) (g:Good E sz) (hsz:0 < sz) (T:Nat→Prop) (base:Nat) (e e':TypeId) (i:TypeInfo) (z:Value) (bytes:Nat)
  (ht:P.underlying t=some (.slice e)) (ht':P.underlying t'=some (.slice e')) (hi:P.info? e=some i) (hz:i.zero=some z) (hsize:i.size=sz) (hby:i.bytes=bytes) (hzs:z.cells.size=sz)
  (v:Value) (l:List α) (hG:Grow E sz T W base e v l) (m:List α) (S:Nat→Prop) (A:Option Addr) (n c:Nat) (hX:rdRow sz E W S m [.slice A n c]) (hS:∀b,S b→T b∧b < W.heap.size∧v.ownBlock≠some b)
  (hn:l.length+m.length≤maxLen) (hb2:(l.length+m.length)*bytes≤140737488355328) (hbase:base≤W.heap.size) :
  ∃v' w',(Builtin.append_ #[t,t'] ty #[v,.slice A n c]).run P W=.ok v' w'∧Grow E sz T w' base e v' (l++m)∧W.grownBy w' v.ownBlock∧(v'.ownBlock=v.ownBlock∨∃b,v'.ownBlock=some b∧W.heap.size≤b):=by
 have hty:∀x,(Builtin.append_ #[t,t'] ty #[v,x]).run P W=(Builtin.append_ #[t,t] ty #[v,x]).run P W:=by
  obtain ⟨vA,vc,hv,_,_⟩:=hG.own
  subst hv
  exact fun x=>append_types t t' ty e e' i hi ht ht' _ _ _ x W
 rw [hty]
 by_cases h0:m.length=0
 ·obtain rfl:m=[]:=List.eq_nil_of_length_eq_zero h0
  obtain ⟨A',c',e1,_⟩:=id hX
  simp only [List.cons.injEq,Value.slice.injEq,and_true,List.length_nil] at e1
  obtain ⟨_,rfl,_⟩:=e1
  obtain ⟨css,hl,hown,hEs⟩:=id hG
  exact ⟨v,W,append_none W base t ty e i sz ht hi v _ _ hown A c,by rw [List.append_nil];exact hG,⟨rfl,rfl,rfl,Nat.le_refl _,fun _ _ _=>rfl⟩,.inl rfl⟩
 ·obtain ⟨rfl,ad,ess,rfl,hSa,hel,hek⟩:=rows_of hX (by omega)
  obtain ⟨css,hl,hown,hEs⟩:=hG
  have hes:∀cs ∈ ess,cs.length=sz:=fun cs hc=>by
   obtain ⟨k,hk,rfl⟩:=List.getElem_of_mem hc
   obtain ⟨es,h1,_,h2,_⟩:=hek k (by omega)
   rw [List.getElem?_eq_getElem hk] at h1
   injection h1 with h1
   rw [h1];exact h2
  have hcell:∀j u,ess.flatten[j]?=some u→W.cell? (ad.add j)=some u:=fun j u hu=>by
   obtain ⟨k,i',cs,h1,h2,rfl⟩:=flat_back hsz hes hu
   have hk:k < m.length:=by have:=(List.getElem?_eq_some_iff.1 h1).1;omega
   obtain ⟨es,h3,_,_,h4⟩:=hek k hk
   rw [h3] at h1
   injection h1 with h1
   subst h1
   exact h4 i' u h2
  have hone:∀u ∈ ess.flatten,u.oneCell'=true:=fun u hu=>by
   obtain ⟨cs,hc,hu⟩:=List.mem_flatten.1 hu
   obtain ⟨k,hk,rfl⟩:=List.getElem_of_mem hc
   obtain ⟨es,h1,h2,_,_⟩:=hek k (by omega)
   rw [List.getElem?_eq_getElem hk] at h1
   injection h1 with h1
   exact g.one h2 u (h1 ▸ hu)
  obtain ⟨v',w',hr,hown',hgrow,_,hat⟩:=run_append_own_at (P:=P) W base t ty e i z sz bytes ht hi hz hsize hby hzs hsz v l.length css.flatten hown ad m.length c ess.flatten (by rw [flatten_len sz hes,hel]) hcell hone hn hb2 hbase
  have hat2:v'.ownBlock=v.ownBlock∨∃b,v'.ownBlock=some b∧W.heap.size≤b:=by
   rcases hat with h1|h1
   ·exact .inl h1
   ·exact .inr ⟨_,h1,Nat.le_refl _⟩
  refine ⟨v',w',hr,Grow.step g hl hEs hel (fun k hk=>?_) hown' hgrow hat2,hgrow,hat2⟩
  obtain ⟨es,h1,h2,_,_⟩:=hek k hk
  exact ⟨es,h1,g.more h2 hS⟩
theorem wpList_growN {P:Program} {ops:Array Oper} {rest:List Oper} {o:Oper} {a:Act} {Q:Exit→Act→World→Prop} (W:World) (hgd:o.guard=none) (s x:Operand) (t t':TypeId)
  (ho:o.op=.call { callee:=.builtin .append,args:=#[s,x],argTypes:=#[t,t'] }) (g:Good E sz) (hsz:0 < sz) (T:Nat→Prop) (base:Nat) (e e':TypeId) (i:TypeInfo) (z:Value) (bytes:Nat)
  (ht:P.underlying t=some (.slice e)) (ht':P.underlying t'=some (.slice e')) (hi:P.info? e=some i) (hz:i.zero=some z) (hsize:i.size=sz) (hby:i.bytes=bytes) (hzs:z.cells.size=sz)
  (v:Value) (l:List α) (hs:a.eval s=v) (hG:Grow E sz T W base e v l) (m:List α) (S:Nat→Prop) (A:Option Addr) (n c:Nat) (hx:a.eval x=.slice A n c) (hX:rdRow sz E W S m [.slice A n c]) (hS:∀b,S b→T b∧b < W.heap.size∧v.ownBlock≠some b)
  (hn:l.length+m.length≤maxLen) (hb2:(l.length+m.length)*bytes≤140737488355328) (hbase:base≤W.heap.size)
  (h:∀v' w',Grow E sz T w' base e v' (l++m)→W.grownBy w' v.ownBlock→wpList P ops Q rest (a.put o.dst v') w') :
  wpList P ops Q (o::rest) a W:=by
 refine wpList_plain hgd fun K hK=>?_
 obtain ⟨v',w',hr,h2,h3,_⟩:=run_growN (P:=P) W t t' o.type g hsz T base e e' i z bytes ht ht' hi hz hsize hby hzs v l hG m S A n c hX hS hn hb2 hbase
 unfold Oper.wp execOp
 simp only [ho,resolve,invoke,builtin,Sem.run_bind,Sem.run_pure,Result.andThen_ok,List.map_toArray,List.map_cons,List.map_nil,hs,hx,hr]
 exact hK _ _ (h v' w' h2 h3)
end
theorem rd_block {α:Type} {E:Rd α} {sz:Nat} (g:Good E sz) {w:World} {S:Nat→Prop} {b:Nat} {blk:Array Value} {T:TypeId} {l:List α} {css:List (List Value)} (hb:w.heap[b]?=some (.cells blk T (0,0))) (hS:S b)
  (hl:css.length=l.length) (hf:blk.toList=css.flatten) (hE:∀k (hk:k < l.length),∃cs,css[k]?=some cs∧E w S l[k] cs) (hm:l.length≤1000):rdRow sz E w S l [.slice (some ⟨b,0,none⟩) l.length l.length]:=by
 have hls:∀cs ∈ css,cs.length=sz:=fun cs hc=>by
  obtain ⟨k,hk,rfl⟩:=List.getElem_of_mem hc
  obtain ⟨cs,h1,h2⟩:=hE k (by omega)
  rw [List.getElem?_eq_getElem hk] at h1
  injection h1 with h1
  rw [h1];exact g.len h2
 refine ⟨_,_,rfl,Nat.le_refl _,by unfold maxLen;omega,fun k hk=>?_⟩
 obtain ⟨cs,h1,h2⟩:=hE k hk
 refine ⟨_,cs,rfl,hS,h2,g.len h2,fun j u hu=>?_⟩
 have hadd:(⟨b,0,none⟩:Addr).add (k*sz+j)=⟨b,k*sz+j,none⟩:=by unfold Addr.add;split<;>simp_all
 rw [hadd,cell_of_row w b (k*sz+j) blk T (0,0) hb]
 have:=flatten_at sz hls h1 j u hu
 rw [←hf] at this
 simpa using this
theorem new_heap (w:World) (o:Obj):(w.alloc o).heap[w.heap.size]?=some o:=heap_alloc_new w o
theorem old_heap {w:World} {b:Nat} {o':Obj} (o:Obj) (h:w.heap[b]?=some o'):(w.alloc o).heap[b]?=some o':=(Below.heap_alloc w o b (Array.getElem?_eq_some_iff.1 h).1).trans h
theorem str_eq (a b:ByteArray):(a.toList==b.toList)=decide (a=b):=by
 have h:=strEq (B a) b (B_lt a)
 rw [mk_B] at h
 rw [h,decide_eq_decide]
 exact ⟨fun h=>B_inj h,fun h=>by rw [h]⟩
def Fd.val (a:Fd):Value:=.agg #[.string a.n,.string a.v]
def Fd.cells (a:Fd):List Value:=[.string a.n,.string a.v]
def rdFd:Rd Fd:=fun _ _ a cs=>cs=a.cells
theorem rdFd_good:Good rdFd 2:=⟨fun h _=>h,fun h _=>h,fun h _ _=>h,fun h=>by rw [h];rfl,fun h u hu=>by rw [h] at hu;simp [Fd.cells] at hu;rcases hu with rfl|rfl<;>rfl⟩
abbrev rdFds:Rd (List Fd):=rdRow 2 rdFd
abbrev rdStzs:Rd (List (List Fd)):=rdRow 1 rdFds
theorem rdFds_good:Good rdFds 1:=rdRow_good rdFd_good
theorem rdStzs_good:Good rdStzs 1:=rdRow_good rdFds_good
theorem off2_add (a:Addr) (k j:Nat) (hj:j≠0):(⟨(a.add k).block,(a.add k).off+j,none⟩:Addr)=a.add (k+j):=by
 unfold Addr.add;by_cases hk:k=0<;>simp [hk,hj,Nat.add_assoc]
theorem rdFds_at {w:World} {S:Nat→Prop} {l:List Fd} {A:Option Addr} {n c:Nat} (h:rdFds w S l [.slice A n c]):n=l.length∧n≤c∧c≤maxLen∧∀k (hk:k < l.length),∃ad,A=some ad∧S ad.block∧
  w.cell? (ad.add (k*2))=some (.string l[k].n)∧w.cell? ⟨(ad.add (k*2)).block,(ad.add (k*2)).off+1,none⟩=some (.string l[k].v):=by
 obtain ⟨A',c',e,h1,h2,h⟩:=h
 simp only [List.cons.injEq,Value.slice.injEq,and_true] at e
 obtain ⟨rfl,rfl,rfl⟩:=e
 refine ⟨rfl,h1,h2,fun k hk=>?_⟩
 obtain ⟨ad,es,e,hS,hE,hl,hc⟩:=h k hk
 rw [show es=l[k].cells from hE] at hc
 exact ⟨ad,e,hS,hc 0 _ rfl,by rw [off2_add ad (k*2) 1 (by omega)];exact hc 1 _ rfl⟩
theorem rdStzs_at {w:World} {S:Nat→Prop} {l:List (List Fd)} {A:Option Addr} {n c:Nat} (h:rdStzs w S l [.slice A n c]):n=l.length∧n≤c∧c≤maxLen∧∀k (hk:k < l.length),∃ad A' c',A=some ad∧S ad.block∧
  w.cell? (ad.add k)=some (.slice A' l[k].length c')∧rdFds w S l[k] [.slice A' l[k].length c']:=by
 obtain ⟨A',c',e,h1,h2,h⟩:=h
 simp only [List.cons.injEq,Value.slice.injEq,and_true] at e
 obtain ⟨rfl,rfl,rfl⟩:=e
 refine ⟨rfl,h1,h2,fun k hk=>?_⟩
 obtain ⟨ad,es,e,hS,hE,hl,hc⟩:=h k hk
 have hE':=hE
 obtain ⟨A2,c2,rfl,_⟩:=hE'
 refine ⟨ad,A2,c2,e,hS,?_,hE⟩
 have:=hc 0 _ rfl
 rwa [Nat.mul_one] at this
theorem fd_info:(Tryz.prog.info? 78).map (fun i=>(i.zero,i.size,i.bytes))=some (some (.agg #[.string { data:=#[] },.string { data:=#[] }]),2,32):=by kernel_rfl
theorem stz_info:(Tryz.prog.info? 55).map (fun i=>(i.zero,i.size,i.bytes))=some (some (.slice none 0 0),1,24):=by kernel_rfl
theorem same_take5 {α:Type} [DecidableEq α] {l m:List α} {k:Nat} (hl:l.length=m.length) (hk:k < l.length) (hm:k < m.length) (h:l.take k=m.take k) (he:l[k]=m[k]):l.take (k+1)=m.take (k+1):=by
 rw [List.take_succ_eq_append_getElem hk,List.take_succ_eq_append_getElem hm,h,he]
structure Atm where
 n:ByteArray
 o:Int
 v:ByteArray
deriving instance DecidableEq for Atm
def Atm.val (a:Atm):Value:=.agg #[.string a.n,.int .i64 a.o,.string a.v]
def Atm.cells (a:Atm):List Value:=[.string a.n,.int .i64 a.o,.string a.v]
def rdAtm:Rd Atm:=fun _ _ a cs=>cs=a.cells
theorem rdAtm_good:Good rdAtm 3:=⟨fun h _=>h,fun h _=>h,fun h _ _=>h,fun h=>by rw [h];rfl,fun h u hu=>by rw [h] at hu;simp [Atm.cells] at hu;rcases hu with rfl|rfl|rfl<;>rfl⟩
abbrev rdAtms:Rd (List Atm):=rdRow 3 rdAtm
abbrev rdGrps:Rd (List (List Atm)):=rdRow 1 rdAtms
theorem rdAtms_good:Good rdAtms 1:=rdRow_good rdAtm_good
theorem rdGrps_good:Good rdGrps 1:=rdRow_good rdAtms_good
theorem off_add (a:Addr) (k j:Nat) (hj:j≠0):(⟨(a.add k).block,(a.add k).off+j,none⟩:Addr)=a.add (k+j):=by
 unfold Addr.add;by_cases hk:k=0<;>simp [hk,hj,Nat.add_assoc]
theorem rdAtms_at {w:World} {S:Nat→Prop} {l:List Atm} {A:Option Addr} {n c:Nat} (h:rdAtms w S l [.slice A n c]):n=l.length∧n≤c∧c≤maxLen∧∀k (hk:k < l.length),∃ad,A=some ad∧S ad.block∧
  w.cell? (ad.add (k*3))=some (.string l[k].n)∧w.cell? ⟨(ad.add (k*3)).block,(ad.add (k*3)).off+1,none⟩=some (.int .i64 l[k].o)∧w.cell? ⟨(ad.add (k*3)).block,(ad.add (k*3)).off+2,none⟩=some (.string l[k].v):=by
 obtain ⟨A',c',e,h1,h2,h⟩:=h
 simp only [List.cons.injEq,Value.slice.injEq,and_true] at e
 obtain ⟨rfl,rfl,rfl⟩:=e
 refine ⟨rfl,h1,h2,fun k hk=>?_⟩
 obtain ⟨ad,es,e,hS,hE,hl,hc⟩:=h k hk
 rw [show es=l[k].cells from hE] at hc
 exact ⟨ad,e,hS,hc 0 _ rfl,by rw [off_add ad (k*3) 1 (by omega)];exact hc 1 _ rfl,by rw [off_add ad (k*3) 2 (by omega)];exact hc 2 _ rfl⟩
theorem rdGrps_at {w:World} {S:Nat→Prop} {l:List (List Atm)} {A:Option Addr} {n c:Nat} (h:rdGrps w S l [.slice A n c]):n=l.length∧n≤c∧c≤maxLen∧∀k (hk:k < l.length),∃ad A' c',A=some ad∧S ad.block∧
  w.cell? (ad.add k)=some (.slice A' l[k].length c')∧rdAtms w S l[k] [.slice A' l[k].length c']:=by
 obtain ⟨A',c',e,h1,h2,h⟩:=h
 simp only [List.cons.injEq,Value.slice.injEq,and_true] at e
 obtain ⟨rfl,rfl,rfl⟩:=e
 refine ⟨rfl,h1,h2,fun k hk=>?_⟩
 obtain ⟨ad,es,e,hS,hE,hl,hc⟩:=h k hk
 have hE':=hE
 obtain ⟨A2,c2,rfl,_⟩:=hE'
 refine ⟨ad,A2,c2,e,hS,?_,hE⟩
 have:=hc 0 _ rfl
 rwa [Nat.mul_one] at this
theorem all_takeL {α:Type} (p:α→Bool) (l:List α) (k:Nat) (hk:k < l.length):(l.take (k+1)).all p=((l.take k).all p&&p l[k]):=by
 rw [List.take_succ_eq_append_getElem hk,List.all_append];simp
theorem all_stopL {α:Type} {p:α→Bool} {l:List α} {k:Nat} (hk:k < l.length) (h:p l[k]=false):l.all p=false:=by
 rw [List.all_eq_false];exact ⟨l[k],List.getElem_mem hk,by rw [h];decide⟩
def hasB (l:List Nat) (c:Nat):Bool:=l.contains c
theorem takeWhile_is {p:Nat→Bool}:∀{l:List Nat} {n:Nat},n≤l.length→(∀j,j < n→p (l.getD j 0)=true)→(n=l.length∨p (l.getD n 0)=false)→l.takeWhile p=l.take n
 | [],n,hn,_,_=>by simp
 | c::l,0,_,_,h=>by
  have:p c=false:=by simpa using h
  simp [this]
 | c::l,n+1,hn,h1,h2=>by
  have hc:p c=true:=by simpa using h1 0 (by omega)
  rw [List.takeWhile_cons,if_pos hc,List.take_succ_cons]
  congr 1
  exact takeWhile_is (by simpa using hn) (fun j hj=>by simpa using h1 (j+1) (by omega)) (by simpa using h2)
theorem dropWhile_is {p:Nat→Bool}:∀{l:List Nat} {n:Nat},n≤l.length→(∀j,j < n→p (l.getD j 0)=true)→(n=l.length∨p (l.getD n 0)=false)→l.dropWhile p=l.drop n
 | [],n,hn,_,_=>by simp
 | c::l,0,_,_,h=>by
  have:p c=false:=by simpa using h
  simp [this]
 | c::l,n+1,hn,h1,h2=>by
  have hc:p c=true:=by simpa using h1 0 (by omega)
  rw [List.dropWhile_cons,if_pos hc,List.drop_succ_cons]
  exact dropWhile_is (by simpa using hn) (fun j hj=>by simpa using h1 (j+1) (by omega)) (by simpa using h2)
def decF:Nat→Nat→List Nat→List Nat
 | 0,_,l=>l
 | f+1,n,l=>if n < 10 then (48+n)::l else decF f (n / 10) ((48+n % 10)::l)
def decL (n:Nat):List Nat:=decF (n+1) n []
theorem decF_lt:∀(f n:Nat) (l:List Nat),(∀c ∈ l,c < 256)→∀c ∈ decF f n l,c < 256
 | 0,_,_,h=>h
 | f+1,n,l,h=>by
  simp only [decF]
  split
  ·intro c hc
   rcases List.mem_cons.1 hc with rfl|hc
   ·omega
   ·exact h c hc
  ·refine decF_lt f _ _ (fun c hc=>?_)
   rcases List.mem_cons.1 hc with rfl|hc
   ·omega
   ·exact h c hc
theorem decL_lt (n:Nat):∀c ∈ decL n,c < 256:=decF_lt _ _ _ (by simp)
def textL (e:Nat) (u r:List Nat):List Nat:=(if e=0 then [] else decL e++[58])++u++(if r=[] then [] else 45::r)
theorem decF_len:∀(f n:Nat) (l:List Nat),(decF f n l).length≤f+l.length
 | 0,_,l=>by simp [decF]
 | f+1,n,l=>by
  simp only [decF]
  split
  ·simp;omega
  ·have:=decF_len f (n / 10) ((48+n % 10)::l);simp at this;omega
theorem decL_len (n:Nat):(decL n).length≤n+1:=by have:=decF_len (n+1) n [];simpa [decL] using this
theorem size_mk (l:List Nat):(mk l).size=l.length:=by
 unfold mk
 show (List.toArray _).size=_
 simp
theorem empty_iff (s:ByteArray):s.toList.isEmpty=true↔B s=[]:=by
 rw [toList_data,List.isEmpty_iff]
 unfold B
 simp
theorem B_colon:B { data:=#[58] }=[58]:=by decide
theorem B_dash:B { data:=#[45] }=[45]:=by decide
def numV (l:List Nat):Nat:=l.foldl (fun n c=>10*n+(c - 48)) 0
def numL (l:List Nat):Int:=if l≠[]∧l.length≤9∧l.all digB=true∧decL (numV l)=l then (numV l:Int) else -1
theorem numV_snoc (l:List Nat) (c:Nat):numV (l++[c])=10*numV l+(c - 48):=by simp [numV,List.foldl_append]
theorem digB_iff {c:Nat}:digB c=true↔48≤c∧c≤57:=by simp [digB]
theorem numV_lt:∀(l:List Nat),(∀c ∈ l,digB c=true)→numV l+1≤10 ^ l.length:=by
 intro l
 rw [←List.reverse_reverse l]
 induction l.reverse with
 | nil=>intro _;simp [numV]
 | cons c l ih=>
  intro h
  rw [List.reverse_cons,numV_snoc,List.length_append]
  have h1:=ih (fun d hd=>h d (by simp [hd]))
  have h2:=digB_iff.1 (h c (by simp))
  simp only [List.length_singleton,Nat.pow_succ,List.length_reverse] at h1 ⊢
  omega
theorem atomT_struct:Tryz.prog.underlying 109=some (.struct (Tryz.prog.fieldsOf 109)):=by kernel_rfl
theorem atomT_stood:Tryz.prog.stoodInHeld 109=false:=by kernel_rfl
theorem atomT_fields:(Tryz.prog.fieldsOf 109).toList.map (fun f=>(f.type,f.offset,f.name== "_"))=[(9,0,false),(3,1,false),(9,2,false)]:=by kernel_rfl
theorem eq_atm (x y:Atm) (w:World):(Op.equalIn 10000 109 x.val y.val).run Tryz.prog w=.ok (decide (x=y)) w:=by
 obtain ⟨u,e,r⟩:=x
 obtain ⟨u',e',r'⟩:=y
 have hi:=Tryz.underlying3
 have hs:=Tryz.underlying9
 unfold Atm.val
 rw [run_equalIn_struct w 9999 _ _ _ atomT_struct atomT_stood]
 have hf:=atomT_fields
 generalize (Tryz.prog.fieldsOf 109).toList=L at hf ⊢
 have hlen:L.length=3:=by have:=congrArg List.length hf;simpa using this
 have hst:∀a b:ByteArray,(a.toList==b.toList)=decide (a=b):=by
  intro a b
  have h:=strEq (B a) b (B_lt a)
  rw [mk_B] at h
  rw [h,decide_eq_decide]
  exact ⟨fun h=>B_inj h,fun h=>by rw [h]⟩
 rcases L with _|⟨f0,_|⟨f1,_|⟨f2,_|⟨f3,L⟩⟩⟩⟩
 ·simp at hlen
 ·simp at hlen
 ·simp at hlen
 ·simp only [List.map_cons,List.map_nil,List.cons.injEq,Prod.mk.injEq,and_true] at hf
  obtain ⟨⟨a0,b0,c0⟩,⟨a1,b1,c1⟩,⟨a2,b2,c2⟩⟩:=hf
  have n0:f0.name≠ "_":=by simpa using c0
  have n1:f1.name≠ "_":=by simpa using c1
  have n2:f2.name≠ "_":=by simpa using c2
  simp only [Op.eqFields,n0,n1,n2,ne_eq,not_false_iff,if_true,a0,b0,a1,b1,a2,b2,Atm.mk.injEq]
  cases h1:(e==e')<;>cases h2:(u.toList==u'.toList)<;>cases h3:(r.toList==r'.toList)<;>simp [part,isAgg,run_underlying hi,run_underlying hs,run_equalIn_int w 9998 _ _ _ _ _ hi,run_equalIn_string w 9998 _ _ _ hs,h1,h2,h3]<;>rw [hst] at h2 h3<;>simp_all
 ·simp at hlen
theorem neq_atm (x y:Atm) (w:World):(Op.equalIn 10000 109 (.agg #[.string x.n,.int .i64 x.o,.string x.v]) (.agg #[.string y.n,.int .i64 y.o,.string y.v])).run Tryz.prog w=.ok (decide (x=y)) w:=eq_atm x y w
theorem same_take {α:Type} [DecidableEq α] {l m:List α} {k:Nat} (hl:l.length=m.length) (hk:k < l.length) (hm:k < m.length) (h:l.take k=m.take k) (he:l[k]=m[k]):l.take (k+1)=m.take (k+1):=by
 rw [List.take_succ_eq_append_getElem hk,List.take_succ_eq_append_getElem hm,h,he]
structure Ent where
 n:ByteArray
 v:ByteArray
 d:List (List Atm)
 r:List (List Atm)
 c:List Atm
 p:List Atm
deriving instance DecidableEq for Ent
def rdEnt:Rd Ent:=fun w S x cs=>∃dv rv cv pv,cs=[.string x.n,.string x.v,dv,rv,cv,pv]∧rdGrps w S x.d [dv]∧rdGrps w S x.r [rv]∧rdAtms w S x.c [cv]∧rdAtms w S x.p [pv]
theorem rdEnt_good:Good rdEnt 6 where
 keep:=by
  rintro w w' S x cs ⟨dv,rv,cv,pv,e,h1,h2,h3,h4⟩ hk
  exact ⟨dv,rv,cv,pv,e,rdGrps_good.keep h1 hk,rdGrps_good.keep h2 hk,rdAtms_good.keep h3 hk,rdAtms_good.keep h4 hk⟩
 more:=by
  rintro w S S' x cs ⟨dv,rv,cv,pv,e,h1,h2,h3,h4⟩ hm
  exact ⟨dv,rv,cv,pv,e,rdGrps_good.more h1 hm,rdGrps_good.more h2 hm,rdAtms_good.more h3 hm,rdAtms_good.more h4 hm⟩
 turn:=by
  rintro w w' S x cs row ⟨dv,rv,cv,pv,e,h1,h2,h3,h4⟩ hg hr
  exact ⟨dv,rv,cv,pv,e,rdGrps_good.turn h1 hg hr,rdGrps_good.turn h2 hg hr,rdAtms_good.turn h3 hg hr,rdAtms_good.turn h4 hg hr⟩
 len:=by rintro w S x cs ⟨dv,rv,cv,pv,rfl,_⟩;rfl
 one:=by
  rintro w S x cs ⟨dv,rv,cv,pv,rfl,h1,h2,h3,h4⟩ u hu
  simp only [List.mem_cons,List.not_mem_nil,or_false] at hu
  rcases hu with rfl|rfl|rfl|rfl|rfl|rfl
  ·rfl
  ·rfl
  ·exact rdGrps_good.one h1 _ (by simp)
  ·exact rdGrps_good.one h2 _ (by simp)
  ·exact rdAtms_good.one h3 _ (by simp)
  ·exact rdAtms_good.one h4 _ (by simp)
structure EntV (w:World) (S:Nat→Prop) (x:Ent) (A1:Option Addr) (c1:Nat) (A2:Option Addr) (c2:Nat) (A3:Option Addr) (c3:Nat) (A4:Option Addr) (c4:Nat):Prop where
 d:rdGrps w S x.d [.slice A1 x.d.length c1]
 r:rdGrps w S x.r [.slice A2 x.r.length c2]
 c:rdAtms w S x.c [.slice A3 x.c.length c3]
 p:rdAtms w S x.p [.slice A4 x.p.length c4]
theorem EntV.below {w w':World} {N:Nat} {x:Ent} {A1 A2 A3 A4:Option Addr} {c1 c2 c3 c4:Nat} (h:EntV w (lt_ N) x A1 c1 A2 c2 A3 c3 A4 c4) (hb:Below N w w'):EntV w' (lt_ N) x A1 c1 A2 c2 A3 c3 A4 c4:=
 ⟨rdGrps_good.below h.d hb,rdGrps_good.below h.r hb,rdAtms_good.below h.c hb,rdAtms_good.below h.p hb⟩
theorem EntV.up {w:World} {N N':Nat} {x:Ent} {A1 A2 A3 A4:Option Addr} {c1 c2 c3 c4:Nat} (h:EntV w (lt_ N) x A1 c1 A2 c2 A3 c3 A4 c4) (hn:N≤N'):EntV w (lt_ N') x A1 c1 A2 c2 A3 c3 A4 c4:=
 ⟨rdGrps_good.up h.d hn,rdGrps_good.up h.r hn,rdAtms_good.up h.c hn,rdAtms_good.up h.p hn⟩
theorem EntV.on {w w':World} {x:Ent} {A1 A2 A3 A4:Option Addr} {c1 c2 c3 c4:Nat} (h:EntV w (lt_ w.heap.size) x A1 c1 A2 c2 A3 c3 A4 c4) (hb:Below w.heap.size w w'):EntV w' (lt_ w'.heap.size) x A1 c1 A2 c2 A3 c3 A4 c4:=(h.below hb).up hb.size
abbrev Ent.val (x:Ent) (A1:Option Addr) (c1:Nat) (A2:Option Addr) (c2:Nat) (A3:Option Addr) (c3:Nat) (A4:Option Addr) (c4:Nat):Value:=
 .agg #[.string x.n,.string x.v,.slice A1 x.d.length c1,.slice A2 x.r.length c2,.slice A3 x.c.length c3,.slice A4 x.p.length c4]
structure Hr where
 e:Ent
 a:Bool
 h:Bool
deriving instance DecidableEq for Hr
def rdHr:Rd Hr:=fun w S x cs=>∃es,cs=es++[.bool x.a,.bool x.h]∧rdEnt w S x.e es
theorem rdHr_good:Good rdHr 8 where
 keep:=by
  rintro w w' S x cs ⟨es,e,h⟩ hk
  exact ⟨es,e,rdEnt_good.keep h hk⟩
 more:=by
  rintro w S S' x cs ⟨es,e,h⟩ hm
  exact ⟨es,e,rdEnt_good.more h hm⟩
 turn:=by
  rintro w w' S x cs row ⟨es,e,h⟩ hg hr
  exact ⟨es,e,rdEnt_good.turn h hg hr⟩
 len:=by
  rintro w S x cs ⟨es,rfl,h⟩
  rw [List.length_append,rdEnt_good.len h];rfl
 one:=by
  rintro w S x cs ⟨es,rfl,h⟩ u hu
  rcases List.mem_append.1 hu with hu|hu
  ·exact rdEnt_good.one h u hu
  ·simp only [List.mem_cons,List.not_mem_nil,or_false] at hu
   rcases hu with rfl|rfl<;>rfl
abbrev rdHrs:Rd (List Hr):=rdRow 8 rdHr
theorem rdHrs_good:Good rdHrs 1:=rdRow_good rdHr_good
abbrev Hr.val (x:Hr) (A1:Option Addr) (c1:Nat) (A2:Option Addr) (c2:Nat) (A3:Option Addr) (c3:Nat) (A4:Option Addr) (c4:Nat):Value:=
 .agg #[.string x.e.n,.string x.e.v,.slice A1 x.e.d.length c1,.slice A2 x.e.r.length c2,.slice A3 x.e.c.length c3,.slice A4 x.e.p.length c4,.bool x.a,.bool x.h]
theorem rdHrs_at {w:World} {S:Nat→Prop} {l:List Hr} {A:Option Addr} {n c:Nat} (h:rdHrs w S l [.slice A n c]):n=l.length∧n≤c∧c≤maxLen∧∀k (hk:k < l.length),∃ad A1 c1 A2 c2 A3 c3 A4 c4,A=some ad∧S ad.block∧EntV w S l[k].e A1 c1 A2 c2 A3 c3 A4 c4∧
  w.cell? (ad.add (k*8))=some (.string l[k].e.n)∧w.cell? ⟨(ad.add (k*8)).block,(ad.add (k*8)).off+1,none⟩=some (.string l[k].e.v)∧w.cell? ⟨(ad.add (k*8)).block,(ad.add (k*8)).off+2,none⟩=some (.slice A1 l[k].e.d.length c1)∧
  w.cell? ⟨(ad.add (k*8)).block,(ad.add (k*8)).off+3,none⟩=some (.slice A2 l[k].e.r.length c2)∧w.cell? ⟨(ad.add (k*8)).block,(ad.add (k*8)).off+4,none⟩=some (.slice A3 l[k].e.c.length c3)∧w.cell? ⟨(ad.add (k*8)).block,(ad.add (k*8)).off+5,none⟩=some (.slice A4 l[k].e.p.length c4)∧
  w.cell? ⟨(ad.add (k*8)).block,(ad.add (k*8)).off+6,none⟩=some (.bool l[k].a)∧w.cell? ⟨(ad.add (k*8)).block,(ad.add (k*8)).off+7,none⟩=some (.bool l[k].h):=by
 obtain ⟨A',c',e,h1,h2,h⟩:=h
 simp only [List.cons.injEq,Value.slice.injEq,and_true] at e
 obtain ⟨rfl,rfl,rfl⟩:=e
 refine ⟨rfl,h1,h2,fun k hk=>?_⟩
 obtain ⟨ad,es,e,hS,⟨es6,rfl,⟨dv,rv,cv,pv,rfl,g1,g2,g3,g4⟩⟩,hl,hc⟩:=h k hk
 obtain ⟨A1,c1,e1,_⟩:=id g1
 obtain ⟨A2,c2,e2,_⟩:=id g2
 obtain ⟨A3,c3,e3,_⟩:=id g3
 obtain ⟨A4,c4,e4,_⟩:=id g4
 simp only [List.cons.injEq,and_true] at e1 e2 e3 e4
 subst e1
 subst e2
 subst e3
 subst e4
 exact ⟨ad,A1,c1,A2,c2,A3,c3,A4,c4,e,hS,⟨g1,g2,g3,g4⟩,hc 0 _ rfl,by rw [off_add ad (k*8) 1 (by omega)];exact hc 1 _ rfl,by rw [off_add ad (k*8) 2 (by omega)];exact hc 2 _ rfl,by rw [off_add ad (k*8) 3 (by omega)];exact hc 3 _ rfl,by rw [off_add ad (k*8) 4 (by omega)];exact hc 4 _ rfl,by rw [off_add ad (k*8) 5 (by omega)];exact hc 5 _ rfl,by rw [off_add ad (k*8) 6 (by omega)];exact hc 6 _ rfl,by rw [off_add ad (k*8) 7 (by omega)];exact hc 7 _ rfl⟩
set_option maxHeartbeats 1000000 in
theorem sameAtoms7_any (A A':Option Addr) (n c n' c':Nat) (l m:List Atm) (w:World) (h:rdAtms w (lt_ w.heap.size) l [.slice A n c]) (h':rdAtms w (lt_ w.heap.size) m [.slice A' n' c']) :
  Calls Tryz.prog 91 #[.slice A n c,.slice A' n' c'] w fun e w'=>e=.returned (.bool (decide (l=m)))∧Dr w w':=by
 obtain ⟨rfl,hnc,hcm,_⟩:=rdAtms_at h
 obtain ⟨rfl,hnc',hcm',_⟩:=rdAtms_at h'
 have hcm1:c≤9223372036854775807:=hcm
 have hcm2:c'≤9223372036854775807:=hcm'
 by_cases hlen:l.length=m.length
 ·have hd:((l.length:Int) != (m.length:Int))=false:=by rw [hlen];simp
  have HL:=Lib.hid hlen
  clear hlen
  go_enter Tryz.func91,Tryz.ntmps91
  go_wp2
  go_loopw [5] (fun i wr=>∃k:Nat,k≤l.length∧i=.int .i64 k∧l.take k=m.take k∧Dr w wr) (fun i _=>l.length - (intOf i).toNat)
  case atStart=>exact ⟨0,Nat.zero_le _,rfl,rfl,Dr.refl _⟩
  case round=>
   obtain ⟨k,hk,rfl,htk,hbel⟩:=hrel
   by_cases hlt:k < l.length
   ·obtain ⟨_,_,_,ha⟩:=rdAtms_at (rdAtms_good.below h (hbel.below _))
    obtain ⟨_,_,_,hb⟩:=rdAtms_at (rdAtms_good.below h' (hbel.below _))
    have hltm:k < m.length:=by rw [←HL.out];exact hlt
    obtain ⟨ad,rfl,had,h0,h1,h2⟩:=ha k hlt
    obtain ⟨ad',rfl,had',g0,g1,g2⟩:=hb k hltm
    have T:=Lib.hid (same_take (l:=l) (m:=m) HL.out hlt hltm htk)
    have Z:=Lib.hid (show l[k]≠m[k]→l≠m from fun hn e=>hn (by subst e;rfl))
    have HB:=Lib.hid hbel
    have hki:(k:Int) < (m.length:Int):=by omega
    clear htk ha hb hbel h h'
    have hq:=neq_atm l[k] m[k]
    generalize l[k]=x at *
    generalize m[k]=y at *
    by_cases he:x=y
    ·rw [decide_eq_true he] at hq
     have HE:=Lib.hid he
     clear he
     go_wp2_with fail
     go_quiet (fail)
     go_wp2
     go_roundw
     case rel=>exact ⟨k+1,by omega,by go_num,T.out HE.out,HB.out.more _⟩
     case measure=>simp [intOf];omega
    ·rw [decide_eq_false he] at hq
     have HE:=Lib.hid he
     clear he
     go_wp2_with fail
     go_quiet (fail)
     go_wp2
     go_ret
     exact ⟨by rw [decide_eq_false (Z.out HE.out)];try rfl,HB.out.more _⟩
   ·obtain rfl:k=l.length:=by omega
    have X:=Lib.hid (show l=m by rw [List.take_length] at htk;rw [htk,HL.out,List.take_length])
    clear htk h h'
    go_wp2
    go_ret
    exact ⟨by rw [decide_eq_true X.out];try rfl,hbel⟩
 ·have hd:((l.length:Int) != (m.length:Int))=true:=by rw [bne_iff_ne];omega
  have X:=Lib.hid (show l≠m by rintro rfl;exact hlen rfl)
  clear hlen
  go_enter Tryz.func91,Tryz.ntmps91
  go_wp2
  go_ret
  exact ⟨by rw [decide_eq_false X.out];try rfl,Dr.refl _⟩
set_option maxHeartbeats 1000000 in
theorem sameGroups7_any (A A':Option Addr) (n c n' c':Nat) (l m:List (List Atm)) (w:World) (h:rdGrps w (lt_ w.heap.size) l [.slice A n c]) (h':rdGrps w (lt_ w.heap.size) m [.slice A' n' c']) :
  Calls Tryz.prog 90 #[.slice A n c,.slice A' n' c'] w fun e w'=>e=.returned (.bool (decide (l=m)))∧Dr w w':=by
 obtain ⟨rfl,hnc,hcm,_⟩:=rdGrps_at h
 obtain ⟨rfl,hnc',hcm',_⟩:=rdGrps_at h'
 have hcm1:c≤9223372036854775807:=hcm
 have hcm2:c'≤9223372036854775807:=hcm'
 by_cases hlen:l.length=m.length
 ·have hd:((l.length:Int) != (m.length:Int))=false:=by rw [hlen];simp
  have HL:=Lib.hid hlen
  clear hlen
  go_enter Tryz.func90,Tryz.ntmps90
  go_wp2
  go_loopw [5] (fun i wr=>∃k:Nat,k≤l.length∧i=.int .i64 k∧l.take k=m.take k∧Dr w wr) (fun i _=>l.length - (intOf i).toNat)
  case atStart=>exact ⟨0,Nat.zero_le _,rfl,rfl,Dr.refl _⟩
  case round=>
   obtain ⟨k,hk,rfl,htk,hbel⟩:=hrel
   by_cases hlt:k < l.length
   ·obtain ⟨_,_,_,ha⟩:=rdGrps_at (rdGrps_good.below h (hbel.below _))
    obtain ⟨_,_,_,hb⟩:=rdGrps_at (rdGrps_good.below h' (hbel.below _))
    have hltm:k < m.length:=by rw [←HL.out];exact hlt
    obtain ⟨ad,X,cx,rfl,had,h0,h1⟩:=ha k hlt
    obtain ⟨ad',Y,cy,rfl,had',g0,g1⟩:=hb k hltm
    have T:=Lib.hid (same_take (l:=l) (m:=m) HL.out hlt hltm htk)
    have Z:=Lib.hid (show l[k]≠m[k]→l≠m from fun hn e=>hn (by subst e;rfl))
    have HB:=Lib.hid hbel
    have hki:(k:Int) < (m.length:Int):=by omega
    have hsz:=hbel.size
    have K:=Lib.hid (fun nq=>sameAtoms7_any _ _ _ _ _ _ _ _ (wr.drewN nq) (rdAtms_good.below (rdAtms_good.up h1 (Nat.le_of_eq hsz.symm)) (belD (Below.refl _ _) nq)) (rdAtms_good.below (rdAtms_good.up g1 (Nat.le_of_eq hsz.symm)) (belD (Below.refl _ _) nq)))
    clear htk ha hb hbel h h' h1 g1 hsz
    generalize l[k]=x at *
    generalize m[k]=y at *
    by_cases he:x=y
    ·rw [decide_eq_true he] at K
     have HE:=Lib.hid he
     clear he
     go_wp2_with fail
     go_quiet (first|(go_at_call 91;refine Calls.quiet_of (K.out _)))
     go_wp2
     go_roundw
     case rel=>exact ⟨k+1,by omega,by go_num,T.out HE.out,HB.out.more _⟩
     case measure=>simp [intOf];omega
    ·rw [decide_eq_false he] at K
     have HE:=Lib.hid he
     clear he
     go_wp2_with fail
     go_quiet (first|(go_at_call 91;refine Calls.quiet_of (K.out _)))
     go_wp2
     go_ret
     exact ⟨by rw [decide_eq_false (Z.out HE.out)];try rfl,HB.out.more _⟩
   ·obtain rfl:k=l.length:=by omega
    have X:=Lib.hid (show l=m by rw [List.take_length] at htk;rw [htk,HL.out,List.take_length])
    clear htk h h'
    go_wp2
    go_ret
    exact ⟨by rw [decide_eq_true X.out];try rfl,hbel⟩
 ·have hd:((l.length:Int) != (m.length:Int))=true:=by rw [bne_iff_ne];omega
  have X:=Lib.hid (show l≠m by rintro rfl;exact hlen rfl)
  clear hlen
  go_enter Tryz.func90,Tryz.ntmps90
  go_wp2
  go_ret
  exact ⟨by rw [decide_eq_false X.out];try rfl,Dr.refl _⟩
abbrev al67E (w:World) (n v n' v':ByteArray) (A1:Option Addr) (l1 c1:Nat) (A2:Option Addr) (l2 c2:Nat) (A3:Option Addr) (l3 c3:Nat) (A4:Option Addr) (l4 c4:Nat) (B1:Option Addr) (m1 d1:Nat) (B2:Option Addr) (m2 d2:Nat) (B3:Option Addr) (m3 d3:Nat) (B4:Option Addr) (m4 d4:Nat):World:=
 (w.alloc (.cells #[.string n,.string v,.slice A1 l1 c1,.slice A2 l2 c2,.slice A3 l3 c3,.slice A4 l4 c4] 34)).alloc (.cells #[.string n',.string v',.slice B1 m1 d1,.slice B2 m2 d2,.slice B3 m3 d3,.slice B4 m4 d4] 34)
set_option maxHeartbeats 8000000 in
theorem sameEnt7_any (x y:Ent) (A1:Option Addr) (c1:Nat) (A2:Option Addr) (c2:Nat) (A3:Option Addr) (c3:Nat) (A4:Option Addr) (c4:Nat) (B1:Option Addr) (d1:Nat) (B2v:Option Addr) (d2:Nat) (B3:Option Addr) (d3:Nat) (B4:Option Addr) (d4:Nat) (w:World) (hx:EntV w (lt_ w.heap.size) x A1 c1 A2 c2 A3 c3 A4 c4) (hy:EntV w (lt_ w.heap.size) y B1 d1 B2v d2 B3 d3 B4 d4) :
  Calls Tryz.prog 49 #[x.val A1 c1 A2 c2 A3 c3 A4 c4,y.val B1 d1 B2v d2 B3 d3 B4 d4] w fun e w'=>e=.returned (.bool (decide (x=y)))∧Below w.heap.size w w':=by
 obtain ⟨n,v,d,r,c,p⟩:=x
 obtain ⟨n',v',d',r',c',p'⟩:=y
 have B2:=Lib.hid (show Below w.heap.size w (al67E w n v n' v' A1 d.length c1 A2 r.length c2 A3 c.length c3 A4 p.length c4 B1 d'.length d1 B2v r'.length d2 B3 c'.length d3 B4 p'.length d4) from ((Below.refl _ w).alloc (Nat.le_refl _) _).alloc (by simp) _)
 have KX:=Lib.hid (fun (W:World) (hb:Below (al67E w n v n' v' A1 d.length c1 A2 r.length c2 A3 c.length c3 A4 p.length c4 B1 d'.length d1 B2v r'.length d2 B3 c'.length d3 B4 p'.length d4).heap.size (al67E w n v n' v' A1 d.length c1 A2 r.length c2 A3 c.length c3 A4 p.length c4 B1 d'.length d1 B2v r'.length d2 B3 c'.length d3 B4 p'.length d4) W)=>(show W.cell? ⟨w.heap.size,2,none⟩=some (.slice A1 d.length c1)∧W.cell? ⟨w.heap.size,3,none⟩=some (.slice A2 r.length c2)∧W.cell? ⟨w.heap.size,4,none⟩=some (.slice A3 c.length c3)∧W.cell? ⟨w.heap.size,5,none⟩=some (.slice A4 p.length c4)∧W.cell? ⟨w.heap.size+1,2,none⟩=some (.slice B1 d'.length d1)∧W.cell? ⟨w.heap.size+1,3,none⟩=some (.slice B2v r'.length d2)∧W.cell? ⟨w.heap.size+1,4,none⟩=some (.slice B3 c'.length d3)∧W.cell? ⟨w.heap.size+1,5,none⟩=some (.slice B4 p'.length d4) from by
  have z:(al67E w n v n' v' A1 d.length c1 A2 r.length c2 A3 c.length c3 A4 p.length c4 B1 d'.length d1 B2v r'.length d2 B3 c'.length d3 B4 p'.length d4).heap.size=w.heap.size+2:=by rw [World.size_alloc,World.size_alloc]
  refine ⟨(hb.cell (show (⟨w.heap.size,2,none⟩:Addr).block < _ by rw [z];show w.heap.size < _;omega)).trans (by simp [go_sem]),(hb.cell (show (⟨w.heap.size,3,none⟩:Addr).block < _ by rw [z];show w.heap.size < _;omega)).trans (by simp [go_sem]),(hb.cell (show (⟨w.heap.size,4,none⟩:Addr).block < _ by rw [z];show w.heap.size < _;omega)).trans (by simp [go_sem]),(hb.cell (show (⟨w.heap.size,5,none⟩:Addr).block < _ by rw [z];show w.heap.size < _;omega)).trans (by simp [go_sem]),(hb.cell (show (⟨w.heap.size+1,2,none⟩:Addr).block < _ by rw [z];show w.heap.size+1 < _;omega)).trans (by simp [go_sem]),(hb.cell (show (⟨w.heap.size+1,3,none⟩:Addr).block < _ by rw [z];show w.heap.size+1 < _;omega)).trans (by simp [go_sem]),(hb.cell (show (⟨w.heap.size+1,4,none⟩:Addr).block < _ by rw [z];show w.heap.size+1 < _;omega)).trans (by simp [go_sem]),(hb.cell (show (⟨w.heap.size+1,5,none⟩:Addr).block < _ by rw [z];show w.heap.size+1 < _;omega)).trans (by simp [go_sem])⟩))
 have HX:=Lib.hid hx
 have HY:=Lib.hid hy
 have KD:=Lib.hid (fun W (hb:Below w.heap.size w W)=>sameGroups7_any A1 B1 d.length c1 d'.length d1 d d' W (HX.out.on hb).d (HY.out.on hb).d)
 have KR:=Lib.hid (fun W (hb:Below w.heap.size w W)=>sameGroups7_any A2 B2v r.length c2 r'.length d2 r r' W (HX.out.on hb).r (HY.out.on hb).r)
 have KC:=Lib.hid (fun W (hb:Below w.heap.size w W)=>sameAtoms7_any A3 B3 c.length c3 c'.length d3 c c' W (HX.out.on hb).c (HY.out.on hb).c)
 have KP:=Lib.hid (fun W (hb:Below w.heap.size w W)=>sameAtoms7_any A4 B4 p.length c4 p'.length d4 p p' W (HX.out.on hb).p (HY.out.on hb).p)
 show Calls Tryz.prog 49 #[.agg #[.string n,.string v,.slice A1 d.length c1,.slice A2 r.length c2,.slice A3 c.length c3,.slice A4 p.length c4],.agg #[.string n',.string v',.slice B1 d'.length d1,.slice B2v r'.length d2,.slice B3 c'.length d3,.slice B4 p'.length d4]] w _
 clear hx hy
 have en:=str_eq n n'
 have ev:=str_eq v v'
 by_cases q0:¬n=n'
 ·have X:=Lib.hid (show decide ((⟨n,v,d,r,c,p⟩:Ent)=⟨n',v',d',r',c',p'⟩)=false from decide_eq_false fun e=>q0 (congrArg Ent.n e))
  rw [decide_eq_false q0] at en
  clear q0 ev
  go_enter Tryz.func49,Tryz.ntmps49
  go_wp2
  go_ret
  exact ⟨by rw [X.out];try rfl,B2.out⟩
 have q0:=Decidable.not_not.1 q0
 by_cases q1:¬v=v'
 ·have X:=Lib.hid (show decide ((⟨n,v,d,r,c,p⟩:Ent)=⟨n',v',d',r',c',p'⟩)=false from decide_eq_false fun e=>q1 (congrArg Ent.v e))
  rw [decide_eq_true q0] at en
  rw [decide_eq_false q1] at ev
  clear q0 q1
  go_enter Tryz.func49,Tryz.ntmps49
  go_wp2
  go_ret
  exact ⟨by rw [X.out];try rfl,B2.out⟩
 have q1:=Decidable.not_not.1 q1
 by_cases q2:¬d=d'
 ·have X:=Lib.hid (show decide ((⟨n,v,d,r,c,p⟩:Ent)=⟨n',v',d',r',c',p'⟩)=false from decide_eq_false fun e=>q2 (congrArg Ent.d e))
  rw [decide_eq_true q0] at en
  rw [decide_eq_true q1] at ev
  rw [decide_eq_false q2] at KD
  clear q0 q1 q2
  go_enter Tryz.func49,Tryz.ntmps49
  go_wp2_with fail
  refine (KD.out _ B2.out).mono ?_
  rintro e w3 ⟨rfl,hdr⟩
  have C0:=Lib.hid (B2.out.trans ((hdr.below _).mono B2.out.size))
  have V0:=Lib.hid (show Below (al67E w n v n' v' A1 d.length c1 A2 r.length c2 A3 c.length c3 A4 p.length c4 B1 d'.length d1 B2v r'.length d2 B3 c'.length d3 B4 p'.length d4).heap.size (al67E w n v n' v' A1 d.length c1 A2 r.length c2 A3 c.length c3 A4 p.length c4 B1 d'.length d1 B2v r'.length d2 B3 c'.length d3 B4 p'.length d4) w3 from (Below.refl (al67E w n v n' v' A1 d.length c1 A2 r.length c2 A3 c.length c3 A4 p.length c4 B1 d'.length d1 B2v r'.length d2 B3 c'.length d3 B4 p'.length d4).heap.size (al67E w n v n' v' A1 d.length c1 A2 r.length c2 A3 c.length c3 A4 p.length c4 B1 d'.length d1 B2v r'.length d2 B3 c'.length d3 B4 p'.length d4)).trans ((hdr.below _).mono (Below.refl (al67E w n v n' v' A1 d.length c1 A2 r.length c2 A3 c.length c3 A4 p.length c4 B1 d'.length d1 B2v r'.length d2 B3 c'.length d3 B4 p'.length d4).heap.size (al67E w n v n' v' A1 d.length c1 A2 r.length c2 A3 c.length c3 A4 p.length c4 B1 d'.length d1 B2v r'.length d2 B3 c'.length d3 B4 p'.length d4)).size))
  clear hdr
  obtain ⟨a2,a3,a4,a5,b2,b3,b4,b5⟩:=KX.out _ V0.out
  go_wp2
  go_ret
  exact ⟨by rw [X.out];try rfl,C0.out⟩
 have q2:=Decidable.not_not.1 q2
 by_cases q3:¬r=r'
 ·have X:=Lib.hid (show decide ((⟨n,v,d,r,c,p⟩:Ent)=⟨n',v',d',r',c',p'⟩)=false from decide_eq_false fun e=>q3 (congrArg Ent.r e))
  rw [decide_eq_true q0] at en
  rw [decide_eq_true q1] at ev
  rw [decide_eq_true q2] at KD
  rw [decide_eq_false q3] at KR
  clear q0 q1 q2 q3
  go_enter Tryz.func49,Tryz.ntmps49
  go_wp2_with fail
  refine (KD.out _ B2.out).mono ?_
  rintro e w3 ⟨rfl,hdr⟩
  have C0:=Lib.hid (B2.out.trans ((hdr.below _).mono B2.out.size))
  have V0:=Lib.hid (show Below (al67E w n v n' v' A1 d.length c1 A2 r.length c2 A3 c.length c3 A4 p.length c4 B1 d'.length d1 B2v r'.length d2 B3 c'.length d3 B4 p'.length d4).heap.size (al67E w n v n' v' A1 d.length c1 A2 r.length c2 A3 c.length c3 A4 p.length c4 B1 d'.length d1 B2v r'.length d2 B3 c'.length d3 B4 p'.length d4) w3 from (Below.refl (al67E w n v n' v' A1 d.length c1 A2 r.length c2 A3 c.length c3 A4 p.length c4 B1 d'.length d1 B2v r'.length d2 B3 c'.length d3 B4 p'.length d4).heap.size (al67E w n v n' v' A1 d.length c1 A2 r.length c2 A3 c.length c3 A4 p.length c4 B1 d'.length d1 B2v r'.length d2 B3 c'.length d3 B4 p'.length d4)).trans ((hdr.below _).mono (Below.refl (al67E w n v n' v' A1 d.length c1 A2 r.length c2 A3 c.length c3 A4 p.length c4 B1 d'.length d1 B2v r'.length d2 B3 c'.length d3 B4 p'.length d4).heap.size (al67E w n v n' v' A1 d.length c1 A2 r.length c2 A3 c.length c3 A4 p.length c4 B1 d'.length d1 B2v r'.length d2 B3 c'.length d3 B4 p'.length d4)).size))
  clear hdr
  obtain ⟨a2,a3,a4,a5,b2,b3,b4,b5⟩:=KX.out _ V0.out
  go_wp2_with fail
  refine (KR.out _ C0.out).mono ?_
  rintro e w4 ⟨rfl,hdr⟩
  have C1:=Lib.hid (C0.out.trans ((hdr.below _).mono C0.out.size))
  have V1:=Lib.hid (show Below (al67E w n v n' v' A1 d.length c1 A2 r.length c2 A3 c.length c3 A4 p.length c4 B1 d'.length d1 B2v r'.length d2 B3 c'.length d3 B4 p'.length d4).heap.size (al67E w n v n' v' A1 d.length c1 A2 r.length c2 A3 c.length c3 A4 p.length c4 B1 d'.length d1 B2v r'.length d2 B3 c'.length d3 B4 p'.length d4) w4 from V0.out.trans ((hdr.below _).mono V0.out.size))
  clear hdr
  clear a2 b2 a3 b3 a4 b4 a5 b5
  obtain ⟨a2,a3,a4,a5,b2,b3,b4,b5⟩:=KX.out _ V1.out
  go_wp2
  go_ret
  exact ⟨by rw [X.out];try rfl,C1.out⟩
 have q3:=Decidable.not_not.1 q3
 by_cases q4:¬c=c'
 ·have X:=Lib.hid (show decide ((⟨n,v,d,r,c,p⟩:Ent)=⟨n',v',d',r',c',p'⟩)=false from decide_eq_false fun e=>q4 (congrArg Ent.c e))
  rw [decide_eq_true q0] at en
  rw [decide_eq_true q1] at ev
  rw [decide_eq_true q2] at KD
  rw [decide_eq_true q3] at KR
  rw [decide_eq_false q4] at KC
  clear q0 q1 q2 q3 q4
  go_enter Tryz.func49,Tryz.ntmps49
  go_wp2_with fail
  refine (KD.out _ B2.out).mono ?_
  rintro e w3 ⟨rfl,hdr⟩
  have C0:=Lib.hid (B2.out.trans ((hdr.below _).mono B2.out.size))
  have V0:=Lib.hid (show Below (al67E w n v n' v' A1 d.length c1 A2 r.length c2 A3 c.length c3 A4 p.length c4 B1 d'.length d1 B2v r'.length d2 B3 c'.length d3 B4 p'.length d4).heap.size (al67E w n v n' v' A1 d.length c1 A2 r.length c2 A3 c.length c3 A4 p.length c4 B1 d'.length d1 B2v r'.length d2 B3 c'.length d3 B4 p'.length d4) w3 from (Below.refl (al67E w n v n' v' A1 d.length c1 A2 r.length c2 A3 c.length c3 A4 p.length c4 B1 d'.length d1 B2v r'.length d2 B3 c'.length d3 B4 p'.length d4).heap.size (al67E w n v n' v' A1 d.length c1 A2 r.length c2 A3 c.length c3 A4 p.length c4 B1 d'.length d1 B2v r'.length d2 B3 c'.length d3 B4 p'.length d4)).trans ((hdr.below _).mono (Below.refl (al67E w n v n' v' A1 d.length c1 A2 r.length c2 A3 c.length c3 A4 p.length c4 B1 d'.length d1 B2v r'.length d2 B3 c'.length d3 B4 p'.length d4).heap.size (al67E w n v n' v' A1 d.length c1 A2 r.length c2 A3 c.length c3 A4 p.length c4 B1 d'.length d1 B2v r'.length d2 B3 c'.length d3 B4 p'.length d4)).size))
  clear hdr
  obtain ⟨a2,a3,a4,a5,b2,b3,b4,b5⟩:=KX.out _ V0.out
  go_wp2_with fail
  refine (KR.out _ C0.out).mono ?_
  rintro e w4 ⟨rfl,hdr⟩
  have C1:=Lib.hid (C0.out.trans ((hdr.below _).mono C0.out.size))
  have V1:=Lib.hid (show Below (al67E w n v n' v' A1 d.length c1 A2 r.length c2 A3 c.length c3 A4 p.length c4 B1 d'.length d1 B2v r'.length d2 B3 c'.length d3 B4 p'.length d4).heap.size (al67E w n v n' v' A1 d.length c1 A2 r.length c2 A3 c.length c3 A4 p.length c4 B1 d'.length d1 B2v r'.length d2 B3 c'.length d3 B4 p'.length d4) w4 from V0.out.trans ((hdr.below _).mono V0.out.size))
  clear hdr
  clear a2 b2 a3 b3 a4 b4 a5 b5
  obtain ⟨a2,a3,a4,a5,b2,b3,b4,b5⟩:=KX.out _ V1.out
  go_wp2_with fail
  refine (KC.out _ C1.out).mono ?_
  rintro e w5 ⟨rfl,hdr⟩
  have C2:=Lib.hid (C1.out.trans ((hdr.below _).mono C1.out.size))
  have V2:=Lib.hid (show Below (al67E w n v n' v' A1 d.length c1 A2 r.length c2 A3 c.length c3 A4 p.length c4 B1 d'.length d1 B2v r'.length d2 B3 c'.length d3 B4 p'.length d4).heap.size (al67E w n v n' v' A1 d.length c1 A2 r.length c2 A3 c.length c3 A4 p.length c4 B1 d'.length d1 B2v r'.length d2 B3 c'.length d3 B4 p'.length d4) w5 from V1.out.trans ((hdr.below _).mono V1.out.size))
  clear hdr
  clear a2 b2 a3 b3 a4 b4 a5 b5
  obtain ⟨a2,a3,a4,a5,b2,b3,b4,b5⟩:=KX.out _ V2.out
  go_wp2
  go_ret
  exact ⟨by rw [X.out];try rfl,C2.out⟩
 have q4:=Decidable.not_not.1 q4
 by_cases q5:¬p=p'
 ·have X:=Lib.hid (show decide ((⟨n,v,d,r,c,p⟩:Ent)=⟨n',v',d',r',c',p'⟩)=false from decide_eq_false fun e=>q5 (congrArg Ent.p e))
  rw [decide_eq_true q0] at en
  rw [decide_eq_true q1] at ev
  rw [decide_eq_true q2] at KD
  rw [decide_eq_true q3] at KR
  rw [decide_eq_true q4] at KC
  rw [decide_eq_false q5] at KP
  clear q0 q1 q2 q3 q4 q5
  go_enter Tryz.func49,Tryz.ntmps49
  go_wp2_with fail
  refine (KD.out _ B2.out).mono ?_
  rintro e w3 ⟨rfl,hdr⟩
  have C0:=Lib.hid (B2.out.trans ((hdr.below _).mono B2.out.size))
  have V0:=Lib.hid (show Below (al67E w n v n' v' A1 d.length c1 A2 r.length c2 A3 c.length c3 A4 p.length c4 B1 d'.length d1 B2v r'.length d2 B3 c'.length d3 B4 p'.length d4).heap.size (al67E w n v n' v' A1 d.length c1 A2 r.length c2 A3 c.length c3 A4 p.length c4 B1 d'.length d1 B2v r'.length d2 B3 c'.length d3 B4 p'.length d4) w3 from (Below.refl (al67E w n v n' v' A1 d.length c1 A2 r.length c2 A3 c.length c3 A4 p.length c4 B1 d'.length d1 B2v r'.length d2 B3 c'.length d3 B4 p'.length d4).heap.size (al67E w n v n' v' A1 d.length c1 A2 r.length c2 A3 c.length c3 A4 p.length c4 B1 d'.length d1 B2v r'.length d2 B3 c'.length d3 B4 p'.length d4)).trans ((hdr.below _).mono (Below.refl (al67E w n v n' v' A1 d.length c1 A2 r.length c2 A3 c.length c3 A4 p.length c4 B1 d'.length d1 B2v r'.length d2 B3 c'.length d3 B4 p'.length d4).heap.size (al67E w n v n' v' A1 d.length c1 A2 r.length c2 A3 c.length c3 A4 p.length c4 B1 d'.length d1 B2v r'.length d2 B3 c'.length d3 B4 p'.length d4)).size))
  clear hdr
  obtain ⟨a2,a3,a4,a5,b2,b3,b4,b5⟩:=KX.out _ V0.out
  go_wp2_with fail
  refine (KR.out _ C0.out).mono ?_
  rintro e w4 ⟨rfl,hdr⟩
  have C1:=Lib.hid (C0.out.trans ((hdr.below _).mono C0.out.size))
  have V1:=Lib.hid (show Below (al67E w n v n' v' A1 d.length c1 A2 r.length c2 A3 c.length c3 A4 p.length c4 B1 d'.length d1 B2v r'.length d2 B3 c'.length d3 B4 p'.length d4).heap.size (al67E w n v n' v' A1 d.length c1 A2 r.length c2 A3 c.length c3 A4 p.length c4 B1 d'.length d1 B2v r'.length d2 B3 c'.length d3 B4 p'.length d4) w4 from V0.out.trans ((hdr.below _).mono V0.out.size))
  clear hdr
  clear a2 b2 a3 b3 a4 b4 a5 b5
  obtain ⟨a2,a3,a4,a5,b2,b3,b4,b5⟩:=KX.out _ V1.out
  go_wp2_with fail
  refine (KC.out _ C1.out).mono ?_
  rintro e w5 ⟨rfl,hdr⟩
  have C2:=Lib.hid (C1.out.trans ((hdr.below _).mono C1.out.size))
  have V2:=Lib.hid (show Below (al67E w n v n' v' A1 d.length c1 A2 r.length c2 A3 c.length c3 A4 p.length c4 B1 d'.length d1 B2v r'.length d2 B3 c'.length d3 B4 p'.length d4).heap.size (al67E w n v n' v' A1 d.length c1 A2 r.length c2 A3 c.length c3 A4 p.length c4 B1 d'.length d1 B2v r'.length d2 B3 c'.length d3 B4 p'.length d4) w5 from V1.out.trans ((hdr.below _).mono V1.out.size))
  clear hdr
  clear a2 b2 a3 b3 a4 b4 a5 b5
  obtain ⟨a2,a3,a4,a5,b2,b3,b4,b5⟩:=KX.out _ V2.out
  go_wp2_with fail
  refine (KP.out _ C2.out).mono ?_
  rintro e w6 ⟨rfl,hdr⟩
  have C3:=Lib.hid (C2.out.trans ((hdr.below _).mono C2.out.size))
  have V3:=Lib.hid (show Below (al67E w n v n' v' A1 d.length c1 A2 r.length c2 A3 c.length c3 A4 p.length c4 B1 d'.length d1 B2v r'.length d2 B3 c'.length d3 B4 p'.length d4).heap.size (al67E w n v n' v' A1 d.length c1 A2 r.length c2 A3 c.length c3 A4 p.length c4 B1 d'.length d1 B2v r'.length d2 B3 c'.length d3 B4 p'.length d4) w6 from V2.out.trans ((hdr.below _).mono V2.out.size))
  clear hdr
  clear a2 b2 a3 b3 a4 b4 a5 b5
  obtain ⟨a2,a3,a4,a5,b2,b3,b4,b5⟩:=KX.out _ V3.out
  go_wp2
  go_ret
  exact ⟨by rw [X.out];try rfl,C3.out⟩
 have q5:=Decidable.not_not.1 q5
 have X:=Lib.hid (show decide ((⟨n,v,d,r,c,p⟩:Ent)=⟨n',v',d',r',c',p'⟩)=true from decide_eq_true (by rw [q0,q1,q2,q3,q4,q5]))
 rw [decide_eq_true q0] at en
 rw [decide_eq_true q1] at ev
 rw [decide_eq_true q2] at KD
 rw [decide_eq_true q3] at KR
 rw [decide_eq_true q4] at KC
 rw [decide_eq_true q5] at KP
 clear q0 q1 q2 q3 q4 q5
 go_enter Tryz.func49,Tryz.ntmps49
 go_wp2_with fail
 refine (KD.out _ B2.out).mono ?_
 rintro e w3 ⟨rfl,hdr⟩
 have C0:=Lib.hid (B2.out.trans ((hdr.below _).mono B2.out.size))
 have V0:=Lib.hid (show Below (al67E w n v n' v' A1 d.length c1 A2 r.length c2 A3 c.length c3 A4 p.length c4 B1 d'.length d1 B2v r'.length d2 B3 c'.length d3 B4 p'.length d4).heap.size (al67E w n v n' v' A1 d.length c1 A2 r.length c2 A3 c.length c3 A4 p.length c4 B1 d'.length d1 B2v r'.length d2 B3 c'.length d3 B4 p'.length d4) w3 from (Below.refl (al67E w n v n' v' A1 d.length c1 A2 r.length c2 A3 c.length c3 A4 p.length c4 B1 d'.length d1 B2v r'.length d2 B3 c'.length d3 B4 p'.length d4).heap.size (al67E w n v n' v' A1 d.length c1 A2 r.length c2 A3 c.length c3 A4 p.length c4 B1 d'.length d1 B2v r'.length d2 B3 c'.length d3 B4 p'.length d4)).trans ((hdr.below _).mono (Below.refl (al67E w n v n' v' A1 d.length c1 A2 r.length c2 A3 c.length c3 A4 p.length c4 B1 d'.length d1 B2v r'.length d2 B3 c'.length d3 B4 p'.length d4).heap.size (al67E w n v n' v' A1 d.length c1 A2 r.length c2 A3 c.length c3 A4 p.length c4 B1 d'.length d1 B2v r'.length d2 B3 c'.length d3 B4 p'.length d4)).size))
 clear hdr
 obtain ⟨a2,a3,a4,a5,b2,b3,b4,b5⟩:=KX.out _ V0.out
 go_wp2_with fail
 refine (KR.out _ C0.out).mono ?_
 rintro e w4 ⟨rfl,hdr⟩
 have C1:=Lib.hid (C0.out.trans ((hdr.below _).mono C0.out.size))
 have V1:=Lib.hid (show Below (al67E w n v n' v' A1 d.length c1 A2 r.length c2 A3 c.length c3 A4 p.length c4 B1 d'.length d1 B2v r'.length d2 B3 c'.length d3 B4 p'.length d4).heap.size (al67E w n v n' v' A1 d.length c1 A2 r.length c2 A3 c.length c3 A4 p.length c4 B1 d'.length d1 B2v r'.length d2 B3 c'.length d3 B4 p'.length d4) w4 from V0.out.trans ((hdr.below _).mono V0.out.size))
 clear hdr
 clear a2 b2 a3 b3 a4 b4 a5 b5
 obtain ⟨a2,a3,a4,a5,b2,b3,b4,b5⟩:=KX.out _ V1.out
 go_wp2_with fail
 refine (KC.out _ C1.out).mono ?_
 rintro e w5 ⟨rfl,hdr⟩
 have C2:=Lib.hid (C1.out.trans ((hdr.below _).mono C1.out.size))
 have V2:=Lib.hid (show Below (al67E w n v n' v' A1 d.length c1 A2 r.length c2 A3 c.length c3 A4 p.length c4 B1 d'.length d1 B2v r'.length d2 B3 c'.length d3 B4 p'.length d4).heap.size (al67E w n v n' v' A1 d.length c1 A2 r.length c2 A3 c.length c3 A4 p.length c4 B1 d'.length d1 B2v r'.length d2 B3 c'.length d3 B4 p'.length d4) w5 from V1.out.trans ((hdr.below _).mono V1.out.size))
 clear hdr
 clear a2 b2 a3 b3 a4 b4 a5 b5
 obtain ⟨a2,a3,a4,a5,b2,b3,b4,b5⟩:=KX.out _ V2.out
 go_wp2_with fail
 refine (KP.out _ C2.out).mono ?_
 rintro e w6 ⟨rfl,hdr⟩
 have C3:=Lib.hid (C2.out.trans ((hdr.below _).mono C2.out.size))
 have V3:=Lib.hid (show Below (al67E w n v n' v' A1 d.length c1 A2 r.length c2 A3 c.length c3 A4 p.length c4 B1 d'.length d1 B2v r'.length d2 B3 c'.length d3 B4 p'.length d4).heap.size (al67E w n v n' v' A1 d.length c1 A2 r.length c2 A3 c.length c3 A4 p.length c4 B1 d'.length d1 B2v r'.length d2 B3 c'.length d3 B4 p'.length d4) w6 from V2.out.trans ((hdr.below _).mono V2.out.size))
 clear hdr
 clear a2 b2 a3 b3 a4 b4 a5 b5
 obtain ⟨a2,a3,a4,a5,b2,b3,b4,b5⟩:=KX.out _ V3.out
 go_wp2
 go_ret
 exact ⟨by rw [X.out];try rfl,C3.out⟩
theorem keep6 {w w1:World} (h:Below w.heap.size w w1) {a:Addr} {v:Value} (hc:w.cell? a=some v):w1.cell? a=some v:=by
 rw [h.cell (World.block_lt_of_cell? _ _ hc)];exact hc
end Go.Proofs.YtboinnjncaehkaaGreatDoor
