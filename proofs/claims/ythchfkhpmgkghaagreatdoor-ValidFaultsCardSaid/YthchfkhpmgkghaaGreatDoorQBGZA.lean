/- What the laws rest on: VerP, P7a, P7d, N9a, StbP, P7z, E10i, N10b, N10h, E10l. -/
import Derived.Shelf.SlSortCmp.KitK
import Derived.Lib.SliceRun
import Derived.Maps.OwnSet
import Derived.StringKeys
import Derived.Sort.LotA
import Derived.Sort.WalkB2
import Derived.Sort.WalkB12
import Derived.Deep.LoopGhost
import Derived.Laws.BitsLemmas
import Derived.Test.YthchfkhpmgkghaaGreatDoorQZ0ZA
set_option maxRecDepth 100000
set_option linter.unusedVariables false
set_option linter.unusedSimpArgs false
namespace Go.Proofs.YthchfkhpmgkghaaGreatDoor
open Go.RowKit
def ndB (c:Nat):Bool:=!digB c
def wordL (l:List Nat):List Nat:=l.takeWhile ndB
def behL (l:List Nat):List Nat:=l.dropWhile ndB
theorem wordL_nil {l:List Nat} (h:nonD l=false):wordL l=[]∧behL l=l:=by
 cases l with
 | nil=>exact ⟨rfl,rfl⟩
 | cons c l=>
  simp only [nonD,Bool.not_eq_false'] at h
  simp [wordL,behL,ndB,h]
theorem wordL_cons {l:List Nat} (h:nonD l=true):∃c,l=c::l.drop 1∧digB c=false∧wordL l=c::wordL (l.drop 1)∧behL l=behL (l.drop 1):=by
 cases l with
 | nil=>simp [nonD] at h
 | cons c l=>
  simp only [nonD,Bool.not_eq_true'] at h
  exact ⟨c,by simp,h,by simp [wordL,ndB,h],by simp [behL,ndB,h]⟩
theorem behL_non (l:List Nat):nonD (behL l)=false:=by
 unfold behL
 induction l with
 | nil=>rfl
 | cons c l ih=>
  rw [List.dropWhile_cons]
  split
  ·exact ih
  ·rename_i h;simp only [ndB,Bool.not_eq_true',Bool.not_eq_false] at h;simp [nonD,h]
theorem cwL_step (a b:List Nat) (h:a≠[]∨b≠[]):cwL a b=if sgn (vw a - vw b)≠0 then sgn (vw a - vw b) else cwL (a.drop 1) (b.drop 1):=by
 have hm:∃f,max a.length b.length=f+1∧max (a.drop 1).length (b.drop 1).length=f:=by
  rcases a with _|⟨x,a⟩<;>rcases b with _|⟨y,b⟩
  ·simp at h
  ·exact ⟨b.length,by simp,by simp⟩
  ·exact ⟨a.length,by simp,by simp⟩
  ·exact ⟨max a.length b.length,by simp only [List.length_cons];omega,by simp⟩
 obtain ⟨f,h1,h2⟩:=hm
 unfold cwL
 rw [h1,h2]
 rfl
theorem cwL_nil:cwL [] []=0:=rfl
def wtc (c:Nat):Int:=if c=126 then -1 else if letB c then c else 1000+c
def vwc (c:Nat):Int:=if c=126 then -1 else if letB c then c else c+256
theorem let_bd {c:Nat} (h:letB c=true):65≤c∧c≤122:=by simp [letB] at h;omega
theorem same_iff (c d:Nat):(wtc c < wtc d↔vwc c < vwc d)∧(wtc d < wtc c↔vwc d < vwc c):=by
 unfold wtc vwc
 by_cases h1:c=126<;>by_cases h2:d=126<;>by_cases h3:letB c=true<;>by_cases h4:letB d=true<;>simp only [h1,h2,h3,h4,if_true,if_false,Bool.false_eq_true]<;>(try have:=let_bd h3)<;>(try have:=let_bd h4)<;>constructor<;>constructor<;>intro _<;>omega
theorem zero_iff (c:Nat):(wtc c < 0↔vwc c < 0)∧(0 < wtc c↔0 < vwc c):=by
 unfold wtc vwc
 by_cases h1:c=126<;>by_cases h3:letB c=true<;>simp only [h1,h3,if_true,if_false,Bool.false_eq_true]<;>(try have:=let_bd h3)<;>constructor<;>constructor<;>intro _<;>omega
theorem sgn_same {x y u v:Int} (h1:x < y↔u < v) (h2:y < x↔v < u):sgn (x - y)=sgn (u - v):=by
 rcases sgn_is (x - y) with h|h|h<;>rcases sgn_is (u - v) with k|k|k<;>rw [h.2,k.2]<;>exfalso<;>omega
theorem head_same (a b:List Nat):sgn (wt a - wt b)=sgn (vw (wordL a) - vw (wordL b)):=by
 have key:∀l:List Nat,(nonD l=false∧wt l=0∧vw (wordL l)=0)∨∃c,wt l=wtc c∧vw (wordL l)=vwc c:=by
  intro l
  cases h:nonD l
  ·exact .inl ⟨rfl,wt_end h,by rw [(wordL_nil h).1];rfl⟩
  ·obtain ⟨c,e,hd,hw,_⟩:=wordL_cons h
   refine .inr ⟨c,?_,by rw [hw];rfl⟩
   rw [e];simp [wt,wtc,hd]
 rcases key a with ⟨_,a1,a2⟩|⟨c,a1,a2⟩<;>rcases key b with ⟨_,b1,b2⟩|⟨d,b1,b2⟩<;>rw [a1,a2,b1,b2]
 ·exact sgn_same ⟨fun h=>(zero_iff d).2.1 h,fun h=>(zero_iff d).2.2 h⟩ ⟨fun h=>(zero_iff d).1.1 h,fun h=>(zero_iff d).1.2 h⟩
 ·exact sgn_same ⟨fun h=>(zero_iff c).1.1 h,fun h=>(zero_iff c).1.2 h⟩ ⟨fun h=>(zero_iff c).2.1 h,fun h=>(zero_iff c).2.2 h⟩
 ·exact sgn_same (same_iff c d).1 (same_iff c d).2
theorem drop_word {l:List Nat} (h:nonD l=true):(wordL l).drop 1=wordL (l.drop 1):=by
 obtain ⟨c,_,_,hw,_⟩:=wordL_cons h
 rw [hw];simp
theorem cmp_words:∀(n:Nat) (a b:List Nat),a.length+b.length≤n→cmpS a b=if cwL (wordL a) (wordL b)≠0 then cwL (wordL a) (wordL b) else cmpS (behL a) (behL b)
 | 0,a,b,h=>by
  have h1:a=[]:=List.eq_nil_of_length_eq_zero (by omega)
  have h2:b=[]:=List.eq_nil_of_length_eq_zero (by omega)
  subst h1;subst h2
  rfl
 | n+1,a,b,h=>by
  by_cases hn:nonD a=false∧nonD b=false
  ·obtain ⟨a1,a2⟩:=wordL_nil hn.1
   obtain ⟨b1,b2⟩:=wordL_nil hn.2
   rw [a1,a2,b1,b2,cwL_nil,if_neg (by simp)]
  ·have hne:wordL a≠[]∨wordL b≠[]:=by
    cases ha:nonD a
    ·cases hb:nonD b
     ·exact absurd ⟨ha,hb⟩ hn
     ·obtain ⟨c,_,_,hw,_⟩:=wordL_cons hb
      exact .inr (by rw [hw];simp)
    ·obtain ⟨c,_,_,hw,_⟩:=wordL_cons ha
     exact .inl (by rw [hw];simp)
   rw [cwL_step _ _ hne,←head_same]
   by_cases hs:sgn (wt a - wt b)≠0
   ·rw [if_pos hs,if_pos hs]
    exact cmpS_ne (fun e=>hs (by rw [e,Int.sub_self];rfl))
   ·rw [if_neg hs]
    have hor:(nonD a||nonD b)=true:=by
     cases ha:nonD a<;>cases hb:nonD b<;>simp_all
    obtain ⟨ha,hb⟩:=both_non hor hs
    have e:wt a=wt b:=by have:=sgn_zero.1 (Classical.not_not.1 hs);omega
    rw [cmpS_eq e (wt_non ha),drop_word ha,drop_word hb]
    obtain ⟨c,ea,_,_,ba⟩:=wordL_cons ha
    obtain ⟨d,eb,_,_,bb⟩:=wordL_cons hb
    rw [ba,bb]
    refine cmp_words n _ _ ?_
    have:=drop1_len (wt_non ha)
    have:=drop1_len (wt_non hb)
    omega
def numA (l:List Nat):List Nat:=(behL l).takeWhile digB
def restA (l:List Nat):List Nat:=(behL l).dropWhile digB
def dz (l:List Nat):List Nat:=l.dropWhile (fun c=>c==48)
theorem dz_numA (l:List Nat):dz (numA l)=digs (behL l):=rfl
theorem dw_drop (p:Nat→Bool):∀l:List Nat,l.dropWhile p=l.drop (l.takeWhile p).length
 | []=>rfl
 | c::l=>by
  cases h:p c
  ·simp [h]
  ·simp [h];exact dw_drop p l
theorem restA_is (l:List Nat):restA l=(behL l).drop (numD (behL l)):=by
 unfold restA numD
 exact dw_drop digB (behL l)
def stepC (a b:List Nat):Int:=orL [cwL (wordL a) (wordL b),numC (dz (numA a)) (dz (numA b))]
theorem cmp_round (a b:List Nat):cmpS a b=if stepC a b≠0 then stepC a b else cmpS (restA a) (restA b):=by
 rw [cmp_words _ a b (Nat.le_refl _)]
 have wa:wt (behL a)=0:=wt_end (behL_non a)
 have wb:wt (behL b)=0:=wt_end (behL_non b)
 rw [cmpS_no wa wb,←restA_is,←restA_is]
 unfold stepC
 simp only [orL,dz_numA]
 by_cases h1:cwL (wordL a) (wordL b)=0
 ·by_cases h2:numC (digs (behL a)) (digs (behL b))=0
  ·simp [h1,h2]
  ·simp [h1,h2]
 ·simp [h1]
theorem restA_len (l:List Nat):(restA l).length≤l.length:=by
 unfold restA behL
 exact Nat.le_trans (List.dropWhile_suffix _).length_le (List.dropWhile_suffix _).length_le
theorem restA_lt {l:List Nat} (h:l≠[]):(restA l).length < l.length:=by
 cases hn:nonD l
 ·obtain ⟨_,b⟩:=wordL_nil hn
  rw [restA_is,b]
  exact dropN_lt (wt_end hn) h
 ·obtain ⟨c,e,_,_,hb⟩:=wordL_cons hn
  have h1:(restA l).length≤(l.drop 1).length:=by
   unfold restA;rw [hb];exact restA_len (l.drop 1)
  have h2:(l.drop 1).length < l.length:=by rw [List.length_drop];cases l with|nil=>exact absurd rfl h|cons _ _=>simp
  omega
end Go.Proofs.YthchfkhpmgkghaaGreatDoor
namespace Go.Proofs.YthchfkhpmgkghaaGreatDoor
open Go.RowKit Go.Sort
def Gw (w w':World):Prop:=∃q os,w'=grow (w.drewN q) os
theorem Gw.below {w w':World} (h:Gw w w'):Below w.heap.size w w':=by
 obtain ⟨q,os,rfl⟩:=h
 exact ⟨rfl,rfl,rfl,by rw [size_grow];exact Nat.le_add_right _ _,fun k hk=>by
  unfold grow
  show ((w.drewN q).heap++os)[k]?=_
  rw [Array.getElem?_append_left (by exact hk)];rfl⟩
structure HrV where
 x:Hr
 A1:Option Addr
 c1:Nat
 A2:Option Addr
 c2:Nat
 A3:Option Addr
 c3:Nat
 A4:Option Addr
 c4:Nat
instance:Inhabited HrV:=⟨⟨nil7,none,0,none,0,none,0,none,0⟩⟩
def HrV.cs (r:HrV):List Value:=[.string r.x.e.n,.string r.x.e.v,.slice r.A1 r.x.e.d.length r.c1,.slice r.A2 r.x.e.r.length r.c2,.slice r.A3 r.x.e.c.length r.c3,.slice r.A4 r.x.e.p.length r.c4,.bool r.x.a,.bool r.x.h]
set_option maxHeartbeats 1000000 in
theorem name_any (r:HrV) (w:World):Calls Tryz.prog 64 #[.agg r.cs.toArray] w fun e w'=>e=.returned (.string r.x.e.n)∧Gw w w':=by
 obtain ⟨⟨⟨n,v,d,rr,c,p⟩,a,h⟩,A1,c1,A2,c2,A3,c3,A4,c4⟩:=r
 unfold HrV.cs
 go_enter Tryz.func64,Tryz.ntmps64
 go_wp2
 go_ret
 exact ⟨rfl,0,_,by rw [alloc_eq_grow];rfl⟩
set_option maxHeartbeats 2000000 in
theorem cloneh_any (A:Option Addr) (n c:Nat) (l:List Hr) (w:World) (h:rdHrs w (lt_ w.heap.size) l [.slice A n c]) (hl:l.length≤200) :
  Calls Tryz.prog 42 #[.slice A n c] w fun e w'=>(∃v',e=.returned v'∧Grow rdHr 8 (lt_ w.heap.size) w' w.heap.size 78 v' l)∧Below w.heap.size w w':=by
 have qT:∀(w:World) (a:Option Addr) (n c n' c':Nat),(binOp .eql 23 (.slice a n c) (.slice none n' c')).run Tryz.prog w=.ok (.bool a.isNone) w:=fun w a n c n' c'=>Lib.run_eql_slice_nil w _ _ a n c n' c' Tryz.underlying23
 obtain ⟨i0,hi,hz0,hz1,hz2⟩:=info_parts here_info
 obtain ⟨rfl,hnc,hcm,hat⟩:=rdHrs_at h
 have hcm':c≤9223372036854775807:=hcm
 cases A with
 | none=>
  obtain rfl:l=[]:=by
   rcases Nat.eq_zero_or_pos l.length with h0|h0
   ·exact List.eq_nil_of_length_eq_zero h0
   ·obtain ⟨_,_,_,_,_,_,_,_,_,e,_⟩:=hat 0 h0
    cases e
  clear h hat hcm
  go_enter Tryz.func42,Tryz.ntmps42
  go_wp2
  go_ret
  exact ⟨⟨_,rfl,Grow.nil _ _ _ _⟩,Below.refl _ _⟩
 | some ad=>
  have B1:=(Below.refl w.heap.size w).alloc (Nat.le_refl _) (.cells #[] 78)
  have hG:=Grow.empty (E:=rdHr) (sz:=8) (lt_ w.heap.size) (W:=w.alloc (.cells #[] 78)) (base:=w.heap.size) (heap_alloc_new w _) (Nat.le_refl _)
  have hX:=rdHrs_good.below h B1
  have hn1:([]:List Hr).length+l.length≤maxLen:=by simp only [List.length_nil];unfold maxLen;omega
  have hn2:(([]:List Hr).length+l.length)*136≤140737488355328:=by simp only [List.length_nil];omega
  have hS:∀b,lt_ w.heap.size b→lt_ w.heap.size b∧b < (w.alloc (.cells #[] 78)).heap.size∧(Value.slice (some ⟨w.heap.size,0,none⟩) 0 0).ownBlock≠some b:=fun b hb=>⟨hb,by rw [World.size_alloc];unfold lt_ at hb;omega,fun hh=>by simp only [Value.ownBlock,Option.some.injEq] at hh;unfold lt_ at hb;omega⟩
  have hbs:w.heap.size≤(w.alloc (.cells #[] 78)).heap.size:=by rw [World.size_alloc];omega
  have HB1:=Lib.hid B1
  clear h B1 hcm hat
  go_enter Tryz.func42,Tryz.ntmps42
  go_wp2_with (at_builtin;refine wpList_growN _ rfl _ _ 23 23 rfl rdHr_good (by decide) (lt_ w.heap.size) w.heap.size 78 78 i0 (.agg #[.string { data:=#[] },.string { data:=#[] },.slice none 0 0,.slice none 0 0,.slice none 0 0,.slice none 0 0,.bool false,.bool false]) 136 Tryz.underlying23 Tryz.underlying23 hi hz0 hz1 hz2 rfl _ _ rfl hG l _ (some ad) l.length c rfl hX hS hn1 hn2 hbs ?_)
  intro v' w1 hG1 hg1
  have HB2:=Lib.hid (grow_below hG hg1 HB1.out (Nat.le_refl _) hbs)
  have HG:=Lib.hid hG1
  clear hG hX hg1 hn1 hn2 hS hbs hG1
  go_wp2
  go_ret
  exact ⟨⟨_,rfl,HG.out⟩,HB2.out⟩
end Go.Proofs.YthchfkhpmgkghaaGreatDoor
namespace Go.Proofs.YthchfkhpmgkghaaGreatDoor
open Go.RowKit
def heldR9:Value→Option (DataW Value × List MemPlace):=fun v=>some (.held v,[])
def MapF (P:Program) (k:TypeId) (z:Value) (w:World) (b n:Nat) (f:ByteArray→Value):Prop:=
 ∃D:DataW Value,w.ownsMap P k heldR9 b n D∧∀s:ByteArray,s.size≤maxLen→D.atKey (.string s.data.toList) (.held z)=.held (f s)
def upd9 {α:Type} (f:ByteArray→α) (s:ByteArray) (v:α):ByteArray→α:=fun x=>if x=s then v else f x
theorem upd9_same {α:Type} (f:ByteArray→α) (s:ByteArray) (v:α):upd9 f s v s=v:=if_pos rfl
theorem upd9_ne {α:Type} (f:ByteArray→α) {s x:ByteArray} (v:α) (h:x≠s):upd9 f s v x=f x:=if_neg h
section
variable {P:Program} {k t e:TypeId} {z:Value} {w w':World} {b n:Nat} {f:ByteArray→Value}
theorem MapF.made (w:World) (P:Program) (k:TypeId) (z:Value):MapF P k z (w.alloc (.map #[] 0)) w.heap.size 0 (fun _=>z):=
 ⟨_,World.ownsMap_made _ _ _ _,fun s _=>rfl⟩
theorem MapF.lt (h:MapF P k z w b n f):b < w.heap.size:=by obtain ⟨D,h,_⟩:=h;exact h.lt
theorem MapF.kept {row:Option Nat} (h:MapF P k z w b n f) (hg:w.grownBy w' row) (hne:some b≠row):MapF P k z w' b n f:=by
 obtain ⟨D,h,q⟩:=h
 exact ⟨D,h.kept hg hne,q⟩
theorem MapF.same (h:MapF P k z w b n f) (hb:w'.heap[b]?=w.heap[b]?):MapF P k z w' b n f:=by
 obtain ⟨D,⟨es,clock,h1,h2⟩,q⟩:=h
 exact ⟨D,⟨es,clock,hb.trans h1,h2⟩,q⟩
theorem MapF.below {N:Nat} (h:MapF P k z w b n f) (hb:b < N) (hB:Below N w w'):MapF P k z w' b n f:=h.same (hB.block b hb)
theorem MapF.look (h:MapF P k z w b n f) (K:Maps.Keyed P k) (hk:P.underlying k=some .string) (ht:P.underlying t=some (.map k e)) (hz:(zeroValue e).run P w=.ok z w) (s:ByteArray) (hs:s.size≤maxLen) :
  (Instr.lookup t (.map (some b)) (.string s) false).run P w=.ok (f s) w:=by
 obtain ⟨D,h,q⟩:=h
 obtain ⟨v,ps,hr,hv⟩:=h.lookup K ht hz (zd:=.held z) (zp:=[]) rfl (WideMaps.keyOf_string_mk hk hs)
 rw [q s hs] at hv
 have e1:v=f s:=by
  have:=congrArg Prod.fst (Option.some.inj hv)
  exact DataW.held.inj this
 rw [hr,e1]
theorem MapF.put (h:MapF P k z w b n f) (K:Maps.Keyed P k) (hk:P.underlying k=some .string) (ht:P.underlying t=some (.map k e)) (hn:n < maxLen) (s:ByteArray) (hs:s.size≤maxLen) (v:Value) :
  ∃w',(Instr.mapUpdate t (.map (some b)) (.string s) v).run P w=.ok () w'∧MapF P k z w' b (n+1) (upd9 f s v)∧w.grownBy w' (some b):=by
 obtain ⟨D,h,q⟩:=h
 obtain ⟨w',hr,ho,hg⟩:=h.update K ht hn (WideMaps.keyOf_string_mk hk hs) (d:=.held v) (ps:=[]) rfl
 refine ⟨w',hr,⟨_,ho,fun x hx=>?_⟩,hg⟩
 have hM:Maps.IsMap D:=by
  obtain ⟨es,clock,_,_,_,hD⟩:=h
  exact ⟨_,hD⟩
 by_cases e:x=s
 ·subst e
  rw [Maps.atKey_put_same hM (show WideAt.IsKeyLit (.string x.data.toList) from trivial),upd9_same]
 ·rw [Maps.atKey_put_other (fun hh=>e ?_),upd9_ne _ _ e]
  ·exact q x hx
  ·injection hh with hh
   cases x;cases s
   simp only [ByteArray.mk.injEq]
   exact Array.toList_inj.1 hh
theorem wpList_mapUpdate_fn {ops:Array Oper} {rest:List Oper} {o:Oper} {a:Act} {Q:Exit→Act→World→Prop}
  (hg:o.guard=none) (m x y:Operand) (hop:o.op=Op.mapUpdate t m x y) (K:Maps.Keyed P k) (hk:P.underlying k=some .string) (ht:P.underlying t=some (.map k e)) (h:MapF P k z w b n f)
  (hm:a.eval m=.map (some b)) (hn:n < maxLen) (s:ByteArray) (v:Value) (hx:a.eval x=.string s) (hy:a.eval y=v) (hs:s.size≤maxLen)
  (hK:∀w',MapF P k z w' b (n+1) (upd9 f s v)→w.grownBy w' (some b)→wpList P ops Q rest (a.put o.dst undef) w') :
  wpList P ops Q (o::rest) a w:=by
 refine wpList_plain hg fun K' hK'=>?_
 obtain ⟨w',hrun,r1,r2⟩:=h.put K hk ht hn s hs v
 unfold Oper.wp
 simp [execOp,hop,hm,hx,hy,hrun,Result.andThen]
 exact hK' _ _ (hK w' r1 r2)
end
end Go.Proofs.YthchfkhpmgkghaaGreatDoor
namespace Go.Proofs.YthchfkhpmgkghaaGreatDoor
open Go.Sort
section
variable {α:Type} [Inhabited α] (lt:α→α→Bool)
variable {lt}
def rng (P X M Y Q:List α) (s:Nat):List α:=P++((Y.take s++X.drop s)++(M++((X.take s++Y.drop s)++Q)))
end
end Go.Proofs.YthchfkhpmgkghaaGreatDoor
namespace Go.Proofs.YthchfkhpmgkghaaGreatDoor
open Go.RowKit Go.Sort
section
variable {α:Type} [Inhabited α] {enc:α→List Value} {k:Nat} {w W:World} {blk off:Nat} {d:Array α}
theorem swk_heap (h:SWK enc k w blk off d W) {cur:Array Value} {e:TypeId} {fr:Nat × Nat} (hb:w.heap[blk]?=some (.cells cur e fr)):∃cur',W.heap[blk]?=some (.cells cur' e fr)∧cur'.size=cur.size:=by
 obtain ⟨n,os,rfl⟩:=h
 have hlt:blk < w.heap.size:=(Array.getElem?_eq_some_iff.1 hb).1
 refine ⟨putCells id off (flatK enc k d) cur,?_,by simp [putCells]⟩
 unfold sortWorldK
 rw [heap_grow_old _ _ (by rw [size_putRowK];exact hlt)]
 unfold putRowK putRow mapBlock
 simp only [Array.getElem?_modify,if_true]
 show (w.heap[blk]?).map _=_
 rw [hb];rfl
theorem swk_other (h:SWK enc k w blk off d W):∀b,b≠blk→b < w.heap.size→W.heap[b]?=w.heap[b]?:=by
 obtain ⟨n,os,rfl⟩:=h
 intro b hb hlt
 unfold sortWorldK
 rw [heap_grow_old _ _ (by rw [size_putRowK];exact hlt)]
 unfold putRowK putRow mapBlock
 simp only [Array.getElem?_modify,if_neg (Ne.symm hb)]
 rfl
theorem swk_below (h:SWK enc k w blk off d W) {N:Nat} (hN:N≤blk) (hlt:blk < w.heap.size):Below N w W:=by
 refine ⟨?_,?_,?_,h.le,fun b hb=>swk_other h b (by omega) (by omega)⟩
 ·obtain ⟨n,os,rfl⟩:=h;rfl
 ·obtain ⟨n,os,rfl⟩:=h;rfl
 ·obtain ⟨n,os,rfl⟩:=h;rfl
end
def rdFt:Rd Ft:=fun _ _ x cs=>cs=[.int .i64 x.k,.int .i64 x.a,.int .i64 x.b]
theorem rdFt_good:Good rdFt 3:=⟨fun h _=>h,fun h _=>h,fun h _ _=>h,fun h=>by rw [h];rfl,fun h u hu=>by rw [h] at hu;simp at hu;rcases hu with rfl|rfl|rfl<;>rfl⟩
abbrev rdFts:Rd (List Ft):=rdRow 3 rdFt
theorem rdFts_good:Good rdFts 1:=rdRow_good rdFt_good
abbrev own10 (w w':World):Nat→Prop:=fun c=>w.heap.size≤c∧c < w'.heap.size
end Go.Proofs.YthchfkhpmgkghaaGreatDoor
namespace Go.Proofs.YthchfkhpmgkghaaGreatDoor
open Go.RowKit
structure Pst (W:World) (O:Nat→Prop) (W':World) (O':Nat→Prop):Prop where
 os:W'.os=W.os
 tape:W'.tape=W.tape
 output:W'.output=W.output
 size:W.heap.size≤W'.heap.size
 block:∀b,b < W.heap.size→¬O b→W'.heap[b]?=W.heap[b]?
 own:∀b,O' b→O b∨W.heap.size≤b
theorem Pst.refl (W:World) (O:Nat→Prop):Pst W O W O:=⟨rfl,rfl,rfl,Nat.le_refl _,fun _ _ _=>rfl,fun _ h=>.inl h⟩
theorem Pst.trans {A B C : World} {O P Q : Nat → Prop} (h : Pst A O B P) (k : Pst B P C Q) : Pst A O C Q :=
  ⟨k.os.trans h.os, k.tape.trans h.tape, k.output.trans h.output, Nat.le_trans h.size k.size,
   fun b hb ho => (k.block b (Nat.lt_of_lt_of_le hb h.size) (fun hp => (h.own b hp).elim ho fun q => by omega)).trans (h.block b hb ho),
   fun b hq => (k.own b hq).elim (h.own b) fun q => .inr (Nat.le_trans h.size q)⟩
theorem Pst.of_below {W W':World} {O:Nat→Prop} (h:Below W.heap.size W W'):Pst W O W' O:=⟨h.os,h.tape,h.output,h.size,fun b hb _=>h.block b hb,fun _ h=>.inl h⟩
theorem Pst.below {A B C:World} {O P:Nat→Prop} (h:Pst A O B P) (k:Below B.heap.size B C):Pst A O C P:=h.trans (Pst.of_below k)
theorem Pst.base {W W':World} {O O':Nat→Prop} {N:Nat} (h:Pst W O W' O') (hO:∀b,O b→N≤b) (hN:N≤W.heap.size):Below N W W':=
 ⟨h.os,h.tape,h.output,h.size,fun b hb=>h.block b (by omega) fun q=>by have:=hO b q;omega⟩
theorem Pst.cell {W W':World} {O O':Nat→Prop} (h:Pst W O W' O') {b o:Nat} {v:Value} (hc:W.cell? ⟨b,o,none⟩=some v) (hO:¬O b):W'.cell? ⟨b,o,none⟩=some v:=by
 have hb:b < W.heap.size:=World.block_lt_of_cell? _ _ hc
 have:=h.block b hb hO
 rw [←hc]
 exact World.cell?_of_block (w:=W) (a:=⟨b,o,none⟩) this
theorem Pst.keep {α:Type} {E:Rd α} {sz:Nat} (g:Good E sz) {W W':World} {O O' S:Nat→Prop} {a:α} {cs:List Value} (h:Pst W O W' O') (hr:E W S a cs) (hS:∀b,S b→b < W.heap.size∧¬O b):E W' (lt_ W'.heap.size) a cs:=
 g.both hr (fun b hb=>h.block b (hS b hb).1 (hS b hb).2) fun b hb=>Nat.lt_of_lt_of_le (hS b hb).1 h.size
structure Sink (N:Nat) (St:World→List Ft→(Nat→Prop)→Prop) (fn q:Nat):Prop where
 own:∀{W:World} {g:List Ft} {O:Nat→Prop},St W g O→∀b,O b→N≤b∧b < W.heap.size
 up:∀{W W':World} {g:List Ft} {O:Nat→Prop},St W g O→Below W.heap.size W W'→St W' g O
 enter:∀(args:Array Value) (w:World),(callFunc fn args).run Tryz.prog w=.ok (.enter fn args) w
 call:∀(W:World) (g:List Ft) (O:Nat→Prop) (x:Ft),St W g O→g.length+1≤1000000→
  Calls Tryz.prog fn #[.int .i64 x.k,.int .i64 x.a,.int .i64 x.b,.pointer (some ⟨q,0,none⟩)] W fun e W'=>e=.returned (.tuple #[])∧∃O',St W' (g++[x]) O'∧Pst W O W' O'
end Go.Proofs.YthchfkhpmgkghaaGreatDoor
namespace Go.Proofs.YthchfkhpmgkghaaGreatDoor
open Go.RowKit Go.Sort
set_option maxHeartbeats 4000000 in
theorem vsame_any (x y:Ent) (A1:Option Addr) (c1:Nat) (A2:Option Addr) (c2:Nat) (A3:Option Addr) (c3:Nat) (A4:Option Addr) (c4:Nat) (D1:Option Addr) (d1:Nat) (D2:Option Addr) (d2:Nat) (D3:Option Addr) (d3:Nat) (D4:Option Addr) (d4:Nat) (w:World) :
  Calls Tryz.prog 77 #[x.val A1 c1 A2 c2 A3 c3 A4 c4,y.val D1 d1 D2 d2 D3 d3 D4 d4] w fun e w'=>e=.returned (.bool (smN x y))∧Below w.heap.size w w':=by
 obtain ⟨n,v,d,r,c,p⟩:=x
 obtain ⟨n',v',d',r',c',p'⟩:=y
 show Calls Tryz.prog 77 #[.agg #[.string n,.string v,.slice A1 d.length c1,.slice A2 r.length c2,.slice A3 c.length c3,.slice A4 p.length c4],.agg #[.string n',.string v',.slice D1 d'.length d1,.slice D2 r'.length d2,.slice D3 c'.length d3,.slice D4 p'.length d4]] w _
 have B1:=Lib.hid (show Below w.heap.size w ((w.alloc (.cells #[.string n,.string v,.slice A1 d.length c1,.slice A2 r.length c2,.slice A3 c.length c3,.slice A4 p.length c4] 67)).alloc (.cells #[.string n',.string v',.slice D1 d'.length d1,.slice D2 r'.length d2,.slice D3 c'.length d3,.slice D4 p'.length d4] 67)) from ((Below.refl _ w).alloc (Nat.le_refl _) _).alloc (by simp) _)
 have X:=Lib.hid (show smN ⟨n,v,d,r,c,p⟩ ⟨n',v',d',r',c',p'⟩=decide (n=n') from rfl)
 generalize smN ⟨n,v,d,r,c,p⟩ ⟨n',v',d',r',c',p'⟩=bb at *
 have he:=str_eq n n'
 generalize decide (n=n')=dd at *
 go_enter Tryz.func77,Tryz.ntmps77
 go_wp2
 go_ret
 exact ⟨by rw [X.out];try rfl,B1.out⟩
def AreR (w0:World) (L:List Ent) (f:Ent→Ent→Bool) (fa:Nat):Prop:=
 ∀(x y:Ent) (A1:Option Addr) (c1:Nat) (A2:Option Addr) (c2:Nat) (A3:Option Addr) (c3:Nat) (A4:Option Addr) (c4:Nat) (D1:Option Addr) (d1:Nat) (D2:Option Addr) (d2:Nat) (D3:Option Addr) (d3:Nat) (D4:Option Addr) (d4:Nat) (W:World),Below w0.heap.size w0 W→x ∈ L→y ∈ L→EntV W (lt_ W.heap.size) x A1 c1 A2 c2 A3 c3 A4 c4→EntV W (lt_ W.heap.size) y D1 d1 D2 d2 D3 d3 D4 d4→
  Calls Tryz.prog fa #[x.val A1 c1 A2 c2 A3 c3 A4 c4,y.val D1 d1 D2 d2 D3 d3 D4 d4] W fun e w'=>e=.returned (.bool (f x y))∧Below W.heap.size W w'
theorem add_add10 (ad:Addr) (k n:Nat):ad.add (k+1+n)=⟨ad.block,ad.off+(k+1)+n,none⟩:=by
 unfold Addr.add
 rw [if_neg (show ¬k+1+n=0 by omega),show ad.off+(k+1)+n=ad.off+(k+1+n) by omega]
theorem ent_at10 {U:List Ent} {p:Int} (h0:0≤p) (h1:p < (U.length:Int)):∃j,∃h:j < U.length,p=(j:Int)∧entA U p=U[j]:=by
 obtain ⟨j,rfl⟩:=Int.eq_ofNat_of_zero_le h0
 have hj:j < U.length:=by omega
 exact ⟨j,hj,rfl,entA_at hj⟩
set_option maxHeartbeats 16000000 in
theorem vpairs_any (w0 W1:World) (St:World→List Ft→(Nat→Prop)→Prop) (fn q fa:Nat) (HS:Sink w0.heap.size St fn q) (f:Ent→Ent→Bool) (kd:Int) (L:List Ent) (l:List Int) (g0:List Ft) (O:Nat→Prop) (HB:Below w0.heap.size w0 W1) (hSt:St W1 g0 O) (hfa:∀(args:Array Value) (w:World),(callFunc fa args).run Tryz.prog w=.ok (.enter fa args) w) (HA:AreR w0 L f fa)
  (bl be bf:Nat) (Al:Option Addr) (cl:Nat) (Ae:Option Addr) (ce:Nat) (c0:W1.cell? ⟨bl,0,none⟩=some (.slice Al l.length cl)) (c1:W1.cell? ⟨be,0,none⟩=some (.slice Ae L.length ce)) (c2:W1.cell? ⟨bf,0,none⟩=some (.func (.func fn) #[] #[.pointer (some ⟨q,0,none⟩)])) (n0:¬O bl) (n1:¬O be) (n2:¬O bf)
  (hl:rdInts W1 (fun b=>b < W1.heap.size∧¬O b) l [.slice Al l.length cl]) (he:rdEnts W1 (fun b=>b < W1.heap.size∧¬O b) L [.slice Ae L.length ce]) (hs:SetP L.length l) (hT:(g0++pairP f kd L l).length≤1000000) :
  Calls Tryz.prog 76 #[.int .i64 kd,.func (.func fa) #[] #[],.pointer (some ⟨bl,0,none⟩),.pointer (some ⟨be,0,none⟩),.pointer (some ⟨bf,0,none⟩)] W1 fun e W'=>e=.returned (.tuple #[])∧∃O',St W' (g0++pairP f kd L l) O'∧Pst W1 O W' O':=by
 have mixed:Tryz.prog.follows .mixedOrders=true:=by kernel_rfl
 have hcf:=HS.enter
 obtain ⟨-,hlc,hlm,-⟩:=rdInts_at hl
 obtain ⟨-,hec,hem,-⟩:=rdEnts_at he
 have hlm':cl≤9223372036854775807:=hlm
 have hem':ce≤9223372036854775807:=hem
 have KC:=Lib.hid (fun (W:World) (O':Nat→Prop) (hp:Pst W1 O W O')=>(show W.cell? ⟨bl,0,none⟩=some (.slice Al l.length cl)∧W.cell? ⟨be,0,none⟩=some (.slice Ae L.length ce)∧W.cell? ⟨bf,0,none⟩=some (.func (.func fn) #[] #[.pointer (some ⟨q,0,none⟩)]) from ⟨hp.cell c0 n0,hp.cell c1 n1,hp.cell c2 n2⟩))
 have KL:=Lib.hid (fun (W:World) (O':Nat→Prop) (hp:Pst W1 O W O')=>hp.keep rdInts_good hl fun _ h=>h)
 have KE:=Lib.hid (fun (W:World) (O':Nat→Prop) (hp:Pst W1 O W O')=>(rdEnts_at (hp.keep rdEnts_good he fun _ h=>h)).2.2.2)
 have KB:=Lib.hid (fun (W:World) (O':Nat→Prop) (hp:Pst W1 O W O')=>HB.trans (hp.base (fun b hb=>(HS.own hSt b hb).1) HB.size))
 have HSS:=Lib.hid HS
 have HAA:=Lib.hid HA
 have HP:=Lib.hid hs
 have HST:=Lib.hid hSt
 have TL:=Lib.hid hT
 obtain ⟨T,hTT⟩:∃T,T=g0++pairP f kd L l:=⟨_,rfl⟩
 rw [←hTT] at TL ⊢
 have HTT:=Lib.hid hTT
 clear hTT hT hs HS hSt hl he hlm hem HA HB n0 n1 n2 c1 c2
 go_enter Tryz.func76,Tryz.ntmps76
 go_wp2
 go_loopw [13] (fun i wr=>∃k:Nat,k≤l.length∧i=.int .i64 k∧∃g O',St wr g O'∧Hid (g++pairP f kd L (l.drop k)=T)∧Pst W1 O wr O') (fun i _=>l.length - (intOf i).toNat)
 case atStart=>exact ⟨0,Nat.zero_le _,rfl,g0,O,HST.out,Lib.hid HTT.out.symm,Pst.refl _ _⟩
 case round=>
  obtain ⟨k,hk,rfl,g,O1,hst,HI,hps⟩:=hrel
  have ST:=Lib.hid hst
  have PS:=Lib.hid hps
  clear hst hps c0
  by_cases hlt:k < l.length
  ·obtain ⟨d0,-,-⟩:=KC.out wr O1 PS.out
   have HL:=Lib.hid (KL.out wr O1 PS.out)
   obtain ⟨-,-,-,hat⟩:=rdInts_at HL.out
   obtain ⟨ad,rfl,-,e0⟩:=hat k hlt
   have i0:(0:Int)≤(k:Int):=by omega
   have i1:(k:Int) < (l.length:Int):=by omega
   have k1:IntKind.i64.wrap ((k:Int)+1)=(k:Int)+1:=IntWalk.i64_in _ (by omega)
   have hk1:k+1≤l.length:=hlt
   have hk2:k+1≤cl:=by omega
   have IV:=Lib.hid (show Hid (g++(rowP f kd L l[k] (l.drop (k+1))++pairP f kd L (l.drop (k+1)))=T) from by rw [←pairP_step hlt];exact HI)
   have PK:=Lib.hid (HP.out.1 _ (List.getElem_mem hlt))
   generalize hp:l[k]=p at e0 IV PK
   clear hp hat HI
   obtain ⟨R,hR⟩:∃R,R=pairP f kd L (l.drop (k+1)):=⟨_,rfl⟩
   rw [←hR] at IV
   have HR:=Lib.hid hR
   clear hR
   by_cases hck:cl=k+1
   rotate_left
   ·go_wp2_with fail
    go_loopw [23] (fun i wr=>∃n:Nat,n≤l.length - (k+1)∧i=.int .i64 n∧∃g O',St wr g O'∧Hid (g++(rowP f kd L p (l.drop (k+1+n))++R)=T)∧Pst W1 O wr O') (fun i _=>l.length - (k+1) - (intOf i).toNat)
    case atStart=>exact ⟨0,Nat.zero_le _,rfl,g,O1,ST.out,IV.out,PS.out⟩
    case round=>
     obtain ⟨n,hn,rfl,g,O1,hst,HI,hps⟩:=hrel
     have ST:=Lib.hid hst
     have PS:=Lib.hid hps
     clear hst hps d0
     by_cases hnl:n < l.length - (k+1)
     ·have hj:k+1+n < l.length:=by omega
      obtain ⟨d0,d1,d2⟩:=KC.out wr O1 PS.out
      obtain ⟨-,-,-,hat⟩:=rdInts_at (KL.out wr O1 PS.out)
      obtain ⟨adx,eax,-,e1⟩:=hat _ hj
      obtain rfl:ad=adx:=Option.some.inj eax
      clear eax
      rw [add_add10] at e1
      have n0:(0:Int)≤(n:Int):=by omega
      have n1:(n:Int) < ((l.length - (k+1):Nat):Int):=by omega
      have SR:=Lib.hid (rowP_step (f:=f) (k:=kd) (U:=L) (p:=p) hj)
      have PJ:=Lib.hid (HP.out.1 _ (List.getElem_mem hj))
      obtain ⟨ja,hja,epa,ea⟩:=ent_at10 PK.out.1 PK.out.2
      obtain ⟨jb,hjb,epb,eb⟩:=ent_at10 PJ.out.1 PJ.out.2
      rw [epb] at e1
      obtain ⟨adE,A1,c1,A2,c2,A3,c3,A4,c4,eE,-,hv,g0,g1,g2,g3,g4,g5⟩:=KE.out wr O1 PS.out ja hja
      obtain ⟨adE',D1,d1',D2,d2',D3,d3,D4,d4,eE',-,hv',q0,q1,q2,q3,q4,q5⟩:=KE.out wr O1 PS.out jb hjb
      obtain rfl:adE=adE':=Option.some.inj (eE.symm.trans eE')
      rw [eE] at d1
      have a0:(0:Int)≤(ja:Int):=by omega
      have a1:(ja:Int) < (L.length:Int):=by omega
      have b0:(0:Int)≤(jb:Int):=by omega
      have b1:(jb:Int) < (L.length:Int):=by omega
      have K1:=Lib.hid (fun dd os=>HAA.out L[ja] L[jb] A1 c1 A2 c2 A3 c3 A4 c4 D1 d1' D2 d2' D3 d3 D4 d4 (grow (redrawn wr dd) os) ((KB.out wr O1 PS.out).trans ((below_regrown wr dd os).mono (KB.out wr O1 PS.out).size)) (List.getElem_mem hja) (List.getElem_mem hjb) (hv.on (below_regrown wr dd os)) (hv'.on (below_regrown wr dd os)))
      have SRT:=Lib.hid (fun (e:f L[ja] L[jb]=true)=>show g++[⟨kd,(ja:Int),(jb:Int)⟩]++(rowP f kd L p (l.drop (k+1+(n+1)))++R)=T from by
       rw [←ea,←eb] at e
       have:=HI.out
       rw [SR.out.1 e] at this
       rw [←epa,←epb,List.append_assoc,List.singleton_append,←Nat.add_assoc];exact this)
      have SRF:=Lib.hid (fun (e:f L[ja] L[jb]=false)=>show g++(rowP f kd L p (l.drop (k+1+(n+1)))++R)=T from by
       rw [←ea,←eb] at e
       have:=HI.out
       rw [SR.out.2 e] at this
       rw [←Nat.add_assoc];exact this)
      have BW:=Lib.hid (fun dd os=>below_regrown wr dd os)
      have xb:=fun dd os=>cell_regrown (w:=wr) d1 dd os
      have x0:=fun dd os=>cell_regrown (w:=wr) g0 dd os
      have y0:=fun dd os=>cell_regrown (w:=wr) q0 dd os
      have x1:=fun dd os=>cell_regrown (w:=wr) g1 dd os
      have y1:=fun dd os=>cell_regrown (w:=wr) q1 dd os
      have x2:=fun dd os=>cell_regrown (w:=wr) g2 dd os
      have y2:=fun dd os=>cell_regrown (w:=wr) q2 dd os
      have x3:=fun dd os=>cell_regrown (w:=wr) g3 dd os
      have y3:=fun dd os=>cell_regrown (w:=wr) q3 dd os
      have x4:=fun dd os=>cell_regrown (w:=wr) g4 dd os
      have y4:=fun dd os=>cell_regrown (w:=wr) q4 dd os
      have x5:=fun dd os=>cell_regrown (w:=wr) g5 dd os
      have y5:=fun dd os=>cell_regrown (w:=wr) q5 dd os
      obtain rfl:=epa
      generalize hF:f L[ja] L[jb]=F at K1 SRT SRF
      clear hat SR PJ ea eb epb d1 d2 hv hv' g0 g1 g2 g3 g4 g5 q0 q1 q2 q3 q4 q5 hF HI eE' d0
      generalize hyx:L[ja]=X at x0 x1 x2 x3 x4 x5 K1
      generalize hyy:L[jb]=Y at y0 y1 y2 y3 y4 y5 K1
      clear hyx hyy
      obtain ⟨nx,vx,dx,rx,cx,px⟩:=X
      obtain ⟨ny,vy,dy,ry,cy,py⟩:=Y
      simp only at x0 x1 x2 x3 x4 x5 y0 y1 y2 y3 y4 y5 K1
      go_wp2_with fail
      refine wp_region_quiet_below mixed (by kernel_rfl) ?_
      repeat (go_big_quiet_step (first|(refine Calls.regrown_of (K1.out _ _))))
      refine wpQuiet_nil ?_
      intro W3 hw3
      have B3:=Lib.hid (show Below wr.heap.size wr W3 from by obtain ⟨pp,e⟩:=hw3;rw [e];exact BW.out pp.d pp.os)
      have PS3:=Lib.hid (PS.out.below B3.out)
      have ST3:=Lib.hid (HSS.out.up ST.out B3.out)
      clear hw3 BW xb x0 x1 x2 x3 x4 x5 y0 y1 y2 y3 y4 y5 K1
      cases F
      ·have NX:=Lib.hid (Lib.hid (SRF.out rfl))
       clear SRT SRF
       go_wp2
       go_roundw
       case rel=>exact ⟨n+1,by omega,by go_num,g,O1,ST3.out,NX.out,PS3.out⟩
       case measure=>simp [intOf];omega
      ·have NX:=Lib.hid (Lib.hid (SRT.out rfl))
       have GL:=Lib.hid (show g.length+1≤1000000 from by
        have:=congrArg List.length NX.out.out
        have:=TL.out
        simp only [List.length_append,List.length_singleton] at *
        omega)
       obtain ⟨-,-,d2⟩:=KC.out W3 O1 PS3.out
       have KK:=Lib.hid (HSS.out.call W3 g O1 ⟨kd,(ja:Int),(jb:Int)⟩ ST3.out GL.out)
       clear SRT SRF
       go_wp2_with fail
       refine KK.out.mono ?_
       rintro e w4 ⟨rfl,O4,hst4,hp4⟩
       have ST4:=Lib.hid hst4
       have PS4:=Lib.hid (PS3.out.trans hp4)
       clear hst4 hp4 d2 KK
       go_wp2
       go_roundw
       case rel=>exact ⟨n+1,by omega,by go_num,_,O4,ST4.out,NX.out,PS4.out⟩
       case measure=>simp [intOf];omega
     ·have hnl':¬(n:Int) < ((l.length - (k+1):Nat):Int):=by omega
      have NX:=Lib.hid (show Hid (g++pairP f kd L (l.drop (k+1))=T) from by
       have:=HI.out
       rw [List.drop_eq_nil_of_le (by omega)] at this
       have e:=HR.out
       rw [←e]
       exact Lib.hid this)
      go_wp2
      go_roundw
      case rel=>exact ⟨k+1,by omega,by go_num,g,O1,ST.out,NX.out,PS.out⟩
      case measure=>simp [intOf];omega
   ·go_wp2_with fail
    go_loopw [23] (fun i wr=>∃n:Nat,n≤l.length - (k+1)∧i=.int .i64 n∧∃g O',St wr g O'∧Hid (g++(rowP f kd L p (l.drop (k+1+n))++R)=T)∧Pst W1 O wr O') (fun i _=>l.length - (k+1) - (intOf i).toNat)
    case atStart=>exact ⟨0,Nat.zero_le _,rfl,g,O1,ST.out,IV.out,PS.out⟩
    case round=>
     obtain ⟨n,hn,rfl,g,O1,hst,HI,hps⟩:=hrel
     have ST:=Lib.hid hst
     have PS:=Lib.hid hps
     clear hst hps d0
     by_cases hnl:n < l.length - (k+1)
     ·omega
     ·have hnl':¬(n:Int) < ((l.length - (k+1):Nat):Int):=by omega
      have NX:=Lib.hid (show Hid (g++pairP f kd L (l.drop (k+1))=T) from by
       have:=HI.out
       rw [List.drop_eq_nil_of_le (by omega)] at this
       have e:=HR.out
       rw [←e]
       exact Lib.hid this)
      go_wp2
      go_roundw
      case rel=>exact ⟨k+1,by omega,by go_num,g,O1,ST.out,NX.out,PS.out⟩
      case measure=>simp [intOf];omega
  ·obtain rfl:k=l.length:=by omega
   have FIN:=Lib.hid (show g=T from by have:=HI.out;rw [List.drop_eq_nil_of_le (Nat.le_refl _)] at this;exact (List.append_nil g).symm.trans this)
   go_wp2
   go_end0
   exact ⟨rfl,O1,by rw [←FIN.out];exact ST.out,PS.out⟩
def FltR (w w':World) (ok:Bool) (T:List Ft) (e:Ending):Prop:=
 (ok=false→e=.returned (.tuple #[.slice none 0 0,.int .i64 1]))∧(ok=true→∃A c,e=.returned (.tuple #[.slice A T.length c,.int .i64 0])∧rdFts w' (own10 w w') T [.slice A T.length c])
end Go.Proofs.YthchfkhpmgkghaaGreatDoor
