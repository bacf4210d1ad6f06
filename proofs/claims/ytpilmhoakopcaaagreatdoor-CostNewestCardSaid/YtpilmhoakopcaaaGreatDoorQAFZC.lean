/- What the laws rest on: VerP, P7a, P7d, N9a, StbP, P7z, E10g, N10b, E10d, E9t, E11d, Sum, Within, AddMul, Total, WithinC. -/
import Derived.Shelf.SlSortCmp.KitK
import Derived.Lib.SliceRun
import Derived.Maps.OwnSet
import Derived.StringKeys
import Derived.Sort.LotA
import Derived.Sort.WalkB2
import Derived.Sort.WalkB12
import Derived.Deep.LoopGhost
import Derived.Laws.BitsLemmas
import Derived.Test.YtpilmhoakopcaaaGreatDoorRows
import Derived.OpenShut
import Derived.Defers
import Derived.Recover
import Derived.Deep.AppendLies
import Derived.Deep.Draws
import Derived.Test.YtpilmhoakopcaaaGreatDoorQZ0ZC
set_option maxRecDepth 100000
set_option linter.unusedVariables false
set_option linter.unusedSimpArgs false
namespace Go.Proofs.YtpilmhoakopcaaaGreatDoor
open Go.RowKit
def ndB (c:Nat):Bool:=!digB c
def wordL (l:List Nat):List Nat:=l.takeWhile ndB
def behL (l:List Nat):List Nat:=l.dropWhile ndB
theorem wordL_nil {l:List Nat} (h:nonD l=false):wordL l=[]∧behL l=l:=by
 cases l with
 | nil=>exact ⟨rfl,rfl⟩
 | cons c l=>
  simp only [nonD,Bool.not_eq_false'] at h
  simp [wordL,behL,ndB,h]
theorem wordL_cons {l:List Nat} (h:nonD l=true):∃c,l=c::l.drop 1∧digB c=false∧wordL l=c::wordL (l.drop 1)∧behL l=behL (l.drop 1):=by
 cases l with
 | nil=>simp [nonD] at h
 | cons c l=>
  simp only [nonD,Bool.not_eq_true'] at h
  exact ⟨c,by simp,h,by simp [wordL,ndB,h],by simp [behL,ndB,h]⟩
theorem behL_non (l:List Nat):nonD (behL l)=false:=by
 unfold behL
 induction l with
 | nil=>rfl
 | cons c l ih=>
  rw [List.dropWhile_cons]
  split
  ·exact ih
  ·rename_i h;simp only [ndB,Bool.not_eq_true',Bool.not_eq_false] at h;simp [nonD,h]
theorem cwL_step (a b:List Nat) (h:a≠[]∨b≠[]):cwL a b=if sgn (vw a - vw b)≠0 then sgn (vw a - vw b) else cwL (a.drop 1) (b.drop 1):=by
 have hm:∃f,max a.length b.length=f+1∧max (a.drop 1).length (b.drop 1).length=f:=by
  rcases a with _|⟨x,a⟩<;>rcases b with _|⟨y,b⟩
  ·simp at h
  ·exact ⟨b.length,by simp,by simp⟩
  ·exact ⟨a.length,by simp,by simp⟩
  ·exact ⟨max a.length b.length,by simp only [List.length_cons];omega,by simp⟩
 obtain ⟨f,h1,h2⟩:=hm
 unfold cwL
 rw [h1,h2]
 rfl
theorem cwL_nil:cwL [] []=0:=rfl
def wtc (c:Nat):Int:=if c=126 then -1 else if letB c then c else 1000+c
def vwc (c:Nat):Int:=if c=126 then -1 else if letB c then c else c+256
theorem let_bd {c:Nat} (h:letB c=true):65≤c∧c≤122:=by simp [letB] at h;omega
theorem same_iff (c d:Nat):(wtc c < wtc d↔vwc c < vwc d)∧(wtc d < wtc c↔vwc d < vwc c):=by
 unfold wtc vwc
 by_cases h1:c=126<;>by_cases h2:d=126<;>by_cases h3:letB c=true<;>by_cases h4:letB d=true<;>simp only [h1,h2,h3,h4,if_true,if_false,Bool.false_eq_true]<;>(try have:=let_bd h3)<;>(try have:=let_bd h4)<;>constructor<;>constructor<;>intro _<;>omega
theorem zero_iff (c:Nat):(wtc c < 0↔vwc c < 0)∧(0 < wtc c↔0 < vwc c):=by
 unfold wtc vwc
 by_cases h1:c=126<;>by_cases h3:letB c=true<;>simp only [h1,h3,if_true,if_false,Bool.false_eq_true]<;>(try have:=let_bd h3)<;>constructor<;>constructor<;>intro _<;>omega
theorem sgn_same {x y u v:Int} (h1:x < y↔u < v) (h2:y < x↔v < u):sgn (x - y)=sgn (u - v):=by
 rcases sgn_is (x - y) with h|h|h<;>rcases sgn_is (u - v) with k|k|k<;>rw [h.2,k.2]<;>exfalso<;>omega
theorem head_same (a b:List Nat):sgn (wt a - wt b)=sgn (vw (wordL a) - vw (wordL b)):=by
 have key:∀l:List Nat,(nonD l=false∧wt l=0∧vw (wordL l)=0)∨∃c,wt l=wtc c∧vw (wordL l)=vwc c:=by
  intro l
  cases h:nonD l
  ·exact .inl ⟨rfl,wt_end h,by rw [(wordL_nil h).1];rfl⟩
  ·obtain ⟨c,e,hd,hw,_⟩:=wordL_cons h
   refine .inr ⟨c,?_,by rw [hw];rfl⟩
   rw [e];simp [wt,wtc,hd]
 rcases key a with ⟨_,a1,a2⟩|⟨c,a1,a2⟩<;>rcases key b with ⟨_,b1,b2⟩|⟨d,b1,b2⟩<;>rw [a1,a2,b1,b2]
 ·exact sgn_same ⟨fun h=>(zero_iff d).2.1 h,fun h=>(zero_iff d).2.2 h⟩ ⟨fun h=>(zero_iff d).1.1 h,fun h=>(zero_iff d).1.2 h⟩
 ·exact sgn_same ⟨fun h=>(zero_iff c).1.1 h,fun h=>(zero_iff c).1.2 h⟩ ⟨fun h=>(zero_iff c).2.1 h,fun h=>(zero_iff c).2.2 h⟩
 ·exact sgn_same (same_iff c d).1 (same_iff c d).2
theorem drop_word {l:List Nat} (h:nonD l=true):(wordL l).drop 1=wordL (l.drop 1):=by
 obtain ⟨c,_,_,hw,_⟩:=wordL_cons h
 rw [hw];simp
theorem cmp_words:∀(n:Nat) (a b:List Nat),a.length+b.length≤n→cmpS a b=if cwL (wordL a) (wordL b)≠0 then cwL (wordL a) (wordL b) else cmpS (behL a) (behL b)
 | 0,a,b,h=>by
  have h1:a=[]:=List.eq_nil_of_length_eq_zero (by omega)
  have h2:b=[]:=List.eq_nil_of_length_eq_zero (by omega)
  subst h1;subst h2
  rfl
 | n+1,a,b,h=>by
  by_cases hn:nonD a=false∧nonD b=false
  ·obtain ⟨a1,a2⟩:=wordL_nil hn.1
   obtain ⟨b1,b2⟩:=wordL_nil hn.2
   rw [a1,a2,b1,b2,cwL_nil,if_neg (by simp)]
  ·have hne:wordL a≠[]∨wordL b≠[]:=by
    cases ha:nonD a
    ·cases hb:nonD b
     ·exact absurd ⟨ha,hb⟩ hn
     ·obtain ⟨c,_,_,hw,_⟩:=wordL_cons hb
      exact .inr (by rw [hw];simp)
    ·obtain ⟨c,_,_,hw,_⟩:=wordL_cons ha
     exact .inl (by rw [hw];simp)
   rw [cwL_step _ _ hne,←head_same]
   by_cases hs:sgn (wt a - wt b)≠0
   ·rw [if_pos hs,if_pos hs]
    exact cmpS_ne (fun e=>hs (by rw [e,Int.sub_self];rfl))
   ·rw [if_neg hs]
    have hor:(nonD a||nonD b)=true:=by
     cases ha:nonD a<;>cases hb:nonD b<;>simp_all
    obtain ⟨ha,hb⟩:=both_non hor hs
    have e:wt a=wt b:=by have:=sgn_zero.1 (Classical.not_not.1 hs);omega
    rw [cmpS_eq e (wt_non ha),drop_word ha,drop_word hb]
    obtain ⟨c,ea,_,_,ba⟩:=wordL_cons ha
    obtain ⟨d,eb,_,_,bb⟩:=wordL_cons hb
    rw [ba,bb]
    refine cmp_words n _ _ ?_
    have:=drop1_len (wt_non ha)
    have:=drop1_len (wt_non hb)
    omega
def numA (l:List Nat):List Nat:=(behL l).takeWhile digB
def restA (l:List Nat):List Nat:=(behL l).dropWhile digB
def dz (l:List Nat):List Nat:=l.dropWhile (fun c=>c==48)
theorem dz_numA (l:List Nat):dz (numA l)=digs (behL l):=rfl
theorem dw_drop (p:Nat→Bool):∀l:List Nat,l.dropWhile p=l.drop (l.takeWhile p).length
 | []=>rfl
 | c::l=>by
  cases h:p c
  ·simp [h]
  ·simp [h];exact dw_drop p l
theorem restA_is (l:List Nat):restA l=(behL l).drop (numD (behL l)):=by
 unfold restA numD
 exact dw_drop digB (behL l)
def stepC (a b:List Nat):Int:=orL [cwL (wordL a) (wordL b),numC (dz (numA a)) (dz (numA b))]
theorem cmp_round (a b:List Nat):cmpS a b=if stepC a b≠0 then stepC a b else cmpS (restA a) (restA b):=by
 rw [cmp_words _ a b (Nat.le_refl _)]
 have wa:wt (behL a)=0:=wt_end (behL_non a)
 have wb:wt (behL b)=0:=wt_end (behL_non b)
 rw [cmpS_no wa wb,←restA_is,←restA_is]
 unfold stepC
 simp only [orL,dz_numA]
 by_cases h1:cwL (wordL a) (wordL b)=0
 ·by_cases h2:numC (digs (behL a)) (digs (behL b))=0
  ·simp [h1,h2]
  ·simp [h1,h2]
 ·simp [h1]
theorem restA_len (l:List Nat):(restA l).length≤l.length:=by
 unfold restA behL
 exact Nat.le_trans (List.dropWhile_suffix _).length_le (List.dropWhile_suffix _).length_le
theorem restA_lt {l:List Nat} (h:l≠[]):(restA l).length < l.length:=by
 cases hn:nonD l
 ·obtain ⟨_,b⟩:=wordL_nil hn
  rw [restA_is,b]
  exact dropN_lt (wt_end hn) h
 ·obtain ⟨c,e,_,_,hb⟩:=wordL_cons hn
  have h1:(restA l).length≤(l.drop 1).length:=by
   unfold restA;rw [hb];exact restA_len (l.drop 1)
  have h2:(l.drop 1).length < l.length:=by rw [List.length_drop];cases l with|nil=>exact absurd rfl h|cons _ _=>simp
  omega
end Go.Proofs.YtpilmhoakopcaaaGreatDoor
namespace Go.Proofs.YtpilmhoakopcaaaGreatDoor
open Go.RowKit Go.Sort
def Gw (w w':World):Prop:=∃q os,w'=grow (w.drewN q) os
theorem Gw.below {w w':World} (h:Gw w w'):Below w.heap.size w w':=by
 obtain ⟨q,os,rfl⟩:=h
 exact ⟨rfl,rfl,rfl,by rw [size_grow];exact Nat.le_add_right _ _,fun k hk=>by
  unfold grow
  show ((w.drewN q).heap++os)[k]?=_
  rw [Array.getElem?_append_left (by exact hk)];rfl⟩
structure HrV where
 x:Hr
 A1:Option Addr
 c1:Nat
 A2:Option Addr
 c2:Nat
 A3:Option Addr
 c3:Nat
 A4:Option Addr
 c4:Nat
instance:Inhabited HrV:=⟨⟨nil7,none,0,none,0,none,0,none,0⟩⟩
def HrV.cs (r:HrV):List Value:=[.string r.x.e.n,.string r.x.e.v,.slice r.A1 r.x.e.d.length r.c1,.slice r.A2 r.x.e.r.length r.c2,.slice r.A3 r.x.e.c.length r.c3,.slice r.A4 r.x.e.p.length r.c4,.bool r.x.a,.bool r.x.h]
set_option maxHeartbeats 1000000 in
theorem name_any (r:HrV) (w:World):Calls Tryz.prog 71 #[.agg r.cs.toArray] w fun e w'=>e=.returned (.string r.x.e.n)∧Gw w w':=by
 obtain ⟨⟨⟨n,v,d,rr,c,p⟩,a,h⟩,A1,c1,A2,c2,A3,c3,A4,c4⟩:=r
 unfold HrV.cs
 go_enter Tryz.func71,Tryz.ntmps71
 go_wp2
 go_ret
 exact ⟨rfl,0,_,by rw [alloc_eq_grow];rfl⟩
set_option maxHeartbeats 2000000 in
theorem cloneh_any (A:Option Addr) (n c:Nat) (l:List Hr) (w:World) (h:rdHrs w (lt_ w.heap.size) l [.slice A n c]) (hl:l.length≤200) :
  Calls Tryz.prog 36 #[.slice A n c] w fun e w'=>(∃v',e=.returned v'∧Grow rdHr 8 (lt_ w.heap.size) w' w.heap.size 67 v' l)∧Below w.heap.size w w':=by
 have qT:∀(w:World) (a:Option Addr) (n c n' c':Nat),(binOp .eql 23 (.slice a n c) (.slice none n' c')).run Tryz.prog w=.ok (.bool a.isNone) w:=fun w a n c n' c'=>Lib.run_eql_slice_nil w _ _ a n c n' c' Tryz.underlying23
 obtain ⟨i0,hi,hz0,hz1,hz2⟩:=info_parts here_info
 obtain ⟨rfl,hnc,hcm,hat⟩:=rdHrs_at h
 have hcm':c≤9223372036854775807:=hcm
 cases A with
 | none=>
  obtain rfl:l=[]:=by
   rcases Nat.eq_zero_or_pos l.length with h0|h0
   ·exact List.eq_nil_of_length_eq_zero h0
   ·obtain ⟨_,_,_,_,_,_,_,_,_,e,_⟩:=hat 0 h0
    cases e
  clear h hat hcm
  go_enter Tryz.func36,Tryz.ntmps36
  go_wp2
  go_ret
  exact ⟨⟨_,rfl,Grow.nil _ _ _ _⟩,Below.refl _ _⟩
 | some ad=>
  have B1:=(Below.refl w.heap.size w).alloc (Nat.le_refl _) (.cells #[] 67)
  have hG:=Grow.empty (E:=rdHr) (sz:=8) (lt_ w.heap.size) (W:=w.alloc (.cells #[] 67)) (base:=w.heap.size) (heap_alloc_new w _) (Nat.le_refl _)
  have hX:=rdHrs_good.below h B1
  have hn1:([]:List Hr).length+l.length≤maxLen:=by simp only [List.length_nil];unfold maxLen;omega
  have hn2:(([]:List Hr).length+l.length)*136≤140737488355328:=by simp only [List.length_nil];omega
  have hS:∀b,lt_ w.heap.size b→lt_ w.heap.size b∧b < (w.alloc (.cells #[] 67)).heap.size∧(Value.slice (some ⟨w.heap.size,0,none⟩) 0 0).ownBlock≠some b:=fun b hb=>⟨hb,by rw [World.size_alloc];unfold lt_ at hb;omega,fun hh=>by simp only [Value.ownBlock,Option.some.injEq] at hh;unfold lt_ at hb;omega⟩
  have hbs:w.heap.size≤(w.alloc (.cells #[] 67)).heap.size:=by rw [World.size_alloc];omega
  have HB1:=Lib.hid B1
  clear h B1 hcm hat
  go_enter Tryz.func36,Tryz.ntmps36
  go_wp2_with (at_builtin;refine wpList_growN _ rfl _ _ 23 23 rfl rdHr_good (by decide) (lt_ w.heap.size) w.heap.size 67 67 i0 (.agg #[.string { data:=#[] },.string { data:=#[] },.slice none 0 0,.slice none 0 0,.slice none 0 0,.slice none 0 0,.bool false,.bool false]) 136 Tryz.underlying23 Tryz.underlying23 hi hz0 hz1 hz2 rfl _ _ rfl hG l _ (some ad) l.length c rfl hX hS hn1 hn2 hbs ?_)
  intro v' w1 hG1 hg1
  have HB2:=Lib.hid (grow_below hG hg1 HB1.out (Nat.le_refl _) hbs)
  have HG:=Lib.hid hG1
  clear hG hX hg1 hn1 hn2 hS hbs hG1
  go_wp2
  go_ret
  exact ⟨⟨_,rfl,HG.out⟩,HB2.out⟩
end Go.Proofs.YtpilmhoakopcaaaGreatDoor
namespace Go.Proofs.YtpilmhoakopcaaaGreatDoor
open Go.RowKit
def heldR9:Value→Option (DataW Value × List MemPlace):=fun v=>some (.held v,[])
def MapF (P:Program) (k:TypeId) (z:Value) (w:World) (b n:Nat) (f:ByteArray→Value):Prop:=
 ∃D:DataW Value,w.ownsMap P k heldR9 b n D∧∀s:ByteArray,s.size≤maxLen→D.atKey (.string s.data.toList) (.held z)=.held (f s)
def upd9 {α:Type} (f:ByteArray→α) (s:ByteArray) (v:α):ByteArray→α:=fun x=>if x=s then v else f x
theorem upd9_same {α:Type} (f:ByteArray→α) (s:ByteArray) (v:α):upd9 f s v s=v:=if_pos rfl
theorem upd9_ne {α:Type} (f:ByteArray→α) {s x:ByteArray} (v:α) (h:x≠s):upd9 f s v x=f x:=if_neg h
section
variable {P:Program} {k t e:TypeId} {z:Value} {w w':World} {b n:Nat} {f:ByteArray→Value}
theorem MapF.made (w:World) (P:Program) (k:TypeId) (z:Value):MapF P k z (w.alloc (.map #[] 0)) w.heap.size 0 (fun _=>z):=
 ⟨_,World.ownsMap_made _ _ _ _,fun s _=>rfl⟩
theorem MapF.lt (h:MapF P k z w b n f):b < w.heap.size:=by obtain ⟨D,h,_⟩:=h;exact h.lt
theorem MapF.kept {row:Option Nat} (h:MapF P k z w b n f) (hg:w.grownBy w' row) (hne:some b≠row):MapF P k z w' b n f:=by
 obtain ⟨D,h,q⟩:=h
 exact ⟨D,h.kept hg hne,q⟩
theorem MapF.same (h:MapF P k z w b n f) (hb:w'.heap[b]?=w.heap[b]?):MapF P k z w' b n f:=by
 obtain ⟨D,⟨es,clock,h1,h2⟩,q⟩:=h
 exact ⟨D,⟨es,clock,hb.trans h1,h2⟩,q⟩
theorem MapF.below {N:Nat} (h:MapF P k z w b n f) (hb:b < N) (hB:Below N w w'):MapF P k z w' b n f:=h.same (hB.block b hb)
theorem MapF.look (h:MapF P k z w b n f) (K:Maps.Keyed P k) (hk:P.underlying k=some .string) (ht:P.underlying t=some (.map k e)) (hz:(zeroValue e).run P w=.ok z w) (s:ByteArray) (hs:s.size≤maxLen) :
  (Instr.lookup t (.map (some b)) (.string s) false).run P w=.ok (f s) w:=by
 obtain ⟨D,h,q⟩:=h
 obtain ⟨v,ps,hr,hv⟩:=h.lookup K ht hz (zd:=.held z) (zp:=[]) rfl (WideMaps.keyOf_string_mk hk hs)
 rw [q s hs] at hv
 have e1:v=f s:=by
  have:=congrArg Prod.fst (Option.some.inj hv)
  exact DataW.held.inj this
 rw [hr,e1]
theorem MapF.put (h:MapF P k z w b n f) (K:Maps.Keyed P k) (hk:P.underlying k=some .string) (ht:P.underlying t=some (.map k e)) (hn:n < maxLen) (s:ByteArray) (hs:s.size≤maxLen) (v:Value) :
  ∃w',(Instr.mapUpdate t (.map (some b)) (.string s) v).run P w=.ok () w'∧MapF P k z w' b (n+1) (upd9 f s v)∧w.grownBy w' (some b):=by
 obtain ⟨D,h,q⟩:=h
 obtain ⟨w',hr,ho,hg⟩:=h.update K ht hn (WideMaps.keyOf_string_mk hk hs) (d:=.held v) (ps:=[]) rfl
 refine ⟨w',hr,⟨_,ho,fun x hx=>?_⟩,hg⟩
 have hM:Maps.IsMap D:=by
  obtain ⟨es,clock,_,_,_,hD⟩:=h
  exact ⟨_,hD⟩
 by_cases e:x=s
 ·subst e
  rw [Maps.atKey_put_same hM (show WideAt.IsKeyLit (.string x.data.toList) from trivial),upd9_same]
 ·rw [Maps.atKey_put_other (fun hh=>e ?_),upd9_ne _ _ e]
  ·exact q x hx
  ·injection hh with hh
   cases x;cases s
   simp only [ByteArray.mk.injEq]
   exact Array.toList_inj.1 hh
theorem wpList_mapUpdate_fn {ops:Array Oper} {rest:List Oper} {o:Oper} {a:Act} {Q:Exit→Act→World→Prop}
  (hg:o.guard=none) (m x y:Operand) (hop:o.op=Op.mapUpdate t m x y) (K:Maps.Keyed P k) (hk:P.underlying k=some .string) (ht:P.underlying t=some (.map k e)) (h:MapF P k z w b n f)
  (hm:a.eval m=.map (some b)) (hn:n < maxLen) (s:ByteArray) (v:Value) (hx:a.eval x=.string s) (hy:a.eval y=v) (hs:s.size≤maxLen)
  (hK:∀w',MapF P k z w' b (n+1) (upd9 f s v)→w.grownBy w' (some b)→wpList P ops Q rest (a.put o.dst undef) w') :
  wpList P ops Q (o::rest) a w:=by
 refine wpList_plain hg fun K' hK'=>?_
 obtain ⟨w',hrun,r1,r2⟩:=h.put K hk ht hn s hs v
 unfold Oper.wp
 simp [execOp,hop,hm,hx,hy,hrun,Result.andThen]
 exact hK' _ _ (hK w' r1 r2)
end
end Go.Proofs.YtpilmhoakopcaaaGreatDoor
namespace Go.Proofs.YtpilmhoakopcaaaGreatDoor
open Go.Sort
section
variable {α:Type} [Inhabited α] (lt:α→α→Bool)
variable {lt}
def rng (P X M Y Q:List α) (s:Nat):List α:=P++((Y.take s++X.drop s)++(M++((X.take s++Y.drop s)++Q)))
end
end Go.Proofs.YtpilmhoakopcaaaGreatDoor
namespace Go.Proofs.YtpilmhoakopcaaaGreatDoor
open Go.RowKit Go.Sort
section
variable {α:Type} [Inhabited α] {enc:α→List Value} {k:Nat} {w W:World} {blk off:Nat} {d:Array α}
theorem swk_heap (h:SWK enc k w blk off d W) {cur:Array Value} {e:TypeId} {fr:Nat × Nat} (hb:w.heap[blk]?=some (.cells cur e fr)):∃cur',W.heap[blk]?=some (.cells cur' e fr)∧cur'.size=cur.size:=by
 obtain ⟨n,os,rfl⟩:=h
 have hlt:blk < w.heap.size:=(Array.getElem?_eq_some_iff.1 hb).1
 refine ⟨putCells id off (flatK enc k d) cur,?_,by simp [putCells]⟩
 unfold sortWorldK
 rw [heap_grow_old _ _ (by rw [size_putRowK];exact hlt)]
 unfold putRowK putRow mapBlock
 simp only [Array.getElem?_modify,if_true]
 show (w.heap[blk]?).map _=_
 rw [hb];rfl
theorem swk_other (h:SWK enc k w blk off d W):∀b,b≠blk→b < w.heap.size→W.heap[b]?=w.heap[b]?:=by
 obtain ⟨n,os,rfl⟩:=h
 intro b hb hlt
 unfold sortWorldK
 rw [heap_grow_old _ _ (by rw [size_putRowK];exact hlt)]
 unfold putRowK putRow mapBlock
 simp only [Array.getElem?_modify,if_neg (Ne.symm hb)]
 rfl
theorem swk_below (h:SWK enc k w blk off d W) {N:Nat} (hN:N≤blk) (hlt:blk < w.heap.size):Below N w W:=by
 refine ⟨?_,?_,?_,h.le,fun b hb=>swk_other h b (by omega) (by omega)⟩
 ·obtain ⟨n,os,rfl⟩:=h;rfl
 ·obtain ⟨n,os,rfl⟩:=h;rfl
 ·obtain ⟨n,os,rfl⟩:=h;rfl
end
theorem contains_any10 (l:List Int) (n:Int):l.contains n=l.any fun x=>x==n:=by
 induction l with
 | nil=>rfl
 | cons a r ih=>
  rw [List.contains_cons,List.any_cons,ih]
  congr 1
  rw [Bool.eq_iff_iff,beq_iff_eq,beq_iff_eq]
  exact eq_comm
end Go.Proofs.YtpilmhoakopcaaaGreatDoor
namespace Go.Proofs.YtpilmhoakopcaaaGreatDoor
open Go.RowKit
structure Pst (W:World) (O:Nat→Prop) (W':World) (O':Nat→Prop):Prop where
 os:W'.os=W.os
 tape:W'.tape=W.tape
 output:W'.output=W.output
 size:W.heap.size≤W'.heap.size
 block:∀b,b < W.heap.size→¬O b→W'.heap[b]?=W.heap[b]?
 own:∀b,O' b→O b∨W.heap.size≤b
theorem Pst.refl (W:World) (O:Nat→Prop):Pst W O W O:=⟨rfl,rfl,rfl,Nat.le_refl _,fun _ _ _=>rfl,fun _ h=>.inl h⟩
theorem Pst.trans {A B C : World} {O P Q : Nat → Prop} (h : Pst A O B P) (k : Pst B P C Q) : Pst A O C Q :=
  ⟨k.os.trans h.os, k.tape.trans h.tape, k.output.trans h.output, Nat.le_trans h.size k.size,
   fun b hb ho => (k.block b (Nat.lt_of_lt_of_le hb h.size) (fun hp => (h.own b hp).elim ho fun q => by omega)).trans (h.block b hb ho),
   fun b hq => (k.own b hq).elim (h.own b) fun q => .inr (Nat.le_trans h.size q)⟩
theorem Pst.of_below {W W':World} {O:Nat→Prop} (h:Below W.heap.size W W'):Pst W O W' O:=⟨h.os,h.tape,h.output,h.size,fun b hb _=>h.block b hb,fun _ h=>.inl h⟩
theorem Pst.below {A B C:World} {O P:Nat→Prop} (h:Pst A O B P) (k:Below B.heap.size B C):Pst A O C P:=h.trans (Pst.of_below k)
theorem Pst.base {W W':World} {O O':Nat→Prop} {N:Nat} (h:Pst W O W' O') (hO:∀b,O b→N≤b) (hN:N≤W.heap.size):Below N W W':=
 ⟨h.os,h.tape,h.output,h.size,fun b hb=>h.block b (by omega) fun q=>by have:=hO b q;omega⟩
theorem Pst.keep {α:Type} {E:Rd α} {sz:Nat} (g:Good E sz) {W W':World} {O O' S:Nat→Prop} {a:α} {cs:List Value} (h:Pst W O W' O') (hr:E W S a cs) (hS:∀b,S b→b < W.heap.size∧¬O b):E W' (lt_ W'.heap.size) a cs:=
 g.both hr (fun b hb=>h.block b (hS b hb).1 (hS b hb).2) fun b hb=>Nat.lt_of_lt_of_le (hS b hb).1 h.size
def Fw10 (l:List Ent) (m:List Hr):Prop:=(l.length≤30∧∀x ∈ l,Sm x)∧m.length≤30∧∀x ∈ m,Sm x.e
theorem rangU_len (i n:Nat):(rangU i n).length=n:=by unfold rangU;rw [List.length_map,List.length_range']
theorem rangU_at {i n j:Nat} (hj:j < (rangU i n).length):(rangU i n)[j]=((i+j:Nat):Int):=by
 simp [rangU]
set_option maxHeartbeats 4000000 in
theorem light11_any (A:Option Addr) (n c:Nat) (l:List Atm) (w:World) (h:rdAtms w (lt_ w.heap.size) l [.slice A n c]) :
  Calls Tryz.prog 69 #[.slice A n c] w fun e w'=>LtR (Lt l) e∧w=w':=by
 obtain ⟨rfl,hnc,hcm,hat⟩:=rdAtms_at h
 have hcm':c≤9223372036854775807:=hcm
 have HAT:=Lib.hid hat
 clear h hat hcm
 by_cases g0:(20:Int) < (l.length:Int)
 ·go_enter Tryz.func69,Tryz.ntmps69
  go_wp2
  go_ret
  exact ⟨ltR_no _,rfl⟩
 have HL:=Lib.hid (show l.length≤20 by omega)
 go_enter Tryz.func69,Tryz.ntmps69
 go_wp2
 go_loop [3] (fun i=>∃k:Nat,k≤l.length∧i=.int .i64 k∧(∀j (hj:j < l.length),j < k→l[j].n.size≤100∧l[j].v.size≤100)) (fun i=>l.length - (intOf i).toNat)
 case atStart=>exact ⟨0,Nat.zero_le _,rfl,fun j _ hj=>absurd hj (Nat.not_lt_zero _)⟩
 case round=>
  obtain ⟨k,hk,rfl,hall⟩:=hrel
  have HA:=Lib.hid hall
  clear hall
  by_cases hlt:k < l.length
  ·obtain ⟨ad,rfl,had,h0,h1,h2⟩:=HAT.out k hlt
   have i0:(0:Int)≤(k:Int):=by omega
   have i1:(k:Int) < (l.length:Int):=by omega
   clear had h1
   by_cases g1:(100:Int) < (l[k].n.size:Int)
   ·go_wp2
    go_ret
    exact ⟨ltR_no _,rfl⟩
   by_cases g2:(100:Int) < (l[k].v.size:Int)
   ·go_wp2
    go_ret
    exact ⟨ltR_no _,rfl⟩
   have NX:=Lib.hid (show l[k].n.size≤100∧l[k].v.size≤100 from ⟨by omega,by omega⟩)
   go_wp2
   go_round
   case rel=>exact ⟨k+1,by omega,by go_num,fun j hj h=>by
    by_cases hjk:j=k
    ·subst hjk;exact NX.out
    ·exact HA.out j hj (by omega)⟩
   case measure=>simp [intOf];omega
  ·obtain rfl:k=l.length:=by omega
   have FIN:=Lib.hid (show Lt l from ⟨HL.out,fun a ha=>by
    obtain ⟨j,hj,rfl⟩:=List.getElem_of_mem ha
    exact HA.out j hj hj⟩)
   go_wp2
   go_ret
   exact ⟨ltR_yes FIN.out,rfl⟩
set_option maxHeartbeats 8000000 in
theorem fine11_any (x:Ent) (A1:Option Addr) (c1:Nat) (A2:Option Addr) (c2:Nat) (A3:Option Addr) (c3:Nat) (A4:Option Addr) (c4:Nat) (w:World) (hx:EntV w (lt_ w.heap.size) x A1 c1 A2 c2 A3 c3 A4 c4) :
  Calls Tryz.prog 30 #[x.val A1 c1 A2 c2 A3 c3 A4 c4] w fun e w'=>LtR (Sm x) e∧Below w.heap.size w w':=by
 obtain ⟨n,v,d,r,c,p⟩:=x
 have B1:=Lib.hid (show Below w.heap.size w (w.alloc (.cells #[.string n,.string v,.slice A1 d.length c1,.slice A2 r.length c2,.slice A3 c.length c3,.slice A4 p.length c4] 60)) from (Below.refl _ w).alloc (Nat.le_refl _) _)
 have hy:=hx.on B1.out
 obtain ⟨hd1,hd2,hd3,hd⟩:=rdGrps_at hy.d
 obtain ⟨hr1,hr2,hr3,hr⟩:=rdGrps_at hy.r
 have hcm1:c1≤9223372036854775807:=hd3
 have hcm2:c2≤9223372036854775807:=hr3
 have KC:=Lib.hid (light11_any A3 c.length c3 c _ hy.c)
 have KP:=Lib.hid (light11_any A4 p.length c4 p _ hy.p)
 have HD:=Lib.hid hd
 have HR:=Lib.hid hr
 clear hx hy hd hr hd1 hr1 hd3 hr3
 show Calls Tryz.prog 30 #[.agg #[.string n,.string v,.slice A1 d.length c1,.slice A2 r.length c2,.slice A3 c.length c3,.slice A4 p.length c4]] w _
 go_enter Tryz.func30,Tryz.ntmps30
 go_wp2_with fail
 refine KC.out.mono ?_
 rintro e w' ⟨⟨b1,rfl,hb1⟩,rfl⟩
 go_wp2_with fail
 refine KP.out.mono ?_
 rintro e w' ⟨⟨b2,rfl,hb2⟩,rfl⟩
 cases b1
 ·go_wp2
  go_ret
  exact ⟨ltR_no _,B1.out⟩
 cases b2
 ·go_wp2
  go_ret
  exact ⟨ltR_no _,B1.out⟩
 have HC:=Lib.hid (hb1 rfl)
 have HP:=Lib.hid (hb2 rfl)
 clear hb1 hb2
 by_cases g0:(100:Int) < (n.size:Int)
 ·go_wp2
  go_ret
  exact ⟨ltR_no _,B1.out⟩
 by_cases g1:(100:Int) < (v.size:Int)
 ·go_wp2
  go_ret
  exact ⟨ltR_no _,B1.out⟩
 by_cases g2:(15:Int) < (d.length:Int)
 ·go_wp2
  go_ret
  exact ⟨ltR_no _,B1.out⟩
 by_cases g3:(15:Int) < (r.length:Int)
 ·go_wp2
  go_ret
  exact ⟨ltR_no _,B1.out⟩
 have HS:=Lib.hid (show n.size≤100∧v.size≤100∧d.length≤15∧r.length≤15 from ⟨by omega,by omega,by omega,by omega⟩)
 go_wp2
 go_loop [5] (fun i=>∃k:Nat,k≤d.length∧i=.int .i64 k∧(∀j (hj:j < d.length),j < k→Lt d[j])) (fun i=>d.length - (intOf i).toNat)
 case atStart=>exact ⟨0,Nat.zero_le _,rfl,fun j _ hj=>absurd hj (Nat.not_lt_zero _)⟩
 case round=>
  obtain ⟨k,hk,rfl,hall⟩:=hrel
  have HA:=Lib.hid hall
  clear hall
  by_cases hlt:k < d.length
  ·obtain ⟨ad,Y,cy,rfl,had,h0,h1⟩:=HD.out k hlt
   have i0:(0:Int)≤(k:Int):=by omega
   have i1:(k:Int) < (d.length:Int):=by omega
   have K:=Lib.hid (light11_any _ _ _ _ _ h1)
   clear had h1
   go_wp2_with fail
   refine K.out.mono ?_
   rintro e w' ⟨⟨b,rfl,hb⟩,rfl⟩
   cases b
   ·go_wp2
    go_ret
    exact ⟨ltR_no _,B1.out⟩
   have NX:=Lib.hid (hb rfl)
   clear hb
   go_wp2
   go_round
   case rel=>exact ⟨k+1,by omega,by go_num,fun j hj h=>by
    by_cases hjk:j=k
    ·subst hjk;exact NX.out
    ·exact HA.out j hj (by omega)⟩
   case measure=>simp [intOf];omega
  ·obtain rfl:k=d.length:=by omega
   have F5:=Lib.hid (show ∀g ∈ d,Lt g from fun g hg=>by
    obtain ⟨j,hj,rfl⟩:=List.getElem_of_mem hg
    exact HA.out j hj hj)
   clear HA
   go_wp2
   go_loop [7] (fun i=>∃k:Nat,k≤r.length∧i=.int .i64 k∧(∀j (hj:j < r.length),j < k→Lt r[j])) (fun i=>r.length - (intOf i).toNat)
   case atStart=>exact ⟨0,Nat.zero_le _,rfl,fun j _ hj=>absurd hj (Nat.not_lt_zero _)⟩
   case round=>
    obtain ⟨k,hk,rfl,hall⟩:=hrel
    have HA:=Lib.hid hall
    clear hall
    by_cases hlt:k < r.length
    ·obtain ⟨ad,Y,cy,rfl,had,h0,h1⟩:=HR.out k hlt
     have i0:(0:Int)≤(k:Int):=by omega
     have i1:(k:Int) < (r.length:Int):=by omega
     have K:=Lib.hid (light11_any _ _ _ _ _ h1)
     clear had h1
     go_wp2_with fail
     refine K.out.mono ?_
     rintro e w' ⟨⟨b,rfl,hb⟩,rfl⟩
     cases b
     ·go_wp2
      go_ret
      exact ⟨ltR_no _,B1.out⟩
     have NX:=Lib.hid (hb rfl)
     clear hb
     go_wp2
     go_round
     case rel=>exact ⟨k+1,by omega,by go_num,fun j hj h=>by
      by_cases hjk:j=k
      ·subst hjk;exact NX.out
      ·exact HA.out j hj (by omega)⟩
     case measure=>simp [intOf];omega
    ·obtain rfl:k=r.length:=by omega
     have F7:=Lib.hid (show ∀g ∈ r,Lt g from fun g hg=>by
      obtain ⟨j,hj,rfl⟩:=List.getElem_of_mem hg
      exact HA.out j hj hj)
     clear HA
     go_wp2
     go_ret
     exact ⟨ltR_yes ⟨HC.out,HP.out,HS.out.1,HS.out.2.1,HS.out.2.2.1,HS.out.2.2.2,F5.out,F7.out⟩,B1.out⟩
def Fw11 (l:List Ent) (m:List Hr):Prop:=(l.length≤30∧∀x ∈ l,Sm x)∧m.length≤30∧∀x ∈ m,Sm x.e
set_option maxHeartbeats 8000000 in
theorem small11_any (A:Option Addr) (n c:Nat) (l:List Ent) (A':Option Addr) (n' c':Nat) (m:List Hr) (w:World) (h:rdEnts w (lt_ w.heap.size) l [.slice A n c]) (h':rdHrs w (lt_ w.heap.size) m [.slice A' n' c']) :
  Calls Tryz.prog 9 #[.slice A n c,.slice A' n' c'] w fun e w'=>LtR (Fw11 l m) e∧Below w.heap.size w w':=by
 obtain ⟨rfl,hnc,hcm,-⟩:=rdEnts_at h
 obtain ⟨rfl,hnc',hcm',-⟩:=rdHrs_at h'
 have hcm1:c≤9223372036854775807:=hcm
 have hcm2:c'≤9223372036854775807:=hcm'
 clear hcm hcm'
 by_cases g0:(30:Int) < (l.length:Int)
 ·go_enter Tryz.func9,Tryz.ntmps9
  go_wp2
  go_ret
  exact ⟨ltR_no _,Below.refl _ _⟩
 by_cases g1:(30:Int) < (m.length:Int)
 ·go_enter Tryz.func9,Tryz.ntmps9
  go_wp2
  go_ret
  exact ⟨ltR_no _,Below.refl _ _⟩
 have HL:=Lib.hid (show l.length≤30∧m.length≤30 by omega)
 have H':=Lib.hid h'
 clear h'
 go_enter Tryz.func9,Tryz.ntmps9
 go_wp2
 go_loopw [5] (fun i wr=>∃k:Nat,k≤l.length∧i=.int .i64 k∧(∀j (hj:j < l.length),j < k→Sm l[j])∧Below w.heap.size w wr) (fun i _=>l.length - (intOf i).toNat)
 case atStart=>exact ⟨0,Nat.zero_le _,rfl,fun j _ hj=>absurd hj (Nat.not_lt_zero _),Below.refl _ _⟩
 case round=>
  obtain ⟨k,hk,rfl,hall,hbel⟩:=hrel
  have HA:=Lib.hid hall
  have HB:=Lib.hid hbel
  clear hall
  by_cases hlt:k < l.length
  ·obtain ⟨_,_,_,hat⟩:=rdEnts_at (rdEnts_good.up (rdEnts_good.below h hbel) hbel.size)
   obtain ⟨ad,A1,c1,A2,c2,A3,c3,A4,c4,rfl,had,hv,h0,h1,h2,h3,h4,h5⟩:=hat k hlt
   have i0:(0:Int)≤(k:Int):=by omega
   have i1:(k:Int) < (l.length:Int):=by omega
   have K:=Lib.hid (fine11_any l[k] A1 c1 A2 c2 A3 c3 A4 c4 _ hv)
   clear had hat hv hbel h
   go_wp2_with fail
   refine K.out.mono ?_
   rintro e w' ⟨⟨b,rfl,hb⟩,hbl⟩
   have HB2:=Lib.hid (HB.out.trans (hbl.mono HB.out.size))
   cases b
   ·go_wp2
    go_ret
    exact ⟨ltR_no _,HB2.out⟩
   have NX:=Lib.hid (hb rfl)
   clear hb hbl h0 h1 h2 h3 h4 h5
   go_wp2
   go_roundw
   case rel=>exact ⟨k+1,by omega,by go_num,fun j hj h=>by
    by_cases hjk:j=k
    ·subst hjk;exact NX.out
    ·exact HA.out j hj (by omega),HB2.out⟩
   case measure=>simp [intOf];omega
  ·obtain rfl:k=l.length:=by omega
   have FIN:=Lib.hid (show ∀x ∈ l,Sm x from fun a ha=>by
    obtain ⟨j,hj,rfl⟩:=List.getElem_of_mem ha
    exact HA.out j hj hj)
   clear h hbel HA
   go_wp2
   go_loopw [7] (fun i wr=>∃k:Nat,k≤m.length∧i=.int .i64 k∧(∀j (hj:j < m.length),j < k→Sm m[j].e)∧Below w.heap.size w wr) (fun i _=>m.length - (intOf i).toNat)
   case atStart=>exact ⟨0,Nat.zero_le _,rfl,fun j _ hj=>absurd hj (Nat.not_lt_zero _),HB.out⟩
   case round=>
    clear HB
    obtain ⟨k,hk,rfl,hall,hbel⟩:=hrel
    have HA:=Lib.hid hall
    have HB:=Lib.hid hbel
    clear hall
    by_cases hlt:k < m.length
    ·obtain ⟨_,_,_,hat⟩:=rdHrs_at (rdHrs_good.up (rdHrs_good.below H'.out hbel) hbel.size)
     obtain ⟨ad,A1,c1,A2,c2,A3,c3,A4,c4,rfl,had,hv,h0,h1,h2,h3,h4,h5,-,-⟩:=hat k hlt
     have i0:(0:Int)≤(k:Int):=by omega
     have i1:(k:Int) < (m.length:Int):=by omega
     have K:=Lib.hid (fine11_any m[k].e A1 c1 A2 c2 A3 c3 A4 c4 _ hv)
     clear had hat hv hbel
     go_wp2_with fail
     refine K.out.mono ?_
     rintro e w' ⟨⟨b,rfl,hb⟩,hbl⟩
     have HB2:=Lib.hid (HB.out.trans (hbl.mono HB.out.size))
     cases b
     ·go_wp2
      go_ret
      exact ⟨ltR_no _,HB2.out⟩
     have NX:=Lib.hid (hb rfl)
     clear hb hbl h0 h1 h2 h3 h4 h5
     go_wp2
     go_roundw
     case rel=>exact ⟨k+1,by omega,by go_num,fun j hj h=>by
      by_cases hjk:j=k
      ·subst hjk;exact NX.out
      ·exact HA.out j hj (by omega),HB2.out⟩
     case measure=>simp [intOf];omega
    ·obtain rfl:k=m.length:=by omega
     have FIN2:=Lib.hid (show Fw11 l m from ⟨⟨HL.out.1,FIN.out⟩,HL.out.2,fun a ha=>by
      obtain ⟨j,hj,rfl⟩:=List.getElem_of_mem ha
      exact HA.out j hj hj⟩)
     clear hbel
     go_wp2
     go_ret
     exact ⟨ltR_yes FIN2.out,HB.out⟩
def InR (n:Int):Prop:=-9223372036854775808≤n∧n≤9223372036854775807
instance (n:Int):Decidable (InR n):=by unfold InR;exact inferInstance
theorem wrap_in {n:Int} (h:InR n):wrap64 n=n:=by unfold InR at h;unfold wrap64;omega
theorem add_test {a b:Int} (ha:InR a) (hb:InR b):(!(decide (wrap64 (a+b) < a)==decide (b < 0)))=!decide (InR (a+b)):=by
 have e:(decide (wrap64 (a+b) < a)==decide (b < 0))=decide (InR (a+b)):=by
  rw [Bool.eq_iff_iff]
  simp only [beq_iff_eq,decide_eq_decide,decide_eq_true_eq]
  unfold InR wrap64 at *
  omega
 rw [e]
theorem add_fits (a b:Int) (w:World) (ha:InR a) (hb:InR b) (h:InR (a+b)) :
  Calls Tryz.prog 67 #[.int .i64 a,.int .i64 b] w fun e w'=>e=.returned (.int .i64 (a+b))∧w=w':=by
 have ht:=add_test ha hb
 simp only [h,decide_true,Bool.not_true] at ht
 have E:=Lib.hid (wrap_in h)
 clear h ha hb
 go_enter Tryz.func67,Tryz.ntmps67
 go_wp2
 go_ret
 exact ⟨by rw [E.out];rfl,rfl⟩
theorem add_over (a b:Int) (w:World) (ha:InR a) (hb:InR b) (h:¬InR (a+b)) :
  Calls Tryz.prog 67 #[.int .i64 a,.int .i64 b] w fun e w'=>e=.panicked [{ v:=.iface 30 (.int .i64 2),recovered:=false }]∧w=w':=by
 have ht:=add_test ha hb
 simp only [h,decide_false,Bool.not_false] at ht
 clear h ha hb
 go_enter Tryz.func67,Tryz.ntmps67
 go_wp2
 exact ⟨rfl,rfl,rfl⟩
theorem as_errno (n:Int) (w:World):(Instr.typeAssert (.iface 30 (.int .i64 n)) 20 30 true).run Tryz.prog w=.ok (.tuple #[.int .i64 n,.bool true]) w:=by kernel_rfl
theorem cell_old {w:World} {p:Addr} {v:Value} (h:w.cell? p=some v) (o:Obj):(w.alloc o).cell? p=some v:=by
 have hb:p.block < w.heap.size:=by
  rcases Nat.lt_or_ge p.block w.heap.size with hl|hl
  ·exact hl
  ·exfalso
   simp [World.cell?,Array.getElem?_eq_none hl] at h
 rw [←h]
 exact World.cell?_of_block (w:=w) (Below.heap_alloc w o p.block hb)
section
variable {w w':World} {B B' size n:Nat} {A:Option Addr} {xs:List Value}
end
def ints (l:List Int):List Value:=l.map (Value.int .i64)
theorem cell_lt {w:World} {p:Addr} {v:Value} (h:w.cell? p=some v):p.block < w.heap.size:=by
 rcases Nat.lt_or_ge p.block w.heap.size with hl|hl
 ·exact hl
 ·exfalso
  simp [World.cell?,Array.getElem?_eq_none hl] at h
theorem catchC_idle (p:Addr) (w:World) :
  CallsD Tryz.prog 99 #[.pointer (some p)] .returning w fun e u' w'=>e=.returned (.tuple #[])∧u'=.returning∧w'=w:=by
 refine callsD_of_wpS Tryz.func99 rfl fun c₀ cs hu=>?_
 apply wpS_seq
 apply wpS_region
 simp [wpOpsS,go_sem,recoverD,hu,Tryz.ntmps99,Exit.thenS]
 refine wpS_of_wp ?_
 go_wp2
 cases c₀
 simp_all [bodyPostS,results,Tryz.results99]
set_option maxHeartbeats 400000 in
theorem catchC_errno (p:Addr) (x n:Int) (older:List PanicEntry) (w:World) (hc:w.cell? p=some (.int .i64 x)) (hz:w.frozen? p=false) :
  CallsD Tryz.prog 99 #[.pointer (some p)] (.panicking ({ v:=.iface 30 (.int .i64 n),recovered:=false }::older)) w fun e u' w'=>
   e=.returned (.tuple #[])∧u'=.panicking ({ v:=.iface 30 (.int .i64 n),recovered:=true }::older)∧w'=w.setCell p (.int .i64 n):=by
 have hta:=as_errno
 refine callsD_of_wpS Tryz.func99 rfl fun c₀ cs hu=>?_
 apply wpS_seq
 apply wpS_region
 simp [wpOpsS,go_sem,recoverD,hu,Tryz.ntmps99,Exit.thenS]
 refine wpS_of_wp ?_
 clear hu
 go_wp2
 simp [bodyPostS,results,Tryz.results99]
theorem withinC_ok (k:Nat) (cap:Array Value) (w:World) (x0 x1 x2 x3 x4:Int) (hk:∀w,(callFunc k cap).run Tryz.prog w=.ok (.enter k cap) w)
  (h:Calls Tryz.prog k cap ((w.alloc (.cells #[.int .i64 0,.int .i64 0,.int .i64 0,.int .i64 0,.int .i64 0] 39)).alloc (.cells #[.int .i64 0] 30)) fun e w'=>e=.returned (.agg #[.int .i64 x0,.int .i64 x1,.int .i64 x2,.int .i64 x3,.int .i64 x4])∧Below (w.heap.size+2) ((w.alloc (.cells #[.int .i64 0,.int .i64 0,.int .i64 0,.int .i64 0,.int .i64 0] 39)).alloc (.cells #[.int .i64 0] 30)) w') :
  Calls Tryz.prog 65 #[.func (.func k) #[] cap] w fun e w'=>e=.returned (.tuple #[.agg #[.int .i64 x0,.int .i64 x1,.int .i64 x2,.int .i64 x3,.int .i64 x4],.int .i64 0])∧Below w.heap.size w w':=by
 have hmf:∀(fn:Fn) (first cap:Array Value) (w:World),(Instr.makeFunc fn first cap).run Tryz.prog w=.ok (.func fn first cap) w:=fun _ _ _ _=>rfl
 have H:=Lib.hid h
 clear h
 go_enter_defers Tryz.func65,Tryz.ntmps65
 go_wp2_with fail
 refine H.out.mono ?_
 rintro e w1 ⟨rfl,hb⟩
 have hc:∀b o,b < w.heap.size+2→w1.cell? ⟨b,o,none⟩=((w.alloc (.cells #[.int .i64 0,.int .i64 0,.int .i64 0,.int .i64 0,.int .i64 0] 39)).alloc (.cells #[.int .i64 0] 30)).cell? ⟨b,o,none⟩:=fun b o hl=>hb.cell (p:=⟨b,o,none⟩) hl
 have hf:∀b o,b < w.heap.size+2→w1.frozen? ⟨b,o,none⟩=((w.alloc (.cells #[.int .i64 0,.int .i64 0,.int .i64 0,.int .i64 0,.int .i64 0] 39)).alloc (.cells #[.int .i64 0] 30)).frozen? ⟨b,o,none⟩:=fun b o hl=>hb.frozen (p:=⟨b,o,none⟩) hl
 have c0:w1.cell? ⟨w.heap.size,0,none⟩=some (.int .i64 0):=by rw [hc _ _ (by omega)];simp [go_sem]
 have f0:w1.frozen? ⟨w.heap.size,0,none⟩=false:=by rw [hf _ _ (by omega)];simp [go_sem]
 have c1:w1.cell? ⟨w.heap.size,1,none⟩=some (.int .i64 0):=by rw [hc _ _ (by omega)];simp [go_sem]
 have f1:w1.frozen? ⟨w.heap.size,1,none⟩=false:=by rw [hf _ _ (by omega)];simp [go_sem]
 have c2:w1.cell? ⟨w.heap.size,2,none⟩=some (.int .i64 0):=by rw [hc _ _ (by omega)];simp [go_sem]
 have f2:w1.frozen? ⟨w.heap.size,2,none⟩=false:=by rw [hf _ _ (by omega)];simp [go_sem]
 have c3:w1.cell? ⟨w.heap.size,3,none⟩=some (.int .i64 0):=by rw [hc _ _ (by omega)];simp [go_sem]
 have f3:w1.frozen? ⟨w.heap.size,3,none⟩=false:=by rw [hf _ _ (by omega)];simp [go_sem]
 have c4:w1.cell? ⟨w.heap.size,4,none⟩=some (.int .i64 0):=by rw [hc _ _ (by omega)];simp [go_sem]
 have f4:w1.frozen? ⟨w.heap.size,4,none⟩=false:=by rw [hf _ _ (by omega)];simp [go_sem]
 have ce:w1.cell? ⟨w.heap.size+1,0,none⟩=some (.int .i64 0):=by rw [hc _ _ (by omega)];simp [go_sem]
 have fe:w1.frozen? ⟨w.heap.size+1,0,none⟩=false:=by rw [hf _ _ (by omega)];simp [go_sem]
 clear hc hf
 go_wp2
 refine leaves_cons (f:=99) (args:=#[.pointer (some ⟨w.heap.size+1,0,none⟩)]) (by simp) (by simp [go_sem]) ?_
 refine (catchC_idle ⟨w.heap.size+1,0,none⟩ _).mono ?_
 rintro e u' w'' ⟨rfl,rfl,rfl⟩
 obtain ⟨V,hV⟩:∃V,V=((((((w1.setCell ⟨w.heap.size,0,none⟩ (.int .i64 x0)).setCell ⟨w.heap.size,1,none⟩ (.int .i64 x1)).setCell ⟨w.heap.size,2,none⟩ (.int .i64 x2)).setCell ⟨w.heap.size,3,none⟩ (.int .i64 x3)).setCell ⟨w.heap.size,4,none⟩ (.int .i64 x4)).setCell ⟨w.heap.size+1,0,none⟩ (.int .i64 0)):=⟨_,rfl⟩
 have bV:Below w.heap.size w V:=by
  rw [hV]
  exact (((((((((Below.refl _ w).alloc (Nat.le_refl _) _).alloc (by simp) _).trans (hb.mono (by omega))).setCell (Nat.le_refl _) _).setCell (Nat.le_refl _) _).setCell (Nat.le_refl _) _).setCell (Nat.le_refl _) _).setCell (Nat.le_refl _) _).setCell (Nat.le_succ _) _
 have d0:V.cell? ⟨w.heap.size,0,none⟩=some (.int .i64 x0):=by rw [hV];simp [go_sem,c0]
 have d1:V.cell? ⟨w.heap.size,1,none⟩=some (.int .i64 x1):=by rw [hV];simp [go_sem,c1]
 have d2:V.cell? ⟨w.heap.size,2,none⟩=some (.int .i64 x2):=by rw [hV];simp [go_sem,c2]
 have d3:V.cell? ⟨w.heap.size,3,none⟩=some (.int .i64 x3):=by rw [hV];simp [go_sem,c3]
 have d4:V.cell? ⟨w.heap.size,4,none⟩=some (.int .i64 x4):=by rw [hV];simp [go_sem,c4]
 have de:V.cell? ⟨w.heap.size+1,0,none⟩=some (.int .i64 0):=by rw [hV];simp [go_sem,ce]
 rw [←hV]
 clear hV c0 c1 c2 c3 c4 ce f0 f1 f2 f3 f4 fe
 simp [Leaves,settle,results,Tryz.results65,go_sem,d0,d1,d2,d3,d4,de]
 exact bV
theorem withinC_err (k:Nat) (cap:Array Value) (w:World) (n:Int) (hk:∀w,(callFunc k cap).run Tryz.prog w=.ok (.enter k cap) w)
  (h:Calls Tryz.prog k cap ((w.alloc (.cells #[.int .i64 0,.int .i64 0,.int .i64 0,.int .i64 0,.int .i64 0] 39)).alloc (.cells #[.int .i64 0] 30)) fun e w'=>e=.panicked [{ v:=.iface 30 (.int .i64 n),recovered:=false }]∧Below (w.heap.size+2) ((w.alloc (.cells #[.int .i64 0,.int .i64 0,.int .i64 0,.int .i64 0,.int .i64 0] 39)).alloc (.cells #[.int .i64 0] 30)) w') :
  Calls Tryz.prog 65 #[.func (.func k) #[] cap] w fun e w'=>e=.returned (.tuple #[.agg #[.int .i64 0,.int .i64 0,.int .i64 0,.int .i64 0,.int .i64 0],.int .i64 n])∧Below w.heap.size w w':=by
 have hmf:∀(fn:Fn) (first cap:Array Value) (w:World),(Instr.makeFunc fn first cap).run Tryz.prog w=.ok (.func fn first cap) w:=fun _ _ _ _=>rfl
 have H:=Lib.hid h
 clear h
 go_enter_defers Tryz.func65,Tryz.ntmps65
 go_wp2_with fail
 refine H.out.mono ?_
 rintro e w1 ⟨rfl,hb⟩
 have hc:∀b o,b < w.heap.size+2→w1.cell? ⟨b,o,none⟩=((w.alloc (.cells #[.int .i64 0,.int .i64 0,.int .i64 0,.int .i64 0,.int .i64 0] 39)).alloc (.cells #[.int .i64 0] 30)).cell? ⟨b,o,none⟩:=fun b o hl=>hb.cell (p:=⟨b,o,none⟩) hl
 have hf:∀b o,b < w.heap.size+2→w1.frozen? ⟨b,o,none⟩=((w.alloc (.cells #[.int .i64 0,.int .i64 0,.int .i64 0,.int .i64 0,.int .i64 0] 39)).alloc (.cells #[.int .i64 0] 30)).frozen? ⟨b,o,none⟩:=fun b o hl=>hb.frozen (p:=⟨b,o,none⟩) hl
 have c0:w1.cell? ⟨w.heap.size,0,none⟩=some (.int .i64 0):=by rw [hc _ _ (by omega)];simp [go_sem]
 have f0:w1.frozen? ⟨w.heap.size,0,none⟩=false:=by rw [hf _ _ (by omega)];simp [go_sem]
 have c1:w1.cell? ⟨w.heap.size,1,none⟩=some (.int .i64 0):=by rw [hc _ _ (by omega)];simp [go_sem]
 have f1:w1.frozen? ⟨w.heap.size,1,none⟩=false:=by rw [hf _ _ (by omega)];simp [go_sem]
 have c2:w1.cell? ⟨w.heap.size,2,none⟩=some (.int .i64 0):=by rw [hc _ _ (by omega)];simp [go_sem]
 have f2:w1.frozen? ⟨w.heap.size,2,none⟩=false:=by rw [hf _ _ (by omega)];simp [go_sem]
 have c3:w1.cell? ⟨w.heap.size,3,none⟩=some (.int .i64 0):=by rw [hc _ _ (by omega)];simp [go_sem]
 have f3:w1.frozen? ⟨w.heap.size,3,none⟩=false:=by rw [hf _ _ (by omega)];simp [go_sem]
 have c4:w1.cell? ⟨w.heap.size,4,none⟩=some (.int .i64 0):=by rw [hc _ _ (by omega)];simp [go_sem]
 have f4:w1.frozen? ⟨w.heap.size,4,none⟩=false:=by rw [hf _ _ (by omega)];simp [go_sem]
 have ce:w1.cell? ⟨w.heap.size+1,0,none⟩=some (.int .i64 0):=by rw [hc _ _ (by omega)];simp [go_sem]
 have fe:w1.frozen? ⟨w.heap.size+1,0,none⟩=false:=by rw [hf _ _ (by omega)];simp [go_sem]
 clear hc hf
 go_wp2
 refine leaves_cons (f:=99) (args:=#[.pointer (some ⟨w.heap.size+1,0,none⟩)]) (by simp) (by simp [go_sem]) ?_
 refine (catchC_errno ⟨w.heap.size+1,0,none⟩ 0 n [] w1 ce fe).mono ?_
 rintro e u' w'' ⟨rfl,rfl,rfl⟩
 obtain ⟨V,hV⟩:∃V,V=w1.setCell ⟨w.heap.size+1,0,none⟩ (.int .i64 n):=⟨_,rfl⟩
 have bV:Below w.heap.size w V:=by
  rw [hV]
  exact (((((Below.refl _ w).alloc (Nat.le_refl _) _).alloc (by simp) _).trans (hb.mono (by omega)))).setCell (Nat.le_succ _) _
 have d0:V.cell? ⟨w.heap.size,0,none⟩=some (.int .i64 0):=by rw [hV];simp [go_sem,c0]
 have d1:V.cell? ⟨w.heap.size,1,none⟩=some (.int .i64 0):=by rw [hV];simp [go_sem,c1]
 have d2:V.cell? ⟨w.heap.size,2,none⟩=some (.int .i64 0):=by rw [hV];simp [go_sem,c2]
 have d3:V.cell? ⟨w.heap.size,3,none⟩=some (.int .i64 0):=by rw [hV];simp [go_sem,c3]
 have d4:V.cell? ⟨w.heap.size,4,none⟩=some (.int .i64 0):=by rw [hV];simp [go_sem,c4]
 have de:V.cell? ⟨w.heap.size+1,0,none⟩=some (.int .i64 n):=by rw [hV];simp [go_sem,ce]
 rw [←hV]
 clear hV c0 c1 c2 c3 c4 ce f0 f1 f2 f3 f4 fe
 simp [Leaves,settle,results,Tryz.results65,go_sem,d0,d1,d2,d3,d4,de]
 exact bV
end Go.Proofs.YtpilmhoakopcaaaGreatDoor
