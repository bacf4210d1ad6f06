/- What the laws rest on: Str, CutP, StzP, Deep, StrRow, Deep2, S5a, D4a, RefDec, RefText, D4b, RefPrint, RefParse, RelP, EndsP, Rel1, Rel2. -/
import Derived.WalkKit
import Derived.Lib.Hide
import Derived.Test.YtbljkpbaceiaiaaGreatDoorProg
import Derived.Maps.AppendAt
import Derived.OwnWalk
import Derived.Below
import Derived.OneCell
import Derived.BigQuiet
import Derived.RangeFuncOwn
import Derived.OwnWalkIn
import Derived.Lib.Join
import Derived.Laws.IdiomStrings
import Derived.StillTailTactics
import Derived.Deep.QuietTactic
import Derived.Test.YtbljkpbaceiaiaaGreatDoorChecked
import Derived.WalkLawsBesides
import Derived.WalkSpells
set_option maxRecDepth 100000
set_option linter.unusedVariables false
set_option linter.unusedSimpArgs false
namespace Go.Proofs.YtbljkpbaceiaiaaGreatDoor
open Go.RowKit
def B (s:ByteArray):List Nat:=s.data.toList.map UInt8.toNat
def mk (l:List Nat):ByteArray:=⟨(l.map UInt8.ofNat).toArray⟩
theorem B_len (s:ByteArray):(B s).length=s.size:=by unfold B;rw [List.length_map,Array.length_toList];rfl
theorem B_lt (s:ByteArray):∀c ∈ B s,c < 256:=by
 intro c hc
 obtain ⟨u,_,rfl⟩:=List.mem_map.1 hc
 exact u.toNat_lt
theorem mk_B (s:ByteArray):mk (B s)=s:=by
 obtain ⟨⟨l⟩⟩:=s
 simp only [mk,B,List.map_map]
 congr 2
 rw [List.map_congr_left (g:=id) (by intro u _;simp),List.map_id]
theorem B_mk {l:List Nat} (h:∀c ∈ l,c < 256):B (mk l)=l:=by
 simp only [mk,B,List.map_map]
 rw [List.map_congr_left (g:=id) (by intro c hc;have:=h c hc;simp;omega),List.map_id]
theorem B_inj {s t:ByteArray} (h:B s=B t):s=t:=by rw [←mk_B s,h,mk_B]
theorem eq_mk {s:ByteArray} {l:List Nat} (h:B s=l):s=mk l:=by rw [←h,mk_B]
theorem B_at (s:ByteArray) (k:Nat) (hk:k < s.size):(B s)[k]?=some s[k].toNat:=by
 unfold B
 rw [List.getElem?_map,List.getElem?_eq_getElem (by rw [Array.length_toList];exact hk)]
 rfl
theorem B_getD (s:ByteArray) (k:Nat) (hk:k < s.size):(B s).getD k 0=s[k].toNat:=by
 rw [List.getD_eq_getElem?_getD,B_at s k hk];rfl
theorem B_drop (s:ByteArray) (k:Nat) (hk:k < s.size):(B s).drop k=s[k].toNat::(B s).drop (k+1):=by
 have h:=B_at s k hk
 have hl:k < (B s).length:=by rw [B_len];exact hk
 rw [List.drop_eq_getElem_cons hl]
 rw [List.getElem?_eq_getElem hl] at h
 injection h with h
 rw [h]
theorem B_drop_end (s:ByteArray) (k:Nat) (hk:s.size≤k):(B s).drop k=[]:=List.drop_eq_nil_of_le (by rw [B_len];exact hk)
theorem B_extract (s:ByteArray) (i j:Nat):B (s.extract i j)=((B s).drop i).take (j - i):=by
 unfold B
 rw [ByteArray.data_extract,Array.toList_extract]
 simp [List.extract,List.map_take,List.map_drop]
theorem B_append (s t:ByteArray):B (s++t)=B s++B t:=by
 unfold B
 rw [ByteArray.data_append,Array.toList_append,List.map_append]
theorem byte_le (s:ByteArray) (k:Nat) (hk:k < s.size):s[k].toNat < 256:=s[k].toNat_lt
def digB (c:Nat):Bool:=decide (48≤c∧c≤57)
def letB (c:Nat):Bool:=decide (97≤c∧c≤122∨65≤c∧c≤90)
theorem toList_data (s:ByteArray):s.toList=s.data.toList:=ByteArray.toList_eq s
theorem strEq (a:List Nat) (s:ByteArray) (h:∀c ∈ a,c < 256):((mk a).toList==s.toList)=decide (a=B s):=by
 rw [Bool.eq_iff_iff,beq_iff_eq,decide_eq_true_eq]
 constructor
 ·intro he
  rw [toList_data,toList_data] at he
  rw [←B_mk h]
  unfold B
  rw [he]
 ·rintro rfl
  rw [mk_B]
def preH (p:List Nat):List (List Nat)→List (List Nat)
 | []=>[p]
 | q::r=>(p++q)::r
def cutBy (c:Nat):List Nat→List (List Nat)
 | []=>[[]]
 | x::l=>if x=c then []::cutBy c l else preH [x] (cutBy c l)
theorem preH_ne (p:List Nat) (L:List (List Nat)):preH p L≠[]:=by cases L<;>simp [preH]
theorem cutBy_ne (c:Nat) (l:List Nat):cutBy c l≠[]:=by
 cases l with
 | nil=>simp [cutBy]
 | cons x l=>unfold cutBy;split;simp;exact preH_ne _ _
theorem preH_nil {L:List (List Nat)} (h:L≠[]):preH [] L=L:=by cases L with
 | nil=>exact absurd rfl h
 | cons q r=>simp [preH]
theorem preH_preH (p q:List Nat) (L:List (List Nat)):preH p (preH q L)=preH (p++q) L:=by cases L<;>simp [preH]
theorem preH_len (p:List Nat) {L:List (List Nat)} (h:L≠[]):(preH p L).length=L.length:=by cases L with
 | nil=>exact absurd rfl h
 | cons q r=>simp [preH]
theorem cutBy_app {c:Nat} {p:List Nat} (h:∀x ∈ p,x≠c) (l:List Nat):cutBy c (p++l)=preH p (cutBy c l):=by
 induction p with
 | nil=>rw [List.nil_append,preH_nil (cutBy_ne _ _)]
 | cons x p ih=>
  rw [List.cons_append]
  conv=>lhs;unfold cutBy
  rw [if_neg (h x (by simp)),ih (fun y hy=>h y (by simp [hy])),preH_preH];rfl
theorem cutBy_none {c:Nat} {p:List Nat} (h:∀x ∈ p,x≠c):cutBy c p=[p]:=by
 have:=cutBy_app h []
 rw [List.append_nil] at this
 rw [this];simp [cutBy,preH]
theorem cutBy_at {c:Nat} {p:List Nat} (h:∀x ∈ p,x≠c) (l:List Nat):cutBy c (p++c::l)=p::cutBy c l:=by
 rw [cutBy_app h]
 conv=>lhs;unfold cutBy
 rw [if_pos rfl];simp [preH]
theorem cutBy_snoc {c:Nat} {x:Nat} (h:x≠c):∀l:List Nat,∃i z,cutBy c l=i++[z]∧cutBy c (l++[x])=i++[z++[x]]
 | []=>⟨[],[],rfl,by simp [cutBy,h,preH]⟩
 | y::l=>by
  obtain ⟨i,z,h1,h2⟩:=cutBy_snoc h l
  rw [List.cons_append]
  unfold cutBy
  rw [h1,h2]
  by_cases hy:y=c
  ·rw [if_pos hy,if_pos hy];exact ⟨[]::i,z,rfl,rfl⟩
  ·rw [if_neg hy,if_neg hy]
   cases i with
   | nil=>exact ⟨[],y::z,rfl,rfl⟩
   | cons a i=>exact ⟨(y::a)::i,z,rfl,rfl⟩
theorem cutBy_mem {c:Nat}:∀{l:List Nat} {p:List Nat},p ∈ cutBy c l→∀x ∈ p,x ∈ l∧x≠c
 | [],p,hp,x,hx=>by simp [cutBy] at hp;subst hp;simp at hx
 | y::l,p,hp,x,hx=>by
  unfold cutBy at hp
  split at hp
  ·rcases List.mem_cons.1 hp with rfl|hp
   ·simp at hx
   ·exact ⟨List.mem_cons_of_mem _ (cutBy_mem hp x hx).1,(cutBy_mem hp x hx).2⟩
  ·rename_i hy
   cases hL:cutBy c l with
   | nil=>exact absurd hL (cutBy_ne _ _)
   | cons q r=>
    rw [hL] at hp
    rcases List.mem_cons.1 hp with rfl|hp
    ·rcases List.mem_cons.1 hx with rfl|hx
     ·exact ⟨by simp,hy⟩
     ·have:=cutBy_mem (c:=c) (l:=l) (p:=q) (by rw [hL];simp) x hx
      exact ⟨List.mem_cons_of_mem _ this.1,this.2⟩
    ·have:=cutBy_mem (c:=c) (l:=l) (p:=p) (by rw [hL];simp [hp]) x hx
     exact ⟨List.mem_cons_of_mem _ this.1,this.2⟩
theorem cutBy_mem_len {c:Nat}:∀{l:List Nat} {p:List Nat},p ∈ cutBy c l→p.length≤l.length
 | [],p,hp=>by simp [cutBy] at hp;subst hp;simp
 | y::l,p,hp=>by
  unfold cutBy at hp
  split at hp
  ·rcases List.mem_cons.1 hp with rfl|hp
   ·simp
   ·have:=cutBy_mem_len hp;simp;omega
  ·cases hL:cutBy c l with
   | nil=>exact absurd hL (cutBy_ne _ _)
   | cons q r=>
    rw [hL] at hp
    rcases List.mem_cons.1 hp with rfl|hp
    ·have:=cutBy_mem_len (c:=c) (l:=l) (p:=q) (by rw [hL];simp)
     simp;omega
    ·have:=cutBy_mem_len (c:=c) (l:=l) (p:=p) (by rw [hL];simp [hp])
     simp;omega
theorem cutBy_len (c:Nat):∀l:List Nat,(cutBy c l).length=l.count c+1
 | []=>by simp [cutBy]
 | y::l=>by
  unfold cutBy
  split
  ·rename_i h;rw [h,List.length_cons,cutBy_len c l,List.count_cons_self]
  ·rename_i h;rw [preH_len _ (cutBy_ne _ _),cutBy_len c l,List.count_cons_of_ne (by simpa using fun e=>h e)]
def joinL (sep:List Nat):List (List Nat)→List Nat
 | []=>[]
 | [x]=>x
 | x::y::r=>x++(sep++joinL sep (y::r))
theorem joinL_snoc (sep:List Nat):∀(l:List (List Nat)) (x:List Nat),joinL sep (l++[x])=if l=[] then x else joinL sep l++(sep++x)
 | [],x=>rfl
 | [y],x=>by simp [joinL]
 | y::z::r,x=>by
  have:=joinL_snoc sep (z::r) x
  rw [if_neg (by simp)] at this
  rw [if_neg (by simp),List.cons_append,List.cons_append]
  simp only [joinL]
  rw [←List.cons_append,this];simp
theorem take_mk (s:ByteArray) (i:Nat):(⟨(s.data.toList.take i).toArray⟩:ByteArray)=mk ((B s).take i):=by
 apply eq_mk;unfold B;rw [←List.map_take]
theorem drop_mk (s:ByteArray) (i:Nat):(⟨(s.data.toList.drop i).toArray⟩:ByteArray)=mk ((B s).drop i):=by
 apply eq_mk;unfold B;rw [←List.map_drop]
structure Fd where
 n:ByteArray
 v:ByteArray
deriving instance DecidableEq for Fd
abbrev Opn:=ByteArray × List (List Nat)
def nmC (c:Nat):Bool:=letB c||digB c||decide (c=45)
def fnB:List Nat→Bool
 | []=>false
 | c::r=>letB c&&r.all nmC&&decide (r.length < 40)
def lowB (l:List Nat):Bool:=l.any fun c=>decide (c < 32)
def joinB (ls:List (List Nat)):ByteArray:=mk (joinL [10] ls)
def clF (f:Opn):Fd:=⟨f.1,joinB f.2⟩
structure PS where
 dn:List (List Fd)
 op:List Opn
def PS.fin (s:PS):PS:=if s.op=[] then s else ⟨s.dn++[s.op.map clF],[]⟩
def onLast (x:List Nat):List Opn→List Opn
 | []=>[]
 | [f]=>[(f.1,f.2++[x])]
 | f::g::r=>f::onLast x (g::r)
def nmOf (l:List Nat):List Nat:=l.takeWhile fun c=>c != 58
def vlOf (l:List Nat):List Nat:=(l.drop ((nmOf l).length+1)).dropWhile fun c=>c==32
def begE (s:PS) (l:List Nat):Int:=
 if (decide (58 ∈ l)&&fnB (nmOf l))=true then
  (if (s.op.any fun f=>decide (f.1=mk (nmOf l)))=true then 7 else if (decide (s.op.length=40)||decide (s.dn.length=200))=true then 8 else 0)
 else 5
def goE (s:PS) (r:List Nat):Int:=if (decide (s.op=[])||decide (r=[]))=true then 5 else 0
def lnE (s:PS) (l:List Nat):Int:=
 if lowB l=true then 5 else match l with
  | []=>0
  | c::r=>if c=32 then goE s r else begE s (c::r)
def lnS (s:PS) (l:List Nat):PS:=
 match l with
  | []=>s.fin
  | c::r=>if c=32 then ⟨s.dn,onLast r s.op⟩ else ⟨s.dn,s.op++[(mk (nmOf (c::r)),[vlOf (c::r)])]⟩
def rnE (s:PS):List (List Nat)→Int
 | []=>0
 | l::r=>if lnE s l=0 then rnE (lnS s l) r else lnE s l
def rnN (s:PS) (k:Nat):List (List Nat)→Nat
 | []=>0
 | l::r=>if lnE s l=0 then rnN (lnS s l) (k+1) r else k+1
def rnS (s:PS):List (List Nat)→PS
 | []=>s
 | l::r=>rnS (lnS s l) r
def ps0:PS:=⟨[],[]⟩
def stE (s:List Nat):Int:=if 60000 < s.length then 9 else rnE ps0 (cutBy 10 s)
def stN (s:List Nat):Nat:=if 60000 < s.length then 0 else rnN ps0 0 (cutBy 10 s)
def stL (s:List Nat):List (List Fd):=if stE s=0 then (rnS ps0 (cutBy 10 s)).fin.dn else []
def getV (st:List Fd) (n:ByteArray):Bool:=st.any fun f=>decide (f.n=n)
structure Fit (s:PS):Prop where
 d:s.dn.length≤200
 o:s.op≠[]→s.dn.length < 200
 f:s.op.length≤40
 l:∀f ∈ s.op,f.2≠[]
 b:∀f ∈ s.op,∀x ∈ f.2,True
theorem onLast_snoc (x:List Nat) (f:Opn):∀i:List Opn,onLast x (i++[f])=i++[(f.1,f.2++[x])]
 | []=>rfl
 | [g]=>rfl
 | g::h::r=>by
  have:=onLast_snoc x f (h::r)
  simp only [List.cons_append,onLast] at this ⊢
  rw [this]
theorem onLast_len (x:List Nat) (l:List Opn):(onLast x l).length=l.length:=by
 rcases List.eq_nil_or_concat l with rfl|⟨i,f,rfl⟩
 ·rfl
 ·rw [List.concat_eq_append,onLast_snoc];simp
theorem fin_closed (s:PS):s.fin.op=[]:=by unfold PS.fin;split;assumption;rfl
theorem fin_of {s:PS} (h:s.op=[]):s.fin=s:=by unfold PS.fin;rw [if_pos h]
theorem fin_len (s:PS) (h:Fit s):s.fin.dn.length≤200:=by
 unfold PS.fin
 split
 ·exact h.d
 ·rename_i hne
  have:=h.o hne
  simp;omega
theorem fit_fin {s:PS} (h:Fit s):Fit s.fin:=by
 refine ⟨fin_len s h,fun e=>absurd (fin_closed s) e,by rw [fin_closed];simp,?_,fun _ _ _ _=>trivial⟩
 rw [fin_closed];simp
theorem fit0:Fit ps0:=⟨by simp [ps0],by simp [ps0],by simp [ps0],by simp [ps0],fun _ _ _ _=>trivial⟩
theorem begE_zero {s:PS} {l:List Nat} (h:begE s l=0):s.op.length≠40∧s.dn.length≠200∧(s.op.any fun f=>decide (f.1=mk (nmOf l)))=false:=by
 unfold begE at h
 split at h
 ·split at h
  ·cases h
  ·rename_i hn
   split at h
   ·cases h
   ·rename_i h2
    rw [Bool.or_eq_true,decide_eq_true_eq,decide_eq_true_eq] at h2
    exact ⟨fun e=>h2 (.inl e),fun e=>h2 (.inr e),Bool.eq_false_iff.2 hn⟩
 ·cases h
theorem fit_line {s:PS} {l:List Nat} (h:Fit s) (h0:lnE s l=0):Fit (lnS s l):=by
 cases l with
 | nil=>exact fit_fin h
 | cons c r=>
  unfold lnE at h0
  split at h0
  ·cases h0
  ·unfold lnS
   simp only at h0 ⊢
   split at h0
   ·rename_i hc
    rw [if_pos hc]
    unfold goE at h0
    split at h0
    ·cases h0
    ·rename_i hg
     simp only [Bool.or_eq_true,decide_eq_true_eq] at hg
     have hne:s.op≠[]:=fun e=>hg (.inl e)
     refine ⟨h.d,fun _=>h.o hne,by simp only [onLast_len];exact h.f,?_,fun _ _ _ _=>trivial⟩
     rcases List.eq_nil_or_concat s.op with e|⟨i,f,e⟩
     ·exact absurd e hne
     ·rw [List.concat_eq_append] at e
      intro g hg'
      simp only [e,onLast_snoc,List.mem_append,List.mem_singleton] at hg'
      rcases hg' with hg'|rfl
      ·exact h.l g (by rw [e];simp [hg'])
      ·simp
   ·rename_i hc
    rw [if_neg hc]
    obtain ⟨h1,h2,_⟩:=begE_zero h0
    have hd:=h.d
    have hf:=h.f
    refine ⟨h.d,fun _=>by simp only;omega,by simp only [List.length_append,List.length_singleton];omega,?_,fun _ _ _ _=>trivial⟩
    intro g hg'
    simp only [List.mem_append,List.mem_singleton] at hg'
    rcases hg' with hg'|rfl
    ·exact h.l g hg'
    ·simp
theorem rnE_ok {s:PS} {l:List Nat} (h0:lnE s l=0) (r:List (List Nat)):rnE s (l::r)=rnE (lnS s l) r:=by
 show (if lnE s l=0 then rnE (lnS s l) r else lnE s l)=_
 rw [if_pos h0]
theorem rnE_no {s:PS} {l:List Nat} (h0:lnE s l≠0) (r:List (List Nat)):rnE s (l::r)=lnE s l:=by
 show (if lnE s l=0 then rnE (lnS s l) r else lnE s l)=_
 rw [if_neg h0]
theorem rnN_ok {s:PS} {l:List Nat} (h0:lnE s l=0) (k:Nat) (r:List (List Nat)):rnN s k (l::r)=rnN (lnS s l) (k+1) r:=by
 show (if lnE s l=0 then rnN (lnS s l) (k+1) r else k+1)=_
 rw [if_pos h0]
theorem rnN_no {s:PS} {l:List Nat} (h0:lnE s l≠0) (k:Nat) (r:List (List Nat)):rnN s k (l::r)=k+1:=by
 show (if lnE s l=0 then rnN (lnS s l) (k+1) r else k+1)=_
 rw [if_neg h0]
theorem rnE_app:∀(a b:List (List Nat)) (s:PS),rnE s a=0→rnE s (a++b)=rnE (rnS s a) b
 | [],_,_,_=>rfl
 | l::a,b,s,h=>by
  by_cases h0:lnE s l=0
  ·rw [rnE_ok h0] at h
   rw [List.cons_append,rnE_ok h0,rnE_app a b _ h];rfl
  ·rw [rnE_no h0] at h
   exact absurd h h0
theorem rnS_app:∀(a b:List (List Nat)) (s:PS),rnS s (a++b)=rnS (rnS s a) b
 | [],_,_=>rfl
 | l::a,b,s=>by rw [List.cons_append];show rnS (lnS s l) (a++b)=_;rw [rnS_app a b];rfl
theorem rnN_zero:∀(L:List (List Nat)) (s:PS) (k:Nat),rnE s L=0→rnN s k L=0
 | [],_,_,_=>rfl
 | l::r,s,k,h=>by
  by_cases h0:lnE s l=0
  ·rw [rnE_ok h0] at h
   rw [rnN_ok h0];exact rnN_zero r _ _ h
  ·rw [rnE_no h0] at h
   exact absurd h h0
theorem blk_add (a:Addr) (k:Nat):(a.add k).block=a.block:=by unfold Addr.add;split<;>rfl
theorem belD {N:Nat} {a w:World} (h:Below N a w) (n:Nat):Below N a (w.drewN n):=⟨h.os,h.tape,h.output,h.size,h.block⟩
theorem bel2 {a b c:World} {N:Nat} (h:Below N a b) (k:Below b.heap.size b c):N≤a.heap.size→Below N a c:=fun hn=>h.trans (k.mono (Nat.le_trans hn h.size))
def Dr (w w':World):Prop:=∃q,w'=w.drewN q
theorem Dr.refl (w:World):Dr w w:=⟨0,rfl⟩
theorem Dr.more {w w':World} (h:Dr w w') (n:Nat):Dr w (w'.drewN n):=by obtain ⟨q,rfl⟩:=h;exact ⟨q+n,by rw [World.drewN_drewN]⟩
theorem Dr.below {w w':World} (h:Dr w w') (N:Nat):Below N w w':=by obtain ⟨q,rfl⟩:=h;exact belD (Below.refl _ _) q
abbrev Rd (α:Type):=World→(Nat→Prop)→α→List Value→Prop
structure Good {α:Type} (E:Rd α) (sz:Nat):Prop where
 keep:∀{w w':World} {S:Nat→Prop} {a:α} {cs:List Value},E w S a cs→(∀b,S b→w'.heap[b]?=w.heap[b]?)→E w' S a cs
 more:∀{w:World} {S S':Nat→Prop} {a:α} {cs:List Value},E w S a cs→(∀b,S b→S' b)→E w S' a cs
 turn:∀{w w':World} {S:Nat→Prop} {a:α} {cs:List Value} {row:Option Nat},E w S a cs→w.grownBy w' row→(∀r,row=some r→∃o:Obj,w.heap[r]?=some o∧o.isCells=false)→E w' S a cs
 len:∀{w:World} {S:Nat→Prop} {a:α} {cs:List Value},E w S a cs→cs.length=sz
 one:∀{w:World} {S:Nat→Prop} {a:α} {cs:List Value},E w S a cs→∀u ∈ cs,u.oneCell'=true
section
variable {α:Type} {E:Rd α} {sz:Nat}
theorem Good.both (g:Good E sz) {w w':World} {S S':Nat→Prop} {a:α} {cs:List Value} (h:E w S a cs) (hk:∀b,S b→w'.heap[b]?=w.heap[b]?) (hm:∀b,S b→S' b):E w' S' a cs:=g.more (g.keep h hk) hm
def rdRow (sz:Nat) (E:Rd α):Rd (List α):=fun w S l cs=>
 ∃A c,cs=[.slice A l.length c]∧l.length≤c∧c≤maxLen∧
  ∀k (hk:k < l.length),∃ad es,A=some ad∧S ad.block∧E w S l[k] es∧es.length=sz∧∀j u,es[j]?=some u→w.cell? (ad.add (k*sz+j))=some u
theorem rdRow_good (g:Good E sz):Good (rdRow sz E) 1 where
 keep:=by
  rintro w w' S l cs ⟨A,c,rfl,h1,h2,h⟩ hk
  refine ⟨A,c,rfl,h1,h2,fun k hk'=>?_⟩
  obtain ⟨ad,es,e,hS,hE,hl,hc⟩:=h k hk'
  refine ⟨ad,es,e,hS,g.keep hE hk,hl,fun j u hu=>?_⟩
  rw [←hc j u hu]
  exact World.cell?_of_block (by rw [blk_add];exact hk _ hS)
 more:=by
  rintro w S S' l cs ⟨A,c,rfl,h1,h2,h⟩ hm
  refine ⟨A,c,rfl,h1,h2,fun k hk'=>?_⟩
  obtain ⟨ad,es,e,hS,hE,hl,hc⟩:=h k hk'
  exact ⟨ad,es,e,hm _ hS,g.more hE hm,hl,hc⟩
 turn:=by
  rintro w w' S l cs row ⟨A,c,rfl,h1,h2,h⟩ hg hr
  refine ⟨A,c,rfl,h1,h2,fun k hk'=>?_⟩
  obtain ⟨ad,es,e,hS,hE,hl,hc⟩:=h k hk'
  exact ⟨ad,es,e,hS,g.turn hE hg hr,hl,fun j u hu=>cell_kept (hc j u hu) hg hr⟩
 len:=by rintro w S l cs ⟨A,c,rfl,_⟩;rfl
 one:=by rintro w S l cs ⟨A,c,rfl,_⟩ u hu;rw [List.mem_singleton.1 hu];rfl
theorem rdRow_nil (w:World) (S:Nat→Prop):rdRow sz E w S [] [.slice none 0 0]:=⟨none,0,rfl,Nat.le_refl _,Nat.zero_le _,fun k hk=>absurd hk (by simp)⟩
def lt_ (N:Nat):Nat→Prop:=fun b=>b < N
theorem Good.below (g:Good E sz) {N:Nat} {w w':World} {a:α} {cs:List Value} (h:E w (lt_ N) a cs) (hb:Below N w w'):E w' (lt_ N) a cs:=g.keep h fun b hb'=>hb.block b hb'
theorem Good.up (g:Good E sz) {N N':Nat} {w:World} {a:α} {cs:List Value} (h:E w (lt_ N) a cs) (hn:N≤N'):E w (lt_ N') a cs:=g.more h fun _ hb=>Nat.lt_of_lt_of_le hb hn
def Grow (E:Rd α) (sz:Nat) (T:Nat→Prop) (w:World) (base:Nat) (e:TypeId) (v:Value) (l:List α):Prop:=
 ∃css:List (List Value),css.length=l.length∧w.ownsRow base e sz v l.length css.flatten∧
  ∀k (hk:k < l.length),∃cs,css[k]?=some cs∧E w (fun b=>T b∧b < w.heap.size∧v.ownBlock≠some b) l[k] cs
theorem Grow.nil (T:Nat→Prop) (w:World) (base:Nat) (e:TypeId):Grow E sz T w base e (.slice none 0 0) []:=
 ⟨[],rfl,World.ownsRow_nil w base e sz,fun k hk=>absurd hk (by simp)⟩
theorem flatten_len (sz:Nat):∀{css:List (List Value)},(∀cs ∈ css,cs.length=sz)→css.flatten.length=css.length*sz
 | [],_=>by simp
 | c::css,h=>by
  have:=flatten_len sz (css:=css) (fun cs hc=>h cs (by simp [hc]))
  rw [List.flatten_cons,List.length_append,this,h c (by simp),List.length_cons,Nat.add_mul];omega
theorem flatten_at (sz:Nat):∀{css:List (List Value)},(∀cs ∈ css,cs.length=sz)→∀{k:Nat} {cs:List Value},css[k]?=some cs→∀j u,cs[j]?=some u→css.flatten[k*sz+j]?=some u
 | [],_,k,cs,hk,_,_,_=>by simp at hk
 | c::css,h,0,cs,hk,j,u,hu=>by
  simp only [List.getElem?_cons_zero,Option.some.injEq] at hk
  subst hk
  rw [List.flatten_cons,Nat.zero_mul,Nat.zero_add,List.getElem?_append_left (List.getElem?_eq_some_iff.1 hu).1];exact hu
 | c::css,h,k+1,cs,hk,j,u,hu=>by
  rw [List.getElem?_cons_succ] at hk
  have:=flatten_at sz (fun cs hc=>h cs (by simp [hc])) hk j u hu
  have hc:=h c (by simp)
  rw [List.flatten_cons,List.getElem?_append_right (by rw [hc,Nat.add_mul];omega),hc,←this]
  congr 1
  rw [Nat.add_mul];omega
theorem Grow.lens (g:Good E sz) {T:Nat→Prop} {w:World} {v:Value} {l:List α} {css:List (List Value)} (hl:css.length=l.length)
  (h:∀k (hk:k < l.length),∃cs,css[k]?=some cs∧E w (fun b=>T b∧b < w.heap.size∧v.ownBlock≠some b) l[k] cs):∀cs ∈ css,cs.length=sz:=by
 intro cs hc
 obtain ⟨k,hk,rfl⟩:=List.getElem_of_mem hc
 obtain ⟨cs,h1,h2⟩:=h k (by omega)
 rw [List.getElem?_eq_getElem hk] at h1
 injection h1 with h1
 rw [h1];exact g.len h2
theorem Grow.reads (g:Good E sz) {T:Nat→Prop} {w:World} {base:Nat} {e:TypeId} {v:Value} {l:List α} (h:Grow E sz T w base e v l):rdRow sz E w (fun b=>b < w.heap.size∧(base≤b∨T b)) l [v]:=by
 obtain ⟨css,hl,ho,hE⟩:=h
 have hls:=Grow.lens g hl hE
 rcases ho.2 with ⟨rfl,h0⟩|⟨gb,cap,cur,rfl,hb,hg,hn,hm,hs,ht⟩
 ·obtain rfl:l=[]:=List.eq_nil_of_length_eq_zero h0
  exact rdRow_nil w _
 ·have hlt:gb < w.heap.size:=(Array.getElem?_eq_some_iff.1 hg).1
  refine ⟨_,cap,rfl,hn,hm,fun k hk=>?_⟩
  obtain ⟨cs,h1,h2⟩:=hE k hk
  refine ⟨_,cs,rfl,⟨hlt,.inl hb⟩,g.more h2 (fun b hb=>⟨hb.2.1,.inr hb.1⟩),g.len h2,fun j u hu=>?_⟩
  exact ho.cells (g:=gb) rfl _ _ (flatten_at sz hls h1 j u hu)
theorem Grow.read (g:Good E sz) {T:Nat→Prop} {w:World} {base:Nat} {e:TypeId} {v:Value} {l:List α} (h:Grow E sz T w base e v l):rdRow sz E w (lt_ w.heap.size) l [v]:=(rdRow_good g).more (h.reads g) fun _ hb=>hb.1
theorem Grow.own {T:Nat→Prop} {w:World} {base:Nat} {e:TypeId} {v:Value} {l:List α} (h:Grow E sz T w base e v l):∃A c,v=.slice A l.length c∧l.length≤c∧c≤maxLen:=by
 obtain ⟨css,hl,ho,hE⟩:=h
 rcases ho.2 with ⟨rfl,h0⟩|⟨gb,cap,cur,rfl,hb,hg,hn,hm,hs,ht⟩
 ·exact ⟨none,0,by rw [h0],by omega,Nat.zero_le _⟩
 ·exact ⟨_,cap,rfl,hn,hm⟩
theorem Grow.lt {T:Nat→Prop} {w:World} {base:Nat} {e:TypeId} {v:Value} {l:List α} (h:Grow E sz T w base e v l):∀b,v.ownBlock=some b→base≤b∧b < w.heap.size:=by
 obtain ⟨css,hl,ho,hE⟩:=h
 exact ho.lt
theorem Grow.kept (g:Good E sz) {T:Nat→Prop} {w w':World} {base:Nat} {e:TypeId} {v:Value} {l:List α} (h:Grow E sz T w base e v l) (hs:w.heap.size≤w'.heap.size)
  (hk:∀b,b < w.heap.size→(base≤b∨T b)→w'.heap[b]?=w.heap[b]?):Grow E sz T w' base e v l:=by
 have hlt:=h.lt
 obtain ⟨css,hl,ho,hE⟩:=h
 refine ⟨css,hl,⟨ho.1,?_⟩,fun k hk'=>?_⟩
 ·rcases ho.2 with hn|⟨gb,cap,cur,rfl,hb,hg,rest⟩
  ·exact .inl hn
  ·exact .inr ⟨gb,cap,cur,rfl,hb,by rw [hk gb (Array.getElem?_eq_some_iff.1 hg).1 (.inl hb)];exact hg,rest⟩
 ·obtain ⟨cs,h1,h2⟩:=hE k hk'
  exact ⟨cs,h1,g.both h2 (fun b hb=>hk b hb.2.1 (.inr hb.1)) (fun b hb=>⟨hb.1,Nat.lt_of_lt_of_le hb.2.1 hs,hb.2.2⟩)⟩
theorem Grow.below (g:Good E sz) {T:Nat→Prop} {w w':World} {base:Nat} {e:TypeId} {v:Value} {l:List α} (h:Grow E sz T w base e v l) (hb:Below w.heap.size w w'):Grow E sz T w' base e v l:=
 h.kept g hb.size fun b hb' _=>hb.block b hb'
theorem Grow.turn (g:Good E sz) {T:Nat→Prop} {w w':World} {base:Nat} {e:TypeId} {v:Value} {l:List α} {row:Option Nat} (h:Grow E sz T w base e v l) (hg:w.grownBy w' row) (hr:∀r,row=some r→∃o:Obj,w.heap[r]?=some o∧o.isCells=false):Grow E sz T w' base e v l:=by
 obtain ⟨css,hl,ho,hE⟩:=h
 refine ⟨css,hl,ho.kept hg ?_,fun k hk'=>?_⟩
 ·rcases ho.2 with ⟨rfl,_⟩|⟨gb,cap,cur,rfl,hb,hgg,_⟩
  ·exact .inl rfl
  ·refine .inr fun hh=>?_
   obtain ⟨o,h1,h2⟩:=hr gb hh.symm
   rw [hgg] at h1
   injection h1 with h1
   subst h1
   cases h2
 ·obtain ⟨cs,h1,h2⟩:=hE k hk'
  exact ⟨cs,h1,g.more (g.turn h2 hg hr) fun b hb=>⟨hb.1,Nat.lt_of_lt_of_le hb.2.1 hg.size,hb.2.2⟩⟩
theorem Grow.setCell (g:Good E sz) {T:Nat→Prop} {w:World} {base:Nat} {e:TypeId} {v:Value} {l:List α} (h:Grow E sz T w base e v l) {p:Addr} (hp:p.block < base) (hT:¬T p.block) (u:Value):Grow E sz T (w.setCell p u) base e v l:=
 h.kept g (by simp) fun b hb' hx=>heap_setCell_other w p b u (by rintro rfl;rcases hx with h|h;omega;exact hT h)
theorem Grow.step (g:Good E sz) {T:Nat→Prop} {w w':World} {base:Nat} {e:TypeId} {v v':Value} {l:List α} {css:List (List Value)} {m:List α} {ess:List (List Value)}
  (hl:css.length=l.length) (hE:∀k (hk:k < l.length),∃cs,css[k]?=some cs∧E w (fun b=>T b∧b < w.heap.size∧v.ownBlock≠some b) l[k] cs)
  (hm:ess.length=m.length) (hM:∀k (hk:k < m.length),∃cs,ess[k]?=some cs∧E w (fun b=>T b∧b < w.heap.size∧v.ownBlock≠some b) m[k] cs)
  (hown:w'.ownsRow base e sz v' (l.length+m.length) (css.flatten++ess.flatten)) (hg:w.grownBy w' v.ownBlock) (hat:v'.ownBlock=v.ownBlock∨∃b,v'.ownBlock=some b∧w.heap.size≤b) :
  Grow E sz T w' base e v' (l++m):=by
 have key:∀(a:α) (cs:List Value),E w (fun b=>T b∧b < w.heap.size∧v.ownBlock≠some b) a cs→E w' (fun b=>T b∧b < w'.heap.size∧v'.ownBlock≠some b) a cs:=by
  intro a cs h
  refine g.both h (fun b hb=>hg.block b hb.2.1 (fun hh=>hb.2.2 hh.symm)) (fun b hb=>⟨hb.1,Nat.lt_of_lt_of_le hb.2.1 hg.size,?_⟩)
  rcases hat with h1|⟨b',h1,h2⟩
  ·rw [h1];exact hb.2.2
  ·rw [h1];intro hh;injection hh with hh;have:=hb.2.1;omega
 refine ⟨css++ess,by rw [List.length_append,List.length_append,hl,hm],by rw [List.length_append,List.flatten_append];exact hown,fun k hk=>?_⟩
 by_cases hkl:k < l.length
 ·obtain ⟨cs,h1,h2⟩:=hE k hkl
  refine ⟨cs,by rw [List.getElem?_append_left (by omega)];exact h1,?_⟩
  rw [List.getElem_append_left hkl];exact key _ _ h2
 ·rw [List.length_append] at hk
  obtain ⟨cs,h1,h2⟩:=hM (k - l.length) (by omega)
  refine ⟨cs,by rw [List.getElem?_append_right (by omega),hl];exact h1,?_⟩
  rw [List.getElem_append_right (by omega)];exact key _ _ h2
theorem cells_new (w:World) (blk:Array Value) (te:TypeId):∀j u,blk.toList[j]?=some u→(w.alloc (.cells blk te)).cell? ((⟨w.heap.size,0,none⟩:Addr).add j)=some u:=by
 intro j u hj
 have hadd:(⟨w.heap.size,0,none⟩:Addr).add j=⟨w.heap.size,j,none⟩:=by unfold Addr.add;split<;>simp_all
 rw [hadd,cell_of_row (w.alloc (.cells blk te)) w.heap.size j blk te (0,0) (heap_alloc_new w _)]
 simpa using hj
theorem wpList_grow1 {P:Program} {ops:Array Oper} {rest:List Oper} {o:Oper} {a:Act} {Q:Exit→Act→World→Prop} (W:World) (hgd:o.guard=none) (s x:Operand) (t:TypeId)
  (ho:o.op=.call { callee:=.builtin .append,args:=#[s,x],argTypes:=#[t,t] })
  (g:Good E sz) (hsz:0 < sz) (T:Nat→Prop) (base:Nat) (e:TypeId) (i:TypeInfo) (z:Value) (bytes:Nat) (ht:P.underlying t=some (.slice e)) (hi:P.info? e=some i) (hz:i.zero=some z)
  (hsize:i.size=sz) (hby:i.bytes=bytes) (hzs:z.cells.size=sz)
  (v:Value) (l:List α) (hs:a.eval s=v) (hG:Grow E sz T W base e v l) (y:α) (blk:Array Value) (te:TypeId)
  (hE:E W (fun b=>T b∧b < W.heap.size∧v.ownBlock≠some b) y blk.toList) (N:Nat) (hN:N=W.heap.size) (hx:a.eval x=.slice (some ⟨N,0,none⟩) 1 1)
  (hn:l.length+1≤maxLen) (hb2:(l.length+1)*bytes≤140737488355328) (hbase:base≤W.heap.size)
  (h:∀v' w',Grow E sz T w' base e v' (l++[y])→W.grownBy w' v.ownBlock→wpList P ops Q rest (a.put o.dst v') w') :
  wpList P ops Q (o::rest) a (W.alloc (.cells blk te)):=by
 subst hN
 obtain ⟨css,hl,hown,hEs⟩:=hG
 refine wpList_append_own_at _ hgd s x t ho base e i z sz bytes ht hi hz hsize hby hzs hsz v l.length css.flatten hs (hown.alloc _) ⟨W.heap.size,0,none⟩ 1 1 blk.toList hx (by rw [g.len hE];simp) (cells_new W blk te) (g.one hE) hn hb2 (by simp;omega) ?_
 intro v' w' hown' hgrow _ hat
 have hg2:W.grownBy w' v.ownBlock:=by
  refine ⟨hgrow.os,hgrow.tape,hgrow.output,?_,fun k hk hne=>?_⟩
  ·have:=hgrow.size;simp at this;omega
  ·rw [hgrow.block k (by simp;omega) hne]
   exact Below.heap_alloc W _ k hk
 refine h v' w' ?_ hg2
 refine Grow.step g hl hEs (m:=[y]) (ess:=[blk.toList]) rfl (fun k hk=>?_) (by simpa using hown') hg2 ?_
 ·simp only [List.length_singleton] at hk
  obtain rfl:k=0:=by omega
  exact ⟨_,rfl,hE⟩
 ·rcases hat with h1|h1
  ·exact .inl h1
  ·exact .inr ⟨_,h1,by simp⟩
theorem grow_below {B:Nat} {w0 W w':World} {T:Nat→Prop} {base:Nat} {e:TypeId} {v:Value} {l:List α} (hG:Grow E sz T W base e v l) (hg:W.grownBy w' v.ownBlock) (hb:Below B w0 W) (hB:B≤base) (hs:B≤W.heap.size):Below B w0 w':=
 hb.grown hg hs fun g hg'=>Nat.le_trans hB (hG.lt g hg').1
end
theorem take_snoc {α β:Type} (f:α→β) (g:List α) (k:Nat) (hk:k < g.length):(g.take (k+1)).map f=(g.take k).map f++[f g[k]]:=by
 rw [List.take_succ_eq_append_getElem hk,List.map_append];rfl
theorem str_info:(Tryz.prog.info? 9).map (fun i=>(i.zero,i.size,i.bytes))=some (some (.string { data:=#[] }),1,16):=by kernel_rfl
def rdStr:Rd (List Nat):=fun _ _ l cs=>∃s:ByteArray,cs=[.string s]∧B s=l
theorem rdStr_good:Good rdStr 1:=⟨fun h _=>h,fun h _=>h,fun h _ _=>h,fun h=>by obtain ⟨s,rfl,_⟩:=h;rfl,fun h u hu=>by obtain ⟨s,rfl,_⟩:=h;rw [List.mem_singleton.1 hu];rfl⟩
abbrev rdStrs:Rd (List (List Nat)):=rdRow 1 rdStr
theorem rdStrs_good:Good rdStrs 1:=rdRow_good rdStr_good
theorem rdStrs_at {w:World} {S:Nat→Prop} {l:List (List Nat)} {A:Option Addr} {n c:Nat} (h:rdStrs w S l [.slice A n c]):n=l.length∧n≤c∧c≤maxLen∧∀k (hk:k < l.length),∃ad s,A=some ad∧S ad.block∧
  w.cell? (ad.add k)=some (.string s)∧B s=l[k]:=by
 obtain ⟨A',c',e,h1,h2,h⟩:=h
 simp only [List.cons.injEq,Value.slice.injEq,and_true] at e
 obtain ⟨rfl,rfl,rfl⟩:=e
 refine ⟨rfl,h1,h2,fun k hk=>?_⟩
 obtain ⟨ad,es,e,hS,⟨s,rfl,hs⟩,hl,hc⟩:=h k hk
 have:=hc 0 _ rfl
 rw [Nat.mul_one] at this
 exact ⟨ad,s,e,hS,this,hs⟩
theorem libjoin_two (x y sep:List UInt8) (r:List (List UInt8)):Lib.join (x::y::r) sep=x++(sep++Lib.join (y::r) sep):=by
 rw [Lib.join_cons,Lib.join_cons]
 unfold Lib.joinTail
 simp
theorem libjoin_is (sep:ByteArray):∀xs:List ByteArray,(Lib.join (xs.map (·.data.toList)) sep.data.toList).map UInt8.toNat=joinL (B sep) (xs.map B)
 | []=>rfl
 | [x]=>by rw [List.map_singleton,Lib.join_one];rfl
 | x::y::r=>by
  have ih:=libjoin_is sep (y::r)
  rw [List.map_cons,List.map_cons,libjoin_two,List.map_append,List.map_append]
  rw [List.map_cons] at ih
  rw [ih];rfl
theorem joinL_len {sep:List Nat} {M:Nat}:∀{l:List (List Nat)},(∀t ∈ l,t.length≤M)→(joinL sep l).length≤l.length*(M+sep.length)
 | [],_=>by simp [joinL]
 | [x],h=>by have:=h x (by simp);simp [joinL];omega
 | x::y::r,h=>by
  have h1:=h x (by simp)
  have ih:=joinL_len (sep:=sep) (l:=y::r) (fun t ht=>h t (by simp [ht]))
  simp only [joinL,List.length_append,List.length_cons] at ih ⊢
  rw [Nat.add_mul (r.length+1) 1,Nat.one_mul]
  omega
theorem add_out (a b:ByteArray) (x y:Nat) (ha:a.size≤x) (hb:b.size≤y) (h:x+y≤9223372036854775807:=by decide):∃c:ByteArray,(∀w,(Op.stringOp .add a b).run Tryz.prog w=.ok (.string c) w)∧c=a++b∧c.size≤x+y:=
 ⟨a++b,fun w=>run_string_add_sum w a b (by omega),rfl,by rw [ByteArray.size_append];omega⟩
theorem bytes_cells (w:World) (s:ByteArray):∃(cap:Nat) (w1:World),(convert 9 85 (.string s)).run Tryz.prog w=.ok (.slice (some ⟨w.heap.size,0,none⟩) s.size cap) w1∧Below w.heap.size w w1∧∀(k:Nat) (hk:k < s.size),w1.cell? ⟨w.heap.size,k,none⟩=some (.int .u8 (s[k].toNat:Int)):=by
 refine ⟨_,_,run_bytes_of_string w 9 85 5 s Tryz.underlying9 Tryz.underlying85 Tryz.underlying5,(Below.refl _ w).drew.alloc (Nat.le_refl _) _,?_⟩
 intro k hk
 have hk2:k < s.data.size:=hk
 have:(bytesRow s (grownCap w s.size 0 5))[k]?=some (.int .u8 (s[k].toNat:Int)):=by
  unfold bytesRow
  rw [Array.getElem?_append_left (by simpa using hk2),Array.getElem?_map,Array.getElem?_eq_getElem hk2]
  rfl
 exact (World.cell?_alloc_mark w.drew _ _ _ k).trans this
section
variable {P:Program}
theorem append_types (t t' ty e e':TypeId) (i:TypeInfo) (hi:P.info? e=some i) (ht:P.underlying t=some (.slice e)) (ht':P.underlying t'=some (.slice e')) (A:Option Addr) (n c:Nat) (x:Value) (w:World) :
  (Builtin.append_ #[t,t'] ty #[.slice A n c,x]).run P w=(Builtin.append_ #[t,t] ty #[.slice A n c,x]).run P w:=by
 simp [Builtin.append_,run_underlying ht,run_underlying ht',sizeOf,typeInfo,hi]
theorem append_none (w:World) (base:Nat) (t ty e:TypeId) (i:TypeInfo) (size:Nat) (ht:P.underlying t=some (.slice e)) (hi:P.info? e=some i)
  (v:Value) (n:Nat) (xs:List Value) (hown:w.ownsRow base e size v n xs) (A:Option Addr) (c:Nat):(Builtin.append_ #[t,t] ty #[v,.slice A 0 c]).run P w=.ok v w:=by
 rcases hown.2 with ⟨rfl,rfl⟩|⟨g,cap,cur,rfl,_,_,hnc,_⟩
 ·cases A<;>simp [Builtin.append_,run_underlying ht,sizeOf,typeInfo,hi,Builtin.lenOf,Builtin.firstCells,loadCells,loadCellsFrom]
 ·cases A<;>simp [Builtin.append_,run_underlying ht,sizeOf,typeInfo,hi,Builtin.lenOf,Builtin.firstCells,hnc,storeCells,loadCells,loadCellsFrom]
end
section
variable {α:Type} {E:Rd α} {sz:Nat}
theorem rows_of {w:World} {S:Nat→Prop} {m:List α} {A:Option Addr} {n c:Nat} (h:rdRow sz E w S m [.slice A n c]) (h0:0 < m.length) :
  n=m.length∧∃(ad:Addr) (ess:List (List Value)),A=some ad∧S ad.block∧ess.length=m.length∧(∀k (hk:k < m.length),∃es,ess[k]?=some es∧E w S m[k] es∧es.length=sz∧∀j u,es[j]?=some u→w.cell? (ad.add (k*sz+j))=some u):=by
 obtain ⟨A',c',e,h1,h2,h⟩:=h
 simp only [List.cons.injEq,Value.slice.injEq,and_true] at e
 obtain ⟨rfl,rfl,rfl⟩:=e
 obtain ⟨ad,_,rfl,hS,_⟩:=h 0 h0
 refine ⟨rfl,ad,List.ofFn fun k:Fin m.length=>Classical.choose (Classical.choose_spec (h k.1 k.2)),rfl,hS,by simp,fun k hk=>?_⟩
 have hs:=Classical.choose_spec (Classical.choose_spec (h k hk))
 refine ⟨_,by rw [List.getElem?_ofFn,dif_pos hk],hs.2.2.1,hs.2.2.2.1,fun j u hu=>?_⟩
 have e1:=hs.1
 injection e1 with e1
 have:=hs.2.2.2.2 j u hu
 rwa [←e1] at this
theorem flat_back (hsz:0 < sz):∀{css:List (List Value)},(∀cs ∈ css,cs.length=sz)→∀{j:Nat} {u:Value},css.flatten[j]?=some u→∃k i cs,css[k]?=some cs∧cs[i]?=some u∧j=k*sz+i
 | [],_,j,u,h=>by simp at h
 | c::css,hl,j,u,h=>by
  have hc:=hl c (by simp)
  rw [List.flatten_cons] at h
  by_cases hj:j < c.length
  ·rw [List.getElem?_append_left hj] at h
   exact ⟨0,j,c,rfl,h,by omega⟩
  ·rw [List.getElem?_append_right (by omega)] at h
   obtain ⟨k,i,cs,h1,h2,h3⟩:=flat_back hsz (fun cs hc=>hl cs (by simp [hc])) h
   exact ⟨k+1,i,cs,h1,h2,by rw [Nat.add_mul];omega⟩
theorem run_growN {P:Program} (W:World) (t t' ty:TypeId) (g:Good E sz) (hsz:0 < sz) (T:Nat→Prop) (base:Nat) (e e':TypeId) (i:TypeInfo) (z:Value) (bytes:Nat)
  (ht:P.underlying t=some (.slice e)) (ht':P.underlying t'=some (.slice e')) (hi:P.info? e=some i) (hz:i.zero=some z) (hsize:i.size=sz) (hby:i.bytes=bytes) (hzs:z.cells.size=sz)
  (v:Value) (l:List α) (hG:Grow E sz T W base e v l) (m:List α) (S:Nat→Prop) (A:Option Addr) (n c:Nat) (hX:rdRow sz E W S m [.slice A n c]) (hS:∀b,S b→T b∧b < W.heap.size∧v.ownBlock≠some b)
  (hn:l.length+m.length≤maxLen) (hb2:(l.length+m.length)*bytes≤140737488355328) (hbase:base≤W.heap.size) :
  ∃v' w',(Builtin.append_ #[t,t'] ty #[v,.slice A n c]).run P W=.ok v' w'∧Grow E sz T w' base e v' (l++m)∧W.grownBy w' v.ownBlock∧(v'.ownBlock=v.ownBlock∨∃b,v'.ownBlock=some b∧W.heap.size≤b):=by
 have hty:∀x,(Builtin.append_ #[t,t'] ty #[v,x]).run P W=(Builtin.append_ #[t,t] ty #[v,x]).run P W:=by
  obtain ⟨vA,vc,hv,_,_⟩:=hG.own
  subst hv
  exact fun x=>append_types t t' ty e e' i hi ht ht' _ _ _ x W
 rw [hty]
 by_cases h0:m.length=0
 ·obtain rfl:m=[]:=List.eq_nil_of_length_eq_zero h0
  obtain ⟨A',c',e1,_⟩:=id hX
  simp only [List.cons.injEq,Value.slice.injEq,and_true,List.length_nil] at e1
  obtain ⟨_,rfl,_⟩:=e1
  obtain ⟨css,hl,hown,hEs⟩:=id hG
  exact ⟨v,W,append_none W base t ty e i sz ht hi v _ _ hown A c,by rw [List.append_nil];exact hG,⟨rfl,rfl,rfl,Nat.le_refl _,fun _ _ _=>rfl⟩,.inl rfl⟩
 ·obtain ⟨rfl,ad,ess,rfl,hSa,hel,hek⟩:=rows_of hX (by omega)
  obtain ⟨css,hl,hown,hEs⟩:=hG
  have hes:∀cs ∈ ess,cs.length=sz:=fun cs hc=>by
   obtain ⟨k,hk,rfl⟩:=List.getElem_of_mem hc
   obtain ⟨es,h1,_,h2,_⟩:=hek k (by omega)
   rw [List.getElem?_eq_getElem hk] at h1
   injection h1 with h1
   rw [h1];exact h2
  have hcell:∀j u,ess.flatten[j]?=some u→W.cell? (ad.add j)=some u:=fun j u hu=>by
   obtain ⟨k,i',cs,h1,h2,rfl⟩:=flat_back hsz hes hu
   have hk:k < m.length:=by have:=(List.getElem?_eq_some_iff.1 h1).1;omega
   obtain ⟨es,h3,_,_,h4⟩:=hek k hk
   rw [h3] at h1
   injection h1 with h1
   subst h1
   exact h4 i' u h2
  have hone:∀u ∈ ess.flatten,u.oneCell'=true:=fun u hu=>by
   obtain ⟨cs,hc,hu⟩:=List.mem_flatten.1 hu
   obtain ⟨k,hk,rfl⟩:=List.getElem_of_mem hc
   obtain ⟨es,h1,h2,_,_⟩:=hek k (by omega)
   rw [List.getElem?_eq_getElem hk] at h1
   injection h1 with h1
   exact g.one h2 u (h1 ▸ hu)
  obtain ⟨v',w',hr,hown',hgrow,_,hat⟩:=run_append_own_at (P:=P) W base t ty e i z sz bytes ht hi hz hsize hby hzs hsz v l.length css.flatten hown ad m.length c ess.flatten (by rw [flatten_len sz hes,hel]) hcell hone hn hb2 hbase
  have hat2:v'.ownBlock=v.ownBlock∨∃b,v'.ownBlock=some b∧W.heap.size≤b:=by
   rcases hat with h1|h1
   ·exact .inl h1
   ·exact .inr ⟨_,h1,Nat.le_refl _⟩
  refine ⟨v',w',hr,Grow.step g hl hEs hel (fun k hk=>?_) hown' hgrow hat2,hgrow,hat2⟩
  obtain ⟨es,h1,h2,_,_⟩:=hek k hk
  exact ⟨es,h1,g.more h2 hS⟩
theorem wpList_growN {P:Program} {ops:Array Oper} {rest:List Oper} {o:Oper} {a:Act} {Q:Exit→Act→World→Prop} (W:World) (hgd:o.guard=none) (s x:Operand) (t t':TypeId)
  (ho:o.op=.call { callee:=.builtin .append,args:=#[s,x],argTypes:=#[t,t'] }) (g:Good E sz) (hsz:0 < sz) (T:Nat→Prop) (base:Nat) (e e':TypeId) (i:TypeInfo) (z:Value) (bytes:Nat)
  (ht:P.underlying t=some (.slice e)) (ht':P.underlying t'=some (.slice e')) (hi:P.info? e=some i) (hz:i.zero=some z) (hsize:i.size=sz) (hby:i.bytes=bytes) (hzs:z.cells.size=sz)
  (v:Value) (l:List α) (hs:a.eval s=v) (hG:Grow E sz T W base e v l) (m:List α) (S:Nat→Prop) (A:Option Addr) (n c:Nat) (hx:a.eval x=.slice A n c) (hX:rdRow sz E W S m [.slice A n c]) (hS:∀b,S b→T b∧b < W.heap.size∧v.ownBlock≠some b)
  (hn:l.length+m.length≤maxLen) (hb2:(l.length+m.length)*bytes≤140737488355328) (hbase:base≤W.heap.size)
  (h:∀v' w',Grow E sz T w' base e v' (l++m)→W.grownBy w' v.ownBlock→wpList P ops Q rest (a.put o.dst v') w') :
  wpList P ops Q (o::rest) a W:=by
 refine wpList_plain hgd fun K hK=>?_
 obtain ⟨v',w',hr,h2,h3,_⟩:=run_growN (P:=P) W t t' o.type g hsz T base e e' i z bytes ht ht' hi hz hsize hby hzs v l hG m S A n c hX hS hn hb2 hbase
 unfold Oper.wp execOp
 simp only [ho,resolve,invoke,builtin,Sem.run_bind,Sem.run_pure,Result.andThen_ok,List.map_toArray,List.map_cons,List.map_nil,hs,hx,hr]
 exact hK _ _ (h v' w' h2 h3)
end
theorem rd_block {α:Type} {E:Rd α} {sz:Nat} (g:Good E sz) {w:World} {S:Nat→Prop} {b:Nat} {blk:Array Value} {T:TypeId} {l:List α} {css:List (List Value)} (hb:w.heap[b]?=some (.cells blk T (0,0))) (hS:S b)
  (hl:css.length=l.length) (hf:blk.toList=css.flatten) (hE:∀k (hk:k < l.length),∃cs,css[k]?=some cs∧E w S l[k] cs) (hm:l.length≤1000):rdRow sz E w S l [.slice (some ⟨b,0,none⟩) l.length l.length]:=by
 have hls:∀cs ∈ css,cs.length=sz:=fun cs hc=>by
  obtain ⟨k,hk,rfl⟩:=List.getElem_of_mem hc
  obtain ⟨cs,h1,h2⟩:=hE k (by omega)
  rw [List.getElem?_eq_getElem hk] at h1
  injection h1 with h1
  rw [h1];exact g.len h2
 refine ⟨_,_,rfl,Nat.le_refl _,by unfold maxLen;omega,fun k hk=>?_⟩
 obtain ⟨cs,h1,h2⟩:=hE k hk
 refine ⟨_,cs,rfl,hS,h2,g.len h2,fun j u hu=>?_⟩
 have hadd:(⟨b,0,none⟩:Addr).add (k*sz+j)=⟨b,k*sz+j,none⟩:=by unfold Addr.add;split<;>simp_all
 rw [hadd,cell_of_row w b (k*sz+j) blk T (0,0) hb]
 have:=flatten_at sz hls h1 j u hu
 rw [←hf] at this
 simpa using this
theorem new_heap (w:World) (o:Obj):(w.alloc o).heap[w.heap.size]?=some o:=heap_alloc_new w o
theorem old_heap {w:World} {b:Nat} {o':Obj} (o:Obj) (h:w.heap[b]?=some o'):(w.alloc o).heap[b]?=some o':=(Below.heap_alloc w o b (Array.getElem?_eq_some_iff.1 h).1).trans h
theorem str_eq (a b:ByteArray):(a.toList==b.toList)=decide (a=b):=by
 have h:=strEq (B a) b (B_lt a)
 rw [mk_B] at h
 rw [h,decide_eq_decide]
 exact ⟨fun h=>B_inj h,fun h=>by rw [h]⟩
def Fd.val (a:Fd):Value:=.agg #[.string a.n,.string a.v]
def Fd.cells (a:Fd):List Value:=[.string a.n,.string a.v]
def rdFd:Rd Fd:=fun _ _ a cs=>cs=a.cells
theorem rdFd_good:Good rdFd 2:=⟨fun h _=>h,fun h _=>h,fun h _ _=>h,fun h=>by rw [h];rfl,fun h u hu=>by rw [h] at hu;simp [Fd.cells] at hu;rcases hu with rfl|rfl<;>rfl⟩
abbrev rdFds:Rd (List Fd):=rdRow 2 rdFd
abbrev rdStzs:Rd (List (List Fd)):=rdRow 1 rdFds
theorem rdFds_good:Good rdFds 1:=rdRow_good rdFd_good
theorem rdStzs_good:Good rdStzs 1:=rdRow_good rdFds_good
theorem off2_add (a:Addr) (k j:Nat) (hj:j≠0):(⟨(a.add k).block,(a.add k).off+j,none⟩:Addr)=a.add (k+j):=by
 unfold Addr.add;by_cases hk:k=0<;>simp [hk,hj,Nat.add_assoc]
theorem rdFds_at {w:World} {S:Nat→Prop} {l:List Fd} {A:Option Addr} {n c:Nat} (h:rdFds w S l [.slice A n c]):n=l.length∧n≤c∧c≤maxLen∧∀k (hk:k < l.length),∃ad,A=some ad∧S ad.block∧
  w.cell? (ad.add (k*2))=some (.string l[k].n)∧w.cell? ⟨(ad.add (k*2)).block,(ad.add (k*2)).off+1,none⟩=some (.string l[k].v):=by
 obtain ⟨A',c',e,h1,h2,h⟩:=h
 simp only [List.cons.injEq,Value.slice.injEq,and_true] at e
 obtain ⟨rfl,rfl,rfl⟩:=e
 refine ⟨rfl,h1,h2,fun k hk=>?_⟩
 obtain ⟨ad,es,e,hS,hE,hl,hc⟩:=h k hk
 rw [show es=l[k].cells from hE] at hc
 exact ⟨ad,e,hS,hc 0 _ rfl,by rw [off2_add ad (k*2) 1 (by omega)];exact hc 1 _ rfl⟩
theorem rdStzs_at {w:World} {S:Nat→Prop} {l:List (List Fd)} {A:Option Addr} {n c:Nat} (h:rdStzs w S l [.slice A n c]):n=l.length∧n≤c∧c≤maxLen∧∀k (hk:k < l.length),∃ad A' c',A=some ad∧S ad.block∧
  w.cell? (ad.add k)=some (.slice A' l[k].length c')∧rdFds w S l[k] [.slice A' l[k].length c']:=by
 obtain ⟨A',c',e,h1,h2,h⟩:=h
 simp only [List.cons.injEq,Value.slice.injEq,and_true] at e
 obtain ⟨rfl,rfl,rfl⟩:=e
 refine ⟨rfl,h1,h2,fun k hk=>?_⟩
 obtain ⟨ad,es,e,hS,hE,hl,hc⟩:=h k hk
 have hE':=hE
 obtain ⟨A2,c2,rfl,_⟩:=hE'
 refine ⟨ad,A2,c2,e,hS,?_,hE⟩
 have:=hc 0 _ rfl
 rwa [Nat.mul_one] at this
theorem fd_info:(Tryz.prog.info? 58).map (fun i=>(i.zero,i.size,i.bytes))=some (some (.agg #[.string { data:=#[] },.string { data:=#[] }]),2,32):=by kernel_rfl
theorem stz_info:(Tryz.prog.info? 48).map (fun i=>(i.zero,i.size,i.bytes))=some (some (.slice none 0 0),1,24):=by kernel_rfl
theorem off_add (a:Addr) (k j:Nat) (hj:j≠0):(⟨(a.add k).block,(a.add k).off+j,none⟩:Addr)=a.add (k+j):=by
 unfold Addr.add;by_cases hk:k=0<;>simp [hk,hj,Nat.add_assoc]
def decF:Nat→Nat→List Nat→List Nat
 | 0,_,l=>l
 | f+1,n,l=>if n < 10 then (48+n)::l else decF f (n / 10) ((48+n % 10)::l)
def decL (n:Nat):List Nat:=decF (n+1) n []
theorem decF_lt:∀(f n:Nat) (l:List Nat),(∀c ∈ l,c < 256)→∀c ∈ decF f n l,c < 256
 | 0,_,_,h=>h
 | f+1,n,l,h=>by
  simp only [decF]
  split
  ·intro c hc
   rcases List.mem_cons.1 hc with rfl|hc
   ·omega
   ·exact h c hc
  ·refine decF_lt f _ _ (fun c hc=>?_)
   rcases List.mem_cons.1 hc with rfl|hc
   ·omega
   ·exact h c hc
theorem decL_lt (n:Nat):∀c ∈ decL n,c < 256:=decF_lt _ _ _ (by simp)
theorem size_mk (l:List Nat):(mk l).size=l.length:=by
 unfold mk
 show (List.toArray _).size=_
 simp
def numV (l:List Nat):Nat:=l.foldl (fun n c=>10*n+(c - 48)) 0
theorem same_take {α:Type} [DecidableEq α] {l m:List α} {k:Nat} (hl:l.length=m.length) (hk:k < l.length) (hm:k < m.length) (h:l.take k=m.take k) (he:l[k]=m[k]):l.take (k+1)=m.take (k+1):=by
 rw [List.take_succ_eq_append_getElem hk,List.take_succ_eq_append_getElem hm,h,he]
theorem box_cells {w w1:World} {T:TypeId} {x y z:Value} (h:Below (w.alloc (.cells #[x,y,z] T)).heap.size (w.alloc (.cells #[x,y,z] T)) w1) :
  w1.cell? ⟨w.heap.size,0,none⟩=some x∧w1.cell? ⟨w.heap.size,1,none⟩=some y∧w1.cell? ⟨w.heap.size,2,none⟩=some z∧w.heap.size+1≤w1.heap.size:=by
 refine ⟨(h.cell (by simp)).trans (by simp),(h.cell (by simp)).trans (by simp),(h.cell (by simp)).trans (by simp),?_⟩
 have:=h.size
 simpa using this
theorem fin3 {w W:World} {a b c x y z:Value} (hb:Below w.heap.size w W) (h0:W.cell? ⟨w.heap.size,0,none⟩=some a) (h1:W.cell? ⟨w.heap.size,1,none⟩=some b) (h2:W.cell? ⟨w.heap.size,2,none⟩=some c) :
  (((W.setCell ⟨w.heap.size,0,none⟩ x).setCell ⟨w.heap.size,1,none⟩ y).setCell ⟨w.heap.size,2,none⟩ z).cell? ⟨w.heap.size,0,none⟩=some x∧
  (((W.setCell ⟨w.heap.size,0,none⟩ x).setCell ⟨w.heap.size,1,none⟩ y).setCell ⟨w.heap.size,2,none⟩ z).cell? ⟨w.heap.size,1,none⟩=some y∧
  (((W.setCell ⟨w.heap.size,0,none⟩ x).setCell ⟨w.heap.size,1,none⟩ y).setCell ⟨w.heap.size,2,none⟩ z).cell? ⟨w.heap.size,2,none⟩=some z∧
  Below w.heap.size w (((W.setCell ⟨w.heap.size,0,none⟩ x).setCell ⟨w.heap.size,1,none⟩ y).setCell ⟨w.heap.size,2,none⟩ z):=
 ⟨by simp [go_sem,h0],by simp [go_sem,h1],by simp [go_sem,h2],((hb.setCell (by simp) _).setCell (by simp) _).setCell (by simp) _⟩
def plnB (c:Nat):Bool:=decide (97≤c∧c≤122)||digB c
def nmcB (c:Nat):Bool:=plnB c||decide (c=43)||decide (c=45)||decide (c=46)
def nameB (l:List Nat):Bool:=decide (2≤l.length)&&decide (l.length≤40)&&plnB (l.getD 0 0)&&l.all nmcB
theorem decF_dig:∀(f n:Nat) (l:List Nat),(∀c ∈ l,digB c=true)→∀c ∈ decF f n l,digB c=true
 | 0,_,_,h=>h
 | f+1,n,l,h=>by
  simp only [decF]
  split
  ·intro c hc
   rcases List.mem_cons.1 hc with rfl|hc
   ·simp only [digB,decide_eq_true_eq];omega
   ·exact h c hc
  ·refine decF_dig f _ _ (fun c hc=>?_)
   rcases List.mem_cons.1 hc with rfl|hc
   ·simp only [digB,decide_eq_true_eq];omega
   ·exact h c hc
theorem decL_dig (n:Nat):∀c ∈ decL n,digB c=true:=decF_dig _ _ _ (by simp)
theorem sEq (s:ByteArray) (l:List Nat) (hl:∀c ∈ l,c < 256):(s.toList==(mk l).toList)=decide (B s=l):=by
 have h:=strEq l s hl
 rw [Bool.eq_iff_iff] at h ⊢
 simp only [beq_iff_eq,decide_eq_true_eq] at h ⊢
 exact ⟨fun e=>(h.1 e.symm).symm,fun e=>(h.2 e.symm).symm⟩
theorem sEqL (s:ByteArray) (m:List UInt8) (l:List Nat) (e:m=l.map UInt8.ofNat) (hl:∀c ∈ l,c < 256):(s.toList==m)=decide (B s=l):=by
 rw [←sEq s l hl,toList_data (mk l),e];rfl
theorem rplain_any (c:Nat) (w:World):Calls Tryz.prog 52 #[.int .u8 (c:Int)] w fun e w'=>e=.returned (.bool (plnB c))∧w=w':=by
 have X:=Lib.hid (show plnB c=((decide ((97:Int)≤c)&&decide ((c:Int)≤122))||(decide ((48:Int)≤c)&&decide ((c:Int)≤57))) by unfold plnB digB;rw [Bool.eq_iff_iff];simp;omega)
 go_enter Tryz.func52,Tryz.ntmps52
 go_wp2
 all_goals
  go_ret
  refine ⟨congrArg (fun b=>Ending.returned (.bool b)) ?_,rfl⟩
  rw [X.out,Bool.eq_iff_iff]
  simp
  omega
theorem nameB_is (s:ByteArray) (h2:2≤s.size) (h40:s.size≤40) (h0:plnB s[0].toNat=true):nameB (B s)=(B s).all nmcB:=by
 unfold nameB
 rw [B_len,B_getD s 0 (by omega),h0,decide_eq_true h2,decide_eq_true h40];rfl
theorem nm_not {s:ByteArray} {k:Nat} (hk:k < s.size) (h:nmcB s[k].toNat=false):(B s).all nmcB=false:=by
 rw [Bool.eq_false_iff]
 intro ha
 have:=List.all_eq_true.1 ha s[k].toNat (List.mem_of_getElem? (B_at s k hk))
 rw [h] at this;cases this
theorem nm_yes {s:ByteArray} (h:∀j,j < s.size→nmcB ((B s).getD j 0)=true):(B s).all nmcB=true:=by
 rw [List.all_eq_true]
 intro c hc
 obtain ⟨j,hj,e⟩:=List.getElem_of_mem hc
 rw [B_len] at hj
 have:=h j hj
 rwa [List.getD_eq_getElem?_getD,List.getElem?_eq_getElem (by rw [B_len];exact hj),e] at this
theorem rname_any (s:ByteArray) (w:World):Calls Tryz.prog 30 #[.string s] w fun e w'=>e=.returned (.bool (nameB (B s)))∧Below w.heap.size w w':=by
 by_cases h2:s.size < 2
 ·have X:=Lib.hid (show nameB (B s)=false by unfold nameB;rw [B_len,decide_eq_false (by omega)];rfl)
  go_enter Tryz.func30,Tryz.ntmps30
  go_wp2
  go_ret
  exact ⟨by rw [X.out];rfl,Below.refl _ _⟩
 ·by_cases h40:40 < s.size
  ·have X:=Lib.hid (show nameB (B s)=false by unfold nameB;rw [B_len,decide_eq_false (p:=s.size≤40) (by omega),Bool.and_false];rfl)
   have h40':(40:Int) < (s.size:Int):=by omega
   go_enter Tryz.func30,Tryz.ntmps30
   go_wp2
   go_ret
   exact ⟨by rw [X.out];rfl,Below.refl _ _⟩
  ·have hs0:0 < s.size:=by omega
   cases h0:plnB s[0].toNat
   ·have X:=Lib.hid (show nameB (B s)=false by unfold nameB;rw [B_getD s 0 hs0,h0,Bool.and_false];rfl)
    go_enter Tryz.func30,Tryz.ntmps30
    go_wp2_with (go_at_call 52;refine (rplain_any _ _).mono ?_;rw [h0];rintro e w' ⟨rfl,rfl⟩)
    go_ret
    exact ⟨by rw [X.out];rfl,Below.refl _ _⟩
   ·have X:=Lib.hid (nameB_is s (by omega) (by omega) h0)
    obtain ⟨cap,w1,hcv,hb,hcells⟩:=bytes_cells w s
    have HB:=Lib.hid hb
    have HC:=Lib.hid hcells
    have hlen:s.size≤40:=by omega
    clear hb hcells
    go_enter Tryz.func30,Tryz.ntmps30
    go_wp2_with (go_at_call 52;refine (rplain_any _ _).mono ?_;rw [h0];rintro e w' ⟨rfl,rfl⟩)
    clear h0 hcv
    go_loop [22] (fun x=>∃k:Nat,k≤s.size∧x=.int .i64 k∧∀j,j < k→nmcB ((B s).getD j 0)=true) (fun x=>s.size - (intOf x).toNat)
    case atStart=>exact ⟨0,Nat.zero_le _,rfl,fun j hj=>by omega⟩
    case round=>
     obtain ⟨k,hk,rfl,hno⟩:=hrel
     have HN:=Lib.hid hno
     clear hno
     by_cases hlt:k < s.size
     ·have hcell:=HC.out k hlt
      have HD:=Lib.hid (B_getD s k hlt)
      have NC:=Lib.hid (show nmcB s[k].toNat=(plnB s[k].toNat||decide (s[k].toNat=43)||decide (s[k].toNat=45)||decide (s[k].toNat=46)) from rfl)
      have AN:=Lib.hid (nm_not hlt)
      have p1:((s[k].toNat:Int) != 43)=!decide (s[k].toNat=43):=by rw [Bool.eq_iff_iff];simp;omega
      have p2:((s[k].toNat:Int) != 45)=!decide (s[k].toNat=45):=by rw [Bool.eq_iff_iff];simp;omega
      have p3:((s[k].toNat:Int) != 46)=!decide (s[k].toNat=46):=by rw [Bool.eq_iff_iff];simp;omega
      generalize s[k].toNat=c at *
      cases g0:plnB c
      ·rw [g0] at NC
       cases g1:decide (c=43)<;>rw [g1] at p1 NC
       ·cases g2:decide (c=45)<;>rw [g2] at p2 NC
        ·cases g3:decide (c=46)<;>rw [g3] at p3 NC
         ·clear g1 g2 g3
          go_wp2_with (go_at_call 52;refine (rplain_any _ _).mono ?_;rw [g0];rintro e w' ⟨rfl,rfl⟩)
          go_ret
          exact ⟨by rw [X.out,AN.out (by rw [NC.out];rfl)];rfl,HB.out⟩
         ·clear g1 g2 g3
          go_wp2_with (go_at_call 52;refine (rplain_any _ _).mono ?_;rw [g0];rintro e w' ⟨rfl,rfl⟩)
          go_round
          case rel=>exact ⟨k+1,by omega,by go_num,fun j hj=>by rcases (by omega:j < k∨j=k) with h|rfl;exact HN.out j h;rw [HD.out,NC.out];rfl⟩
          case measure=>simp [intOf];omega
        ·clear g1 g2 p3
         go_wp2_with (go_at_call 52;refine (rplain_any _ _).mono ?_;rw [g0];rintro e w' ⟨rfl,rfl⟩)
         go_round
         case rel=>exact ⟨k+1,by omega,by go_num,fun j hj=>by rcases (by omega:j < k∨j=k) with h|rfl;exact HN.out j h;rw [HD.out,NC.out];simp⟩
         case measure=>simp [intOf];omega
       ·clear g1 p2 p3
        go_wp2_with (go_at_call 52;refine (rplain_any _ _).mono ?_;rw [g0];rintro e w' ⟨rfl,rfl⟩)
        go_round
        case rel=>exact ⟨k+1,by omega,by go_num,fun j hj=>by rcases (by omega:j < k∨j=k) with h|rfl;exact HN.out j h;rw [HD.out,NC.out];simp⟩
        case measure=>simp [intOf];omega
      ·rw [g0] at NC
       clear p1 p2 p3
       go_wp2_with (go_at_call 52;refine (rplain_any _ _).mono ?_;rw [g0];rintro e w' ⟨rfl,rfl⟩)
       go_round
       case rel=>exact ⟨k+1,by omega,by go_num,fun j hj=>by rcases (by omega:j < k∨j=k) with h|rfl;exact HN.out j h;rw [HD.out,NC.out];simp⟩
       case measure=>simp [intOf];omega
     ·have Y:=Lib.hid (nm_yes (s:=s) (fun j hj=>HN.out j (by omega)))
      go_wp2
      go_ret
      exact ⟨by rw [X.out,Y.out];rfl,HB.out⟩
end Go.Proofs.YtbljkpbaceiaiaaGreatDoor
