/- What the laws rest on: N9l. -/
import Derived.Maps.OwnSet
import Derived.StringKeys
import Derived.Lib.IndexBytes
import Derived.BigRegion
import Derived.Outline
import Derived.Deep.RegionWith
import Derived.RangeFuncNested
import Derived.RangeFuncBound
import Derived.RangeFuncCalls
import Derived.RangeFuncLeaves
import Derived.Shelf.Abstract
import Derived.Shelf.RegionOpen
import Derived.TacticsInMore
import Derived.LoopNIn
import Derived.LoopIn
import Derived.Sort.EncStr
import Derived.Lib.SlicesCompact
import Derived.Test.YtpilmhoakopcaaaGreatDoorQADZC
set_option maxRecDepth 100000
set_option linter.unusedVariables false
set_option linter.unusedSimpArgs false
namespace Go.Proofs.YtpilmhoakopcaaaGreatDoor
open Go.RowKit Go.Sort
section
variable {α:Type} [DecidableEq α]
def cpL:Option α→List α→List α
 | _,[]=>[]
 | p,x::r=>if p=some x then cpL p r else x::cpL (some x) r
theorem cpL_snoc:∀(p:Option α) (l:List α) (x:α),cpL p (l++[x])=cpL p l++(if (match l.getLast? with|some y=>some y|none=>p)=some x then [] else [x])
 | p,[],x=>by
  show (if p=some x then [] else [x])=[]++_
  rw [List.nil_append];rfl
 | p,y::r,x=>by
  have e:(match (y::r).getLast? with|some z=>some z|none=>p)=(match r.getLast? with|some z=>some z|none=>some y):=by
   cases h:r.getLast? with
   | none=>
    rw [List.getLast?_eq_none_iff] at h
    subst h;rfl
   | some z=>rw [List.getLast?_cons,h];rfl
  rw [e,List.cons_append]
  show (if p=some y then cpL p (r++[x]) else y::cpL (some y) (r++[x]))=(if p=some y then cpL p r else y::cpL (some y) r)++_
  by_cases h:p=some y
  ·rw [if_pos h,if_pos h,cpL_snoc p r x,h]
  ·rw [if_neg h,if_neg h,cpL_snoc (some y) r x,List.cons_append]
theorem cp_take [Inhabited α] (zs:List α):∀m,m≤zs.length→Lib.compactUpTo zs.toArray m=cpL none (zs.take m)
 | 0,_=>rfl
 | m+1,h=>by
  have hm:m < zs.length:=by omega
  rw [Lib.compactUpTo_succ,cp_take zs m (by omega),List.take_succ_eq_append_getElem hm,cpL_snoc]
  have g:zs.toArray[m]! = zs[m]:=by rw [getElem!_pos _ _ (by simpa using hm)];simp
  congr 1
  cases m with
  | zero=>
   rw [if_pos (by simp [Lib.keeps]),g]
   rfl
  | succ m=>
   have hm':m < zs.length:=by omega
   have g':zs.toArray[m]! = zs[m]:=by rw [getElem!_pos _ _ (by simpa using hm')];simp
   have hl:(zs.take (m+1)).getLast?=some zs[m]:=by
    rw [List.take_succ_eq_append_getElem hm',List.getLast?_append];rfl
   rw [hl]
   show _=if some zs[m]=some zs[m+1] then [] else [zs[m+1]]
   by_cases hq:zs[m]=zs[m+1]
   ·have hk:¬Lib.keeps zs.toArray (m+1)=true:=by simp [Lib.keeps,g,g',hq]
    rw [if_neg hk,if_pos (show some zs[m]=some zs[m+1] by rw [hq])]
   ·have hk:Lib.keeps zs.toArray (m+1)=true:=by
     simp only [Lib.keeps,g,Nat.add_sub_cancel,g']
     exact decide_eq_true (.inr fun q=>hq q.symm)
    rw [if_pos hk,if_neg (fun q=>hq (Option.some.inj q)),g]
theorem cp_is [Inhabited α] (zs:List α):Lib.compact zs=cpL none zs:=by
 unfold Lib.compact
 rw [cp_take zs zs.length (Nat.le_refl _),List.take_length]
theorem cpL_len:∀(p:Option α) (l:List α),(cpL p l).length≤l.length
 | _,[]=>Nat.le_refl _
 | p,x::r=>by
  show (if p=some x then cpL p r else x::cpL (some x) r).length≤r.length+1
  split
  ·exact Nat.le_succ_of_le (cpL_len p r)
  ·exact Nat.succ_le_succ (cpL_len _ r)
end
section
variable {α β:Type} [Inhabited β]
theorem putRow_heap {enc:β→Value} {w:World} {q blk off:Nat} {d:Array β} {b:Nat} (hb:b≠blk):(putRow enc (Sort.ahead w q) blk off d).heap[b]?=w.heap[b]?:=by
 unfold putRow mapBlock
 simp only [Array.getElem?_modify,if_neg (Ne.symm hb)]
 rfl
theorem putRow_size {enc:β→Value} {w:World} {q blk off:Nat} {d:Array β}:(putRow enc (Sort.ahead w q) blk off d).heap.size=w.heap.size:=by
 unfold putRow mapBlock
 simp only [Array.size_modify]
 rfl
theorem putRow_below {enc:β→Value} {w:World} {q blk off N:Nat} {d:Array β} (hN:N≤blk):Below N w (putRow enc (Sort.ahead w q) blk off d):=
 ⟨rfl,rfl,rfl,by rw [putRow_size];exact Nat.le_refl _,fun k hk=>putRow_heap (by omega)⟩
end
theorem own1_row {α:Type} {E:Rd α} {enc:α→Value} (hE:∀w S a cs,E w S a cs→cs=[enc a]) {T:Nat→Prop} {w:World} {base:Nat} {e:TypeId} {v:Value} {l:List α} (h:Grow E 1 T w base e v l) (hne:l≠[]) :
  ∃gb cap,v=.slice (some ⟨gb,0,none⟩) l.length cap∧base≤gb∧gb < w.heap.size∧l.length≤cap∧cap≤maxLen∧∀j (hj:j < l.length),w.cell? ⟨gb,0+j,none⟩=some (enc l[j])∧w.frozen? ⟨gb,0+j,none⟩=false:=by
 obtain ⟨css,hl,ho,hC⟩:=h
 rcases ho.2 with ⟨_,h0⟩|⟨gb,cap,cur,rfl,hb,hg,hn,hm,hs,ht⟩
 ·exact absurd (List.eq_nil_of_length_eq_zero h0) hne
 ·have hls:∀cs ∈ css,cs.length=1:=fun cs hc=>by
   obtain ⟨k,hk,rfl⟩:=List.getElem_of_mem hc
   obtain ⟨cs,h1,h2⟩:=hC k (by omega)
   rw [List.getElem?_eq_getElem hk] at h1
   injection h1 with h1
   rw [h1,hE _ _ _ _ h2];rfl
  refine ⟨gb,cap,rfl,hb,(Array.getElem?_eq_some_iff.1 hg).1,hn,hm,fun j hj=>⟨?_,by unfold World.frozen?;rw [hg];simp⟩⟩
  obtain ⟨cs,h1,h2⟩:=hC j hj
  have q:=flatten_at 1 hls h1 0 (enc l[j]) (by rw [hE _ _ _ _ h2];rfl)
  rw [Nat.mul_one,Nat.add_zero] at q
  rw [cell_of_row w gb (0+j) cur e (0,0) hg,Nat.zero_add]
  rw [←ht,List.getElem?_take,if_pos (by omega)] at q
  simpa using q
theorem cpI9_any {T:Nat→Prop} {base:Nat} {e:TypeId} (v:Value) (l:List Int) (w:World) (hG:Grow rdInt 1 T w base e v l) (hl:l.length≤1000000) :
  Calls Tryz.prog 92 #[v] w fun e' w'=>(∃A c,e'=.returned (.slice A (cpL none l).length c)∧rdInts w' (lt_ w'.heap.size) (cpL none l) [.slice A (cpL none l).length c])∧Below base w w':=by
 by_cases hne:l=[]
 ·subst hne
  obtain ⟨Av,cv,rfl,-,-⟩:=hG.own
  refine (Tryz.slices_Compact_int_empty Av cv w).mono ?_
  rintro e w' ⟨rfl,rfl⟩
  exact ⟨⟨Av,cv,rfl,hG.read rdInt_good⟩,Below.refl _ _⟩
 ·obtain ⟨gb,cap,rfl,g1,g2,g3,g3',g4⟩:=own1_row (enc:=fun z:Int=>Value.int .i64 z) (fun _ _ _ _ h=>h) hG hne
  have hH:Holds (Value.int .i64) w gb 0 l.toArray:=fun j hj=>by
   have hj':j < l.length:=by simpa using hj
   refine ⟨?_,(g4 j hj').2⟩
   rw [(g4 j hj').1,getElem!_pos l.toArray j hj];simp
  refine (Tryz.slices_Compact_int gb 0 cap l w hH (by omega) g3).mono ?_
  rintro e' w' ⟨rfl,q,rfl⟩
  rw [cp_is]
  have hlen:=cpL_len none l
  have hs:(cpL none l++List.replicate (l.length - (cpL none l).length) (0:Int)).toArray.size=l.toArray.size:=by simp;omega
  have hH2:=holds_putRow (Value.int .i64) (Sort.ahead w q) gb 0 l.toArray _ (holds_ahead _ w q gb 0 _ hH) hs
  refine ⟨⟨_,cap,rfl,⟨_,cap,rfl,by omega,g3',fun k hk=>⟨_,[.int .i64 (cpL none l)[k]],rfl,?_,rfl,rfl,fun j u hu=>?_⟩⟩⟩,putRow_below g1⟩
  ·show gb < _
   rw [putRow_size];exact g2
  ·have hj:j=0:=by have:=(List.getElem?_eq_some_iff.1 hu).1;simpa using this
   subst hj
   obtain rfl:Value.int .i64 (cpL none l)[k]=u:=by simpa using hu
   have hk':k < (cpL none l++List.replicate (l.length - (cpL none l).length) (0:Int)).toArray.size:=by rw [hs];simp;omega
   have:=(hH2 k hk').1
   rw [getElem!_pos (cpL none l++List.replicate (l.length - (cpL none l).length) (0:Int)).toArray k hk'] at this
   have hadd:(⟨gb,0,none⟩:Addr).add (k*1+0)=⟨gb,0+k,none⟩:=by unfold Addr.add;split<;>simp_all
   rw [hadd,this]
   simp [List.getElem_append_left hk]
theorem encStr_data (s:ByteArray):encStr s.data.toList=.string s:=by
 unfold encStr
 congr 1
theorem cpL_map {α β:Type} [DecidableEq α] [DecidableEq β] (f:α→β) (hf:∀a b,f a=f b→a=b):∀(p:Option α) (l:List α),cpL (p.map f) (l.map f)=(cpL p l).map f
 | _,[]=>rfl
 | p,x::r=>by
  have h1:=cpL_map f hf p r
  have h2:=cpL_map f hf (some x) r
  rw [Option.map_some] at h2
  show (if p.map f=some (f x) then cpL (p.map f) (r.map f) else f x::cpL (some (f x)) (r.map f))=((if p=some x then cpL p r else x::cpL (some x) r).map f)
  by_cases h:p=some x
  ·rw [if_pos h,if_pos (by rw [h];rfl),h1]
  ·rw [if_neg h,if_neg ?_,h2,List.map_cons]
   cases p with
   | none=>simp
   | some y=>
    rw [Option.map_some]
    exact fun q=>h (congrArg some (hf _ _ (Option.some.inj q)))
theorem data_inj (a b:ByteArray) (h:a.data.toList=b.data.toList):a=b:=by
 cases a;cases b
 simp only [ByteArray.mk.injEq]
 exact Array.toList_inj.1 h
theorem cp_names:∀(p:Option ByteArray) (L:List Ent),cpL p (L.map fun x=>x.n)=nmU p L
 | _,[]=>rfl
 | p,x::r=>by
  rw [nmU_cons,←cp_names p r,←cp_names (some x.n) r];rfl
end Go.Proofs.YtpilmhoakopcaaaGreatDoor
