/- What the laws rest on: N12m, N12n, N12q, N12r. -/
import Derived.Sort.EncStr
import Derived.Test.YtgjlgdpbmhdnbaaDoorQAGZC
set_option maxRecDepth 100000
set_option linter.unusedVariables false
set_option linter.unusedSimpArgs false
namespace Go.Proofs.YtgjlgdpbmhdnbaaDoor
open Go.RowKit Go.Sort
section
variable {α:Type} [DecidableEq α]
def cpM:Option α→List α→List α
 | _,[]=>[]
 | p,x::r=>if p=some x then cpM p r else x::cpM (some x) r
theorem cpM_snoc:∀(p:Option α) (l:List α) (x:α),cpM p (l++[x])=cpM p l++(if (match l.getLast? with|some y=>some y|none=>p)=some x then [] else [x])
 | p,[],x=>by
  show (if p=some x then [] else [x])=[]++_
  rw [List.nil_append];rfl
 | p,y::r,x=>by
  have e:(match (y::r).getLast? with|some z=>some z|none=>p)=(match r.getLast? with|some z=>some z|none=>some y):=by
   cases h:r.getLast? with
   | none=>
    rw [List.getLast?_eq_none_iff] at h
    subst h;rfl
   | some z=>rw [List.getLast?_cons,h];rfl
  rw [e,List.cons_append]
  show (if p=some y then cpM p (r++[x]) else y::cpM (some y) (r++[x]))=(if p=some y then cpM p r else y::cpM (some y) r)++_
  by_cases h:p=some y
  ·rw [if_pos h,if_pos h,cpM_snoc p r x,h]
  ·rw [if_neg h,if_neg h,cpM_snoc (some y) r x,List.cons_append]
theorem cp12_take [Inhabited α] (zs:List α):∀m,m≤zs.length→Lib.compactUpTo zs.toArray m=cpM none (zs.take m)
 | 0,_=>rfl
 | m+1,h=>by
  have hm:m < zs.length:=by omega
  rw [Lib.compactUpTo_succ,cp12_take zs m (by omega),List.take_succ_eq_append_getElem hm,cpM_snoc]
  have g:zs.toArray[m]! = zs[m]:=by rw [getElem!_pos _ _ (by simpa using hm)];simp
  congr 1
  cases m with
  | zero=>
   rw [if_pos (by simp [Lib.keeps]),g]
   rfl
  | succ m=>
   have hm':m < zs.length:=by omega
   have g':zs.toArray[m]! = zs[m]:=by rw [getElem!_pos _ _ (by simpa using hm')];simp
   have hl:(zs.take (m+1)).getLast?=some zs[m]:=by
    rw [List.take_succ_eq_append_getElem hm',List.getLast?_append];rfl
   rw [hl]
   show _=if some zs[m]=some zs[m+1] then [] else [zs[m+1]]
   by_cases hq:zs[m]=zs[m+1]
   ·have hk:¬Lib.keeps zs.toArray (m+1)=true:=by simp [Lib.keeps,g,g',hq]
    rw [if_neg hk,if_pos (show some zs[m]=some zs[m+1] by rw [hq])]
   ·have hk:Lib.keeps zs.toArray (m+1)=true:=by
     simp only [Lib.keeps,g,Nat.add_sub_cancel,g']
     exact decide_eq_true (.inr fun q=>hq q.symm)
    rw [if_pos hk,if_neg (fun q=>hq (Option.some.inj q)),g]
theorem cp12_is [Inhabited α] (zs:List α):Lib.compact zs=cpM none zs:=by
 unfold Lib.compact
 rw [cp12_take zs zs.length (Nat.le_refl _),List.take_length]
theorem cpM_len:∀(p:Option α) (l:List α),(cpM p l).length≤l.length
 | _,[]=>Nat.le_refl _
 | p,x::r=>by
  show (if p=some x then cpM p r else x::cpM (some x) r).length≤r.length+1
  split
  ·exact Nat.le_succ_of_le (cpM_len p r)
  ·exact Nat.succ_le_succ (cpM_len _ r)
end
section
variable {α β:Type} [Inhabited β]
theorem putRow12_heap {enc:β→Value} {w:World} {q blk off:Nat} {d:Array β} {b:Nat} (hb:b≠blk):(putRow enc (Sort.ahead w q) blk off d).heap[b]?=w.heap[b]?:=by
 unfold putRow mapBlock
 simp only [Array.getElem?_modify,if_neg (Ne.symm hb)]
 rfl
theorem putRow12_size {enc:β→Value} {w:World} {q blk off:Nat} {d:Array β}:(putRow enc (Sort.ahead w q) blk off d).heap.size=w.heap.size:=by
 unfold putRow mapBlock
 simp only [Array.size_modify]
 rfl
theorem putRow12_below {enc:β→Value} {w:World} {q blk off N:Nat} {d:Array β} (hN:N≤blk):Below N w (putRow enc (Sort.ahead w q) blk off d):=
 ⟨rfl,rfl,rfl,by rw [putRow12_size];exact Nat.le_refl _,fun k hk=>putRow12_heap (by omega)⟩
end
theorem flat_one {α β:Type} (f:α→β):∀l:List α,(l.map fun z=>[f z]).flatten=l.map f
 | []=>rfl
 | x::r=>by rw [List.map_cons,List.flatten_cons,flat_one f r];rfl
set_option maxHeartbeats 2000000 in
theorem clone12_any (ad:Addr) (n c:Nat) (l:List Int) (w:World) (h:rdInts w (lt_ w.heap.size) l [.slice (some ad) n c]) (hl:l.length≤1000000) (h0:l≠[]) :
  Calls Tryd.prog 30 #[.slice (some ad) n c] w fun e w'=>(∃g cap tail,e=.returned (.slice (some ⟨g,0,none⟩) l.length cap)∧w.heap.size≤g∧l.length≤cap∧cap≤maxLen∧w'.heap[g]?=some (.cells (l.map (Value.int .i64)++tail).toArray 3 (0,0)))∧Below w.heap.size w w':=by
 have qT:∀(w:World) (a:Option Addr) (n c n' c':Nat),(binOp .eql 23 (.slice a n c) (.slice none n' c')).run Tryd.prog w=.ok (.bool a.isNone) w:=fun w a n c n' c'=>Lib.run_eql_slice_nil w _ _ a n c n' c' Tryd.underlying23
 obtain ⟨i0,hi,hz0,hz1,hz2⟩:=info_parts int12_info
 obtain ⟨rfl,hnc,hcm,hat⟩:=rdInts_at h
 have hcm':c≤9223372036854775807:=hcm
 have B1:=(Below.refl w.heap.size w).alloc (Nat.le_refl _) (.cells #[] 3)
 have hG:=Grow.empty (E:=rdInt) (sz:=1) (lt_ w.heap.size) (W:=w.alloc (.cells #[] 3)) (base:=w.heap.size) (heap_alloc_new w _) (Nat.le_refl _)
 have hX:=rdInts_good.below h B1
 have hn1:([]:List Int).length+l.length≤maxLen:=by simp only [List.length_nil];unfold maxLen;omega
 have hn2:(([]:List Int).length+l.length)*8≤140737488355328:=by simp only [List.length_nil];omega
 have hS:∀b,lt_ w.heap.size b→lt_ w.heap.size b∧b < (w.alloc (.cells #[] 3)).heap.size∧(Value.slice (some ⟨w.heap.size,0,none⟩) 0 0).ownBlock≠some b:=fun b hb=>⟨hb,by rw [World.size_alloc];unfold lt_ at hb;omega,fun hh=>by simp only [Value.ownBlock,Option.some.injEq] at hh;unfold lt_ at hb;omega⟩
 have hbs:w.heap.size≤(w.alloc (.cells #[] 3)).heap.size:=by rw [World.size_alloc];omega
 have HB1:=Lib.hid B1
 clear h B1 hcm hat
 go_enter Tryd.func30,Tryd.ntmps30
 go_wp2_with (at_builtin;refine wpList_growN _ rfl _ _ 23 23 rfl rdInt_good (by decide) (lt_ w.heap.size) w.heap.size 3 3 i0 (.int .i64 0) 8 Tryd.underlying23 Tryd.underlying23 hi hz0 hz1 hz2 rfl _ _ rfl hG l _ (some ad) l.length c rfl hX hS hn1 hn2 hbs ?_)
 intro v' w1 hG1 hg1
 have HB2:=Lib.hid (grow_below hG hg1 HB1.out (Nat.le_refl _) hbs)
 obtain ⟨g,cap,tail,rfl,a1,a2,a3,a4⟩:∃g cap tail,v'=.slice (some ⟨g,0,none⟩) l.length cap∧w.heap.size≤g∧l.length≤cap∧cap≤maxLen∧w1.heap[g]?=some (.cells (l.map (Value.int .i64)++tail).toArray 3 (0,0)):=by
  obtain ⟨css,k1,k2,k3⟩:=hG1
  have e:css.flatten=l.map (Value.int .i64):=by
   have:css=l.map fun z=>[Value.int .i64 z]:=by
    apply List.ext_getElem
    ·rw [List.length_map,k1]
    ·intro i h1 h2
     obtain ⟨cs,q1,q2⟩:=k3 i (by rw [←k1];exact h1)
     rw [List.getElem?_eq_getElem h1] at q1
     injection q1 with q1
     rw [q1,List.getElem_map]
     exact q2
   rw [this]
   exact flat_one _ l
  rw [e] at k2
  exact own_row k2 (fun q=>by
   rcases own_is k2 with ⟨A,c',z,_,_,hz⟩
   rw [z] at q
   injection q with _ q _
   exact h0 (List.eq_nil_of_length_eq_zero q))
 clear hG hX hg1 hn1 hn2 hS hbs hG1
 go_wp2
 go_ret
 exact ⟨⟨_,_,_,rfl,a1,a2,a3,a4⟩,HB2.out⟩
set_option maxHeartbeats 4000000 in
theorem comp12_any {w0 w:World} {N0 blk fb:Nat} {tail:List Value} {d:List Int} {f:Bool} (h:SrtW w0 N0 blk fb tail d f w) {cap:Nat} (hn:d.length≤1000000) (hc:d.length≤cap) (hcm:cap≤maxLen) :
  Calls Tryd.prog 35 #[.slice (some ⟨blk,0,none⟩) d.length cap] w fun e w'=>e=.returned (.slice (some ⟨blk,0,none⟩) (cpM none d).length cap)∧rdInts w' (lt_ w'.heap.size) (cpM none d) [.slice (some ⟨blk,0,none⟩) (cpM none d).length cap]∧w'.cell? ⟨fb,0,none⟩=some (.bool f)∧∀N,N≤blk→Below N w w':=by
 have hH:Holds (Value.int .i64) w blk 0 d.toArray:=fun j hj=>by
  have hj':j < d.length:=by simpa using hj
  rw [Nat.zero_add]
  refine ⟨?_,h.fz j⟩
  rw [h.cell hj',getElem!_pos d.toArray j hj,getElem!_pos d j hj'];simp
 refine (Tryd.slices_Compact_int blk 0 cap d w hH (by omega) hc).mono ?_
 rintro e' w' ⟨rfl,q,rfl⟩
 rw [cp12_is]
 have hlen:=cpM_len none d
 have hs:(cpM none d++List.replicate (d.length - (cpM none d).length) (0:Int)).toArray.size=d.toArray.size:=by simp;omega
 have hH2:=holds_putRow (Value.int .i64) (Sort.ahead w q) blk 0 d.toArray _ (holds_ahead _ w q blk 0 _ hH) hs
 refine ⟨rfl,⟨_,cap,rfl,by omega,hcm,fun k hk=>⟨_,[.int .i64 (cpM none d)[k]],rfl,?_,rfl,rfl,fun j u hu=>?_⟩⟩,?_,fun N hN=>putRow12_below hN⟩
 ·show blk < _
  rw [putRow12_size];exact cb_lt h.row
 ·have hj:j=0:=by have:=(List.getElem?_eq_some_iff.1 hu).1;simpa using this
  subst hj
  obtain rfl:Value.int .i64 (cpM none d)[k]=u:=by simpa using hu
  have hk':k < (cpM none d++List.replicate (d.length - (cpM none d).length) (0:Int)).toArray.size:=by rw [hs];simp;omega
  have:=(hH2 k hk').1
  rw [getElem!_pos (cpM none d++List.replicate (d.length - (cpM none d).length) (0:Int)).toArray k hk'] at this
  have hadd:(⟨blk,0,none⟩:Addr).add (k*1+0)=⟨blk,0+k,none⟩:=by unfold Addr.add;split<;>simp_all
  rw [hadd,this]
  simp [List.getElem_append_left hk]
 ·rw [World.cell?_of_block (w:=w) (putRow12_heap (Ne.symm h.ne))];exact h.fcell
def TdP (c:List Int) (Rel:List Int→Bool→Prop) (w:World) (e:Ending) (w':World):Prop:=
 ∃d f A k,Rel d f∧e=.returned (.tuple #[.slice A (cpM none d).length k,.bool f])∧rdInts w' (lt_ w'.heap.size) (cpM none d) [.slice A (cpM none d).length k]∧Below w.heap.size w w'
set_option maxHeartbeats 8000000 in
theorem tidy12_any (c:List Int) (Rel:List Int→Bool→Prop) (OK:SortOK c Rel) (ad:Addr) (n cp:Nat) (w:World) (h:rdInts w (lt_ w.heap.size) c [.slice (some ad) n cp]) (hl:c.length≤1000000) (h0:c≠[]) :
  Calls Tryd.prog 16 #[.slice (some ad) n cp] w fun e w'=>TdP c Rel w e w'∧True:=by
 have CL:=Lib.hid (clone12_any ad n cp c w h hl h0)
 have KO:=Lib.hid OK
 clear OK h h0
 go_enter Tryd.func16,Tryd.ntmps16
 go_wp2_with fail
 refine CL.out.mono ?_
 rintro e w1 ⟨⟨g,cap,tail,rfl,a1,a2,a3,a4⟩,hb1⟩
 have hcap:cap≤9223372036854775807:=a3
 have S1:=Lib.hid (show SrtW (w1.alloc (.cells #[.bool false] 4)) (w1.heap.size+1) g w1.heap.size tail c false (w1.alloc (.cells #[.bool false] 4)) from
  ⟨rfl,rfl,rfl,by rw [World.size_alloc];exact Nat.le_refl _,(Below.heap_alloc w1 _ g (cb_lt a4)).trans a4,heap_alloc_new w1 _,fun _ _ _ _=>rfl,Nat.lt_succ_of_lt (cb_lt a4),Nat.lt_succ_self _⟩)
 have SO:=Lib.hid (KO.out _ _ _ _ _ cap _ S1.out a2 a3)
 have HB1:=Lib.hid (hb1.alloc hb1.size (.cells #[.bool false] 4))
 have A1:=Lib.hid a1
 have G1:=Lib.hid hb1.size
 clear a4 hb1 S1 KO a1
 go_wp2_with fail
 refine SO.out.mono ?_
 rintro e w2 ⟨rfl,⟨d,f,hr,hd,S2⟩,-⟩
 rw [←hd]
 have CM:=Lib.hid (comp12_any (cap:=cap) S2.drew (by omega) (by omega) a3)
 have HB2:=Lib.hid (show Below w.heap.size w w2 from HB1.out.trans (S2.base A1.out G1.out (by rw [World.size_alloc];omega)))
 have fc:=S2.fcell
 have HB3:=Lib.hid (show Below w.heap.size w w2.drew from belD HB2.out 1)
 have PX:=Lib.hid (show ∀w3 A k,rdInts w3 (lt_ w3.heap.size) (cpM none d) [.slice A (cpM none d).length k]→Below w.heap.size w2.drew w3→TdP c Rel w (.returned (.tuple #[.slice A (cpM none d).length k,.bool f])) w3 from fun w3 A k q1 q2=>⟨d,f,A,k,hr,rfl,q1,HB3.out.trans q2⟩)
 clear SO CL HB1 HB2 S2 hr hd
 go_wp2_with fail
 refine wp_region_noPanic ?_
 refine wp_region_L (fun W=>W.cell? ⟨w1.heap.size,0,none⟩=some (.bool f)) 4 (by kernel_rfl) fc (fun hHeld=>?_)
 refine wpAnyL_take (i:=0) (v:=?_) [] rfl (by kernel_rfl) (by kernel_rfl) (by kernel_rfl) (fun _ _ _ h=>h) (by kernel_rfl) (by kernel_rfl) (by kernel_rfl) (Or.inl ⟨by rfl,?_⟩) (by assumption) ?_
 rotate_left
 ·intro w hSw
  try dsimp only at hSw
  go_simp
  first|done|with_reducible rfl
 try simp only [Act.put,List.getElem_toArray,List.getElem_cons_zero,List.getElem_cons_succ,List.setIfInBounds_toArray,List.set_cons_zero,List.set_cons_succ]
 refine wpAnyL_take (i:=2) (v:=?_) [] rfl (by kernel_rfl) (by kernel_rfl) (by kernel_rfl) (fun _ _ _ h=>h) (by kernel_rfl) (by kernel_rfl) (by kernel_rfl) (Or.inl ⟨by rfl,?_⟩) (by assumption) ?_
 rotate_left
 ·intro w hSw
  try dsimp only at hSw
  go_simp
  first|done|with_reducible rfl
 try simp only [Act.put,List.getElem_toArray,List.getElem_cons_zero,List.getElem_cons_succ,List.setIfInBounds_toArray,List.set_cons_zero,List.set_cons_succ]
 refine wpAnyL_one (i:=1) (by kernel_rfl) rfl (fun K hK=>?_)
 go_simp
 refine CM.out.mono ?_
 rintro e w3 ⟨rfl,q1,q2,q3⟩
 have PY:=Lib.hid (PX.out _ _ _ q1 (q3 _ A1.out))
 clear q1 q3
 go_wp2_with fail
 refine hK.out _ _ q2 (fun hHeld=>?_)
 clear hK K
 try simp only [Act.put,List.getElem_toArray,List.getElem_cons_zero,List.getElem_cons_succ,List.setIfInBounds_toArray,List.set_cons_zero,List.set_cons_succ]
 refine wpAnyL_one (i:=3) (by kernel_rfl) rfl (fun K hK=>?_)
 go_simp
 refine hK.out _ _ q2 (fun hHeld=>?_)
 clear hK K
 try simp only [Act.put,List.getElem_toArray,List.getElem_cons_zero,List.getElem_cons_succ,List.setIfInBounds_toArray,List.set_cons_zero,List.set_cons_succ]
 refine wpAnyL_last (by kernel_rfl) rfl (by kernel_rfl) (fun K hK=>?_)
 go_simp
 refine hK.out _ _ ?_
 clear hK K
 refine NoPanic.normal ?_
 go_wp2
 go_ret2
 first|exact PY.out|exact ⟨PY.out,trivial⟩
end Go.Proofs.YtgjlgdpbmhdnbaaDoor
namespace Go.Proofs.YtgjlgdpbmhdnbaaDoor
open Go.RowKit
set_option maxHeartbeats 4000000 in
theorem ixI12_any (x:Int) (A:Option Addr) (n c:Nat) (l:List Int) (S:Nat→Prop) (w:World) (h:rdInts w S l [.slice A n c]) :
  Calls Tryd.prog 45 #[.slice A n c,.int .i64 x] w fun e w'=>e=.returned (.int .i64 (ixF (fun y=>x==y) l 0))∧w=w':=by
 obtain ⟨rfl,hnc,hcm,ha⟩:=rdInts_at h
 have hcm':c≤9223372036854775807:=hcm
 have HA:=Lib.hid ha
 obtain ⟨R,hR⟩:∃R,R=ixF (fun y=>x==y) l 0:=⟨_,rfl⟩
 rw [←hR]
 have HR:=Lib.hid hR
 clear h hcm ha hR
 go_enter Tryd.func45,Tryd.ntmps45
 go_wp2
 go_loopw [8] (fun i wr=>∃k:Nat,k≤l.length∧i=.int .i64 k∧Hid (R=ixF (fun y=>x==y) (l.drop k) k)∧w=wr) (fun i _=>l.length - (intOf i).toNat)
 case atStart=>exact ⟨0,Nat.zero_le _,rfl,HR,rfl⟩
 case round=>
  obtain ⟨k,hk,rfl,H1,rfl⟩:=hrel
  by_cases hlt:k < l.length
  ·obtain ⟨ad,rfl,had,g0⟩:=HA.out k hlt
   have PA:=Lib.hid (ixF_at (p:=fun y=>x==y) hlt)
   have i0:(0:Int)≤(k:Int):=by omega
   have i1:(k:Int) < (l.length:Int):=by omega
   clear had
   generalize l[k]=z at *
   cases he:(x==z)
   ·have X:=Lib.hid (PA.out.2 he)
    go_wp2
    go_roundw
    case rel=>exact ⟨k+1,by omega,by go_num,Lib.hid (H1.out.trans X.out),by first|rfl|trivial⟩
    case measure=>simp [intOf];omega
   ·have X:=Lib.hid (PA.out.1 he)
    go_wp2
    go_ret
    exact ⟨by rw [H1.out,X.out];try rfl,rfl⟩
  ·have X:=Lib.hid (show R=-1 by rw [H1.out,List.drop_eq_nil_of_le (by omega)];rfl)
   go_wp2
   go_ret
   exact ⟨by rw [X.out];try rfl,rfl⟩
theorem con12_any (x:Int) (A:Option Addr) (n c:Nat) (l:List Int) (S:Nat→Prop) (w:World) (h:rdInts w S l [.slice A n c]) :
  Calls Tryd.prog 28 #[.slice A n c,.int .i64 x] w fun e w'=>e=.returned (.bool (l.any fun y=>x==y))∧w=w':=by
 have C:=Lib.hid (ixI12_any x A n c l S w h)
 have X:=Lib.hid (ixF_has (p:=fun y=>x==y) (l:=l) (i:=0))
 generalize l.any (fun y=>x==y)=bb at *
 generalize ixF (fun y=>x==y) l 0=R at *
 clear h
 go_enter Tryd.func28,Tryd.ntmps28
 go_wp2_with fail
 refine C.out.mono ?_
 rintro e w' ⟨rfl,rfl⟩
 go_wp2
 go_ret
 exact ⟨by rw [←X.out];try rfl,rfl⟩
theorem any_eq (l:List Int) (x:Int):(l.any fun y=>x==y)=decide (x ∈ l):=by
 rw [Bool.eq_iff_iff,List.any_eq_true,decide_eq_true_iff]
 exact ⟨fun ⟨y,h1,h2⟩=>by rw [beq_iff_eq.1 h2];exact h1,fun h=>⟨x,h,beq_iff_eq.2 rfl⟩⟩
def witL (x:Int) (l:List Int):List Int:=l.filter fun y=>y != x
set_option maxHeartbeats 4000000 in
theorem wit12_any (x:Int) (A:Option Addr) (n c:Nat) (l:List Int) (w:World) (h:rdInts w (lt_ w.heap.size) l [.slice A n c]) (hl:l.length≤1000000) :
  Calls Tryd.prog 29 #[.slice A n c,.int .i64 x] w fun e w'=>(∃v,e=.returned v∧Grow rdInt 1 (fun _=>False) w' w.heap.size 3 v (witL x l))∧Below w.heap.size w w':=by
 obtain ⟨fi,hi,hz0,hz1,hz2⟩:=info_parts int12_info
 obtain ⟨rfl,hnc,hcm,_⟩:=rdInts_at h
 have hcm':c≤9223372036854775807:=hcm
 have HA:=Lib.hid (fun (W:World) (hb:Below w.heap.size w W)=>(rdInts_at (rdInts_good.below h hb)).2.2.2)
 have LE:=Lib.hid (fun (k:Nat)=>Nat.le_trans (List.length_filter_le (fun y:Int=>y != x) (l.take k)) (List.length_take_le' k l))
 have FIN:=Lib.hid (show witL x l=(l.take l.length).filter fun y=>y != x by rw [List.take_length];rfl)
 clear h hcm
 generalize witL x l=R at *
 go_enter Tryd.func29,Tryd.ntmps29
 go_wp2
 go_loopw [5,10] (fun v i wr=>∃k:Nat,k≤l.length∧i=.int .i64 k∧Grow rdInt 1 (fun _=>False) wr w.heap.size 3 v ((l.take k).filter fun y=>y != x)∧Below w.heap.size w wr) (fun _ i _=>l.length - (intOf i).toNat)
 case atStart=>exact ⟨0,Nat.zero_le _,rfl,Grow.nil _ _ _ _,Below.refl _ _⟩
 case round=>
  obtain ⟨k,hk,rfl,hG,hbel⟩:=hrel
  have HB:=Lib.hid hbel
  have HG:=Lib.hid hG
  clear hbel hG
  by_cases hlt:k < l.length
  ·obtain ⟨ad,rfl,had,g0⟩:=HA.out wr HB.out k hlt
   have i0:(0:Int)≤(k:Int):=by omega
   have i1:(k:Int) < (l.length:Int):=by omega
   have ST:=Lib.hid (show (l.take (k+1)).filter (fun y=>y != x)=(l.take k).filter (fun y=>y != x)++(if (l[k] != x)=true then [l[k]] else []) by
    rw [List.take_succ_eq_append_getElem hlt,List.filter_append,List.filter_cons,List.filter_nil])
   have LK:=LE.out k
   clear had
   generalize hgn:(l.take (k+1)).filter (fun y=>y != x)=gn at *
   have HGN:=Lib.hid hgn
   generalize hgl:(l.take k).filter (fun y=>y != x)=gl at *
   generalize l[k]=z at *
   clear hgn hgl
   cases he:(z != x)
   ·have E:=Lib.hid (show gn=gl by rw [ST.out,he];simp)
    clear ST
    go_wp2
    go_roundw
    case rel=>exact ⟨k+1,by omega,by go_num,by rw [HGN.out,E.out];exact HG.out,HB.out⟩
    case measure=>simp [intOf];omega
   ·have E:=Lib.hid (show gn=gl++[z] by rw [ST.out,he];simp)
    clear ST
    have hn1:gl.length+1≤maxLen:=by unfold maxLen;omega
    have hn2:(gl.length+1)*8≤140737488355328:=by omega
    have hbs3:w.heap.size≤wr.heap.size:=HB.out.size
    have hE:=(show rdInt wr (fun b=>False∧b < wr.heap.size∧u5.ownBlock≠some b) z (#[Value.int .i64 z]:Array Value).toList from rfl)
    have GV:=HG.out
    go_wp2_with (at_builtin;refine wpList_grow1 wr rfl _ _ 23 rfl rdInt_good (by decide) (fun _=>False) w.heap.size 3 fi _ 8 Tryd.underlying23 hi hz0 hz1 hz2 rfl u5 gl rfl GV z _ 3 hE _ rfl rfl hn1 hn2 hbs3 ?_)
    intro v' w' hG' hgr
    have G4:=Lib.hid hG'
    have B4:=Lib.hid (grow_below GV hgr HB.out (Nat.le_refl _) hbs3)
    clear hgr hE hG' GV
    go_wp2
    go_roundw
    case rel=>exact ⟨k+1,by omega,by go_num,by rw [HGN.out,E.out];exact G4.out,B4.out⟩
    case measure=>simp [intOf];omega
  ·have E:=Lib.hid (show R=(l.take k).filter (fun y=>y != x) by rw [FIN.out,show k=l.length by omega])
   go_wp2
   go_ret
   exact ⟨⟨_,rfl,by rw [E.out];exact HG.out⟩,HB.out⟩
def TidyOK (c:List Int) (Rel:List Int→Bool→Prop):Prop:=
 ∀(A:Option Addr) (n cp:Nat) (w:World),rdInts w (lt_ w.heap.size) c [.slice A n cp]→Calls Tryd.prog 16 #[.slice A n cp] w fun e w'=>TdP c Rel w e w'∧True
theorem tidy_ok (c:List Int) (Rel:List Int→Bool→Prop) (h:SortOK c Rel) (hl:c.length≤1000000) (h0:c≠[]):TidyOK c Rel:=fun A n cp w hr=>by
 cases A with
 | none=>
  obtain ⟨_,_,_,ha⟩:=rdInts_at hr
  obtain ⟨_,e,_⟩:=ha 0 (List.length_pos_iff.2 h0)
  cases e
 | some ad=>exact tidy12_any c Rel h ad n cp w hr hl h0
def canR (a b:List Int) (v:Int):Bool:=decide (1≤v)&&(decide (v ∈ a)&&decide (-v ∈ b))
def resL (a b:List Int) (v:Int):List Int:=witL v a++witL (-v) b
def RsP (a b:List Int) (v:Int) (Rel:List Int→Bool→Prop) (w:World) (e:Ending) (w':World):Prop:=
 (canR a b v=false∧e=.returned (.tuple #[.slice none 0 0,.bool false])∧w=w')∨(canR a b v=true∧∃d f A k,Rel d f∧e=.returned (.tuple #[.slice A (cpM none d).length k,.bool true])∧rdInts w' (lt_ w'.heap.size) (cpM none d) [.slice A (cpM none d).length k]∧Below w.heap.size w w')
set_option maxHeartbeats 16000000 in
theorem res12_any (a b:List Int) (v:Int) (Rel:List Int→Bool→Prop) (OK:canR a b v=true→TidyOK (resL a b v) Rel) (Aa Ab:Option Addr) (na ca nb cb:Nat) (w:World) (ha:rdInts w (lt_ w.heap.size) a [.slice Aa na ca]) (hb:rdInts w (lt_ w.heap.size) b [.slice Ab nb cb]) (hla:a.length≤100000) (hlb:b.length≤100000) (hv:v≤9223372036854775807) :
  Calls Tryd.prog 15 #[.slice Aa na ca,.slice Ab nb cb,.int .i64 v] w fun e w'=>RsP a b v Rel w e w'∧True:=by
 obtain ⟨fi,hi,hz0,hz1,hz2⟩:=info_parts int12_info
 have C1:=Lib.hid (con12_any v Aa na ca a _ w ha)
 have C2:=Lib.hid (con12_any (-v) Ab nb cb b _ w hb)
 rw [any_eq] at C1 C2
 have PN:=Lib.hid (show canR a b v=false→RsP a b v Rel w (.returned (.tuple #[.slice none 0 0,.bool false])) w from fun h=>Or.inl ⟨h,rfl,rfl⟩)
 by_cases h1:v < 1
 ·have d1:decide (v < 1)=true:=decide_eq_true h1
  have PX:=Lib.hid (PN.out (by unfold canR;rw [decide_eq_false (by omega)];rfl))
  clear ha hb PN C1 C2 OK
  go_enter Tryd.func15,Tryd.ntmps15
  go_wp2
  go_ret2
  first|exact PX.out|exact ⟨PX.out,trivial⟩
 have d1:decide (v < 1)=false:=decide_eq_false h1
 have hw:IntKind.i64.wrap (-v)=-v:=by rw [IntKind.wrap_i64];omega
 by_cases h2:v ∈ a
 ·rw [decide_eq_true h2] at C1
  by_cases h3:-v ∈ b
  ·rw [decide_eq_true h3] at C2
   have CR:canR a b v=true:=by unfold canR;rw [decide_eq_true (show 1≤v by omega),decide_eq_true h2,decide_eq_true h3];rfl
   have W1:=Lib.hid (wit12_any v Aa na ca a w ha (by omega))
   have W2:=Lib.hid (fun (W:World) (hB:Below w.heap.size w W)=>wit12_any (-v) Ab nb cb b W (rdInts_good.up (rdInts_good.below hb hB) hB.size) (by omega))
   have TO:=Lib.hid (OK CR)
   have HC:=Lib.hid CR
   have L1:=Lib.hid (Nat.le_trans (List.length_filter_le (fun y:Int=>y != v) a) hla:(witL v a).length≤100000)
   have L2:=Lib.hid (Nat.le_trans (List.length_filter_le (fun y:Int=>y != -v) b) hlb:(witL (-v) b).length≤100000)
   have RL:=Lib.hid (show resL a b v=witL v a++witL (-v) b from rfl)
   rw [RL.out] at TO
   clear ha hb PN OK h2 h3 CR
   generalize witL v a=la at *
   generalize witL (-v) b=lb at *
   go_enter Tryd.func15,Tryd.ntmps15
   go_upto_region 3 with (first|(go_at_call_of 28 (Value.slice Aa na ca);(with_reducible refine C1.out.mono ?_);rintro e w' ⟨rfl,rfl⟩)|(go_at_call_of 28 (Value.slice Ab nb cb);(with_reducible refine C2.out.mono ?_);rintro e w' ⟨rfl,rfl⟩))
   clear C1 C2
   have PR:=Lib.hid (show ∀d f A k w4,Rel d f→rdInts w4 (lt_ w4.heap.size) (cpM none d) [.slice A (cpM none d).length k]→Below w.heap.size w w4→RsP a b v Rel w (.returned (.tuple #[.slice A (cpM none d).length k,.bool true])) w4 from fun d f A k w4 q1 q2 q3=>Or.inr ⟨HC.out,d,f,A,k,q1,rfl,q2,q3⟩)
   go_wp2_with fail
   refine W1.out.mono ?_
   rintro e w1 ⟨⟨v1,rfl,G1⟩,hb1⟩
   have HG1:=Lib.hid G1
   have HB1:=Lib.hid hb1
   obtain ⟨A1,c1,rfl,k1,k1'⟩:=G1.own
   have k1'':c1≤9223372036854775807:=k1'
   clear G1 hb1 W1
   go_wp2_with fail
   refine (W2.out w1 HB1.out).mono ?_
   rintro e w2 ⟨⟨v2,rfl,G2⟩,hb2⟩
   have HG2:=Lib.hid G2
   have HB2:=Lib.hid (bel12 HB1.out hb2)
   obtain ⟨A2,c2,rfl,k2,k2'⟩:=G2.own
   have k2'':c2≤9223372036854775807:=k2'
   have GA:=Lib.hid ((HG1.out.below rdInt_good hb2).retag (T':=fun b=>w1.heap.size≤b) rdInt_good (fun b h=>h.elim))
   have RX:=Lib.hid (HG2.out.reads rdInt_good)
   have hS:∀b,(b < w2.heap.size∧(w1.heap.size≤b∨False))→w1.heap.size≤b∧b < w2.heap.size∧(Value.slice A1 la.length c1).ownBlock≠some b:=fun b hb=>⟨hb.2.resolve_right id,hb.1,fun hh=>by
    have q1:=(HG1.out.lt b hh).2
    have q2:=hb.2.resolve_right id
    omega⟩
   have hn1:la.length+lb.length≤maxLen:=by have:=L1.out;have:=L2.out;unfold maxLen;omega
   have hn2:(la.length+lb.length)*8≤140737488355328:=by have:=L1.out;have:=L2.out;omega
   have hbs:w.heap.size≤w2.heap.size:=HB2.out.size
   have hG0:=GA.out
   have hX0:=RX.out
   clear G2 hb2 W2 HG2 RX GA
   go_wp2_with (at_builtin;refine wpList_growN w2 rfl _ _ 23 23 rfl rdInt_good (by decide) (fun b=>w1.heap.size≤b) w.heap.size 3 3 fi (.int .i64 0) 8 Tryd.underlying23 Tryd.underlying23 hi hz0 hz1 hz2 rfl _ _ rfl hG0 lb _ A2 lb.length c2 rfl hX0 hS hn1 hn2 hbs ?_)
   intro v3 w3 hG3 hg3
   obtain ⟨q,hq⟩:∃q,q=la++lb:=⟨_,rfl⟩
   rw [←hq] at hG3 TO
   have HB3:=Lib.hid (grow_below hG0 hg3 HB2.out (Nat.le_refl _) hbs)
   obtain ⟨A3,c3,rfl,k3,k3'⟩:=hG3.own
   have TD:=Lib.hid (TO.out A3 q.length c3 w3 (hG3.read rdInt_good))
   clear hG0 hX0 hg3 hG3 hS hn1 hn2 hbs HG1 HB1 HB2 hq
   go_wp2_with fail
   refine TD.out.mono ?_
   rintro e w4 ⟨⟨d,f,A,k,z1,rfl,z2,z3⟩,-⟩
   have PX:=Lib.hid (PR.out d f A k w4 z1 z2 (bel12 HB3.out z3))
   clear z1 z2 z3 PR TD TO
   go_wp2
   go_ret2
   first|exact PX.out|exact ⟨PX.out,trivial⟩
  ·rw [decide_eq_false h3] at C2
   have PX:=Lib.hid (PN.out (by unfold canR;rw [decide_eq_false h3,Bool.and_false,Bool.and_false]))
   clear ha hb PN OK
   go_enter Tryd.func15,Tryd.ntmps15
   go_wp2_with (first|(go_at_call_of 28 (Value.slice Aa na ca);(with_reducible refine C1.out.mono ?_);rintro e w' ⟨rfl,rfl⟩)|(go_at_call_of 28 (Value.slice Ab nb cb);(with_reducible refine C2.out.mono ?_);rintro e w' ⟨rfl,rfl⟩))
   go_ret2
   first|exact PX.out|exact ⟨PX.out,trivial⟩
 ·rw [decide_eq_false h2] at C1
  have PX:=Lib.hid (PN.out (by unfold canR;rw [decide_eq_false h2,Bool.false_and,Bool.and_false]))
  clear ha hb PN OK C2
  go_enter Tryd.func15,Tryd.ntmps15
  go_wp2_with (go_at_call 28;(with_reducible refine C1.out.mono ?_);rintro e w' ⟨rfl,rfl⟩)
  go_ret2
  first|exact PX.out|exact ⟨PX.out,trivial⟩
theorem iss_blk {w:World} {b:Nat} {cs:Array Value} {l:List (List Int)} (h:w.heap[b]?=some (.cells cs 23 (0,0))) (hm:l.length≤maxLen) (he:∀k (hk:k < l.length),∃A c,cs[k]?=some (.slice A l[k].length c)∧rdInts w (lt_ w.heap.size) l[k] [.slice A l[k].length c]):rdIss w (lt_ w.heap.size) l [.slice (some ⟨b,0,none⟩) l.length l.length]:=by
 refine ⟨some ⟨b,0,none⟩,l.length,rfl,Nat.le_refl _,hm,fun k hk=>?_⟩
 obtain ⟨A,c,h1,h2⟩:=he k hk
 refine ⟨⟨b,0,none⟩,[.slice A l[k].length c],rfl,cb_lt h,h2,rfl,fun j u hj=>?_⟩
 match j,hj with
 | 0,hj=>
  rw [add12_0,cb_cell h]
  injection hj with hj
  rw [←hj]
  simpa using h1
 | j+1,hj=>cases hj
theorem srt_ex1:cpM none (srtS [3,-1,3,1]).1=[1,-1,3]∧(srtS [3,-1,3,1]).2=true:=by decide +kernel
theorem srt_ex2:cpM none (srtS [2,3]).1=[2,3]:=by decide +kernel
theorem res_ex:resL [1,2] [-1,3] 1=[2,3]∧canR [1,2] [-1,3] 1=true:=by decide
theorem un_ex1:UnA 3 [[1],[-1,2],[-2,3]] [] [1,1,1] true:=by
 refine Or.inr ⟨by decide,?_⟩
 have d1:Der [[1],[-1,2],[-2,3]] [] 1:=Der.one (c:=[1]) (by decide) (by decide) (fun y hy hne=>absurd (List.mem_singleton.1 hy) hne)
 have d2:Der [[1],[-1,2],[-2,3]] [] 2:=Der.one (c:=[-1,2]) (by decide) (by decide) (fun y hy hne=>by
  rcases List.mem_cons.1 hy with q|q
  ·rw [q];exact d1
  ·exact absurd (List.mem_singleton.1 q) hne)
 have d3:Der [[1],[-1,2],[-2,3]] [] 3:=Der.one (c:=[-2,3]) (by decide) (by decide) (fun y hy hne=>by
  rcases List.mem_cons.1 hy with q|q
  ·rw [q];exact d2
  ·exact absurd (List.mem_singleton.1 q) hne)
 refine isU_of rfl (by decide) (fun x hx=>?_) (fun x hx=>absurd hx List.not_mem_nil) (by decide)
 have hl:=tv_lit (a:=[1,1,1]) (x:=x) (by rw [hx];decide)
 obtain ⟨h0,h1,h2⟩:=hl
 have h3:x=1∨x=2∨x=3∨x=-1∨x=-2∨x=-3:=by
  have h1':-3≤x:=h1
  have h2':x≤3:=h2
  omega
 rcases h3 with q|q|q|q|q|q
 ·rw [q];exact d1
 ·rw [q];exact d2
 ·rw [q];exact d3
 ·rw [q] at hx;exact absurd hx (by decide)
 ·rw [q] at hx;exact absurd hx (by decide)
 ·rw [q] at hx;exact absurd hx (by decide)
theorem un_ex2:UnA 1 [[1],[-1]] [] [] false:=by
 refine Or.inr ⟨by decide,Or.inl ⟨rfl,rfl,Or.inr (Or.inl ⟨1,?_,?_⟩)⟩⟩
 ·exact Der.one (c:=[1]) (by decide) (by decide) (fun y hy hne=>absurd (List.mem_singleton.1 hy) hne)
 ·exact Der.one (c:=[-1]) (by decide) (by decide) (fun y hy hne=>absurd (List.mem_singleton.1 hy) hne)
theorem dig1 {n:Nat} (h:n < 10):Lib.decDigits n=[UInt8.ofNat (48+n)]:=by rw [Lib.decDigits,dif_pos h]
theorem pr_ex:prF 2 [[1,-2]]=⟨#[112,32,99,110,102,32,50,32,49,10,49,32,45,50,32,48,10]⟩:=by
 have h1:okF 2 [[1,-2]]=true:=by decide
 unfold prF
 rw [if_pos h1]
 have i2:iB 2=[50]:=by unfold iB Lib.itoa;rw [if_neg (by decide),dig1 (by decide)];decide
 have i1:iB 1=[49]:=by unfold iB Lib.itoa;rw [if_neg (by decide),dig1 (by decide)];decide
 have i1':iB (([[1,-2]]:List (List Int)).length:Int)=[49]:=i1
 have im:iB (-2)=[45,50]:=by unfold iB Lib.itoa;rw [if_pos (by decide),dig1 (by decide)];decide
 symm
 apply eq_mk
 unfold fmT hdT
 rw [i2,i1']
 show _=_++(clT [1,-2]++[])
 unfold clT
 show _=_++(((litT 1++(litT (-2)++[]))++[48,10])++[])
 unfold litT
 rw [i1,im]
 decide
theorem lit_ints (w:World) (l:List Int) (hl:l.length≤100):rdInts (w.alloc (.cells (l.map (Value.int .i64)).toArray 3)) (lt_ (w.alloc (.cells (l.map (Value.int .i64)).toArray 3)).heap.size) l [.slice (some ⟨w.heap.size,0,none⟩) l.length l.length]:=
 blk_ints (heap_alloc_new w _) rfl (by unfold maxLen;omega)
theorem ints_up {w w':World} {l:List Int} {v:Value} (h:rdInts w (lt_ w.heap.size) l [v]) (hb:Below w.heap.size w w'):rdInts w' (lt_ w'.heap.size) l [v]:=rdInts_good.up (rdInts_good.below h hb) hb.size
theorem al_up (w:World) (o:Obj):Below w.heap.size w (w.alloc o):=(Below.refl _ w).alloc (Nat.le_refl _) o
set_option maxHeartbeats 32000000 in
theorem shown12_any (w:World) (E:Pow w):Calls Tryd.prog 7 #[] w fun e w'=>e=.returned (.bool true)∧Below w.heap.size w w':=by
 have T1:=Lib.hid (tidy_ok [3,-1,3,1] _ (sortS_ok _ (by decide)) (by decide) (by decide))
 have T2:=Lib.hid (tidy_ok [2,3] _ (sortS_ok _ (by decide)) (by decide) (by decide))
 have U:=Lib.hid units12_any
 have SI:=Lib.hid sints12_any
 have PR:=Lib.hid print12_any
 obtain ⟨W1,hW1⟩:∃W,W=w.alloc (.cells #[.int .i64 3,.int .i64 (-1),.int .i64 3,.int .i64 1] 3):=⟨_,rfl⟩
 have r1:rdInts W1 (lt_ W1.heap.size) [3,-1,3,1] [.slice (some ⟨w.heap.size,0,none⟩) 4 4]:=by rw [hW1];exact lit_ints w [3,-1,3,1] (by decide)
 have B1:=Lib.hid (show Below w.heap.size w W1 by rw [hW1];exact al_up w _)
 have K1:=Lib.hid (T1.out _ _ _ W1 r1)
 clear r1 T1
 go_enter Tryd.func7,Tryd.ntmps7
 go_wp2_with fail
 rw [←hW1]
 clear hW1
 refine K1.out.mono ?_
 rintro e w1 ⟨⟨d,f,A1,k1,⟨rfl,rfl⟩,rfl,q2,q3⟩,-⟩
 rw [srt_ex1.1] at q2 ⊢
 rw [srt_ex1.2]
 have RA:=Lib.hid q2
 have C1:=Lib.hid (bel12 B1.out q3)
 clear q2 q3 K1 B1
 obtain ⟨X1,hX1⟩:∃W,W=w1.alloc (.cells #[.int .i64 1] 3):=⟨_,rfl⟩
 obtain ⟨X2,hX2⟩:∃W,W=X1.alloc (.cells #[.int .i64 (-1),.int .i64 2] 3):=⟨_,rfl⟩
 obtain ⟨X3,hX3⟩:∃W,W=X2.alloc (.cells #[.int .i64 (-2),.int .i64 3] 3):=⟨_,rfl⟩
 obtain ⟨W2,hW2⟩:∃W,W=X3.alloc (.cells #[.slice (some ⟨w1.heap.size,0,none⟩) 1 1,.slice (some ⟨w1.heap.size+1,0,none⟩) 2 2,.slice (some ⟨w1.heap.size+1+1,0,none⟩) 2 2] 23):=⟨_,rfl⟩
 have z1:X1.heap.size=w1.heap.size+1:=by rw [hX1,World.size_alloc]
 have z2:X2.heap.size=w1.heap.size+1+1:=by rw [hX2,World.size_alloc,z1]
 have z3:X3.heap.size=w1.heap.size+1+1+1:=by rw [hX3,World.size_alloc,z2]
 have b1:Below w1.heap.size w1 X1:=by rw [hX1];exact al_up _ _
 have b2:Below X1.heap.size X1 X2:=by rw [hX2];exact al_up _ _
 have b3:Below X2.heap.size X2 X3:=by rw [hX3];exact al_up _ _
 have b4:Below X3.heap.size X3 W2:=by rw [hW2];exact al_up _ _
 have y1:rdInts W2 (lt_ W2.heap.size) [1] [.slice (some ⟨w1.heap.size,0,none⟩) 1 1]:=ints_up (ints_up (ints_up (by rw [hX1];exact lit_ints w1 [1] (by decide)) b2) b3) b4
 have y2:rdInts W2 (lt_ W2.heap.size) [-1,2] [.slice (some ⟨w1.heap.size+1,0,none⟩) 2 2]:=ints_up (ints_up (by rw [hX2,←z1];exact lit_ints X1 [-1,2] (by decide)) b3) b4
 have y3:rdInts W2 (lt_ W2.heap.size) [-2,3] [.slice (some ⟨w1.heap.size+1+1,0,none⟩) 2 2]:=ints_up (by rw [hX3,←z2];exact lit_ints X2 [-2,3] (by decide)) b4
 have y4:rdIss W2 (lt_ W2.heap.size) [[1],[-1,2],[-2,3]] [.slice (some ⟨w1.heap.size+1+1+1,0,none⟩) 3 3]:=iss_blk (cs:=#[.slice (some ⟨w1.heap.size,0,none⟩) 1 1,.slice (some ⟨w1.heap.size+1,0,none⟩) 2 2,.slice (some ⟨w1.heap.size+1+1,0,none⟩) 2 2]) (by rw [←z3,hW2];exact heap_alloc_new X3 _) (by decide) (fun k hk=>by
  match k,hk with
  | 0,_=>exact ⟨_,_,rfl,y1⟩
  | 1,_=>exact ⟨_,_,rfl,y2⟩
  | 2,_=>exact ⟨_,_,rfl,y3⟩)
 have B2:=Lib.hid (bel12 C1.out (bel12 (bel12 (bel12 b1 b2) b3) b4))
 have K2:=Lib.hid (U.out 3 (some ⟨w1.heap.size+1+1+1,0,none⟩) none 3 3 0 0 _ [] W2 y4 (rdRow_nil _ _))
 have M2:=Lib.hid (ints_up RA.out (bel12 (bel12 (bel12 b1 b2) b3) b4))
 clear y1 y2 y3 y4 b1 b2 b3 b4 z1 z2 z3 C1 RA
 subst hX3
 subst hX2
 subst hX1
 go_wp2_with fail
 rw [←hW2]
 clear hW2
 refine K2.out.mono ?_
 rintro e w2 ⟨⟨r,ok,A2,k2,rfl,hu,q2,q3⟩,-⟩
 obtain ⟨h1,h2⟩:=unA_one hu un_ex1
 subst h1
 subst h2
 have RB:=Lib.hid q2
 have RA2:=Lib.hid (ints_up M2.out q3)
 have C2:=Lib.hid (bel12 B2.out q3)
 clear q2 q3 K2 B2 M2 hu
 obtain ⟨Y1,hY1⟩:∃W,W=w2.alloc (.cells #[.int .i64 1] 3):=⟨_,rfl⟩
 obtain ⟨Y2,hY2⟩:∃W,W=Y1.alloc (.cells #[.int .i64 (-1)] 3):=⟨_,rfl⟩
 obtain ⟨W3,hW3⟩:∃W,W=Y2.alloc (.cells #[.slice (some ⟨w2.heap.size,0,none⟩) 1 1,.slice (some ⟨w2.heap.size+1,0,none⟩) 1 1] 23):=⟨_,rfl⟩
 have zY1:Y1.heap.size=w2.heap.size+1:=by rw [hY1,World.size_alloc]
 have bY1:Below w2.heap.size w2 Y1:=by rw [hY1];exact al_up _ _
 have zY2:Y2.heap.size=w2.heap.size+1+1:=by rw [hY2,World.size_alloc,zY1]
 have bY2:Below Y1.heap.size Y1 Y2:=by rw [hY2];exact al_up _ _
 have bW3:Below Y2.heap.size Y2 W3:=by rw [hW3];exact al_up _ _
 have yY1:rdInts W3 (lt_ W3.heap.size) [1] [.slice (some ⟨w2.heap.size,0,none⟩) 1 1]:=(ints_up (ints_up (by rw [hY1];exact lit_ints w2 [1] (by decide)) bY2) bW3)
 have yY2:rdInts W3 (lt_ W3.heap.size) [-1] [.slice (some ⟨w2.heap.size+1,0,none⟩) 1 1]:=(ints_up (by rw [hY2,←zY1];exact lit_ints Y1 [-1] (by decide)) bW3)
 have yoW3:rdIss W3 (lt_ W3.heap.size) [[1],[-1]] [.slice (some ⟨w2.heap.size+1+1,0,none⟩) 2 2]:=iss_blk (cs:=#[.slice (some ⟨w2.heap.size,0,none⟩) 1 1,.slice (some ⟨w2.heap.size+1,0,none⟩) 1 1]) (by rw [←zY2,hW3];exact heap_alloc_new Y2 _) (by decide) (fun k hk=>by
  match k,hk with
  | 0,_=>exact ⟨_,_,rfl,yY1⟩
  | 1,_=>exact ⟨_,_,rfl,yY2⟩)
 have B3:=Lib.hid (bel12 C2.out (bel12 (bel12 bY1 bY2) bW3))
 have K3:=Lib.hid (U.out 1 (some ⟨w2.heap.size+1+1,0,none⟩) none 2 2 0 0 _ [] W3 yoW3 (rdRow_nil _ _))
 have M3a:=Lib.hid (ints_up RA2.out (bel12 (bel12 bY1 bY2) bW3))
 have M3b:=Lib.hid (ints_up RB.out (bel12 (bel12 bY1 bY2) bW3))
 clear yY1 yY2 yoW3 bY1 bY2 bW3 zY1 zY2 C2 RA2 RB
 subst hY2
 subst hY1
 go_wp2_with fail
 rw [←hW3]
 clear hW3
 refine K3.out.mono ?_
 rintro e w3 ⟨⟨r,ok,A3,k3,rfl,hu,q2,q3⟩,-⟩
 obtain ⟨h1,h2⟩:=unA_one hu un_ex2
 subst h1
 subst h2
 have RA3:=Lib.hid (ints_up M3a.out q3)
 have RB3:=Lib.hid (ints_up M3b.out q3)
 have C3:=Lib.hid (bel12 B3.out q3)
 clear q2 q3 K3 B3 M3a M3b hu U
 obtain ⟨Z1,hZ1⟩:∃W,W=w3.alloc (.cells #[.int .i64 1,.int .i64 2] 3):=⟨_,rfl⟩
 obtain ⟨Z2,hZ2⟩:∃W,W=Z1.alloc (.cells #[.int .i64 (-1),.int .i64 3] 3):=⟨_,rfl⟩
 have zZ1:Z1.heap.size=w3.heap.size+1:=by rw [hZ1,World.size_alloc]
 have bZ1:Below w3.heap.size w3 Z1:=by rw [hZ1];exact al_up _ _
 have zZ2:Z2.heap.size=w3.heap.size+1+1:=by rw [hZ2,World.size_alloc,zZ1]
 have bZ2:Below Z1.heap.size Z1 Z2:=by rw [hZ2];exact al_up _ _
 have yZ1:rdInts Z2 (lt_ Z2.heap.size) [1,2] [.slice (some ⟨w3.heap.size,0,none⟩) 2 2]:=(ints_up (by rw [hZ1];exact lit_ints w3 [1,2] (by decide)) bZ2)
 have yZ2:rdInts Z2 (lt_ Z2.heap.size) [-1,3] [.slice (some ⟨w3.heap.size+1,0,none⟩) 2 2]:=(by rw [hZ2,←zZ1];exact lit_ints Z1 [-1,3] (by decide))
 obtain ⟨W4,hW4⟩:∃W,W=Z2:=⟨_,rfl⟩
 have B4:=Lib.hid (bel12 C3.out (bel12 bZ1 bZ2))
 have K4:=Lib.hid (res12_any [1,2] [-1,3] 1 _ (fun _=>by rw [res_ex.1];exact T2.out) (some ⟨w3.heap.size,0,none⟩) (some ⟨w3.heap.size+1,0,none⟩) 2 2 2 2 Z2 yZ1 yZ2 (by decide) (by decide) (by decide))
 have M4a:=Lib.hid (ints_up RA3.out (bel12 bZ1 bZ2))
 have M4b:=Lib.hid (ints_up RB3.out (bel12 bZ1 bZ2))
 rw [←hW4] at B4 K4 M4a M4b
 rw [hZ2,hZ1] at hW4
 clear yZ1 yZ2 bZ1 bZ2 zZ1 zZ2 C3 RA3 RB3 hZ1 hZ2 T2
 go_wp2_with fail
 rw [←hW4]
 clear hW4
 refine K4.out.mono ?_
 rintro e w4 ⟨hq,-⟩
 obtain ⟨d,f,A4,k4,⟨hd,-⟩,rfl,q2,q3⟩:∃d f A k,(d=(srtS [2,3]).1∧f=(srtS [2,3]).2)∧e=.returned (.tuple #[.slice A (cpM none d).length k,.bool true])∧rdInts w4 (lt_ w4.heap.size) (cpM none d) [.slice A (cpM none d).length k]∧Below W4.heap.size W4 w4:=by
  rcases hq with ⟨q,-⟩|⟨-,q⟩
  ·rw [res_ex.2] at q;cases q
  ·exact q
 have e4:cpM none d=[2,3]:=by rw [hd];exact srt_ex2
 rw [e4] at q2 ⊢
 have RA4:=Lib.hid (ints_up M4a.out q3)
 have RB4:=Lib.hid (ints_up M4b.out q3)
 have RD4:=Lib.hid q2
 have C4:=Lib.hid (bel12 B4.out q3)
 clear q2 q3 K4 B4 M4a M4b hq hd e4 d f
 obtain ⟨V4,hV4⟩:∃W,W=w4.alloc (.cells #[.int .i64 1,.int .i64 (-1),.int .i64 3] 3):=⟨_,rfl⟩
 have bV:Below w4.heap.size w4 V4:=by rw [hV4];exact al_up _ _
 have KS:=Lib.hid ((SI.out _ _ _ _ _ _ [1,-1,3] [1,-1,3] V4 (ints_up RA4.out bV) (by rw [hV4];exact lit_ints w4 [1,-1,3] (by decide))).mono (fun e w' h=>(show e=.returned (.bool true)∧Below V4.heap.size V4 w' from ⟨by rw [h.1];rfl,h.2.below _⟩)))
 have CV:=Lib.hid (bel12 C4.out bV)
 have RB4v:=Lib.hid (ints_up RB4.out bV)
 have RD4v:=Lib.hid (ints_up RD4.out bV)
 clear bV RA4 C4 RB4 RD4
 go_wp2_with fail
 rw [←hV4]
 clear hV4
 refine KS.out.mono ?_
 rintro e v4 ⟨rfl,q3⟩
 have C5:=Lib.hid (bel12 CV.out q3)
 have RB4w:=Lib.hid (ints_up RB4v.out q3)
 have RD4w:=Lib.hid (ints_up RD4v.out q3)
 clear q3 KS CV RB4v RD4v
 obtain ⟨V5,hV5⟩:∃W,W=v4.alloc (.cells #[.int .i64 1,.int .i64 1,.int .i64 1] 3):=⟨_,rfl⟩
 have bV:Below v4.heap.size v4 V5:=by rw [hV5];exact al_up _ _
 have KS:=Lib.hid ((SI.out _ _ _ _ _ _ [1,1,1] [1,1,1] V5 (ints_up RB4w.out bV) (by rw [hV5];exact lit_ints v4 [1,1,1] (by decide))).mono (fun e w' h=>(show e=.returned (.bool true)∧Below V5.heap.size V5 w' from ⟨by rw [h.1];rfl,h.2.below _⟩)))
 have CV:=Lib.hid (bel12 C5.out bV)
 have RD4wv:=Lib.hid (ints_up RD4w.out bV)
 clear bV RB4w C5 RD4w
 go_wp2_with fail
 rw [←hV5]
 clear hV5
 refine KS.out.mono ?_
 rintro e v5 ⟨rfl,q3⟩
 have C6:=Lib.hid (bel12 CV.out q3)
 have RD4ww:=Lib.hid (ints_up RD4wv.out q3)
 clear q3 KS CV RD4wv
 obtain ⟨V6,hV6⟩:∃W,W=v5.alloc (.cells #[.int .i64 2,.int .i64 3] 3):=⟨_,rfl⟩
 have bV:Below v5.heap.size v5 V6:=by rw [hV6];exact al_up _ _
 have KS:=Lib.hid ((SI.out _ _ _ _ _ _ [2,3] [2,3] V6 (ints_up RD4ww.out bV) (by rw [hV6];exact lit_ints v5 [2,3] (by decide))).mono (fun e w' h=>(show e=.returned (.bool true)∧Below V6.heap.size V6 w' from ⟨by rw [h.1];rfl,h.2.below _⟩)))
 have CV:=Lib.hid (bel12 C6.out bV)
 clear bV RD4ww C6
 go_wp2_with fail
 rw [←hV6]
 clear hV6
 refine KS.out.mono ?_
 rintro e v6 ⟨rfl,q3⟩
 have C7:=Lib.hid (bel12 CV.out q3)
 clear q3 KS CV
 obtain ⟨Q1,hQ1⟩:∃W,W=v6.alloc (.cells #[.int .i64 1,.int .i64 (-2)] 3):=⟨_,rfl⟩
 obtain ⟨W7,hW7⟩:∃W,W=Q1.alloc (.cells #[.slice (some ⟨v6.heap.size,0,none⟩) 2 2] 23):=⟨_,rfl⟩
 have zQ1:Q1.heap.size=v6.heap.size+1:=by rw [hQ1,World.size_alloc]
 have bQ1:Below v6.heap.size v6 Q1:=by rw [hQ1];exact al_up _ _
 have bW7:Below Q1.heap.size Q1 W7:=by rw [hW7];exact al_up _ _
 have yQ1:rdInts W7 (lt_ W7.heap.size) [1,-2] [.slice (some ⟨v6.heap.size,0,none⟩) 2 2]:=(ints_up (by rw [hQ1];exact lit_ints v6 [1,-2] (by decide)) bW7)
 have yoW7:rdIss W7 (lt_ W7.heap.size) [[1,-2]] [.slice (some ⟨v6.heap.size+1,0,none⟩) 1 1]:=iss_blk (cs:=#[.slice (some ⟨v6.heap.size,0,none⟩) 2 2]) (by rw [←zQ1,hW7];exact heap_alloc_new Q1 _) (by decide) (fun k hk=>by
  match k,hk with
  | 0,_=>exact ⟨_,_,rfl,yQ1⟩)
 have B7:=Lib.hid (bel12 C7.out (bel12 bQ1 bW7))
 have K7:=Lib.hid (PR.out 2 (some ⟨v6.heap.size+1,0,none⟩) 1 1 _ W7 yoW7 (E.below B7.out))
 rw [pr_ex] at K7
 clear yQ1 yoW7 bQ1 bW7 zQ1 C7
 subst hQ1
 go_wp2_with fail
 rw [←hW7]
 clear hW7
 refine K7.out.mono ?_
 rintro e w7 ⟨rfl,q3⟩
 have C8:=Lib.hid (bel12 B7.out q3)
 clear q3 K7 B7
 go_wp2
 go_ret
 exact ⟨rfl,C8.out⟩
end Go.Proofs.YtgjlgdpbmhdnbaaDoor
