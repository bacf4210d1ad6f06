/- What the laws rest on: D4i, D4j, D4k. -/
import Derived.RangeFuncNested
import Derived.RangeFuncBound
import Derived.RangeFuncCalls
import Derived.RangeFuncLeaves
import Derived.Shelf.Abstract
import Derived.Shelf.RegionOpen
import Derived.TacticsInMore
import Derived.LoopNIn
import Derived.LoopIn
import Derived.Test.YtboinnjncaehkaaGreatDoorQBJZA
set_option maxRecDepth 100000
set_option linter.unusedVariables false
set_option linter.unusedSimpArgs false
namespace Go.Proofs.YtboinnjncaehkaaGreatDoor
open Go.RowKit Go.Shelf
attribute [local go_sem] Oper.semAt_some
theorem idxB_no {c:UInt8}:∀{l:List UInt8},(∀x ∈ l,x≠c)→Lib.indexByte l c=-1
 | [],_=>rfl
 | x::l,h=>by
  have hx:(x==c)=false:=by rw [beq_eq_false_iff_ne];exact h x (by simp)
  simp only [Lib.indexByte,hx,Bool.false_eq_true,if_false]
  rw [idxB_no fun y hy=>h y (by simp [hy])];rfl
theorem idxB_at {c:UInt8}:∀{a b:List UInt8},(∀x ∈ a,x≠c)→Lib.indexByte (a++c::b) c=a.length
 | [],b,_=>by simp [Lib.indexByte]
 | x::a,b,h=>by
  have hx:(x==c)=false:=by rw [beq_eq_false_iff_ne];exact h x (by simp)
  simp only [List.cons_append,Lib.indexByte,hx,Bool.false_eq_true,if_false]
  rw [idxB_at fun y hy=>h y (by simp [hy])]
  have:((a.length:Int)==-1)=false:=by rw [beq_eq_false_iff_ne];omega
  rw [this];simp
theorem cutc_no (s:ByteArray) (c:UInt8) (w:World) (hs:s.size≤65536) (E:Env w) (h:∀x ∈ B s,x≠c.toNat) :
  Calls Tryz.prog 188 #[.string s,.string { data:=#[c] }] w fun e w'=>e=.returned (.tuple #[.string s,.string { data:=#[] },.bool false])∧∃n,w'=w.drewN n:=by
 obtain ⟨m,hm⟩:=E.max
 refine (Tryz.strings_Cut s { data:=#[c] } m w (by omega) hm).mono ?_
 rintro e w' ⟨rfl,n,rfl⟩
 refine ⟨?_,n,rfl⟩
 have hi:Lib.indexByte s.data.toList c=-1:=idxB_no fun x hx hh=>h x.toNat (List.mem_map_of_mem hx) (by rw [hh])
 have e0:Lib.cut s.data.toList [c]=(s.data.toList,[],false):=by
  unfold Lib.cut;rw [Lib.index_one,if_neg (by omega)]
 show Ending.returned (.tuple #[.string ⟨(Lib.cut s.data.toList [c]).1.toArray⟩,.string ⟨(Lib.cut s.data.toList [c]).2.1.toArray⟩,.bool (Lib.cut s.data.toList [c]).2.2])=_
 rw [e0]
theorem cutc_at (s:ByteArray) (c:UInt8) (w:World) (hs:s.size≤65536) (E:Env w) {a b:List Nat} (h:B s=a++c.toNat::b) (ha:∀x ∈ a,x≠c.toNat) :
  Calls Tryz.prog 188 #[.string s,.string { data:=#[c] }] w fun e w'=>e=.returned (.tuple #[.string (mk a),.string (mk b),.bool true])∧∃n,w'=w.drewN n:=by
 obtain ⟨m,hm⟩:=E.max
 refine (Tryz.strings_Cut s { data:=#[c] } m w (by omega) hm).mono ?_
 rintro e w' ⟨rfl,n,rfl⟩
 refine ⟨?_,n,rfl⟩
 obtain ⟨a',r',e1,e2,e3⟩:∃a' r',s.data.toList=a'++r'∧a'.map UInt8.toNat=a∧r'.map UInt8.toNat=c.toNat::b:=by
  have h':s.data.toList.map UInt8.toNat=a++c.toNat::b:=h
  obtain ⟨a',r',h1,h2,h3⟩:=List.map_eq_append_iff.1 h'
  exact ⟨a',r',h1,h2,h3⟩
 obtain ⟨c',b',rfl,e4,e5⟩:=List.map_eq_cons_iff.1 e3
 have hcc:c'=c:=UInt8.toNat_inj.1 e4
 subst hcc
 have hi:Lib.indexByte s.data.toList c'=(a'.length:Int):=by
  rw [e1];exact idxB_at fun x hx hh=>ha x.toNat (by rw [←e2];exact List.mem_map_of_mem hx) (by rw [hh])
 have e0:Lib.cut s.data.toList [c']=(a',b',true):=by
  unfold Lib.cut;rw [Lib.index_one,if_pos (by omega),hi,e1]
  simp
 show Ending.returned (.tuple #[.string ⟨(Lib.cut s.data.toList [c']).1.toArray⟩,.string ⟨(Lib.cut s.data.toList [c']).2.1.toArray⟩,.bool (Lib.cut s.data.toList [c']).2.2])=_
 rw [e0,←e2,←e5]
 have key:∀l:List UInt8,(⟨l.toArray⟩:ByteArray)=mk (l.map UInt8.toNat):=fun l=>eq_mk (by unfold B;simp)
 rw [key,key]
theorem trimB_is (s:ByteArray):(⟨(Lib.trimB s.data.toList 32).toArray⟩:ByteArray)=mk (trm (B s)):=by
 refine eq_mk ?_
 have hd:∀l:List UInt8,(l.dropWhile (·==32)).map UInt8.toNat=(l.map UInt8.toNat).dropWhile (fun c=>c==32):=by
  intro l
  induction l with
  | nil=>rfl
  | cons x l ih=>
   rw [List.map_cons,List.dropWhile_cons,List.dropWhile_cons]
   have:(x==32)=(x.toNat==32):=by
    rw [Bool.eq_iff_iff,beq_iff_eq,beq_iff_eq]
    exact ⟨fun h=>by rw [h];rfl,fun h=>UInt8.toNat_inj.1 h⟩
   rw [this]
   split
   ·exact ih
   ·rfl
 unfold B Lib.trimB Lib.trimLeftB Lib.trimRightB trm trmR
 simp only [List.toList_toArray,hd,List.map_reverse]
theorem trim_any (s:ByteArray) (w:World) (hs:s.size≤65536):Calls Tryz.prog 202 #[.string s,.string { data:=#[32] }] w fun e w'=>e=.returned (.string (mk (trm (B s))))∧∃n,w'=w.drewN n:=by
 refine (Tryz.strings_Trim_one s 32 (by decide) w (by omega)).mono ?_
 rintro e w' ⟨rfl,hw⟩
 refine ⟨by rw [trimB_is],?_⟩
 rcases hw with rfl|rfl
 ·exact ⟨0,rfl⟩
 ·exact ⟨1,rfl⟩
theorem cut_cases (c:Nat):∀l:List Nat,(∀x ∈ l,x≠c)∨∃a b,l=a++c::b∧∀x ∈ a,x≠c
 | []=>.inl (by simp)
 | x::l=>by
  by_cases h:x=c
  ·exact .inr ⟨[],l,by rw [h];rfl,by simp⟩
  ·rcases cut_cases c l with h1|⟨a,b,h1,h2⟩
   ·exact .inl fun y hy=>by rcases List.mem_cons.1 hy with rfl|hy;exact h;exact h1 y hy
   ·exact .inr ⟨x::a,b,by rw [h1];rfl,fun y hy=>by rcases List.mem_cons.1 hy with rfl|hy;exact h;exact h2 y hy⟩
def msI:Value→Value→Nat
 | .string r,.bool true=>r.size+1
 | _,_=>0
def ptsL (c:Nat) (l:List Nat):List (List Nat):=(cutBy c l).map trm
theorem abides_drewN {β:Type} {B:Nat} {J:β→World→Prop} (h:AbidesFrom B J) {x:β} {W:World} (hJ:J x W) (n:Nat):J x (W.drewN n):=
 h x W (W.drewN n) none hJ ⟨rfl,rfl,rfl,Nat.le_refl _,fun _ _ _=>rfl⟩ (fun r e=>by cases e)
abbrev Pc:={ x:ByteArray // x.size≤65536 }
def pcB (x:Pc):List Nat:=B x.1
def KpM (n₀ bm:Nat):World→World→Prop:=fun W W'=>W'.heap[bm]?=W.heap[bm]?∧Below n₀ W W'
set_option maxHeartbeats 2000000 in
theorem pieces1_in (w0:World) (E:Env w0) (n:Nat) (hn:1≤n) (l bs bm:Nat) (s:ByteArray) (c:UInt8) (J Jx:List Pc→World→Prop) (hs:s.size≤65536)
  (W:World) (hJ:AbidesFrom W.heap.size J)
  (hY:∀pre x W1,J pre W1→pre.length < (ptsL c.toNat (B s)).length→YieldAt Fence.wide (n - 1) Tryz.prog l #[.string x.1] W1 fun e W'=>
   (e=.returned (.bool true)∧J (pre++[x]) W'∧KpM w0.heap.size bm W1 W')∨(e=.returned (.bool false)∧Jx (pre++[x]) W'))
  (hbs:W.cell? ⟨bs,0,none⟩=some (.string s)) (hbm:W.cell? ⟨bm,0,none⟩=some (.string { data:=#[c] })) (hW:Below w0.heap.size w0 W) (h0:J [] W) :
  CallsIn Fence.wide n Tryz.prog 201 #[.func (.yield l) #[] #[],.pointer (some ⟨bs,0,none⟩),.pointer (some ⟨bm,0,none⟩)] W fun e W'=>(∃v,e=.returned v)∧
   ((∃ys:List Pc,ys.map pcB=ptsL c.toNat (B s)∧J ys W')∨(∃pre:List Pc,pre.map pcB <+: ptsL c.toNat (B s)∧Jx pre W')):=by
 refine callsIn_of_wp Tryz.func201 rfl trivial ?_ rfl
 simp only [Tryz.ntmps201,List.size_toArray,List.length_cons,List.length_nil,Nat.reduceAdd,Nat.reduceSub,Array.replicate_succ,Array.replicate_zero,List.push_toArray,List.append_toArray,List.nil_append,List.cons_append]
 have HE:=Lib.hid E
 clear E
 gi_wp2
 gi_loopw [4,5,6] (fun r b pc wr=>∃(pre:List Pc) (rs:ByteArray) (bb:Bool),r=.string rs∧b=.bool bb∧rs.size≤65536∧(bb=true→ptsL c.toNat (B s)=pre.map pcB++ptsL c.toNat (B rs))∧(bb=false→ptsL c.toNat (B s)=pre.map pcB)∧J pre wr∧wr.cell? ⟨bm,0,none⟩=some (.string { data:=#[c] })∧Below w0.heap.size w0 wr)
  (fun r b _ _=>msI r b)
 case atStart=>
  exact ⟨[],s,true,rfl,rfl,hs,fun _=>rfl,(fun h=>by cases h),h0,hbm,hW⟩
 case round=>
  obtain ⟨pre,rs,bb,rfl,rfl,hrs,hP,hQ,hJs,hm,hbel⟩:=hrel
  have hE:=HE.out.below hbel
  cases bb with
  | false=>
   have X:=Lib.hid (hQ rfl)
   clear hP hQ
   gi_wp2
   go_end0
   exact ⟨⟨_,rfl⟩,.inl ⟨pre,X.out.symm,hJs⟩⟩
  | true=>
   have HP:=Lib.hid (hP rfl)
   clear hP hQ
   rcases cut_cases c.toNat (B rs) with hc|⟨a,b,hab,ha⟩
   ·have zt:(mk (trm (B rs))).size≤65536:=by rw [size_mk];have:=trm_len (B rs);rw [B_len] at this;omega
    have et:B (mk (trm (B rs)))=trm (B rs):=B_mk fun x hx=>B_lt rs x (trm_mem hx)
    have X:ptsL c.toNat (B s)=(pre++[(⟨mk (trm (B rs)),zt⟩:Pc)]).map pcB:=by rw [HP.out];unfold ptsL;rw [cutBy_none hc,List.map_append];simp only [List.map_cons,List.map_nil,pcB,et]
    have HX:=Lib.hid X
    have hlen:pre.length < (ptsL c.toNat (B s)).length:=by rw [X,List.length_map,List.length_append,List.length_singleton];omega
    have K:=Lib.hid (cutc_no rs c wr hrs hE hc)
    have KT:=Lib.hid (fun w=>trim_any rs w hrs)
    clear X hc HP et
    generalize mk (trm (B rs))=st at *
    gi_wp2_with fail
    refine ⟨trivial,?_⟩
    refine (callsIn_wide.2 K.out).mono ?_
    rintro e w1 ⟨rfl,q1,rfl⟩
    gi_wp2_with fail
    refine ⟨trivial,?_⟩
    refine (callsIn_wide.2 (KT.out _)).mono ?_
    rintro e w2 ⟨rfl,q2,rfl⟩
    obtain ⟨fn,tmps,assign,body,hy,hR⟩:=hY pre ⟨st,zt⟩ (wr.drewN (q1+q2)) (abides_drewN hJ hJs _) hlen
    gi_wp2
    refine hR.mono ?_
    rintro e W3 (⟨rfl,hJ3,hk3⟩|⟨rfl,hJx3⟩)
    ·have hm3:W3.cell? ⟨bm,0,none⟩=some (.string { data:=#[c] }):=(World.cell?_of_block (w:=wr) hk3.1).trans hm
     have hE3:=(belD hbel (q1+q2)).trans hk3.2
     gi_wp2
     go_roundw
     case rel=>exact ⟨_,{ data:=#[] },false,rfl,rfl,by decide,(fun h=>by cases h),fun _=>HX.out,hJ3,hm3,hE3⟩
     case measure=>simp [msI]
    ·gi_wp2
     refine bodyPost_ret (results_none rfl _ _ _) rfl ?_
     exact ⟨⟨_,rfl⟩,.inr ⟨_,by rw [HX.out];exact List.prefix_rfl,hJx3⟩⟩
   ·have hc256:∀x ∈ B rs,x < 256:=B_lt rs
    have ha256:∀x ∈ a,x < 256:=fun x hx=>hc256 x (by rw [hab];simp [hx])
    have hb256:∀x ∈ b,x < 256:=fun x hx=>hc256 x (by rw [hab];simp [hx])
    have zt:(mk (trm a)).size≤65536:=by rw [size_mk];have:=trm_len a;have:=congrArg List.length hab;rw [B_len,List.length_append] at this;omega
    have et:B (mk (trm a))=trm a:=B_mk fun x hx=>ha256 x (trm_mem hx)
    have X:ptsL c.toNat (B s)=(pre++[(⟨mk (trm a),zt⟩:Pc)]).map pcB++ptsL c.toNat b:=by rw [HP.out];unfold ptsL;rw [hab,cutBy_at ha,List.map_append];simp only [List.map_cons,List.map_nil,pcB,et,List.append_assoc,List.singleton_append]
    have HX:=Lib.hid X
    have hlen:pre.length < (ptsL c.toNat (B s)).length:=by rw [X,List.length_append,List.length_map,List.length_append,List.length_singleton];omega
    have K:=Lib.hid (cutc_at rs c wr hrs hE hab ha)
    have hl:=congrArg List.length hab
    rw [B_len,List.length_append,List.length_cons] at hl
    have ea:B (mk a)=a:=B_mk ha256
    have eb:B (mk b)=b:=B_mk hb256
    have za:(mk a).size≤65536:=by rw [size_mk];omega
    have zb:(mk b).size≤65536:=by rw [size_mk];omega
    have zm:(mk b).size < rs.size:=by rw [size_mk];omega
    have KT:=Lib.hid (fun w=>trim_any (mk a) w za)
    rw [ea] at KT
    rw [←eb] at HX
    generalize mk a=sa at *
    generalize mk b=sb at *
    clear X hab ha HP hl ea eb hc256 ha256 hb256 za et
    generalize mk (trm a)=st at *
    gi_wp2_with fail
    refine ⟨trivial,?_⟩
    refine (callsIn_wide.2 K.out).mono ?_
    rintro e w1 ⟨rfl,q1,rfl⟩
    gi_wp2_with fail
    refine ⟨trivial,?_⟩
    refine (callsIn_wide.2 (KT.out _)).mono ?_
    rintro e w2 ⟨rfl,q2,rfl⟩
    obtain ⟨fn,tmps,assign,body,hy,hR⟩:=hY pre ⟨st,zt⟩ (wr.drewN (q1+q2)) (abides_drewN hJ hJs _) hlen
    gi_wp2
    refine hR.mono ?_
    rintro e W3 (⟨rfl,hJ3,hk3⟩|⟨rfl,hJx3⟩)
    ·have hm3:W3.cell? ⟨bm,0,none⟩=some (.string { data:=#[c] }):=(World.cell?_of_block (w:=wr) hk3.1).trans hm
     have hE3:=(belD hbel (q1+q2)).trans hk3.2
     gi_wp2
     go_roundw
     case rel=>exact ⟨_,sb,true,rfl,rfl,zb,(fun _=>HX.out),(fun h=>by cases h),hJ3,hm3,hE3⟩
     case measure=>simp [msI];omega
    ·gi_wp2
     refine bodyPost_ret (results_none rfl _ _ _) rfl ?_
     exact ⟨⟨_,rfl⟩,.inr ⟨_,by rw [HX.out];exact List.prefix_append _ _,hJx3⟩⟩
theorem pieces_stops (w0:World) (E:Env w0) (n:Nat) (hn:1≤n) (bs bm:Nat) (s:ByteArray) (c:UInt8) (hs:s.size≤65536) (w:World) (hw:Below w0.heap.size w0 w)
  (hbs:w.cell? ⟨bs,0,none⟩=some (.string s)) (hbm:w.cell? ⟨bm,0,none⟩=some (.string { data:=#[c] })) :
  SeqStopsK Fence.wide n Tryz.prog 201 #[.pointer (some ⟨bs,0,none⟩),.pointer (some ⟨bm,0,none⟩)] (fun x:Pc=>#[Value.string x.1]) (KpM w0.heap.size bm) (fun ys=>ys.map pcB=ptsL c.toNat (B s)) (fun pre=>pre.map pcB <+: ptsL c.toNat (B s)) (ptsL c.toNat (B s)).length w:=
 fun l J Jx W hW hJ _ hY h0=>pieces1_in w0 E n hn l bs bm s c J Jx hs W hJ hY ((hW.cell (World.block_lt_of_cell? _ _ hbs)).trans hbs) ((hW.cell (World.block_lt_of_cell? _ _ hbm)).trans hbm) (hw.trans (hW.mono hw.size)) h0
theorem kpM_t {n₀ bm:Nat} {A B C:World} (h:KpM n₀ bm A B) (k:KpM n₀ bm B C):KpM n₀ bm A C:=⟨k.1.trans h.1,h.2.trans k.2⟩
theorem kpM_b {n₀ bm:Nat} {w:World} (hn:n₀≤w.heap.size) (hb:bm < w.heap.size) (W:World) (l:Nat) (o o':Obj) (hl:w.heap.size≤l) (h:W.heap[l]?=some o) (h1:o.isCells=false) (h2:o.isWalk=false):KpM n₀ bm W (W.putObj l o'):=
 ⟨World.putObj_heap_other (by omega),belowK_b hn W l o o' hl h h1 h2⟩
theorem pieces_any (s mark:ByteArray) (w:World):Calls Tryz.prog 166 #[.string s,.string mark] w fun e w'=>
  e=.returned (.func (.func 201) #[] #[.pointer (some ⟨w.heap.size,0,none⟩),.pointer (some ⟨w.heap.size+1,0,none⟩)])∧w'=(w.alloc (.cells #[.string s] 9)).alloc (.cells #[.string mark] 9):=by
 go_enter Tryz.func166,Tryz.ntmps166
 go_wp2
 go_ret
 exact ⟨by simp,rfl⟩
attribute [local go_sem] Oper.semAt_some
theorem count_is (s:ByteArray) (c:UInt8):Lib.countByte s.data.toList c=(B s).count c.toNat:=by
 unfold Lib.countByte B
 generalize s.data.toList=l
 induction l with
 | nil=>rfl
 | cons x l ih=>
  rw [List.map_cons]
  by_cases h:x=c
  ·subst h;rw [List.count_cons_self,List.count_cons_self,ih]
  ·have h2:x.toNat≠c.toNat:=fun hh=>h (UInt8.toNat_inj.1 hh)
   rw [List.count_cons_of_ne h,List.count_cons_of_ne h2,ih]
theorem count_any (s:ByteArray) (c:UInt8) (w:World):Calls Tryz.prog 195 #[.string s,.string { data:=#[c] }] w fun e w'=>e=.returned (.int .i64 ((B s).count c.toNat:Nat))∧w'=w:=by
 refine (Tryz.strings_Count_one s c w).mono ?_
 rintro e w' ⟨rfl,rfl⟩
 exact ⟨by rw [count_is],rfl⟩
def over (p:List Nat):Bool:=decide (6≤p.count 124)
theorem over_is (p:List Nat):over (trm p)=decide (6 < (grpT p).length):=by
 unfold over
 rw [decide_eq_decide,←grpT_trm]
 unfold grpT
 rw [List.length_map,cutBy_len];omega
theorem many_is (s:List Nat):manyF (fld s)=(decide (12≤s.count 44)||(ptsL 44 s).any over):=by
 unfold manyF fld ptsL
 rw [List.any_map,List.any_map,List.length_map,cutBy_len]
 congr 1
 ·rw [decide_eq_decide];omega
 ·congr 1
  funext p
  exact (over_is p).symm
set_option maxHeartbeats 2000000 in
theorem tooMany_any (s:ByteArray) (w:World) (hs:s.size≤65536) (E:Env w) :
  Calls Tryz.prog 165 #[.string s] w fun e w'=>e=.returned (.bool (manyF (fld (B s))))∧Below w.heap.size w w':=by
 have HE:=Lib.hid E
 have KC:=Lib.hid (fun w=>count_any s 44 w)
 have hcl:=List.count_le_length (a:=44) (l:=B s)
 rw [B_len] at hcl
 clear E
 refine (callsIn_wide (n:=5)).1 ?_
 refine callsIn_of_wp_marks Tryz.func165 rfl trivial ?_ rfl
 simp only [Tryz.ntmps165,List.size_toArray,List.length_cons,List.length_nil,Nat.reduceAdd,Nat.reduceSub,Array.replicate_succ,Array.replicate_zero,List.push_toArray,List.append_toArray,List.nil_append,List.cons_append]
 by_cases h12:12≤(B s).count 44
 ·have X:=Lib.hid (show manyF (fld (B s))=true by rw [many_is,decide_eq_true h12];rfl)
  have h12':(12:Int)≤((B s).count 44:Nat):=by omega
  gi_wp2_with fail
  refine ⟨trivial,?_⟩
  refine (callsIn_wide.2 (KC.out _)).mono ?_
  rintro e w1 ⟨rfl,rfl⟩
  gi_wp2
  refine ⟨.bool true,?_,by rw [X.out],(Below.refl _ _).alloc (Nat.le_refl _) _⟩
  simp [results,Tryz.f165,go_sem]
 ·have h12':¬(12:Int)≤((B s).count 44:Nat):=by omega
  have X:=Lib.hid (show manyF (fld (B s))=(ptsL 44 (B s)).any over by rw [many_is,decide_eq_false h12];rfl)
  gi_wp2_with fail
  refine ⟨trivial,?_⟩
  refine (callsIn_wide.2 (KC.out _)).mono ?_
  rintro e w1 ⟨rfl,rfl⟩
  gi_wp2_with fail
  refine ⟨trivial,?_⟩
  refine (callsIn_wide.2 (pieces_any _ _ _)).mono ?_
  rintro e w2 ⟨rfl,rfl⟩
  obtain ⟨W0,hW0⟩:∃W0,((w.alloc (.cells #[.bool false] 4)).alloc (.cells #[.string s] 9)).alloc (.cells #[.string { data:=#[44] }] 9)=W0:=⟨_,rfl⟩
  have c0:W0.cell? ⟨w.heap.size,0,none⟩=some (.bool false):=by rw [←hW0];simp [go_sem]
  have f0:W0.frozen? ⟨w.heap.size,0,none⟩=false:=by rw [←hW0];simp [go_sem]
  have c1:W0.cell? ⟨w.heap.size+1,0,none⟩=some (.string s):=by rw [←hW0];simp [go_sem]
  have c2:W0.cell? ⟨w.heap.size+2,0,none⟩=some (.string { data:=#[44] }):=by rw [←hW0];simp [go_sem]
  have z0:W0.heap.size=w.heap.size+3:=by rw [←hW0];simp
  have hB0:Below w.heap.size w W0:=by rw [←hW0];exact (((Below.refl _ w).alloc (Nat.le_refl _) _).alloc (by simp) _).alloc (by simp;omega) _
  simp only [World.size_alloc] at *
  rw [hW0]
  clear hW0
  have Z0:=Lib.hid z0
  have zz:=hB0.size
  have hbm:w.heap.size+1+1 < W0.heap.size:=by omega
  clear z0
  gi_wp2
  refine wpIn_rangeFunc_ownG rfl (by omega) (gf:=201) (lb:=#[.pointer (some ⟨w.heap.size+1,0,none⟩),.pointer (some ⟨w.heap.size+1+1,0,none⟩)]) rfl trivial (enters_of Tryz.func201 (by kernel_rfl) rfl)
   (pieces_stops w HE.out _ (by omega) (w.heap.size+1) (w.heap.size+1+1) s 44 hs W0 hB0 c1 c2) kpM_t (kpM_b zz hbm) (Below.refl _ _) (fun _=>rfl)
   (fun pre W=>((pre.map pcB).any over=false∧W.cell? ⟨w.heap.size,0,none⟩=some (.bool false)∧W.frozen? ⟨w.heap.size,0,none⟩=false)∧Below w.heap.size w W)
   (fun c pre W=>(c=.ret∧(pre.map pcB).any over=true∧W.cell? ⟨w.heap.size,0,none⟩=some (.bool true))∧Below w.heap.size w W)
   (OwnFrom.and (Own.from (fun s A B row hs hg hr=>⟨hs.1,cell_kept hs.2.1 hg hr,(frozen_kept hs.2.1 hg hr).trans hs.2.2⟩) _) (ownFrom_below (Nat.le_refl _) zz))
   (fun c=>OwnFrom.and (Own.from (fun s A B row hs hg hr=>⟨hs.1,hs.2.1,cell_kept hs.2.2 hg hr⟩) _) (ownFrom_below (Nat.le_refl _) zz))
   ⟨⟨rfl,c0,f0⟩,hB0⟩
   (fun x=>{ tmps:=#[.string s,undef,.pointer (some ⟨w.heap.size,0,none⟩),.string x.1,.string s,.int .i64 ((B s).count 44:Nat),.bool (decide ((12:Int)≤((B s).count 44:Nat))),.string s,.func (.func 201) #[] #[.pointer (some ⟨w.heap.size+1,0,none⟩),.pointer (some ⟨w.heap.size+1+1,0,none⟩)],.string x.1,undef,undef,undef],defers:=[] }) ?assign ?body ?done ?stop
  case assign=>
   intro l x W K hK
   gi_wp2
   exact hK
  case body=>
   rintro l pre x W ⟨⟨hp,hc,hf⟩,hB⟩ _
   have K:=Lib.hid (fun w=>count_any x.1 124 w)
   have hov:over (pcB x)=decide (6≤(B x.1).count 124):=rfl
   gi_wp2_with fail
   refine ⟨trivial,?_⟩
   refine (CallsIn.inRound l (callsIn_wide.2 (K.out _))).mono ?_
   rintro e w' ⟨rfl,rfl⟩
   by_cases h6:6≤(B x.1).count 124
   ·have h6':(6:Int)≤((B x.1).count 124:Nat):=by omega
    rw [decide_eq_true h6] at hov
    gi_wp2
    exact ⟨(KeepsOthers.setCell _ _ _).from _,⟨rfl,by rw [List.map_append,List.any_append,List.map_singleton];simp [hov],World.cell?_setCell_same' _ _ _ (by rw [hc];rfl)⟩,hB.setCell (p:=⟨w.heap.size,0,none⟩) (by simp) _⟩
   ·have h6':¬(6:Int)≤((B x.1).count 124:Nat):=by omega
    rw [decide_eq_false h6] at hov
    gi_wp2
    exact ⟨KeepsFrom.refl _ _,⟨rfl,Below.refl _ _⟩,⟨by rw [List.map_append,List.any_append,List.map_singleton,hp];simp [hov],hc,hf⟩,hB⟩
  case done=>
   rintro D ys W hD hS ⟨⟨hp,hc,hf⟩,hB⟩ hK
   have X2:=Lib.hid (show manyF (fld (B s))=false from X.out.trans (by rw [show ptsL 44 (B s)=ys.map pcB from hS.symm];exact hp))
   gi_wp2
   have hK':=(KeepsOthers.setCell W ⟨w.heap.size,0,none⟩ (.bool false)).same D _ hK rfl
   refine ⟨by simp,.inl ⟨_,_,rfl,run_takeDeferred hK',?_⟩⟩
   have hc5:=cell_kept (World.cell?_setCell_same' W ⟨w.heap.size,0,none⟩ (.bool false) (by rw [hc];rfl)) (grownBy_putObj' _ D (.deferred none)) (fun r e=>by cases e;exact ⟨_,hK',rfl⟩)
   refine ⟨.bool false,?_,by rw [X2.out],(hB.setCell (p:=⟨w.heap.size,0,none⟩) (by simp) _).trans (belowK_b (w:=w) (Nat.le_refl _) _ D _ _ (by omega) hK' rfl rfl)⟩
   simp [results,Tryz.f165,go_sem,hc5]
  case stop=>
   rintro D c pre W hD hpre ⟨⟨rfl,hin,hc⟩,hB⟩ hK
   have X2:=Lib.hid (X.out.trans (show (ptsL 44 (B s)).any over=true by
    rw [List.any_eq_true] at hin ⊢
    obtain ⟨y,hy,ho⟩:=hin
    exact ⟨y,hpre.subset hy,ho⟩))
   gi_wp2
   refine ⟨by simp,.inl ⟨_,_,rfl,run_takeDeferred hK,?_⟩⟩
   have hc5:=cell_kept hc (grownBy_putObj' _ D (.deferred none)) (fun r e=>by cases e;exact ⟨_,hK,rfl⟩)
   refine ⟨.bool true,?_,by rw [X2.out],hB.trans (belowK_b (w:=w) (Nat.le_refl _) W D _ _ (by omega) hK rfl rfl)⟩
   simp [results,Tryz.f165,go_sem,hc5]
attribute [local go_sem] Oper.semAt_some
theorem cell_al {w:World} {p:Addr} {v:Value} (o:Obj) (h:w.cell? p=some v):(w.alloc o).cell? p=some v:=(((Below.refl w.heap.size w).alloc (Nat.le_refl _) o).cell (World.block_lt_of_cell? _ _ h)).trans h
theorem fr_al {w:World} {p:Addr} {v:Value} (o:Obj) (h:w.cell? p=some v) (hf:w.frozen? p=false):(w.alloc o).frozen? p=false:=(((Below.refl w.heap.size w).alloc (Nat.le_refl _) o).frozen (World.block_lt_of_cell? _ _ h)).trans hf
theorem keeps_below {W W':World} (h:Below W.heap.size W W'):KeepsOthers W W':=⟨h.size,fun k o hk _=>(h.block k (Array.getElem?_eq_some_iff.1 hk).1).trans hk⟩
theorem keeps_grow {α:Type} {E:Rd α} {sz:Nat} {T:Nat→Prop} {W w':World} {base:Nat} {e:TypeId} {v:Value} {l:List α} (hG:Grow E sz T W base e v l) (hg:W.grownBy w' v.ownBlock):KeepsOthers W w':=by
 refine ⟨hg.size,fun k o hk ho=>(hg.block k (Array.getElem?_eq_some_iff.1 hk).1 fun hh=>?_).trans hk⟩
 obtain ⟨css,hl,hown,_⟩:=hG
 rcases hown.2 with ⟨rfl,_⟩|⟨gb,cap,cur,rfl,hb,hgg,_⟩
 ·simp [Value.ownBlock] at hh
 ·simp only [Value.ownBlock,Option.some.injEq] at hh
  subst hh
  rw [hgg] at hk
  injection hk with hk
  subst hk
  cases ho
theorem atm_info:(Tryz.prog.info? 109).map (fun i=>(i.zero,i.size,i.bytes))=some (some (.agg #[.string { data:=#[] },.int .i64 0,.string { data:=#[] }]),3,40):=by kernel_rfl
theorem rparse_atm (s:ByteArray) (w:World) (hs:s.size≤65536) (E:EnvR w):Calls Tryz.prog 203 #[.string s] w fun e w'=>e=.returned (.tuple #[.agg #[.string (atmOf (B s)).n,.int .i64 (atmOf (B s)).o,.string (atmOf (B s)).v],.int .i64 (relE (B s))])∧Below w.heap.size w w':=rparse_any s w hs E
theorem grp_snoc (l:List (List Nat)) (x:List Nat):errF (l++[x])=if errF l=0 then relE x else errF l:=by
 rw [errF_app]
 have:errF [x]=relE x:=by unfold errF;split;rename_i h;rw [h];rfl;rfl
 rw [this]
theorem errF_prefix {p l:List (List Nat)} (h:p <+: l) (he:errF p≠0):errF l=errF p:=by
 obtain ⟨r,rfl⟩:=h
 rw [errF_app,if_neg he]
def grpL (s:List Nat):List Atm:=if errF (grpT s)=0 then (grpT s).map atmOf else []
set_option maxHeartbeats 4000000 in
theorem parseGroup_any (s:ByteArray) (w:World) (hs:s.size≤65536) (E:EnvR w) :
  Calls Tryz.prog 167 #[.string s] w fun e w'=>(∃v,e=.returned (.tuple #[v,.int .i64 (errF (grpT (B s)))])∧rdAtms w' (fun b=>b < w'.heap.size∧w.heap.size≤b) (grpL (B s)) [v])∧Below w.heap.size w w':=by
 obtain ⟨i0,hi,hz0,hz1,hz2⟩:=info_parts atm_info
 have hpl:(ptsL 124 (B s)).length≤65537:=by
  unfold ptsL
  rw [List.length_map,cutBy_len]
  have:=List.count_le_length (a:=124) (l:=B s)
  rw [B_len] at this;omega
 have HE:=Lib.hid E
 clear E
 refine (callsIn_wide (n:=5)).1 ?_
 refine callsIn_of_wp_marks Tryz.func167 rfl trivial ?_ rfl
 simp only [Tryz.ntmps167,List.size_toArray,List.length_cons,List.length_nil,Nat.reduceAdd,Nat.reduceSub,Array.replicate_succ,Array.replicate_zero,List.push_toArray,List.append_toArray,List.nil_append,List.cons_append]
 gi_wp2_with fail
 refine ⟨trivial,?_⟩
 refine (callsIn_wide.2 (pieces_any _ _ _)).mono ?_
 rintro e w2 ⟨rfl,rfl⟩
 obtain ⟨W0,hW0⟩:∃W0,((((w.alloc (.cells #[.slice none 0 0] 71)).alloc (.cells #[.int .i64 0] 24)).alloc (.cells #[.slice none 0 0] 71)).alloc (.cells #[.string s] 9)).alloc (.cells #[.string { data:=#[124] }] 9)=W0:=⟨_,rfl⟩
 have c0:W0.cell? ⟨w.heap.size,0,none⟩=some (.slice none 0 0):=by rw [←hW0];simp [go_sem]
 have f0:W0.frozen? ⟨w.heap.size,0,none⟩=false:=by rw [←hW0];simp [go_sem]
 have c1:W0.cell? ⟨w.heap.size+1,0,none⟩=some (.int .i64 0):=by rw [←hW0];simp [go_sem]
 have f1:W0.frozen? ⟨w.heap.size+1,0,none⟩=false:=by rw [←hW0];simp [go_sem]
 have c2:W0.cell? ⟨w.heap.size+1+1,0,none⟩=some (.slice none 0 0):=by rw [←hW0];simp [go_sem]
 have f2:W0.frozen? ⟨w.heap.size+1+1,0,none⟩=false:=by rw [←hW0];simp [go_sem]
 have c3:W0.cell? ⟨w.heap.size+1+1+1,0,none⟩=some (.string s):=by rw [←hW0];simp [go_sem]
 have c4:W0.cell? ⟨w.heap.size+1+1+1+1,0,none⟩=some (.string { data:=#[124] }):=by rw [←hW0];simp [go_sem]
 have z0:W0.heap.size=w.heap.size+5:=by rw [←hW0];simp
 have hB0:Below w.heap.size w W0:=by rw [←hW0];exact (((((Below.refl _ w).alloc (Nat.le_refl _) _).alloc (by simp) _).alloc (by simp;omega) _).alloc (by simp;omega) _).alloc (by simp;omega) _
 simp only [World.size_alloc]
 rw [hW0]
 clear hW0
 have Z0:=Lib.hid z0
 have zz:=hB0.size
 have hbm:w.heap.size+1+1+1+1 < W0.heap.size:=by omega
 clear z0
 gi_wp2
 refine wpIn_rangeFunc_ownG rfl (by omega) (gf:=201) (lb:=#[.pointer (some ⟨w.heap.size+1+1+1,0,none⟩),.pointer (some ⟨w.heap.size+1+1+1+1,0,none⟩)]) rfl trivial (enters_of Tryz.func201 (by kernel_rfl) rfl)
  (pieces_stops w HE.out.env _ (by omega) (w.heap.size+1+1+1) (w.heap.size+1+1+1+1) s 124 hs W0 hB0 c3 c4) kpM_t (kpM_b zz hbm) (Below.refl _ _) (fun _=>rfl)
  (fun pre W=>((∃v,W.cell? ⟨w.heap.size+1+1,0,none⟩=some v∧W.frozen? ⟨w.heap.size+1+1,0,none⟩=false∧Grow rdAtm 3 (fun b=>W0.heap.size≤b) W W0.heap.size 109 v ((pre.map pcB).map atmOf))∧(errF (pre.map pcB)=0∧
   W.cell? ⟨w.heap.size,0,none⟩=some (.slice none 0 0)∧W.frozen? ⟨w.heap.size,0,none⟩=false∧W.cell? ⟨w.heap.size+1,0,none⟩=some (.int .i64 0)∧W.frozen? ⟨w.heap.size+1,0,none⟩=false∧W0.heap.size≤W.heap.size))∧Below w.heap.size w W)
  (fun c pre W=>(c=.ret∧errF (pre.map pcB)≠0∧W.cell? ⟨w.heap.size,0,none⟩=some (.slice none 0 0)∧W.cell? ⟨w.heap.size+1,0,none⟩=some (.int .i64 (errF (pre.map pcB))))∧Below w.heap.size w W)
  (OwnFrom.and (Own.from (fun s A B row hs hg hr=>⟨by obtain ⟨⟨v,h1,h2,h3⟩,_⟩:=hs;exact ⟨v,cell_kept h1 hg hr,(frozen_kept h1 hg hr).trans h2,h3.turn rdAtm_good hg hr⟩,hs.2.1,cell_kept hs.2.2.1 hg hr,(frozen_kept hs.2.2.1 hg hr).trans hs.2.2.2.1,cell_kept hs.2.2.2.2.1 hg hr,(frozen_kept hs.2.2.2.2.1 hg hr).trans hs.2.2.2.2.2.1,Nat.le_trans hs.2.2.2.2.2.2 hg.size⟩) _) (ownFrom_below (Nat.le_refl _) zz))
  (fun c=>OwnFrom.and (Own.from (fun s A B row hs hg hr=>⟨hs.1,hs.2.1,cell_kept hs.2.2.1 hg hr,cell_kept hs.2.2.2 hg hr⟩) _) (ownFrom_below (Nat.le_refl _) zz))
  ⟨⟨⟨_,c2,f2,Grow.nil _ _ _ _⟩,rfl,c0,f0,c1,f1,Nat.le_refl _⟩,hB0⟩
  (fun x=>{ tmps:=#[.string s,undef,.pointer (some ⟨w.heap.size,0,none⟩),.pointer (some ⟨w.heap.size+1,0,none⟩),.pointer (some ⟨w.heap.size+1+1,0,none⟩),.string x.1,undef,undef,.string s,.func (.func 201) #[] #[.pointer (some ⟨w.heap.size+1+1+1,0,none⟩),.pointer (some ⟨w.heap.size+1+1+1+1,0,none⟩)],.string x.1,undef,undef,undef,undef,undef,undef,undef,undef,undef,undef,undef,undef,undef],defers:=[] }) ?assign ?body ?done ?stop
 case assign=>
  intro l x W K hK
  gi_wp2
  exact hK
 case body=>
  rintro l pre x W ⟨⟨⟨v,hv,hvf,hG⟩,hp,hc0,hf0,hc1,hf1,hsz⟩,hB⟩ hlen
  have K:=Lib.hid (rparse_atm x.1 W x.2 (HE.out.below hB))
  have hsn:=grp_snoc (pre.map pcB) (pcB x)
  rw [if_pos hp] at hsn
  have HSN:=Lib.hid hsn
  have HP:=Lib.hid hp
  have HG:=Lib.hid hG
  have HB:=Lib.hid hB
  clear hsn hp hB
  have hln:pre.length≤65537:=Nat.le_trans (Nat.le_of_lt hlen) hpl
  obtain ⟨a,ha⟩:∃a,a=atmOf (B x.1):=⟨_,rfl⟩
  have HA:=Lib.hid ha
  rw [←ha] at K
  clear ha
  obtain ⟨ee,he⟩:∃ee,ee=relE (B x.1):=⟨_,rfl⟩
  have HEE:=Lib.hid he
  rw [←he] at K
  clear he
  by_cases h0:ee=0
  ·have hq:(ee != 0)=false:=by rw [h0];rfl
   have H0:=Lib.hid h0
   clear h0
   gi_wp2_with fail
   refine ⟨trivial,?_⟩
   refine (CallsIn.inRound l (callsIn_wide.2 K.out)).mono ?_
   rintro e W1 ⟨rfl,hb1⟩
   have hz1':=hb1.size
   have hzW:=HB.out.size
   have hlt0:=World.block_lt_of_cell? _ _ hc0
   have hlt1:=World.block_lt_of_cell? _ _ hc1
   have hlt2:=World.block_lt_of_cell? _ _ hv
   have d0:=cell_al (.cells #[.string a.n,.int .i64 a.o,.string a.v] 109) ((hb1.cell hlt0).trans hc0)
   have d1:=cell_al (.cells #[.string a.n,.int .i64 a.o,.string a.v] 109) ((hb1.cell hlt1).trans hc1)
   have d2:=cell_al (.cells #[.string a.n,.int .i64 a.o,.string a.v] 109) ((hb1.cell hlt2).trans hv)
   have g0:=fr_al (.cells #[.string a.n,.int .i64 a.o,.string a.v] 109) ((hb1.cell hlt0).trans hc0) ((hb1.frozen (p:=⟨w.heap.size,0,none⟩) hlt0).trans hf0)
   have g1:=fr_al (.cells #[.string a.n,.int .i64 a.o,.string a.v] 109) ((hb1.cell hlt1).trans hc1) ((hb1.frozen (p:=⟨w.heap.size+1,0,none⟩) hlt1).trans hf1)
   have g2:=fr_al (.cells #[.string a.n,.int .i64 a.o,.string a.v] 109) ((hb1.cell hlt2).trans hv) ((hb1.frozen (p:=⟨w.heap.size+1+1,0,none⟩) hlt2).trans hvf)
   have HB1:=Lib.hid hb1
   clear hc0 hc1 hf0 hf1 hv hvf hlt0 hlt1 hlt2
   have hG2:=(hG.below rdAtm_good hb1).alloc rdAtm_good (.cells #[.string a.n,.int .i64 a.o,.string a.v] 109)
   have hE:=(show rdAtm (W1.alloc (.cells #[.string a.n,.int .i64 a.o,.string a.v] 109)) (fun b=>W0.heap.size≤b∧b < (W1.alloc (.cells #[.string a.n,.int .i64 a.o,.string a.v] 109)).heap.size∧v.ownBlock≠some b) a (#[Value.string a.n,.int .i64 a.o,.string a.v]:Array Value).toList from rfl)
   have hn1:((pre.map pcB).map atmOf).length+1≤maxLen:=by rw [List.length_map,List.length_map];unfold maxLen;omega
   have hn2:(((pre.map pcB).map atmOf).length+1)*40≤140737488355328:=by rw [List.length_map,List.length_map];omega
   have hbs:W0.heap.size≤(W1.alloc (.cells #[.string a.n,.int .i64 a.o,.string a.v] 109)).heap.size:=by rw [World.size_alloc];omega
   have HN:=Lib.hid (World.size_alloc W1 (.cells #[.string a.n,.int .i64 a.o,.string a.v] 109)).symm
   clear hG hb1
   gi_wp2_with (gi_at_builtin;refine wpListIn_grow1 (W1.alloc (.cells #[.string a.n,.int .i64 a.o,.string a.v] 109)) rfl _ _ 71 rfl rdAtm_good (by decide) (fun b=>W0.heap.size≤b) W0.heap.size 109 i0 _ 40 Tryz.underlying71 hi hz0 hz1 hz2 rfl v _ rfl hG2 a _ 109 hE _ HN.out rfl hn1 hn2 hbs ?_)
   intro v' w' hG' hgr
   have e0:=(World.cell?_of_block (a:=⟨w.heap.size,0,none⟩) (heap_grow hG2 hgr (k:=w.heap.size) (by omega) hbs)).trans d0
   have e1:=(World.cell?_of_block (a:=⟨w.heap.size+1,0,none⟩) (heap_grow hG2 hgr (k:=w.heap.size+1) (by omega) hbs)).trans d1
   have e2:=(World.cell?_of_block (a:=⟨w.heap.size+1+1,0,none⟩) (heap_grow hG2 hgr (k:=w.heap.size+1+1) (by omega) hbs)).trans d2
   have j0:=(World.frozen?_of_block (a:=⟨w.heap.size,0,none⟩) (heap_grow hG2 hgr (k:=w.heap.size) (by omega) hbs)).trans g0
   have j1:=(World.frozen?_of_block (a:=⟨w.heap.size+1,0,none⟩) (heap_grow hG2 hgr (k:=w.heap.size+1) (by omega) hbs)).trans g1
   have j2:=(World.frozen?_of_block (a:=⟨w.heap.size+1+1,0,none⟩) (heap_grow hG2 hgr (k:=w.heap.size+1+1) (by omega) hbs)).trans g2
   have hM:=(heap_grow hG2 hgr (k:=w.heap.size+1+1+1+1) (by omega) hbs)
   have KO:=Lib.hid (((keeps_below HB1.out).trans (KeepsOthers.alloc _ _)).trans (keeps_grow hG2 hgr))
   have BB:=Lib.hid (grow_below hG2 hgr ((bel2 HB.out HB1.out (Nat.le_refl _)).alloc (by omega) (.cells #[.string a.n,.int .i64 a.o,.string a.v] 109)) zz (by rw [World.size_alloc];omega))
   have SZ:=Lib.hid hgr.size
   have BB2:=Lib.hid (grow_below hG2 hgr (Below.refl w.heap.size (W1.alloc (.cells #[.string a.n,.int .i64 a.o,.string a.v] 109))) zz (by rw [World.size_alloc];omega))
   have GG:=Lib.hid hG'
   have MM:=Lib.hid (show w'.heap[w.heap.size+1+1+1+1]?=W.heap[w.heap.size+1+1+1+1]? from hM.trans ((Below.heap_alloc _ _ _ (by omega)).trans (HB1.out.block _ (by omega))))
   obtain ⟨A',cp',hv',_,_⟩:=hG'.own
   simp only [List.length_append,List.length_map,List.length_singleton] at hv'
   clear hG' hgr hG2 hE d0 d1 d2 g0 g1 g2 hM
   subst hv'
   have LX:=Lib.hid (show ((pre++[x]).map pcB).map atmOf=(pre.map pcB).map atmOf++[a] by rw [HA.out];simp [pcB])
   gi_wp2
   refine ⟨(KO.out.trans (KeepsOthers.setCell _ _ _)).from _,⟨?_,?_⟩,⟨⟨.slice A' (pre.length+1) cp',?_,?_,?_⟩,?_,?_,?_,?_,?_,?_⟩,?_⟩
   ·rw [heap_setCell_other _ _ _ _ (by simp only;omega)];exact MM.out
   ·exact (((HB1.out.mono (show w.heap.size≤W.heap.size by omega)).alloc (by omega) (.cells #[.string a.n,.int .i64 a.o,.string a.v] 109)).trans (BB2.out)).setCell (p:=⟨w.heap.size+1+1,0,none⟩) (by simp;omega) _
   ·exact World.cell?_setCell_same' _ _ _ (by rw [e2];rfl)
   ·rw [World.frozen?_setCell];exact j2
   ·rw [LX.out,List.map_map];exact GG.out.setCell rdAtm_good (p:=⟨w.heap.size+1+1,0,none⟩) (by simp only;omega) (by simp only;omega) _
   ·rw [List.map_append,List.map_singleton,HSN.out,←H0.out,HEE.out];rfl
   ·rw [World.cell?_setCell_other _ _ _ _ (ne_blk (by omega))];exact e0
   ·rw [World.frozen?_setCell];exact j0
   ·rw [World.cell?_setCell_other _ _ _ _ (ne_blk (by omega))];exact e1
   ·rw [World.frozen?_setCell];exact j1
   ·have:=SZ.out;simp at this ⊢;omega
   ·exact BB.out.setCell (p:=⟨w.heap.size+1+1,0,none⟩) (by simp;omega) _
  ·have hq:(ee != 0)=true:=by rw [bne_iff_ne];exact h0
   have H0:=Lib.hid h0
   clear h0
   gi_wp2_with fail
   refine ⟨trivial,?_⟩
   refine (CallsIn.inRound l (callsIn_wide.2 K.out)).mono ?_
   rintro e W1 ⟨rfl,hb1⟩
   have d0:=(hb1.cell (World.block_lt_of_cell? _ _ hc0)).trans hc0
   have d1:=(hb1.cell (World.block_lt_of_cell? _ _ hc1)).trans hc1
   have g0:=(hb1.frozen (p:=⟨w.heap.size,0,none⟩) (World.block_lt_of_cell? _ _ hc0)).trans hf0
   have g1:=(hb1.frozen (p:=⟨w.heap.size+1,0,none⟩) (World.block_lt_of_cell? _ _ hc1)).trans hf1
   have HB1:=Lib.hid hb1
   clear hc0 hc1 hf0 hf1 hb1 hv hvf
   have k0:=cell_al (.cells #[.string a.n,.int .i64 a.o,.string a.v] 109) d0
   have k1:=cell_al (.cells #[.string a.n,.int .i64 a.o,.string a.v] 109) d1
   have n0:=fr_al (.cells #[.string a.n,.int .i64 a.o,.string a.v] 109) d0 g0
   have n1:=fr_al (.cells #[.string a.n,.int .i64 a.o,.string a.v] 109) d1 g1
   gi_wp2
   obtain ⟨r0,r1⟩:=two_sets (p:=⟨w.heap.size,0,none⟩) (q:=⟨w.heap.size+1,0,none⟩) (by simp) (.slice none 0 0) (.int .i64 ee) k0 k1
   have hz1:=HB1.out.size
   have hzW:=HB.out.size
   exact ⟨((((keeps_below HB1.out).trans (KeepsOthers.alloc _ _)).trans (KeepsOthers.setCell _ _ _)).trans (KeepsOthers.setCell _ _ _)).from _,⟨rfl,by rw [List.map_append,List.map_singleton,HSN.out];exact HEE.out ▸ H0.out,r0,by rw [List.map_append,List.map_singleton,HSN.out,r1,HEE.out];rfl⟩,
    (((bel2 HB.out HB1.out (Nat.le_refl _)).alloc (by omega) _).setCell (p:=⟨w.heap.size,0,none⟩) (by simp) _).setCell (p:=⟨w.heap.size+1,0,none⟩) (by simp) _⟩
 case done=>
  rintro D ys W hD hS ⟨⟨⟨v,hv,hvf,hG⟩,hp,hc0,hf0,hc1,hf1,hsz⟩,hB⟩ hK
  have X:=Lib.hid (show grpL (B s)=(ys.map pcB).map atmOf by unfold grpL;rw [show grpT (B s)=ys.map pcB from hS.symm,if_pos hp])
  have X0:=Lib.hid (show errF (grpT (B s))=0 by rw [show grpT (B s)=ys.map pcB from hS.symm,hp])
  obtain ⟨A',cp',hv',_,_⟩:=hG.own
  simp only [List.length_map] at hv'
  have GG:=Lib.hid hG
  clear hG hS hp
  subst hv'
  gi_wp2
  obtain ⟨r0,r1⟩:=two_sets (p:=⟨w.heap.size,0,none⟩) (q:=⟨w.heap.size+1,0,none⟩) (by simp) (.slice A' ys.length cp') (.int .i64 0) hc0 hc1
  have hK':=((KeepsOthers.setCell W ⟨w.heap.size,0,none⟩ (.slice A' ys.length cp')).trans (KeepsOthers.setCell _ ⟨w.heap.size+1,0,none⟩ (.int .i64 0))).same D _ hK rfl
  refine ⟨by simp,.inl ⟨_,_,rfl,run_takeDeferred hK',?_⟩⟩
  have h0:=cell_kept r0 (grownBy_putObj' _ D (.deferred none)) (fun r e=>by cases e;exact ⟨_,hK',rfl⟩)
  have h1:=cell_kept r1 (grownBy_putObj' _ D (.deferred none)) (fun r e=>by cases e;exact ⟨_,hK',rfl⟩)
  have G2:=((GG.out.setCell rdAtm_good (p:=⟨w.heap.size,0,none⟩) (by simp only;omega) (by simp only;omega) (.slice A' ys.length cp')).setCell rdAtm_good (p:=⟨w.heap.size+1,0,none⟩) (by simp only;omega) (by simp only;omega) (.int .i64 0)).turn rdAtm_good (grownBy_putObj' _ D (.deferred none)) (fun r e=>by cases e;exact ⟨_,hK',rfl⟩)
  refine ⟨.tuple #[.slice A' ys.length cp',.int .i64 0],?_,⟨.slice A' ys.length cp',by rw [X0.out],?_⟩,((hB.setCell (p:=⟨w.heap.size,0,none⟩) (by simp) _).setCell (p:=⟨w.heap.size+1,0,none⟩) (by simp) _).trans (belowK_b (w:=w) (Nat.le_refl _) _ D _ _ (by omega) hK' rfl rfl)⟩
  ·simp [results,Tryz.f167,go_sem,h0,h1]
  ·rw [X.out];exact rdAtms_good.more (G2.reads rdAtm_good) fun b hb=>⟨hb.1,by rcases hb.2 with h|h<;>omega⟩
 case stop=>
  rintro D c pre W hD hpre ⟨⟨rfl,hin,hc0,hc1⟩,hB⟩ hK
  have X0:=Lib.hid (errF_prefix hpre hin)
  gi_wp2
  refine ⟨by simp,.inl ⟨_,_,rfl,run_takeDeferred hK,?_⟩⟩
  have h0:=cell_kept hc0 (grownBy_putObj' _ D (.deferred none)) (fun r e=>by cases e;exact ⟨_,hK,rfl⟩)
  have h1:=cell_kept hc1 (grownBy_putObj' _ D (.deferred none)) (fun r e=>by cases e;exact ⟨_,hK,rfl⟩)
  refine ⟨.tuple #[.slice none 0 0,.int .i64 (errF (pre.map pcB))],?_,⟨.slice none 0 0,by rw [←X0.out];try rfl,?_⟩,hB.trans (belowK_b (w:=w) (Nat.le_refl _) W D _ _ (by omega) hK rfl rfl)⟩
  ·simp [results,Tryz.f167,go_sem,h0,h1]
  ·have:grpL (B s)=[]:=by unfold grpL;rw [if_neg (show errF (grpT (B s))≠0 from by show errF (ptsL (UInt8.toNat 124) (B s))≠0;rw [X0.out];exact hin)]
   rw [this];exact rdRow_nil _ _
end Go.Proofs.YtboinnjncaehkaaGreatDoor
