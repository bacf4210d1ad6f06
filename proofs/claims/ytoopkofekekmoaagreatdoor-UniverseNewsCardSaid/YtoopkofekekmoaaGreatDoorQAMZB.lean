/- What the laws rest on: HeldL, HeldG, E7h, P7a, E7j, E7l, P7d, N9a, P6t, StbP, P7z, E9e, E9a. -/
import Derived.OrdersHeld
import Derived.Deep.RegionHeld
import Derived.Shelf.SlSortCmp.KitK
import Derived.Lib.SliceRun
import Derived.Maps.OwnSet
import Derived.StringKeys
import Derived.Sort.LotA
import Derived.Sort.WalkB2
import Derived.Sort.WalkB12
import Derived.Deep.LoopGhost
import Derived.Laws.BitsLemmas
import Derived.Test.YtoopkofekekmoaaGreatDoorQAIZB
set_option maxRecDepth 100000
set_option linter.unusedVariables false
set_option linter.unusedSimpArgs false
namespace Go.Proofs.YtoopkofekekmoaaGreatDoor
open Go
section
variable {P:Program} {ops:Array Oper} {Q:Exit→Act→World→Prop} {md:Region.Mode} {S:World→Prop} {z:Nat}
def wpAnyL (P:Program) (md:Region.Mode) (ops:Array Oper) (Q:Exit→Act→World→Prop) (S:World→Prop) (z:Nat):Nat→Array Bool→Act→World→Prop
 | 0,listed,a,w=>Region.ready md ops listed=[]∧Q .normal a w
 | fuel+1,listed,a,w=>
  (Region.ready md ops listed=[]→Q .normal a w)∧
  ∀i ∈ Region.ready md ops listed,wpOp P ops Q i (fun a' w'=>(i≠z→S w')∧wpAnyL P md ops Q S z fuel (listed.setIfInBounds i true) a' w') a w
theorem wpAny_of_L:∀(fuel:Nat) (listed:Array Bool) (a:Act) (w:World),wpAnyL P md ops Q S z fuel listed a w→wpAny P md ops Q fuel listed a w
 | 0,_,_,_,h=>h
 | fuel+1,_,_,_,h=>⟨h.1,fun i hi=>wpOp_mono (fun a' w' h'=>wpAny_of_L fuel _ a' w' h'.2) (h.2 i hi)⟩
def Full (md:Region.Mode) (ops:Array Oper) (listed:Array Bool):Prop:=∀j o,ops[j]?=some o→listed.getD j false=true→∀e ∈ o.after,Region.binds md e=true→listed.getD e.on false=true
def fullB (md:Region.Mode) (ops:Array Oper) (listed:Array Bool):Bool:=
 (List.range ops.size).all fun j=>!listed.getD j false||((ops[j]?).map (·.after.all fun e=>!Region.binds md e||listed.getD e.on false)).getD true
theorem full_of {listed:Array Bool} (h:fullB md ops listed=true):Full md ops listed:=by
 intro j o ho hj e he hb
 have hlt:j < ops.size:=(Array.getElem?_eq_some_iff.1 ho).1
 unfold fullB at h
 rw [List.all_eq_true] at h
 have:=h j (List.mem_range.2 hlt)
 rw [ho,hj] at this
 simp only [Bool.not_true,Bool.false_or,Option.map_some,Option.getD_some] at this
 have:=Array.all_eq_true_iff_forall_mem.1 this e he
 rw [hb] at this
 simpa using this
theorem Full.step {listed:Array Bool} {i:Nat} (h:Full md ops listed) (hi:i ∈ Region.ready md ops listed):Full md ops (listed.setIfInBounds i true):=by
 intro j o ho hj e he hb
 obtain ⟨_,oi,hoi,hall⟩:=mem_ready.1 hi
 by_cases hji:i=j
 ·subst hji
  rw [hoi] at ho
  injection ho with ho
  subst ho
  exact getD_set_true (hall e he hb)
 ·rw [getD_set_ne false hji] at hj
  exact getD_set_true (h j o ho hj e he hb)
def waitB (md:Region.Mode) (ops:Array Oper):List Nat→Bool
 | j::k::r=>((ops[j]?).map (·.after.any fun e=>Region.binds md e&&e.on==k)).getD false&&waitB md ops (k::r)
 | _=>true
theorem wait_edge {j k:Nat} (h:((ops[j]?).map (·.after.any fun e=>Region.binds md e&&e.on==k)).getD false=true):∃o e,ops[j]?=some o∧e ∈ o.after∧Region.binds md e=true∧e.on=k:=by
 cases ho:ops[j]? with
 | none=>rw [ho] at h;simp at h
 | some o=>
  rw [ho] at h
  simp only [Option.map_some,Option.getD_some] at h
  obtain ⟨e,he,hb⟩:=Array.any_eq_true'.1 h
  simp only [Bool.and_eq_true,beq_iff_eq] at hb
  exact ⟨o,e,rfl,he,hb.1,hb.2⟩
theorem wait_listed {listed:Array Bool} (hc:Full md ops listed) {i:Nat}:∀(r:List Nat) (j:Nat),waitB md ops (j::(r++[i]))=true→(∀o,ops[j]?=some o→∀e ∈ o.after,Region.binds md e=true→listed.getD e.on false=true)→listed.getD i false=true
 | [],j,h,hj=>by
  unfold waitB at h
  rw [List.nil_append] at h
  simp only [Bool.and_eq_true] at h
  obtain ⟨o,e,ho,he,hb,rfl⟩:=wait_edge h.1
  exact hj o ho e he hb
 | k::r,j,h,hj=>by
  rw [List.cons_append] at h
  unfold waitB at h
  simp only [Bool.and_eq_true] at h
  obtain ⟨o,e,ho,he,hb,rfl⟩:=wait_edge h.1
  exact wait_listed hc r e.on h.2 fun o' ho'=>hc e.on o' ho' (hj o ho e he hb)
theorem wpAnyL_first {i:Nat} {oi:Oper} {v:Value} (hi:ops[i]?=some oi) (hsel:∀(j:Nat) (o:Oper) cs b,ops[j]?=some o→o.op≠.select cs b)
  (hQ:∀c a w,Q (.panic c) (a.put oi.dst v) w→Q (.panic c) a w) (hiz:i≠z) (hz:∀listed,Full md ops listed→z ∈ Region.ready md ops listed→listed.getD i false=true) :
  ∀(fuel:Nat) (listed:Array Bool) (a:Act) (w:World),Full md ops listed→
   (∀j oj,ops[j]?=some oj→j≠i→listed.getD j true=false→(∀e ∈ oj.after,Region.binds md e=true→e.on≠i)→oi.apart ops oj=true)→
   i ∈ Region.ready md ops listed→YieldsIf P ops S oi v a→S w→
   wpAnyL P md ops Q S z fuel (listed.setIfInBounds i true) (a.put oi.dst v) w→wpAnyL P md ops Q S z (fuel+1) listed a w:=by
 intro fuel
 induction fuel with
 | zero=>
  intro listed a w _ _ hr hy hS H
  refine ⟨fun h=>(by rw [h] at hr;cases hr),fun j hj=>?_⟩
  by_cases hji:j=i
  ·subst hji;exact hy.wpOp hi hS ⟨fun _=>hS,H⟩
  ·have:=ready_mono hj hji
   rw [H.1] at this
   cases this
 | succ fuel ih=>
  intro listed a w hc hfree hr hy hS H
  refine ⟨fun h=>(by rw [h] at hr;cases hr),fun j hj=>?_⟩
  by_cases hji:j=i
  ·subst hji;exact hy.wpOp hi hS ⟨fun _=>hS,H⟩
  ·have h1:=H.2 j (ready_mono hj hji)
   obtain ⟨hjun,oj,hoj,hall⟩:=mem_ready.1 hj
   have hil:listed.getD i false=false:=by
    have h0:=(mem_ready.1 hr).1
    rcases Nat.lt_or_ge i listed.size with h'|h'
    ·simp [h'] at h0 ⊢;exact h0
    ·simp [Array.getElem?_eq_none h']
   have hnot:∀e ∈ oj.after,Region.binds md e=true→e.on≠i:=fun e he hb heq=>by
    have h1:=hall e he hb
    rw [heq,hil] at h1
    cases h1
   have hjz:j≠z:=fun e=>by
    subst e
    rw [hz listed hc hj] at hil
    cases hil
   have h2:=wpOp_putIf hoj (hfree j oj hoj hji hjun hnot) (fun cs b=>hsel i oi cs b hi) (fun cs b=>hsel j oj cs b hoj) hQ hy h1
   have hfree':∀k ok,ops[k]?=some ok→k≠i→(listed.setIfInBounds j true).getD k true=false→
     (∀e ∈ ok.after,Region.binds md e=true→e.on≠i)→oi.apart ops ok=true:=fun k ok hk hki hun hno=>by
    refine hfree k ok hk hki ?_ hno
    by_cases hjk:j=k
    ·subst hjk;exact hjun
    ·rw [getD_set_ne true hjk] at hun;exact hun
   refine wpOp_mono (fun a' w' h3=>⟨h3.2.1,ih (listed.setIfInBounds j true) a' w' (hc.step hj) hfree' (ready_mono hr (Ne.symm hji)) h3.1 (h3.2.1 hjz) ?_⟩) h2
   rw [Array.setIfInBounds_comm _ _ hji]
   exact h3.2.2
theorem wpAnyL_take {i:Nat} {oi:Oper} {v:Value} {fuel:Nat} {listed:Array Bool} {a:Act} {w:World} (r:List Nat) (hi:ops[i]?=some oi)
  (hs:Region.noSelect ops=true) (hf:Region.free md ops listed i=true) (hr:(Region.ready md ops listed).contains i=true)
  (hQ:∀c a w,Q (.panic c) (a.put oi.dst v) w→Q (.panic c) a w) (hiz:(i==z)=false) (hw:waitB md ops (z::(r++[i]))=true) (hc:fullB md ops listed=true) (hy:YieldsIf P ops S oi v a) (hS:S w)
  (h:wpAnyL P md ops Q S z fuel (listed.setIfInBounds i true) (a.put oi.dst v) w):wpAnyL P md ops Q S z (fuel+1) listed a w:=
 wpAnyL_first hi (Region.noSelect_spec hs) hQ (by simpa using hiz) (fun L hL hzL=>by
  obtain ⟨_,o,ho,hall⟩:=mem_ready.1 hzL
  exact wait_listed hL r z hw fun o' ho'=>by rw [ho] at ho';injection ho' with ho';subst ho';exact hall)
  fuel listed a w (full_of hc) (Region.free_spec hi hf) (by simpa using hr) hy hS h
theorem wpAnyL_done {listed:Array Bool} {a:Act} {w:World} (hr:Region.ready md ops listed=[]) (h:Q .normal a w) :
  ∀fuel,wpAnyL P md ops Q S z fuel listed a w
 | 0=>⟨hr,h⟩
 | _+1=>⟨fun _=>h,by rw [hr];simp⟩
theorem wpAnyL_one {i:Nat} {o:Oper} {fuel:Nat} {listed:Array Bool} {a:Act} {w:World} (hr:Region.ready md ops listed=[i]) (ho:ops[i]?=some o)
  (h:∀K':Act→World→Prop,Shut (∀a w,S w→(S w→wpAnyL P md ops Q S z fuel (listed.setIfInBounds i true) a w)→K' a w)→if Region.wanted o (yielded ops a.tmps)=true then Oper.wp P o a w K' Q else K' (a.put o.dst undef) w) :
  wpAnyL P md ops Q S z (fuel+1) listed a w:=by
 refine ⟨fun h0=>(by rw [hr] at h0;cases h0),fun j hj=>?_⟩
 rw [hr,List.mem_singleton] at hj
 subst hj
 exact wpOp_step ho fun K' hK=>h K' (fun a w hS hW=>hK a w ⟨fun _=>hS,hW hS⟩)
theorem wpAnyL_two {i k:Nat} {o p:Oper} {fuel:Nat} {listed:Array Bool} {a:Act} {w:World} (hr:Region.ready md ops listed=[i,k]) (ho:ops[i]?=some o) (hp:ops[k]?=some p)
  (h:∀K':Act→World→Prop,Shut (∀a w,S w→(S w→wpAnyL P md ops Q S z fuel (listed.setIfInBounds i true) a w)→K' a w)→if Region.wanted o (yielded ops a.tmps)=true then Oper.wp P o a w K' Q else K' (a.put o.dst undef) w)
  (h2:∀K':Act→World→Prop,Shut (∀a w,S w→(S w→wpAnyL P md ops Q S z fuel (listed.setIfInBounds k true) a w)→K' a w)→if Region.wanted p (yielded ops a.tmps)=true then Oper.wp P p a w K' Q else K' (a.put p.dst undef) w) :
  wpAnyL P md ops Q S z (fuel+1) listed a w:=by
 refine ⟨fun h0=>(by rw [hr] at h0;cases h0),fun j hj=>?_⟩
 rw [hr] at hj
 rcases List.mem_cons.1 hj with rfl|hj
 ·exact wpOp_step ho fun K' hK=>h K' (fun a w hS hW=>hK a w ⟨fun _=>hS,hW hS⟩)
 ·rw [List.mem_singleton] at hj
  subst hj
  exact wpOp_step hp fun K' hK=>h2 K' (fun a w hS hW=>hK a w ⟨fun _=>hS,hW hS⟩)
theorem wpAnyL_last {o:Oper} {fuel:Nat} {listed:Array Bool} {a:Act} {w:World} (hr:Region.ready md ops listed=[z]) (ho:ops[z]?=some o) (hr2:Region.ready md ops (listed.setIfInBounds z true)=[])
  (h:∀K':Act→World→Prop,Shut (∀a w,Q .normal a w→K' a w)→if Region.wanted o (yielded ops a.tmps)=true then Oper.wp P o a w K' Q else K' (a.put o.dst undef) w) :
  wpAnyL P md ops Q S z (fuel+1) listed a w:=by
 refine ⟨fun h0=>(by rw [hr] at h0;cases h0),fun j hj=>?_⟩
 rw [hr,List.mem_singleton] at hj
 subst hj
 exact wpOp_step ho fun K' hK=>h K' (fun a w hq=>hK a w ⟨fun h=>absurd rfl h,wpAnyL_done hr2 hq _⟩)
theorem wp_region_L {id:Nat} {a:Act} {w:World} (S:World→Prop) (z:Nat) (hm:P.follows .mixedOrders=true) (hS:S w.drew)
  (h:S w.drew→wpAnyL P .any ops Q S z ops.size (Array.replicate ops.size false) a w.drew):(Code.region id ops true).wp P Q a w:=
 wp_region_any hm (wpAny_of_L _ _ _ _ (h hS))
end
end Go.Proofs.YtoopkofekekmoaaGreatDoor
namespace Go.Proofs.YtoopkofekekmoaaGreatDoor
open Go.RowKit
section
variable {α:Type} {E:Rd α} {sz:Nat} {ty:TypeId}
theorem one_rd {w:World} {S:Nat→Prop} {b:Nat} {y:α} {blk:Array Value} (g:Good E sz) (hb:w.heap[b]?=some (.cells blk ty (0,0))) (hE:E w S y blk.toList) (hS:S b):rdRow sz E w S [y] [.slice (some ⟨b,0,none⟩) 1 1]:=
 rd_block g (S:=S) (l:=[y]) (css:=[blk.toList]) (by simpa using hb) hS rfl rfl (fun k hk=>by
  simp only [List.length_singleton] at hk
  obtain rfl:k=0:=by omega
  exact ⟨_,rfl,hE⟩) (by simp)
theorem rdRow_take {w:World} {S:Nat→Prop} {l:List α} {A:Option Addr} {n c k:Nat} (h:rdRow sz E w S l [.slice A n c]) (hk:k≤l.length):rdRow sz E w S (l.take k) [.slice A k c]:=by
 obtain ⟨A',c',e,h1,h2,h⟩:=h
 simp only [List.cons.injEq,Value.slice.injEq,and_true] at e
 obtain ⟨rfl,rfl,rfl⟩:=e
 have hlen:(l.take k).length=k:=by rw [List.length_take];omega
 refine ⟨A,c,by rw [hlen],by omega,h2,fun j hj=>?_⟩
 obtain ⟨ad,es,a1,a2,a3,a4,a5⟩:=h j (by omega)
 exact ⟨ad,es,a1,a2,by rw [List.getElem_take];exact a3,a4,a5⟩
theorem rdRow_drop {w:World} {S:Nat→Prop} {l:List α} {ad:Addr} {n c k:Nat} (h:rdRow sz E w S l [.slice (some ad) n c]) (hk:k≤l.length):rdRow sz E w S (l.drop k) [.slice (if c=k then some ad else some (ad.add (k*sz))) (n - k) (c - k)]:=by
 obtain ⟨A',c',e,h1,h2,h⟩:=h
 simp only [List.cons.injEq,Value.slice.injEq,and_true] at e
 obtain ⟨rfl,rfl,rfl⟩:=e
 have hlen:(l.drop k).length=l.length - k:=List.length_drop ..
 refine ⟨_,c - k,by rw [hlen],by omega,by omega,fun j hj=>?_⟩
 obtain ⟨ad',es,a1,a2,a3,a4,a5⟩:=h (k+j) (by omega)
 obtain rfl:ad=ad':=Option.some.inj a1
 have hck:¬c=k:=by omega
 refine ⟨ad.add (k*sz),es,by rw [if_neg hck],by rw [blk_add];exact a2,by rw [List.getElem_drop];exact a3,a4,fun t u ht=>?_⟩
 have e:(ad.add (k*sz)).add (j*sz+t)=ad.add ((k+j)*sz+t):=by
  rw [Nat.add_mul]
  unfold Addr.add
  by_cases h1:k*sz=0<;>by_cases h2:j*sz+t=0<;>simp [h1,h2,Nat.add_assoc]<;>omega
 rw [e];exact a5 t u ht
theorem wp_region_D {P:Program} {ops:Array Oper} {Q:Exit→Act→World→Prop} {id:Nat} {a:Act} {w w0:World} (S:World→Prop) (z:Nat) (hm:P.follows .mixedOrders=true) (hd:Dr w0 w) (hS:∀V,Dr w0 V→S V)
  (h:∀V,Dr w0 V→S V→wpAnyL P .any ops Q S z ops.size (Array.replicate ops.size false) a V):(Code.region id ops true).wp P Q a w:=
 wp_region_L S z hm (hS _ (hd.more 1)) (fun hs=>h _ (hd.more 1) hs)
end
theorem le_or (a b:ByteArray):(Op.bytesLess a.toList b.toList||a.toList==b.toList)=!Op.bytesLess b.toList a.toList:=by
 rw [str_eq,Bool.eq_iff_iff,Bool.or_eq_true,decide_eq_true_iff,Bool.not_eq_true',Bool.eq_false_iff]
 constructor
 ·rintro (h|rfl) k
  ·exact blt_asym (a:=a) (b:=b) h k
  ·exact blt_self a k
 ·intro h
  rcases blt_tot a b with q|q|q
  ·exact .inl q
  ·exact absurd q h
  ·exact .inr q
theorem tw_step {α:Type} {p:α→Bool} {m:List α} {k:Nat} (hk:k < m.length) (h:m.takeWhile p=m.take k++(m.drop k).takeWhile p) (hp:p m[k]=true):m.takeWhile p=m.take (k+1)++(m.drop (k+1)).takeWhile p:=by
 rw [h,List.drop_eq_getElem_cons hk,List.takeWhile_cons_of_pos hp,List.take_succ_eq_append_getElem hk,List.append_assoc,List.singleton_append]
theorem tw_stop {α:Type} {p:α→Bool} {m:List α} {k:Nat} (hk:k≤m.length) (h:m.takeWhile p=m.take k++(m.drop k).takeWhile p) (hp:∀h:k < m.length,p m[k]=false):m.takeWhile p=m.take k∧m.dropWhile p=m.drop k:=by
 have e:(m.drop k).takeWhile p=[]:=by
  by_cases q:k < m.length
  ·rw [List.drop_eq_getElem_cons q,List.takeWhile_cons_of_neg (by rw [hp q];decide)]
  ·rw [List.drop_eq_nil_of_le (by omega)];rfl
 rw [e,List.append_nil] at h
 refine ⟨h,?_⟩
 have q:=List.takeWhile_append_dropWhile (p:=p) (l:=m)
 rw [h] at q
 exact List.append_cancel_left (q.trans (List.take_append_drop k m).symm)
end Go.Proofs.YtoopkofekekmoaaGreatDoor
namespace Go.Proofs.YtoopkofekekmoaaGreatDoor
open Go.RowKit Go.Sort
def Gw (w w':World):Prop:=∃q os,w'=grow (w.drewN q) os
theorem Gw.below {w w':World} (h:Gw w w'):Below w.heap.size w w':=by
 obtain ⟨q,os,rfl⟩:=h
 exact ⟨rfl,rfl,rfl,by rw [size_grow];exact Nat.le_add_right _ _,fun k hk=>by
  unfold grow
  show ((w.drewN q).heap++os)[k]?=_
  rw [Array.getElem?_append_left (by exact hk)];rfl⟩
structure HrV where
 x:Hr
 A1:Option Addr
 c1:Nat
 A2:Option Addr
 c2:Nat
 A3:Option Addr
 c3:Nat
 A4:Option Addr
 c4:Nat
instance:Inhabited HrV:=⟨⟨nil7,none,0,none,0,none,0,none,0⟩⟩
def HrV.cs (r:HrV):List Value:=[.string r.x.e.n,.string r.x.e.v,.slice r.A1 r.x.e.d.length r.c1,.slice r.A2 r.x.e.r.length r.c2,.slice r.A3 r.x.e.c.length r.c3,.slice r.A4 r.x.e.p.length r.c4,.bool r.x.a,.bool r.x.h]
set_option maxHeartbeats 1000000 in
theorem name_any (r:HrV) (w:World):Calls Tryz.prog 55 #[.agg r.cs.toArray] w fun e w'=>e=.returned (.string r.x.e.n)∧Gw w w':=by
 obtain ⟨⟨⟨n,v,d,rr,c,p⟩,a,h⟩,A1,c1,A2,c2,A3,c3,A4,c4⟩:=r
 unfold HrV.cs
 go_enter Tryz.func55,Tryz.ntmps55
 go_wp2
 go_ret
 exact ⟨rfl,0,_,by rw [alloc_eq_grow];rfl⟩
end Go.Proofs.YtoopkofekekmoaaGreatDoor
namespace Go.Proofs.YtoopkofekekmoaaGreatDoor
open Go.RowKit
def rdNm:Rd ByteArray:=fun _ _ s cs=>cs=[.string s]
theorem rdNm_good:Good rdNm 1:=⟨fun h _=>h,fun h _=>h,fun h _ _=>h,fun h=>by rw [h];rfl,fun h u hu=>by rw [h,List.mem_singleton] at hu;rw [hu];rfl⟩
abbrev rdNms:Rd (List ByteArray):=rdRow 1 rdNm
theorem rdNms_good:Good rdNms 1:=rdRow_good rdNm_good
theorem rdNms_at {w:World} {S:Nat→Prop} {l:List ByteArray} {A:Option Addr} {n c:Nat} (h:rdNms w S l [.slice A n c]):n=l.length∧n≤c∧c≤maxLen∧∀k (hk:k < l.length),∃ad,A=some ad∧S ad.block∧w.cell? (ad.add k)=some (.string l[k]):=by
 obtain ⟨A',c',e,h1,h2,h⟩:=h
 simp only [List.cons.injEq,Value.slice.injEq,and_true] at e
 obtain ⟨rfl,rfl,rfl⟩:=e
 refine ⟨rfl,h1,h2,fun k hk=>?_⟩
 obtain ⟨ad,es,e,hS,rfl,hl,hc⟩:=h k hk
 have:=hc 0 _ rfl
 rw [Nat.mul_one,Nat.add_zero] at this
 exact ⟨ad,e,hS,this⟩
def RI (l:List Hr) (k:Nat):Prop:=∀j (hj:j < l.length),j < k→rgtE l[j].e=true∧∀i (hi:i < l.length),j=i+1→blt l[i].e.n l[j].e.n
theorem ri_all {l:List Hr} (h:RI l l.length):rightH l=decide (l.length≤64):=by
 unfold rightH
 have h1:l.all (fun x=>rgtE x.e)=true:=by
  rw [List.all_eq_true]
  intro x hx
  obtain ⟨j,hj,rfl⟩:=List.getElem_of_mem hx
  exact (h j hj hj).1
 have key:∀(m:List ByteArray),(∀i (h:i+1 < m.length),blt m[i] m[i+1])→risB m=true:=by
  intro m
  induction m with
  | nil=>exact fun _=>rfl
  | cons a r ih=>
   intro hm
   cases r with
   | nil=>rfl
   | cons b r=>
    unfold risB
    rw [Bool.and_eq_true]
    exact ⟨hm 0 (by simp),ih fun i hi=>hm (i+1) (by simpa using hi)⟩
 have h2:risB (l.map fun x=>x.e.n)=true:=key _ fun i hi=>by
  rw [List.length_map] at hi
  rw [List.getElem_map,List.getElem_map]
  exact (h (i+1) hi hi).2 i (by omega) rfl
 rw [h1,h2];rfl
theorem ri_no {l:List Hr} {k:Nat} (hk:k < l.length) (h:rgtE l[k].e=false):rightH l=false:=by
 rw [Bool.eq_false_iff]
 intro e
 have:=((rightH_iff l).1 e).1 _ (List.getElem_mem hk)
 rw [h] at this;cases this
theorem ri_dn {l:List Hr} {i:Nat} (hk:i+1 < l.length) (h:¬blt l[i].e.n l[i+1].e.n):rightH l=false:=by
 rw [Bool.eq_false_iff]
 intro e
 have:=ris_adj ((rightH_iff l).1 e).2.1 (i:=i) (by rw [List.length_map];exact hk)
 rw [List.getElem_map,List.getElem_map] at this
 exact h this
set_option maxHeartbeats 16000000 in
theorem q7right_any (KR:∀(x:Ent) (A1:Option Addr) (c1:Nat) (A2:Option Addr) (c2:Nat) (A3:Option Addr) (c3:Nat) (A4:Option Addr) (c4:Nat) (w:World),EntV w (lt_ w.heap.size) x A1 c1 A2 c2 A3 c3 A4 c4→Sz x→Calls Tryz.prog 42 #[x.val A1 c1 A2 c2 A3 c3 A4 c4] w fun e w'=>e=.returned (.bool (rgtE x))∧Below w.heap.size w w') (A:Option Addr) (n c:Nat) (l:List Hr) (w:World) (h:rdHrs w (lt_ w.heap.size) l [.slice A n c]) (hz:∀x ∈ l,Sz x.e) :
  Calls Tryz.prog 40 #[.slice A n c] w fun e w'=>e=.returned (.bool (rightH l))∧Below w.heap.size w w':=by
 obtain ⟨rfl,hnc,hcm,hat⟩:=rdHrs_at h
 have hcm':c≤9223372036854775807:=hcm
 have HAT:=Lib.hid hat
 have HZ:=Lib.hid hz
 have N1:=Lib.hid (fun k (hk:k < l.length) hn=>ri_no (l:=l) (k:=k) hk hn)
 have N2:=Lib.hid (fun k (hk:k+1 < l.length) hn=>ri_dn (l:=l) (i:=k) hk hn)
 have N3:=Lib.hid (fun hn=>ri_all (l:=l) hn)
 clear hat h hz hcm
 generalize hR:rightH l=R at *
 clear hR
 go_enter Tryz.func40,Tryz.ntmps40
 go_wp2
 go_loopw [3] (fun i wr=>∃k:Nat,k≤l.length∧i=.int .i64 k∧RI l k∧Below w.heap.size w wr) (fun i _=>l.length - (intOf i).toNat)
 case atStart=>exact ⟨0,Nat.zero_le _,rfl,fun j _ hj=>absurd hj (Nat.not_lt_zero _),Below.refl _ _⟩
 case round=>
  obtain ⟨k,hk,rfl,hri,hb⟩:=hrel
  have HB:=Lib.hid hb
  have HI:=Lib.hid hri
  clear hri hb
  by_cases hlt:k < l.length
  ·obtain ⟨ad,A1,c1,A2,c2,A3,c3,A4,c4,rfl,had,hv,g0,g1,g2,g3,g4,g5,-,-⟩:=HAT.out k hlt
   have i0:(0:Int)≤(k:Int):=by omega
   have i1:(k:Int) < (l.length:Int):=by omega
   have K:=Lib.hid (KR l[k].e A1 c1 A2 c2 A3 c3 A4 c4 wr (hv.on HB.out) (HZ.out _ (List.getElem_mem hlt)))
   have K0:=Lib.hid g0
   have h0:=keep6 HB.out g0
   have h1:=keep6 HB.out g1
   have h2:=keep6 HB.out g2
   have h3:=keep6 HB.out g3
   have h4:=keep6 HB.out g4
   have h5:=keep6 HB.out g5
   have N1:=Lib.hid (N1.out k hlt)
   have NX:=Lib.hid (fun (hr:rgtE l[k].e=true) (hs:∀i (hi:i < l.length),k=i+1→blt l[i].e.n l[k].e.n)=>show RI l (k+1) from fun j hj hjk=>by
    by_cases e:j=k
    ·subst e;exact ⟨hr,hs⟩
    ·exact HI.out j hj (by omega))
   clear had hv g0 g1 g2 g3 g4 g5
   go_wp2_with fail
   refine K.out.mono ?_
   rintro e w3 ⟨rfl,hb⟩
   have HB3:=Lib.hid (bel_in HB.out hb)
   have k0:=keep6 HB3.out K0.out
   clear hb h0 h1 h2 h3 h4 h5 K
   generalize rgtE l[k].e=rb at *
   cases rb
   ·have X:=Lib.hid (N1.out rfl)
    go_wp2_with fail
    go_quiet (fail)
    go_wp2
    go_ret
    exact ⟨by rw [X.out];try rfl,HB3.out.trans (belD (Below.refl _ _) _)⟩
   rcases k with _|k
   ·have NX1:=Lib.hid (NX.out (by trivial) (fun i _ h=>by omega))
    go_wp2_with fail
    go_quiet (fail)
    go_wp2
    go_roundw
    case rel=>exact ⟨1,by omega,rfl,NX1.out,HB3.out.trans (belD (Below.refl _ _) _)⟩
    case measure=>simp [intOf];omega
   ·obtain ⟨ad',E1,e1,E2,e2,E3,e3,E4,e4,had',-,-,j0,-⟩:=HAT.out k (by omega)
    obtain rfl:ad=ad':=Option.some.inj had'
    have m0:=keep6 HB3.out j0
    have j1:(0:Int)≤(k:Int):=by omega
    have j2:(k:Int) < (l.length:Int):=by omega
    have hle:=le_or l[k+1].e.n l[k].e.n
    have N2:=Lib.hid (N2.out k hlt)
    have NX2:=Lib.hid (fun (hs:blt l[k].e.n l[k+1].e.n)=>NX.out (by trivial) (fun i hi h=>by
     obtain rfl:i=k:=by omega
     exact hs))
    clear had' j0
    generalize l[k+1].e.n=a at *
    generalize l[k].e.n=b at *
    by_cases hq:Op.bytesLess b.toList a.toList=true
    ·have NX3:=Lib.hid (NX2.out hq)
     rw [hq] at hle
     clear hq
     go_wp2_with fail
     go_quiet (fail)
     go_wp2
     go_roundw
     case rel=>exact ⟨k+1+1,by omega,by go_num,NX3.out,HB3.out.trans (belD (Below.refl _ _) _)⟩
     case measure=>simp [intOf];omega
    ·have X:=Lib.hid (N2.out (fun h=>hq h))
     rw [Bool.eq_false_iff.2 hq] at hle
     clear hq
     go_wp2_with fail
     go_quiet (fail)
     go_wp2
     go_ret
     exact ⟨by rw [X.out];try rfl,HB3.out.trans (belD (Below.refl _ _) _)⟩
  ·obtain rfl:k=l.length:=by omega
   have X:=Lib.hid (N3.out HI.out)
   by_cases h64:(l.length:Int)≤64
   ·have X:=Lib.hid (show R=true from X.out.trans (decide_eq_true (by omega)))
    go_wp2
    go_ret
    exact ⟨by rw [X.out];try rfl,HB.out⟩
   ·have X:=Lib.hid (show R=false from X.out.trans (decide_eq_false (by omega)))
    go_wp2
    go_ret
    exact ⟨by rw [X.out];try rfl,HB.out⟩
end Go.Proofs.YtoopkofekekmoaaGreatDoor
namespace Go.Proofs.YtoopkofekekmoaaGreatDoor
open Go.RowKit Go.Sort
set_option maxHeartbeats 2000000 in
theorem cloneh_any (A:Option Addr) (n c:Nat) (l:List Hr) (w:World) (h:rdHrs w (lt_ w.heap.size) l [.slice A n c]) (hl:l.length≤200) :
  Calls Tryz.prog 38 #[.slice A n c] w fun e w'=>(∃v',e=.returned v'∧Grow rdHr 8 (lt_ w.heap.size) w' w.heap.size 56 v' l)∧Below w.heap.size w w':=by
 have qT:∀(w:World) (a:Option Addr) (n c n' c':Nat),(binOp .eql 23 (.slice a n c) (.slice none n' c')).run Tryz.prog w=.ok (.bool a.isNone) w:=fun w a n c n' c'=>Lib.run_eql_slice_nil w _ _ a n c n' c' Tryz.underlying23
 obtain ⟨i0,hi,hz0,hz1,hz2⟩:=info_parts here_info
 obtain ⟨rfl,hnc,hcm,hat⟩:=rdHrs_at h
 have hcm':c≤9223372036854775807:=hcm
 cases A with
 | none=>
  obtain rfl:l=[]:=by
   rcases Nat.eq_zero_or_pos l.length with h0|h0
   ·exact List.eq_nil_of_length_eq_zero h0
   ·obtain ⟨_,_,_,_,_,_,_,_,_,e,_⟩:=hat 0 h0
    cases e
  clear h hat hcm
  go_enter Tryz.func38,Tryz.ntmps38
  go_wp2
  go_ret
  exact ⟨⟨_,rfl,Grow.nil _ _ _ _⟩,Below.refl _ _⟩
 | some ad=>
  have B1:=(Below.refl w.heap.size w).alloc (Nat.le_refl _) (.cells #[] 56)
  have hG:=Grow.empty (E:=rdHr) (sz:=8) (lt_ w.heap.size) (W:=w.alloc (.cells #[] 56)) (base:=w.heap.size) (heap_alloc_new w _) (Nat.le_refl _)
  have hX:=rdHrs_good.below h B1
  have hn1:([]:List Hr).length+l.length≤maxLen:=by simp only [List.length_nil];unfold maxLen;omega
  have hn2:(([]:List Hr).length+l.length)*136≤140737488355328:=by simp only [List.length_nil];omega
  have hS:∀b,lt_ w.heap.size b→lt_ w.heap.size b∧b < (w.alloc (.cells #[] 56)).heap.size∧(Value.slice (some ⟨w.heap.size,0,none⟩) 0 0).ownBlock≠some b:=fun b hb=>⟨hb,by rw [World.size_alloc];unfold lt_ at hb;omega,fun hh=>by simp only [Value.ownBlock,Option.some.injEq] at hh;unfold lt_ at hb;omega⟩
  have hbs:w.heap.size≤(w.alloc (.cells #[] 56)).heap.size:=by rw [World.size_alloc];omega
  have HB1:=Lib.hid B1
  clear h B1 hcm hat
  go_enter Tryz.func38,Tryz.ntmps38
  go_wp2_with (at_builtin;refine wpList_growN _ rfl _ _ 23 23 rfl rdHr_good (by decide) (lt_ w.heap.size) w.heap.size 56 56 i0 (.agg #[.string { data:=#[] },.string { data:=#[] },.slice none 0 0,.slice none 0 0,.slice none 0 0,.slice none 0 0,.bool false,.bool false]) 136 Tryz.underlying23 Tryz.underlying23 hi hz0 hz1 hz2 rfl _ _ rfl hG l _ (some ad) l.length c rfl hX hS hn1 hn2 hbs ?_)
  intro v' w1 hG1 hg1
  have HB2:=Lib.hid (grow_below hG hg1 HB1.out (Nat.le_refl _) hbs)
  have HG:=Lib.hid hG1
  clear hG hX hg1 hn1 hn2 hS hbs hG1
  go_wp2
  go_ret
  exact ⟨⟨_,rfl,HG.out⟩,HB2.out⟩
end Go.Proofs.YtoopkofekekmoaaGreatDoor
namespace Go.Proofs.YtoopkofekekmoaaGreatDoor
open Go.RowKit
def heldR9:Value→Option (DataW Value × List MemPlace):=fun v=>some (.held v,[])
def MapF (P:Program) (k:TypeId) (z:Value) (w:World) (b n:Nat) (f:ByteArray→Value):Prop:=
 ∃D:DataW Value,w.ownsMap P k heldR9 b n D∧∀s:ByteArray,s.size≤maxLen→D.atKey (.string s.data.toList) (.held z)=.held (f s)
def upd9 {α:Type} (f:ByteArray→α) (s:ByteArray) (v:α):ByteArray→α:=fun x=>if x=s then v else f x
theorem upd9_same {α:Type} (f:ByteArray→α) (s:ByteArray) (v:α):upd9 f s v s=v:=if_pos rfl
theorem upd9_ne {α:Type} (f:ByteArray→α) {s x:ByteArray} (v:α) (h:x≠s):upd9 f s v x=f x:=if_neg h
section
variable {P:Program} {k t e:TypeId} {z:Value} {w w':World} {b n:Nat} {f:ByteArray→Value}
theorem MapF.made (w:World) (P:Program) (k:TypeId) (z:Value):MapF P k z (w.alloc (.map #[] 0)) w.heap.size 0 (fun _=>z):=
 ⟨_,World.ownsMap_made _ _ _ _,fun s _=>rfl⟩
theorem MapF.lt (h:MapF P k z w b n f):b < w.heap.size:=by obtain ⟨D,h,_⟩:=h;exact h.lt
theorem MapF.kept {row:Option Nat} (h:MapF P k z w b n f) (hg:w.grownBy w' row) (hne:some b≠row):MapF P k z w' b n f:=by
 obtain ⟨D,h,q⟩:=h
 exact ⟨D,h.kept hg hne,q⟩
theorem MapF.same (h:MapF P k z w b n f) (hb:w'.heap[b]?=w.heap[b]?):MapF P k z w' b n f:=by
 obtain ⟨D,⟨es,clock,h1,h2⟩,q⟩:=h
 exact ⟨D,⟨es,clock,hb.trans h1,h2⟩,q⟩
theorem MapF.below {N:Nat} (h:MapF P k z w b n f) (hb:b < N) (hB:Below N w w'):MapF P k z w' b n f:=h.same (hB.block b hb)
theorem MapF.look (h:MapF P k z w b n f) (K:Maps.Keyed P k) (hk:P.underlying k=some .string) (ht:P.underlying t=some (.map k e)) (hz:(zeroValue e).run P w=.ok z w) (s:ByteArray) (hs:s.size≤maxLen) :
  (Instr.lookup t (.map (some b)) (.string s) false).run P w=.ok (f s) w:=by
 obtain ⟨D,h,q⟩:=h
 obtain ⟨v,ps,hr,hv⟩:=h.lookup K ht hz (zd:=.held z) (zp:=[]) rfl (WideMaps.keyOf_string_mk hk hs)
 rw [q s hs] at hv
 have e1:v=f s:=by
  have:=congrArg Prod.fst (Option.some.inj hv)
  exact DataW.held.inj this
 rw [hr,e1]
theorem MapF.put (h:MapF P k z w b n f) (K:Maps.Keyed P k) (hk:P.underlying k=some .string) (ht:P.underlying t=some (.map k e)) (hn:n < maxLen) (s:ByteArray) (hs:s.size≤maxLen) (v:Value) :
  ∃w',(Instr.mapUpdate t (.map (some b)) (.string s) v).run P w=.ok () w'∧MapF P k z w' b (n+1) (upd9 f s v)∧w.grownBy w' (some b):=by
 obtain ⟨D,h,q⟩:=h
 obtain ⟨w',hr,ho,hg⟩:=h.update K ht hn (WideMaps.keyOf_string_mk hk hs) (d:=.held v) (ps:=[]) rfl
 refine ⟨w',hr,⟨_,ho,fun x hx=>?_⟩,hg⟩
 have hM:Maps.IsMap D:=by
  obtain ⟨es,clock,_,_,_,hD⟩:=h
  exact ⟨_,hD⟩
 by_cases e:x=s
 ·subst e
  rw [Maps.atKey_put_same hM (show WideAt.IsKeyLit (.string x.data.toList) from trivial),upd9_same]
 ·rw [Maps.atKey_put_other (fun hh=>e ?_),upd9_ne _ _ e]
  ·exact q x hx
  ·injection hh with hh
   cases x;cases s
   simp only [ByteArray.mk.injEq]
   exact Array.toList_inj.1 hh
theorem wpList_mapUpdate_fn {ops:Array Oper} {rest:List Oper} {o:Oper} {a:Act} {Q:Exit→Act→World→Prop}
  (hg:o.guard=none) (m x y:Operand) (hop:o.op=Op.mapUpdate t m x y) (K:Maps.Keyed P k) (hk:P.underlying k=some .string) (ht:P.underlying t=some (.map k e)) (h:MapF P k z w b n f)
  (hm:a.eval m=.map (some b)) (hn:n < maxLen) (s:ByteArray) (v:Value) (hx:a.eval x=.string s) (hy:a.eval y=v) (hs:s.size≤maxLen)
  (hK:∀w',MapF P k z w' b (n+1) (upd9 f s v)→w.grownBy w' (some b)→wpList P ops Q rest (a.put o.dst undef) w') :
  wpList P ops Q (o::rest) a w:=by
 refine wpList_plain hg fun K' hK'=>?_
 obtain ⟨w',hrun,r1,r2⟩:=h.put K hk ht hn s hs v
 unfold Oper.wp
 simp [execOp,hop,hm,hx,hy,hrun,Result.andThen]
 exact hK' _ _ (hK w' r1 r2)
end
section
variable {α:Type} {E:Rd α} {sz:Nat}
theorem Grow.blk (g:Good E sz) {T:Nat→Prop} {W:World} {base b:Nat} {e:TypeId} {blk:Array Value} {l:List α} {css:List (List Value)} (hb:W.heap[b]?=some (.cells blk e (0,0))) (hbase:base≤b)
  (hl:css.length=l.length) (hf:blk.toList=css.flatten) (hm:l.length≤1000) (hE:∀k (hk:k < l.length),∃cs,css[k]?=some cs∧E W (fun x=>T x∧x < W.heap.size∧(Value.slice (some ⟨b,0,none⟩) l.length l.length).ownBlock≠some x) l[k] cs) :
  Grow E sz T W base e (.slice (some ⟨b,0,none⟩) l.length l.length) l:=by
 have hls:∀cs ∈ css,cs.length=sz:=fun cs hc=>by
  obtain ⟨k,hk,rfl⟩:=List.getElem_of_mem hc
  obtain ⟨cs,h1,h2⟩:=hE k (by omega)
  rw [List.getElem?_eq_getElem hk] at h1
  injection h1 with h1
  rw [h1];exact g.len h2
 have hlen:css.flatten.length=l.length*sz:=by rw [flatten_len sz hls,hl]
 have hbs:blk.size=l.length*sz:=by rw [←hlen,←hf,Array.length_toList]
 exact ⟨css,hl,⟨hlen,.inr ⟨b,l.length,blk,rfl,hbase,hb,Nat.le_refl _,by unfold maxLen;omega,hbs,by rw [←hf,List.take_of_length_le (by rw [Array.length_toList,hbs];exact Nat.le_refl _)]⟩⟩,hE⟩
end
end Go.Proofs.YtoopkofekekmoaaGreatDoor
namespace Go.Proofs.YtoopkofekekmoaaGreatDoor
open Go.Sort
section
variable {α:Type} [Inhabited α] (lt:α→α→Bool)
variable {lt}
def rng (P X M Y Q:List α) (s:Nat):List α:=P++((Y.take s++X.drop s)++(M++((X.take s++Y.drop s)++Q)))
end
end Go.Proofs.YtoopkofekekmoaaGreatDoor
namespace Go.Proofs.YtoopkofekekmoaaGreatDoor
open Go.RowKit Go.Sort
section
variable {α:Type} [Inhabited α] {enc:α→List Value} {k:Nat} {w W:World} {blk off:Nat} {d:Array α}
theorem swk_heap (h:SWK enc k w blk off d W) {cur:Array Value} {e:TypeId} {fr:Nat × Nat} (hb:w.heap[blk]?=some (.cells cur e fr)):∃cur',W.heap[blk]?=some (.cells cur' e fr)∧cur'.size=cur.size:=by
 obtain ⟨n,os,rfl⟩:=h
 have hlt:blk < w.heap.size:=(Array.getElem?_eq_some_iff.1 hb).1
 refine ⟨putCells id off (flatK enc k d) cur,?_,by simp [putCells]⟩
 unfold sortWorldK
 rw [heap_grow_old _ _ (by rw [size_putRowK];exact hlt)]
 unfold putRowK putRow mapBlock
 simp only [Array.getElem?_modify,if_true]
 show (w.heap[blk]?).map _=_
 rw [hb];rfl
theorem swk_other (h:SWK enc k w blk off d W):∀b,b≠blk→b < w.heap.size→W.heap[b]?=w.heap[b]?:=by
 obtain ⟨n,os,rfl⟩:=h
 intro b hb hlt
 unfold sortWorldK
 rw [heap_grow_old _ _ (by rw [size_putRowK];exact hlt)]
 unfold putRowK putRow mapBlock
 simp only [Array.getElem?_modify,if_neg (Ne.symm hb)]
 rfl
theorem swk_below (h:SWK enc k w blk off d W) {N:Nat} (hN:N≤blk) (hlt:blk < w.heap.size):Below N w W:=by
 refine ⟨?_,?_,?_,h.le,fun b hb=>swk_other h b (by omega) (by omega)⟩
 ·obtain ⟨n,os,rfl⟩:=h;rfl
 ·obtain ⟨n,os,rfl⟩:=h;rfl
 ·obtain ⟨n,os,rfl⟩:=h;rfl
end
end Go.Proofs.YtoopkofekekmoaaGreatDoor
namespace Go.Proofs.YtoopkofekekmoaaGreatDoor
open Go.RowKit
def insU (l:List Ent) (m:List Hr):List Int:=m.map fun y=>plU y.e.n y.e.v l 0
theorem insU_step {l:List Ent} {m:List Hr} {k:Nat} (hk:k < m.length):insU l (m.take (k+1))=insU l (m.take k)++[plU m[k].e.n m[k].e.v l 0]:=by
 unfold insU
 rw [List.take_succ_eq_append_getElem hk,List.map_append];rfl
set_option maxHeartbeats 1000000 in
theorem sameInts9_any (A A':Option Addr) (n c n' c':Nat) (l m:List Int) (w:World) (h:rdInts w (lt_ w.heap.size) l [.slice A n c]) (h':rdInts w (lt_ w.heap.size) m [.slice A' n' c']) :
  Calls Tryz.prog 20 #[.slice A n c,.slice A' n' c'] w fun e w'=>e=.returned (.bool (decide (l=m)))∧Dr w w':=by
 obtain ⟨rfl,hnc,hcm,_⟩:=rdInts_at h
 obtain ⟨rfl,hnc',hcm',_⟩:=rdInts_at h'
 have hcm1:c≤9223372036854775807:=hcm
 have hcm2:c'≤9223372036854775807:=hcm'
 by_cases hlen:l.length=m.length
 ·have hd:((l.length:Int) != (m.length:Int))=false:=by rw [hlen];simp
  have HL:=Lib.hid hlen
  clear hlen
  go_enter Tryz.func20,Tryz.ntmps20
  go_wp2
  go_loopw [5] (fun i wr=>∃k:Nat,k≤l.length∧i=.int .i64 k∧l.take k=m.take k∧Dr w wr) (fun i _=>l.length - (intOf i).toNat)
  case atStart=>exact ⟨0,Nat.zero_le _,rfl,rfl,Dr.refl _⟩
  case round=>
   obtain ⟨k,hk,rfl,htk,hbel⟩:=hrel
   by_cases hlt:k < l.length
   ·obtain ⟨_,_,_,ha⟩:=rdInts_at (rdInts_good.below h (hbel.below _))
    obtain ⟨_,_,_,hb⟩:=rdInts_at (rdInts_good.below h' (hbel.below _))
    have hltm:k < m.length:=by rw [←HL.out];exact hlt
    obtain ⟨ad,rfl,had,h0⟩:=ha k hlt
    obtain ⟨ad',rfl,had',g0⟩:=hb k hltm
    have T:=Lib.hid (same_take (l:=l) (m:=m) HL.out hlt hltm htk)
    have Z:=Lib.hid (show l[k]≠m[k]→l≠m from fun hn e=>hn (by subst e;rfl))
    have HB:=Lib.hid hbel
    have hki:(k:Int) < (m.length:Int):=by omega
    clear htk ha hb hbel h h'
    generalize l[k]=x at *
    generalize m[k]=y at *
    by_cases he:x=y
    ·have hq:(x != y)=false:=by rw [he];simp
     have HE:=Lib.hid he
     clear he
     go_wp2_with fail
     go_quiet (fail)
     go_wp2
     go_roundw
     case rel=>exact ⟨k+1,by omega,by go_num,T.out HE.out,HB.out.more _⟩
     case measure=>simp [intOf];omega
    ·have hq:(x != y)=true:=by rw [bne_iff_ne];exact he
     have HE:=Lib.hid he
     clear he
     go_wp2_with fail
     go_quiet (fail)
     go_wp2
     go_ret
     exact ⟨by rw [decide_eq_false (Z.out HE.out)];try rfl,HB.out.more _⟩
   ·obtain rfl:k=l.length:=by omega
    have X:=Lib.hid (show l=m by rw [List.take_length] at htk;rw [htk,HL.out,List.take_length])
    clear htk h h'
    go_wp2
    go_ret
    exact ⟨by rw [decide_eq_true X.out];try rfl,hbel⟩
 ·have hd:((l.length:Int) != (m.length:Int))=true:=by rw [bne_iff_ne];omega
  have X:=Lib.hid (show l≠m by rintro rfl;exact hlen rfl)
  clear hlen
  go_enter Tryz.func20,Tryz.ntmps20
  go_wp2
  go_ret
  exact ⟨by rw [decide_eq_false X.out];try rfl,Dr.refl _⟩
set_option maxHeartbeats 1000000 in
theorem sameTexts9_any (A A':Option Addr) (n c n' c':Nat) (l m:List ByteArray) (w:World) (h:rdNms w (lt_ w.heap.size) l [.slice A n c]) (h':rdNms w (lt_ w.heap.size) m [.slice A' n' c']) :
  Calls Tryz.prog 17 #[.slice A n c,.slice A' n' c'] w fun e w'=>e=.returned (.bool (decide (l=m)))∧Dr w w':=by
 obtain ⟨rfl,hnc,hcm,_⟩:=rdNms_at h
 obtain ⟨rfl,hnc',hcm',_⟩:=rdNms_at h'
 have hcm1:c≤9223372036854775807:=hcm
 have hcm2:c'≤9223372036854775807:=hcm'
 by_cases hlen:l.length=m.length
 ·have hd:((l.length:Int) != (m.length:Int))=false:=by rw [hlen];simp
  have HL:=Lib.hid hlen
  clear hlen
  go_enter Tryz.func17,Tryz.ntmps17
  go_wp2
  go_loopw [5] (fun i wr=>∃k:Nat,k≤l.length∧i=.int .i64 k∧l.take k=m.take k∧Dr w wr) (fun i _=>l.length - (intOf i).toNat)
  case atStart=>exact ⟨0,Nat.zero_le _,rfl,rfl,Dr.refl _⟩
  case round=>
   obtain ⟨k,hk,rfl,htk,hbel⟩:=hrel
   by_cases hlt:k < l.length
   ·obtain ⟨_,_,_,ha⟩:=rdNms_at (rdNms_good.below h (hbel.below _))
    obtain ⟨_,_,_,hb⟩:=rdNms_at (rdNms_good.below h' (hbel.below _))
    have hltm:k < m.length:=by rw [←HL.out];exact hlt
    obtain ⟨ad,rfl,had,h0⟩:=ha k hlt
    obtain ⟨ad',rfl,had',g0⟩:=hb k hltm
    have T:=Lib.hid (same_take5 (l:=l) (m:=m) HL.out hlt hltm htk)
    have Z:=Lib.hid (show l[k]≠m[k]→l≠m from fun hn e=>hn (by subst e;rfl))
    have HB:=Lib.hid hbel
    have hki:(k:Int) < (m.length:Int):=by omega
    clear htk ha hb hbel h h'
    have hq:=str_eq l[k] m[k]
    generalize l[k]=x at *
    generalize m[k]=y at *
    by_cases he:x=y
    ·rw [decide_eq_true he] at hq
     have HE:=Lib.hid he
     clear he
     go_wp2_with fail
     go_quiet (fail)
     go_wp2
     go_roundw
     case rel=>exact ⟨k+1,by omega,by go_num,T.out HE.out,HB.out.more _⟩
     case measure=>simp [intOf];omega
    ·rw [decide_eq_false he] at hq
     have HE:=Lib.hid he
     clear he
     go_wp2_with fail
     go_quiet (fail)
     go_wp2
     go_ret
     exact ⟨by rw [decide_eq_false (Z.out HE.out)];try rfl,HB.out.more _⟩
   ·obtain rfl:k=l.length:=by omega
    have X:=Lib.hid (show l=m by rw [List.take_length] at htk;rw [htk,HL.out,List.take_length])
    clear htk h h'
    go_wp2
    go_ret
    exact ⟨by rw [decide_eq_true X.out];try rfl,hbel⟩
 ·have hd:((l.length:Int) != (m.length:Int))=true:=by rw [bne_iff_ne];omega
  have X:=Lib.hid (show l≠m by rintro rfl;exact hlen rfl)
  clear hlen
  go_enter Tryz.func17,Tryz.ntmps17
  go_wp2
  go_ret
  exact ⟨by rw [decide_eq_false X.out];try rfl,Dr.refl _⟩
set_option maxHeartbeats 4000000 in
theorem light9_any (A:Option Addr) (n c:Nat) (l:List Atm) (w:World) (h:rdAtms w (lt_ w.heap.size) l [.slice A n c]) :
  Calls Tryz.prog 30 #[.slice A n c] w fun e w'=>LtR (Lt l) e∧w=w':=by
 obtain ⟨rfl,hnc,hcm,hat⟩:=rdAtms_at h
 have hcm':c≤9223372036854775807:=hcm
 have HAT:=Lib.hid hat
 clear h hat hcm
 by_cases g0:(20:Int) < (l.length:Int)
 ·go_enter Tryz.func30,Tryz.ntmps30
  go_wp2
  go_ret
  exact ⟨ltR_no _,rfl⟩
 have HL:=Lib.hid (show l.length≤20 by omega)
 go_enter Tryz.func30,Tryz.ntmps30
 go_wp2
 go_loop [3] (fun i=>∃k:Nat,k≤l.length∧i=.int .i64 k∧(∀j (hj:j < l.length),j < k→l[j].n.size≤100∧l[j].v.size≤100)) (fun i=>l.length - (intOf i).toNat)
 case atStart=>exact ⟨0,Nat.zero_le _,rfl,fun j _ hj=>absurd hj (Nat.not_lt_zero _)⟩
 case round=>
  obtain ⟨k,hk,rfl,hall⟩:=hrel
  have HA:=Lib.hid hall
  clear hall
  by_cases hlt:k < l.length
  ·obtain ⟨ad,rfl,had,h0,h1,h2⟩:=HAT.out k hlt
   have i0:(0:Int)≤(k:Int):=by omega
   have i1:(k:Int) < (l.length:Int):=by omega
   clear had h1
   by_cases g1:(100:Int) < (l[k].n.size:Int)
   ·go_wp2
    go_ret
    exact ⟨ltR_no _,rfl⟩
   by_cases g2:(100:Int) < (l[k].v.size:Int)
   ·go_wp2
    go_ret
    exact ⟨ltR_no _,rfl⟩
   have NX:=Lib.hid (show l[k].n.size≤100∧l[k].v.size≤100 from ⟨by omega,by omega⟩)
   go_wp2
   go_round
   case rel=>exact ⟨k+1,by omega,by go_num,fun j hj h=>by
    by_cases hjk:j=k
    ·subst hjk;exact NX.out
    ·exact HA.out j hj (by omega)⟩
   case measure=>simp [intOf];omega
  ·obtain rfl:k=l.length:=by omega
   have FIN:=Lib.hid (show Lt l from ⟨HL.out,fun a ha=>by
    obtain ⟨j,hj,rfl⟩:=List.getElem_of_mem ha
    exact HA.out j hj hj⟩)
   go_wp2
   go_ret
   exact ⟨ltR_yes FIN.out,rfl⟩
set_option maxHeartbeats 8000000 in
theorem fine9_any (x:Ent) (A1:Option Addr) (c1:Nat) (A2:Option Addr) (c2:Nat) (A3:Option Addr) (c3:Nat) (A4:Option Addr) (c4:Nat) (w:World) (hx:EntV w (lt_ w.heap.size) x A1 c1 A2 c2 A3 c3 A4 c4) :
  Calls Tryz.prog 32 #[x.val A1 c1 A2 c2 A3 c3 A4 c4] w fun e w'=>LtR (Sm x) e∧Below w.heap.size w w':=by
 obtain ⟨n,v,d,r,c,p⟩:=x
 have B1:=Lib.hid (show Below w.heap.size w (w.alloc (.cells #[.string n,.string v,.slice A1 d.length c1,.slice A2 r.length c2,.slice A3 c.length c3,.slice A4 p.length c4] 53)) from (Below.refl _ w).alloc (Nat.le_refl _) _)
 have hy:=hx.on B1.out
 obtain ⟨hd1,hd2,hd3,hd⟩:=rdGrps_at hy.d
 obtain ⟨hr1,hr2,hr3,hr⟩:=rdGrps_at hy.r
 have hcm1:c1≤9223372036854775807:=hd3
 have hcm2:c2≤9223372036854775807:=hr3
 have KC:=Lib.hid (light9_any A3 c.length c3 c _ hy.c)
 have KP:=Lib.hid (light9_any A4 p.length c4 p _ hy.p)
 have HD:=Lib.hid hd
 have HR:=Lib.hid hr
 clear hx hy hd hr hd1 hr1 hd3 hr3
 show Calls Tryz.prog 32 #[.agg #[.string n,.string v,.slice A1 d.length c1,.slice A2 r.length c2,.slice A3 c.length c3,.slice A4 p.length c4]] w _
 go_enter Tryz.func32,Tryz.ntmps32
 go_wp2_with fail
 refine KC.out.mono ?_
 rintro e w' ⟨⟨b1,rfl,hb1⟩,rfl⟩
 go_wp2_with fail
 refine KP.out.mono ?_
 rintro e w' ⟨⟨b2,rfl,hb2⟩,rfl⟩
 cases b1
 ·go_wp2
  go_ret
  exact ⟨ltR_no _,B1.out⟩
 cases b2
 ·go_wp2
  go_ret
  exact ⟨ltR_no _,B1.out⟩
 have HC:=Lib.hid (hb1 rfl)
 have HP:=Lib.hid (hb2 rfl)
 clear hb1 hb2
 by_cases g0:(100:Int) < (n.size:Int)
 ·go_wp2
  go_ret
  exact ⟨ltR_no _,B1.out⟩
 by_cases g1:(100:Int) < (v.size:Int)
 ·go_wp2
  go_ret
  exact ⟨ltR_no _,B1.out⟩
 by_cases g2:(15:Int) < (d.length:Int)
 ·go_wp2
  go_ret
  exact ⟨ltR_no _,B1.out⟩
 by_cases g3:(15:Int) < (r.length:Int)
 ·go_wp2
  go_ret
  exact ⟨ltR_no _,B1.out⟩
 have HS:=Lib.hid (show n.size≤100∧v.size≤100∧d.length≤15∧r.length≤15 from ⟨by omega,by omega,by omega,by omega⟩)
 go_wp2
 go_loop [5] (fun i=>∃k:Nat,k≤d.length∧i=.int .i64 k∧(∀j (hj:j < d.length),j < k→Lt d[j])) (fun i=>d.length - (intOf i).toNat)
 case atStart=>exact ⟨0,Nat.zero_le _,rfl,fun j _ hj=>absurd hj (Nat.not_lt_zero _)⟩
 case round=>
  obtain ⟨k,hk,rfl,hall⟩:=hrel
  have HA:=Lib.hid hall
  clear hall
  by_cases hlt:k < d.length
  ·obtain ⟨ad,Y,cy,rfl,had,h0,h1⟩:=HD.out k hlt
   have i0:(0:Int)≤(k:Int):=by omega
   have i1:(k:Int) < (d.length:Int):=by omega
   have K:=Lib.hid (light9_any _ _ _ _ _ h1)
   clear had h1
   go_wp2_with fail
   refine K.out.mono ?_
   rintro e w' ⟨⟨b,rfl,hb⟩,rfl⟩
   cases b
   ·go_wp2
    go_ret
    exact ⟨ltR_no _,B1.out⟩
   have NX:=Lib.hid (hb rfl)
   clear hb
   go_wp2
   go_round
   case rel=>exact ⟨k+1,by omega,by go_num,fun j hj h=>by
    by_cases hjk:j=k
    ·subst hjk;exact NX.out
    ·exact HA.out j hj (by omega)⟩
   case measure=>simp [intOf];omega
  ·obtain rfl:k=d.length:=by omega
   have F5:=Lib.hid (show ∀g ∈ d,Lt g from fun g hg=>by
    obtain ⟨j,hj,rfl⟩:=List.getElem_of_mem hg
    exact HA.out j hj hj)
   clear HA
   go_wp2
   go_loop [7] (fun i=>∃k:Nat,k≤r.length∧i=.int .i64 k∧(∀j (hj:j < r.length),j < k→Lt r[j])) (fun i=>r.length - (intOf i).toNat)
   case atStart=>exact ⟨0,Nat.zero_le _,rfl,fun j _ hj=>absurd hj (Nat.not_lt_zero _)⟩
   case round=>
    obtain ⟨k,hk,rfl,hall⟩:=hrel
    have HA:=Lib.hid hall
    clear hall
    by_cases hlt:k < r.length
    ·obtain ⟨ad,Y,cy,rfl,had,h0,h1⟩:=HR.out k hlt
     have i0:(0:Int)≤(k:Int):=by omega
     have i1:(k:Int) < (r.length:Int):=by omega
     have K:=Lib.hid (light9_any _ _ _ _ _ h1)
     clear had h1
     go_wp2_with fail
     refine K.out.mono ?_
     rintro e w' ⟨⟨b,rfl,hb⟩,rfl⟩
     cases b
     ·go_wp2
      go_ret
      exact ⟨ltR_no _,B1.out⟩
     have NX:=Lib.hid (hb rfl)
     clear hb
     go_wp2
     go_round
     case rel=>exact ⟨k+1,by omega,by go_num,fun j hj h=>by
      by_cases hjk:j=k
      ·subst hjk;exact NX.out
      ·exact HA.out j hj (by omega)⟩
     case measure=>simp [intOf];omega
    ·obtain rfl:k=r.length:=by omega
     have F7:=Lib.hid (show ∀g ∈ r,Lt g from fun g hg=>by
      obtain ⟨j,hj,rfl⟩:=List.getElem_of_mem hg
      exact HA.out j hj hj)
     clear HA
     go_wp2
     go_ret
     exact ⟨ltR_yes ⟨HC.out,HP.out,HS.out.1,HS.out.2.1,HS.out.2.2.1,HS.out.2.2.2,F5.out,F7.out⟩,B1.out⟩
set_option maxHeartbeats 8000000 in
theorem sameEnts9_any (A A':Option Addr) (n c n' c':Nat) (l m:List Ent) (w:World) (h:rdEnts w (lt_ w.heap.size) l [.slice A n c]) (h':rdEnts w (lt_ w.heap.size) m [.slice A' n' c']) :
  Calls Tryz.prog 12 #[.slice A n c,.slice A' n' c'] w fun e w'=>e=.returned (.bool (decide (l=m)))∧Below w.heap.size w w':=by
 obtain ⟨rfl,hnc,hcm,_⟩:=rdEnts_at h
 obtain ⟨rfl,hnc',hcm',_⟩:=rdEnts_at h'
 have hcm1:c≤9223372036854775807:=hcm
 have hcm2:c'≤9223372036854775807:=hcm'
 by_cases hlen:l.length=m.length
 ·have hd:((l.length:Int) != (m.length:Int))=false:=by rw [hlen];simp
  have HL:=Lib.hid hlen
  clear hlen
  go_enter Tryz.func12,Tryz.ntmps12
  go_wp2
  go_loopw [5] (fun i wr=>∃k:Nat,k≤l.length∧i=.int .i64 k∧l.take k=m.take k∧Below w.heap.size w wr) (fun i _=>l.length - (intOf i).toNat)
  case atStart=>exact ⟨0,Nat.zero_le _,rfl,rfl,Below.refl _ _⟩
  case round=>
   obtain ⟨k,hk,rfl,htk,hbel⟩:=hrel
   by_cases hlt:k < l.length
   ·obtain ⟨_,_,_,ha⟩:=rdEnts_at (rdEnts_good.up (rdEnts_good.below h hbel) hbel.size)
    obtain ⟨_,_,_,hb⟩:=rdEnts_at (rdEnts_good.up (rdEnts_good.below h' hbel) hbel.size)
    have hltm:k < m.length:=by rw [←HL.out];exact hlt
    obtain ⟨ad,A1,c1,A2,c2,A3,c3,A4,c4,rfl,had,hv,h0,h1,h2,h3,h4,h5⟩:=ha k hlt
    obtain ⟨ad',B1,d1,B2v,d2,B3,d3,B4,d4,rfl,had',hv',g0,g1,g2,g3,g4,g5⟩:=hb k hltm
    have T:=Lib.hid (same_take (l:=l) (m:=m) HL.out hlt hltm htk)
    have Z:=Lib.hid (show l[k]≠m[k]→l≠m from fun hn e=>hn (by subst e;rfl))
    have HB:=Lib.hid hbel
    have i0:(0:Int)≤(k:Int):=by omega
    have i1:(k:Int) < (l.length:Int):=by omega
    have hki:(k:Int) < (m.length:Int):=by omega
    have K:=Lib.hid (fun W (hb:Below wr.heap.size wr W)=>sameEnt7_any l[k] m[k] A1 c1 A2 c2 A3 c3 A4 c4 B1 d1 B2v d2 B3 d3 B4 d4 W (hv.on hb) (hv'.on hb))
    have bb:=(Below.refl wr.heap.size wr).drew
    clear htk ha hb hbel h h' hv hv' had had'
    generalize l[k]=x at *
    generalize m[k]=y at *
    by_cases he:x=y
    ·rw [decide_eq_true he] at K
     have HE:=Lib.hid he
     clear he
     go_wp2_with fail
     go_region_held3 (fun W=>W.cell? (ad.add (k*6))=some (.string x.n)∧W.cell? ⟨(ad.add (k*6)).block,(ad.add (k*6)).off+1,none⟩=some (.string x.v)∧W.cell? ⟨(ad.add (k*6)).block,(ad.add (k*6)).off+2,none⟩=some (.slice A1 x.d.length c1)∧W.cell? ⟨(ad.add (k*6)).block,(ad.add (k*6)).off+3,none⟩=some (.slice A2 x.r.length c2)∧W.cell? ⟨(ad.add (k*6)).block,(ad.add (k*6)).off+4,none⟩=some (.slice A3 x.c.length c3)∧W.cell? ⟨(ad.add (k*6)).block,(ad.add (k*6)).off+5,none⟩=some (.slice A4 x.p.length c4)∧W.cell? (ad'.add (k*6))=some (.string y.n)∧W.cell? ⟨(ad'.add (k*6)).block,(ad'.add (k*6)).off+1,none⟩=some (.string y.v)∧W.cell? ⟨(ad'.add (k*6)).block,(ad'.add (k*6)).off+2,none⟩=some (.slice B1 y.d.length d1)∧W.cell? ⟨(ad'.add (k*6)).block,(ad'.add (k*6)).off+3,none⟩=some (.slice B2v y.r.length d2)∧W.cell? ⟨(ad'.add (k*6)).block,(ad'.add (k*6)).off+4,none⟩=some (.slice B3 y.c.length d3)∧W.cell? ⟨(ad'.add (k*6)).block,(ad'.add (k*6)).off+5,none⟩=some (.slice B4 y.p.length d4)∧Below wr.heap.size wr W)
      (first|(go_split_ands;refine ⟨?_,?_,?_,?_,?_,?_,?_,?_,?_,?_,?_,?_,?_⟩<;>first|assumption|exact keep6 hbx (by assumption)|exact Below.trans (by assumption) (hbx.mono (Below.size (by assumption))))|go_keep)
      ((go_at_call 44;(with_reducible refine (K.out _ (by go_split_ands;assumption)).mono ?_);rintro e wx ⟨rfl,hbx⟩))
     all_goals
      go_split_ands
      have HB2:=Lib.hid (show Below w.heap.size w _ from HB.out.trans (Below.mono (show Below wr.heap.size wr _ by assumption) HB.out.size))
      go_wp2
      go_roundw
      case rel=>exact ⟨k+1,by omega,by go_num,T.out HE.out,HB2.out⟩
      case measure=>simp [intOf];omega
    ·rw [decide_eq_false he] at K
     have HE:=Lib.hid he
     clear he
     go_wp2_with fail
     go_region_held3 (fun W=>W.cell? (ad.add (k*6))=some (.string x.n)∧W.cell? ⟨(ad.add (k*6)).block,(ad.add (k*6)).off+1,none⟩=some (.string x.v)∧W.cell? ⟨(ad.add (k*6)).block,(ad.add (k*6)).off+2,none⟩=some (.slice A1 x.d.length c1)∧W.cell? ⟨(ad.add (k*6)).block,(ad.add (k*6)).off+3,none⟩=some (.slice A2 x.r.length c2)∧W.cell? ⟨(ad.add (k*6)).block,(ad.add (k*6)).off+4,none⟩=some (.slice A3 x.c.length c3)∧W.cell? ⟨(ad.add (k*6)).block,(ad.add (k*6)).off+5,none⟩=some (.slice A4 x.p.length c4)∧W.cell? (ad'.add (k*6))=some (.string y.n)∧W.cell? ⟨(ad'.add (k*6)).block,(ad'.add (k*6)).off+1,none⟩=some (.string y.v)∧W.cell? ⟨(ad'.add (k*6)).block,(ad'.add (k*6)).off+2,none⟩=some (.slice B1 y.d.length d1)∧W.cell? ⟨(ad'.add (k*6)).block,(ad'.add (k*6)).off+3,none⟩=some (.slice B2v y.r.length d2)∧W.cell? ⟨(ad'.add (k*6)).block,(ad'.add (k*6)).off+4,none⟩=some (.slice B3 y.c.length d3)∧W.cell? ⟨(ad'.add (k*6)).block,(ad'.add (k*6)).off+5,none⟩=some (.slice B4 y.p.length d4)∧Below wr.heap.size wr W)
      (first|(go_split_ands;refine ⟨?_,?_,?_,?_,?_,?_,?_,?_,?_,?_,?_,?_,?_⟩<;>first|assumption|exact keep6 hbx (by assumption)|exact Below.trans (by assumption) (hbx.mono (Below.size (by assumption))))|go_keep)
      ((go_at_call 44;(with_reducible refine (K.out _ (by go_split_ands;assumption)).mono ?_);rintro e wx ⟨rfl,hbx⟩))
     all_goals
      go_split_ands
      have HB2:=Lib.hid (show Below w.heap.size w _ from HB.out.trans (Below.mono (show Below wr.heap.size wr _ by assumption) HB.out.size))
      go_wp2
      go_ret
      exact ⟨by rw [decide_eq_false (Z.out HE.out)];try rfl,HB2.out⟩
   ·obtain rfl:k=l.length:=by omega
    have X:=Lib.hid (show l=m by rw [List.take_length] at htk;rw [htk,HL.out,List.take_length])
    clear htk h h'
    go_wp2
    go_ret
    exact ⟨by rw [decide_eq_true X.out];try rfl,hbel⟩
 ·have hd:((l.length:Int) != (m.length:Int))=true:=by rw [bne_iff_ne];omega
  have X:=Lib.hid (show l≠m by rintro rfl;exact hlen rfl)
  clear hlen
  go_enter Tryz.func12,Tryz.ntmps12
  go_wp2
  go_ret
  exact ⟨by rw [decide_eq_false X.out];try rfl,Below.refl _ _⟩
end Go.Proofs.YtoopkofekekmoaaGreatDoor
