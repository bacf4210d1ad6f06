/- What the laws rest on: HeldL, HeldG, P7a, E7j, E7l, P7d, E9p, E9q, E9d, N9a, P6t, StbP, P7z, E9e. -/
import Derived.OrdersHeld
import Derived.Deep.RegionHeld
import Derived.Shelf.SlSortCmp.KitK
import Derived.Lib.SliceRun
import Derived.Maps.OwnSet
import Derived.StringKeys
import Derived.Sort.LotA
import Derived.Sort.WalkB2
import Derived.Sort.WalkB12
import Derived.Deep.LoopGhost
import Derived.Laws.BitsLemmas
import Derived.Test.YtoopkofekekmoaaGreatDoorQAFZB
set_option maxRecDepth 100000
set_option linter.unusedVariables false
set_option linter.unusedSimpArgs false
namespace Go.Proofs.YtoopkofekekmoaaGreatDoor
open Go
section
variable {P:Program} {ops:Array Oper} {Q:Exit→Act→World→Prop} {md:Region.Mode} {S:World→Prop} {z:Nat}
def wpAnyL (P:Program) (md:Region.Mode) (ops:Array Oper) (Q:Exit→Act→World→Prop) (S:World→Prop) (z:Nat):Nat→Array Bool→Act→World→Prop
 | 0,listed,a,w=>Region.ready md ops listed=[]∧Q .normal a w
 | fuel+1,listed,a,w=>
  (Region.ready md ops listed=[]→Q .normal a w)∧
  ∀i ∈ Region.ready md ops listed,wpOp P ops Q i (fun a' w'=>(i≠z→S w')∧wpAnyL P md ops Q S z fuel (listed.setIfInBounds i true) a' w') a w
theorem wpAny_of_L:∀(fuel:Nat) (listed:Array Bool) (a:Act) (w:World),wpAnyL P md ops Q S z fuel listed a w→wpAny P md ops Q fuel listed a w
 | 0,_,_,_,h=>h
 | fuel+1,_,_,_,h=>⟨h.1,fun i hi=>wpOp_mono (fun a' w' h'=>wpAny_of_L fuel _ a' w' h'.2) (h.2 i hi)⟩
def Full (md:Region.Mode) (ops:Array Oper) (listed:Array Bool):Prop:=∀j o,ops[j]?=some o→listed.getD j false=true→∀e ∈ o.after,Region.binds md e=true→listed.getD e.on false=true
def fullB (md:Region.Mode) (ops:Array Oper) (listed:Array Bool):Bool:=
 (List.range ops.size).all fun j=>!listed.getD j false||((ops[j]?).map (·.after.all fun e=>!Region.binds md e||listed.getD e.on false)).getD true
theorem full_of {listed:Array Bool} (h:fullB md ops listed=true):Full md ops listed:=by
 intro j o ho hj e he hb
 have hlt:j < ops.size:=(Array.getElem?_eq_some_iff.1 ho).1
 unfold fullB at h
 rw [List.all_eq_true] at h
 have:=h j (List.mem_range.2 hlt)
 rw [ho,hj] at this
 simp only [Bool.not_true,Bool.false_or,Option.map_some,Option.getD_some] at this
 have:=Array.all_eq_true_iff_forall_mem.1 this e he
 rw [hb] at this
 simpa using this
theorem Full.step {listed:Array Bool} {i:Nat} (h:Full md ops listed) (hi:i ∈ Region.ready md ops listed):Full md ops (listed.setIfInBounds i true):=by
 intro j o ho hj e he hb
 obtain ⟨_,oi,hoi,hall⟩:=mem_ready.1 hi
 by_cases hji:i=j
 ·subst hji
  rw [hoi] at ho
  injection ho with ho
  subst ho
  exact getD_set_true (hall e he hb)
 ·rw [getD_set_ne false hji] at hj
  exact getD_set_true (h j o ho hj e he hb)
def waitB (md:Region.Mode) (ops:Array Oper):List Nat→Bool
 | j::k::r=>((ops[j]?).map (·.after.any fun e=>Region.binds md e&&e.on==k)).getD false&&waitB md ops (k::r)
 | _=>true
theorem wait_edge {j k:Nat} (h:((ops[j]?).map (·.after.any fun e=>Region.binds md e&&e.on==k)).getD false=true):∃o e,ops[j]?=some o∧e ∈ o.after∧Region.binds md e=true∧e.on=k:=by
 cases ho:ops[j]? with
 | none=>rw [ho] at h;simp at h
 | some o=>
  rw [ho] at h
  simp only [Option.map_some,Option.getD_some] at h
  obtain ⟨e,he,hb⟩:=Array.any_eq_true'.1 h
  simp only [Bool.and_eq_true,beq_iff_eq] at hb
  exact ⟨o,e,rfl,he,hb.1,hb.2⟩
theorem wait_listed {listed:Array Bool} (hc:Full md ops listed) {i:Nat}:∀(r:List Nat) (j:Nat),waitB md ops (j::(r++[i]))=true→(∀o,ops[j]?=some o→∀e ∈ o.after,Region.binds md e=true→listed.getD e.on false=true)→listed.getD i false=true
 | [],j,h,hj=>by
  unfold waitB at h
  rw [List.nil_append] at h
  simp only [Bool.and_eq_true] at h
  obtain ⟨o,e,ho,he,hb,rfl⟩:=wait_edge h.1
  exact hj o ho e he hb
 | k::r,j,h,hj=>by
  rw [List.cons_append] at h
  unfold waitB at h
  simp only [Bool.and_eq_true] at h
  obtain ⟨o,e,ho,he,hb,rfl⟩:=wait_edge h.1
  exact wait_listed hc r e.on h.2 fun o' ho'=>hc e.on o' ho' (hj o ho e he hb)
theorem wpAnyL_first {i:Nat} {oi:Oper} {v:Value} (hi:ops[i]?=some oi) (hsel:∀(j:Nat) (o:Oper) cs b,ops[j]?=some o→o.op≠.select cs b)
  (hQ:∀c a w,Q (.panic c) (a.put oi.dst v) w→Q (.panic c) a w) (hiz:i≠z) (hz:∀listed,Full md ops listed→z ∈ Region.ready md ops listed→listed.getD i false=true) :
  ∀(fuel:Nat) (listed:Array Bool) (a:Act) (w:World),Full md ops listed→
   (∀j oj,ops[j]?=some oj→j≠i→listed.getD j true=false→(∀e ∈ oj.after,Region.binds md e=true→e.on≠i)→oi.apart ops oj=true)→
   i ∈ Region.ready md ops listed→YieldsIf P ops S oi v a→S w→
   wpAnyL P md ops Q S z fuel (listed.setIfInBounds i true) (a.put oi.dst v) w→wpAnyL P md ops Q S z (fuel+1) listed a w:=by
 intro fuel
 induction fuel with
 | zero=>
  intro listed a w _ _ hr hy hS H
  refine ⟨fun h=>(by rw [h] at hr;cases hr),fun j hj=>?_⟩
  by_cases hji:j=i
  ·subst hji;exact hy.wpOp hi hS ⟨fun _=>hS,H⟩
  ·have:=ready_mono hj hji
   rw [H.1] at this
   cases this
 | succ fuel ih=>
  intro listed a w hc hfree hr hy hS H
  refine ⟨fun h=>(by rw [h] at hr;cases hr),fun j hj=>?_⟩
  by_cases hji:j=i
  ·subst hji;exact hy.wpOp hi hS ⟨fun _=>hS,H⟩
  ·have h1:=H.2 j (ready_mono hj hji)
   obtain ⟨hjun,oj,hoj,hall⟩:=mem_ready.1 hj
   have hil:listed.getD i false=false:=by
    have h0:=(mem_ready.1 hr).1
    rcases Nat.lt_or_ge i listed.size with h'|h'
    ·simp [h'] at h0 ⊢;exact h0
    ·simp [Array.getElem?_eq_none h']
   have hnot:∀e ∈ oj.after,Region.binds md e=true→e.on≠i:=fun e he hb heq=>by
    have h1:=hall e he hb
    rw [heq,hil] at h1
    cases h1
   have hjz:j≠z:=fun e=>by
    subst e
    rw [hz listed hc hj] at hil
    cases hil
   have h2:=wpOp_putIf hoj (hfree j oj hoj hji hjun hnot) (fun cs b=>hsel i oi cs b hi) (fun cs b=>hsel j oj cs b hoj) hQ hy h1
   have hfree':∀k ok,ops[k]?=some ok→k≠i→(listed.setIfInBounds j true).getD k true=false→
     (∀e ∈ ok.after,Region.binds md e=true→e.on≠i)→oi.apart ops ok=true:=fun k ok hk hki hun hno=>by
    refine hfree k ok hk hki ?_ hno
    by_cases hjk:j=k
    ·subst hjk;exact hjun
    ·rw [getD_set_ne true hjk] at hun;exact hun
   refine wpOp_mono (fun a' w' h3=>⟨h3.2.1,ih (listed.setIfInBounds j true) a' w' (hc.step hj) hfree' (ready_mono hr (Ne.symm hji)) h3.1 (h3.2.1 hjz) ?_⟩) h2
   rw [Array.setIfInBounds_comm _ _ hji]
   exact h3.2.2
theorem wpAnyL_take {i:Nat} {oi:Oper} {v:Value} {fuel:Nat} {listed:Array Bool} {a:Act} {w:World} (r:List Nat) (hi:ops[i]?=some oi)
  (hs:Region.noSelect ops=true) (hf:Region.free md ops listed i=true) (hr:(Region.ready md ops listed).contains i=true)
  (hQ:∀c a w,Q (.panic c) (a.put oi.dst v) w→Q (.panic c) a w) (hiz:(i==z)=false) (hw:waitB md ops (z::(r++[i]))=true) (hc:fullB md ops listed=true) (hy:YieldsIf P ops S oi v a) (hS:S w)
  (h:wpAnyL P md ops Q S z fuel (listed.setIfInBounds i true) (a.put oi.dst v) w):wpAnyL P md ops Q S z (fuel+1) listed a w:=
 wpAnyL_first hi (Region.noSelect_spec hs) hQ (by simpa using hiz) (fun L hL hzL=>by
  obtain ⟨_,o,ho,hall⟩:=mem_ready.1 hzL
  exact wait_listed hL r z hw fun o' ho'=>by rw [ho] at ho';injection ho' with ho';subst ho';exact hall)
  fuel listed a w (full_of hc) (Region.free_spec hi hf) (by simpa using hr) hy hS h
theorem wpAnyL_done {listed:Array Bool} {a:Act} {w:World} (hr:Region.ready md ops listed=[]) (h:Q .normal a w) :
  ∀fuel,wpAnyL P md ops Q S z fuel listed a w
 | 0=>⟨hr,h⟩
 | _+1=>⟨fun _=>h,by rw [hr];simp⟩
theorem wpAnyL_one {i:Nat} {o:Oper} {fuel:Nat} {listed:Array Bool} {a:Act} {w:World} (hr:Region.ready md ops listed=[i]) (ho:ops[i]?=some o)
  (h:∀K':Act→World→Prop,Shut (∀a w,S w→(S w→wpAnyL P md ops Q S z fuel (listed.setIfInBounds i true) a w)→K' a w)→if Region.wanted o (yielded ops a.tmps)=true then Oper.wp P o a w K' Q else K' (a.put o.dst undef) w) :
  wpAnyL P md ops Q S z (fuel+1) listed a w:=by
 refine ⟨fun h0=>(by rw [hr] at h0;cases h0),fun j hj=>?_⟩
 rw [hr,List.mem_singleton] at hj
 subst hj
 exact wpOp_step ho fun K' hK=>h K' (fun a w hS hW=>hK a w ⟨fun _=>hS,hW hS⟩)
theorem wpAnyL_two {i k:Nat} {o p:Oper} {fuel:Nat} {listed:Array Bool} {a:Act} {w:World} (hr:Region.ready md ops listed=[i,k]) (ho:ops[i]?=some o) (hp:ops[k]?=some p)
  (h:∀K':Act→World→Prop,Shut (∀a w,S w→(S w→wpAnyL P md ops Q S z fuel (listed.setIfInBounds i true) a w)→K' a w)→if Region.wanted o (yielded ops a.tmps)=true then Oper.wp P o a w K' Q else K' (a.put o.dst undef) w)
  (h2:∀K':Act→World→Prop,Shut (∀a w,S w→(S w→wpAnyL P md ops Q S z fuel (listed.setIfInBounds k true) a w)→K' a w)→if Region.wanted p (yielded ops a.tmps)=true then Oper.wp P p a w K' Q else K' (a.put p.dst undef) w) :
  wpAnyL P md ops Q S z (fuel+1) listed a w:=by
 refine ⟨fun h0=>(by rw [hr] at h0;cases h0),fun j hj=>?_⟩
 rw [hr] at hj
 rcases List.mem_cons.1 hj with rfl|hj
 ·exact wpOp_step ho fun K' hK=>h K' (fun a w hS hW=>hK a w ⟨fun _=>hS,hW hS⟩)
 ·rw [List.mem_singleton] at hj
  subst hj
  exact wpOp_step hp fun K' hK=>h2 K' (fun a w hS hW=>hK a w ⟨fun _=>hS,hW hS⟩)
theorem wpAnyL_last {o:Oper} {fuel:Nat} {listed:Array Bool} {a:Act} {w:World} (hr:Region.ready md ops listed=[z]) (ho:ops[z]?=some o) (hr2:Region.ready md ops (listed.setIfInBounds z true)=[])
  (h:∀K':Act→World→Prop,Shut (∀a w,Q .normal a w→K' a w)→if Region.wanted o (yielded ops a.tmps)=true then Oper.wp P o a w K' Q else K' (a.put o.dst undef) w) :
  wpAnyL P md ops Q S z (fuel+1) listed a w:=by
 refine ⟨fun h0=>(by rw [hr] at h0;cases h0),fun j hj=>?_⟩
 rw [hr,List.mem_singleton] at hj
 subst hj
 exact wpOp_step ho fun K' hK=>h K' (fun a w hq=>hK a w ⟨fun h=>absurd rfl h,wpAnyL_done hr2 hq _⟩)
theorem wp_region_L {id:Nat} {a:Act} {w:World} (S:World→Prop) (z:Nat) (hm:P.follows .mixedOrders=true) (hS:S w.drew)
  (h:S w.drew→wpAnyL P .any ops Q S z ops.size (Array.replicate ops.size false) a w.drew):(Code.region id ops true).wp P Q a w:=
 wp_region_any hm (wpAny_of_L _ _ _ _ (h hS))
end
end Go.Proofs.YtoopkofekekmoaaGreatDoor
namespace Go.Proofs.YtoopkofekekmoaaGreatDoor
open Go.RowKit
section
variable {α:Type} {E:Rd α} {sz:Nat} {ty:TypeId}
theorem one_rd {w:World} {S:Nat→Prop} {b:Nat} {y:α} {blk:Array Value} (g:Good E sz) (hb:w.heap[b]?=some (.cells blk ty (0,0))) (hE:E w S y blk.toList) (hS:S b):rdRow sz E w S [y] [.slice (some ⟨b,0,none⟩) 1 1]:=
 rd_block g (S:=S) (l:=[y]) (css:=[blk.toList]) (by simpa using hb) hS rfl rfl (fun k hk=>by
  simp only [List.length_singleton] at hk
  obtain rfl:k=0:=by omega
  exact ⟨_,rfl,hE⟩) (by simp)
theorem rdRow_take {w:World} {S:Nat→Prop} {l:List α} {A:Option Addr} {n c k:Nat} (h:rdRow sz E w S l [.slice A n c]) (hk:k≤l.length):rdRow sz E w S (l.take k) [.slice A k c]:=by
 obtain ⟨A',c',e,h1,h2,h⟩:=h
 simp only [List.cons.injEq,Value.slice.injEq,and_true] at e
 obtain ⟨rfl,rfl,rfl⟩:=e
 have hlen:(l.take k).length=k:=by rw [List.length_take];omega
 refine ⟨A,c,by rw [hlen],by omega,h2,fun j hj=>?_⟩
 obtain ⟨ad,es,a1,a2,a3,a4,a5⟩:=h j (by omega)
 exact ⟨ad,es,a1,a2,by rw [List.getElem_take];exact a3,a4,a5⟩
theorem rdRow_drop {w:World} {S:Nat→Prop} {l:List α} {ad:Addr} {n c k:Nat} (h:rdRow sz E w S l [.slice (some ad) n c]) (hk:k≤l.length):rdRow sz E w S (l.drop k) [.slice (if c=k then some ad else some (ad.add (k*sz))) (n - k) (c - k)]:=by
 obtain ⟨A',c',e,h1,h2,h⟩:=h
 simp only [List.cons.injEq,Value.slice.injEq,and_true] at e
 obtain ⟨rfl,rfl,rfl⟩:=e
 have hlen:(l.drop k).length=l.length - k:=List.length_drop ..
 refine ⟨_,c - k,by rw [hlen],by omega,by omega,fun j hj=>?_⟩
 obtain ⟨ad',es,a1,a2,a3,a4,a5⟩:=h (k+j) (by omega)
 obtain rfl:ad=ad':=Option.some.inj a1
 have hck:¬c=k:=by omega
 refine ⟨ad.add (k*sz),es,by rw [if_neg hck],by rw [blk_add];exact a2,by rw [List.getElem_drop];exact a3,a4,fun t u ht=>?_⟩
 have e:(ad.add (k*sz)).add (j*sz+t)=ad.add ((k+j)*sz+t):=by
  rw [Nat.add_mul]
  unfold Addr.add
  by_cases h1:k*sz=0<;>by_cases h2:j*sz+t=0<;>simp [h1,h2,Nat.add_assoc]<;>omega
 rw [e];exact a5 t u ht
theorem wp_region_D {P:Program} {ops:Array Oper} {Q:Exit→Act→World→Prop} {id:Nat} {a:Act} {w w0:World} (S:World→Prop) (z:Nat) (hm:P.follows .mixedOrders=true) (hd:Dr w0 w) (hS:∀V,Dr w0 V→S V)
  (h:∀V,Dr w0 V→S V→wpAnyL P .any ops Q S z ops.size (Array.replicate ops.size false) a V):(Code.region id ops true).wp P Q a w:=
 wp_region_L S z hm (hS _ (hd.more 1)) (fun hs=>h _ (hd.more 1) hs)
end
end Go.Proofs.YtoopkofekekmoaaGreatDoor
namespace Go.Proofs.YtoopkofekekmoaaGreatDoor
open Go.RowKit Go.Sort
def Gw (w w':World):Prop:=∃q os,w'=grow (w.drewN q) os
theorem Gw.below {w w':World} (h:Gw w w'):Below w.heap.size w w':=by
 obtain ⟨q,os,rfl⟩:=h
 exact ⟨rfl,rfl,rfl,by rw [size_grow];exact Nat.le_add_right _ _,fun k hk=>by
  unfold grow
  show ((w.drewN q).heap++os)[k]?=_
  rw [Array.getElem?_append_left (by exact hk)];rfl⟩
structure HrV where
 x:Hr
 A1:Option Addr
 c1:Nat
 A2:Option Addr
 c2:Nat
 A3:Option Addr
 c3:Nat
 A4:Option Addr
 c4:Nat
instance:Inhabited HrV:=⟨⟨nil7,none,0,none,0,none,0,none,0⟩⟩
def HrV.cs (r:HrV):List Value:=[.string r.x.e.n,.string r.x.e.v,.slice r.A1 r.x.e.d.length r.c1,.slice r.A2 r.x.e.r.length r.c2,.slice r.A3 r.x.e.c.length r.c3,.slice r.A4 r.x.e.p.length r.c4,.bool r.x.a,.bool r.x.h]
set_option maxHeartbeats 1000000 in
theorem name_any (r:HrV) (w:World):Calls Tryz.prog 55 #[.agg r.cs.toArray] w fun e w'=>e=.returned (.string r.x.e.n)∧Gw w w':=by
 obtain ⟨⟨⟨n,v,d,rr,c,p⟩,a,h⟩,A1,c1,A2,c2,A3,c3,A4,c4⟩:=r
 unfold HrV.cs
 go_enter Tryz.func55,Tryz.ntmps55
 go_wp2
 go_ret
 exact ⟨rfl,0,_,by rw [alloc_eq_grow];rfl⟩
end Go.Proofs.YtoopkofekekmoaaGreatDoor
namespace Go.Proofs.YtoopkofekekmoaaGreatDoor
open Go.RowKit
def rdNm:Rd ByteArray:=fun _ _ s cs=>cs=[.string s]
theorem rdNm_good:Good rdNm 1:=⟨fun h _=>h,fun h _=>h,fun h _ _=>h,fun h=>by rw [h];rfl,fun h u hu=>by rw [h,List.mem_singleton] at hu;rw [hu];rfl⟩
abbrev rdNms:Rd (List ByteArray):=rdRow 1 rdNm
theorem rdNms_good:Good rdNms 1:=rdRow_good rdNm_good
theorem rdNms_at {w:World} {S:Nat→Prop} {l:List ByteArray} {A:Option Addr} {n c:Nat} (h:rdNms w S l [.slice A n c]):n=l.length∧n≤c∧c≤maxLen∧∀k (hk:k < l.length),∃ad,A=some ad∧S ad.block∧w.cell? (ad.add k)=some (.string l[k]):=by
 obtain ⟨A',c',e,h1,h2,h⟩:=h
 simp only [List.cons.injEq,Value.slice.injEq,and_true] at e
 obtain ⟨rfl,rfl,rfl⟩:=e
 refine ⟨rfl,h1,h2,fun k hk=>?_⟩
 obtain ⟨ad,es,e,hS,rfl,hl,hc⟩:=h k hk
 have:=hc 0 _ rfl
 rw [Nat.mul_one,Nat.add_zero] at this
 exact ⟨ad,e,hS,this⟩
def RI (l:List Hr) (k:Nat):Prop:=∀j (hj:j < l.length),j < k→rgtE l[j].e=true∧∀i (hi:i < l.length),j=i+1→blt l[i].e.n l[j].e.n
theorem ri_all {l:List Hr} (h:RI l l.length):rightH l=decide (l.length≤64):=by
 unfold rightH
 have h1:l.all (fun x=>rgtE x.e)=true:=by
  rw [List.all_eq_true]
  intro x hx
  obtain ⟨j,hj,rfl⟩:=List.getElem_of_mem hx
  exact (h j hj hj).1
 have key:∀(m:List ByteArray),(∀i (h:i+1 < m.length),blt m[i] m[i+1])→risB m=true:=by
  intro m
  induction m with
  | nil=>exact fun _=>rfl
  | cons a r ih=>
   intro hm
   cases r with
   | nil=>rfl
   | cons b r=>
    unfold risB
    rw [Bool.and_eq_true]
    exact ⟨hm 0 (by simp),ih fun i hi=>hm (i+1) (by simpa using hi)⟩
 have h2:risB (l.map fun x=>x.e.n)=true:=key _ fun i hi=>by
  rw [List.length_map] at hi
  rw [List.getElem_map,List.getElem_map]
  exact (h (i+1) hi hi).2 i (by omega) rfl
 rw [h1,h2];rfl
theorem ri_no {l:List Hr} {k:Nat} (hk:k < l.length) (h:rgtE l[k].e=false):rightH l=false:=by
 rw [Bool.eq_false_iff]
 intro e
 have:=((rightH_iff l).1 e).1 _ (List.getElem_mem hk)
 rw [h] at this;cases this
theorem ri_dn {l:List Hr} {i:Nat} (hk:i+1 < l.length) (h:¬blt l[i].e.n l[i+1].e.n):rightH l=false:=by
 rw [Bool.eq_false_iff]
 intro e
 have:=ris_adj ((rightH_iff l).1 e).2.1 (i:=i) (by rw [List.length_map];exact hk)
 rw [List.getElem_map,List.getElem_map] at this
 exact h this
end Go.Proofs.YtoopkofekekmoaaGreatDoor
namespace Go.Proofs.YtoopkofekekmoaaGreatDoor
open Go.RowKit Go.Sort
set_option maxHeartbeats 2000000 in
theorem cloneh_any (A:Option Addr) (n c:Nat) (l:List Hr) (w:World) (h:rdHrs w (lt_ w.heap.size) l [.slice A n c]) (hl:l.length≤200) :
  Calls Tryz.prog 38 #[.slice A n c] w fun e w'=>(∃v',e=.returned v'∧Grow rdHr 8 (lt_ w.heap.size) w' w.heap.size 56 v' l)∧Below w.heap.size w w':=by
 have qT:∀(w:World) (a:Option Addr) (n c n' c':Nat),(binOp .eql 23 (.slice a n c) (.slice none n' c')).run Tryz.prog w=.ok (.bool a.isNone) w:=fun w a n c n' c'=>Lib.run_eql_slice_nil w _ _ a n c n' c' Tryz.underlying23
 obtain ⟨i0,hi,hz0,hz1,hz2⟩:=info_parts here_info
 obtain ⟨rfl,hnc,hcm,hat⟩:=rdHrs_at h
 have hcm':c≤9223372036854775807:=hcm
 cases A with
 | none=>
  obtain rfl:l=[]:=by
   rcases Nat.eq_zero_or_pos l.length with h0|h0
   ·exact List.eq_nil_of_length_eq_zero h0
   ·obtain ⟨_,_,_,_,_,_,_,_,_,e,_⟩:=hat 0 h0
    cases e
  clear h hat hcm
  go_enter Tryz.func38,Tryz.ntmps38
  go_wp2
  go_ret
  exact ⟨⟨_,rfl,Grow.nil _ _ _ _⟩,Below.refl _ _⟩
 | some ad=>
  have B1:=(Below.refl w.heap.size w).alloc (Nat.le_refl _) (.cells #[] 56)
  have hG:=Grow.empty (E:=rdHr) (sz:=8) (lt_ w.heap.size) (W:=w.alloc (.cells #[] 56)) (base:=w.heap.size) (heap_alloc_new w _) (Nat.le_refl _)
  have hX:=rdHrs_good.below h B1
  have hn1:([]:List Hr).length+l.length≤maxLen:=by simp only [List.length_nil];unfold maxLen;omega
  have hn2:(([]:List Hr).length+l.length)*136≤140737488355328:=by simp only [List.length_nil];omega
  have hS:∀b,lt_ w.heap.size b→lt_ w.heap.size b∧b < (w.alloc (.cells #[] 56)).heap.size∧(Value.slice (some ⟨w.heap.size,0,none⟩) 0 0).ownBlock≠some b:=fun b hb=>⟨hb,by rw [World.size_alloc];unfold lt_ at hb;omega,fun hh=>by simp only [Value.ownBlock,Option.some.injEq] at hh;unfold lt_ at hb;omega⟩
  have hbs:w.heap.size≤(w.alloc (.cells #[] 56)).heap.size:=by rw [World.size_alloc];omega
  have HB1:=Lib.hid B1
  clear h B1 hcm hat
  go_enter Tryz.func38,Tryz.ntmps38
  go_wp2_with (at_builtin;refine wpList_growN _ rfl _ _ 23 23 rfl rdHr_good (by decide) (lt_ w.heap.size) w.heap.size 56 56 i0 (.agg #[.string { data:=#[] },.string { data:=#[] },.slice none 0 0,.slice none 0 0,.slice none 0 0,.slice none 0 0,.bool false,.bool false]) 136 Tryz.underlying23 Tryz.underlying23 hi hz0 hz1 hz2 rfl _ _ rfl hG l _ (some ad) l.length c rfl hX hS hn1 hn2 hbs ?_)
  intro v' w1 hG1 hg1
  have HB2:=Lib.hid (grow_below hG hg1 HB1.out (Nat.le_refl _) hbs)
  have HG:=Lib.hid hG1
  clear hG hX hg1 hn1 hn2 hS hbs hG1
  go_wp2
  go_ret
  exact ⟨⟨_,rfl,HG.out⟩,HB2.out⟩
end Go.Proofs.YtoopkofekekmoaaGreatDoor
namespace Go.Proofs.YtoopkofekekmoaaGreatDoor
open Go.RowKit
def one9 (x y:Ent):Prop:=x.n=y.n∧x.v=y.v
instance (x y:Ent):Decidable (one9 x y):=inferInstanceAs (Decidable (_∧_))
def in9 (L:List Ent) (e:Ent):Bool:=L.any fun x=>decide (one9 x e)
def putU (L:List Ent) (e:Ent):List Ent:=L.takeWhile (fun x=>lesB x e)++e::L.dropWhile fun x=>lesB x e
def addU (L:List Ent) (e:Ent):List Ent:=if in9 L e=true then L else putU L e
def entU (ix:List Ent) (he:List Ent):List Ent:=ix.foldl addU (he.foldl putU [])
def Srt9 (L:List Ent):Prop:=L.Pairwise Les
theorem one9.refl (x:Ent):one9 x x:=⟨rfl,rfl⟩
theorem one9.symm {x y:Ent} (h:one9 x y):one9 y x:=⟨h.1.symm,h.2.symm⟩
theorem in9_iff {L:List Ent} {e:Ent}:in9 L e=true↔∃x ∈ L,one9 x e:=by
 unfold in9
 rw [List.any_eq_true]
 exact ⟨fun ⟨x,h,k⟩=>⟨x,h,of_decide_eq_true k⟩,fun ⟨x,h,k⟩=>⟨x,h,decide_eq_true k⟩⟩
theorem in9_no {L:List Ent} {e:Ent} (h:in9 L e=false):∀x ∈ L,¬one9 x e:=fun x hx k=>by rw [in9_iff.2 ⟨x,hx,k⟩] at h;cases h
theorem put9_mem {L:List Ent} {e x:Ent}:x ∈ putU L e↔x=e∨x ∈ L:=by
 have q:=List.takeWhile_append_dropWhile (p:=fun x=>lesB x e) (l:=L)
 unfold putU
 constructor
 ·intro h
  rcases List.mem_append.1 h with h|h
  ·exact .inr (mem_tw h).2
  ·rcases List.mem_cons.1 h with rfl|h
   ·exact .inl rfl
   ·exact .inr (mem_dw h)
 ·rintro (rfl|h)
  ·simp
  ·rw [←q] at h
   rcases List.mem_append.1 h with h|h
   ·exact List.mem_append.2 (.inl h)
   ·exact List.mem_append.2 (.inr (List.mem_cons_of_mem _ h))
theorem put9_srt {L:List Ent} {e:Ent} (h:Srt9 L) (hn:∀x ∈ L,¬one9 x e):Srt9 (putU L e):=by
 have q:=List.takeWhile_append_dropWhile (p:=fun x=>lesB x e) (l:=L)
 unfold Srt9 at h
 rw [←q] at h
 obtain ⟨h1,h2,h3⟩:=List.pairwise_append.1 h
 have hA:∀x ∈ L.takeWhile (fun x=>lesB x e),Les x e:=fun x hx=>(lesB_iff x e).1 (mem_tw hx).1
 have hD:∀x ∈ L.dropWhile (fun x=>lesB x e),Les e x:=by
  cases hd:L.dropWhile (fun x=>lesB x e) with
  | nil=>intro x hx;cases hx
  | cons d r=>
   have hh:=dw_head hd
   have hm:d ∈ L:=mem_dw (p:=fun x=>lesB x e) (by rw [hd];exact List.mem_cons_self ..)
   have h0:Les e d:=by
    rcases Les.tot e d with k|k|k
    ·exact k
    ·rw [(lesB_iff d e).2 k] at hh;cases hh
    ·exact absurd ⟨k.1.symm,k.2.symm⟩ (hn d hm)
   rw [hd] at h2
   intro x hx
   rcases List.mem_cons.1 hx with rfl|hx
   ·exact h0
   ·exact Les.tr h0 ((List.pairwise_cons.1 h2).1 x hx)
 unfold Srt9 putU
 refine List.pairwise_append.2 ⟨h1,List.pairwise_cons.2 ⟨hD,h2⟩,fun a ha b hb=>?_⟩
 rcases List.mem_cons.1 hb with rfl|hb
 ·exact hA a ha
 ·exact h3 a ha b hb
theorem les_no (x:Ent):¬Les x x:=Les.alike rfl rfl
theorem srt9_ext:∀{a b:List Ent},Srt9 a→Srt9 b→(∀x,x ∈ a↔x ∈ b)→a=b
 | [],[],_,_,_=>rfl
 | [],y::b,_,_,h=>absurd ((h y).2 (List.mem_cons_self ..)) (List.not_mem_nil)
 | x::a,[],_,_,h=>absurd ((h x).1 (List.mem_cons_self ..)) (List.not_mem_nil)
 | x::a,y::b,ha,hb,h=>by
  obtain ⟨ha1,ha2⟩:=List.pairwise_cons.1 ha
  obtain ⟨hb1,hb2⟩:=List.pairwise_cons.1 hb
  have e:x=y:=by
   rcases List.mem_cons.1 ((h x).1 (List.mem_cons_self ..)) with e|hx
   ·exact e
   ·rcases List.mem_cons.1 ((h y).2 (List.mem_cons_self ..)) with e|hy
    ·exact e.symm
    ·exact (Les.asym (hb1 x hx) (ha1 y hy)).elim
  subst e
  rw [srt9_ext ha2 hb2 fun z=>?_]
  constructor
  ·intro hz
   rcases List.mem_cons.1 ((h z).1 (List.mem_cons_of_mem _ hz)) with rfl|hz'
   ·exact absurd (ha1 z hz) (les_no z)
   ·exact hz'
  ·intro hz
   rcases List.mem_cons.1 ((h z).2 (List.mem_cons_of_mem _ hz)) with rfl|hz'
   ·exact absurd (hb1 z hz) (les_no z)
   ·exact hz'
def Once9 (L:List Ent):Prop:=L.Pairwise fun x y=>¬one9 x y
theorem fold_put:∀(he L:List Ent),Srt9 L→Once9 he→(∀x ∈ L,∀y ∈ he,¬one9 x y)→Srt9 (he.foldl putU L)∧∀x,x ∈ he.foldl putU L↔x ∈ L∨x ∈ he
 | [],L,h,_,_=>⟨h,fun x=>by simp⟩
 | e::r,L,h,ho,hn=>by
  obtain ⟨o1,o2⟩:=List.pairwise_cons.1 ho
  obtain ⟨k1,k2⟩:=fold_put r (putU L e) (put9_srt h fun x hx=>hn x hx e (List.mem_cons_self ..)) o2 (fun x hx y hy=>by
   rcases put9_mem.1 hx with rfl|hx
   ·exact o1 y hy
   ·exact hn x hx y (List.mem_cons_of_mem _ hy))
  refine ⟨k1,fun x=>?_⟩
  show x ∈ r.foldl putU (putU L e)↔_
  rw [k2,put9_mem,List.mem_cons]
  constructor
  ·rintro ((h|h)|h)
   ·exact .inr (.inl h)
   ·exact .inl h
   ·exact .inr (.inr h)
  ·rintro (h|h|h)
   ·exact .inl (.inr h)
   ·exact .inl (.inl h)
   ·exact .inr h
theorem add9_srt {L:List Ent} {e:Ent} (h:Srt9 L):Srt9 (addU L e):=by
 unfold addU
 split
 ·exact h
 ·rename_i q;exact put9_srt h (in9_no (Bool.eq_false_iff.2 q))
theorem add9_in {L:List Ent} {e:Ent}:in9 (addU L e) e=true:=by
 unfold addU
 split
 ·assumption
 ·exact in9_iff.2 ⟨e,put9_mem.2 (.inl rfl),one9.refl e⟩
theorem add9_more {L:List Ent} {e x:Ent} (h:x ∈ L):x ∈ addU L e:=by
 unfold addU
 split
 ·exact h
 ·exact put9_mem.2 (.inr h)
theorem fold_add_srt:∀(ix L:List Ent),Srt9 L→Srt9 (ix.foldl addU L)
 | [],L,h=>h
 | e::r,L,h=>fold_add_srt r _ (add9_srt h)
theorem fold_add_more:∀(ix L:List Ent) {x:Ent},x ∈ L→x ∈ ix.foldl addU L
 | [],L,x,h=>h
 | e::r,L,x,h=>fold_add_more r _ (add9_more h)
theorem in9_more {L M:List Ent} {e:Ent} (hm:∀x ∈ L,x ∈ M) (h:in9 L e=true):in9 M e=true:=by
 obtain ⟨x,hx,k⟩:=in9_iff.1 h
 exact in9_iff.2 ⟨x,hm x hx,k⟩
theorem fold_add_in:∀(ix L:List Ent),∀e ∈ ix,in9 (ix.foldl addU L) e=true
 | e::r,L,x,hx=>by
  rcases List.mem_cons.1 hx with rfl|hx
  ·exact in9_more (fun y hy=>fold_add_more r _ hy) add9_in
  ·exact fold_add_in r _ x hx
theorem fold_add_same:∀(ix L:List Ent),(∀e ∈ ix,in9 L e=true)→ix.foldl addU L=L
 | [],L,_=>rfl
 | e::r,L,h=>by
  show r.foldl addU (addU L e)=L
  have:addU L e=L:=by unfold addU;rw [if_pos (h e (List.mem_cons_self ..))]
  rw [this]
  exact fold_add_same r L fun x hx=>h x (List.mem_cons_of_mem _ hx)
theorem fold_add_mem:∀(ix L:List Ent),Once9 ix→∀x,x ∈ ix.foldl addU L↔x ∈ L∨(x ∈ ix∧in9 L x=false)
 | [],L,_,x=>by simp
 | e::r,L,ho,x=>by
  obtain ⟨o1,o2⟩:=List.pairwise_cons.1 ho
  show x ∈ r.foldl addU (addU L e)↔_
  rw [fold_add_mem r (addU L e) o2 x]
  by_cases q:in9 L e=true
  ·have e1:addU L e=L:=by unfold addU;rw [if_pos q]
   rw [e1,List.mem_cons]
   constructor
   ·rintro (h|⟨h,k⟩)
    ·exact .inl h
    ·exact .inr ⟨.inr h,k⟩
   ·rintro (h|⟨rfl|h,k⟩)
    ·exact .inl h
    ·rw [q] at k;cases k
    ·exact .inr ⟨h,k⟩
  ·have q':=Bool.eq_false_iff.2 q
   have e1:addU L e=putU L e:=by unfold addU;rw [if_neg q]
   rw [e1,put9_mem,List.mem_cons]
   constructor
   ·rintro ((rfl|h)|⟨h,k⟩)
    ·exact .inr ⟨.inl rfl,q'⟩
    ·exact .inl h
    ·refine .inr ⟨.inr h,Bool.eq_false_iff.2 fun z=>?_⟩
     rw [in9_more (fun y hy=>put9_mem.2 (.inr hy)) z] at k;cases k
   ·rintro (h|⟨rfl|h,k⟩)
    ·exact .inl (.inr h)
    ·exact .inl (.inl rfl)
    ·refine .inr ⟨h,Bool.eq_false_iff.2 fun z=>?_⟩
     obtain ⟨y,hy,w⟩:=in9_iff.1 z
     rcases put9_mem.1 hy with rfl|hy
     ·exact o1 x h w
     ·rw [in9_iff.2 ⟨y,hy,w⟩] at k;cases k
theorem entU_srt {ix he:List Ent} (h:Once9 he):Srt9 (entU ix he):=fold_add_srt _ _ (fold_put he [] List.Pairwise.nil h (fun x hx=>by cases hx)).1
theorem here_in {ix he:List Ent} (h:Once9 he):∀e ∈ he,e ∈ entU ix he:=fun e hx=>fold_add_more _ _ (((fold_put he [] List.Pairwise.nil h (fun x hx=>by cases hx)).2 e).2 (.inr hx))
theorem entU_twice {ix he:List Ent} (h:Once9 he):entU (ix++ix++he) he=entU ix he:=by
 have e:entU (ix++ix++he) he=he.foldl addU (ix.foldl addU (entU ix he)):=by unfold entU;rw [List.foldl_append,List.foldl_append]
 rw [e,fold_add_same ix (entU ix he) (fold_add_in ix _),fold_add_same he (entU ix he) fun x hx=>in9_iff.2 ⟨x,here_in h x hx,one9.refl x⟩]
theorem entU_turn {ix iy he:List Ent} (h:Once9 he) (hx:Once9 ix) (hy:Once9 iy) (hm:∀x,x ∈ ix↔x ∈ iy):entU ix he=entU iy he:=by
 refine srt9_ext (entU_srt h) (entU_srt h) fun x=>?_
 unfold entU
 rw [fold_add_mem ix _ hx,fold_add_mem iy _ hy,hm]
theorem once9_rot {ix:List Ent} (h:Once9 ix) (n:Nat):Once9 (ix.drop n++ix.take n):=by
 unfold Once9 at h ⊢
 rw [←List.take_append_drop n ix] at h
 obtain ⟨h1,h2,h3⟩:=List.pairwise_append.1 h
 exact List.pairwise_append.2 ⟨h2,h1,fun a ha b hb k=>h3 b hb a ha k.symm⟩
theorem rot_mem {ix:List Ent} {n:Nat} (x:Ent):x ∈ ix↔x ∈ ix.drop n++ix.take n:=by
 conv=>lhs;rw [←List.take_append_drop n ix]
 rw [List.mem_append,List.mem_append]
 exact ⟨fun h=>h.elim .inr .inl,fun h=>h.elim .inr .inl⟩
theorem once_right {l:List Hr} (h:Ris (l.map fun x=>x.e.n)):Once9 (l.map fun x=>x.e):=by
 unfold Once9 Ris at *
 rw [List.pairwise_map] at h ⊢
 refine h.imp ?_
 intro a b hab k
 have q:a.e.n=b.e.n:=k.1
 rw [q] at hab
 exact blt_self _ hab
def ixU (p:Ent→Bool):List Ent→Nat→List Int
 | [],_=>[]
 | x::r,i=>if p x=true then (i:Int)::ixU p r (i+1) else ixU p r (i+1)
def plU (n v:ByteArray):List Ent→Nat→Int
 | [],_=>-1
 | x::r,i=>if x.n=n∧x.v=v then (i:Int) else plU n v r (i+1)
def isN (n:ByteArray) (x:Ent):Bool:=decide (x.n=n)
def nmU:Option ByteArray→List Ent→List ByteArray
 | _,[]=>[]
 | p,x::r=>if p=some x.n then nmU p r else x.n::nmU (some x.n) r
theorem ixU_cons (p:Ent→Bool) (x:Ent) (r:List Ent) (i:Nat):ixU p (x::r) i=if p x=true then (i:Int)::ixU p r (i+1) else ixU p r (i+1):=rfl
theorem plU_cons (n v:ByteArray) (x:Ent) (r:List Ent) (i:Nat):plU n v (x::r) i=if x.n=n∧x.v=v then (i:Int) else plU n v r (i+1):=rfl
theorem nmU_cons (p:Option ByteArray) (x:Ent) (r:List Ent):nmU p (x::r)=if p=some x.n then nmU p r else x.n::nmU (some x.n) r:=rfl
theorem ixU_mem {p:Ent→Bool}:∀{L:List Ent} {i:Nat} {k:Int},k ∈ ixU p L i↔∃j,∃h:j < L.length,k=((i+j:Nat):Int)∧p L[j]=true
 | [],i,k=>by simp [ixU]
 | x::r,i,k=>by
  have ih:=ixU_mem (p:=p) (L:=r) (i:=i+1) (k:=k)
  have hr:(∃j,∃h:j < (x::r).length,k=((i+j:Nat):Int)∧p (x::r)[j]=true)↔(k=(i:Int)∧p x=true)∨∃j,∃h:j < r.length,k=((i+1+j:Nat):Int)∧p r[j]=true:=by
   constructor
   ·rintro ⟨j,h,e,q⟩
    cases j with
    | zero=>exact .inl ⟨e,q⟩
    | succ j=>exact .inr ⟨j,by simpa using h,by rw [e];congr 1;omega,q⟩
   ·rintro (⟨e,q⟩|⟨j,h,e,q⟩)
    ·exact ⟨0,by simp,e,q⟩
    ·exact ⟨j+1,by simpa using h,by rw [e];congr 1;omega,q⟩
  rw [hr,←ih,ixU_cons]
  split
  ·rename_i h
   rw [List.mem_cons]
   exact ⟨fun q=>q.elim (fun e=>.inl ⟨e,h⟩) .inr,fun q=>q.elim (fun e=>.inl e.1) .inr⟩
  ·rename_i h
   exact ⟨.inr,fun q=>q.elim (fun e=>absurd e.2 h) id⟩
theorem ixU_app {p:Ent→Bool}:∀(a b:List Ent) (i:Nat),ixU p (a++b) i=ixU p a i++ixU p b (i+a.length)
 | [],b,i=>rfl
 | x::r,b,i=>by
  have ih:=ixU_app (p:=p) r b (i+1)
  rw [List.cons_append,List.length_cons,show i+(r.length+1)=i+1+r.length by omega]
  rw [ixU_cons,ixU_cons]
  split
  ·rw [ih];rfl
  ·rw [ih]
theorem ent9_info:(Tryz.prog.info? 53).map (fun i=>(i.zero,i.size,i.bytes))=some (some (.agg #[.string { data:=#[] },.string { data:=#[] },.slice none 0 0,.slice none 0 0,.slice none 0 0,.slice none 0 0]),6,128):=by kernel_rfl
theorem int9_info:(Tryz.prog.info? 3).map (fun i=>(i.zero,i.size,i.bytes))=some (some (.int .i64 0),1,8):=by kernel_rfl
def heldR9:Value→Option (DataW Value × List MemPlace):=fun v=>some (.held v,[])
def MapF (P:Program) (k:TypeId) (z:Value) (w:World) (b n:Nat) (f:ByteArray→Value):Prop:=
 ∃D:DataW Value,w.ownsMap P k heldR9 b n D∧∀s:ByteArray,s.size≤maxLen→D.atKey (.string s.data.toList) (.held z)=.held (f s)
def upd9 {α:Type} (f:ByteArray→α) (s:ByteArray) (v:α):ByteArray→α:=fun x=>if x=s then v else f x
theorem upd9_same {α:Type} (f:ByteArray→α) (s:ByteArray) (v:α):upd9 f s v s=v:=if_pos rfl
theorem upd9_ne {α:Type} (f:ByteArray→α) {s x:ByteArray} (v:α) (h:x≠s):upd9 f s v x=f x:=if_neg h
section
variable {P:Program} {k t e:TypeId} {z:Value} {w w':World} {b n:Nat} {f:ByteArray→Value}
theorem MapF.made (w:World) (P:Program) (k:TypeId) (z:Value):MapF P k z (w.alloc (.map #[] 0)) w.heap.size 0 (fun _=>z):=
 ⟨_,World.ownsMap_made _ _ _ _,fun s _=>rfl⟩
theorem MapF.lt (h:MapF P k z w b n f):b < w.heap.size:=by obtain ⟨D,h,_⟩:=h;exact h.lt
theorem MapF.kept {row:Option Nat} (h:MapF P k z w b n f) (hg:w.grownBy w' row) (hne:some b≠row):MapF P k z w' b n f:=by
 obtain ⟨D,h,q⟩:=h
 exact ⟨D,h.kept hg hne,q⟩
theorem MapF.same (h:MapF P k z w b n f) (hb:w'.heap[b]?=w.heap[b]?):MapF P k z w' b n f:=by
 obtain ⟨D,⟨es,clock,h1,h2⟩,q⟩:=h
 exact ⟨D,⟨es,clock,hb.trans h1,h2⟩,q⟩
theorem MapF.below {N:Nat} (h:MapF P k z w b n f) (hb:b < N) (hB:Below N w w'):MapF P k z w' b n f:=h.same (hB.block b hb)
theorem MapF.look (h:MapF P k z w b n f) (K:Maps.Keyed P k) (hk:P.underlying k=some .string) (ht:P.underlying t=some (.map k e)) (hz:(zeroValue e).run P w=.ok z w) (s:ByteArray) (hs:s.size≤maxLen) :
  (Instr.lookup t (.map (some b)) (.string s) false).run P w=.ok (f s) w:=by
 obtain ⟨D,h,q⟩:=h
 obtain ⟨v,ps,hr,hv⟩:=h.lookup K ht hz (zd:=.held z) (zp:=[]) rfl (WideMaps.keyOf_string_mk hk hs)
 rw [q s hs] at hv
 have e1:v=f s:=by
  have:=congrArg Prod.fst (Option.some.inj hv)
  exact DataW.held.inj this
 rw [hr,e1]
theorem MapF.put (h:MapF P k z w b n f) (K:Maps.Keyed P k) (hk:P.underlying k=some .string) (ht:P.underlying t=some (.map k e)) (hn:n < maxLen) (s:ByteArray) (hs:s.size≤maxLen) (v:Value) :
  ∃w',(Instr.mapUpdate t (.map (some b)) (.string s) v).run P w=.ok () w'∧MapF P k z w' b (n+1) (upd9 f s v)∧w.grownBy w' (some b):=by
 obtain ⟨D,h,q⟩:=h
 obtain ⟨w',hr,ho,hg⟩:=h.update K ht hn (WideMaps.keyOf_string_mk hk hs) (d:=.held v) (ps:=[]) rfl
 refine ⟨w',hr,⟨_,ho,fun x hx=>?_⟩,hg⟩
 have hM:Maps.IsMap D:=by
  obtain ⟨es,clock,_,_,_,hD⟩:=h
  exact ⟨_,hD⟩
 by_cases e:x=s
 ·subst e
  rw [Maps.atKey_put_same hM (show WideAt.IsKeyLit (.string x.data.toList) from trivial),upd9_same]
 ·rw [Maps.atKey_put_other (fun hh=>e ?_),upd9_ne _ _ e]
  ·exact q x hx
  ·injection hh with hh
   cases x;cases s
   simp only [ByteArray.mk.injEq]
   exact Array.toList_inj.1 hh
theorem wpList_mapUpdate_fn {ops:Array Oper} {rest:List Oper} {o:Oper} {a:Act} {Q:Exit→Act→World→Prop}
  (hg:o.guard=none) (m x y:Operand) (hop:o.op=Op.mapUpdate t m x y) (K:Maps.Keyed P k) (hk:P.underlying k=some .string) (ht:P.underlying t=some (.map k e)) (h:MapF P k z w b n f)
  (hm:a.eval m=.map (some b)) (hn:n < maxLen) (s:ByteArray) (v:Value) (hx:a.eval x=.string s) (hy:a.eval y=v) (hs:s.size≤maxLen)
  (hK:∀w',MapF P k z w' b (n+1) (upd9 f s v)→w.grownBy w' (some b)→wpList P ops Q rest (a.put o.dst undef) w') :
  wpList P ops Q (o::rest) a w:=by
 refine wpList_plain hg fun K' hK'=>?_
 obtain ⟨w',hrun,r1,r2⟩:=h.put K hk ht hn s hs v
 unfold Oper.wp
 simp [execOp,hop,hm,hx,hy,hrun,Result.andThen]
 exact hK' _ _ (hK w' r1 r2)
end
section
variable {α:Type} {E:Rd α} {sz:Nat}
theorem Grow.blk (g:Good E sz) {T:Nat→Prop} {W:World} {base b:Nat} {e:TypeId} {blk:Array Value} {l:List α} {css:List (List Value)} (hb:W.heap[b]?=some (.cells blk e (0,0))) (hbase:base≤b)
  (hl:css.length=l.length) (hf:blk.toList=css.flatten) (hm:l.length≤1000) (hE:∀k (hk:k < l.length),∃cs,css[k]?=some cs∧E W (fun x=>T x∧x < W.heap.size∧(Value.slice (some ⟨b,0,none⟩) l.length l.length).ownBlock≠some x) l[k] cs) :
  Grow E sz T W base e (.slice (some ⟨b,0,none⟩) l.length l.length) l:=by
 have hls:∀cs ∈ css,cs.length=sz:=fun cs hc=>by
  obtain ⟨k,hk,rfl⟩:=List.getElem_of_mem hc
  obtain ⟨cs,h1,h2⟩:=hE k (by omega)
  rw [List.getElem?_eq_getElem hk] at h1
  injection h1 with h1
  rw [h1];exact g.len h2
 have hlen:css.flatten.length=l.length*sz:=by rw [flatten_len sz hls,hl]
 have hbs:blk.size=l.length*sz:=by rw [←hlen,←hf,Array.length_toList]
 exact ⟨css,hl,⟨hlen,.inr ⟨b,l.length,blk,rfl,hbase,hb,Nat.le_refl _,by unfold maxLen;omega,hbs,by rw [←hf,List.take_of_length_le (by rw [Array.length_toList,hbs];exact Nat.le_refl _)]⟩⟩,hE⟩
end
end Go.Proofs.YtoopkofekekmoaaGreatDoor
namespace Go.Proofs.YtoopkofekekmoaaGreatDoor
open Go.Sort
section
variable {α:Type} [Inhabited α] (lt:α→α→Bool)
variable {lt}
def rng (P X M Y Q:List α) (s:Nat):List α:=P++((Y.take s++X.drop s)++(M++((X.take s++Y.drop s)++Q)))
end
end Go.Proofs.YtoopkofekekmoaaGreatDoor
namespace Go.Proofs.YtoopkofekekmoaaGreatDoor
open Go.RowKit Go.Sort
section
variable {α:Type} [Inhabited α] {enc:α→List Value} {k:Nat} {w W:World} {blk off:Nat} {d:Array α}
theorem swk_heap (h:SWK enc k w blk off d W) {cur:Array Value} {e:TypeId} {fr:Nat × Nat} (hb:w.heap[blk]?=some (.cells cur e fr)):∃cur',W.heap[blk]?=some (.cells cur' e fr)∧cur'.size=cur.size:=by
 obtain ⟨n,os,rfl⟩:=h
 have hlt:blk < w.heap.size:=(Array.getElem?_eq_some_iff.1 hb).1
 refine ⟨putCells id off (flatK enc k d) cur,?_,by simp [putCells]⟩
 unfold sortWorldK
 rw [heap_grow_old _ _ (by rw [size_putRowK];exact hlt)]
 unfold putRowK putRow mapBlock
 simp only [Array.getElem?_modify,if_true]
 show (w.heap[blk]?).map _=_
 rw [hb];rfl
theorem swk_other (h:SWK enc k w blk off d W):∀b,b≠blk→b < w.heap.size→W.heap[b]?=w.heap[b]?:=by
 obtain ⟨n,os,rfl⟩:=h
 intro b hb hlt
 unfold sortWorldK
 rw [heap_grow_old _ _ (by rw [size_putRowK];exact hlt)]
 unfold putRowK putRow mapBlock
 simp only [Array.getElem?_modify,if_neg (Ne.symm hb)]
 rfl
theorem swk_below (h:SWK enc k w blk off d W) {N:Nat} (hN:N≤blk) (hlt:blk < w.heap.size):Below N w W:=by
 refine ⟨?_,?_,?_,h.le,fun b hb=>swk_other h b (by omega) (by omega)⟩
 ·obtain ⟨n,os,rfl⟩:=h;rfl
 ·obtain ⟨n,os,rfl⟩:=h;rfl
 ·obtain ⟨n,os,rfl⟩:=h;rfl
end
end Go.Proofs.YtoopkofekekmoaaGreatDoor
namespace Go.Proofs.YtoopkofekekmoaaGreatDoor
open Go.RowKit
def insU (l:List Ent) (m:List Hr):List Int:=m.map fun y=>plU y.e.n y.e.v l 0
theorem insU_step {l:List Ent} {m:List Hr} {k:Nat} (hk:k < m.length):insU l (m.take (k+1))=insU l (m.take k)++[plU m[k].e.n m[k].e.v l 0]:=by
 unfold insU
 rw [List.take_succ_eq_append_getElem hk,List.map_append];rfl
end Go.Proofs.YtoopkofekekmoaaGreatDoor
