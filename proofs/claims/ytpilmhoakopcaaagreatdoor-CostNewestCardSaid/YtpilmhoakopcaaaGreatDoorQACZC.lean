/- What the laws rest on: E7g, HeldL, HeldG, E7j, E7l, E9d, E10c, E9e, N10a, Rel1, Rel2, Ver1, BackP. -/
import Derived.OrdersHeld
import Derived.Deep.RegionHeld
import Derived.Lib.QuietBelow
import Derived.Stop.BytesEq
import Derived.Laws.StructEq
import Derived.Test.YtpilmhoakopcaaaGreatDoorQABZC
set_option maxRecDepth 100000
set_option linter.unusedVariables false
set_option linter.unusedSimpArgs false
namespace Go.Proofs.YtpilmhoakopcaaaGreatDoor
open Go.RowKit
theorem here_info:(Tryz.prog.info? 67).map (fun i=>(i.zero,i.size,i.bytes))=some (some (.agg #[.string { data:=#[] },.string { data:=#[] },.slice none 0 0,.slice none 0 0,.slice none 0 0,.slice none 0 0,.bool false,.bool false]),8,136):=by kernel_rfl
theorem EntV.hr {w:World} {S:Nat→Prop} {x:Hr} {A1 A2 A3 A4:Option Addr} {c1 c2 c3 c4:Nat} (h:EntV w S x.e A1 c1 A2 c2 A3 c3 A4 c4):rdHr w S x (#[.string x.e.n,.string x.e.v,.slice A1 x.e.d.length c1,.slice A2 x.e.r.length c2,.slice A3 x.e.c.length c3,.slice A4 x.e.p.length c4,.bool x.a,.bool x.h]:Array Value).toList:=
 ⟨[.string x.e.n,.string x.e.v,.slice A1 x.e.d.length c1,.slice A2 x.e.r.length c2,.slice A3 x.e.c.length c3,.slice A4 x.e.p.length c4],rfl,_,_,_,_,rfl,h.d,h.r,h.c,h.p⟩
end Go.Proofs.YtpilmhoakopcaaaGreatDoor
namespace Go.Proofs.YtpilmhoakopcaaaGreatDoor
open Go
section
variable {P:Program} {ops:Array Oper} {Q:Exit→Act→World→Prop} {md:Region.Mode} {S:World→Prop} {z:Nat}
def wpAnyL (P:Program) (md:Region.Mode) (ops:Array Oper) (Q:Exit→Act→World→Prop) (S:World→Prop) (z:Nat):Nat→Array Bool→Act→World→Prop
 | 0,listed,a,w=>Region.ready md ops listed=[]∧Q .normal a w
 | fuel+1,listed,a,w=>
  (Region.ready md ops listed=[]→Q .normal a w)∧
  ∀i ∈ Region.ready md ops listed,wpOp P ops Q i (fun a' w'=>(i≠z→S w')∧wpAnyL P md ops Q S z fuel (listed.setIfInBounds i true) a' w') a w
theorem wpAny_of_L:∀(fuel:Nat) (listed:Array Bool) (a:Act) (w:World),wpAnyL P md ops Q S z fuel listed a w→wpAny P md ops Q fuel listed a w
 | 0,_,_,_,h=>h
 | fuel+1,_,_,_,h=>⟨h.1,fun i hi=>wpOp_mono (fun a' w' h'=>wpAny_of_L fuel _ a' w' h'.2) (h.2 i hi)⟩
def Full (md:Region.Mode) (ops:Array Oper) (listed:Array Bool):Prop:=∀j o,ops[j]?=some o→listed.getD j false=true→∀e ∈ o.after,Region.binds md e=true→listed.getD e.on false=true
def fullB (md:Region.Mode) (ops:Array Oper) (listed:Array Bool):Bool:=
 (List.range ops.size).all fun j=>!listed.getD j false||((ops[j]?).map (·.after.all fun e=>!Region.binds md e||listed.getD e.on false)).getD true
theorem full_of {listed:Array Bool} (h:fullB md ops listed=true):Full md ops listed:=by
 intro j o ho hj e he hb
 have hlt:j < ops.size:=(Array.getElem?_eq_some_iff.1 ho).1
 unfold fullB at h
 rw [List.all_eq_true] at h
 have:=h j (List.mem_range.2 hlt)
 rw [ho,hj] at this
 simp only [Bool.not_true,Bool.false_or,Option.map_some,Option.getD_some] at this
 have:=Array.all_eq_true_iff_forall_mem.1 this e he
 rw [hb] at this
 simpa using this
theorem Full.step {listed:Array Bool} {i:Nat} (h:Full md ops listed) (hi:i ∈ Region.ready md ops listed):Full md ops (listed.setIfInBounds i true):=by
 intro j o ho hj e he hb
 obtain ⟨_,oi,hoi,hall⟩:=mem_ready.1 hi
 by_cases hji:i=j
 ·subst hji
  rw [hoi] at ho
  injection ho with ho
  subst ho
  exact getD_set_true (hall e he hb)
 ·rw [getD_set_ne false hji] at hj
  exact getD_set_true (h j o ho hj e he hb)
def waitB (md:Region.Mode) (ops:Array Oper):List Nat→Bool
 | j::k::r=>((ops[j]?).map (·.after.any fun e=>Region.binds md e&&e.on==k)).getD false&&waitB md ops (k::r)
 | _=>true
theorem wait_edge {j k:Nat} (h:((ops[j]?).map (·.after.any fun e=>Region.binds md e&&e.on==k)).getD false=true):∃o e,ops[j]?=some o∧e ∈ o.after∧Region.binds md e=true∧e.on=k:=by
 cases ho:ops[j]? with
 | none=>rw [ho] at h;simp at h
 | some o=>
  rw [ho] at h
  simp only [Option.map_some,Option.getD_some] at h
  obtain ⟨e,he,hb⟩:=Array.any_eq_true'.1 h
  simp only [Bool.and_eq_true,beq_iff_eq] at hb
  exact ⟨o,e,rfl,he,hb.1,hb.2⟩
theorem wait_listed {listed:Array Bool} (hc:Full md ops listed) {i:Nat}:∀(r:List Nat) (j:Nat),waitB md ops (j::(r++[i]))=true→(∀o,ops[j]?=some o→∀e ∈ o.after,Region.binds md e=true→listed.getD e.on false=true)→listed.getD i false=true
 | [],j,h,hj=>by
  unfold waitB at h
  rw [List.nil_append] at h
  simp only [Bool.and_eq_true] at h
  obtain ⟨o,e,ho,he,hb,rfl⟩:=wait_edge h.1
  exact hj o ho e he hb
 | k::r,j,h,hj=>by
  rw [List.cons_append] at h
  unfold waitB at h
  simp only [Bool.and_eq_true] at h
  obtain ⟨o,e,ho,he,hb,rfl⟩:=wait_edge h.1
  exact wait_listed hc r e.on h.2 fun o' ho'=>hc e.on o' ho' (hj o ho e he hb)
theorem wpAnyL_first {i:Nat} {oi:Oper} {v:Value} (hi:ops[i]?=some oi) (hsel:∀(j:Nat) (o:Oper) cs b,ops[j]?=some o→o.op≠.select cs b)
  (hQ:∀c a w,Q (.panic c) (a.put oi.dst v) w→Q (.panic c) a w) (hiz:i≠z) (hz:∀listed,Full md ops listed→z ∈ Region.ready md ops listed→listed.getD i false=true) :
  ∀(fuel:Nat) (listed:Array Bool) (a:Act) (w:World),Full md ops listed→
   (∀j oj,ops[j]?=some oj→j≠i→listed.getD j true=false→(∀e ∈ oj.after,Region.binds md e=true→e.on≠i)→oi.apart ops oj=true)→
   i ∈ Region.ready md ops listed→YieldsIf P ops S oi v a→S w→
   wpAnyL P md ops Q S z fuel (listed.setIfInBounds i true) (a.put oi.dst v) w→wpAnyL P md ops Q S z (fuel+1) listed a w:=by
 intro fuel
 induction fuel with
 | zero=>
  intro listed a w _ _ hr hy hS H
  refine ⟨fun h=>(by rw [h] at hr;cases hr),fun j hj=>?_⟩
  by_cases hji:j=i
  ·subst hji;exact hy.wpOp hi hS ⟨fun _=>hS,H⟩
  ·have:=ready_mono hj hji
   rw [H.1] at this
   cases this
 | succ fuel ih=>
  intro listed a w hc hfree hr hy hS H
  refine ⟨fun h=>(by rw [h] at hr;cases hr),fun j hj=>?_⟩
  by_cases hji:j=i
  ·subst hji;exact hy.wpOp hi hS ⟨fun _=>hS,H⟩
  ·have h1:=H.2 j (ready_mono hj hji)
   obtain ⟨hjun,oj,hoj,hall⟩:=mem_ready.1 hj
   have hil:listed.getD i false=false:=by
    have h0:=(mem_ready.1 hr).1
    rcases Nat.lt_or_ge i listed.size with h'|h'
    ·simp [h'] at h0 ⊢;exact h0
    ·simp [Array.getElem?_eq_none h']
   have hnot:∀e ∈ oj.after,Region.binds md e=true→e.on≠i:=fun e he hb heq=>by
    have h1:=hall e he hb
    rw [heq,hil] at h1
    cases h1
   have hjz:j≠z:=fun e=>by
    subst e
    rw [hz listed hc hj] at hil
    cases hil
   have h2:=wpOp_putIf hoj (hfree j oj hoj hji hjun hnot) (fun cs b=>hsel i oi cs b hi) (fun cs b=>hsel j oj cs b hoj) hQ hy h1
   have hfree':∀k ok,ops[k]?=some ok→k≠i→(listed.setIfInBounds j true).getD k true=false→
     (∀e ∈ ok.after,Region.binds md e=true→e.on≠i)→oi.apart ops ok=true:=fun k ok hk hki hun hno=>by
    refine hfree k ok hk hki ?_ hno
    by_cases hjk:j=k
    ·subst hjk;exact hjun
    ·rw [getD_set_ne true hjk] at hun;exact hun
   refine wpOp_mono (fun a' w' h3=>⟨h3.2.1,ih (listed.setIfInBounds j true) a' w' (hc.step hj) hfree' (ready_mono hr (Ne.symm hji)) h3.1 (h3.2.1 hjz) ?_⟩) h2
   rw [Array.setIfInBounds_comm _ _ hji]
   exact h3.2.2
theorem wpAnyL_take {i:Nat} {oi:Oper} {v:Value} {fuel:Nat} {listed:Array Bool} {a:Act} {w:World} (r:List Nat) (hi:ops[i]?=some oi)
  (hs:Region.noSelect ops=true) (hf:Region.free md ops listed i=true) (hr:(Region.ready md ops listed).contains i=true)
  (hQ:∀c a w,Q (.panic c) (a.put oi.dst v) w→Q (.panic c) a w) (hiz:(i==z)=false) (hw:waitB md ops (z::(r++[i]))=true) (hc:fullB md ops listed=true) (hy:YieldsIf P ops S oi v a) (hS:S w)
  (h:wpAnyL P md ops Q S z fuel (listed.setIfInBounds i true) (a.put oi.dst v) w):wpAnyL P md ops Q S z (fuel+1) listed a w:=
 wpAnyL_first hi (Region.noSelect_spec hs) hQ (by simpa using hiz) (fun L hL hzL=>by
  obtain ⟨_,o,ho,hall⟩:=mem_ready.1 hzL
  exact wait_listed hL r z hw fun o' ho'=>by rw [ho] at ho';injection ho' with ho';subst ho';exact hall)
  fuel listed a w (full_of hc) (Region.free_spec hi hf) (by simpa using hr) hy hS h
theorem wpAnyL_done {listed:Array Bool} {a:Act} {w:World} (hr:Region.ready md ops listed=[]) (h:Q .normal a w) :
  ∀fuel,wpAnyL P md ops Q S z fuel listed a w
 | 0=>⟨hr,h⟩
 | _+1=>⟨fun _=>h,by rw [hr];simp⟩
theorem wpAnyL_one {i:Nat} {o:Oper} {fuel:Nat} {listed:Array Bool} {a:Act} {w:World} (hr:Region.ready md ops listed=[i]) (ho:ops[i]?=some o)
  (h:∀K':Act→World→Prop,Shut (∀a w,S w→(S w→wpAnyL P md ops Q S z fuel (listed.setIfInBounds i true) a w)→K' a w)→if Region.wanted o (yielded ops a.tmps)=true then Oper.wp P o a w K' Q else K' (a.put o.dst undef) w) :
  wpAnyL P md ops Q S z (fuel+1) listed a w:=by
 refine ⟨fun h0=>(by rw [hr] at h0;cases h0),fun j hj=>?_⟩
 rw [hr,List.mem_singleton] at hj
 subst hj
 exact wpOp_step ho fun K' hK=>h K' (fun a w hS hW=>hK a w ⟨fun _=>hS,hW hS⟩)
theorem wpAnyL_last {o:Oper} {fuel:Nat} {listed:Array Bool} {a:Act} {w:World} (hr:Region.ready md ops listed=[z]) (ho:ops[z]?=some o) (hr2:Region.ready md ops (listed.setIfInBounds z true)=[])
  (h:∀K':Act→World→Prop,Shut (∀a w,Q .normal a w→K' a w)→if Region.wanted o (yielded ops a.tmps)=true then Oper.wp P o a w K' Q else K' (a.put o.dst undef) w) :
  wpAnyL P md ops Q S z (fuel+1) listed a w:=by
 refine ⟨fun h0=>(by rw [hr] at h0;cases h0),fun j hj=>?_⟩
 rw [hr,List.mem_singleton] at hj
 subst hj
 exact wpOp_step ho fun K' hK=>h K' (fun a w hq=>hK a w ⟨fun h=>absurd rfl h,wpAnyL_done hr2 hq _⟩)
theorem wp_region_L {id:Nat} {a:Act} {w:World} (S:World→Prop) (z:Nat) (hm:P.follows .mixedOrders=true) (hS:S w.drew)
  (h:S w.drew→wpAnyL P .any ops Q S z ops.size (Array.replicate ops.size false) a w.drew):(Code.region id ops true).wp P Q a w:=
 wp_region_any hm (wpAny_of_L _ _ _ _ (h hS))
end
end Go.Proofs.YtpilmhoakopcaaaGreatDoor
namespace Go.Proofs.YtpilmhoakopcaaaGreatDoor
open Go.RowKit
section
variable {α:Type} {E:Rd α} {sz:Nat} {ty:TypeId}
theorem one_rd {w:World} {S:Nat→Prop} {b:Nat} {y:α} {blk:Array Value} (g:Good E sz) (hb:w.heap[b]?=some (.cells blk ty (0,0))) (hE:E w S y blk.toList) (hS:S b):rdRow sz E w S [y] [.slice (some ⟨b,0,none⟩) 1 1]:=
 rd_block g (S:=S) (l:=[y]) (css:=[blk.toList]) (by simpa using hb) hS rfl rfl (fun k hk=>by
  simp only [List.length_singleton] at hk
  obtain rfl:k=0:=by omega
  exact ⟨_,rfl,hE⟩) (by simp)
theorem wp_region_D {P:Program} {ops:Array Oper} {Q:Exit→Act→World→Prop} {id:Nat} {a:Act} {w w0:World} (S:World→Prop) (z:Nat) (hm:P.follows .mixedOrders=true) (hd:Dr w0 w) (hS:∀V,Dr w0 V→S V)
  (h:∀V,Dr w0 V→S V→wpAnyL P .any ops Q S z ops.size (Array.replicate ops.size false) a V):(Code.region id ops true).wp P Q a w:=
 wp_region_L S z hm (hS _ (hd.more 1)) (fun hs=>h _ (hd.more 1) hs)
end
def rdNm:Rd ByteArray:=fun _ _ s cs=>cs=[.string s]
theorem rdNm_good:Good rdNm 1:=⟨fun h _=>h,fun h _=>h,fun h _ _=>h,fun h=>by rw [h];rfl,fun h u hu=>by rw [h,List.mem_singleton] at hu;rw [hu];rfl⟩
abbrev rdNms:Rd (List ByteArray):=rdRow 1 rdNm
theorem rdNms_good:Good rdNms 1:=rdRow_good rdNm_good
def RI (l:List Hr) (k:Nat):Prop:=∀j (hj:j < l.length),j < k→rgtE l[j].e=true∧∀i (hi:i < l.length),j=i+1→blt l[i].e.n l[j].e.n
theorem ri_all {l:List Hr} (h:RI l l.length):rightH l=decide (l.length≤64):=by
 unfold rightH
 have h1:l.all (fun x=>rgtE x.e)=true:=by
  rw [List.all_eq_true]
  intro x hx
  obtain ⟨j,hj,rfl⟩:=List.getElem_of_mem hx
  exact (h j hj hj).1
 have key:∀(m:List ByteArray),(∀i (h:i+1 < m.length),blt m[i] m[i+1])→risB m=true:=by
  intro m
  induction m with
  | nil=>exact fun _=>rfl
  | cons a r ih=>
   intro hm
   cases r with
   | nil=>rfl
   | cons b r=>
    unfold risB
    rw [Bool.and_eq_true]
    exact ⟨hm 0 (by simp),ih fun i hi=>hm (i+1) (by simpa using hi)⟩
 have h2:risB (l.map fun x=>x.e.n)=true:=key _ fun i hi=>by
  rw [List.length_map] at hi
  rw [List.getElem_map,List.getElem_map]
  exact (h (i+1) hi hi).2 i (by omega) rfl
 rw [h1,h2];rfl
theorem ri_no {l:List Hr} {k:Nat} (hk:k < l.length) (h:rgtE l[k].e=false):rightH l=false:=by
 rw [Bool.eq_false_iff]
 intro e
 have:=((rightH_iff l).1 e).1 _ (List.getElem_mem hk)
 rw [h] at this;cases this
theorem ri_dn {l:List Hr} {i:Nat} (hk:i+1 < l.length) (h:¬blt l[i].e.n l[i+1].e.n):rightH l=false:=by
 rw [Bool.eq_false_iff]
 intro e
 have:=ris_adj ((rightH_iff l).1 e).2.1 (i:=i) (by rw [List.length_map];exact hk)
 rw [List.getElem_map,List.getElem_map] at this
 exact h this
theorem ent9_info:(Tryz.prog.info? 60).map (fun i=>(i.zero,i.size,i.bytes))=some (some (.agg #[.string { data:=#[] },.string { data:=#[] },.slice none 0 0,.slice none 0 0,.slice none 0 0,.slice none 0 0]),6,128):=by kernel_rfl
theorem int9_info:(Tryz.prog.info? 3).map (fun i=>(i.zero,i.size,i.bytes))=some (some (.int .i64 0),1,8):=by kernel_rfl
theorem ixU_nat {p:Ent→Bool} {U:List Ent} {x:Int} (h0:0≤x) (h1:x < (U.length:Int)):x ∈ ixU p U 0↔p (entA U x)=true:=by
 obtain ⟨j,rfl⟩:=Int.eq_ofNat_of_zero_le h0
 have hj:j < U.length:=by omega
 rw [entA_at hj,ixU_mem]
 constructor
 ·rintro ⟨i,hi,e,q⟩
  have:i=j:=by omega
  subst this;exact q
 ·intro q;exact ⟨j,hj,by rw [Nat.zero_add],q⟩
def insU (l:List Ent) (m:List Hr):List Int:=m.map fun y=>plU y.e.n y.e.v l 0
def heldU (l:List Ent) (m:List Hr):List Int:=insU l (m.filter fun y=>y.h)
theorem insU_step {l:List Ent} {m:List Hr} {k:Nat} (hk:k < m.length):insU l (m.take (k+1))=insU l (m.take k)++[plU m[k].e.n m[k].e.v l 0]:=by
 unfold insU
 rw [List.take_succ_eq_append_getElem hk,List.map_append];rfl
theorem ris_ext10:∀{a b:List Int},a.Pairwise (· < ·)→b.Pairwise (· < ·)→(∀x,x ∈ a↔x ∈ b)→a=b
 | [],[],_,_,_=>rfl
 | [],y::s,_,_,h=>absurd ((h y).2 (List.mem_cons_self ..)) List.not_mem_nil
 | x::r,[],_,_,h=>absurd ((h x).1 (List.mem_cons_self ..)) List.not_mem_nil
 | x::r,y::s,ha,hb,h=>by
  obtain ⟨a1,a2⟩:=List.pairwise_cons.1 ha
  obtain ⟨b1,b2⟩:=List.pairwise_cons.1 hb
  have e:x=y:=by
   rcases List.mem_cons.1 ((h x).1 (List.mem_cons_self ..)) with q|q
   ·exact q
   ·rcases List.mem_cons.1 ((h y).2 (List.mem_cons_self ..)) with p|p
    ·exact p.symm
    ·have:=b1 x q;have:=a1 y p;omega
  subst e
  congr 1
  refine ris_ext10 a2 b2 fun z=>?_
  constructor
  ·intro hz
   rcases List.mem_cons.1 ((h z).1 (List.mem_cons_of_mem _ hz)) with q|q
   ·have:=a1 z hz;omega
   ·exact q
  ·intro hz
   rcases List.mem_cons.1 ((h z).2 (List.mem_cons_of_mem _ hz)) with q|q
   ·have:=b1 z hz;omega
   ·exact q
theorem ixU_len10 (p:Ent→Bool):∀(U:List Ent) (i:Nat),(ixU p U i).length≤U.length
 | [],_=>Nat.le_refl _
 | x::r,i=>by
  have:=ixU_len10 p r (i+1)
  rw [ixU_cons]
  split<;>(try simp only [List.length_cons])<;>omega
theorem rangU_ris:∀(n i:Nat),(rangU i n).Pairwise (· < ·):=fun n i=>by
 unfold rangU
 rw [List.pairwise_map]
 exact List.Pairwise.imp (fun h=>by omega) (List.pairwise_lt_range' ..)
theorem rangU_mem {n:Nat} {x:Int}:x ∈ rangU 0 n↔0≤x∧x < (n:Int):=by
 unfold rangU
 rw [List.mem_map]
 constructor
 ·rintro ⟨k,hk,rfl⟩
  have:=List.mem_range'_1.1 hk
  omega
 ·rintro ⟨h0,h1⟩
  obtain ⟨j,rfl⟩:=Int.eq_ofNat_of_zero_le h0
  exact ⟨j,List.mem_range'_1.2 (by omega),rfl⟩
theorem ins_ris {U:List Ent} (hU:Srt9 U):∀{m:List Hr},Ris (m.map fun y=>y.e.n)→(∀y ∈ m,y.e ∈ U)→SetP U.length (insU U m)
 | [],_,_=>⟨(fun p hp=>absurd hp List.not_mem_nil),List.Pairwise.nil⟩
 | y::r,hr,hm=>by
  unfold Ris at hr
  rw [List.map_cons] at hr
  obtain ⟨r1,r2⟩:=List.pairwise_cons.1 hr
  obtain ⟨i1,i2⟩:=ins_ris hU (m:=r) r2 fun z hz=>hm z (List.mem_cons_of_mem _ hz)
  obtain ⟨a,ha,ea⟩:=List.getElem_of_mem (hm y (List.mem_cons_self ..))
  have pa:plU y.e.n y.e.v U 0=(a:Int):=by rw [←ea,plU_at hU ha 0,Nat.zero_add]
  unfold insU at *
  rw [List.map_cons,pa]
  refine ⟨fun p hp=>?_,List.pairwise_cons.2 ⟨fun p hp=>?_,i2⟩⟩
  ·rcases List.mem_cons.1 hp with rfl|hp
   ·omega
   ·exact i1 p hp
  ·obtain ⟨z,hz,rfl⟩:=List.mem_map.1 hp
   obtain ⟨b,hb,eb⟩:=List.getElem_of_mem (hm z (List.mem_cons_of_mem _ hz))
   have pb:plU z.e.n z.e.v U 0=(b:Int):=by rw [←eb,plU_at hU hb 0,Nat.zero_add]
   rw [pb]
   have hlt:blt y.e.n z.e.n:=r1 _ (List.mem_map.2 ⟨z,hz,rfl⟩)
   have hle:Les y.e z.e:=.inr ⟨fun q=>by rw [q] at hlt;exact blt_self _ hlt,hlt⟩
   rcases Nat.lt_trichotomy a b with h|h|h
   ·exact by omega
   ·subst h
    rw [ea] at eb
    rw [eb] at hle
    exact absurd hle (les_no _)
   ·have:=(List.pairwise_iff_getElem.1 hU) b a hb ha h
    rw [ea,eb] at this
    exact (Les.asym hle this).elim
theorem held_ris {U:List Ent} (hU:Srt9 U) {m:List Hr} (hr:Ris (m.map fun y=>y.e.n)) (hm:∀y ∈ m,y.e ∈ U):SetP U.length (heldU U m):=by
 refine ins_ris hU (List.Pairwise.sublist (List.Sublist.map _ List.filter_sublist) hr) fun y hy=>hm y (List.mem_filter.1 hy).1
structure Sgn (w:World):Prop where
 s0:w.cell? ⟨0,0,none⟩=some (.string { data:=#[60,60] })
 s1:w.cell? ⟨0,1,none⟩=some (.string { data:=#[60,61] })
 s2:w.cell? ⟨0,2,none⟩=some (.string { data:=#[61] })
 s3:w.cell? ⟨0,3,none⟩=some (.string { data:=#[62,61] })
 s4:w.cell? ⟨0,4,none⟩=some (.string { data:=#[62,62] })
theorem Sgn.below {w w':World} (E:Sgn w) (h:Below w.heap.size w w'):Sgn w':=by
 obtain ⟨h0,h1,h2,h3,h4⟩:=E
 exact ⟨by rw [h.cell (World.block_lt_of_cell? _ _ h0)];exact h0,by rw [h.cell (World.block_lt_of_cell? _ _ h1)];exact h1,by rw [h.cell (World.block_lt_of_cell? _ _ h2)];exact h2,by rw [h.cell (World.block_lt_of_cell? _ _ h3)];exact h3,by rw [h.cell (World.block_lt_of_cell? _ _ h4)];exact h4⟩
theorem signL_out {op:Int} (h:op < 1∨5 < op):signL op=[]:=by
 unfold signL
 rw [if_neg (by omega),if_neg (by omega),if_neg (by omega),if_neg (by omega),if_neg (by omega)]
theorem rsign_any (op:Int) (w:World) (E:Sgn w):Calls Tryz.prog 138 #[.int .i64 op] w fun e w'=>e=.returned (.string (mk (signL op)))∧w=w':=by
 obtain ⟨c0,c1,c2,c3,c4⟩:=E
 by_cases h:op < 1∨5 < op
 ·have X:=Lib.hid (signL_out h)
  by_cases h1:op < 1
  ·clear h
   go_enter Tryz.func138,Tryz.ntmps138
   go_wp2
   go_ret
   exact ⟨by rw [X.out];rfl,rfl⟩
  ·have h2:5 < op:=by omega
   clear h
   go_enter Tryz.func138,Tryz.ntmps138
   go_wp2
   go_ret
   exact ⟨by rw [X.out];rfl,rfl⟩
 ·have:op=1∨op=2∨op=3∨op=4∨op=5:=by omega
  clear h
  rcases this with rfl|rfl|rfl|rfl|rfl
  all_goals
   go_enter Tryz.func138,Tryz.ntmps138
   go_wp2
   go_ret
   exact ⟨rfl,rfl⟩
theorem sEq (s:ByteArray) (l:List Nat) (hl:∀c ∈ l,c < 256):(s.toList==(mk l).toList)=decide (B s=l):=by
 have h:=strEq l s hl
 rw [Bool.eq_iff_iff] at h ⊢
 simp only [beq_iff_eq,decide_eq_true_eq] at h ⊢
 exact ⟨fun e=>(h.1 e.symm).symm,fun e=>(h.2 e.symm).symm⟩
theorem sEqL (s:ByteArray) (m:List UInt8) (l:List Nat) (e:m=l.map UInt8.ofNat) (hl:∀c ∈ l,c < 256):(s.toList==m)=decide (B s=l):=by
 rw [←sEq s l hl,toList_data (mk l),e];rfl
theorem rplain_any (c:Nat) (w:World):Calls Tryz.prog 134 #[.int .u8 (c:Int)] w fun e w'=>e=.returned (.bool (plnB c))∧w=w':=by
 have X:=Lib.hid (show plnB c=((decide ((97:Int)≤c)&&decide ((c:Int)≤122))||(decide ((48:Int)≤c)&&decide ((c:Int)≤57))) by unfold plnB digB;rw [Bool.eq_iff_iff];simp;omega)
 go_enter Tryz.func134,Tryz.ntmps134
 go_wp2
 all_goals
  go_ret
  refine ⟨congrArg (fun b=>Ending.returned (.bool b)) ?_,rfl⟩
  rw [X.out,Bool.eq_iff_iff]
  simp
  omega
theorem nameB_is (s:ByteArray) (h2:2≤s.size) (h40:s.size≤40) (h0:plnB s[0].toNat=true):nameB (B s)=(B s).all nmcB:=by
 unfold nameB
 rw [B_len,B_getD s 0 (by omega),h0,decide_eq_true h2,decide_eq_true h40];rfl
theorem nm_not {s:ByteArray} {k:Nat} (hk:k < s.size) (h:nmcB s[k].toNat=false):(B s).all nmcB=false:=by
 rw [Bool.eq_false_iff]
 intro ha
 have:=List.all_eq_true.1 ha s[k].toNat (List.mem_of_getElem? (B_at s k hk))
 rw [h] at this;cases this
theorem nm_yes {s:ByteArray} (h:∀j,j < s.size→nmcB ((B s).getD j 0)=true):(B s).all nmcB=true:=by
 rw [List.all_eq_true]
 intro c hc
 obtain ⟨j,hj,e⟩:=List.getElem_of_mem hc
 rw [B_len] at hj
 have:=h j hj
 rwa [List.getD_eq_getElem?_getD,List.getElem?_eq_getElem (by rw [B_len];exact hj),e] at this
theorem rname_any (s:ByteArray) (w:World):Calls Tryz.prog 101 #[.string s] w fun e w'=>e=.returned (.bool (nameB (B s)))∧Below w.heap.size w w':=by
 by_cases h2:s.size < 2
 ·have X:=Lib.hid (show nameB (B s)=false by unfold nameB;rw [B_len,decide_eq_false (by omega)];rfl)
  go_enter Tryz.func101,Tryz.ntmps101
  go_wp2
  go_ret
  exact ⟨by rw [X.out];rfl,Below.refl _ _⟩
 ·by_cases h40:40 < s.size
  ·have X:=Lib.hid (show nameB (B s)=false by unfold nameB;rw [B_len,decide_eq_false (p:=s.size≤40) (by omega),Bool.and_false];rfl)
   have h40':(40:Int) < (s.size:Int):=by omega
   go_enter Tryz.func101,Tryz.ntmps101
   go_wp2
   go_ret
   exact ⟨by rw [X.out];rfl,Below.refl _ _⟩
  ·have hs0:0 < s.size:=by omega
   cases h0:plnB s[0].toNat
   ·have X:=Lib.hid (show nameB (B s)=false by unfold nameB;rw [B_getD s 0 hs0,h0,Bool.and_false];rfl)
    go_enter Tryz.func101,Tryz.ntmps101
    go_wp2_with (go_at_call 134;refine (rplain_any _ _).mono ?_;rw [h0];rintro e w' ⟨rfl,rfl⟩)
    go_ret
    exact ⟨by rw [X.out];rfl,Below.refl _ _⟩
   ·have X:=Lib.hid (nameB_is s (by omega) (by omega) h0)
    obtain ⟨cap,w1,hcv,hb,hcells⟩:=bytes_cells w s
    have HB:=Lib.hid hb
    have HC:=Lib.hid hcells
    have hlen:s.size≤40:=by omega
    clear hb hcells
    go_enter Tryz.func101,Tryz.ntmps101
    go_wp2_with (go_at_call 134;refine (rplain_any _ _).mono ?_;rw [h0];rintro e w' ⟨rfl,rfl⟩)
    clear h0 hcv
    go_loop [22] (fun x=>∃k:Nat,k≤s.size∧x=.int .i64 k∧∀j,j < k→nmcB ((B s).getD j 0)=true) (fun x=>s.size - (intOf x).toNat)
    case atStart=>exact ⟨0,Nat.zero_le _,rfl,fun j hj=>by omega⟩
    case round=>
     obtain ⟨k,hk,rfl,hno⟩:=hrel
     have HN:=Lib.hid hno
     clear hno
     by_cases hlt:k < s.size
     ·have hcell:=HC.out k hlt
      have HD:=Lib.hid (B_getD s k hlt)
      have NC:=Lib.hid (show nmcB s[k].toNat=(plnB s[k].toNat||decide (s[k].toNat=43)||decide (s[k].toNat=45)||decide (s[k].toNat=46)) from rfl)
      have AN:=Lib.hid (nm_not hlt)
      have p1:((s[k].toNat:Int) != 43)=!decide (s[k].toNat=43):=by rw [Bool.eq_iff_iff];simp;omega
      have p2:((s[k].toNat:Int) != 45)=!decide (s[k].toNat=45):=by rw [Bool.eq_iff_iff];simp;omega
      have p3:((s[k].toNat:Int) != 46)=!decide (s[k].toNat=46):=by rw [Bool.eq_iff_iff];simp;omega
      generalize s[k].toNat=c at *
      cases g0:plnB c
      ·rw [g0] at NC
       cases g1:decide (c=43)<;>rw [g1] at p1 NC
       ·cases g2:decide (c=45)<;>rw [g2] at p2 NC
        ·cases g3:decide (c=46)<;>rw [g3] at p3 NC
         ·clear g1 g2 g3
          go_wp2_with (go_at_call 134;refine (rplain_any _ _).mono ?_;rw [g0];rintro e w' ⟨rfl,rfl⟩)
          go_ret
          exact ⟨by rw [X.out,AN.out (by rw [NC.out];rfl)];rfl,HB.out⟩
         ·clear g1 g2 g3
          go_wp2_with (go_at_call 134;refine (rplain_any _ _).mono ?_;rw [g0];rintro e w' ⟨rfl,rfl⟩)
          go_round
          case rel=>exact ⟨k+1,by omega,by go_num,fun j hj=>by rcases (by omega:j < k∨j=k) with h|rfl;exact HN.out j h;rw [HD.out,NC.out];rfl⟩
          case measure=>simp [intOf];omega
        ·clear g1 g2 p3
         go_wp2_with (go_at_call 134;refine (rplain_any _ _).mono ?_;rw [g0];rintro e w' ⟨rfl,rfl⟩)
         go_round
         case rel=>exact ⟨k+1,by omega,by go_num,fun j hj=>by rcases (by omega:j < k∨j=k) with h|rfl;exact HN.out j h;rw [HD.out,NC.out];simp⟩
         case measure=>simp [intOf];omega
       ·clear g1 p2 p3
        go_wp2_with (go_at_call 134;refine (rplain_any _ _).mono ?_;rw [g0];rintro e w' ⟨rfl,rfl⟩)
        go_round
        case rel=>exact ⟨k+1,by omega,by go_num,fun j hj=>by rcases (by omega:j < k∨j=k) with h|rfl;exact HN.out j h;rw [HD.out,NC.out];simp⟩
        case measure=>simp [intOf];omega
      ·rw [g0] at NC
       clear p1 p2 p3
       go_wp2_with (go_at_call 134;refine (rplain_any _ _).mono ?_;rw [g0];rintro e w' ⟨rfl,rfl⟩)
       go_round
       case rel=>exact ⟨k+1,by omega,by go_num,fun j hj=>by rcases (by omega:j < k∨j=k) with h|rfl;exact HN.out j h;rw [HD.out,NC.out];simp⟩
       case measure=>simp [intOf];omega
     ·have Y:=Lib.hid (nm_yes (s:=s) (fun j hj=>HN.out j (by omega)))
      go_wp2
      go_ret
      exact ⟨by rw [X.out,Y.out];rfl,HB.out⟩
theorem vdigit_any (c:Nat) (w:World):Calls Tryz.prog 180 #[.int .u8 (c:Int)] w fun e w'=>e=.returned (.bool (digB c))∧w=w':=by
 have X:=Lib.hid (show digB c=(decide ((48:Int)≤c)&&decide ((c:Int)≤57)) by unfold digB;rw [Bool.eq_iff_iff];simp;omega)
 by_cases h:(48:Int)≤c
 ·go_enter Tryz.func180,Tryz.ntmps180
  go_wp2
  go_ret
  refine ⟨?_,rfl⟩
  rw [X.out];simp [h]
 ·have h2:(c:Int) < 48:=by omega
  go_enter Tryz.func180,Tryz.ntmps180
  go_wp2
  go_ret
  refine ⟨?_,rfl⟩
  rw [X.out];simp;omega
theorem vnotDigit_any (c:Nat) (w:World):Calls Tryz.prog 179 #[.int .u8 (c:Int)] w fun e w'=>e=.returned (.bool (!digB c))∧w=w':=by
 cases h:digB c
 all_goals
  go_enter Tryz.func179,Tryz.ntmps179
  go_wp2_with (go_at_call 180;refine (vdigit_any _ _).mono ?_;rw [h];rintro e w' ⟨rfl,rfl⟩)
  go_ret
  exact ⟨rfl,rfl⟩
theorem vletter_any (c:Nat) (w:World):Calls Tryz.prog 193 #[.int .u8 (c:Int)] w fun e w'=>e=.returned (.bool (letB c))∧w=w':=by
 have X:=Lib.hid (show letB c=((decide ((65:Int)≤c)&&decide ((c:Int)≤90))||(decide ((97:Int)≤c)&&decide ((c:Int)≤122))) by unfold letB;rw [Bool.eq_iff_iff];simp;omega)
 go_enter Tryz.func193,Tryz.ntmps193
 go_wp2
 all_goals
  go_ret
  refine ⟨congrArg (fun b=>Ending.returned (.bool b)) ?_,rfl⟩
  rw [X.out,Bool.eq_iff_iff]
  simp
  omega
theorem rX_is (c:Nat):hasB rX c=(decide (c=46)||decide (c=43)||decide (c=126)):=by
 unfold hasB rX
 rw [Bool.eq_iff_iff]
 simp
 omega
theorem uX_is (c:Nat):chB uX c=(chB rX c||decide (c=45)||decide (c=58)):=by
 unfold chB hasB uX rX
 cases letB c<;>cases digB c<;>rw [Bool.eq_iff_iff]<;>simp
 omega
theorem vrev_any (c:Nat) (w:World):Calls Tryz.prog 174 #[.int .u8 (c:Int)] w fun e w'=>e=.returned (.bool (chB rX c))∧w=w':=by
 have X:=Lib.hid (show chB rX c=(letB c||digB c||decide (c=46)||decide (c=43)||decide (c=126)) by unfold chB;rw [rX_is,←Bool.or_assoc,←Bool.or_assoc])
 have p1:((c:Int)==46)=decide (c=46):=by rw [Bool.eq_iff_iff];simp;omega
 have p2:((c:Int)==43)=decide (c=43):=by rw [Bool.eq_iff_iff];simp;omega
 have p3:((c:Int)==126)=decide (c=126):=by rw [Bool.eq_iff_iff];simp;omega
 cases h1:letB c<;>cases h2:digB c<;>rw [h1,h2] at X<;>cases h3:decide (c=46)<;>rw [h3] at X p1<;>cases h4:decide (c=43)<;>rw [h4] at X p2<;>cases h5:decide (c=126)<;>rw [h5] at X p3
 all_goals
  clear h3 h4 h5
  go_enter Tryz.func174,Tryz.ntmps174
  go_wp2_with (first|(go_at_call 193;refine (vletter_any _ _).mono ?_;rw [h1];rintro e w' ⟨rfl,rfl⟩)|(go_at_call 180;refine (vdigit_any _ _).mono ?_;rw [h2];rintro e w' ⟨rfl,rfl⟩))
  go_ret
  exact ⟨by rw [X.out];rfl,rfl⟩
theorem vup_any (c:Nat) (w:World):Calls Tryz.prog 191 #[.int .u8 (c:Int)] w fun e w'=>e=.returned (.bool (chB uX c))∧w=w':=by
 have X:=Lib.hid (uX_is c)
 have p1:((c:Int)==45)=decide (c=45):=by rw [Bool.eq_iff_iff];simp;omega
 have p2:((c:Int)==58)=decide (c=58):=by rw [Bool.eq_iff_iff];simp;omega
 cases h1:chB rX c<;>rw [h1] at X<;>cases h3:decide (c=45)<;>rw [h3] at X p1<;>cases h4:decide (c=58)<;>rw [h4] at X p2
 all_goals
  clear h3 h4
  go_enter Tryz.func191,Tryz.ntmps191
  go_wp2_with (go_at_call 174;refine (vrev_any _ _).mono ?_;rw [h1];rintro e w' ⟨rfl,rfl⟩)
  go_ret
  exact ⟨by rw [X.out];rfl,rfl⟩
theorem ext_take {s:ByteArray} {k:Nat}:s.extract 0 k=mk ((B s).take k):=by
 apply eq_mk;rw [B_extract];simp
theorem ext_drop {s:ByteArray} {k:Nat}:s.extract k s.size=mk ((B s).drop k):=by
 apply eq_mk;rw [B_extract]
 rw [List.take_of_length_le (by rw [List.length_drop,B_len];omega)]
theorem cut_any (f:Nat) (p:Nat→Bool) (s:ByteArray) (w:World) (hs:s.size≤9223372036854775807)
  (hk:∀(args:Array Value) (w:World),(callFunc f args).run Tryz.prog w=.ok (.enter f args) w)
  (hf:∀(c:Nat) (w:World),Calls Tryz.prog f #[.int .u8 (c:Int)] w fun e w'=>e=.returned (.bool (p c))∧w=w') :
  Calls Tryz.prog 178 #[.string s,.func (.func f) #[] #[]] w fun e w'=>e=.returned (.tuple #[.string (mk ((B s).takeWhile p)),.string (mk ((B s).dropWhile p))])∧∃n,w'=w.drewN n:=by
 have HF:=Lib.hid hf
 clear hf
 go_enter Tryz.func178,Tryz.ntmps178
 go_wp2
 go_loop [6] (fun i=>∃k:Nat,k≤s.size∧i=.int .i64 k∧∀j,j < k→p ((B s).getD j 0)=true) (fun i=>s.size - (intOf i).toNat)
 case atStart=>exact ⟨0,Nat.zero_le _,rfl,fun j hj=>by omega⟩
 case round=>
  obtain ⟨k,hk',rfl,hno⟩:=hrel
  have HN:=Lib.hid hno
  clear hno
  by_cases hlt:k < s.size
  ·have HB:=Lib.hid (B_getD s k hlt)
   cases hc:p s[k].toNat
   ·have HT:=Lib.hid (takeWhile_is (p:=p) (l:=B s) (n:=k) (by rw [B_len];omega) HN.out (.inr (by rw [HB.out];exact hc)))
    have HD:=Lib.hid (dropWhile_is (p:=p) (l:=B s) (n:=k) (by rw [B_len];omega) HN.out (.inr (by rw [HB.out];exact hc)))
    have HC:=Lib.hid hc
    clear hc
    go_wp2_with fail
    refine (HF.out _ _).mono ?_
    rw [HC.out]
    rintro e w' ⟨rfl,rfl⟩
    go_wp2
    go_quiet (fail)
    go_wp2
    go_ret2
    exact ⟨by rw [HT.out,HD.out,←ext_take,←ext_drop];rfl,_,rfl⟩
   ·have HC:=Lib.hid hc
    clear hc
    go_wp2_with fail
    refine (HF.out _ _).mono ?_
    rw [HC.out]
    rintro e w' ⟨rfl,rfl⟩
    go_wp2
    go_round
    case rel=>exact ⟨k+1,by omega,by go_num,fun j hj=>by rcases (by omega:j < k∨j=k) with h|rfl;exact HN.out j h;rw [HB.out];exact HC.out⟩
    case measure=>simp [intOf];omega
  ·have HT:=Lib.hid (takeWhile_is (p:=p) (l:=B s) (n:=k) (by rw [B_len];omega) HN.out (.inl (by rw [B_len];omega)))
   have HD:=Lib.hid (dropWhile_is (p:=p) (l:=B s) (n:=k) (by rw [B_len];omega) HN.out (.inl (by rw [B_len];omega)))
   go_wp2
   go_quiet (fail)
   go_wp2
   go_ret2
   exact ⟨by rw [HT.out,HD.out,←ext_take,←ext_drop];rfl,_,rfl⟩
theorem all_drop (p:Nat→Bool):∀l:List Nat,l.all p=true↔l.dropWhile p=[]
 | []=>by simp
 | c::l=>by
  cases h:p c
  ·simp [h]
  ·simp only [List.all_cons,h,Bool.true_and,List.dropWhile_cons,if_true]
   exact all_drop p l
theorem mk_empty (l:List Nat):(mk l).toList.isEmpty=l.isEmpty:=by
 rw [toList_data]
 cases l<;>simp [mk]
theorem each_any (f:Nat) (p:Nat→Bool) (s:ByteArray) (w:World) (hs:s.size≤9223372036854775807)
  (hk:∀(args:Array Value) (w:World),(callFunc f args).run Tryz.prog w=.ok (.enter f args) w)
  (hf:∀(c:Nat) (w:World),Calls Tryz.prog f #[.int .u8 (c:Int)] w fun e w'=>e=.returned (.bool (p c))∧w=w') :
  Calls Tryz.prog 173 #[.string s,.func (.func f) #[] #[]] w fun e w'=>e=.returned (.bool ((B s).all p))∧∃n,w'=w.drewN n:=by
 have X:=Lib.hid (show ((mk ((B s).dropWhile p)).toList.isEmpty)=(B s).all p by
  rw [mk_empty,Bool.eq_iff_iff,all_drop,List.isEmpty_iff])
 have C:=Lib.hid (fun w=>cut_any f p s w hs hk hf)
 clear hf hk
 go_enter Tryz.func173,Tryz.ntmps173
 go_wp2_with (go_at_call 178;(with_reducible refine (C.out _).mono ?_);rintro e w' ⟨rfl,n,rfl⟩)
 go_ret
 refine ⟨?_,n,rfl⟩
 rw [←X.out]
 rfl
theorem firstI_none:∀(l:List Nat) (n:Nat),(∀c ∈ l,c≠58)→firstI l n=none
 | [],_,_=>rfl
 | c::l,n,h=>by
  show (if c=58 then some n else firstI l (n+1))=none
  rw [if_neg (h c (by simp))]
  exact firstI_none l _ (fun d hd=>h d (by simp [hd]))
theorem firstI_at:∀(a b:List Nat) (n:Nat),(∀c ∈ a,c≠58)→firstI (a++58::b) n=some (n+a.length)
 | [],b,n,_=>rfl
 | c::a,b,n,h=>by
  show (if c=58 then some n else firstI (a++58::b) (n+1))=_
  rw [if_neg (h c (by simp)),firstI_at a b _ (fun d hd=>h d (by simp [hd])),List.length_cons]
  congr 1;omega
theorem numF_dec:∀(f n:Nat) (l:List Nat),n < f→(decF f n l).foldl (fun n c=>10*n+(c - 48)) 0=l.foldl (fun n c=>10*n+(c - 48)) n
 | 0,_,_,h=>by omega
 | f+1,n,l,h=>by
  simp only [decF]
  split
  ·simp only [List.foldl_cons];congr 1;omega
  ·rw [numF_dec f (n / 10) _ (by omega)]
   simp only [List.foldl_cons];congr 1;omega
theorem numV_dec (n:Nat):numV (decL n)=n:=by unfold numV decL;rw [numF_dec _ _ _ (by omega)];rfl
theorem decF_short:∀(f n k:Nat) (l:List Nat),n < 10 ^ (k+1)→(decF f n l).length≤k+1+l.length
 | 0,_,_,l,_=>by simp only [decF];omega
 | f+1,n,k,l,h=>by
  simp only [decF]
  split
  ·simp;omega
  ·match k with
   | 0=>simp at h;omega
   | k+1=>
    have:=decF_short f (n / 10) k ((48+n % 10)::l) (by rw [Nat.pow_succ] at h;omega)
    simp at this;omega
theorem decF_dig2:∀(f n:Nat) (l:List Nat),(∀c ∈ l,digB c=true)→∀c ∈ decF f n l,digB c=true
 | 0,_,_,h=>h
 | f+1,n,l,h=>by
  simp only [decF]
  split
  ·intro c hc
   rcases List.mem_cons.1 hc with rfl|hc
   ·simp only [digB,decide_eq_true_eq];omega
   ·exact h c hc
  ·refine decF_dig2 f _ _ (fun c hc=>?_)
   rcases List.mem_cons.1 hc with rfl|hc
   ·simp only [digB,decide_eq_true_eq];omega
   ·exact h c hc
theorem decF_ne2:∀(f n:Nat) (l:List Nat),l≠[]→decF f n l≠[]
 | 0,_,_,h=>h
 | f+1,n,l,h=>by
  simp only [decF]
  split
  ·simp
  ·exact decF_ne2 f _ _ (by simp)
theorem decL_ne2 (n:Nat):decL n≠[]:=by
 unfold decL
 simp only [decF]
 split
 ·simp
 ·exact decF_ne2 _ _ _ (by simp)
theorem numL_dec (n:Nat) (h:n≤999999999):numL (decL n)=n:=by
 unfold numL
 have h9:=decF_short (n+1) n 8 [] (by omega)
 rw [if_pos ⟨decL_ne2 n,by simpa [decL] using h9,List.all_eq_true.2 (decF_dig2 _ _ _ (by simp)),by rw [numV_dec]⟩,numV_dec]
theorem colons {e:Int} {u r:List Nat} (h:rightB e u r=true):colE (textL e.toNat u r)=e∧colU (textL e.toNat u r)=u++(if r=[] then [] else 45::r):=by
 obtain ⟨h0,h1⟩:=rightB_epoch h
 have h':=h
 unfold rightB at h'
 simp only [Bool.and_eq_true,Bool.not_eq_true',Bool.and_eq_false_iff] at h'
 obtain ⟨⟨⟨⟨⟨⟨_,_⟩,_⟩,h58⟩,hu⟩,hr⟩,_⟩:=h'
 by_cases he:e=0
 ·subst he
  have hu58:∀c ∈ u,c≠58:=by
   rintro c hc rfl
   rcases h58 with h58|h58
   ·unfold hasB at h58
    rw [Bool.eq_false_iff] at h58
    exact h58 (List.contains_iff_mem.2 hc)
   ·exact absurd h58 (by decide)
  have hr58:∀c ∈ r,c≠58:=by
   rintro c hc rfl
   exact absurd (List.all_eq_true.1 hr 58 hc) (by decide)
  have e1:textL (0:Int).toNat u r=u++(if r=[] then [] else 45::r):=by unfold textL;rw [if_pos (show (0:Int).toNat=0 from rfl),List.nil_append]
  have hno:∀c ∈ u++(if r=[] then [] else 45::r),c≠58:=by
   intro c hc
   rcases List.mem_append.1 hc with hc|hc
   ·exact hu58 c hc
   ·split at hc
    ·cases hc
    ·rcases List.mem_cons.1 hc with rfl|hc
     ·decide
     ·exact hr58 c hc
  rw [e1]
  unfold colE colU
  rw [firstI_none _ 0 hno]
  exact ⟨rfl,rfl⟩
 ·have e1:textL e.toNat u r=decL e.toNat++58::(u++(if r=[] then [] else 45::r)):=by unfold textL;rw [if_neg (by omega)];simp
  have hno:∀c ∈ decL e.toNat,c≠58:=by
   rintro c hc rfl
   exact absurd (decF_dig2 _ _ _ (by simp) 58 hc) (by decide)
  rw [e1]
  unfold colE colU
  rw [firstI_at _ _ 0 hno]
  refine ⟨?_,?_⟩
  ·show numL (List.take (0+(decL e.toNat).length) _)=e
   rw [Nat.zero_add,List.take_left,numL_dec _ (by omega)];omega
  ·show List.drop (0+(decL e.toNat).length+1) _=_
   rw [Nat.zero_add,List.drop_length_add_append];rfl
end Go.Proofs.YtpilmhoakopcaaaGreatDoor
