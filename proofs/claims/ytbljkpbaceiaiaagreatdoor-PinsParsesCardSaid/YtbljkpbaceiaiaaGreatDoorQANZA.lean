/- What the laws rest on: HeldL, S5u, HeldA, S5v, S5w, S5x. -/
import Derived.OrdersHeld
import Derived.Deep.RegionHeld
import Derived.Test.YtbljkpbaceiaiaaGreatDoorQAMZA
set_option maxRecDepth 100000
set_option linter.unusedVariables false
set_option linter.unusedSimpArgs false
namespace Go.Proofs.YtbljkpbaceiaiaaGreatDoor
open Go
section
variable {P:Program} {ops:Array Oper} {Q:Exit→Act→World→Prop} {md:Region.Mode} {S:World→Prop} {z:Nat}
def wpAnyL (P:Program) (md:Region.Mode) (ops:Array Oper) (Q:Exit→Act→World→Prop) (S:World→Prop) (z:Nat):Nat→Array Bool→Act→World→Prop
 | 0,listed,a,w=>Region.ready md ops listed=[]∧Q .normal a w
 | fuel+1,listed,a,w=>
  (Region.ready md ops listed=[]→Q .normal a w)∧
  ∀i ∈ Region.ready md ops listed,wpOp P ops Q i (fun a' w'=>(i≠z→S w')∧wpAnyL P md ops Q S z fuel (listed.setIfInBounds i true) a' w') a w
theorem wpAny_of_L:∀(fuel:Nat) (listed:Array Bool) (a:Act) (w:World),wpAnyL P md ops Q S z fuel listed a w→wpAny P md ops Q fuel listed a w
 | 0,_,_,_,h=>h
 | fuel+1,_,_,_,h=>⟨h.1,fun i hi=>wpOp_mono (fun a' w' h'=>wpAny_of_L fuel _ a' w' h'.2) (h.2 i hi)⟩
def Full (md:Region.Mode) (ops:Array Oper) (listed:Array Bool):Prop:=∀j o,ops[j]?=some o→listed.getD j false=true→∀e ∈ o.after,Region.binds md e=true→listed.getD e.on false=true
def fullB (md:Region.Mode) (ops:Array Oper) (listed:Array Bool):Bool:=
 (List.range ops.size).all fun j=>!listed.getD j false||((ops[j]?).map (·.after.all fun e=>!Region.binds md e||listed.getD e.on false)).getD true
theorem full_of {listed:Array Bool} (h:fullB md ops listed=true):Full md ops listed:=by
 intro j o ho hj e he hb
 have hlt:j < ops.size:=(Array.getElem?_eq_some_iff.1 ho).1
 unfold fullB at h
 rw [List.all_eq_true] at h
 have:=h j (List.mem_range.2 hlt)
 rw [ho,hj] at this
 simp only [Bool.not_true,Bool.false_or,Option.map_some,Option.getD_some] at this
 have:=Array.all_eq_true_iff_forall_mem.1 this e he
 rw [hb] at this
 simpa using this
theorem Full.step {listed:Array Bool} {i:Nat} (h:Full md ops listed) (hi:i ∈ Region.ready md ops listed):Full md ops (listed.setIfInBounds i true):=by
 intro j o ho hj e he hb
 obtain ⟨_,oi,hoi,hall⟩:=mem_ready.1 hi
 by_cases hji:i=j
 ·subst hji
  rw [hoi] at ho
  injection ho with ho
  subst ho
  exact getD_set_true (hall e he hb)
 ·rw [getD_set_ne false hji] at hj
  exact getD_set_true (h j o ho hj e he hb)
def waitB (md:Region.Mode) (ops:Array Oper):List Nat→Bool
 | j::k::r=>((ops[j]?).map (·.after.any fun e=>Region.binds md e&&e.on==k)).getD false&&waitB md ops (k::r)
 | _=>true
theorem wait_edge {j k:Nat} (h:((ops[j]?).map (·.after.any fun e=>Region.binds md e&&e.on==k)).getD false=true):∃o e,ops[j]?=some o∧e ∈ o.after∧Region.binds md e=true∧e.on=k:=by
 cases ho:ops[j]? with
 | none=>rw [ho] at h;simp at h
 | some o=>
  rw [ho] at h
  simp only [Option.map_some,Option.getD_some] at h
  obtain ⟨e,he,hb⟩:=Array.any_eq_true'.1 h
  simp only [Bool.and_eq_true,beq_iff_eq] at hb
  exact ⟨o,e,rfl,he,hb.1,hb.2⟩
theorem wait_listed {listed:Array Bool} (hc:Full md ops listed) {i:Nat}:∀(r:List Nat) (j:Nat),waitB md ops (j::(r++[i]))=true→(∀o,ops[j]?=some o→∀e ∈ o.after,Region.binds md e=true→listed.getD e.on false=true)→listed.getD i false=true
 | [],j,h,hj=>by
  unfold waitB at h
  rw [List.nil_append] at h
  simp only [Bool.and_eq_true] at h
  obtain ⟨o,e,ho,he,hb,rfl⟩:=wait_edge h.1
  exact hj o ho e he hb
 | k::r,j,h,hj=>by
  rw [List.cons_append] at h
  unfold waitB at h
  simp only [Bool.and_eq_true] at h
  obtain ⟨o,e,ho,he,hb,rfl⟩:=wait_edge h.1
  exact wait_listed hc r e.on h.2 fun o' ho'=>hc e.on o' ho' (hj o ho e he hb)
theorem wpAnyL_first {i:Nat} {oi:Oper} {v:Value} (hi:ops[i]?=some oi) (hsel:∀(j:Nat) (o:Oper) cs b,ops[j]?=some o→o.op≠.select cs b)
  (hQ:∀c a w,Q (.panic c) (a.put oi.dst v) w→Q (.panic c) a w) (hiz:i≠z) (hz:∀listed,Full md ops listed→z ∈ Region.ready md ops listed→listed.getD i false=true) :
  ∀(fuel:Nat) (listed:Array Bool) (a:Act) (w:World),Full md ops listed→
   (∀j oj,ops[j]?=some oj→j≠i→listed.getD j true=false→(∀e ∈ oj.after,Region.binds md e=true→e.on≠i)→oi.apart ops oj=true)→
   i ∈ Region.ready md ops listed→YieldsIf P ops S oi v a→S w→
   wpAnyL P md ops Q S z fuel (listed.setIfInBounds i true) (a.put oi.dst v) w→wpAnyL P md ops Q S z (fuel+1) listed a w:=by
 intro fuel
 induction fuel with
 | zero=>
  intro listed a w _ _ hr hy hS H
  refine ⟨fun h=>(by rw [h] at hr;cases hr),fun j hj=>?_⟩
  by_cases hji:j=i
  ·subst hji;exact hy.wpOp hi hS ⟨fun _=>hS,H⟩
  ·have:=ready_mono hj hji
   rw [H.1] at this
   cases this
 | succ fuel ih=>
  intro listed a w hc hfree hr hy hS H
  refine ⟨fun h=>(by rw [h] at hr;cases hr),fun j hj=>?_⟩
  by_cases hji:j=i
  ·subst hji;exact hy.wpOp hi hS ⟨fun _=>hS,H⟩
  ·have h1:=H.2 j (ready_mono hj hji)
   obtain ⟨hjun,oj,hoj,hall⟩:=mem_ready.1 hj
   have hil:listed.getD i false=false:=by
    have h0:=(mem_ready.1 hr).1
    rcases Nat.lt_or_ge i listed.size with h'|h'
    ·simp [h'] at h0 ⊢;exact h0
    ·simp [Array.getElem?_eq_none h']
   have hnot:∀e ∈ oj.after,Region.binds md e=true→e.on≠i:=fun e he hb heq=>by
    have h1:=hall e he hb
    rw [heq,hil] at h1
    cases h1
   have hjz:j≠z:=fun e=>by
    subst e
    rw [hz listed hc hj] at hil
    cases hil
   have h2:=wpOp_putIf hoj (hfree j oj hoj hji hjun hnot) (fun cs b=>hsel i oi cs b hi) (fun cs b=>hsel j oj cs b hoj) hQ hy h1
   have hfree':∀k ok,ops[k]?=some ok→k≠i→(listed.setIfInBounds j true).getD k true=false→
     (∀e ∈ ok.after,Region.binds md e=true→e.on≠i)→oi.apart ops ok=true:=fun k ok hk hki hun hno=>by
    refine hfree k ok hk hki ?_ hno
    by_cases hjk:j=k
    ·subst hjk;exact hjun
    ·rw [getD_set_ne true hjk] at hun;exact hun
   refine wpOp_mono (fun a' w' h3=>⟨h3.2.1,ih (listed.setIfInBounds j true) a' w' (hc.step hj) hfree' (ready_mono hr (Ne.symm hji)) h3.1 (h3.2.1 hjz) ?_⟩) h2
   rw [Array.setIfInBounds_comm _ _ hji]
   exact h3.2.2
theorem wpAnyL_take {i:Nat} {oi:Oper} {v:Value} {fuel:Nat} {listed:Array Bool} {a:Act} {w:World} (r:List Nat) (hi:ops[i]?=some oi)
  (hs:Region.noSelect ops=true) (hf:Region.free md ops listed i=true) (hr:(Region.ready md ops listed).contains i=true)
  (hQ:∀c a w,Q (.panic c) (a.put oi.dst v) w→Q (.panic c) a w) (hiz:(i==z)=false) (hw:waitB md ops (z::(r++[i]))=true) (hc:fullB md ops listed=true) (hy:YieldsIf P ops S oi v a) (hS:S w)
  (h:wpAnyL P md ops Q S z fuel (listed.setIfInBounds i true) (a.put oi.dst v) w):wpAnyL P md ops Q S z (fuel+1) listed a w:=
 wpAnyL_first hi (Region.noSelect_spec hs) hQ (by simpa using hiz) (fun L hL hzL=>by
  obtain ⟨_,o,ho,hall⟩:=mem_ready.1 hzL
  exact wait_listed hL r z hw fun o' ho'=>by rw [ho] at ho';injection ho' with ho';subst ho';exact hall)
  fuel listed a w (full_of hc) (Region.free_spec hi hf) (by simpa using hr) hy hS h
theorem wpAnyL_done {listed:Array Bool} {a:Act} {w:World} (hr:Region.ready md ops listed=[]) (h:Q .normal a w) :
  ∀fuel,wpAnyL P md ops Q S z fuel listed a w
 | 0=>⟨hr,h⟩
 | _+1=>⟨fun _=>h,by rw [hr];simp⟩
theorem wpAnyL_one {i:Nat} {o:Oper} {fuel:Nat} {listed:Array Bool} {a:Act} {w:World} (hr:Region.ready md ops listed=[i]) (ho:ops[i]?=some o)
  (h:∀K':Act→World→Prop,Shut (∀a w,S w→(S w→wpAnyL P md ops Q S z fuel (listed.setIfInBounds i true) a w)→K' a w)→if Region.wanted o (yielded ops a.tmps)=true then Oper.wp P o a w K' Q else K' (a.put o.dst undef) w) :
  wpAnyL P md ops Q S z (fuel+1) listed a w:=by
 refine ⟨fun h0=>(by rw [hr] at h0;cases h0),fun j hj=>?_⟩
 rw [hr,List.mem_singleton] at hj
 subst hj
 exact wpOp_step ho fun K' hK=>h K' (fun a w hS hW=>hK a w ⟨fun _=>hS,hW hS⟩)
theorem wpAnyL_last {o:Oper} {fuel:Nat} {listed:Array Bool} {a:Act} {w:World} (hr:Region.ready md ops listed=[z]) (ho:ops[z]?=some o) (hr2:Region.ready md ops (listed.setIfInBounds z true)=[])
  (h:∀K':Act→World→Prop,Shut (∀a w,Q .normal a w→K' a w)→if Region.wanted o (yielded ops a.tmps)=true then Oper.wp P o a w K' Q else K' (a.put o.dst undef) w) :
  wpAnyL P md ops Q S z (fuel+1) listed a w:=by
 refine ⟨fun h0=>(by rw [hr] at h0;cases h0),fun j hj=>?_⟩
 rw [hr,List.mem_singleton] at hj
 subst hj
 exact wpOp_step ho fun K' hK=>h K' (fun a w hq=>hK a w ⟨fun h=>absurd rfl h,wpAnyL_done hr2 hq _⟩)
theorem wp_region_L {id:Nat} {a:Act} {w:World} (S:World→Prop) (z:Nat) (hm:P.follows .mixedOrders=true) (hS:S w.drew)
  (h:S w.drew→wpAnyL P .any ops Q S z ops.size (Array.replicate ops.size false) a w.drew):(Code.region id ops true).wp P Q a w:=
 wp_region_any hm (wpAny_of_L _ _ _ _ (h hS))
end
end Go.Proofs.YtbljkpbaceiaiaaGreatDoor
namespace Go.Proofs.YtbljkpbaceiaiaaGreatDoor
open Go.RowKit
set_option maxHeartbeats 4000000 in
theorem begin5_ok (x:ByteArray) (N r k:Nat) (p:PS) (vs vo vl:Value) (m:Int) (w:World) (hR:RdP w N r k p vs vo vl) (hr:r < N) (hN:N≤w.heap.size) (hx:x.size≤65536) (hm:w.cell? ⟨2,0,none⟩=some (.int .i64 m)) (h:begE p (B x)=0) (hol:p.op.length≤1000) :
  Calls Tryz.prog 84 #[.pointer (some ⟨r,0,none⟩),.string x] w fun e w'=>e=.returned (.tuple #[])∧(∃vo' vl',RdP w' N r k ⟨p.dn,p.op++[(mk (nmOf (B x)),[vlOf (B x)])]⟩ vs vo' vl')∧Fr N r w w':=by
 have hz:=begE_zero h
 have hf:(decide (58 ∈ B x)&&fnB (nmOf (B x)))=true:=by
  unfold begE at h
  split at h
  ·assumption
  ·cases h
 have hh:opHas p.op (mk (nmOf (B x)))=false:=hz.2.2
 have C:=Lib.hid (colon_any x m w hx hm)
 rw [Bool.and_eq_true] at hf
 obtain ⟨A,c,rfl,hc1,hc2⟩:=hR.own
 have hc2':c≤9223372036854775807:=hc2
 obtain ⟨As,cs,hvs,_,hs2⟩:=hR.gs.own
 have hs2':cs≤9223372036854775807:=hs2
 rw [hf.1] at C
 have NM:=Lib.hid (fun W=>name5_any (mk (nmOf (B x))) W (by rw [←B_len,nm_mk];have:=nm_le (B x);rw [B_len] at this;unfold maxLen;omega))
 rw [nm_mk,hf.2] at NM
 have HR:=Lib.hid hR
 have HH:=Lib.hid hh
 have HRN:=Lib.hid hr
 have HN:=Lib.hid hN
 have HRR:=Lib.hid (show r < w.heap.size by omega)
 have q0:((p.op.length:Int)==40)=false:=by rw [beq_eq_false_iff_ne];have:=hz.1;omega
 have q1:((p.dn.length:Int)==200)=false:=by rw [beq_eq_false_iff_ne];have:=hz.2.1;omega
 have hm1:(p.op.map (Sum.inl (β:=ByteArray × Value))).length+[(Sum.inr (mk (nmOf (B x)),Value.slice none 0 0):Opn ⊕ (ByteArray × Value))].length≤maxLen:=by rw [List.length_map,List.length_singleton];unfold maxLen;omega
 have hm2:((p.op.map (Sum.inl (β:=ByteArray × Value))).length+[(Sum.inr (mk (nmOf (B x)),Value.slice none 0 0):Opn ⊕ (ByteArray × Value))].length)*40≤140737488355328:=by rw [List.length_map,List.length_singleton];omega
 have VL:=Lib.hid (show B (mk ((B (mk ((B x).drop ((nmOf (B x)).length+1)))).dropWhile fun c=>c==32))=vlOf (B x) by
  have e1:B (mk ((B x).drop ((nmOf (B x)).length+1)))=(B x).drop ((nmOf (B x)).length+1):=B_mk fun c hc=>B_lt x c (List.mem_of_mem_drop hc)
  rw [e1]
  unfold vlOf
  exact B_mk fun c hc=>B_lt x c (List.mem_of_mem_drop ((List.dropWhile_sublist _).subset hc)))
 obtain ⟨oi,ho,ho0,ho1,ho2⟩:=info_parts opn_info
 clear hR hm hx h hf hh hc2 hs2 hz hol hr hN
 go_enter Tryz.func84,Tryz.ntmps84
 go_wp2_with fail
 refine C.out.mono ?_
 rintro e w1 ⟨rfl,n,rfl⟩
 have hb:=belD (Below.refl w.heap.size w) n
 have hvz:(w.drewN n).heap.size=w.heap.size:=rfl
 generalize w.drewN n=V at *
 generalize hnm:mk (nmOf (B x))=nm at *
 have HNM:=Lib.hid hnm
 clear hnm
 generalize mk ((B x).drop ((nmOf (B x)).length+1))=vv at *
 have HB:=Lib.hid (hb.alloc hb.size (.cells #[.string nm] 9))
 have hq:(⟨V.heap.size,0,none⟩:Addr).block < (V.alloc (.cells #[.string nm] 9)).heap.size:=by rw [World.size_alloc];exact Nat.lt_succ_self _
 have hc:(V.alloc (.cells #[.string nm] 9)).cell? ⟨V.heap.size,0,none⟩=some (.string nm):=by simp [go_sem]
 have HQ:=Lib.hid hq
 have HC:=Lib.hid hc
 obtain ⟨q,hqq⟩:∃q,q=V.heap.size:=⟨_,rfl⟩
 rw [←hqq] at HQ HC hvz
 have HQW:=Lib.hid hvz
 clear hb hq hc hvz
 go_wp2_with fail
 refine (NM.out _).mono ?_
 rintro e w2 ⟨rfl,hb2⟩
 rw [←hqq]
 have HB2:=Lib.hid (HB.out.trans (hb2.mono HB.out.size))
 have R2:=Lib.hid (HR.out.below HB2.out HRR.out)
 have c2:=R2.out.c2
 have HQ2:=Lib.hid (And.intro (Nat.lt_of_lt_of_le HQ.out hb2.size) ((hb2.cell HQ.out).trans HC.out))
 have cq:=HQ2.out.2
 have CF:=Lib.hid (hasOp_any A p.op.length c p.op vl nm ⟨q,0,none⟩ w2 (R2.out.go.read rdOpX_good) (R2.out.gl.read rdStr_good) R2.out.gl.plain HQ2.out.1 HQ2.out.2)
 rw [HH.out] at CF
 clear hb2 hqq
 have hmf:∀(fn:Fn) (first cap:Array Value) (w:World),(Instr.makeFunc fn first cap).run Tryz.prog w=.ok (.func fn first cap) w:=fun _ _ _ _=>rfl
 go_wp2_with fail
 refine CF.out.mono ?_
 rintro e w3 ⟨rfl,hb3⟩
 have HB3:=Lib.hid (HB2.out.trans (hb3.mono HB2.out.size))
 have R3:=HR.out.below HB3.out HRR.out
 have d2:=R3.c2
 have d1:=R3.c1
 rw [hvs] at d1
 have cq3:=(hb3.cell HQ2.out.1).trans cq
 have HV:=Lib.hid (show RdP w3.drew N r k p vs (.slice A p.op.length c) vl from R3.below (belD (Below.refl _ _) 1:Below w3.heap.size w3 w3.drew) (Nat.lt_of_lt_of_le HRR.out HB3.out.size))
 have HQL:=Lib.hid (show q < w3.drew.heap.size from Nat.lt_of_lt_of_le HQ2.out.1 hb3.size)
 have HNV:=Lib.hid (show N≤w3.drew.heap.size from Nat.le_trans HN.out HB3.out.size)
 have HFV:=Lib.hid (show Fr N r w w3.drew from Fr.of (N:=N) (r:=r) (belD HB3.out 1|>.mono HN.out) (Nat.le_of_lt HRN.out))
 have HQV:=Lib.hid (show (Value.slice A p.op.length c).ownBlock≠some q from fun e=>by
  have h1:=(HR.out.go.lt q e).2
  have h2:=HQW.out
  omega)
 clear c2 cq
 have c2:w3.drew.cell? ⟨r,2,none⟩=some (.slice A p.op.length c):=HV.out.c2
 have cq:w3.drew.cell? ⟨q,0,none⟩=some (.string nm):=cq3
 have KS:=Lib.hid (fun (W:World) (hb:Below w3.drew.heap.size w3.drew W)=>(show W.cell? ⟨r,2,none⟩=some (.slice A p.op.length c)∧W.cell? ⟨q,0,none⟩=some (.string nm) from ⟨(hb.cell (show (⟨r,2,none⟩:Addr).block < w3.drew.heap.size from Nat.lt_of_lt_of_le HRN.out HNV.out)).trans c2,(hb.cell (show (⟨q,0,none⟩:Addr).block < w3.drew.heap.size from HQL.out)).trans cq⟩))
 have O:=Lib.hid (RdP.op0 HV.out HNV.out nm (mk ((B vv).dropWhile fun c=>c==32)))
 clear hb3 R3 HQ2 CF HB2 HB HQ HC V
 go_wp2_with fail
 refine wp_region_noPanic ?_
 refine wp_region_L (fun W=>W.cell? ⟨r,2,none⟩=some (.slice A p.op.length c)∧W.cell? ⟨q,0,none⟩=some (.string nm)) 14 (by kernel_rfl) ⟨c2,cq⟩ (fun hHeld=>?_)
 generalize w3.drew=V3 at *
 refine wpAnyL_take (i:=0) (v:=?_) [13,12] rfl (by kernel_rfl) (by kernel_rfl) (by kernel_rfl) (fun _ _ _ h=>h) (by kernel_rfl) (by kernel_rfl) (by kernel_rfl) (Or.inl ⟨by rfl,?_⟩) (by assumption) ?_
 rotate_left
 ·intro w hSw
  try dsimp only at hSw
  go_simp
  first|done|with_reducible rfl
 try simp only [Act.put,List.setIfInBounds_toArray,List.set_cons_zero,List.set_cons_succ]
 refine wpAnyL_take (i:=1) (v:=?_) [11,4,3,2] rfl (by kernel_rfl) (by kernel_rfl) (by kernel_rfl) (fun _ _ _ h=>h) (by kernel_rfl) (by kernel_rfl) (by kernel_rfl) (Or.inl ⟨by rfl,?_⟩) (by assumption) ?_
 rotate_left
 ·intro w hSw
  try dsimp only at hSw
  go_simp
  first|done|with_reducible rfl
 try simp only [Act.put,List.setIfInBounds_toArray,List.set_cons_zero,List.set_cons_succ]
 refine wpAnyL_take (i:=2) (v:=?_) [11,4,3] rfl (by kernel_rfl) (by kernel_rfl) (by kernel_rfl) (fun _ _ _ h=>h) (by kernel_rfl) (by kernel_rfl) (by kernel_rfl) (Or.inl ⟨by rfl,?_⟩) (by assumption) ?_
 rotate_left
 ·intro w hSw
  try dsimp only at hSw
  go_simp
  first|done|with_reducible rfl
 try simp only [Act.put,List.setIfInBounds_toArray,List.set_cons_zero,List.set_cons_succ]
 refine wpAnyL_take (i:=3) (v:=?_) [11,4] rfl (by kernel_rfl) (by kernel_rfl) (by kernel_rfl) (fun _ _ _ h=>h) (by kernel_rfl) (by kernel_rfl) (by kernel_rfl) (Or.inl ⟨by rfl,?_⟩) (by assumption) ?_
 rotate_left
 ·intro w hSw
  try dsimp only at hSw
  go_simp
  first|done|with_reducible rfl
 try simp only [Act.put,List.setIfInBounds_toArray,List.set_cons_zero,List.set_cons_succ]
 refine wpAnyL_take (i:=4) (v:=?_) [11] rfl (by kernel_rfl) (by kernel_rfl) (by kernel_rfl) (fun _ _ _ h=>h) (by kernel_rfl) (by kernel_rfl) (by kernel_rfl) (Or.inl ⟨by rfl,?_⟩) (by assumption) ?_
 rotate_left
 ·intro w hSw
  try dsimp only at hSw
  go_simp
  first|done|with_reducible rfl
 try simp only [Act.put,List.setIfInBounds_toArray,List.set_cons_zero,List.set_cons_succ]
 refine wpAnyL_take (i:=5) (v:=?_) [11,10,9] rfl (by kernel_rfl) (by kernel_rfl) (by kernel_rfl) (fun _ _ _ h=>h) (by kernel_rfl) (by kernel_rfl) (by kernel_rfl) (Or.inl ⟨by rfl,?_⟩) (by assumption) ?_
 rotate_left
 ·intro w hSw
  try dsimp only at hSw
  go_simp
  first|done|with_reducible rfl
 try simp only [Act.put,List.setIfInBounds_toArray,List.set_cons_zero,List.set_cons_succ]
 refine wpAnyL_take (i:=6) (v:=?_) [11,10,9,8,7] rfl (by kernel_rfl) (by kernel_rfl) (by kernel_rfl) (fun _ _ _ h=>h) (by kernel_rfl) (by kernel_rfl) (by kernel_rfl) (Or.inl ⟨by rfl,?_⟩) (by assumption) ?_
 rotate_left
 ·intro w hSw
  try dsimp only at hSw
  go_simp
  first|done|with_reducible rfl
 try simp only [Act.put,List.setIfInBounds_toArray,List.set_cons_zero,List.set_cons_succ]
 refine wpAnyL_one (i:=7) (by kernel_rfl) rfl (fun K hK=>?_)
 go_simp
 refine (trim5_any vv V3).mono ?_
 rintro e w4 ⟨rfl,rfl⟩
 go_wp2_with fail
 refine hK.out _ _ ⟨c2,cq⟩ (fun hHeld=>?_)
 clear hK K
 try simp only [Act.put,List.setIfInBounds_toArray,List.set_cons_zero,List.set_cons_succ]
 refine wpAnyL_one (i:=8) (by kernel_rfl) rfl (fun K hK=>?_)
 go_simp
 refine hK.out _ _ (KS.out _ ((Below.refl _ _).alloc (Nat.le_refl _) _)) (fun hHeld=>?_)
 clear hK K
 try simp only [Act.put,List.setIfInBounds_toArray,List.set_cons_zero,List.set_cons_succ]
 refine wpAnyL_one (i:=9) (by kernel_rfl) rfl (fun K hK=>?_)
 go_simp
 refine hK.out _ _ (KS.out _ ((Below.refl _ _).alloc (Nat.le_refl _) _)) (fun hHeld=>?_)
 clear hK K
 try simp only [Act.put,List.setIfInBounds_toArray,List.set_cons_zero,List.set_cons_succ]
 refine wpAnyL_one (i:=10) (by kernel_rfl) rfl (fun K hK=>?_)
 go_simp
 refine hK.out _ _ (KS.out _ O.out.bel) (fun hHeld=>?_)
 clear hK K
 try simp only [Act.put,List.setIfInBounds_toArray,List.set_cons_zero,List.set_cons_succ]
 refine wpAnyL_one (i:=11) (by kernel_rfl) rfl (fun K hK=>?_)
 refine step_growN _ (by rfl) _ _ 65 65 (by rfl) rdOpX_good (by decide) _ N 105 105 oi (.agg #[.string { data:=#[] },.slice none 0 0]) 40 Tryz.underlying65 Tryz.underlying65 ho ho0 ho1 ho2 rfl _ _ (by rfl) O.out.g _ _ _ _ _ (by rfl) O.out.x O.out.s hm1 hm2 O.out.bs ?_
 intro v5 w5 hG5 hg5 hm5
 have EN:=Lib.hid (RdP.opened HV.out HRN.out HNV.out hG5 hg5 hm5)
 obtain ⟨A5,c5,hv5,_⟩:=hG5.own
 rw [List.length_append,List.length_singleton,List.length_map] at hv5
 have KQ:=Lib.hid (hg5.block q (Nat.lt_of_lt_of_le HQL.out O.out.bel.size) (fun hh=>HQV.out hh.symm))
 clear hG5 hg5 hm5
 refine hK.out _ _ ⟨EN.out.2.2.1,(World.cell?_of_block (a:=⟨q,0,none⟩) KQ.out).trans (KS.out _ O.out.bel).2⟩ (fun hHeld=>?_)
 clear hK K
 try simp only [Act.put,List.setIfInBounds_toArray,List.set_cons_zero,List.set_cons_succ]
 obtain ⟨en1,en2,en3,en4⟩:=EN.out
 subst hv5
 refine wpAnyL_one (i:=12) (by kernel_rfl) rfl (fun K hK=>?_)
 go_simp
 refine hK.out _ _ ⟨en3,(World.cell?_of_block (a:=⟨q,0,none⟩) KQ.out).trans (KS.out _ O.out.bel).2⟩ (fun hHeld=>?_)
 clear hK K
 try simp only [Act.put,List.setIfInBounds_toArray,List.set_cons_zero,List.set_cons_succ]
 refine wpAnyL_one (i:=13) (by kernel_rfl) rfl (fun K hK=>?_)
 go_simp
 refine hK.out _ _ ⟨en3,(World.cell?_of_block (a:=⟨q,0,none⟩) KQ.out).trans (KS.out _ O.out.bel).2⟩ (fun hHeld=>?_)
 clear hK K
 try simp only [Act.put,List.setIfInBounds_toArray,List.set_cons_zero,List.set_cons_succ]
 refine wpAnyL_last (by kernel_rfl) rfl (by kernel_rfl) (fun K hK=>?_)
 go_simp
 refine hK.out _ _ ?_
 clear hK K
 refine NoPanic.normal ?_
 have FIN:=Lib.hid (HFV.out.trans en2)
 rw [VL.out] at en1
 have EX:=Lib.hid en1
 clear en1 en2 en3 en4
 go_wp2
 go_end0
 exact ⟨rfl,⟨_,_,by rw [HNM.out];exact EX.out⟩,FIN.out⟩
theorem one_fd {w:World} {S:Nat→Prop} {b:Nat} {n v:ByteArray} {T:TypeId} (hb:w.heap[b]?=some (.cells #[.string n,.string v] T (0,0))) (hS:S b):rdFds w S [⟨n,v⟩] [.slice (some ⟨b,0,none⟩) 1 1]:=
 rd_block rdFd_good (S:=S) (l:=[⟨n,v⟩]) (css:=[[.string n,.string v]]) hb hS rfl rfl (fun k hk=>by
  simp only [List.length_singleton] at hk
  obtain rfl:k=0:=by omega
  exact ⟨_,rfl,rfl⟩) (by simp)
theorem RdP.closed {W w1:World} {N r k:Nat} {p:PS} {vs vo vl vs':Value} (hR:RdP W N r k p vs vo vl) (hr:r < N) (hN:N≤W.heap.size) (d:List (List Fd))
  (hG:Grow rdFds 1 (fun b=>N≤b) w1 N 48 vs' d) (hg:W.grownBy w1 vs.ownBlock) :
  RdP ((w1.setCell ⟨r,1,none⟩ vs').setCell ⟨r,2,none⟩ (.slice none 0 0)) N r k ⟨d,[]⟩ vs' (.slice none 0 0) (.slice none 0 0)∧Fr N r W ((w1.setCell ⟨r,1,none⟩ vs').setCell ⟨r,2,none⟩ (.slice none 0 0))∧
   w1.cell? ⟨r,1,none⟩=some vs∧w1.frozen? ⟨r,1,none⟩=false∧w1.cell? ⟨r,2,none⟩=some vo∧w1.frozen? ⟨r,2,none⟩=false:=by
 obtain ⟨f0,c0,c1,c2,gs,go,gl,so,sl,ol⟩:=hR
 have hrl:some r≠vs.ownBlock:=fun h=>by have:=(gs.lt r h.symm).1;omega
 have hk:=hg.block r (by omega) hrl
 have hB1:Below N W w1:=grow_below gs hg (Below.refl N W) (Nat.le_refl _) hN
 have a0:=blk_of hk 0
 have a1:=blk_of hk 1
 have a2:=blk_of hk 2
 have hset:∀o o':Nat,o≠o'→(⟨r,o,none⟩:Addr)≠⟨r,o',none⟩:=fun o o' ho e=>ho (congrArg Addr.off e)
 have hnr:∀{o:Nat},(⟨r,o,none⟩:Addr).block < N:=hr
 refine ⟨⟨fun o=>?_,?_,?_,?_,?_,?_,?_,fun b hb e=>?_,fun b hb e=>?_,fun b hb e=>?_⟩,((Fr.of hB1 (Nat.le_of_lt hr)).set (.inl rfl) (Nat.le_of_lt hr) _).set (.inl rfl) (Nat.le_of_lt hr) _,a1.1.trans c1,a1.2.trans (f0 1),a2.1.trans c2,a2.2.trans (f0 2)⟩
 ·rw [World.frozen?_setCell,World.frozen?_setCell];exact ((blk_of hk o).2).trans (f0 o)
 ·rw [World.cell?_setCell_other _ _ _ _ (hset 2 0 (by decide)),World.cell?_setCell_other _ _ _ _ (hset 1 0 (by decide))];exact a0.1.trans c0
 ·rw [World.cell?_setCell_other _ _ _ _ (hset 2 1 (by decide))];exact World.cell?_setCell_same _ _ _ (a1.1.trans c1)
 ·exact World.cell?_setCell_same _ _ _ (show (w1.setCell ⟨r,1,none⟩ vs').cell? ⟨r,2,none⟩=some vo by rw [World.cell?_setCell_other _ _ _ _ (hset 1 2 (by decide))];exact a2.1.trans c2)
 ·refine Grow.setCell rdFds_good (Grow.setCell rdFds_good (hG.retag rdFds_good fun b h1 h2=>⟨⟨h1,fun e=>by simp [Value.ownBlock] at e⟩,fun e=>by simp [Value.ownBlock] at e⟩) hnr (fun h=>by have:=h.1.1;simp only at this;omega) _) hnr (fun h=>by have:=h.1.1;simp only at this;omega) _
 ·exact Grow.nil _ _ _ _
 ·exact Grow.nil _ _ _ _
 ·simp [Value.ownBlock] at e
 ·simp [Value.ownBlock] at e
 ·simp [Value.ownBlock] at e
structure EndA (w V W:World) (v:Value) (l:List Fd) (nm vv:ByteArray) (b:Nat):Prop where
 g:Grow rdFd 2 (fun _=>True) W w.heap.size 58 v l
 x:rdFds W (fun c=>c=b) [⟨nm,vv⟩] [.slice (some ⟨b,0,none⟩) 1 1]
 s:∀c,c=b→True∧c < W.heap.size∧v.ownBlock≠some c
 bs:w.heap.size≤W.heap.size
 bel:Below V.heap.size V W
theorem end_app {w V w4:World} {v:Value} {l:List Fd} (hG:Grow rdFd 2 (fun _=>True) V w.heap.size 58 v l) (hs:w.heap.size≤V.heap.size) (hb:Below V.heap.size V w4) (nm vv:ByteArray):EndA w V (w4.alloc (Obj.cells #[Value.string nm,Value.string vv] 58)) v l nm vv w4.heap.size:=by
 have hb2:Below V.heap.size V (w4.alloc (Obj.cells #[Value.string nm,Value.string vv] 58)):=hb.alloc hb.size _
 refine ⟨hG.below rdFd_good hb2,one_fd (new_heap _ _) rfl,?_,Nat.le_trans hs hb2.size,hb2⟩
 rintro c rfl
 refine ⟨trivial,by rw [World.size_alloc];omega,fun e=>?_⟩
 have:=(hG.lt _ e).2
 have:=hb.size
 omega
set_option maxHeartbeats 4000000 in
theorem end5_ok (N r k:Nat) (p:PS) (vs vo vl:Value) (w:World) (hR:RdP w N r k p vs vo vl) (hr:r < N) (hN:N≤w.heap.size) (h0:p.op≠[]) (hol:p.op.length≤1000) (hdl:p.dn.length≤1000) (hln:∀f ∈ p.op,f.2.length≤1000000∧∀x ∈ f.2,x.length≤1000000) :
  Calls Tryz.prog 64 #[.pointer (some ⟨r,0,none⟩)] w fun e w'=>e=.returned (.tuple #[])∧(∃vs' vo' vl',RdP w' N r k p.fin vs' vo' vl')∧Fr N r w w':=by
 have FIN:=Lib.hid (show p.fin=⟨p.dn++[p.op.map clF],[]⟩ by unfold PS.fin;rw [if_neg h0])
 obtain ⟨A,c,rfl,hc1,hc2⟩:=hR.own
 have hc2':c≤9223372036854775807:=hc2
 obtain ⟨As,cs,hvs,_,hs2⟩:=hR.gs.own
 have hs2':cs≤9223372036854775807:=hs2
 have hl:=List.length_pos_iff.2 h0
 have q00:((p.op.length:Int)==0)=false:=by rw [beq_eq_false_iff_ne];omega
 obtain ⟨fi,hi,hi0,hi1,hi2⟩:=info_parts fd_info
 obtain ⟨si,hs,hs0,hs1,hsz⟩:=info_parts stz_info
 have HR:=Lib.hid hR
 have HRN:=Lib.hid hr
 have HN:=Lib.hid hN
 have HLN:=Lib.hid hln
 have HOL:=Lib.hid hol
 have HDL:=Lib.hid hdl
 have c2:=hR.c2
 clear hR hr hN h0 hln hol hdl hc2 hs2 hc1 hl
 go_enter Tryz.func64,Tryz.ntmps64
 go_wp2
 go_loopw [2,16] (fun v i wr=>∃j:Nat,j≤p.op.length∧i=.int .i64 j∧Grow rdFd 2 (fun _=>True) wr w.heap.size 58 v ((p.op.take j).map clF)∧Below w.heap.size w wr) (fun _ i _=>p.op.length - (intOf i).toNat)
 case atStart=>exact ⟨0,Nat.zero_le _,rfl,Grow.nil _ _ _ _,Below.refl _ _⟩
 case round=>
  obtain ⟨j,hj,rfl,hG,hbel⟩:=hrel
  clear c2
  obtain ⟨A5,c5,hv5,_,hcm5⟩:=hG.own
  rw [show ((p.op.take j).map clF).length=j by rw [List.length_map,List.length_take];omega] at hv5
  have hcm5':c5≤9223372036854775807:=hcm5
  clear hcm5
  subst hv5
  by_cases hlt:j < p.op.length
  ·have hRr:=HR.out.below hbel (Nat.lt_of_lt_of_le HRN.out HN.out)
   obtain ⟨_,_,_,ha⟩:=rdOp_at (hRr.go.read rdOpX_good) (hRr.gl.read rdStr_good) hRr.gl.plain
   obtain ⟨ad,A2,n2,c2,rfl,had,x0,x1,hst,hpl⟩:=ha j hlt
   have hpj:=HLN.out p.op[j] (List.getElem_mem hlt)
   have CLF:=Lib.hid (show clF p.op[j]=⟨p.op[j].1,mk (joinL (B { data:=#[10] }) p.op[j].2)⟩ from rfl)
   have SJ:=Lib.hid (fun (W:World) (hb:Below wr.heap.size wr W)=>sjoin5_any W (rdStrs_good.up (rdStrs_good.below hst hb) hb.size) hpl { data:=#[10] } (by have:=hpj.1;omega) (by
    refine Nat.le_trans (joinL_len hpj.2) (Nat.le_trans (Nat.mul_le_mul_right _ hpj.1) ?_)
    rw [B_len];show 1000000*(1000000+1)≤_;omega))
   have HTK:=Lib.hid (show (p.op.take (j+1)).map clF=(p.op.take j).map clF++[clF p.op[j]] from take_snoc clF p.op j hlt)
   have HG:=Lib.hid hG
   have HB:=Lib.hid hbel
   have hq1:((p.op.take j).map clF).length+[clF p.op[j]].length≤maxLen:=by have:=HOL.out;rw [List.length_map,List.length_take,List.length_singleton];unfold maxLen;omega
   have hq2:(((p.op.take j).map clF).length+[clF p.op[j]].length)*32≤140737488355328:=by have:=HOL.out;rw [List.length_map,List.length_take,List.length_singleton];omega
   rw [CLF.out] at hq1 hq2 HTK
   generalize p.op[j].1=nm at *
   generalize mk (joinL (B { data:=#[10] }) p.op[j].2)=vv at *
   clear hRr ha hst hpl hpj hG hbel
   obtain ⟨V3,hV3⟩:∃V3,V3=(wr.alloc (Obj.cells #[Value.string nm,Value.slice A2 n2 c2] 105)).drew:=⟨_,rfl⟩
   have bv:Below wr.heap.size wr V3:=by rw [hV3];exact belD ((Below.refl _ _).alloc (Nat.le_refl _) _) 1
   have BV:=Lib.hid bv
   have BWV:=Lib.hid (HB.out.trans (bv.mono HB.out.size))
   have GV:=Lib.hid (HG.out.below rdFd_good bv)
   have QV:=Lib.hid (show wr.heap.size < V3.heap.size by rw [hV3];show _ < (wr.alloc _).heap.size;rw [World.size_alloc];omega)
   have KS:=Lib.hid (fun (W:World) (hb:Below V3.heap.size V3 W)=>(show W.cell? ⟨wr.heap.size,0,none⟩=some (.string nm)∧W.cell? ⟨wr.heap.size,1,none⟩=some (.slice A2 n2 c2) from
    ⟨(hb.cell (show (⟨wr.heap.size,0,none⟩:Addr).block < V3.heap.size from QV.out)).trans (by rw [hV3];simp [go_sem]),(hb.cell (show (⟨wr.heap.size,1,none⟩:Addr).block < V3.heap.size from QV.out)).trans (by rw [hV3];simp [go_sem])⟩))
   clear bv
   go_wp2_with fail
   refine wp_region_noPanic ?_
   refine wp_region_L (fun W=>W.cell? ⟨wr.heap.size,0,none⟩=some (.string nm)∧W.cell? ⟨wr.heap.size,1,none⟩=some (.slice A2 n2 c2)) 9 (by kernel_rfl) (by rw [←hV3];exact KS.out V3 (Below.refl _ _)) (fun hHeld=>?_)
   rw [←hV3] at hHeld ⊢
   clear hV3
   refine wpAnyL_take (i:=0) (v:=?_) [8] rfl (by kernel_rfl) (by kernel_rfl) (by kernel_rfl) (fun _ _ _ h=>h) (by kernel_rfl) (by kernel_rfl) (by kernel_rfl) (Or.inl ⟨by rfl,?_⟩) (by assumption) ?_
   rotate_left
   ·intro w hSw
    try dsimp only at hSw
    go_simp
    first|done|with_reducible rfl
   try simp only [Act.put,List.setIfInBounds_toArray,List.set_cons_zero,List.set_cons_succ]
   refine wpAnyL_take (i:=1) (v:=?_) [8,7,6,2] rfl (by kernel_rfl) (by kernel_rfl) (by kernel_rfl) (fun _ _ _ h=>h) (by kernel_rfl) (by kernel_rfl) (by kernel_rfl) (Or.inl ⟨by rfl,?_⟩) (by assumption) ?_
   rotate_left
   ·intro w hSw
    try dsimp only at hSw
    go_simp
    first|done|with_reducible rfl
   try simp only [Act.put,List.setIfInBounds_toArray,List.set_cons_zero,List.set_cons_succ]
   refine wpAnyL_take (i:=2) (v:=?_) [8,7,6] rfl (by kernel_rfl) (by kernel_rfl) (by kernel_rfl) (fun _ _ _ h=>h) (by kernel_rfl) (by kernel_rfl) (by kernel_rfl) (Or.inl ⟨by rfl,?_⟩) (by assumption) ?_
   rotate_left
   ·intro w hSw
    try dsimp only at hSw
    go_simp
    first|done|with_reducible rfl
   try simp only [Act.put,List.setIfInBounds_toArray,List.set_cons_zero,List.set_cons_succ]
   refine wpAnyL_take (i:=3) (v:=?_) [8,7,6,5,4] rfl (by kernel_rfl) (by kernel_rfl) (by kernel_rfl) (fun _ _ _ h=>h) (by kernel_rfl) (by kernel_rfl) (by kernel_rfl) (Or.inl ⟨by rfl,?_⟩) (by assumption) ?_
   rotate_left
   ·intro w hSw
    try dsimp only at hSw
    go_simp
    first|done|with_reducible rfl
   try simp only [Act.put,List.setIfInBounds_toArray,List.set_cons_zero,List.set_cons_succ]
   refine wpAnyL_take (i:=4) (v:=?_) [8,7,6,5] rfl (by kernel_rfl) (by kernel_rfl) (by kernel_rfl) (fun _ _ _ h=>h) (by kernel_rfl) (by kernel_rfl) (by kernel_rfl) (Or.inl ⟨by rfl,?_⟩) (by assumption) ?_
   rotate_left
   ·intro w hSw
    try dsimp only at hSw
    go_simp
    first|done|with_reducible rfl
   try simp only [Act.put,List.setIfInBounds_toArray,List.set_cons_zero,List.set_cons_succ]
   refine wpAnyL_one (i:=5) (by kernel_rfl) rfl (fun K hK=>?_)
   go_simp
   refine (SJ.out _ BV.out).mono ?_
   rintro e w4 ⟨rfl,hb4⟩
   have HB4:=Lib.hid hb4
   clear hb4
   go_wp2_with fail
   refine hK.out _ _ (KS.out _ HB4.out) (fun hHeld=>?_)
   clear hK K
   try simp only [Act.put,List.setIfInBounds_toArray,List.set_cons_zero,List.set_cons_succ]
   refine wpAnyL_one (i:=6) (by kernel_rfl) rfl (fun K hK=>?_)
   go_simp
   refine hK.out _ _ (KS.out _ HB4.out) (fun hHeld=>?_)
   clear hK K
   try simp only [Act.put,List.setIfInBounds_toArray,List.set_cons_zero,List.set_cons_succ]
   have O:=Lib.hid (end_app GV.out (BWV.out.size) HB4.out nm vv)
   refine wpAnyL_one (i:=7) (by kernel_rfl) rfl (fun K hK=>?_)
   go_simp
   refine hK.out _ _ (KS.out _ (HB4.out.alloc HB4.out.size _)) (fun hHeld=>?_)
   clear hK K
   try simp only [Act.put,List.setIfInBounds_toArray,List.set_cons_zero,List.set_cons_succ]
   refine wpAnyL_one (i:=8) (by kernel_rfl) rfl (fun K hK=>?_)
   refine step_growN _ (by rfl) _ _ 48 48 (by rfl) rdFd_good (by decide) (fun _=>True) w.heap.size 58 58 fi (.agg #[.string { data:=#[] },.string { data:=#[] }]) 32 Tryz.underlying48 Tryz.underlying48 hi hi0 hi1 hi2 rfl _ _ (by rfl) O.out.g [⟨nm,vv⟩] _ _ _ _ (by rfl) O.out.x O.out.s hq1 hq2 O.out.bs ?_
   intro v5 w5 hG5 hg5 _
   rw [←HTK.out] at hG5
   have B5:=Lib.hid (BWV.out.trans ((show Below w.heap.size V3 w5 from grow_below O.out.g hg5 (O.out.bel.mono BWV.out.size) (Nat.le_refl _) O.out.bs)))
   have S5:=Lib.hid (show w5.cell? ⟨wr.heap.size,0,none⟩=some (.string nm)∧w5.cell? ⟨wr.heap.size,1,none⟩=some (.slice A2 n2 c2) from ⟨(World.cell?_of_block (a:=⟨wr.heap.size,0,none⟩) (hg5.block wr.heap.size (Nat.lt_of_lt_of_le QV.out O.out.bel.size) (fun hh=>by have:=(HG.out.lt _ hh.symm).2;omega))).trans (KS.out _ O.out.bel).1,(World.cell?_of_block (a:=⟨wr.heap.size,1,none⟩) (hg5.block wr.heap.size (Nat.lt_of_lt_of_le QV.out O.out.bel.size) (fun hh=>by have:=(HG.out.lt _ hh.symm).2;omega))).trans (KS.out _ O.out.bel).2⟩)
   have G5:=Lib.hid hG5
   clear hG5 hg5
   refine hK.out _ _ S5.out (fun hHeld=>?_)
   clear hK K
   try simp only [Act.put,List.setIfInBounds_toArray,List.set_cons_zero,List.set_cons_succ]
   refine wpAnyL_last (by kernel_rfl) rfl (by kernel_rfl) (fun K hK=>?_)
   go_simp
   refine hK.out _ _ ?_
   clear hK K
   refine NoPanic.normal ?_
   go_wp2
   go_roundw
   case rel=>exact ⟨j+1,by omega,by go_num,G5.out,B5.out⟩
   case measure=>simp [intOf];omega
  ·obtain rfl:j=p.op.length:=by omega
   rw [List.take_length] at hG
   have R1:=Lib.hid (HR.out.below hbel (Nat.lt_of_lt_of_le HRN.out HN.out))
   have hvs':=hvs
   subst hvs
   have x1:=R1.out.c1
   have hNW:N≤wr.heap.size:=Nat.le_trans HN.out hbel.size
   have hgs:Grow rdFds 1 (fun b=>N≤b) wr N 48 (.slice As p.dn.length cs) p.dn:=R1.out.gs.retag rdFds_good fun b h1 _=>h1.1.1
   have hE:rdFds wr (fun b=>N≤b∧b < wr.heap.size∧(Value.slice As p.dn.length cs).ownBlock≠some b) (p.op.map clF) (#[Value.slice A5 p.op.length c5]:Array Value).toList:=
    rdFds_good.more (hG.inOwn rdFd_good fun _ _ _ _ _ h=>h) fun b hb=>⟨Nat.le_trans HN.out hb.2.1,hb.2.2,fun e=>by have:=(HR.out.gs.lt b e).2;omega⟩
   have hn1:p.dn.length+1≤maxLen:=by have:=HDL.out;unfold maxLen;omega
   have hn2:(p.dn.length+1)*24≤140737488355328:=by have:=HDL.out;omega
   have HB:=Lib.hid hbel
   clear hG hbel
   go_wp2_with (at_builtin;refine wpList_grow1_at wr rfl _ _ 44 rfl rdFds_good (by decide) (fun b=>N≤b) N 48 si (.slice none 0 0) 24 Tryz.underlying44 hs hs0 hs1 hsz rfl (.slice As p.dn.length cs) p.dn rfl hgs (p.op.map clF) _ 48 hE _ rfl rfl hn1 hn2 hNW ?_)
   intro v' w1 hG' hgr hmv
   obtain ⟨A',c',hv',_,_⟩:=hG'.own
   rw [List.length_append,List.length_singleton] at hv'
   subst hv'
   obtain ⟨o1,o2,o3,o4,o5,o6⟩:=RdP.closed R1.out HRN.out hNW _ hG' hgr
   have O1:=Lib.hid o1
   have O2:=Lib.hid o2
   have o7:(w1.setCell ⟨r,1,none⟩ (Value.slice A' (p.dn.length+1) c')).cell? ⟨r,2,none⟩=some (.slice A p.op.length c):=by rw [World.cell?_setCell_other _ _ _ _ (fun e=>by have:=congrArg Addr.off e;simp at this)];exact o5
   clear o1 o2 hG' hgr hmv hE hgs
   go_wp2
   go_end0
   exact ⟨rfl,⟨_,_,_,by rw [FIN.out];exact O1.out⟩,(Fr.of (HB.out.mono HN.out) (Nat.le_of_lt HRN.out)).trans O2.out⟩
def Lim (op:List Opn) (k:Nat):Prop:=∀f ∈ op,f.2.length≤k∧∀x ∈ f.2,x.length≤65536
theorem lim_nil (k:Nat):Lim [] k:=fun f hf=>by simp at hf
theorem lim_last {op:List Opn} {k:Nat} (h:Lim op k):(lastLn op).length≤k:=by
 rcases List.eq_nil_or_concat op with rfl|⟨i,f,rfl⟩
 ·exact Nat.zero_le _
 ·rw [List.concat_eq_append] at h ⊢
  rw [lastLn_snoc]
  exact (h f (by simp)).1
theorem lim_line {p:PS} {l:List Nat} {k:Nat} (h:Lim p.op k) (hl:l.length≤65536):Lim (lnS p l).op (k+1):=by
 cases l with
 | nil=>show Lim p.fin.op _;rw [fin_closed];exact lim_nil _
 | cons c r=>
  unfold lnS
  simp only
  split
  ·rcases List.eq_nil_or_concat p.op with e|⟨i,f,e⟩
   ·rw [e];exact lim_nil _
   ·rw [List.concat_eq_append] at e
    rw [e,onLast_snoc]
    intro g hg
    rw [List.mem_append,List.mem_singleton] at hg
    rcases hg with hg|rfl
    ·obtain ⟨a,b⟩:=h g (by rw [e];simp [hg])
     exact ⟨by omega,b⟩
    ·obtain ⟨a,b⟩:=h f (by rw [e];simp)
     refine ⟨by rw [List.length_append,List.length_singleton];omega,fun x hx=>?_⟩
     rw [List.mem_append,List.mem_singleton] at hx
     rcases hx with hx|rfl
     ·exact b x hx
     ·rw [List.length_cons] at hl;omega
  ·intro g hg
   rw [List.mem_append,List.mem_singleton] at hg
   rcases hg with hg|rfl
   ·obtain ⟨a,b⟩:=h g hg
    exact ⟨by omega,b⟩
   ·refine ⟨by simp,fun x hx=>?_⟩
    rw [List.mem_singleton] at hx
    subst hx
    unfold vlOf
    have h1:=(List.dropWhile_sublist (fun c=>c==32) (l:=(c::r).drop ((nmOf (c::r)).length+1))).length_le
    rw [List.length_drop] at h1
    omega
set_option maxHeartbeats 2000000 in
theorem read5_ok (x:ByteArray) (N r k:Nat) (p:PS) (vs vo vl:Value) (m:Int) (w:World) (hR:RdP w N r k p vs vo vl) (hr:r < N) (hN:N≤w.heap.size) (hx:x.size≤65536) (hm:w.cell? ⟨2,0,none⟩=some (.int .i64 m)) (h:lnE p (B x)=0) (hf:Fit p) (hl:Lim p.op 100000) :
  Calls Tryz.prog 63 #[.pointer (some ⟨r,0,none⟩),.string x] w fun e w'=>e=.returned (.tuple #[])∧(∃vs' vo' vl',RdP w' N r k (lnS p (B x)) vs' vo' vl')∧Fr N r w w':=by
 have LW:=Lib.hid (low5_any x w (by unfold maxLen;omega))
 have hrw:r < w.heap.size:=by omega
 have HRW:=Lib.hid hrw
 unfold lnE at h
 by_cases h1:lowB (B x)=true
 ·rw [if_pos h1] at h;cases h
 rw [if_neg h1] at h
 rw [Bool.eq_false_iff.2 h1] at LW
 clear h1
 have HR:=Lib.hid hR
 have HRN:=Lib.hid hr
 have HN:=Lib.hid hN
 have HX:=Lib.hid hx
 have HF:=Lib.hid hf
 have HL:=Lib.hid hl
 have em:=emp_eq x
 cases hB:B x with
 | nil=>
  rw [decide_eq_true hB] at em
  by_cases h0:p.op=[]
  ·have E:=Lib.hid (show lnS p []=p from fin_of h0)
   have H0:=Lib.hid h0
   clear hR hr hN hx hf hl hm h hB h0 hrw
   go_enter Tryz.func63,Tryz.ntmps63
   go_wp2_with fail
   refine LW.out.mono ?_
   rintro e w1 ⟨rfl,hb⟩
   have R1:=Lib.hid (HR.out.below hb HRW.out)
   have HB:=Lib.hid hb
   clear hb
   go_wp2_with fail
   refine (end5_none N r k p vs vo vl _ R1.out H0.out).mono ?_
   rintro e w2 ⟨rfl,rfl⟩
   go_wp2
   go_end0
   exact ⟨rfl,⟨_,_,_,by rw [E.out];exact R1.out⟩,Fr.of (HB.out.mono HN.out) (Nat.le_of_lt HRN.out)⟩
  ·have H0:=Lib.hid h0
   clear hR hr hN hx hf hl hm h hB h0 hrw
   go_enter Tryz.func63,Tryz.ntmps63
   go_wp2_with fail
   refine LW.out.mono ?_
   rintro e w1 ⟨rfl,hb⟩
   have R1:=Lib.hid (HR.out.below hb HRW.out)
   have HB:=Lib.hid hb
   clear hb
   go_wp2_with fail
   refine (end5_ok N r k p vs vo vl _ R1.out HRN.out (Nat.le_trans HN.out HB.out.size) H0.out (by have:=HF.out.f;omega) (by have:=HF.out.d;omega) (fun f hf=>⟨by have:=(HL.out f hf).1;omega,fun x hx=>by have:=(HL.out f hf).2 x hx;omega⟩)).mono ?_
   rintro e w2 ⟨rfl,hex,hfr⟩
   have EX:=Lib.hid hex
   have FR:=Lib.hid hfr
   clear hex hfr
   go_wp2
   go_end0
   exact ⟨rfl,EX.out,(Fr.of (HB.out.mono HN.out) (Nat.le_of_lt HRN.out)).trans FR.out⟩
 | cons c rs=>
  rw [hB] at h
  simp only at h
  rw [decide_eq_false (show ¬B x=[] by rw [hB];simp)] at em
  have hs0:0 < x.size:=by rw [←B_len,hB];simp
  have hc:x[0].toNat=c:=by rw [←B_getD x 0 hs0,hB];rfl
  have hE:B (x.extract 1 x.size)=rs:=by rw [ext1_B,hB];rfl
  have HM:=Lib.hid hm
  have HH:=Lib.hid h
  have HBX:=Lib.hid hB
  clear hR hr hN hx hf hl hm h hB hrw
  by_cases h32:c=32
  ·have HG:=Lib.hid (show goE p rs=0 by have:=HH.out;rwa [if_pos h32] at this)
   have q0:((x[0].toNat:Int)==32)=true:=by rw [hc,h32];rfl
   have GN:=Lib.hid (show p.op≠[]∧B (x.extract 1 x.size)≠[] by
    have:=HG.out
    unfold goE at this
    split at this
    ·cases this
    ·rename_i hh
     rw [Bool.or_eq_true,decide_eq_true_iff,decide_eq_true_iff] at hh
     rw [hE];exact ⟨fun e=>hh (.inl e),fun e=>hh (.inr e)⟩)
   have SN:=Lib.hid (show lnS p (c::rs)=⟨p.dn,onLast (B (x.extract 1 x.size)) p.op⟩ by
    unfold lnS;simp only;rw [if_pos h32,hE])
   clear hc hE h32 HH
   go_enter Tryz.func63,Tryz.ntmps63
   go_wp2_with fail
   refine LW.out.mono ?_
   rintro e w1 ⟨rfl,hb⟩
   have R1:=Lib.hid (HR.out.below hb HRW.out)
   have HB:=Lib.hid hb
   clear hb
   go_wp2_with fail
   refine (goOn5_ok (x.extract 1 x.size) N r k p vs vo vl _ R1.out HRN.out (Nat.le_trans HN.out HB.out.size) GN.out.1 GN.out.2 (by have:=HF.out.f;omega) (by have:=lim_last HL.out;omega)).mono ?_
   rintro e w2 ⟨rfl,hex,hfr⟩
   have EX:=Lib.hid hex
   have FR:=Lib.hid hfr
   clear hex hfr
   go_wp2
   go_end0
   refine ⟨rfl,?_,(Fr.of (HB.out.mono HN.out) (Nat.le_of_lt HRN.out)).trans FR.out⟩
   obtain ⟨vl',h⟩:=EX.out
   exact ⟨_,_,_,by rw [SN.out];exact h⟩
  ·have HG:=Lib.hid (show begE p (B x)=0 by have:=HH.out;rw [if_neg h32] at this;rw [HBX.out];exact this)
   have q0:((x[0].toNat:Int)==32)=false:=by rw [hc,beq_eq_false_iff_ne];omega
   have SN:=Lib.hid (show lnS p (c::rs)=⟨p.dn,p.op++[(mk (nmOf (B x)),[vlOf (B x)])]⟩ by
    unfold lnS;simp only;rw [if_neg h32,HBX.out])
   clear hc hE h32 HH
   go_enter Tryz.func63,Tryz.ntmps63
   go_wp2_with fail
   refine LW.out.mono ?_
   rintro e w1 ⟨rfl,hb⟩
   have R1:=Lib.hid (HR.out.below hb HRW.out)
   have HB:=Lib.hid hb
   have M1:=Lib.hid ((hb.cell (show (⟨2,0,none⟩:Addr).block < w.heap.size from World.block_lt_of_cell? _ _ HM.out)).trans HM.out)
   clear hb
   go_wp2_with fail
   refine (begin5_ok x N r k p vs vo vl m _ R1.out HRN.out (Nat.le_trans HN.out HB.out.size) HX.out M1.out HG.out (by have:=HF.out.f;omega)).mono ?_
   rintro e w2 ⟨rfl,hex,hfr⟩
   have EX:=Lib.hid hex
   have FR:=Lib.hid hfr
   clear hex hfr
   go_wp2
   go_end0
   refine ⟨rfl,?_,(Fr.of (HB.out.mono HN.out) (Nat.le_of_lt HRN.out)).trans FR.out⟩
   obtain ⟨vo',vl',h⟩:=EX.out
   exact ⟨_,_,_,by rw [SN.out];exact h⟩
theorem as5_errno (n:Int) (w:World):(Instr.typeAssert (.iface 24 (.int .i64 n)) 20 24 true).run Tryz.prog w=.ok (.tuple #[.int .i64 n,.bool true]) w:=by kernel_rfl
theorem catch5_idle (p:Addr) (w:World) :
  CallsD Tryz.prog 61 #[.pointer (some p)] .returning w fun e u' w'=>e=.returned (.tuple #[])∧u'=.returning∧w'=w:=by
 refine callsD_of_wpS Tryz.func61 rfl fun c₀ cs hu=>?_
 apply wpS_seq
 apply wpS_region
 simp [wpOpsS,go_sem,recoverD,hu,Tryz.ntmps61,Exit.thenS]
 refine wpS_of_wp ?_
 go_wp2
 cases c₀
 simp_all [bodyPostS,results,Tryz.results61]
set_option maxHeartbeats 400000 in
theorem catch5_errno (p:Addr) (x n:Int) (older:List PanicEntry) (w:World) (hc:w.cell? p=some (.int .i64 x)) (hz:w.frozen? p=false) :
  CallsD Tryz.prog 61 #[.pointer (some p)] (.panicking ({ v:=.iface 24 (.int .i64 n),recovered:=false }::older)) w fun e u' w'=>
   e=.returned (.tuple #[])∧u'=.panicking ({ v:=.iface 24 (.int .i64 n),recovered:=true }::older)∧w'=w.setCell p (.int .i64 n):=by
 have hta:=as5_errno
 refine callsD_of_wpS Tryz.func61 rfl fun c₀ cs hu=>?_
 apply wpS_seq
 apply wpS_region
 simp [wpOpsS,go_sem,recoverD,hu,Tryz.ntmps61,Exit.thenS]
 refine wpS_of_wp ?_
 clear hu
 go_wp2
 simp [bodyPostS,results,Tryz.results61]
theorem RdP.line {W:World} {N r k:Nat} {p:PS} {vs vo vl:Value} (h:RdP W N r k p vs vo vl) (hr:r < N):RdP (W.setCell ⟨r,0,none⟩ (.int .i64 ((k+1:Nat):Int))) N r (k+1) p vs vo vl:=by
 obtain ⟨f0,c0,c1,c2,gs,go,gl,so,sl,ol⟩:=h
 have hset:∀o,o≠0→(⟨r,0,none⟩:Addr)≠⟨r,o,none⟩:=fun o ho e=>ho (congrArg Addr.off e).symm
 refine ⟨fun o=>?_,World.cell?_setCell_same _ _ _ c0,?_,?_,gs.setCell rdFds_good hr (fun h=>by have:=h.1.1;simp only at this;omega) _,go.setCell rdOpX_good hr (fun h=>by have:=h.1;simp only at this;omega) _,gl.setCell rdStr_good hr (fun h=>by simp only at h;omega) _,so,sl,ol⟩
 ·rw [World.frozen?_setCell];exact f0 o
 ·rw [World.cell?_setCell_other _ _ _ _ (hset 1 (by decide))];exact c1
 ·rw [World.cell?_setCell_other _ _ _ _ (hset 2 (by decide))];exact c2
theorem rd0 {W:World} {N r:Nat} (f0:∀o,W.frozen? ⟨r,o,none⟩=false) (c0:W.cell? ⟨r,0,none⟩=some (.int .i64 (0:Nat))) (c1:W.cell? ⟨r,1,none⟩=some (.slice none 0 0)) (c2:W.cell? ⟨r,2,none⟩=some (.slice none 0 0)) :
  RdP W N r 0 ps0 (.slice none 0 0) (.slice none 0 0) (.slice none 0 0):=
 ⟨f0,c0,c1,c2,Grow.nil _ _ _ _,Grow.nil _ _ _ _,Grow.nil _ _ _ _,Off.nil _,Off.nil _,Off.nil _⟩
theorem rnS_snoc (s:PS) (a:List (List Nat)) (l:List Nat):rnS s (a++[l])=lnS (rnS s a) l:=by rw [rnS_app];rfl
theorem rnE_snoc {s:PS} {a:List (List Nat)} {l:List Nat} (h:rnE s a=0):rnE s (a++[l])=lnE (rnS s a) l:=by
 rw [rnE_app _ _ _ h]
 show (if lnE _ l=0 then 0 else lnE _ l)=_
 split
 ·rename_i h;exact h.symm
 ·rfl
theorem rn_at:∀(a:List (List Nat)) (l:List Nat) (b:List (List Nat)) (s:PS) (k:Nat),rnE s a=0→lnE (rnS s a) l≠0→rnE s (a++l::b)=lnE (rnS s a) l∧rnN s k (a++l::b)=k+a.length+1
 | [],l,b,s,k,_,h=>⟨rnE_no h _,rnN_no h _ _⟩
 | x::a,l,b,s,k,h0,h=>by
  by_cases hx:lnE s x=0
  ·rw [rnE_ok hx] at h0
   obtain ⟨h1,h2⟩:=rn_at a l b (lnS s x) (k+1) h0 h
   rw [List.cons_append,rnE_ok hx,rnN_ok hx]
   exact ⟨h1,by rw [h2,List.length_cons];omega⟩
  ·rw [rnE_no hx] at h0
   exact absurd h0 hx
end Go.Proofs.YtbljkpbaceiaiaaGreatDoor
