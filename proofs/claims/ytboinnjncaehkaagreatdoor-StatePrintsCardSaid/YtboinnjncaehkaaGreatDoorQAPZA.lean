/- What the laws rest on: E7c, E7f, E7g, HeldL, HeldG, E7h, P7a, P7b, E7i, E7j, E7s, E7o, E7p, E7u. -/
import Derived.OrdersHeld
import Derived.Deep.RegionHeld
import Derived.Test.YtboinnjncaehkaaGreatDoorQALZA
set_option maxRecDepth 100000
set_option linter.unusedVariables false
set_option linter.unusedSimpArgs false
namespace Go.Proofs.YtboinnjncaehkaaGreatDoor
open Go.RowKit
def nil7:Hr:=⟨emp,false,false⟩
def fdH (l:List Hr) (n:ByteArray):Option Hr:=l.find? fun x=>decide (x.e.n=n)
def woH (l:List Hr) (n:ByteArray):List Hr:=l.filter fun x=>!decide (x.e.n=n)
def leH (n:ByteArray) (x:Hr):Bool:=!Op.bytesLess n.toList x.e.n.toList
def inH (m:List Hr) (h:Hr):List Hr:=m.takeWhile (leH h.e.n)++h::m.dropWhile (leH h.e.n)
def wiH (l:List Hr) (h:Hr):List Hr:=inH (woH l h.e.n) h
def mkH (n:ByteArray) (a h:Bool):List Hr→Option (List Hr)
 | []=>none
 | x::r=>if x.e.n=n then some (⟨x.e,a,h⟩::r) else (mkH n a h r).map (x::·)
def ltN (n a:ByteArray):Bool:=Op.bytesLess a.toList n.toList
def putN (l:List ByteArray) (n:ByteArray):List ByteArray:=if (l.dropWhile (ltN n)).head?=some n then l else l.takeWhile (ltN n)++n::l.dropWhile (ltN n)
def tuS (a b:List Hr) (out:List ByteArray) (x:Hr):List ByteArray:=if fdH a x.e.n=fdH b x.e.n then out else putN out x.e.n
def tuH (a b:List Hr):List ByteArray:=(a++b).foldl (tuS a b) []
def Ris (l:List ByteArray):Prop:=l.Pairwise blt
theorem mem_tw {α:Type} {p:α→Bool}:∀{l:List α} {x:α},x ∈ l.takeWhile p→p x=true∧x ∈ l
 | a::l,x,h=>by
  rw [List.takeWhile_cons] at h
  split at h
  ·rename_i hp
   rcases List.mem_cons.1 h with rfl|h
   ·exact ⟨hp,List.mem_cons_self ..⟩
   ·exact ⟨(mem_tw h).1,List.mem_cons_of_mem _ (mem_tw h).2⟩
  ·cases h
theorem mem_dw {α:Type} {p:α→Bool}:∀{l:List α} {x:α},x ∈ l.dropWhile p→x ∈ l
 | a::l,x,h=>by
  rw [List.dropWhile_cons] at h
  split at h
  ·exact List.mem_cons_of_mem _ (mem_dw h)
  ·exact h
theorem dw_head {α:Type} {p:α→Bool}:∀{l r:List α} {x:α},l.dropWhile p=x::r→p x=false
 | a::l,r,x,h=>by
  rw [List.dropWhile_cons] at h
  split at h
  ·exact dw_head h
  ·rename_i hp
   obtain ⟨rfl,-⟩:=List.cons.inj h
   simpa using hp
theorem mem_inH {m:List Hr} {h x:Hr}:x ∈ inH m h↔x=h∨x ∈ m:=by
 have e:=List.takeWhile_append_dropWhile (p:=leH h.e.n) (l:=m)
 unfold inH
 constructor
 ·intro q
  rcases List.mem_append.1 q with q|q
  ·exact .inr (mem_tw q).2
  ·rcases List.mem_cons.1 q with rfl|q
   ·exact .inl rfl
   ·exact .inr (mem_dw q)
 ·rintro (rfl|q)
  ·simp
  ·rw [←e] at q
   rcases List.mem_append.1 q with q|q
   ·exact List.mem_append.2 (.inl q)
   ·exact List.mem_append.2 (.inr (List.mem_cons_of_mem _ q))
theorem fd_none {l:List Hr} {n:ByteArray}:fdH l n=none↔∀x ∈ l,x.e.n≠n:=by
 unfold fdH
 rw [List.find?_eq_none]
 constructor
 ·intro h x hx e
  exact h x hx (decide_eq_true e)
 ·intro h x hx e
  exact h x hx (of_decide_eq_true e)
theorem fd_some {l:List Hr} {n:ByteArray} {x:Hr} (h:fdH l n=some x):x ∈ l∧x.e.n=n:=by
 refine ⟨List.mem_of_find?_eq_some h,?_⟩
 have q:=List.find?_some (p:=fun x:Hr=>decide (x.e.n=n)) h
 exact of_decide_eq_true q
theorem blt_of_not {a b:ByteArray} (h:Op.bytesLess a.toList b.toList=false) (hn:b≠a):blt b a:=by
 rcases blt_tot a b with q|q|q
 ·unfold blt at q;rw [h] at q;cases q
 ·exact q
 ·exact absurd q.symm hn
theorem put_mem {l:List ByteArray} {n x:ByteArray}:x ∈ putN l n↔x=n∨x ∈ l:=by
 have e:=List.takeWhile_append_dropWhile (p:=ltN n) (l:=l)
 unfold putN
 split
 ·rename_i h
  constructor
  ·exact .inr
  ·rintro (rfl|h')
   ·exact mem_dw (List.mem_of_mem_head? h)
   ·exact h'
 ·constructor
  ·intro q
   rcases List.mem_append.1 q with q|q
   ·exact .inr (mem_tw q).2
   ·rcases List.mem_cons.1 q with rfl|q
    ·exact .inl rfl
    ·exact .inr (mem_dw q)
  ·rintro (rfl|q)
   ·simp
   ·rw [←e] at q
    rcases List.mem_append.1 q with q|q
    ·exact List.mem_append.2 (.inl q)
    ·exact List.mem_append.2 (.inr (List.mem_cons_of_mem _ q))
theorem ris_mid {A D:List ByteArray} {n:ByteArray} (h:Ris (A++D)) (ha:∀x ∈ A,blt x n) (hd:∀x ∈ D.head?,blt n x):Ris (A++n::D):=by
 obtain ⟨h1,h2,h3⟩:=List.pairwise_append.1 h
 have hD:∀x ∈ D,blt n x:=by
  cases D with
  | nil=>intro x hx;cases hx
  | cons d r=>
   intro x hx
   have h0:blt n d:=hd d rfl
   rcases List.mem_cons.1 hx with rfl|hx
   ·exact h0
   ·exact blt_tr h0 ((List.pairwise_cons.1 h2).1 x hx)
 refine List.pairwise_append.2 ⟨h1,List.Pairwise.cons hD h2,fun a ha' b hb=>?_⟩
 rcases List.mem_cons.1 hb with rfl|hb
 ·exact ha a ha'
 ·exact h3 a ha' b hb
theorem put_ris {l:List ByteArray} {n:ByteArray} (h:Ris l):Ris (putN l n):=by
 unfold putN
 split
 ·exact h
 ·rename_i hn
  refine ris_mid (by rw [List.takeWhile_append_dropWhile];exact h) (fun x hx=>(mem_tw hx).1) (fun x hx=>?_)
  cases hd:l.dropWhile (ltN n) with
  | nil=>rw [hd] at hx;cases hx
  | cons d r=>
   rw [hd] at hx hn
   obtain rfl:d=x:=Option.some.inj hx
   have q:=dw_head hd
   unfold ltN at q
   exact blt_of_not q (fun e=>hn (by rw [e];rfl))
theorem ris_ext:∀{a b:List ByteArray},Ris a→Ris b→(∀x,x ∈ a↔x ∈ b)→a=b
 | [],[],_,_,_=>rfl
 | [],y::b,_,_,h=>absurd ((h y).2 (List.mem_cons_self ..)) (List.not_mem_nil)
 | x::a,[],_,_,h=>absurd ((h x).1 (List.mem_cons_self ..)) (List.not_mem_nil)
 | x::a,y::b,ha,hb,h=>by
  obtain ⟨ha1,ha2⟩:=List.pairwise_cons.1 ha
  obtain ⟨hb1,hb2⟩:=List.pairwise_cons.1 hb
  have e:x=y:=by
   rcases List.mem_cons.1 ((h x).1 (List.mem_cons_self ..)) with e|hx
   ·exact e
   ·rcases List.mem_cons.1 ((h y).2 (List.mem_cons_self ..)) with e|hy
    ·exact e.symm
    ·exact absurd (hb1 x hx) (fun q=>blt_asym q (ha1 y hy))
  subst e
  rw [ris_ext ha2 hb2 fun z=>?_]
  constructor
  ·intro hz
   rcases List.mem_cons.1 ((h z).1 (List.mem_cons_of_mem _ hz)) with rfl|hz'
   ·exact absurd (ha1 z hz) (blt_self z)
   ·exact hz'
  ·intro hz
   rcases List.mem_cons.1 ((h z).2 (List.mem_cons_of_mem _ hz)) with rfl|hz'
   ·exact absurd (hb1 z hz) (blt_self z)
   ·exact hz'
theorem tuS_mem {a b L:List Hr} {out:List ByteArray} {x:ByteArray}:x ∈ L.foldl (tuS a b) out↔x ∈ out∨∃y ∈ L,y.e.n=x∧fdH a x≠fdH b x:=by
 induction L generalizing out with
 | nil=>simp
 | cons y r ih=>
  rw [List.foldl_cons,ih]
  unfold tuS
  split
  ·rename_i h
   constructor
   ·rintro (q|⟨z,hz,e,hne⟩)
    ·exact .inl q
    ·exact .inr ⟨z,List.mem_cons_of_mem _ hz,e,hne⟩
   ·rintro (q|⟨z,hz,e,hne⟩)
    ·exact .inl q
    ·rcases List.mem_cons.1 hz with rfl|hz
     ·rw [←e] at hne;exact absurd h hne
     ·exact .inr ⟨z,hz,e,hne⟩
  ·rename_i h
   rw [put_mem]
   constructor
   ·rintro ((q|q)|⟨z,hz,e,hne⟩)
    ·exact .inr ⟨y,List.mem_cons_self ..,q.symm,by rw [q];exact h⟩
    ·exact .inl q
    ·exact .inr ⟨z,List.mem_cons_of_mem _ hz,e,hne⟩
   ·rintro (q|⟨z,hz,e,hne⟩)
    ·exact .inl (.inr q)
    ·rcases List.mem_cons.1 hz with rfl|hz
     ·exact .inl (.inl e.symm)
     ·exact .inr ⟨z,hz,e,hne⟩
theorem tuS_ris {a b L:List Hr} {out:List ByteArray} (h:Ris out):Ris (L.foldl (tuS a b) out):=by
 induction L generalizing out with
 | nil=>exact h
 | cons y r ih=>
  rw [List.foldl_cons]
  refine ih ?_
  unfold tuS
  split
  ·exact h
  ·exact put_ris h
theorem tu_ris (a b:List Hr):Ris (tuH a b):=tuS_ris List.Pairwise.nil
theorem tu_mem {a b:List Hr} {x:ByteArray}:x ∈ tuH a b↔fdH a x≠fdH b x:=by
 unfold tuH
 rw [tuS_mem]
 constructor
 ·rintro (q|⟨z,hz,e,hne⟩)
  ·cases q
  ·exact hne
 ·intro hne
  refine .inr ?_
  cases ha:fdH a x with
  | some y=>exact ⟨y,List.mem_append.2 (.inl (fd_some ha).1),(fd_some ha).2,by rw [←ha];exact hne⟩
  | none=>
   cases hb:fdH b x with
   | some y=>exact ⟨y,List.mem_append.2 (.inr (fd_some hb).1),(fd_some hb).2,by rw [←ha,←hb];exact hne⟩
   | none=>exact absurd (ha.trans hb.symm) hne
theorem tu_is {a b:List Hr} {l:List ByteArray} (h:Ris l) (k:∀x,x ∈ l↔fdH a x≠fdH b x):l=tuH a b:=ris_ext h (tu_ris a b) fun x=>by rw [k,tu_mem]
theorem right_in {m:List Hr} {h:Hr} (hm:∀x ∈ m,x.e.n≠h.e.n) (r:Ris (m.map fun x=>x.e.n)):Ris ((inH m h).map fun x=>x.e.n):=by
 unfold inH
 rw [List.map_append,List.map_cons]
 refine ris_mid (by rw [←List.map_append,List.takeWhile_append_dropWhile];exact r) (fun x hx=>?_) (fun x hx=>?_)
 ·obtain ⟨y,hy,rfl⟩:=List.mem_map.1 hx
  obtain ⟨q,hy⟩:=mem_tw hy
  refine blt_of_not ?_ (hm y hy)
  unfold leH at q
  simpa using q
 ·cases hd:m.dropWhile (leH h.e.n) with
  | nil=>rw [hd] at hx;cases hx
  | cons d r=>
   rw [hd] at hx
   obtain rfl:d.e.n=x:=Option.some.inj hx
   have q:=dw_head hd
   unfold leH at q
   simpa [blt] using q
theorem fd_at {l:List Hr} {n:ByteArray} {k:Nat} (hk:k < l.length) (h:fdH (l.take k) n=none) (hn:l[k].e.n=n):fdH l n=some l[k]:=by
 have e:l=l.take k++l[k]::l.drop (k+1):=by rw [←List.drop_eq_getElem_cons hk,List.take_append_drop]
 unfold fdH at h ⊢
 conv=>lhs;rw [e]
 rw [List.find?_append,h,Option.none_or,List.find?_cons_of_pos (by simp [hn])]
theorem str_ne7 (a b:ByteArray):(a.toList != b.toList)=!decide (a=b):=by rw [bne,str_eq]
theorem here_info:(Tryz.prog.info? 36).map (fun i=>(i.zero,i.size,i.bytes))=some (some (.agg #[.string { data:=#[] },.string { data:=#[] },.slice none 0 0,.slice none 0 0,.slice none 0 0,.slice none 0 0,.bool false,.bool false]),8,136):=by kernel_rfl
theorem EntV.to {w wr:World} {S S':Nat→Prop} {x:Ent} {A1 A2 A3 A4:Option Addr} {c1 c2 c3 c4:Nat} (h:EntV w S x A1 c1 A2 c2 A3 c3 A4 c4) (h1:∀b,S b→wr.heap[b]?=w.heap[b]?) (h2:∀b,S b→S' b):EntV wr S' x A1 c1 A2 c2 A3 c3 A4 c4:=
 ⟨rdGrps_good.both h.d h1 h2,rdGrps_good.both h.r h1 h2,rdAtms_good.both h.c h1 h2,rdAtms_good.both h.p h1 h2⟩
theorem EntV.hr {w:World} {S:Nat→Prop} {x:Hr} {A1 A2 A3 A4:Option Addr} {c1 c2 c3 c4:Nat} (h:EntV w S x.e A1 c1 A2 c2 A3 c3 A4 c4):rdHr w S x (#[.string x.e.n,.string x.e.v,.slice A1 x.e.d.length c1,.slice A2 x.e.r.length c2,.slice A3 x.e.c.length c3,.slice A4 x.e.p.length c4,.bool x.a,.bool x.h]:Array Value).toList:=
 ⟨[.string x.e.n,.string x.e.v,.slice A1 x.e.d.length c1,.slice A2 x.e.r.length c2,.slice A3 x.e.c.length c3,.slice A4 x.e.p.length c4],rfl,_,_,_,_,rfl,h.d,h.r,h.c,h.p⟩
theorem wo_step {l:List Hr} {n:ByteArray} {k:Nat} (hk:k < l.length):woH (l.take (k+1)) n=if l[k].e.n=n then woH (l.take k) n else woH (l.take k) n++[l[k]]:=by
 unfold woH
 rw [List.take_succ_eq_append_getElem hk,List.filter_append]
 by_cases h:l[k].e.n=n
 ·rw [if_pos h,List.filter_cons_of_neg (by simp [h]),List.filter_nil,List.append_nil]
 ·rw [if_neg h,List.filter_cons_of_pos (by simp [h]),List.filter_nil]
end Go.Proofs.YtboinnjncaehkaaGreatDoor
namespace Go.Proofs.YtboinnjncaehkaaGreatDoor
open Go
section
variable {P:Program} {ops:Array Oper} {Q:Exit→Act→World→Prop} {md:Region.Mode} {S:World→Prop} {z:Nat}
def wpAnyL (P:Program) (md:Region.Mode) (ops:Array Oper) (Q:Exit→Act→World→Prop) (S:World→Prop) (z:Nat):Nat→Array Bool→Act→World→Prop
 | 0,listed,a,w=>Region.ready md ops listed=[]∧Q .normal a w
 | fuel+1,listed,a,w=>
  (Region.ready md ops listed=[]→Q .normal a w)∧
  ∀i ∈ Region.ready md ops listed,wpOp P ops Q i (fun a' w'=>(i≠z→S w')∧wpAnyL P md ops Q S z fuel (listed.setIfInBounds i true) a' w') a w
theorem wpAny_of_L:∀(fuel:Nat) (listed:Array Bool) (a:Act) (w:World),wpAnyL P md ops Q S z fuel listed a w→wpAny P md ops Q fuel listed a w
 | 0,_,_,_,h=>h
 | fuel+1,_,_,_,h=>⟨h.1,fun i hi=>wpOp_mono (fun a' w' h'=>wpAny_of_L fuel _ a' w' h'.2) (h.2 i hi)⟩
def Full (md:Region.Mode) (ops:Array Oper) (listed:Array Bool):Prop:=∀j o,ops[j]?=some o→listed.getD j false=true→∀e ∈ o.after,Region.binds md e=true→listed.getD e.on false=true
def fullB (md:Region.Mode) (ops:Array Oper) (listed:Array Bool):Bool:=
 (List.range ops.size).all fun j=>!listed.getD j false||((ops[j]?).map (·.after.all fun e=>!Region.binds md e||listed.getD e.on false)).getD true
theorem full_of {listed:Array Bool} (h:fullB md ops listed=true):Full md ops listed:=by
 intro j o ho hj e he hb
 have hlt:j < ops.size:=(Array.getElem?_eq_some_iff.1 ho).1
 unfold fullB at h
 rw [List.all_eq_true] at h
 have:=h j (List.mem_range.2 hlt)
 rw [ho,hj] at this
 simp only [Bool.not_true,Bool.false_or,Option.map_some,Option.getD_some] at this
 have:=Array.all_eq_true_iff_forall_mem.1 this e he
 rw [hb] at this
 simpa using this
theorem Full.step {listed:Array Bool} {i:Nat} (h:Full md ops listed) (hi:i ∈ Region.ready md ops listed):Full md ops (listed.setIfInBounds i true):=by
 intro j o ho hj e he hb
 obtain ⟨_,oi,hoi,hall⟩:=mem_ready.1 hi
 by_cases hji:i=j
 ·subst hji
  rw [hoi] at ho
  injection ho with ho
  subst ho
  exact getD_set_true (hall e he hb)
 ·rw [getD_set_ne false hji] at hj
  exact getD_set_true (h j o ho hj e he hb)
def waitB (md:Region.Mode) (ops:Array Oper):List Nat→Bool
 | j::k::r=>((ops[j]?).map (·.after.any fun e=>Region.binds md e&&e.on==k)).getD false&&waitB md ops (k::r)
 | _=>true
theorem wait_edge {j k:Nat} (h:((ops[j]?).map (·.after.any fun e=>Region.binds md e&&e.on==k)).getD false=true):∃o e,ops[j]?=some o∧e ∈ o.after∧Region.binds md e=true∧e.on=k:=by
 cases ho:ops[j]? with
 | none=>rw [ho] at h;simp at h
 | some o=>
  rw [ho] at h
  simp only [Option.map_some,Option.getD_some] at h
  obtain ⟨e,he,hb⟩:=Array.any_eq_true'.1 h
  simp only [Bool.and_eq_true,beq_iff_eq] at hb
  exact ⟨o,e,rfl,he,hb.1,hb.2⟩
theorem wait_listed {listed:Array Bool} (hc:Full md ops listed) {i:Nat}:∀(r:List Nat) (j:Nat),waitB md ops (j::(r++[i]))=true→(∀o,ops[j]?=some o→∀e ∈ o.after,Region.binds md e=true→listed.getD e.on false=true)→listed.getD i false=true
 | [],j,h,hj=>by
  unfold waitB at h
  rw [List.nil_append] at h
  simp only [Bool.and_eq_true] at h
  obtain ⟨o,e,ho,he,hb,rfl⟩:=wait_edge h.1
  exact hj o ho e he hb
 | k::r,j,h,hj=>by
  rw [List.cons_append] at h
  unfold waitB at h
  simp only [Bool.and_eq_true] at h
  obtain ⟨o,e,ho,he,hb,rfl⟩:=wait_edge h.1
  exact wait_listed hc r e.on h.2 fun o' ho'=>hc e.on o' ho' (hj o ho e he hb)
theorem wpAnyL_first {i:Nat} {oi:Oper} {v:Value} (hi:ops[i]?=some oi) (hsel:∀(j:Nat) (o:Oper) cs b,ops[j]?=some o→o.op≠.select cs b)
  (hQ:∀c a w,Q (.panic c) (a.put oi.dst v) w→Q (.panic c) a w) (hiz:i≠z) (hz:∀listed,Full md ops listed→z ∈ Region.ready md ops listed→listed.getD i false=true) :
  ∀(fuel:Nat) (listed:Array Bool) (a:Act) (w:World),Full md ops listed→
   (∀j oj,ops[j]?=some oj→j≠i→listed.getD j true=false→(∀e ∈ oj.after,Region.binds md e=true→e.on≠i)→oi.apart ops oj=true)→
   i ∈ Region.ready md ops listed→YieldsIf P ops S oi v a→S w→
   wpAnyL P md ops Q S z fuel (listed.setIfInBounds i true) (a.put oi.dst v) w→wpAnyL P md ops Q S z (fuel+1) listed a w:=by
 intro fuel
 induction fuel with
 | zero=>
  intro listed a w _ _ hr hy hS H
  refine ⟨fun h=>(by rw [h] at hr;cases hr),fun j hj=>?_⟩
  by_cases hji:j=i
  ·subst hji;exact hy.wpOp hi hS ⟨fun _=>hS,H⟩
  ·have:=ready_mono hj hji
   rw [H.1] at this
   cases this
 | succ fuel ih=>
  intro listed a w hc hfree hr hy hS H
  refine ⟨fun h=>(by rw [h] at hr;cases hr),fun j hj=>?_⟩
  by_cases hji:j=i
  ·subst hji;exact hy.wpOp hi hS ⟨fun _=>hS,H⟩
  ·have h1:=H.2 j (ready_mono hj hji)
   obtain ⟨hjun,oj,hoj,hall⟩:=mem_ready.1 hj
   have hil:listed.getD i false=false:=by
    have h0:=(mem_ready.1 hr).1
    rcases Nat.lt_or_ge i listed.size with h'|h'
    ·simp [h'] at h0 ⊢;exact h0
    ·simp [Array.getElem?_eq_none h']
   have hnot:∀e ∈ oj.after,Region.binds md e=true→e.on≠i:=fun e he hb heq=>by
    have h1:=hall e he hb
    rw [heq,hil] at h1
    cases h1
   have hjz:j≠z:=fun e=>by
    subst e
    rw [hz listed hc hj] at hil
    cases hil
   have h2:=wpOp_putIf hoj (hfree j oj hoj hji hjun hnot) (fun cs b=>hsel i oi cs b hi) (fun cs b=>hsel j oj cs b hoj) hQ hy h1
   have hfree':∀k ok,ops[k]?=some ok→k≠i→(listed.setIfInBounds j true).getD k true=false→
     (∀e ∈ ok.after,Region.binds md e=true→e.on≠i)→oi.apart ops ok=true:=fun k ok hk hki hun hno=>by
    refine hfree k ok hk hki ?_ hno
    by_cases hjk:j=k
    ·subst hjk;exact hjun
    ·rw [getD_set_ne true hjk] at hun;exact hun
   refine wpOp_mono (fun a' w' h3=>⟨h3.2.1,ih (listed.setIfInBounds j true) a' w' (hc.step hj) hfree' (ready_mono hr (Ne.symm hji)) h3.1 (h3.2.1 hjz) ?_⟩) h2
   rw [Array.setIfInBounds_comm _ _ hji]
   exact h3.2.2
theorem wpAnyL_take {i:Nat} {oi:Oper} {v:Value} {fuel:Nat} {listed:Array Bool} {a:Act} {w:World} (r:List Nat) (hi:ops[i]?=some oi)
  (hs:Region.noSelect ops=true) (hf:Region.free md ops listed i=true) (hr:(Region.ready md ops listed).contains i=true)
  (hQ:∀c a w,Q (.panic c) (a.put oi.dst v) w→Q (.panic c) a w) (hiz:(i==z)=false) (hw:waitB md ops (z::(r++[i]))=true) (hc:fullB md ops listed=true) (hy:YieldsIf P ops S oi v a) (hS:S w)
  (h:wpAnyL P md ops Q S z fuel (listed.setIfInBounds i true) (a.put oi.dst v) w):wpAnyL P md ops Q S z (fuel+1) listed a w:=
 wpAnyL_first hi (Region.noSelect_spec hs) hQ (by simpa using hiz) (fun L hL hzL=>by
  obtain ⟨_,o,ho,hall⟩:=mem_ready.1 hzL
  exact wait_listed hL r z hw fun o' ho'=>by rw [ho] at ho';injection ho' with ho';subst ho';exact hall)
  fuel listed a w (full_of hc) (Region.free_spec hi hf) (by simpa using hr) hy hS h
theorem wpAnyL_done {listed:Array Bool} {a:Act} {w:World} (hr:Region.ready md ops listed=[]) (h:Q .normal a w) :
  ∀fuel,wpAnyL P md ops Q S z fuel listed a w
 | 0=>⟨hr,h⟩
 | _+1=>⟨fun _=>h,by rw [hr];simp⟩
theorem wpAnyL_one {i:Nat} {o:Oper} {fuel:Nat} {listed:Array Bool} {a:Act} {w:World} (hr:Region.ready md ops listed=[i]) (ho:ops[i]?=some o)
  (h:∀K':Act→World→Prop,Shut (∀a w,S w→(S w→wpAnyL P md ops Q S z fuel (listed.setIfInBounds i true) a w)→K' a w)→if Region.wanted o (yielded ops a.tmps)=true then Oper.wp P o a w K' Q else K' (a.put o.dst undef) w) :
  wpAnyL P md ops Q S z (fuel+1) listed a w:=by
 refine ⟨fun h0=>(by rw [hr] at h0;cases h0),fun j hj=>?_⟩
 rw [hr,List.mem_singleton] at hj
 subst hj
 exact wpOp_step ho fun K' hK=>h K' (fun a w hS hW=>hK a w ⟨fun _=>hS,hW hS⟩)
theorem wpAnyL_last {o:Oper} {fuel:Nat} {listed:Array Bool} {a:Act} {w:World} (hr:Region.ready md ops listed=[z]) (ho:ops[z]?=some o) (hr2:Region.ready md ops (listed.setIfInBounds z true)=[])
  (h:∀K':Act→World→Prop,Shut (∀a w,Q .normal a w→K' a w)→if Region.wanted o (yielded ops a.tmps)=true then Oper.wp P o a w K' Q else K' (a.put o.dst undef) w) :
  wpAnyL P md ops Q S z (fuel+1) listed a w:=by
 refine ⟨fun h0=>(by rw [hr] at h0;cases h0),fun j hj=>?_⟩
 rw [hr,List.mem_singleton] at hj
 subst hj
 exact wpOp_step ho fun K' hK=>h K' (fun a w hq=>hK a w ⟨fun h=>absurd rfl h,wpAnyL_done hr2 hq _⟩)
theorem wp_region_L {id:Nat} {a:Act} {w:World} (S:World→Prop) (z:Nat) (hm:P.follows .mixedOrders=true) (hS:S w.drew)
  (h:S w.drew→wpAnyL P .any ops Q S z ops.size (Array.replicate ops.size false) a w.drew):(Code.region id ops true).wp P Q a w:=
 wp_region_any hm (wpAny_of_L _ _ _ _ (h hS))
end
end Go.Proofs.YtboinnjncaehkaaGreatDoor
namespace Go.Proofs.YtboinnjncaehkaaGreatDoor
open Go.RowKit
section
variable {α:Type} {E:Rd α} {sz:Nat} {ty:TypeId}
theorem one_rd {w:World} {S:Nat→Prop} {b:Nat} {y:α} {blk:Array Value} (g:Good E sz) (hb:w.heap[b]?=some (.cells blk ty (0,0))) (hE:E w S y blk.toList) (hS:S b):rdRow sz E w S [y] [.slice (some ⟨b,0,none⟩) 1 1]:=
 rd_block g (S:=S) (l:=[y]) (css:=[blk.toList]) (by simpa using hb) hS rfl rfl (fun k hk=>by
  simp only [List.length_singleton] at hk
  obtain rfl:k=0:=by omega
  exact ⟨_,rfl,hE⟩) (by simp)
theorem rdRow_drop {w:World} {S:Nat→Prop} {l:List α} {ad:Addr} {n c k:Nat} (h:rdRow sz E w S l [.slice (some ad) n c]) (hk:k≤l.length):rdRow sz E w S (l.drop k) [.slice (if c=k then some ad else some (ad.add (k*sz))) (n - k) (c - k)]:=by
 obtain ⟨A',c',e,h1,h2,h⟩:=h
 simp only [List.cons.injEq,Value.slice.injEq,and_true] at e
 obtain ⟨rfl,rfl,rfl⟩:=e
 have hlen:(l.drop k).length=l.length - k:=List.length_drop ..
 refine ⟨_,c - k,by rw [hlen],by omega,by omega,fun j hj=>?_⟩
 obtain ⟨ad',es,a1,a2,a3,a4,a5⟩:=h (k+j) (by omega)
 obtain rfl:ad=ad':=Option.some.inj a1
 have hck:¬c=k:=by omega
 refine ⟨ad.add (k*sz),es,by rw [if_neg hck],by rw [blk_add];exact a2,by rw [List.getElem_drop];exact a3,a4,fun t u ht=>?_⟩
 have e:(ad.add (k*sz)).add (j*sz+t)=ad.add ((k+j)*sz+t):=by
  rw [Nat.add_mul]
  unfold Addr.add
  by_cases h1:k*sz=0<;>by_cases h2:j*sz+t=0<;>simp [h1,h2,Nat.add_assoc]<;>omega
 rw [e];exact a5 t u ht
end
theorem le_or (a b:ByteArray):(Op.bytesLess a.toList b.toList||a.toList==b.toList)=!Op.bytesLess b.toList a.toList:=by
 rw [str_eq,Bool.eq_iff_iff,Bool.or_eq_true,decide_eq_true_iff,Bool.not_eq_true',Bool.eq_false_iff]
 constructor
 ·rintro (h|rfl) k
  ·exact blt_asym (a:=a) (b:=b) h k
  ·exact blt_self a k
 ·intro h
  rcases blt_tot a b with q|q|q
  ·exact .inl q
  ·exact absurd q h
  ·exact .inr q
end Go.Proofs.YtboinnjncaehkaaGreatDoor
namespace Go.Proofs.YtboinnjncaehkaaGreatDoor
open Go.RowKit Go.Sort
def Gw (w w':World):Prop:=∃q os,w'=grow (w.drewN q) os
theorem Gw.below {w w':World} (h:Gw w w'):Below w.heap.size w w':=by
 obtain ⟨q,os,rfl⟩:=h
 exact ⟨rfl,rfl,rfl,by rw [size_grow];exact Nat.le_add_right _ _,fun k hk=>by
  unfold grow
  show ((w.drewN q).heap++os)[k]?=_
  rw [Array.getElem?_append_left (by exact hk)];rfl⟩
structure HrV where
 x:Hr
 A1:Option Addr
 c1:Nat
 A2:Option Addr
 c2:Nat
 A3:Option Addr
 c3:Nat
 A4:Option Addr
 c4:Nat
instance:Inhabited HrV:=⟨⟨nil7,none,0,none,0,none,0,none,0⟩⟩
def HrV.cs (r:HrV):List Value:=[.string r.x.e.n,.string r.x.e.v,.slice r.A1 r.x.e.d.length r.c1,.slice r.A2 r.x.e.r.length r.c2,.slice r.A3 r.x.e.c.length r.c3,.slice r.A4 r.x.e.p.length r.c4,.bool r.x.a,.bool r.x.h]
theorem HrV.len (r:HrV):r.cs.length=8:=rfl
theorem HrV.one (r:HrV):∀v ∈ r.cs,v.oneCell'=true:=by
 intro v hv
 simp only [HrV.cs,List.mem_cons,List.not_mem_nil,or_false] at hv
 rcases hv with rfl|rfl|rfl|rfl|rfl|rfl|rfl|rfl<;>rfl
def cmpN (a b:ByteArray):Int:=if Op.bytesLess a.toList b.toList=true then -1 else if Op.bytesLess b.toList a.toList=true then 1 else 0
theorem cmpN_lt (a b:ByteArray):decide (cmpN a b < 0)=Op.bytesLess a.toList b.toList:=by
 unfold cmpN
 cases Op.bytesLess a.toList b.toList
 ·cases Op.bytesLess b.toList a.toList<;>rfl
 ·rfl
set_option maxHeartbeats 1000000 in
theorem nan_any (s:ByteArray) (w:World):Calls Tryz.prog 63 #[.string s] w fun e w'=>e=.returned (.bool false)∧w'=w:=by
 have hq:(s.toList != s.toList)=false:=by rw [str_ne7];simp
 go_enter Tryz.func63,Tryz.ntmps63
 go_wp2
 go_ret
 exact ⟨rfl,rfl⟩
set_option maxHeartbeats 2000000 in
theorem cmps_any (a b:ByteArray) (w:World):Calls Tryz.prog 36 #[.string a,.string b] w fun e w'=>e=.returned (.int .i64 (cmpN a b))∧w'=w:=by
 have N1:=Lib.hid (fun (W:World)=>nan_any a W)
 have N2:=Lib.hid (fun (W:World)=>nan_any b W)
 have hx:cmpN a b=if Op.bytesLess a.toList b.toList=true then -1 else if Op.bytesLess b.toList a.toList=true then 1 else 0:=rfl
 generalize cmpN a b=r at *
 go_enter Tryz.func36,Tryz.ntmps36
 go_wp2_with fail
 refine (N1.out _).mono ?_
 rintro e w1 ⟨rfl,rfl⟩
 go_wp2_with fail
 refine (N2.out _).mono ?_
 rintro e w1 ⟨rfl,rfl⟩
 have hor:=le_or a b
 cases h1:Op.bytesLess a.toList b.toList
 ·rw [h1,Bool.false_or] at hor
  cases h2:Op.bytesLess b.toList a.toList
  ·rw [h2] at hor
   rw [h1,h2] at hx
   subst hx
   go_wp2
   go_ret
   exact ⟨rfl,rfl⟩
  ·rw [h2] at hor
   rw [h1,h2] at hx
   subst hx
   go_wp2
   go_ret
   exact ⟨rfl,rfl⟩
 ·clear hor
  rw [h1] at hx
  subst hx
  go_wp2
  go_ret
  exact ⟨rfl,rfl⟩
set_option maxHeartbeats 1000000 in
theorem name_any (r:HrV) (w:World):Calls Tryz.prog 33 #[.agg r.cs.toArray] w fun e w'=>e=.returned (.string r.x.e.n)∧Gw w w':=by
 obtain ⟨⟨⟨n,v,d,rr,c,p⟩,a,h⟩,A1,c1,A2,c2,A3,c3,A4,c4⟩:=r
 unfold HrV.cs
 go_enter Tryz.func33,Tryz.ntmps33
 go_wp2
 go_ret
 exact ⟨rfl,0,_,by rw [alloc_eq_grow];rfl⟩
theorem Gw.refl (w:World):Gw w w:=⟨0,#[],by rw [grow_empty];rfl⟩
theorem Gw.trans {a b c:World} (h:Gw a b) (k:Gw b c):Gw a c:=by
 obtain ⟨q,os,rfl⟩:=h
 obtain ⟨r,ps,rfl⟩:=k
 exact ⟨q+r,os++ps,by show grow (grow ((a.drewN q).drewN r) os) ps=_;rw [grow_grow,World.drewN_drewN]⟩
theorem Gw.alloc (w:World) (o:Obj):Gw w (w.alloc o):=⟨0,#[o],by rw [alloc_eq_grow];rfl⟩
theorem Gw.drewN (w:World) (n:Nat):Gw w (w.drewN n):=⟨n,#[],by rw [grow_empty]⟩
theorem Gw.grow (w:World) (n:Nat) (os:Array Obj):Gw w (grow (w.drewN n) os):=⟨n,os,rfl⟩
theorem Gw.cell {w w':World} (h:Gw w w') {a:Addr} {v:Value} (hb:a.block < w.heap.size) (hc:w.cell? a=some v):w'.cell? a=some v:=by
 obtain ⟨q,os,rfl⟩:=h
 exact cell_grown hb hc q os
def Bx8 (W:World) (b:Nat) (r:HrV):Prop:=∀n os,(grow (W.drewN n) os).cell? ⟨b,0,none⟩=some (.string r.x.e.n)∧(grow (W.drewN n) os).cell? ⟨b,1,none⟩=some (.string r.x.e.v)∧(grow (W.drewN n) os).cell? ⟨b,2,none⟩=some (.slice r.A1 r.x.e.d.length r.c1)∧(grow (W.drewN n) os).cell? ⟨b,3,none⟩=some (.slice r.A2 r.x.e.r.length r.c2)∧(grow (W.drewN n) os).cell? ⟨b,4,none⟩=some (.slice r.A3 r.x.e.c.length r.c3)∧(grow (W.drewN n) os).cell? ⟨b,5,none⟩=some (.slice r.A4 r.x.e.p.length r.c4)∧(grow (W.drewN n) os).cell? ⟨b,6,none⟩=some (.bool r.x.a)∧(grow (W.drewN n) os).cell? ⟨b,7,none⟩=some (.bool r.x.h)
theorem bx8_of {W:World} {b:Nat} {r:HrV} (hb:b < W.heap.size) (h:∀j v,r.cs[j]?=some v→W.cell? ⟨b,j,none⟩=some v):Bx8 W b r:=fun n os=>
 ⟨cell_grown hb (h 0 _ rfl) n os,cell_grown hb (h 1 _ rfl) n os,cell_grown hb (h 2 _ rfl) n os,cell_grown hb (h 3 _ rfl) n os,cell_grown hb (h 4 _ rfl) n os,cell_grown hb (h 5 _ rfl) n os,cell_grown hb (h 6 _ rfl) n os,cell_grown hb (h 7 _ rfl) n os⟩
theorem box8_new (w:World) (r:HrV) (T:TypeId):∀j v,r.cs[j]?=some v→(w.alloc (.cells r.cs.toArray T)).cell? ⟨w.heap.size,j,none⟩=some v:=by
 intro j v h
 rw [cell_of_row (w.alloc (.cells r.cs.toArray T)) w.heap.size j _ _ (0,0) (heap_alloc_new w _)]
 simpa using h
theorem old8 {w:World} {b:Nat} {r:HrV} (o:Obj) (h:∀j v,r.cs[j]?=some v→w.cell? ⟨b,j,none⟩=some v):∀j v,r.cs[j]?=some v→(w.alloc o).cell? ⟨b,j,none⟩=some v:=fun j v hj=>Lib.cell?_alloc_some _ (h j v hj)
set_option maxHeartbeats 2000000 in
theorem place1h_any (r:HrV) (nm:ByteArray) (q:Addr) (w:World) (hq:q.block < w.heap.size) (hc:w.cell? q=some (.string nm)) :
  Calls Tryz.prog 60 #[.agg r.cs.toArray,.pointer (some q)] w fun e w'=>e=.returned (.bool (decide (r.x.e.n=nm)))∧Gw w w':=by
 have KN:=Lib.hid (fun (W:World)=>name_any r W)
 have he:=str_eq r.x.e.n nm
 obtain ⟨V,hV⟩:∃V,V=w.alloc (.cells r.cs.toArray 36):=⟨_,rfl⟩
 have hbx1:=bx8_of (W:=V) (b:=w.heap.size) (r:=r) (by rw [hV,World.size_alloc];exact Nat.lt_succ_self _) (by rw [hV];exact box8_new w r 36)
 have hcq:=fun n os=>cell_grown (w:=V) (a:=q) (by rw [hV,World.size_alloc];omega) (by rw [hV];exact Lib.cell?_alloc_some (.cells r.cs.toArray 36) hc) n os
 have GA:=Lib.hid (show Gw w V by rw [hV];exact Gw.alloc w _)
 generalize hb:w.heap.size=b at *
 obtain ⟨⟨⟨n,v,d,r,e,p⟩,a,h⟩,A1,c1,A2,c2,A3,c3,A4,c4⟩:=r
 unfold Bx8 at hbx1
 have c10:=fun n os=>(hbx1 n os).1
 have c11:=fun n os=>(hbx1 n os).2.1
 have c12:=fun n os=>(hbx1 n os).2.2.1
 have c13:=fun n os=>(hbx1 n os).2.2.2.1
 have c14:=fun n os=>(hbx1 n os).2.2.2.2.1
 have c15:=fun n os=>(hbx1 n os).2.2.2.2.2.1
 have c16:=fun n os=>(hbx1 n os).2.2.2.2.2.2.1
 have c17:=fun n os=>(hbx1 n os).2.2.2.2.2.2.2
 clear hbx1
 simp only at c10 c11 c12 c13 c14 c15 c16 c17
 simp only at he
 generalize decide (n=nm)=dd at *
 unfold HrV.cs at *
 clear hc hq
 have HV:=Lib.hid hV
 clear hV
 have mixed:Tryz.prog.follows .mixedOrders=true:=by kernel_rfl
 go_enter Tryz.func60,Tryz.ntmps60
 go_wp2_with fail
 rw [←HV.out]
 go_quiet_grown (first|(go_at_call 33;refine Calls.grown_of (KN.out _)))
 go_wp2
 go_ret
 exact ⟨rfl,GA.out.trans (Gw.grow _ _ _)⟩
set_option maxHeartbeats 4000000 in
theorem parse1h_any (r s:HrV) (w:World) :
  Calls Tryz.prog 35 #[.agg r.cs.toArray,.agg s.cs.toArray] w fun e w'=>e=.returned (.int .i64 (cmpN r.x.e.n s.x.e.n))∧Gw w w':=by
 have KN1:=Lib.hid (fun (W:World)=>name_any r W)
 have KN2:=Lib.hid (fun (W:World)=>name_any s W)
 have KC:=Lib.hid (fun (W:World)=>(cmps_any r.x.e.n s.x.e.n W).mono (R':=fun e w'=>e=.returned (.int .i64 (cmpN r.x.e.n s.x.e.n))∧Gw W w') fun _ _ h=>⟨h.1,by rw [h.2];exact Gw.refl W⟩)
 obtain ⟨V,hV⟩:∃V,V=(w.alloc (.cells r.cs.toArray 36)).alloc (.cells s.cs.toArray 36):=⟨_,rfl⟩
 have hbx1:=bx8_of (W:=V) (b:=w.heap.size) (r:=r) (by rw [hV,World.size_alloc,World.size_alloc];omega) (by rw [hV];exact old8 _ (box8_new w r 36))
 have hbx2:=bx8_of (W:=V) (b:=w.heap.size+1) (r:=s) (by rw [hV,World.size_alloc,World.size_alloc];omega) (by rw [hV];have:=box8_new (w.alloc (.cells r.cs.toArray 36)) s 36;rw [World.size_alloc] at this;exact this)
 have GA:=Lib.hid (show Gw w V by rw [hV];exact (Gw.alloc w _).trans (Gw.alloc _ _))
 generalize hb:w.heap.size=b at *
 obtain ⟨⟨⟨n,v,d,r,e,p⟩,a,h⟩,A1,c1,A2,c2,A3,c3,A4,c4⟩:=r
 obtain ⟨⟨⟨n2,v2,d2,r2,e2,p2⟩,a2,h2⟩,A12,c12,A22,c22,A32,c32,A42,c42⟩:=s
 unfold Bx8 at hbx1 hbx2
 have c10:=fun n os=>(hbx1 n os).1
 have c11:=fun n os=>(hbx1 n os).2.1
 have c12:=fun n os=>(hbx1 n os).2.2.1
 have c13:=fun n os=>(hbx1 n os).2.2.2.1
 have c14:=fun n os=>(hbx1 n os).2.2.2.2.1
 have c15:=fun n os=>(hbx1 n os).2.2.2.2.2.1
 have c16:=fun n os=>(hbx1 n os).2.2.2.2.2.2.1
 have c17:=fun n os=>(hbx1 n os).2.2.2.2.2.2.2
 clear hbx1
 simp only at c10 c11 c12 c13 c14 c15 c16 c17
 have c20:=fun n os=>(hbx2 n os).1
 have c21:=fun n os=>(hbx2 n os).2.1
 have c22:=fun n os=>(hbx2 n os).2.2.1
 have c23:=fun n os=>(hbx2 n os).2.2.2.1
 have c24:=fun n os=>(hbx2 n os).2.2.2.2.1
 have c25:=fun n os=>(hbx2 n os).2.2.2.2.2.1
 have c26:=fun n os=>(hbx2 n os).2.2.2.2.2.2.1
 have c27:=fun n os=>(hbx2 n os).2.2.2.2.2.2.2
 clear hbx2
 simp only at c20 c21 c22 c23 c24 c25 c26 c27
 simp only at KC
 generalize cmpN n n2=dd at *
 unfold HrV.cs at *
 have HV:=Lib.hid hV
 clear hV
 have mixed:Tryz.prog.follows .mixedOrders=true:=by kernel_rfl
 go_enter Tryz.func35,Tryz.ntmps35
 go_wp2_with fail
 rw [←HV.out]
 go_quiet_grown (first|(go_at_call 33;first|(with_reducible refine Calls.grown_of (KN1.out _))|(with_reducible refine Calls.grown_of (KN2.out _)))|(go_at_call 36;refine Calls.grown_of (KC.out _)))
 go_wp2
 go_ret
 exact ⟨rfl,GA.out.trans (Gw.grow _ _ _)⟩
set_option maxHeartbeats 4000000 in
theorem firsts1_any (r s:HrV) (q:Addr) (w:World) (hq:q.block < w.heap.size) (hc:w.cell? q=some (.func (.func 33) #[] #[])) :
  Calls Tryz.prog 152 #[.agg r.cs.toArray,.agg s.cs.toArray,.pointer (some q)] w fun e w'=>e=.returned (.int .i64 (cmpN r.x.e.n s.x.e.n))∧Gw w w':=by
 have KN1:=Lib.hid (fun (W:World)=>name_any r W)
 have KN2:=Lib.hid (fun (W:World)=>name_any s W)
 have KC:=Lib.hid (fun (W:World)=>(cmps_any r.x.e.n s.x.e.n W).mono (R':=fun e w'=>e=.returned (.int .i64 (cmpN r.x.e.n s.x.e.n))∧Gw W w') fun _ _ h=>⟨h.1,by rw [h.2];exact Gw.refl W⟩)
 obtain ⟨V,hV⟩:∃V,V=(w.alloc (.cells r.cs.toArray 36)).alloc (.cells s.cs.toArray 36):=⟨_,rfl⟩
 have hbx1:=bx8_of (W:=V) (b:=w.heap.size) (r:=r) (by rw [hV,World.size_alloc,World.size_alloc];omega) (by rw [hV];exact old8 _ (box8_new w r 36))
 have hbx2:=bx8_of (W:=V) (b:=w.heap.size+1) (r:=s) (by rw [hV,World.size_alloc,World.size_alloc];omega) (by rw [hV];have:=box8_new (w.alloc (.cells r.cs.toArray 36)) s 36;rw [World.size_alloc] at this;exact this)
 have hcq:=fun n os=>cell_grown (w:=V) (a:=q) (by rw [hV,World.size_alloc,World.size_alloc];omega) (by rw [hV];exact Lib.cell?_alloc_some _ (Lib.cell?_alloc_some _ hc)) n os
 have GA:=Lib.hid (show Gw w V by rw [hV];exact (Gw.alloc w _).trans (Gw.alloc _ _))
 generalize hb:w.heap.size=b at *
 obtain ⟨⟨⟨n,v,d,r,e,p⟩,a,h⟩,A1,c1,A2,c2,A3,c3,A4,c4⟩:=r
 obtain ⟨⟨⟨n2,v2,d2,r2,e2,p2⟩,a2,h2⟩,A12,c12,A22,c22,A32,c32,A42,c42⟩:=s
 unfold Bx8 at hbx1 hbx2
 have c10:=fun n os=>(hbx1 n os).1
 have c11:=fun n os=>(hbx1 n os).2.1
 have c12:=fun n os=>(hbx1 n os).2.2.1
 have c13:=fun n os=>(hbx1 n os).2.2.2.1
 have c14:=fun n os=>(hbx1 n os).2.2.2.2.1
 have c15:=fun n os=>(hbx1 n os).2.2.2.2.2.1
 have c16:=fun n os=>(hbx1 n os).2.2.2.2.2.2.1
 have c17:=fun n os=>(hbx1 n os).2.2.2.2.2.2.2
 clear hbx1
 simp only at c10 c11 c12 c13 c14 c15 c16 c17
 have c20:=fun n os=>(hbx2 n os).1
 have c21:=fun n os=>(hbx2 n os).2.1
 have c22:=fun n os=>(hbx2 n os).2.2.1
 have c23:=fun n os=>(hbx2 n os).2.2.2.1
 have c24:=fun n os=>(hbx2 n os).2.2.2.2.1
 have c25:=fun n os=>(hbx2 n os).2.2.2.2.2.1
 have c26:=fun n os=>(hbx2 n os).2.2.2.2.2.2.1
 have c27:=fun n os=>(hbx2 n os).2.2.2.2.2.2.2
 clear hbx2
 simp only at c20 c21 c22 c23 c24 c25 c26 c27
 simp only at KC
 generalize cmpN n n2=dd at *
 clear hq hc
 unfold HrV.cs at *
 have HV:=Lib.hid hV
 clear hV
 have mixed:Tryz.prog.follows .mixedOrders=true:=by kernel_rfl
 go_enter Tryz.func152,Tryz.ntmps152
 go_wp2_with fail
 rw [←HV.out]
 go_quiet_grown (first|(go_at_call 33;first|(with_reducible refine Calls.grown_of (KN1.out _))|(with_reducible refine Calls.grown_of (KN2.out _)))|(go_at_call 36;refine Calls.grown_of (KC.out _)))
 go_wp2
 go_ret
 exact ⟨rfl,GA.out.trans (Gw.grow _ _ _)⟩
set_option maxHeartbeats 4000000 in
theorem firsts2_any (r s:HrV) (q:Addr) (w:World) (hq:q.block < w.heap.size) (hc:w.cell? q=some (.func (.func 33) #[] #[])) :
  Calls Tryz.prog 154 #[.agg r.cs.toArray,.agg s.cs.toArray,.pointer (some q)] w fun e w'=>e=.returned (.bool (decide (r.x.e.n=s.x.e.n)))∧Gw w w':=by
 have KN1:=Lib.hid (fun (W:World)=>name_any r W)
 have KN2:=Lib.hid (fun (W:World)=>name_any s W)
 obtain ⟨V,hV⟩:∃V,V=(w.alloc (.cells r.cs.toArray 36)).alloc (.cells s.cs.toArray 36):=⟨_,rfl⟩
 have hbx1:=bx8_of (W:=V) (b:=w.heap.size) (r:=r) (by rw [hV,World.size_alloc,World.size_alloc];omega) (by rw [hV];exact old8 _ (box8_new w r 36))
 have hbx2:=bx8_of (W:=V) (b:=w.heap.size+1) (r:=s) (by rw [hV,World.size_alloc,World.size_alloc];omega) (by rw [hV];have:=box8_new (w.alloc (.cells r.cs.toArray 36)) s 36;rw [World.size_alloc] at this;exact this)
 have hcq:=fun n os=>cell_grown (w:=V) (a:=q) (by rw [hV,World.size_alloc,World.size_alloc];omega) (by rw [hV];exact Lib.cell?_alloc_some _ (Lib.cell?_alloc_some _ hc)) n os
 have GA:=Lib.hid (show Gw w V by rw [hV];exact (Gw.alloc w _).trans (Gw.alloc _ _))
 generalize hb:w.heap.size=b at *
 obtain ⟨⟨⟨n,v,d,r,e,p⟩,a,h⟩,A1,c1,A2,c2,A3,c3,A4,c4⟩:=r
 obtain ⟨⟨⟨n2,v2,d2,r2,e2,p2⟩,a2,h2⟩,A12,c12,A22,c22,A32,c32,A42,c42⟩:=s
 unfold Bx8 at hbx1 hbx2
 have c10:=fun n os=>(hbx1 n os).1
 have c11:=fun n os=>(hbx1 n os).2.1
 have c12:=fun n os=>(hbx1 n os).2.2.1
 have c13:=fun n os=>(hbx1 n os).2.2.2.1
 have c14:=fun n os=>(hbx1 n os).2.2.2.2.1
 have c15:=fun n os=>(hbx1 n os).2.2.2.2.2.1
 have c16:=fun n os=>(hbx1 n os).2.2.2.2.2.2.1
 have c17:=fun n os=>(hbx1 n os).2.2.2.2.2.2.2
 clear hbx1
 simp only at c10 c11 c12 c13 c14 c15 c16 c17
 have c20:=fun n os=>(hbx2 n os).1
 have c21:=fun n os=>(hbx2 n os).2.1
 have c22:=fun n os=>(hbx2 n os).2.2.1
 have c23:=fun n os=>(hbx2 n os).2.2.2.1
 have c24:=fun n os=>(hbx2 n os).2.2.2.2.1
 have c25:=fun n os=>(hbx2 n os).2.2.2.2.2.1
 have c26:=fun n os=>(hbx2 n os).2.2.2.2.2.2.1
 have c27:=fun n os=>(hbx2 n os).2.2.2.2.2.2.2
 clear hbx2
 simp only at c20 c21 c22 c23 c24 c25 c26 c27
 have he:=str_eq n n2
 simp only at he ⊢
 generalize decide (n=n2)=dd at *
 clear hq hc
 unfold HrV.cs at *
 have HV:=Lib.hid hV
 clear hV
 have mixed:Tryz.prog.follows .mixedOrders=true:=by kernel_rfl
 go_enter Tryz.func154,Tryz.ntmps154
 go_wp2_with fail
 rw [←HV.out]
 go_quiet_grown (first|(go_at_call 33;first|(with_reducible refine Calls.grown_of (KN1.out _))|(with_reducible refine Calls.grown_of (KN2.out _))))
 go_wp2
 go_ret
 exact ⟨rfl,GA.out.trans (Gw.grow _ _ _)⟩
end Go.Proofs.YtboinnjncaehkaaGreatDoor
namespace Go.Proofs.YtboinnjncaehkaaGreatDoor
open Go.RowKit
def mkL (n:ByteArray) (a h:Bool) (l:List Hr):List Hr:=(mkH n a h l).getD []
def mkE (n:ByteArray) (a h:Bool) (l:List Hr):Int:=if (mkH n a h l).isSome=true then 0 else 6
theorem mk_hit {n:ByteArray} {a h:Bool} {l:List Hr} {k:Nat} (hk:k < l.length) (hp:mkH n a h l=(mkH n a h (l.drop k)).map (l.take k++·)) (hn:l[k].e.n=n):mkL n a h l=l.set k ⟨l[k].e,a,h⟩∧mkE n a h l=0:=by
 have e:mkH n a h l=some (l.set k ⟨l[k].e,a,h⟩):=by
  rw [hp,List.drop_eq_getElem_cons hk]
  unfold mkH
  rw [if_pos hn]
  simp only [Option.map_some]
  rw [List.set_eq_take_append_cons_drop,if_pos hk]
 unfold mkL mkE
 rw [e]
 exact ⟨rfl,rfl⟩
theorem mk_miss {n:ByteArray} {a h:Bool} {l:List Hr} {k:Nat} (hk:k < l.length) (hp:mkH n a h l=(mkH n a h (l.drop k)).map (l.take k++·)) (hn:l[k].e.n≠n):mkH n a h l=(mkH n a h (l.drop (k+1))).map (l.take (k+1)++·):=by
 rw [hp,List.drop_eq_getElem_cons hk]
 conv=>lhs;unfold mkH
 rw [if_neg hn,Option.map_map]
 congr 1
 funext y
 show l.take k++l[k]::y=l.take (k+1)++y
 rw [List.take_succ_eq_append_getElem hk,List.append_assoc,List.singleton_append]
theorem mk_none {n:ByteArray} {a h:Bool} {l:List Hr} (hp:mkH n a h l=(mkH n a h (l.drop l.length)).map (l.take l.length++·)):mkL n a h l=[]∧mkE n a h l=6:=by
 rw [List.drop_length] at hp
 unfold mkL mkE
 rw [hp]
 exact ⟨rfl,rfl⟩
theorem hr_set6 {w:World} {S:Nat→Prop} {x:Hr} {cs:List Value} (h:rdHr w S x cs) (b:Bool):rdHr w S ⟨x.e,b,x.h⟩ (cs.set 6 (.bool b)):=by
 obtain ⟨es,rfl,he⟩:=h
 have hl:=rdEnt_good.len he
 exact ⟨es,by rw [List.set_append_right (h:=by omega),hl];rfl,he⟩
theorem hr_set7 {w:World} {S:Nat→Prop} {x:Hr} {cs:List Value} (h:rdHr w S x cs) (b:Bool):rdHr w S ⟨x.e,x.a,b⟩ (cs.set 7 (.bool b)):=by
 obtain ⟨es,rfl,he⟩:=h
 have hl:=rdEnt_good.len he
 exact ⟨es,by rw [List.set_append_right (h:=by omega),hl];rfl,he⟩
def rdNm:Rd ByteArray:=fun _ _ s cs=>cs=[.string s]
theorem rdNm_good:Good rdNm 1:=⟨fun h _=>h,fun h _=>h,fun h _ _=>h,fun h=>by rw [h];rfl,fun h u hu=>by rw [h,List.mem_singleton] at hu;rw [hu];rfl⟩
abbrev rdNms:Rd (List ByteArray):=rdRow 1 rdNm
theorem rdNms_good:Good rdNms 1:=rdRow_good rdNm_good
theorem rdNms_at {w:World} {S:Nat→Prop} {l:List ByteArray} {A:Option Addr} {n c:Nat} (h:rdNms w S l [.slice A n c]):n=l.length∧n≤c∧c≤maxLen∧∀k (hk:k < l.length),∃ad,A=some ad∧S ad.block∧w.cell? (ad.add k)=some (.string l[k]):=by
 obtain ⟨A',c',e,h1,h2,h⟩:=h
 simp only [List.cons.injEq,Value.slice.injEq,and_true] at e
 obtain ⟨rfl,rfl,rfl⟩:=e
 refine ⟨rfl,h1,h2,fun k hk=>?_⟩
 obtain ⟨ad,es,e,hS,rfl,hl,hc⟩:=h k hk
 have:=hc 0 _ rfl
 rw [Nat.mul_one,Nat.add_zero] at this
 exact ⟨ad,e,hS,this⟩
def nAu:ByteArray:={ data:=#[65,117,116,111] }
def nHo:ByteArray:={ data:=#[72,111,108,100] }
def yes7:ByteArray:={ data:=#[121,101,115] }
def no7:ByteArray:={ data:=#[110,111] }
def mkB (st:List Fd) (n:ByteArray):Bool:=getV st n&&decide (fstV st n=yes7)
def mkO (st:List Fd) (n:ByteArray):Bool:=!getV st n||(decide (fstV st n=yes7)||decide (fstV st n=no7))
def goH (RD:List Fd→Int × Ent):List (List Fd)→Nat→List Hr→List Hr × Int × Int
 | [],_,out=>(out,0,0)
 | st::r,i,out=>if (RD st).1≠0 then ([],(i:Int)+1,(RD st).1) else if (mkO st nAu&&mkO st nHo)=false then ([],(i:Int)+1,5) else if (fdH out (RD st).2.n).isSome=true then ([],(i:Int)+1,7) else goH RD r (i+1) (wiH out ⟨(RD st).2,mkB st nAu,mkB st nHo⟩)
theorem goH_at {RD:List Fd→Int × Ent} {L:List (List Fd)} {k:Nat} (hk:k < L.length) (out:List Hr) :
  goH RD (L.drop k) k out=if (RD L[k]).1≠0 then ([],(k:Int)+1,(RD L[k]).1) else if (mkO L[k] nAu&&mkO L[k] nHo)=false then ([],(k:Int)+1,5) else if (fdH out (RD L[k]).2.n).isSome=true then ([],(k:Int)+1,7) else goH RD (L.drop (k+1)) (k+1) (wiH out ⟨(RD L[k]).2,mkB L[k] nAu,mkB L[k] nHo⟩):=by
 rw [List.drop_eq_getElem_cons hk];rfl
def paD (RD:List Fd→Int × Ent) (t:List Nat):List Hr × Int × Int:=if stE t≠0 then ([],stN t,stE t) else if 64 < (stL t).length then ([],0,8) else goH RD (stL t) 0 []
def PaR (w:World) (R:List Hr × Int × Int) (e:Ending) (w':World):Prop:=(∃A n c,e=.returned (.tuple #[.slice A n c,.int .i64 R.2.1,.int .i64 R.2.2])∧rdHrs w' (lt_ w'.heap.size) R.1 [.slice A n c])∧Below w.heap.size w w'
set_option maxHeartbeats 1000000 in
theorem sameTexts7_any (A A':Option Addr) (n c n' c':Nat) (l m:List ByteArray) (w:World) (h:rdNms w (lt_ w.heap.size) l [.slice A n c]) (h':rdNms w (lt_ w.heap.size) m [.slice A' n' c']) :
  Calls Tryz.prog 27 #[.slice A n c,.slice A' n' c'] w fun e w'=>e=.returned (.bool (decide (l=m)))∧Dr w w':=by
 obtain ⟨rfl,hnc,hcm,_⟩:=rdNms_at h
 obtain ⟨rfl,hnc',hcm',_⟩:=rdNms_at h'
 have hcm1:c≤9223372036854775807:=hcm
 have hcm2:c'≤9223372036854775807:=hcm'
 by_cases hlen:l.length=m.length
 ·have hd:((l.length:Int) != (m.length:Int))=false:=by rw [hlen];simp
  have HL:=Lib.hid hlen
  clear hlen
  go_enter Tryz.func27,Tryz.ntmps27
  go_wp2
  go_loopw [5] (fun i wr=>∃k:Nat,k≤l.length∧i=.int .i64 k∧l.take k=m.take k∧Dr w wr) (fun i _=>l.length - (intOf i).toNat)
  case atStart=>exact ⟨0,Nat.zero_le _,rfl,rfl,Dr.refl _⟩
  case round=>
   obtain ⟨k,hk,rfl,htk,hbel⟩:=hrel
   by_cases hlt:k < l.length
   ·obtain ⟨_,_,_,ha⟩:=rdNms_at (rdNms_good.below h (hbel.below _))
    obtain ⟨_,_,_,hb⟩:=rdNms_at (rdNms_good.below h' (hbel.below _))
    have hltm:k < m.length:=by rw [←HL.out];exact hlt
    obtain ⟨ad,rfl,had,h0⟩:=ha k hlt
    obtain ⟨ad',rfl,had',g0⟩:=hb k hltm
    have T:=Lib.hid (same_take5 (l:=l) (m:=m) HL.out hlt hltm htk)
    have Z:=Lib.hid (show l[k]≠m[k]→l≠m from fun hn e=>hn (by subst e;rfl))
    have HB:=Lib.hid hbel
    have hki:(k:Int) < (m.length:Int):=by omega
    clear htk ha hb hbel h h'
    have hq:=str_eq l[k] m[k]
    generalize l[k]=x at *
    generalize m[k]=y at *
    by_cases he:x=y
    ·rw [decide_eq_true he] at hq
     have HE:=Lib.hid he
     clear he
     go_wp2_with fail
     go_quiet (fail)
     go_wp2
     go_roundw
     case rel=>exact ⟨k+1,by omega,by go_num,T.out HE.out,HB.out.more _⟩
     case measure=>simp [intOf];omega
    ·rw [decide_eq_false he] at hq
     have HE:=Lib.hid he
     clear he
     go_wp2_with fail
     go_quiet (fail)
     go_wp2
     go_ret
     exact ⟨by rw [decide_eq_false (Z.out HE.out)];try rfl,HB.out.more _⟩
   ·obtain rfl:k=l.length:=by omega
    have X:=Lib.hid (show l=m by rw [List.take_length] at htk;rw [htk,HL.out,List.take_length])
    clear htk h h'
    go_wp2
    go_ret
    exact ⟨by rw [decide_eq_true X.out];try rfl,hbel⟩
 ·have hd:((l.length:Int) != (m.length:Int))=true:=by rw [bne_iff_ne];omega
  have X:=Lib.hid (show l≠m by rintro rfl;exact hlen rfl)
  clear hlen
  go_enter Tryz.func27,Tryz.ntmps27
  go_wp2
  go_ret
  exact ⟨by rw [decide_eq_false X.out];try rfl,Dr.refl _⟩
def LsW (w:World) (l:List Hr) (e:Ending) (w':World):Prop:=(∃A n c,e=.returned (.slice A n c)∧rdHrs w' (lt_ w'.heap.size) l [.slice A n c])∧Below w.heap.size w w'
def NmW (w:World) (l:List ByteArray) (e:Ending) (w':World):Prop:=(∃A n c,e=.returned (.slice A n c)∧rdNms w' (lt_ w'.heap.size) l [.slice A n c])∧Below w.heap.size w w'
def MkW (w:World) (l:List Hr) (er:Int) (e:Ending) (w':World):Prop:=(∃A n c,e=.returned (.tuple #[.slice A n c,.int .i64 er])∧rdHrs w' (lt_ w'.heap.size) l [.slice A n c])∧Below w.heap.size w w'
def exL:List Hr:=[⟨⟨{ data:=#[97,98] },{ data:=#[50] },[],[],[],[]⟩,false,false⟩,⟨⟨{ data:=#[99,100] },{ data:=#[49] },[],[],[],[]⟩,true,false⟩]
theorem rd_exL (W:World) (S:Nat→Prop) (hS:S W.heap.size):rdHrs (W.alloc (.cells #[.string { data:=#[97,98] },.string { data:=#[50] },.slice none 0 0,.slice none 0 0,.slice none 0 0,.slice none 0 0,.bool false,.bool false,.string { data:=#[99,100] },.string { data:=#[49] },.slice none 0 0,.slice none 0 0,.slice none 0 0,.slice none 0 0,.bool true,.bool false] 36)) S exL [.slice (some ⟨W.heap.size,0,none⟩) 2 2]:=
 rd_block rdHr_good (b:=W.heap.size) (l:=exL) (css:=[[.string { data:=#[97,98] },.string { data:=#[50] },.slice none 0 0,.slice none 0 0,.slice none 0 0,.slice none 0 0,.bool false,.bool false],[.string { data:=#[99,100] },.string { data:=#[49] },.slice none 0 0,.slice none 0 0,.slice none 0 0,.slice none 0 0,.bool true,.bool false]]) (heap_alloc_new W _) hS rfl rfl (fun k hk=>by
  rcases k with _|_|k
  ·exact ⟨_,rfl,[.string { data:=#[97,98] },.string { data:=#[50] },.slice none 0 0,.slice none 0 0,.slice none 0 0,.slice none 0 0],rfl,_,_,_,_,rfl,rdRow_nil _ _,rdRow_nil _ _,rdRow_nil _ _,rdRow_nil _ _⟩
  ·exact ⟨_,rfl,[.string { data:=#[99,100] },.string { data:=#[49] },.slice none 0 0,.slice none 0 0,.slice none 0 0,.slice none 0 0],rfl,_,_,_,_,rfl,rdRow_nil _ _,rdRow_nil _ _,rdRow_nil _ _,rdRow_nil _ _⟩
  ·simp [exL] at hk;omega) (by simp [exL])
theorem rd_ab (W:World) (S:Nat→Prop) (hS:S W.heap.size):rdNms (W.alloc (.cells #[.string { data:=#[97,98] }] 9)) S [{ data:=#[97,98] }] [.slice (some ⟨W.heap.size,0,none⟩) 1 1]:=
 one_rd (ty:=9) rdNm_good (heap_alloc_new W _) rfl hS
theorem ex7_tu:tuH exL (woH exL { data:=#[97,98] })=[{ data:=#[97,98] }]:=by kernel_rfl
theorem ex7_mk:mkE { data:=#[101,102] } true true exL=6:=by kernel_rfl
end Go.Proofs.YtboinnjncaehkaaGreatDoor
