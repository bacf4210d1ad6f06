/- What the laws rest on: HeldG, P7a, E7j, E7l, P7d, E9p, E9q, E9d, N9a, P6t, StbP, P7z, E9e, E9a, E9b, Open2, OpenG. -/
import Derived.Shelf.SlSortCmp.KitK
import Derived.Lib.SliceRun
import Derived.Maps.OwnSet
import Derived.StringKeys
import Derived.Sort.LotA
import Derived.Sort.WalkB2
import Derived.Sort.WalkB12
import Derived.Deep.LoopGhost
import Derived.Laws.BitsLemmas
import Derived.ProofKit
import Derived.OpenShut
import Derived.ChangeMaps5
import Derived.SliceStrings
import Derived.Lib.SmallJoins
import Derived.Deep.Slices
import Derived.Deep.Strs
import Derived.Test.YtoopkofekekmoaaGreatDoorQAGZA
set_option maxRecDepth 100000
set_option linter.unusedVariables false
set_option linter.unusedSimpArgs false
namespace Go.Proofs.YtoopkofekekmoaaGreatDoor
open Go.RowKit
section
variable {α:Type} {E:Rd α} {sz:Nat} {ty:TypeId}
theorem one_rd {w:World} {S:Nat→Prop} {b:Nat} {y:α} {blk:Array Value} (g:Good E sz) (hb:w.heap[b]?=some (.cells blk ty (0,0))) (hE:E w S y blk.toList) (hS:S b):rdRow sz E w S [y] [.slice (some ⟨b,0,none⟩) 1 1]:=
 rd_block g (S:=S) (l:=[y]) (css:=[blk.toList]) (by simpa using hb) hS rfl rfl (fun k hk=>by
  simp only [List.length_singleton] at hk
  obtain rfl:k=0:=by omega
  exact ⟨_,rfl,hE⟩) (by simp)
theorem wp_region_D {P:Program} {ops:Array Oper} {Q:Exit→Act→World→Prop} {id:Nat} {a:Act} {w w0:World} (S:World→Prop) (z:Nat) (hm:P.follows .mixedOrders=true) (hd:Dr w0 w) (hS:∀V,Dr w0 V→S V)
  (h:∀V,Dr w0 V→S V→wpAnyL P .any ops Q S z ops.size (Array.replicate ops.size false) a V):(Code.region id ops true).wp P Q a w:=
 wp_region_L S z hm (hS _ (hd.more 1)) (fun hs=>h _ (hd.more 1) hs)
end
end Go.Proofs.YtoopkofekekmoaaGreatDoor
namespace Go.Proofs.YtoopkofekekmoaaGreatDoor
open Go.RowKit Go.Sort
def Gw (w w':World):Prop:=∃q os,w'=grow (w.drewN q) os
theorem Gw.below {w w':World} (h:Gw w w'):Below w.heap.size w w':=by
 obtain ⟨q,os,rfl⟩:=h
 exact ⟨rfl,rfl,rfl,by rw [size_grow];exact Nat.le_add_right _ _,fun k hk=>by
  unfold grow
  show ((w.drewN q).heap++os)[k]?=_
  rw [Array.getElem?_append_left (by exact hk)];rfl⟩
structure HrV where
 x:Hr
 A1:Option Addr
 c1:Nat
 A2:Option Addr
 c2:Nat
 A3:Option Addr
 c3:Nat
 A4:Option Addr
 c4:Nat
instance:Inhabited HrV:=⟨⟨nil7,none,0,none,0,none,0,none,0⟩⟩
def HrV.cs (r:HrV):List Value:=[.string r.x.e.n,.string r.x.e.v,.slice r.A1 r.x.e.d.length r.c1,.slice r.A2 r.x.e.r.length r.c2,.slice r.A3 r.x.e.c.length r.c3,.slice r.A4 r.x.e.p.length r.c4,.bool r.x.a,.bool r.x.h]
set_option maxHeartbeats 1000000 in
theorem name_any (r:HrV) (w:World):Calls Tryz.prog 55 #[.agg r.cs.toArray] w fun e w'=>e=.returned (.string r.x.e.n)∧Gw w w':=by
 obtain ⟨⟨⟨n,v,d,rr,c,p⟩,a,h⟩,A1,c1,A2,c2,A3,c3,A4,c4⟩:=r
 unfold HrV.cs
 go_enter Tryz.func55,Tryz.ntmps55
 go_wp2
 go_ret
 exact ⟨rfl,0,_,by rw [alloc_eq_grow];rfl⟩
end Go.Proofs.YtoopkofekekmoaaGreatDoor
namespace Go.Proofs.YtoopkofekekmoaaGreatDoor
open Go.RowKit
def rdNm:Rd ByteArray:=fun _ _ s cs=>cs=[.string s]
theorem rdNm_good:Good rdNm 1:=⟨fun h _=>h,fun h _=>h,fun h _ _=>h,fun h=>by rw [h];rfl,fun h u hu=>by rw [h,List.mem_singleton] at hu;rw [hu];rfl⟩
abbrev rdNms:Rd (List ByteArray):=rdRow 1 rdNm
theorem rdNms_good:Good rdNms 1:=rdRow_good rdNm_good
theorem rdNms_at {w:World} {S:Nat→Prop} {l:List ByteArray} {A:Option Addr} {n c:Nat} (h:rdNms w S l [.slice A n c]):n=l.length∧n≤c∧c≤maxLen∧∀k (hk:k < l.length),∃ad,A=some ad∧S ad.block∧w.cell? (ad.add k)=some (.string l[k]):=by
 obtain ⟨A',c',e,h1,h2,h⟩:=h
 simp only [List.cons.injEq,Value.slice.injEq,and_true] at e
 obtain ⟨rfl,rfl,rfl⟩:=e
 refine ⟨rfl,h1,h2,fun k hk=>?_⟩
 obtain ⟨ad,es,e,hS,rfl,hl,hc⟩:=h k hk
 have:=hc 0 _ rfl
 rw [Nat.mul_one,Nat.add_zero] at this
 exact ⟨ad,e,hS,this⟩
def RI (l:List Hr) (k:Nat):Prop:=∀j (hj:j < l.length),j < k→rgtE l[j].e=true∧∀i (hi:i < l.length),j=i+1→blt l[i].e.n l[j].e.n
theorem ri_all {l:List Hr} (h:RI l l.length):rightH l=decide (l.length≤64):=by
 unfold rightH
 have h1:l.all (fun x=>rgtE x.e)=true:=by
  rw [List.all_eq_true]
  intro x hx
  obtain ⟨j,hj,rfl⟩:=List.getElem_of_mem hx
  exact (h j hj hj).1
 have key:∀(m:List ByteArray),(∀i (h:i+1 < m.length),blt m[i] m[i+1])→risB m=true:=by
  intro m
  induction m with
  | nil=>exact fun _=>rfl
  | cons a r ih=>
   intro hm
   cases r with
   | nil=>rfl
   | cons b r=>
    unfold risB
    rw [Bool.and_eq_true]
    exact ⟨hm 0 (by simp),ih fun i hi=>hm (i+1) (by simpa using hi)⟩
 have h2:risB (l.map fun x=>x.e.n)=true:=key _ fun i hi=>by
  rw [List.length_map] at hi
  rw [List.getElem_map,List.getElem_map]
  exact (h (i+1) hi hi).2 i (by omega) rfl
 rw [h1,h2];rfl
theorem ri_no {l:List Hr} {k:Nat} (hk:k < l.length) (h:rgtE l[k].e=false):rightH l=false:=by
 rw [Bool.eq_false_iff]
 intro e
 have:=((rightH_iff l).1 e).1 _ (List.getElem_mem hk)
 rw [h] at this;cases this
theorem ri_dn {l:List Hr} {i:Nat} (hk:i+1 < l.length) (h:¬blt l[i].e.n l[i+1].e.n):rightH l=false:=by
 rw [Bool.eq_false_iff]
 intro e
 have:=ris_adj ((rightH_iff l).1 e).2.1 (i:=i) (by rw [List.length_map];exact hk)
 rw [List.getElem_map,List.getElem_map] at this
 exact h this
end Go.Proofs.YtoopkofekekmoaaGreatDoor
namespace Go.Proofs.YtoopkofekekmoaaGreatDoor
open Go.RowKit Go.Sort
set_option maxHeartbeats 2000000 in
theorem cloneh_any (A:Option Addr) (n c:Nat) (l:List Hr) (w:World) (h:rdHrs w (lt_ w.heap.size) l [.slice A n c]) (hl:l.length≤200) :
  Calls Tryz.prog 38 #[.slice A n c] w fun e w'=>(∃v',e=.returned v'∧Grow rdHr 8 (lt_ w.heap.size) w' w.heap.size 56 v' l)∧Below w.heap.size w w':=by
 have qT:∀(w:World) (a:Option Addr) (n c n' c':Nat),(binOp .eql 23 (.slice a n c) (.slice none n' c')).run Tryz.prog w=.ok (.bool a.isNone) w:=fun w a n c n' c'=>Lib.run_eql_slice_nil w _ _ a n c n' c' Tryz.underlying23
 obtain ⟨i0,hi,hz0,hz1,hz2⟩:=info_parts here_info
 obtain ⟨rfl,hnc,hcm,hat⟩:=rdHrs_at h
 have hcm':c≤9223372036854775807:=hcm
 cases A with
 | none=>
  obtain rfl:l=[]:=by
   rcases Nat.eq_zero_or_pos l.length with h0|h0
   ·exact List.eq_nil_of_length_eq_zero h0
   ·obtain ⟨_,_,_,_,_,_,_,_,_,e,_⟩:=hat 0 h0
    cases e
  clear h hat hcm
  go_enter Tryz.func38,Tryz.ntmps38
  go_wp2
  go_ret
  exact ⟨⟨_,rfl,Grow.nil _ _ _ _⟩,Below.refl _ _⟩
 | some ad=>
  have B1:=(Below.refl w.heap.size w).alloc (Nat.le_refl _) (.cells #[] 56)
  have hG:=Grow.empty (E:=rdHr) (sz:=8) (lt_ w.heap.size) (W:=w.alloc (.cells #[] 56)) (base:=w.heap.size) (heap_alloc_new w _) (Nat.le_refl _)
  have hX:=rdHrs_good.below h B1
  have hn1:([]:List Hr).length+l.length≤maxLen:=by simp only [List.length_nil];unfold maxLen;omega
  have hn2:(([]:List Hr).length+l.length)*136≤140737488355328:=by simp only [List.length_nil];omega
  have hS:∀b,lt_ w.heap.size b→lt_ w.heap.size b∧b < (w.alloc (.cells #[] 56)).heap.size∧(Value.slice (some ⟨w.heap.size,0,none⟩) 0 0).ownBlock≠some b:=fun b hb=>⟨hb,by rw [World.size_alloc];unfold lt_ at hb;omega,fun hh=>by simp only [Value.ownBlock,Option.some.injEq] at hh;unfold lt_ at hb;omega⟩
  have hbs:w.heap.size≤(w.alloc (.cells #[] 56)).heap.size:=by rw [World.size_alloc];omega
  have HB1:=Lib.hid B1
  clear h B1 hcm hat
  go_enter Tryz.func38,Tryz.ntmps38
  go_wp2_with (at_builtin;refine wpList_growN _ rfl _ _ 23 23 rfl rdHr_good (by decide) (lt_ w.heap.size) w.heap.size 56 56 i0 (.agg #[.string { data:=#[] },.string { data:=#[] },.slice none 0 0,.slice none 0 0,.slice none 0 0,.slice none 0 0,.bool false,.bool false]) 136 Tryz.underlying23 Tryz.underlying23 hi hz0 hz1 hz2 rfl _ _ rfl hG l _ (some ad) l.length c rfl hX hS hn1 hn2 hbs ?_)
  intro v' w1 hG1 hg1
  have HB2:=Lib.hid (grow_below hG hg1 HB1.out (Nat.le_refl _) hbs)
  have HG:=Lib.hid hG1
  clear hG hX hg1 hn1 hn2 hS hbs hG1
  go_wp2
  go_ret
  exact ⟨⟨_,rfl,HG.out⟩,HB2.out⟩
end Go.Proofs.YtoopkofekekmoaaGreatDoor
namespace Go.Proofs.YtoopkofekekmoaaGreatDoor
open Go.RowKit
def one9 (x y:Ent):Prop:=x.n=y.n∧x.v=y.v
instance (x y:Ent):Decidable (one9 x y):=inferInstanceAs (Decidable (_∧_))
def in9 (L:List Ent) (e:Ent):Bool:=L.any fun x=>decide (one9 x e)
def putU (L:List Ent) (e:Ent):List Ent:=L.takeWhile (fun x=>lesB x e)++e::L.dropWhile fun x=>lesB x e
def addU (L:List Ent) (e:Ent):List Ent:=if in9 L e=true then L else putU L e
def entU (ix:List Ent) (he:List Ent):List Ent:=ix.foldl addU (he.foldl putU [])
def Srt9 (L:List Ent):Prop:=L.Pairwise Les
theorem one9.symm {x y:Ent} (h:one9 x y):one9 y x:=⟨h.1.symm,h.2.symm⟩
theorem in9_iff {L:List Ent} {e:Ent}:in9 L e=true↔∃x ∈ L,one9 x e:=by
 unfold in9
 rw [List.any_eq_true]
 exact ⟨fun ⟨x,h,k⟩=>⟨x,h,of_decide_eq_true k⟩,fun ⟨x,h,k⟩=>⟨x,h,decide_eq_true k⟩⟩
theorem in9_no {L:List Ent} {e:Ent} (h:in9 L e=false):∀x ∈ L,¬one9 x e:=fun x hx k=>by rw [in9_iff.2 ⟨x,hx,k⟩] at h;cases h
theorem put9_mem {L:List Ent} {e x:Ent}:x ∈ putU L e↔x=e∨x ∈ L:=by
 have q:=List.takeWhile_append_dropWhile (p:=fun x=>lesB x e) (l:=L)
 unfold putU
 constructor
 ·intro h
  rcases List.mem_append.1 h with h|h
  ·exact .inr (mem_tw h).2
  ·rcases List.mem_cons.1 h with rfl|h
   ·exact .inl rfl
   ·exact .inr (mem_dw h)
 ·rintro (rfl|h)
  ·simp
  ·rw [←q] at h
   rcases List.mem_append.1 h with h|h
   ·exact List.mem_append.2 (.inl h)
   ·exact List.mem_append.2 (.inr (List.mem_cons_of_mem _ h))
theorem put9_srt {L:List Ent} {e:Ent} (h:Srt9 L) (hn:∀x ∈ L,¬one9 x e):Srt9 (putU L e):=by
 have q:=List.takeWhile_append_dropWhile (p:=fun x=>lesB x e) (l:=L)
 unfold Srt9 at h
 rw [←q] at h
 obtain ⟨h1,h2,h3⟩:=List.pairwise_append.1 h
 have hA:∀x ∈ L.takeWhile (fun x=>lesB x e),Les x e:=fun x hx=>(lesB_iff x e).1 (mem_tw hx).1
 have hD:∀x ∈ L.dropWhile (fun x=>lesB x e),Les e x:=by
  cases hd:L.dropWhile (fun x=>lesB x e) with
  | nil=>intro x hx;cases hx
  | cons d r=>
   have hh:=dw_head hd
   have hm:d ∈ L:=mem_dw (p:=fun x=>lesB x e) (by rw [hd];exact List.mem_cons_self ..)
   have h0:Les e d:=by
    rcases Les.tot e d with k|k|k
    ·exact k
    ·rw [(lesB_iff d e).2 k] at hh;cases hh
    ·exact absurd ⟨k.1.symm,k.2.symm⟩ (hn d hm)
   rw [hd] at h2
   intro x hx
   rcases List.mem_cons.1 hx with rfl|hx
   ·exact h0
   ·exact Les.tr h0 ((List.pairwise_cons.1 h2).1 x hx)
 unfold Srt9 putU
 refine List.pairwise_append.2 ⟨h1,List.pairwise_cons.2 ⟨hD,h2⟩,fun a ha b hb=>?_⟩
 rcases List.mem_cons.1 hb with rfl|hb
 ·exact hA a ha
 ·exact h3 a ha b hb
theorem les_no (x:Ent):¬Les x x:=Les.alike rfl rfl
theorem srt9_ext:∀{a b:List Ent},Srt9 a→Srt9 b→(∀x,x ∈ a↔x ∈ b)→a=b
 | [],[],_,_,_=>rfl
 | [],y::b,_,_,h=>absurd ((h y).2 (List.mem_cons_self ..)) (List.not_mem_nil)
 | x::a,[],_,_,h=>absurd ((h x).1 (List.mem_cons_self ..)) (List.not_mem_nil)
 | x::a,y::b,ha,hb,h=>by
  obtain ⟨ha1,ha2⟩:=List.pairwise_cons.1 ha
  obtain ⟨hb1,hb2⟩:=List.pairwise_cons.1 hb
  have e:x=y:=by
   rcases List.mem_cons.1 ((h x).1 (List.mem_cons_self ..)) with e|hx
   ·exact e
   ·rcases List.mem_cons.1 ((h y).2 (List.mem_cons_self ..)) with e|hy
    ·exact e.symm
    ·exact (Les.asym (hb1 x hx) (ha1 y hy)).elim
  subst e
  rw [srt9_ext ha2 hb2 fun z=>?_]
  constructor
  ·intro hz
   rcases List.mem_cons.1 ((h z).1 (List.mem_cons_of_mem _ hz)) with rfl|hz'
   ·exact absurd (ha1 z hz) (les_no z)
   ·exact hz'
  ·intro hz
   rcases List.mem_cons.1 ((h z).2 (List.mem_cons_of_mem _ hz)) with rfl|hz'
   ·exact absurd (hb1 z hz) (les_no z)
   ·exact hz'
def Once9 (L:List Ent):Prop:=L.Pairwise fun x y=>¬one9 x y
theorem fold_put:∀(he L:List Ent),Srt9 L→Once9 he→(∀x ∈ L,∀y ∈ he,¬one9 x y)→Srt9 (he.foldl putU L)∧∀x,x ∈ he.foldl putU L↔x ∈ L∨x ∈ he
 | [],L,h,_,_=>⟨h,fun x=>by simp⟩
 | e::r,L,h,ho,hn=>by
  obtain ⟨o1,o2⟩:=List.pairwise_cons.1 ho
  obtain ⟨k1,k2⟩:=fold_put r (putU L e) (put9_srt h fun x hx=>hn x hx e (List.mem_cons_self ..)) o2 (fun x hx y hy=>by
   rcases put9_mem.1 hx with rfl|hx
   ·exact o1 y hy
   ·exact hn x hx y (List.mem_cons_of_mem _ hy))
  refine ⟨k1,fun x=>?_⟩
  show x ∈ r.foldl putU (putU L e)↔_
  rw [k2,put9_mem,List.mem_cons]
  constructor
  ·rintro ((h|h)|h)
   ·exact .inr (.inl h)
   ·exact .inl h
   ·exact .inr (.inr h)
  ·rintro (h|h|h)
   ·exact .inl (.inr h)
   ·exact .inl (.inl h)
   ·exact .inr h
theorem add9_srt {L:List Ent} {e:Ent} (h:Srt9 L):Srt9 (addU L e):=by
 unfold addU
 split
 ·exact h
 ·rename_i q;exact put9_srt h (in9_no (Bool.eq_false_iff.2 q))
theorem fold_add_srt:∀(ix L:List Ent),Srt9 L→Srt9 (ix.foldl addU L)
 | [],L,h=>h
 | e::r,L,h=>fold_add_srt r _ (add9_srt h)
theorem entU_srt {ix he:List Ent} (h:Once9 he):Srt9 (entU ix he):=fold_add_srt _ _ (fold_put he [] List.Pairwise.nil h (fun x hx=>by cases hx)).1
theorem once_right {l:List Hr} (h:Ris (l.map fun x=>x.e.n)):Once9 (l.map fun x=>x.e):=by
 unfold Once9 Ris at *
 rw [List.pairwise_map] at h ⊢
 refine h.imp ?_
 intro a b hab k
 have q:a.e.n=b.e.n:=k.1
 rw [q] at hab
 exact blt_self _ hab
def ixU (p:Ent→Bool):List Ent→Nat→List Int
 | [],_=>[]
 | x::r,i=>if p x=true then (i:Int)::ixU p r (i+1) else ixU p r (i+1)
def plU (n v:ByteArray):List Ent→Nat→Int
 | [],_=>-1
 | x::r,i=>if x.n=n∧x.v=v then (i:Int) else plU n v r (i+1)
def isN (n:ByteArray) (x:Ent):Bool:=decide (x.n=n)
def nmU:Option ByteArray→List Ent→List ByteArray
 | _,[]=>[]
 | p,x::r=>if p=some x.n then nmU p r else x.n::nmU (some x.n) r
theorem ixU_cons (p:Ent→Bool) (x:Ent) (r:List Ent) (i:Nat):ixU p (x::r) i=if p x=true then (i:Int)::ixU p r (i+1) else ixU p r (i+1):=rfl
theorem plU_cons (n v:ByteArray) (x:Ent) (r:List Ent) (i:Nat):plU n v (x::r) i=if x.n=n∧x.v=v then (i:Int) else plU n v r (i+1):=rfl
theorem nmU_cons (p:Option ByteArray) (x:Ent) (r:List Ent):nmU p (x::r)=if p=some x.n then nmU p r else x.n::nmU (some x.n) r:=rfl
theorem ixU_mem {p:Ent→Bool}:∀{L:List Ent} {i:Nat} {k:Int},k ∈ ixU p L i↔∃j,∃h:j < L.length,k=((i+j:Nat):Int)∧p L[j]=true
 | [],i,k=>by simp [ixU]
 | x::r,i,k=>by
  have ih:=ixU_mem (p:=p) (L:=r) (i:=i+1) (k:=k)
  have hr:(∃j,∃h:j < (x::r).length,k=((i+j:Nat):Int)∧p (x::r)[j]=true)↔(k=(i:Int)∧p x=true)∨∃j,∃h:j < r.length,k=((i+1+j:Nat):Int)∧p r[j]=true:=by
   constructor
   ·rintro ⟨j,h,e,q⟩
    cases j with
    | zero=>exact .inl ⟨e,q⟩
    | succ j=>exact .inr ⟨j,by simpa using h,by rw [e];congr 1;omega,q⟩
   ·rintro (⟨e,q⟩|⟨j,h,e,q⟩)
    ·exact ⟨0,by simp,e,q⟩
    ·exact ⟨j+1,by simpa using h,by rw [e];congr 1;omega,q⟩
  rw [hr,←ih,ixU_cons]
  split
  ·rename_i h
   rw [List.mem_cons]
   exact ⟨fun q=>q.elim (fun e=>.inl ⟨e,h⟩) .inr,fun q=>q.elim (fun e=>.inl e.1) .inr⟩
  ·rename_i h
   exact ⟨.inr,fun q=>q.elim (fun e=>absurd e.2 h) id⟩
theorem ixU_app {p:Ent→Bool}:∀(a b:List Ent) (i:Nat),ixU p (a++b) i=ixU p a i++ixU p b (i+a.length)
 | [],b,i=>rfl
 | x::r,b,i=>by
  have ih:=ixU_app (p:=p) r b (i+1)
  rw [List.cons_append,List.length_cons,show i+(r.length+1)=i+1+r.length by omega]
  rw [ixU_cons,ixU_cons]
  split
  ·rw [ih];rfl
  ·rw [ih]
theorem ent9_info:(Tryz.prog.info? 53).map (fun i=>(i.zero,i.size,i.bytes))=some (some (.agg #[.string { data:=#[] },.string { data:=#[] },.slice none 0 0,.slice none 0 0,.slice none 0 0,.slice none 0 0]),6,128):=by kernel_rfl
theorem int9_info:(Tryz.prog.info? 3).map (fun i=>(i.zero,i.size,i.bytes))=some (some (.int .i64 0),1,8):=by kernel_rfl
def heldR9:Value→Option (DataW Value × List MemPlace):=fun v=>some (.held v,[])
def MapF (P:Program) (k:TypeId) (z:Value) (w:World) (b n:Nat) (f:ByteArray→Value):Prop:=
 ∃D:DataW Value,w.ownsMap P k heldR9 b n D∧∀s:ByteArray,s.size≤maxLen→D.atKey (.string s.data.toList) (.held z)=.held (f s)
def upd9 {α:Type} (f:ByteArray→α) (s:ByteArray) (v:α):ByteArray→α:=fun x=>if x=s then v else f x
theorem upd9_same {α:Type} (f:ByteArray→α) (s:ByteArray) (v:α):upd9 f s v s=v:=if_pos rfl
theorem upd9_ne {α:Type} (f:ByteArray→α) {s x:ByteArray} (v:α) (h:x≠s):upd9 f s v x=f x:=if_neg h
section
variable {P:Program} {k t e:TypeId} {z:Value} {w w':World} {b n:Nat} {f:ByteArray→Value}
theorem MapF.made (w:World) (P:Program) (k:TypeId) (z:Value):MapF P k z (w.alloc (.map #[] 0)) w.heap.size 0 (fun _=>z):=
 ⟨_,World.ownsMap_made _ _ _ _,fun s _=>rfl⟩
theorem MapF.lt (h:MapF P k z w b n f):b < w.heap.size:=by obtain ⟨D,h,_⟩:=h;exact h.lt
theorem MapF.kept {row:Option Nat} (h:MapF P k z w b n f) (hg:w.grownBy w' row) (hne:some b≠row):MapF P k z w' b n f:=by
 obtain ⟨D,h,q⟩:=h
 exact ⟨D,h.kept hg hne,q⟩
theorem MapF.same (h:MapF P k z w b n f) (hb:w'.heap[b]?=w.heap[b]?):MapF P k z w' b n f:=by
 obtain ⟨D,⟨es,clock,h1,h2⟩,q⟩:=h
 exact ⟨D,⟨es,clock,hb.trans h1,h2⟩,q⟩
theorem MapF.below {N:Nat} (h:MapF P k z w b n f) (hb:b < N) (hB:Below N w w'):MapF P k z w' b n f:=h.same (hB.block b hb)
theorem MapF.look (h:MapF P k z w b n f) (K:Maps.Keyed P k) (hk:P.underlying k=some .string) (ht:P.underlying t=some (.map k e)) (hz:(zeroValue e).run P w=.ok z w) (s:ByteArray) (hs:s.size≤maxLen) :
  (Instr.lookup t (.map (some b)) (.string s) false).run P w=.ok (f s) w:=by
 obtain ⟨D,h,q⟩:=h
 obtain ⟨v,ps,hr,hv⟩:=h.lookup K ht hz (zd:=.held z) (zp:=[]) rfl (WideMaps.keyOf_string_mk hk hs)
 rw [q s hs] at hv
 have e1:v=f s:=by
  have:=congrArg Prod.fst (Option.some.inj hv)
  exact DataW.held.inj this
 rw [hr,e1]
theorem MapF.put (h:MapF P k z w b n f) (K:Maps.Keyed P k) (hk:P.underlying k=some .string) (ht:P.underlying t=some (.map k e)) (hn:n < maxLen) (s:ByteArray) (hs:s.size≤maxLen) (v:Value) :
  ∃w',(Instr.mapUpdate t (.map (some b)) (.string s) v).run P w=.ok () w'∧MapF P k z w' b (n+1) (upd9 f s v)∧w.grownBy w' (some b):=by
 obtain ⟨D,h,q⟩:=h
 obtain ⟨w',hr,ho,hg⟩:=h.update K ht hn (WideMaps.keyOf_string_mk hk hs) (d:=.held v) (ps:=[]) rfl
 refine ⟨w',hr,⟨_,ho,fun x hx=>?_⟩,hg⟩
 have hM:Maps.IsMap D:=by
  obtain ⟨es,clock,_,_,_,hD⟩:=h
  exact ⟨_,hD⟩
 by_cases e:x=s
 ·subst e
  rw [Maps.atKey_put_same hM (show WideAt.IsKeyLit (.string x.data.toList) from trivial),upd9_same]
 ·rw [Maps.atKey_put_other (fun hh=>e ?_),upd9_ne _ _ e]
  ·exact q x hx
  ·injection hh with hh
   cases x;cases s
   simp only [ByteArray.mk.injEq]
   exact Array.toList_inj.1 hh
theorem wpList_mapUpdate_fn {ops:Array Oper} {rest:List Oper} {o:Oper} {a:Act} {Q:Exit→Act→World→Prop}
  (hg:o.guard=none) (m x y:Operand) (hop:o.op=Op.mapUpdate t m x y) (K:Maps.Keyed P k) (hk:P.underlying k=some .string) (ht:P.underlying t=some (.map k e)) (h:MapF P k z w b n f)
  (hm:a.eval m=.map (some b)) (hn:n < maxLen) (s:ByteArray) (v:Value) (hx:a.eval x=.string s) (hy:a.eval y=v) (hs:s.size≤maxLen)
  (hK:∀w',MapF P k z w' b (n+1) (upd9 f s v)→w.grownBy w' (some b)→wpList P ops Q rest (a.put o.dst undef) w') :
  wpList P ops Q (o::rest) a w:=by
 refine wpList_plain hg fun K' hK'=>?_
 obtain ⟨w',hrun,r1,r2⟩:=h.put K hk ht hn s hs v
 unfold Oper.wp
 simp [execOp,hop,hm,hx,hy,hrun,Result.andThen]
 exact hK' _ _ (hK w' r1 r2)
end
section
variable {α:Type} {E:Rd α} {sz:Nat}
theorem Grow.blk (g:Good E sz) {T:Nat→Prop} {W:World} {base b:Nat} {e:TypeId} {blk:Array Value} {l:List α} {css:List (List Value)} (hb:W.heap[b]?=some (.cells blk e (0,0))) (hbase:base≤b)
  (hl:css.length=l.length) (hf:blk.toList=css.flatten) (hm:l.length≤1000) (hE:∀k (hk:k < l.length),∃cs,css[k]?=some cs∧E W (fun x=>T x∧x < W.heap.size∧(Value.slice (some ⟨b,0,none⟩) l.length l.length).ownBlock≠some x) l[k] cs) :
  Grow E sz T W base e (.slice (some ⟨b,0,none⟩) l.length l.length) l:=by
 have hls:∀cs ∈ css,cs.length=sz:=fun cs hc=>by
  obtain ⟨k,hk,rfl⟩:=List.getElem_of_mem hc
  obtain ⟨cs,h1,h2⟩:=hE k (by omega)
  rw [List.getElem?_eq_getElem hk] at h1
  injection h1 with h1
  rw [h1];exact g.len h2
 have hlen:css.flatten.length=l.length*sz:=by rw [flatten_len sz hls,hl]
 have hbs:blk.size=l.length*sz:=by rw [←hlen,←hf,Array.length_toList]
 exact ⟨css,hl,⟨hlen,.inr ⟨b,l.length,blk,rfl,hbase,hb,Nat.le_refl _,by unfold maxLen;omega,hbs,by rw [←hf,List.take_of_length_le (by rw [Array.length_toList,hbs];exact Nat.le_refl _)]⟩⟩,hE⟩
end
end Go.Proofs.YtoopkofekekmoaaGreatDoor
namespace Go.Proofs.YtoopkofekekmoaaGreatDoor
open Go.Sort
section
variable {α:Type} [Inhabited α] (lt:α→α→Bool)
variable {lt}
def rng (P X M Y Q:List α) (s:Nat):List α:=P++((Y.take s++X.drop s)++(M++((X.take s++Y.drop s)++Q)))
end
end Go.Proofs.YtoopkofekekmoaaGreatDoor
namespace Go.Proofs.YtoopkofekekmoaaGreatDoor
open Go.RowKit Go.Sort
section
variable {α:Type} [Inhabited α] {enc:α→List Value} {k:Nat} {w W:World} {blk off:Nat} {d:Array α}
theorem swk_heap (h:SWK enc k w blk off d W) {cur:Array Value} {e:TypeId} {fr:Nat × Nat} (hb:w.heap[blk]?=some (.cells cur e fr)):∃cur',W.heap[blk]?=some (.cells cur' e fr)∧cur'.size=cur.size:=by
 obtain ⟨n,os,rfl⟩:=h
 have hlt:blk < w.heap.size:=(Array.getElem?_eq_some_iff.1 hb).1
 refine ⟨putCells id off (flatK enc k d) cur,?_,by simp [putCells]⟩
 unfold sortWorldK
 rw [heap_grow_old _ _ (by rw [size_putRowK];exact hlt)]
 unfold putRowK putRow mapBlock
 simp only [Array.getElem?_modify,if_true]
 show (w.heap[blk]?).map _=_
 rw [hb];rfl
theorem swk_other (h:SWK enc k w blk off d W):∀b,b≠blk→b < w.heap.size→W.heap[b]?=w.heap[b]?:=by
 obtain ⟨n,os,rfl⟩:=h
 intro b hb hlt
 unfold sortWorldK
 rw [heap_grow_old _ _ (by rw [size_putRowK];exact hlt)]
 unfold putRowK putRow mapBlock
 simp only [Array.getElem?_modify,if_neg (Ne.symm hb)]
 rfl
theorem swk_below (h:SWK enc k w blk off d W) {N:Nat} (hN:N≤blk) (hlt:blk < w.heap.size):Below N w W:=by
 refine ⟨?_,?_,?_,h.le,fun b hb=>swk_other h b (by omega) (by omega)⟩
 ·obtain ⟨n,os,rfl⟩:=h;rfl
 ·obtain ⟨n,os,rfl⟩:=h;rfl
 ·obtain ⟨n,os,rfl⟩:=h;rfl
end
end Go.Proofs.YtoopkofekekmoaaGreatDoor
namespace Go.Proofs.YtoopkofekekmoaaGreatDoor
open Go.RowKit
def insU (l:List Ent) (m:List Hr):List Int:=m.map fun y=>plU y.e.n y.e.v l 0
theorem insU_step {l:List Ent} {m:List Hr} {k:Nat} (hk:k < m.length):insU l (m.take (k+1))=insU l (m.take k)++[plU m[k].e.n m[k].e.v l 0]:=by
 unfold insU
 rw [List.take_succ_eq_append_getElem hk,List.map_append];rfl
set_option maxHeartbeats 1000000 in
theorem sameInts9_any (A A':Option Addr) (n c n' c':Nat) (l m:List Int) (w:World) (h:rdInts w (lt_ w.heap.size) l [.slice A n c]) (h':rdInts w (lt_ w.heap.size) m [.slice A' n' c']) :
  Calls Tryz.prog 20 #[.slice A n c,.slice A' n' c'] w fun e w'=>e=.returned (.bool (decide (l=m)))∧Dr w w':=by
 obtain ⟨rfl,hnc,hcm,_⟩:=rdInts_at h
 obtain ⟨rfl,hnc',hcm',_⟩:=rdInts_at h'
 have hcm1:c≤9223372036854775807:=hcm
 have hcm2:c'≤9223372036854775807:=hcm'
 by_cases hlen:l.length=m.length
 ·have hd:((l.length:Int) != (m.length:Int))=false:=by rw [hlen];simp
  have HL:=Lib.hid hlen
  clear hlen
  go_enter Tryz.func20,Tryz.ntmps20
  go_wp2
  go_loopw [5] (fun i wr=>∃k:Nat,k≤l.length∧i=.int .i64 k∧l.take k=m.take k∧Dr w wr) (fun i _=>l.length - (intOf i).toNat)
  case atStart=>exact ⟨0,Nat.zero_le _,rfl,rfl,Dr.refl _⟩
  case round=>
   obtain ⟨k,hk,rfl,htk,hbel⟩:=hrel
   by_cases hlt:k < l.length
   ·obtain ⟨_,_,_,ha⟩:=rdInts_at (rdInts_good.below h (hbel.below _))
    obtain ⟨_,_,_,hb⟩:=rdInts_at (rdInts_good.below h' (hbel.below _))
    have hltm:k < m.length:=by rw [←HL.out];exact hlt
    obtain ⟨ad,rfl,had,h0⟩:=ha k hlt
    obtain ⟨ad',rfl,had',g0⟩:=hb k hltm
    have T:=Lib.hid (same_take (l:=l) (m:=m) HL.out hlt hltm htk)
    have Z:=Lib.hid (show l[k]≠m[k]→l≠m from fun hn e=>hn (by subst e;rfl))
    have HB:=Lib.hid hbel
    have hki:(k:Int) < (m.length:Int):=by omega
    clear htk ha hb hbel h h'
    generalize l[k]=x at *
    generalize m[k]=y at *
    by_cases he:x=y
    ·have hq:(x != y)=false:=by rw [he];simp
     have HE:=Lib.hid he
     clear he
     go_wp2_with fail
     go_quiet (fail)
     go_wp2
     go_roundw
     case rel=>exact ⟨k+1,by omega,by go_num,T.out HE.out,HB.out.more _⟩
     case measure=>simp [intOf];omega
    ·have hq:(x != y)=true:=by rw [bne_iff_ne];exact he
     have HE:=Lib.hid he
     clear he
     go_wp2_with fail
     go_quiet (fail)
     go_wp2
     go_ret
     exact ⟨by rw [decide_eq_false (Z.out HE.out)];try rfl,HB.out.more _⟩
   ·obtain rfl:k=l.length:=by omega
    have X:=Lib.hid (show l=m by rw [List.take_length] at htk;rw [htk,HL.out,List.take_length])
    clear htk h h'
    go_wp2
    go_ret
    exact ⟨by rw [decide_eq_true X.out];try rfl,hbel⟩
 ·have hd:((l.length:Int) != (m.length:Int))=true:=by rw [bne_iff_ne];omega
  have X:=Lib.hid (show l≠m by rintro rfl;exact hlen rfl)
  clear hlen
  go_enter Tryz.func20,Tryz.ntmps20
  go_wp2
  go_ret
  exact ⟨by rw [decide_eq_false X.out];try rfl,Dr.refl _⟩
set_option maxHeartbeats 1000000 in
theorem sameTexts9_any (A A':Option Addr) (n c n' c':Nat) (l m:List ByteArray) (w:World) (h:rdNms w (lt_ w.heap.size) l [.slice A n c]) (h':rdNms w (lt_ w.heap.size) m [.slice A' n' c']) :
  Calls Tryz.prog 17 #[.slice A n c,.slice A' n' c'] w fun e w'=>e=.returned (.bool (decide (l=m)))∧Dr w w':=by
 obtain ⟨rfl,hnc,hcm,_⟩:=rdNms_at h
 obtain ⟨rfl,hnc',hcm',_⟩:=rdNms_at h'
 have hcm1:c≤9223372036854775807:=hcm
 have hcm2:c'≤9223372036854775807:=hcm'
 by_cases hlen:l.length=m.length
 ·have hd:((l.length:Int) != (m.length:Int))=false:=by rw [hlen];simp
  have HL:=Lib.hid hlen
  clear hlen
  go_enter Tryz.func17,Tryz.ntmps17
  go_wp2
  go_loopw [5] (fun i wr=>∃k:Nat,k≤l.length∧i=.int .i64 k∧l.take k=m.take k∧Dr w wr) (fun i _=>l.length - (intOf i).toNat)
  case atStart=>exact ⟨0,Nat.zero_le _,rfl,rfl,Dr.refl _⟩
  case round=>
   obtain ⟨k,hk,rfl,htk,hbel⟩:=hrel
   by_cases hlt:k < l.length
   ·obtain ⟨_,_,_,ha⟩:=rdNms_at (rdNms_good.below h (hbel.below _))
    obtain ⟨_,_,_,hb⟩:=rdNms_at (rdNms_good.below h' (hbel.below _))
    have hltm:k < m.length:=by rw [←HL.out];exact hlt
    obtain ⟨ad,rfl,had,h0⟩:=ha k hlt
    obtain ⟨ad',rfl,had',g0⟩:=hb k hltm
    have T:=Lib.hid (same_take5 (l:=l) (m:=m) HL.out hlt hltm htk)
    have Z:=Lib.hid (show l[k]≠m[k]→l≠m from fun hn e=>hn (by subst e;rfl))
    have HB:=Lib.hid hbel
    have hki:(k:Int) < (m.length:Int):=by omega
    clear htk ha hb hbel h h'
    have hq:=str_eq l[k] m[k]
    generalize l[k]=x at *
    generalize m[k]=y at *
    by_cases he:x=y
    ·rw [decide_eq_true he] at hq
     have HE:=Lib.hid he
     clear he
     go_wp2_with fail
     go_quiet (fail)
     go_wp2
     go_roundw
     case rel=>exact ⟨k+1,by omega,by go_num,T.out HE.out,HB.out.more _⟩
     case measure=>simp [intOf];omega
    ·rw [decide_eq_false he] at hq
     have HE:=Lib.hid he
     clear he
     go_wp2_with fail
     go_quiet (fail)
     go_wp2
     go_ret
     exact ⟨by rw [decide_eq_false (Z.out HE.out)];try rfl,HB.out.more _⟩
   ·obtain rfl:k=l.length:=by omega
    have X:=Lib.hid (show l=m by rw [List.take_length] at htk;rw [htk,HL.out,List.take_length])
    clear htk h h'
    go_wp2
    go_ret
    exact ⟨by rw [decide_eq_true X.out];try rfl,hbel⟩
 ·have hd:((l.length:Int) != (m.length:Int))=true:=by rw [bne_iff_ne];omega
  have X:=Lib.hid (show l≠m by rintro rfl;exact hlen rfl)
  clear hlen
  go_enter Tryz.func17,Tryz.ntmps17
  go_wp2
  go_ret
  exact ⟨by rw [decide_eq_false X.out];try rfl,Dr.refl _⟩
set_option maxHeartbeats 4000000 in
theorem light9_any (A:Option Addr) (n c:Nat) (l:List Atm) (w:World) (h:rdAtms w (lt_ w.heap.size) l [.slice A n c]) :
  Calls Tryz.prog 30 #[.slice A n c] w fun e w'=>LtR (Lt l) e∧w=w':=by
 obtain ⟨rfl,hnc,hcm,hat⟩:=rdAtms_at h
 have hcm':c≤9223372036854775807:=hcm
 have HAT:=Lib.hid hat
 clear h hat hcm
 by_cases g0:(20:Int) < (l.length:Int)
 ·go_enter Tryz.func30,Tryz.ntmps30
  go_wp2
  go_ret
  exact ⟨ltR_no _,rfl⟩
 have HL:=Lib.hid (show l.length≤20 by omega)
 go_enter Tryz.func30,Tryz.ntmps30
 go_wp2
 go_loop [3] (fun i=>∃k:Nat,k≤l.length∧i=.int .i64 k∧(∀j (hj:j < l.length),j < k→l[j].n.size≤100∧l[j].v.size≤100)) (fun i=>l.length - (intOf i).toNat)
 case atStart=>exact ⟨0,Nat.zero_le _,rfl,fun j _ hj=>absurd hj (Nat.not_lt_zero _)⟩
 case round=>
  obtain ⟨k,hk,rfl,hall⟩:=hrel
  have HA:=Lib.hid hall
  clear hall
  by_cases hlt:k < l.length
  ·obtain ⟨ad,rfl,had,h0,h1,h2⟩:=HAT.out k hlt
   have i0:(0:Int)≤(k:Int):=by omega
   have i1:(k:Int) < (l.length:Int):=by omega
   clear had h1
   by_cases g1:(100:Int) < (l[k].n.size:Int)
   ·go_wp2
    go_ret
    exact ⟨ltR_no _,rfl⟩
   by_cases g2:(100:Int) < (l[k].v.size:Int)
   ·go_wp2
    go_ret
    exact ⟨ltR_no _,rfl⟩
   have NX:=Lib.hid (show l[k].n.size≤100∧l[k].v.size≤100 from ⟨by omega,by omega⟩)
   go_wp2
   go_round
   case rel=>exact ⟨k+1,by omega,by go_num,fun j hj h=>by
    by_cases hjk:j=k
    ·subst hjk;exact NX.out
    ·exact HA.out j hj (by omega)⟩
   case measure=>simp [intOf];omega
  ·obtain rfl:k=l.length:=by omega
   have FIN:=Lib.hid (show Lt l from ⟨HL.out,fun a ha=>by
    obtain ⟨j,hj,rfl⟩:=List.getElem_of_mem ha
    exact HA.out j hj hj⟩)
   go_wp2
   go_ret
   exact ⟨ltR_yes FIN.out,rfl⟩
set_option maxHeartbeats 8000000 in
theorem fine9_any (x:Ent) (A1:Option Addr) (c1:Nat) (A2:Option Addr) (c2:Nat) (A3:Option Addr) (c3:Nat) (A4:Option Addr) (c4:Nat) (w:World) (hx:EntV w (lt_ w.heap.size) x A1 c1 A2 c2 A3 c3 A4 c4) :
  Calls Tryz.prog 32 #[x.val A1 c1 A2 c2 A3 c3 A4 c4] w fun e w'=>LtR (Sm x) e∧Below w.heap.size w w':=by
 obtain ⟨n,v,d,r,c,p⟩:=x
 have B1:=Lib.hid (show Below w.heap.size w (w.alloc (.cells #[.string n,.string v,.slice A1 d.length c1,.slice A2 r.length c2,.slice A3 c.length c3,.slice A4 p.length c4] 53)) from (Below.refl _ w).alloc (Nat.le_refl _) _)
 have hy:=hx.on B1.out
 obtain ⟨hd1,hd2,hd3,hd⟩:=rdGrps_at hy.d
 obtain ⟨hr1,hr2,hr3,hr⟩:=rdGrps_at hy.r
 have hcm1:c1≤9223372036854775807:=hd3
 have hcm2:c2≤9223372036854775807:=hr3
 have KC:=Lib.hid (light9_any A3 c.length c3 c _ hy.c)
 have KP:=Lib.hid (light9_any A4 p.length c4 p _ hy.p)
 have HD:=Lib.hid hd
 have HR:=Lib.hid hr
 clear hx hy hd hr hd1 hr1 hd3 hr3
 show Calls Tryz.prog 32 #[.agg #[.string n,.string v,.slice A1 d.length c1,.slice A2 r.length c2,.slice A3 c.length c3,.slice A4 p.length c4]] w _
 go_enter Tryz.func32,Tryz.ntmps32
 go_wp2_with fail
 refine KC.out.mono ?_
 rintro e w' ⟨⟨b1,rfl,hb1⟩,rfl⟩
 go_wp2_with fail
 refine KP.out.mono ?_
 rintro e w' ⟨⟨b2,rfl,hb2⟩,rfl⟩
 cases b1
 ·go_wp2
  go_ret
  exact ⟨ltR_no _,B1.out⟩
 cases b2
 ·go_wp2
  go_ret
  exact ⟨ltR_no _,B1.out⟩
 have HC:=Lib.hid (hb1 rfl)
 have HP:=Lib.hid (hb2 rfl)
 clear hb1 hb2
 by_cases g0:(100:Int) < (n.size:Int)
 ·go_wp2
  go_ret
  exact ⟨ltR_no _,B1.out⟩
 by_cases g1:(100:Int) < (v.size:Int)
 ·go_wp2
  go_ret
  exact ⟨ltR_no _,B1.out⟩
 by_cases g2:(15:Int) < (d.length:Int)
 ·go_wp2
  go_ret
  exact ⟨ltR_no _,B1.out⟩
 by_cases g3:(15:Int) < (r.length:Int)
 ·go_wp2
  go_ret
  exact ⟨ltR_no _,B1.out⟩
 have HS:=Lib.hid (show n.size≤100∧v.size≤100∧d.length≤15∧r.length≤15 from ⟨by omega,by omega,by omega,by omega⟩)
 go_wp2
 go_loop [5] (fun i=>∃k:Nat,k≤d.length∧i=.int .i64 k∧(∀j (hj:j < d.length),j < k→Lt d[j])) (fun i=>d.length - (intOf i).toNat)
 case atStart=>exact ⟨0,Nat.zero_le _,rfl,fun j _ hj=>absurd hj (Nat.not_lt_zero _)⟩
 case round=>
  obtain ⟨k,hk,rfl,hall⟩:=hrel
  have HA:=Lib.hid hall
  clear hall
  by_cases hlt:k < d.length
  ·obtain ⟨ad,Y,cy,rfl,had,h0,h1⟩:=HD.out k hlt
   have i0:(0:Int)≤(k:Int):=by omega
   have i1:(k:Int) < (d.length:Int):=by omega
   have K:=Lib.hid (light9_any _ _ _ _ _ h1)
   clear had h1
   go_wp2_with fail
   refine K.out.mono ?_
   rintro e w' ⟨⟨b,rfl,hb⟩,rfl⟩
   cases b
   ·go_wp2
    go_ret
    exact ⟨ltR_no _,B1.out⟩
   have NX:=Lib.hid (hb rfl)
   clear hb
   go_wp2
   go_round
   case rel=>exact ⟨k+1,by omega,by go_num,fun j hj h=>by
    by_cases hjk:j=k
    ·subst hjk;exact NX.out
    ·exact HA.out j hj (by omega)⟩
   case measure=>simp [intOf];omega
  ·obtain rfl:k=d.length:=by omega
   have F5:=Lib.hid (show ∀g ∈ d,Lt g from fun g hg=>by
    obtain ⟨j,hj,rfl⟩:=List.getElem_of_mem hg
    exact HA.out j hj hj)
   clear HA
   go_wp2
   go_loop [7] (fun i=>∃k:Nat,k≤r.length∧i=.int .i64 k∧(∀j (hj:j < r.length),j < k→Lt r[j])) (fun i=>r.length - (intOf i).toNat)
   case atStart=>exact ⟨0,Nat.zero_le _,rfl,fun j _ hj=>absurd hj (Nat.not_lt_zero _)⟩
   case round=>
    obtain ⟨k,hk,rfl,hall⟩:=hrel
    have HA:=Lib.hid hall
    clear hall
    by_cases hlt:k < r.length
    ·obtain ⟨ad,Y,cy,rfl,had,h0,h1⟩:=HR.out k hlt
     have i0:(0:Int)≤(k:Int):=by omega
     have i1:(k:Int) < (r.length:Int):=by omega
     have K:=Lib.hid (light9_any _ _ _ _ _ h1)
     clear had h1
     go_wp2_with fail
     refine K.out.mono ?_
     rintro e w' ⟨⟨b,rfl,hb⟩,rfl⟩
     cases b
     ·go_wp2
      go_ret
      exact ⟨ltR_no _,B1.out⟩
     have NX:=Lib.hid (hb rfl)
     clear hb
     go_wp2
     go_round
     case rel=>exact ⟨k+1,by omega,by go_num,fun j hj h=>by
      by_cases hjk:j=k
      ·subst hjk;exact NX.out
      ·exact HA.out j hj (by omega)⟩
     case measure=>simp [intOf];omega
    ·obtain rfl:k=r.length:=by omega
     have F7:=Lib.hid (show ∀g ∈ r,Lt g from fun g hg=>by
      obtain ⟨j,hj,rfl⟩:=List.getElem_of_mem hg
      exact HA.out j hj hj)
     clear HA
     go_wp2
     go_ret
     exact ⟨ltR_yes ⟨HC.out,HP.out,HS.out.1,HS.out.2.1,HS.out.2.2.1,HS.out.2.2.2,F5.out,F7.out⟩,B1.out⟩
set_option maxHeartbeats 8000000 in
theorem sameEnts9_any (A A':Option Addr) (n c n' c':Nat) (l m:List Ent) (w:World) (h:rdEnts w (lt_ w.heap.size) l [.slice A n c]) (h':rdEnts w (lt_ w.heap.size) m [.slice A' n' c']) :
  Calls Tryz.prog 12 #[.slice A n c,.slice A' n' c'] w fun e w'=>e=.returned (.bool (decide (l=m)))∧Below w.heap.size w w':=by
 obtain ⟨rfl,hnc,hcm,_⟩:=rdEnts_at h
 obtain ⟨rfl,hnc',hcm',_⟩:=rdEnts_at h'
 have hcm1:c≤9223372036854775807:=hcm
 have hcm2:c'≤9223372036854775807:=hcm'
 by_cases hlen:l.length=m.length
 ·have hd:((l.length:Int) != (m.length:Int))=false:=by rw [hlen];simp
  have HL:=Lib.hid hlen
  clear hlen
  go_enter Tryz.func12,Tryz.ntmps12
  go_wp2
  go_loopw [5] (fun i wr=>∃k:Nat,k≤l.length∧i=.int .i64 k∧l.take k=m.take k∧Below w.heap.size w wr) (fun i _=>l.length - (intOf i).toNat)
  case atStart=>exact ⟨0,Nat.zero_le _,rfl,rfl,Below.refl _ _⟩
  case round=>
   obtain ⟨k,hk,rfl,htk,hbel⟩:=hrel
   by_cases hlt:k < l.length
   ·obtain ⟨_,_,_,ha⟩:=rdEnts_at (rdEnts_good.up (rdEnts_good.below h hbel) hbel.size)
    obtain ⟨_,_,_,hb⟩:=rdEnts_at (rdEnts_good.up (rdEnts_good.below h' hbel) hbel.size)
    have hltm:k < m.length:=by rw [←HL.out];exact hlt
    obtain ⟨ad,A1,c1,A2,c2,A3,c3,A4,c4,rfl,had,hv,h0,h1,h2,h3,h4,h5⟩:=ha k hlt
    obtain ⟨ad',B1,d1,B2v,d2,B3,d3,B4,d4,rfl,had',hv',g0,g1,g2,g3,g4,g5⟩:=hb k hltm
    have T:=Lib.hid (same_take (l:=l) (m:=m) HL.out hlt hltm htk)
    have Z:=Lib.hid (show l[k]≠m[k]→l≠m from fun hn e=>hn (by subst e;rfl))
    have HB:=Lib.hid hbel
    have i0:(0:Int)≤(k:Int):=by omega
    have i1:(k:Int) < (l.length:Int):=by omega
    have hki:(k:Int) < (m.length:Int):=by omega
    have K:=Lib.hid (fun W (hb:Below wr.heap.size wr W)=>sameEnt7_any l[k] m[k] A1 c1 A2 c2 A3 c3 A4 c4 B1 d1 B2v d2 B3 d3 B4 d4 W (hv.on hb) (hv'.on hb))
    have bb:=(Below.refl wr.heap.size wr).drew
    clear htk ha hb hbel h h' hv hv' had had'
    generalize l[k]=x at *
    generalize m[k]=y at *
    by_cases he:x=y
    ·rw [decide_eq_true he] at K
     have HE:=Lib.hid he
     clear he
     go_wp2_with fail
     go_region_held3 (fun W=>W.cell? (ad.add (k*6))=some (.string x.n)∧W.cell? ⟨(ad.add (k*6)).block,(ad.add (k*6)).off+1,none⟩=some (.string x.v)∧W.cell? ⟨(ad.add (k*6)).block,(ad.add (k*6)).off+2,none⟩=some (.slice A1 x.d.length c1)∧W.cell? ⟨(ad.add (k*6)).block,(ad.add (k*6)).off+3,none⟩=some (.slice A2 x.r.length c2)∧W.cell? ⟨(ad.add (k*6)).block,(ad.add (k*6)).off+4,none⟩=some (.slice A3 x.c.length c3)∧W.cell? ⟨(ad.add (k*6)).block,(ad.add (k*6)).off+5,none⟩=some (.slice A4 x.p.length c4)∧W.cell? (ad'.add (k*6))=some (.string y.n)∧W.cell? ⟨(ad'.add (k*6)).block,(ad'.add (k*6)).off+1,none⟩=some (.string y.v)∧W.cell? ⟨(ad'.add (k*6)).block,(ad'.add (k*6)).off+2,none⟩=some (.slice B1 y.d.length d1)∧W.cell? ⟨(ad'.add (k*6)).block,(ad'.add (k*6)).off+3,none⟩=some (.slice B2v y.r.length d2)∧W.cell? ⟨(ad'.add (k*6)).block,(ad'.add (k*6)).off+4,none⟩=some (.slice B3 y.c.length d3)∧W.cell? ⟨(ad'.add (k*6)).block,(ad'.add (k*6)).off+5,none⟩=some (.slice B4 y.p.length d4)∧Below wr.heap.size wr W)
      (first|(go_split_ands;refine ⟨?_,?_,?_,?_,?_,?_,?_,?_,?_,?_,?_,?_,?_⟩<;>first|assumption|exact keep6 hbx (by assumption)|exact Below.trans (by assumption) (hbx.mono (Below.size (by assumption))))|go_keep)
      ((go_at_call 44;(with_reducible refine (K.out _ (by go_split_ands;assumption)).mono ?_);rintro e wx ⟨rfl,hbx⟩))
     all_goals
      go_split_ands
      have HB2:=Lib.hid (show Below w.heap.size w _ from HB.out.trans (Below.mono (show Below wr.heap.size wr _ by assumption) HB.out.size))
      go_wp2
      go_roundw
      case rel=>exact ⟨k+1,by omega,by go_num,T.out HE.out,HB2.out⟩
      case measure=>simp [intOf];omega
    ·rw [decide_eq_false he] at K
     have HE:=Lib.hid he
     clear he
     go_wp2_with fail
     go_region_held3 (fun W=>W.cell? (ad.add (k*6))=some (.string x.n)∧W.cell? ⟨(ad.add (k*6)).block,(ad.add (k*6)).off+1,none⟩=some (.string x.v)∧W.cell? ⟨(ad.add (k*6)).block,(ad.add (k*6)).off+2,none⟩=some (.slice A1 x.d.length c1)∧W.cell? ⟨(ad.add (k*6)).block,(ad.add (k*6)).off+3,none⟩=some (.slice A2 x.r.length c2)∧W.cell? ⟨(ad.add (k*6)).block,(ad.add (k*6)).off+4,none⟩=some (.slice A3 x.c.length c3)∧W.cell? ⟨(ad.add (k*6)).block,(ad.add (k*6)).off+5,none⟩=some (.slice A4 x.p.length c4)∧W.cell? (ad'.add (k*6))=some (.string y.n)∧W.cell? ⟨(ad'.add (k*6)).block,(ad'.add (k*6)).off+1,none⟩=some (.string y.v)∧W.cell? ⟨(ad'.add (k*6)).block,(ad'.add (k*6)).off+2,none⟩=some (.slice B1 y.d.length d1)∧W.cell? ⟨(ad'.add (k*6)).block,(ad'.add (k*6)).off+3,none⟩=some (.slice B2v y.r.length d2)∧W.cell? ⟨(ad'.add (k*6)).block,(ad'.add (k*6)).off+4,none⟩=some (.slice B3 y.c.length d3)∧W.cell? ⟨(ad'.add (k*6)).block,(ad'.add (k*6)).off+5,none⟩=some (.slice B4 y.p.length d4)∧Below wr.heap.size wr W)
      (first|(go_split_ands;refine ⟨?_,?_,?_,?_,?_,?_,?_,?_,?_,?_,?_,?_,?_⟩<;>first|assumption|exact keep6 hbx (by assumption)|exact Below.trans (by assumption) (hbx.mono (Below.size (by assumption))))|go_keep)
      ((go_at_call 44;(with_reducible refine (K.out _ (by go_split_ands;assumption)).mono ?_);rintro e wx ⟨rfl,hbx⟩))
     all_goals
      go_split_ands
      have HB2:=Lib.hid (show Below w.heap.size w _ from HB.out.trans (Below.mono (show Below wr.heap.size wr _ by assumption) HB.out.size))
      go_wp2
      go_ret
      exact ⟨by rw [decide_eq_false (Z.out HE.out)];try rfl,HB2.out⟩
   ·obtain rfl:k=l.length:=by omega
    have X:=Lib.hid (show l=m by rw [List.take_length] at htk;rw [htk,HL.out,List.take_length])
    clear htk h h'
    go_wp2
    go_ret
    exact ⟨by rw [decide_eq_true X.out];try rfl,hbel⟩
 ·have hd:((l.length:Int) != (m.length:Int))=true:=by rw [bne_iff_ne];omega
  have X:=Lib.hid (show l≠m by rintro rfl;exact hlen rfl)
  clear hlen
  go_enter Tryz.func12,Tryz.ntmps12
  go_wp2
  go_ret
  exact ⟨by rw [decide_eq_false X.out];try rfl,Below.refl _ _⟩
def Fw9 (l:List Ent) (m:List Hr):Prop:=(l.length≤70∧∀x ∈ l,Sm x)∧m.length≤70∧∀x ∈ m,Sm x.e
set_option maxHeartbeats 8000000 in
theorem small9_any (A:Option Addr) (n c:Nat) (l:List Ent) (A':Option Addr) (n' c':Nat) (m:List Hr) (w:World) (h:rdEnts w (lt_ w.heap.size) l [.slice A n c]) (h':rdHrs w (lt_ w.heap.size) m [.slice A' n' c']) :
  Calls Tryz.prog 9 #[.slice A n c,.slice A' n' c'] w fun e w'=>LtR (Fw9 l m) e∧Below w.heap.size w w':=by
 obtain ⟨rfl,hnc,hcm,-⟩:=rdEnts_at h
 obtain ⟨rfl,hnc',hcm',-⟩:=rdHrs_at h'
 have hcm1:c≤9223372036854775807:=hcm
 have hcm2:c'≤9223372036854775807:=hcm'
 clear hcm hcm'
 by_cases g0:(70:Int) < (l.length:Int)
 ·go_enter Tryz.func9,Tryz.ntmps9
  go_wp2
  go_ret
  exact ⟨ltR_no _,Below.refl _ _⟩
 by_cases g1:(70:Int) < (m.length:Int)
 ·go_enter Tryz.func9,Tryz.ntmps9
  go_wp2
  go_ret
  exact ⟨ltR_no _,Below.refl _ _⟩
 have HL:=Lib.hid (show l.length≤70∧m.length≤70 by omega)
 have H':=Lib.hid h'
 clear h'
 go_enter Tryz.func9,Tryz.ntmps9
 go_wp2
 go_loopw [5] (fun i wr=>∃k:Nat,k≤l.length∧i=.int .i64 k∧(∀j (hj:j < l.length),j < k→Sm l[j])∧Below w.heap.size w wr) (fun i _=>l.length - (intOf i).toNat)
 case atStart=>exact ⟨0,Nat.zero_le _,rfl,fun j _ hj=>absurd hj (Nat.not_lt_zero _),Below.refl _ _⟩
 case round=>
  obtain ⟨k,hk,rfl,hall,hbel⟩:=hrel
  have HA:=Lib.hid hall
  have HB:=Lib.hid hbel
  clear hall
  by_cases hlt:k < l.length
  ·obtain ⟨_,_,_,hat⟩:=rdEnts_at (rdEnts_good.up (rdEnts_good.below h hbel) hbel.size)
   obtain ⟨ad,A1,c1,A2,c2,A3,c3,A4,c4,rfl,had,hv,h0,h1,h2,h3,h4,h5⟩:=hat k hlt
   have i0:(0:Int)≤(k:Int):=by omega
   have i1:(k:Int) < (l.length:Int):=by omega
   have K:=Lib.hid (fine9_any l[k] A1 c1 A2 c2 A3 c3 A4 c4 _ hv)
   clear had hat hv hbel h
   go_wp2_with fail
   refine K.out.mono ?_
   rintro e w' ⟨⟨b,rfl,hb⟩,hbl⟩
   have HB2:=Lib.hid (HB.out.trans (hbl.mono HB.out.size))
   cases b
   ·go_wp2
    go_ret
    exact ⟨ltR_no _,HB2.out⟩
   have NX:=Lib.hid (hb rfl)
   clear hb hbl h0 h1 h2 h3 h4 h5
   go_wp2
   go_roundw
   case rel=>exact ⟨k+1,by omega,by go_num,fun j hj h=>by
    by_cases hjk:j=k
    ·subst hjk;exact NX.out
    ·exact HA.out j hj (by omega),HB2.out⟩
   case measure=>simp [intOf];omega
  ·obtain rfl:k=l.length:=by omega
   have FIN:=Lib.hid (show ∀x ∈ l,Sm x from fun a ha=>by
    obtain ⟨j,hj,rfl⟩:=List.getElem_of_mem ha
    exact HA.out j hj hj)
   clear h hbel HA
   go_wp2
   go_loopw [7] (fun i wr=>∃k:Nat,k≤m.length∧i=.int .i64 k∧(∀j (hj:j < m.length),j < k→Sm m[j].e)∧Below w.heap.size w wr) (fun i _=>m.length - (intOf i).toNat)
   case atStart=>exact ⟨0,Nat.zero_le _,rfl,fun j _ hj=>absurd hj (Nat.not_lt_zero _),HB.out⟩
   case round=>
    clear HB
    obtain ⟨k,hk,rfl,hall,hbel⟩:=hrel
    have HA:=Lib.hid hall
    have HB:=Lib.hid hbel
    clear hall
    by_cases hlt:k < m.length
    ·obtain ⟨_,_,_,hat⟩:=rdHrs_at (rdHrs_good.up (rdHrs_good.below H'.out hbel) hbel.size)
     obtain ⟨ad,A1,c1,A2,c2,A3,c3,A4,c4,rfl,had,hv,h0,h1,h2,h3,h4,h5,-,-⟩:=hat k hlt
     have i0:(0:Int)≤(k:Int):=by omega
     have i1:(k:Int) < (m.length:Int):=by omega
     have K:=Lib.hid (fine9_any m[k].e A1 c1 A2 c2 A3 c3 A4 c4 _ hv)
     clear had hat hv hbel
     go_wp2_with fail
     refine K.out.mono ?_
     rintro e w' ⟨⟨b,rfl,hb⟩,hbl⟩
     have HB2:=Lib.hid (HB.out.trans (hbl.mono HB.out.size))
     cases b
     ·go_wp2
      go_ret
      exact ⟨ltR_no _,HB2.out⟩
     have NX:=Lib.hid (hb rfl)
     clear hb hbl h0 h1 h2 h3 h4 h5
     go_wp2
     go_roundw
     case rel=>exact ⟨k+1,by omega,by go_num,fun j hj h=>by
      by_cases hjk:j=k
      ·subst hjk;exact NX.out
      ·exact HA.out j hj (by omega),HB2.out⟩
     case measure=>simp [intOf];omega
    ·obtain rfl:k=m.length:=by omega
     have FIN2:=Lib.hid (show Fw9 l m from ⟨⟨HL.out.1,FIN.out⟩,HL.out.2,fun a ha=>by
      obtain ⟨j,hj,rfl⟩:=List.getElem_of_mem ha
      exact HA.out j hj hj⟩)
     clear hbel
     go_wp2
     go_ret
     exact ⟨ltR_yes FIN2.out,HB.out⟩
end Go.Proofs.YtoopkofekekmoaaGreatDoor
namespace Go.Proofs.YtoopkofekekmoaaGreatDoor
open Go.RowKit Go.WideShapes Go.ChangeShapes Go.ChangeAt Go.WideMaps Go.WideElems Go.Joins
section
variable {H:Type} {enc:TypeId × Value→H} {W:World}
theorem one_int {base n:Nat} {sp:Nat→Bool} {held:Bool} {v:Value} {y:DataW H × List MemPlace} (h:DataW.trod enc Tryz.prog W base sp held n 3 [v]=some y):∃e:Int,v=.int .i64 e∧(Lit.int .i64 e).wf=true:=by
 obtain ⟨e,h0,_,h2⟩:=DataW.trod_int Tryz.underlying3 h
 injection h0 with h0
 exact ⟨e,h0,h2⟩
theorem one_string {base n:Nat} {sp:Nat→Bool} {held:Bool} {v:Value} {y:DataW H × List MemPlace} (h:DataW.trod enc Tryz.prog W base sp held n 9 [v]=some y):∃s:ByteArray,v=.string s∧s.size≤maxLen:=by
 obtain ⟨s,h0,_,h2⟩:=DataW.trod_string Tryz.underlying9 h
 injection h0 with h0
 exact ⟨s,h0,h2⟩
end
end Go.Proofs.YtoopkofekekmoaaGreatDoor
namespace Go.Proofs.YtoopkofekekmoaaGreatDoor
open Go.RowKit Go.WideShapes Go.ChangeShapes Go.ChangeAt Go.WideMaps Go.WideElems Go.Joins Go.Deep
section
variable {H:Type} {enc:TypeId × Value→H} {W:World}
def AtmOk (a:Atm):Prop:=a.n.size≤maxLen∧(Lit.int .i64 a.o).wf=true∧a.v.size≤maxLen
theorem cells_atm:Tryz.prog.cellsOf 59=3:=by kernel_rfl
theorem cells_grp:Tryz.prog.cellsOf 89=1:=by kernel_rfl
theorem trod_atm {base n:Nat} {sp:Nat→Bool} {held:Bool} {cs:List Value} {y:DataW H × List MemPlace} (h:DataW.trod enc Tryz.prog W base sp held n 59 cs=some y):∃x:Atm,cs=x.cells∧AtmOk x:=by
 obtain ⟨y0,y1,y2,m,_,hl,h0,h1,h2⟩:=trod_struct3 Tryz.underlying59 h
 rw [cells_atm] at hl
 rcases cs with _|⟨c0,_|⟨c1,_|⟨c2,_|⟨c3,cs⟩⟩⟩⟩
 ·simp at hl
 ·simp at hl
 ·simp at hl
 ·have e0:DataW.trod enc Tryz.prog W base sp held m 9 [c0]=some y0:=h0
  have e1:DataW.trod enc Tryz.prog W base sp held m 3 [c1]=some y1:=h1
  have e2:DataW.trod enc Tryz.prog W base sp held m 9 [c2]=some y2:=h2
  obtain ⟨u,rfl,wu⟩:=one_string e0
  obtain ⟨e,rfl,we⟩:=one_int e1
  obtain ⟨r,rfl,wr⟩:=one_string e2
  exact ⟨⟨u,e,r⟩,rfl,wu,we,wr⟩
 ·simp at hl
theorem open_atoms_trod {base n:Nat} {sp:Nat→Bool} {held:Bool} {t:TypeId} {cs:List Value} {y:DataW H × List MemPlace} (ht:Tryz.prog.underlying t=some (.slice 59)) (h:DataW.trod enc Tryz.prog W base sp held n t cs=some y) :
  ∃A len c l,cs=[.slice A len c]∧rdAtms W (lt_ W.heap.size) l [.slice A len c]∧(∀a ∈ l,AtmOk a):=by
 rcases open_slice ht h with ⟨rfl,_⟩|⟨a,len,cap,m,k,D,Pl,rfl,hb,hl,hm,hmm,_,hx⟩
 ·exact ⟨none,0,0,[],rfl,rdRow_nil _ _,by simp⟩
 ·have hlm:len≤m:=by rw [hmm];split<;>omega
  have hat:∀i,i < len→∃x:Atm,AtmOk x∧a.block < W.heap.size∧∀j u,x.cells[j]?=some u→W.cell? (a.add (i*3+j))=some u:=by
   intro i hi
   obtain ⟨cs',hc,ht'⟩:=hx i (by omega)
   rw [cells_atm] at hc
   obtain ⟨x,rfl,hok⟩:=trod_atm ht'
   obtain ⟨_,hcl,hcell⟩:=World.cells?_some hc
   have key:∀j u,x.cells[j]?=some u→W.cell? (a.add (i*3+j))=some u:=fun j u hu=>by
    have hj:j < 3:=by have:=(List.getElem?_eq_some_iff.1 hu).1;simpa [Atm.cells] using this
    have:=hcell j hj
    rw [hu] at this
    rw [←this]
    congr 1
    unfold Addr.add
    by_cases h1:i*3=0<;>by_cases h2:j=0<;>simp [h1,h2,Nat.add_assoc]
   have hb':=World.block_lt_of_cell? _ _ (key 0 _ rfl)
   rw [blk_add] at hb'
   exact ⟨x,hok,hb',key⟩
  refine ⟨some a,len,cap,List.ofFn fun i:Fin len=>Classical.choose (hat i.1 i.2),rfl,⟨some a,cap,by simp,by simpa using hl,hm,fun i hi=>?_⟩,fun x hx=>?_⟩
  ·simp only [List.length_ofFn] at hi
   have hs:=Classical.choose_spec (hat i hi)
   refine ⟨a,_,rfl,hs.2.1,?_,?_,hs.2.2⟩
   ·show _=Atm.cells _
    rw [List.getElem_ofFn]
   ·rfl
  ·obtain ⟨i,hi⟩:=List.mem_ofFn.1 hx
   rw [←hi];exact (Classical.choose_spec (hat i.1 i.2)).1
end
end Go.Proofs.YtoopkofekekmoaaGreatDoor
