/- What the laws rest on: E7l, E9d, E10c, E10e, E9e, N10a, N10d, Rel1, Rel2, Ver1, BackP. -/
import Derived.Lib.QuietBelow
import Derived.Stop.BytesEq
import Derived.Laws.StructEq
import Derived.Test.YthchfkhpmgkghaaGreatDoorQACZA
set_option maxRecDepth 100000
set_option linter.unusedVariables false
set_option linter.unusedSimpArgs false
namespace Go.Proofs.YthchfkhpmgkghaaGreatDoor
open Go.RowKit
def RI (l:List Hr) (k:Nat):Prop:=∀j (hj:j < l.length),j < k→rgtE l[j].e=true∧∀i (hi:i < l.length),j=i+1→blt l[i].e.n l[j].e.n
theorem ri_all {l:List Hr} (h:RI l l.length):rightH l=decide (l.length≤64):=by
 unfold rightH
 have h1:l.all (fun x=>rgtE x.e)=true:=by
  rw [List.all_eq_true]
  intro x hx
  obtain ⟨j,hj,rfl⟩:=List.getElem_of_mem hx
  exact (h j hj hj).1
 have key:∀(m:List ByteArray),(∀i (h:i+1 < m.length),blt m[i] m[i+1])→risB m=true:=by
  intro m
  induction m with
  | nil=>exact fun _=>rfl
  | cons a r ih=>
   intro hm
   cases r with
   | nil=>rfl
   | cons b r=>
    unfold risB
    rw [Bool.and_eq_true]
    exact ⟨hm 0 (by simp),ih fun i hi=>hm (i+1) (by simpa using hi)⟩
 have h2:risB (l.map fun x=>x.e.n)=true:=key _ fun i hi=>by
  rw [List.length_map] at hi
  rw [List.getElem_map,List.getElem_map]
  exact (h (i+1) hi hi).2 i (by omega) rfl
 rw [h1,h2];rfl
theorem ri_no {l:List Hr} {k:Nat} (hk:k < l.length) (h:rgtE l[k].e=false):rightH l=false:=by
 rw [Bool.eq_false_iff]
 intro e
 have:=((rightH_iff l).1 e).1 _ (List.getElem_mem hk)
 rw [h] at this;cases this
theorem ri_dn {l:List Hr} {i:Nat} (hk:i+1 < l.length) (h:¬blt l[i].e.n l[i+1].e.n):rightH l=false:=by
 rw [Bool.eq_false_iff]
 intro e
 have:=ris_adj ((rightH_iff l).1 e).2.1 (i:=i) (by rw [List.length_map];exact hk)
 rw [List.getElem_map,List.getElem_map] at this
 exact h this
theorem ent9_info:(Tryz.prog.info? 67).map (fun i=>(i.zero,i.size,i.bytes))=some (some (.agg #[.string { data:=#[] },.string { data:=#[] },.slice none 0 0,.slice none 0 0,.slice none 0 0,.slice none 0 0]),6,128):=by kernel_rfl
theorem int9_info:(Tryz.prog.info? 3).map (fun i=>(i.zero,i.size,i.bytes))=some (some (.int .i64 0),1,8):=by kernel_rfl
theorem ixU_nat {p:Ent→Bool} {U:List Ent} {x:Int} (h0:0≤x) (h1:x < (U.length:Int)):x ∈ ixU p U 0↔p (entA U x)=true:=by
 obtain ⟨j,rfl⟩:=Int.eq_ofNat_of_zero_le h0
 have hj:j < U.length:=by omega
 rw [entA_at hj,ixU_mem]
 constructor
 ·rintro ⟨i,hi,e,q⟩
  have:i=j:=by omega
  subst this;exact q
 ·intro q;exact ⟨j,hj,by rw [Nat.zero_add],q⟩
def AdjP (n:Nat) (l:List Int) (k:Nat):Prop:=∀j (hj:j < l.length),j < k→(0≤l[j]∧l[j] < (n:Int))∧∀i (hi:i < l.length),j=i+1→l[i] < l[j]
theorem AdjP.zero (n:Nat) (l:List Int):AdjP n l 0:=fun j hj h=>absurd h (Nat.not_lt_zero _)
theorem AdjP.step {n:Nat} {l:List Int} {k:Nat} (h:AdjP n l k) (hk:k < l.length) (h0:0≤l[k]) (h1:l[k] < (n:Int)) (h2:∀i (hi:i < l.length),k=i+1→l[i] < l[k]):AdjP n l (k+1):=fun j hj hjk=>by
 by_cases e:j=k
 ·subst e;exact ⟨⟨h0,h1⟩,h2⟩
 ·exact h j hj (by omega)
theorem adj_lt {n:Nat} {l:List Int} (h:AdjP n l l.length):∀(d i:Nat) (hi:i+d+1 < l.length),l[i]'(by omega) < l[i+d+1]
 | 0,i,hi=>(h (i+1) (by omega) (by omega)).2 i (by omega) rfl
 | d+1,i,hi=>by
  have h1:=adj_lt h d i (by omega)
  have h2:=(h (i+(d+1)+1) (by omega) (by omega)).2 (i+d+1) (by omega) (by omega)
  omega
theorem adj_set {n:Nat} {l:List Int} (h:AdjP n l l.length):setB n l=true:=by
 unfold setB
 refine decide_eq_true ⟨fun p hp=>?_,?_⟩
 ·obtain ⟨j,hj,rfl⟩:=List.getElem_of_mem hp
  exact (h j hj hj).1
 ·rw [List.pairwise_iff_getElem]
  intro i j hi hj hij
  have:=adj_lt h (j - i - 1) i (by omega)
  have e:i+(j - i - 1)+1=j:=by omega
  simp only [e] at this
  exact this
theorem setB_lo {n:Nat} {l:List Int} {k:Nat} (hk:k < l.length) (h:l[k] < 0):setB n l=false:=
 decide_eq_false fun q=>by have:=(q.1 _ (List.getElem_mem hk)).1;omega
theorem setB_hi {n:Nat} {l:List Int} {k:Nat} (hk:k < l.length) (h:(n:Int)≤l[k]):setB n l=false:=
 decide_eq_false fun q=>by have:=(q.1 _ (List.getElem_mem hk)).2;omega
theorem setB_dn {n:Nat} {l:List Int} {k:Nat} (hk:k+1 < l.length) (h:l[k+1]≤l[k]):setB n l=false:=
 decide_eq_false fun q=>by
  have:=(List.pairwise_iff_getElem.1 q.2) k (k+1) (by omega) hk (Nat.lt_succ_self _)
  omega
theorem rowP_step {f:Ent→Ent→Bool} {k:Int} {U:List Ent} {p:Int} {l:List Int} {j:Nat} (h:j < l.length):(f (entA U p) (entA U l[j])=true→rowP f k U p (l.drop j)=⟨k,p,l[j]⟩::rowP f k U p (l.drop (j+1)))∧(f (entA U p) (entA U l[j])=false→rowP f k U p (l.drop j)=rowP f k U p (l.drop (j+1))):=by
 rw [List.drop_eq_getElem_cons h]
 exact ⟨fun q=>by rw [rowP,if_pos q],fun q=>by rw [rowP,if_neg (by rw [q];decide)]⟩
theorem pairP_step {f:Ent→Ent→Bool} {k:Int} {U:List Ent} {l:List Int} {j:Nat} (h:j < l.length):pairP f k U (l.drop j)=rowP f k U l[j] (l.drop (j+1))++pairP f k U (l.drop (j+1)):=by
 rw [List.drop_eq_getElem_cons h,pairP]
theorem opnP_step {U:List Ent} {l:List Int} {p:Int} {d:List (List Atm)} {j:Nat} (h:j < d.length):(metS U l d[j]=true→opnP U l p (d.drop j) j=opnP U l p (d.drop (j+1)) (j+1))∧(metS U l d[j]=false→opnP U l p (d.drop j) j=⟨3,p,(j:Int)⟩::opnP U l p (d.drop (j+1)) (j+1)):=by
 rw [List.drop_eq_getElem_cons h]
 exact ⟨fun q=>by rw [opnP,if_pos q],fun q=>by rw [opnP,if_neg (by rw [q];decide)]⟩
theorem opnS_step {U:List Ent} {l m:List Int} {j:Nat} (h:j < m.length):opnS U l (m.drop j)=opnP U l m[j] (entA U m[j]).d 0++opnS U l (m.drop (j+1)):=by
 rw [List.drop_eq_getElem_cons h,opnS]
theorem misS_step {U:List Ent} {l:List Int} {d:List Atm} {j:Nat} (h:j < d.length):(givS U l d[j]=true→misS U l (d.drop j) j=misS U l (d.drop (j+1)) (j+1))∧(givS U l d[j]=false→misS U l (d.drop j) j=⟨5,(j:Int),0⟩::misS U l (d.drop (j+1)) (j+1)):=by
 rw [List.drop_eq_getElem_cons h]
 exact ⟨fun q=>by rw [misS,if_pos q],fun q=>by rw [misS,if_neg (by rw [q];decide)]⟩
theorem preS_step {U:List Ent} {l:List Int} {d:List Atm} {j:Nat} (h:j < d.length):preS U l (d.drop j) j=preP U d[j] j l++preS U l (d.drop (j+1)) (j+1):=by
 rw [List.drop_eq_getElem_cons h,preS]
theorem rowP_len {f:Ent→Ent→Bool} {k:Int} {U:List Ent} {p:Int}:∀(r:List Int),(rowP f k U p r).length≤r.length
 | []=>Nat.le_refl _
 | q::r=>by
  have:=rowP_len (f:=f) (k:=k) (U:=U) (p:=p) r
  unfold rowP
  split<;>(try simp only [List.length_cons])<;>omega
theorem pairP_len {f:Ent→Ent→Bool} {k:Int} {U:List Ent}:∀(l:List Int),(pairP f k U l).length≤l.length*l.length
 | []=>Nat.le_refl _
 | p::r=>by
  have h1:=rowP_len (f:=f) (k:=k) (U:=U) (p:=p) r
  have h2:=pairP_len (f:=f) (k:=k) (U:=U) r
  unfold pairP
  rw [List.length_append,List.length_cons,Nat.succ_mul,Nat.mul_succ];omega
theorem opnP_len {U:List Ent} {l:List Int} {p:Int}:∀(d:List (List Atm)) (i:Nat),(opnP U l p d i).length≤d.length
 | [],_=>Nat.le_refl _
 | g::r,i=>by
  have:=opnP_len (U:=U) (l:=l) (p:=p) r (i+1)
  unfold opnP
  split<;>(try simp only [List.length_cons])<;>omega
theorem opnS_len {U:List Ent} {l:List Int} {M:Nat} (hM:∀x ∈ U,x.d.length≤M):∀(m:List Int),(opnS U l m).length≤m.length*M
 | []=>Nat.zero_le _
 | p::r=>by
  have h1:=opnP_len (U:=U) (l:=l) (p:=p) (entA U p).d 0
  have h2:=opnS_len (U:=U) (l:=l) hM r
  have h3:(entA U p).d.length≤M:=by
   unfold entA
   rw [List.getD_eq_getElem?_getD]
   cases h:U[p.toNat]? with
   | none=>exact Nat.zero_le _
   | some x=>exact hM x (List.mem_of_getElem? h)
  unfold opnS
  rw [List.length_append,List.length_cons,Nat.succ_mul];omega
def insU (l:List Ent) (m:List Hr):List Int:=m.map fun y=>plU y.e.n y.e.v l 0
def heldU (l:List Ent) (m:List Hr):List Int:=insU l (m.filter fun y=>y.h)
theorem insU_step {l:List Ent} {m:List Hr} {k:Nat} (hk:k < m.length):insU l (m.take (k+1))=insU l (m.take k)++[plU m[k].e.n m[k].e.v l 0]:=by
 unfold insU
 rw [List.take_succ_eq_append_getElem hk,List.map_append];rfl
theorem ris_ext10:∀{a b:List Int},a.Pairwise (· < ·)→b.Pairwise (· < ·)→(∀x,x ∈ a↔x ∈ b)→a=b
 | [],[],_,_,_=>rfl
 | [],y::s,_,_,h=>absurd ((h y).2 (List.mem_cons_self ..)) List.not_mem_nil
 | x::r,[],_,_,h=>absurd ((h x).1 (List.mem_cons_self ..)) List.not_mem_nil
 | x::r,y::s,ha,hb,h=>by
  obtain ⟨a1,a2⟩:=List.pairwise_cons.1 ha
  obtain ⟨b1,b2⟩:=List.pairwise_cons.1 hb
  have e:x=y:=by
   rcases List.mem_cons.1 ((h x).1 (List.mem_cons_self ..)) with q|q
   ·exact q
   ·rcases List.mem_cons.1 ((h y).2 (List.mem_cons_self ..)) with p|p
    ·exact p.symm
    ·have:=b1 x q;have:=a1 y p;omega
  subst e
  congr 1
  refine ris_ext10 a2 b2 fun z=>?_
  constructor
  ·intro hz
   rcases List.mem_cons.1 ((h z).1 (List.mem_cons_of_mem _ hz)) with q|q
   ·have:=a1 z hz;omega
   ·exact q
  ·intro hz
   rcases List.mem_cons.1 ((h z).2 (List.mem_cons_of_mem _ hz)) with q|q
   ·have:=b1 z hz;omega
   ·exact q
def gvS (U:List Ent) (l:List Int) (a:Atm):List Int:=(ixU (gvA a) U 0).filter fun p=>l.contains p
theorem gvS_eq {U:List Ent} {l:List Int} (hs:SetP U.length l) (a:Atm):gvS U l a=l.filter fun p=>gvA a (entA U p):=by
 refine ris_ext10 (List.Pairwise.filter _ (ixU_ris U 0).1) (List.Pairwise.filter _ hs.2) fun x=>?_
 unfold gvS
 rw [List.mem_filter,List.mem_filter]
 constructor
 ·rintro ⟨h1,h2⟩
  have h2:x ∈ l:=by simpa using h2
  exact ⟨h2,(ixU_nat (hs.1 x h2).1 (hs.1 x h2).2).1 h1⟩
 ·rintro ⟨h1,h2⟩
  exact ⟨(ixU_nat (hs.1 x h1).1 (hs.1 x h1).2).2 h2,by simpa using h1⟩
theorem ixU_len10 (p:Ent→Bool):∀(U:List Ent) (i:Nat),(ixU p U i).length≤U.length
 | [],_=>Nat.le_refl _
 | x::r,i=>by
  have:=ixU_len10 p r (i+1)
  rw [ixU_cons]
  split<;>(try simp only [List.length_cons])<;>omega
theorem gvS_len (U:List Ent) (l:List Int) (a:Atm):(gvS U l a).length≤U.length:=Nat.le_trans (List.length_filter_le _ _) (ixU_len10 _ _ _)
theorem gvS_givS {U:List Ent} {l:List Int} (hs:SetP U.length l) (a:Atm):decide (0 < (gvS U l a).length)=givS U l a:=by
 rw [gvS_eq hs,Bool.eq_iff_iff,decide_eq_true_iff,List.length_pos_iff_exists_mem]
 unfold givS
 rw [List.any_eq_true]
 exact ⟨fun ⟨x,h⟩=>⟨x,(List.mem_filter.1 h).1,(List.mem_filter.1 h).2⟩,fun ⟨x,h1,h2⟩=>⟨x,List.mem_filter.2 ⟨h1,h2⟩⟩⟩
theorem fil_take10 {p:Int→Bool} {l:List Int} {k:Nat} (h:k < l.length):(p l[k]=true→(l.take (k+1)).filter p=(l.take k).filter p++[l[k]])∧(p l[k]=false→(l.take (k+1)).filter p=(l.take k).filter p):=by
 rw [List.take_succ_eq_append_getElem h,List.filter_append]
 constructor
 ·intro q;rw [List.filter_cons,if_pos q,List.filter_nil]
 ·intro q;rw [List.filter_cons,if_neg (by rw [q];decide),List.filter_nil,List.append_nil]
def preG (i:Nat) (gs:List Int):List Ft:=gs.map fun p=>⟨6,(i:Int),p⟩
theorem preP_fil {U:List Ent} {a:Atm} {i:Nat}:∀(l:List Int),preP U a i l=preG i (l.filter fun p=>gvA a (entA U p))
 | []=>rfl
 | p::r=>by
  have ih:=preP_fil (U:=U) (a:=a) (i:=i) r
  rw [preP,List.filter_cons]
  split
  ·rename_i h;rw [ih];rfl
  ·rename_i h;exact ih
theorem preP_eq {U:List Ent} {l:List Int} (hs:SetP U.length l) (a:Atm) (i:Nat):preP U a i l=preG i (gvS U l a):=by
 rw [preP_fil,gvS_eq hs]
theorem preG_step {i:Nat} {gs:List Int} {j:Nat} (h:j < gs.length):preG i (gs.drop j)=⟨6,(i:Int),gs[j]⟩::preG i (gs.drop (j+1)):=by
 rw [List.drop_eq_getElem_cons h];rfl
def awyL (l:List Int):List Int→List Ft
 | []=>[]
 | a::r=>if l.contains a=true then awyL l r else ⟨4,a,0⟩::awyL l r
theorem awyL_step {l h:List Int} {j:Nat} (hj:j < h.length):(l.contains h[j]=true→awyL l (h.drop j)=awyL l (h.drop (j+1)))∧(l.contains h[j]=false→awyL l (h.drop j)=⟨4,h[j],0⟩::awyL l (h.drop (j+1))):=by
 rw [List.drop_eq_getElem_cons hj]
 exact ⟨fun q=>by rw [awyL,if_pos q],fun q=>by rw [awyL,if_neg (by rw [q];decide)]⟩
theorem awyL_fil {l:List Int}:∀(h:List Int),awyL l h=(h.filter fun p=>!l.contains p).map fun p=>⟨4,p,0⟩
 | []=>rfl
 | a::r=>by
  have ih:=awyL_fil (l:=l) r
  rw [awyL,List.filter_cons]
  cases e:l.contains a
  ·rw [if_neg (by decide),if_pos (by decide),ih];rfl
  ·rw [if_pos rfl,if_neg (by decide),ih]
theorem awyS_fil {held l:List Int}:∀(n i:Nat),awyS held l i n=((rangU i n).filter fun p=>held.contains p&&!l.contains p).map fun p=>⟨4,p,0⟩
 | 0,_=>rfl
 | n+1,i=>by
  have ih:=awyS_fil (held:=held) (l:=l) n (i+1)
  have e:rangU i (n+1)=(i:Int)::rangU (i+1) n:=by unfold rangU;rw [List.range'_succ];rfl
  rw [awyS,e,List.filter_cons]
  split
  ·rw [ih];rfl
  ·exact ih
theorem rangU_ris:∀(n i:Nat),(rangU i n).Pairwise (· < ·):=fun n i=>by
 unfold rangU
 rw [List.pairwise_map]
 exact List.Pairwise.imp (fun h=>by omega) (List.pairwise_lt_range' ..)
theorem rangU_mem {n:Nat} {x:Int}:x ∈ rangU 0 n↔0≤x∧x < (n:Int):=by
 unfold rangU
 rw [List.mem_map]
 constructor
 ·rintro ⟨k,hk,rfl⟩
  have:=List.mem_range'_1.1 hk
  omega
 ·rintro ⟨h0,h1⟩
  obtain ⟨j,rfl⟩:=Int.eq_ofNat_of_zero_le h0
  exact ⟨j,List.mem_range'_1.2 (by omega),rfl⟩
theorem awyS_eq {held l:List Int} {n:Nat} (hh:SetP n held):awyS held l 0 n=awyL l held:=by
 rw [awyS_fil,awyL_fil]
 congr 1
 refine ris_ext10 (List.Pairwise.filter _ (rangU_ris n 0)) (List.Pairwise.filter _ hh.2) fun x=>?_
 rw [List.mem_filter,List.mem_filter,rangU_mem]
 constructor
 ·rintro ⟨-,h⟩
  rw [Bool.and_eq_true] at h
  exact ⟨by simpa using h.1,h.2⟩
 ·rintro ⟨h1,h2⟩
  exact ⟨hh.1 x h1,by rw [h2,Bool.and_true];simpa using h1⟩
theorem ins_ris {U:List Ent} (hU:Srt9 U):∀{m:List Hr},Ris (m.map fun y=>y.e.n)→(∀y ∈ m,y.e ∈ U)→SetP U.length (insU U m)
 | [],_,_=>⟨(fun p hp=>absurd hp List.not_mem_nil),List.Pairwise.nil⟩
 | y::r,hr,hm=>by
  unfold Ris at hr
  rw [List.map_cons] at hr
  obtain ⟨r1,r2⟩:=List.pairwise_cons.1 hr
  obtain ⟨i1,i2⟩:=ins_ris hU (m:=r) r2 fun z hz=>hm z (List.mem_cons_of_mem _ hz)
  obtain ⟨a,ha,ea⟩:=List.getElem_of_mem (hm y (List.mem_cons_self ..))
  have pa:plU y.e.n y.e.v U 0=(a:Int):=by rw [←ea,plU_at hU ha 0,Nat.zero_add]
  unfold insU at *
  rw [List.map_cons,pa]
  refine ⟨fun p hp=>?_,List.pairwise_cons.2 ⟨fun p hp=>?_,i2⟩⟩
  ·rcases List.mem_cons.1 hp with rfl|hp
   ·omega
   ·exact i1 p hp
  ·obtain ⟨z,hz,rfl⟩:=List.mem_map.1 hp
   obtain ⟨b,hb,eb⟩:=List.getElem_of_mem (hm z (List.mem_cons_of_mem _ hz))
   have pb:plU z.e.n z.e.v U 0=(b:Int):=by rw [←eb,plU_at hU hb 0,Nat.zero_add]
   rw [pb]
   have hlt:blt y.e.n z.e.n:=r1 _ (List.mem_map.2 ⟨z,hz,rfl⟩)
   have hle:Les y.e z.e:=.inr ⟨fun q=>by rw [q] at hlt;exact blt_self _ hlt,hlt⟩
   rcases Nat.lt_trichotomy a b with h|h|h
   ·exact by omega
   ·subst h
    rw [ea] at eb
    rw [eb] at hle
    exact absurd hle (les_no _)
   ·have:=(List.pairwise_iff_getElem.1 hU) b a hb ha h
    rw [ea,eb] at this
    exact (Les.asym hle this).elim
theorem held_ris {U:List Ent} (hU:Srt9 U) {m:List Hr} (hr:Ris (m.map fun y=>y.e.n)) (hm:∀y ∈ m,y.e ∈ U):SetP U.length (heldU U m):=by
 refine ins_ris hU (List.Pairwise.sublist (List.Sublist.map _ List.filter_sublist) hr) fun y hy=>hm y (List.mem_filter.1 hy).1
theorem bs_end {l:List Int} {x:Int} {lo:Nat} (h1:∀t (ht:t < l.length),t < lo→l[t] < x) (h2:∀t (ht:t < l.length),lo≤t→x≤l[t]) (hs:l.Pairwise (· < ·)) :
  (∀h:lo < l.length,l.contains x=(l[lo]==x))∧(¬lo < l.length→l.contains x=false):=by
 have no:∀t (ht:t < l.length),l[t]=x→t=lo:=by
  intro t ht e
  rcases Nat.lt_trichotomy t lo with h|h|h
  ·have:=h1 t ht h;omega
  ·exact h
  ·have a:=(List.pairwise_iff_getElem.1 hs) lo t (by omega) ht h
   have b:=h2 lo (by omega) (Nat.le_refl _)
   omega
 constructor
 ·intro h
  rw [Bool.eq_iff_iff,beq_iff_eq]
  constructor
  ·intro hx
   have hx:x ∈ l:=by simpa using hx
   obtain ⟨t,ht,e⟩:=List.getElem_of_mem hx
   have:=no t ht e
   subst this;exact e
  ·intro e
   have:x ∈ l:=e ▸ List.getElem_mem h
   simpa using this
 ·intro h
  rw [Bool.eq_false_iff]
  intro hx
  have hx:x ∈ l:=by simpa using hx
  obtain ⟨t,ht,e⟩:=List.getElem_of_mem hx
  have:=no t ht e
  omega
theorem bs_up {l:List Int} {x:Int} {h:Nat} (hs:l.Pairwise (· < ·)) (hh:h < l.length) (hx:l[h] < x):∀t (ht:t < l.length),t < h+1→l[t] < x:=by
 intro t ht hlt
 rcases Nat.lt_or_eq_of_le (Nat.lt_succ_iff.1 hlt) with q|q
 ·have:=(List.pairwise_iff_getElem.1 hs) t h ht hh q;omega
 ·subst q;exact hx
theorem bs_dn {l:List Int} {x:Int} {h:Nat} (hs:l.Pairwise (· < ·)) (hh:h < l.length) (hx:¬l[h] < x):∀t (ht:t < l.length),h≤t→x≤l[t]:=by
 intro t ht hlt
 rcases Nat.lt_or_eq_of_le hlt with q|q
 ·have:=(List.pairwise_iff_getElem.1 hs) h t hh ht q;omega
 ·subst q;omega
set_option maxHeartbeats 1000000 in
theorem nan1_any (x:Int) (w:World):Calls Tryz.prog 160 #[.int .i64 x] w fun e w'=>e=.returned (.bool false)∧w=w':=by
 go_enter Tryz.func160,Tryz.ntmps160
 go_wp2
 go_ret
 exact ⟨by simp,rfl⟩
set_option maxHeartbeats 1000000 in
theorem nan2_any (x:Int) (w:World):Calls Tryz.prog 146 #[.int .i64 x] w fun e w'=>e=.returned (.bool false)∧w=w':=by
 go_enter Tryz.func146,Tryz.ntmps146
 go_wp2
 go_ret
 exact ⟨by simp,rfl⟩
set_option maxHeartbeats 1000000 in
theorem cless_any (x y:Int) (w:World):Calls Tryz.prog 145 #[.int .i64 x,.int .i64 y] w fun e w'=>e=.returned (.bool (decide (x < y)))∧w=w':=by
 go_enter Tryz.func145,Tryz.ntmps145
 go_wp2_with (go_at_call 160;refine (nan1_any _ _).mono ?_;rintro e w' ⟨rfl,rfl⟩)
 go_ret
 exact ⟨rfl,rfl⟩
set_option maxHeartbeats 8000000 in
theorem bsearch_any (A:Option Addr) (n0 c:Nat) (l:List Int) (x:Int) (w:World) (h:rdInts w (lt_ w.heap.size) l [.slice A n0 c]) (hs:l.Pairwise (· < ·)) (hn:l.length≤1000000) :
  Calls Tryz.prog 119 #[.slice A n0 c,.int .i64 x] w fun e w'=>(∃i:Int,e=.returned (.tuple #[.int .i64 i,.bool (l.contains x)]))∧w=w':=by
 obtain ⟨rfl,hnc,hcm,hat⟩:=rdInts_at h
 have hcm':c≤9223372036854775807:=hcm
 have HA:=Lib.hid hat
 have UP:=Lib.hid (fun h hh hx=>bs_up (x:=x) (h:=h) hs hh hx)
 have DN:=Lib.hid (fun h hh hx=>bs_dn (x:=x) (h:=h) hs hh hx)
 have EN:=Lib.hid (fun lo h1 h2=>bs_end (x:=x) (lo:=lo) h1 h2 hs)
 clear h hat hcm hs
 go_enter Tryz.func119,Tryz.ntmps119
 go_wp2
 go_loopw [7,8] (fun s7 s8 wr=>∃lo hi:Nat,s7=.int .i64 lo∧s8=.int .i64 hi∧lo≤hi∧hi≤l.length∧Hid (∀t (ht:t < l.length),t < lo→l[t] < x)∧Hid (∀t (ht:t < l.length),hi≤t→x≤l[t])∧w=wr) (fun s7 s8 _=>(intOf s8).toNat - (intOf s7).toNat)
 case atStart=>exact ⟨0,l.length,rfl,rfl,Nat.zero_le _,Nat.le_refl _,Lib.hid (fun t _ h=>absurd h (Nat.not_lt_zero _)),Lib.hid (fun t ht h=>absurd ht (by omega)),rfl⟩
 case round=>
  obtain ⟨lo,hi,rfl,rfl,hlh,hhl,H1,H2,rfl⟩:=hrel
  by_cases hlt:lo < hi
  ·have hh:(lo+hi) / 2 < l.length:=by omega
   obtain ⟨ad,rfl,-,cm⟩:=HA.out _ hh
   have U1:=Lib.hid (UP.out _ hh)
   have D1:=Lib.hid (DN.out _ hh)
   generalize hy:l[(lo+hi) / 2]=y at cm U1 D1
   clear hy
   by_cases hyx:y < x
   ·have NX:=Lib.hid (U1.out hyx)
    clear U1 D1
    go_wp2_with (go_at_call 145;refine (cless_any _ _ _).mono ?_;rintro e w' ⟨rfl,rfl⟩)
    go_roundw
    case rel=>exact ⟨(lo+hi) / 2+1,hi,by rw [show ((lo:Int)+(hi:Int)) / 2+1=(((lo+hi) / 2+1:Nat):Int) by omega],rfl,by omega,hhl,NX,H2,by first|trivial|rfl⟩
    case measure=>simp [intOf];omega
   ·have NX:=Lib.hid (D1.out (by omega))
    clear U1 D1
    go_wp2_with (go_at_call 145;refine (cless_any _ _ _).mono ?_;rintro e w' ⟨rfl,rfl⟩)
    go_roundw
    case rel=>exact ⟨lo,(lo+hi) / 2,rfl,by rw [show ((lo:Int)+(hi:Int)) / 2=(((lo+hi) / 2:Nat):Int) by omega],by omega,by omega,H1,NX,by first|trivial|rfl⟩
    case measure=>simp [intOf];omega
  ·obtain rfl:lo=hi:=by omega
   have EE:=Lib.hid (EN.out lo H1.out H2.out)
   clear H1 H2 UP DN EN
   by_cases hl:lo < l.length
   ·obtain ⟨ad,rfl,-,cm⟩:=HA.out lo hl
    have E1:=Lib.hid (EE.out.1 hl)
    generalize l[lo]=y at cm E1
    by_cases hyx:y=x
    ·subst hyx
     have E2:=Lib.hid (show l.contains y=true by rw [E1.out];exact beq_self_eq_true _)
     clear EE E1 HA
     go_wp2_with (go_at_call 146;refine (nan2_any _ _).mono ?_;rintro e w' ⟨rfl,rfl⟩)
     go_ret2
     exact ⟨⟨(lo:Int),by rw [E2.out];try rfl⟩,rfl⟩
    ·have E2:=Lib.hid (show l.contains x=false by rw [E1.out];exact beq_eq_false_iff_ne.2 hyx)
     clear EE E1 HA
     have t1:(y==x)=false:=beq_eq_false_iff_ne.2 hyx
     go_wp2_with (go_at_call 146;refine (nan2_any _ _).mono ?_;rintro e w' ⟨rfl,rfl⟩)
     go_ret2
     exact ⟨⟨(lo:Int),by rw [E2.out];try rfl⟩,rfl⟩
   ·have E2:=Lib.hid (EE.out.2 hl)
    clear EE HA
    go_wp2
    go_ret2
    exact ⟨⟨(lo:Int),by rw [E2.out];try rfl⟩,rfl⟩
set_option maxHeartbeats 1000000 in
theorem vhas_any (A:Option Addr) (n0 c:Nat) (l:List Int) (x:Int) (w:World) (h:rdInts w (lt_ w.heap.size) l [.slice A n0 c]) (hs:l.Pairwise (· < ·)) (hn:l.length≤1000000) :
  Calls Tryz.prog 81 #[.slice A n0 c,.int .i64 x] w fun e w'=>e=.returned (.bool (l.contains x))∧w=w':=by
 have K:=Lib.hid (bsearch_any A n0 c l x w h hs hn)
 generalize l.contains x=cc at *
 clear h hs
 go_enter Tryz.func81,Tryz.ntmps81
 go_wp2_with fail
 refine K.out.mono ?_
 rintro e w' ⟨⟨i,rfl⟩,rfl⟩
 go_wp2
 go_ret
 exact ⟨rfl,rfl⟩
structure Sgn (w:World):Prop where
 s0:w.cell? ⟨0,0,none⟩=some (.string { data:=#[60,60] })
 s1:w.cell? ⟨0,1,none⟩=some (.string { data:=#[60,61] })
 s2:w.cell? ⟨0,2,none⟩=some (.string { data:=#[61] })
 s3:w.cell? ⟨0,3,none⟩=some (.string { data:=#[62,61] })
 s4:w.cell? ⟨0,4,none⟩=some (.string { data:=#[62,62] })
theorem Sgn.below {w w':World} (E:Sgn w) (h:Below w.heap.size w w'):Sgn w':=by
 obtain ⟨h0,h1,h2,h3,h4⟩:=E
 exact ⟨by rw [h.cell (World.block_lt_of_cell? _ _ h0)];exact h0,by rw [h.cell (World.block_lt_of_cell? _ _ h1)];exact h1,by rw [h.cell (World.block_lt_of_cell? _ _ h2)];exact h2,by rw [h.cell (World.block_lt_of_cell? _ _ h3)];exact h3,by rw [h.cell (World.block_lt_of_cell? _ _ h4)];exact h4⟩
theorem signL_out {op:Int} (h:op < 1∨5 < op):signL op=[]:=by
 unfold signL
 rw [if_neg (by omega),if_neg (by omega),if_neg (by omega),if_neg (by omega),if_neg (by omega)]
theorem rsign_any (op:Int) (w:World) (E:Sgn w):Calls Tryz.prog 123 #[.int .i64 op] w fun e w'=>e=.returned (.string (mk (signL op)))∧w=w':=by
 obtain ⟨c0,c1,c2,c3,c4⟩:=E
 by_cases h:op < 1∨5 < op
 ·have X:=Lib.hid (signL_out h)
  by_cases h1:op < 1
  ·clear h
   go_enter Tryz.func123,Tryz.ntmps123
   go_wp2
   go_ret
   exact ⟨by rw [X.out];rfl,rfl⟩
  ·have h2:5 < op:=by omega
   clear h
   go_enter Tryz.func123,Tryz.ntmps123
   go_wp2
   go_ret
   exact ⟨by rw [X.out];rfl,rfl⟩
 ·have:op=1∨op=2∨op=3∨op=4∨op=5:=by omega
  clear h
  rcases this with rfl|rfl|rfl|rfl|rfl
  all_goals
   go_enter Tryz.func123,Tryz.ntmps123
   go_wp2
   go_ret
   exact ⟨rfl,rfl⟩
theorem rplain_any (c:Nat) (w:World):Calls Tryz.prog 131 #[.int .u8 (c:Int)] w fun e w'=>e=.returned (.bool (plnB c))∧w=w':=by
 have X:=Lib.hid (show plnB c=((decide ((97:Int)≤c)&&decide ((c:Int)≤122))||(decide ((48:Int)≤c)&&decide ((c:Int)≤57))) by unfold plnB digB;rw [Bool.eq_iff_iff];simp;omega)
 go_enter Tryz.func131,Tryz.ntmps131
 go_wp2
 all_goals
  go_ret
  refine ⟨congrArg (fun b=>Ending.returned (.bool b)) ?_,rfl⟩
  rw [X.out,Bool.eq_iff_iff]
  simp
  omega
theorem nameB_is (s:ByteArray) (h2:2≤s.size) (h40:s.size≤40) (h0:plnB s[0].toNat=true):nameB (B s)=(B s).all nmcB:=by
 unfold nameB
 rw [B_len,B_getD s 0 (by omega),h0,decide_eq_true h2,decide_eq_true h40];rfl
theorem nm_not {s:ByteArray} {k:Nat} (hk:k < s.size) (h:nmcB s[k].toNat=false):(B s).all nmcB=false:=by
 rw [Bool.eq_false_iff]
 intro ha
 have:=List.all_eq_true.1 ha s[k].toNat (List.mem_of_getElem? (B_at s k hk))
 rw [h] at this;cases this
theorem nm_yes {s:ByteArray} (h:∀j,j < s.size→nmcB ((B s).getD j 0)=true):(B s).all nmcB=true:=by
 rw [List.all_eq_true]
 intro c hc
 obtain ⟨j,hj,e⟩:=List.getElem_of_mem hc
 rw [B_len] at hj
 have:=h j hj
 rwa [List.getD_eq_getElem?_getD,List.getElem?_eq_getElem (by rw [B_len];exact hj),e] at this
theorem rname_any (s:ByteArray) (w:World):Calls Tryz.prog 94 #[.string s] w fun e w'=>e=.returned (.bool (nameB (B s)))∧Below w.heap.size w w':=by
 by_cases h2:s.size < 2
 ·have X:=Lib.hid (show nameB (B s)=false by unfold nameB;rw [B_len,decide_eq_false (by omega)];rfl)
  go_enter Tryz.func94,Tryz.ntmps94
  go_wp2
  go_ret
  exact ⟨by rw [X.out];rfl,Below.refl _ _⟩
 ·by_cases h40:40 < s.size
  ·have X:=Lib.hid (show nameB (B s)=false by unfold nameB;rw [B_len,decide_eq_false (p:=s.size≤40) (by omega),Bool.and_false];rfl)
   have h40':(40:Int) < (s.size:Int):=by omega
   go_enter Tryz.func94,Tryz.ntmps94
   go_wp2
   go_ret
   exact ⟨by rw [X.out];rfl,Below.refl _ _⟩
  ·have hs0:0 < s.size:=by omega
   cases h0:plnB s[0].toNat
   ·have X:=Lib.hid (show nameB (B s)=false by unfold nameB;rw [B_getD s 0 hs0,h0,Bool.and_false];rfl)
    go_enter Tryz.func94,Tryz.ntmps94
    go_wp2_with (go_at_call 131;refine (rplain_any _ _).mono ?_;rw [h0];rintro e w' ⟨rfl,rfl⟩)
    go_ret
    exact ⟨by rw [X.out];rfl,Below.refl _ _⟩
   ·have X:=Lib.hid (nameB_is s (by omega) (by omega) h0)
    obtain ⟨cap,w1,hcv,hb,hcells⟩:=bytes_cells w s
    have HB:=Lib.hid hb
    have HC:=Lib.hid hcells
    have hlen:s.size≤40:=by omega
    clear hb hcells
    go_enter Tryz.func94,Tryz.ntmps94
    go_wp2_with (go_at_call 131;refine (rplain_any _ _).mono ?_;rw [h0];rintro e w' ⟨rfl,rfl⟩)
    clear h0 hcv
    go_loop [22] (fun x=>∃k:Nat,k≤s.size∧x=.int .i64 k∧∀j,j < k→nmcB ((B s).getD j 0)=true) (fun x=>s.size - (intOf x).toNat)
    case atStart=>exact ⟨0,Nat.zero_le _,rfl,fun j hj=>by omega⟩
    case round=>
     obtain ⟨k,hk,rfl,hno⟩:=hrel
     have HN:=Lib.hid hno
     clear hno
     by_cases hlt:k < s.size
     ·have hcell:=HC.out k hlt
      have HD:=Lib.hid (B_getD s k hlt)
      have NC:=Lib.hid (show nmcB s[k].toNat=(plnB s[k].toNat||decide (s[k].toNat=43)||decide (s[k].toNat=45)||decide (s[k].toNat=46)) from rfl)
      have AN:=Lib.hid (nm_not hlt)
      have p1:((s[k].toNat:Int) != 43)=!decide (s[k].toNat=43):=by rw [Bool.eq_iff_iff];simp;omega
      have p2:((s[k].toNat:Int) != 45)=!decide (s[k].toNat=45):=by rw [Bool.eq_iff_iff];simp;omega
      have p3:((s[k].toNat:Int) != 46)=!decide (s[k].toNat=46):=by rw [Bool.eq_iff_iff];simp;omega
      generalize s[k].toNat=c at *
      cases g0:plnB c
      ·rw [g0] at NC
       cases g1:decide (c=43)<;>rw [g1] at p1 NC
       ·cases g2:decide (c=45)<;>rw [g2] at p2 NC
        ·cases g3:decide (c=46)<;>rw [g3] at p3 NC
         ·clear g1 g2 g3
          go_wp2_with (go_at_call 131;refine (rplain_any _ _).mono ?_;rw [g0];rintro e w' ⟨rfl,rfl⟩)
          go_ret
          exact ⟨by rw [X.out,AN.out (by rw [NC.out];rfl)];rfl,HB.out⟩
         ·clear g1 g2 g3
          go_wp2_with (go_at_call 131;refine (rplain_any _ _).mono ?_;rw [g0];rintro e w' ⟨rfl,rfl⟩)
          go_round
          case rel=>exact ⟨k+1,by omega,by go_num,fun j hj=>by rcases (by omega:j < k∨j=k) with h|rfl;exact HN.out j h;rw [HD.out,NC.out];rfl⟩
          case measure=>simp [intOf];omega
        ·clear g1 g2 p3
         go_wp2_with (go_at_call 131;refine (rplain_any _ _).mono ?_;rw [g0];rintro e w' ⟨rfl,rfl⟩)
         go_round
         case rel=>exact ⟨k+1,by omega,by go_num,fun j hj=>by rcases (by omega:j < k∨j=k) with h|rfl;exact HN.out j h;rw [HD.out,NC.out];simp⟩
         case measure=>simp [intOf];omega
       ·clear g1 p2 p3
        go_wp2_with (go_at_call 131;refine (rplain_any _ _).mono ?_;rw [g0];rintro e w' ⟨rfl,rfl⟩)
        go_round
        case rel=>exact ⟨k+1,by omega,by go_num,fun j hj=>by rcases (by omega:j < k∨j=k) with h|rfl;exact HN.out j h;rw [HD.out,NC.out];simp⟩
        case measure=>simp [intOf];omega
      ·rw [g0] at NC
       clear p1 p2 p3
       go_wp2_with (go_at_call 131;refine (rplain_any _ _).mono ?_;rw [g0];rintro e w' ⟨rfl,rfl⟩)
       go_round
       case rel=>exact ⟨k+1,by omega,by go_num,fun j hj=>by rcases (by omega:j < k∨j=k) with h|rfl;exact HN.out j h;rw [HD.out,NC.out];simp⟩
       case measure=>simp [intOf];omega
     ·have Y:=Lib.hid (nm_yes (s:=s) (fun j hj=>HN.out j (by omega)))
      go_wp2
      go_ret
      exact ⟨by rw [X.out,Y.out];rfl,HB.out⟩
theorem vdigit_any (c:Nat) (w:World):Calls Tryz.prog 171 #[.int .u8 (c:Int)] w fun e w'=>e=.returned (.bool (digB c))∧w=w':=by
 have X:=Lib.hid (show digB c=(decide ((48:Int)≤c)&&decide ((c:Int)≤57)) by unfold digB;rw [Bool.eq_iff_iff];simp;omega)
 by_cases h:(48:Int)≤c
 ·go_enter Tryz.func171,Tryz.ntmps171
  go_wp2
  go_ret
  refine ⟨?_,rfl⟩
  rw [X.out];simp [h]
 ·have h2:(c:Int) < 48:=by omega
  go_enter Tryz.func171,Tryz.ntmps171
  go_wp2
  go_ret
  refine ⟨?_,rfl⟩
  rw [X.out];simp;omega
theorem vnotDigit_any (c:Nat) (w:World):Calls Tryz.prog 170 #[.int .u8 (c:Int)] w fun e w'=>e=.returned (.bool (!digB c))∧w=w':=by
 cases h:digB c
 all_goals
  go_enter Tryz.func170,Tryz.ntmps170
  go_wp2_with (go_at_call 171;refine (vdigit_any _ _).mono ?_;rw [h];rintro e w' ⟨rfl,rfl⟩)
  go_ret
  exact ⟨rfl,rfl⟩
theorem vletter_any (c:Nat) (w:World):Calls Tryz.prog 184 #[.int .u8 (c:Int)] w fun e w'=>e=.returned (.bool (letB c))∧w=w':=by
 have X:=Lib.hid (show letB c=((decide ((65:Int)≤c)&&decide ((c:Int)≤90))||(decide ((97:Int)≤c)&&decide ((c:Int)≤122))) by unfold letB;rw [Bool.eq_iff_iff];simp;omega)
 go_enter Tryz.func184,Tryz.ntmps184
 go_wp2
 all_goals
  go_ret
  refine ⟨congrArg (fun b=>Ending.returned (.bool b)) ?_,rfl⟩
  rw [X.out,Bool.eq_iff_iff]
  simp
  omega
theorem rX_is (c:Nat):hasB rX c=(decide (c=46)||decide (c=43)||decide (c=126)):=by
 unfold hasB rX
 rw [Bool.eq_iff_iff]
 simp
 omega
theorem uX_is (c:Nat):chB uX c=(chB rX c||decide (c=45)||decide (c=58)):=by
 unfold chB hasB uX rX
 cases letB c<;>cases digB c<;>rw [Bool.eq_iff_iff]<;>simp
 omega
theorem vrev_any (c:Nat) (w:World):Calls Tryz.prog 166 #[.int .u8 (c:Int)] w fun e w'=>e=.returned (.bool (chB rX c))∧w=w':=by
 have X:=Lib.hid (show chB rX c=(letB c||digB c||decide (c=46)||decide (c=43)||decide (c=126)) by unfold chB;rw [rX_is,←Bool.or_assoc,←Bool.or_assoc])
 have p1:((c:Int)==46)=decide (c=46):=by rw [Bool.eq_iff_iff];simp;omega
 have p2:((c:Int)==43)=decide (c=43):=by rw [Bool.eq_iff_iff];simp;omega
 have p3:((c:Int)==126)=decide (c=126):=by rw [Bool.eq_iff_iff];simp;omega
 cases h1:letB c<;>cases h2:digB c<;>rw [h1,h2] at X<;>cases h3:decide (c=46)<;>rw [h3] at X p1<;>cases h4:decide (c=43)<;>rw [h4] at X p2<;>cases h5:decide (c=126)<;>rw [h5] at X p3
 all_goals
  clear h3 h4 h5
  go_enter Tryz.func166,Tryz.ntmps166
  go_wp2_with (first|(go_at_call 184;refine (vletter_any _ _).mono ?_;rw [h1];rintro e w' ⟨rfl,rfl⟩)|(go_at_call 171;refine (vdigit_any _ _).mono ?_;rw [h2];rintro e w' ⟨rfl,rfl⟩))
  go_ret
  exact ⟨by rw [X.out];rfl,rfl⟩
theorem vup_any (c:Nat) (w:World):Calls Tryz.prog 182 #[.int .u8 (c:Int)] w fun e w'=>e=.returned (.bool (chB uX c))∧w=w':=by
 have X:=Lib.hid (uX_is c)
 have p1:((c:Int)==45)=decide (c=45):=by rw [Bool.eq_iff_iff];simp;omega
 have p2:((c:Int)==58)=decide (c=58):=by rw [Bool.eq_iff_iff];simp;omega
 cases h1:chB rX c<;>rw [h1] at X<;>cases h3:decide (c=45)<;>rw [h3] at X p1<;>cases h4:decide (c=58)<;>rw [h4] at X p2
 all_goals
  clear h3 h4
  go_enter Tryz.func182,Tryz.ntmps182
  go_wp2_with (go_at_call 166;refine (vrev_any _ _).mono ?_;rw [h1];rintro e w' ⟨rfl,rfl⟩)
  go_ret
  exact ⟨by rw [X.out];rfl,rfl⟩
theorem ext_take {s:ByteArray} {k:Nat}:s.extract 0 k=mk ((B s).take k):=by
 apply eq_mk;rw [B_extract];simp
theorem ext_drop {s:ByteArray} {k:Nat}:s.extract k s.size=mk ((B s).drop k):=by
 apply eq_mk;rw [B_extract]
 rw [List.take_of_length_le (by rw [List.length_drop,B_len];omega)]
theorem cut_any (f:Nat) (p:Nat→Bool) (s:ByteArray) (w:World) (hs:s.size≤9223372036854775807)
  (hk:∀(args:Array Value) (w:World),(callFunc f args).run Tryz.prog w=.ok (.enter f args) w)
  (hf:∀(c:Nat) (w:World),Calls Tryz.prog f #[.int .u8 (c:Int)] w fun e w'=>e=.returned (.bool (p c))∧w=w') :
  Calls Tryz.prog 169 #[.string s,.func (.func f) #[] #[]] w fun e w'=>e=.returned (.tuple #[.string (mk ((B s).takeWhile p)),.string (mk ((B s).dropWhile p))])∧∃n,w'=w.drewN n:=by
 have HF:=Lib.hid hf
 clear hf
 go_enter Tryz.func169,Tryz.ntmps169
 go_wp2
 go_loop [6] (fun i=>∃k:Nat,k≤s.size∧i=.int .i64 k∧∀j,j < k→p ((B s).getD j 0)=true) (fun i=>s.size - (intOf i).toNat)
 case atStart=>exact ⟨0,Nat.zero_le _,rfl,fun j hj=>by omega⟩
 case round=>
  obtain ⟨k,hk',rfl,hno⟩:=hrel
  have HN:=Lib.hid hno
  clear hno
  by_cases hlt:k < s.size
  ·have HB:=Lib.hid (B_getD s k hlt)
   cases hc:p s[k].toNat
   ·have HT:=Lib.hid (takeWhile_is (p:=p) (l:=B s) (n:=k) (by rw [B_len];omega) HN.out (.inr (by rw [HB.out];exact hc)))
    have HD:=Lib.hid (dropWhile_is (p:=p) (l:=B s) (n:=k) (by rw [B_len];omega) HN.out (.inr (by rw [HB.out];exact hc)))
    have HC:=Lib.hid hc
    clear hc
    go_wp2_with fail
    refine (HF.out _ _).mono ?_
    rw [HC.out]
    rintro e w' ⟨rfl,rfl⟩
    go_wp2
    go_quiet (fail)
    go_wp2
    go_ret2
    exact ⟨by rw [HT.out,HD.out,←ext_take,←ext_drop];rfl,_,rfl⟩
   ·have HC:=Lib.hid hc
    clear hc
    go_wp2_with fail
    refine (HF.out _ _).mono ?_
    rw [HC.out]
    rintro e w' ⟨rfl,rfl⟩
    go_wp2
    go_round
    case rel=>exact ⟨k+1,by omega,by go_num,fun j hj=>by rcases (by omega:j < k∨j=k) with h|rfl;exact HN.out j h;rw [HB.out];exact HC.out⟩
    case measure=>simp [intOf];omega
  ·have HT:=Lib.hid (takeWhile_is (p:=p) (l:=B s) (n:=k) (by rw [B_len];omega) HN.out (.inl (by rw [B_len];omega)))
   have HD:=Lib.hid (dropWhile_is (p:=p) (l:=B s) (n:=k) (by rw [B_len];omega) HN.out (.inl (by rw [B_len];omega)))
   go_wp2
   go_quiet (fail)
   go_wp2
   go_ret2
   exact ⟨by rw [HT.out,HD.out,←ext_take,←ext_drop];rfl,_,rfl⟩
theorem all_drop (p:Nat→Bool):∀l:List Nat,l.all p=true↔l.dropWhile p=[]
 | []=>by simp
 | c::l=>by
  cases h:p c
  ·simp [h]
  ·simp only [List.all_cons,h,Bool.true_and,List.dropWhile_cons,if_true]
   exact all_drop p l
theorem mk_empty (l:List Nat):(mk l).toList.isEmpty=l.isEmpty:=by
 rw [toList_data]
 cases l<;>simp [mk]
theorem each_any (f:Nat) (p:Nat→Bool) (s:ByteArray) (w:World) (hs:s.size≤9223372036854775807)
  (hk:∀(args:Array Value) (w:World),(callFunc f args).run Tryz.prog w=.ok (.enter f args) w)
  (hf:∀(c:Nat) (w:World),Calls Tryz.prog f #[.int .u8 (c:Int)] w fun e w'=>e=.returned (.bool (p c))∧w=w') :
  Calls Tryz.prog 165 #[.string s,.func (.func f) #[] #[]] w fun e w'=>e=.returned (.bool ((B s).all p))∧∃n,w'=w.drewN n:=by
 have X:=Lib.hid (show ((mk ((B s).dropWhile p)).toList.isEmpty)=(B s).all p by
  rw [mk_empty,Bool.eq_iff_iff,all_drop,List.isEmpty_iff])
 have C:=Lib.hid (fun w=>cut_any f p s w hs hk hf)
 clear hf hk
 go_enter Tryz.func165,Tryz.ntmps165
 go_wp2_with (go_at_call 169;(with_reducible refine (C.out _).mono ?_);rintro e w' ⟨rfl,n,rfl⟩)
 go_ret
 refine ⟨?_,n,rfl⟩
 rw [←X.out]
 rfl
theorem firstI_none:∀(l:List Nat) (n:Nat),(∀c ∈ l,c≠58)→firstI l n=none
 | [],_,_=>rfl
 | c::l,n,h=>by
  show (if c=58 then some n else firstI l (n+1))=none
  rw [if_neg (h c (by simp))]
  exact firstI_none l _ (fun d hd=>h d (by simp [hd]))
theorem firstI_at:∀(a b:List Nat) (n:Nat),(∀c ∈ a,c≠58)→firstI (a++58::b) n=some (n+a.length)
 | [],b,n,_=>rfl
 | c::a,b,n,h=>by
  show (if c=58 then some n else firstI (a++58::b) (n+1))=_
  rw [if_neg (h c (by simp)),firstI_at a b _ (fun d hd=>h d (by simp [hd])),List.length_cons]
  congr 1;omega
theorem numF_dec:∀(f n:Nat) (l:List Nat),n < f→(decF f n l).foldl (fun n c=>10*n+(c - 48)) 0=l.foldl (fun n c=>10*n+(c - 48)) n
 | 0,_,_,h=>by omega
 | f+1,n,l,h=>by
  simp only [decF]
  split
  ·simp only [List.foldl_cons];congr 1;omega
  ·rw [numF_dec f (n / 10) _ (by omega)]
   simp only [List.foldl_cons];congr 1;omega
theorem numV_dec (n:Nat):numV (decL n)=n:=by unfold numV decL;rw [numF_dec _ _ _ (by omega)];rfl
theorem decF_short:∀(f n k:Nat) (l:List Nat),n < 10 ^ (k+1)→(decF f n l).length≤k+1+l.length
 | 0,_,_,l,_=>by simp only [decF];omega
 | f+1,n,k,l,h=>by
  simp only [decF]
  split
  ·simp;omega
  ·match k with
   | 0=>simp at h;omega
   | k+1=>
    have:=decF_short f (n / 10) k ((48+n % 10)::l) (by rw [Nat.pow_succ] at h;omega)
    simp at this;omega
theorem decF_dig2:∀(f n:Nat) (l:List Nat),(∀c ∈ l,digB c=true)→∀c ∈ decF f n l,digB c=true
 | 0,_,_,h=>h
 | f+1,n,l,h=>by
  simp only [decF]
  split
  ·intro c hc
   rcases List.mem_cons.1 hc with rfl|hc
   ·simp only [digB,decide_eq_true_eq];omega
   ·exact h c hc
  ·refine decF_dig2 f _ _ (fun c hc=>?_)
   rcases List.mem_cons.1 hc with rfl|hc
   ·simp only [digB,decide_eq_true_eq];omega
   ·exact h c hc
theorem decF_ne2:∀(f n:Nat) (l:List Nat),l≠[]→decF f n l≠[]
 | 0,_,_,h=>h
 | f+1,n,l,h=>by
  simp only [decF]
  split
  ·simp
  ·exact decF_ne2 f _ _ (by simp)
theorem decL_ne2 (n:Nat):decL n≠[]:=by
 unfold decL
 simp only [decF]
 split
 ·simp
 ·exact decF_ne2 _ _ _ (by simp)
theorem numL_dec (n:Nat) (h:n≤999999999):numL (decL n)=n:=by
 unfold numL
 have h9:=decF_short (n+1) n 8 [] (by omega)
 rw [if_pos ⟨decL_ne2 n,by simpa [decL] using h9,List.all_eq_true.2 (decF_dig2 _ _ _ (by simp)),by rw [numV_dec]⟩,numV_dec]
theorem colons {e:Int} {u r:List Nat} (h:rightB e u r=true):colE (textL e.toNat u r)=e∧colU (textL e.toNat u r)=u++(if r=[] then [] else 45::r):=by
 obtain ⟨h0,h1⟩:=rightB_epoch h
 have h':=h
 unfold rightB at h'
 simp only [Bool.and_eq_true,Bool.not_eq_true',Bool.and_eq_false_iff] at h'
 obtain ⟨⟨⟨⟨⟨⟨_,_⟩,_⟩,h58⟩,hu⟩,hr⟩,_⟩:=h'
 by_cases he:e=0
 ·subst he
  have hu58:∀c ∈ u,c≠58:=by
   rintro c hc rfl
   rcases h58 with h58|h58
   ·unfold hasB at h58
    rw [Bool.eq_false_iff] at h58
    exact h58 (List.contains_iff_mem.2 hc)
   ·exact absurd h58 (by decide)
  have hr58:∀c ∈ r,c≠58:=by
   rintro c hc rfl
   exact absurd (List.all_eq_true.1 hr 58 hc) (by decide)
  have e1:textL (0:Int).toNat u r=u++(if r=[] then [] else 45::r):=by unfold textL;rw [if_pos (show (0:Int).toNat=0 from rfl),List.nil_append]
  have hno:∀c ∈ u++(if r=[] then [] else 45::r),c≠58:=by
   intro c hc
   rcases List.mem_append.1 hc with hc|hc
   ·exact hu58 c hc
   ·split at hc
    ·cases hc
    ·rcases List.mem_cons.1 hc with rfl|hc
     ·decide
     ·exact hr58 c hc
  rw [e1]
  unfold colE colU
  rw [firstI_none _ 0 hno]
  exact ⟨rfl,rfl⟩
 ·have e1:textL e.toNat u r=decL e.toNat++58::(u++(if r=[] then [] else 45::r)):=by unfold textL;rw [if_neg (by omega)];simp
  have hno:∀c ∈ decL e.toNat,c≠58:=by
   rintro c hc rfl
   exact absurd (decF_dig2 _ _ _ (by simp) 58 hc) (by decide)
  rw [e1]
  unfold colE colU
  rw [firstI_at _ _ 0 hno]
  refine ⟨?_,?_⟩
  ·show numL (List.take (0+(decL e.toNat).length) _)=e
   rw [Nat.zero_add,List.take_left,numL_dec _ (by omega)];omega
  ·show List.drop (0+(decL e.toNat).length+1) _=_
   rw [Nat.zero_add,List.drop_length_add_append];rfl
end Go.Proofs.YthchfkhpmgkghaaGreatDoor
