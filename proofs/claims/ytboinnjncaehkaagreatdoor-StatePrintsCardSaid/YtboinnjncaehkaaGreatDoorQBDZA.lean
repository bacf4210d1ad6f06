/- What the laws rest on: P8c, P8g, P8h, P8d. -/
import Derived.Test.YtboinnjncaehkaaGreatDoorQBCZA
set_option maxRecDepth 100000
set_option linter.unusedVariables false
set_option linter.unusedSimpArgs false
namespace Go.Proofs.YtboinnjncaehkaaGreatDoor
open Go.RowKit Go.Sort Go.Lib
variable {P:Program} {α:Type} [Inhabited α] {k:Nat}
def cpt (eq:α→α→Bool) (Z:List α):Nat→List α
 | 0=>[]
 | j+1=>cpt eq Z j++if decide (0 < j)&&eq Z[j]! Z[j - 1]! then [] else [Z[j]!]
theorem cpt_eq {eq:α→α→Bool} {Z:List α} {j:Nat} (h0:0 < j) (h:eq Z[j]! Z[j - 1]! = true):cpt eq Z (j+1)=cpt eq Z j:=by
 show cpt eq Z j++_=_
 rw [if_pos (by rw [decide_eq_true h0,h];rfl),List.append_nil]
theorem cpt_ne {eq:α→α→Bool} {Z:List α} {j:Nat} (h:eq Z[j]! Z[j - 1]! = false):cpt eq Z (j+1)=cpt eq Z j++[Z[j]!]:=by
 show cpt eq Z j++_=_
 rw [if_neg (by rw [h,Bool.and_false];simp)]
def EqLays (P:Program) (g:Nat) (cb:Array Value) (enc:α→List Value) (k:Nat) (eq:α→α→Bool) (blk off size:Nat) (w:World):Prop:=
 ∀(m:Nat) (os:Array Obj) (dk:Array α),dk.size=size→∀x y:α,
  Calls P g (#[.agg (enc x).toArray,.agg (enc y).toArray]++cb) (sortWorldK enc k w blk off m dk os) fun e w'=>e=.returned (.bool (eq x y))∧∃q os',w'=grow ((sortWorldK enc k w blk off m dk os).drewN q) os'
theorem swk_eqc {enc:α→List Value} {w0 W:World} {blk off:Nat} {dk:Array α} {g:Nat} {cb:Array Value} {eq:α→α→Bool} {size:Nat} (h:SWK enc k w0 blk off dk W) (hC:EqLays P g cb enc k eq blk off size w0) (hs:dk.size=size) (x y:α) (n:Nat) (os:Array Obj) :
  Calls P g (#[.agg (enc x).toArray,.agg (enc y).toArray]++cb) (grow (W.drewN n) os) fun e w'=>e=.returned (.bool (eq x y))∧∃q os',w'=grow ((grow (W.drewN n) os).drewN q) os':=by
 obtain ⟨m,os0,hw⟩:=h.grown n os
 rw [hw]
 exact hC m os0 dk hs x y
theorem setMany_one (enc : α → List Value) (k : Nat) (hk : ∀ x, (enc x).length = k) (d : Array α) (i : Nat) (y : α) (hi : i < d.size) : setMany (flatK enc k d) (i * k) (enc y) = flatK enc k (d.setIfInBounds i y) := by
  refine ext_get! (by simp) fun t ht => ?_
  have ht' : t < d.size * k := by simpa using ht
  have k0 : 0 < k := by rcases Nat.eq_zero_or_pos k with h | h; · subst h; simp at ht'
                        · exact h
  rw [get_setMany _ _ _ t (by simpa using ht'), get_flatK _ _ _ t ht', get_flatK _ _ _ t (by simpa using ht'), hk]
  by_cases b : t / k = i
  · rw [if_pos ((blk_iff k i t k0).2 b)]
    have m : t - i * k = t % k := by subst b; rw [Nat.mod_eq_sub_div_mul]
    rw [m, b, getElem!_pos (d.setIfInBounds i y) i (by simpa using hi)]
    simp
  · rw [if_neg (fun h => b ((blk_iff k i t k0).1 h))]
    have hq : t / k < d.size := Nat.div_lt_of_lt_mul (by rw [Nat.mul_comm]; exact ht')
    rw [getElem!_pos d (t / k) hq, getElem!_pos (d.setIfInBounds i y) (t / k) (by simpa using hq), Array.getElem_setIfInBounds]
    rw [if_neg (fun h => b h.symm)]
theorem swk_one {enc:α→List Value} {w0 W:World} {blk off:Nat} {dk d0:Array α} (h:SWK enc k w0 blk off dk W) (R:RowK enc k w0 blk off d0) (i:Nat) (y:α) (hi:i < dk.size):SWK enc k w0 blk off (dk.setIfInBounds i y) (W.setCells blk (off+i*k) (enc y)):=by
 obtain ⟨n,os,rfl⟩:=h
 refine ⟨n,os,?_⟩
 unfold sortWorldK
 rw [setCells_grow os blk _ _ _ (by rw [size_putRowK];exact R.hblk)]
 congr 1
 unfold putRowK
 rw [setCells_putRow _ _ _ _ _ _ (by rw [R.hk,size_flatK];exact rowK_bnd dk k i hi),setMany_one enc k R.hk dk i y hi]
theorem setCells_app (b:Nat):∀(u v:List Value) (o:Nat) (w:World),w.setCells b o (u++v)=(w.setCells b o u).setCells b (o+u.length) v
 | [],v,o,w=>rfl
 | x::u,v,o,w=>by
  rw [List.cons_append,World.setCells,World.setCells,setCells_app b u v (o+1),List.length_cons]
  congr 1
  omega
theorem swk_fill {enc:α→List Value} {w0:World} {blk off:Nat} {d0:Array α} (R:RowK enc k w0 blk off d0) (z:α):∀(C D:List α) (W:World),SWK enc k w0 blk off (C++D).toArray W→SWK enc k w0 blk off (C++List.replicate D.length z).toArray (W.setCells blk (off+C.length*k) (List.replicate D.length (enc z)).flatten)
 | C,[],W,h=>by simpa [World.setCells] using h
 | C,x::D,W,h=>by
  have h1:=swk_one h R C.length z (by simp)
  rw [show (C++x::D).toArray.setIfInBounds C.length z=(C++[z]++D).toArray by
   simp only [List.setIfInBounds_toArray]
   rw [List.set_append_right _ _ (Nat.le_refl _),Nat.sub_self,List.set_cons_zero];simp] at h1
  have h2:=swk_fill R z (C++[z]) D _ h1
  rw [List.length_cons,List.replicate_succ,List.replicate_succ,List.flatten_cons,setCells_app,R.hk]
  simp only [List.length_append,List.length_singleton,Nat.add_mul,Nat.one_mul,←Nat.add_assoc,List.append_assoc,List.cons_append,List.nil_append] at h2 ⊢
  exact h2
theorem run_clear_k {P:Program} (w:World) (t e ty:TypeId) (z:Value) (zs:List Value) (ht:P.underlying t=some (.slice e)) (hv:∀w,(zeroValue e).run P w=.ok z w) (hz:z.cells=zs.toArray) (hk0:0 < zs.length) (h1:∀v ∈ zs,v.oneCell'=true) (b o n c:Nat) (hn:0 < n)
  (hc:∀j,j < n*zs.length→(w.cell? ⟨b,o+j,none⟩).isSome=true) (hf:∀j,j < n*zs.length→w.frozen? ⟨b,o+j,none⟩=false) :
  (Builtin.clear_ #[t] ty #[.slice (some ⟨b,o,none⟩) n c]).run P w=.ok (.tuple #[]) (w.setCells b o (List.replicate n zs).flatten):=by
 have hl:(List.replicate n zs).flatten.length=n*zs.length:=by simp
 have hzc:(Builtin.zeroCells z.cells n).toList=(List.replicate n zs).flatten:=by
  rw [hz]
  apply List.ext_getElem
  ·simp [Builtin.zeroCells]
  ·intro i h1 h2
   rw [hl] at h2
   have hi:i / zs.length < n:=Nat.div_lt_of_lt_mul (by rw [Nat.mul_comm];exact h2)
   have q:=flatten_at zs.length (css:=List.replicate n zs) (fun cs hc=>by rw [List.eq_of_mem_replicate hc]) (k:=i / zs.length) (cs:=zs) (by simp [hi]) (i % zs.length) (zs[i % zs.length]'(Nat.mod_lt _ hk0)) (List.getElem?_eq_getElem _)
   rw [show i / zs.length*zs.length+i % zs.length=i by rw [Nat.mul_comm];exact Nat.div_add_mod _ _] at q
   rw [List.getElem?_eq_getElem (by rw [hl];exact h2)] at q
   injection q with q
   rw [q]
   simp [Builtin.zeroCells,Nat.mod_lt _ hk0]
 have hst:=run_storeCells_cells (P:=P) b o (List.replicate n zs).flatten 0 w (by simpa [hl] using hc) (by simpa [hl] using hf) (by intro v hv';obtain ⟨l,h2,h3⟩:=List.mem_flatten.1 hv';rw [List.eq_of_mem_replicate h2] at h3;exact h1 v h3)
 simp only [Nat.add_zero] at hst
 obtain ⟨m,rfl⟩:∃m,n=m+1:=⟨n - 1,by omega⟩
 simp [Builtin.clear_,run_underlying ht,hv,hzc,hst]
structure SC (P:Program) (k:Nat) (zv:Value):Prop where
 S:SS P k
 fcf:P.funcs[153]?=some Tryz.f153
 t41:P.underlying 41=some (TypeDesc.func #[36,36] #[4] false)
 a41:∀w,(isAgg 41).run P w=.ok false w
 z41:∀w,(Go.sizeOf 41).run P w=.ok 1 w
 v41:∀w,(zeroValue 41).run P w=.ok Value.nilFunc w
 vE:∀w,(zeroValue 36).run P w=.ok zv w
theorem sc_prog:SC Tryz.prog 8 (.agg #[.string { data:=#[] },.string { data:=#[] },.slice none 0 0,.slice none 0 0,.slice none 0 0,.slice none 0 0,.bool false,.bool false]) where
 S:=ss_prog
 fcf:=Tryz.func153
 t41:=Tryz.underlying41
 a41:=Tryz.isAgg41
 z41:=Tryz.sizeOf41
 v41:=Tryz.zeroValue41
 vE:=Tryz.zeroValue36
theorem get_l {Z:List α} {j:Nat} (h:j < Z.length):Z[j]! = Z[j]:=getElem!_pos Z j h
theorem cpt_len (eq:α→α→Bool) (Z:List α):∀j,(cpt eq Z j).length≤j
 | 0=>Nat.le_refl _
 | j+1=>by
  show (cpt eq Z j++_).length≤_
  have:=cpt_len eq Z j
  rw [List.length_append]
  split
  ·simp;omega
  ·simp;omega
def CI (eq:α→α→Bool) (Z:List α) (j kk:Nat) (dk:Array α):Prop:=(cpt eq Z j).length=kk∧kk < j∧dk=(cpt eq Z j++Z.drop kk).toArray
theorem CI.at_ {eq:α→α→Bool} {Z:List α} {j kk:Nat} {dk:Array α} (h:CI eq Z j kk dk) {t:Nat} (h1:kk≤t) (h2:t < Z.length):dk[t]! = Z[t]! :=by
 obtain ⟨h3,h4,rfl⟩:=h
 rw [getElem!_pos _ _ (by simp;omega),get_l h2,List.getElem_toArray,List.getElem_append_right (by omega),List.getElem_drop]
 congr 1;omega
theorem CI.size {eq:α→α→Bool} {Z:List α} {j kk:Nat} {dk:Array α} (h:CI eq Z j kk dk) (hj:j≤Z.length):dk.size=Z.length:=by
 obtain ⟨h3,h4,rfl⟩:=h
 simp;omega
theorem CI.skip {eq:α→α→Bool} {Z:List α} {j kk:Nat} {dk:Array α} (h:CI eq Z j kk dk) (hq:eq Z[j]! Z[j - 1]! = true):CI eq Z (j+1) kk dk:=by
 obtain ⟨h3,h4,h5⟩:=h
 unfold CI
 rw [cpt_eq (by omega) hq]
 exact ⟨h3,by omega,h5⟩
theorem CI.keep {eq:α→α→Bool} {Z:List α} {j kk:Nat} {dk:Array α} (h:CI eq Z j kk dk) (hj:j < Z.length) (hq:eq Z[j]! Z[j - 1]! = false):CI eq Z (j+1) (kk+1) (dk.setIfInBounds kk Z[j]!):=by
 obtain ⟨h3,h4,rfl⟩:=h
 unfold CI
 rw [cpt_ne hq]
 refine ⟨by simp [h3],by omega,?_⟩
 rw [List.drop_eq_getElem_cons (show kk < Z.length by omega)]
 simp only [List.setIfInBounds_toArray]
 rw [List.set_append_right _ _ (by omega),h3,Nat.sub_self,List.set_cons_zero]
 simp
set_option maxHeartbeats 16000000 in
theorem cmf_any {zv:Value} (L_:SC P k zv) (enc:α→List Value) (zr:α) (hzr:zv.cells=(enc zr).toArray) (hk0:0 < k) (eq:α→α→Bool) (g:Nat) (cb:Array Value) (eg:∀args w,(callFunc g args).run P w=.ok (.enter g args) w) (blk off cap N:Nat) (d0:Array α) (w0 w:World) (hcmp:EqLays P g cb enc k eq blk off d0.size w0) (h0:d0.size=N) (R:RowK enc k w0 blk off d0) (hsz:N < 1000000) (hcap:N≤cap) (hcm:cap≤9223372036854775807)
  (Z:List α) (hN:N=Z.length) (S:SWK enc k w0 blk off Z.toArray w) :
  Calls P 153 #[.slice (some ⟨blk,off,none⟩) N cap,.func (.func g) #[] cb] w fun e w'=>e=.returned (.slice (some ⟨blk,off,none⟩) (cpt eq Z N).length cap)∧∃Q:List α,(cpt eq Z N++Q).length=N∧SWK enc k w0 blk off (cpt eq Z N++Q).toArray w':=by
 have mixed:=L_.S.mixed
 have t0:=L_.S.t0;have a0:=L_.S.a0;have z0:=L_.S.z0;have v0:=L_.S.v0
 have t3:=L_.S.t3;have a3:=L_.S.a3;have z3:=L_.S.z3;have v3:=L_.S.v3
 have t4:=L_.S.t4;have a4:=L_.S.a4;have z4:=L_.S.z4;have v4:=L_.S.v4
 have t23:=L_.S.t23;have a23:=L_.S.a23;have z23:=L_.S.z23;have v23:=L_.S.v23
 have t62:=L_.S.t62;have a62:=L_.S.a62;have z62:=L_.S.z62;have v62:=L_.S.v62
 have t97:=L_.S.t97;have a97:=L_.S.a97;have z97:=L_.S.z97;have v97:=L_.S.v97
 have aE:=L_.S.aE;have zE:=L_.S.zE
 have t41:=L_.t41;have a41:=L_.a41;have z41:=L_.z41;have v41:=L_.v41;have vE:=L_.vE
 have HC:Aside _:=hcmp
 have S0:Aside (SWK enc k w0 blk off Z.toArray w):=S
 have HZ:Aside (Z.length=N):=hN.symm
 have hds:Z.toArray.size=N:=by rw [hN];simp
 have HZR:Aside (zv.cells=(enc zr).toArray):=hzr
 have FIN0:Aside (∀w',cpt eq Z N=Z.take N→SWK enc k w0 blk off Z.toArray w'→(Value.slice (some ⟨blk,off,none⟩) N cap=Value.slice (some ⟨blk,off,none⟩) (cpt eq Z N).length cap)∧∃Q:List α,(cpt eq Z N++Q).length=N∧SWK enc k w0 blk off (cpt eq Z N++Q).toArray w'):=fun w' h s=>by
  rw [h,List.take_of_length_le (by omega)]
  exact ⟨by rw [hN],[],by rw [List.append_nil];exact hN.symm,by rw [List.append_nil];exact s⟩
 have TK:Aside (∀j,j < N→eq Z[j]! Z[j - 1]! = false→cpt eq Z j=Z.take j→cpt eq Z (j+1)=Z.take (j+1)):=fun j hj hq h=>by
  rw [cpt_ne hq,h,List.take_succ_eq_append_getElem (by omega),get_l (by omega)]
 have T1:Aside (1≤N→cpt eq Z 1=Z.take 1):=fun h=>by
  cases Z with
  | nil=>simp at hN;omega
  | cons x Z=>rfl
 have CS:Aside (∀j,1≤j→j < N→eq Z[j]! Z[j - 1]! = true→cpt eq Z j=Z.take j→CI eq Z (j+1) j Z.toArray):=fun j h1 hj hq h=>by
  unfold CI
  rw [cpt_eq (by omega) hq,h]
  exact ⟨by rw [List.length_take];omega,by omega,by rw [List.take_append_drop]⟩
 have GZ:Aside (∀j,j < N→Z.toArray[j]! = Z[j]!):=fun j hj=>by rw [getElem!_pos _ _ (by simp;omega),get_l (by omega)];simp
 clear hcmp S hN hzr
 by_cases hs:N < 2
 ·have hsz2:(N:Int) < 2:=by omega
  have F:Aside _:=FIN0.out w (by
   have hz:=HZ.out
   rcases Nat.lt_or_ge N 1 with h|h
   ·obtain rfl:N=0:=by omega
    rfl
   ·obtain rfl:N=1:=by omega
    exact T1.out (by omega)) S0.out
  clear FIN0 TK CS GZ S0 HC T1 HZ
  go_enter L_.fcf,Tryz.ntmps153
  go_wp2
  go_ret
  exact ⟨congrArg Ending.returned F.out.1,by have q:=F.out.2;simpa only [List.length_append] using q⟩
 ·have hsz2:¬((N:Int) < 2):=by omega
  have I0:Aside (cpt eq Z 1=Z.take 1):=T1.out (by omega)
  clear T1
  go_enter L_.fcf,Tryz.ntmps153
  go_wp2
  go_loopg [5] N (fun kx s5 wr=>∃j:Nat,s5=.int .i64 j∧1≤j∧j≤N∧N - j≤kx∧Aside (cpt eq Z j=Z.take j)∧Aside (SWK enc k w0 blk off Z.toArray wr))
  case atStart=>exact ⟨1,rfl,Nat.le_refl _,by omega,by omega,I0,S0⟩
  case round=>
   clear S0 I0
   obtain ⟨j,rfl,j1,jN,hkx,I1,S1⟩:=hrel
   by_cases hlt:j < N
   ·have hltz:(j:Int) < (N:Int):=by omega
    obtain ⟨jp,rfl⟩:∃jp,j=jp+1:=⟨j - 1,by omega⟩
    have ejc:((jp+1:Nat):Int)=(jp:Int)+1:=by omega
    have hltz':(jp:Int)+1 < (N:Int):=by omega
    have ejs:(jp:Int)+1 - 1=(jp:Int):=by omega
    have ea1:((jp:Int)+1).toNat=jp+1:=by omega
    have pa1:(0:Int)≤(jp:Int)+1:=by omega
    have ra1:IntKind.i64.wrap ((jp:Int)+1)=(jp:Int)+1:=by rw [IntKind.wrap_i64];omega
    have ec1:((jp:Int)).toNat=jp:=by omega
    have pc1:(0:Int)≤(jp:Int):=by omega
    have rc1:IntKind.i64.wrap ((jp:Int))=(jp:Int):=by rw [IntKind.wrap_i64];omega
    have bc1:(jp:Int) < (N:Int):=by omega
    obtain ⟨x1,hx1⟩:∃x,x=Z[jp+1]! :=⟨_,rfl⟩
    obtain ⟨y1,hy1⟩:∃x,x=Z[jp]! :=⟨_,rfl⟩
    have l1a:=S1.out.ld R (by rw [hds,h0]) P (jp+1) (by rw [hds];omega)
    have l1b:=S1.out.ld R (by rw [hds,h0]) P jp (by rw [hds];omega)
    rw [GZ.out _ (by omega),←hx1] at l1a
    rw [GZ.out _ (by omega),←hy1] at l1b
    have hc1:=swk_eqc S1.out HC.out (by rw [hds,h0]) x1 y1
    have X1:Aside (x1=Z[jp+1]! ∧y1=Z[jp+1 - 1]!):=⟨hx1,hy1⟩
    clear hx1 hy1
    cases hq:eq x1 y1 with
    | true=>
     rw [hq] at hc1
     have C1:Aside (CI eq Z (jp+1+1) (jp+1) Z.toArray):=CS.out (jp+1) j1 hlt (by rw [←X1.out.1,←X1.out.2];exact hq) I1.out
     go_wp2_with fail
     go_quiet_grown (first|(go_at_fn g;refine Calls.grown_of (hc1 _ _)))
     have S2:Aside (SWK enc k w0 blk off Z.toArray (grow (wr.drewN nq) osq)):=S1.out.grown nq osq
     clear l1a l1b hc1 S1 X1 I1 hq
     generalize grow (wr.drewN nq) osq=w2 at S2 ⊢
     clear nq osq
     have hcj:¬(cap=jp+1):=by omega
     have hjle:jp+1≤N:=by omega
     obtain ⟨o2,ho2⟩:∃o2,o2=off+(jp+1)*k:=⟨_,rfl⟩
     have ho2':=ho2.symm
     obtain ⟨M,hM⟩:∃M,M=N - (jp+1):=⟨_,rfl⟩
     have hM':=hM.symm
     have hMz:((N - (jp+1):Nat):Int)=(M:Int):=by omega
     have HO2:Aside (o2=off+(jp+1)*k):=ho2
     have HM:Aside (M+(jp+1)=N):=by show M+(jp+1)=N;omega
     clear ho2 hM
     have hMN:M≤N:=by have:=HM.out;omega
     go_wp2
     clear ho2' hM' hMz
     go_loopg [5,7] N (fun kx s5 s7 wr=>∃(kk q:Nat) (dk:Array α),s5=.int .i64 kk∧s7=.int .i64 ((q:Int)+1)∧q+1≤M∧kk < jp+1+(q+1)∧M - (q+1)≤kx∧Aside (CI eq Z (jp+1+(q+1)) kk dk)∧Aside (SWK enc k w0 blk off dk wr))
     case atStart=>exact ⟨jp+1,0,Z.toArray,by first|rfl|(congr 1;omega),by first|rfl|(congr 1;omega),by have:=HM.out;omega,by omega,by have:=HM.out;omega,C1,S2⟩
     case round=>
      clear S2 C1
      obtain ⟨kk,q,dk,rfl,rfl,hqM,hkk,hkx2,C1,S1⟩:=hrel
      have hds2:dk.size=N:=by rw [C1.out.size (by have:=HM.out;have:=HZ.out;omega)];exact HZ.out
      have eqc:((q:Int)+1 - 1)=(q:Int):=by omega
      by_cases hlt2:q+1 < M
      ·have hlt2z:(q:Int)+1 < (M:Int):=by omega
       have hqz:(q:Int) < (M:Int):=by omega
       have ea2:((q:Int)+1).toNat=q+1:=by omega
       have pa2:(0:Int)≤(q:Int)+1:=by omega
       have ra2:IntKind.i64.wrap ((q:Int)+1)=(q:Int)+1:=by rw [IntKind.wrap_i64];omega
       have ec2:((q:Int)).toNat=q:=by omega
       have pc2:(0:Int)≤(q:Int):=by omega
       have rc2:IntKind.i64.wrap ((q:Int))=(q:Int):=by rw [IntKind.wrap_i64];omega
       obtain ⟨x2,hx2⟩:∃x,x=Z[jp+1+(q+1)]! :=⟨_,rfl⟩
       obtain ⟨y2,hy2⟩:∃x,x=Z[jp+1+q]! :=⟨_,rfl⟩
       have i1:dk[jp+1+(q+1)]! = x2:=by rw [hx2];exact C1.out.at_ (by omega) (by have:=HM.out;have:=HZ.out;omega)
       have i2:dk[jp+1+q]! = y2:=by rw [hy2];exact C1.out.at_ (by omega) (by have:=HM.out;have:=HZ.out;omega)
       have a1:o2+(q+1)*k=off+(jp+1+(q+1))*k:=by rw [HO2.out,Nat.add_mul (jp+1)];omega
       have a2:o2+q*k=off+(jp+1+q)*k:=by rw [HO2.out,Nat.add_mul (jp+1)];omega
       have l2a:=S1.out.ld R (by rw [hds2,h0]) P (jp+1+(q+1)) (by rw [hds2];have:=HM.out;omega)
       have l2b:=S1.out.ld R (by rw [hds2,h0]) P (jp+1+q) (by rw [hds2];have:=HM.out;omega)
       rw [i1,←a1] at l2a
       rw [i2,←a2] at l2b
       have hc2:=swk_eqc S1.out HC.out (by rw [hds2,h0]) x2 y2
       have X2:Aside (x2=Z[jp+1+(q+1)]! ∧y2=Z[jp+1+(q+1) - 1]! ∧dk[jp+1+(q+1)]! = x2):=⟨hx2,hy2,i1⟩
       have A1:Aside _:=a1
       clear hx2 hy2 i1 i2 a1 a2
       cases hq:eq x2 y2 with
       | true=>
        rw [hq] at hc2
        have C2:Aside (CI eq Z (jp+1+(q+1)+1) kk dk):=C1.out.skip (by rw [←X2.out.1,←X2.out.2.1];exact hq)
        go_wp2_with fail
        go_quiet_grown (first|(go_at_fn g;refine Calls.grown_of (hc2 _ _)))
        have S2:Aside (SWK enc k w0 blk off dk (grow (wr.drewN nq) osq)):=S1.out.grown nq osq
        clear l2a l2b hc2 S1 X2 C1 hq A1
        generalize grow (wr.drewN nq) osq=w3 at S2 ⊢
        clear nq osq
        go_wp2
        go_roundg (M - (q+1+1))
        case measure=>omega
        case rel=>exact ⟨kk,q+1,dk,rfl,by first|rfl|(congr 1;omega),by omega,by omega,Nat.le_refl _,by have z:=C2.out;rw [Nat.add_assoc] at z;exact z,S2⟩
       | false=>
        rw [hq] at hc2
        have hkN:kk < N:=by have:=HM.out;omega
        have C2:Aside (CI eq Z (jp+1+(q+1)+1) (kk+1) (dk.setIfInBounds kk x2)):=by have z:=C1.out.keep (by have:=HM.out;have:=HZ.out;omega) (by rw [←X2.out.1,←X2.out.2.1];exact hq);rw [←X2.out.1] at z;exact z
        go_wp2_with fail
        go_quiet_grown (first|(go_at_fn g;refine Calls.grown_of (hc2 _ _)))
        have S2:Aside (SWK enc k w0 blk off dk (grow (wr.drewN nq) osq)):=S1.out.grown nq osq
        clear l2a l2b hc2 S1 C1 hq
        generalize grow (wr.drewN nq) osq=w3 at S2 ⊢
        clear nq osq
        have l3:=S2.out.load R (by rw [hds2,h0]) P (jp+1+(q+1)) (by rw [hds2];have:=HM.out;omega)
        rw [X2.out.2.2,←A1.out] at l3
        have s3:Sem.run P (storeCells ⟨blk,off+kk*k,none⟩ (enc x2) 0) w3=.ok () (w3.setCells blk (off+kk*k) (enc x2)):=stores_of_holds P (S2.out.holds R.hblk R.hH (by rw [hds2,h0])) (kk*k) _ (by rw [R.hk,size_flatK];exact rowK_bnd dk k kk (by rw [hds2];exact hkN)) (R.h1 _)
        have S3:Aside (SWK enc k w0 blk off (dk.setIfInBounds kk x2) (w3.setCells blk (off+kk*k) (enc x2))):=swk_one S2.out R kk x2 (by rw [hds2];exact hkN)
        have n3:(enc x2).length=k:=R.hk _
        have kz:(kk:Int) < (N:Int):=by omega
        have kz0:(0:Int)≤(kk:Int):=by omega
        have kz1:((kk:Int)).toNat=kk:=by omega
        clear X2 A1 S2
        generalize enc x2=cX at l3 s3 S3 n3
        go_wp2
        go_roundg (M - (q+1+1))
        case measure=>omega
        case rel=>exact ⟨kk+1,q+1,dk.setIfInBounds kk x2,by go_num,by first|rfl|(congr 1;omega),by omega,by omega,Nat.le_refl _,by have z:=C2.out;rw [Nat.add_assoc] at z;exact z,S3⟩
      ·obtain rfl:M=q+1:=by omega
       have hlt2z:¬((q:Int)+1 < (q:Int)+1):=by omega
       have hjN:jp+1+(q+1)=N:=by have:=HM.out;omega
       have hkN:kk < N:=by omega
       have C2:Aside (CI eq Z N kk dk):=by have z:=C1.out;rw [hjN] at z;exact z
       have hH:=S1.out.holds R.hblk R.hH (by rw [hds2,h0])
       have bd:kk*k+(N - kk)*k=N*k:=by rw [←Nat.add_mul];congr 1;omega
       have hcl:∀ty,(Builtin.clear_ #[23] ty #[.slice (some ⟨blk,off+kk*k,none⟩) (N - kk) (cap - kk)]).run P wr=.ok (.tuple #[]) (wr.setCells blk (off+kk*k) (List.replicate (N - kk) (enc zr)).flatten):=fun ty=>
        run_clear_k wr _ _ ty _ (enc zr) t23 vE HZR.out (by rw [R.hk];exact hk0) (R.h1 _) blk (off+kk*k) _ _ (by omega) (fun t ht=>by rw [R.hk] at ht;rw [Nat.add_assoc,(hH (kk*k+t) (by rw [size_flatK,hds2];omega)).1];rfl) (fun t ht=>by rw [R.hk] at ht;rw [Nat.add_assoc];exact (hH (kk*k+t) (by rw [size_flatK,hds2];omega)).2)
       have F:Aside ((cpt eq Z N).length=kk∧∃Q:List α,(cpt eq Z N).length+Q.length=N∧SWK enc k w0 blk off (cpt eq Z N++Q).toArray (wr.setCells blk (off+kk*k) (List.replicate (N - kk) (enc zr)).flatten)):=by
        obtain ⟨c1,c2,c3⟩:=C2.out
        have s:=S1.out
        rw [c3] at s
        have z:=swk_fill R zr (cpt eq Z N) (Z.drop kk) wr s
        rw [List.length_drop,HZ.out,c1] at z
        exact ⟨c1,List.replicate (N - kk) zr,by rw [c1,List.length_replicate];omega,z⟩
       generalize wr.setCells blk (off+kk*k) (List.replicate (N - kk) (enc zr)).flatten=w4 at hcl F
       have kz:(kk:Int)≤(N:Int):=by omega
       have kz0:(0:Int)≤(kk:Int):=by omega
       have kz1:((kk:Int)).toNat=kk:=by omega
       have kz2:kk≤N:=by omega
       have kz3:kk≤cap:=by omega
       have hcj2:¬(cap=kk):=by omega
       clear hH bd C2 C1 S1 HM HO2
       go_wp2
       go_ret
       exact ⟨by rw [F.out.1];rfl,by have q:=F.out.2;simpa only [List.length_append] using q⟩
    | false=>
     rw [hq] at hc1
     have I2:Aside (cpt eq Z (jp+1+1)=Z.take (jp+1+1)):=TK.out (jp+1) hlt (by rw [←X1.out.1,←X1.out.2];exact hq) I1.out
     go_wp2_with fail
     go_quiet_grown (first|(go_at_fn g;refine Calls.grown_of (hc1 _ _)))
     have S2:Aside (SWK enc k w0 blk off Z.toArray (grow (wr.drewN nq) osq)):=S1.out.grown nq osq
     clear l1a l1b hc1 S1 X1 I1 hq
     generalize grow (wr.drewN nq) osq=w2 at S2 ⊢
     clear nq osq
     go_wp2
     go_roundg (N - (jp+1+1))
     case measure=>omega
     case rel=>exact ⟨jp+1+1,by go_num,by omega,by omega,Nat.le_refl _,I2,S2⟩
   ·obtain rfl:j=N:=by omega
    have hltz:¬((j:Int) < (j:Int)):=by omega
    have F:Aside _:=FIN0.out wr I1.out S1.out
    clear FIN0 TK CS GZ S1 I1 HC
    go_wp2
    go_ret
    exact ⟨congrArg Ending.returned F.out.1,by have q:=F.out.2;simpa only [List.length_append] using q⟩
end Go.Proofs.YtboinnjncaehkaaGreatDoor
namespace Go.Proofs.YtboinnjncaehkaaGreatDoor
open Go.RowKit Go.Sort
theorem own_cut {T:Nat→Prop} {w W:World} {base:Nat} {e:TypeId} {gb cap n:Nat} {l:List Hr} {d C Q:List HrV} (h:Grow rdHr 8 T w base e (.slice (some ⟨gb,0,none⟩) n cap) l) (hd:d.map (·.x)=l) (R:RowK HrV.cs 8 w gb 0 d.toArray) (hr:∀r ∈ d,rdHr w (fun b=>T b∧b < w.heap.size∧gb≠b) r.x r.cs)
  (hZ:(C++Q).length=d.length) (hm:∀r ∈ C,r ∈ d) (S:SWK HrV.cs 8 w gb 0 (C++Q).toArray W):Grow rdHr 8 T W base e (.slice (some ⟨gb,0,none⟩) C.length cap) (C.map (·.x)):=by
 obtain ⟨css,hl,ho,hE⟩:=h
 rcases ho.2 with ⟨h1,_⟩|⟨gb',cap',cur,e1,hb,hg,hn,hmx,hs,ht⟩
 ·cases h1
 ·simp only [Value.slice.injEq,Option.some.injEq,Addr.mk.injEq,and_true] at e1
  obtain ⟨rfl,rfl,rfl⟩:=e1
  have hdl:d.length=l.length:=by rw [←hd,List.length_map]
  rw [List.length_append] at hZ
  obtain ⟨cur',g1,g2⟩:=swk_heap S hg
  have hH:=S.holds R.hblk R.hH (by simpa using hZ)
  refine ⟨C.map (·.cs),by rw [List.length_map,List.length_map],⟨?_,.inr ⟨gb,cap,cur',by rw [List.length_map],hb,g1,by rw [List.length_map];omega,hmx,by rw [g2,hs],?_⟩⟩,fun k hk=>?_⟩
  ·rw [flatten_len 8 (fun cs hc=>by obtain ⟨r,_,rfl⟩:=List.mem_map.1 hc;rfl),List.length_map,List.length_map]
  ·refine List.ext_getElem? fun t=>?_
   rw [List.getElem?_take]
   have hcs:cur'.size=cap*8:=by rw [g2,hs]
   by_cases htl:t < (C.map (·.x)).length*8
   ·rw [if_pos htl]
    rw [List.length_map] at htl
    have q:=(hH t (by rw [size_flatK,List.size_toArray,List.length_append];omega)).1
    rw [cell_of_row W gb (0+t) cur' e (0,0) g1,Nat.zero_add] at q
    have f1:=flat_get (d:=C++Q) (t:=t) (by rw [List.length_append];omega)
    rw [List.map_append,List.flatten_append,List.getElem?_append_left (by rw [flatten_len 8 (fun cs hc=>by obtain ⟨r,_,rfl⟩:=List.mem_map.1 hc;rfl),List.length_map];exact htl)] at f1
    rw [f1]
    simpa using q
   ·rw [if_neg htl,List.getElem?_eq_none]
    rw [flatten_len 8 (fun cs hc=>by obtain ⟨r,_,rfl⟩:=List.mem_map.1 hc;rfl),List.length_map]
    rw [List.length_map] at htl
    omega
  ·rw [List.length_map] at hk
   refine ⟨C[k].cs,by simp [hk],?_⟩
   rw [List.getElem_map]
   refine rdHr_good.both (hr _ (hm _ (List.getElem_mem hk))) (fun b hb=>swk_other S b (Ne.symm hb.2.2) hb.2.1) (fun b hb=>⟨hb.1,Nat.lt_of_lt_of_le hb.2.1 S.le,fun hh=>?_⟩)
   simp only [Value.ownBlock,Option.some.injEq] at hh
   exact hb.2.2 hh
def eqN (r s:HrV):Bool:=decide (r.x.e.n=s.x.e.n)
theorem cpt_in {eq:HrV→HrV→Bool} {Z:List HrV}:∀{j:Nat},j≤Z.length→∀c ∈ cpt eq Z j,c ∈ Z.take j
 | 0,_,c,h=>by cases h
 | j+1,hj,c,h=>by
  rw [List.take_succ_eq_append_getElem (by omega)]
  rcases List.mem_append.1 h with h|h
  ·exact List.mem_append.2 (.inl (cpt_in (by omega) c h))
  ·split at h
   ·cases h
   ·rw [List.mem_singleton.1 h,get_l (by omega)]
    exact List.mem_append.2 (.inr (List.mem_singleton.2 rfl))
theorem fd_app {a b:List Hr} {nm:ByteArray}:fdH (a++b) nm=(fdH a nm).or (fdH b nm):=by unfold fdH;exact List.find?_append
theorem cpt_ok {Z:List HrV} (hs:SrtN (Z.map (·.x))):∀{j:Nat},j≤Z.length→Ris ((cpt eqN Z j).map fun r=>r.x.e.n)∧∀nm,fdH ((cpt eqN Z j).map (·.x)) nm=fdH ((Z.take j).map (·.x)) nm
 | 0,_=>⟨List.Pairwise.nil,fun nm=>rfl⟩
 | j+1,hj=>by
  have hs':∀i t (hi:i < Z.length) (ht:t < Z.length),i < t→Op.bytesLess Z[t].x.e.n.toList Z[i].x.e.n.toList=false:=fun i t hi ht hit=>by
   have:=List.pairwise_iff_getElem.1 hs i t (by simpa using hi) (by simpa using ht) hit
   simpa using this
  obtain ⟨h1,h2⟩:=cpt_ok hs (j:=j) (by omega)
  have hjl:j < Z.length:=by omega
  rw [List.take_succ_eq_append_getElem hjl,List.map_append]
  cases hq:(decide (0 < j)&&eqN Z[j]! Z[j - 1]!) with
  | true=>
   rw [Bool.and_eq_true,decide_eq_true_iff] at hq
   rw [cpt_eq hq.1 hq.2]
   refine ⟨h1,fun nm=>?_⟩
   rw [h2,fd_app]
   by_cases hn:Z[j].x.e.n=nm
   ·have q:=hq.2
    unfold eqN at q
    rw [get_l hjl,get_l (show j - 1 < Z.length by omega)] at q
    have q:=of_decide_eq_true q
    have hsome:fdH ((Z.take j).map (·.x)) nm≠none:=fun e=>by
     refine fd_none.1 e (Z[j - 1].x) (List.mem_map.2 ⟨Z[j - 1],?_,rfl⟩) (by rw [←q];exact hn)
     exact List.mem_iff_getElem.2 ⟨j - 1,by simp;omega,by simp⟩
    cases hf:fdH ((Z.take j).map (·.x)) nm with
    | none=>exact absurd hf hsome
    | some y=>rfl
   ·have:fdH (List.map (·.x) [Z[j]]) nm=none:=fd_none.2 fun x hx=>by rw [List.map_singleton,List.mem_singleton] at hx;rw [hx];exact hn
    rw [this,Option.or_none]
  | false=>
   have e:cpt eqN Z (j+1)=cpt eqN Z j++[Z[j]]:=by
    show cpt eqN Z j++_=_
    rw [hq,if_neg (by simp),get_l hjl]
   rw [e,List.map_append,List.map_append]
   refine ⟨?_,fun nm=>by rw [fd_app,fd_app,h2]⟩
   refine List.pairwise_append.2 ⟨h1,List.pairwise_singleton _ _,fun a ha b hb=>?_⟩
   rw [List.map_singleton,List.mem_singleton] at hb
   subst hb
   obtain ⟨c,hc,rfl⟩:=List.mem_map.1 ha
   have hc2:=cpt_in (by omega) c hc
   obtain ⟨i,hi,rfl⟩:=List.mem_iff_getElem.1 hc2
   rw [List.length_take] at hi
   rw [List.getElem_take]
   have hi2:i < Z.length:=by omega
   rcases blt_tot Z[i].x.e.n Z[j].x.e.n with q|q|q
   ·exact q
   ·have:=hs' i j hi2 hjl (by omega)
    unfold blt at q
    rw [this] at q;cases q
   ·exfalso
    have hj0:0 < j:=by omega
    have hj1:j - 1 < Z.length:=by omega
    rw [decide_eq_true hj0,Bool.true_and] at hq
    unfold eqN at hq
    rw [get_l hjl,get_l hj1] at hq
    have hne:=of_decide_eq_false hq
    have hlt:blt Z[j - 1].x.e.n Z[j].x.e.n:=blt_of_not (hs' (j - 1) j hj1 hjl (by omega)) (fun e=>hne e.symm)
    rw [←q] at hlt
    by_cases hij:i=j - 1
    ·subst hij;exact blt_self _ hlt
    ·have:=hs' i (j - 1) hi2 hj1 (by omega)
     unfold blt at hlt
     rw [this] at hlt;cases hlt
theorem fd_filter {a b:List Hr} (h:∀nm,a.filter (fun x=>decide (x.e.n=nm))=b.filter (fun x=>decide (x.e.n=nm))) (nm:ByteArray):fdH a nm=fdH b nm:=by
 unfold fdH
 rw [←List.head?_filter,←List.head?_filter,h]
theorem eql_any (q:Addr) (blk size:Nat) (w:World) (hq:q.block < w.heap.size) (hne:q.block≠blk) (hc:w.cell? q=some (.func (.func 33) #[] #[])) :
  EqLays Tryz.prog 154 #[.pointer (some q)] HrV.cs 8 eqN blk 0 size w:=fun m os dk hs x y=>by
 have S:SWK HrV.cs 8 w blk 0 dk (sortWorldK HrV.cs 8 w blk 0 m dk os):=⟨m,os,rfl⟩
 refine (firsts2_any x y q _ (Nat.lt_of_lt_of_le hq S.le) ?_).mono fun e w' h=>h
 rw [World.cell?_of_block (swk_other S q.block hne hq)]
 exact hc
theorem cmf7_any {T:Nat→Prop} {base:Nat} {e:TypeId} (v:Value) (l:List Hr) (q:Addr) (w:World) (hG:Grow rdHr 8 T w base e v l) (hne:l≠[]) (hT:∀b,T b→b < base) (hq:q.block < base) (hbs:base≤w.heap.size) (hc:w.cell? q=some (.func (.func 33) #[] #[])) (hl:l.length≤200) (hs:SrtN l) :
  Calls Tryz.prog 153 #[v,.func (.func 154) #[] #[.pointer (some q)]] w fun e' w'=>(∃v' l',e'=.returned v'∧Grow rdHr 8 T w' base e v' l'∧l'.length≤l.length∧Ris (l'.map fun x=>x.e.n)∧∀nm,fdH l' nm=fdH l nm)∧Below base w w':=by
 have eg:∀args w,(callFunc 154 args).run Tryz.prog w=.ok (.enter 154 args) w:=fun _ _=>by kernel_rfl
 obtain ⟨gb,cap,d,rfl,g1,g2,g3,R,g4⟩:=own_row hG hne
 obtain ⟨A0,c0,e0,hcap,hcm⟩:=hG.own
 simp only [Value.slice.injEq,true_and] at e0
 obtain ⟨-,rfl⟩:=e0
 have hdl:d.length=l.length:=by rw [←g3,List.length_map]
 have hds:d.toArray.size=l.length:=by simp [hdl]
 refine (cmf_any sc_prog HrV.cs ⟨nil7,none,0,none,0,none,0,none,0⟩ rfl (by decide) eqN 154 #[.pointer (some q)] eg gb 0 cap l.length d.toArray w w (eql_any q gb d.toArray.size w (by omega) (by omega) hc) hds R (by omega) hcap hcm d hdl.symm (SWK.start R.hH)).mono ?_
 rintro e' w' ⟨rfl,Q,hQ,S⟩
 obtain ⟨k1,k2⟩:=cpt_ok (Z:=d) (by rw [g3];exact hs) (j:=d.length) (Nat.le_refl _)
 rw [←hdl] at hQ S
 rw [←hdl]
 rw [List.take_length,g3] at k2
 refine ⟨⟨_,(cpt eqN d d.length).map (·.x),rfl,own_cut hG g3 R g4 hQ (fun r hr=>by have:=cpt_in (Nat.le_refl _) r hr;rwa [List.take_length] at this) S,by rw [List.length_map];exact cpt_len _ _ _,by rw [List.map_map];exact k1,k2⟩,swk_below S g1 g2⟩
theorem grow_low {α:Type} {E:Rd α} {sz:Nat} {T:Nat→Prop} {w:World} {base base':Nat} {e:TypeId} {v:Value} {l:List α} (h:Grow E sz T w base e v l) (hb:base'≤base):Grow E sz T w base' e v l:=by
 obtain ⟨css,hl,ho,hE⟩:=h
 refine ⟨css,hl,⟨ho.1,?_⟩,hE⟩
 rcases ho.2 with h|⟨g,cap,cur,e,hg,rest⟩
 ·exact .inl h
 ·exact .inr ⟨g,cap,cur,e,Nat.le_trans hb hg,rest⟩
set_option maxHeartbeats 2000000 in
theorem cmf7_nil (p:Option Addr) (cap:Nat) (fv:Value) (w:World):Calls Tryz.prog 153 #[.slice p 0 cap,fv] w fun e w'=>e=.returned (.slice p 0 cap)∧w'=w:=by
 go_enter Tryz.func153,Tryz.ntmps153
 go_wp2
 go_ret
 exact ⟨rfl,rfl⟩
def FsW (w:World) (l:List Hr) (e:Ending) (w':World):Prop:=(∃v' l',e=.returned v'∧Grow rdHr 8 (fun _=>True) w' w.heap.size 36 v' l'∧l'.length≤l.length∧Ris (l'.map fun x=>x.e.n)∧∀nm,fdH l' nm=fdH l nm)∧Below w.heap.size w w'
set_option maxHeartbeats 4000000 in
theorem firsts7_any (A:Option Addr) (n c:Nat) (l:List Hr) (w:World) (h:rdHrs w (lt_ w.heap.size) l [.slice A n c]) (hl:l.length≤200) :
  Calls Tryz.prog 94 #[.slice A n c,.func (.func 33) #[] #[]] w (FsW w l):=by
 have hmf:∀(fn:Fn) (first cap:Array Value) (w:World),(Instr.makeFunc fn first cap).run Tryz.prog w=.ok (.func fn first cap) w:=fun _ _ _ _=>rfl
 obtain ⟨V,hV⟩:∃V,V=w.alloc (.cells #[.func (.func 33) #[] #[]] 59):=⟨_,rfl⟩
 have B1:Below w.heap.size w V:=by rw [hV];exact (Below.refl w.heap.size w).alloc (Nat.le_refl _) _
 have hVs:V.heap.size=w.heap.size+1:=by rw [hV,World.size_alloc]
 have hcq:V.cell? ⟨w.heap.size,0,none⟩=some (.func (.func 33) #[] #[]):=by rw [hV];simp [go_sem]
 have h1:=rdHrs_good.up (rdHrs_good.below h B1) B1.size
 have C:=Lib.hid (cloneh_any A n c l V h1 hl)
 have HB:=Lib.hid B1
 have HV:=Lib.hid hV
 have HS:=Lib.hid hVs
 have HQ:=Lib.hid hcq
 have HL:=Lib.hid hl
 clear h B1 h1 hV hVs hcq hl
 go_enter Tryz.func94,Tryz.ntmps94
 go_wp2_with fail
 rw [←HV.out]
 refine C.out.mono ?_
 rintro e w2 ⟨⟨v2,rfl,hG2⟩,hb2⟩
 obtain ⟨A2,c2,rfl,hnc2,hcm2⟩:=hG2.own
 have G2:=Lib.hid hG2
 have B2:=Lib.hid (bel_in HB.out hb2)
 have Q2:=Lib.hid (keep6 hb2 HQ.out)
 have S2:=Lib.hid hb2.size
 clear hG2 hb2 C
 by_cases hne:l=[]
 ·subst hne
  have F:=Lib.hid (show FsW w [] (.returned (.slice A2 0 c2)) w2 from ⟨⟨_,[],rfl,(grow_low (G2.out.retag rdHr_good (T':=fun _=>True) fun _ _ _=>trivial) (by rw [HS.out];omega)),Nat.le_refl _,List.Pairwise.nil,fun _=>rfl⟩,B2.out⟩)
  clear hnc2 hcm2
  go_wp2_with fail
  refine (sst7_nil A2 c2 _ w2).mono ?_
  rintro e w3 ⟨rfl,rfl⟩
  go_wp2_with fail
  refine (cmf7_nil A2 c2 _ w3).mono ?_
  rintro e w4 ⟨rfl,rfl⟩
  go_wp2
  go_ret
  exact F.out
 ·have K2:=Lib.hid (sst7_any (.slice A2 l.length c2) l ⟨w.heap.size,0,none⟩ w2 G2.out hne (fun b hb=>hb) (by show w.heap.size < V.heap.size;rw [HS.out];omega) S2.out Q2.out HL.out)
  have NE:=Lib.hid hne
  clear hnc2 hcm2 hne
  go_wp2_with fail
  refine K2.out.mono ?_
  rintro e w3 ⟨rfl,⟨l3,hG3,hl3,hs3,hf3⟩,hb3⟩
  have hq3:=(hb3.cell (p:=⟨w.heap.size,0,none⟩) (by show w.heap.size < V.heap.size;rw [HS.out];omega)).trans Q2.out
  have K3:=Lib.hid (cmf7_any (.slice A2 l.length c2) l3 ⟨w.heap.size,0,none⟩ w3 hG3 (fun e=>NE.out (List.eq_nil_of_length_eq_zero (by rw [←hl3,e];rfl))) (fun b hb=>hb) (by show w.heap.size < V.heap.size;rw [HS.out];omega) (Nat.le_trans S2.out hb3.size) hq3 (by rw [hl3];exact HL.out) hs3)
  have X3:=Lib.hid (And.intro hl3 (fun nm=>fd_filter hf3 nm))
  have B3:=Lib.hid (B2.out.trans (hb3.mono (by rw [HS.out];omega)))
  clear hG3 hl3 hs3 hf3 hb3 hq3 K2
  go_wp2_with fail
  refine K3.out.mono ?_
  rintro e w4 ⟨⟨v4,l4,rfl,hG4,hl4,hr4,hf4⟩,hb4⟩
  have F:=Lib.hid (show FsW w l (.returned v4) w4 from ⟨⟨v4,l4,rfl,grow_low (hG4.retag rdHr_good (T':=fun _=>True) fun _ _ _=>trivial) (by rw [HS.out];omega),by rw [←X3.out.1];exact hl4,hr4,fun nm=>(hf4 nm).trans (X3.out.2 nm)⟩,B3.out.trans (hb4.mono (by rw [HS.out];omega))⟩)
  clear hG4 hl4 hr4 hf4 hb4 K3
  go_wp2
  go_ret
  exact F.out
end Go.Proofs.YtboinnjncaehkaaGreatDoor
namespace Go.Proofs.YtboinnjncaehkaaGreatDoor
open Go.RowKit
set_option maxHeartbeats 4000000 in
theorem seqA_any (A A':Option Addr) (n c n' c':Nat) (l m:List Atm) (w:World) (h:rdAtms w (lt_ w.heap.size) l [.slice A n c]) (h':rdAtms w (lt_ w.heap.size) m [.slice A' n' c']) :
  Calls Tryz.prog 157 #[.slice A n c,.slice A' n' c'] w fun e w'=>e=.returned (.bool (decide (l=m)))∧Dr w w':=by
 obtain ⟨rfl,hnc,hcm,_⟩:=rdAtms_at h
 obtain ⟨rfl,hnc',hcm',_⟩:=rdAtms_at h'
 have hcm1:c≤9223372036854775807:=hcm
 have hcm2:c'≤9223372036854775807:=hcm'
 by_cases hlen:l.length=m.length
 ·have hd:((l.length:Int) != (m.length:Int))=false:=by rw [hlen];simp
  have HL:=Lib.hid hlen
  clear hlen
  go_enter Tryz.func157,Tryz.ntmps157
  go_wp2
  go_loopw [13] (fun i wr=>∃k:Nat,k≤l.length∧i=.int .i64 k∧l.take k=m.take k∧Dr w wr) (fun i _=>l.length - (intOf i).toNat)
  case atStart=>exact ⟨0,Nat.zero_le _,rfl,rfl,Dr.refl _⟩
  case round=>
   obtain ⟨k,hk,rfl,htk,hbel⟩:=hrel
   by_cases hlt:k < l.length
   ·obtain ⟨_,_,_,ha⟩:=rdAtms_at (rdAtms_good.below h (hbel.below _))
    obtain ⟨_,_,_,hb⟩:=rdAtms_at (rdAtms_good.below h' (hbel.below _))
    have hltm:k < m.length:=by rw [←HL.out];exact hlt
    obtain ⟨ad,rfl,had,h0,h1,h2⟩:=ha k hlt
    obtain ⟨ad',rfl,had',g0,g1,g2⟩:=hb k hltm
    have T:=Lib.hid (same_take (l:=l) (m:=m) HL.out hlt hltm htk)
    have Z:=Lib.hid (show l[k]≠m[k]→l≠m from fun hn e=>hn (by subst e;rfl))
    have HB:=Lib.hid hbel
    have hki:(k:Int) < (m.length:Int):=by omega
    clear htk ha hb hbel h h'
    have hq:=neq_atm l[k] m[k]
    generalize l[k]=x at *
    generalize m[k]=y at *
    by_cases he:x=y
    ·rw [decide_eq_true he] at hq
     have HE:=Lib.hid he
     clear he
     go_wp2_with fail
     go_quiet (fail)
     go_wp2
     go_roundw
     case rel=>exact ⟨k+1,by omega,by go_num,T.out HE.out,HB.out.more _⟩
     case measure=>simp [intOf];omega
    ·rw [decide_eq_false he] at hq
     have HE:=Lib.hid he
     clear he
     go_wp2_with fail
     go_quiet (fail)
     go_wp2
     go_ret
     exact ⟨by rw [decide_eq_false (Z.out HE.out)];try rfl,HB.out.more _⟩
   ·obtain rfl:k=l.length:=by omega
    have X:=Lib.hid (show l=m by rw [List.take_length] at htk;rw [htk,HL.out,List.take_length])
    clear htk h h'
    go_wp2
    go_ret
    exact ⟨by rw [decide_eq_true X.out];try rfl,hbel⟩
 ·have hd:((l.length:Int) != (m.length:Int))=true:=by rw [bne_iff_ne];omega
  have X:=Lib.hid (show l≠m by rintro rfl;exact hlen rfl)
  clear hlen
  go_enter Tryz.func157,Tryz.ntmps157
  go_wp2
  go_ret
  exact ⟨by rw [decide_eq_false X.out];try rfl,Dr.refl _⟩
set_option maxHeartbeats 4000000 in
theorem seqG_any (A A':Option Addr) (n c n' c':Nat) (l m:List Atm) (w:World) (h:rdAtms w (lt_ w.heap.size) l [.slice A n c]) (h':rdAtms w (lt_ w.heap.size) m [.slice A' n' c']) :
  Calls Tryz.prog 156 #[.slice A n c,.slice A' n' c'] w fun e w'=>e=.returned (.bool (decide (l=m)))∧Dr w w':=by
 obtain ⟨rfl,hnc,hcm,_⟩:=rdAtms_at h
 obtain ⟨rfl,hnc',hcm',_⟩:=rdAtms_at h'
 have hcm1:c≤9223372036854775807:=hcm
 have hcm2:c'≤9223372036854775807:=hcm'
 by_cases hlen:l.length=m.length
 ·have hd:((l.length:Int) != (m.length:Int))=false:=by rw [hlen];simp
  have HL:=Lib.hid hlen
  clear hlen
  go_enter Tryz.func156,Tryz.ntmps156
  go_wp2
  go_loopw [13] (fun i wr=>∃k:Nat,k≤l.length∧i=.int .i64 k∧l.take k=m.take k∧Dr w wr) (fun i _=>l.length - (intOf i).toNat)
  case atStart=>exact ⟨0,Nat.zero_le _,rfl,rfl,Dr.refl _⟩
  case round=>
   obtain ⟨k,hk,rfl,htk,hbel⟩:=hrel
   by_cases hlt:k < l.length
   ·obtain ⟨_,_,_,ha⟩:=rdAtms_at (rdAtms_good.below h (hbel.below _))
    obtain ⟨_,_,_,hb⟩:=rdAtms_at (rdAtms_good.below h' (hbel.below _))
    have hltm:k < m.length:=by rw [←HL.out];exact hlt
    obtain ⟨ad,rfl,had,h0,h1,h2⟩:=ha k hlt
    obtain ⟨ad',rfl,had',g0,g1,g2⟩:=hb k hltm
    have T:=Lib.hid (same_take (l:=l) (m:=m) HL.out hlt hltm htk)
    have Z:=Lib.hid (show l[k]≠m[k]→l≠m from fun hn e=>hn (by subst e;rfl))
    have HB:=Lib.hid hbel
    have hki:(k:Int) < (m.length:Int):=by omega
    clear htk ha hb hbel h h'
    have hq:=neq_atm l[k] m[k]
    generalize l[k]=x at *
    generalize m[k]=y at *
    by_cases he:x=y
    ·rw [decide_eq_true he] at hq
     have HE:=Lib.hid he
     clear he
     go_wp2_with fail
     go_quiet (fail)
     go_wp2
     go_roundw
     case rel=>exact ⟨k+1,by omega,by go_num,T.out HE.out,HB.out.more _⟩
     case measure=>simp [intOf];omega
    ·rw [decide_eq_false he] at hq
     have HE:=Lib.hid he
     clear he
     go_wp2_with fail
     go_quiet (fail)
     go_wp2
     go_ret
     exact ⟨by rw [decide_eq_false (Z.out HE.out)];try rfl,HB.out.more _⟩
   ·obtain rfl:k=l.length:=by omega
    have X:=Lib.hid (show l=m by rw [List.take_length] at htk;rw [htk,HL.out,List.take_length])
    clear htk h h'
    go_wp2
    go_ret
    exact ⟨by rw [decide_eq_true X.out];try rfl,hbel⟩
 ·have hd:((l.length:Int) != (m.length:Int))=true:=by rw [bne_iff_ne];omega
  have X:=Lib.hid (show l≠m by rintro rfl;exact hlen rfl)
  clear hlen
  go_enter Tryz.func156,Tryz.ntmps156
  go_wp2
  go_ret
  exact ⟨by rw [decide_eq_false X.out];try rfl,Dr.refl _⟩
theorem Dr.tr {a b c:World} (h:Dr a b) (k:Dr b c):Dr a c:=by
 obtain ⟨q,rfl⟩:=h
 obtain ⟨r,rfl⟩:=k
 exact ⟨q+r,by rw [World.drewN_drewN]⟩
set_option maxHeartbeats 4000000 in
theorem eqfG_any (A A':Option Addr) (n c n' c':Nat) (l m:List (List Atm)) (w:World) (h:rdGrps w (lt_ w.heap.size) l [.slice A n c]) (h':rdGrps w (lt_ w.heap.size) m [.slice A' n' c']) :
  Calls Tryz.prog 155 #[.slice A n c,.slice A' n' c',.func (.func 156) #[] #[]] w fun e w'=>e=.returned (.bool (decide (l=m)))∧Dr w w':=by
 have hcf:∀(args:Array Value) (w:World),(callFunc 156 args).run Tryz.prog w=.ok (.enter 156 args) w:=fun _ _=>by kernel_rfl
 obtain ⟨rfl,hnc,hcm,_⟩:=rdGrps_at h
 obtain ⟨rfl,hnc',hcm',_⟩:=rdGrps_at h'
 have hcm1:c≤9223372036854775807:=hcm
 have hcm2:c'≤9223372036854775807:=hcm'
 by_cases hlen:l.length=m.length
 ·have hd:((l.length:Int) != (m.length:Int))=false:=by rw [hlen];simp
  have HL:=Lib.hid hlen
  clear hlen
  go_enter Tryz.func155,Tryz.ntmps155
  go_wp2
  go_loopw [17] (fun i wr=>∃k:Nat,k≤l.length∧i=.int .i64 k∧l.take k=m.take k∧Dr w wr) (fun i _=>l.length - (intOf i).toNat)
  case atStart=>exact ⟨0,Nat.zero_le _,rfl,rfl,Dr.refl _⟩
  case round=>
   obtain ⟨k,hk,rfl,htk,hbel⟩:=hrel
   by_cases hlt:k < l.length
   ·obtain ⟨_,_,_,ha⟩:=rdGrps_at (rdGrps_good.below h (hbel.below _))
    obtain ⟨_,_,_,hb⟩:=rdGrps_at (rdGrps_good.below h' (hbel.below _))
    have hltm:k < m.length:=by rw [←HL.out];exact hlt
    obtain ⟨ad,X,cx,rfl,had,h0,h1⟩:=ha k hlt
    obtain ⟨ad',Y,cy,rfl,had',g0,g1⟩:=hb k hltm
    have T:=Lib.hid (same_take (l:=l) (m:=m) HL.out hlt hltm htk)
    have Z:=Lib.hid (show l[k]≠m[k]→l≠m from fun hn e=>hn (by subst e;rfl))
    have HB:=Lib.hid hbel
    have hki:(k:Int) < (m.length:Int):=by omega
    have hsz:=hbel.size
    have K:=Lib.hid (seqG_any _ _ _ _ _ _ _ _ wr (rdAtms_good.up h1 (Nat.le_of_eq hsz.symm)) (rdAtms_good.up g1 (Nat.le_of_eq hsz.symm)))
    clear htk ha hb hbel h h' h1 g1 hsz
    generalize l[k]=x at *
    generalize m[k]=y at *
    by_cases he:x=y
    ·rw [decide_eq_true he] at K
     have HE:=Lib.hid he
     clear he
     go_wp2_with fail
     refine K.out.mono ?_
     rintro e w2 ⟨rfl,hd2⟩
     have HB:=Lib.hid (HB.out.tr hd2)
     clear hd2
     go_wp2
     go_roundw
     case rel=>exact ⟨k+1,by omega,by go_num,T.out HE.out,HB.out⟩
     case measure=>simp [intOf];omega
    ·rw [decide_eq_false he] at K
     have HE:=Lib.hid he
     clear he
     go_wp2_with fail
     refine K.out.mono ?_
     rintro e w2 ⟨rfl,hd2⟩
     have HB:=Lib.hid (HB.out.tr hd2)
     clear hd2
     go_wp2
     go_ret
     exact ⟨by rw [decide_eq_false (Z.out HE.out)];try rfl,HB.out⟩
   ·obtain rfl:k=l.length:=by omega
    have X:=Lib.hid (show l=m by rw [List.take_length] at htk;rw [htk,HL.out,List.take_length])
    clear htk h h'
    go_wp2
    go_ret
    exact ⟨by rw [decide_eq_true X.out];try rfl,hbel⟩
 ·have hd:((l.length:Int) != (m.length:Int))=true:=by rw [bne_iff_ne];omega
  have X:=Lib.hid (show l≠m by rintro rfl;exact hlen rfl)
  clear hlen
  go_enter Tryz.func155,Tryz.ntmps155
  go_wp2
  go_ret
  exact ⟨by rw [decide_eq_false X.out];try rfl,Dr.refl _⟩
end Go.Proofs.YtboinnjncaehkaaGreatDoor
