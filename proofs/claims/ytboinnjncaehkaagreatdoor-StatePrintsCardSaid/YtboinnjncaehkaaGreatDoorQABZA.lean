/- What the laws rest on: P7u, P7v0. -/
import Derived.Test.YtboinnjncaehkaaGreatDoorQAAZA
set_option maxRecDepth 100000
set_option linter.unusedVariables false
set_option linter.unusedSimpArgs false
namespace Go.Proofs.YtboinnjncaehkaaGreatDoor
open Go.RowKit Go.Sort Go.Lib
variable {P:Program} {α:Type} [Inhabited α] {k:Nat}
set_option maxHeartbeats 16000000 in
theorem sym_right (L:SS P k) (enc:α→List Value) (cf:α→α→Int) (hO:SWO (ltOf cf)) (g:Nat) (cb:Array Value) (eg:∀args w,(callFunc g args).run P w=.ok (.enter g args) w) (blk off cap a m b N:Nat) (d0:Array α) (w0 w:World) (hcmp:CmpLays P g cb enc k cf blk off d0.size w0) (y:α) (Pl Ll Q:List α) (ha:a=Pl.length) (hm:m=a+Ll.length) (hb:b=m+1) (hne:1 < Ll.length) (hR:Srt (ltOf cf) Ll)
  (hN:N=(Pl++(Ll++(y::Q))).length) (h0:d0.size=N) (R:RowK enc k w0 blk off d0) (S:SWK enc k w0 blk off (Pl++(Ll++(y::Q))).toArray w) (hsz:N < 4611686018427387904) :
  Calls P 221 #[.slice (some ⟨blk,off,none⟩) N cap,.int .i64 a,.int .i64 m,.int .i64 b,.func (.func g) #[] cb] w (Mg7 enc k w0 blk off (ltOf cf) Pl (Ll++[y]) Q):=by
 have hl:N=Pl.length+(Ll.length+(1+Q.length)):=by rw [hN];simp;omega
 have hbN:b≤N:=by omega
 have mixed:=L.mixed
 have t0:=L.t0;have a0:=L.a0;have z0:=L.z0;have v0:=L.v0
 have t3:=L.t3;have a3:=L.a3;have z3:=L.z3;have v3:=L.v3
 have t4:=L.t4;have a4:=L.a4;have z4:=L.z4;have v4:=L.v4
 have t23:=L.t23;have a23:=L.a23;have z23:=L.z23;have v23:=L.v23
 have t62:=L.t62;have a62:=L.a62;have z62:=L.z62;have v62:=L.v62
 have t97:=L.t97;have a97:=L.a97;have z97:=L.z97;have v97:=L.v97
 have aE:=L.aE;have zE:=L.zE
 have HC:Aside _:=hcmp
 obtain ⟨dk,hdk⟩:∃dk,dk=(Pl++(Ll++(y::Q))).toArray:=⟨_,rfl⟩
 rw [←hdk] at S
 have hds:dk.size=N:=by rw [hdk,hN];simp
 have S0:Aside (SWK enc k w0 blk off dk w):=S
 have FIN:Aside (∀i,a≤i→i≤m→(i=a∨ltOf cf dk[m]! dk[i - 1]! = false)→(i=m∨ltOf cf dk[m]! dk[i]! = true)→
   ∃D:Nat→Array α,D m=dk∧(∀q,i≤q→q < m→swp (D (q+1)) (q+1) q=D q)∧(∀q,(D q).size=N)∧∀w',SWK enc k w0 blk off (D i) w'→Mg7 enc k w0 blk off (ltOf cf) Pl (Ll++[y]) Q (.returned (.tuple #[])) w'):=by
  intro i i1 i2 q1 q2
  obtain ⟨s1,s2⟩:=one_right hO hdk ha hm i1 i2 q1 q2 hR
  refine ⟨fun q=>(Pl++(Ll.take (q - a)++y::(Ll.drop (q - a)++Q))).toArray,?_,fun q g1 g2=>?_,fun q=>by simp;omega,fun w' s=>⟨rfl,Ll.take (i - a)++y::Ll.drop (i - a),by simp;omega,s1,s2,?_⟩⟩
  ·simp only
   rw [hdk,List.take_of_length_le (by omega),List.drop_of_length_le (by omega)];simp
  ·have:=ret_one (P:=Pl) (L:=Ll) (Q:=Q) (y:=y) (t:=q - a) (i:=q) (by omega) (by omega)
   rw [show q - a+1=q+1 - a by omega] at this
   exact this
  ·simpa using s
 have hab1:a+1 < m:=by omega
 have hab2:m < b:=by omega
 have hab3:b≤m+1:=by omega
 have r1:((m:Int) - (a:Int)==1)=false:=by rw [beq_eq_false_iff_ne];omega
 have r1':¬((m:Int) - (a:Int)=1):=by omega
 have r2:((b:Int) - (m:Int))=1:=by omega
 clear S hcmp hdk hN hl ha hb hR hO hm hne
 go_enter L.fsy,Tryz.ntmps221
 go_wp2
 go_loopg [14,15] (m - a) (fun kx s10 s11 wr=>∃i j:Nat,s10=.int .i64 i∧s11=.int .i64 j∧a≤i∧i≤j∧j≤m∧j - i≤kx∧Aside (i=a∨ltOf cf dk[m]! dk[i - 1]! = false)∧Aside (j=m∨ltOf cf dk[m]! dk[j]! = true)∧Aside (SWK enc k w0 blk off dk wr))
 case atStart=>exact ⟨a,m,rfl,rfl,Nat.le_refl _,by omega,Nat.le_refl _,Nat.le_refl _,Or.inl rfl,Or.inl rfl,S0⟩
 case round=>
  clear S0 r1 r1' r2
  obtain ⟨i,j,rfl,rfl,hmi,hij,hjb,hkx,I1,I2,S1⟩:=hrel
  by_cases hlt:i < j
  ·have hltz:(i:Int) < (j:Int):=by omega
   obtain ⟨c,hc⟩:∃c:Nat,c=(i+j) / 2:=⟨_,rfl⟩
   have em:((i:Int)+(j:Int)) / 2=(c:Int):=by omega
   have c1:i≤c:=by omega
   have c2:c < j:=by omega
   have ew:IntKind.i64.wrap ((i:Int)+(j:Int))=(i:Int)+(j:Int):=by rw [IntKind.wrap_i64];omega
   have eu:IntKind.u64.wrap ((i:Int)+(j:Int))=(i:Int)+(j:Int):=by simp [IntKind.wrap,IntKind.bits,IntKind.signed];omega
   have ei:IntKind.i64.wrap (((i:Int)+(j:Int)) / 2)=((i:Int)+(j:Int)) / 2:=by rw [IntKind.wrap_i64];omega
   clear hc
   cases hL:ltOf cf dk[m]! dk[c]! with
   | true=>
    have ea1:((m:Int)).toNat=m:=by omega
    have pa1:(0:Int)≤(m:Int):=by omega
    have ba1:(m:Int) < (N:Int):=by omega
    have ra1:IntKind.i64.wrap ((m:Int))=(m:Int):=by rw [IntKind.wrap_i64];omega
    have ec1:((c:Int)).toNat=c:=by omega
    have pc1:(0:Int)≤(c:Int):=by omega
    have bc1:(c:Int) < (N:Int):=by omega
    have rc1:IntKind.i64.wrap ((c:Int))=(c:Int):=by rw [IntKind.wrap_i64];omega
    obtain ⟨x1,hx1⟩:∃x,x=dk[m]! :=⟨_,rfl⟩
    obtain ⟨y1,hy1⟩:∃x,x=dk[c]! :=⟨_,rfl⟩
    have l1a:=S1.out.ld R (by omega) P (m) (by omega)
    have l1b:=S1.out.ld R (by omega) P (c) (by omega)
    rw [←hx1] at l1a
    rw [←hy1] at l1b
    have hc1:=S1.out.cmp HC.out (by omega) x1 y1
    have hv1:cf x1 y1 < 0:=by rw [hx1,hy1];exact of_decide_eq_true hL
    have hd1:decide (cf x1 y1 < 0)=true:=decide_eq_true hv1
    have HL:Aside _:=hL
    clear hx1 hy1 hL
    go_wp2_with fail
    go_quiet_grown (first|(go_at_fn g;refine Calls.grown_of (hc1 _ _)))
    have S2:Aside (SWK enc k w0 blk off dk (grow (wr.drewN nq) osq)):=S1.out.grown nq osq
    clear l1a l1b hc1 S1
    generalize grow (wr.drewN nq) osq=w2 at S2 ⊢
    clear nq osq
    go_wp2
    go_roundg (c - i)
    case measure=>omega
    case rel=>exact ⟨i,c,rfl,rfl,hmi,c1,by omega,Nat.le_refl _,I1,Or.inr HL.out,S2⟩
   | false=>
    have ea1:((m:Int)).toNat=m:=by omega
    have pa1:(0:Int)≤(m:Int):=by omega
    have ba1:(m:Int) < (N:Int):=by omega
    have ra1:IntKind.i64.wrap ((m:Int))=(m:Int):=by rw [IntKind.wrap_i64];omega
    have ec1:((c:Int)).toNat=c:=by omega
    have pc1:(0:Int)≤(c:Int):=by omega
    have bc1:(c:Int) < (N:Int):=by omega
    have rc1:IntKind.i64.wrap ((c:Int))=(c:Int):=by rw [IntKind.wrap_i64];omega
    obtain ⟨x1,hx1⟩:∃x,x=dk[m]! :=⟨_,rfl⟩
    obtain ⟨y1,hy1⟩:∃x,x=dk[c]! :=⟨_,rfl⟩
    have l1a:=S1.out.ld R (by omega) P (m) (by omega)
    have l1b:=S1.out.ld R (by omega) P (c) (by omega)
    rw [←hx1] at l1a
    rw [←hy1] at l1b
    have hc1:=S1.out.cmp HC.out (by omega) x1 y1
    have hv1:¬(cf x1 y1 < 0):=by rw [hx1,hy1];exact of_decide_eq_false hL
    have hd1:decide (cf x1 y1 < 0)=false:=decide_eq_false hv1
    have HL:Aside _:=hL
    clear hx1 hy1 hL
    go_wp2_with fail
    go_quiet_grown (first|(go_at_fn g;refine Calls.grown_of (hc1 _ _)))
    have S2:Aside (SWK enc k w0 blk off dk (grow (wr.drewN nq) osq)):=S1.out.grown nq osq
    clear l1a l1b hc1 S1
    generalize grow (wr.drewN nq) osq=w2 at S2 ⊢
    clear nq osq
    go_wp2
    go_roundg (j - (c+1))
    case measure=>omega
    case rel=>exact ⟨c+1,j,by go_num,rfl,by omega,by omega,hjb,Nat.le_refl _,Or.inr HL.out,I2,S2⟩
  ·obtain rfl:j=i:=by omega
   have hltz:¬((j:Int) < (j:Int)):=by omega
   obtain ⟨D,D0,DS,DZ,DF⟩:=FIN.out j hmi hjb I1.out I2.out
   have DS:Aside _:=DS
   have DF:Aside _:=DF
   have S2:Aside (SWK enc k w0 blk off (D m) wr):=by rw [D0];exact S1
   clear FIN I1 I2 D0 S1
   go_wp2
   go_loopg [17] (m - j) (fun kx s17 wr=>∃q:Nat,s17=.int .i64 q∧j≤q∧q≤m∧q - j≤kx∧Aside (SWK enc k w0 blk off (D q) wr))
   case atStart=>exact ⟨m,rfl,hjb,Nat.le_refl _,Nat.le_refl _,S2⟩
   case round=>
    clear S2
    obtain ⟨q,rfl,q1,q2,hkx2,S1⟩:=hrel
    by_cases hq:j < q
    ·obtain ⟨q,rfl⟩:∃q',q=q'+1:=⟨q - 1,by omega⟩
     have hqz:(j:Int) < (q:Int)+1:=by omega
     have hqc:((q+1:Nat):Int)=(q:Int)+1:=by omega
     have hqs:(q:Int)+1 - 1=(q:Int):=by omega
     have hNX:Aside _:=DS.out q (by omega) (by omega)
     have hsz1:=DZ (q+1)
     generalize hdq:D (q+1)=dq at S1 hNX hsz1
     clear hdq
     have ea2:((q:Int)+1).toNat=q+1:=by omega
     have pa2:(0:Int)≤(q:Int)+1:=by omega
     have ba2:(q:Int)+1 < (N:Int):=by omega
     have ra2:IntKind.i64.wrap ((q:Int)+1)=(q:Int)+1:=by rw [IntKind.wrap_i64];omega
     have ec2:((q:Int)).toNat=q:=by omega
     have pc2:(0:Int)≤(q:Int):=by omega
     have bc2:(q:Int) < (N:Int):=by omega
     have rc2:IntKind.i64.wrap ((q:Int))=(q:Int):=by rw [IntKind.wrap_i64];omega
     have S2:Aside (SWK enc k w0 blk off (swp dq (q+1) (q)) ((wr.drew.setCells blk (off+(q+1)*k) (enc dq[q]!)).setCells blk (off+(q)*k) (enc dq[q+1]!))):=S1.out.swapped R (q+1) (q) (by omega) (by omega)
     have l2a:=S1.out.ld1 R (by omega) P (q+1) (by omega)
     have l2b:=S1.out.ld1 R (by omega) P (q) (by omega)
     have s2a:=S1.out.st1 R (by omega) P (q+1) (by omega) dq[q]!
     have s2b:=S1.out.st2 R (by omega) P (q+1) (q) (by omega) (by omega) dq[q]! dq[q+1]!
     have n2a:(enc dq[q+1]!).length=k:=R.hk _
     have n2b:(enc dq[q]!).length=k:=R.hk _
     generalize enc dq[q+1]! = cI2 at S2 l2a s2b n2a
     generalize enc dq[q]! = cJ2 at S2 l2b s2a s2b n2b
     clear S1
     go_wp2_with fail
     go_big_region_o
     clear l2a l2b s2a s2b
     generalize (wr.drew.setCells blk (off+(q+1)*k) cJ2).setCells blk (off+(q)*k) cI2=w2 at S2 ⊢
     go_wp2
     go_roundg (q - j)
     case measure=>omega
     case rel=>exact ⟨q,by go_num,by omega,by omega,Nat.le_refl _,by have z:=S2.out;rw [hNX.out] at z;exact z⟩
    ·obtain rfl:q=j:=by omega
     have hqz:¬((q:Int) < (q:Int)):=by omega
     go_wp2
     go_end0
     exact DF.out _ S1.out
end Go.Proofs.YtboinnjncaehkaaGreatDoor
namespace Go.Proofs.YtboinnjncaehkaaGreatDoor
open Go.RowKit Go.Sort Go.Lib
variable {P:Program} {α:Type} [Inhabited α] {k:Nat}
def SymC (P:Program) (enc:α→List Value) (k:Nat) (cf:α→α→Int) (g:Nat) (cb:Array Value) (blk off cap N:Nat) (w0:World) (n:Nat):Prop:=
 ∀(a m b:Nat) (Pl L R Q:List α) (w:World),b - a < n→a=Pl.length→m=a+L.length→b=m+R.length→0 < L.length→0 < R.length→Srt (ltOf cf) L→Srt (ltOf cf) R→N=(Pl++(L++(R++Q))).length→SWK enc k w0 blk off (Pl++(L++(R++Q))).toArray w→
  Calls P 221 #[.slice (some ⟨blk,off,none⟩) N cap,.int .i64 a,.int .i64 m,.int .i64 b,.func (.func g) #[] cb] w (Mg7 enc k w0 blk off (ltOf cf) Pl (L++R) Q)
def Hf (enc:α→List Value) (k:Nat) (w0:World) (blk off:Nat) (lt:α→α→Bool) (Pl Z T:List α) (w':World):Prop:=∃S:List α,S.length=Z.length∧Srt lt S∧Flt lt S Z∧SWK enc k w0 blk off (Pl++(S++T)).toArray w'
end Go.Proofs.YtboinnjncaehkaaGreatDoor
