/- What the laws rest on: P7w, P7x. -/
import Derived.Test.YtboinnjncaehkaaGreatDoorQACZA
set_option maxRecDepth 100000
set_option linter.unusedVariables false
set_option linter.unusedSimpArgs false
namespace Go.Proofs.YtboinnjncaehkaaGreatDoor
open Go.RowKit Go.Sort Go.Lib
variable {P:Program} {α:Type} [Inhabited α] {k:Nat}
set_option maxHeartbeats 64000000 in
theorem sym_more2 (L_:SS P k) (enc:α→List Value) (cf:α→α→Int) (hO0:SWO (ltOf cf)) (g:Nat) (cb:Array Value) (eg:∀args w,(callFunc g args).run P w=.ok (.enter g args) w) (blk off cap a m b N:Nat) (d0:Array α) (w0 w:World) (hcmp:CmpLays P g cb enc k cf blk off d0.size w0) (Pl L Rr Q:List α) (ha:a=Pl.length) (hm:m=a+L.length) (hb:b=m+Rr.length) (hl1:1 < L.length) (hr1:1 < Rr.length) (hLs:Srt (ltOf cf) L) (hRs:Srt (ltOf cf) Rr)
  (hN:N=(Pl++(L++(Rr++Q))).length) (h0:d0.size=N) (R:RowK enc k w0 blk off d0) (S:SWK enc k w0 blk off (Pl++(L++(Rr++Q))).toArray w) (hsz:N < 4611686018427387904) (IH:SymC P enc k cf g cb blk off cap N w0 (b - a)) (hcs:¬(a+b) / 2 < m) :
  Calls P 221 #[.slice (some ⟨blk,off,none⟩) N cap,.int .i64 a,.int .i64 m,.int .i64 b,.func (.func g) #[] cb] w (Mg7 enc k w0 blk off (ltOf cf) Pl (L++Rr) Q):=by
 have hl:N=Pl.length+(L.length+(Rr.length+Q.length)):=by rw [hN];simp
 have hbN:b≤N:=by omega
 have hlN:N=a+(L.length+(Rr.length+Q.length)):=by omega
 have mixed:=L_.mixed
 have t0:=L_.t0;have a0:=L_.a0;have z0:=L_.z0;have v0:=L_.v0
 have t3:=L_.t3;have a3:=L_.a3;have z3:=L_.z3;have v3:=L_.v3
 have t4:=L_.t4;have a4:=L_.a4;have z4:=L_.z4;have v4:=L_.v4
 have t23:=L_.t23;have a23:=L_.a23;have z23:=L_.z23;have v23:=L_.v23
 have t62:=L_.t62;have a62:=L_.a62;have z62:=L_.z62;have v62:=L_.v62
 have t97:=L_.t97;have a97:=L_.a97;have z97:=L_.z97;have v97:=L_.v97
 have aE:=L_.aE;have zE:=L_.zE
 have HC:Aside _:=hcmp
 have hO:Aside _:=hO0
 have HS:Aside (Srt (ltOf cf) L∧Srt (ltOf cf) Rr):=⟨hLs,hRs⟩
 have eR:∀args w,(callFunc 246 args).run P w=.ok (.enter 246 args) w:=enters_of L_.fro (by kernel_rfl) rfl
 have eY:∀args w,(callFunc 221 args).run P w=.ok (.enter 221 args) w:=enters_of L_.fsy (by kernel_rfl) rfl
 obtain ⟨dk,hdk⟩:∃dk,dk=(Pl++(L++(Rr++Q))).toArray:=⟨_,rfl⟩
 rw [←hdk] at S
 have hds:dk.size=N:=by rw [hdk,hN];simp
 have S0:Aside (SWK enc k w0 blk off dk w):=S
 have HI:Aside (∀(a' m' b':Nat) (Pl L R Q:List α) (w:World),b' - a' < b - a→a'=Pl.length→m'=a'+L.length→b'=m'+R.length→0 < L.length→0 < R.length→Srt (ltOf cf) L→Srt (ltOf cf) R→N=(Pl++(L++(R++Q))).length→SWK enc k w0 blk off (Pl++(L++(R++Q))).toArray w→
  Calls P 221 #[.slice (some ⟨blk,off,none⟩) N cap,.int .i64 a',.int .i64 m',.int .i64 b',.func (.func g) #[] cb] w (Mg7 enc k w0 blk off (ltOf cf) Pl (L++R) Q)):=IH
 obtain ⟨mid,hmid⟩:∃mid:Nat,mid=(a+b) / 2:=⟨_,rfl⟩
 obtain ⟨n,hn⟩:∃n:Nat,n=mid+m:=⟨_,rfl⟩
 have FND:Aside (∀st0 r0 st:Nat,((mid < m∧st0=n - b∧r0=mid)∨(m≤mid∧st0=a∧r0=m))→st0≤st→st≤r0→(st=st0∨ltOf cf dk[n - 1 - (st - 1)]! dk[st - 1]! = false)→(st=r0∨ltOf cf dk[n - 1 - st]! dk[st]! = true)→
   ∃L1 L2 R1 R2:List α,L1.length=st - a∧L2.length=m - st∧R1.length=n - st - m∧R2.length=b - (n - st)∧dk=(Pl++(L1++(L2++(R1++(R2++Q))))).toArray∧(Srt (ltOf cf) L1∧Srt (ltOf cf) L2)∧(Srt (ltOf cf) R1∧Srt (ltOf cf) R2)∧(L=L1++L2∧Rr=R1++R2)∧(∀x ∈ L1,∀y ∈ R2,ltOf cf y x=false)∧∀x ∈ L2,∀y ∈ R1,ltOf cf y x=true):=by
  intro st0 r0 st c1 c2 c3 c4 c5
  obtain ⟨b1,b2⟩:=sym_found hO0 hdk ha hm hb hmid hn c1 c2 c3 c4 c5 hLs hRs
  have tL:=List.take_append_drop (st - a) L
  have tR:=List.take_append_drop (n - st - m) Rr
  refine ⟨L.take (st - a),L.drop (st - a),Rr.take (n - st - m),Rr.drop (n - st - m),by rw [List.length_take];omega,by rw [List.length_drop];omega,by rw [List.length_take];omega,by rw [List.length_drop];omega,?_,?_,?_,⟨tL.symm,tR.symm⟩,b1,b2⟩
  ·rw [hdk]
   conv=>lhs;rw [←tL,←tR]
   simp only [List.append_assoc]
  ·exact ⟨(srt_app.1 (by rw [tL];exact hLs)).1,(srt_app.1 (by rw [tL];exact hLs)).2.1⟩
  ·exact ⟨(srt_app.1 (by rw [tR];exact hRs)).1,(srt_app.1 (by rw [tR];exact hRs)).2.1⟩
 have hc:¬mid < m:=by rw [hmid];exact hcs
 have haP:a=Pl.length:=ha
 have hm1:a+1 < m:=by omega
 have hm2:m+1 < b:=by omega
 have emid:((a:Int)+(b:Int)) / 2=(mid:Int):=by omega
 have ew0:IntKind.i64.wrap ((a:Int)+(b:Int))=(a:Int)+(b:Int):=by rw [IntKind.wrap_i64];omega
 have eu0:IntKind.u64.wrap ((a:Int)+(b:Int))=(a:Int)+(b:Int):=by simp [IntKind.wrap,IntKind.bits,IntKind.signed];omega
 have en0:((mid:Int)+(m:Int))=(n:Int):=by omega
 have en1:IntKind.i64.wrap ((mid:Int)+(m:Int))=(mid:Int)+(m:Int):=by rw [IntKind.wrap_i64];omega
 have nb:n≤2*N:=by omega
 have n1:m≤n:=by omega
 have r1:((m:Int) - (a:Int)==1)=false:=by rw [beq_eq_false_iff_ne];omega
 have r1':¬((m:Int) - (a:Int)=1):=by omega
 have r2:((b:Int) - (m:Int)==1)=false:=by rw [beq_eq_false_iff_ne];omega
 have r2':¬((b:Int) - (m:Int)=1):=by omega
 have hmb:=hb
 have m1:mid+mid≤a+b:=by omega
 have m2:a+b≤mid+mid+1:=by omega
 have hn1:mid+m≤n:=by omega
 have hn2:n≤mid+m:=by omega
 clear S hcmp hdk hN hl hl1 hr1 hLs hRs hO0 IH hn hcs
 replace ha:Aside _:=ha
 replace hm:Aside _:=hm
 replace hb:Aside _:=hb
 replace hlN:Aside _:=hlN
 replace haP:Aside _:=haP
 clear hmb hmid
 go_enter L_.fsy,Tryz.ntmps221
 ·skip
  have kz:¬((mid:Int) < (m:Int)):=by omega
  have f1:a≤a:=Nat.le_refl _
  have f2:a≤m:=by omega
  have f3:n - b≤a:=by omega
  have REST:Aside (∀st:Nat,a≤st→st≤m→(st=a∨ltOf cf dk[n - 1 - (st - 1)]! dk[st - 1]! = false)→(st=m∨ltOf cf dk[n - 1 - st]! dk[st]! = true)→
    ∃L1 L2 R1 R2:List α,L1.length=st - a∧L2.length=m - st∧R1.length=n - st - m∧R2.length=b - (n - st)∧dk=(Pl++(L1++(L2++(R1++(R2++Q))))).toArray∧(Srt (ltOf cf) L1∧Srt (ltOf cf) L2)∧(Srt (ltOf cf) R1∧Srt (ltOf cf) R2)∧(L=L1++L2∧Rr=R1++R2)∧(∀x ∈ L1,∀y ∈ R2,ltOf cf y x=false)∧∀x ∈ L2,∀y ∈ R1,ltOf cf y x=true):=fun st g1 g2 g3 g4=>FND.out a m st (Or.inr ⟨by omega,rfl,rfl⟩) g1 g2 g3 g4
  clear FND
  go_wp2
  go_loopg [20,21] (m - a) (fun kx s20 s21 wr=>∃i j:Nat,s20=.int .i64 i∧s21=.int .i64 j∧a≤i∧i≤j∧j≤m∧j - i≤kx∧Aside (i=a∨ltOf cf dk[n - 1 - (i - 1)]! dk[i - 1]! = false)∧Aside (j=m∨ltOf cf dk[n - 1 - j]! dk[j]! = true)∧Aside (SWK enc k w0 blk off dk wr))
  case atStart=>exact ⟨a,m,rfl,rfl,Nat.le_refl _,f2,Nat.le_refl _,Nat.le_refl _,Or.inl rfl,Or.inl rfl,S0⟩
  case round=>
   clear S0
   obtain ⟨i,j,rfl,rfl,hst1,hij,hst2,hkx,I1,I2,S1⟩:=hrel
   by_cases hlt:i < j
   ·have hltz:(i:Int) < (j:Int):=by omega
    obtain ⟨c,hc⟩:∃c:Nat,c=(i+j) / 2:=⟨_,rfl⟩
    have em:((i:Int)+(j:Int)) / 2=(c:Int):=by omega
    have c1:i≤c:=by omega
    have c2:c < j:=by omega
    have ew:IntKind.i64.wrap ((i:Int)+(j:Int))=(i:Int)+(j:Int):=by rw [IntKind.wrap_i64];omega
    have eu:IntKind.u64.wrap ((i:Int)+(j:Int))=(i:Int)+(j:Int):=by simp [IntKind.wrap,IntKind.bits,IntKind.signed];omega
    have ei:IntKind.i64.wrap (((i:Int)+(j:Int)) / 2)=((i:Int)+(j:Int)) / 2:=by rw [IntKind.wrap_i64];omega
    clear hc
    have ep:((n:Int) - 1 - (c:Int))=((n - 1 - c:Nat):Int):=by omega
    have pN:n - 1 - c < N:=by omega
    cases hL:ltOf cf dk[n - 1 - c]! dk[c]! with
    | true=>
     have ea1:(((n - 1 - c:Nat):Int)).toNat=n - 1 - c:=by omega
     have pa1:(0:Int)≤((n - 1 - c:Nat):Int):=by omega
     have ba1:((n - 1 - c:Nat):Int) < (N:Int):=by omega
     have ra1:IntKind.i64.wrap (((n - 1 - c:Nat):Int))=((n - 1 - c:Nat):Int):=by rw [IntKind.wrap_i64];omega
     have ec1:((c:Int)).toNat=c:=by omega
     have pc1:(0:Int)≤(c:Int):=by omega
     have bc1:(c:Int) < (N:Int):=by omega
     have rc1:IntKind.i64.wrap ((c:Int))=(c:Int):=by rw [IntKind.wrap_i64];omega
     obtain ⟨x1,hx1⟩:∃x,x=dk[n - 1 - c]! :=⟨_,rfl⟩
     obtain ⟨y1,hy1⟩:∃x,x=dk[c]! :=⟨_,rfl⟩
     have l1a:=S1.out.ld R (by omega) P (n - 1 - c) (by omega)
     have l1b:=S1.out.ld R (by omega) P (c) (by omega)
     rw [←hx1] at l1a
     rw [←hy1] at l1b
     have hc1:=S1.out.cmp HC.out (by omega) x1 y1
     have hv1:cf x1 y1 < 0:=by rw [hx1,hy1];exact of_decide_eq_true hL
     have hd1:decide (cf x1 y1 < 0)=true:=decide_eq_true hv1
     have HL:Aside _:=hL
     clear hx1 hy1 hL
     go_wp2_with fail
     go_quiet_grown (first|(go_at_fn g;refine Calls.grown_of (hc1 _ _)))
     have S2:Aside (SWK enc k w0 blk off dk (grow (wr.drewN nq) osq)):=S1.out.grown nq osq
     clear l1a l1b hc1 S1
     generalize grow (wr.drewN nq) osq=w2 at S2 ⊢
     clear nq osq
     go_wp2
     go_roundg (c - i)
     case measure=>omega
     case rel=>exact ⟨i,c,rfl,rfl,hst1,c1,by omega,Nat.le_refl _,I1,Or.inr HL.out,S2⟩
    | false=>
     have ea1:(((n - 1 - c:Nat):Int)).toNat=n - 1 - c:=by omega
     have pa1:(0:Int)≤((n - 1 - c:Nat):Int):=by omega
     have ba1:((n - 1 - c:Nat):Int) < (N:Int):=by omega
     have ra1:IntKind.i64.wrap (((n - 1 - c:Nat):Int))=((n - 1 - c:Nat):Int):=by rw [IntKind.wrap_i64];omega
     have ec1:((c:Int)).toNat=c:=by omega
     have pc1:(0:Int)≤(c:Int):=by omega
     have bc1:(c:Int) < (N:Int):=by omega
     have rc1:IntKind.i64.wrap ((c:Int))=(c:Int):=by rw [IntKind.wrap_i64];omega
     obtain ⟨x1,hx1⟩:∃x,x=dk[n - 1 - c]! :=⟨_,rfl⟩
     obtain ⟨y1,hy1⟩:∃x,x=dk[c]! :=⟨_,rfl⟩
     have l1a:=S1.out.ld R (by omega) P (n - 1 - c) (by omega)
     have l1b:=S1.out.ld R (by omega) P (c) (by omega)
     rw [←hx1] at l1a
     rw [←hy1] at l1b
     have hc1:=S1.out.cmp HC.out (by omega) x1 y1
     have hv1:¬(cf x1 y1 < 0):=by rw [hx1,hy1];exact of_decide_eq_false hL
     have hd1:decide (cf x1 y1 < 0)=false:=decide_eq_false hv1
     have HL:Aside _:=hL
     clear hx1 hy1 hL
     go_wp2_with fail
     go_quiet_grown (first|(go_at_fn g;refine Calls.grown_of (hc1 _ _)))
     have S2:Aside (SWK enc k w0 blk off dk (grow (wr.drewN nq) osq)):=S1.out.grown nq osq
     clear l1a l1b hc1 S1
     generalize grow (wr.drewN nq) osq=w2 at S2 ⊢
     clear nq osq
     go_wp2
     go_roundg (j - (c+1))
     case measure=>omega
     case rel=>exact ⟨c+1,j,by go_num,rfl,by omega,by omega,hst2,Nat.le_refl _,Or.inr HL.out,I2,S2⟩
   ·obtain rfl:j=i:=by omega
    have hltz:¬((j:Int) < (j:Int)):=by omega
    obtain ⟨st,hst⟩:∃st,st=j:=⟨_,rfl⟩
    subst hst
    obtain ⟨L1,L2,R1,R2,u1,u2,u3,u4,v0,v1,v2,v3,v4⟩:=REST.out st hst1 hst2 I1.out I2.out
    obtain ⟨en,hen⟩:∃en:Nat,en=n - st:=⟨_,rfl⟩
    have een:((n:Int) - (st:Int))=(en:Int):=by omega
    rw [←hen] at u3 u4
    have U:Aside (L1.length=st - a∧L2.length=m - st∧R1.length=en - m∧R2.length=b - en∧Pl.length=a∧N=b+Q.length):=⟨u1,u2,u3,u4,haP.out.symm,by have q1:=hlN.out;have q2:=hm.out;have q3:=hb.out;omega⟩
    have V4:Aside _:=v4
    have V1:Aside _:=v1
    have V2:Aside _:=v2
    have V3:Aside _:=v3
    have sm:st≤m:=by omega
    have me:m≤en:=by omega
    have as_:a≤st:=by omega
    have eb:en≤b:=by omega
    have smid:st≤mid:=by omega
    have mide:mid≤en:=by omega
    have emid1:st+(en - m)≤mid:=by omega
    have emid2:mid≤st+(en - m):=by omega
    have X0:Aside (SWK enc k w0 blk off (Pl++(L1++(L2++(R1++(R2++Q))))).toArray wr):=by rw [←v0];exact S1.out
    clear REST v1 v2 v3 v4 v0 S1 I1 I2 hen u1 u2 u3 u4
    by_cases k0:st < m
    ·have k0a:(st:Int) < (m:Int):=by omega
     by_cases k0':m < en
     ·have k0b:(m:Int) < (en:Int):=by omega
      have hr:=rot_list L_ enc g cb blk off cap st m en N d0 w0 wr (Pl++L1) L2 R1 (R2++Q) (by obtain ⟨o1,o2,o3,o4,o5,o6⟩:=U.out;(try simp only [List.length_append]);omega) (by obtain ⟨o1,o2,o3,o4,o5,o6⟩:=U.out;(try simp only [List.length_append]);omega) (by obtain ⟨o1,o2,o3,o4,o5,o6⟩:=U.out;(try simp only [List.length_append]);omega) (by obtain ⟨o1,o2,o3,o4,o5,o6⟩:=U.out;(try simp only [List.length_append]);omega) (by obtain ⟨o1,o2,o3,o4,o5,o6⟩:=U.out;(try simp only [List.length_append]);omega) (by obtain ⟨o1,o2,o3,o4,o5,o6⟩:=U.out;(try simp only [List.length_append]);omega) h0 R (by rw [List.append_assoc];exact X0.out) hsz
      rw [List.append_assoc] at hr
      clear X0
      go_wp2_with fail
      go_at_fn 246
      refine hr.mono ?_
      rintro e w2 ⟨rfl,z⟩
      have X1:Aside (SWK enc k w0 blk off (Pl++(L1++(R1++(L2++(R2++Q))))).toArray w2):=z
      clear z hr
      by_cases k1:a < st∧st < mid
      ·have k1a:(a:Int) < (st:Int):=by omega
       have k1b:(st:Int) < (mid:Int):=by omega
       have hs1:=HI.out a st mid Pl L1 R1 (L2++(R2++Q)) w2 (by omega) haP.out (by obtain ⟨o1,o2,o3,o4,o5,o6⟩:=U.out;(try simp only [List.length_append]);omega) (by obtain ⟨o1,o2,o3,o4,o5,o6⟩:=U.out;(try simp only [List.length_append]);omega) (by obtain ⟨o1,o2,o3,o4,o5,o6⟩:=U.out;(try simp only [List.length_append]);omega) (by obtain ⟨o1,o2,o3,o4,o5,o6⟩:=U.out;(try simp only [List.length_append]);omega) V1.out.1 V2.out.1 (by obtain ⟨o1,o2,o3,o4,o5,o6⟩:=U.out;(try simp only [List.length_append]);omega) X1.out
       clear X1
       go_wp2_with fail
       go_at_fn 221
       refine hs1.mono ?_
       rintro e w3 ⟨rfl,S1',z1,z2,z3,z4⟩
       have Y1:Aside (Hf enc k w0 blk off (ltOf cf) Pl (L1++R1) (L2++(R2++Q)) w3):=⟨S1',z1,z2,z3,z4⟩
       clear z2 z3 z4 hs1
       obtain ⟨S1,y1,y2,y3,y4⟩:=Y1.out
       rw [List.length_append] at y1
       have Y2:Aside (S1.length=L1.length+R1.length∧Srt (ltOf cf) S1∧Flt (ltOf cf) S1 (L1++R1)∧SWK enc k w0 blk off (Pl++(S1++(L2++(R2++Q)))).toArray w3):=⟨y1,y2,y3,y4⟩
       clear Y1 y1 y2 y3 y4
       by_cases k3:mid < en
       ·have k3a:(mid:Int) < (en:Int):=by omega
        by_cases k4:en < b
        ·have k4a:(en:Int) < (b:Int):=by omega
         have hs2:=HI.out mid en b (Pl++S1) L2 R2 Q w3 (by omega) (by obtain ⟨o1,o2,o3,o4,o5,o6⟩:=U.out;have y1:=Y2.out.1;(try simp only [List.length_append]);omega) (by obtain ⟨o1,o2,o3,o4,o5,o6⟩:=U.out;have y1:=Y2.out.1;(try simp only [List.length_append]);omega) (by obtain ⟨o1,o2,o3,o4,o5,o6⟩:=U.out;have y1:=Y2.out.1;(try simp only [List.length_append]);omega) (by obtain ⟨o1,o2,o3,o4,o5,o6⟩:=U.out;have y1:=Y2.out.1;(try simp only [List.length_append]);omega) (by obtain ⟨o1,o2,o3,o4,o5,o6⟩:=U.out;have y1:=Y2.out.1;(try simp only [List.length_append]);omega) V1.out.2 V2.out.2 (by obtain ⟨o1,o2,o3,o4,o5,o6⟩:=U.out;have y1:=Y2.out.1;(try simp only [List.length_append]);omega) (by rw [List.append_assoc];exact Y2.out.2.2.2)
         have FF:Aside (∀e w',Mg7 enc k w0 blk off (ltOf cf) (Pl++S1) (L2++R2) Q e w'→Mg7 enc k w0 blk off (ltOf cf) Pl (L++Rr) Q e w'):=fun e w' ⟨h1,S2,h2,h3,h4,h5⟩=>⟨h1,S1++S2,by rw [V3.out.1,V3.out.2];have y1:=Y2.out.1;simp only [List.length_append] at h2 ⊢;omega,by
          have z:=sym_fin hO.out (L1:=L1) (L2:=L2) (R1:=R1) (R2:=R2) (S1:=S1) (S2:=S2) (by rw [←V3.out.1];exact HS.out.1) (by rw [←V3.out.2];exact HS.out.2) V4.out.1 V4.out.2 Y2.out.2.1 Y2.out.2.2.1 h3 h4
          rw [←V3.out.1,←V3.out.2] at z
          exact ⟨z.1,z.2,by rw [List.append_assoc] at h5;rw [List.append_assoc];exact h5⟩⟩
         clear Y2
         go_wp2_with fail
         go_at_fn 221
         refine hs2.mono ?_
         rintro e w4 ⟨rfl,S2',z1,z2,z3,z4⟩
         have ZZ:Aside (Mg7 enc k w0 blk off (ltOf cf) Pl (L++Rr) Q (.returned (.tuple #[])) w4):=FF.out (.returned (.tuple #[])) w4 ⟨rfl,S2',z1,z2,z3,z4⟩
         clear z2 z3 z4 hs2 FF
         go_wp2
         all_goals (go_end0;exact ZZ.out)
        ·have k4a:¬((en:Int) < (b:Int)):=by omega
         have ZZ:Aside (Mg7 enc k w0 blk off (ltOf cf) Pl (L++Rr) Q (.returned (.tuple #[])) w3):=by
          obtain rfl:R2=[]:=List.eq_nil_of_length_eq_zero (by obtain ⟨o1,o2,o3,o4,o5,o6⟩:=U.out;omega)
          have z:=sym_fin hO.out (L1:=L1) (R1:=R1) (S1:=S1) (by rw [←V3.out.1];exact HS.out.1) (by rw [←V3.out.2];exact HS.out.2) V4.out.1 V4.out.2 Y2.out.2.1 Y2.out.2.2.1 (by rw [List.append_nil];exact V1.out.2:Srt (ltOf cf) (L2++[])) (Flt.refl _)
          rw [←V3.out.1,←V3.out.2] at z
          exact ⟨rfl,_,by rw [V3.out.1,V3.out.2];have y1:=Y2.out.1;simp only [List.length_append];omega,z.1,z.2,by have q:=Y2.out.2.2.2;simp only [List.append_assoc,List.nil_append,List.append_nil] at q ⊢;exact q⟩
         clear Y2
         go_wp2
         all_goals (go_end0;exact ZZ.out)
       ·have k3a:¬((mid:Int) < (en:Int)):=by omega
        have ZZ:Aside (Mg7 enc k w0 blk off (ltOf cf) Pl (L++Rr) Q (.returned (.tuple #[])) w3):=by
         obtain rfl:L2=[]:=List.eq_nil_of_length_eq_zero (by obtain ⟨o1,o2,o3,o4,o5,o6⟩:=U.out;omega)
         have z:=sym_fin hO.out (L1:=L1) (R1:=R1) (S1:=S1) (by rw [←V3.out.1];exact HS.out.1) (by rw [←V3.out.2];exact HS.out.2) V4.out.1 V4.out.2 Y2.out.2.1 Y2.out.2.2.1 (by rw [List.nil_append];exact V2.out.2:Srt (ltOf cf) ([]++R2)) (Flt.refl _)
         rw [←V3.out.1,←V3.out.2] at z
         exact ⟨rfl,_,by rw [V3.out.1,V3.out.2];have y1:=Y2.out.1;simp only [List.length_append];omega,z.1,z.2,by have q:=Y2.out.2.2.2;simp only [List.append_assoc,List.nil_append,List.append_nil] at q ⊢;exact q⟩
        clear Y2
        go_wp2
        all_goals (go_end0;exact ZZ.out)
      ·have Y1:Aside (Hf enc k w0 blk off (ltOf cf) Pl (L1++R1) (L2++(R2++Q)) w2):=⟨L1++R1,rfl,(by
        by_cases h:a < st
        ·obtain rfl:R1=[]:=List.eq_nil_of_length_eq_zero (by obtain ⟨o1,o2,o3,o4,o5,o6⟩:=U.out;omega)
         rw [List.append_nil];exact V1.out.1
        ·obtain rfl:L1=[]:=List.eq_nil_of_length_eq_zero (by obtain ⟨o1,o2,o3,o4,o5,o6⟩:=U.out;omega)
         exact V2.out.1),Flt.refl _,by rw [List.append_assoc];exact X1.out⟩
       clear X1
       by_cases k2:a < st
       ·exfalso;omega
       ·have k2a:¬((a:Int) < (st:Int)):=by omega
        obtain ⟨S1,y1,y2,y3,y4⟩:=Y1.out
        rw [List.length_append] at y1
        have Y2:Aside (S1.length=L1.length+R1.length∧Srt (ltOf cf) S1∧Flt (ltOf cf) S1 (L1++R1)∧SWK enc k w0 blk off (Pl++(S1++(L2++(R2++Q)))).toArray w2):=⟨y1,y2,y3,y4⟩
        clear Y1 y1 y2 y3 y4
        by_cases k3:mid < en
        ·have k3a:(mid:Int) < (en:Int):=by omega
         by_cases k4:en < b
         ·have k4a:(en:Int) < (b:Int):=by omega
          have hs2:=HI.out mid en b (Pl++S1) L2 R2 Q w2 (by omega) (by obtain ⟨o1,o2,o3,o4,o5,o6⟩:=U.out;have y1:=Y2.out.1;(try simp only [List.length_append]);omega) (by obtain ⟨o1,o2,o3,o4,o5,o6⟩:=U.out;have y1:=Y2.out.1;(try simp only [List.length_append]);omega) (by obtain ⟨o1,o2,o3,o4,o5,o6⟩:=U.out;have y1:=Y2.out.1;(try simp only [List.length_append]);omega) (by obtain ⟨o1,o2,o3,o4,o5,o6⟩:=U.out;have y1:=Y2.out.1;(try simp only [List.length_append]);omega) (by obtain ⟨o1,o2,o3,o4,o5,o6⟩:=U.out;have y1:=Y2.out.1;(try simp only [List.length_append]);omega) V1.out.2 V2.out.2 (by obtain ⟨o1,o2,o3,o4,o5,o6⟩:=U.out;have y1:=Y2.out.1;(try simp only [List.length_append]);omega) (by rw [List.append_assoc];exact Y2.out.2.2.2)
          have FF:Aside (∀e w',Mg7 enc k w0 blk off (ltOf cf) (Pl++S1) (L2++R2) Q e w'→Mg7 enc k w0 blk off (ltOf cf) Pl (L++Rr) Q e w'):=fun e w' ⟨h1,S2,h2,h3,h4,h5⟩=>⟨h1,S1++S2,by rw [V3.out.1,V3.out.2];have y1:=Y2.out.1;simp only [List.length_append] at h2 ⊢;omega,by
           have z:=sym_fin hO.out (L1:=L1) (L2:=L2) (R1:=R1) (R2:=R2) (S1:=S1) (S2:=S2) (by rw [←V3.out.1];exact HS.out.1) (by rw [←V3.out.2];exact HS.out.2) V4.out.1 V4.out.2 Y2.out.2.1 Y2.out.2.2.1 h3 h4
           rw [←V3.out.1,←V3.out.2] at z
           exact ⟨z.1,z.2,by rw [List.append_assoc] at h5;rw [List.append_assoc];exact h5⟩⟩
          clear Y2
          go_wp2_with fail
          go_at_fn 221
          refine hs2.mono ?_
          rintro e w4 ⟨rfl,S2',z1,z2,z3,z4⟩
          have ZZ:Aside (Mg7 enc k w0 blk off (ltOf cf) Pl (L++Rr) Q (.returned (.tuple #[])) w4):=FF.out (.returned (.tuple #[])) w4 ⟨rfl,S2',z1,z2,z3,z4⟩
          clear z2 z3 z4 hs2 FF
          go_wp2
          all_goals (go_end0;exact ZZ.out)
         ·have k4a:¬((en:Int) < (b:Int)):=by omega
          have ZZ:Aside (Mg7 enc k w0 blk off (ltOf cf) Pl (L++Rr) Q (.returned (.tuple #[])) w2):=by
           obtain rfl:R2=[]:=List.eq_nil_of_length_eq_zero (by obtain ⟨o1,o2,o3,o4,o5,o6⟩:=U.out;omega)
           have z:=sym_fin hO.out (L1:=L1) (R1:=R1) (S1:=S1) (by rw [←V3.out.1];exact HS.out.1) (by rw [←V3.out.2];exact HS.out.2) V4.out.1 V4.out.2 Y2.out.2.1 Y2.out.2.2.1 (by rw [List.append_nil];exact V1.out.2:Srt (ltOf cf) (L2++[])) (Flt.refl _)
           rw [←V3.out.1,←V3.out.2] at z
           exact ⟨rfl,_,by rw [V3.out.1,V3.out.2];have y1:=Y2.out.1;simp only [List.length_append];omega,z.1,z.2,by have q:=Y2.out.2.2.2;simp only [List.append_assoc,List.nil_append,List.append_nil] at q ⊢;exact q⟩
          clear Y2
          go_wp2
          all_goals (go_end0;exact ZZ.out)
        ·have k3a:¬((mid:Int) < (en:Int)):=by omega
         have ZZ:Aside (Mg7 enc k w0 blk off (ltOf cf) Pl (L++Rr) Q (.returned (.tuple #[])) w2):=by
          obtain rfl:L2=[]:=List.eq_nil_of_length_eq_zero (by obtain ⟨o1,o2,o3,o4,o5,o6⟩:=U.out;omega)
          have z:=sym_fin hO.out (L1:=L1) (R1:=R1) (S1:=S1) (by rw [←V3.out.1];exact HS.out.1) (by rw [←V3.out.2];exact HS.out.2) V4.out.1 V4.out.2 Y2.out.2.1 Y2.out.2.2.1 (by rw [List.nil_append];exact V2.out.2:Srt (ltOf cf) ([]++R2)) (Flt.refl _)
          rw [←V3.out.1,←V3.out.2] at z
          exact ⟨rfl,_,by rw [V3.out.1,V3.out.2];have y1:=Y2.out.1;simp only [List.length_append];omega,z.1,z.2,by have q:=Y2.out.2.2.2;simp only [List.append_assoc,List.nil_append,List.append_nil] at q ⊢;exact q⟩
         clear Y2
         go_wp2
         all_goals (go_end0;exact ZZ.out)
     ·have k0b:¬((m:Int) < (en:Int)):=by omega
      have X1:Aside (SWK enc k w0 blk off (Pl++(L1++(R1++(L2++(R2++Q))))).toArray wr):=by
       obtain rfl:R1=[]:=List.eq_nil_of_length_eq_zero (by obtain ⟨o1,o2,o3,o4,o5,o6⟩:=U.out;omega)
       exact X0.out
      clear X0
      by_cases k1:a < st∧st < mid
      ·have k1a:(a:Int) < (st:Int):=by omega
       have k1b:(st:Int) < (mid:Int):=by omega
       have hs1:=HI.out a st mid Pl L1 R1 (L2++(R2++Q)) wr (by omega) haP.out (by obtain ⟨o1,o2,o3,o4,o5,o6⟩:=U.out;(try simp only [List.length_append]);omega) (by obtain ⟨o1,o2,o3,o4,o5,o6⟩:=U.out;(try simp only [List.length_append]);omega) (by obtain ⟨o1,o2,o3,o4,o5,o6⟩:=U.out;(try simp only [List.length_append]);omega) (by obtain ⟨o1,o2,o3,o4,o5,o6⟩:=U.out;(try simp only [List.length_append]);omega) V1.out.1 V2.out.1 (by obtain ⟨o1,o2,o3,o4,o5,o6⟩:=U.out;(try simp only [List.length_append]);omega) X1.out
       clear X1
       go_wp2_with fail
       go_at_fn 221
       refine hs1.mono ?_
       rintro e w3 ⟨rfl,S1',z1,z2,z3,z4⟩
       have Y1:Aside (Hf enc k w0 blk off (ltOf cf) Pl (L1++R1) (L2++(R2++Q)) w3):=⟨S1',z1,z2,z3,z4⟩
       clear z2 z3 z4 hs1
       obtain ⟨S1,y1,y2,y3,y4⟩:=Y1.out
       rw [List.length_append] at y1
       have Y2:Aside (S1.length=L1.length+R1.length∧Srt (ltOf cf) S1∧Flt (ltOf cf) S1 (L1++R1)∧SWK enc k w0 blk off (Pl++(S1++(L2++(R2++Q)))).toArray w3):=⟨y1,y2,y3,y4⟩
       clear Y1 y1 y2 y3 y4
       by_cases k3:mid < en
       ·have k3a:(mid:Int) < (en:Int):=by omega
        by_cases k4:en < b
        ·have k4a:(en:Int) < (b:Int):=by omega
         have hs2:=HI.out mid en b (Pl++S1) L2 R2 Q w3 (by omega) (by obtain ⟨o1,o2,o3,o4,o5,o6⟩:=U.out;have y1:=Y2.out.1;(try simp only [List.length_append]);omega) (by obtain ⟨o1,o2,o3,o4,o5,o6⟩:=U.out;have y1:=Y2.out.1;(try simp only [List.length_append]);omega) (by obtain ⟨o1,o2,o3,o4,o5,o6⟩:=U.out;have y1:=Y2.out.1;(try simp only [List.length_append]);omega) (by obtain ⟨o1,o2,o3,o4,o5,o6⟩:=U.out;have y1:=Y2.out.1;(try simp only [List.length_append]);omega) (by obtain ⟨o1,o2,o3,o4,o5,o6⟩:=U.out;have y1:=Y2.out.1;(try simp only [List.length_append]);omega) V1.out.2 V2.out.2 (by obtain ⟨o1,o2,o3,o4,o5,o6⟩:=U.out;have y1:=Y2.out.1;(try simp only [List.length_append]);omega) (by rw [List.append_assoc];exact Y2.out.2.2.2)
         have FF:Aside (∀e w',Mg7 enc k w0 blk off (ltOf cf) (Pl++S1) (L2++R2) Q e w'→Mg7 enc k w0 blk off (ltOf cf) Pl (L++Rr) Q e w'):=fun e w' ⟨h1,S2,h2,h3,h4,h5⟩=>⟨h1,S1++S2,by rw [V3.out.1,V3.out.2];have y1:=Y2.out.1;simp only [List.length_append] at h2 ⊢;omega,by
          have z:=sym_fin hO.out (L1:=L1) (L2:=L2) (R1:=R1) (R2:=R2) (S1:=S1) (S2:=S2) (by rw [←V3.out.1];exact HS.out.1) (by rw [←V3.out.2];exact HS.out.2) V4.out.1 V4.out.2 Y2.out.2.1 Y2.out.2.2.1 h3 h4
          rw [←V3.out.1,←V3.out.2] at z
          exact ⟨z.1,z.2,by rw [List.append_assoc] at h5;rw [List.append_assoc];exact h5⟩⟩
         clear Y2
         go_wp2_with fail
         go_at_fn 221
         refine hs2.mono ?_
         rintro e w4 ⟨rfl,S2',z1,z2,z3,z4⟩
         have ZZ:Aside (Mg7 enc k w0 blk off (ltOf cf) Pl (L++Rr) Q (.returned (.tuple #[])) w4):=FF.out (.returned (.tuple #[])) w4 ⟨rfl,S2',z1,z2,z3,z4⟩
         clear z2 z3 z4 hs2 FF
         go_wp2
         all_goals (go_end0;exact ZZ.out)
        ·have k4a:¬((en:Int) < (b:Int)):=by omega
         have ZZ:Aside (Mg7 enc k w0 blk off (ltOf cf) Pl (L++Rr) Q (.returned (.tuple #[])) w3):=by
          obtain rfl:R2=[]:=List.eq_nil_of_length_eq_zero (by obtain ⟨o1,o2,o3,o4,o5,o6⟩:=U.out;omega)
          have z:=sym_fin hO.out (L1:=L1) (R1:=R1) (S1:=S1) (by rw [←V3.out.1];exact HS.out.1) (by rw [←V3.out.2];exact HS.out.2) V4.out.1 V4.out.2 Y2.out.2.1 Y2.out.2.2.1 (by rw [List.append_nil];exact V1.out.2:Srt (ltOf cf) (L2++[])) (Flt.refl _)
          rw [←V3.out.1,←V3.out.2] at z
          exact ⟨rfl,_,by rw [V3.out.1,V3.out.2];have y1:=Y2.out.1;simp only [List.length_append];omega,z.1,z.2,by have q:=Y2.out.2.2.2;simp only [List.append_assoc,List.nil_append,List.append_nil] at q ⊢;exact q⟩
         clear Y2
         go_wp2
         all_goals (go_end0;exact ZZ.out)
       ·have k3a:¬((mid:Int) < (en:Int)):=by omega
        have ZZ:Aside (Mg7 enc k w0 blk off (ltOf cf) Pl (L++Rr) Q (.returned (.tuple #[])) w3):=by
         obtain rfl:L2=[]:=List.eq_nil_of_length_eq_zero (by obtain ⟨o1,o2,o3,o4,o5,o6⟩:=U.out;omega)
         have z:=sym_fin hO.out (L1:=L1) (R1:=R1) (S1:=S1) (by rw [←V3.out.1];exact HS.out.1) (by rw [←V3.out.2];exact HS.out.2) V4.out.1 V4.out.2 Y2.out.2.1 Y2.out.2.2.1 (by rw [List.nil_append];exact V2.out.2:Srt (ltOf cf) ([]++R2)) (Flt.refl _)
         rw [←V3.out.1,←V3.out.2] at z
         exact ⟨rfl,_,by rw [V3.out.1,V3.out.2];have y1:=Y2.out.1;simp only [List.length_append];omega,z.1,z.2,by have q:=Y2.out.2.2.2;simp only [List.append_assoc,List.nil_append,List.append_nil] at q ⊢;exact q⟩
        clear Y2
        go_wp2
        all_goals (go_end0;exact ZZ.out)
      ·have Y1:Aside (Hf enc k w0 blk off (ltOf cf) Pl (L1++R1) (L2++(R2++Q)) wr):=⟨L1++R1,rfl,(by
        by_cases h:a < st
        ·obtain rfl:R1=[]:=List.eq_nil_of_length_eq_zero (by obtain ⟨o1,o2,o3,o4,o5,o6⟩:=U.out;omega)
         rw [List.append_nil];exact V1.out.1
        ·obtain rfl:L1=[]:=List.eq_nil_of_length_eq_zero (by obtain ⟨o1,o2,o3,o4,o5,o6⟩:=U.out;omega)
         exact V2.out.1),Flt.refl _,by rw [List.append_assoc];exact X1.out⟩
       clear X1
       by_cases k2:a < st
       ·have k2a:(a:Int) < (st:Int):=by omega
        have k2b:¬((st:Int) < (mid:Int)):=by omega
        obtain ⟨S1,y1,y2,y3,y4⟩:=Y1.out
        rw [List.length_append] at y1
        have Y2:Aside (S1.length=L1.length+R1.length∧Srt (ltOf cf) S1∧Flt (ltOf cf) S1 (L1++R1)∧SWK enc k w0 blk off (Pl++(S1++(L2++(R2++Q)))).toArray wr):=⟨y1,y2,y3,y4⟩
        clear Y1 y1 y2 y3 y4
        by_cases k3:mid < en
        ·have k3a:(mid:Int) < (en:Int):=by omega
         by_cases k4:en < b
         ·have k4a:(en:Int) < (b:Int):=by omega
          have hs2:=HI.out mid en b (Pl++S1) L2 R2 Q wr (by omega) (by obtain ⟨o1,o2,o3,o4,o5,o6⟩:=U.out;have y1:=Y2.out.1;(try simp only [List.length_append]);omega) (by obtain ⟨o1,o2,o3,o4,o5,o6⟩:=U.out;have y1:=Y2.out.1;(try simp only [List.length_append]);omega) (by obtain ⟨o1,o2,o3,o4,o5,o6⟩:=U.out;have y1:=Y2.out.1;(try simp only [List.length_append]);omega) (by obtain ⟨o1,o2,o3,o4,o5,o6⟩:=U.out;have y1:=Y2.out.1;(try simp only [List.length_append]);omega) (by obtain ⟨o1,o2,o3,o4,o5,o6⟩:=U.out;have y1:=Y2.out.1;(try simp only [List.length_append]);omega) V1.out.2 V2.out.2 (by obtain ⟨o1,o2,o3,o4,o5,o6⟩:=U.out;have y1:=Y2.out.1;(try simp only [List.length_append]);omega) (by rw [List.append_assoc];exact Y2.out.2.2.2)
          have FF:Aside (∀e w',Mg7 enc k w0 blk off (ltOf cf) (Pl++S1) (L2++R2) Q e w'→Mg7 enc k w0 blk off (ltOf cf) Pl (L++Rr) Q e w'):=fun e w' ⟨h1,S2,h2,h3,h4,h5⟩=>⟨h1,S1++S2,by rw [V3.out.1,V3.out.2];have y1:=Y2.out.1;simp only [List.length_append] at h2 ⊢;omega,by
           have z:=sym_fin hO.out (L1:=L1) (L2:=L2) (R1:=R1) (R2:=R2) (S1:=S1) (S2:=S2) (by rw [←V3.out.1];exact HS.out.1) (by rw [←V3.out.2];exact HS.out.2) V4.out.1 V4.out.2 Y2.out.2.1 Y2.out.2.2.1 h3 h4
           rw [←V3.out.1,←V3.out.2] at z
           exact ⟨z.1,z.2,by rw [List.append_assoc] at h5;rw [List.append_assoc];exact h5⟩⟩
          clear Y2
          go_wp2_with fail
          go_at_fn 221
          refine hs2.mono ?_
          rintro e w4 ⟨rfl,S2',z1,z2,z3,z4⟩
          have ZZ:Aside (Mg7 enc k w0 blk off (ltOf cf) Pl (L++Rr) Q (.returned (.tuple #[])) w4):=FF.out (.returned (.tuple #[])) w4 ⟨rfl,S2',z1,z2,z3,z4⟩
          clear z2 z3 z4 hs2 FF
          go_wp2
          all_goals (go_end0;exact ZZ.out)
         ·have k4a:¬((en:Int) < (b:Int)):=by omega
          have ZZ:Aside (Mg7 enc k w0 blk off (ltOf cf) Pl (L++Rr) Q (.returned (.tuple #[])) wr):=by
           obtain rfl:R2=[]:=List.eq_nil_of_length_eq_zero (by obtain ⟨o1,o2,o3,o4,o5,o6⟩:=U.out;omega)
           have z:=sym_fin hO.out (L1:=L1) (R1:=R1) (S1:=S1) (by rw [←V3.out.1];exact HS.out.1) (by rw [←V3.out.2];exact HS.out.2) V4.out.1 V4.out.2 Y2.out.2.1 Y2.out.2.2.1 (by rw [List.append_nil];exact V1.out.2:Srt (ltOf cf) (L2++[])) (Flt.refl _)
           rw [←V3.out.1,←V3.out.2] at z
           exact ⟨rfl,_,by rw [V3.out.1,V3.out.2];have y1:=Y2.out.1;simp only [List.length_append];omega,z.1,z.2,by have q:=Y2.out.2.2.2;simp only [List.append_assoc,List.nil_append,List.append_nil] at q ⊢;exact q⟩
          clear Y2
          go_wp2
          all_goals (go_end0;exact ZZ.out)
        ·have k3a:¬((mid:Int) < (en:Int)):=by omega
         have ZZ:Aside (Mg7 enc k w0 blk off (ltOf cf) Pl (L++Rr) Q (.returned (.tuple #[])) wr):=by
          obtain rfl:L2=[]:=List.eq_nil_of_length_eq_zero (by obtain ⟨o1,o2,o3,o4,o5,o6⟩:=U.out;omega)
          have z:=sym_fin hO.out (L1:=L1) (R1:=R1) (S1:=S1) (by rw [←V3.out.1];exact HS.out.1) (by rw [←V3.out.2];exact HS.out.2) V4.out.1 V4.out.2 Y2.out.2.1 Y2.out.2.2.1 (by rw [List.nil_append];exact V2.out.2:Srt (ltOf cf) ([]++R2)) (Flt.refl _)
          rw [←V3.out.1,←V3.out.2] at z
          exact ⟨rfl,_,by rw [V3.out.1,V3.out.2];have y1:=Y2.out.1;simp only [List.length_append];omega,z.1,z.2,by have q:=Y2.out.2.2.2;simp only [List.append_assoc,List.nil_append,List.append_nil] at q ⊢;exact q⟩
         clear Y2
         go_wp2
         all_goals (go_end0;exact ZZ.out)
       ·have k2a:¬((a:Int) < (st:Int)):=by omega
        obtain ⟨S1,y1,y2,y3,y4⟩:=Y1.out
        rw [List.length_append] at y1
        have Y2:Aside (S1.length=L1.length+R1.length∧Srt (ltOf cf) S1∧Flt (ltOf cf) S1 (L1++R1)∧SWK enc k w0 blk off (Pl++(S1++(L2++(R2++Q)))).toArray wr):=⟨y1,y2,y3,y4⟩
        clear Y1 y1 y2 y3 y4
        by_cases k3:mid < en
        ·have k3a:(mid:Int) < (en:Int):=by omega
         by_cases k4:en < b
         ·have k4a:(en:Int) < (b:Int):=by omega
          have hs2:=HI.out mid en b (Pl++S1) L2 R2 Q wr (by omega) (by obtain ⟨o1,o2,o3,o4,o5,o6⟩:=U.out;have y1:=Y2.out.1;(try simp only [List.length_append]);omega) (by obtain ⟨o1,o2,o3,o4,o5,o6⟩:=U.out;have y1:=Y2.out.1;(try simp only [List.length_append]);omega) (by obtain ⟨o1,o2,o3,o4,o5,o6⟩:=U.out;have y1:=Y2.out.1;(try simp only [List.length_append]);omega) (by obtain ⟨o1,o2,o3,o4,o5,o6⟩:=U.out;have y1:=Y2.out.1;(try simp only [List.length_append]);omega) (by obtain ⟨o1,o2,o3,o4,o5,o6⟩:=U.out;have y1:=Y2.out.1;(try simp only [List.length_append]);omega) V1.out.2 V2.out.2 (by obtain ⟨o1,o2,o3,o4,o5,o6⟩:=U.out;have y1:=Y2.out.1;(try simp only [List.length_append]);omega) (by rw [List.append_assoc];exact Y2.out.2.2.2)
          have FF:Aside (∀e w',Mg7 enc k w0 blk off (ltOf cf) (Pl++S1) (L2++R2) Q e w'→Mg7 enc k w0 blk off (ltOf cf) Pl (L++Rr) Q e w'):=fun e w' ⟨h1,S2,h2,h3,h4,h5⟩=>⟨h1,S1++S2,by rw [V3.out.1,V3.out.2];have y1:=Y2.out.1;simp only [List.length_append] at h2 ⊢;omega,by
           have z:=sym_fin hO.out (L1:=L1) (L2:=L2) (R1:=R1) (R2:=R2) (S1:=S1) (S2:=S2) (by rw [←V3.out.1];exact HS.out.1) (by rw [←V3.out.2];exact HS.out.2) V4.out.1 V4.out.2 Y2.out.2.1 Y2.out.2.2.1 h3 h4
           rw [←V3.out.1,←V3.out.2] at z
           exact ⟨z.1,z.2,by rw [List.append_assoc] at h5;rw [List.append_assoc];exact h5⟩⟩
          clear Y2
          go_wp2_with fail
          go_at_fn 221
          refine hs2.mono ?_
          rintro e w4 ⟨rfl,S2',z1,z2,z3,z4⟩
          have ZZ:Aside (Mg7 enc k w0 blk off (ltOf cf) Pl (L++Rr) Q (.returned (.tuple #[])) w4):=FF.out (.returned (.tuple #[])) w4 ⟨rfl,S2',z1,z2,z3,z4⟩
          clear z2 z3 z4 hs2 FF
          go_wp2
          all_goals (go_end0;exact ZZ.out)
         ·have k4a:¬((en:Int) < (b:Int)):=by omega
          have ZZ:Aside (Mg7 enc k w0 blk off (ltOf cf) Pl (L++Rr) Q (.returned (.tuple #[])) wr):=by
           obtain rfl:R2=[]:=List.eq_nil_of_length_eq_zero (by obtain ⟨o1,o2,o3,o4,o5,o6⟩:=U.out;omega)
           have z:=sym_fin hO.out (L1:=L1) (R1:=R1) (S1:=S1) (by rw [←V3.out.1];exact HS.out.1) (by rw [←V3.out.2];exact HS.out.2) V4.out.1 V4.out.2 Y2.out.2.1 Y2.out.2.2.1 (by rw [List.append_nil];exact V1.out.2:Srt (ltOf cf) (L2++[])) (Flt.refl _)
           rw [←V3.out.1,←V3.out.2] at z
           exact ⟨rfl,_,by rw [V3.out.1,V3.out.2];have y1:=Y2.out.1;simp only [List.length_append];omega,z.1,z.2,by have q:=Y2.out.2.2.2;simp only [List.append_assoc,List.nil_append,List.append_nil] at q ⊢;exact q⟩
          clear Y2
          go_wp2
          all_goals (go_end0;exact ZZ.out)
        ·have k3a:¬((mid:Int) < (en:Int)):=by omega
         have ZZ:Aside (Mg7 enc k w0 blk off (ltOf cf) Pl (L++Rr) Q (.returned (.tuple #[])) wr):=by
          obtain rfl:L2=[]:=List.eq_nil_of_length_eq_zero (by obtain ⟨o1,o2,o3,o4,o5,o6⟩:=U.out;omega)
          have z:=sym_fin hO.out (L1:=L1) (R1:=R1) (S1:=S1) (by rw [←V3.out.1];exact HS.out.1) (by rw [←V3.out.2];exact HS.out.2) V4.out.1 V4.out.2 Y2.out.2.1 Y2.out.2.2.1 (by rw [List.nil_append];exact V2.out.2:Srt (ltOf cf) ([]++R2)) (Flt.refl _)
          rw [←V3.out.1,←V3.out.2] at z
          exact ⟨rfl,_,by rw [V3.out.1,V3.out.2];have y1:=Y2.out.1;simp only [List.length_append];omega,z.1,z.2,by have q:=Y2.out.2.2.2;simp only [List.append_assoc,List.nil_append,List.append_nil] at q ⊢;exact q⟩
         clear Y2
         go_wp2
         all_goals (go_end0;exact ZZ.out)
    ·have k0a:¬((st:Int) < (m:Int)):=by omega
     have X1:Aside (SWK enc k w0 blk off (Pl++(L1++(R1++(L2++(R2++Q))))).toArray wr):=by
      obtain rfl:L2=[]:=List.eq_nil_of_length_eq_zero (by obtain ⟨o1,o2,o3,o4,o5,o6⟩:=U.out;omega)
      exact X0.out
     clear X0
     by_cases k1:a < st∧st < mid
     ·have k1a:(a:Int) < (st:Int):=by omega
      have k1b:(st:Int) < (mid:Int):=by omega
      have hs1:=HI.out a st mid Pl L1 R1 (L2++(R2++Q)) wr (by omega) haP.out (by obtain ⟨o1,o2,o3,o4,o5,o6⟩:=U.out;(try simp only [List.length_append]);omega) (by obtain ⟨o1,o2,o3,o4,o5,o6⟩:=U.out;(try simp only [List.length_append]);omega) (by obtain ⟨o1,o2,o3,o4,o5,o6⟩:=U.out;(try simp only [List.length_append]);omega) (by obtain ⟨o1,o2,o3,o4,o5,o6⟩:=U.out;(try simp only [List.length_append]);omega) V1.out.1 V2.out.1 (by obtain ⟨o1,o2,o3,o4,o5,o6⟩:=U.out;(try simp only [List.length_append]);omega) X1.out
      clear X1
      go_wp2_with fail
      go_at_fn 221
      refine hs1.mono ?_
      rintro e w3 ⟨rfl,S1',z1,z2,z3,z4⟩
      have Y1:Aside (Hf enc k w0 blk off (ltOf cf) Pl (L1++R1) (L2++(R2++Q)) w3):=⟨S1',z1,z2,z3,z4⟩
      clear z2 z3 z4 hs1
      obtain ⟨S1,y1,y2,y3,y4⟩:=Y1.out
      rw [List.length_append] at y1
      have Y2:Aside (S1.length=L1.length+R1.length∧Srt (ltOf cf) S1∧Flt (ltOf cf) S1 (L1++R1)∧SWK enc k w0 blk off (Pl++(S1++(L2++(R2++Q)))).toArray w3):=⟨y1,y2,y3,y4⟩
      clear Y1 y1 y2 y3 y4
      by_cases k3:mid < en
      ·have k3a:(mid:Int) < (en:Int):=by omega
       by_cases k4:en < b
       ·have k4a:(en:Int) < (b:Int):=by omega
        have hs2:=HI.out mid en b (Pl++S1) L2 R2 Q w3 (by omega) (by obtain ⟨o1,o2,o3,o4,o5,o6⟩:=U.out;have y1:=Y2.out.1;(try simp only [List.length_append]);omega) (by obtain ⟨o1,o2,o3,o4,o5,o6⟩:=U.out;have y1:=Y2.out.1;(try simp only [List.length_append]);omega) (by obtain ⟨o1,o2,o3,o4,o5,o6⟩:=U.out;have y1:=Y2.out.1;(try simp only [List.length_append]);omega) (by obtain ⟨o1,o2,o3,o4,o5,o6⟩:=U.out;have y1:=Y2.out.1;(try simp only [List.length_append]);omega) (by obtain ⟨o1,o2,o3,o4,o5,o6⟩:=U.out;have y1:=Y2.out.1;(try simp only [List.length_append]);omega) V1.out.2 V2.out.2 (by obtain ⟨o1,o2,o3,o4,o5,o6⟩:=U.out;have y1:=Y2.out.1;(try simp only [List.length_append]);omega) (by rw [List.append_assoc];exact Y2.out.2.2.2)
        have FF:Aside (∀e w',Mg7 enc k w0 blk off (ltOf cf) (Pl++S1) (L2++R2) Q e w'→Mg7 enc k w0 blk off (ltOf cf) Pl (L++Rr) Q e w'):=fun e w' ⟨h1,S2,h2,h3,h4,h5⟩=>⟨h1,S1++S2,by rw [V3.out.1,V3.out.2];have y1:=Y2.out.1;simp only [List.length_append] at h2 ⊢;omega,by
         have z:=sym_fin hO.out (L1:=L1) (L2:=L2) (R1:=R1) (R2:=R2) (S1:=S1) (S2:=S2) (by rw [←V3.out.1];exact HS.out.1) (by rw [←V3.out.2];exact HS.out.2) V4.out.1 V4.out.2 Y2.out.2.1 Y2.out.2.2.1 h3 h4
         rw [←V3.out.1,←V3.out.2] at z
         exact ⟨z.1,z.2,by rw [List.append_assoc] at h5;rw [List.append_assoc];exact h5⟩⟩
        clear Y2
        go_wp2_with fail
        go_at_fn 221
        refine hs2.mono ?_
        rintro e w4 ⟨rfl,S2',z1,z2,z3,z4⟩
        have ZZ:Aside (Mg7 enc k w0 blk off (ltOf cf) Pl (L++Rr) Q (.returned (.tuple #[])) w4):=FF.out (.returned (.tuple #[])) w4 ⟨rfl,S2',z1,z2,z3,z4⟩
        clear z2 z3 z4 hs2 FF
        go_wp2
        all_goals (go_end0;exact ZZ.out)
       ·have k4a:¬((en:Int) < (b:Int)):=by omega
        have ZZ:Aside (Mg7 enc k w0 blk off (ltOf cf) Pl (L++Rr) Q (.returned (.tuple #[])) w3):=by
         obtain rfl:R2=[]:=List.eq_nil_of_length_eq_zero (by obtain ⟨o1,o2,o3,o4,o5,o6⟩:=U.out;omega)
         have z:=sym_fin hO.out (L1:=L1) (R1:=R1) (S1:=S1) (by rw [←V3.out.1];exact HS.out.1) (by rw [←V3.out.2];exact HS.out.2) V4.out.1 V4.out.2 Y2.out.2.1 Y2.out.2.2.1 (by rw [List.append_nil];exact V1.out.2:Srt (ltOf cf) (L2++[])) (Flt.refl _)
         rw [←V3.out.1,←V3.out.2] at z
         exact ⟨rfl,_,by rw [V3.out.1,V3.out.2];have y1:=Y2.out.1;simp only [List.length_append];omega,z.1,z.2,by have q:=Y2.out.2.2.2;simp only [List.append_assoc,List.nil_append,List.append_nil] at q ⊢;exact q⟩
        clear Y2
        go_wp2
        all_goals (go_end0;exact ZZ.out)
      ·have k3a:¬((mid:Int) < (en:Int)):=by omega
       have ZZ:Aside (Mg7 enc k w0 blk off (ltOf cf) Pl (L++Rr) Q (.returned (.tuple #[])) w3):=by
        obtain rfl:L2=[]:=List.eq_nil_of_length_eq_zero (by obtain ⟨o1,o2,o3,o4,o5,o6⟩:=U.out;omega)
        have z:=sym_fin hO.out (L1:=L1) (R1:=R1) (S1:=S1) (by rw [←V3.out.1];exact HS.out.1) (by rw [←V3.out.2];exact HS.out.2) V4.out.1 V4.out.2 Y2.out.2.1 Y2.out.2.2.1 (by rw [List.nil_append];exact V2.out.2:Srt (ltOf cf) ([]++R2)) (Flt.refl _)
        rw [←V3.out.1,←V3.out.2] at z
        exact ⟨rfl,_,by rw [V3.out.1,V3.out.2];have y1:=Y2.out.1;simp only [List.length_append];omega,z.1,z.2,by have q:=Y2.out.2.2.2;simp only [List.append_assoc,List.nil_append,List.append_nil] at q ⊢;exact q⟩
       clear Y2
       go_wp2
       all_goals (go_end0;exact ZZ.out)
     ·have Y1:Aside (Hf enc k w0 blk off (ltOf cf) Pl (L1++R1) (L2++(R2++Q)) wr):=⟨L1++R1,rfl,(by
       by_cases h:a < st
       ·obtain rfl:R1=[]:=List.eq_nil_of_length_eq_zero (by obtain ⟨o1,o2,o3,o4,o5,o6⟩:=U.out;omega)
        rw [List.append_nil];exact V1.out.1
       ·obtain rfl:L1=[]:=List.eq_nil_of_length_eq_zero (by obtain ⟨o1,o2,o3,o4,o5,o6⟩:=U.out;omega)
        exact V2.out.1),Flt.refl _,by rw [List.append_assoc];exact X1.out⟩
      clear X1
      by_cases k2:a < st
      ·have k2a:(a:Int) < (st:Int):=by omega
       have k2b:¬((st:Int) < (mid:Int)):=by omega
       obtain ⟨S1,y1,y2,y3,y4⟩:=Y1.out
       rw [List.length_append] at y1
       have Y2:Aside (S1.length=L1.length+R1.length∧Srt (ltOf cf) S1∧Flt (ltOf cf) S1 (L1++R1)∧SWK enc k w0 blk off (Pl++(S1++(L2++(R2++Q)))).toArray wr):=⟨y1,y2,y3,y4⟩
       clear Y1 y1 y2 y3 y4
       by_cases k3:mid < en
       ·have k3a:(mid:Int) < (en:Int):=by omega
        by_cases k4:en < b
        ·have k4a:(en:Int) < (b:Int):=by omega
         have hs2:=HI.out mid en b (Pl++S1) L2 R2 Q wr (by omega) (by obtain ⟨o1,o2,o3,o4,o5,o6⟩:=U.out;have y1:=Y2.out.1;(try simp only [List.length_append]);omega) (by obtain ⟨o1,o2,o3,o4,o5,o6⟩:=U.out;have y1:=Y2.out.1;(try simp only [List.length_append]);omega) (by obtain ⟨o1,o2,o3,o4,o5,o6⟩:=U.out;have y1:=Y2.out.1;(try simp only [List.length_append]);omega) (by obtain ⟨o1,o2,o3,o4,o5,o6⟩:=U.out;have y1:=Y2.out.1;(try simp only [List.length_append]);omega) (by obtain ⟨o1,o2,o3,o4,o5,o6⟩:=U.out;have y1:=Y2.out.1;(try simp only [List.length_append]);omega) V1.out.2 V2.out.2 (by obtain ⟨o1,o2,o3,o4,o5,o6⟩:=U.out;have y1:=Y2.out.1;(try simp only [List.length_append]);omega) (by rw [List.append_assoc];exact Y2.out.2.2.2)
         have FF:Aside (∀e w',Mg7 enc k w0 blk off (ltOf cf) (Pl++S1) (L2++R2) Q e w'→Mg7 enc k w0 blk off (ltOf cf) Pl (L++Rr) Q e w'):=fun e w' ⟨h1,S2,h2,h3,h4,h5⟩=>⟨h1,S1++S2,by rw [V3.out.1,V3.out.2];have y1:=Y2.out.1;simp only [List.length_append] at h2 ⊢;omega,by
          have z:=sym_fin hO.out (L1:=L1) (L2:=L2) (R1:=R1) (R2:=R2) (S1:=S1) (S2:=S2) (by rw [←V3.out.1];exact HS.out.1) (by rw [←V3.out.2];exact HS.out.2) V4.out.1 V4.out.2 Y2.out.2.1 Y2.out.2.2.1 h3 h4
          rw [←V3.out.1,←V3.out.2] at z
          exact ⟨z.1,z.2,by rw [List.append_assoc] at h5;rw [List.append_assoc];exact h5⟩⟩
         clear Y2
         go_wp2_with fail
         go_at_fn 221
         refine hs2.mono ?_
         rintro e w4 ⟨rfl,S2',z1,z2,z3,z4⟩
         have ZZ:Aside (Mg7 enc k w0 blk off (ltOf cf) Pl (L++Rr) Q (.returned (.tuple #[])) w4):=FF.out (.returned (.tuple #[])) w4 ⟨rfl,S2',z1,z2,z3,z4⟩
         clear z2 z3 z4 hs2 FF
         go_wp2
         all_goals (go_end0;exact ZZ.out)
        ·have k4a:¬((en:Int) < (b:Int)):=by omega
         have ZZ:Aside (Mg7 enc k w0 blk off (ltOf cf) Pl (L++Rr) Q (.returned (.tuple #[])) wr):=by
          obtain rfl:R2=[]:=List.eq_nil_of_length_eq_zero (by obtain ⟨o1,o2,o3,o4,o5,o6⟩:=U.out;omega)
          have z:=sym_fin hO.out (L1:=L1) (R1:=R1) (S1:=S1) (by rw [←V3.out.1];exact HS.out.1) (by rw [←V3.out.2];exact HS.out.2) V4.out.1 V4.out.2 Y2.out.2.1 Y2.out.2.2.1 (by rw [List.append_nil];exact V1.out.2:Srt (ltOf cf) (L2++[])) (Flt.refl _)
          rw [←V3.out.1,←V3.out.2] at z
          exact ⟨rfl,_,by rw [V3.out.1,V3.out.2];have y1:=Y2.out.1;simp only [List.length_append];omega,z.1,z.2,by have q:=Y2.out.2.2.2;simp only [List.append_assoc,List.nil_append,List.append_nil] at q ⊢;exact q⟩
         clear Y2
         go_wp2
         all_goals (go_end0;exact ZZ.out)
       ·have k3a:¬((mid:Int) < (en:Int)):=by omega
        have ZZ:Aside (Mg7 enc k w0 blk off (ltOf cf) Pl (L++Rr) Q (.returned (.tuple #[])) wr):=by
         obtain rfl:L2=[]:=List.eq_nil_of_length_eq_zero (by obtain ⟨o1,o2,o3,o4,o5,o6⟩:=U.out;omega)
         have z:=sym_fin hO.out (L1:=L1) (R1:=R1) (S1:=S1) (by rw [←V3.out.1];exact HS.out.1) (by rw [←V3.out.2];exact HS.out.2) V4.out.1 V4.out.2 Y2.out.2.1 Y2.out.2.2.1 (by rw [List.nil_append];exact V2.out.2:Srt (ltOf cf) ([]++R2)) (Flt.refl _)
         rw [←V3.out.1,←V3.out.2] at z
         exact ⟨rfl,_,by rw [V3.out.1,V3.out.2];have y1:=Y2.out.1;simp only [List.length_append];omega,z.1,z.2,by have q:=Y2.out.2.2.2;simp only [List.append_assoc,List.nil_append,List.append_nil] at q ⊢;exact q⟩
        clear Y2
        go_wp2
        all_goals (go_end0;exact ZZ.out)
      ·have k2a:¬((a:Int) < (st:Int)):=by omega
       obtain ⟨S1,y1,y2,y3,y4⟩:=Y1.out
       rw [List.length_append] at y1
       have Y2:Aside (S1.length=L1.length+R1.length∧Srt (ltOf cf) S1∧Flt (ltOf cf) S1 (L1++R1)∧SWK enc k w0 blk off (Pl++(S1++(L2++(R2++Q)))).toArray wr):=⟨y1,y2,y3,y4⟩
       clear Y1 y1 y2 y3 y4
       by_cases k3:mid < en
       ·have k3a:(mid:Int) < (en:Int):=by omega
        by_cases k4:en < b
        ·have k4a:(en:Int) < (b:Int):=by omega
         have hs2:=HI.out mid en b (Pl++S1) L2 R2 Q wr (by omega) (by obtain ⟨o1,o2,o3,o4,o5,o6⟩:=U.out;have y1:=Y2.out.1;(try simp only [List.length_append]);omega) (by obtain ⟨o1,o2,o3,o4,o5,o6⟩:=U.out;have y1:=Y2.out.1;(try simp only [List.length_append]);omega) (by obtain ⟨o1,o2,o3,o4,o5,o6⟩:=U.out;have y1:=Y2.out.1;(try simp only [List.length_append]);omega) (by obtain ⟨o1,o2,o3,o4,o5,o6⟩:=U.out;have y1:=Y2.out.1;(try simp only [List.length_append]);omega) (by obtain ⟨o1,o2,o3,o4,o5,o6⟩:=U.out;have y1:=Y2.out.1;(try simp only [List.length_append]);omega) V1.out.2 V2.out.2 (by obtain ⟨o1,o2,o3,o4,o5,o6⟩:=U.out;have y1:=Y2.out.1;(try simp only [List.length_append]);omega) (by rw [List.append_assoc];exact Y2.out.2.2.2)
         have FF:Aside (∀e w',Mg7 enc k w0 blk off (ltOf cf) (Pl++S1) (L2++R2) Q e w'→Mg7 enc k w0 blk off (ltOf cf) Pl (L++Rr) Q e w'):=fun e w' ⟨h1,S2,h2,h3,h4,h5⟩=>⟨h1,S1++S2,by rw [V3.out.1,V3.out.2];have y1:=Y2.out.1;simp only [List.length_append] at h2 ⊢;omega,by
          have z:=sym_fin hO.out (L1:=L1) (L2:=L2) (R1:=R1) (R2:=R2) (S1:=S1) (S2:=S2) (by rw [←V3.out.1];exact HS.out.1) (by rw [←V3.out.2];exact HS.out.2) V4.out.1 V4.out.2 Y2.out.2.1 Y2.out.2.2.1 h3 h4
          rw [←V3.out.1,←V3.out.2] at z
          exact ⟨z.1,z.2,by rw [List.append_assoc] at h5;rw [List.append_assoc];exact h5⟩⟩
         clear Y2
         go_wp2_with fail
         go_at_fn 221
         refine hs2.mono ?_
         rintro e w4 ⟨rfl,S2',z1,z2,z3,z4⟩
         have ZZ:Aside (Mg7 enc k w0 blk off (ltOf cf) Pl (L++Rr) Q (.returned (.tuple #[])) w4):=FF.out (.returned (.tuple #[])) w4 ⟨rfl,S2',z1,z2,z3,z4⟩
         clear z2 z3 z4 hs2 FF
         go_wp2
         all_goals (go_end0;exact ZZ.out)
        ·have k4a:¬((en:Int) < (b:Int)):=by omega
         have ZZ:Aside (Mg7 enc k w0 blk off (ltOf cf) Pl (L++Rr) Q (.returned (.tuple #[])) wr):=by
          obtain rfl:R2=[]:=List.eq_nil_of_length_eq_zero (by obtain ⟨o1,o2,o3,o4,o5,o6⟩:=U.out;omega)
          have z:=sym_fin hO.out (L1:=L1) (R1:=R1) (S1:=S1) (by rw [←V3.out.1];exact HS.out.1) (by rw [←V3.out.2];exact HS.out.2) V4.out.1 V4.out.2 Y2.out.2.1 Y2.out.2.2.1 (by rw [List.append_nil];exact V1.out.2:Srt (ltOf cf) (L2++[])) (Flt.refl _)
          rw [←V3.out.1,←V3.out.2] at z
          exact ⟨rfl,_,by rw [V3.out.1,V3.out.2];have y1:=Y2.out.1;simp only [List.length_append];omega,z.1,z.2,by have q:=Y2.out.2.2.2;simp only [List.append_assoc,List.nil_append,List.append_nil] at q ⊢;exact q⟩
         clear Y2
         go_wp2
         all_goals (go_end0;exact ZZ.out)
       ·have k3a:¬((mid:Int) < (en:Int)):=by omega
        have ZZ:Aside (Mg7 enc k w0 blk off (ltOf cf) Pl (L++Rr) Q (.returned (.tuple #[])) wr):=by
         obtain rfl:L2=[]:=List.eq_nil_of_length_eq_zero (by obtain ⟨o1,o2,o3,o4,o5,o6⟩:=U.out;omega)
         have z:=sym_fin hO.out (L1:=L1) (R1:=R1) (S1:=S1) (by rw [←V3.out.1];exact HS.out.1) (by rw [←V3.out.2];exact HS.out.2) V4.out.1 V4.out.2 Y2.out.2.1 Y2.out.2.2.1 (by rw [List.nil_append];exact V2.out.2:Srt (ltOf cf) ([]++R2)) (Flt.refl _)
         rw [←V3.out.1,←V3.out.2] at z
         exact ⟨rfl,_,by rw [V3.out.1,V3.out.2];have y1:=Y2.out.1;simp only [List.length_append];omega,z.1,z.2,by have q:=Y2.out.2.2.2;simp only [List.append_assoc,List.nil_append,List.append_nil] at q ⊢;exact q⟩
        clear Y2
        go_wp2
        all_goals (go_end0;exact ZZ.out)
end Go.Proofs.YtboinnjncaehkaaGreatDoor
namespace Go.Proofs.YtboinnjncaehkaaGreatDoor
open Go.RowKit Go.Sort Go.Lib
variable {P:Program} {α:Type} [Inhabited α] {k:Nat}
theorem sym_any (L_:SS P k) (enc:α→List Value) (cf:α→α→Int) (hO:SWO (ltOf cf)) (g:Nat) (cb:Array Value) (eg:∀args w,(callFunc g args).run P w=.ok (.enter g args) w) (blk off cap N:Nat) (d0:Array α) (w0:World) (hcmp:CmpLays P g cb enc k cf blk off d0.size w0) (h0:d0.size=N) (R:RowK enc k w0 blk off d0) (hsz:N < 4611686018427387904):∀n,SymC P enc k cf g cb blk off cap N w0 n
 | 0=>fun a m b Pl L R Q w h=>absurd h (Nat.not_lt_zero _)
 | n+1=>fun a m b Pl L Rr Q w h ha hm hb hl hr hLs hRs hN S=>by
  have IH:SymC P enc k cf g cb blk off cap N w0 (b - a):=fun a' m' b' Pl' L' R' Q' w' h'=>sym_any L_ enc cf hO g cb eg blk off cap N d0 w0 hcmp h0 R hsz n a' m' b' Pl' L' R' Q' w' (by omega)
  by_cases h1:L.length=1
  ·obtain ⟨x,rfl⟩:=List.length_eq_one_iff.1 h1
   exact sym_left L_ enc cf hO g cb eg blk off cap a m b N d0 w0 w hcmp x Pl Rr Q ha hm hb hRs hN h0 R S hsz
  ·by_cases h2:Rr.length=1
   ·obtain ⟨y,rfl⟩:=List.length_eq_one_iff.1 h2
    exact sym_right L_ enc cf hO g cb eg blk off cap a m b N d0 w0 w hcmp y Pl L Q ha hm hb (by omega) hLs hN h0 R S hsz
   ·by_cases h3:(a+b) / 2 < m
    ·exact sym_more1 L_ enc cf hO g cb eg blk off cap a m b N d0 w0 w hcmp Pl L Rr Q ha hm hb (by omega) (by omega) hLs hRs hN h0 R S hsz IH h3
    ·exact sym_more2 L_ enc cf hO g cb eg blk off cap a m b N d0 w0 w hcmp Pl L Rr Q ha hm hb (by omega) (by omega) hLs hRs hN h0 R S hsz IH h3
end Go.Proofs.YtboinnjncaehkaaGreatDoor
