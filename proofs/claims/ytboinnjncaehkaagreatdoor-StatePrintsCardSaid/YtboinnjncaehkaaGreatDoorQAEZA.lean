/- What the laws rest on: P7y, Str, CutP, StzP, Deep, StrRow. -/
import Derived.WalkKit
import Derived.Lib.Hide
import Derived.Maps.AppendAt
import Derived.OwnWalk
import Derived.Below
import Derived.OneCell
import Derived.BigQuiet
import Derived.RangeFuncOwn
import Derived.OwnWalkIn
import Derived.Lib.Join
import Derived.Laws.IdiomStrings
import Derived.Test.YtboinnjncaehkaaGreatDoorQADZA
set_option maxRecDepth 100000
set_option linter.unusedVariables false
set_option linter.unusedSimpArgs false
namespace Go.Proofs.YtboinnjncaehkaaGreatDoor
open Go.RowKit Go.Sort Go.Lib
variable {P:Program} {α:Type} [Inhabited α] {k:Nat}
def InsC (P:Program) (enc:α→List Value) (k:Nat) (cf:α→α→Int) (g:Nat) (cb:Array Value) (blk off cap N:Nat) (w0:World):Prop:=
 ∀(a b:Nat) (Pl X Q:List α) (w:World),a=Pl.length→b=Pl.length+X.length→N=(Pl++(X++Q)).length→SWK enc k w0 blk off (Pl++(X++Q)).toArray w→
  Calls P 110 #[.slice (some ⟨blk,off,none⟩) N cap,.int .i64 a,.int .i64 b,.func (.func g) #[] cb] w (Mg7 enc k w0 blk off (ltOf cf) Pl X Q)
def StbQ (enc:α→List Value) (k:Nat) (w0:World) (blk off:Nat) (lt:α→α→Bool) (X0:List α) (e:Ending) (w':World):Prop:=
 e=.returned (.tuple #[])∧∃Z:List α,Z.length=X0.length∧Srt lt Z∧Flt lt Z X0∧SWK enc k w0 blk off Z.toArray w'
set_option maxHeartbeats 32000000 in
theorem stb_any (L_:SS P k) (enc:α→List Value) (cf:α→α→Int) (hO:SWO (ltOf cf)) (g:Nat) (cb:Array Value) (eg:∀args w,(callFunc g args).run P w=.ok (.enter g args) w) (blk off cap N:Nat) (d0:Array α) (w0 w:World) (hcmp:CmpLays P g cb enc k cf blk off d0.size w0) (h0:d0.size=N) (R:RowK enc k w0 blk off d0) (hsz:N < 1000000)
  (hie:∀args w,(callFunc 110 args).run P w=.ok (.enter 110 args) w) (HIN:InsC P enc k cf g cb blk off cap N w0) (X0:List α) (hN:N=X0.length) (S:SWK enc k w0 blk off X0.toArray w) :
  Calls P 193 #[.slice (some ⟨blk,off,none⟩) N cap,.int .i64 N,.func (.func g) #[] cb] w (StbQ enc k w0 blk off (ltOf cf) X0):=by
 have hsz':=hsz
 replace hsz:N < 4611686018427387904:=by omega
 have hNl:X0.length=N:=hN.symm
 have mixed:=L_.mixed
 have t0:=L_.t0;have a0:=L_.a0;have z0:=L_.z0;have v0:=L_.v0
 have t3:=L_.t3;have a3:=L_.a3;have z3:=L_.z3;have v3:=L_.v3
 have t4:=L_.t4;have a4:=L_.a4;have z4:=L_.z4;have v4:=L_.v4
 have t23:=L_.t23;have a23:=L_.a23;have z23:=L_.z23;have v23:=L_.v23
 have t62:=L_.t62;have a62:=L_.a62;have z62:=L_.z62;have v62:=L_.v62
 have t97:=L_.t97;have a97:=L_.a97;have z97:=L_.z97;have v97:=L_.v97
 have aE:=L_.aE;have zE:=L_.zE
 have eY:∀args w,(callFunc 221 args).run P w=.ok (.enter 221 args) w:=enters_of L_.fsy (by kernel_rfl) rfl
 have eI:∀args w,(callFunc 110 args).run P w=.ok (.enter 110 args) w:=hie
 have HNL:Aside (X0.length=N):=hNl
 have HI:Aside _:=HIN
 have HY:Aside (∀n,SymC P enc k cf g cb blk off cap N w0 n):=fun n=>sym_any L_ enc cf hO g cb eg blk off cap N d0 w0 hcmp h0 R hsz n
 have I0:Aside (∃(D T:List α),D.length=0∧D.length+T.length=N∧Ful7 (ltOf cf) 20 D∧Flt (ltOf cf) (D++T) X0∧SWK enc k w0 blk off (D++T).toArray w):=⟨[],X0,rfl,by simp [hNl],Ful7.nil _,Flt.refl _,S⟩
 clear hcmp hie HIN S hN hNl hO
 go_enter L_.fst,Tryz.ntmps193
 go_wp2
 go_loopg [7,8] N (fun kx s7 s8 wr=>∃a:Nat,s7=.int .i64 a∧s8=.int .i64 ((a:Int)+20)∧a≤N∧N - a≤kx∧Aside (∃(D T:List α),D.length=a∧D.length+T.length=N∧Ful7 (ltOf cf) 20 D∧Flt (ltOf cf) (D++T) X0∧SWK enc k w0 blk off (D++T).toArray wr))
 case atStart=>exact ⟨0,rfl,rfl,Nat.zero_le _,Nat.le_refl _,I0⟩
 case round=>
  clear I0
  obtain ⟨a,rfl,rfl,haN,hkx,I1⟩:=hrel
  have w1:IntKind.i64.wrap ((a:Int)+20)=(a:Int)+20:=by rw [IntKind.wrap_i64];omega
  have w2':IntKind.i64.wrap ((a:Int)+20+20)=(a:Int)+20+20:=by rw [IntKind.wrap_i64];omega
  by_cases hb:a+20≤N
  ·have hbz:(a:Int)+20≤(N:Int):=by omega
   obtain ⟨D,T,d1,d2,d3,d4,d5⟩:=I1.out
   have hc:=HI.out a (a+20) D (T.take 20) (T.drop 20) wr d1.symm (by rw [List.length_take];omega) (by simp only [List.length_append,List.length_take,List.length_drop];omega) (by rw [List.take_append_drop];exact d5)
   have NX:Aside (∀(w':World) (Z:List α),Z.length=(T.take 20).length→Srt (ltOf cf) Z→Flt (ltOf cf) Z (T.take 20)→SWK enc k w0 blk off (D++(Z++T.drop 20)).toArray w'→∃(D T:List α),D.length=a+20∧D.length+T.length=N∧Ful7 (ltOf cf) 20 D∧Flt (ltOf cf) (D++T) X0∧SWK enc k w0 blk off (D++T).toArray w'):=fun w' Z z1 z2 z3 z4=>by
    rw [List.length_take] at z1
    refine ⟨D++Z,T.drop 20,by rw [List.length_append];omega,by rw [List.length_append,List.length_drop];omega,d3.more (by omega) z2,?_,by rw [List.append_assoc];exact z4⟩
    rw [List.append_assoc]
    refine ((Flt.refl D).app (z3.app (Flt.refl _))).trans ?_
    rw [List.take_append_drop];exact d4
   generalize T.take 20=X1 at hc NX
   generalize T.drop 20=T1 at hc NX
   have e20:((a+20:Nat):Int)=(a:Int)+20:=by omega
   rw [e20] at hc
   clear I1 d1 d2 d3 d4 d5 e20
   go_wp2_with (go_at_fn 110;refine hc.mono ?_;rintro e w3 ⟨rfl,Z,z1,z2,z3,z4⟩)
   have I2:Aside _:=NX.out w3 Z z1 z2 z3 z4
   clear z1 z2 z3 z4 hc NX
   go_wp2
   go_roundg (N - (a+20))
   case measure=>omega
   case rel=>exact ⟨a+20,by first|rfl|(congr 1;omega),by first|rfl|(congr 1;omega),hb,Nat.le_refl _,I2⟩
  ·have hbz:¬((a:Int)+20≤(N:Int)):=by omega
   obtain ⟨D,T,d1,d2,d3,d4,d5⟩:=I1.out
   have hc:=HI.out a N D T [] wr d1.symm (by omega) (by simp only [List.length_append,List.length_nil];omega) (by rw [List.append_nil];exact d5)
   have NX:Aside (∀(w':World) (Z:List α),Z.length=T.length→Srt (ltOf cf) Z→Flt (ltOf cf) Z T→SWK enc k w0 blk off (D++(Z++[])).toArray w'→∃Lc:List α,Lc.length=N∧Chk (ltOf cf) 20 Lc∧Flt (ltOf cf) Lc X0∧SWK enc k w0 blk off Lc.toArray w'):=fun w' Z z1 z2 z3 z4=>
    ⟨D++Z,by rw [List.length_append];omega,⟨D,Z,rfl,d3,z2,by omega⟩,((Flt.refl D).app z3).trans d4,by rw [List.append_nil] at z4;exact z4⟩
   clear I1 d1 d2 d3 d4 d5
   go_wp2_with (go_at_fn 110;refine hc.mono ?_;rintro e w3 ⟨rfl,Z,z1,z2,z3,z4⟩)
   have I2:Aside _:=NX.out w3 Z z1 z2 z3 z4
   clear z1 z2 z3 z4 hc NX w1 w2' hbz
   go_wp2
   go_loopg [6] (2*N+20) (fun kx s6 wr=>∃bs:Nat,s6=.int .i64 bs∧0 < bs∧bs≤2*N+20∧2*N+20 - bs≤kx∧Aside (∃Lc:List α,Lc.length=N∧Chk (ltOf cf) bs Lc∧Flt (ltOf cf) Lc X0∧SWK enc k w0 blk off Lc.toArray wr))
   case atStart=>exact ⟨20,rfl,by omega,by omega,by omega,I2⟩
   case round=>
    clear I2
    obtain ⟨bs,rfl,hb0,hb1,hkx2,I3⟩:=hrel
    by_cases hbn:bs < N
    ·have hbnz:(bs:Int) < (N:Int):=by omega
     obtain ⟨b2,hb2⟩:∃b2:Nat,b2=2*bs:=⟨_,rfl⟩
     have m1:2*(bs:Int)=(b2:Int):=by omega
     have m2:(bs:Int)*2=(b2:Int):=by omega
     have m3:IntKind.i64.wrap (2*(bs:Int))=2*(bs:Int):=by rw [IntKind.wrap_i64];omega
     have m4:IntKind.i64.wrap ((bs:Int)*2)=(bs:Int)*2:=by rw [IntKind.wrap_i64];omega
     have m5:IntKind.i64.wrap (b2:Int)=(b2:Int):=by rw [IntKind.wrap_i64];omega
     have b21:b2≤bs+bs:=by omega
     have b22:bs+bs≤b2:=by omega
     have J0:Aside (∃(D T:List α),D.length=0∧D.length+T.length=N∧Ful7 (ltOf cf) b2 D∧Chk (ltOf cf) bs T∧Flt (ltOf cf) (D++T) X0∧SWK enc k w0 blk off (D++T).toArray wr):=by
      obtain ⟨Lc,l1,l2,l3,l4⟩:=I3.out
      exact ⟨[],Lc,rfl,by simp [l1],Ful7.nil _,l2,l3,l4⟩
     clear I3 hb2
     go_wp2
     go_loopg [7,8] N (fun kx s7 s8 wr=>∃a:Nat,s7=.int .i64 a∧s8=.int .i64 ((a:Int)+(b2:Int))∧a≤N∧N - a≤kx∧Aside (∃(D T:List α),D.length=a∧D.length+T.length=N∧Ful7 (ltOf cf) b2 D∧Chk (ltOf cf) bs T∧Flt (ltOf cf) (D++T) X0∧SWK enc k w0 blk off (D++T).toArray wr))
     case atStart=>exact ⟨0,rfl,by first|rfl|(congr 1;omega),Nat.zero_le _,Nat.le_refl _,J0⟩
     case round=>
      clear J0
      obtain ⟨a,rfl,rfl,haN,hkx3,J1⟩:=hrel
      have w1:IntKind.i64.wrap ((a:Int)+(b2:Int))=(a:Int)+(b2:Int):=by rw [IntKind.wrap_i64];omega
      have w2':IntKind.i64.wrap ((a:Int)+(bs:Int))=(a:Int)+(bs:Int):=by rw [IntKind.wrap_i64];omega
      have w3':IntKind.i64.wrap ((a:Int)+(b2:Int)+(b2:Int))=(a:Int)+(b2:Int)+(b2:Int):=by rw [IntKind.wrap_i64];omega
      by_cases hb:a+b2≤N
      ·have hbz:(a:Int)+(b2:Int)≤(N:Int):=by omega
       obtain ⟨D,T,d1,d2,d3,d4,d5,d6⟩:=J1.out
       obtain ⟨X1,X2,T',rfl,x1,x2,x3,x4,x5⟩:=d4.two (by omega)
       simp only [List.length_append] at d2
       have hc:=HY.out (b2+1) a (a+bs) (a+b2) D X1 X2 T' wr (by omega) d1.symm (by omega) (by omega) (by omega) (by omega) x3 x4 (by simp only [List.length_append];omega) (by rw [List.append_assoc] at d6;exact d6)
       have NX:Aside (∀(w':World) (Z:List α),Z.length=(X1++X2).length→Srt (ltOf cf) Z→Flt (ltOf cf) Z (X1++X2)→SWK enc k w0 blk off (D++(Z++T')).toArray w'→∃(D T:List α),D.length=a+b2∧D.length+T.length=N∧Ful7 (ltOf cf) b2 D∧Chk (ltOf cf) bs T∧Flt (ltOf cf) (D++T) X0∧SWK enc k w0 blk off (D++T).toArray w'):=fun w' Z z1 z2 z3 z4=>by
        rw [List.length_append] at z1
        exact ⟨D++Z,T',by rw [List.length_append];omega,by rw [List.length_append];omega,d3.more (by omega) z2,x5,by
         rw [List.append_assoc]
         exact ((Flt.refl D).app (z3.app (Flt.refl _))).trans d5,by rw [List.append_assoc];exact z4⟩
       have e1:((a+bs:Nat):Int)=(a:Int)+(bs:Int):=by omega
       have e2:((a+b2:Nat):Int)=(a:Int)+(b2:Int):=by omega
       rw [e1,e2] at hc
       generalize X1++X2=X12 at hc NX
       clear J1 d1 d2 d3 d4 d5 d6 x1 x2 x3 x4 x5 e1 e2
       go_wp2_with (go_at_fn 221;refine hc.mono ?_;rintro e w3 ⟨rfl,Z,z1,z2,z3,z4⟩)
       have J2:Aside _:=NX.out w3 Z z1 z2 z3 z4
       clear z1 z2 z3 z4 hc NX
       go_wp2
       go_roundg (N - (a+b2))
       case measure=>omega
       case rel=>exact ⟨a+b2,by first|rfl|(congr 1;omega),by first|rfl|(congr 1;omega),hb,Nat.le_refl _,J2⟩
      ·have hbz:¬((a:Int)+(b2:Int)≤(N:Int)):=by omega
       by_cases hm:a+bs < N
       ·have hmz:(a:Int)+(bs:Int) < (N:Int):=by omega
        obtain ⟨D,T,d1,d2,d3,d4,d5,d6⟩:=J1.out
        obtain ⟨X1,X,rfl,x1,x2,x3,x4⟩:∃X1 X,T=X1++X∧X1.length=bs∧X.length < bs∧Srt (ltOf cf) X1∧Srt (ltOf cf) X:=by
         rcases d4.few (by omega) with h|h
         ·exact h
         ·exfalso;have:=h.1;omega
        simp only [List.length_append] at d2
        have hc:=HY.out (b2+1) a (a+bs) N D X1 X [] wr (by omega) d1.symm (by omega) (by omega) (by omega) (by omega) x3 x4 (by simp only [List.length_append,List.length_nil];omega) (by rw [List.append_nil];exact d6)
        have NX:Aside (∀(w':World) (Z:List α),Z.length=(X1++X).length→Srt (ltOf cf) Z→Flt (ltOf cf) Z (X1++X)→SWK enc k w0 blk off (D++(Z++[])).toArray w'→∃Lc:List α,Lc.length=N∧Chk (ltOf cf) b2 Lc∧Flt (ltOf cf) Lc X0∧SWK enc k w0 blk off Lc.toArray w'):=fun w' Z z1 z2 z3 z4=>by
         rw [List.length_append] at z1
         exact ⟨D++Z,by rw [List.length_append];omega,⟨D,Z,rfl,d3,z2,by omega⟩,((Flt.refl D).app z3).trans d5,by rw [List.append_nil] at z4;exact z4⟩
        have e1:((a+bs:Nat):Int)=(a:Int)+(bs:Int):=by omega
        rw [e1] at hc
        generalize X1++X=X12 at hc NX
        clear J1 d1 d2 d3 d4 d5 d6 x1 x2 x3 x4 e1
        go_wp2_with (go_at_fn 221;refine hc.mono ?_;rintro e w3 ⟨rfl,Z,z1,z2,z3,z4⟩)
        have J2:Aside _:=NX.out w3 Z z1 z2 z3 z4
        clear z1 z2 z3 z4 hc NX
        go_wp2
        go_roundg (2*N+20 - b2)
        case measure=>omega
        case rel=>exact ⟨b2,by first|rfl|(congr 1;omega),by omega,by omega,Nat.le_refl _,J2⟩
       ·have hmz:¬((a:Int)+(bs:Int) < (N:Int)):=by omega
        have J2:Aside (∃Lc:List α,Lc.length=N∧Chk (ltOf cf) b2 Lc∧Flt (ltOf cf) Lc X0∧SWK enc k w0 blk off Lc.toArray wr):=by
         obtain ⟨D,T,d1,d2,d3,d4,d5,d6⟩:=J1.out
         refine ⟨D++T,by rw [List.length_append];omega,⟨D,T,rfl,d3,?_,by omega⟩,d5,d6⟩
         exact d4.done (by omega)
        clear J1
        go_wp2
        go_roundg (2*N+20 - b2)
        case measure=>omega
        case rel=>exact ⟨b2,by first|rfl|(congr 1;omega),by omega,by omega,Nat.le_refl _,J2⟩
    ·have hbnz:¬((bs:Int) < (N:Int)):=by omega
     have FIN:Aside (StbQ enc k w0 blk off (ltOf cf) X0 (.returned (.tuple #[])) wr):=by
      obtain ⟨Lc,l1,l2,l3,l4⟩:=I3.out
      exact ⟨rfl,Lc,by rw [l1];exact HNL.out.symm,l2.done (by omega),l3,l4⟩
     clear I3
     go_wp2
     go_end0
     exact FIN.out
set_option maxHeartbeats 4000000 in
theorem sst_any (L_:SS P k) (enc:α→List Value) (cf:α→α→Int) (hO:SWO (ltOf cf)) (g:Nat) (cb:Array Value) (eg:∀args w,(callFunc g args).run P w=.ok (.enter g args) w) (blk off cap N:Nat) (d0:Array α) (w0 w:World) (hcmp:CmpLays P g cb enc k cf blk off d0.size w0) (h0:d0.size=N) (R:RowK enc k w0 blk off d0) (hsz:N < 1000000)
  (hie:∀args w,(callFunc 110 args).run P w=.ok (.enter 110 args) w) (HIN:InsC P enc k cf g cb blk off cap N w0) (X0:List α) (hN:N=X0.length) (S:SWK enc k w0 blk off X0.toArray w) :
  Calls P 151 #[.slice (some ⟨blk,off,none⟩) N cap,.func (.func g) #[] cb] w (StbQ enc k w0 blk off (ltOf cf) X0):=by
 have H:Aside _:=stb_any L_ enc cf hO g cb eg blk off cap N d0 w0 w hcmp h0 R hsz hie HIN X0 hN S
 have mixed:=L_.mixed
 have t0:=L_.t0;have a0:=L_.a0;have z0:=L_.z0;have v0:=L_.v0
 have t3:=L_.t3;have a3:=L_.a3;have z3:=L_.z3;have v3:=L_.v3
 have t4:=L_.t4;have a4:=L_.a4;have z4:=L_.z4;have v4:=L_.v4
 have t23:=L_.t23;have a23:=L_.a23;have z23:=L_.z23;have v23:=L_.v23
 have t62:=L_.t62;have a62:=L_.a62;have z62:=L_.z62;have v62:=L_.v62
 have t97:=L_.t97;have a97:=L_.a97;have z97:=L_.z97;have v97:=L_.v97
 have aE:=L_.aE;have zE:=L_.zE
 have eS:∀args w,(callFunc 193 args).run P w=.ok (.enter 193 args) w:=enters_of L_.fst (by kernel_rfl) rfl
 clear hcmp hie HIN S hN hO
 go_enter L_.fss,Tryz.ntmps151
 go_wp2_with fail
 refine Calls.mono H.out ?_
 rintro e w2 ⟨rfl,Z,z0,z1,z2,z3⟩
 go_wp2
 go_end0
 exact ⟨rfl,Z,z0,z1,z2,z3⟩
end Go.Proofs.YtboinnjncaehkaaGreatDoor
namespace Go.Proofs.YtboinnjncaehkaaGreatDoor
open Go.RowKit
def B (s:ByteArray):List Nat:=s.data.toList.map UInt8.toNat
def mk (l:List Nat):ByteArray:=⟨(l.map UInt8.ofNat).toArray⟩
theorem B_len (s:ByteArray):(B s).length=s.size:=by unfold B;rw [List.length_map,Array.length_toList];rfl
theorem B_lt (s:ByteArray):∀c ∈ B s,c < 256:=by
 intro c hc
 obtain ⟨u,_,rfl⟩:=List.mem_map.1 hc
 exact u.toNat_lt
theorem mk_B (s:ByteArray):mk (B s)=s:=by
 obtain ⟨⟨l⟩⟩:=s
 simp only [mk,B,List.map_map]
 congr 2
 rw [List.map_congr_left (g:=id) (by intro u _;simp),List.map_id]
theorem B_mk {l:List Nat} (h:∀c ∈ l,c < 256):B (mk l)=l:=by
 simp only [mk,B,List.map_map]
 rw [List.map_congr_left (g:=id) (by intro c hc;have:=h c hc;simp;omega),List.map_id]
theorem B_inj {s t:ByteArray} (h:B s=B t):s=t:=by rw [←mk_B s,h,mk_B]
theorem eq_mk {s:ByteArray} {l:List Nat} (h:B s=l):s=mk l:=by rw [←h,mk_B]
theorem B_at (s:ByteArray) (k:Nat) (hk:k < s.size):(B s)[k]?=some s[k].toNat:=by
 unfold B
 rw [List.getElem?_map,List.getElem?_eq_getElem (by rw [Array.length_toList];exact hk)]
 rfl
theorem B_getD (s:ByteArray) (k:Nat) (hk:k < s.size):(B s).getD k 0=s[k].toNat:=by
 rw [List.getD_eq_getElem?_getD,B_at s k hk];rfl
theorem B_drop (s:ByteArray) (k:Nat) (hk:k < s.size):(B s).drop k=s[k].toNat::(B s).drop (k+1):=by
 have h:=B_at s k hk
 have hl:k < (B s).length:=by rw [B_len];exact hk
 rw [List.drop_eq_getElem_cons hl]
 rw [List.getElem?_eq_getElem hl] at h
 injection h with h
 rw [h]
theorem B_drop_end (s:ByteArray) (k:Nat) (hk:s.size≤k):(B s).drop k=[]:=List.drop_eq_nil_of_le (by rw [B_len];exact hk)
theorem B_extract (s:ByteArray) (i j:Nat):B (s.extract i j)=((B s).drop i).take (j - i):=by
 unfold B
 rw [ByteArray.data_extract,Array.toList_extract]
 simp [List.extract,List.map_take,List.map_drop]
theorem B_append (s t:ByteArray):B (s++t)=B s++B t:=by
 unfold B
 rw [ByteArray.data_append,Array.toList_append,List.map_append]
theorem byte_le (s:ByteArray) (k:Nat) (hk:k < s.size):s[k].toNat < 256:=s[k].toNat_lt
def digB (c:Nat):Bool:=decide (48≤c∧c≤57)
def letB (c:Nat):Bool:=decide (97≤c∧c≤122∨65≤c∧c≤90)
def sgn (n:Int):Int:=if n < 0 then -1 else if 0 < n then 1 else 0
theorem toList_data (s:ByteArray):s.toList=s.data.toList:=ByteArray.toList_eq s
theorem strEq (a:List Nat) (s:ByteArray) (h:∀c ∈ a,c < 256):((mk a).toList==s.toList)=decide (a=B s):=by
 rw [Bool.eq_iff_iff,beq_iff_eq,decide_eq_true_eq]
 constructor
 ·intro he
  rw [toList_data,toList_data] at he
  rw [←B_mk h]
  unfold B
  rw [he]
 ·rintro rfl
  rw [mk_B]
def preH (p:List Nat):List (List Nat)→List (List Nat)
 | []=>[p]
 | q::r=>(p++q)::r
def cutBy (c:Nat):List Nat→List (List Nat)
 | []=>[[]]
 | x::l=>if x=c then []::cutBy c l else preH [x] (cutBy c l)
theorem preH_ne (p:List Nat) (L:List (List Nat)):preH p L≠[]:=by cases L<;>simp [preH]
theorem cutBy_ne (c:Nat) (l:List Nat):cutBy c l≠[]:=by
 cases l with
 | nil=>simp [cutBy]
 | cons x l=>unfold cutBy;split;simp;exact preH_ne _ _
theorem preH_nil {L:List (List Nat)} (h:L≠[]):preH [] L=L:=by cases L with
 | nil=>exact absurd rfl h
 | cons q r=>simp [preH]
theorem preH_preH (p q:List Nat) (L:List (List Nat)):preH p (preH q L)=preH (p++q) L:=by cases L<;>simp [preH]
theorem preH_len (p:List Nat) {L:List (List Nat)} (h:L≠[]):(preH p L).length=L.length:=by cases L with
 | nil=>exact absurd rfl h
 | cons q r=>simp [preH]
theorem cutBy_app {c:Nat} {p:List Nat} (h:∀x ∈ p,x≠c) (l:List Nat):cutBy c (p++l)=preH p (cutBy c l):=by
 induction p with
 | nil=>rw [List.nil_append,preH_nil (cutBy_ne _ _)]
 | cons x p ih=>
  rw [List.cons_append]
  conv=>lhs;unfold cutBy
  rw [if_neg (h x (by simp)),ih (fun y hy=>h y (by simp [hy])),preH_preH];rfl
theorem cutBy_none {c:Nat} {p:List Nat} (h:∀x ∈ p,x≠c):cutBy c p=[p]:=by
 have:=cutBy_app h []
 rw [List.append_nil] at this
 rw [this];simp [cutBy,preH]
theorem cutBy_at {c:Nat} {p:List Nat} (h:∀x ∈ p,x≠c) (l:List Nat):cutBy c (p++c::l)=p::cutBy c l:=by
 rw [cutBy_app h]
 conv=>lhs;unfold cutBy
 rw [if_pos rfl];simp [preH]
theorem cutBy_snoc {c:Nat} {x:Nat} (h:x≠c):∀l:List Nat,∃i z,cutBy c l=i++[z]∧cutBy c (l++[x])=i++[z++[x]]
 | []=>⟨[],[],rfl,by simp [cutBy,h,preH]⟩
 | y::l=>by
  obtain ⟨i,z,h1,h2⟩:=cutBy_snoc h l
  rw [List.cons_append]
  unfold cutBy
  rw [h1,h2]
  by_cases hy:y=c
  ·rw [if_pos hy,if_pos hy];exact ⟨[]::i,z,rfl,rfl⟩
  ·rw [if_neg hy,if_neg hy]
   cases i with
   | nil=>exact ⟨[],y::z,rfl,rfl⟩
   | cons a i=>exact ⟨(y::a)::i,z,rfl,rfl⟩
theorem cutBy_mem {c:Nat}:∀{l:List Nat} {p:List Nat},p ∈ cutBy c l→∀x ∈ p,x ∈ l∧x≠c
 | [],p,hp,x,hx=>by simp [cutBy] at hp;subst hp;simp at hx
 | y::l,p,hp,x,hx=>by
  unfold cutBy at hp
  split at hp
  ·rcases List.mem_cons.1 hp with rfl|hp
   ·simp at hx
   ·exact ⟨List.mem_cons_of_mem _ (cutBy_mem hp x hx).1,(cutBy_mem hp x hx).2⟩
  ·rename_i hy
   cases hL:cutBy c l with
   | nil=>exact absurd hL (cutBy_ne _ _)
   | cons q r=>
    rw [hL] at hp
    rcases List.mem_cons.1 hp with rfl|hp
    ·rcases List.mem_cons.1 hx with rfl|hx
     ·exact ⟨by simp,hy⟩
     ·have:=cutBy_mem (c:=c) (l:=l) (p:=q) (by rw [hL];simp) x hx
      exact ⟨List.mem_cons_of_mem _ this.1,this.2⟩
    ·have:=cutBy_mem (c:=c) (l:=l) (p:=p) (by rw [hL];simp [hp]) x hx
     exact ⟨List.mem_cons_of_mem _ this.1,this.2⟩
theorem cutBy_mem_len {c:Nat}:∀{l:List Nat} {p:List Nat},p ∈ cutBy c l→p.length≤l.length
 | [],p,hp=>by simp [cutBy] at hp;subst hp;simp
 | y::l,p,hp=>by
  unfold cutBy at hp
  split at hp
  ·rcases List.mem_cons.1 hp with rfl|hp
   ·simp
   ·have:=cutBy_mem_len hp;simp;omega
  ·cases hL:cutBy c l with
   | nil=>exact absurd hL (cutBy_ne _ _)
   | cons q r=>
    rw [hL] at hp
    rcases List.mem_cons.1 hp with rfl|hp
    ·have:=cutBy_mem_len (c:=c) (l:=l) (p:=q) (by rw [hL];simp)
     simp;omega
    ·have:=cutBy_mem_len (c:=c) (l:=l) (p:=p) (by rw [hL];simp [hp])
     simp;omega
theorem cutBy_len (c:Nat):∀l:List Nat,(cutBy c l).length=l.count c+1
 | []=>by simp [cutBy]
 | y::l=>by
  unfold cutBy
  split
  ·rename_i h;rw [h,List.length_cons,cutBy_len c l,List.count_cons_self]
  ·rename_i h;rw [preH_len _ (cutBy_ne _ _),cutBy_len c l,List.count_cons_of_ne (by simpa using fun e=>h e)]
theorem twl_all {p:Nat→Bool}:∀{l:List Nat} {x:Nat},x ∈ l.takeWhile p→p x=true
 | [],x,h=>by simp at h
 | y::l,x,h=>by
  rw [List.takeWhile_cons] at h
  split at h
  ·rcases List.mem_cons.1 h with rfl|h
   ·assumption
   ·exact twl_all h
  ·simp at h
def joinL (sep:List Nat):List (List Nat)→List Nat
 | []=>[]
 | [x]=>x
 | x::y::r=>x++(sep++joinL sep (y::r))
theorem joinL_snoc (sep:List Nat):∀(l:List (List Nat)) (x:List Nat),joinL sep (l++[x])=if l=[] then x else joinL sep l++(sep++x)
 | [],x=>rfl
 | [y],x=>by simp [joinL]
 | y::z::r,x=>by
  have:=joinL_snoc sep (z::r) x
  rw [if_neg (by simp)] at this
  rw [if_neg (by simp),List.cons_append,List.cons_append]
  simp only [joinL]
  rw [←List.cons_append,this];simp
theorem take_mk (s:ByteArray) (i:Nat):(⟨(s.data.toList.take i).toArray⟩:ByteArray)=mk ((B s).take i):=by
 apply eq_mk;unfold B;rw [←List.map_take]
theorem drop_mk (s:ByteArray) (i:Nat):(⟨(s.data.toList.drop i).toArray⟩:ByteArray)=mk ((B s).drop i):=by
 apply eq_mk;unfold B;rw [←List.map_drop]
structure Fd where
 n:ByteArray
 v:ByteArray
deriving instance DecidableEq for Fd
abbrev Opn:=ByteArray × List (List Nat)
def nmC (c:Nat):Bool:=letB c||digB c||decide (c=45)
def fnB:List Nat→Bool
 | []=>false
 | c::r=>letB c&&r.all nmC&&decide (r.length < 40)
def lowB (l:List Nat):Bool:=l.any fun c=>decide (c < 32)
def joinB (ls:List (List Nat)):ByteArray:=mk (joinL [10] ls)
def clF (f:Opn):Fd:=⟨f.1,joinB f.2⟩
structure PS where
 dn:List (List Fd)
 op:List Opn
def PS.fin (s:PS):PS:=if s.op=[] then s else ⟨s.dn++[s.op.map clF],[]⟩
def onLast (x:List Nat):List Opn→List Opn
 | []=>[]
 | [f]=>[(f.1,f.2++[x])]
 | f::g::r=>f::onLast x (g::r)
def nmOf (l:List Nat):List Nat:=l.takeWhile fun c=>c != 58
def vlOf (l:List Nat):List Nat:=(l.drop ((nmOf l).length+1)).dropWhile fun c=>c==32
def begE (s:PS) (l:List Nat):Int:=
 if (decide (58 ∈ l)&&fnB (nmOf l))=true then
  (if (s.op.any fun f=>decide (f.1=mk (nmOf l)))=true then 7 else if (decide (s.op.length=40)||decide (s.dn.length=200))=true then 8 else 0)
 else 5
def goE (s:PS) (r:List Nat):Int:=if (decide (s.op=[])||decide (r=[]))=true then 5 else 0
def lnE (s:PS) (l:List Nat):Int:=
 if lowB l=true then 5 else match l with
  | []=>0
  | c::r=>if c=32 then goE s r else begE s (c::r)
def lnS (s:PS) (l:List Nat):PS:=
 match l with
  | []=>s.fin
  | c::r=>if c=32 then ⟨s.dn,onLast r s.op⟩ else ⟨s.dn,s.op++[(mk (nmOf (c::r)),[vlOf (c::r)])]⟩
def rnE (s:PS):List (List Nat)→Int
 | []=>0
 | l::r=>if lnE s l=0 then rnE (lnS s l) r else lnE s l
def rnN (s:PS) (k:Nat):List (List Nat)→Nat
 | []=>0
 | l::r=>if lnE s l=0 then rnN (lnS s l) (k+1) r else k+1
def rnS (s:PS):List (List Nat)→PS
 | []=>s
 | l::r=>rnS (lnS s l) r
def ps0:PS:=⟨[],[]⟩
def stE (s:List Nat):Int:=if 60000 < s.length then 9 else rnE ps0 (cutBy 10 s)
def stN (s:List Nat):Nat:=if 60000 < s.length then 0 else rnN ps0 0 (cutBy 10 s)
def stL (s:List Nat):List (List Fd):=if stE s=0 then (rnS ps0 (cutBy 10 s)).fin.dn else []
def getV (st:List Fd) (n:ByteArray):Bool:=st.any fun f=>decide (f.n=n)
structure Fit (s:PS):Prop where
 d:s.dn.length≤200
 o:s.op≠[]→s.dn.length < 200
 f:s.op.length≤40
 l:∀f ∈ s.op,f.2≠[]
 b:∀f ∈ s.op,∀x ∈ f.2,True
theorem onLast_snoc (x:List Nat) (f:Opn):∀i:List Opn,onLast x (i++[f])=i++[(f.1,f.2++[x])]
 | []=>rfl
 | [g]=>rfl
 | g::h::r=>by
  have:=onLast_snoc x f (h::r)
  simp only [List.cons_append,onLast] at this ⊢
  rw [this]
theorem onLast_len (x:List Nat) (l:List Opn):(onLast x l).length=l.length:=by
 rcases List.eq_nil_or_concat l with rfl|⟨i,f,rfl⟩
 ·rfl
 ·rw [List.concat_eq_append,onLast_snoc];simp
theorem fin_closed (s:PS):s.fin.op=[]:=by unfold PS.fin;split;assumption;rfl
theorem fin_of {s:PS} (h:s.op=[]):s.fin=s:=by unfold PS.fin;rw [if_pos h]
theorem fin_len (s:PS) (h:Fit s):s.fin.dn.length≤200:=by
 unfold PS.fin
 split
 ·exact h.d
 ·rename_i hne
  have:=h.o hne
  simp;omega
theorem fit_fin {s:PS} (h:Fit s):Fit s.fin:=by
 refine ⟨fin_len s h,fun e=>absurd (fin_closed s) e,by rw [fin_closed];simp,?_,fun _ _ _ _=>trivial⟩
 rw [fin_closed];simp
theorem fit0:Fit ps0:=⟨by simp [ps0],by simp [ps0],by simp [ps0],by simp [ps0],fun _ _ _ _=>trivial⟩
theorem begE_zero {s:PS} {l:List Nat} (h:begE s l=0):s.op.length≠40∧s.dn.length≠200∧(s.op.any fun f=>decide (f.1=mk (nmOf l)))=false:=by
 unfold begE at h
 split at h
 ·split at h
  ·cases h
  ·rename_i hn
   split at h
   ·cases h
   ·rename_i h2
    rw [Bool.or_eq_true,decide_eq_true_eq,decide_eq_true_eq] at h2
    exact ⟨fun e=>h2 (.inl e),fun e=>h2 (.inr e),Bool.eq_false_iff.2 hn⟩
 ·cases h
theorem fit_line {s:PS} {l:List Nat} (h:Fit s) (h0:lnE s l=0):Fit (lnS s l):=by
 cases l with
 | nil=>exact fit_fin h
 | cons c r=>
  unfold lnE at h0
  split at h0
  ·cases h0
  ·unfold lnS
   simp only at h0 ⊢
   split at h0
   ·rename_i hc
    rw [if_pos hc]
    unfold goE at h0
    split at h0
    ·cases h0
    ·rename_i hg
     simp only [Bool.or_eq_true,decide_eq_true_eq] at hg
     have hne:s.op≠[]:=fun e=>hg (.inl e)
     refine ⟨h.d,fun _=>h.o hne,by simp only [onLast_len];exact h.f,?_,fun _ _ _ _=>trivial⟩
     rcases List.eq_nil_or_concat s.op with e|⟨i,f,e⟩
     ·exact absurd e hne
     ·rw [List.concat_eq_append] at e
      intro g hg'
      simp only [e,onLast_snoc,List.mem_append,List.mem_singleton] at hg'
      rcases hg' with hg'|rfl
      ·exact h.l g (by rw [e];simp [hg'])
      ·simp
   ·rename_i hc
    rw [if_neg hc]
    obtain ⟨h1,h2,_⟩:=begE_zero h0
    have hd:=h.d
    have hf:=h.f
    refine ⟨h.d,fun _=>by simp only;omega,by simp only [List.length_append,List.length_singleton];omega,?_,fun _ _ _ _=>trivial⟩
    intro g hg'
    simp only [List.mem_append,List.mem_singleton] at hg'
    rcases hg' with hg'|rfl
    ·exact h.l g hg'
    ·simp
theorem rnE_ok {s:PS} {l:List Nat} (h0:lnE s l=0) (r:List (List Nat)):rnE s (l::r)=rnE (lnS s l) r:=by
 show (if lnE s l=0 then rnE (lnS s l) r else lnE s l)=_
 rw [if_pos h0]
theorem rnE_no {s:PS} {l:List Nat} (h0:lnE s l≠0) (r:List (List Nat)):rnE s (l::r)=lnE s l:=by
 show (if lnE s l=0 then rnE (lnS s l) r else lnE s l)=_
 rw [if_neg h0]
theorem rnN_ok {s:PS} {l:List Nat} (h0:lnE s l=0) (k:Nat) (r:List (List Nat)):rnN s k (l::r)=rnN (lnS s l) (k+1) r:=by
 show (if lnE s l=0 then rnN (lnS s l) (k+1) r else k+1)=_
 rw [if_pos h0]
theorem rnN_no {s:PS} {l:List Nat} (h0:lnE s l≠0) (k:Nat) (r:List (List Nat)):rnN s k (l::r)=k+1:=by
 show (if lnE s l=0 then rnN (lnS s l) (k+1) r else k+1)=_
 rw [if_neg h0]
theorem rnE_app:∀(a b:List (List Nat)) (s:PS),rnE s a=0→rnE s (a++b)=rnE (rnS s a) b
 | [],_,_,_=>rfl
 | l::a,b,s,h=>by
  by_cases h0:lnE s l=0
  ·rw [rnE_ok h0] at h
   rw [List.cons_append,rnE_ok h0,rnE_app a b _ h];rfl
  ·rw [rnE_no h0] at h
   exact absurd h h0
theorem rnS_app:∀(a b:List (List Nat)) (s:PS),rnS s (a++b)=rnS (rnS s a) b
 | [],_,_=>rfl
 | l::a,b,s=>by rw [List.cons_append];show rnS (lnS s l) (a++b)=_;rw [rnS_app a b];rfl
def pre (d:List (List Fd)) (s:PS):PS:=⟨d++s.dn,s.op⟩
theorem rnN_zero:∀(L:List (List Nat)) (s:PS) (k:Nat),rnE s L=0→rnN s k L=0
 | [],_,_,_=>rfl
 | l::r,s,k,h=>by
  by_cases h0:lnE s l=0
  ·rw [rnE_ok h0] at h
   rw [rnN_ok h0];exact rnN_zero r _ _ h
  ·rw [rnE_no h0] at h
   exact absurd h h0
theorem blk_add (a:Addr) (k:Nat):(a.add k).block=a.block:=by unfold Addr.add;split<;>rfl
theorem belD {N:Nat} {a w:World} (h:Below N a w) (n:Nat):Below N a (w.drewN n):=⟨h.os,h.tape,h.output,h.size,h.block⟩
theorem bel2 {a b c:World} {N:Nat} (h:Below N a b) (k:Below b.heap.size b c):N≤a.heap.size→Below N a c:=fun hn=>h.trans (k.mono (Nat.le_trans hn h.size))
def Dr (w w':World):Prop:=∃q,w'=w.drewN q
theorem Dr.refl (w:World):Dr w w:=⟨0,rfl⟩
theorem Dr.more {w w':World} (h:Dr w w') (n:Nat):Dr w (w'.drewN n):=by obtain ⟨q,rfl⟩:=h;exact ⟨q+n,by rw [World.drewN_drewN]⟩
theorem Dr.below {w w':World} (h:Dr w w') (N:Nat):Below N w w':=by obtain ⟨q,rfl⟩:=h;exact belD (Below.refl _ _) q
theorem Dr.size {w w':World} (h:Dr w w'):w'.heap.size=w.heap.size:=by obtain ⟨q,rfl⟩:=h;rfl
abbrev Rd (α:Type):=World→(Nat→Prop)→α→List Value→Prop
structure Good {α:Type} (E:Rd α) (sz:Nat):Prop where
 keep:∀{w w':World} {S:Nat→Prop} {a:α} {cs:List Value},E w S a cs→(∀b,S b→w'.heap[b]?=w.heap[b]?)→E w' S a cs
 more:∀{w:World} {S S':Nat→Prop} {a:α} {cs:List Value},E w S a cs→(∀b,S b→S' b)→E w S' a cs
 turn:∀{w w':World} {S:Nat→Prop} {a:α} {cs:List Value} {row:Option Nat},E w S a cs→w.grownBy w' row→(∀r,row=some r→∃o:Obj,w.heap[r]?=some o∧o.isCells=false)→E w' S a cs
 len:∀{w:World} {S:Nat→Prop} {a:α} {cs:List Value},E w S a cs→cs.length=sz
 one:∀{w:World} {S:Nat→Prop} {a:α} {cs:List Value},E w S a cs→∀u ∈ cs,u.oneCell'=true
section
variable {α:Type} {E:Rd α} {sz:Nat}
theorem Good.both (g:Good E sz) {w w':World} {S S':Nat→Prop} {a:α} {cs:List Value} (h:E w S a cs) (hk:∀b,S b→w'.heap[b]?=w.heap[b]?) (hm:∀b,S b→S' b):E w' S' a cs:=g.more (g.keep h hk) hm
def rdRow (sz:Nat) (E:Rd α):Rd (List α):=fun w S l cs=>
 ∃A c,cs=[.slice A l.length c]∧l.length≤c∧c≤maxLen∧
  ∀k (hk:k < l.length),∃ad es,A=some ad∧S ad.block∧E w S l[k] es∧es.length=sz∧∀j u,es[j]?=some u→w.cell? (ad.add (k*sz+j))=some u
theorem rdRow_good (g:Good E sz):Good (rdRow sz E) 1 where
 keep:=by
  rintro w w' S l cs ⟨A,c,rfl,h1,h2,h⟩ hk
  refine ⟨A,c,rfl,h1,h2,fun k hk'=>?_⟩
  obtain ⟨ad,es,e,hS,hE,hl,hc⟩:=h k hk'
  refine ⟨ad,es,e,hS,g.keep hE hk,hl,fun j u hu=>?_⟩
  rw [←hc j u hu]
  exact World.cell?_of_block (by rw [blk_add];exact hk _ hS)
 more:=by
  rintro w S S' l cs ⟨A,c,rfl,h1,h2,h⟩ hm
  refine ⟨A,c,rfl,h1,h2,fun k hk'=>?_⟩
  obtain ⟨ad,es,e,hS,hE,hl,hc⟩:=h k hk'
  exact ⟨ad,es,e,hm _ hS,g.more hE hm,hl,hc⟩
 turn:=by
  rintro w w' S l cs row ⟨A,c,rfl,h1,h2,h⟩ hg hr
  refine ⟨A,c,rfl,h1,h2,fun k hk'=>?_⟩
  obtain ⟨ad,es,e,hS,hE,hl,hc⟩:=h k hk'
  exact ⟨ad,es,e,hS,g.turn hE hg hr,hl,fun j u hu=>cell_kept (hc j u hu) hg hr⟩
 len:=by rintro w S l cs ⟨A,c,rfl,_⟩;rfl
 one:=by rintro w S l cs ⟨A,c,rfl,_⟩ u hu;rw [List.mem_singleton.1 hu];rfl
theorem rdRow_nil (w:World) (S:Nat→Prop):rdRow sz E w S [] [.slice none 0 0]:=⟨none,0,rfl,Nat.le_refl _,Nat.zero_le _,fun k hk=>absurd hk (by simp)⟩
def lt_ (N:Nat):Nat→Prop:=fun b=>b < N
theorem Good.below (g:Good E sz) {N:Nat} {w w':World} {a:α} {cs:List Value} (h:E w (lt_ N) a cs) (hb:Below N w w'):E w' (lt_ N) a cs:=g.keep h fun b hb'=>hb.block b hb'
theorem Good.up (g:Good E sz) {N N':Nat} {w:World} {a:α} {cs:List Value} (h:E w (lt_ N) a cs) (hn:N≤N'):E w (lt_ N') a cs:=g.more h fun _ hb=>Nat.lt_of_lt_of_le hb hn
def Grow (E:Rd α) (sz:Nat) (T:Nat→Prop) (w:World) (base:Nat) (e:TypeId) (v:Value) (l:List α):Prop:=
 ∃css:List (List Value),css.length=l.length∧w.ownsRow base e sz v l.length css.flatten∧
  ∀k (hk:k < l.length),∃cs,css[k]?=some cs∧E w (fun b=>T b∧b < w.heap.size∧v.ownBlock≠some b) l[k] cs
theorem Grow.nil (T:Nat→Prop) (w:World) (base:Nat) (e:TypeId):Grow E sz T w base e (.slice none 0 0) []:=
 ⟨[],rfl,World.ownsRow_nil w base e sz,fun k hk=>absurd hk (by simp)⟩
theorem flatten_len (sz:Nat):∀{css:List (List Value)},(∀cs ∈ css,cs.length=sz)→css.flatten.length=css.length*sz
 | [],_=>by simp
 | c::css,h=>by
  have:=flatten_len sz (css:=css) (fun cs hc=>h cs (by simp [hc]))
  rw [List.flatten_cons,List.length_append,this,h c (by simp),List.length_cons,Nat.add_mul];omega
theorem flatten_at (sz:Nat):∀{css:List (List Value)},(∀cs ∈ css,cs.length=sz)→∀{k:Nat} {cs:List Value},css[k]?=some cs→∀j u,cs[j]?=some u→css.flatten[k*sz+j]?=some u
 | [],_,k,cs,hk,_,_,_=>by simp at hk
 | c::css,h,0,cs,hk,j,u,hu=>by
  simp only [List.getElem?_cons_zero,Option.some.injEq] at hk
  subst hk
  rw [List.flatten_cons,Nat.zero_mul,Nat.zero_add,List.getElem?_append_left (List.getElem?_eq_some_iff.1 hu).1];exact hu
 | c::css,h,k+1,cs,hk,j,u,hu=>by
  rw [List.getElem?_cons_succ] at hk
  have:=flatten_at sz (fun cs hc=>h cs (by simp [hc])) hk j u hu
  have hc:=h c (by simp)
  rw [List.flatten_cons,List.getElem?_append_right (by rw [hc,Nat.add_mul];omega),hc,←this]
  congr 1
  rw [Nat.add_mul];omega
theorem Grow.lens (g:Good E sz) {T:Nat→Prop} {w:World} {v:Value} {l:List α} {css:List (List Value)} (hl:css.length=l.length)
  (h:∀k (hk:k < l.length),∃cs,css[k]?=some cs∧E w (fun b=>T b∧b < w.heap.size∧v.ownBlock≠some b) l[k] cs):∀cs ∈ css,cs.length=sz:=by
 intro cs hc
 obtain ⟨k,hk,rfl⟩:=List.getElem_of_mem hc
 obtain ⟨cs,h1,h2⟩:=h k (by omega)
 rw [List.getElem?_eq_getElem hk] at h1
 injection h1 with h1
 rw [h1];exact g.len h2
theorem Grow.reads (g:Good E sz) {T:Nat→Prop} {w:World} {base:Nat} {e:TypeId} {v:Value} {l:List α} (h:Grow E sz T w base e v l):rdRow sz E w (fun b=>b < w.heap.size∧(base≤b∨T b)) l [v]:=by
 obtain ⟨css,hl,ho,hE⟩:=h
 have hls:=Grow.lens g hl hE
 rcases ho.2 with ⟨rfl,h0⟩|⟨gb,cap,cur,rfl,hb,hg,hn,hm,hs,ht⟩
 ·obtain rfl:l=[]:=List.eq_nil_of_length_eq_zero h0
  exact rdRow_nil w _
 ·have hlt:gb < w.heap.size:=(Array.getElem?_eq_some_iff.1 hg).1
  refine ⟨_,cap,rfl,hn,hm,fun k hk=>?_⟩
  obtain ⟨cs,h1,h2⟩:=hE k hk
  refine ⟨_,cs,rfl,⟨hlt,.inl hb⟩,g.more h2 (fun b hb=>⟨hb.2.1,.inr hb.1⟩),g.len h2,fun j u hu=>?_⟩
  exact ho.cells (g:=gb) rfl _ _ (flatten_at sz hls h1 j u hu)
theorem Grow.read (g:Good E sz) {T:Nat→Prop} {w:World} {base:Nat} {e:TypeId} {v:Value} {l:List α} (h:Grow E sz T w base e v l):rdRow sz E w (lt_ w.heap.size) l [v]:=(rdRow_good g).more (h.reads g) fun _ hb=>hb.1
theorem Grow.own {T:Nat→Prop} {w:World} {base:Nat} {e:TypeId} {v:Value} {l:List α} (h:Grow E sz T w base e v l):∃A c,v=.slice A l.length c∧l.length≤c∧c≤maxLen:=by
 obtain ⟨css,hl,ho,hE⟩:=h
 rcases ho.2 with ⟨rfl,h0⟩|⟨gb,cap,cur,rfl,hb,hg,hn,hm,hs,ht⟩
 ·exact ⟨none,0,by rw [h0],by omega,Nat.zero_le _⟩
 ·exact ⟨_,cap,rfl,hn,hm⟩
theorem Grow.lt {T:Nat→Prop} {w:World} {base:Nat} {e:TypeId} {v:Value} {l:List α} (h:Grow E sz T w base e v l):∀b,v.ownBlock=some b→base≤b∧b < w.heap.size:=by
 obtain ⟨css,hl,ho,hE⟩:=h
 exact ho.lt
theorem Grow.kept (g:Good E sz) {T:Nat→Prop} {w w':World} {base:Nat} {e:TypeId} {v:Value} {l:List α} (h:Grow E sz T w base e v l) (hs:w.heap.size≤w'.heap.size)
  (hk:∀b,b < w.heap.size→(base≤b∨T b)→w'.heap[b]?=w.heap[b]?):Grow E sz T w' base e v l:=by
 have hlt:=h.lt
 obtain ⟨css,hl,ho,hE⟩:=h
 refine ⟨css,hl,⟨ho.1,?_⟩,fun k hk'=>?_⟩
 ·rcases ho.2 with hn|⟨gb,cap,cur,rfl,hb,hg,rest⟩
  ·exact .inl hn
  ·exact .inr ⟨gb,cap,cur,rfl,hb,by rw [hk gb (Array.getElem?_eq_some_iff.1 hg).1 (.inl hb)];exact hg,rest⟩
 ·obtain ⟨cs,h1,h2⟩:=hE k hk'
  exact ⟨cs,h1,g.both h2 (fun b hb=>hk b hb.2.1 (.inr hb.1)) (fun b hb=>⟨hb.1,Nat.lt_of_lt_of_le hb.2.1 hs,hb.2.2⟩)⟩
theorem Grow.below (g:Good E sz) {T:Nat→Prop} {w w':World} {base:Nat} {e:TypeId} {v:Value} {l:List α} (h:Grow E sz T w base e v l) (hb:Below w.heap.size w w'):Grow E sz T w' base e v l:=
 h.kept g hb.size fun b hb' _=>hb.block b hb'
theorem Grow.turn (g:Good E sz) {T:Nat→Prop} {w w':World} {base:Nat} {e:TypeId} {v:Value} {l:List α} {row:Option Nat} (h:Grow E sz T w base e v l) (hg:w.grownBy w' row) (hr:∀r,row=some r→∃o:Obj,w.heap[r]?=some o∧o.isCells=false):Grow E sz T w' base e v l:=by
 obtain ⟨css,hl,ho,hE⟩:=h
 refine ⟨css,hl,ho.kept hg ?_,fun k hk'=>?_⟩
 ·rcases ho.2 with ⟨rfl,_⟩|⟨gb,cap,cur,rfl,hb,hgg,_⟩
  ·exact .inl rfl
  ·refine .inr fun hh=>?_
   obtain ⟨o,h1,h2⟩:=hr gb hh.symm
   rw [hgg] at h1
   injection h1 with h1
   subst h1
   cases h2
 ·obtain ⟨cs,h1,h2⟩:=hE k hk'
  exact ⟨cs,h1,g.more (g.turn h2 hg hr) fun b hb=>⟨hb.1,Nat.lt_of_lt_of_le hb.2.1 hg.size,hb.2.2⟩⟩
theorem Grow.alloc (g:Good E sz) {T:Nat→Prop} {w:World} {base:Nat} {e:TypeId} {v:Value} {l:List α} (h:Grow E sz T w base e v l) (o:Obj):Grow E sz T (w.alloc o) base e v l:=
 h.below g ((Below.refl _ w).alloc (Nat.le_refl _) o)
theorem Grow.setCell (g:Good E sz) {T:Nat→Prop} {w:World} {base:Nat} {e:TypeId} {v:Value} {l:List α} (h:Grow E sz T w base e v l) {p:Addr} (hp:p.block < base) (hT:¬T p.block) (u:Value):Grow E sz T (w.setCell p u) base e v l:=
 h.kept g (by simp) fun b hb' hx=>heap_setCell_other w p b u (by rintro rfl;rcases hx with h|h;omega;exact hT h)
theorem Grow.step (g:Good E sz) {T:Nat→Prop} {w w':World} {base:Nat} {e:TypeId} {v v':Value} {l:List α} {css:List (List Value)} {m:List α} {ess:List (List Value)}
  (hl:css.length=l.length) (hE:∀k (hk:k < l.length),∃cs,css[k]?=some cs∧E w (fun b=>T b∧b < w.heap.size∧v.ownBlock≠some b) l[k] cs)
  (hm:ess.length=m.length) (hM:∀k (hk:k < m.length),∃cs,ess[k]?=some cs∧E w (fun b=>T b∧b < w.heap.size∧v.ownBlock≠some b) m[k] cs)
  (hown:w'.ownsRow base e sz v' (l.length+m.length) (css.flatten++ess.flatten)) (hg:w.grownBy w' v.ownBlock) (hat:v'.ownBlock=v.ownBlock∨∃b,v'.ownBlock=some b∧w.heap.size≤b) :
  Grow E sz T w' base e v' (l++m):=by
 have key:∀(a:α) (cs:List Value),E w (fun b=>T b∧b < w.heap.size∧v.ownBlock≠some b) a cs→E w' (fun b=>T b∧b < w'.heap.size∧v'.ownBlock≠some b) a cs:=by
  intro a cs h
  refine g.both h (fun b hb=>hg.block b hb.2.1 (fun hh=>hb.2.2 hh.symm)) (fun b hb=>⟨hb.1,Nat.lt_of_lt_of_le hb.2.1 hg.size,?_⟩)
  rcases hat with h1|⟨b',h1,h2⟩
  ·rw [h1];exact hb.2.2
  ·rw [h1];intro hh;injection hh with hh;have:=hb.2.1;omega
 refine ⟨css++ess,by rw [List.length_append,List.length_append,hl,hm],by rw [List.length_append,List.flatten_append];exact hown,fun k hk=>?_⟩
 by_cases hkl:k < l.length
 ·obtain ⟨cs,h1,h2⟩:=hE k hkl
  refine ⟨cs,by rw [List.getElem?_append_left (by omega)];exact h1,?_⟩
  rw [List.getElem_append_left hkl];exact key _ _ h2
 ·rw [List.length_append] at hk
  obtain ⟨cs,h1,h2⟩:=hM (k - l.length) (by omega)
  refine ⟨cs,by rw [List.getElem?_append_right (by omega),hl];exact h1,?_⟩
  rw [List.getElem_append_right (by omega)];exact key _ _ h2
theorem cells_new (w:World) (blk:Array Value) (te:TypeId):∀j u,blk.toList[j]?=some u→(w.alloc (.cells blk te)).cell? ((⟨w.heap.size,0,none⟩:Addr).add j)=some u:=by
 intro j u hj
 have hadd:(⟨w.heap.size,0,none⟩:Addr).add j=⟨w.heap.size,j,none⟩:=by unfold Addr.add;split<;>simp_all
 rw [hadd,cell_of_row (w.alloc (.cells blk te)) w.heap.size j blk te (0,0) (heap_alloc_new w _)]
 simpa using hj
theorem wpList_grow1 {P:Program} {ops:Array Oper} {rest:List Oper} {o:Oper} {a:Act} {Q:Exit→Act→World→Prop} (W:World) (hgd:o.guard=none) (s x:Operand) (t:TypeId)
  (ho:o.op=.call { callee:=.builtin .append,args:=#[s,x],argTypes:=#[t,t] })
  (g:Good E sz) (hsz:0 < sz) (T:Nat→Prop) (base:Nat) (e:TypeId) (i:TypeInfo) (z:Value) (bytes:Nat) (ht:P.underlying t=some (.slice e)) (hi:P.info? e=some i) (hz:i.zero=some z)
  (hsize:i.size=sz) (hby:i.bytes=bytes) (hzs:z.cells.size=sz)
  (v:Value) (l:List α) (hs:a.eval s=v) (hG:Grow E sz T W base e v l) (y:α) (blk:Array Value) (te:TypeId)
  (hE:E W (fun b=>T b∧b < W.heap.size∧v.ownBlock≠some b) y blk.toList) (N:Nat) (hN:N=W.heap.size) (hx:a.eval x=.slice (some ⟨N,0,none⟩) 1 1)
  (hn:l.length+1≤maxLen) (hb2:(l.length+1)*bytes≤140737488355328) (hbase:base≤W.heap.size)
  (h:∀v' w',Grow E sz T w' base e v' (l++[y])→W.grownBy w' v.ownBlock→wpList P ops Q rest (a.put o.dst v') w') :
  wpList P ops Q (o::rest) a (W.alloc (.cells blk te)):=by
 subst hN
 obtain ⟨css,hl,hown,hEs⟩:=hG
 refine wpList_append_own_at _ hgd s x t ho base e i z sz bytes ht hi hz hsize hby hzs hsz v l.length css.flatten hs (hown.alloc _) ⟨W.heap.size,0,none⟩ 1 1 blk.toList hx (by rw [g.len hE];simp) (cells_new W blk te) (g.one hE) hn hb2 (by simp;omega) ?_
 intro v' w' hown' hgrow _ hat
 have hg2:W.grownBy w' v.ownBlock:=by
  refine ⟨hgrow.os,hgrow.tape,hgrow.output,?_,fun k hk hne=>?_⟩
  ·have:=hgrow.size;simp at this;omega
  ·rw [hgrow.block k (by simp;omega) hne]
   exact Below.heap_alloc W _ k hk
 refine h v' w' ?_ hg2
 refine Grow.step g hl hEs (m:=[y]) (ess:=[blk.toList]) rfl (fun k hk=>?_) (by simpa using hown') hg2 ?_
 ·simp only [List.length_singleton] at hk
  obtain rfl:k=0:=by omega
  exact ⟨_,rfl,hE⟩
 ·rcases hat with h1|h1
  ·exact .inl h1
  ·exact .inr ⟨_,h1,by simp⟩
theorem wpListIn_grow1 {F:Fence} {n:Nat} {P:Program} {ops:Array Oper} {rest:List Oper} {o:Oper} {a:Act} {Q:Exit→Act→World→Prop} (W:World) (hgd:o.guard=none) (s x:Operand) (t:TypeId)
  (ho:o.op=.call { callee:=.builtin .append,args:=#[s,x],argTypes:=#[t,t] })
  (g:Good E sz) (hsz:0 < sz) (T:Nat→Prop) (base:Nat) (e:TypeId) (i:TypeInfo) (z:Value) (bytes:Nat) (ht:P.underlying t=some (.slice e)) (hi:P.info? e=some i) (hz:i.zero=some z)
  (hsize:i.size=sz) (hby:i.bytes=bytes) (hzs:z.cells.size=sz)
  (v:Value) (l:List α) (hs:a.eval s=v) (hG:Grow E sz T W base e v l) (y:α) (blk:Array Value) (te:TypeId)
  (hE:E W (fun b=>T b∧b < W.heap.size∧v.ownBlock≠some b) y blk.toList) (N:Nat) (hN:N=W.heap.size) (hx:a.eval x=.slice (some ⟨N,0,none⟩) 1 1)
  (hn:l.length+1≤maxLen) (hb2:(l.length+1)*bytes≤140737488355328) (hbase:base≤W.heap.size)
  (h:∀v' w',Grow E sz T w' base e v' (l++[y])→W.grownBy w' v.ownBlock→wpListIn F n P ops Q rest (a.put o.dst v') w') :
  wpListIn F n P ops Q (o::rest) a (W.alloc (.cells blk te)):=by
 subst hN
 obtain ⟨css,hl,hown,hEs⟩:=hG
 refine wpListIn_plain hgd fun K hK=>?_
 obtain ⟨v',w',hr,hown',hgrow,_,hat⟩:=run_append_own_at (P:=P) _ base t o.type e i z sz bytes ht hi hz hsize hby hzs hsz v l.length css.flatten (hown.alloc (.cells blk te)) ⟨W.heap.size,0,none⟩ 1 1 blk.toList (by rw [g.len hE];simp) (cells_new W blk te) (g.one hE) hn hb2 (by simp;omega)
 have hg2:W.grownBy w' v.ownBlock:=by
  refine ⟨hgrow.os,hgrow.tape,hgrow.output,?_,fun k hk hne=>?_⟩
  ·have:=hgrow.size;simp at this;omega
  ·rw [hgrow.block k (by simp;omega) hne]
   exact Below.heap_alloc W _ k hk
 have hG':Grow E sz T w' base e v' (l++[y]):=by
  refine Grow.step g hl hEs (m:=[y]) (ess:=[blk.toList]) rfl (fun k hk=>?_) (by simpa using hown') hg2 ?_
  ·simp only [List.length_singleton] at hk
   obtain rfl:k=0:=by omega
   exact ⟨_,rfl,hE⟩
  ·rcases hat with h1|h1
   ·exact .inl h1
   ·exact .inr ⟨_,h1,by simp⟩
 unfold Oper.wpIn
 refine ⟨?_,?_⟩
 ·simp [Oper.about,ho,resolve,Target.leads,Sem.run_pure]
 ·rw [Oper.semAt_plain F _ _ (by rw [ho];intro c hc';cases hc')]
  simp [execOp,ho,resolve,invoke,builtin,hs,hx,hr,Result.andThen]
  exact hK _ _ (h v' w' hG' hg2)
theorem grow_below {B:Nat} {w0 W w':World} {T:Nat→Prop} {base:Nat} {e:TypeId} {v:Value} {l:List α} (hG:Grow E sz T W base e v l) (hg:W.grownBy w' v.ownBlock) (hb:Below B w0 W) (hB:B≤base) (hs:B≤W.heap.size):Below B w0 w':=
 hb.grown hg hs fun g hg'=>Nat.le_trans hB (hG.lt g hg').1
end
theorem take_snoc {α β:Type} (f:α→β) (g:List α) (k:Nat) (hk:k < g.length):(g.take (k+1)).map f=(g.take k).map f++[f g[k]]:=by
 rw [List.take_succ_eq_append_getElem hk,List.map_append];rfl
theorem heap_grow {α:Type} {E:Rd α} {sz:Nat} {T:Nat→Prop} {W w':World} {base:Nat} {e:TypeId} {v:Value} {l:List α} (hG:Grow E sz T W base e v l) (hg:W.grownBy w' v.ownBlock) {k:Nat} (hk:k < base) (hs:base≤W.heap.size):w'.heap[k]?=W.heap[k]?:=
 hg.block k (by omega) fun hh=>by have:=(hG.lt k hh.symm).1;omega
theorem two_sets {V:World} {p q:Addr} (hpq:p≠q) {u v:Value} (x y:Value) (hp:V.cell? p=some u) (hq:V.cell? q=some v):((V.setCell p x).setCell q y).cell? p=some x∧((V.setCell p x).setCell q y).cell? q=some y:=by
 refine ⟨?_,?_⟩
 ·rw [World.cell?_setCell_other _ _ _ _ (fun h=>hpq h.symm)]
  exact World.cell?_setCell_same' _ _ _ (by rw [hp];rfl)
 ·exact World.cell?_setCell_same' _ _ _ (by rw [World.cell?_setCell_other _ _ _ _ hpq,hq];rfl)
theorem ne_blk {a b:Nat} (h:a≠b):(⟨a,0,none⟩:Addr)≠⟨b,0,none⟩:=fun e=>h (congrArg Addr.block e)
theorem str_info:(Tryz.prog.info? 9).map (fun i=>(i.zero,i.size,i.bytes))=some (some (.string { data:=#[] }),1,16):=by kernel_rfl
def rdStr:Rd (List Nat):=fun _ _ l cs=>∃s:ByteArray,cs=[.string s]∧B s=l
theorem rdStr_good:Good rdStr 1:=⟨fun h _=>h,fun h _=>h,fun h _ _=>h,fun h=>by obtain ⟨s,rfl,_⟩:=h;rfl,fun h u hu=>by obtain ⟨s,rfl,_⟩:=h;rw [List.mem_singleton.1 hu];rfl⟩
abbrev rdStrs:Rd (List (List Nat)):=rdRow 1 rdStr
theorem rdStrs_good:Good rdStrs 1:=rdRow_good rdStr_good
theorem rdStrs_at {w:World} {S:Nat→Prop} {l:List (List Nat)} {A:Option Addr} {n c:Nat} (h:rdStrs w S l [.slice A n c]):n=l.length∧n≤c∧c≤maxLen∧∀k (hk:k < l.length),∃ad s,A=some ad∧S ad.block∧
  w.cell? (ad.add k)=some (.string s)∧B s=l[k]:=by
 obtain ⟨A',c',e,h1,h2,h⟩:=h
 simp only [List.cons.injEq,Value.slice.injEq,and_true] at e
 obtain ⟨rfl,rfl,rfl⟩:=e
 refine ⟨rfl,h1,h2,fun k hk=>?_⟩
 obtain ⟨ad,es,e,hS,⟨s,rfl,hs⟩,hl,hc⟩:=h k hk
 have:=hc 0 _ rfl
 rw [Nat.mul_one] at this
 exact ⟨ad,s,e,hS,this,hs⟩
theorem libjoin_two (x y sep:List UInt8) (r:List (List UInt8)):Lib.join (x::y::r) sep=x++(sep++Lib.join (y::r) sep):=by
 rw [Lib.join_cons,Lib.join_cons]
 unfold Lib.joinTail
 simp
theorem libjoin_is (sep:ByteArray):∀xs:List ByteArray,(Lib.join (xs.map (·.data.toList)) sep.data.toList).map UInt8.toNat=joinL (B sep) (xs.map B)
 | []=>rfl
 | [x]=>by rw [List.map_singleton,Lib.join_one];rfl
 | x::y::r=>by
  have ih:=libjoin_is sep (y::r)
  rw [List.map_cons,List.map_cons,libjoin_two,List.map_append,List.map_append]
  rw [List.map_cons] at ih
  rw [ih];rfl
theorem joinL_len {sep:List Nat} {M:Nat}:∀{l:List (List Nat)},(∀t ∈ l,t.length≤M)→(joinL sep l).length≤l.length*(M+sep.length)
 | [],_=>by simp [joinL]
 | [x],h=>by have:=h x (by simp);simp [joinL];omega
 | x::y::r,h=>by
  have h1:=h x (by simp)
  have ih:=joinL_len (sep:=sep) (l:=y::r) (fun t ht=>h t (by simp [ht]))
  simp only [joinL,List.length_append,List.length_cons] at ih ⊢
  rw [Nat.add_mul (r.length+1) 1,Nat.one_mul]
  omega
theorem add_out (a b:ByteArray) (x y:Nat) (ha:a.size≤x) (hb:b.size≤y) (h:x+y≤9223372036854775807:=by decide):∃c:ByteArray,(∀w,(Op.stringOp .add a b).run Tryz.prog w=.ok (.string c) w)∧c=a++b∧c.size≤x+y:=
 ⟨a++b,fun w=>run_string_add_sum w a b (by omega),rfl,by rw [ByteArray.size_append];omega⟩
theorem bytes_cells (w:World) (s:ByteArray):∃(cap:Nat) (w1:World),(convert 9 159 (.string s)).run Tryz.prog w=.ok (.slice (some ⟨w.heap.size,0,none⟩) s.size cap) w1∧Below w.heap.size w w1∧∀(k:Nat) (hk:k < s.size),w1.cell? ⟨w.heap.size,k,none⟩=some (.int .u8 (s[k].toNat:Int)):=by
 refine ⟨_,_,run_bytes_of_string w 9 159 5 s Tryz.underlying9 Tryz.underlying159 Tryz.underlying5,(Below.refl _ w).drew.alloc (Nat.le_refl _) _,?_⟩
 intro k hk
 have hk2:k < s.data.size:=hk
 have:(bytesRow s (grownCap w s.size 0 5))[k]?=some (.int .u8 (s[k].toNat:Int)):=by
  unfold bytesRow
  rw [Array.getElem?_append_left (by simpa using hk2),Array.getElem?_map,Array.getElem?_eq_getElem hk2]
  rfl
 exact (World.cell?_alloc_mark w.drew _ _ _ k).trans this
end Go.Proofs.YtboinnjncaehkaaGreatDoor
