/- What the laws rest on: N12u. -/
import Derived.Test.YtgjlgdpbmhdnbaaDoorQAHZC
set_option maxRecDepth 100000
set_option linter.unusedVariables false
set_option linter.unusedSimpArgs false
namespace Go.Proofs.YtgjlgdpbmhdnbaaDoor
open Go.RowKit
theorem trB_neg {X:List Bool} {x:Int}:¬(trB X x=true∧trB X (-x)=true):=by
 rintro ⟨a,b⟩
 unfold trB at a b
 rw [Bool.and_eq_true,decide_eq_true_iff,beq_iff_eq] at a b
 have e:plc (-x)=plc x:=by unfold plc;rw [Int.natAbs_neg]
 rw [e,a.2] at b
 have hb:=b.2
 have h0:=a.1.1
 by_cases q:0 < x
 ·rw [decide_eq_true q,decide_eq_false (by omega)] at hb;cases hb
 ·rw [decide_eq_false q,decide_eq_true (by omega)] at hb;cases hb
theorem fol12 {n:Nat} {l:List (List Int)} {g a:List Int} {fine:Bool} {X:List Bool} (hl:X.length=n) (hu:UnA n l g a fine) (ho:okF n l=true) (hog:okF n [g]=true) (hh:holB X l=true) (hg:∀x ∈ g,trB X x=true) :
  fine=true∧∀i,i < a.length→a[i]! ≠0→decide (0 < a[i]!)=X[i]! :=by
 have hL:∀c ∈ l,∃x ∈ c,trB X x=true:=fun c hc=>by
  unfold holB at hh
  rw [List.all_eq_true] at hh
  exact List.any_eq_true.1 (hh c hc)
 have D:∀{x},Der l g x→trB X x=true:=fun h=>der_model (fun x=>trB X x=true) (fun x=>trB_neg) hL hg h
 rcases hu with ⟨h,_⟩|⟨_,hu⟩
 ·rw [h] at ho;cases ho
 ·rcases hu with ⟨_,_,hb⟩|⟨hf,hb,hn,h3,hd⟩
  ·exfalso
   rcases hb with ⟨x,hx,hk⟩|⟨x,h1,h2⟩|h
   ·exact hk ((okF_spec hog).2.2.2 g (List.mem_singleton.2 rfl)|>.2 x hx)
   ·exact trB_neg ⟨D h1,D h2⟩
   ·obtain ⟨x,hx,_⟩:=hL _ h
    cases hx
  ·refine ⟨hf,fun i hi hne=>?_⟩
   have hn':a.length=n:=by rw [hn];rfl
   have h3i:=h3 i (by rw [←hn];exact hi)
   have t:=tv_at hi h3i
   have p1:plc ((i:Int)+1)=i:=by unfold plc;omega
   have p2:plc (-((i:Int)+1))=i:=by unfold plc;omega
   rcases h3i with q|q|q
   ·have:=D ((hd ((i:Int)+1)).2 (by rw [t,q]))
    unfold trB at this
    rw [Bool.and_eq_true,beq_iff_eq,p1] at this
    rw [this.2,q,decide_eq_true (by omega:(0:Int) < (i:Int)+1)];rfl
   ·have:=D ((hd (-((i:Int)+1))).2 (by rw [tv_neg,t,q];rfl))
    unfold trB at this
    rw [Bool.and_eq_true,beq_iff_eq,p2] at this
    rw [this.2,q,decide_eq_false (by omega:¬(0:Int) < -((i:Int)+1))];rfl
   ·exact absurd q hne
theorem fol_len {n:Nat} {l:List (List Int)} {g a:List Int} (hu:UnA n l g a true):a.length=n:=by
 rcases hu with ⟨_,_,h⟩|⟨_,hu⟩
 ·cases h
 ·rcases hu with ⟨h,_⟩|⟨_,_,hn,_⟩
  ·cases h
  ·rw [hn];rfl
theorem one12 {w:World} {g:List Int} {A:Option Addr} {c:Nat} (h:rdInts w (lt_ w.heap.size) g [.slice A g.length c]) :
  rdIss (w.alloc (.cells #[.slice A g.length c] 23)) (lt_ (w.alloc (.cells #[.slice A g.length c] 23)).heap.size) [g] [.slice (some ⟨w.heap.size,0,none⟩) 1 1]:=
 iss_blk (cs:=#[.slice A g.length c]) (heap_alloc_new w _) (show 1≤maxLen by decide) (fun k hk=>by
  match k,hk with
  | 0,_=>exact ⟨_,_,rfl,ints_up h (al_up w _)⟩)
theorem one12h (x:Int) (A:Option Addr) (k c:Nat) (X:List Bool) (W:World) (hx:rdBoos W (lt_ W.heap.size) X [.slice A k c]) (hn:X.length≤1000000) :
  Calls Tryd.prog 14 #[.slice (some ⟨W.heap.size+1,0,none⟩) 1 1,.slice A k c] ((W.alloc (.cells #[.int .i64 x] 3)).alloc (.cells #[.slice (some ⟨W.heap.size,0,none⟩) 1 1] 23)) fun e w'=>e=.returned (.bool (trB X x))∧Below W.heap.size W w':=by
 have b1:=al_up W (.cells #[.int .i64 x] 3)
 have b2:=al_up (W.alloc (.cells #[.int .i64 x] 3)) (.cells #[.slice (some ⟨W.heap.size,0,none⟩) 1 1] 23)
 have o:=one12 (g:=[x]) (A:=some ⟨W.heap.size,0,none⟩) (c:=1) (lit_ints W [x] (show 1≤100 by decide))
 have z:(W.alloc (.cells #[.int .i64 x] 3)).heap.size=W.heap.size+1:=by rw [World.size_alloc]
 have K:=hold12_any (some ⟨W.heap.size+1,0,none⟩) A 1 1 k c [[x]] X _ (by rw [←z];exact o) (rdBoos_good.up (rdBoos_good.below hx (bel12 b1 b2)) (bel12 b1 b2).size) hn
 refine K.mono ?_
 rintro e w' ⟨rfl,hb⟩
 exact ⟨by simp [holB],bel12 (bel12 b1 b2) hb⟩
set_option maxHeartbeats 32000000 in
theorem wfollows12 (n:Int) (A:Option Addr) (nl cl:Nat) (l:List (List Int)) (Ag:Option Addr) (ng cg:Nat) (g:List Int) (w:World) (h:rdIss w (lt_ w.heap.size) l [.slice A nl cl]) (hg:rdInts w (lt_ w.heap.size) g [.slice Ag ng cg]) (E:Pow w) :
  Calls Tryd.prog 4 #[.int .i64 n,.slice A nl cl,.slice Ag ng cg] w fun e w'=>e=.returned (.bool true)∧Below w.heap.size w w':=by
 have SH:=Lib.hid (shown12_any w E)
 have SM:=Lib.hid (fun (W:World) (hb:Below w.heap.size w W)=>small12_any A nl cl l _ W (rdIss_good.below h hb))
 have HL:=Lib.hid (fun (W:World) (hb:Below w.heap.size w W)=>rdIss_good.up (rdIss_good.below h hb) hb.size)
 have U1:=Lib.hid (fun (W:World) (hb:Below w.heap.size w W)=>units12_any n A Ag nl cl ng cg l g W (HL.out W hb) (ints_up hg hb))
 have KR1:=Lib.hid (fun (W:World) (hb:Below w.heap.size w W)=>right12_any n A nl cl l W (HL.out W hb))
 obtain ⟨rfl,hgc,hgm,_⟩:=rdInts_at hg
 obtain ⟨rfl,hlc,hlm,_⟩:=rdIss_at h
 have KR2:=Lib.hid (fun (W:World) (hb:Below w.heap.size w W)=>right12_any n (some ⟨W.heap.size,0,none⟩) 1 1 [g] _ (one12 (ints_up hg hb)))
 have hgm':cg≤9223372036854775807:=hgm
 have hlm':cl≤9223372036854775807:=hlm
 have HG:=Lib.hid (fun (W:World) (hb:Below w.heap.size w W)=>(rdInts_at (rdInts_good.below hg hb)).2.2.2)
 clear h hg E hgm hlm
 go_enter Tryd.func4,Tryd.ntmps4
 go_wp2_with fail
 refine SH.out.mono ?_
 rintro e w1 ⟨rfl,hb1⟩
 have B1:=Lib.hid hb1
 have S1:=Lib.hid (SM.out w1 B1.out)
 clear hb1 SH SM
 cases hs:sm12 l
 ·rw [hs] at S1
  clear hs
  go_wp2_with (go_at_call 8;refine S1.out.mono ?_;rintro e w' ⟨rfl,rfl⟩)
  go_ret
  exact ⟨rfl,B1.out⟩
 have SL:=Lib.hid (sm12_le hs)
 rw [hs] at S1
 clear hs
 by_cases h1:n < 0
 ·have d1:decide (n < 0)=true:=decide_eq_true h1
  go_wp2_with (go_at_call 8;refine S1.out.mono ?_;rintro e w' ⟨rfl,rfl⟩)
  go_ret
  exact ⟨rfl,B1.out⟩
 have d1:decide (n < 0)=false:=decide_eq_false h1
 by_cases h2:n > 10
 ·have d2:decide (10 < n)=true:=decide_eq_true h2
  go_wp2_with (go_at_call 8;refine S1.out.mono ?_;rintro e w' ⟨rfl,rfl⟩)
  go_ret
  exact ⟨rfl,B1.out⟩
 have d2:decide (10 < n)=false:=decide_eq_false h2
 by_cases h3:g.length > 40
 ·have d3:decide (40 < (g.length:Int))=true:=decide_eq_true (by omega)
  have z3:(40:Int) < (g.length:Int):=by omega
  go_wp2_with (go_at_call 8;refine S1.out.mono ?_;rintro e w' ⟨rfl,rfl⟩)
  go_ret
  exact ⟨rfl,B1.out⟩
 have d3:decide (40 < (g.length:Int))=false:=decide_eq_false (by omega)
 have z3:¬(40:Int) < (g.length:Int):=by omega
 have R1:=Lib.hid (KR1.out w1 B1.out)
 clear KR1
 cases ho:okF n l
 ·rw [ho] at R1
  clear ho
  go_wp2_with (first|(go_at_call 8;refine S1.out.mono ?_;rintro e w' ⟨rfl,rfl⟩)|(go_at_call 12;refine R1.out.mono ?_;rintro e w2 ⟨rfl,hb2⟩;have B2:=Lib.hid (bel12 B1.out hb2);clear hb2))
  go_ret
  exact ⟨rfl,B2.out⟩
 rw [ho] at R1
 have HO:=Lib.hid ho
 clear ho
 go_wp2_with (first|(go_at_call 8;refine S1.out.mono ?_;rintro e w' ⟨rfl,rfl⟩)|fail)
 refine R1.out.mono ?_
 rintro e w2 ⟨rfl,hb2⟩
 have B2:=Lib.hid (bel12 B1.out hb2)
 have R2:=Lib.hid (KR2.out w2 B2.out)
 have B3:=Lib.hid (bel12 B2.out (al_up w2 (.cells #[.slice Ag g.length cg] 23)))
 clear hb2 R1 KR2 S1
 cases hog:okF n [g]
 ·rw [hog] at R2
  clear hog
  go_wp2_with fail
  refine R2.out.mono ?_
  rintro e w3 ⟨rfl,hb3⟩
  have B4:=Lib.hid (bel12 B3.out hb3)
  clear hb3
  go_wp2
  go_ret
  exact ⟨rfl,B4.out⟩
 rw [hog] at R2
 have HOG:=Lib.hid hog
 clear hog
 go_wp2_with fail
 refine R2.out.mono ?_
 rintro e w3 ⟨rfl,hb3⟩
 have B4:=Lib.hid (bel12 B3.out hb3)
 have V1:=Lib.hid (U1.out w3 B4.out)
 clear hb3 B1 B2 B3 R2 U1
 go_wp2_with fail
 refine V1.out.mono ?_
 rintro e w4 ⟨⟨r,ok,A1,c1,rfl,hu1,q2,q3⟩,-⟩
 have B5:=Lib.hid (bel12 B4.out q3)
 have UA:=Lib.hid hu1
 have LE:=unA_len hu1
 obtain ⟨-,hc1,hm1,-⟩:=rdInts_at q2
 have hm1':c1≤9223372036854775807:=hm1
 have HR:=Lib.hid (fun (W:World) (hW:Below w4.heap.size w4 W)=>(rdInts_at (rdInts_good.below q2 hW)).2.2.2)
 obtain ⟨k,rfl⟩:∃k:Nat,n=(k:Int):=⟨n.toNat,by omega⟩
 have hk:k≤10:=by omega
 obtain ⟨P,hP⟩:∃P:Nat,P=2 ^ k:=⟨_,rfl⟩
 have hP1:P≤1024:=by rw [hP];exact Nat.pow_le_pow_right (by decide) hk
 have hw:wrap64 ((2:Int) ^ k)=(P:Int):=by
  rw [show (2:Int) ^ k=(P:Int) by rw [hP];push_cast;rfl]
  unfold wrap64
  omega
 clear hP V1 B4 q2 q3 hm1 hu1
 go_wp2
 go_loopw [11] (fun i wr=>∃t:Nat,t≤P∧i=.int .i64 t∧Below w4.heap.size w4 wr) (fun i _=>P - (intOf i).toNat)
 case atStart=>exact ⟨0,Nat.zero_le _,rfl,Below.refl _ _⟩
 case round=>
  obtain ⟨t,ht,rfl,hbel⟩:=hrel
  have HB:=Lib.hid hbel
  clear hbel
  by_cases hlt:t < P
  ·have i1:(t:Int) < (P:Int):=by omega
   have wt:IntKind.i64.wrap ((t:Int)+1)=(t:Int)+1:=by rw [IntKind.wrap_i64];omega
   have KM:=Lib.hid (mod12_any t k wr (by omega) (by omega))
   have HXL:=Lib.hid (mdl_len t k)
   generalize mdl t k=X at *
   go_wp2_with fail
   refine KM.out.mono ?_
   rintro e w5 ⟨⟨A2,c2,rfl,hx⟩,hb5⟩
   have B6:=Lib.hid (bel12 HB.out hb5)
   have KHL:=Lib.hid (hold12_any A A2 l.length cl k c2 l X w5 (HL.out w5 (bel12 B5.out B6.out)) hx (by rw [HXL.out];omega))
   have KH1:=Lib.hid (fun (W:World) (hW:Below w5.heap.size w5 W) (x:Int)=>one12h x A2 k c2 X W (rdBoos_good.up (rdBoos_good.below hx hW) hW.size) (by rw [HXL.out];omega))
   have HX:=Lib.hid (fun (W:World) (hW:Below w5.heap.size w5 W)=>(rdBoos_at (rdBoos_good.below hx hW)).2.2.2)
   obtain ⟨-,hxc,hxm,-⟩:=rdBoos_at hx
   have hxm':c2≤9223372036854775807:=hxm
   have FOL:=Lib.hid (fun (a:holB X l=true) (b:∀x ∈ g,trB X x=true)=>fol12 HXL.out UA.out HO.out HOG.out a b)
   clear KM hb5 hx hxm
   generalize holB X l=hv at *
   go_wp2_with fail
   refine KHL.out.mono ?_
   rintro e w6 ⟨rfl,hb6⟩
   have B7:=Lib.hid hb6
   clear hb6 KHL
   have ST:=Lib.hid (show hv=(hv&&(g.take 0).all (trB X)) by simp)
   go_wp2
   go_loopw [13,14] (fun h i wr=>∃(j:Nat) (b:Bool),j≤g.length∧i=.int .i64 j∧h=.bool b∧Hid (b=(hv&&(g.take j).all (trB X)))∧Below w5.heap.size w5 wr) (fun _ i _=>g.length - (intOf i).toNat)
   case atStart=>exact ⟨0,hv,Nat.zero_le _,rfl,rfl,ST,B7.out⟩
   case round=>
    clear ST B7
    obtain ⟨j,b,hj,rfl,rfl,HV,hbel⟩:=hrel
    have HBj:=Lib.hid hbel
    by_cases hjl:j < g.length
    ·have j0:(0:Int)≤(j:Int):=by omega
     have j1:(j:Int) < (g.length:Int):=by omega
     have wj:IntKind.i64.wrap ((j:Int)+1)=(j:Int)+1:=by rw [IntKind.wrap_i64];omega
     obtain ⟨ad,rfl,had,hcell⟩:=HG.out wr (bel12 B5.out (bel12 B6.out HBj.out)) j hjl
     have TK:=Lib.hid (show (g.take (j+1)).all (trB X)=((g.take j).all (trB X)&&trB X g[j]) by rw [List.take_succ_eq_append_getElem hjl,List.all_append,List.all_cons,List.all_nil,Bool.and_true])
     have K1:=Lib.hid (KH1.out wr HBj.out g[j])
     generalize trB X g[j]=tb at *
     generalize g[j]=x at *
     clear had hbel
     cases b
     ·have V2:=Lib.hid (show false=(hv&&(g.take (j+1)).all (trB X)) by rw [TK.out,←Bool.and_assoc,←HV.out,Bool.false_and])
      clear TK HV K1
      go_wp2
      go_roundw
      case rel=>exact ⟨j+1,false,by omega,by go_num,rfl,V2,HBj.out⟩
      case measure=>simp [intOf]<;>omega
     ·have V2:=Lib.hid (show tb=(hv&&(g.take (j+1)).all (trB X)) by rw [TK.out,←Bool.and_assoc,←HV.out,Bool.true_and])
      clear TK HV
      go_wp2_with fail
      refine K1.out.mono ?_
      rintro e w7 ⟨rfl,hb7⟩
      have B8:=Lib.hid (bel12 HBj.out hb7)
      clear hb7 K1
      go_wp2
      go_roundw
      case rel=>exact ⟨j+1,tb,by omega,by go_num,rfl,V2,B8.out⟩
      case measure=>simp [intOf]<;>omega
    ·obtain rfl:j=g.length:=by omega
     have HV2:=Lib.hid (show b=(hv&&g.all (trB X)) by have:=HV.out;rwa [List.take_length] at this)
     clear HV KH1 HG hbel
     cases b
     ·go_wp2
      go_loopw [15] (fun i w7=>∃z:Nat,z≤r.length∧i=.int .i64 z∧Below w4.heap.size w4 w7) (fun i _=>r.length - (intOf i).toNat)
      case atStart=>exact ⟨0,Nat.zero_le _,rfl,bel12 B6.out HBj.out⟩
      case round=>
       obtain ⟨z,hz,rfl,hbel⟩:=hrel
       have B9:=Lib.hid hbel
       clear hbel
       by_cases hzl:z < r.length
       ·have z1:(z:Int) < (r.length:Int):=by omega
        go_wp2
        go_roundw
        case rel=>exact ⟨t+1,by omega,by go_num,B9.out⟩
        case measure=>simp [intOf]<;>omega
       ·have z1:¬(z:Int) < (r.length:Int):=by omega
        go_wp2
        go_roundw
        case rel=>exact ⟨t+1,by omega,by go_num,B9.out⟩
        case measure=>simp [intOf]<;>omega
     ·have hh:=HV2.out.symm
      rw [Bool.and_eq_true,List.all_eq_true] at hh
      obtain ⟨hf,hel⟩:=FOL.out hh.1 hh.2
      have EL:=Lib.hid hel
      subst hf
      have RL:=Lib.hid (fol_len UA.out)
      clear hh hel FOL HV2
      go_wp2
      go_loopw [15] (fun i w7=>∃z:Nat,z≤r.length∧i=.int .i64 z∧Below w5.heap.size w5 w7) (fun i _=>r.length - (intOf i).toNat)
      case atStart=>exact ⟨0,Nat.zero_le _,rfl,HBj.out⟩
      case round=>
       obtain ⟨z,hz,rfl,hbel⟩:=hrel
       have B9:=Lib.hid (bel12 B6.out hbel)
       by_cases hzl:z < r.length
       ·have z0:(0:Int)≤(z:Int):=by omega
        have z1:(z:Int) < (r.length:Int):=by omega
        have zk:(z:Int) < (k:Int):=by have:=RL.out;omega
        have wz:IntKind.i64.wrap ((z:Int)+1)=(z:Int)+1:=by rw [IntKind.wrap_i64];omega
        have hzX:z < X.length:=by rw [HXL.out,←RL.out];exact hzl
        obtain ⟨ad,rfl,had,hcell⟩:=HR.out wr B9.out z hzl
        obtain ⟨ad2,rfl,had2,hcell2⟩:=HX.out wr hbel z hzX
        have E1:=EL.out z hzl
        rw [getElem!_pos r z hzl,getElem!_pos X z hzX] at E1
        generalize r[z]=y at *
        generalize X[z]=xb at *
        have HB9:=Lib.hid hbel
        clear had had2 hbel hzX
        by_cases hy:y=0
        ·have dy:(y==0)=true:=by simp [hy]
         have dy':(y != 0)=false:=by simp [hy]
         clear E1
         go_wp2
         go_region
         go_wp2
         go_roundw
         case rel=>exact ⟨z+1,by omega,by go_num,by first|exact HB9.out|exact HB9.out.drew|exact HB9.out.drew.drew⟩
         case measure=>simp [intOf]<;>omega
        ·have dy:(y==0)=false:=by simp [hy]
         have dy':(y != 0)=true:=by simp [hy]
         have E2:=E1 hy
         clear E1
         subst E2
         have dd:(decide (0 < y)==decide (0 < y))=true:=by simp
         have dd':(decide (0 < y) != decide (0 < y))=false:=by simp
         go_wp2
         go_region
         go_wp2
         go_roundw
         case rel=>exact ⟨z+1,by omega,by go_num,by first|exact HB9.out|exact HB9.out.drew|exact HB9.out.drew.drew⟩
         case measure=>simp [intOf]<;>omega
       ·have z1:¬(z:Int) < (r.length:Int):=by omega
        go_wp2
        go_roundw
        case rel=>exact ⟨t+1,by omega,by go_num,B9.out⟩
        case measure=>simp [intOf]<;>omega
  ·have i1:¬(t:Int) < (P:Int):=by omega
   have B6:=Lib.hid (bel12 B5.out HB.out)
   cases ok
   ·go_wp2
    go_ret
    exact ⟨by try rfl,B6.out⟩
   ·have e1:((r.length:Int)==(k:Int))=true:=by rw [fol_len UA.out];simp
    go_wp2
    go_ret
    exact ⟨by try rfl,B6.out⟩
end Go.Proofs.YtgjlgdpbmhdnbaaDoor
