/- What the laws rest on: RefCmp, RefCmpV, RefOrder, OrderP, E6m, E6b, E6c, E6d, E9c, E7a. -/
import Derived.Deep.RegionHeld3
import Derived.Test.YtoopkofekekmoaaGreatDoorQADZB
set_option maxRecDepth 100000
set_option linter.unusedVariables false
set_option linter.unusedSimpArgs false
namespace Go.Proofs.YtoopkofekekmoaaGreatDoor
open Go.RowKit
theorem wt_bd {l:List Nat} (h:∀c ∈ l,c < 256):-1≤wt l∧wt l≤1255:=by
 cases l with
 | nil=>simp [wt]
 | cons c l=>
  have:=h c (by simp)
  simp only [wt]
  split
  ·omega
  ·split
   ·omega
   ·split<;>omega
theorem mk_size (l:List Nat):(mk l).size=l.length:=by
 unfold mk
 show (List.toArray _).size=_
 simp
theorem digs_lt {l:List Nat} (h:∀c ∈ l,c < 256):∀c ∈ digs l,c < 256:=fun c hc=>h c ((List.takeWhile_prefix digB).subset ((List.dropWhile_suffix _).subset hc))
theorem digs_len (l:List Nat):(digs l).length≤l.length:=by
 unfold digs
 exact Nat.le_trans ((List.dropWhile_suffix _).length_le) ((List.takeWhile_prefix digB).length_le)
theorem drop_lt (s:ByteArray) (i:Nat):∀c ∈ (B s).drop i,c < 256:=fun c hc=>B_lt s c (List.mem_of_mem_drop hc)
theorem numbers_mk (s t:ByteArray) (i k:Nat) (hs:s.size≤9223372036854775807) (ht:t.size≤9223372036854775807) (w:World) :
  Calls Tryz.prog 152 #[.string (mk (digs ((B s).drop i))),.string (mk (digs ((B t).drop k)))] w fun e w'=>e=.returned (.int .i64 (numC (digs ((B s).drop i)) (digs ((B t).drop k))))∧w=w':=by
 have h1:=digs_len ((B s).drop i)
 have h2:=digs_len ((B t).drop k)
 rw [List.length_drop,B_len] at h1 h2
 have:=numbers_any (mk (digs ((B s).drop i))) (mk (digs ((B t).drop k))) w (by rw [mk_size];omega) (by rw [mk_size];omega)
 rwa [B_mk (digs_lt (drop_lt s i)),B_mk (digs_lt (drop_lt t k))] at this
theorem endD_le (l:List Nat) (i:Nat) (h:i≤l.length):i≤endD l i∧endD l i≤l.length:=by
 unfold endD
 have:=numD_le (l.drop i)
 rw [List.length_drop] at this
 omega
theorem steps {s t:ByteArray} {i k:Nat} (h:(nonD ((B s).drop i)||nonD ((B t).drop k))=false):(i < s.size∨k < t.size)→i+k < endD (B s) i+endD (B t) k:=by
 intro hgo
 have hna:nonD ((B s).drop i)=false:=by cases hx:nonD ((B s).drop i)<;>simp_all
 have hnb:nonD ((B t).drop k)=false:=by cases hx:nonD ((B t).drop k)<;>simp_all
 unfold endD
 rcases hgo with hgo|hgo
 ·have:=num_len hna (by intro he;have:=congrArg List.length he;rw [List.length_drop,B_len] at this;simp at this;omega)
  omega
 ·have:=num_len hnb (by intro he;have:=congrArg List.length he;rw [List.length_drop,B_len] at this;simp at this;omega)
  omega
theorem nums_of {s t:ByteArray} {i k:Nat} (h:(nonD ((B s).drop i)||nonD ((B t).drop k))=false) :
  cmpS ((B s).drop i) ((B t).drop k)=if numC (digs ((B s).drop i)) (digs ((B t).drop k))≠0 then numC (digs ((B s).drop i)) (digs ((B t).drop k)) else cmpS ((B s).drop (endD (B s) i)) ((B t).drop (endD (B t) k)):=by
 by_cases h0:(B s).drop i=[]∧(B t).drop k=[]
 ·have e1:(B s).drop (endD (B s) i)=[]:=by unfold endD;rw [←List.drop_drop,h0.1];rfl
  have e2:(B t).drop (endD (B t) k)=[]:=by unfold endD;rw [←List.drop_drop,h0.2];rfl
  rw [e1,e2,h0.1,h0.2,if_neg (by decide)]
 ·rw [cmpS_num h0 h,List.drop_drop,List.drop_drop]
  rfl
set_option maxRecDepth 100000 in
set_option maxHeartbeats 8000000 in
theorem refCmp_any (s t:ByteArray) (w:World) (hs:s.size≤9223372036854775807) (ht:t.size≤9223372036854775807) :
  Calls Tryz.prog 131 #[.string s,.string t] w fun e w'=>e=.returned (.int .i64 (cmpS (B s) (B t)))∧w=w':=by
 go_enter Tryz.func131,Tryz.ntmps131
 go_wp2
 go_loop [5,6] (fun x y=>∃i k:Nat,i≤s.size∧k≤t.size∧x=.int .i64 i∧y=.int .i64 k∧cmpS (B s) (B t)=cmpS ((B s).drop i) ((B t).drop k)) (fun x y=>(s.size - (intOf x).toNat)+(t.size - (intOf y).toNat))
 case atStart=>exact ⟨0,0,Nat.zero_le _,Nat.zero_le _,rfl,rfl,rfl⟩
 case round=>
  obtain ⟨i,k,hi,hk,rfl,rfl,he⟩:=hrel
  have HE:=Lib.hid he
  clear he
  by_cases hgo:i < s.size∨k < t.size
  ·have HGO:=Lib.hid hgo
   have ho:i < s.size∨(s.size≤i∧k < t.size):=by omega
   clear hgo
   rcases ho with ho|⟨ho,ho2⟩
   all_goals
    go_wp2_with fail
    go_loop [5,6] (fun x y=>∃i' k':Nat,i≤i'∧i'≤s.size∧k≤k'∧k'≤t.size∧x=.int .i64 i'∧y=.int .i64 k'∧cmpS (B s) (B t)=cmpS ((B s).drop i') ((B t).drop k')) (fun x y=>(s.size - (intOf x).toNat)+(t.size - (intOf y).toNat))
    case atStart=>exact ⟨i,k,Nat.le_refl _,hi,Nat.le_refl _,hk,rfl,rfl,HE.out⟩
    case round=>
     obtain ⟨i',k',hi1,hi2,hk1,hk2,rfl,rfl,he'⟩:=hrel
     have HE':=Lib.hid he'
     have bA:=wt_bd (drop_lt s i')
     have bB:=wt_bd (drop_lt t k')
     obtain ⟨bA1,bA2⟩:=bA
     obtain ⟨bB1,bB2⟩:=bB
     clear he'
     by_cases hiA:i' < s.size
     ·cases dA:digB s[i'].toNat
      ·skip
       have hA:=Lib.hid (show digB s[i'].toNat=false from dA)
       have HNA:=Lib.hid (show nonD ((B s).drop i')=true by rw [B_drop s i' hiA];simp [nonD,dA])
       have NON:=Lib.hid (show (nonD ((B s).drop i')||nonD ((B t).drop k'))=true by rw [HNA.out];rfl)
       clear dA
       by_cases hz:sgn (wt ((B s).drop i') - wt ((B t).drop k'))=0
       ·have hz1:(sgn (wt ((B s).drop i') - wt ((B t).drop k')) != 0)=false:=by simp [hz]
        have HB2:=Lib.hid (both_non NON.out (by simp [hz]))
        have HE2:=Lib.hid (show cmpS (B s) (B t)=cmpS ((B s).drop (i'+1)) ((B t).drop (k'+1)) by rw [HE'.out,cmpS_wt NON.out,if_neg (by simp [hz]),List.drop_drop,List.drop_drop])
        have l1:=non_len HB2.out.1
        have l2:=non_len HB2.out.2
        rw [List.length_drop,B_len] at l1 l2
        clear hz
        go_wp2_with (first|first|(go_at_call 94;refine (Digit_any _ _).mono ?_;rw [hA.out];rintro e w' ⟨rfl,rfl⟩)|(go_at_call 150;refine (weight_any _ _ _).mono ?_;rintro e w' ⟨rfl,rfl⟩)|(go_at_call 149;refine (sign_any _ _).mono ?_;rintro e w' ⟨rfl,rfl⟩))
        go_round
        case rel=>exact ⟨i'+1,k'+1,by omega,by omega,by omega,by omega,by go_num,by go_num,HE2.out⟩
        case measure=>simp [intOf];omega
       ·have hz1:(sgn (wt ((B s).drop i') - wt ((B t).drop k')) != 0)=true:=by rw [bne_iff_ne];exact hz
        have HE2:=Lib.hid (show cmpS (B s) (B t)=sgn (wt ((B s).drop i') - wt ((B t).drop k')) by rw [HE'.out,cmpS_wt NON.out,if_pos hz])
        clear hz
        go_wp2_with (first|first|(go_at_call 94;refine (Digit_any _ _).mono ?_;rw [hA.out];rintro e w' ⟨rfl,rfl⟩)|(go_at_call 150;refine (weight_any _ _ _).mono ?_;rintro e w' ⟨rfl,rfl⟩)|(go_at_call 149;refine (sign_any _ _).mono ?_;rintro e w' ⟨rfl,rfl⟩))
        go_ret
        exact ⟨by rw [HE2.out];rfl,rfl⟩
      ·skip
       by_cases hkB:k' < t.size
       ·cases dB:digB t[k'].toNat
        ·skip
         have hA:=Lib.hid (show digB s[i'].toNat=true from dA)
         have HNA:=Lib.hid (show nonD ((B s).drop i')=false by rw [B_drop s i' hiA];simp [nonD,dA])
         have hB:=Lib.hid (show digB t[k'].toNat=false from dB)
         have HNB:=Lib.hid (show nonD ((B t).drop k')=true by rw [B_drop t k' hkB];simp [nonD,dB])
         clear dA dB
         have NON:=Lib.hid (show (nonD ((B s).drop i')||nonD ((B t).drop k'))=true by rw [HNB.out,Bool.or_true])
         by_cases hz:sgn (wt ((B s).drop i') - wt ((B t).drop k'))=0
         ·have hz1:(sgn (wt ((B s).drop i') - wt ((B t).drop k')) != 0)=false:=by simp [hz]
          have HB2:=Lib.hid (both_non NON.out (by simp [hz]))
          have HE2:=Lib.hid (show cmpS (B s) (B t)=cmpS ((B s).drop (i'+1)) ((B t).drop (k'+1)) by rw [HE'.out,cmpS_wt NON.out,if_neg (by simp [hz]),List.drop_drop,List.drop_drop])
          have l1:=non_len HB2.out.1
          have l2:=non_len HB2.out.2
          rw [List.length_drop,B_len] at l1 l2
          clear hz
          go_wp2_with (first|first|(go_at_call 94;refine (Digit_any _ _).mono ?_;rw [hA.out];rintro e w' ⟨rfl,rfl⟩)|(go_at_call 94;refine (Digit_any _ _).mono ?_;rw [hB.out];rintro e w' ⟨rfl,rfl⟩)|(go_at_call 150;refine (weight_any _ _ _).mono ?_;rintro e w' ⟨rfl,rfl⟩)|(go_at_call 149;refine (sign_any _ _).mono ?_;rintro e w' ⟨rfl,rfl⟩))
          go_round
          case rel=>exact ⟨i'+1,k'+1,by omega,by omega,by omega,by omega,by go_num,by go_num,HE2.out⟩
          case measure=>simp [intOf];omega
         ·have hz1:(sgn (wt ((B s).drop i') - wt ((B t).drop k')) != 0)=true:=by rw [bne_iff_ne];exact hz
          have HE2:=Lib.hid (show cmpS (B s) (B t)=sgn (wt ((B s).drop i') - wt ((B t).drop k')) by rw [HE'.out,cmpS_wt NON.out,if_pos hz])
          clear hz
          go_wp2_with (first|first|(go_at_call 94;refine (Digit_any _ _).mono ?_;rw [hA.out];rintro e w' ⟨rfl,rfl⟩)|(go_at_call 94;refine (Digit_any _ _).mono ?_;rw [hB.out];rintro e w' ⟨rfl,rfl⟩)|(go_at_call 150;refine (weight_any _ _ _).mono ?_;rintro e w' ⟨rfl,rfl⟩)|(go_at_call 149;refine (sign_any _ _).mono ?_;rintro e w' ⟨rfl,rfl⟩))
          go_ret
          exact ⟨by rw [HE2.out];rfl,rfl⟩
        ·skip
         have hA:=Lib.hid (show digB s[i'].toNat=true from dA)
         have HNA:=Lib.hid (show nonD ((B s).drop i')=false by rw [B_drop s i' hiA];simp [nonD,dA])
         have hB:=Lib.hid (show digB t[k'].toNat=true from dB)
         have HNB:=Lib.hid (show nonD ((B t).drop k')=false by rw [B_drop t k' hkB];simp [nonD,dB])
         clear dA dB
         have nn:(nonD ((B s).drop i')||nonD ((B t).drop k'))=false:=by rw [HNA.out,HNB.out];rfl
         have ea:=endD_le (B s) i' (by rw [B_len];omega)
         have eb:=endD_le (B t) k' (by rw [B_len];omega)
         rw [B_len] at ea eb
         have hst:=steps (s:=s) (t:=t) nn
         have hnum:=numbers_mk s t i' k' hs ht
         have hne:=nums_of (s:=s) (t:=t) nn
         have d1:=fun w=>digits_any s i' w hs hi2
         have d2:=fun w=>digits_any t k' w ht hk2
         generalize endD (B s) i'=n1 at *
         generalize endD (B t) k'=m1 at *
         generalize numC (digs ((B s).drop i')) (digs ((B t).drop k'))=c at *
         generalize mk (digs ((B s).drop i'))=X at *
         generalize mk (digs ((B t).drop k'))=Y at *
         obtain ⟨ea1,ea2⟩:=ea
         obtain ⟨eb1,eb2⟩:=eb
         have HST:=Lib.hid hst
         have HNUM:=Lib.hid hnum
         have HNE:=Lib.hid hne
         have D1:=Lib.hid d1
         have D2:=Lib.hid d2
         clear nn hst hnum hne d1 d2
         by_cases hz:c=0
         ·have hz1:(c != 0)=false:=by simp [hz]
          have HZ:=Lib.hid hz
          clear hz
          go_wp2_with (first|first|(go_at_call 94;refine (Digit_any _ _).mono ?_;rw [hA.out];rintro e w' ⟨rfl,rfl⟩)|(go_at_call 94;refine (Digit_any _ _).mono ?_;rw [hB.out];rintro e w' ⟨rfl,rfl⟩)|(go_at_call 151;(with_reducible refine (D1.out _).mono ?_);rintro e w' ⟨rfl,rfl⟩)|(go_at_call 151;(with_reducible refine (D2.out _).mono ?_);rintro e w' ⟨rfl,rfl⟩)|(go_at_call 152;(with_reducible refine (HNUM.out _).mono ?_);rintro e w' ⟨rfl,rfl⟩))
          go_round
          case rel=>exact ⟨n1,m1,by omega,by omega,rfl,rfl,by rw [HE'.out,HNE.out,if_neg (by simp [HZ.out])]⟩
          case measure=>
           have h1:=HST.out
           have h2:=HGO.out
           simp [intOf]
           omega
         ·have hz1:(c != 0)=true:=by rw [bne_iff_ne];exact hz
          have HZ:=Lib.hid hz
          clear hz
          go_wp2_with (first|first|(go_at_call 94;refine (Digit_any _ _).mono ?_;rw [hA.out];rintro e w' ⟨rfl,rfl⟩)|(go_at_call 94;refine (Digit_any _ _).mono ?_;rw [hB.out];rintro e w' ⟨rfl,rfl⟩)|(go_at_call 151;(with_reducible refine (D1.out _).mono ?_);rintro e w' ⟨rfl,rfl⟩)|(go_at_call 151;(with_reducible refine (D2.out _).mono ?_);rintro e w' ⟨rfl,rfl⟩)|(go_at_call 152;(with_reducible refine (HNUM.out _).mono ?_);rintro e w' ⟨rfl,rfl⟩))
          go_ret
          refine ⟨?_,rfl⟩
          rw [HE'.out,HNE.out,if_pos HZ.out]
          rfl
       ·skip
        have hA:=Lib.hid (show digB s[i'].toNat=true from dA)
        have HNA:=Lib.hid (show nonD ((B s).drop i')=false by rw [B_drop s i' hiA];simp [nonD,dA])
        have HNB:=Lib.hid (show nonD ((B t).drop k')=false by rw [B_drop_end t k' (by omega)];rfl)
        clear dA
        have nn:(nonD ((B s).drop i')||nonD ((B t).drop k'))=false:=by rw [HNA.out,HNB.out];rfl
        have ea:=endD_le (B s) i' (by rw [B_len];omega)
        have eb:=endD_le (B t) k' (by rw [B_len];omega)
        rw [B_len] at ea eb
        have hst:=steps (s:=s) (t:=t) nn
        have hnum:=numbers_mk s t i' k' hs ht
        have hne:=nums_of (s:=s) (t:=t) nn
        have d1:=fun w=>digits_any s i' w hs hi2
        have d2:=fun w=>digits_any t k' w ht hk2
        generalize endD (B s) i'=n1 at *
        generalize endD (B t) k'=m1 at *
        generalize numC (digs ((B s).drop i')) (digs ((B t).drop k'))=c at *
        generalize mk (digs ((B s).drop i'))=X at *
        generalize mk (digs ((B t).drop k'))=Y at *
        obtain ⟨ea1,ea2⟩:=ea
        obtain ⟨eb1,eb2⟩:=eb
        have HST:=Lib.hid hst
        have HNUM:=Lib.hid hnum
        have HNE:=Lib.hid hne
        have D1:=Lib.hid d1
        have D2:=Lib.hid d2
        clear nn hst hnum hne d1 d2
        by_cases hz:c=0
        ·have hz1:(c != 0)=false:=by simp [hz]
         have HZ:=Lib.hid hz
         clear hz
         go_wp2_with (first|first|(go_at_call 94;refine (Digit_any _ _).mono ?_;rw [hA.out];rintro e w' ⟨rfl,rfl⟩)|(go_at_call 151;(with_reducible refine (D1.out _).mono ?_);rintro e w' ⟨rfl,rfl⟩)|(go_at_call 151;(with_reducible refine (D2.out _).mono ?_);rintro e w' ⟨rfl,rfl⟩)|(go_at_call 152;(with_reducible refine (HNUM.out _).mono ?_);rintro e w' ⟨rfl,rfl⟩))
         go_round
         case rel=>exact ⟨n1,m1,by omega,by omega,rfl,rfl,by rw [HE'.out,HNE.out,if_neg (by simp [HZ.out])]⟩
         case measure=>
          have h1:=HST.out
          have h2:=HGO.out
          simp [intOf]
          omega
        ·have hz1:(c != 0)=true:=by rw [bne_iff_ne];exact hz
         have HZ:=Lib.hid hz
         clear hz
         go_wp2_with (first|first|(go_at_call 94;refine (Digit_any _ _).mono ?_;rw [hA.out];rintro e w' ⟨rfl,rfl⟩)|(go_at_call 151;(with_reducible refine (D1.out _).mono ?_);rintro e w' ⟨rfl,rfl⟩)|(go_at_call 151;(with_reducible refine (D2.out _).mono ?_);rintro e w' ⟨rfl,rfl⟩)|(go_at_call 152;(with_reducible refine (HNUM.out _).mono ?_);rintro e w' ⟨rfl,rfl⟩))
         go_ret
         refine ⟨?_,rfl⟩
         rw [HE'.out,HNE.out,if_pos HZ.out]
         rfl
     ·skip
      by_cases hkB:k' < t.size
      ·cases dB:digB t[k'].toNat
       ·skip
        have HNA:=Lib.hid (show nonD ((B s).drop i')=false by rw [B_drop_end s i' (by omega)];rfl)
        have hB:=Lib.hid (show digB t[k'].toNat=false from dB)
        have HNB:=Lib.hid (show nonD ((B t).drop k')=true by rw [B_drop t k' hkB];simp [nonD,dB])
        clear dB
        have NON:=Lib.hid (show (nonD ((B s).drop i')||nonD ((B t).drop k'))=true by rw [HNB.out,Bool.or_true])
        by_cases hz:sgn (wt ((B s).drop i') - wt ((B t).drop k'))=0
        ·have hz1:(sgn (wt ((B s).drop i') - wt ((B t).drop k')) != 0)=false:=by simp [hz]
         have HB2:=Lib.hid (both_non NON.out (by simp [hz]))
         have HE2:=Lib.hid (show cmpS (B s) (B t)=cmpS ((B s).drop (i'+1)) ((B t).drop (k'+1)) by rw [HE'.out,cmpS_wt NON.out,if_neg (by simp [hz]),List.drop_drop,List.drop_drop])
         have l1:=non_len HB2.out.1
         have l2:=non_len HB2.out.2
         rw [List.length_drop,B_len] at l1 l2
         clear hz
         go_wp2_with (first|first|(go_at_call 94;refine (Digit_any _ _).mono ?_;rw [hB.out];rintro e w' ⟨rfl,rfl⟩)|(go_at_call 150;refine (weight_any _ _ _).mono ?_;rintro e w' ⟨rfl,rfl⟩)|(go_at_call 149;refine (sign_any _ _).mono ?_;rintro e w' ⟨rfl,rfl⟩))
         go_round
         case rel=>exact ⟨i'+1,k'+1,by omega,by omega,by omega,by omega,by go_num,by go_num,HE2.out⟩
         case measure=>simp [intOf];omega
        ·have hz1:(sgn (wt ((B s).drop i') - wt ((B t).drop k')) != 0)=true:=by rw [bne_iff_ne];exact hz
         have HE2:=Lib.hid (show cmpS (B s) (B t)=sgn (wt ((B s).drop i') - wt ((B t).drop k')) by rw [HE'.out,cmpS_wt NON.out,if_pos hz])
         clear hz
         go_wp2_with (first|first|(go_at_call 94;refine (Digit_any _ _).mono ?_;rw [hB.out];rintro e w' ⟨rfl,rfl⟩)|(go_at_call 150;refine (weight_any _ _ _).mono ?_;rintro e w' ⟨rfl,rfl⟩)|(go_at_call 149;refine (sign_any _ _).mono ?_;rintro e w' ⟨rfl,rfl⟩))
         go_ret
         exact ⟨by rw [HE2.out];rfl,rfl⟩
       ·skip
        have HNA:=Lib.hid (show nonD ((B s).drop i')=false by rw [B_drop_end s i' (by omega)];rfl)
        have hB:=Lib.hid (show digB t[k'].toNat=true from dB)
        have HNB:=Lib.hid (show nonD ((B t).drop k')=false by rw [B_drop t k' hkB];simp [nonD,dB])
        clear dB
        have nn:(nonD ((B s).drop i')||nonD ((B t).drop k'))=false:=by rw [HNA.out,HNB.out];rfl
        have ea:=endD_le (B s) i' (by rw [B_len];omega)
        have eb:=endD_le (B t) k' (by rw [B_len];omega)
        rw [B_len] at ea eb
        have hst:=steps (s:=s) (t:=t) nn
        have hnum:=numbers_mk s t i' k' hs ht
        have hne:=nums_of (s:=s) (t:=t) nn
        have d1:=fun w=>digits_any s i' w hs hi2
        have d2:=fun w=>digits_any t k' w ht hk2
        generalize endD (B s) i'=n1 at *
        generalize endD (B t) k'=m1 at *
        generalize numC (digs ((B s).drop i')) (digs ((B t).drop k'))=c at *
        generalize mk (digs ((B s).drop i'))=X at *
        generalize mk (digs ((B t).drop k'))=Y at *
        obtain ⟨ea1,ea2⟩:=ea
        obtain ⟨eb1,eb2⟩:=eb
        have HST:=Lib.hid hst
        have HNUM:=Lib.hid hnum
        have HNE:=Lib.hid hne
        have D1:=Lib.hid d1
        have D2:=Lib.hid d2
        clear nn hst hnum hne d1 d2
        by_cases hz:c=0
        ·have hz1:(c != 0)=false:=by simp [hz]
         have HZ:=Lib.hid hz
         clear hz
         go_wp2_with (first|first|(go_at_call 94;refine (Digit_any _ _).mono ?_;rw [hB.out];rintro e w' ⟨rfl,rfl⟩)|(go_at_call 151;(with_reducible refine (D1.out _).mono ?_);rintro e w' ⟨rfl,rfl⟩)|(go_at_call 151;(with_reducible refine (D2.out _).mono ?_);rintro e w' ⟨rfl,rfl⟩)|(go_at_call 152;(with_reducible refine (HNUM.out _).mono ?_);rintro e w' ⟨rfl,rfl⟩))
         go_round
         case rel=>exact ⟨n1,m1,by omega,by omega,rfl,rfl,by rw [HE'.out,HNE.out,if_neg (by simp [HZ.out])]⟩
         case measure=>
          have h1:=HST.out
          have h2:=HGO.out
          simp [intOf]
          omega
        ·have hz1:(c != 0)=true:=by rw [bne_iff_ne];exact hz
         have HZ:=Lib.hid hz
         clear hz
         go_wp2_with (first|first|(go_at_call 94;refine (Digit_any _ _).mono ?_;rw [hB.out];rintro e w' ⟨rfl,rfl⟩)|(go_at_call 151;(with_reducible refine (D1.out _).mono ?_);rintro e w' ⟨rfl,rfl⟩)|(go_at_call 151;(with_reducible refine (D2.out _).mono ?_);rintro e w' ⟨rfl,rfl⟩)|(go_at_call 152;(with_reducible refine (HNUM.out _).mono ?_);rintro e w' ⟨rfl,rfl⟩))
         go_ret
         refine ⟨?_,rfl⟩
         rw [HE'.out,HNE.out,if_pos HZ.out]
         rfl
      ·skip
       have HNA:=Lib.hid (show nonD ((B s).drop i')=false by rw [B_drop_end s i' (by omega)];rfl)
       have HNB:=Lib.hid (show nonD ((B t).drop k')=false by rw [B_drop_end t k' (by omega)];rfl)
       have nn:(nonD ((B s).drop i')||nonD ((B t).drop k'))=false:=by rw [HNA.out,HNB.out];rfl
       have ea:=endD_le (B s) i' (by rw [B_len];omega)
       have eb:=endD_le (B t) k' (by rw [B_len];omega)
       rw [B_len] at ea eb
       have hst:=steps (s:=s) (t:=t) nn
       have hnum:=numbers_mk s t i' k' hs ht
       have hne:=nums_of (s:=s) (t:=t) nn
       have d1:=fun w=>digits_any s i' w hs hi2
       have d2:=fun w=>digits_any t k' w ht hk2
       generalize endD (B s) i'=n1 at *
       generalize endD (B t) k'=m1 at *
       generalize numC (digs ((B s).drop i')) (digs ((B t).drop k'))=c at *
       generalize mk (digs ((B s).drop i'))=X at *
       generalize mk (digs ((B t).drop k'))=Y at *
       obtain ⟨ea1,ea2⟩:=ea
       obtain ⟨eb1,eb2⟩:=eb
       have HST:=Lib.hid hst
       have HNUM:=Lib.hid hnum
       have HNE:=Lib.hid hne
       have D1:=Lib.hid d1
       have D2:=Lib.hid d2
       clear nn hst hnum hne d1 d2
       by_cases hz:c=0
       ·have hz1:(c != 0)=false:=by simp [hz]
        have HZ:=Lib.hid hz
        clear hz
        go_wp2_with (first|(go_at_call 151;(with_reducible refine (D1.out _).mono ?_);rintro e w' ⟨rfl,rfl⟩)|(go_at_call 151;(with_reducible refine (D2.out _).mono ?_);rintro e w' ⟨rfl,rfl⟩)|(go_at_call 152;(with_reducible refine (HNUM.out _).mono ?_);rintro e w' ⟨rfl,rfl⟩))
        go_round
        case rel=>exact ⟨n1,m1,by omega,by omega,rfl,rfl,by rw [HE'.out,HNE.out,if_neg (by simp [HZ.out])]⟩
        case measure=>
         have h1:=HST.out
         have h2:=HGO.out
         simp [intOf]
         omega
       ·have hz1:(c != 0)=true:=by rw [bne_iff_ne];exact hz
        have HZ:=Lib.hid hz
        clear hz
        go_wp2_with (first|(go_at_call 151;(with_reducible refine (D1.out _).mono ?_);rintro e w' ⟨rfl,rfl⟩)|(go_at_call 151;(with_reducible refine (D2.out _).mono ?_);rintro e w' ⟨rfl,rfl⟩)|(go_at_call 152;(with_reducible refine (HNUM.out _).mono ?_);rintro e w' ⟨rfl,rfl⟩))
        go_ret
        refine ⟨?_,rfl⟩
        rw [HE'.out,HNE.out,if_pos HZ.out]
        rfl
  ·have hi3:i=s.size:=by omega
   have hk3:k=t.size:=by omega
   have HF:=Lib.hid (show cmpS (B s) (B t)=0 by rw [HE.out,B_drop_end s i (by omega),B_drop_end t k (by omega)];rfl)
   have hi4:s.size≤i:=by omega
   have hk4:t.size≤k:=by omega
   clear hi3 hk3 hgo
   go_wp2
   go_ret
   exact ⟨by rw [HF.out];rfl,rfl⟩
def cmpV (e1:Int) (u1 r1:List Nat) (e2:Int) (u2 r2:List Nat):Int:=
 if e1≠e2 then (if e1 < e2 then -1 else 1) else if cmpS u1 u2≠0 then cmpS u1 u2 else cmpS r1 r2
theorem compare_any (e1 e2:Int) (u1 r1 u2 r2:ByteArray) (w:World) (h1:u1.size≤9223372036854775807) (h2:r1.size≤9223372036854775807) (h3:u2.size≤9223372036854775807) (h4:r2.size≤9223372036854775807) :
  Calls Tryz.prog 117 #[.agg #[.int .i64 e1,.string u1,.string r1],.agg #[.int .i64 e2,.string u2,.string r2]] w fun e' w'=>e'=.returned (.int .i64 (cmpV e1 (B u1) (B r1) e2 (B u2) (B r2)))∧Below w.heap.size w w':=by
 by_cases he:e1=e2
 ·have t1:(e1 != e2)=false:=by rw [bne_eq_false_iff_eq];exact he
  have C1:=Lib.hid (fun w=>refCmp_any u1 u2 w h1 h3)
  have C2:=Lib.hid (fun w=>refCmp_any r1 r2 w h2 h4)
  by_cases hc:cmpS (B u1) (B u2)=0
  ·have t2:(cmpS (B u1) (B u2) != 0)=false:=by rw [bne_eq_false_iff_eq];exact hc
   have X:=Lib.hid (show cmpS (B r1) (B r2)=cmpV e1 (B u1) (B r1) e2 (B u2) (B r2) by unfold cmpV;rw [if_neg (by simp [he]),if_neg (by simp [hc])])
   clear he hc
   go_enter Tryz.func117,Tryz.ntmps117
   go_wp2_with (first|(go_at_call 131;(with_reducible refine (C1.out _).mono ?_);rintro e w' ⟨rfl,rfl⟩)|(go_at_call 131;(with_reducible refine (C2.out _).mono ?_);rintro e w' ⟨rfl,rfl⟩))
   go_ret
   exact ⟨by rw [←X.out];rfl,((Below.refl _ w).alloc (Nat.le_refl _) _).alloc (by simp) _⟩
  ·have t2:(cmpS (B u1) (B u2) != 0)=true:=by rw [bne_iff_ne];exact hc
   have X:=Lib.hid (show cmpS (B u1) (B u2)=cmpV e1 (B u1) (B r1) e2 (B u2) (B r2) by unfold cmpV;rw [if_neg (by simp [he]),if_pos hc])
   clear he hc
   go_enter Tryz.func117,Tryz.ntmps117
   go_wp2_with (first|(go_at_call 131;(with_reducible refine (C1.out _).mono ?_);rintro e w' ⟨rfl,rfl⟩)|(go_at_call 131;(with_reducible refine (C2.out _).mono ?_);rintro e w' ⟨rfl,rfl⟩))
   go_ret
   exact ⟨by rw [←X.out];rfl,((Below.refl _ w).alloc (Nat.le_refl _) _).alloc (by simp) _⟩
 ·have t1:(e1 != e2)=true:=by rw [bne_iff_ne];exact he
  by_cases hl:e1 < e2
  ·have X:=Lib.hid (show (-1:Int)=cmpV e1 (B u1) (B r1) e2 (B u2) (B r2) by unfold cmpV;rw [if_pos he,if_pos hl])
   clear he
   go_enter Tryz.func117,Tryz.ntmps117
   go_wp2
   go_ret
   exact ⟨by rw [←X.out];rfl,((Below.refl _ w).alloc (Nat.le_refl _) _).alloc (by simp) _⟩
  ·have X:=Lib.hid (show (1:Int)=cmpV e1 (B u1) (B r1) e2 (B u2) (B r2) by unfold cmpV;rw [if_pos he,if_neg hl])
   clear he
   go_enter Tryz.func117,Tryz.ntmps117
   go_wp2
   go_ret
   exact ⟨by rw [←X.out];rfl,((Below.refl _ w).alloc (Nat.le_refl _) _).alloc (by simp) _⟩
def orderV (a b:List Nat):Int:=
 if parseE a≠0 then (if parseE b≠0 then 0 else -1) else if parseE b≠0 then 1 else cmpV (parse1 a) (parse2 a) (parse3 a) (parse1 b) (parse2 b) (parse3 b)
theorem colU_mem {s:List Nat} {c:Nat} (h:c ∈ colU s):c ∈ s:=by
 unfold colU at h
 split at h
 ·exact h
 ·exact List.mem_of_mem_drop h
theorem dashU_mem {s:List Nat} {c:Nat} (h:c ∈ dashU s):c ∈ s:=by
 unfold dashU at h
 split at h
 ·exact h
 ·exact List.mem_of_mem_take h
theorem dashR_mem {s:List Nat} {c:Nat} (h:c ∈ dashR s):c ∈ s:=by
 unfold dashR at h
 split at h
 ·cases h
 ·exact List.mem_of_mem_drop h
theorem colU_len (s:List Nat):(colU s).length≤s.length:=by
 unfold colU
 split
 ·exact Nat.le_refl _
 ·rw [List.length_drop];omega
theorem dashU_len (s:List Nat):(dashU s).length≤s.length:=by
 unfold dashU
 split
 ·exact Nat.le_refl _
 ·rw [List.length_take];omega
theorem dashR_len (s:List Nat):(dashR s).length≤s.length:=by
 unfold dashR
 split
 ·exact Nat.zero_le _
 ·rw [List.length_drop];omega
theorem parse2_lt (s:ByteArray):∀c ∈ parse2 (B s),c < 256:=by
 intro c hc
 unfold parse2 at hc
 split at hc
 ·exact B_lt s c (colU_mem (dashU_mem hc))
 ·cases hc
theorem parse3_lt (s:ByteArray):∀c ∈ parse3 (B s),c < 256:=by
 intro c hc
 unfold parse3 at hc
 split at hc
 ·exact B_lt s c (colU_mem (dashR_mem hc))
 ·cases hc
theorem parseE_len {s:List Nat} (h:parseE s=0):s.length≤60:=by
 unfold parseE at h
 split at h
 ·cases h
 ·omega
theorem parse2_len (s:List Nat):(parse2 s).length≤60:=by
 unfold parse2
 split
 ·rename_i h
  have:=parseE_len h;have:=colU_len s;have:=dashU_len (colU s);omega
 ·exact Nat.zero_le _
theorem parse3_len (s:List Nat):(parse3 s).length≤60:=by
 unfold parse3
 split
 ·rename_i h
  have:=parseE_len h;have:=colU_len s;have:=dashR_len (colU s);omega
 ·exact Nat.zero_le _
theorem parse_opened (s:ByteArray):∃(E e:Int) (U R:ByteArray),E=parse1 (B s)∧e=parseE (B s)∧B U=parse2 (B s)∧B R=parse3 (B s)∧U.size≤60∧R.size≤60∧
  ∀w,Calls Tryz.prog 95 #[.string s] w fun e' w'=>e'=.returned (.tuple #[.agg #[.int .i64 E,.string U,.string R],.int .i64 e])∧Below w.heap.size w w':=
 ⟨_,_,_,_,rfl,rfl,B_mk (parse2_lt s),B_mk (parse3_lt s),by rw [size_mk];exact parse2_len _,by rw [size_mk];exact parse3_len _,fun w=>parse_any s w⟩
theorem order_any (a b:ByteArray) (w:World) :
  Calls Tryz.prog 93 #[.string a,.string b] w fun e' w'=>e'=.returned (.int .i64 (orderV (B a) (B b)))∧Below w.heap.size w w':=by
 obtain ⟨E,e,U,R,hE,he,hU,hR,zU,zR,ca⟩:=parse_opened a
 obtain ⟨F,f,V,S,hF,hf,hV,hS,zV,zS,cb⟩:=parse_opened b
 have X:orderV (B a) (B b)=if e≠0 then (if f≠0 then 0 else -1) else if f≠0 then 1 else cmpV E (B U) (B R) F (B V) (B S):=by
  unfold orderV;rw [←hE,←he,←hU,←hR,←hF,←hf,←hV,←hS]
 have XO:=Lib.hid X
 have CA:=Lib.hid ca
 have CB:=Lib.hid cb
 have CV:=Lib.hid (fun w=>compare_any E F U R V S w (by omega) (by omega) (by omega) (by omega))
 clear X ca cb hE he hU hR hF hf hV hS
 generalize orderV (B a) (B b)=O at XO ⊢
 generalize cmpV E (B U) (B R) F (B V) (B S)=C at XO CV
 go_enter Tryz.func93,Tryz.ntmps93
 go_wp2_with fail
 refine (CA.out _).mono ?_
 rintro e' w1 ⟨rfl,hb1⟩
 have s1:=hb1.size
 go_wp2_with fail
 refine (CB.out _).mono ?_
 rintro e' w2 ⟨rfl,hb2⟩
 obtain ⟨c0,c1,c2,s2⟩:=box_cells hb2
 have b2:Below w.heap.size w w2:=(hb1.alloc s1 _).trans (hb2.mono (by simp;omega))
 have b3:Below w.heap.size w (w2.alloc (.cells #[.int .i64 F,.string V,.string S] 119)):=b2.alloc (by omega) _
 by_cases he:e=0
 ·have t1:(e != 0)=false:=by rw [bne_eq_false_iff_eq];exact he
  by_cases hf:f=0
  ·have t2:(f != 0)=false:=by rw [bne_eq_false_iff_eq];exact hf
   have XF:=Lib.hid (show O=C by rw [XO.out,if_neg (by simp [he]),if_neg (by simp [hf])])
   have s3:w1.heap.size < w2.heap.size:=by omega
   clear he hf
   go_wp2_with fail
   refine (CV.out _).mono ?_
   rintro e' w3 ⟨rfl,hb3⟩
   go_wp2
   go_ret
   exact ⟨by rw [XF.out];rfl,b3.trans (hb3.mono (by simp;omega))⟩
  ·have t2:(f != 0)=true:=by rw [bne_iff_ne];exact hf
   have XF:=Lib.hid (show O=1 by rw [XO.out,if_neg (by simp [he]),if_pos hf])
   clear he hf
   go_wp2
   go_ret
   exact ⟨by rw [XF.out];rfl,b3⟩
 ·have t1:(e != 0)=true:=by rw [bne_iff_ne];exact he
  by_cases hf:f=0
  ·have t2:(f != 0)=false:=by rw [bne_eq_false_iff_eq];exact hf
   have XF:=Lib.hid (show O=-1 by rw [XO.out,if_pos he,if_neg (by simp [hf])])
   clear he hf
   go_wp2
   go_ret
   exact ⟨by rw [XF.out];rfl,b3⟩
  ·have t2:(f != 0)=true:=by rw [bne_iff_ne];exact hf
   have XF:=Lib.hid (show O=0 by rw [XO.out,if_pos he,if_pos hf])
   clear he hf
   go_wp2
   go_ret
   exact ⟨by rw [XF.out];rfl,b3⟩
theorem cmpV_neg (e1:Int) (u1 r1:List Nat) (e2:Int) (u2 r2:List Nat):cmpV e2 u2 r2 e1 u1 r1=-cmpV e1 u1 r1 e2 u2 r2:=by
 have h1:=cmpS_neg u1 u2
 have h2:=cmpS_neg r1 r2
 unfold cmpV
 by_cases he:e1=e2
 ·subst he
  rw [if_neg (show ¬e1≠e1 by omega),if_neg (show ¬e1≠e1 by omega)]
  by_cases hu:cmpS u1 u2=0
  ·rw [if_neg (show ¬cmpS u2 u1≠0 by omega),if_neg (show ¬cmpS u1 u2≠0 by omega)];exact h2
  ·rw [if_pos (show cmpS u2 u1≠0 by omega),if_pos (show cmpS u1 u2≠0 by omega)];exact h1
 ·rw [if_pos (show e2≠e1 by omega),if_pos (show e1≠e2 by omega)]
  by_cases hl:e1 < e2
  ·rw [if_neg (show ¬e2 < e1 by omega),if_pos hl];decide
  ·rw [if_pos (show e2 < e1 by omega),if_neg hl]
theorem cmpV_tr (e1:Int) (u1 r1:List Nat) (e2:Int) (u2 r2:List Nat) (e3:Int) (u3 r3:List Nat) :
  cmpV e1 u1 r1 e2 u2 r2≤0→cmpV e2 u2 r2 e3 u3 r3≤0→cmpV e1 u1 r1 e3 u3 r3≤0∧(cmpV e1 u1 r1 e2 u2 r2 < 0∨cmpV e2 u2 r2 e3 u3 r3 < 0→cmpV e1 u1 r1 e3 u3 r3 < 0):=by
 have hu:=cmpS_tr u1 u2 u3
 have hu':=cmpS_tr u3 u2 u1
 rw [cmpS_neg u2 u3,cmpS_neg u1 u2,cmpS_neg u1 u3] at hu'
 have hr:=cmpS_tr r1 r2 r3
 unfold cmpV
 by_cases h1:e1=e2
 ·by_cases h2:e2=e3
  ·rw [if_neg (show ¬e1≠e2 by omega),if_neg (show ¬e2≠e3 by omega),if_neg (show ¬e1≠e3 by omega)]
   by_cases q1:cmpS u1 u2=0
   ·by_cases q2:cmpS u2 u3=0
    ·have q3:cmpS u1 u3=0:=by omega
     rw [if_neg (by omega),if_neg (by omega),if_neg (by omega)];exact hr
    ·rw [if_neg (show ¬cmpS u1 u2≠0 by omega),if_pos (show cmpS u2 u3≠0 by omega)]
     intro _ p2
     rw [if_pos (by omega)];omega
   ·rw [if_pos (show cmpS u1 u2≠0 by omega)]
    intro p1
    by_cases q2:cmpS u2 u3=0
    ·rw [if_neg (show ¬cmpS u2 u3≠0 by omega)]
     intro p2
     rw [if_pos (by omega)];omega
    ·rw [if_pos (show cmpS u2 u3≠0 by omega)]
     intro p2
     rw [if_pos (by omega)];omega
  ·rw [if_neg (show ¬e1≠e2 by omega),if_pos (show e2≠e3 by omega),if_pos (show e1≠e3 by omega)]
   by_cases h3:e2 < e3
   ·rw [if_pos h3,if_pos (show e1 < e3 by omega)];intro _ _;omega
   ·rw [if_neg h3];intro _ p;omega
 ·rw [if_pos (show e1≠e2 by omega)]
  by_cases h3:e1 < e2
  ·rw [if_pos h3]
   intro _
   by_cases h2:e2=e3
   ·rw [if_neg (show ¬e2≠e3 by omega),if_pos (show e1≠e3 by omega),if_pos (show e1 < e3 by omega)];intro _;omega
   ·rw [if_pos (show e2≠e3 by omega)]
    by_cases h4:e2 < e3
    ·rw [if_pos h4,if_pos (show e1≠e3 by omega),if_pos (show e1 < e3 by omega)];intro _;omega
    ·rw [if_neg h4];intro p;omega
  ·rw [if_neg h3];intro p;omega
theorem orderV_neg (a b:List Nat):orderV b a=-orderV a b:=by
 have h:=cmpV_neg (parse1 a) (parse2 a) (parse3 a) (parse1 b) (parse2 b) (parse3 b)
 unfold orderV
 by_cases h1:parseE a=0
 ·by_cases h2:parseE b=0
  ·simp only [h1,h2,ne_eq,not_true,if_false];exact h
  ·simp only [h1,h2,ne_eq,not_true,not_false_iff,if_false,if_true]
 ·by_cases h2:parseE b=0
  ·simp only [h1,h2,ne_eq,not_true,not_false_iff,if_false,if_true];decide
  ·simp only [h1,h2,ne_eq,not_true,not_false_iff,if_false,if_true];decide
theorem orderV_self (a:List Nat):orderV a a=0:=by have:=orderV_neg a a;omega
theorem orderV_tr (a b c:List Nat):orderV a b≤0→orderV b c≤0→orderV a c≤0∧(orderV a b < 0∨orderV b c < 0→orderV a c < 0):=by
 have h:=cmpV_tr (parse1 a) (parse2 a) (parse3 a) (parse1 b) (parse2 b) (parse3 b) (parse1 c) (parse2 c) (parse3 c)
 unfold orderV
 by_cases h1:parseE a=0
 ·by_cases h2:parseE b=0
  ·by_cases h3:parseE c=0
   ·simp only [h1,h2,h3,ne_eq,not_true,if_false];exact h
   ·simp only [h1,h2,h3,ne_eq,not_true,not_false_iff,if_false,if_true];intro _ p;omega
  ·by_cases h3:parseE c=0
   ·simp only [h1,h2,h3,ne_eq,not_true,not_false_iff,if_false,if_true];intro p;omega
   ·simp only [h1,h2,h3,ne_eq,not_true,not_false_iff,if_false,if_true];intro p;omega
 ·by_cases h2:parseE b=0
  ·by_cases h3:parseE c=0
   ·simp only [h1,h2,h3,ne_eq,not_true,not_false_iff,if_false,if_true];intro _ _;omega
   ·simp only [h1,h2,h3,ne_eq,not_true,not_false_iff,if_false,if_true];intro _ p;omega
  ·by_cases h3:parseE c=0
   ·simp only [h1,h2,h3,ne_eq,not_true,not_false_iff,if_false,if_true];intro _ _;omega
   ·simp only [h1,h2,h3,ne_eq,not_true,not_false_iff,if_false,if_true];intro _ _;omega
def blt (a b:ByteArray):Prop:=Op.bytesLess a.toList b.toList=true
theorem bl_cons (a b:UInt8) (x y:List UInt8):Op.bytesLess (a::x) (b::y)=true↔a.toNat < b.toNat∨(a.toNat=b.toNat∧Op.bytesLess x y=true):=by
 simp only [Op.bytesLess,Bool.or_eq_true,Bool.and_eq_true,decide_eq_true_eq,beq_iff_eq,UInt8.lt_iff_toNat_lt,UInt8.toNat_inj]
theorem bl_asym:∀x y:List UInt8,Op.bytesLess x y=true→Op.bytesLess y x=true→False
 | _,[],h,_=>by simp [Op.bytesLess] at h
 | [],_::_,_,h=>by simp [Op.bytesLess] at h
 | a::x,b::y,h,k=>by
  rw [bl_cons] at h k
  rcases h with h|⟨h,h'⟩
  ·rcases k with k|⟨k,_⟩<;>omega
  ·rcases k with k|⟨_,k'⟩
   ·omega
   ·exact bl_asym x y h' k'
theorem bl_tot:∀x y:List UInt8,Op.bytesLess x y=true∨Op.bytesLess y x=true∨x=y
 | [],[]=>.inr (.inr rfl)
 | [],_::_=>.inl rfl
 | _::_,[]=>.inr (.inl rfl)
 | a::x,b::y=>by
  rw [bl_cons,bl_cons]
  rcases Nat.lt_trichotomy a.toNat b.toNat with h|h|h
  ·exact .inl (.inl h)
  ·rcases bl_tot x y with k|k|k
   ·exact .inl (.inr ⟨h,k⟩)
   ·exact .inr (.inl (.inr ⟨h.symm,k⟩))
   ·exact .inr (.inr (by rw [UInt8.toNat_inj.1 h,k]))
  ·exact .inr (.inl (.inl h))
theorem bl_tr:∀x y z:List UInt8,Op.bytesLess x y=true→Op.bytesLess y z=true→Op.bytesLess x z=true
 | _,[],_,h,_=>by simp [Op.bytesLess] at h
 | _,_::_,[],_,k=>by simp [Op.bytesLess] at k
 | [],_::_,_::_,_,_=>rfl
 | a::x,b::y,c::z,h,k=>by
  rw [bl_cons] at h k ⊢
  rcases h with h|⟨h,h'⟩<;>rcases k with k|⟨k,k'⟩
  ·exact .inl (by omega)
  ·exact .inl (by omega)
  ·exact .inl (by omega)
  ·exact .inr ⟨by omega,bl_tr x y z h' k'⟩
theorem toList_same {a b:ByteArray} (h:a.toList=b.toList):a=b:=by
 have:=str_eq a b
 rw [h,beq_self_eq_true] at this
 exact of_decide_eq_true this.symm
theorem blt_asym {a b:ByteArray} (h:blt a b) (k:blt b a):False:=bl_asym _ _ h k
theorem blt_tot (a b:ByteArray):blt a b∨blt b a∨a=b:=by
 rcases bl_tot a.toList b.toList with h|h|h
 ·exact .inl h
 ·exact .inr (.inl h)
 ·exact .inr (.inr (toList_same h))
theorem blt_tr {a b c:ByteArray} (h:blt a b) (k:blt b c):blt a c:=bl_tr _ _ _ h k
theorem blt_self (a:ByteArray):¬blt a a:=fun h=>blt_asym h h
def lesB (x y:Ent):Bool:=if x.n=y.n then (decide (orderV (B x.v) (B y.v) < 0)||(orderV (B x.v) (B y.v)==0&&Op.bytesLess x.v.toList y.v.toList)) else Op.bytesLess x.n.toList y.n.toList
def Les (x y:Ent):Prop:=(x.n=y.n∧(orderV (B x.v) (B y.v) < 0∨(orderV (B x.v) (B y.v)=0∧blt x.v y.v)))∨(x.n≠y.n∧blt x.n y.n)
theorem lesB_iff (x y:Ent):lesB x y=true↔Les x y:=by
 unfold lesB Les blt
 by_cases h:x.n=y.n
 ·rw [if_pos h];simp [h]
 ·rw [if_neg h];simp [h]
theorem Les.asym {x y:Ent} (h:Les x y) (k:Les y x):False:=by
 have hn:=orderV_neg (B x.v) (B y.v)
 rcases h with ⟨h1,h2⟩|⟨h1,h2⟩
 ·rcases k with ⟨k1,k2⟩|⟨k1,k2⟩
  ·rcases h2 with h2|⟨h2,h3⟩<;>rcases k2 with k2|⟨k2,k3⟩
   ·omega
   ·omega
   ·omega
   ·exact blt_asym h3 k3
  ·exact k1 h1.symm
 ·rcases k with ⟨k1,k2⟩|⟨k1,k2⟩
  ·exact h1 k1.symm
  ·exact blt_asym h2 k2
theorem Les.tot (x y:Ent):Les x y∨Les y x∨(x.n=y.n∧x.v=y.v):=by
 have hn:=orderV_neg (B x.v) (B y.v)
 by_cases h:x.n=y.n
 ·rcases Int.lt_trichotomy (orderV (B x.v) (B y.v)) 0 with k|k|k
  ·exact .inl (.inl ⟨h,.inl k⟩)
  ·rcases blt_tot x.v y.v with q|q|q
   ·exact .inl (.inl ⟨h,.inr ⟨k,q⟩⟩)
   ·exact .inr (.inl (.inl ⟨h.symm,.inr ⟨by omega,q⟩⟩))
   ·exact .inr (.inr ⟨h,q⟩)
  ·exact .inr (.inl (.inl ⟨h.symm,.inl (by omega)⟩))
 ·rcases blt_tot x.n y.n with q|q|q
  ·exact .inl (.inr ⟨h,q⟩)
  ·exact .inr (.inl (.inr ⟨fun e=>h e.symm,q⟩))
  ·exact absurd q h
theorem Les.alike {x y:Ent} (h1:x.n=y.n) (h2:x.v=y.v):¬Les x y:=by
 rintro (⟨_,h|⟨_,h⟩⟩|⟨h,_⟩)
 ·rw [h2,orderV_self] at h;exact absurd h (by decide)
 ·rw [h2] at h;exact blt_self _ h
 ·exact h h1
theorem Les.tr {x y z:Ent} (h:Les x y) (k:Les y z):Les x z:=by
 have ht:=orderV_tr (B x.v) (B y.v) (B z.v)
 rcases h with ⟨h1,h2⟩|⟨h1,h2⟩<;>rcases k with ⟨k1,k2⟩|⟨k1,k2⟩
 ·refine .inl ⟨h1.trans k1,?_⟩
  rcases h2 with h2|⟨h2,h3⟩<;>rcases k2 with k2|⟨k2,k3⟩
  ·exact .inl ((ht (by omega) (by omega)).2 (.inl h2))
  ·exact .inl ((ht (by omega) (by omega)).2 (.inl h2))
  ·exact .inl ((ht (by omega) (by omega)).2 (.inr k2))
  ·have q:=(ht (by omega) (by omega)).1
   by_cases q0:orderV (B x.v) (B z.v)=0
   ·exact .inr ⟨q0,blt_tr h3 k3⟩
   ·exact .inl (by omega)
 ·exact .inr ⟨by rw [h1];exact k1,by rw [h1];exact k2⟩
 ·exact .inr ⟨by rw [←k1];exact h1,by rw [←k1];exact h2⟩
 ·exact .inr ⟨fun e=>by rw [e] at h2;exact blt_asym h2 k2,blt_tr h2 k2⟩
def Lt (l:List Atm):Prop:=l.length≤20∧∀a ∈ l,a.n.size≤100∧a.v.size≤100
def LtR (P:Prop) (e:Ending):Prop:=∃b:Bool,e=.returned (.bool b)∧(b=true→P)
theorem ltR_no (P:Prop):LtR P (.returned (.bool false)):=⟨false,rfl,fun h=>by cases h⟩
theorem ltR_yes {P:Prop} (h:P):LtR P (.returned (.bool true)):=⟨true,rfl,fun _=>h⟩
def Sm (x:Ent):Prop:=Lt x.c∧Lt x.p∧x.n.size≤100∧x.v.size≤100∧x.d.length≤15∧x.r.length≤15∧(∀g ∈ x.d,Lt g)∧(∀g ∈ x.r,Lt g)
theorem keep6 {w w1:World} (h:Below w.heap.size w w1) {a:Addr} {v:Value} (hc:w.cell? a=some v):w1.cell? a=some v:=by
 rw [h.cell (World.block_lt_of_cell? _ _ hc)];exact hc
set_option maxHeartbeats 8000000 in
theorem q6less_any (x y:Ent) (A1:Option Addr) (c1:Nat) (A2:Option Addr) (c2:Nat) (A3:Option Addr) (c3:Nat) (A4:Option Addr) (c4:Nat) (A1y:Option Addr) (c1y:Nat) (A2y:Option Addr) (c2y:Nat) (A3y:Option Addr) (c3y:Nat) (A4y:Option Addr) (c4y:Nat) (w:World) :
  Calls Tryz.prog 61 #[x.val A1 c1 A2 c2 A3 c3 A4 c4,y.val A1y c1y A2y c2y A3y c3y A4y c4y] w fun e w'=>e=.returned (.bool (lesB x y))∧Below w.heap.size w w':=by
 have X:=Lib.hid (show lesB x y=if x.n=y.n then (decide (orderV (B x.v) (B y.v) < 0)||(orderV (B x.v) (B y.v)==0&&Op.bytesLess x.v.toList y.v.toList)) else Op.bytesLess x.n.toList y.n.toList from rfl)
 have KO:=Lib.hid (fun (W:World)=>order_any x.v y.v W)
 have en:=str_eq x.n y.n
 generalize lesB x y=b at *
 generalize orderV (B x.v) (B y.v)=iV at *
 obtain ⟨n,v,d,r,c,p⟩:=x
 obtain ⟨ny,vy,dy,ry,cy,py⟩:=y
 simp only at X KO en
 show Calls Tryz.prog 61 #[.agg #[.string n,.string v,.slice A1 d.length c1,.slice A2 r.length c2,.slice A3 c.length c3,.slice A4 p.length c4],.agg #[.string ny,.string vy,.slice A1y dy.length c1y,.slice A2y ry.length c2y,.slice A3y cy.length c3y,.slice A4y py.length c4y]] w _
 obtain ⟨W1,hW1⟩:∃W,W=((w.alloc (.cells #[.string n,.string v,.slice A1 d.length c1,.slice A2 r.length c2,.slice A3 c.length c3,.slice A4 p.length c4] 53)).alloc (.cells #[.string ny,.string vy,.slice A1y dy.length c1y,.slice A2y ry.length c2y,.slice A3y cy.length c3y,.slice A4y py.length c4y] 53)):=⟨_,rfl⟩
 have B1:=Lib.hid (show Below w.heap.size w W1 by rw [hW1];exact ((Below.refl _ w).alloc (Nat.le_refl _) _).alloc (by simp) _)
 have x0:W1.cell? ⟨w.heap.size,0,none⟩=some (.string n):=by rw [hW1];simp [go_sem]
 have x1:W1.cell? ⟨w.heap.size,1,none⟩=some (.string v):=by rw [hW1];simp [go_sem]
 have y0:W1.cell? ⟨w.heap.size+1,0,none⟩=some (.string ny):=by rw [hW1];simp [go_sem]
 have y1:W1.cell? ⟨w.heap.size+1,1,none⟩=some (.string vy):=by rw [hW1];simp [go_sem]
 by_cases hn:n=ny
 ·rw [decide_eq_true hn] at en
  have XN:=Lib.hid (X.out.trans (if_pos hn))
  clear X
  have HN:=Lib.hid hn
  clear hn
  go_enter Tryz.func61,Tryz.ntmps61
  go_wp2_with fail
  rw [←hW1]
  clear hW1
  go_wp2_with fail
  refine (KO.out _).mono ?_
  rintro e w2 ⟨rfl,hb⟩
  have k0:=keep6 hb x1
  have k1:=keep6 hb y1
  have B2:=Lib.hid (B1.out.trans (hb.mono B1.out.size))
  clear x0 x1 y0 y1 hb
  rcases Int.lt_trichotomy iV 0 with q|q|q
  ·have XX:=Lib.hid (show b=true by rw [XN.out,decide_eq_true q];rfl)
   go_wp2
   go_ret
   exact ⟨by rw [XX.out];try rfl,B2.out⟩
  ·have XX:=Lib.hid (show b=Op.bytesLess v.toList vy.toList by rw [XN.out,q];rfl)
   subst q
   go_wp2
   go_ret
   exact ⟨by rw [XX.out];try rfl,B2.out⟩
  ·have XX:=Lib.hid (show b=false by rw [XN.out,decide_eq_false (by omega),beq_eq_false_iff_ne.2 (by omega)];rfl)
   have HQ:=Lib.hid (show decide (iV < 0)=false from decide_eq_false (by omega))
   have q2:(iV==0)=false:=beq_eq_false_iff_ne.2 (by omega)
   go_wp2
   go_ret
   exact ⟨by rw [XX.out];exact congrArg (fun q=>Ending.returned (.bool q)) HQ.out,B2.out⟩
 ·rw [decide_eq_false hn] at en
  have XN:=Lib.hid (X.out.trans (if_neg hn))
  clear X hn
  go_enter Tryz.func61,Tryz.ntmps61
  go_wp2_with fail
  rw [←hW1]
  clear hW1
  go_wp2
  go_ret
  exact ⟨by rw [XN.out];try rfl,B1.out⟩
structure Hr where
 e:Ent
 a:Bool
 h:Bool
deriving instance DecidableEq for Hr
def rdHr:Rd Hr:=fun w S x cs=>∃es,cs=es++[.bool x.a,.bool x.h]∧rdEnt w S x.e es
theorem rdHr_good:Good rdHr 8 where
 keep:=by
  rintro w w' S x cs ⟨es,e,h⟩ hk
  exact ⟨es,e,rdEnt_good.keep h hk⟩
 more:=by
  rintro w S S' x cs ⟨es,e,h⟩ hm
  exact ⟨es,e,rdEnt_good.more h hm⟩
 turn:=by
  rintro w w' S x cs row ⟨es,e,h⟩ hg hr
  exact ⟨es,e,rdEnt_good.turn h hg hr⟩
 len:=by
  rintro w S x cs ⟨es,rfl,h⟩
  rw [List.length_append,rdEnt_good.len h];rfl
 one:=by
  rintro w S x cs ⟨es,rfl,h⟩ u hu
  rcases List.mem_append.1 hu with hu|hu
  ·exact rdEnt_good.one h u hu
  ·simp only [List.mem_cons,List.not_mem_nil,or_false] at hu
   rcases hu with rfl|rfl<;>rfl
abbrev rdHrs:Rd (List Hr):=rdRow 8 rdHr
theorem rdHrs_good:Good rdHrs 1:=rdRow_good rdHr_good
theorem rdHrs_at {w:World} {S:Nat→Prop} {l:List Hr} {A:Option Addr} {n c:Nat} (h:rdHrs w S l [.slice A n c]):n=l.length∧n≤c∧c≤maxLen∧∀k (hk:k < l.length),∃ad A1 c1 A2 c2 A3 c3 A4 c4,A=some ad∧S ad.block∧EntV w S l[k].e A1 c1 A2 c2 A3 c3 A4 c4∧
  w.cell? (ad.add (k*8))=some (.string l[k].e.n)∧w.cell? ⟨(ad.add (k*8)).block,(ad.add (k*8)).off+1,none⟩=some (.string l[k].e.v)∧w.cell? ⟨(ad.add (k*8)).block,(ad.add (k*8)).off+2,none⟩=some (.slice A1 l[k].e.d.length c1)∧
  w.cell? ⟨(ad.add (k*8)).block,(ad.add (k*8)).off+3,none⟩=some (.slice A2 l[k].e.r.length c2)∧w.cell? ⟨(ad.add (k*8)).block,(ad.add (k*8)).off+4,none⟩=some (.slice A3 l[k].e.c.length c3)∧w.cell? ⟨(ad.add (k*8)).block,(ad.add (k*8)).off+5,none⟩=some (.slice A4 l[k].e.p.length c4)∧
  w.cell? ⟨(ad.add (k*8)).block,(ad.add (k*8)).off+6,none⟩=some (.bool l[k].a)∧w.cell? ⟨(ad.add (k*8)).block,(ad.add (k*8)).off+7,none⟩=some (.bool l[k].h):=by
 obtain ⟨A',c',e,h1,h2,h⟩:=h
 simp only [List.cons.injEq,Value.slice.injEq,and_true] at e
 obtain ⟨rfl,rfl,rfl⟩:=e
 refine ⟨rfl,h1,h2,fun k hk=>?_⟩
 obtain ⟨ad,es,e,hS,⟨es6,rfl,⟨dv,rv,cv,pv,rfl,g1,g2,g3,g4⟩⟩,hl,hc⟩:=h k hk
 obtain ⟨A1,c1,e1,_⟩:=id g1
 obtain ⟨A2,c2,e2,_⟩:=id g2
 obtain ⟨A3,c3,e3,_⟩:=id g3
 obtain ⟨A4,c4,e4,_⟩:=id g4
 simp only [List.cons.injEq,and_true] at e1 e2 e3 e4
 subst e1
 subst e2
 subst e3
 subst e4
 exact ⟨ad,A1,c1,A2,c2,A3,c3,A4,c4,e,hS,⟨g1,g2,g3,g4⟩,hc 0 _ rfl,by rw [off_add ad (k*8) 1 (by omega)];exact hc 1 _ rfl,by rw [off_add ad (k*8) 2 (by omega)];exact hc 2 _ rfl,by rw [off_add ad (k*8) 3 (by omega)];exact hc 3 _ rfl,by rw [off_add ad (k*8) 4 (by omega)];exact hc 4 _ rfl,by rw [off_add ad (k*8) 5 (by omega)];exact hc 5 _ rfl,by rw [off_add ad (k*8) 6 (by omega)];exact hc 6 _ rfl,by rw [off_add ad (k*8) 7 (by omega)];exact hc 7 _ rfl⟩
set_option maxHeartbeats 1000000 in
theorem sameAtoms7_any (A A':Option Addr) (n c n' c':Nat) (l m:List Atm) (w:World) (h:rdAtms w (lt_ w.heap.size) l [.slice A n c]) (h':rdAtms w (lt_ w.heap.size) m [.slice A' n' c']) :
  Calls Tryz.prog 68 #[.slice A n c,.slice A' n' c'] w fun e w'=>e=.returned (.bool (decide (l=m)))∧Dr w w':=by
 obtain ⟨rfl,hnc,hcm,_⟩:=rdAtms_at h
 obtain ⟨rfl,hnc',hcm',_⟩:=rdAtms_at h'
 have hcm1:c≤9223372036854775807:=hcm
 have hcm2:c'≤9223372036854775807:=hcm'
 by_cases hlen:l.length=m.length
 ·have hd:((l.length:Int) != (m.length:Int))=false:=by rw [hlen];simp
  have HL:=Lib.hid hlen
  clear hlen
  go_enter Tryz.func68,Tryz.ntmps68
  go_wp2
  go_loopw [5] (fun i wr=>∃k:Nat,k≤l.length∧i=.int .i64 k∧l.take k=m.take k∧Dr w wr) (fun i _=>l.length - (intOf i).toNat)
  case atStart=>exact ⟨0,Nat.zero_le _,rfl,rfl,Dr.refl _⟩
  case round=>
   obtain ⟨k,hk,rfl,htk,hbel⟩:=hrel
   by_cases hlt:k < l.length
   ·obtain ⟨_,_,_,ha⟩:=rdAtms_at (rdAtms_good.below h (hbel.below _))
    obtain ⟨_,_,_,hb⟩:=rdAtms_at (rdAtms_good.below h' (hbel.below _))
    have hltm:k < m.length:=by rw [←HL.out];exact hlt
    obtain ⟨ad,rfl,had,h0,h1,h2⟩:=ha k hlt
    obtain ⟨ad',rfl,had',g0,g1,g2⟩:=hb k hltm
    have T:=Lib.hid (same_take (l:=l) (m:=m) HL.out hlt hltm htk)
    have Z:=Lib.hid (show l[k]≠m[k]→l≠m from fun hn e=>hn (by subst e;rfl))
    have HB:=Lib.hid hbel
    have hki:(k:Int) < (m.length:Int):=by omega
    clear htk ha hb hbel h h'
    have hq:=neq_atm l[k] m[k]
    generalize l[k]=x at *
    generalize m[k]=y at *
    by_cases he:x=y
    ·rw [decide_eq_true he] at hq
     have HE:=Lib.hid he
     clear he
     go_wp2_with fail
     go_quiet (fail)
     go_wp2
     go_roundw
     case rel=>exact ⟨k+1,by omega,by go_num,T.out HE.out,HB.out.more _⟩
     case measure=>simp [intOf];omega
    ·rw [decide_eq_false he] at hq
     have HE:=Lib.hid he
     clear he
     go_wp2_with fail
     go_quiet (fail)
     go_wp2
     go_ret
     exact ⟨by rw [decide_eq_false (Z.out HE.out)];try rfl,HB.out.more _⟩
   ·obtain rfl:k=l.length:=by omega
    have X:=Lib.hid (show l=m by rw [List.take_length] at htk;rw [htk,HL.out,List.take_length])
    clear htk h h'
    go_wp2
    go_ret
    exact ⟨by rw [decide_eq_true X.out];try rfl,hbel⟩
 ·have hd:((l.length:Int) != (m.length:Int))=true:=by rw [bne_iff_ne];omega
  have X:=Lib.hid (show l≠m by rintro rfl;exact hlen rfl)
  clear hlen
  go_enter Tryz.func68,Tryz.ntmps68
  go_wp2
  go_ret
  exact ⟨by rw [decide_eq_false X.out];try rfl,Dr.refl _⟩
set_option maxHeartbeats 1000000 in
theorem sameGroups7_any (A A':Option Addr) (n c n' c':Nat) (l m:List (List Atm)) (w:World) (h:rdGrps w (lt_ w.heap.size) l [.slice A n c]) (h':rdGrps w (lt_ w.heap.size) m [.slice A' n' c']) :
  Calls Tryz.prog 67 #[.slice A n c,.slice A' n' c'] w fun e w'=>e=.returned (.bool (decide (l=m)))∧Dr w w':=by
 obtain ⟨rfl,hnc,hcm,_⟩:=rdGrps_at h
 obtain ⟨rfl,hnc',hcm',_⟩:=rdGrps_at h'
 have hcm1:c≤9223372036854775807:=hcm
 have hcm2:c'≤9223372036854775807:=hcm'
 by_cases hlen:l.length=m.length
 ·have hd:((l.length:Int) != (m.length:Int))=false:=by rw [hlen];simp
  have HL:=Lib.hid hlen
  clear hlen
  go_enter Tryz.func67,Tryz.ntmps67
  go_wp2
  go_loopw [5] (fun i wr=>∃k:Nat,k≤l.length∧i=.int .i64 k∧l.take k=m.take k∧Dr w wr) (fun i _=>l.length - (intOf i).toNat)
  case atStart=>exact ⟨0,Nat.zero_le _,rfl,rfl,Dr.refl _⟩
  case round=>
   obtain ⟨k,hk,rfl,htk,hbel⟩:=hrel
   by_cases hlt:k < l.length
   ·obtain ⟨_,_,_,ha⟩:=rdGrps_at (rdGrps_good.below h (hbel.below _))
    obtain ⟨_,_,_,hb⟩:=rdGrps_at (rdGrps_good.below h' (hbel.below _))
    have hltm:k < m.length:=by rw [←HL.out];exact hlt
    obtain ⟨ad,X,cx,rfl,had,h0,h1⟩:=ha k hlt
    obtain ⟨ad',Y,cy,rfl,had',g0,g1⟩:=hb k hltm
    have T:=Lib.hid (same_take (l:=l) (m:=m) HL.out hlt hltm htk)
    have Z:=Lib.hid (show l[k]≠m[k]→l≠m from fun hn e=>hn (by subst e;rfl))
    have HB:=Lib.hid hbel
    have hki:(k:Int) < (m.length:Int):=by omega
    have hsz:=hbel.size
    have K:=Lib.hid (fun nq=>sameAtoms7_any _ _ _ _ _ _ _ _ (wr.drewN nq) (rdAtms_good.below (rdAtms_good.up h1 (Nat.le_of_eq hsz.symm)) (belD (Below.refl _ _) nq)) (rdAtms_good.below (rdAtms_good.up g1 (Nat.le_of_eq hsz.symm)) (belD (Below.refl _ _) nq)))
    clear htk ha hb hbel h h' h1 g1 hsz
    generalize l[k]=x at *
    generalize m[k]=y at *
    by_cases he:x=y
    ·rw [decide_eq_true he] at K
     have HE:=Lib.hid he
     clear he
     go_wp2_with fail
     go_quiet (first|(go_at_call 68;refine Calls.quiet_of (K.out _)))
     go_wp2
     go_roundw
     case rel=>exact ⟨k+1,by omega,by go_num,T.out HE.out,HB.out.more _⟩
     case measure=>simp [intOf];omega
    ·rw [decide_eq_false he] at K
     have HE:=Lib.hid he
     clear he
     go_wp2_with fail
     go_quiet (first|(go_at_call 68;refine Calls.quiet_of (K.out _)))
     go_wp2
     go_ret
     exact ⟨by rw [decide_eq_false (Z.out HE.out)];try rfl,HB.out.more _⟩
   ·obtain rfl:k=l.length:=by omega
    have X:=Lib.hid (show l=m by rw [List.take_length] at htk;rw [htk,HL.out,List.take_length])
    clear htk h h'
    go_wp2
    go_ret
    exact ⟨by rw [decide_eq_true X.out];try rfl,hbel⟩
 ·have hd:((l.length:Int) != (m.length:Int))=true:=by rw [bne_iff_ne];omega
  have X:=Lib.hid (show l≠m by rintro rfl;exact hlen rfl)
  clear hlen
  go_enter Tryz.func67,Tryz.ntmps67
  go_wp2
  go_ret
  exact ⟨by rw [decide_eq_false X.out];try rfl,Dr.refl _⟩
end Go.Proofs.YtoopkofekekmoaaGreatDoor
