/- What the laws rest on: RefRight2, RefPrint, RefParse0. -/
import Derived.Test.YtpilmhoakopcaaaGreatDoorQABZA
set_option maxRecDepth 100000
set_option linter.unusedVariables false
set_option linter.unusedSimpArgs false
namespace Go.Proofs.YtpilmhoakopcaaaGreatDoor
open Go.RowKit
set_option maxHeartbeats 1000000 in
theorem right_false_false (e:Nat) (u r:ByteArray) (w:World) (he:e≤999999999) (hu:u.toList.isEmpty=false) (hs:0 < u.size) (hsz:u.size≤65536) (hrz:r.size≤65536) (hd:digB u[0].toNat=true) (h45:hasB (B u) 45=false) (h58:hasB (B u) 58=false) :
  Calls Tryz.prog 150 #[.agg #[.int .i64 (e:Int),.string u,.string r]] w fun e' w'=>e'=.returned (.bool (rightB (e:Int) (B u) (B r)))∧Below w.heap.size w w':=by
 have XR:=Lib.hid (show rightB e (B u) (B r)=((B u).all (chB uX)&&(B r).all (chB rX)&&decide ((textL e (B u) (B r)).length≤60)) by
  unfold rightB
  rw [decide_eq_true (by omega),headD_at u hs,hd]
  rw [h45]
  rw [h58]
  simp)
 obtain ⟨T,-,hT,ct⟩:=text_len e u r (by omega) hsz hrz
 have HT:=Lib.hid hT
 have CT:=Lib.hid ct
 clear hT ct
 have HD:=Lib.hid hd
 have C45:=Lib.hid (fun w=>has_45 u w (by omega))
 have C58:=Lib.hid (fun w=>has_58 u w (by omega))
 rw [h45] at C45
 rw [h58] at C58
 clear hd h45 h58
 go_enter Tryz.func150,Tryz.ntmps150
 go_wp2_with (first|(go_at_call 123;refine (Digit_any _ _).mono ?_;rw [HD.out];rintro e' w' ⟨rfl,rfl⟩)|(go_at_call 165;(with_reducible refine (C45.out _).mono ?_);rintro e' w' ⟨rfl,rfl⟩)|(go_at_call 165;(with_reducible refine (C58.out _).mono ?_);rintro e' w' ⟨rfl,rfl⟩))
 clear HD C45 C58
 go_loop [3] (fun x=>∃k:Nat,k≤u.size∧x=.int .i64 k∧∀c ∈ (B u).take k,chB uX c=true) (fun x=>u.size - (intOf x).toNat)
 case atStart=>exact ⟨0,Nat.zero_le _,rfl,by simp⟩
 case round=>
  obtain ⟨k,hk,rfl,hall⟩:=hrel
  have HA:=Lib.hid hall
  clear hall
  by_cases hlt:k < u.size
  ·have t_u:=byte_le u k hlt
   cases hl:letB u[k].toNat
   ·cases hd:digB u[k].toNat
    ·cases hh:hasB uX u[k].toNat
     ·have HF:=Lib.hid (all_not (p:=chB uX) hlt (by unfold chB;rw [hl,hd,hh];rfl))
      have HL:=Lib.hid hl
      have HD2:=Lib.hid hd
      have HH:=Lib.hid hh
      clear hl hd hh
      go_wp2_with (first|(go_at_call 166;refine (Letter_any _ _).mono ?_;rw [HL.out];rintro e' w' ⟨rfl,rfl⟩)|(go_at_call 123;refine (Digit_any _ _).mono ?_;rw [HD2.out];rintro e' w' ⟨rfl,rfl⟩)|(go_at_call 165;refine (has_uX _ _).mono ?_;rw [HH.out];rintro e' w' ⟨rfl,rfl⟩))
      go_ret
      exact ⟨by rw [XR.out,HF.out,Bool.false_and];rfl,(Below.refl _ w).alloc (Nat.le_refl _) _⟩
     ·have HOK:=Lib.hid (all_take (p:=chB uX) hlt HA.out (by unfold chB;rw [hl,hd,hh];rfl))
      have HL:=Lib.hid hl
      have HD2:=Lib.hid hd
      have HH:=Lib.hid hh
      clear hl hd hh
      go_wp2_with (first|(go_at_call 166;refine (Letter_any _ _).mono ?_;rw [HL.out];rintro e' w' ⟨rfl,rfl⟩)|(go_at_call 123;refine (Digit_any _ _).mono ?_;rw [HD2.out];rintro e' w' ⟨rfl,rfl⟩)|(go_at_call 165;refine (has_uX _ _).mono ?_;rw [HH.out];rintro e' w' ⟨rfl,rfl⟩))
      go_round
      case rel=>exact ⟨k+1,by omega,by go_num,HOK.out⟩
      case measure=>simp [intOf];omega
    ·have HOK:=Lib.hid (all_take (p:=chB uX) hlt HA.out (by unfold chB;rw [hl,hd];rfl))
     have HL:=Lib.hid hl
     have HD2:=Lib.hid hd
     clear hl hd
     go_wp2_with (first|(go_at_call 166;refine (Letter_any _ _).mono ?_;rw [HL.out];rintro e' w' ⟨rfl,rfl⟩)|(go_at_call 123;refine (Digit_any _ _).mono ?_;rw [HD2.out];rintro e' w' ⟨rfl,rfl⟩))
     go_round
     case rel=>exact ⟨k+1,by omega,by go_num,HOK.out⟩
     case measure=>simp [intOf];omega
   ·have HOK:=Lib.hid (all_take (p:=chB uX) hlt HA.out (by unfold chB;rw [hl];rfl))
    have HL:=Lib.hid hl
    clear hl
    go_wp2_with (go_at_call 166;refine (Letter_any _ _).mono ?_;rw [HL.out];rintro e' w' ⟨rfl,rfl⟩)
    go_round
    case rel=>exact ⟨k+1,by omega,by go_num,HOK.out⟩
    case measure=>simp [intOf];omega
  ·have HALLu:=Lib.hid (all_end hlt HA.out)
   clear HA
   go_wp2
   go_loop [5] (fun x=>∃m:Nat,m≤r.size∧x=.int .i64 m∧∀c ∈ (B r).take m,chB rX c=true) (fun x=>r.size - (intOf x).toNat)
   case atStart=>exact ⟨0,Nat.zero_le _,rfl,by simp⟩
   case round=>
    obtain ⟨m,hm,rfl,hall⟩:=hrel
    have HA:=Lib.hid hall
    clear hall
    by_cases hlt:m < r.size
    ·have t_u:=byte_le r m hlt
     cases hl:letB r[m].toNat
     ·cases hd:digB r[m].toNat
      ·cases hh:hasB rX r[m].toNat
       ·have HF:=Lib.hid (all_not (p:=chB rX) hlt (by unfold chB;rw [hl,hd,hh];rfl))
        have HL:=Lib.hid hl
        have HD2:=Lib.hid hd
        have HH:=Lib.hid hh
        clear hl hd hh
        go_wp2_with (first|(go_at_call 166;refine (Letter_any _ _).mono ?_;rw [HL.out];rintro e' w' ⟨rfl,rfl⟩)|(go_at_call 123;refine (Digit_any _ _).mono ?_;rw [HD2.out];rintro e' w' ⟨rfl,rfl⟩)|(go_at_call 165;refine (has_rX _ _).mono ?_;rw [HH.out];rintro e' w' ⟨rfl,rfl⟩))
        go_ret
        exact ⟨by rw [XR.out,HF.out,Bool.and_false,Bool.false_and];rfl,(Below.refl _ w).alloc (Nat.le_refl _) _⟩
       ·have HOK:=Lib.hid (all_take (p:=chB rX) hlt HA.out (by unfold chB;rw [hl,hd,hh];rfl))
        have HL:=Lib.hid hl
        have HD2:=Lib.hid hd
        have HH:=Lib.hid hh
        clear hl hd hh
        go_wp2_with (first|(go_at_call 166;refine (Letter_any _ _).mono ?_;rw [HL.out];rintro e' w' ⟨rfl,rfl⟩)|(go_at_call 123;refine (Digit_any _ _).mono ?_;rw [HD2.out];rintro e' w' ⟨rfl,rfl⟩)|(go_at_call 165;refine (has_rX _ _).mono ?_;rw [HH.out];rintro e' w' ⟨rfl,rfl⟩))
        go_round
        case rel=>exact ⟨m+1,by omega,by go_num,HOK.out⟩
        case measure=>simp [intOf];omega
      ·have HOK:=Lib.hid (all_take (p:=chB rX) hlt HA.out (by unfold chB;rw [hl,hd];rfl))
       have HL:=Lib.hid hl
       have HD2:=Lib.hid hd
       clear hl hd
       go_wp2_with (first|(go_at_call 166;refine (Letter_any _ _).mono ?_;rw [HL.out];rintro e' w' ⟨rfl,rfl⟩)|(go_at_call 123;refine (Digit_any _ _).mono ?_;rw [HD2.out];rintro e' w' ⟨rfl,rfl⟩))
       go_round
       case rel=>exact ⟨m+1,by omega,by go_num,HOK.out⟩
       case measure=>simp [intOf];omega
     ·have HOK:=Lib.hid (all_take (p:=chB rX) hlt HA.out (by unfold chB;rw [hl];rfl))
      have HL:=Lib.hid hl
      clear hl
      go_wp2_with (go_at_call 166;refine (Letter_any _ _).mono ?_;rw [HL.out];rintro e' w' ⟨rfl,rfl⟩)
      go_round
      case rel=>exact ⟨m+1,by omega,by go_num,HOK.out⟩
      case measure=>simp [intOf];omega
    ·have HALLr:=Lib.hid (all_end hlt HA.out)
     clear HA
     go_wp2_with (go_at_call 151;(with_reducible refine (CT.out _).mono ?_);rintro e' w1 ⟨rfl,hb1⟩)
     go_ret
     exact ⟨by rw [XR.out,HALLu.out,HALLr.out,←HT.out];show Ending.returned (.bool (decide ((T.size:Int)≤60)))=.returned (.bool (decide (T.size≤60)));rw [decide_eq_decide.2 (show (T.size:Int)≤60↔T.size≤60 by omega)],((Below.refl _ w).alloc (Nat.le_refl _) _).trans (hb1.mono (by simp))⟩
set_option maxHeartbeats 1000000 in
theorem right_false_true (e:Nat) (u r:ByteArray) (w:World) (he:e≤999999999) (hu:u.toList.isEmpty=false) (hs:0 < u.size) (hsz:u.size≤65536) (hrz:r.size≤65536) (hd:digB u[0].toNat=true) (h45:hasB (B u) 45=false) (h58:hasB (B u) 58=true) (he0:((e:Int)==0)=false) :
  Calls Tryz.prog 150 #[.agg #[.int .i64 (e:Int),.string u,.string r]] w fun e' w'=>e'=.returned (.bool (rightB (e:Int) (B u) (B r)))∧Below w.heap.size w w':=by
 have XR:=Lib.hid (show rightB e (B u) (B r)=((B u).all (chB uX)&&(B r).all (chB rX)&&decide ((textL e (B u) (B r)).length≤60)) by
  unfold rightB
  rw [decide_eq_true (by omega),headD_at u hs,hd]
  rw [h45]
  rw [h58,show decide ((e:Int)=0)=false from decide_eq_false (by intro h;rw [h] at he0;cases he0)]
  simp)
 obtain ⟨T,-,hT,ct⟩:=text_len e u r (by omega) hsz hrz
 have HT:=Lib.hid hT
 have CT:=Lib.hid ct
 clear hT ct
 have HD:=Lib.hid hd
 have C45:=Lib.hid (fun w=>has_45 u w (by omega))
 have C58:=Lib.hid (fun w=>has_58 u w (by omega))
 rw [h45] at C45
 rw [h58] at C58
 clear hd h45 h58
 go_enter Tryz.func150,Tryz.ntmps150
 go_wp2_with (first|(go_at_call 123;refine (Digit_any _ _).mono ?_;rw [HD.out];rintro e' w' ⟨rfl,rfl⟩)|(go_at_call 165;(with_reducible refine (C45.out _).mono ?_);rintro e' w' ⟨rfl,rfl⟩)|(go_at_call 165;(with_reducible refine (C58.out _).mono ?_);rintro e' w' ⟨rfl,rfl⟩))
 clear HD C45 C58
 go_loop [3] (fun x=>∃k:Nat,k≤u.size∧x=.int .i64 k∧∀c ∈ (B u).take k,chB uX c=true) (fun x=>u.size - (intOf x).toNat)
 case atStart=>exact ⟨0,Nat.zero_le _,rfl,by simp⟩
 case round=>
  obtain ⟨k,hk,rfl,hall⟩:=hrel
  have HA:=Lib.hid hall
  clear hall
  by_cases hlt:k < u.size
  ·have t_u:=byte_le u k hlt
   cases hl:letB u[k].toNat
   ·cases hd:digB u[k].toNat
    ·cases hh:hasB uX u[k].toNat
     ·have HF:=Lib.hid (all_not (p:=chB uX) hlt (by unfold chB;rw [hl,hd,hh];rfl))
      have HL:=Lib.hid hl
      have HD2:=Lib.hid hd
      have HH:=Lib.hid hh
      clear hl hd hh
      go_wp2_with (first|(go_at_call 166;refine (Letter_any _ _).mono ?_;rw [HL.out];rintro e' w' ⟨rfl,rfl⟩)|(go_at_call 123;refine (Digit_any _ _).mono ?_;rw [HD2.out];rintro e' w' ⟨rfl,rfl⟩)|(go_at_call 165;refine (has_uX _ _).mono ?_;rw [HH.out];rintro e' w' ⟨rfl,rfl⟩))
      go_ret
      exact ⟨by rw [XR.out,HF.out,Bool.false_and];rfl,(Below.refl _ w).alloc (Nat.le_refl _) _⟩
     ·have HOK:=Lib.hid (all_take (p:=chB uX) hlt HA.out (by unfold chB;rw [hl,hd,hh];rfl))
      have HL:=Lib.hid hl
      have HD2:=Lib.hid hd
      have HH:=Lib.hid hh
      clear hl hd hh
      go_wp2_with (first|(go_at_call 166;refine (Letter_any _ _).mono ?_;rw [HL.out];rintro e' w' ⟨rfl,rfl⟩)|(go_at_call 123;refine (Digit_any _ _).mono ?_;rw [HD2.out];rintro e' w' ⟨rfl,rfl⟩)|(go_at_call 165;refine (has_uX _ _).mono ?_;rw [HH.out];rintro e' w' ⟨rfl,rfl⟩))
      go_round
      case rel=>exact ⟨k+1,by omega,by go_num,HOK.out⟩
      case measure=>simp [intOf];omega
    ·have HOK:=Lib.hid (all_take (p:=chB uX) hlt HA.out (by unfold chB;rw [hl,hd];rfl))
     have HL:=Lib.hid hl
     have HD2:=Lib.hid hd
     clear hl hd
     go_wp2_with (first|(go_at_call 166;refine (Letter_any _ _).mono ?_;rw [HL.out];rintro e' w' ⟨rfl,rfl⟩)|(go_at_call 123;refine (Digit_any _ _).mono ?_;rw [HD2.out];rintro e' w' ⟨rfl,rfl⟩))
     go_round
     case rel=>exact ⟨k+1,by omega,by go_num,HOK.out⟩
     case measure=>simp [intOf];omega
   ·have HOK:=Lib.hid (all_take (p:=chB uX) hlt HA.out (by unfold chB;rw [hl];rfl))
    have HL:=Lib.hid hl
    clear hl
    go_wp2_with (go_at_call 166;refine (Letter_any _ _).mono ?_;rw [HL.out];rintro e' w' ⟨rfl,rfl⟩)
    go_round
    case rel=>exact ⟨k+1,by omega,by go_num,HOK.out⟩
    case measure=>simp [intOf];omega
  ·have HALLu:=Lib.hid (all_end hlt HA.out)
   clear HA
   go_wp2
   go_loop [5] (fun x=>∃m:Nat,m≤r.size∧x=.int .i64 m∧∀c ∈ (B r).take m,chB rX c=true) (fun x=>r.size - (intOf x).toNat)
   case atStart=>exact ⟨0,Nat.zero_le _,rfl,by simp⟩
   case round=>
    obtain ⟨m,hm,rfl,hall⟩:=hrel
    have HA:=Lib.hid hall
    clear hall
    by_cases hlt:m < r.size
    ·have t_u:=byte_le r m hlt
     cases hl:letB r[m].toNat
     ·cases hd:digB r[m].toNat
      ·cases hh:hasB rX r[m].toNat
       ·have HF:=Lib.hid (all_not (p:=chB rX) hlt (by unfold chB;rw [hl,hd,hh];rfl))
        have HL:=Lib.hid hl
        have HD2:=Lib.hid hd
        have HH:=Lib.hid hh
        clear hl hd hh
        go_wp2_with (first|(go_at_call 166;refine (Letter_any _ _).mono ?_;rw [HL.out];rintro e' w' ⟨rfl,rfl⟩)|(go_at_call 123;refine (Digit_any _ _).mono ?_;rw [HD2.out];rintro e' w' ⟨rfl,rfl⟩)|(go_at_call 165;refine (has_rX _ _).mono ?_;rw [HH.out];rintro e' w' ⟨rfl,rfl⟩))
        go_ret
        exact ⟨by rw [XR.out,HF.out,Bool.and_false,Bool.false_and];rfl,(Below.refl _ w).alloc (Nat.le_refl _) _⟩
       ·have HOK:=Lib.hid (all_take (p:=chB rX) hlt HA.out (by unfold chB;rw [hl,hd,hh];rfl))
        have HL:=Lib.hid hl
        have HD2:=Lib.hid hd
        have HH:=Lib.hid hh
        clear hl hd hh
        go_wp2_with (first|(go_at_call 166;refine (Letter_any _ _).mono ?_;rw [HL.out];rintro e' w' ⟨rfl,rfl⟩)|(go_at_call 123;refine (Digit_any _ _).mono ?_;rw [HD2.out];rintro e' w' ⟨rfl,rfl⟩)|(go_at_call 165;refine (has_rX _ _).mono ?_;rw [HH.out];rintro e' w' ⟨rfl,rfl⟩))
        go_round
        case rel=>exact ⟨m+1,by omega,by go_num,HOK.out⟩
        case measure=>simp [intOf];omega
      ·have HOK:=Lib.hid (all_take (p:=chB rX) hlt HA.out (by unfold chB;rw [hl,hd];rfl))
       have HL:=Lib.hid hl
       have HD2:=Lib.hid hd
       clear hl hd
       go_wp2_with (first|(go_at_call 166;refine (Letter_any _ _).mono ?_;rw [HL.out];rintro e' w' ⟨rfl,rfl⟩)|(go_at_call 123;refine (Digit_any _ _).mono ?_;rw [HD2.out];rintro e' w' ⟨rfl,rfl⟩))
       go_round
       case rel=>exact ⟨m+1,by omega,by go_num,HOK.out⟩
       case measure=>simp [intOf];omega
     ·have HOK:=Lib.hid (all_take (p:=chB rX) hlt HA.out (by unfold chB;rw [hl];rfl))
      have HL:=Lib.hid hl
      clear hl
      go_wp2_with (go_at_call 166;refine (Letter_any _ _).mono ?_;rw [HL.out];rintro e' w' ⟨rfl,rfl⟩)
      go_round
      case rel=>exact ⟨m+1,by omega,by go_num,HOK.out⟩
      case measure=>simp [intOf];omega
    ·have HALLr:=Lib.hid (all_end hlt HA.out)
     clear HA
     go_wp2_with (go_at_call 151;(with_reducible refine (CT.out _).mono ?_);rintro e' w1 ⟨rfl,hb1⟩)
     go_ret
     exact ⟨by rw [XR.out,HALLu.out,HALLr.out,←HT.out];show Ending.returned (.bool (decide ((T.size:Int)≤60)))=.returned (.bool (decide (T.size≤60)));rw [decide_eq_decide.2 (show (T.size:Int)≤60↔T.size≤60 by omega)],((Below.refl _ w).alloc (Nat.le_refl _) _).trans (hb1.mono (by simp))⟩
set_option maxHeartbeats 1000000 in
theorem right_true_false (e:Nat) (u r:ByteArray) (w:World) (he:e≤999999999) (hu:u.toList.isEmpty=false) (hs:0 < u.size) (hsz:u.size≤65536) (hrz:r.size≤65536) (hd:digB u[0].toNat=true) (h45:hasB (B u) 45=true) (hre:r.toList.isEmpty=false) (h58:hasB (B u) 58=false) :
  Calls Tryz.prog 150 #[.agg #[.int .i64 (e:Int),.string u,.string r]] w fun e' w'=>e'=.returned (.bool (rightB (e:Int) (B u) (B r)))∧Below w.heap.size w w':=by
 have XR:=Lib.hid (show rightB e (B u) (B r)=((B u).all (chB uX)&&(B r).all (chB rX)&&decide ((textL e (B u) (B r)).length≤60)) by
  unfold rightB
  rw [decide_eq_true (by omega),headD_at u hs,hd]
  rw [h45,decide_eq_false (fun h=>by rw [(empty_iff r).2 h] at hre;cases hre)]
  rw [h58]
  simp)
 obtain ⟨T,-,hT,ct⟩:=text_len e u r (by omega) hsz hrz
 have HT:=Lib.hid hT
 have CT:=Lib.hid ct
 clear hT ct
 have HD:=Lib.hid hd
 have C45:=Lib.hid (fun w=>has_45 u w (by omega))
 have C58:=Lib.hid (fun w=>has_58 u w (by omega))
 rw [h45] at C45
 rw [h58] at C58
 clear hd h45 h58
 go_enter Tryz.func150,Tryz.ntmps150
 go_wp2_with (first|(go_at_call 123;refine (Digit_any _ _).mono ?_;rw [HD.out];rintro e' w' ⟨rfl,rfl⟩)|(go_at_call 165;(with_reducible refine (C45.out _).mono ?_);rintro e' w' ⟨rfl,rfl⟩)|(go_at_call 165;(with_reducible refine (C58.out _).mono ?_);rintro e' w' ⟨rfl,rfl⟩))
 clear HD C45 C58
 go_loop [3] (fun x=>∃k:Nat,k≤u.size∧x=.int .i64 k∧∀c ∈ (B u).take k,chB uX c=true) (fun x=>u.size - (intOf x).toNat)
 case atStart=>exact ⟨0,Nat.zero_le _,rfl,by simp⟩
 case round=>
  obtain ⟨k,hk,rfl,hall⟩:=hrel
  have HA:=Lib.hid hall
  clear hall
  by_cases hlt:k < u.size
  ·have t_u:=byte_le u k hlt
   cases hl:letB u[k].toNat
   ·cases hd:digB u[k].toNat
    ·cases hh:hasB uX u[k].toNat
     ·have HF:=Lib.hid (all_not (p:=chB uX) hlt (by unfold chB;rw [hl,hd,hh];rfl))
      have HL:=Lib.hid hl
      have HD2:=Lib.hid hd
      have HH:=Lib.hid hh
      clear hl hd hh
      go_wp2_with (first|(go_at_call 166;refine (Letter_any _ _).mono ?_;rw [HL.out];rintro e' w' ⟨rfl,rfl⟩)|(go_at_call 123;refine (Digit_any _ _).mono ?_;rw [HD2.out];rintro e' w' ⟨rfl,rfl⟩)|(go_at_call 165;refine (has_uX _ _).mono ?_;rw [HH.out];rintro e' w' ⟨rfl,rfl⟩))
      go_ret
      exact ⟨by rw [XR.out,HF.out,Bool.false_and];rfl,(Below.refl _ w).alloc (Nat.le_refl _) _⟩
     ·have HOK:=Lib.hid (all_take (p:=chB uX) hlt HA.out (by unfold chB;rw [hl,hd,hh];rfl))
      have HL:=Lib.hid hl
      have HD2:=Lib.hid hd
      have HH:=Lib.hid hh
      clear hl hd hh
      go_wp2_with (first|(go_at_call 166;refine (Letter_any _ _).mono ?_;rw [HL.out];rintro e' w' ⟨rfl,rfl⟩)|(go_at_call 123;refine (Digit_any _ _).mono ?_;rw [HD2.out];rintro e' w' ⟨rfl,rfl⟩)|(go_at_call 165;refine (has_uX _ _).mono ?_;rw [HH.out];rintro e' w' ⟨rfl,rfl⟩))
      go_round
      case rel=>exact ⟨k+1,by omega,by go_num,HOK.out⟩
      case measure=>simp [intOf];omega
    ·have HOK:=Lib.hid (all_take (p:=chB uX) hlt HA.out (by unfold chB;rw [hl,hd];rfl))
     have HL:=Lib.hid hl
     have HD2:=Lib.hid hd
     clear hl hd
     go_wp2_with (first|(go_at_call 166;refine (Letter_any _ _).mono ?_;rw [HL.out];rintro e' w' ⟨rfl,rfl⟩)|(go_at_call 123;refine (Digit_any _ _).mono ?_;rw [HD2.out];rintro e' w' ⟨rfl,rfl⟩))
     go_round
     case rel=>exact ⟨k+1,by omega,by go_num,HOK.out⟩
     case measure=>simp [intOf];omega
   ·have HOK:=Lib.hid (all_take (p:=chB uX) hlt HA.out (by unfold chB;rw [hl];rfl))
    have HL:=Lib.hid hl
    clear hl
    go_wp2_with (go_at_call 166;refine (Letter_any _ _).mono ?_;rw [HL.out];rintro e' w' ⟨rfl,rfl⟩)
    go_round
    case rel=>exact ⟨k+1,by omega,by go_num,HOK.out⟩
    case measure=>simp [intOf];omega
  ·have HALLu:=Lib.hid (all_end hlt HA.out)
   clear HA
   go_wp2
   go_loop [5] (fun x=>∃m:Nat,m≤r.size∧x=.int .i64 m∧∀c ∈ (B r).take m,chB rX c=true) (fun x=>r.size - (intOf x).toNat)
   case atStart=>exact ⟨0,Nat.zero_le _,rfl,by simp⟩
   case round=>
    obtain ⟨m,hm,rfl,hall⟩:=hrel
    have HA:=Lib.hid hall
    clear hall
    by_cases hlt:m < r.size
    ·have t_u:=byte_le r m hlt
     cases hl:letB r[m].toNat
     ·cases hd:digB r[m].toNat
      ·cases hh:hasB rX r[m].toNat
       ·have HF:=Lib.hid (all_not (p:=chB rX) hlt (by unfold chB;rw [hl,hd,hh];rfl))
        have HL:=Lib.hid hl
        have HD2:=Lib.hid hd
        have HH:=Lib.hid hh
        clear hl hd hh
        go_wp2_with (first|(go_at_call 166;refine (Letter_any _ _).mono ?_;rw [HL.out];rintro e' w' ⟨rfl,rfl⟩)|(go_at_call 123;refine (Digit_any _ _).mono ?_;rw [HD2.out];rintro e' w' ⟨rfl,rfl⟩)|(go_at_call 165;refine (has_rX _ _).mono ?_;rw [HH.out];rintro e' w' ⟨rfl,rfl⟩))
        go_ret
        exact ⟨by rw [XR.out,HF.out,Bool.and_false,Bool.false_and];rfl,(Below.refl _ w).alloc (Nat.le_refl _) _⟩
       ·have HOK:=Lib.hid (all_take (p:=chB rX) hlt HA.out (by unfold chB;rw [hl,hd,hh];rfl))
        have HL:=Lib.hid hl
        have HD2:=Lib.hid hd
        have HH:=Lib.hid hh
        clear hl hd hh
        go_wp2_with (first|(go_at_call 166;refine (Letter_any _ _).mono ?_;rw [HL.out];rintro e' w' ⟨rfl,rfl⟩)|(go_at_call 123;refine (Digit_any _ _).mono ?_;rw [HD2.out];rintro e' w' ⟨rfl,rfl⟩)|(go_at_call 165;refine (has_rX _ _).mono ?_;rw [HH.out];rintro e' w' ⟨rfl,rfl⟩))
        go_round
        case rel=>exact ⟨m+1,by omega,by go_num,HOK.out⟩
        case measure=>simp [intOf];omega
      ·have HOK:=Lib.hid (all_take (p:=chB rX) hlt HA.out (by unfold chB;rw [hl,hd];rfl))
       have HL:=Lib.hid hl
       have HD2:=Lib.hid hd
       clear hl hd
       go_wp2_with (first|(go_at_call 166;refine (Letter_any _ _).mono ?_;rw [HL.out];rintro e' w' ⟨rfl,rfl⟩)|(go_at_call 123;refine (Digit_any _ _).mono ?_;rw [HD2.out];rintro e' w' ⟨rfl,rfl⟩))
       go_round
       case rel=>exact ⟨m+1,by omega,by go_num,HOK.out⟩
       case measure=>simp [intOf];omega
     ·have HOK:=Lib.hid (all_take (p:=chB rX) hlt HA.out (by unfold chB;rw [hl];rfl))
      have HL:=Lib.hid hl
      clear hl
      go_wp2_with (go_at_call 166;refine (Letter_any _ _).mono ?_;rw [HL.out];rintro e' w' ⟨rfl,rfl⟩)
      go_round
      case rel=>exact ⟨m+1,by omega,by go_num,HOK.out⟩
      case measure=>simp [intOf];omega
    ·have HALLr:=Lib.hid (all_end hlt HA.out)
     clear HA
     go_wp2_with (go_at_call 151;(with_reducible refine (CT.out _).mono ?_);rintro e' w1 ⟨rfl,hb1⟩)
     go_ret
     exact ⟨by rw [XR.out,HALLu.out,HALLr.out,←HT.out];show Ending.returned (.bool (decide ((T.size:Int)≤60)))=.returned (.bool (decide (T.size≤60)));rw [decide_eq_decide.2 (show (T.size:Int)≤60↔T.size≤60 by omega)],((Below.refl _ w).alloc (Nat.le_refl _) _).trans (hb1.mono (by simp))⟩
set_option maxHeartbeats 1000000 in
theorem right_true_true (e:Nat) (u r:ByteArray) (w:World) (he:e≤999999999) (hu:u.toList.isEmpty=false) (hs:0 < u.size) (hsz:u.size≤65536) (hrz:r.size≤65536) (hd:digB u[0].toNat=true) (h45:hasB (B u) 45=true) (hre:r.toList.isEmpty=false) (h58:hasB (B u) 58=true) (he0:((e:Int)==0)=false) :
  Calls Tryz.prog 150 #[.agg #[.int .i64 (e:Int),.string u,.string r]] w fun e' w'=>e'=.returned (.bool (rightB (e:Int) (B u) (B r)))∧Below w.heap.size w w':=by
 have XR:=Lib.hid (show rightB e (B u) (B r)=((B u).all (chB uX)&&(B r).all (chB rX)&&decide ((textL e (B u) (B r)).length≤60)) by
  unfold rightB
  rw [decide_eq_true (by omega),headD_at u hs,hd]
  rw [h45,decide_eq_false (fun h=>by rw [(empty_iff r).2 h] at hre;cases hre)]
  rw [h58,show decide ((e:Int)=0)=false from decide_eq_false (by intro h;rw [h] at he0;cases he0)]
  simp)
 obtain ⟨T,-,hT,ct⟩:=text_len e u r (by omega) hsz hrz
 have HT:=Lib.hid hT
 have CT:=Lib.hid ct
 clear hT ct
 have HD:=Lib.hid hd
 have C45:=Lib.hid (fun w=>has_45 u w (by omega))
 have C58:=Lib.hid (fun w=>has_58 u w (by omega))
 rw [h45] at C45
 rw [h58] at C58
 clear hd h45 h58
 go_enter Tryz.func150,Tryz.ntmps150
 go_wp2_with (first|(go_at_call 123;refine (Digit_any _ _).mono ?_;rw [HD.out];rintro e' w' ⟨rfl,rfl⟩)|(go_at_call 165;(with_reducible refine (C45.out _).mono ?_);rintro e' w' ⟨rfl,rfl⟩)|(go_at_call 165;(with_reducible refine (C58.out _).mono ?_);rintro e' w' ⟨rfl,rfl⟩))
 clear HD C45 C58
 go_loop [3] (fun x=>∃k:Nat,k≤u.size∧x=.int .i64 k∧∀c ∈ (B u).take k,chB uX c=true) (fun x=>u.size - (intOf x).toNat)
 case atStart=>exact ⟨0,Nat.zero_le _,rfl,by simp⟩
 case round=>
  obtain ⟨k,hk,rfl,hall⟩:=hrel
  have HA:=Lib.hid hall
  clear hall
  by_cases hlt:k < u.size
  ·have t_u:=byte_le u k hlt
   cases hl:letB u[k].toNat
   ·cases hd:digB u[k].toNat
    ·cases hh:hasB uX u[k].toNat
     ·have HF:=Lib.hid (all_not (p:=chB uX) hlt (by unfold chB;rw [hl,hd,hh];rfl))
      have HL:=Lib.hid hl
      have HD2:=Lib.hid hd
      have HH:=Lib.hid hh
      clear hl hd hh
      go_wp2_with (first|(go_at_call 166;refine (Letter_any _ _).mono ?_;rw [HL.out];rintro e' w' ⟨rfl,rfl⟩)|(go_at_call 123;refine (Digit_any _ _).mono ?_;rw [HD2.out];rintro e' w' ⟨rfl,rfl⟩)|(go_at_call 165;refine (has_uX _ _).mono ?_;rw [HH.out];rintro e' w' ⟨rfl,rfl⟩))
      go_ret
      exact ⟨by rw [XR.out,HF.out,Bool.false_and];rfl,(Below.refl _ w).alloc (Nat.le_refl _) _⟩
     ·have HOK:=Lib.hid (all_take (p:=chB uX) hlt HA.out (by unfold chB;rw [hl,hd,hh];rfl))
      have HL:=Lib.hid hl
      have HD2:=Lib.hid hd
      have HH:=Lib.hid hh
      clear hl hd hh
      go_wp2_with (first|(go_at_call 166;refine (Letter_any _ _).mono ?_;rw [HL.out];rintro e' w' ⟨rfl,rfl⟩)|(go_at_call 123;refine (Digit_any _ _).mono ?_;rw [HD2.out];rintro e' w' ⟨rfl,rfl⟩)|(go_at_call 165;refine (has_uX _ _).mono ?_;rw [HH.out];rintro e' w' ⟨rfl,rfl⟩))
      go_round
      case rel=>exact ⟨k+1,by omega,by go_num,HOK.out⟩
      case measure=>simp [intOf];omega
    ·have HOK:=Lib.hid (all_take (p:=chB uX) hlt HA.out (by unfold chB;rw [hl,hd];rfl))
     have HL:=Lib.hid hl
     have HD2:=Lib.hid hd
     clear hl hd
     go_wp2_with (first|(go_at_call 166;refine (Letter_any _ _).mono ?_;rw [HL.out];rintro e' w' ⟨rfl,rfl⟩)|(go_at_call 123;refine (Digit_any _ _).mono ?_;rw [HD2.out];rintro e' w' ⟨rfl,rfl⟩))
     go_round
     case rel=>exact ⟨k+1,by omega,by go_num,HOK.out⟩
     case measure=>simp [intOf];omega
   ·have HOK:=Lib.hid (all_take (p:=chB uX) hlt HA.out (by unfold chB;rw [hl];rfl))
    have HL:=Lib.hid hl
    clear hl
    go_wp2_with (go_at_call 166;refine (Letter_any _ _).mono ?_;rw [HL.out];rintro e' w' ⟨rfl,rfl⟩)
    go_round
    case rel=>exact ⟨k+1,by omega,by go_num,HOK.out⟩
    case measure=>simp [intOf];omega
  ·have HALLu:=Lib.hid (all_end hlt HA.out)
   clear HA
   go_wp2
   go_loop [5] (fun x=>∃m:Nat,m≤r.size∧x=.int .i64 m∧∀c ∈ (B r).take m,chB rX c=true) (fun x=>r.size - (intOf x).toNat)
   case atStart=>exact ⟨0,Nat.zero_le _,rfl,by simp⟩
   case round=>
    obtain ⟨m,hm,rfl,hall⟩:=hrel
    have HA:=Lib.hid hall
    clear hall
    by_cases hlt:m < r.size
    ·have t_u:=byte_le r m hlt
     cases hl:letB r[m].toNat
     ·cases hd:digB r[m].toNat
      ·cases hh:hasB rX r[m].toNat
       ·have HF:=Lib.hid (all_not (p:=chB rX) hlt (by unfold chB;rw [hl,hd,hh];rfl))
        have HL:=Lib.hid hl
        have HD2:=Lib.hid hd
        have HH:=Lib.hid hh
        clear hl hd hh
        go_wp2_with (first|(go_at_call 166;refine (Letter_any _ _).mono ?_;rw [HL.out];rintro e' w' ⟨rfl,rfl⟩)|(go_at_call 123;refine (Digit_any _ _).mono ?_;rw [HD2.out];rintro e' w' ⟨rfl,rfl⟩)|(go_at_call 165;refine (has_rX _ _).mono ?_;rw [HH.out];rintro e' w' ⟨rfl,rfl⟩))
        go_ret
        exact ⟨by rw [XR.out,HF.out,Bool.and_false,Bool.false_and];rfl,(Below.refl _ w).alloc (Nat.le_refl _) _⟩
       ·have HOK:=Lib.hid (all_take (p:=chB rX) hlt HA.out (by unfold chB;rw [hl,hd,hh];rfl))
        have HL:=Lib.hid hl
        have HD2:=Lib.hid hd
        have HH:=Lib.hid hh
        clear hl hd hh
        go_wp2_with (first|(go_at_call 166;refine (Letter_any _ _).mono ?_;rw [HL.out];rintro e' w' ⟨rfl,rfl⟩)|(go_at_call 123;refine (Digit_any _ _).mono ?_;rw [HD2.out];rintro e' w' ⟨rfl,rfl⟩)|(go_at_call 165;refine (has_rX _ _).mono ?_;rw [HH.out];rintro e' w' ⟨rfl,rfl⟩))
        go_round
        case rel=>exact ⟨m+1,by omega,by go_num,HOK.out⟩
        case measure=>simp [intOf];omega
      ·have HOK:=Lib.hid (all_take (p:=chB rX) hlt HA.out (by unfold chB;rw [hl,hd];rfl))
       have HL:=Lib.hid hl
       have HD2:=Lib.hid hd
       clear hl hd
       go_wp2_with (first|(go_at_call 166;refine (Letter_any _ _).mono ?_;rw [HL.out];rintro e' w' ⟨rfl,rfl⟩)|(go_at_call 123;refine (Digit_any _ _).mono ?_;rw [HD2.out];rintro e' w' ⟨rfl,rfl⟩))
       go_round
       case rel=>exact ⟨m+1,by omega,by go_num,HOK.out⟩
       case measure=>simp [intOf];omega
     ·have HOK:=Lib.hid (all_take (p:=chB rX) hlt HA.out (by unfold chB;rw [hl];rfl))
      have HL:=Lib.hid hl
      clear hl
      go_wp2_with (go_at_call 166;refine (Letter_any _ _).mono ?_;rw [HL.out];rintro e' w' ⟨rfl,rfl⟩)
      go_round
      case rel=>exact ⟨m+1,by omega,by go_num,HOK.out⟩
      case measure=>simp [intOf];omega
    ·have HALLr:=Lib.hid (all_end hlt HA.out)
     clear HA
     go_wp2_with (go_at_call 151;(with_reducible refine (CT.out _).mono ?_);rintro e' w1 ⟨rfl,hb1⟩)
     go_ret
     exact ⟨by rw [XR.out,HALLu.out,HALLr.out,←HT.out];show Ending.returned (.bool (decide ((T.size:Int)≤60)))=.returned (.bool (decide (T.size≤60)));rw [decide_eq_decide.2 (show (T.size:Int)≤60↔T.size≤60 by omega)],((Below.refl _ w).alloc (Nat.le_refl _) _).trans (hb1.mono (by simp))⟩
theorem right_any (e:Int) (u r:ByteArray) (w:World) (hsz:u.size≤65536) (hrz:r.size≤65536) :
  Calls Tryz.prog 150 #[.agg #[.int .i64 e,.string u,.string r]] w fun e' w'=>e'=.returned (.bool (rightB e (B u) (B r)))∧Below w.heap.size w w':=by
 by_cases h0:0≤e
 ·by_cases h1:e≤999999999
  ·cases hu:u.toList.isEmpty
   ·have hs:0 < u.size:=by
     rcases Nat.eq_zero_or_pos u.size with h|h
     ·have:=(empty_iff u).2 (List.eq_nil_of_length_eq_zero (by rw [B_len];exact h))
      rw [hu] at this;cases this
     ·exact h
    cases hd:digB u[0].toNat
    ·exact right_head e u r w h0 h1 hu hs hd
    ·obtain ⟨n,rfl⟩:∃n:Nat,e=n:=⟨e.toNat,by omega⟩
     cases h45:hasB (B u) 45
     ·cases h58:hasB (B u) 58
      ·exact right_false_false n u r w (by omega) hu hs hsz hrz hd h45 h58
      ·cases he0:((n:Int)==0)
       ·exact right_false_true n u r w (by omega) hu hs hsz hrz hd h45 h58 he0
       ·have:n=0:=by rw [beq_iff_eq] at he0;omega
        subst this
        exact right_colon_false u r w hu hs (by omega) hd h45 h58
     ·cases hre:r.toList.isEmpty
      ·cases h58:hasB (B u) 58
       ·exact right_true_false n u r w (by omega) hu hs hsz hrz hd h45 hre h58
       ·cases he0:((n:Int)==0)
        ·exact right_true_true n u r w (by omega) hu hs hsz hrz hd h45 hre h58 he0
        ·have:n=0:=by rw [beq_iff_eq] at he0;omega
         subst this
         exact right_colon_true u r w hu hs (by omega) hd h45 hre h58
      ·exact right_dash n u r w h0 h1 hu hs (by omega) hd h45 hre
   ·exact right_empty e u r w h0 h1 hu
  ·exact right_big e u r w (by omega)
 ·exact right_neg e u r w (by omega)
theorem print_any (e:Int) (u r:ByteArray) (w:World) (hu:u.size≤65536) (hr:r.size≤65536) :
  Calls Tryz.prog 125 #[.agg #[.int .i64 e,.string u,.string r]] w fun e' w'=>e'=.returned (.string (mk (printL e (B u) (B r))))∧Below w.heap.size w w':=by
 cases hR:rightB e (B u) (B r)
 ·have X:=Lib.hid (show ByteArray.mk #[]=mk (printL e (B u) (B r)) by unfold printL;rw [hR];rfl)
  have HR:=Lib.hid (fun w=>right_any e u r w hu hr)
  rw [hR] at HR
  clear hR
  go_enter Tryz.func125,Tryz.ntmps125
  go_wp2_with (go_at_call 150;refine (HR.out _).mono ?_;rintro e' w1 ⟨rfl,hb1⟩)
  go_ret
  exact ⟨by rw [←X.out];rfl,((Below.refl _ w).alloc (Nat.le_refl _) _).trans (hb1.mono (by simp))⟩
 ·obtain ⟨h0,h1⟩:=rightB_epoch hR
  obtain ⟨n,rfl⟩:∃n:Nat,e=n:=⟨e.toNat,by omega⟩
  have X:=Lib.hid (show mk (textL n (B u) (B r))=mk (printL n (B u) (B r)) by unfold printL;rw [if_pos hR];rfl)
  have HR:=Lib.hid (fun w=>right_any n u r w hu hr)
  have HT:=Lib.hid (fun w=>text_any n u r w (by omega) hu hr)
  rw [hR] at HR
  rw [X.out] at HT
  clear hR
  generalize mk (printL n (B u) (B r))=P at HT
  go_enter Tryz.func125,Tryz.ntmps125
  go_wp2_with (first|(go_at_call 150;refine (HR.out _).mono ?_;rintro e' w1 ⟨rfl,hb1⟩;obtain ⟨c0,c1,c2,s1⟩:=box_cells hb1)|(go_at_call 151;refine (HT.out _).mono ?_;rintro e' w2 ⟨rfl,hb2⟩))
  go_ret
  exact ⟨rfl,(((Below.refl _ w).alloc (Nat.le_refl _) _).trans (hb1.mono (by simp))).trans (hb2.mono (by omega))⟩
theorem firstI_step {s:ByteArray} {k:Nat} (hk:k < s.size):firstI ((B s).drop k) k=if s[k].toNat=58 then some k else firstI ((B s).drop (k+1)) (k+1):=by
 rw [B_drop s k hk];rfl
end Go.Proofs.YtpilmhoakopcaaaGreatDoor
