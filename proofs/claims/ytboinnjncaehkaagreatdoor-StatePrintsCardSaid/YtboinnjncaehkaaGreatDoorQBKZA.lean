/- What the laws rest on: RelRef. -/
import Derived.Test.YtboinnjncaehkaaGreatDoorQAMZA
import Derived.Test.YtboinnjncaehkaaGreatDoorQBJZA
set_option maxRecDepth 100000
set_option linter.unusedVariables false
set_option linter.unusedSimpArgs false
namespace Go.Proofs.YtboinnjncaehkaaGreatDoor
open Go.RowKit
def okAt (l:List Nat) (j:Nat):Bool:=plnB (l.getD j 0)||(decide (0 < j)&&nmcB (l.getD j 0))
theorem okAt_no {s:ByteArray} {k:Nat} (hk:k < s.size) (h:okAt (B s) k=false):nameB (B s)=false:=by
 unfold okAt at h
 rw [B_getD s k hk] at h
 rw [Bool.or_eq_false_iff] at h
 rcases Nat.eq_zero_or_pos k with rfl|h0
 ·unfold nameB
  rw [B_getD s 0 hk,h.1,Bool.and_false,Bool.false_and]
 ·have h2:=h.2
  rw [decide_eq_true h0,Bool.true_and] at h2
  unfold nameB
  rw [nm_not hk h2,Bool.and_false]
theorem okAt_yes {s:ByteArray} (h:∀j,j < s.size→okAt (B s) j=true):nameB (B s)=(decide (2≤s.size)&&decide (s.size≤40)):=by
 unfold nameB
 rw [B_len]
 by_cases h2:2≤s.size
 ·have h0:=h 0 (by omega)
  unfold okAt at h0
  rw [decide_eq_false (Nat.lt_irrefl 0),Bool.false_and,Bool.or_false] at h0
  have ha:(B s).all nmcB=true:=nm_yes fun j hj=>by
   have:=h j hj
   unfold okAt at this
   rw [Bool.or_eq_true] at this
   rcases this with h1|h1
   ·unfold nmcB;rw [h1];rfl
   ·rw [Bool.and_eq_true] at h1;exact h1.2
  rw [h0,ha,Bool.and_true,Bool.and_true]
 ·rw [decide_eq_false h2,Bool.false_and,Bool.false_and];rfl
theorem q3name_any (s:ByteArray) (w:World) (hs:s.size≤65536):Calls Tryz.prog 67 #[.string s] w fun e w'=>e=.returned (.bool (nameB (B s)))∧w=w':=by
 go_enter Tryz.func67,Tryz.ntmps67
 go_wp2
 go_loop [3] (fun x=>∃k:Nat,k≤s.size∧x=.int .i64 k∧∀j,j < k→okAt (B s) j=true) (fun x=>s.size - (intOf x).toNat)
 case atStart=>exact ⟨0,Nat.zero_le _,rfl,fun j hj=>by omega⟩
 case round=>
  obtain ⟨k,hk,rfl,hno⟩:=hrel
  have HN:=Lib.hid hno
  clear hno
  by_cases hlt:k < s.size
  ·have XN:=Lib.hid (okAt_no hlt)
   rcases Nat.eq_zero_or_pos k with rfl|hk0
   ·have OK:=Lib.hid (show okAt (B s) 0=(plnB s[0].toNat||(decide (0 < 0)&&nmcB s[0].toNat)) by unfold okAt;rw [B_getD s 0 hlt])
    have KD:=Lib.hid (fun w=>Digit_any s[0].toNat w)
    by_cases a1:97≤s[0].toNat
    ·by_cases a2:s[0].toNat≤122
     ·have i1:(97:Int)≤(s[0].toNat:Int):=by omega
      have i2:(s[0].toNat:Int)≤122:=by omega
      have p1:((s[0].toNat:Int)==43)=false:=by rw [beq_eq_false_iff_ne];omega
      have p2:((s[0].toNat:Int)==45)=false:=by rw [beq_eq_false_iff_ne];omega
      have p3:((s[0].toNat:Int)==46)=false:=by rw [beq_eq_false_iff_ne];omega
      have YES:=Lib.hid (show okAt (B s) 0=true by rw [OK.out];unfold plnB;rw [decide_eq_true (show 97≤s[0].toNat∧s[0].toNat≤122 from ⟨a1,a2⟩)];rfl)
      clear a1 a2
      go_wp2_with fail
      go_round
      case rel=>exact ⟨1,by omega,by go_num,fun j hj=>by rcases (by omega:j < 0∨j=0) with h|rfl;exact HN.out j h;exact YES.out⟩
      case measure=>simp [intOf];omega
     ·have i1:(97:Int)≤(s[0].toNat:Int):=by omega
      have i2:(122:Int) < (s[0].toNat:Int):=by omega
      have i3:decide ((s[0].toNat:Int)≤122)=false:=by rw [decide_eq_false_iff_not];omega
      have p1:((s[0].toNat:Int)==43)=false:=by rw [beq_eq_false_iff_ne];omega
      have p2:((s[0].toNat:Int)==45)=false:=by rw [beq_eq_false_iff_ne];omega
      have p3:((s[0].toNat:Int)==46)=false:=by rw [beq_eq_false_iff_ne];omega
      have hd:digB s[0].toNat=false:=by unfold digB;rw [decide_eq_false (by omega)]
      rw [hd] at KD
      have NOT:=Lib.hid (XN.out (show okAt (B s) 0=false by rw [OK.out];unfold nmcB plnB;rw [hd,decide_eq_false (show ¬(97≤s[0].toNat∧s[0].toNat≤122) by omega),decide_eq_false (show ¬s[0].toNat=43 by omega),decide_eq_false (show ¬s[0].toNat=45 by omega),decide_eq_false (show ¬s[0].toNat=46 by omega)];simp))
      clear a1 a2 hd
      go_wp2_with (go_at_call 122;(with_reducible refine (KD.out _).mono ?_);rintro e w' ⟨rfl,rfl⟩)
      go_ret
      exact ⟨by rw [NOT.out];rfl,rfl⟩
    ·have i1:(s[0].toNat:Int) < 97:=by omega
     cases hd:digB s[0].toNat
     ·rw [hd] at KD
      have NOT:=Lib.hid (XN.out (show okAt (B s) 0=false by rw [OK.out];unfold plnB;rw [hd,decide_eq_false (show ¬(97≤s[0].toNat∧s[0].toNat≤122) by omega),decide_eq_false (show ¬0 < 0 by omega)];rfl))
      clear a1 hd
      go_wp2_with (go_at_call 122;(with_reducible refine (KD.out _).mono ?_);rintro e w' ⟨rfl,rfl⟩)
      go_ret
      exact ⟨by rw [NOT.out];rfl,rfl⟩
     ·have hd2:48≤s[0].toNat:=by have:=digB_iff.1 hd;omega
      rw [hd] at KD
      have p1:((s[0].toNat:Int)==43)=false:=by rw [beq_eq_false_iff_ne];omega
      have p2:((s[0].toNat:Int)==45)=false:=by rw [beq_eq_false_iff_ne];omega
      have p3:((s[0].toNat:Int)==46)=false:=by rw [beq_eq_false_iff_ne];omega
      have YES:=Lib.hid (show okAt (B s) 0=true by rw [OK.out];unfold plnB;rw [hd];simp)
      clear a1 hd hd2
      go_wp2_with (go_at_call 122;(with_reducible refine (KD.out _).mono ?_);rintro e w' ⟨rfl,rfl⟩)
      go_round
      case rel=>exact ⟨1,by omega,by go_num,fun j hj=>by rcases (by omega:j < 0∨j=0) with h|rfl;exact HN.out j h;exact YES.out⟩
      case measure=>simp [intOf];omega
   ·have OK:=Lib.hid (show okAt (B s) k=(plnB s[k].toNat||(decide (0 < k)&&nmcB s[k].toNat)) by unfold okAt;rw [B_getD s k hlt])
    have KD:=Lib.hid (fun w=>Digit_any s[k].toNat w)
    by_cases a1:97≤s[k].toNat
    ·by_cases a2:s[k].toNat≤122
     ·have i1:(97:Int)≤(s[k].toNat:Int):=by omega
      have i2:(s[k].toNat:Int)≤122:=by omega
      have hk0:(0:Int) < (k:Int):=by omega
      have p1:((s[k].toNat:Int)==43)=false:=by rw [beq_eq_false_iff_ne];omega
      have p2:((s[k].toNat:Int)==45)=false:=by rw [beq_eq_false_iff_ne];omega
      have p3:((s[k].toNat:Int)==46)=false:=by rw [beq_eq_false_iff_ne];omega
      have YES:=Lib.hid (show okAt (B s) k=true by rw [OK.out];unfold plnB;rw [decide_eq_true (show 97≤s[k].toNat∧s[k].toNat≤122 from ⟨a1,a2⟩)];rfl)
      clear a1 a2
      go_wp2_with fail
      go_round
      case rel=>exact ⟨k+1,by omega,by go_num,fun j hj=>by rcases (by omega:j < k∨j=k) with h|rfl;exact HN.out j h;exact YES.out⟩
      case measure=>simp [intOf];omega
     ·have i1:(97:Int)≤(s[k].toNat:Int):=by omega
      have i2:(122:Int) < (s[k].toNat:Int):=by omega
      have i3:decide ((s[k].toNat:Int)≤122)=false:=by rw [decide_eq_false_iff_not];omega
      have hk0:(0:Int) < (k:Int):=by omega
      have p1:((s[k].toNat:Int)==43)=false:=by rw [beq_eq_false_iff_ne];omega
      have p2:((s[k].toNat:Int)==45)=false:=by rw [beq_eq_false_iff_ne];omega
      have p3:((s[k].toNat:Int)==46)=false:=by rw [beq_eq_false_iff_ne];omega
      have hd:digB s[k].toNat=false:=by unfold digB;rw [decide_eq_false (by omega)]
      rw [hd] at KD
      have NOT:=Lib.hid (XN.out (show okAt (B s) k=false by rw [OK.out];unfold nmcB plnB;rw [hd,decide_eq_false (show ¬(97≤s[k].toNat∧s[k].toNat≤122) by omega),decide_eq_false (show ¬s[k].toNat=43 by omega),decide_eq_false (show ¬s[k].toNat=45 by omega),decide_eq_false (show ¬s[k].toNat=46 by omega)];simp))
      clear a1 a2 hd
      go_wp2_with (go_at_call 122;(with_reducible refine (KD.out _).mono ?_);rintro e w' ⟨rfl,rfl⟩)
      go_ret
      exact ⟨by rw [NOT.out];rfl,rfl⟩
    ·have i1:(s[k].toNat:Int) < 97:=by omega
     cases hd:digB s[k].toNat
     ·rw [hd] at KD
      have hk0:(0:Int) < (k:Int):=by omega
      by_cases h43:s[k].toNat=43
      ·have p1:((s[k].toNat:Int)==43)=true:=by rw [beq_iff_eq];omega
       have YES:=Lib.hid (show okAt (B s) k=true by rw [OK.out];unfold nmcB;rw [decide_eq_true (show 0 < k by omega),decide_eq_true h43];simp)
       clear a1 hd h43
       go_wp2_with (go_at_call 122;(with_reducible refine (KD.out _).mono ?_);rintro e w' ⟨rfl,rfl⟩)
       go_round
       case rel=>exact ⟨k+1,by omega,by go_num,fun j hj=>by rcases (by omega:j < k∨j=k) with h|rfl;exact HN.out j h;exact YES.out⟩
       case measure=>simp [intOf];omega
      by_cases h45:s[k].toNat=45
      ·have p1:((s[k].toNat:Int)==43)=false:=by rw [beq_eq_false_iff_ne];omega
       have p2:((s[k].toNat:Int)==45)=true:=by rw [beq_iff_eq];omega
       have YES:=Lib.hid (show okAt (B s) k=true by rw [OK.out];unfold nmcB;rw [decide_eq_true (show 0 < k by omega),decide_eq_false h43,decide_eq_true h45];simp)
       clear a1 hd h43 h45
       go_wp2_with (go_at_call 122;(with_reducible refine (KD.out _).mono ?_);rintro e w' ⟨rfl,rfl⟩)
       go_round
       case rel=>exact ⟨k+1,by omega,by go_num,fun j hj=>by rcases (by omega:j < k∨j=k) with h|rfl;exact HN.out j h;exact YES.out⟩
       case measure=>simp [intOf];omega
      by_cases h46:s[k].toNat=46
      ·have p1:((s[k].toNat:Int)==43)=false:=by rw [beq_eq_false_iff_ne];omega
       have p2:((s[k].toNat:Int)==45)=false:=by rw [beq_eq_false_iff_ne];omega
       have p3:((s[k].toNat:Int)==46)=true:=by rw [beq_iff_eq];omega
       have YES:=Lib.hid (show okAt (B s) k=true by rw [OK.out];unfold nmcB;rw [decide_eq_true (show 0 < k by omega),decide_eq_false h43,decide_eq_false h45,decide_eq_true h46];simp)
       clear a1 hd h43 h45 h46
       go_wp2_with (go_at_call 122;(with_reducible refine (KD.out _).mono ?_);rintro e w' ⟨rfl,rfl⟩)
       go_round
       case rel=>exact ⟨k+1,by omega,by go_num,fun j hj=>by rcases (by omega:j < k∨j=k) with h|rfl;exact HN.out j h;exact YES.out⟩
       case measure=>simp [intOf];omega
      have p1:((s[k].toNat:Int)==43)=false:=by rw [beq_eq_false_iff_ne];omega
      have p2:((s[k].toNat:Int)==45)=false:=by rw [beq_eq_false_iff_ne];omega
      have p3:((s[k].toNat:Int)==46)=false:=by rw [beq_eq_false_iff_ne];omega
      have NOT:=Lib.hid (XN.out (show okAt (B s) k=false by rw [OK.out];unfold nmcB plnB;rw [hd,decide_eq_false (show ¬(97≤s[k].toNat∧s[k].toNat≤122) by omega),decide_eq_false h43,decide_eq_false h45,decide_eq_false h46];simp))
      clear a1 hd h43 h45 h46
      go_wp2_with (go_at_call 122;(with_reducible refine (KD.out _).mono ?_);rintro e w' ⟨rfl,rfl⟩)
      go_ret
      exact ⟨by rw [NOT.out];rfl,rfl⟩
     ·have hd2:48≤s[k].toNat:=by have:=digB_iff.1 hd;omega
      rw [hd] at KD
      have hk0:(0:Int) < (k:Int):=by omega
      have p1:((s[k].toNat:Int)==43)=false:=by rw [beq_eq_false_iff_ne];omega
      have p2:((s[k].toNat:Int)==45)=false:=by rw [beq_eq_false_iff_ne];omega
      have p3:((s[k].toNat:Int)==46)=false:=by rw [beq_eq_false_iff_ne];omega
      have YES:=Lib.hid (show okAt (B s) k=true by rw [OK.out];unfold plnB;rw [hd];simp)
      clear a1 hd hd2
      go_wp2_with (go_at_call 122;(with_reducible refine (KD.out _).mono ?_);rintro e w' ⟨rfl,rfl⟩)
      go_round
      case rel=>exact ⟨k+1,by omega,by go_num,fun j hj=>by rcases (by omega:j < k∨j=k) with h|rfl;exact HN.out j h;exact YES.out⟩
      case measure=>simp [intOf];omega
  ·have Y:=Lib.hid (okAt_yes (s:=s) (fun j hj=>HN.out j (by omega)))
   by_cases h2:2≤s.size
   ·rw [decide_eq_true h2,Bool.true_and,show decide (s.size≤40)=decide ((s.size:Int)≤40) by rw [Bool.eq_iff_iff];simp;omega] at Y
    go_wp2
    go_ret
    exact ⟨by rw [Y.out];rfl,rfl⟩
   ·rw [decide_eq_false h2] at Y
    have h41:(s.size:Int) < 2:=by omega
    go_wp2
    go_ret
    exact ⟨by rw [Y.out];rfl,rfl⟩
theorem q3sign_any (op:Int) (w:World):Calls Tryz.prog 190 #[.int .i64 op] w fun e w'=>e=.returned (.string (mk (signL op)))∧w=w':=by
 by_cases h:1≤op∧op≤5
 ·have:op=1∨op=2∨op=3∨op=4∨op=5:=by omega
  clear h
  rcases this with rfl|rfl|rfl|rfl|rfl
  all_goals
   go_enter Tryz.func190,Tryz.ntmps190
   go_wp2
   go_ret
   exact ⟨rfl,rfl⟩
 ·have X:=Lib.hid (signL_out (op:=op) (by omega))
  have o1:(op==1)=false:=by rw [beq_eq_false_iff_ne];omega
  have o2:(op==2)=false:=by rw [beq_eq_false_iff_ne];omega
  have o3:(op==3)=false:=by rw [beq_eq_false_iff_ne];omega
  have o4:(op==4)=false:=by rw [beq_eq_false_iff_ne];omega
  have o5:(op==5)=false:=by rw [beq_eq_false_iff_ne];omega
  clear h
  go_enter Tryz.func190,Tryz.ntmps190
  go_wp2
  go_ret
  exact ⟨by rw [X.out];rfl,rfl⟩
theorem q3plain_any (s:ByteArray) (w:World):Calls Tryz.prog 180 #[.string s] w fun e' w'=>e'=.returned (.bool (prB (B s)))∧Below w.heap.size w w':=by
 obtain ⟨ep,e,U,R,h1,h2,h3,h4,z2,z3,cp⟩:=parse_opened s
 have X:prB (B s)=(decide (e=0)&&decide (printL ep (B U) (B R)=B s)):=by unfold prB;rw [h1,h2,h3,h4]
 have CP:=Lib.hid cp
 have CT:=Lib.hid (fun w=>print_any ep U R w (by omega) (by omega))
 have hst:=strEq (printL ep (B U) (B R)) s (printL_lt ep U R)
 clear cp h1 h2 h3 h4
 by_cases he:e=0
 ·have t1:(e==0)=true:=by rw [beq_iff_eq];exact he
  rw [decide_eq_true he,Bool.true_and] at X
  rw [←X] at hst
  generalize prB (B s)=b at *
  generalize mk (printL ep (B U) (B R))=T at *
  clear X
  go_enter Tryz.func180,Tryz.ntmps180
  go_wp2_with fail
  refine (CP.out _).mono ?_
  rintro e' w1 ⟨rfl,hb1⟩
  have B1:=Lib.hid (show Below w.heap.size w (w1.alloc (.cells #[.int .i64 ep,.string U,.string R] 151)) from hb1.alloc hb1.size _)
  clear hb1
  go_wp2_with fail
  refine (CT.out _).mono ?_
  rintro e' w2 ⟨rfl,hb2⟩
  have B2:=Lib.hid (bel_2 B1.out hb2)
  clear hb2
  go_wp2
  go_ret
  exact ⟨rfl,B2.out⟩
 ·have t1:(e==0)=false:=by rw [beq_eq_false_iff_ne];exact he
  rw [decide_eq_false he,Bool.false_and] at X
  have XX:=Lib.hid X
  clear X hst CT he
  go_enter Tryz.func180,Tryz.ntmps180
  go_wp2_with fail
  refine (CP.out _).mono ?_
  rintro e' w1 ⟨rfl,hb1⟩
  have B1:=Lib.hid (show Below w.heap.size w (w1.alloc (.cells #[.int .i64 ep,.string U,.string R] 151)) from hb1.alloc hb1.size _)
  clear hb1
  go_wp2
  go_ret
  exact ⟨by rw [XX.out];rfl,B1.out⟩
end Go.Proofs.YtboinnjncaehkaaGreatDoor
