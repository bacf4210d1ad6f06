/- What the laws rest on: VerShown, RelRef, D4d, E8q, E8b, E8d, E8e, E11f. -/
import Derived.Test.YtpilmhoakopcaaaGreatDoorQAFZA
import Derived.Test.YtpilmhoakopcaaaGreatDoorQAVZA
set_option maxRecDepth 100000
set_option linter.unusedVariables false
set_option linter.unusedSimpArgs false
namespace Go.Proofs.YtpilmhoakopcaaaGreatDoor
open Go.RowKit
theorem p4:parseV ⟨#[97]⟩=.tuple #[.agg #[.int .i64 0,.string ⟨#[]⟩,.string ⟨#[]⟩],.int .i64 4]:=by kernel_rfl
def okAt (l:List Nat) (j:Nat):Bool:=plnB (l.getD j 0)||(decide (0 < j)&&nmcB (l.getD j 0))
theorem okAt_no {s:ByteArray} {k:Nat} (hk:k < s.size) (h:okAt (B s) k=false):nameB (B s)=false:=by
 unfold okAt at h
 rw [B_getD s k hk] at h
 rw [Bool.or_eq_false_iff] at h
 rcases Nat.eq_zero_or_pos k with rfl|h0
 ·unfold nameB
  rw [B_getD s 0 hk,h.1,Bool.and_false,Bool.false_and]
 ·have h2:=h.2
  rw [decide_eq_true h0,Bool.true_and] at h2
  unfold nameB
  rw [nm_not hk h2,Bool.and_false]
theorem okAt_yes {s:ByteArray} (h:∀j,j < s.size→okAt (B s) j=true):nameB (B s)=(decide (2≤s.size)&&decide (s.size≤40)):=by
 unfold nameB
 rw [B_len]
 by_cases h2:2≤s.size
 ·have h0:=h 0 (by omega)
  unfold okAt at h0
  rw [decide_eq_false (Nat.lt_irrefl 0),Bool.false_and,Bool.or_false] at h0
  have ha:(B s).all nmcB=true:=nm_yes fun j hj=>by
   have:=h j hj
   unfold okAt at this
   rw [Bool.or_eq_true] at this
   rcases this with h1|h1
   ·unfold nmcB;rw [h1];rfl
   ·rw [Bool.and_eq_true] at h1;exact h1.2
  rw [h0,ha,Bool.and_true,Bool.and_true]
 ·rw [decide_eq_false h2,Bool.false_and,Bool.false_and];rfl
theorem q3name_any (s:ByteArray) (w:World) (hs:s.size≤65536):Calls Tryz.prog 78 #[.string s] w fun e w'=>e=.returned (.bool (nameB (B s)))∧w=w':=by
 go_enter Tryz.func78,Tryz.ntmps78
 go_wp2
 go_loop [3] (fun x=>∃k:Nat,k≤s.size∧x=.int .i64 k∧∀j,j < k→okAt (B s) j=true) (fun x=>s.size - (intOf x).toNat)
 case atStart=>exact ⟨0,Nat.zero_le _,rfl,fun j hj=>by omega⟩
 case round=>
  obtain ⟨k,hk,rfl,hno⟩:=hrel
  have HN:=Lib.hid hno
  clear hno
  by_cases hlt:k < s.size
  ·have XN:=Lib.hid (okAt_no hlt)
   rcases Nat.eq_zero_or_pos k with rfl|hk0
   ·have OK:=Lib.hid (show okAt (B s) 0=(plnB s[0].toNat||(decide (0 < 0)&&nmcB s[0].toNat)) by unfold okAt;rw [B_getD s 0 hlt])
    have KD:=Lib.hid (fun w=>Digit_any s[0].toNat w)
    by_cases a1:97≤s[0].toNat
    ·by_cases a2:s[0].toNat≤122
     ·have i1:(97:Int)≤(s[0].toNat:Int):=by omega
      have i2:(s[0].toNat:Int)≤122:=by omega
      have p1:((s[0].toNat:Int)==43)=false:=by rw [beq_eq_false_iff_ne];omega
      have p2:((s[0].toNat:Int)==45)=false:=by rw [beq_eq_false_iff_ne];omega
      have p3:((s[0].toNat:Int)==46)=false:=by rw [beq_eq_false_iff_ne];omega
      have YES:=Lib.hid (show okAt (B s) 0=true by rw [OK.out];unfold plnB;rw [decide_eq_true (show 97≤s[0].toNat∧s[0].toNat≤122 from ⟨a1,a2⟩)];rfl)
      clear a1 a2
      go_wp2_with fail
      go_round
      case rel=>exact ⟨1,by omega,by go_num,fun j hj=>by rcases (by omega:j < 0∨j=0) with h|rfl;exact HN.out j h;exact YES.out⟩
      case measure=>simp [intOf];omega
     ·have i1:(97:Int)≤(s[0].toNat:Int):=by omega
      have i2:(122:Int) < (s[0].toNat:Int):=by omega
      have i3:decide ((s[0].toNat:Int)≤122)=false:=by rw [decide_eq_false_iff_not];omega
      have p1:((s[0].toNat:Int)==43)=false:=by rw [beq_eq_false_iff_ne];omega
      have p2:((s[0].toNat:Int)==45)=false:=by rw [beq_eq_false_iff_ne];omega
      have p3:((s[0].toNat:Int)==46)=false:=by rw [beq_eq_false_iff_ne];omega
      have hd:digB s[0].toNat=false:=by unfold digB;rw [decide_eq_false (by omega)]
      rw [hd] at KD
      have NOT:=Lib.hid (XN.out (show okAt (B s) 0=false by rw [OK.out];unfold nmcB plnB;rw [hd,decide_eq_false (show ¬(97≤s[0].toNat∧s[0].toNat≤122) by omega),decide_eq_false (show ¬s[0].toNat=43 by omega),decide_eq_false (show ¬s[0].toNat=45 by omega),decide_eq_false (show ¬s[0].toNat=46 by omega)];simp))
      clear a1 a2 hd
      go_wp2_with (go_at_call 123;(with_reducible refine (KD.out _).mono ?_);rintro e w' ⟨rfl,rfl⟩)
      go_ret
      exact ⟨by rw [NOT.out];rfl,rfl⟩
    ·have i1:(s[0].toNat:Int) < 97:=by omega
     cases hd:digB s[0].toNat
     ·rw [hd] at KD
      have NOT:=Lib.hid (XN.out (show okAt (B s) 0=false by rw [OK.out];unfold plnB;rw [hd,decide_eq_false (show ¬(97≤s[0].toNat∧s[0].toNat≤122) by omega),decide_eq_false (show ¬0 < 0 by omega)];rfl))
      clear a1 hd
      go_wp2_with (go_at_call 123;(with_reducible refine (KD.out _).mono ?_);rintro e w' ⟨rfl,rfl⟩)
      go_ret
      exact ⟨by rw [NOT.out];rfl,rfl⟩
     ·have hd2:48≤s[0].toNat:=by have:=digB_iff.1 hd;omega
      rw [hd] at KD
      have p1:((s[0].toNat:Int)==43)=false:=by rw [beq_eq_false_iff_ne];omega
      have p2:((s[0].toNat:Int)==45)=false:=by rw [beq_eq_false_iff_ne];omega
      have p3:((s[0].toNat:Int)==46)=false:=by rw [beq_eq_false_iff_ne];omega
      have YES:=Lib.hid (show okAt (B s) 0=true by rw [OK.out];unfold plnB;rw [hd];simp)
      clear a1 hd hd2
      go_wp2_with (go_at_call 123;(with_reducible refine (KD.out _).mono ?_);rintro e w' ⟨rfl,rfl⟩)
      go_round
      case rel=>exact ⟨1,by omega,by go_num,fun j hj=>by rcases (by omega:j < 0∨j=0) with h|rfl;exact HN.out j h;exact YES.out⟩
      case measure=>simp [intOf];omega
   ·have OK:=Lib.hid (show okAt (B s) k=(plnB s[k].toNat||(decide (0 < k)&&nmcB s[k].toNat)) by unfold okAt;rw [B_getD s k hlt])
    have KD:=Lib.hid (fun w=>Digit_any s[k].toNat w)
    by_cases a1:97≤s[k].toNat
    ·by_cases a2:s[k].toNat≤122
     ·have i1:(97:Int)≤(s[k].toNat:Int):=by omega
      have i2:(s[k].toNat:Int)≤122:=by omega
      have hk0:(0:Int) < (k:Int):=by omega
      have p1:((s[k].toNat:Int)==43)=false:=by rw [beq_eq_false_iff_ne];omega
      have p2:((s[k].toNat:Int)==45)=false:=by rw [beq_eq_false_iff_ne];omega
      have p3:((s[k].toNat:Int)==46)=false:=by rw [beq_eq_false_iff_ne];omega
      have YES:=Lib.hid (show okAt (B s) k=true by rw [OK.out];unfold plnB;rw [decide_eq_true (show 97≤s[k].toNat∧s[k].toNat≤122 from ⟨a1,a2⟩)];rfl)
      clear a1 a2
      go_wp2_with fail
      go_round
      case rel=>exact ⟨k+1,by omega,by go_num,fun j hj=>by rcases (by omega:j < k∨j=k) with h|rfl;exact HN.out j h;exact YES.out⟩
      case measure=>simp [intOf];omega
     ·have i1:(97:Int)≤(s[k].toNat:Int):=by omega
      have i2:(122:Int) < (s[k].toNat:Int):=by omega
      have i3:decide ((s[k].toNat:Int)≤122)=false:=by rw [decide_eq_false_iff_not];omega
      have hk0:(0:Int) < (k:Int):=by omega
      have p1:((s[k].toNat:Int)==43)=false:=by rw [beq_eq_false_iff_ne];omega
      have p2:((s[k].toNat:Int)==45)=false:=by rw [beq_eq_false_iff_ne];omega
      have p3:((s[k].toNat:Int)==46)=false:=by rw [beq_eq_false_iff_ne];omega
      have hd:digB s[k].toNat=false:=by unfold digB;rw [decide_eq_false (by omega)]
      rw [hd] at KD
      have NOT:=Lib.hid (XN.out (show okAt (B s) k=false by rw [OK.out];unfold nmcB plnB;rw [hd,decide_eq_false (show ¬(97≤s[k].toNat∧s[k].toNat≤122) by omega),decide_eq_false (show ¬s[k].toNat=43 by omega),decide_eq_false (show ¬s[k].toNat=45 by omega),decide_eq_false (show ¬s[k].toNat=46 by omega)];simp))
      clear a1 a2 hd
      go_wp2_with (go_at_call 123;(with_reducible refine (KD.out _).mono ?_);rintro e w' ⟨rfl,rfl⟩)
      go_ret
      exact ⟨by rw [NOT.out];rfl,rfl⟩
    ·have i1:(s[k].toNat:Int) < 97:=by omega
     cases hd:digB s[k].toNat
     ·rw [hd] at KD
      have hk0:(0:Int) < (k:Int):=by omega
      by_cases h43:s[k].toNat=43
      ·have p1:((s[k].toNat:Int)==43)=true:=by rw [beq_iff_eq];omega
       have YES:=Lib.hid (show okAt (B s) k=true by rw [OK.out];unfold nmcB;rw [decide_eq_true (show 0 < k by omega),decide_eq_true h43];simp)
       clear a1 hd h43
       go_wp2_with (go_at_call 123;(with_reducible refine (KD.out _).mono ?_);rintro e w' ⟨rfl,rfl⟩)
       go_round
       case rel=>exact ⟨k+1,by omega,by go_num,fun j hj=>by rcases (by omega:j < k∨j=k) with h|rfl;exact HN.out j h;exact YES.out⟩
       case measure=>simp [intOf];omega
      by_cases h45:s[k].toNat=45
      ·have p1:((s[k].toNat:Int)==43)=false:=by rw [beq_eq_false_iff_ne];omega
       have p2:((s[k].toNat:Int)==45)=true:=by rw [beq_iff_eq];omega
       have YES:=Lib.hid (show okAt (B s) k=true by rw [OK.out];unfold nmcB;rw [decide_eq_true (show 0 < k by omega),decide_eq_false h43,decide_eq_true h45];simp)
       clear a1 hd h43 h45
       go_wp2_with (go_at_call 123;(with_reducible refine (KD.out _).mono ?_);rintro e w' ⟨rfl,rfl⟩)
       go_round
       case rel=>exact ⟨k+1,by omega,by go_num,fun j hj=>by rcases (by omega:j < k∨j=k) with h|rfl;exact HN.out j h;exact YES.out⟩
       case measure=>simp [intOf];omega
      by_cases h46:s[k].toNat=46
      ·have p1:((s[k].toNat:Int)==43)=false:=by rw [beq_eq_false_iff_ne];omega
       have p2:((s[k].toNat:Int)==45)=false:=by rw [beq_eq_false_iff_ne];omega
       have p3:((s[k].toNat:Int)==46)=true:=by rw [beq_iff_eq];omega
       have YES:=Lib.hid (show okAt (B s) k=true by rw [OK.out];unfold nmcB;rw [decide_eq_true (show 0 < k by omega),decide_eq_false h43,decide_eq_false h45,decide_eq_true h46];simp)
       clear a1 hd h43 h45 h46
       go_wp2_with (go_at_call 123;(with_reducible refine (KD.out _).mono ?_);rintro e w' ⟨rfl,rfl⟩)
       go_round
       case rel=>exact ⟨k+1,by omega,by go_num,fun j hj=>by rcases (by omega:j < k∨j=k) with h|rfl;exact HN.out j h;exact YES.out⟩
       case measure=>simp [intOf];omega
      have p1:((s[k].toNat:Int)==43)=false:=by rw [beq_eq_false_iff_ne];omega
      have p2:((s[k].toNat:Int)==45)=false:=by rw [beq_eq_false_iff_ne];omega
      have p3:((s[k].toNat:Int)==46)=false:=by rw [beq_eq_false_iff_ne];omega
      have NOT:=Lib.hid (XN.out (show okAt (B s) k=false by rw [OK.out];unfold nmcB plnB;rw [hd,decide_eq_false (show ¬(97≤s[k].toNat∧s[k].toNat≤122) by omega),decide_eq_false h43,decide_eq_false h45,decide_eq_false h46];simp))
      clear a1 hd h43 h45 h46
      go_wp2_with (go_at_call 123;(with_reducible refine (KD.out _).mono ?_);rintro e w' ⟨rfl,rfl⟩)
      go_ret
      exact ⟨by rw [NOT.out];rfl,rfl⟩
     ·have hd2:48≤s[k].toNat:=by have:=digB_iff.1 hd;omega
      rw [hd] at KD
      have hk0:(0:Int) < (k:Int):=by omega
      have p1:((s[k].toNat:Int)==43)=false:=by rw [beq_eq_false_iff_ne];omega
      have p2:((s[k].toNat:Int)==45)=false:=by rw [beq_eq_false_iff_ne];omega
      have p3:((s[k].toNat:Int)==46)=false:=by rw [beq_eq_false_iff_ne];omega
      have YES:=Lib.hid (show okAt (B s) k=true by rw [OK.out];unfold plnB;rw [hd];simp)
      clear a1 hd hd2
      go_wp2_with (go_at_call 123;(with_reducible refine (KD.out _).mono ?_);rintro e w' ⟨rfl,rfl⟩)
      go_round
      case rel=>exact ⟨k+1,by omega,by go_num,fun j hj=>by rcases (by omega:j < k∨j=k) with h|rfl;exact HN.out j h;exact YES.out⟩
      case measure=>simp [intOf];omega
  ·have Y:=Lib.hid (okAt_yes (s:=s) (fun j hj=>HN.out j (by omega)))
   by_cases h2:2≤s.size
   ·rw [decide_eq_true h2,Bool.true_and,show decide (s.size≤40)=decide ((s.size:Int)≤40) by rw [Bool.eq_iff_iff];simp;omega] at Y
    go_wp2
    go_ret
    exact ⟨by rw [Y.out];rfl,rfl⟩
   ·rw [decide_eq_false h2] at Y
    have h41:(s.size:Int) < 2:=by omega
    go_wp2
    go_ret
    exact ⟨by rw [Y.out];rfl,rfl⟩
theorem q3plain_any (s:ByteArray) (w:World):Calls Tryz.prog 152 #[.string s] w fun e' w'=>e'=.returned (.bool (prB (B s)))∧Below w.heap.size w w':=by
 obtain ⟨ep,e,U,R,h1,h2,h3,h4,z2,z3,cp⟩:=parse_opened s
 have X:prB (B s)=(decide (e=0)&&decide (printL ep (B U) (B R)=B s)):=by unfold prB;rw [h1,h2,h3,h4]
 have CP:=Lib.hid cp
 have CT:=Lib.hid (fun w=>print_any ep U R w (by omega) (by omega))
 have hst:=strEq (printL ep (B U) (B R)) s (printL_lt ep U R)
 clear cp h1 h2 h3 h4
 by_cases he:e=0
 ·have t1:(e==0)=true:=by rw [beq_iff_eq];exact he
  rw [decide_eq_true he,Bool.true_and] at X
  rw [←X] at hst
  generalize prB (B s)=b at *
  generalize mk (printL ep (B U) (B R))=T at *
  clear X
  go_enter Tryz.func152,Tryz.ntmps152
  go_wp2_with fail
  refine (CP.out _).mono ?_
  rintro e' w1 ⟨rfl,hb1⟩
  have B1:=Lib.hid (show Below w.heap.size w (w1.alloc (.cells #[.int .i64 ep,.string U,.string R] 158)) from hb1.alloc hb1.size _)
  clear hb1
  go_wp2_with fail
  refine (CT.out _).mono ?_
  rintro e' w2 ⟨rfl,hb2⟩
  have B2:=Lib.hid (bel_2 B1.out hb2)
  clear hb2
  go_wp2
  go_ret
  exact ⟨rfl,B2.out⟩
 ·have t1:(e==0)=false:=by rw [beq_eq_false_iff_ne];exact he
  rw [decide_eq_false he,Bool.false_and] at X
  have XX:=Lib.hid X
  clear X hst CT he
  go_enter Tryz.func152,Tryz.ntmps152
  go_wp2_with fail
  refine (CP.out _).mono ?_
  rintro e' w1 ⟨rfl,hb1⟩
  have B1:=Lib.hid (show Below w.heap.size w (w1.alloc (.cells #[.int .i64 ep,.string U,.string R] 158)) from hb1.alloc hb1.size _)
  clear hb1
  go_wp2
  go_ret
  exact ⟨by rw [XX.out];rfl,B1.out⟩
theorem q3right_any (n:ByteArray) (op:Int) (v:ByteArray) (w:World) (hn:n.size≤65536):Calls Tryz.prog 126 #[.agg #[.string n,.int .i64 op,.string v]] w fun e' w'=>e'=.returned (.bool (rightA (B n) op (B v)))∧Below w.heap.size w w':=by
 have B1:=Lib.hid (show Below w.heap.size w (w.alloc (.cells #[.string n,.int .i64 op,.string v] 100)) from (Below.refl _ w).alloc (Nat.le_refl _) _)
 have KN:=Lib.hid (fun w=>q3name_any n w hn)
 cases hb:nameB (B n)
 ·have X:=Lib.hid (show rightA (B n) op (B v)=false by unfold rightA;rw [hb];rfl)
  rw [hb] at KN
  clear hb
  go_enter Tryz.func126,Tryz.ntmps126
  go_wp2_with fail
  refine (KN.out _).mono ?_
  rintro e' w' ⟨rfl,rfl⟩
  go_wp2
  go_ret
  exact ⟨by rw [X.out];rfl,B1.out⟩
 rw [hb] at KN
 by_cases h0:op=0
 ·subst h0
  have X:=Lib.hid (show v.toList.isEmpty=rightA (B n) 0 (B v) by unfold rightA;rw [hb,if_pos rfl,Bool.true_and,empty_is])
  clear hb
  go_enter Tryz.func126,Tryz.ntmps126
  go_wp2_with fail
  refine (KN.out _).mono ?_
  rintro e' w' ⟨rfl,rfl⟩
  go_wp2
  go_ret
  exact ⟨by rw [←X.out];rfl,B1.out⟩
 have t0:(op==0)=false:=by rw [beq_eq_false_iff_ne];exact h0
 by_cases ho:1≤op∧op≤5
 ·have X:=Lib.hid (show rightA (B n) op (B v)=prB (B v) by unfold rightA;rw [hb,if_neg h0,Bool.true_and,decide_eq_true ho,Bool.true_and])
  have KP:=Lib.hid (fun w=>q3plain_any v w)
  have j1:0≤op:=by omega
  have j2:op≤5:=ho.2
  clear hb h0 ho
  go_enter Tryz.func126,Tryz.ntmps126
  go_wp2_with fail
  refine (KN.out _).mono ?_
  rintro e' w' ⟨rfl,rfl⟩
  go_wp2_with fail
  refine (KP.out _).mono ?_
  rintro e' w2 ⟨rfl,hb⟩
  have B2:=Lib.hid (bel_2 B1.out hb)
  clear hb
  go_wp2
  go_ret
  exact ⟨by rw [X.out];rfl,B2.out⟩
 ·have X:=Lib.hid (show rightA (B n) op (B v)=false by unfold rightA;rw [if_neg h0,decide_eq_false ho,Bool.false_and,Bool.and_false])
  by_cases j1:op < 0
  ·clear hb h0 ho
   go_enter Tryz.func126,Tryz.ntmps126
   go_wp2_with fail
   refine (KN.out _).mono ?_
   rintro e' w' ⟨rfl,rfl⟩
   go_wp2
   go_ret
   exact ⟨by rw [X.out];rfl,B1.out⟩
  ·have j2:5 < op:=by omega
   have j0:0≤op:=by omega
   clear hb h0 ho j1
   go_enter Tryz.func126,Tryz.ntmps126
   go_wp2_with fail
   refine (KN.out _).mono ?_
   rintro e' w' ⟨rfl,rfl⟩
   go_wp2
   go_ret
   exact ⟨by rw [X.out];rfl,B1.out⟩
theorem q4r_atom (x:Atm) (w:World) (h:x.n.size≤65536):Calls Tryz.prog 126 #[.agg #[.string x.n,.int .i64 x.o,.string x.v]] w fun e' w'=>e'=.returned (.bool (rgt x))∧Below w.heap.size w w':=q3right_any x.n x.o x.v w h
set_option maxHeartbeats 2000000 in
theorem q4right_any (A:Option Addr) (n c:Nat) (L:List (List Atm)) (w:World) (h:rdGrps w (lt_ w.heap.size) L [.slice A n c]) (hz:∀g ∈ L,∀a ∈ g,a.n.size≤65536) :
  Calls Tryz.prog 80 #[.slice A n c] w fun e w'=>e=.returned (.bool (rightG L))∧Below w.heap.size w w':=by
 obtain ⟨rfl,hnc,hcm,_⟩:=rdGrps_at h
 have hcm1:c≤9223372036854775807:=hcm
 have HZ:=Lib.hid hz
 clear hz
 go_enter Tryz.func80,Tryz.ntmps80
 go_wp2
 go_loopw [3,4,5] (fun i n v wr=>∃k:Nat,k≤L.length∧i=.int .i64 k∧(L.take k).all rgtOne=true∧Below w.heap.size w wr) (fun i _ _ _=>L.length - (intOf i).toNat)
 case atStart=>exact ⟨0,Nat.zero_le _,rfl,rfl,Below.refl _ _⟩
 case round=>
  obtain ⟨k,hk,rfl,htk,hbel⟩:=hrel
  by_cases hlt:k < L.length
  ·have T:=Lib.hid (all_takeL rgtOne L k hlt)
   have Z:=Lib.hid (right_stop (L:=L) (k:=k) hlt)
   have H:=Lib.hid htk
   have HB:=Lib.hid hbel
   have hcell:=fun W (hW:Below w.heap.size w W)=>(rdGrps_at (rdGrps_good.below h hW)).2.2.2 k hlt
   have HC:=Lib.hid hcell
   have hzg:=HZ.out L[k] (List.getElem_mem hlt)
   obtain ⟨ad,A',c',rfl,had,h0,h1⟩:=hcell wr hbel
   clear htk hcell hbel
   have hc':c'≤9223372036854775807:=(rdAtms_at h1).2.2.1
   have hgc:=(rdAtms_at h1).2.1
   have HC2:=Lib.hid (show ∀W,Below w.heap.size w W→W.cell? (ad.add k)=some (.slice A' L[k].length c')∧rdAtms W (lt_ w.heap.size) L[k] [.slice A' L[k].length c'] from fun W hW=>by
    refine ⟨?_,?_⟩
    ·rw [World.cell?_of_block (w:=wr) (by rw [blk_add];rw [hW.block _ had,HB.out.block _ had])];exact h0
    ·exact rdAtms_good.keep h1 fun b hb=>by rw [hW.block _ hb,HB.out.block _ hb])
   clear h1 HC h
   generalize L[k]=g at *
   go_wp2
   go_loopw [4,5] (fun n v wr2=>∃q:Nat,q≤g.length∧n=.int .i64 q∧(g.take q).all rgt=true∧Below w.heap.size w wr2) (fun n _ _=>g.length - (intOf n).toNat)
   case atStart=>exact ⟨0,Nat.zero_le _,rfl,rfl,HB.out⟩
   case round=>
    obtain ⟨q,hq,rfl,hall,hbel2⟩:=hrel
    obtain ⟨g0,g1⟩:=HC2.out _ hbel2
    have H2:=Lib.hid hbel2
    clear h0 hbel2
    by_cases hlt2:q < g.length
    ·obtain ⟨ad2,rfl,had2,e0,e1,e2⟩:=(rdAtms_at g1).2.2.2 q hlt2
     have T2:=Lib.hid (all_takeL rgt g q hlt2)
     have Z2:=Lib.hid (rgtOne_stop (g:=g) (k:=q) hlt2)
     have A2:=Lib.hid hall
     have hx:=hzg g[q] (List.getElem_mem hlt2)
     clear hall g1 hzg
     generalize g[q]=x at *
     have K:=Lib.hid (fun W=>q4r_atom x W hx)
     clear hx
     cases hr:rgt x
     ·have R:=Lib.hid hr
      rw [hr] at K
      clear hr
      go_wp2_with (go_at_call 126;refine (K.out _).mono ?_;rintro e w3 ⟨rfl,hb3⟩)
      go_ret
      exact ⟨by rw [Z.out (Z2.out R.out)];try rfl,bel2 H2.out hb3 (Nat.le_refl _)⟩
     ·have R:=Lib.hid hr
      rw [hr] at K
      clear hr
      go_wp2_with (go_at_call 126;refine (K.out _).mono ?_;rintro e w3 ⟨rfl,hb3⟩)
      go_roundw
      case rel=>exact ⟨q+1,by omega,by go_num,by rw [T2.out,A2.out,R.out];rfl,bel2 H2.out hb3 (Nat.le_refl _)⟩
      case measure=>simp [intOf];omega
    ·obtain rfl:q=g.length:=by omega
     have A2:=Lib.hid hall
     clear hall g1 hzg
     by_cases hl1:g.length < 1
     ·have X:=Lib.hid (Z.out (rgtOne_len (g:=g) (by omega)))
      have hl1':(g.length:Int) < 1:=by omega
      go_wp2
      go_ret
      exact ⟨by rw [X.out];try rfl,H2.out⟩
     ·by_cases hl6:6 < g.length
      ·have X:=Lib.hid (Z.out (rgtOne_len (g:=g) (by omega)))
       have hl1':¬(g.length:Int) < 1:=by omega
       have hl6':(6:Int) < g.length:=by omega
       go_wp2
       go_ret
       exact ⟨by rw [X.out];try rfl,H2.out⟩
      ·have X:=Lib.hid (show (L.take (k+1)).all rgtOne=true by rw [T.out,H.out,rgtOne_yes (by omega) (by omega) A2.out];rfl)
       have hl1':¬(g.length:Int) < 1:=by omega
       have hl6':¬(6:Int) < g.length:=by omega
       go_wp2
       go_roundw
       case rel=>exact ⟨k+1,by omega,by go_num,X.out,H2.out⟩
       case measure=>simp [intOf];omega
  ·obtain rfl:k=L.length:=by omega
   have X:=Lib.hid (right_all htk)
   clear htk h
   by_cases h12:L.length≤12
   ·have hd:decide ((L.length:Int)≤12)=true:=by rw [decide_eq_true_eq];omega
    have X2:=Lib.hid (X.out.trans (decide_eq_true h12))
    go_wp2
    go_ret
    exact ⟨by rw [X2.out];try rfl,hbel⟩
   ·have hd:decide ((L.length:Int)≤12)=false:=by rw [decide_eq_false_iff_not];omega
    have X2:=Lib.hid (X.out.trans (decide_eq_false h12))
    go_wp2
    go_ret
    exact ⟨by rw [X2.out];try rfl,hbel⟩
theorem pfx8_size {x v:ByteArray} (h:pfx8 x v=true):x.size≤v.size:=by
 have:=congrArg List.length (of_decide_eq_true h)
 rw [List.length_take,B_len,B_len] at this
 omega
set_option maxHeartbeats 2000000 in
theorem q8right_any (x:Pn) (w:World) (hn:x.n.size≤65536) (hv:x.x.size≤maxLen):Calls Tryz.prog 83 #[x.val] w fun e w'=>e=.returned (.bool (rgtN x))∧Below w.heap.size w w':=by
 obtain ⟨n,v,p⟩:=x
 have hv':v.size≤9223372036854775807:=hv
 clear hv
 have B1:=Lib.hid (show Below w.heap.size w (w.alloc (.cells #[.string n,.string v,.int .i64 p] 70)) from (Below.refl _ w).alloc (Nat.le_refl _) _)
 have KN:=Lib.hid (fun W=>q3name_any n W hn)
 have HX:=Lib.hid (show rgtN ⟨n,v,p⟩=((nameB (B n)||decide (n=star8))&&(decide (v.size≤60)&&((B v).all visB&&(decide (-1000≤p)&&decide (p≤1000))))) from rfl)
 have hst:=star_eq n
 clear hn
 generalize nameB (B n)=b at *
 generalize rgtN ⟨n,v,p⟩=R at *
 go_enter Tryz.func83,Tryz.ntmps83
 go_wp2_with fail
 refine (KN.out _).mono ?_
 rintro e w' ⟨rfl,rfl⟩
 go_wp2
 go_loop [4] (fun i=>∃k:Nat,k≤v.size∧i=.int .i64 k∧∀j,j < k→visB ((B v).getD j 0)=true) (fun i=>v.size - (intOf i).toNat)
 case atStart=>exact ⟨0,Nat.zero_le _,rfl,fun j hj=>absurd hj (Nat.not_lt_zero _)⟩
 case round=>
  obtain ⟨k,hk,rfl,hno⟩:=hrel
  have HN:=Lib.hid hno
  clear hno
  by_cases hlt:k < v.size
  ·have HD:=Lib.hid (B_getD v k hlt)
   have AN:=Lib.hid (byt_no (p:=visB) hlt)
   have XN:=Lib.hid (fun h:(B v).all visB=false=>show R=false by rw [HX.out,h,Bool.false_and,Bool.and_false,Bool.and_false])
   by_cases q1:(v[k].toNat:Int)≤32
   ·have X:=Lib.hid (XN.out (AN.out (vis_low (by omega))))
    clear hst
    go_wp2
    go_ret
    exact ⟨by rw [X.out];try rfl,B1.out⟩
   by_cases q2:(127:Int)≤(v[k].toNat:Int)
   ·have X:=Lib.hid (XN.out (AN.out (vis_high (by omega))))
    clear hst
    go_wp2
    go_ret
    exact ⟨by rw [X.out];try rfl,B1.out⟩
   by_cases q3:v[k].toNat=42
   ·have X:=Lib.hid (XN.out (AN.out (vis_star q3)))
    have t3:((v[k].toNat:Int)==42)=true:=by rw [beq_iff_eq];omega
    clear hst q3
    go_wp2
    go_ret
    exact ⟨by rw [X.out];try rfl,B1.out⟩
   ·have Y:=Lib.hid (show visB ((B v).getD k 0)=true by rw [HD.out];exact vis_ok (by omega) (by omega) q3)
    have t3:((v[k].toNat:Int)==42)=false:=by rw [beq_eq_false_iff_ne];omega
    clear hst q3
    go_wp2
    go_round
    case rel=>exact ⟨k+1,by omega,by go_num,fun j hj=>by rcases (by omega:j < k∨j=k) with h|rfl;exact HN.out j h;exact Y.out⟩
    case measure=>simp [intOf];omega
  ·have Y:=Lib.hid (byt_yes (p:=visB) (s:=v) (fun j hj=>HN.out j (by omega)))
   have HY:=Lib.hid (show R=((b||decide (n=star8))&&(decide (v.size≤60)&&(decide (-1000≤p)&&decide (p≤1000)))) by rw [HX.out,Y.out,Bool.true_and])
   clear HX
   cases b
   ·by_cases hs:n=star8
    ·rw [decide_eq_true hs] at hst HY
     clear hs
     by_cases h60:(v.size:Int)≤60
     ·by_cases p1:-1000≤p
      ·have X:=Lib.hid (show R=decide (p≤1000) by rw [HY.out,decide_eq_true (show v.size≤60 by omega),decide_eq_true p1];rfl)
       by_cases p2:p≤1000
       ·rw [decide_eq_true p2] at X
        go_wp2
        go_ret
        exact ⟨by rw [X.out];try rfl,B1.out⟩
       ·rw [decide_eq_false p2] at X
        go_wp2
        go_ret
        exact ⟨by rw [X.out];try rfl,B1.out⟩
      ·have X:=Lib.hid (show R=false by rw [HY.out,decide_eq_false p1,Bool.false_and,Bool.and_false,Bool.and_false])
       go_wp2
       go_ret
       exact ⟨by rw [X.out];try rfl,B1.out⟩
     ·have X:=Lib.hid (show R=false by rw [HY.out,decide_eq_false (show ¬v.size≤60 by omega),Bool.false_and,Bool.and_false])
      go_wp2
      go_ret
      exact ⟨by rw [X.out];try rfl,B1.out⟩
    ·rw [decide_eq_false hs] at hst HY
     have X:=Lib.hid (show R=false by rw [HY.out];rfl)
     clear hs
     go_wp2
     go_ret
     exact ⟨by rw [X.out];try rfl,B1.out⟩
   ·clear hst
    by_cases h60:(v.size:Int)≤60
    ·by_cases p1:-1000≤p
     ·have X:=Lib.hid (show R=decide (p≤1000) by rw [HY.out,decide_eq_true (show v.size≤60 by omega),decide_eq_true p1];rfl)
      by_cases p2:p≤1000
      ·rw [decide_eq_true p2] at X
       go_wp2
       go_ret
       exact ⟨by rw [X.out];try rfl,B1.out⟩
      ·rw [decide_eq_false p2] at X
       go_wp2
       go_ret
       exact ⟨by rw [X.out];try rfl,B1.out⟩
     ·have X:=Lib.hid (show R=false by rw [HY.out,decide_eq_false p1,Bool.false_and,Bool.and_false,Bool.and_false])
      go_wp2
      go_ret
      exact ⟨by rw [X.out];try rfl,B1.out⟩
    ·have X:=Lib.hid (show R=false by rw [HY.out,decide_eq_false (show ¬v.size≤60 by omega),Bool.false_and,Bool.and_false])
     go_wp2
     go_ret
     exact ⟨by rw [X.out];try rfl,B1.out⟩
theorem pfx_long {x v:ByteArray} (h:¬x.size≤v.size):pfx8 x v=false:=by
 cases q:pfx8 x v with
 | false=>rfl
 | true=>exact absurd (pfx8_size q) h
theorem pfx_ext {x v:ByteArray} (h:x.size≤v.size):((v.extract 0 x.size).toList==x.toList)=pfx8 x v:=by
 rw [str_eq]
 unfold pfx8
 rw [Bool.eq_iff_iff,decide_eq_true_iff,decide_eq_true_iff]
 have e:B (v.extract 0 x.size)=(B v).take (B x).length:=by rw [B_extract,B_len,List.drop_zero,Nat.sub_zero]
 rw [←e]
 refine ⟨fun h=>by rw [h],fun h=>?_⟩
 have h2:=congrArg mk h
 rwa [mk_B,mk_B] at h2
set_option maxHeartbeats 2000000 in
theorem q8match_any (x:Pn) (nm v:ByteArray) (w:World) (hv:v.size≤maxLen) (hx:x.x.size≤maxLen):Calls Tryz.prog 98 #[x.val,.string nm,.string v] w fun e w'=>e=.returned (.bool (matN x nm v))∧Below w.heap.size w w':=by
 obtain ⟨n,y,p⟩:=x
 simp only at hx
 unfold maxLen at hv hx
 have B1:=Lib.hid (show Below w.heap.size w (w.alloc (.cells #[.string n,.string y,.int .i64 p] 70)) from (Below.refl _ w).alloc (Nat.le_refl _) _)
 have hst:=star_eq n
 have hnm:=str_eq n nm
 have NO:=Lib.hid (mat_no (x:=⟨n,y,p⟩) (nm:=nm) (v:=v))
 have YES:=Lib.hid (mat_yes (x:=⟨n,y,p⟩) (nm:=nm) (v:=v))
 have PL:=Lib.hid (pfx_long (x:=y) (v:=v))
 have PE:=Lib.hid (pfx_ext (x:=y) (v:=v))
 generalize matN ⟨n,y,p⟩ nm v=R at *
 by_cases h1:n=nm
 ·have X:=Lib.hid (YES.out (.inl h1))
  rw [decide_eq_true h1] at hnm
  clear h1 hst
  simp only at X
  by_cases hl:(y.size:Int)≤(v.size:Int)
  ·have pe:=PE.out (by omega)
   have j0:y.size≤v.size:=by omega
   generalize pfx8 y v=q at *
   go_enter Tryz.func98,Tryz.ntmps98
   go_wp2
   go_quiet (fail)
   go_wp2
   go_ret
   exact ⟨by rw [X.out];try rfl,belD B1.out _⟩
  ·have X2:=Lib.hid (PL.out (by omega))
   have j0:¬y.size≤v.size:=by omega
   have j1:decide ((y.size:Int)≤(v.size:Int))=false:=decide_eq_false hl
   go_enter Tryz.func98,Tryz.ntmps98
   go_wp2
   go_quiet (fail)
   go_wp2
   go_ret
   exact ⟨by rw [X.out,X2.out];try rfl,belD B1.out _⟩
 rw [decide_eq_false h1] at hnm
 by_cases h2:n=star8
 ·have X:=Lib.hid (YES.out (.inr h2))
  rw [decide_eq_true h2] at hst
  clear h1 h2
  simp only at X
  by_cases hl:(y.size:Int)≤(v.size:Int)
  ·have pe:=PE.out (by omega)
   have j0:y.size≤v.size:=by omega
   generalize pfx8 y v=q at *
   go_enter Tryz.func98,Tryz.ntmps98
   go_wp2
   go_quiet (fail)
   go_wp2
   go_ret
   exact ⟨by rw [X.out];try rfl,belD B1.out _⟩
  ·have X2:=Lib.hid (PL.out (by omega))
   have j0:¬y.size≤v.size:=by omega
   have j1:decide ((y.size:Int)≤(v.size:Int))=false:=decide_eq_false hl
   go_enter Tryz.func98,Tryz.ntmps98
   go_wp2
   go_quiet (fail)
   go_wp2
   go_ret
   exact ⟨by rw [X.out,X2.out];try rfl,belD B1.out _⟩
 ·have X:=Lib.hid (NO.out h1 h2)
  rw [decide_eq_false h2] at hst
  clear h1 h2
  go_enter Tryz.func98,Tryz.ntmps98
  go_wp2
  go_quiet (fail)
  go_wp2
  go_ret
  exact ⟨by rw [X.out];try rfl,belD B1.out _⟩
theorem find_not {α:Type} {p:α→Bool} {l:List α} (h:∀j (hj:j < l.length),p l[j]=false):l.find? p=none:=by
 rw [List.find?_eq_none]
 intro x hx
 obtain ⟨j,hj,rfl⟩:=List.getElem_of_mem hx
 rw [h j hj];decide
theorem find_here {α:Type} {p:α→Bool} {l:List α} {k:Nat} (hk:k < l.length) (h:∀j (hj:j < l.length),j < k→p l[j]=false) (hp:p l[k]=true):l.find? p=some l[k]:=by
 rw [List.find?_eq_some_iff_getElem]
 exact ⟨hp,k,hk,rfl,fun j hj=>by rw [h j (by omega) hj];rfl⟩
theorem prio_own {l:List Pn} {nm v:ByteArray} {k:Nat} (hk:k < l.length) (h:∀j (hj:j < l.length),j < k→hitN l[j] nm v=false) (hp:hitN l[k] nm v=true):prioN l nm v=l[k].p:=by
 unfold prioN
 rw [find_here (p:=fun x=>hitN x nm v) hk h hp]
theorem prio_star {l:List Pn} {nm v:ByteArray} {k:Nat} (h0:∀j (hj:j < l.length),hitN l[j] nm v=false) (hk:k < l.length) (h:∀j (hj:j < l.length),j < k→hitN l[j] star8 v=false) (hp:hitN l[k] star8 v=true):prioN l nm v=l[k].p:=by
 unfold prioN
 rw [find_not (p:=fun x=>hitN x nm v) h0]
 simp only
 rw [find_here (p:=fun x=>hitN x star8 v) hk h hp]
theorem prio_none {l:List Pn} {nm v:ByteArray} (h0:∀j (hj:j < l.length),hitN l[j] nm v=false) (h1:∀j (hj:j < l.length),hitN l[j] star8 v=false):prioN l nm v=500:=by
 unfold prioN
 rw [find_not (p:=fun x=>hitN x nm v) h0]
 simp only
 rw [find_not (p:=fun x=>hitN x star8 v) h1]
set_option maxHeartbeats 4000000 in
theorem q8prio_any (A:Option Addr) (n c:Nat) (l:List Pn) (nm v:ByteArray) (w:World) (h:rdPns w (lt_ w.heap.size) l [.slice A n c]) (hv:v.size≤maxLen) (hx:∀x ∈ l,x.x.size≤maxLen) :
  Calls Tryz.prog 63 #[.slice A n c,.string nm,.string v] w fun e w'=>e=.returned (.int .i64 (prioN l nm v))∧Below w.heap.size w w':=by
 obtain ⟨rfl,hnc,hcm,-⟩:=rdPns_at h
 have hcm':c≤9223372036854775807:=hcm
 have H:=Lib.hid h
 have KM:=Lib.hid (fun k (hk:k < l.length) W=>q8match_any l[k] nm v W hv (hx _ (List.getElem_mem hk)))
 have R1:=Lib.hid (fun k hk h hp=>prio_own (l:=l) (nm:=nm) (v:=v) (k:=k) hk h hp)
 have R2:=Lib.hid (fun k h0 hk h hp=>prio_star (l:=l) (nm:=nm) (v:=v) (k:=k) h0 hk h hp)
 have R3:=Lib.hid (fun h0 h1=>prio_none (l:=l) (nm:=nm) (v:=v) h0 h1)
 clear h hcm hv hx
 generalize prioN l nm v=R at *
 go_enter Tryz.func63,Tryz.ntmps63
 go_wp2
 go_loopw [7] (fun i wr=>∃k:Nat,k≤l.length∧i=.int .i64 k∧(∀j (hj:j < l.length),j < k→hitN l[j] nm v=false)∧Below w.heap.size w wr) (fun i _=>l.length - (intOf i).toNat)
 case atStart=>exact ⟨0,Nat.zero_le _,rfl,fun j _ hj=>absurd hj (Nat.not_lt_zero _),Below.refl _ _⟩
 case round=>
  obtain ⟨k,hk,rfl,hno,hbel⟩:=hrel
  have HN:=Lib.hid hno
  have HB:=Lib.hid hbel
  clear hno
  by_cases hlt:k < l.length
  ·obtain ⟨_,_,_,ha⟩:=rdPns_at (rdPns_good.up (rdPns_good.below H.out hbel) hbel.size)
   obtain ⟨ad,rfl,had,c0,c1,c2⟩:=ha k hlt
   have K:=Lib.hid (KM.out k hlt wr)
   have HM:=Lib.hid (hit_mat (x:=l[k]) (nm:=nm) (v:=v))
   have F1:=Lib.hid (R1.out k hlt HN.out)
   have NX:=Lib.hid (fun hp:hitN l[k] nm v=false=>show ∀j (hj:j < l.length),j < k+1→hitN l[j] nm v=false from fun j hj hjk=>by
    by_cases q:j=k
    ·subst q;exact hp
    ·exact HN.out j hj (by omega))
   have hq:=str_eq l[k].n nm
   have i0:(0:Int)≤(k:Int):=by omega
   have i1:(k:Int) < (l.length:Int):=by omega
   clear ha hbel had
   generalize l[k]=y at *
   obtain ⟨yn,yx,yp⟩:=y
   simp only [Pn.val] at c0 c1 c2 hq K HM F1
   by_cases he:yn=nm
   ·rw [decide_eq_true he] at hq
    cases hm:matN ⟨yn,yx,yp⟩ nm v
    ·have Z:=Lib.hid (NX.out (by rw [←HM.out,hm,Bool.and_false]))
     rw [hm] at K
     clear he hm
     go_wp2_with fail
     refine K.out.mono ?_
     rintro e w2 ⟨rfl,hb⟩
     have HB2:=Lib.hid (HB.out.trans (hb.mono HB.out.size))
     clear hb
     go_wp2
     go_roundw
     case rel=>exact ⟨k+1,by omega,by go_num,Z.out,HB2.out⟩
     case measure=>simp [intOf];omega
    ·have Z:=Lib.hid (F1.out (by rw [←HM.out,hm,decide_eq_true he];rfl))
     rw [hm] at K
     clear he hm
     go_wp2_with fail
     refine K.out.mono ?_
     rintro e w2 ⟨rfl,hb⟩
     have HB2:=Lib.hid (HB.out.trans (hb.mono HB.out.size))
     have d2:=keep6 hb c2
     clear hb c0 c1 c2
     go_wp2
     go_ret
     exact ⟨by rw [Z.out];try rfl,HB2.out⟩
   ·have Z:=Lib.hid (NX.out (by rw [←HM.out,decide_eq_false he,Bool.false_and]))
    rw [decide_eq_false he] at hq
    clear he
    go_wp2
    go_roundw
    case rel=>exact ⟨k+1,by omega,by go_num,Z.out,HB.out⟩
    case measure=>simp [intOf];omega
  ·have HA:=Lib.hid (show ∀j (hj:j < l.length),hitN l[j] nm v=false from fun j hj=>HN.out j hj (by omega))
   obtain ⟨wo,rfl⟩:∃wo:World,wo=wr:=⟨_,rfl⟩
   clear hbel
   go_wp2
   go_loopw [8] (fun i wr=>∃k:Nat,k≤l.length∧i=.int .i64 k∧(∀j (hj:j < l.length),j < k→hitN l[j] star8 v=false)∧Below w.heap.size w wr) (fun i _=>l.length - (intOf i).toNat)
   case atStart=>exact ⟨0,Nat.zero_le _,rfl,fun j _ hj=>absurd hj (Nat.not_lt_zero _),HB.out⟩
   case round=>
    obtain ⟨k,hk,rfl,hno,hbel⟩:=hrel
    have HN:=Lib.hid hno
    have HB:=Lib.hid hbel
    clear hno
    by_cases hlt:k < l.length
    ·obtain ⟨_,_,_,ha⟩:=rdPns_at (rdPns_good.up (rdPns_good.below H.out hbel) hbel.size)
     obtain ⟨ad,rfl,had,c0,c1,c2⟩:=ha k hlt
     have K:=Lib.hid (KM.out k hlt wr)
     have HM:=Lib.hid (hit_star (x:=l[k]) (nm:=nm) (v:=v))
     have F1:=Lib.hid (R2.out k HA.out hlt HN.out)
     have NX:=Lib.hid (fun hp:hitN l[k] star8 v=false=>show ∀j (hj:j < l.length),j < k+1→hitN l[j] star8 v=false from fun j hj hjk=>by
      by_cases q:j=k
      ·subst q;exact hp
      ·exact HN.out j hj (by omega))
     have hq:=star_eq l[k].n
     have i0:(0:Int)≤(k:Int):=by omega
     have i1:(k:Int) < (l.length:Int):=by omega
     clear ha hbel had
     generalize l[k]=y at *
     obtain ⟨yn,yx,yp⟩:=y
     simp only [Pn.val] at c0 c1 c2 hq K HM F1
     by_cases he:yn=star8
     ·rw [decide_eq_true he] at hq
      cases hm:matN ⟨yn,yx,yp⟩ nm v
      ·have Z:=Lib.hid (NX.out (by rw [←HM.out,hm,Bool.and_false]))
       rw [hm] at K
       clear he hm
       go_wp2_with fail
       refine K.out.mono ?_
       rintro e w2 ⟨rfl,hb⟩
       have HB2:=Lib.hid (HB.out.trans (hb.mono HB.out.size))
       clear hb
       go_wp2
       go_roundw
       case rel=>exact ⟨k+1,by omega,by go_num,Z.out,HB2.out⟩
       case measure=>simp [intOf];omega
      ·have Z:=Lib.hid (F1.out (by rw [←HM.out,hm,decide_eq_true he];rfl))
       rw [hm] at K
       clear he hm
       go_wp2_with fail
       refine K.out.mono ?_
       rintro e w2 ⟨rfl,hb⟩
       have HB2:=Lib.hid (HB.out.trans (hb.mono HB.out.size))
       have d2:=keep6 hb c2
       clear hb c0 c1 c2
       go_wp2
       go_ret
       exact ⟨by rw [Z.out];try rfl,HB2.out⟩
     ·have Z:=Lib.hid (NX.out (by rw [←HM.out,decide_eq_false he,Bool.false_and]))
      rw [decide_eq_false he] at hq
      clear he
      go_wp2
      go_roundw
      case rel=>exact ⟨k+1,by omega,by go_num,Z.out,HB.out⟩
      case measure=>simp [intOf];omega
    ·have X:=Lib.hid (R3.out HA.out (fun j hj=>HN.out j hj (by omega)))
     go_wp2
     go_ret
     exact ⟨by rw [X.out];try rfl,HB.out⟩
set_option maxHeartbeats 4000000 in
theorem q8loss_any (A:Option Addr) (n c:Nat) (l:List Pn) (nm:ByteArray) (A':Option Addr) (n' c':Nat) (all:List ByteArray) (v:ByteArray) (w:World) (h:rdPns w (lt_ w.heap.size) l [.slice A n c]) (h':rdBas w (lt_ w.heap.size) all [.slice A' n' c'])
  (hv:v.size≤maxLen) (ha:∀s ∈ all,s.size≤maxLen) (hx:∀x ∈ l,x.x.size≤maxLen) (hB:Bd8 l) :
  Calls Tryz.prog 84 #[.slice A n c,.string nm,.slice A' n' c',.string v] w fun e w'=>e=.returned (.int .i64 (lossN l nm all v))∧Below w.heap.size w w':=by
 obtain ⟨rfl,hnc,hcm,-⟩:=rdBas_at h'
 have hcm':c'≤9223372036854775807:=hcm
 have H:=Lib.hid h
 have H':=Lib.hid h'
 have KP:=Lib.hid (fun u (hu:u.size≤maxLen) W hW=>q8prio_any A n c l nm u W hW hu hx)
 have BD:=Lib.hid (fun u=>prio_in (b:=1099511627776) (by decide) hB nm u)
 have HA:=Lib.hid ha
 have K0:=Lib.hid (KP.out v hv w h)
 have X:=Lib.hid (show lossN l nm all v=maxF (prioN l nm) (prioN l nm v) (all.take all.length) - prioN l nm v by rw [List.take_length];rfl)
 have MB:=Lib.hid (fun k=>maxF_in (f:=prioN l nm) (b:=prioN l nm v) (c:=1099511627776) (all:=all.take k) (BD.out v) BD.out)
 have MS:=Lib.hid (fun k hk=>maxF_step (prioN l nm) (prioN l nm v) all (k:=k) hk)
 have M0:=Lib.hid (show prioN l nm v=maxF (prioN l nm) (prioN l nm v) (all.take 0) from rfl)
 obtain ⟨o1,o2⟩:=BD.out v
 clear h h' hcm hv ha hx hB
 generalize lossN l nm all v=R at *
 generalize prioN l nm v=own at *
 generalize prioN l nm=f at *
 go_enter Tryz.func84,Tryz.ntmps84
 go_wp2_with fail
 refine K0.out.mono ?_
 rintro e w1 ⟨rfl,hb⟩
 have B1:=Lib.hid hb
 clear hb K0
 go_wp2
 go_loopw [10,11] (fun b i wr=>∃k:Nat,k≤all.length∧i=.int .i64 k∧b=.int .i64 (maxF f own (all.take k))∧Below w.heap.size w wr) (fun _ i _=>all.length - (intOf i).toNat)
 case atStart=>exact ⟨0,Nat.zero_le _,rfl,by rw [←M0.out],B1.out⟩
 case round=>
  obtain ⟨k,hk,rfl,rfl,hbel⟩:=hrel
  have HB:=Lib.hid hbel
  obtain ⟨m1,m2⟩:=MB.out k
  by_cases hlt:k < all.length
  ·obtain ⟨_,_,_,hat⟩:=rdBas_at (rdBas_good.up (rdBas_good.below H'.out hbel) hbel.size)
   obtain ⟨ad,rfl,had,c0⟩:=hat k hlt
   have K:=Lib.hid (KP.out all[k] (HA.out _ (List.getElem_mem hlt)) wr (rdPns_good.up (rdPns_good.below H.out hbel) hbel.size))
   have SX:=Lib.hid (MS.out k hlt)
   obtain ⟨f1,f2⟩:=BD.out all[k]
   have i0:(0:Int)≤(k:Int):=by omega
   have i1:(k:Int) < (all.length:Int):=by omega
   clear hat hbel had
   generalize all[k]=u at *
   generalize f u=y at *
   generalize maxF f own (all.take k)=b at *
   go_wp2_with fail
   refine K.out.mono ?_
   rintro e w2 ⟨rfl,hb⟩
   have HB2:=Lib.hid (HB.out.trans (hb.mono HB.out.size))
   clear hb c0
   go_wp2
   go_roundw
   case rel=>exact ⟨k+1,by omega,by go_num,by rw [SX.out];try rfl,HB2.out⟩
   case measure=>simp [intOf];omega
  ·obtain rfl:k=all.length:=by omega
   clear hbel
   generalize maxF f own (all.take all.length)=b at *
   go_wp2
   go_ret
   exact ⟨by rw [X.out];try rfl,HB.out⟩
set_option maxHeartbeats 1000000 in
theorem sameInts11_any (A A':Option Addr) (n c n' c':Nat) (l m:List Int) (w:World) (h:rdInts w (lt_ w.heap.size) l [.slice A n c]) (h':rdInts w (lt_ w.heap.size) m [.slice A' n' c']) :
  Calls Tryz.prog 24 #[.slice A n c,.slice A' n' c'] w fun e w'=>e=.returned (.bool (decide (l=m)))∧Dr w w':=by
 obtain ⟨rfl,hnc,hcm,_⟩:=rdInts_at h
 obtain ⟨rfl,hnc',hcm',_⟩:=rdInts_at h'
 have hcm1:c≤9223372036854775807:=hcm
 have hcm2:c'≤9223372036854775807:=hcm'
 by_cases hlen:l.length=m.length
 ·have hd:((l.length:Int) != (m.length:Int))=false:=by rw [hlen];simp
  have HL:=Lib.hid hlen
  clear hlen
  go_enter Tryz.func24,Tryz.ntmps24
  go_wp2
  go_loopw [5] (fun i wr=>∃k:Nat,k≤l.length∧i=.int .i64 k∧l.take k=m.take k∧Dr w wr) (fun i _=>l.length - (intOf i).toNat)
  case atStart=>exact ⟨0,Nat.zero_le _,rfl,rfl,Dr.refl _⟩
  case round=>
   obtain ⟨k,hk,rfl,htk,hbel⟩:=hrel
   by_cases hlt:k < l.length
   ·obtain ⟨_,_,_,ha⟩:=rdInts_at (rdInts_good.below h (hbel.below _))
    obtain ⟨_,_,_,hb⟩:=rdInts_at (rdInts_good.below h' (hbel.below _))
    have hltm:k < m.length:=by rw [←HL.out];exact hlt
    obtain ⟨ad,rfl,had,h0⟩:=ha k hlt
    obtain ⟨ad',rfl,had',g0⟩:=hb k hltm
    have T:=Lib.hid (same_take (l:=l) (m:=m) HL.out hlt hltm htk)
    have Z:=Lib.hid (show l[k]≠m[k]→l≠m from fun hn e=>hn (by subst e;rfl))
    have HB:=Lib.hid hbel
    have hki:(k:Int) < (m.length:Int):=by omega
    clear htk ha hb hbel h h'
    generalize l[k]=x at *
    generalize m[k]=y at *
    by_cases he:x=y
    ·have hq:(x != y)=false:=by rw [he];simp
     have HE:=Lib.hid he
     clear he
     go_wp2_with fail
     go_quiet (fail)
     go_wp2
     go_roundw
     case rel=>exact ⟨k+1,by omega,by go_num,T.out HE.out,HB.out.more _⟩
     case measure=>simp [intOf];omega
    ·have hq:(x != y)=true:=by rw [bne_iff_ne];exact he
     have HE:=Lib.hid he
     clear he
     go_wp2_with fail
     go_quiet (fail)
     go_wp2
     go_ret
     exact ⟨by rw [decide_eq_false (Z.out HE.out)];try rfl,HB.out.more _⟩
   ·obtain rfl:k=l.length:=by omega
    have X:=Lib.hid (show l=m by rw [List.take_length] at htk;rw [htk,HL.out,List.take_length])
    clear htk h h'
    go_wp2
    go_ret
    exact ⟨by rw [decide_eq_true X.out];try rfl,hbel⟩
 ·have hd:((l.length:Int) != (m.length:Int))=true:=by rw [bne_iff_ne];omega
  have X:=Lib.hid (show l≠m by rintro rfl;exact hlen rfl)
  clear hlen
  go_enter Tryz.func24,Tryz.ntmps24
  go_wp2
  go_ret
  exact ⟨by rw [decide_eq_false X.out];try rfl,Dr.refl _⟩
end Go.Proofs.YtpilmhoakopcaaaGreatDoor
