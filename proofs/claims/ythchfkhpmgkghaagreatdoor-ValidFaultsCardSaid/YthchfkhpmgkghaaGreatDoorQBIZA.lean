/- What the laws rest on: RelRef, D4d, E9h. -/
import Derived.Test.YthchfkhpmgkghaaGreatDoorQBHZA
import Derived.Test.YthchfkhpmgkghaaGreatDoorQCJZA
import Derived.Test.YthchfkhpmgkghaaGreatDoorQCKZA
set_option maxRecDepth 100000
set_option linter.unusedVariables false
set_option linter.unusedSimpArgs false
namespace Go.Proofs.YthchfkhpmgkghaaGreatDoor
open Go.RowKit
def okAt (l:List Nat) (j:Nat):Bool:=plnB (l.getD j 0)||(decide (0 < j)&&nmcB (l.getD j 0))
theorem okAt_no {s:ByteArray} {k:Nat} (hk:k < s.size) (h:okAt (B s) k=false):nameB (B s)=false:=by
 unfold okAt at h
 rw [B_getD s k hk] at h
 rw [Bool.or_eq_false_iff] at h
 rcases Nat.eq_zero_or_pos k with rfl|h0
 ·unfold nameB
  rw [B_getD s 0 hk,h.1,Bool.and_false,Bool.false_and]
 ·have h2:=h.2
  rw [decide_eq_true h0,Bool.true_and] at h2
  unfold nameB
  rw [nm_not hk h2,Bool.and_false]
theorem okAt_yes {s:ByteArray} (h:∀j,j < s.size→okAt (B s) j=true):nameB (B s)=(decide (2≤s.size)&&decide (s.size≤40)):=by
 unfold nameB
 rw [B_len]
 by_cases h2:2≤s.size
 ·have h0:=h 0 (by omega)
  unfold okAt at h0
  rw [decide_eq_false (Nat.lt_irrefl 0),Bool.false_and,Bool.or_false] at h0
  have ha:(B s).all nmcB=true:=nm_yes fun j hj=>by
   have:=h j hj
   unfold okAt at this
   rw [Bool.or_eq_true] at this
   rcases this with h1|h1
   ·unfold nmcB;rw [h1];rfl
   ·rw [Bool.and_eq_true] at h1;exact h1.2
  rw [h0,ha,Bool.and_true,Bool.and_true]
 ·rw [decide_eq_false h2,Bool.false_and,Bool.false_and];rfl
theorem q3name_any (s:ByteArray) (w:World) (hs:s.size≤65536):Calls Tryz.prog 71 #[.string s] w fun e w'=>e=.returned (.bool (nameB (B s)))∧w=w':=by
 go_enter Tryz.func71,Tryz.ntmps71
 go_wp2
 go_loop [3] (fun x=>∃k:Nat,k≤s.size∧x=.int .i64 k∧∀j,j < k→okAt (B s) j=true) (fun x=>s.size - (intOf x).toNat)
 case atStart=>exact ⟨0,Nat.zero_le _,rfl,fun j hj=>by omega⟩
 case round=>
  obtain ⟨k,hk,rfl,hno⟩:=hrel
  have HN:=Lib.hid hno
  clear hno
  by_cases hlt:k < s.size
  ·have XN:=Lib.hid (okAt_no hlt)
   rcases Nat.eq_zero_or_pos k with rfl|hk0
   ·have OK:=Lib.hid (show okAt (B s) 0=(plnB s[0].toNat||(decide (0 < 0)&&nmcB s[0].toNat)) by unfold okAt;rw [B_getD s 0 hlt])
    have KD:=Lib.hid (fun w=>Digit_any s[0].toNat w)
    by_cases a1:97≤s[0].toNat
    ·by_cases a2:s[0].toNat≤122
     ·have i1:(97:Int)≤(s[0].toNat:Int):=by omega
      have i2:(s[0].toNat:Int)≤122:=by omega
      have p1:((s[0].toNat:Int)==43)=false:=by rw [beq_eq_false_iff_ne];omega
      have p2:((s[0].toNat:Int)==45)=false:=by rw [beq_eq_false_iff_ne];omega
      have p3:((s[0].toNat:Int)==46)=false:=by rw [beq_eq_false_iff_ne];omega
      have YES:=Lib.hid (show okAt (B s) 0=true by rw [OK.out];unfold plnB;rw [decide_eq_true (show 97≤s[0].toNat∧s[0].toNat≤122 from ⟨a1,a2⟩)];rfl)
      clear a1 a2
      go_wp2_with fail
      go_round
      case rel=>exact ⟨1,by omega,by go_num,fun j hj=>by rcases (by omega:j < 0∨j=0) with h|rfl;exact HN.out j h;exact YES.out⟩
      case measure=>simp [intOf];omega
     ·have i1:(97:Int)≤(s[0].toNat:Int):=by omega
      have i2:(122:Int) < (s[0].toNat:Int):=by omega
      have i3:decide ((s[0].toNat:Int)≤122)=false:=by rw [decide_eq_false_iff_not];omega
      have p1:((s[0].toNat:Int)==43)=false:=by rw [beq_eq_false_iff_ne];omega
      have p2:((s[0].toNat:Int)==45)=false:=by rw [beq_eq_false_iff_ne];omega
      have p3:((s[0].toNat:Int)==46)=false:=by rw [beq_eq_false_iff_ne];omega
      have hd:digB s[0].toNat=false:=by unfold digB;rw [decide_eq_false (by omega)]
      rw [hd] at KD
      have NOT:=Lib.hid (XN.out (show okAt (B s) 0=false by rw [OK.out];unfold nmcB plnB;rw [hd,decide_eq_false (show ¬(97≤s[0].toNat∧s[0].toNat≤122) by omega),decide_eq_false (show ¬s[0].toNat=43 by omega),decide_eq_false (show ¬s[0].toNat=45 by omega),decide_eq_false (show ¬s[0].toNat=46 by omega)];simp))
      clear a1 a2 hd
      go_wp2_with (go_at_call 115;(with_reducible refine (KD.out _).mono ?_);rintro e w' ⟨rfl,rfl⟩)
      go_ret
      exact ⟨by rw [NOT.out];rfl,rfl⟩
    ·have i1:(s[0].toNat:Int) < 97:=by omega
     cases hd:digB s[0].toNat
     ·rw [hd] at KD
      have NOT:=Lib.hid (XN.out (show okAt (B s) 0=false by rw [OK.out];unfold plnB;rw [hd,decide_eq_false (show ¬(97≤s[0].toNat∧s[0].toNat≤122) by omega),decide_eq_false (show ¬0 < 0 by omega)];rfl))
      clear a1 hd
      go_wp2_with (go_at_call 115;(with_reducible refine (KD.out _).mono ?_);rintro e w' ⟨rfl,rfl⟩)
      go_ret
      exact ⟨by rw [NOT.out];rfl,rfl⟩
     ·have hd2:48≤s[0].toNat:=by have:=digB_iff.1 hd;omega
      rw [hd] at KD
      have p1:((s[0].toNat:Int)==43)=false:=by rw [beq_eq_false_iff_ne];omega
      have p2:((s[0].toNat:Int)==45)=false:=by rw [beq_eq_false_iff_ne];omega
      have p3:((s[0].toNat:Int)==46)=false:=by rw [beq_eq_false_iff_ne];omega
      have YES:=Lib.hid (show okAt (B s) 0=true by rw [OK.out];unfold plnB;rw [hd];simp)
      clear a1 hd hd2
      go_wp2_with (go_at_call 115;(with_reducible refine (KD.out _).mono ?_);rintro e w' ⟨rfl,rfl⟩)
      go_round
      case rel=>exact ⟨1,by omega,by go_num,fun j hj=>by rcases (by omega:j < 0∨j=0) with h|rfl;exact HN.out j h;exact YES.out⟩
      case measure=>simp [intOf];omega
   ·have OK:=Lib.hid (show okAt (B s) k=(plnB s[k].toNat||(decide (0 < k)&&nmcB s[k].toNat)) by unfold okAt;rw [B_getD s k hlt])
    have KD:=Lib.hid (fun w=>Digit_any s[k].toNat w)
    by_cases a1:97≤s[k].toNat
    ·by_cases a2:s[k].toNat≤122
     ·have i1:(97:Int)≤(s[k].toNat:Int):=by omega
      have i2:(s[k].toNat:Int)≤122:=by omega
      have hk0:(0:Int) < (k:Int):=by omega
      have p1:((s[k].toNat:Int)==43)=false:=by rw [beq_eq_false_iff_ne];omega
      have p2:((s[k].toNat:Int)==45)=false:=by rw [beq_eq_false_iff_ne];omega
      have p3:((s[k].toNat:Int)==46)=false:=by rw [beq_eq_false_iff_ne];omega
      have YES:=Lib.hid (show okAt (B s) k=true by rw [OK.out];unfold plnB;rw [decide_eq_true (show 97≤s[k].toNat∧s[k].toNat≤122 from ⟨a1,a2⟩)];rfl)
      clear a1 a2
      go_wp2_with fail
      go_round
      case rel=>exact ⟨k+1,by omega,by go_num,fun j hj=>by rcases (by omega:j < k∨j=k) with h|rfl;exact HN.out j h;exact YES.out⟩
      case measure=>simp [intOf];omega
     ·have i1:(97:Int)≤(s[k].toNat:Int):=by omega
      have i2:(122:Int) < (s[k].toNat:Int):=by omega
      have i3:decide ((s[k].toNat:Int)≤122)=false:=by rw [decide_eq_false_iff_not];omega
      have hk0:(0:Int) < (k:Int):=by omega
      have p1:((s[k].toNat:Int)==43)=false:=by rw [beq_eq_false_iff_ne];omega
      have p2:((s[k].toNat:Int)==45)=false:=by rw [beq_eq_false_iff_ne];omega
      have p3:((s[k].toNat:Int)==46)=false:=by rw [beq_eq_false_iff_ne];omega
      have hd:digB s[k].toNat=false:=by unfold digB;rw [decide_eq_false (by omega)]
      rw [hd] at KD
      have NOT:=Lib.hid (XN.out (show okAt (B s) k=false by rw [OK.out];unfold nmcB plnB;rw [hd,decide_eq_false (show ¬(97≤s[k].toNat∧s[k].toNat≤122) by omega),decide_eq_false (show ¬s[k].toNat=43 by omega),decide_eq_false (show ¬s[k].toNat=45 by omega),decide_eq_false (show ¬s[k].toNat=46 by omega)];simp))
      clear a1 a2 hd
      go_wp2_with (go_at_call 115;(with_reducible refine (KD.out _).mono ?_);rintro e w' ⟨rfl,rfl⟩)
      go_ret
      exact ⟨by rw [NOT.out];rfl,rfl⟩
    ·have i1:(s[k].toNat:Int) < 97:=by omega
     cases hd:digB s[k].toNat
     ·rw [hd] at KD
      have hk0:(0:Int) < (k:Int):=by omega
      by_cases h43:s[k].toNat=43
      ·have p1:((s[k].toNat:Int)==43)=true:=by rw [beq_iff_eq];omega
       have YES:=Lib.hid (show okAt (B s) k=true by rw [OK.out];unfold nmcB;rw [decide_eq_true (show 0 < k by omega),decide_eq_true h43];simp)
       clear a1 hd h43
       go_wp2_with (go_at_call 115;(with_reducible refine (KD.out _).mono ?_);rintro e w' ⟨rfl,rfl⟩)
       go_round
       case rel=>exact ⟨k+1,by omega,by go_num,fun j hj=>by rcases (by omega:j < k∨j=k) with h|rfl;exact HN.out j h;exact YES.out⟩
       case measure=>simp [intOf];omega
      by_cases h45:s[k].toNat=45
      ·have p1:((s[k].toNat:Int)==43)=false:=by rw [beq_eq_false_iff_ne];omega
       have p2:((s[k].toNat:Int)==45)=true:=by rw [beq_iff_eq];omega
       have YES:=Lib.hid (show okAt (B s) k=true by rw [OK.out];unfold nmcB;rw [decide_eq_true (show 0 < k by omega),decide_eq_false h43,decide_eq_true h45];simp)
       clear a1 hd h43 h45
       go_wp2_with (go_at_call 115;(with_reducible refine (KD.out _).mono ?_);rintro e w' ⟨rfl,rfl⟩)
       go_round
       case rel=>exact ⟨k+1,by omega,by go_num,fun j hj=>by rcases (by omega:j < k∨j=k) with h|rfl;exact HN.out j h;exact YES.out⟩
       case measure=>simp [intOf];omega
      by_cases h46:s[k].toNat=46
      ·have p1:((s[k].toNat:Int)==43)=false:=by rw [beq_eq_false_iff_ne];omega
       have p2:((s[k].toNat:Int)==45)=false:=by rw [beq_eq_false_iff_ne];omega
       have p3:((s[k].toNat:Int)==46)=true:=by rw [beq_iff_eq];omega
       have YES:=Lib.hid (show okAt (B s) k=true by rw [OK.out];unfold nmcB;rw [decide_eq_true (show 0 < k by omega),decide_eq_false h43,decide_eq_false h45,decide_eq_true h46];simp)
       clear a1 hd h43 h45 h46
       go_wp2_with (go_at_call 115;(with_reducible refine (KD.out _).mono ?_);rintro e w' ⟨rfl,rfl⟩)
       go_round
       case rel=>exact ⟨k+1,by omega,by go_num,fun j hj=>by rcases (by omega:j < k∨j=k) with h|rfl;exact HN.out j h;exact YES.out⟩
       case measure=>simp [intOf];omega
      have p1:((s[k].toNat:Int)==43)=false:=by rw [beq_eq_false_iff_ne];omega
      have p2:((s[k].toNat:Int)==45)=false:=by rw [beq_eq_false_iff_ne];omega
      have p3:((s[k].toNat:Int)==46)=false:=by rw [beq_eq_false_iff_ne];omega
      have NOT:=Lib.hid (XN.out (show okAt (B s) k=false by rw [OK.out];unfold nmcB plnB;rw [hd,decide_eq_false (show ¬(97≤s[k].toNat∧s[k].toNat≤122) by omega),decide_eq_false h43,decide_eq_false h45,decide_eq_false h46];simp))
      clear a1 hd h43 h45 h46
      go_wp2_with (go_at_call 115;(with_reducible refine (KD.out _).mono ?_);rintro e w' ⟨rfl,rfl⟩)
      go_ret
      exact ⟨by rw [NOT.out];rfl,rfl⟩
     ·have hd2:48≤s[k].toNat:=by have:=digB_iff.1 hd;omega
      rw [hd] at KD
      have hk0:(0:Int) < (k:Int):=by omega
      have p1:((s[k].toNat:Int)==43)=false:=by rw [beq_eq_false_iff_ne];omega
      have p2:((s[k].toNat:Int)==45)=false:=by rw [beq_eq_false_iff_ne];omega
      have p3:((s[k].toNat:Int)==46)=false:=by rw [beq_eq_false_iff_ne];omega
      have YES:=Lib.hid (show okAt (B s) k=true by rw [OK.out];unfold plnB;rw [hd];simp)
      clear a1 hd hd2
      go_wp2_with (go_at_call 115;(with_reducible refine (KD.out _).mono ?_);rintro e w' ⟨rfl,rfl⟩)
      go_round
      case rel=>exact ⟨k+1,by omega,by go_num,fun j hj=>by rcases (by omega:j < k∨j=k) with h|rfl;exact HN.out j h;exact YES.out⟩
      case measure=>simp [intOf];omega
  ·have Y:=Lib.hid (okAt_yes (s:=s) (fun j hj=>HN.out j (by omega)))
   by_cases h2:2≤s.size
   ·rw [decide_eq_true h2,Bool.true_and,show decide (s.size≤40)=decide ((s.size:Int)≤40) by rw [Bool.eq_iff_iff];simp;omega] at Y
    go_wp2
    go_ret
    exact ⟨by rw [Y.out];rfl,rfl⟩
   ·rw [decide_eq_false h2] at Y
    have h41:(s.size:Int) < 2:=by omega
    go_wp2
    go_ret
    exact ⟨by rw [Y.out];rfl,rfl⟩
theorem q3plain_any (s:ByteArray) (w:World):Calls Tryz.prog 125 #[.string s] w fun e' w'=>e'=.returned (.bool (prB (B s)))∧Below w.heap.size w w':=by
 obtain ⟨ep,e,U,R,h1,h2,h3,h4,z2,z3,cp⟩:=parse_opened s
 have X:prB (B s)=(decide (e=0)&&decide (printL ep (B U) (B R)=B s)):=by unfold prB;rw [h1,h2,h3,h4]
 have CP:=Lib.hid cp
 have CT:=Lib.hid (fun w=>print_any ep U R w (by omega) (by omega))
 have hst:=strEq (printL ep (B U) (B R)) s (printL_lt ep U R)
 clear cp h1 h2 h3 h4
 by_cases he:e=0
 ·have t1:(e==0)=true:=by rw [beq_iff_eq];exact he
  rw [decide_eq_true he,Bool.true_and] at X
  rw [←X] at hst
  generalize prB (B s)=b at *
  generalize mk (printL ep (B U) (B R))=T at *
  clear X
  go_enter Tryz.func125,Tryz.ntmps125
  go_wp2_with fail
  refine (CP.out _).mono ?_
  rintro e' w1 ⟨rfl,hb1⟩
  have B1:=Lib.hid (show Below w.heap.size w (w1.alloc (.cells #[.int .i64 ep,.string U,.string R] 144)) from hb1.alloc hb1.size _)
  clear hb1
  go_wp2_with fail
  refine (CT.out _).mono ?_
  rintro e' w2 ⟨rfl,hb2⟩
  have B2:=Lib.hid (bel_2 B1.out hb2)
  clear hb2
  go_wp2
  go_ret
  exact ⟨rfl,B2.out⟩
 ·have t1:(e==0)=false:=by rw [beq_eq_false_iff_ne];exact he
  rw [decide_eq_false he,Bool.false_and] at X
  have XX:=Lib.hid X
  clear X hst CT he
  go_enter Tryz.func125,Tryz.ntmps125
  go_wp2_with fail
  refine (CP.out _).mono ?_
  rintro e' w1 ⟨rfl,hb1⟩
  have B1:=Lib.hid (show Below w.heap.size w (w1.alloc (.cells #[.int .i64 ep,.string U,.string R] 144)) from hb1.alloc hb1.size _)
  clear hb1
  go_wp2
  go_ret
  exact ⟨by rw [XX.out];rfl,B1.out⟩
theorem q3right_any (n:ByteArray) (op:Int) (v:ByteArray) (w:World) (hn:n.size≤65536):Calls Tryz.prog 90 #[.agg #[.string n,.int .i64 op,.string v]] w fun e' w'=>e'=.returned (.bool (rightA (B n) op (B v)))∧Below w.heap.size w w':=by
 have B1:=Lib.hid (show Below w.heap.size w (w.alloc (.cells #[.string n,.int .i64 op,.string v] 62)) from (Below.refl _ w).alloc (Nat.le_refl _) _)
 have KN:=Lib.hid (fun w=>q3name_any n w hn)
 cases hb:nameB (B n)
 ·have X:=Lib.hid (show rightA (B n) op (B v)=false by unfold rightA;rw [hb];rfl)
  rw [hb] at KN
  clear hb
  go_enter Tryz.func90,Tryz.ntmps90
  go_wp2_with fail
  refine (KN.out _).mono ?_
  rintro e' w' ⟨rfl,rfl⟩
  go_wp2
  go_ret
  exact ⟨by rw [X.out];rfl,B1.out⟩
 rw [hb] at KN
 by_cases h0:op=0
 ·subst h0
  have X:=Lib.hid (show v.toList.isEmpty=rightA (B n) 0 (B v) by unfold rightA;rw [hb,if_pos rfl,Bool.true_and,empty_is])
  clear hb
  go_enter Tryz.func90,Tryz.ntmps90
  go_wp2_with fail
  refine (KN.out _).mono ?_
  rintro e' w' ⟨rfl,rfl⟩
  go_wp2
  go_ret
  exact ⟨by rw [←X.out];rfl,B1.out⟩
 have t0:(op==0)=false:=by rw [beq_eq_false_iff_ne];exact h0
 by_cases ho:1≤op∧op≤5
 ·have X:=Lib.hid (show rightA (B n) op (B v)=prB (B v) by unfold rightA;rw [hb,if_neg h0,Bool.true_and,decide_eq_true ho,Bool.true_and])
  have KP:=Lib.hid (fun w=>q3plain_any v w)
  have j1:0≤op:=by omega
  have j2:op≤5:=ho.2
  clear hb h0 ho
  go_enter Tryz.func90,Tryz.ntmps90
  go_wp2_with fail
  refine (KN.out _).mono ?_
  rintro e' w' ⟨rfl,rfl⟩
  go_wp2_with fail
  refine (KP.out _).mono ?_
  rintro e' w2 ⟨rfl,hb⟩
  have B2:=Lib.hid (bel_2 B1.out hb)
  clear hb
  go_wp2
  go_ret
  exact ⟨by rw [X.out];rfl,B2.out⟩
 ·have X:=Lib.hid (show rightA (B n) op (B v)=false by unfold rightA;rw [if_neg h0,decide_eq_false ho,Bool.false_and,Bool.and_false])
  by_cases j1:op < 0
  ·clear hb h0 ho
   go_enter Tryz.func90,Tryz.ntmps90
   go_wp2_with fail
   refine (KN.out _).mono ?_
   rintro e' w' ⟨rfl,rfl⟩
   go_wp2
   go_ret
   exact ⟨by rw [X.out];rfl,B1.out⟩
  ·have j2:5 < op:=by omega
   have j0:0≤op:=by omega
   clear hb h0 ho j1
   go_enter Tryz.func90,Tryz.ntmps90
   go_wp2_with fail
   refine (KN.out _).mono ?_
   rintro e' w' ⟨rfl,rfl⟩
   go_wp2
   go_ret
   exact ⟨by rw [X.out];rfl,B1.out⟩
theorem q4r_atom (x:Atm) (w:World) (h:x.n.size≤65536):Calls Tryz.prog 90 #[.agg #[.string x.n,.int .i64 x.o,.string x.v]] w fun e' w'=>e'=.returned (.bool (rgt x))∧Below w.heap.size w w':=q3right_any x.n x.o x.v w h
set_option maxHeartbeats 2000000 in
theorem q4right_any (A:Option Addr) (n c:Nat) (L:List (List Atm)) (w:World) (h:rdGrps w (lt_ w.heap.size) L [.slice A n c]) (hz:∀g ∈ L,∀a ∈ g,a.n.size≤65536) :
  Calls Tryz.prog 73 #[.slice A n c] w fun e w'=>e=.returned (.bool (rightG L))∧Below w.heap.size w w':=by
 obtain ⟨rfl,hnc,hcm,_⟩:=rdGrps_at h
 have hcm1:c≤9223372036854775807:=hcm
 have HZ:=Lib.hid hz
 clear hz
 go_enter Tryz.func73,Tryz.ntmps73
 go_wp2
 go_loopw [3,4,5] (fun i n v wr=>∃k:Nat,k≤L.length∧i=.int .i64 k∧(L.take k).all rgtOne=true∧Below w.heap.size w wr) (fun i _ _ _=>L.length - (intOf i).toNat)
 case atStart=>exact ⟨0,Nat.zero_le _,rfl,rfl,Below.refl _ _⟩
 case round=>
  obtain ⟨k,hk,rfl,htk,hbel⟩:=hrel
  by_cases hlt:k < L.length
  ·have T:=Lib.hid (all_takeL rgtOne L k hlt)
   have Z:=Lib.hid (right_stop (L:=L) (k:=k) hlt)
   have H:=Lib.hid htk
   have HB:=Lib.hid hbel
   have hcell:=fun W (hW:Below w.heap.size w W)=>(rdGrps_at (rdGrps_good.below h hW)).2.2.2 k hlt
   have HC:=Lib.hid hcell
   have hzg:=HZ.out L[k] (List.getElem_mem hlt)
   obtain ⟨ad,A',c',rfl,had,h0,h1⟩:=hcell wr hbel
   clear htk hcell hbel
   have hc':c'≤9223372036854775807:=(rdAtms_at h1).2.2.1
   have hgc:=(rdAtms_at h1).2.1
   have HC2:=Lib.hid (show ∀W,Below w.heap.size w W→W.cell? (ad.add k)=some (.slice A' L[k].length c')∧rdAtms W (lt_ w.heap.size) L[k] [.slice A' L[k].length c'] from fun W hW=>by
    refine ⟨?_,?_⟩
    ·rw [World.cell?_of_block (w:=wr) (by rw [blk_add];rw [hW.block _ had,HB.out.block _ had])];exact h0
    ·exact rdAtms_good.keep h1 fun b hb=>by rw [hW.block _ hb,HB.out.block _ hb])
   clear h1 HC h
   generalize L[k]=g at *
   go_wp2
   go_loopw [4,5] (fun n v wr2=>∃q:Nat,q≤g.length∧n=.int .i64 q∧(g.take q).all rgt=true∧Below w.heap.size w wr2) (fun n _ _=>g.length - (intOf n).toNat)
   case atStart=>exact ⟨0,Nat.zero_le _,rfl,rfl,HB.out⟩
   case round=>
    obtain ⟨q,hq,rfl,hall,hbel2⟩:=hrel
    obtain ⟨g0,g1⟩:=HC2.out _ hbel2
    have H2:=Lib.hid hbel2
    clear h0 hbel2
    by_cases hlt2:q < g.length
    ·obtain ⟨ad2,rfl,had2,e0,e1,e2⟩:=(rdAtms_at g1).2.2.2 q hlt2
     have T2:=Lib.hid (all_takeL rgt g q hlt2)
     have Z2:=Lib.hid (rgtOne_stop (g:=g) (k:=q) hlt2)
     have A2:=Lib.hid hall
     have hx:=hzg g[q] (List.getElem_mem hlt2)
     clear hall g1 hzg
     generalize g[q]=x at *
     have K:=Lib.hid (fun W=>q4r_atom x W hx)
     clear hx
     cases hr:rgt x
     ·have R:=Lib.hid hr
      rw [hr] at K
      clear hr
      go_wp2_with (go_at_call 90;refine (K.out _).mono ?_;rintro e w3 ⟨rfl,hb3⟩)
      go_ret
      exact ⟨by rw [Z.out (Z2.out R.out)];try rfl,bel2 H2.out hb3 (Nat.le_refl _)⟩
     ·have R:=Lib.hid hr
      rw [hr] at K
      clear hr
      go_wp2_with (go_at_call 90;refine (K.out _).mono ?_;rintro e w3 ⟨rfl,hb3⟩)
      go_roundw
      case rel=>exact ⟨q+1,by omega,by go_num,by rw [T2.out,A2.out,R.out];rfl,bel2 H2.out hb3 (Nat.le_refl _)⟩
      case measure=>simp [intOf];omega
    ·obtain rfl:q=g.length:=by omega
     have A2:=Lib.hid hall
     clear hall g1 hzg
     by_cases hl1:g.length < 1
     ·have X:=Lib.hid (Z.out (rgtOne_len (g:=g) (by omega)))
      have hl1':(g.length:Int) < 1:=by omega
      go_wp2
      go_ret
      exact ⟨by rw [X.out];try rfl,H2.out⟩
     ·by_cases hl6:6 < g.length
      ·have X:=Lib.hid (Z.out (rgtOne_len (g:=g) (by omega)))
       have hl1':¬(g.length:Int) < 1:=by omega
       have hl6':(6:Int) < g.length:=by omega
       go_wp2
       go_ret
       exact ⟨by rw [X.out];try rfl,H2.out⟩
      ·have X:=Lib.hid (show (L.take (k+1)).all rgtOne=true by rw [T.out,H.out,rgtOne_yes (by omega) (by omega) A2.out];rfl)
       have hl1':¬(g.length:Int) < 1:=by omega
       have hl6':¬(6:Int) < g.length:=by omega
       go_wp2
       go_roundw
       case rel=>exact ⟨k+1,by omega,by go_num,X.out,H2.out⟩
       case measure=>simp [intOf];omega
  ·obtain rfl:k=L.length:=by omega
   have X:=Lib.hid (right_all htk)
   clear htk h
   by_cases h12:L.length≤12
   ·have hd:decide ((L.length:Int)≤12)=true:=by rw [decide_eq_true_eq];omega
    have X2:=Lib.hid (X.out.trans (decide_eq_true h12))
    go_wp2
    go_ret
    exact ⟨by rw [X2.out];try rfl,hbel⟩
   ·have hd:decide ((L.length:Int)≤12)=false:=by rw [decide_eq_false_iff_not];omega
    have X2:=Lib.hid (X.out.trans (decide_eq_false h12))
    go_wp2
    go_ret
    exact ⟨by rw [X2.out];try rfl,hbel⟩
end Go.Proofs.YthchfkhpmgkghaaGreatDoor
namespace Go.Proofs.YthchfkhpmgkghaaGreatDoor
open Go.RowKit Go.Sort
def NewU (w':World) (L:List Ent) (m:List Hr) (e:Ending):Prop:=
 (¬(L.all rgtE=true∧rightH m=true)→e=.returned (.tuple #[.pointer none,.int .i64 1]))∧
 ((L.all rgtE=true∧rightH m=true)→64 < (entU L (m.map fun y=>y.e)).length→e=.returned (.tuple #[.pointer none,.int .i64 8]))∧
 ((L.all rgtE=true∧rightH m=true)→¬64 < (entU L (m.map fun y=>y.e)).length→∃b,e=.returned (.tuple #[.pointer (some ⟨b,0,none⟩),.int .i64 0])∧UR w' b (entU L (m.map fun y=>y.e)) m)
def URF (w:World) (b:Nat) (l:List Ent) (m:List Hr):Prop:=UR w b l m∧w.frozen? ⟨b,0,none⟩=false
theorem URF.below {w w':World} {b:Nat} {l:List Ent} {m:List Hr} (h:URF w b l m) (hB:Below w.heap.size w w'):URF w' b l m:=by
 obtain ⟨h1,h2⟩:=h
 refine ⟨h1.below hB,?_⟩
 obtain ⟨A,c,A',c',h0,-⟩:=h1
 exact (World.frozen?_of_block (hB.block b (block_lt_of_cell h0))).trans h2
set_option maxHeartbeats 16000000 in
theorem q9new_any (A:Option Addr) (n0 c:Nat) (L:List Ent) (A':Option Addr) (n1 c':Nat) (m:List Hr) (w:World) (h:rdEnts w (lt_ w.heap.size) L [.slice A n0 c]) (h':rdHrs w (lt_ w.heap.size) m [.slice A' n1 c']) (hz:∀x ∈ L,Sz x) (hz':∀y ∈ m,Sz y.e) (hl:L.length≤90) (hm:m.length≤90) :
  Calls Tryz.prog 13 #[.slice A n0 c,.slice A' n1 c'] w fun e w'=>NewU w' L m e∧Below w.heap.size w w':=by
 have mixed:Tryz.prog.follows .mixedOrders=true:=by kernel_rfl
 obtain ⟨rfl,hnc,hcm,-⟩:=rdEnts_at h
 obtain ⟨rfl,hnc',hcm',-⟩:=rdHrs_at h'
 have hcx:c≤9223372036854775807:=hcm
 have hcy:c'≤9223372036854775807:=hcm'
 have KR:=Lib.hid (fun (x:Ent) (A1:Option Addr) (c1:Nat) (A2:Option Addr) (c2:Nat) (A3:Option Addr) (c3:Nat) (A4:Option Addr) (c4:Nat) (W:World) hx hz=>q6right_any q3name_any q4r_atom q4right_any x A1 c1 A2 c2 A3 c3 A4 c4 W hx hz)
 have K7:=Lib.hid (q7right_any KR.out A' m.length c' m w h' hz')
 have HH:=Lib.hid (fun (W:World) (hb:Below w.heap.size w W)=>(rdEnts_at (rdEnts_good.below h hb)).2.2.2)
 have HM:=Lib.hid (fun (W:World) (hb:Below w.heap.size w W)=>(rdHrs_at (rdHrs_good.below h' hb)).2.2.2)
 have HZ:=Lib.hid hz
 have H':=Lib.hid h'
 have HLN:=Lib.hid hl
 have HMN:=Lib.hid hm
 clear h h' hcm hcm' hz hz' hl hm
 go_enter Tryz.func13,Tryz.ntmps13
 go_wp2_with fail
 refine K7.out.mono ?_
 rintro e w1 ⟨rfl,hb⟩
 have B1:=Lib.hid hb
 clear hb K7
 cases hR:rightH m
 ·have X:=Lib.hid (show ¬(L.all rgtE=true∧rightH m=true) by rw [hR];exact fun q=>by cases q.2)
  clear hR
  go_wp2
  go_ret2
  exact ⟨⟨fun _=>rfl,fun q=>absurd q X.out,fun q=>absurd q X.out⟩,B1.out⟩
 have HR:=Lib.hid hR
 clear hR
 obtain ⟨w2,hw2⟩:∃W,W=w1.alloc (.cells #[.slice none 0 0,.slice A' m.length c'] 40):=⟨_,rfl⟩
 have hb2:Below w1.heap.size w1 w2:=by rw [hw2];exact (Below.refl _ w1).alloc (Nat.le_refl _) _
 have hf2:w2.frozen? ⟨w1.heap.size,0,none⟩=false:=by rw [hw2];simp [go_sem]
 have hc0:w2.cell? ⟨w1.heap.size,0,none⟩=some (.slice none 0 0):=by rw [hw2];simp [go_sem]
 have hc1:w2.cell? ⟨w1.heap.size,1,none⟩=some (.slice A' m.length c'):=by rw [hw2];simp [go_sem]
 have U0:=Lib.hid (show URF w2 w1.heap.size [] m from ⟨⟨none,0,A',c',hc0,hc1,rdRow_nil _ _,rdHrs_good.both H'.out (fun k hk=>(bel_in B1.out hb2).block k hk) (fun k hk=>⟨Nat.lt_of_lt_of_le hk (bel_in B1.out hb2).size,fun e=>by have:=B1.out.size;unfold lt_ at hk;omega⟩)⟩,hf2⟩)
 have B2:=Lib.hid hb2
 have SW:=Lib.hid (show w1.heap.size≤w2.heap.size by have:=hb2.size;omega)
 clear hb2 hf2 hc0 hc1
 go_wp2_with fail
 rw [←hw2]
 clear hw2
 obtain ⟨b,hbb⟩:∃b,b=w1.heap.size:=⟨_,rfl⟩
 rw [←hbb] at U0 SW
 rw [←hbb]
 have HBB:=Lib.hid hbb
 clear hbb
 go_wp2
 go_loopw [8] (fun i wr=>∃k:Nat,k≤m.length∧i=.int .i64 k∧URF wr b (((m.map fun y=>y.e).take k).foldl putU []) m∧Below w1.heap.size w1 wr∧b≤wr.heap.size) (fun i _=>m.length - (intOf i).toNat)
 case atStart=>exact ⟨0,Nat.zero_le _,rfl,U0.out,B2.out,SW.out⟩
 case round=>
  obtain ⟨k,hk,rfl,hu,hb,hs⟩:=hrel
  have HB:=Lib.hid hb
  have HU:=Lib.hid hu
  have HS:=Lib.hid hs
  clear hu hb hs
  by_cases hlt:k < m.length
  ·obtain ⟨ad,A1,c1,A2,c2,A3,c3,A4,c4,rfl,had,hv,g0,g1,g2,g3,g4,g5,-,-⟩:=HM.out wr (B1.out.trans (HB.out.mono B1.out.size)) k hlt
   have i0:(0:Int)≤(k:Int):=by omega
   have i1:(k:Int) < (m.length:Int):=by omega
   have ST:=Lib.hid (show ((m.map fun y=>y.e).take (k+1)).foldl putU []=putU (((m.map fun y=>y.e).take k).foldl putU []) m[k].e from by rw [fold_take (by rw [List.length_map];exact hlt),List.getElem_map])
   have HV:=Lib.hid (show EntV wr (fun j=>j < wr.heap.size∧j≠b) m[k].e A1 c1 A2 c2 A3 c3 A4 c4 from hv.to (fun j hj=>rfl) (fun j hj=>⟨Nat.lt_of_lt_of_le hj (bel_in B1.out HB.out).size,fun e=>by have:=B1.out.size;have:=HBB.out;unfold lt_ at hj;omega⟩))
   have LN:=Lib.hid (show (((m.map fun y=>y.e).take k).foldl putU []).length≤200 by rw [fold_put_len,List.length_take,List.length_map];have:=HMN.out;simp only [List.length_nil];omega)
   clear had hv
   generalize ((m.map fun y=>y.e).take k).foldl putU []=gl at *
   have KP:=Lib.hid (q9put_any b gl m m[k].e A1 c1 A2 c2 A3 c3 A4 c4 wr HU.out.1 HU.out.2 HV.out LN.out)
   generalize m[k].e=x at *
   go_wp2_with fail
   refine KP.out.mono ?_
   rintro e w3 ⟨rfl,hur,hg,hf⟩
   have N1:=Lib.hid (show URF w3 b (((m.map fun y=>y.e).take (k+1)).foldl putU []) m from by rw [ST.out];exact ⟨hur,hf⟩)
   have N2:=Lib.hid (show Below w1.heap.size w1 w3 from HB.out.grown hg HB.out.size (fun j hj=>by cases hj;rw [HBB.out];exact Nat.le_refl _))
   have N3:=Lib.hid (show b≤w3.heap.size from Nat.le_trans HS.out hg.size)
   clear hur hg hf KP
   go_wp2
   go_roundw
   case rel=>exact ⟨k+1,by omega,by go_num,N1.out,N2.out,N3.out⟩
   case measure=>simp [intOf];omega
  ·obtain rfl:k=m.length:=by omega
   have i0:¬(m.length:Int) < (m.length:Int):=by omega
   have HU0:=Lib.hid (show URF wr b ((m.map fun y=>y.e).foldl putU []) m from by
    have:=HU.out
    rwa [List.take_of_length_le (by rw [List.length_map];exact Nat.le_refl _)] at this)
   have LN0:=Lib.hid (show ((m.map fun y=>y.e).foldl putU []).length≤90 by rw [fold_put_len,List.length_map];have:=HMN.out;simp only [List.length_nil];omega)
   have EN0:=Lib.hid (show entU L (m.map fun y=>y.e)=L.foldl addU ((m.map fun y=>y.e).foldl putU []) from rfl)
   clear HU HM U0
   generalize (m.map fun y=>y.e).foldl putU []=HE at *
   obtain ⟨wa,hwa⟩:∃W,W=wr:=⟨_,rfl⟩
   rw [←hwa] at HB HU0 HS ⊢
   clear hwa
   go_wp2
   go_loopw [9] (fun i wr=>∃k:Nat,k≤L.length∧i=.int .i64 k∧Hid ((L.take k).all rgtE=true)∧URF wr b HE m∧Below w1.heap.size w1 wr∧b≤wr.heap.size) (fun i _=>L.length - (intOf i).toNat)
   case atStart=>exact ⟨0,Nat.zero_le _,rfl,Lib.hid rfl,HU0.out,HB.out,HS.out⟩
   case round=>
    obtain ⟨k,hk,rfl,HA,hu,hb,hs⟩:=hrel
    have HB:=Lib.hid hb
    have HU:=Lib.hid hu
    have HS:=Lib.hid hs
    clear hu hb hs
    by_cases hlt:k < L.length
    ·obtain ⟨ad,A1,c1,A2,c2,A3,c3,A4,c4,rfl,had,hv,g0,g1,g2,g3,g4,g5⟩:=HH.out wr (B1.out.trans (HB.out.mono B1.out.size)) k hlt
     have i0:(0:Int)≤(k:Int):=by omega
     have i1:(k:Int) < (L.length:Int):=by omega
     have SP:=Lib.hid (fun hf=>all_stop6 (f:=rgtE) hlt hf)
     have ST:=Lib.hid (fun hf=>all_step6 (f:=rgtE) hlt HA.out hf)
     have K:=Lib.hid (KR.out L[k] A1 c1 A2 c2 A3 c3 A4 c4 wr (hv.up (bel_in B1.out HB.out).size) (HZ.out _ (List.getElem_mem hlt)))
     clear had hv HA
     generalize hrb:rgtE L[k]=rb at *
     generalize L[k]=x at *
     go_wp2_with fail
     refine K.out.mono ?_
     rintro e w3 ⟨rfl,hb⟩
     have N1:=Lib.hid (HU.out.below (hb.mono (Nat.le_refl _)))
     have N2:=Lib.hid (HB.out.trans (hb.mono HB.out.size))
     have N3:=Lib.hid (show b≤w3.heap.size from Nat.le_trans HS.out hb.size)
     clear hb K hrb
     cases rb
     ·have X:=Lib.hid (show ¬(L.all rgtE=true∧rightH m=true) from fun q=>by rw [SP.out rfl] at q;cases q.1)
      clear SP ST
      go_wp2
      go_ret2
      exact ⟨⟨fun _=>rfl,fun q=>absurd q X.out,fun q=>absurd q X.out⟩,B1.out.trans (N2.out.mono B1.out.size)⟩
     ·have NX:=Lib.hid (ST.out rfl)
      clear SP ST
      go_wp2
      go_roundw
      case rel=>exact ⟨k+1,by omega,by go_num,NX,N1.out,N2.out,N3.out⟩
      case measure=>simp [intOf];omega
    ·obtain rfl:k=L.length:=by omega
     have i0:¬(L.length:Int) < (L.length:Int):=by omega
     have HOK:=Lib.hid (show L.all rgtE=true∧rightH m=true from ⟨by have:=HA.out;rwa [List.take_length] at this,HR.out⟩)
     clear HU0 HA KR HZ
     obtain ⟨wb,hwb⟩:∃W,W=wr:=⟨_,rfl⟩
     rw [←hwb] at HB HU HS ⊢
     clear hwb
     go_wp2
     go_loopw [11] (fun i wr=>∃k:Nat,k≤L.length∧i=.int .i64 k∧URF wr b ((L.take k).foldl addU HE) m∧Below w1.heap.size w1 wr∧b≤wr.heap.size) (fun i _=>L.length - (intOf i).toNat)
     case atStart=>exact ⟨0,Nat.zero_le _,rfl,HU.out,HB.out,HS.out⟩
     case round=>
      obtain ⟨k,hk,rfl,hu,hb,hs⟩:=hrel
      have HB:=Lib.hid hb
      have HU:=Lib.hid hu
      have HS:=Lib.hid hs
      clear hu hb hs
      by_cases hlt:k < L.length
      ·obtain ⟨ad,A1,c1,A2,c2,A3,c3,A4,c4,rfl,had,hv,g0,g1,g2,g3,g4,g5⟩:=HH.out wr (B1.out.trans (HB.out.mono B1.out.size)) k hlt
       have i0:(0:Int)≤(k:Int):=by omega
       have i1:(k:Int) < (L.length:Int):=by omega
       have ST:=Lib.hid (show (L.take (k+1)).foldl addU HE=addU ((L.take k).foldl addU HE) L[k] from fold_take hlt)
       have HV:=Lib.hid (show EntV wr (fun j=>j < wr.heap.size∧j≠b) L[k] A1 c1 A2 c2 A3 c3 A4 c4 from hv.to (fun j hj=>rfl) (fun j hj=>⟨Nat.lt_of_lt_of_le hj (bel_in B1.out HB.out).size,fun e=>by have:=B1.out.size;have:=HBB.out;unfold lt_ at hj;omega⟩))
       have LN:=Lib.hid (show ((L.take k).foldl addU HE).length≤200 from Nat.le_trans (fold_addU_len _ _) (by rw [List.length_take];have:=HLN.out;have:=LN0.out;omega))
       have AP:=Lib.hid (add9_place (L:=(L.take k).foldl addU HE) (e:=L[k]))
       have KQ:=Lib.hid (fun (W:World) (hb:Below wr.heap.size wr W)=>q9place_any b ((L.take k).foldl addU HE) m L[k].n L[k].v W (HU.out.below hb).1)
       generalize (L.take k).foldl addU HE=gl at *
       generalize hpl:plU L[k].n L[k].v gl 0=pl at *
       have KP:=Lib.hid (fun (W:World) (hb:Below wr.heap.size wr W)=>q9put_any b gl m L[k] A1 c1 A2 c2 A3 c3 A4 c4 W (HU.out.below hb).1 (HU.out.below hb).2 (HV.out.to (fun j hj=>hb.block j hj.1) (fun j hj=>⟨Nat.lt_of_lt_of_le hj.1 hb.size,hj.2⟩)) LN.out)
       have y0:=fun dd os=>cell_regrown (w:=wr) g0 dd os
       have y1:=fun dd os=>cell_regrown (w:=wr) g1 dd os
       have YK:=Lib.hid (fun (W:World) (hb:Below wr.heap.size wr W)=>And.intro (keep6 hb g0) (And.intro (keep6 hb g1) (And.intro (keep6 hb g2) (And.intro (keep6 hb g3) (And.intro (keep6 hb g4) (keep6 hb g5))))))
       have K1:=Lib.hid (fun dd os=>(KQ.out (grow (redrawn wr dd) os) (below_regrown wr dd os)).mono (fun e w' hh=>And.intro hh.1 (hh.2.below (grow (redrawn wr dd) os).heap.size)))
       have BD:=Lib.hid (fun dd os=>below_regrown wr dd os)
       clear had hv hpl HV LN KQ g0 g1 g2 g3 g4 g5
       generalize L[k]=x at *
       by_cases hp:pl < 0
       ·go_wp2_with fail
        refine wp_region_quiet_below mixed (by kernel_rfl) ?_
        repeat (go_big_quiet_step (first|(go_at_call 47;refine Calls.regrown_of (K1.out _ _))))
        refine wpQuiet_nil ?_
        intro W3 hw3
        have BW3:=Lib.hid (show Below wr.heap.size wr W3 from by obtain ⟨pp,e⟩:=hw3;rw [e];exact BD.out pp.d pp.os)
        clear hw3 BD y0 y1 K1
        obtain ⟨g0,g1,g2,g3,g4,g5⟩:=YK.out W3 BW3.out
        go_wp2_with fail
        refine (KP.out W3 BW3.out).mono ?_
        rintro e w3 ⟨rfl,hur,hg,hf⟩
        have N1:=Lib.hid (show URF w3 b ((L.take (k+1)).foldl addU HE) m from by rw [ST.out,AP.out.1 hp];exact ⟨hur,hf⟩)
        have N2:=Lib.hid (show Below w1.heap.size w1 w3 from (HB.out.trans (BW3.out.mono HB.out.size)).grown hg (Nat.le_trans HB.out.size BW3.out.size) (fun j hj=>by cases hj;rw [HBB.out];exact Nat.le_refl _))
        have N3:=Lib.hid (show b≤w3.heap.size from Nat.le_trans (Nat.le_trans HS.out BW3.out.size) hg.size)
        clear hur hg hf KP g0 g1 g2 g3 g4 g5
        go_wp2
        go_roundw
        case rel=>exact ⟨k+1,by omega,by go_num,N1.out,N2.out,N3.out⟩
        case measure=>simp [intOf];omega
       ·go_wp2_with fail
        refine wp_region_quiet_below mixed (by kernel_rfl) ?_
        repeat (go_big_quiet_step (first|(go_at_call 47;refine Calls.regrown_of (K1.out _ _))))
        refine wpQuiet_nil ?_
        intro W3 hw3
        have BW3:=Lib.hid (show Below wr.heap.size wr W3 from by obtain ⟨pp,e⟩:=hw3;rw [e];exact BD.out pp.d pp.os)
        have N1:=Lib.hid (show URF W3 b ((L.take (k+1)).foldl addU HE) m from by rw [ST.out,AP.out.2 hp];exact HU.out.below BW3.out)
        have N2:=Lib.hid (show Below w1.heap.size w1 W3 from HB.out.trans (BW3.out.mono HB.out.size))
        have N3:=Lib.hid (show b≤W3.heap.size from Nat.le_trans HS.out BW3.out.size)
        clear hw3 BD y0 y1 K1 KP
        go_wp2
        go_roundw
        case rel=>exact ⟨k+1,by omega,by go_num,N1.out,N2.out,N3.out⟩
        case measure=>simp [intOf];omega
      ·obtain rfl:k=L.length:=by omega
       have i0:¬(L.length:Int) < (L.length:Int):=by omega
       have UE:=Lib.hid (show UR wr b (entU L (m.map fun y=>y.e)) m from by
        have:=HU.out.1
        rw [List.take_length] at this
        rw [EN0.out];exact this)
       clear HU HH
       obtain ⟨U,hU⟩:∃U,U=entU L (m.map fun y=>y.e):=⟨_,rfl⟩
       rw [←hU] at UE
       have EU:=Lib.hid hU
       clear hU
       obtain ⟨Au,cu,Av,cv,u0,-⟩:=id UE.out
       by_cases hn:64 < U.length
       ·have hn':(64:Int) < (U.length:Int):=by omega
        have HN:=Lib.hid hn
        clear hn
        go_wp2
        go_ret2
        exact ⟨⟨fun q=>absurd HOK.out q,fun _ _=>rfl,fun _ q=>absurd (by rw [←EU.out];exact HN.out) q⟩,B1.out.trans (HB.out.mono B1.out.size)⟩
       ·have hn':¬(64:Int) < (U.length:Int):=by omega
        have HN:=Lib.hid hn
        clear hn
        go_wp2
        go_ret2
        exact ⟨⟨fun q=>absurd HOK.out q,fun _ q=>absurd q (by rw [←EU.out];exact HN.out),fun _ _=>⟨b,rfl,by rw [←EU.out];exact UE.out⟩⟩,B1.out.trans (HB.out.mono B1.out.size)⟩
end Go.Proofs.YthchfkhpmgkghaaGreatDoor
