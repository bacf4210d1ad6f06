/- What the laws rest on: Rel3, VerShown, Rel4, D4d, D4m, P6a, P6b, N9b, P6c, D4k. -/
import Derived.RangeFuncNested
import Derived.RangeFuncBound
import Derived.RangeFuncCalls
import Derived.RangeFuncLeaves
import Derived.Shelf.Abstract
import Derived.Shelf.RegionOpen
import Derived.TacticsInMore
import Derived.LoopNIn
import Derived.LoopIn
import Derived.Test.YthchfkhpmgkghaaGreatDoorQBFZA
set_option maxRecDepth 100000
set_option linter.unusedVariables false
set_option linter.unusedSimpArgs false
namespace Go.Proofs.YthchfkhpmgkghaaGreatDoor
open Go.RowKit
structure EnvR (w:World):Prop where
 env:Env w
 sgn:Sgn w
theorem EnvR.below {w w':World} (E:EnvR w) (h:Below w.heap.size w w'):EnvR w':=⟨E.env.below h,E.sgn.below h⟩
theorem EnvR.alloc {w:World} (E:EnvR w) (o:Obj):EnvR (w.alloc o):=E.below ((Below.refl _ w).alloc (Nat.le_refl _) _)
theorem vparse_open3 (s:ByteArray):∃(E e:Int) (U R:ByteArray),E=parse1 (B s)∧e=parseE (B s)∧B U=parse2 (B s)∧B R=parse3 (B s)∧U.size≤60∧R.size≤60∧
  ∀w,Env w→Calls Tryz.prog 126 #[.string s] w fun e' w'=>e'=.returned (.tuple #[.agg #[.int .i64 E,.string U,.string R],.int .i64 e])∧Below w.heap.size w w':=
 ⟨_,_,_,_,rfl,rfl,B_mk (parse2_lt s),B_mk (parse3_lt s),by rw [size_mk];exact parse2_len _,by rw [size_mk];exact parse3_len _,fun w E=>vparse_any s w E⟩
theorem printL_lt (e:Int) (u r:ByteArray):∀c ∈ printL e (B u) (B r),c < 256:=by
 unfold printL
 split
 ·exact textL_lt _ u r
 ·intro c hc;cases hc
theorem rprinted_any (s:ByteArray) (w:World) (E:Env w):Calls Tryz.prog 124 #[.string s] w fun e' w'=>e'=.returned (.bool (prB (B s)))∧Below w.heap.size w w':=by
 obtain ⟨ep,e,U,R,h1,h2,h3,h4,z2,z3,cp⟩:=vparse_open3 s
 have X:prB (B s)=(decide (e=0)&&decide (printL ep (B U) (B R)=B s)):=by unfold prB;rw [h1,h2,h3,h4]
 have CP:=Lib.hid cp
 have CT:=Lib.hid (fun w E=>vprint_any ep U R w (by omega) (by omega) E)
 have hst:=strEq (printL ep (B U) (B R)) s (printL_lt ep U R)
 have HE:=Lib.hid E
 clear cp E h1 h2 h3 h4
 by_cases he:e=0
 ·have t1:(e==0)=true:=by rw [beq_iff_eq];exact he
  rw [decide_eq_true he,Bool.true_and] at X
  rw [←X] at hst
  generalize prB (B s)=b at *
  generalize mk (printL ep (B U) (B R))=T at *
  clear X
  go_enter Tryz.func124,Tryz.ntmps124
  go_wp2_with fail
  refine (CP.out _ HE.out).mono ?_
  rintro e' w1 ⟨rfl,hb1⟩
  have B1:=Lib.hid (show Below w.heap.size w (w1.alloc (.cells #[.int .i64 ep,.string U,.string R] 144)) from hb1.alloc hb1.size _)
  clear hb1
  go_wp2_with fail
  refine (CT.out _ (HE.out.below B1.out)).mono ?_
  rintro e' w2 ⟨rfl,hb2⟩
  have B2:=Lib.hid (bel_2 B1.out hb2)
  clear hb2
  go_wp2
  go_ret
  exact ⟨rfl,B2.out⟩
 ·have t1:(e==0)=false:=by rw [beq_eq_false_iff_ne];exact he
  rw [decide_eq_false he,Bool.false_and] at X
  have XX:=Lib.hid X
  clear X hst CT he
  go_enter Tryz.func124,Tryz.ntmps124
  go_wp2_with fail
  refine (CP.out _ HE.out).mono ?_
  rintro e' w1 ⟨rfl,hb1⟩
  have B1:=Lib.hid (show Below w.heap.size w (w1.alloc (.cells #[.int .i64 ep,.string U,.string R] 144)) from hb1.alloc hb1.size _)
  clear hb1
  go_wp2
  go_ret
  exact ⟨by rw [XX.out];rfl,B1.out⟩
theorem rholds_zero (a b:ByteArray) (w:World):Calls Tryz.prog 92 #[.int .i64 0,.string a,.string b] w fun e' w'=>e'=.returned (.bool (holdB 0 (B a) (B b)))∧Below w.heap.size w w':=by
 have X:=Lib.hid (show holdB 0 (B a) (B b)=true from rfl)
 go_enter Tryz.func92,Tryz.ntmps92
 go_wp2
 go_ret
 exact ⟨by rw [X.out];rfl,Below.refl _ _⟩
theorem rholds_any (op:Int) (a b:ByteArray) (w:World) (E:Env w):Calls Tryz.prog 92 #[.int .i64 op,.string a,.string b] w fun e' w'=>e'=.returned (.bool (holdB op (B a) (B b)))∧Below w.heap.size w w':=by
 by_cases h0:op=0
 ·subst h0;exact rholds_zero a b w
 obtain ⟨ep,e,U,R,h1,h2,h3,h4,z2,z3,ca⟩:=vparse_open3 a
 obtain ⟨fp,f,V,S,i1,i2,i3,i4,y2,y3,cb⟩:=vparse_open3 b
 have X:holdB op (B a) (B b)=(decide (e=0)&&decide (f=0)&&opB op (if e≠0 then (if f≠0 then 0 else -1) else if f≠0 then 1 else cmpV ep (B U) (B R) fp (B V) (B S))):=by
  unfold holdB orderV;rw [decide_eq_false h0,Bool.false_or,h1,h2,h3,h4,i1,i2,i3,i4]
 have CA:=Lib.hid ca
 have CB:=Lib.hid cb
 have CV:=Lib.hid (fun w=>vcompare_any ep fp U R V S w (by omega) (by omega) (by omega) (by omega))
 have HE:=Lib.hid E
 have t0:(op==0)=false:=by rw [beq_eq_false_iff_ne];exact h0
 clear ca cb E h1 h2 h3 h4 i1 i2 i3 i4
 generalize holdB op (B a) (B b)=O at *
 generalize cmpV ep (B U) (B R) fp (B V) (B S)=C at *
 by_cases he:e=0
 ·have t1:(e != 0)=false:=by rw [bne_eq_false_iff_eq];exact he
  by_cases hf:f=0
  ·have t2:(f != 0)=false:=by rw [bne_eq_false_iff_eq];exact hf
   rw [decide_eq_true he,decide_eq_true hf,Bool.true_and,Bool.true_and,if_neg (by simp [he]),if_neg (by simp [hf])] at X
   have XX:=Lib.hid X
   clear X he hf h0
   by_cases o1:op=1
   ·subst o1
    go_enter Tryz.func92,Tryz.ntmps92
    go_wp2_with fail
    refine (CA.out _ HE.out).mono ?_
    rintro e' w1 ⟨rfl,hb1⟩
    have B1:=Lib.hid (show Below w.heap.size w (w1.alloc (.cells #[.int .i64 ep,.string U,.string R] 144)) from hb1.alloc hb1.size _)
    have s1:=hb1.size
    clear hb1
    go_wp2_with fail
    refine (CB.out _ (HE.out.below B1.out)).mono ?_
    rintro e' w2 ⟨rfl,hb2⟩
    obtain ⟨c0,c1,c2,s2⟩:=box_cells hb2
    have B2:=Lib.hid (show Below w.heap.size w (w2.alloc (.cells #[.int .i64 fp,.string V,.string S] 144)) from (bel_2 B1.out hb2).alloc (bel_2 B1.out hb2).size _)
    clear hb2
    have s3:w1.heap.size < w2.heap.size:=by omega
    go_wp2_with fail
    refine (CV.out _).mono ?_
    rintro e' w3 ⟨rfl,hb3⟩
    have B3:=Lib.hid (bel_2 B2.out hb3)
    clear hb3
    go_wp2
    go_ret
    exact ⟨by rw [XX.out];rfl,B3.out⟩
   by_cases o2:op=2
   ·subst o2
    go_enter Tryz.func92,Tryz.ntmps92
    go_wp2_with fail
    refine (CA.out _ HE.out).mono ?_
    rintro e' w1 ⟨rfl,hb1⟩
    have B1:=Lib.hid (show Below w.heap.size w (w1.alloc (.cells #[.int .i64 ep,.string U,.string R] 144)) from hb1.alloc hb1.size _)
    have s1:=hb1.size
    clear hb1
    go_wp2_with fail
    refine (CB.out _ (HE.out.below B1.out)).mono ?_
    rintro e' w2 ⟨rfl,hb2⟩
    obtain ⟨c0,c1,c2,s2⟩:=box_cells hb2
    have B2:=Lib.hid (show Below w.heap.size w (w2.alloc (.cells #[.int .i64 fp,.string V,.string S] 144)) from (bel_2 B1.out hb2).alloc (bel_2 B1.out hb2).size _)
    clear hb2
    have s3:w1.heap.size < w2.heap.size:=by omega
    go_wp2_with fail
    refine (CV.out _).mono ?_
    rintro e' w3 ⟨rfl,hb3⟩
    have B3:=Lib.hid (bel_2 B2.out hb3)
    clear hb3
    go_wp2
    go_ret
    exact ⟨by rw [XX.out];rfl,B3.out⟩
   by_cases o3:op=3
   ·subst o3
    go_enter Tryz.func92,Tryz.ntmps92
    go_wp2_with fail
    refine (CA.out _ HE.out).mono ?_
    rintro e' w1 ⟨rfl,hb1⟩
    have B1:=Lib.hid (show Below w.heap.size w (w1.alloc (.cells #[.int .i64 ep,.string U,.string R] 144)) from hb1.alloc hb1.size _)
    have s1:=hb1.size
    clear hb1
    go_wp2_with fail
    refine (CB.out _ (HE.out.below B1.out)).mono ?_
    rintro e' w2 ⟨rfl,hb2⟩
    obtain ⟨c0,c1,c2,s2⟩:=box_cells hb2
    have B2:=Lib.hid (show Below w.heap.size w (w2.alloc (.cells #[.int .i64 fp,.string V,.string S] 144)) from (bel_2 B1.out hb2).alloc (bel_2 B1.out hb2).size _)
    clear hb2
    have s3:w1.heap.size < w2.heap.size:=by omega
    go_wp2_with fail
    refine (CV.out _).mono ?_
    rintro e' w3 ⟨rfl,hb3⟩
    have B3:=Lib.hid (bel_2 B2.out hb3)
    clear hb3
    go_wp2
    go_ret
    exact ⟨by rw [XX.out];rfl,B3.out⟩
   by_cases o4:op=4
   ·subst o4
    go_enter Tryz.func92,Tryz.ntmps92
    go_wp2_with fail
    refine (CA.out _ HE.out).mono ?_
    rintro e' w1 ⟨rfl,hb1⟩
    have B1:=Lib.hid (show Below w.heap.size w (w1.alloc (.cells #[.int .i64 ep,.string U,.string R] 144)) from hb1.alloc hb1.size _)
    have s1:=hb1.size
    clear hb1
    go_wp2_with fail
    refine (CB.out _ (HE.out.below B1.out)).mono ?_
    rintro e' w2 ⟨rfl,hb2⟩
    obtain ⟨c0,c1,c2,s2⟩:=box_cells hb2
    have B2:=Lib.hid (show Below w.heap.size w (w2.alloc (.cells #[.int .i64 fp,.string V,.string S] 144)) from (bel_2 B1.out hb2).alloc (bel_2 B1.out hb2).size _)
    clear hb2
    have s3:w1.heap.size < w2.heap.size:=by omega
    go_wp2_with fail
    refine (CV.out _).mono ?_
    rintro e' w3 ⟨rfl,hb3⟩
    have B3:=Lib.hid (bel_2 B2.out hb3)
    clear hb3
    go_wp2
    go_ret
    exact ⟨by rw [XX.out];rfl,B3.out⟩
   by_cases o5:op=5
   ·subst o5
    go_enter Tryz.func92,Tryz.ntmps92
    go_wp2_with fail
    refine (CA.out _ HE.out).mono ?_
    rintro e' w1 ⟨rfl,hb1⟩
    have B1:=Lib.hid (show Below w.heap.size w (w1.alloc (.cells #[.int .i64 ep,.string U,.string R] 144)) from hb1.alloc hb1.size _)
    have s1:=hb1.size
    clear hb1
    go_wp2_with fail
    refine (CB.out _ (HE.out.below B1.out)).mono ?_
    rintro e' w2 ⟨rfl,hb2⟩
    obtain ⟨c0,c1,c2,s2⟩:=box_cells hb2
    have B2:=Lib.hid (show Below w.heap.size w (w2.alloc (.cells #[.int .i64 fp,.string V,.string S] 144)) from (bel_2 B1.out hb2).alloc (bel_2 B1.out hb2).size _)
    clear hb2
    have s3:w1.heap.size < w2.heap.size:=by omega
    go_wp2_with fail
    refine (CV.out _).mono ?_
    rintro e' w3 ⟨rfl,hb3⟩
    have B3:=Lib.hid (bel_2 B2.out hb3)
    clear hb3
    go_wp2
    go_ret
    exact ⟨by rw [XX.out];rfl,B3.out⟩
   have ZZ:opB op C=false:=by unfold opB;rw [if_neg o1,if_neg o2,if_neg o3,if_neg o4,if_neg o5]
   rw [ZZ] at XX
   have u1:(op==1)=false:=by rw [beq_eq_false_iff_ne];exact o1
   have u2:(op==2)=false:=by rw [beq_eq_false_iff_ne];exact o2
   have u3:(op==3)=false:=by rw [beq_eq_false_iff_ne];exact o3
   have u4:(op==4)=false:=by rw [beq_eq_false_iff_ne];exact o4
   have u5:(op==5)=false:=by rw [beq_eq_false_iff_ne];exact o5
   clear o1 o2 o3 o4 o5 ZZ
   go_enter Tryz.func92,Tryz.ntmps92
   go_wp2_with fail
   refine (CA.out _ HE.out).mono ?_
   rintro e' w1 ⟨rfl,hb1⟩
   have B1:=Lib.hid (show Below w.heap.size w (w1.alloc (.cells #[.int .i64 ep,.string U,.string R] 144)) from hb1.alloc hb1.size _)
   have s1:=hb1.size
   clear hb1
   go_wp2_with fail
   refine (CB.out _ (HE.out.below B1.out)).mono ?_
   rintro e' w2 ⟨rfl,hb2⟩
   obtain ⟨c0,c1,c2,s2⟩:=box_cells hb2
   have B2:=Lib.hid (show Below w.heap.size w (w2.alloc (.cells #[.int .i64 fp,.string V,.string S] 144)) from (bel_2 B1.out hb2).alloc (bel_2 B1.out hb2).size _)
   clear hb2
   have s3:w1.heap.size < w2.heap.size:=by omega
   go_wp2_with fail
   refine (CV.out _).mono ?_
   rintro e' w3 ⟨rfl,hb3⟩
   have B3:=Lib.hid (bel_2 B2.out hb3)
   clear hb3
   go_wp2
   go_ret
   exact ⟨by rw [XX.out];rfl,B3.out⟩
  ·have t2:(f != 0)=true:=by rw [bne_iff_ne];exact hf
   rw [decide_eq_false hf,Bool.and_false,Bool.false_and] at X
   have XX:=Lib.hid X
   clear X he hf h0
   go_enter Tryz.func92,Tryz.ntmps92
   go_wp2_with fail
   refine (CA.out _ HE.out).mono ?_
   rintro e' w1 ⟨rfl,hb1⟩
   have B1:=Lib.hid (show Below w.heap.size w (w1.alloc (.cells #[.int .i64 ep,.string U,.string R] 144)) from hb1.alloc hb1.size _)
   have s1:=hb1.size
   clear hb1
   go_wp2_with fail
   refine (CB.out _ (HE.out.below B1.out)).mono ?_
   rintro e' w2 ⟨rfl,hb2⟩
   obtain ⟨c0,c1,c2,s2⟩:=box_cells hb2
   have B2:=Lib.hid (show Below w.heap.size w (w2.alloc (.cells #[.int .i64 fp,.string V,.string S] 144)) from (bel_2 B1.out hb2).alloc (bel_2 B1.out hb2).size _)
   clear hb2
   go_wp2
   go_ret
   exact ⟨by rw [XX.out];rfl,B2.out⟩
 ·have t1:(e != 0)=true:=by rw [bne_iff_ne];exact he
  rw [decide_eq_false he,Bool.false_and,Bool.false_and] at X
  have XX:=Lib.hid X
  clear X he h0
  go_enter Tryz.func92,Tryz.ntmps92
  go_wp2_with fail
  refine (CA.out _ HE.out).mono ?_
  rintro e' w1 ⟨rfl,hb1⟩
  have B1:=Lib.hid (show Below w.heap.size w (w1.alloc (.cells #[.int .i64 ep,.string U,.string R] 144)) from hb1.alloc hb1.size _)
  have s1:=hb1.size
  clear hb1
  go_wp2_with fail
  refine (CB.out _ (HE.out.below B1.out)).mono ?_
  rintro e' w2 ⟨rfl,hb2⟩
  obtain ⟨c0,c1,c2,s2⟩:=box_cells hb2
  have B2:=Lib.hid (show Below w.heap.size w (w2.alloc (.cells #[.int .i64 fp,.string V,.string S] 144)) from (bel_2 B1.out hb2).alloc (bel_2 B1.out hb2).size _)
  clear hb2
  go_wp2
  go_ret
  exact ⟨by rw [XX.out];rfl,B2.out⟩
theorem p1:parseV ⟨#[49,58,50,46,48,45,51]⟩=.tuple #[.agg #[.int .i64 1,.string ⟨#[50,46,48]⟩,.string ⟨#[51]⟩],.int .i64 0]:=by kernel_rfl
theorem p2:parseV ⟨#[50,45,49,45,51]⟩=.tuple #[.agg #[.int .i64 0,.string ⟨#[50,45,49]⟩,.string ⟨#[51]⟩],.int .i64 0]:=by kernel_rfl
theorem q1:cmpS (B ⟨#[49,46,48,126,114,99,49]⟩) (B ⟨#[49,46,48]⟩)=-1:=by kernel_rfl
theorem q2:cmpS (B ⟨#[49,46,49,48]⟩) (B ⟨#[49,46,57]⟩)=1:=by kernel_rfl
theorem empty_is (v:ByteArray):v.toList.isEmpty=decide (B v=[]):=by
 rw [toList_data]
 unfold B
 cases h:v.data.toList<;>simp
theorem sign_some {op:Int} (h:1≤op∧op≤5):(mk (signL op)).toList.isEmpty=false:=by
 rw [mk_empty]
 have:op=1∨op=2∨op=3∨op=4∨op=5:=by omega
 rcases this with rfl|rfl|rfl|rfl|rfl<;>rfl
theorem sign_none {op:Int} (h:¬(1≤op∧op≤5)):(mk (signL op)).toList.isEmpty=true:=by
 rw [mk_empty,signL_out (by omega)];rfl
theorem rright_any (n:ByteArray) (op:Int) (v:ByteArray) (w:World) (E:EnvR w):Calls Tryz.prog 89 #[.agg #[.string n,.int .i64 op,.string v]] w fun e' w'=>e'=.returned (.bool (rightA (B n) op (B v)))∧Below w.heap.size w w':=by
 have HE:=Lib.hid E
 clear E
 cases hn:nameB (B n)
 ·have X:=Lib.hid (show rightA (B n) op (B v)=false by unfold rightA;rw [hn];rfl)
  have KN:=Lib.hid (fun w=>rname_any n w)
  rw [hn] at KN
  clear hn
  go_enter Tryz.func89,Tryz.ntmps89
  go_wp2_with fail
  refine (KN.out _).mono ?_
  rintro e' w1 ⟨rfl,hb⟩
  have B1:=Lib.hid (bel_boxed hb)
  clear hb
  go_wp2
  go_ret
  exact ⟨by rw [X.out];rfl,B1.out⟩
 ·have KN:=Lib.hid (fun w=>rname_any n w)
  rw [hn] at KN
  by_cases h0:op=0
  ·subst h0
   have X:=Lib.hid (show v.toList.isEmpty=rightA (B n) 0 (B v) by unfold rightA;rw [hn,if_pos rfl,Bool.true_and,empty_is])
   clear hn
   go_enter Tryz.func89,Tryz.ntmps89
   go_wp2_with fail
   refine (KN.out _).mono ?_
   rintro e' w1 ⟨rfl,hb⟩
   have B1:=Lib.hid (bel_boxed hb)
   obtain ⟨c0,c1,c2,s1⟩:=box_cells hb
   clear hb
   go_wp2
   go_ret
   exact ⟨by rw [←X.out];rfl,B1.out⟩
  ·have t0:(op==0)=false:=by rw [beq_eq_false_iff_ne];exact h0
   have KS:=Lib.hid (fun w E=>rsign_any op w E)
   by_cases ho:1≤op∧op≤5
   ·have X:=Lib.hid (show rightA (B n) op (B v)=prB (B v) by unfold rightA;rw [hn,if_neg h0,Bool.true_and,decide_eq_true ho,Bool.true_and])
    have KP:=Lib.hid (fun w E=>rprinted_any v w E)
    have t1:=sign_some ho
    generalize mk (signL op)=sg at *
    clear hn h0 ho
    go_enter Tryz.func89,Tryz.ntmps89
    go_wp2_with fail
    refine (KN.out _).mono ?_
    rintro e' w1 ⟨rfl,hb⟩
    have B1:=Lib.hid (bel_boxed hb)
    obtain ⟨c0,c1,c2,s1⟩:=box_cells hb
    clear hb
    go_wp2_with fail
    refine (KS.out _ (HE.out.below B1.out).sgn).mono ?_
    rintro e' w2 ⟨rfl,rfl⟩
    go_wp2_with fail
    refine (KP.out _ (HE.out.below B1.out).env).mono ?_
    rintro e' w2 ⟨rfl,hb⟩
    have B2:=Lib.hid (bel_2 B1.out hb)
    clear hb
    go_wp2
    go_ret
    exact ⟨by rw [X.out];rfl,B2.out⟩
   ·have X:=Lib.hid (show rightA (B n) op (B v)=false by unfold rightA;rw [if_neg h0,decide_eq_false ho,Bool.false_and,Bool.and_false])
    have t1:=sign_none ho
    generalize mk (signL op)=sg at *
    clear hn h0 ho
    go_enter Tryz.func89,Tryz.ntmps89
    go_wp2_with fail
    refine (KN.out _).mono ?_
    rintro e' w1 ⟨rfl,hb⟩
    have B1:=Lib.hid (bel_boxed hb)
    obtain ⟨c0,c1,c2,s1⟩:=box_cells hb
    clear hb
    go_wp2_with fail
    refine (KS.out _ (HE.out.below B1.out).sgn).mono ?_
    rintro e' w2 ⟨rfl,rfl⟩
    go_wp2
    go_ret
    exact ⟨by rw [X.out];rfl,B1.out⟩
theorem rprov_any (n:ByteArray) (op:Int) (v gn:ByteArray) (gop:Int) (gv:ByteArray) (w:World) (E:EnvR w):Calls Tryz.prog 57 #[.agg #[.string n,.int .i64 op,.string v],.agg #[.string gn,.int .i64 gop,.string gv]] w fun e' w'=>e'=.returned (.bool (provB (B n) op (B v) (B gn) gop (B gv)))∧Below w.heap.size w w':=by
 have HE:=Lib.hid E
 clear E
 have hs:=strings_eq n gn
 have B0:=Lib.hid (show Below w.heap.size w ((w.alloc (.cells #[.string n,.int .i64 op,.string v] 62)).alloc (.cells #[.string gn,.int .i64 gop,.string gv] 62)) from ((Below.refl _ w).alloc (Nat.le_refl _) _).alloc (by simp) _)
 by_cases hn:B n=B gn
 ·rw [decide_eq_true hn] at hs
  by_cases h0:op=0
  ·have X:=Lib.hid (show provB (B n) op (B v) (B gn) gop (B gv)=true by unfold provB;rw [decide_eq_true hn,decide_eq_true h0];rfl)
   have t0:(op==0)=true:=by rw [beq_iff_eq];exact h0
   clear hn h0
   go_enter Tryz.func57,Tryz.ntmps57
   go_wp2
   go_ret
   exact ⟨by rw [X.out];rfl,B0.out⟩
  ·have t0:(op==0)=false:=by rw [beq_eq_false_iff_ne];exact h0
   by_cases h3:gop=3
   ·have X:=Lib.hid (show provB (B n) op (B v) (B gn) gop (B gv)=holdB op (B gv) (B v) by unfold provB;rw [decide_eq_true hn,decide_eq_false h0,decide_eq_true h3];rfl)
    have t3:(gop==3)=true:=by rw [beq_iff_eq];exact h3
    have KH:=Lib.hid (fun w E=>rholds_any op gv v w E)
    clear hn h0 h3
    go_enter Tryz.func57,Tryz.ntmps57
    go_wp2_with fail
    refine (KH.out _ (HE.out.below B0.out).env).mono ?_
    rintro e' w1 ⟨rfl,hb⟩
    have B1:=Lib.hid (bel_2 B0.out hb)
    clear hb
    go_wp2
    go_ret
    exact ⟨by rw [X.out];rfl,B1.out⟩
   ·have X:=Lib.hid (show provB (B n) op (B v) (B gn) gop (B gv)=false by unfold provB;rw [decide_eq_true hn,decide_eq_false h0,decide_eq_false h3];rfl)
    have t3:(gop==3)=false:=by rw [beq_eq_false_iff_ne];exact h3
    clear hn h0 h3
    go_enter Tryz.func57,Tryz.ntmps57
    go_wp2
    go_ret
    exact ⟨by rw [X.out];rfl,B0.out⟩
 ·have X:=Lib.hid (show provB (B n) op (B v) (B gn) gop (B gv)=false by unfold provB;rw [decide_eq_false hn];rfl)
  rw [decide_eq_false hn] at hs
  clear hn
  go_enter Tryz.func57,Tryz.ntmps57
  go_wp2
  go_ret
  exact ⟨by rw [X.out];rfl,B0.out⟩
theorem right_no_many {L:List (List Atm)} (h:¬L.length≤12):rightG L=false:=by unfold rightG;rw [decide_eq_false h];rfl
theorem right_stop {L:List (List Atm)} {k:Nat} (hk:k < L.length) (h:rgtOne L[k]=false):rightG L=false:=by unfold rightG;rw [all_stopL hk h];simp
theorem right_all {L:List (List Atm)} (h:(L.take L.length).all rgtOne=true):rightG L=decide (L.length≤12):=by rw [List.take_length] at h;unfold rightG;rw [h];simp
theorem rgtOne_stop {g:List Atm} {k:Nat} (hk:k < g.length) (h:rgt g[k]=false):rgtOne g=false:=by unfold rgtOne;rw [all_stopL hk h];simp
theorem rgtOne_len {g:List Atm} (h:¬(1≤g.length∧g.length≤6)):rgtOne g=false:=by
 unfold rgtOne
 rw [Bool.and_eq_false_iff,Bool.and_eq_false_iff,decide_eq_false_iff_not,decide_eq_false_iff_not];omega
theorem rgtOne_yes {g:List Atm} (h1:1≤g.length) (h2:g.length≤6) (h:(g.take g.length).all rgt=true):rgtOne g=true:=by
 rw [List.take_length] at h;unfold rgtOne;rw [decide_eq_true h1,decide_eq_true h2,h];rfl
theorem rright_atom (x:Atm) (w:World) (E:EnvR w):Calls Tryz.prog 89 #[.agg #[.string x.n,.int .i64 x.o,.string x.v]] w fun e' w'=>e'=.returned (.bool (rgt x))∧Below w.heap.size w w':=rright_any x.n x.o x.v w E
theorem atm_box {w w1:World} {T:TypeId} {x y z:Value} (h:Below (w.alloc (.cells #[x,y,z] T)).heap.size (w.alloc (.cells #[x,y,z] T)) w1):Below w.heap.size w w1:=(((Below.refl _ w).alloc (Nat.le_refl _) _).trans (h.mono (by simp)))
set_option maxHeartbeats 1000000 in
theorem rightGroup_any (A:Option Addr) (n c:Nat) (g:List Atm) (w:World) (h:rdAtms w (lt_ w.heap.size) g [.slice A n c]) (E:EnvR w) :
  Calls Tryz.prog 133 #[.slice A n c] w fun e w'=>e=.returned (.bool (rgtOne g))∧Below w.heap.size w w':=by
 obtain ⟨rfl,hnc,hcm,_⟩:=rdAtms_at h
 have hcm':c≤9223372036854775807:=hcm
 have HE:=Lib.hid E
 have HR:=Lib.hid h
 clear E h
 by_cases hl0:g.length=0
 ·have X:=Lib.hid (rgtOne_len (g:=g) (by omega))
  have t0:((g.length:Int)==0)=true:=by rw [beq_iff_eq];omega
  have HL:=Lib.hid hl0
  clear hl0
  go_enter Tryz.func133,Tryz.ntmps133
  go_wp2
  go_ret
  exact ⟨by rw [X.out];try rfl,Below.refl _ _⟩
 by_cases hl6:6 < g.length
 ·have X:=Lib.hid (rgtOne_len (g:=g) (by omega))
  have t0:((g.length:Int)==0)=false:=by rw [beq_eq_false_iff_ne];omega
  have t1:(6:Int) < g.length:=by omega
  go_enter Tryz.func133,Tryz.ntmps133
  go_wp2
  go_ret
  exact ⟨by rw [X.out];try rfl,Below.refl _ _⟩
 have t0:((g.length:Int)==0)=false:=by rw [beq_eq_false_iff_ne];omega
 have t1:¬(6:Int) < g.length:=by omega
 go_enter Tryz.func133,Tryz.ntmps133
 go_wp2
 go_loopw [4,15] (fun b i wr=>∃k:Nat,k≤g.length∧i=.int .i64 k∧(g.take k).all rgt=true∧Below w.heap.size w wr) (fun _ i _=>g.length - (intOf i).toNat)
 case atStart=>exact ⟨0,Nat.zero_le _,rfl,rfl,Below.refl _ _⟩
 case round=>
  obtain ⟨k,hk,rfl,hall,hbel⟩:=hrel
  by_cases hlt:k < g.length
  ·obtain ⟨ad,rfl,had,e0,e1,e2⟩:=(rdAtms_at (rdAtms_good.below HR.out hbel)).2.2.2 k hlt
   have T2:=Lib.hid (all_takeL rgt g k hlt)
   have Z2:=Lib.hid (rgtOne_stop (g:=g) (k:=k) hlt)
   have A2:=Lib.hid hall
   have HB:=Lib.hid hbel
   have EE:=Lib.hid (HE.out.below hbel)
   clear hall hbel
   generalize g[k]=x at *
   have K:=Lib.hid (fun w E=>rright_atom x w E)
   cases hr:rgt x
   ·have R:=Lib.hid hr
    rw [hr] at K
    clear hr
    go_wp2_with (go_at_call 89;refine (K.out _ (EE.out.alloc _)).mono ?_;rintro e w3 ⟨rfl,hb3⟩)
    go_ret
    exact ⟨by rw [Z2.out R.out];try rfl,bel2 HB.out (atm_box hb3) (Nat.le_refl _)⟩
   ·have R:=Lib.hid hr
    rw [hr] at K
    clear hr
    go_wp2_with (go_at_call 89;refine (K.out _ (EE.out.alloc _)).mono ?_;rintro e w3 ⟨rfl,hb3⟩)
    go_roundw
    case rel=>exact ⟨k+1,by omega,by go_num,by rw [T2.out,A2.out,R.out];rfl,bel2 HB.out (atm_box hb3) (Nat.le_refl _)⟩
    case measure=>simp [intOf];omega
  ·obtain rfl:k=g.length:=by omega
   have X:=Lib.hid (rgtOne_yes (g:=g) (by omega) (by omega) hall)
   clear hall
   go_wp2
   go_ret
   exact ⟨by rw [X.out];try rfl,hbel⟩
set_option maxHeartbeats 1000000 in
theorem right4_any (A:Option Addr) (n c:Nat) (L:List (List Atm)) (w:World) (h:rdGrps w (lt_ w.heap.size) L [.slice A n c]) (E:EnvR w) :
  Calls Tryz.prog 96 #[.slice A n c] w fun e w'=>e=.returned (.bool (rightG L))∧Below w.heap.size w w':=by
 obtain ⟨rfl,hnc,hcm,_⟩:=rdGrps_at h
 have hcm':c≤9223372036854775807:=hcm
 have HE:=Lib.hid E
 have HR:=Lib.hid h
 clear E h
 by_cases h12:L.length≤12
 ·have t1:¬(12:Int) < L.length:=by omega
  go_enter Tryz.func96,Tryz.ntmps96
  go_wp2
  go_loopw [4,10] (fun b i wr=>∃k:Nat,k≤L.length∧i=.int .i64 k∧(L.take k).all rgtOne=true∧Below w.heap.size w wr) (fun _ i _=>L.length - (intOf i).toNat)
  case atStart=>exact ⟨0,Nat.zero_le _,rfl,rfl,Below.refl _ _⟩
  case round=>
   obtain ⟨k,hk,rfl,hall,hbel⟩:=hrel
   by_cases hlt:k < L.length
   ·obtain ⟨ad,A',c',rfl,had,e0,e1⟩:=(rdGrps_at (rdGrps_good.below HR.out hbel)).2.2.2 k hlt
    have T2:=Lib.hid (all_takeL rgtOne L k hlt)
    have Z2:=Lib.hid (right_stop (L:=L) (k:=k) hlt)
    have A2:=Lib.hid hall
    have HB:=Lib.hid hbel
    have K:=Lib.hid (rightGroup_any _ _ _ _ _ (rdAtms_good.up e1 hbel.size) (HE.out.below hbel))
    clear hall hbel e1
    generalize L[k]=g at *
    cases hr:rgtOne g
    ·have R:=Lib.hid hr
     rw [hr] at K
     clear hr
     go_wp2_with (go_at_call 133;refine (K.out).mono ?_;rintro e w3 ⟨rfl,hb3⟩)
     go_ret
     exact ⟨by rw [Z2.out R.out];try rfl,bel2 HB.out hb3 (Nat.le_refl _)⟩
    ·have R:=Lib.hid hr
     rw [hr] at K
     clear hr
     go_wp2_with (go_at_call 133;refine (K.out).mono ?_;rintro e w3 ⟨rfl,hb3⟩)
     go_roundw
     case rel=>exact ⟨k+1,by omega,by go_num,by rw [T2.out,A2.out,R.out];rfl,bel2 HB.out hb3 (Nat.le_refl _)⟩
     case measure=>simp [intOf];omega
   ·obtain rfl:k=L.length:=by omega
    have X:=Lib.hid (show rightG L=true by rw [right_all hall,decide_eq_true h12])
    clear hall
    go_wp2
    go_ret
    exact ⟨by rw [X.out];try rfl,hbel⟩
 ·have X:=Lib.hid (right_no_many (L:=L) h12)
  have t1:(12:Int) < L.length:=by omega
  go_enter Tryz.func96,Tryz.ntmps96
  go_wp2
  go_ret
  exact ⟨by rw [X.out];try rfl,Below.refl _ _⟩
set_option maxHeartbeats 1000000 in
theorem eprinted_any (s:ByteArray) (w:World) (E:Env w):Calls Tryz.prog 95 #[.string s] w fun e' w'=>e'=.returned (.bool (prB (B s)))∧Below w.heap.size w w':=by
 obtain ⟨ep,e,U,R,h1,h2,h3,h4,z2,z3,cp⟩:=vparse_open3 s
 have X:prB (B s)=(decide (e=0)&&decide (printL ep (B U) (B R)=B s)):=by unfold prB;rw [h1,h2,h3,h4]
 have CP:=Lib.hid cp
 have CT:=Lib.hid (fun w E=>vprint_any ep U R w (by omega) (by omega) E)
 have hst:=strEq (printL ep (B U) (B R)) s (printL_lt ep U R)
 have HE:=Lib.hid E
 clear cp E h1 h2 h3 h4
 by_cases he:e=0
 ·have t1:(e==0)=true:=by rw [beq_iff_eq];exact he
  rw [decide_eq_true he,Bool.true_and] at X
  rw [←X] at hst
  generalize prB (B s)=b at *
  generalize mk (printL ep (B U) (B R))=T at *
  clear X
  go_enter Tryz.func95,Tryz.ntmps95
  go_wp2_with fail
  refine (CP.out _ HE.out).mono ?_
  rintro e' w1 ⟨rfl,hb1⟩
  have B1:=Lib.hid (show Below w.heap.size w (w1.alloc (.cells #[.int .i64 ep,.string U,.string R] 144)) from hb1.alloc hb1.size _)
  clear hb1
  go_wp2_with fail
  refine (CT.out _ (HE.out.below B1.out)).mono ?_
  rintro e' w2 ⟨rfl,hb2⟩
  have B2:=Lib.hid (bel_2 B1.out hb2)
  clear hb2
  go_wp2
  go_ret
  exact ⟨rfl,B2.out⟩
 ·have t1:(e==0)=false:=by rw [beq_eq_false_iff_ne];exact he
  rw [decide_eq_false he,Bool.false_and] at X
  have XX:=Lib.hid X
  clear X hst CT he
  go_enter Tryz.func95,Tryz.ntmps95
  go_wp2_with fail
  refine (CP.out _ HE.out).mono ?_
  rintro e' w1 ⟨rfl,hb1⟩
  have B1:=Lib.hid (show Below w.heap.size w (w1.alloc (.cells #[.int .i64 ep,.string U,.string R] 144)) from hb1.alloc hb1.size _)
  clear hb1
  go_wp2
  go_ret
  exact ⟨by rw [XX.out];rfl,B1.out⟩
set_option maxHeartbeats 1000000 in
theorem givable6_any (x:Atm) (w:World):Calls Tryz.prog 98 #[.agg #[.string x.n,.int .i64 x.o,.string x.v]] w fun e w'=>e=.returned (.bool (giv6 x))∧Below w.heap.size w w':=by
 have B1:=Lib.hid (show Below w.heap.size w (w.alloc (.cells #[.string x.n,.int .i64 x.o,.string x.v] 62)) from (Below.refl _ w).alloc (Nat.le_refl _) _)
 have X:=Lib.hid (show giv6 x=(x.o==0||x.o==3) from rfl)
 obtain ⟨n,o,v⟩:=x
 simp only at X ⊢
 by_cases h0:o=0
 ·have t0:(o==0)=true:=by rw [beq_iff_eq];exact h0
  have XX:=Lib.hid (show giv6 ⟨n,o,v⟩=true by rw [X.out,t0];rfl)
  clear X h0
  go_enter Tryz.func98,Tryz.ntmps98
  go_wp2
  go_ret
  exact ⟨by rw [XX.out];try rfl,B1.out⟩
 ·have t0:(o==0)=false:=by rw [beq_eq_false_iff_ne];exact h0
  have XX:=Lib.hid (show giv6 ⟨n,o,v⟩=(o==3) by rw [X.out,t0];rfl)
  clear X h0
  generalize giv6 ⟨n,o,v⟩=q at *
  go_enter Tryz.func98,Tryz.ntmps98
  go_wp2
  go_ret
  exact ⟨by rw [XX.out];try rfl,B1.out⟩
set_option maxHeartbeats 4000000 in
theorem each6_any (f:Nat) (p:Atm→Bool) (hcf:∀(args:Array Value) (w:World),(callFunc f args).run Tryz.prog w=.ok (.enter f args) w)
  (hf:∀(x:Atm) (w:World),EnvR w→Calls Tryz.prog f #[.agg #[.string x.n,.int .i64 x.o,.string x.v]] w fun e w'=>e=.returned (.bool (p x))∧Below w.heap.size w w')
  (A:Option Addr) (n c:Nat) (l:List Atm) (w:World) (h:rdAtms w (lt_ w.heap.size) l [.slice A n c]) (E:EnvR w) :
  Calls Tryz.prog 97 #[.slice A n c,.func (.func f) #[] #[]] w fun e w'=>e=.returned (.bool (l.all p))∧Below w.heap.size w w':=by
 obtain ⟨rfl,hnc,hcm,_⟩:=rdAtms_at h
 have hcm':c≤9223372036854775807:=hcm
 have HE:=Lib.hid E
 have H:=Lib.hid h
 have KF:=Lib.hid hf
 clear hcm E h hf
 go_enter Tryz.func97,Tryz.ntmps97
 go_wp2
 go_loopw [6,9] (fun _ i wr=>∃k:Nat,k≤l.length∧i=.int .i64 k∧(l.take k).all p=true∧Below w.heap.size w wr) (fun _ i _=>l.length - (intOf i).toNat)
 case atStart=>exact ⟨0,Nat.zero_le _,rfl,rfl,Below.refl _ _⟩
 case round=>
  obtain ⟨k,hk,rfl,hall,hbel⟩:=hrel
  have HA:=Lib.hid hall
  have HB:=Lib.hid hbel
  clear hall
  by_cases hlt:k < l.length
  ·obtain ⟨_,_,_,hat⟩:=rdAtms_at (rdAtms_good.below H.out hbel)
   obtain ⟨ad,rfl,had,h0,h1,h2⟩:=hat k hlt
   have i0:(0:Int)≤(k:Int):=by omega
   have i1:(k:Int) < (l.length:Int):=by omega
   have ST:=Lib.hid (fun hf=>all_step6 (f:=p) hlt HA.out hf)
   have SP:=Lib.hid (fun hf=>all_stop6 (f:=p) hlt hf)
   generalize l[k]=x at *
   have BX:=Lib.hid (show Below wr.heap.size wr (wr.alloc (.cells #[.string x.n,.int .i64 x.o,.string x.v] 62)) from (Below.refl _ wr).alloc (Nat.le_refl _) _)
   have K:=Lib.hid (KF.out x (wr.alloc (.cells #[.string x.n,.int .i64 x.o,.string x.v] 62)) ((HE.out.below HB.out).below BX.out))
   generalize p x=b at *
   clear had hat hbel
   go_wp2_with fail
   refine K.out.mono ?_
   rintro e w' ⟨rfl,hb⟩
   have HB2:=Lib.hid (HB.out.trans ((BX.out.trans (hb.mono BX.out.size)).mono HB.out.size))
   clear hb h0 h1 h2
   cases b
   ·have XX:=Lib.hid (SP.out rfl)
    go_wp2
    go_ret
    exact ⟨by rw [XX.out];try rfl,HB2.out⟩
   have NX:=Lib.hid (ST.out rfl)
   go_wp2
   go_roundw
   case rel=>exact ⟨k+1,by omega,by go_num,NX.out,HB2.out⟩
   case measure=>simp [intOf];omega
  ·obtain rfl:k=l.length:=by omega
   have FIN:=Lib.hid (show l.all p=true by have:=HA.out;rw [List.take_length] at this;exact this)
   clear hbel
   go_wp2
   go_ret
   exact ⟨by rw [FIN.out];try rfl,HB.out⟩
def ixP {α:Type} (p:α→Bool):List α→Nat→Int
 | [],_=>-1
 | f::r,i=>if p f=true then i else ixP p r (i+1)
theorem ixP_at {α:Type} {p:α→Bool} {l:List α} {k:Nat} (hk:k < l.length):(p l[k]=true→ixP p (l.drop k) k=k)∧(p l[k]=false→ixP p (l.drop k) k=ixP p (l.drop (k+1)) (k+1)):=by
 rw [List.drop_eq_getElem_cons hk]
 exact ⟨fun h=>if_pos h,fun h=>if_neg (by rw [h];decide)⟩
theorem ixP_any {α:Type} {p:α→Bool}:∀{l:List α} {i:Nat},decide (0≤ixP p l i)=l.any p
 | [],_=>rfl
 | f::r,i=>by
  unfold ixP
  rw [List.any_cons]
  cases h:p f
  ·rw [if_neg (by decide),Bool.false_or];exact ixP_any
  ·rw [if_pos rfl,Bool.true_or,decide_eq_true_iff];omega
end Go.Proofs.YthchfkhpmgkghaaGreatDoor
namespace Go.Proofs.YthchfkhpmgkghaaGreatDoor
open Go.RowKit Go.Sort
set_option maxHeartbeats 1000000 in
theorem among19_any (y:Ent) (A1:Option Addr) (c1:Nat) (A2:Option Addr) (c2:Nat) (A3:Option Addr) (c3:Nat) (A4:Option Addr) (c4:Nat) (n v:ByteArray) (q:Nat) (w:World) (h0:w.cell? ⟨q,0,none⟩=some (.string n)) (h1:w.cell? ⟨q,1,none⟩=some (.string v)) :
  Calls Tryz.prog 100 #[y.val A1 c1 A2 c2 A3 c3 A4 c4,.pointer (some ⟨q,0,none⟩)] w fun e w'=>e=.returned (.bool (thr n v y))∧Below w.heap.size w w':=by
 have B1:=(Below.refl w.heap.size w).alloc (Nat.le_refl _) (.cells #[.string y.n,.string y.v,.slice A1 y.d.length c1,.slice A2 y.r.length c2,.slice A3 y.c.length c3,.slice A4 y.p.length c4] 67)
 have g0:=keep6 B1 h0
 have g1:=keep6 B1 h1
 have HB:=Lib.hid B1
 have e0:=str_eq y.n n
 have e1:=str_eq y.v v
 have X:=Lib.hid (show thr n v y=(decide (y.n=n)&&decide (y.v=v)) from rfl)
 generalize decide (y.n=n)=d0 at *
 generalize decide (y.v=v)=d1 at *
 generalize thr n v y=b at *
 obtain ⟨yn,yv,yd,yr,yc,yp⟩:=y
 clear B1 h0 h1
 show Calls Tryz.prog 100 #[.agg #[.string yn,.string yv,.slice A1 yd.length c1,.slice A2 yr.length c2,.slice A3 yc.length c3,.slice A4 yp.length c4],.pointer (some ⟨q,0,none⟩)] w _
 cases d0
 ·go_enter Tryz.func100,Tryz.ntmps100
  go_wp2
  go_ret
  exact ⟨by rw [X.out];try rfl,HB.out⟩
 ·go_enter Tryz.func100,Tryz.ntmps100
  go_wp2
  go_ret
  exact ⟨by rw [X.out];try rfl,HB.out⟩
set_option maxHeartbeats 4000000 in
theorem ixEnt9_any (A:Option Addr) (m cc:Nat) (l:List Ent) (n v:ByteArray) (q:Nat) (w:World) (h:rdEnts w (lt_ w.heap.size) l [.slice A m cc]) (h0:w.cell? ⟨q,0,none⟩=some (.string n)) (h1:w.cell? ⟨q,1,none⟩=some (.string v)) :
  Calls Tryz.prog 134 #[.slice A m cc,.func (.func 100) #[] #[.pointer (some ⟨q,0,none⟩)]] w fun e w'=>e=.returned (.int .i64 (ixP (thr n v) l 0))∧Below w.heap.size w w':=by
 have hcf:∀(args:Array Value) (w:World),(callFunc 100 args).run Tryz.prog w=.ok (.enter 100 args) w:=fun _ _=>by kernel_rfl
 obtain ⟨rfl,hnc,hcm,_⟩:=rdEnts_at h
 have hcm':cc≤9223372036854775807:=hcm
 have H:=Lib.hid h
 have H0:=Lib.hid h0
 have H1:=Lib.hid h1
 clear h hcm h0 h1
 go_enter Tryz.func134,Tryz.ntmps134
 go_wp2
 go_loopw [8] (fun i wr=>∃k:Nat,k≤l.length∧i=.int .i64 k∧ixP (thr n v) l 0=ixP (thr n v) (l.drop k) k∧Below w.heap.size w wr) (fun i _=>l.length - (intOf i).toNat)
 case atStart=>exact ⟨0,Nat.zero_le _,rfl,rfl,Below.refl _ _⟩
 case round=>
  obtain ⟨k,hk,rfl,hx,hbel⟩:=hrel
  have HX:=Lib.hid hx
  have HB:=Lib.hid hbel
  clear hx
  by_cases hlt:k < l.length
  ·obtain ⟨_,_,_,ha⟩:=rdEnts_at (rdEnts_good.below H.out hbel)
   obtain ⟨ad,A1,c1,A2,c2,A3,c3,A4,c4,rfl,had,hv,g0,g1,g2,g3,g4,g5⟩:=ha k hlt
   have i0:(0:Int)≤(k:Int):=by omega
   have i1:(k:Int) < (l.length:Int):=by omega
   have CL:=Lib.hid (among19_any l[k] A1 c1 A2 c2 A3 c3 A4 c4 n v q wr (keep6 hbel H0.out) (keep6 hbel H1.out))
   have PA:=Lib.hid (ixP_at (p:=thr n v) hlt)
   clear ha hbel hv had
   have SZ:=Lib.hid HB.out.size
   generalize l[k]=x at *
   cases he:thr n v x
   ·have X:=Lib.hid (PA.out.2 he)
    rw [he] at CL
    clear he
    go_wp2_with fail
    refine CL.out.mono ?_
    rintro e w' ⟨rfl,hb2⟩
    have HB2:=Lib.hid hb2
    clear hb2
    go_wp2
    go_roundw
    case rel=>exact ⟨k+1,by omega,by go_num,by rw [HX.out,X.out],HB.out.trans (HB2.out.mono SZ.out)⟩
    case measure=>simp [intOf];omega
   ·have X:=Lib.hid (PA.out.1 he)
    rw [he] at CL
    clear he
    go_wp2_with fail
    refine CL.out.mono ?_
    rintro e w' ⟨rfl,hb2⟩
    have HB2:=Lib.hid hb2
    clear hb2
    go_wp2
    go_ret
    exact ⟨by rw [HX.out,X.out];try rfl,HB.out.trans (HB2.out.mono SZ.out)⟩
  ·have X:=Lib.hid (show ixP (thr n v) l 0=-1 by rw [HX.out,List.drop_eq_nil_of_le (by omega)];rfl)
   go_wp2
   go_ret
   exact ⟨by rw [X.out];try rfl,HB.out⟩
set_option maxHeartbeats 2000000 in
theorem hasEnt9_any (A:Option Addr) (m cc:Nat) (l:List Ent) (n v:ByteArray) (q:Nat) (w:World) (h:rdEnts w (lt_ w.heap.size) l [.slice A m cc]) (h0:w.cell? ⟨q,0,none⟩=some (.string n)) (h1:w.cell? ⟨q,1,none⟩=some (.string v)) :
  Calls Tryz.prog 99 #[.slice A m cc,.func (.func 100) #[] #[.pointer (some ⟨q,0,none⟩)]] w fun e w'=>e=.returned (.bool (l.any (thr n v)))∧Below w.heap.size w w':=by
 have C:=Lib.hid (ixEnt9_any A m cc l n v q w h h0 h1)
 have X:=Lib.hid (ixP_any (p:=thr n v) (l:=l) (i:=0))
 clear h h0 h1
 go_enter Tryz.func99,Tryz.ntmps99
 go_wp2_with (go_at_call 134;(with_reducible refine C.out.mono ?_);rintro e w' ⟨rfl,hb2⟩)
 go_ret
 exact ⟨by rw [←X.out];rfl,hb2⟩
set_option maxHeartbeats 2000000 in
theorem among9_any (A:Option Addr) (m cc:Nat) (l:List Ent) (x:Ent) (A1:Option Addr) (c1:Nat) (A2:Option Addr) (c2:Nat) (A3:Option Addr) (c3:Nat) (A4:Option Addr) (c4:Nat) (w:World) (h:rdEnts w (lt_ w.heap.size) l [.slice A m cc]) :
  Calls Tryz.prog 65 #[.slice A m cc,x.val A1 c1 A2 c2 A3 c3 A4 c4] w fun e w'=>e=.returned (.bool (thB l x))∧Below w.heap.size w w':=by
 have B1:=(Below.refl w.heap.size w).alloc (Nat.le_refl _) (.cells #[.string x.n,.string x.v,.slice A1 x.d.length c1,.slice A2 x.r.length c2,.slice A3 x.c.length c3,.slice A4 x.p.length c4] 67)
 have C:=Lib.hid (hasEnt9_any A m cc l x.n x.v w.heap.size (w.alloc (.cells #[.string x.n,.string x.v,.slice A1 x.d.length c1,.slice A2 x.r.length c2,.slice A3 x.c.length c3,.slice A4 x.p.length c4] 67)) (rdEnts_good.up (rdEnts_good.below h B1) B1.size) (by simp [go_sem]) (by simp [go_sem]))
 have HB:=Lib.hid B1
 have X:=Lib.hid (show l.any (thr x.n x.v)=thB l x from rfl)
 generalize l.any (thr x.n x.v)=b at *
 generalize thB l x=b' at *
 have hmf:∀(fn:Fn) (first cap:Array Value) (w:World),(Instr.makeFunc fn first cap).run Tryz.prog w=.ok (.func fn first cap) w:=fun _ _ _ _=>rfl
 obtain ⟨n,v,d,r,c,p⟩:=x
 clear h B1
 show Calls Tryz.prog 65 #[.slice A m cc,.agg #[.string n,.string v,.slice A1 d.length c1,.slice A2 r.length c2,.slice A3 c.length c3,.slice A4 p.length c4]] w _
 go_enter Tryz.func65,Tryz.ntmps65
 go_wp2_with (go_at_call 99;(with_reducible refine C.out.mono ?_);rintro e w' ⟨rfl,hb2⟩)
 have HB2:=Lib.hid hb2
 clear hb2
 go_wp2
 go_ret
 exact ⟨by rw [X.out];try rfl,HB.out.trans (HB2.out.mono HB.out.size)⟩
end Go.Proofs.YthchfkhpmgkghaaGreatDoor
namespace Go.Proofs.YthchfkhpmgkghaaGreatDoor
open Go.RowKit
theorem rgtE_turn (x:Ent):rgtE x=(nameB (B x.n)&&(prB (B x.v)&&(rightG x.d&&(rightG x.r&&(decide (x.c.length≤12)&&(x.c.all rgt&&(decide (x.p.length≤8)&&(x.p.all rgt&&givs6 x.p)))))))):=by
 unfold rgtE
 generalize nameB (B x.n)=b1
 generalize prB (B x.v)=b2
 generalize rightG x.d=b3
 generalize rightG x.r=b4
 generalize x.c.all rgt=b5
 generalize x.p.all rgt=b6
 generalize givs6 x.p=b7
 generalize decide (x.c.length≤12)=b8
 generalize decide (x.p.length≤8)=b9
 cases b1<;>cases b2<;>cases b3<;>cases b4<;>cases b5<;>cases b6<;>cases b7<;>cases b8<;>cases b9<;>rfl
set_option maxHeartbeats 8000000 in
theorem eright_any (x:Ent) (A1:Option Addr) (c1:Nat) (A2:Option Addr) (c2:Nat) (A3:Option Addr) (c3:Nat) (A4:Option Addr) (c4:Nat) (w:World) (hx:EntV w (lt_ w.heap.size) x A1 c1 A2 c2 A3 c3 A4 c4) (E:EnvR w) :
  Calls Tryz.prog 63 #[x.val A1 c1 A2 c2 A3 c3 A4 c4] w fun e w'=>e=.returned (.bool (rgtE x))∧Below w.heap.size w w':=by
 have XE:=Lib.hid (rgtE_turn x)
 obtain ⟨n,v,d,r,c,p⟩:=x
 have B1:=Lib.hid (show Below w.heap.size w (w.alloc (.cells #[.string n,.string v,.slice A1 d.length c1,.slice A2 r.length c2,.slice A3 c.length c3,.slice A4 p.length c4] 67)) from (Below.refl _ w).alloc (Nat.le_refl _) _)
 have KX:=Lib.hid (fun (W:World) (hb:Below (w.alloc (.cells #[.string n,.string v,.slice A1 d.length c1,.slice A2 r.length c2,.slice A3 c.length c3,.slice A4 p.length c4] 67)).heap.size (w.alloc (.cells #[.string n,.string v,.slice A1 d.length c1,.slice A2 r.length c2,.slice A3 c.length c3,.slice A4 p.length c4] 67)) W)=>box6 hb)
 have HX:=Lib.hid hx
 have HE:=Lib.hid E
 have KN:=Lib.hid (fun W=>rname_any n W)
 have KV:=Lib.hid (fun W (hb:Below w.heap.size w W)=>eprinted_any v W ((HE.out.below hb).env))
 have KD:=Lib.hid (fun W (hb:Below w.heap.size w W)=>right4_any A1 d.length c1 d W (HX.out.on hb).d (HE.out.below hb))
 have KR:=Lib.hid (fun W (hb:Below w.heap.size w W)=>right4_any A2 r.length c2 r W (HX.out.on hb).r (HE.out.below hb))
 have KC:=Lib.hid (fun W (hb:Below w.heap.size w W)=>each6_any 89 rgt (fun _ _=>by kernel_rfl) (fun x W E=>rright_atom x W E) A3 c.length c3 c W (HX.out.on hb).c (HE.out.below hb))
 have KP:=Lib.hid (fun W (hb:Below w.heap.size w W)=>each6_any 89 rgt (fun _ _=>by kernel_rfl) (fun x W E=>rright_atom x W E) A4 p.length c4 p W (HX.out.on hb).p (HE.out.below hb))
 have KG:=Lib.hid (fun W (hb:Below w.heap.size w W)=>each6_any 98 giv6 (fun _ _=>by kernel_rfl) (fun x W _=>givable6_any x W) A4 p.length c4 p W (HX.out.on hb).p (HE.out.below hb))
 show Calls Tryz.prog 63 #[.agg #[.string n,.string v,.slice A1 d.length c1,.slice A2 r.length c2,.slice A3 c.length c3,.slice A4 p.length c4]] w _
 unfold givs6 at XE
 simp only at XE
 clear hx E
 generalize rgtE ⟨n,v,d,r,c,p⟩=bE at *
 generalize nameB (B n)=b1 at *
 generalize prB (B v)=b2 at *
 generalize rightG d=b3 at *
 generalize rightG r=b4 at *
 generalize c.all rgt=b5 at *
 generalize p.all rgt=b6 at *
 generalize p.all giv6=b7 at *
 obtain ⟨W1,hW1⟩:∃W,W=(w.alloc (.cells #[.string n,.string v,.slice A1 d.length c1,.slice A2 r.length c2,.slice A3 c.length c3,.slice A4 p.length c4] 67)):=⟨_,rfl⟩
 rw [←hW1] at B1 KX
 have V0:=Lib.hid (Below.refl W1.heap.size W1)
 have C0:=Lib.hid B1.out
 go_enter Tryz.func63,Tryz.ntmps63
 go_wp2_with fail
 rw [←hW1]
 refine (KN.out _).mono ?_
 clear hW1
 rintro e w1 ⟨rfl,hb⟩
 have V1:=Lib.hid (V0.out.trans (hb.mono V0.out.size))
 have C1:=Lib.hid (C0.out.trans (hb.mono C0.out.size))
 clear hb
 cases b1
 ·go_wp2
  go_ret
  exact ⟨by rw [XE.out];try rfl,C1.out⟩
 obtain ⟨a0,a1,a2,a3,a4,a5⟩:=KX.out _ V1.out
 go_wp2_with fail
 refine (KV.out _ C1.out).mono ?_
 rintro e w2 ⟨rfl,hb⟩
 have V2:=Lib.hid (V1.out.trans (hb.mono V1.out.size))
 have C2:=Lib.hid (C1.out.trans (hb.mono C1.out.size))
 clear hb a0 a1 a2 a3 a4 a5
 cases b2
 ·go_wp2
  go_ret
  exact ⟨by rw [XE.out];try rfl,C2.out⟩
 obtain ⟨a0,a1,a2,a3,a4,a5⟩:=KX.out _ V2.out
 go_wp2_with fail
 refine (KD.out _ C2.out).mono ?_
 rintro e w3 ⟨rfl,hb⟩
 have V3:=Lib.hid (V2.out.trans (hb.mono V2.out.size))
 have C3:=Lib.hid (C2.out.trans (hb.mono C2.out.size))
 clear hb a0 a1 a2 a3 a4 a5
 cases b3
 ·go_wp2
  go_ret
  exact ⟨by rw [XE.out];try rfl,C3.out⟩
 obtain ⟨a0,a1,a2,a3,a4,a5⟩:=KX.out _ V3.out
 go_wp2_with fail
 refine (KR.out _ C3.out).mono ?_
 rintro e w4 ⟨rfl,hb⟩
 have V4:=Lib.hid (V3.out.trans (hb.mono V3.out.size))
 have C4:=Lib.hid (C3.out.trans (hb.mono C3.out.size))
 clear hb a0 a1 a2 a3 a4 a5
 cases b4
 ·go_wp2
  go_ret
  exact ⟨by rw [XE.out];try rfl,C4.out⟩
 by_cases q0:¬(c.length:Int)≤12
 ·have Q:=Lib.hid (show decide (c.length≤12)=false from decide_eq_false (by omega))
  obtain ⟨a0,a1,a2,a3,a4,a5⟩:=KX.out _ V4.out
  go_wp2
  go_ret
  exact ⟨by rw [XE.out,Q.out];try rfl,C4.out⟩
 have q0:=Decidable.not_not.1 q0
 have QC:=Lib.hid (show decide (c.length≤12)=true from decide_eq_true (by omega))
 obtain ⟨a0,a1,a2,a3,a4,a5⟩:=KX.out _ V4.out
 go_wp2_with fail
 refine (KC.out _ C4.out).mono ?_
 rintro e w5 ⟨rfl,hb⟩
 have V5:=Lib.hid (V4.out.trans (hb.mono V4.out.size))
 have C5:=Lib.hid (C4.out.trans (hb.mono C4.out.size))
 clear hb a0 a1 a2 a3 a4 a5
 cases b5
 ·go_wp2
  go_ret
  exact ⟨by rw [XE.out,QC.out];try rfl,C5.out⟩
 by_cases q1:¬(p.length:Int)≤8
 ·have Q:=Lib.hid (show decide (p.length≤8)=false from decide_eq_false (by omega))
  obtain ⟨a0,a1,a2,a3,a4,a5⟩:=KX.out _ V5.out
  go_wp2
  go_ret
  exact ⟨by rw [XE.out,QC.out,Q.out];try rfl,C5.out⟩
 have q1:=Decidable.not_not.1 q1
 have QP:=Lib.hid (show decide (p.length≤8)=true from decide_eq_true (by omega))
 obtain ⟨a0,a1,a2,a3,a4,a5⟩:=KX.out _ V5.out
 go_wp2_with fail
 refine (KP.out _ C5.out).mono ?_
 rintro e w6 ⟨rfl,hb⟩
 have V6:=Lib.hid (V5.out.trans (hb.mono V5.out.size))
 have C6:=Lib.hid (C5.out.trans (hb.mono C5.out.size))
 clear hb a0 a1 a2 a3 a4 a5
 cases b6
 ·go_wp2
  go_ret
  exact ⟨by rw [XE.out,QC.out,QP.out];try rfl,C6.out⟩
 obtain ⟨a0,a1,a2,a3,a4,a5⟩:=KX.out _ V6.out
 go_wp2_with fail
 refine (KG.out _ C6.out).mono ?_
 rintro e w7 ⟨rfl,hb⟩
 have V7:=Lib.hid (V6.out.trans (hb.mono V6.out.size))
 have C7:=Lib.hid (C6.out.trans (hb.mono C6.out.size))
 clear hb a0 a1 a2 a3 a4 a5
 go_wp2
 go_ret
 exact ⟨by rw [XE.out,QC.out,QP.out];try rfl,C7.out⟩
end Go.Proofs.YthchfkhpmgkghaaGreatDoor
namespace Go.Proofs.YthchfkhpmgkghaaGreatDoor
open Go.RowKit Go.Shelf
attribute [local go_sem] Oper.semAt_some
theorem cell_al {w:World} {p:Addr} {v:Value} (o:Obj) (h:w.cell? p=some v):(w.alloc o).cell? p=some v:=(((Below.refl w.heap.size w).alloc (Nat.le_refl _) o).cell (World.block_lt_of_cell? _ _ h)).trans h
theorem atm_info:(Tryz.prog.info? 62).map (fun i=>(i.zero,i.size,i.bytes))=some (some (.agg #[.string { data:=#[] },.int .i64 0,.string { data:=#[] }]),3,40):=by kernel_rfl
end Go.Proofs.YthchfkhpmgkghaaGreatDoor
