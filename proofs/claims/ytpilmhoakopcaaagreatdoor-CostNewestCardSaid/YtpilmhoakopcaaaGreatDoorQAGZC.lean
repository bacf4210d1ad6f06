/- What the laws rest on: Rel3, VerShown, Rel4, D4d, D4m, P6a, P6b, P6c, D4k, E8p, E8q, E11a, E11b. -/
import Derived.RangeFuncNested
import Derived.RangeFuncBound
import Derived.RangeFuncCalls
import Derived.RangeFuncLeaves
import Derived.Shelf.Abstract
import Derived.Shelf.RegionOpen
import Derived.TacticsInMore
import Derived.LoopNIn
import Derived.LoopIn
import Derived.Deep.CutRange
import Derived.IntWalk
import Derived.Lib.SplitLaws
import Derived.Shelf.Strings.BuilderX
import Derived.Lib.Builder
import Derived.Lib.AppendStr
import Derived.Lib.UnsafeStr
import Derived.Lib.MakeNoZero
import Derived.Laws.Externs
import Derived.Test.YtpilmhoakopcaaaGreatDoorQAEZC
set_option maxRecDepth 100000
set_option linter.unusedVariables false
set_option linter.unusedSimpArgs false
namespace Go.Proofs.YtpilmhoakopcaaaGreatDoor
open Go.RowKit
structure EnvR (w:World):Prop where
 env:Env w
 sgn:Sgn w
theorem EnvR.below {w w':World} (E:EnvR w) (h:Below w.heap.size w w'):EnvR w':=⟨E.env.below h,E.sgn.below h⟩
theorem EnvR.alloc {w:World} (E:EnvR w) (o:Obj):EnvR (w.alloc o):=E.below ((Below.refl _ w).alloc (Nat.le_refl _) _)
theorem vparse_open3 (s:ByteArray):∃(E e:Int) (U R:ByteArray),E=parse1 (B s)∧e=parseE (B s)∧B U=parse2 (B s)∧B R=parse3 (B s)∧U.size≤60∧R.size≤60∧
  ∀w,Env w→Calls Tryz.prog 135 #[.string s] w fun e' w'=>e'=.returned (.tuple #[.agg #[.int .i64 E,.string U,.string R],.int .i64 e])∧Below w.heap.size w w':=
 ⟨_,_,_,_,rfl,rfl,B_mk (parse2_lt s),B_mk (parse3_lt s),by rw [size_mk];exact parse2_len _,by rw [size_mk];exact parse3_len _,fun w E=>vparse_any s w E⟩
theorem printL_lt (e:Int) (u r:ByteArray):∀c ∈ printL e (B u) (B r),c < 256:=by
 unfold printL
 split
 ·exact textL_lt _ u r
 ·intro c hc;cases hc
theorem rprinted_any (s:ByteArray) (w:World) (E:Env w):Calls Tryz.prog 139 #[.string s] w fun e' w'=>e'=.returned (.bool (prB (B s)))∧Below w.heap.size w w':=by
 obtain ⟨ep,e,U,R,h1,h2,h3,h4,z2,z3,cp⟩:=vparse_open3 s
 have X:prB (B s)=(decide (e=0)&&decide (printL ep (B U) (B R)=B s)):=by unfold prB;rw [h1,h2,h3,h4]
 have CP:=Lib.hid cp
 have CT:=Lib.hid (fun w E=>vprint_any ep U R w (by omega) (by omega) E)
 have hst:=strEq (printL ep (B U) (B R)) s (printL_lt ep U R)
 have HE:=Lib.hid E
 clear cp E h1 h2 h3 h4
 by_cases he:e=0
 ·have t1:(e==0)=true:=by rw [beq_iff_eq];exact he
  rw [decide_eq_true he,Bool.true_and] at X
  rw [←X] at hst
  generalize prB (B s)=b at *
  generalize mk (printL ep (B U) (B R))=T at *
  clear X
  go_enter Tryz.func139,Tryz.ntmps139
  go_wp2_with fail
  refine (CP.out _ HE.out).mono ?_
  rintro e' w1 ⟨rfl,hb1⟩
  have B1:=Lib.hid (show Below w.heap.size w (w1.alloc (.cells #[.int .i64 ep,.string U,.string R] 158)) from hb1.alloc hb1.size _)
  clear hb1
  go_wp2_with fail
  refine (CT.out _ (HE.out.below B1.out)).mono ?_
  rintro e' w2 ⟨rfl,hb2⟩
  have B2:=Lib.hid (bel_2 B1.out hb2)
  clear hb2
  go_wp2
  go_ret
  exact ⟨rfl,B2.out⟩
 ·have t1:(e==0)=false:=by rw [beq_eq_false_iff_ne];exact he
  rw [decide_eq_false he,Bool.false_and] at X
  have XX:=Lib.hid X
  clear X hst CT he
  go_enter Tryz.func139,Tryz.ntmps139
  go_wp2_with fail
  refine (CP.out _ HE.out).mono ?_
  rintro e' w1 ⟨rfl,hb1⟩
  have B1:=Lib.hid (show Below w.heap.size w (w1.alloc (.cells #[.int .i64 ep,.string U,.string R] 158)) from hb1.alloc hb1.size _)
  clear hb1
  go_wp2
  go_ret
  exact ⟨by rw [XX.out];rfl,B1.out⟩
theorem rholds_zero (a b:ByteArray) (w:World):Calls Tryz.prog 129 #[.int .i64 0,.string a,.string b] w fun e' w'=>e'=.returned (.bool (holdB 0 (B a) (B b)))∧Below w.heap.size w w':=by
 have X:=Lib.hid (show holdB 0 (B a) (B b)=true from rfl)
 go_enter Tryz.func129,Tryz.ntmps129
 go_wp2
 go_ret
 exact ⟨by rw [X.out];rfl,Below.refl _ _⟩
theorem rholds_any (op:Int) (a b:ByteArray) (w:World) (E:Env w):Calls Tryz.prog 129 #[.int .i64 op,.string a,.string b] w fun e' w'=>e'=.returned (.bool (holdB op (B a) (B b)))∧Below w.heap.size w w':=by
 by_cases h0:op=0
 ·subst h0;exact rholds_zero a b w
 obtain ⟨ep,e,U,R,h1,h2,h3,h4,z2,z3,ca⟩:=vparse_open3 a
 obtain ⟨fp,f,V,S,i1,i2,i3,i4,y2,y3,cb⟩:=vparse_open3 b
 have X:holdB op (B a) (B b)=(decide (e=0)&&decide (f=0)&&opB op (if e≠0 then (if f≠0 then 0 else -1) else if f≠0 then 1 else cmpV ep (B U) (B R) fp (B V) (B S))):=by
  unfold holdB orderV;rw [decide_eq_false h0,Bool.false_or,h1,h2,h3,h4,i1,i2,i3,i4]
 have CA:=Lib.hid ca
 have CB:=Lib.hid cb
 have CV:=Lib.hid (fun w=>vcompare_any ep fp U R V S w (by omega) (by omega) (by omega) (by omega))
 have HE:=Lib.hid E
 have t0:(op==0)=false:=by rw [beq_eq_false_iff_ne];exact h0
 clear ca cb E h1 h2 h3 h4 i1 i2 i3 i4
 generalize holdB op (B a) (B b)=O at *
 generalize cmpV ep (B U) (B R) fp (B V) (B S)=C at *
 by_cases he:e=0
 ·have t1:(e != 0)=false:=by rw [bne_eq_false_iff_eq];exact he
  by_cases hf:f=0
  ·have t2:(f != 0)=false:=by rw [bne_eq_false_iff_eq];exact hf
   rw [decide_eq_true he,decide_eq_true hf,Bool.true_and,Bool.true_and,if_neg (by simp [he]),if_neg (by simp [hf])] at X
   have XX:=Lib.hid X
   clear X he hf h0
   by_cases o1:op=1
   ·subst o1
    go_enter Tryz.func129,Tryz.ntmps129
    go_wp2_with fail
    refine (CA.out _ HE.out).mono ?_
    rintro e' w1 ⟨rfl,hb1⟩
    have B1:=Lib.hid (show Below w.heap.size w (w1.alloc (.cells #[.int .i64 ep,.string U,.string R] 158)) from hb1.alloc hb1.size _)
    have s1:=hb1.size
    clear hb1
    go_wp2_with fail
    refine (CB.out _ (HE.out.below B1.out)).mono ?_
    rintro e' w2 ⟨rfl,hb2⟩
    obtain ⟨c0,c1,c2,s2⟩:=box_cells hb2
    have B2:=Lib.hid (show Below w.heap.size w (w2.alloc (.cells #[.int .i64 fp,.string V,.string S] 158)) from (bel_2 B1.out hb2).alloc (bel_2 B1.out hb2).size _)
    clear hb2
    have s3:w1.heap.size < w2.heap.size:=by omega
    go_wp2_with fail
    refine (CV.out _).mono ?_
    rintro e' w3 ⟨rfl,hb3⟩
    have B3:=Lib.hid (bel_2 B2.out hb3)
    clear hb3
    go_wp2
    go_ret
    exact ⟨by rw [XX.out];rfl,B3.out⟩
   by_cases o2:op=2
   ·subst o2
    go_enter Tryz.func129,Tryz.ntmps129
    go_wp2_with fail
    refine (CA.out _ HE.out).mono ?_
    rintro e' w1 ⟨rfl,hb1⟩
    have B1:=Lib.hid (show Below w.heap.size w (w1.alloc (.cells #[.int .i64 ep,.string U,.string R] 158)) from hb1.alloc hb1.size _)
    have s1:=hb1.size
    clear hb1
    go_wp2_with fail
    refine (CB.out _ (HE.out.below B1.out)).mono ?_
    rintro e' w2 ⟨rfl,hb2⟩
    obtain ⟨c0,c1,c2,s2⟩:=box_cells hb2
    have B2:=Lib.hid (show Below w.heap.size w (w2.alloc (.cells #[.int .i64 fp,.string V,.string S] 158)) from (bel_2 B1.out hb2).alloc (bel_2 B1.out hb2).size _)
    clear hb2
    have s3:w1.heap.size < w2.heap.size:=by omega
    go_wp2_with fail
    refine (CV.out _).mono ?_
    rintro e' w3 ⟨rfl,hb3⟩
    have B3:=Lib.hid (bel_2 B2.out hb3)
    clear hb3
    go_wp2
    go_ret
    exact ⟨by rw [XX.out];rfl,B3.out⟩
   by_cases o3:op=3
   ·subst o3
    go_enter Tryz.func129,Tryz.ntmps129
    go_wp2_with fail
    refine (CA.out _ HE.out).mono ?_
    rintro e' w1 ⟨rfl,hb1⟩
    have B1:=Lib.hid (show Below w.heap.size w (w1.alloc (.cells #[.int .i64 ep,.string U,.string R] 158)) from hb1.alloc hb1.size _)
    have s1:=hb1.size
    clear hb1
    go_wp2_with fail
    refine (CB.out _ (HE.out.below B1.out)).mono ?_
    rintro e' w2 ⟨rfl,hb2⟩
    obtain ⟨c0,c1,c2,s2⟩:=box_cells hb2
    have B2:=Lib.hid (show Below w.heap.size w (w2.alloc (.cells #[.int .i64 fp,.string V,.string S] 158)) from (bel_2 B1.out hb2).alloc (bel_2 B1.out hb2).size _)
    clear hb2
    have s3:w1.heap.size < w2.heap.size:=by omega
    go_wp2_with fail
    refine (CV.out _).mono ?_
    rintro e' w3 ⟨rfl,hb3⟩
    have B3:=Lib.hid (bel_2 B2.out hb3)
    clear hb3
    go_wp2
    go_ret
    exact ⟨by rw [XX.out];rfl,B3.out⟩
   by_cases o4:op=4
   ·subst o4
    go_enter Tryz.func129,Tryz.ntmps129
    go_wp2_with fail
    refine (CA.out _ HE.out).mono ?_
    rintro e' w1 ⟨rfl,hb1⟩
    have B1:=Lib.hid (show Below w.heap.size w (w1.alloc (.cells #[.int .i64 ep,.string U,.string R] 158)) from hb1.alloc hb1.size _)
    have s1:=hb1.size
    clear hb1
    go_wp2_with fail
    refine (CB.out _ (HE.out.below B1.out)).mono ?_
    rintro e' w2 ⟨rfl,hb2⟩
    obtain ⟨c0,c1,c2,s2⟩:=box_cells hb2
    have B2:=Lib.hid (show Below w.heap.size w (w2.alloc (.cells #[.int .i64 fp,.string V,.string S] 158)) from (bel_2 B1.out hb2).alloc (bel_2 B1.out hb2).size _)
    clear hb2
    have s3:w1.heap.size < w2.heap.size:=by omega
    go_wp2_with fail
    refine (CV.out _).mono ?_
    rintro e' w3 ⟨rfl,hb3⟩
    have B3:=Lib.hid (bel_2 B2.out hb3)
    clear hb3
    go_wp2
    go_ret
    exact ⟨by rw [XX.out];rfl,B3.out⟩
   by_cases o5:op=5
   ·subst o5
    go_enter Tryz.func129,Tryz.ntmps129
    go_wp2_with fail
    refine (CA.out _ HE.out).mono ?_
    rintro e' w1 ⟨rfl,hb1⟩
    have B1:=Lib.hid (show Below w.heap.size w (w1.alloc (.cells #[.int .i64 ep,.string U,.string R] 158)) from hb1.alloc hb1.size _)
    have s1:=hb1.size
    clear hb1
    go_wp2_with fail
    refine (CB.out _ (HE.out.below B1.out)).mono ?_
    rintro e' w2 ⟨rfl,hb2⟩
    obtain ⟨c0,c1,c2,s2⟩:=box_cells hb2
    have B2:=Lib.hid (show Below w.heap.size w (w2.alloc (.cells #[.int .i64 fp,.string V,.string S] 158)) from (bel_2 B1.out hb2).alloc (bel_2 B1.out hb2).size _)
    clear hb2
    have s3:w1.heap.size < w2.heap.size:=by omega
    go_wp2_with fail
    refine (CV.out _).mono ?_
    rintro e' w3 ⟨rfl,hb3⟩
    have B3:=Lib.hid (bel_2 B2.out hb3)
    clear hb3
    go_wp2
    go_ret
    exact ⟨by rw [XX.out];rfl,B3.out⟩
   have ZZ:opB op C=false:=by unfold opB;rw [if_neg o1,if_neg o2,if_neg o3,if_neg o4,if_neg o5]
   rw [ZZ] at XX
   have u1:(op==1)=false:=by rw [beq_eq_false_iff_ne];exact o1
   have u2:(op==2)=false:=by rw [beq_eq_false_iff_ne];exact o2
   have u3:(op==3)=false:=by rw [beq_eq_false_iff_ne];exact o3
   have u4:(op==4)=false:=by rw [beq_eq_false_iff_ne];exact o4
   have u5:(op==5)=false:=by rw [beq_eq_false_iff_ne];exact o5
   clear o1 o2 o3 o4 o5 ZZ
   go_enter Tryz.func129,Tryz.ntmps129
   go_wp2_with fail
   refine (CA.out _ HE.out).mono ?_
   rintro e' w1 ⟨rfl,hb1⟩
   have B1:=Lib.hid (show Below w.heap.size w (w1.alloc (.cells #[.int .i64 ep,.string U,.string R] 158)) from hb1.alloc hb1.size _)
   have s1:=hb1.size
   clear hb1
   go_wp2_with fail
   refine (CB.out _ (HE.out.below B1.out)).mono ?_
   rintro e' w2 ⟨rfl,hb2⟩
   obtain ⟨c0,c1,c2,s2⟩:=box_cells hb2
   have B2:=Lib.hid (show Below w.heap.size w (w2.alloc (.cells #[.int .i64 fp,.string V,.string S] 158)) from (bel_2 B1.out hb2).alloc (bel_2 B1.out hb2).size _)
   clear hb2
   have s3:w1.heap.size < w2.heap.size:=by omega
   go_wp2_with fail
   refine (CV.out _).mono ?_
   rintro e' w3 ⟨rfl,hb3⟩
   have B3:=Lib.hid (bel_2 B2.out hb3)
   clear hb3
   go_wp2
   go_ret
   exact ⟨by rw [XX.out];rfl,B3.out⟩
  ·have t2:(f != 0)=true:=by rw [bne_iff_ne];exact hf
   rw [decide_eq_false hf,Bool.and_false,Bool.false_and] at X
   have XX:=Lib.hid X
   clear X he hf h0
   go_enter Tryz.func129,Tryz.ntmps129
   go_wp2_with fail
   refine (CA.out _ HE.out).mono ?_
   rintro e' w1 ⟨rfl,hb1⟩
   have B1:=Lib.hid (show Below w.heap.size w (w1.alloc (.cells #[.int .i64 ep,.string U,.string R] 158)) from hb1.alloc hb1.size _)
   have s1:=hb1.size
   clear hb1
   go_wp2_with fail
   refine (CB.out _ (HE.out.below B1.out)).mono ?_
   rintro e' w2 ⟨rfl,hb2⟩
   obtain ⟨c0,c1,c2,s2⟩:=box_cells hb2
   have B2:=Lib.hid (show Below w.heap.size w (w2.alloc (.cells #[.int .i64 fp,.string V,.string S] 158)) from (bel_2 B1.out hb2).alloc (bel_2 B1.out hb2).size _)
   clear hb2
   go_wp2
   go_ret
   exact ⟨by rw [XX.out];rfl,B2.out⟩
 ·have t1:(e != 0)=true:=by rw [bne_iff_ne];exact he
  rw [decide_eq_false he,Bool.false_and,Bool.false_and] at X
  have XX:=Lib.hid X
  clear X he h0
  go_enter Tryz.func129,Tryz.ntmps129
  go_wp2_with fail
  refine (CA.out _ HE.out).mono ?_
  rintro e' w1 ⟨rfl,hb1⟩
  have B1:=Lib.hid (show Below w.heap.size w (w1.alloc (.cells #[.int .i64 ep,.string U,.string R] 158)) from hb1.alloc hb1.size _)
  have s1:=hb1.size
  clear hb1
  go_wp2_with fail
  refine (CB.out _ (HE.out.below B1.out)).mono ?_
  rintro e' w2 ⟨rfl,hb2⟩
  obtain ⟨c0,c1,c2,s2⟩:=box_cells hb2
  have B2:=Lib.hid (show Below w.heap.size w (w2.alloc (.cells #[.int .i64 fp,.string V,.string S] 158)) from (bel_2 B1.out hb2).alloc (bel_2 B1.out hb2).size _)
  clear hb2
  go_wp2
  go_ret
  exact ⟨by rw [XX.out];rfl,B2.out⟩
theorem p1:parseV ⟨#[49,58,50,46,48,45,51]⟩=.tuple #[.agg #[.int .i64 1,.string ⟨#[50,46,48]⟩,.string ⟨#[51]⟩],.int .i64 0]:=by kernel_rfl
theorem p2:parseV ⟨#[50,45,49,45,51]⟩=.tuple #[.agg #[.int .i64 0,.string ⟨#[50,45,49]⟩,.string ⟨#[51]⟩],.int .i64 0]:=by kernel_rfl
theorem p3:parseV ⟨#[50,45]⟩=.tuple #[.agg #[.int .i64 0,.string ⟨#[]⟩,.string ⟨#[]⟩],.int .i64 4]:=by kernel_rfl
theorem q1:cmpS (B ⟨#[49,46,48,126,114,99,49]⟩) (B ⟨#[49,46,48]⟩)=-1:=by kernel_rfl
theorem q2:cmpS (B ⟨#[49,46,49,48]⟩) (B ⟨#[49,46,57]⟩)=1:=by kernel_rfl
theorem empty_is (v:ByteArray):v.toList.isEmpty=decide (B v=[]):=by
 rw [toList_data]
 unfold B
 cases h:v.data.toList<;>simp
theorem sign_some {op:Int} (h:1≤op∧op≤5):(mk (signL op)).toList.isEmpty=false:=by
 rw [mk_empty]
 have:op=1∨op=2∨op=3∨op=4∨op=5:=by omega
 rcases this with rfl|rfl|rfl|rfl|rfl<;>rfl
theorem sign_none {op:Int} (h:¬(1≤op∧op≤5)):(mk (signL op)).toList.isEmpty=true:=by
 rw [mk_empty,signL_out (by omega)];rfl
theorem rright_any (n:ByteArray) (op:Int) (v:ByteArray) (w:World) (E:EnvR w):Calls Tryz.prog 105 #[.agg #[.string n,.int .i64 op,.string v]] w fun e' w'=>e'=.returned (.bool (rightA (B n) op (B v)))∧Below w.heap.size w w':=by
 have HE:=Lib.hid E
 clear E
 cases hn:nameB (B n)
 ·have X:=Lib.hid (show rightA (B n) op (B v)=false by unfold rightA;rw [hn];rfl)
  have KN:=Lib.hid (fun w=>rname_any n w)
  rw [hn] at KN
  clear hn
  go_enter Tryz.func105,Tryz.ntmps105
  go_wp2_with fail
  refine (KN.out _).mono ?_
  rintro e' w1 ⟨rfl,hb⟩
  have B1:=Lib.hid (bel_boxed hb)
  clear hb
  go_wp2
  go_ret
  exact ⟨by rw [X.out];rfl,B1.out⟩
 ·have KN:=Lib.hid (fun w=>rname_any n w)
  rw [hn] at KN
  by_cases h0:op=0
  ·subst h0
   have X:=Lib.hid (show v.toList.isEmpty=rightA (B n) 0 (B v) by unfold rightA;rw [hn,if_pos rfl,Bool.true_and,empty_is])
   clear hn
   go_enter Tryz.func105,Tryz.ntmps105
   go_wp2_with fail
   refine (KN.out _).mono ?_
   rintro e' w1 ⟨rfl,hb⟩
   have B1:=Lib.hid (bel_boxed hb)
   obtain ⟨c0,c1,c2,s1⟩:=box_cells hb
   clear hb
   go_wp2
   go_ret
   exact ⟨by rw [←X.out];rfl,B1.out⟩
  ·have t0:(op==0)=false:=by rw [beq_eq_false_iff_ne];exact h0
   have KS:=Lib.hid (fun w E=>rsign_any op w E)
   by_cases ho:1≤op∧op≤5
   ·have X:=Lib.hid (show rightA (B n) op (B v)=prB (B v) by unfold rightA;rw [hn,if_neg h0,Bool.true_and,decide_eq_true ho,Bool.true_and])
    have KP:=Lib.hid (fun w E=>rprinted_any v w E)
    have t1:=sign_some ho
    generalize mk (signL op)=sg at *
    clear hn h0 ho
    go_enter Tryz.func105,Tryz.ntmps105
    go_wp2_with fail
    refine (KN.out _).mono ?_
    rintro e' w1 ⟨rfl,hb⟩
    have B1:=Lib.hid (bel_boxed hb)
    obtain ⟨c0,c1,c2,s1⟩:=box_cells hb
    clear hb
    go_wp2_with fail
    refine (KS.out _ (HE.out.below B1.out).sgn).mono ?_
    rintro e' w2 ⟨rfl,rfl⟩
    go_wp2_with fail
    refine (KP.out _ (HE.out.below B1.out).env).mono ?_
    rintro e' w2 ⟨rfl,hb⟩
    have B2:=Lib.hid (bel_2 B1.out hb)
    clear hb
    go_wp2
    go_ret
    exact ⟨by rw [X.out];rfl,B2.out⟩
   ·have X:=Lib.hid (show rightA (B n) op (B v)=false by unfold rightA;rw [if_neg h0,decide_eq_false ho,Bool.false_and,Bool.and_false])
    have t1:=sign_none ho
    generalize mk (signL op)=sg at *
    clear hn h0 ho
    go_enter Tryz.func105,Tryz.ntmps105
    go_wp2_with fail
    refine (KN.out _).mono ?_
    rintro e' w1 ⟨rfl,hb⟩
    have B1:=Lib.hid (bel_boxed hb)
    obtain ⟨c0,c1,c2,s1⟩:=box_cells hb
    clear hb
    go_wp2_with fail
    refine (KS.out _ (HE.out.below B1.out).sgn).mono ?_
    rintro e' w2 ⟨rfl,rfl⟩
    go_wp2
    go_ret
    exact ⟨by rw [X.out];rfl,B1.out⟩
theorem rprov_any (n:ByteArray) (op:Int) (v gn:ByteArray) (gop:Int) (gv:ByteArray) (w:World) (E:EnvR w):Calls Tryz.prog 91 #[.agg #[.string n,.int .i64 op,.string v],.agg #[.string gn,.int .i64 gop,.string gv]] w fun e' w'=>e'=.returned (.bool (provB (B n) op (B v) (B gn) gop (B gv)))∧Below w.heap.size w w':=by
 have HE:=Lib.hid E
 clear E
 have hs:=strings_eq n gn
 have B0:=Lib.hid (show Below w.heap.size w ((w.alloc (.cells #[.string n,.int .i64 op,.string v] 100)).alloc (.cells #[.string gn,.int .i64 gop,.string gv] 100)) from ((Below.refl _ w).alloc (Nat.le_refl _) _).alloc (by simp) _)
 by_cases hn:B n=B gn
 ·rw [decide_eq_true hn] at hs
  by_cases h0:op=0
  ·have X:=Lib.hid (show provB (B n) op (B v) (B gn) gop (B gv)=true by unfold provB;rw [decide_eq_true hn,decide_eq_true h0];rfl)
   have t0:(op==0)=true:=by rw [beq_iff_eq];exact h0
   clear hn h0
   go_enter Tryz.func91,Tryz.ntmps91
   go_wp2
   go_ret
   exact ⟨by rw [X.out];rfl,B0.out⟩
  ·have t0:(op==0)=false:=by rw [beq_eq_false_iff_ne];exact h0
   by_cases h3:gop=3
   ·have X:=Lib.hid (show provB (B n) op (B v) (B gn) gop (B gv)=holdB op (B gv) (B v) by unfold provB;rw [decide_eq_true hn,decide_eq_false h0,decide_eq_true h3];rfl)
    have t3:(gop==3)=true:=by rw [beq_iff_eq];exact h3
    have KH:=Lib.hid (fun w E=>rholds_any op gv v w E)
    clear hn h0 h3
    go_enter Tryz.func91,Tryz.ntmps91
    go_wp2_with fail
    refine (KH.out _ (HE.out.below B0.out).env).mono ?_
    rintro e' w1 ⟨rfl,hb⟩
    have B1:=Lib.hid (bel_2 B0.out hb)
    clear hb
    go_wp2
    go_ret
    exact ⟨by rw [X.out];rfl,B1.out⟩
   ·have X:=Lib.hid (show provB (B n) op (B v) (B gn) gop (B gv)=false by unfold provB;rw [decide_eq_true hn,decide_eq_false h0,decide_eq_false h3];rfl)
    have t3:(gop==3)=false:=by rw [beq_eq_false_iff_ne];exact h3
    clear hn h0 h3
    go_enter Tryz.func91,Tryz.ntmps91
    go_wp2
    go_ret
    exact ⟨by rw [X.out];rfl,B0.out⟩
 ·have X:=Lib.hid (show provB (B n) op (B v) (B gn) gop (B gv)=false by unfold provB;rw [decide_eq_false hn];rfl)
  rw [decide_eq_false hn] at hs
  clear hn
  go_enter Tryz.func91,Tryz.ntmps91
  go_wp2
  go_ret
  exact ⟨by rw [X.out];rfl,B0.out⟩
theorem right_no_many {L:List (List Atm)} (h:¬L.length≤12):rightG L=false:=by unfold rightG;rw [decide_eq_false h];rfl
theorem right_stop {L:List (List Atm)} {k:Nat} (hk:k < L.length) (h:rgtOne L[k]=false):rightG L=false:=by unfold rightG;rw [all_stopL hk h];simp
theorem right_all {L:List (List Atm)} (h:(L.take L.length).all rgtOne=true):rightG L=decide (L.length≤12):=by rw [List.take_length] at h;unfold rightG;rw [h];simp
theorem rgtOne_stop {g:List Atm} {k:Nat} (hk:k < g.length) (h:rgt g[k]=false):rgtOne g=false:=by unfold rgtOne;rw [all_stopL hk h];simp
theorem rgtOne_len {g:List Atm} (h:¬(1≤g.length∧g.length≤6)):rgtOne g=false:=by
 unfold rgtOne
 rw [Bool.and_eq_false_iff,Bool.and_eq_false_iff,decide_eq_false_iff_not,decide_eq_false_iff_not];omega
theorem rgtOne_yes {g:List Atm} (h1:1≤g.length) (h2:g.length≤6) (h:(g.take g.length).all rgt=true):rgtOne g=true:=by
 rw [List.take_length] at h;unfold rgtOne;rw [decide_eq_true h1,decide_eq_true h2,h];rfl
theorem rright_atom (x:Atm) (w:World) (E:EnvR w):Calls Tryz.prog 105 #[.agg #[.string x.n,.int .i64 x.o,.string x.v]] w fun e' w'=>e'=.returned (.bool (rgt x))∧Below w.heap.size w w':=rright_any x.n x.o x.v w E
theorem atm_box {w w1:World} {T:TypeId} {x y z:Value} (h:Below (w.alloc (.cells #[x,y,z] T)).heap.size (w.alloc (.cells #[x,y,z] T)) w1):Below w.heap.size w w1:=(((Below.refl _ w).alloc (Nat.le_refl _) _).trans (h.mono (by simp)))
set_option maxHeartbeats 1000000 in
theorem rightGroup_any (A:Option Addr) (n c:Nat) (g:List Atm) (w:World) (h:rdAtms w (lt_ w.heap.size) g [.slice A n c]) (E:EnvR w) :
  Calls Tryz.prog 137 #[.slice A n c] w fun e w'=>e=.returned (.bool (rgtOne g))∧Below w.heap.size w w':=by
 obtain ⟨rfl,hnc,hcm,_⟩:=rdAtms_at h
 have hcm':c≤9223372036854775807:=hcm
 have HE:=Lib.hid E
 have HR:=Lib.hid h
 clear E h
 by_cases hl0:g.length=0
 ·have X:=Lib.hid (rgtOne_len (g:=g) (by omega))
  have t0:((g.length:Int)==0)=true:=by rw [beq_iff_eq];omega
  have HL:=Lib.hid hl0
  clear hl0
  go_enter Tryz.func137,Tryz.ntmps137
  go_wp2
  go_ret
  exact ⟨by rw [X.out];try rfl,Below.refl _ _⟩
 by_cases hl6:6 < g.length
 ·have X:=Lib.hid (rgtOne_len (g:=g) (by omega))
  have t0:((g.length:Int)==0)=false:=by rw [beq_eq_false_iff_ne];omega
  have t1:(6:Int) < g.length:=by omega
  go_enter Tryz.func137,Tryz.ntmps137
  go_wp2
  go_ret
  exact ⟨by rw [X.out];try rfl,Below.refl _ _⟩
 have t0:((g.length:Int)==0)=false:=by rw [beq_eq_false_iff_ne];omega
 have t1:¬(6:Int) < g.length:=by omega
 go_enter Tryz.func137,Tryz.ntmps137
 go_wp2
 go_loopw [4,15] (fun b i wr=>∃k:Nat,k≤g.length∧i=.int .i64 k∧(g.take k).all rgt=true∧Below w.heap.size w wr) (fun _ i _=>g.length - (intOf i).toNat)
 case atStart=>exact ⟨0,Nat.zero_le _,rfl,rfl,Below.refl _ _⟩
 case round=>
  obtain ⟨k,hk,rfl,hall,hbel⟩:=hrel
  by_cases hlt:k < g.length
  ·obtain ⟨ad,rfl,had,e0,e1,e2⟩:=(rdAtms_at (rdAtms_good.below HR.out hbel)).2.2.2 k hlt
   have T2:=Lib.hid (all_takeL rgt g k hlt)
   have Z2:=Lib.hid (rgtOne_stop (g:=g) (k:=k) hlt)
   have A2:=Lib.hid hall
   have HB:=Lib.hid hbel
   have EE:=Lib.hid (HE.out.below hbel)
   clear hall hbel
   generalize g[k]=x at *
   have K:=Lib.hid (fun w E=>rright_atom x w E)
   cases hr:rgt x
   ·have R:=Lib.hid hr
    rw [hr] at K
    clear hr
    go_wp2_with (go_at_call 105;refine (K.out _ (EE.out.alloc _)).mono ?_;rintro e w3 ⟨rfl,hb3⟩)
    go_ret
    exact ⟨by rw [Z2.out R.out];try rfl,bel2 HB.out (atm_box hb3) (Nat.le_refl _)⟩
   ·have R:=Lib.hid hr
    rw [hr] at K
    clear hr
    go_wp2_with (go_at_call 105;refine (K.out _ (EE.out.alloc _)).mono ?_;rintro e w3 ⟨rfl,hb3⟩)
    go_roundw
    case rel=>exact ⟨k+1,by omega,by go_num,by rw [T2.out,A2.out,R.out];rfl,bel2 HB.out (atm_box hb3) (Nat.le_refl _)⟩
    case measure=>simp [intOf];omega
  ·obtain rfl:k=g.length:=by omega
   have X:=Lib.hid (rgtOne_yes (g:=g) (by omega) (by omega) hall)
   clear hall
   go_wp2
   go_ret
   exact ⟨by rw [X.out];try rfl,hbel⟩
set_option maxHeartbeats 1000000 in
theorem right4_any (A:Option Addr) (n c:Nat) (L:List (List Atm)) (w:World) (h:rdGrps w (lt_ w.heap.size) L [.slice A n c]) (E:EnvR w) :
  Calls Tryz.prog 103 #[.slice A n c] w fun e w'=>e=.returned (.bool (rightG L))∧Below w.heap.size w w':=by
 obtain ⟨rfl,hnc,hcm,_⟩:=rdGrps_at h
 have hcm':c≤9223372036854775807:=hcm
 have HE:=Lib.hid E
 have HR:=Lib.hid h
 clear E h
 by_cases h12:L.length≤12
 ·have t1:¬(12:Int) < L.length:=by omega
  go_enter Tryz.func103,Tryz.ntmps103
  go_wp2
  go_loopw [4,10] (fun b i wr=>∃k:Nat,k≤L.length∧i=.int .i64 k∧(L.take k).all rgtOne=true∧Below w.heap.size w wr) (fun _ i _=>L.length - (intOf i).toNat)
  case atStart=>exact ⟨0,Nat.zero_le _,rfl,rfl,Below.refl _ _⟩
  case round=>
   obtain ⟨k,hk,rfl,hall,hbel⟩:=hrel
   by_cases hlt:k < L.length
   ·obtain ⟨ad,A',c',rfl,had,e0,e1⟩:=(rdGrps_at (rdGrps_good.below HR.out hbel)).2.2.2 k hlt
    have T2:=Lib.hid (all_takeL rgtOne L k hlt)
    have Z2:=Lib.hid (right_stop (L:=L) (k:=k) hlt)
    have A2:=Lib.hid hall
    have HB:=Lib.hid hbel
    have K:=Lib.hid (rightGroup_any _ _ _ _ _ (rdAtms_good.up e1 hbel.size) (HE.out.below hbel))
    clear hall hbel e1
    generalize L[k]=g at *
    cases hr:rgtOne g
    ·have R:=Lib.hid hr
     rw [hr] at K
     clear hr
     go_wp2_with (go_at_call 137;refine (K.out).mono ?_;rintro e w3 ⟨rfl,hb3⟩)
     go_ret
     exact ⟨by rw [Z2.out R.out];try rfl,bel2 HB.out hb3 (Nat.le_refl _)⟩
    ·have R:=Lib.hid hr
     rw [hr] at K
     clear hr
     go_wp2_with (go_at_call 137;refine (K.out).mono ?_;rintro e w3 ⟨rfl,hb3⟩)
     go_roundw
     case rel=>exact ⟨k+1,by omega,by go_num,by rw [T2.out,A2.out,R.out];rfl,bel2 HB.out hb3 (Nat.le_refl _)⟩
     case measure=>simp [intOf];omega
   ·obtain rfl:k=L.length:=by omega
    have X:=Lib.hid (show rightG L=true by rw [right_all hall,decide_eq_true h12])
    clear hall
    go_wp2
    go_ret
    exact ⟨by rw [X.out];try rfl,hbel⟩
 ·have X:=Lib.hid (right_no_many (L:=L) h12)
  have t1:(12:Int) < L.length:=by omega
  go_enter Tryz.func103,Tryz.ntmps103
  go_wp2
  go_ret
  exact ⟨by rw [X.out];try rfl,Below.refl _ _⟩
set_option maxHeartbeats 1000000 in
theorem eprinted_any (s:ByteArray) (w:World) (E:Env w):Calls Tryz.prog 102 #[.string s] w fun e' w'=>e'=.returned (.bool (prB (B s)))∧Below w.heap.size w w':=by
 obtain ⟨ep,e,U,R,h1,h2,h3,h4,z2,z3,cp⟩:=vparse_open3 s
 have X:prB (B s)=(decide (e=0)&&decide (printL ep (B U) (B R)=B s)):=by unfold prB;rw [h1,h2,h3,h4]
 have CP:=Lib.hid cp
 have CT:=Lib.hid (fun w E=>vprint_any ep U R w (by omega) (by omega) E)
 have hst:=strEq (printL ep (B U) (B R)) s (printL_lt ep U R)
 have HE:=Lib.hid E
 clear cp E h1 h2 h3 h4
 by_cases he:e=0
 ·have t1:(e==0)=true:=by rw [beq_iff_eq];exact he
  rw [decide_eq_true he,Bool.true_and] at X
  rw [←X] at hst
  generalize prB (B s)=b at *
  generalize mk (printL ep (B U) (B R))=T at *
  clear X
  go_enter Tryz.func102,Tryz.ntmps102
  go_wp2_with fail
  refine (CP.out _ HE.out).mono ?_
  rintro e' w1 ⟨rfl,hb1⟩
  have B1:=Lib.hid (show Below w.heap.size w (w1.alloc (.cells #[.int .i64 ep,.string U,.string R] 158)) from hb1.alloc hb1.size _)
  clear hb1
  go_wp2_with fail
  refine (CT.out _ (HE.out.below B1.out)).mono ?_
  rintro e' w2 ⟨rfl,hb2⟩
  have B2:=Lib.hid (bel_2 B1.out hb2)
  clear hb2
  go_wp2
  go_ret
  exact ⟨rfl,B2.out⟩
 ·have t1:(e==0)=false:=by rw [beq_eq_false_iff_ne];exact he
  rw [decide_eq_false he,Bool.false_and] at X
  have XX:=Lib.hid X
  clear X hst CT he
  go_enter Tryz.func102,Tryz.ntmps102
  go_wp2_with fail
  refine (CP.out _ HE.out).mono ?_
  rintro e' w1 ⟨rfl,hb1⟩
  have B1:=Lib.hid (show Below w.heap.size w (w1.alloc (.cells #[.int .i64 ep,.string U,.string R] 158)) from hb1.alloc hb1.size _)
  clear hb1
  go_wp2
  go_ret
  exact ⟨by rw [XX.out];rfl,B1.out⟩
set_option maxHeartbeats 1000000 in
theorem givable6_any (x:Atm) (w:World):Calls Tryz.prog 106 #[.agg #[.string x.n,.int .i64 x.o,.string x.v]] w fun e w'=>e=.returned (.bool (giv6 x))∧Below w.heap.size w w':=by
 have B1:=Lib.hid (show Below w.heap.size w (w.alloc (.cells #[.string x.n,.int .i64 x.o,.string x.v] 100)) from (Below.refl _ w).alloc (Nat.le_refl _) _)
 have X:=Lib.hid (show giv6 x=(x.o==0||x.o==3) from rfl)
 obtain ⟨n,o,v⟩:=x
 simp only at X ⊢
 by_cases h0:o=0
 ·have t0:(o==0)=true:=by rw [beq_iff_eq];exact h0
  have XX:=Lib.hid (show giv6 ⟨n,o,v⟩=true by rw [X.out,t0];rfl)
  clear X h0
  go_enter Tryz.func106,Tryz.ntmps106
  go_wp2
  go_ret
  exact ⟨by rw [XX.out];try rfl,B1.out⟩
 ·have t0:(o==0)=false:=by rw [beq_eq_false_iff_ne];exact h0
  have XX:=Lib.hid (show giv6 ⟨n,o,v⟩=(o==3) by rw [X.out,t0];rfl)
  clear X h0
  generalize giv6 ⟨n,o,v⟩=q at *
  go_enter Tryz.func106,Tryz.ntmps106
  go_wp2
  go_ret
  exact ⟨by rw [XX.out];try rfl,B1.out⟩
set_option maxHeartbeats 4000000 in
theorem each6_any (f:Nat) (p:Atm→Bool) (hcf:∀(args:Array Value) (w:World),(callFunc f args).run Tryz.prog w=.ok (.enter f args) w)
  (hf:∀(x:Atm) (w:World),EnvR w→Calls Tryz.prog f #[.agg #[.string x.n,.int .i64 x.o,.string x.v]] w fun e w'=>e=.returned (.bool (p x))∧Below w.heap.size w w')
  (A:Option Addr) (n c:Nat) (l:List Atm) (w:World) (h:rdAtms w (lt_ w.heap.size) l [.slice A n c]) (E:EnvR w) :
  Calls Tryz.prog 104 #[.slice A n c,.func (.func f) #[] #[]] w fun e w'=>e=.returned (.bool (l.all p))∧Below w.heap.size w w':=by
 obtain ⟨rfl,hnc,hcm,_⟩:=rdAtms_at h
 have hcm':c≤9223372036854775807:=hcm
 have HE:=Lib.hid E
 have H:=Lib.hid h
 have KF:=Lib.hid hf
 clear hcm E h hf
 go_enter Tryz.func104,Tryz.ntmps104
 go_wp2
 go_loopw [6,9] (fun _ i wr=>∃k:Nat,k≤l.length∧i=.int .i64 k∧(l.take k).all p=true∧Below w.heap.size w wr) (fun _ i _=>l.length - (intOf i).toNat)
 case atStart=>exact ⟨0,Nat.zero_le _,rfl,rfl,Below.refl _ _⟩
 case round=>
  obtain ⟨k,hk,rfl,hall,hbel⟩:=hrel
  have HA:=Lib.hid hall
  have HB:=Lib.hid hbel
  clear hall
  by_cases hlt:k < l.length
  ·obtain ⟨_,_,_,hat⟩:=rdAtms_at (rdAtms_good.below H.out hbel)
   obtain ⟨ad,rfl,had,h0,h1,h2⟩:=hat k hlt
   have i0:(0:Int)≤(k:Int):=by omega
   have i1:(k:Int) < (l.length:Int):=by omega
   have ST:=Lib.hid (fun hf=>all_step6 (f:=p) hlt HA.out hf)
   have SP:=Lib.hid (fun hf=>all_stop6 (f:=p) hlt hf)
   generalize l[k]=x at *
   have BX:=Lib.hid (show Below wr.heap.size wr (wr.alloc (.cells #[.string x.n,.int .i64 x.o,.string x.v] 100)) from (Below.refl _ wr).alloc (Nat.le_refl _) _)
   have K:=Lib.hid (KF.out x (wr.alloc (.cells #[.string x.n,.int .i64 x.o,.string x.v] 100)) ((HE.out.below HB.out).below BX.out))
   generalize p x=b at *
   clear had hat hbel
   go_wp2_with fail
   refine K.out.mono ?_
   rintro e w' ⟨rfl,hb⟩
   have HB2:=Lib.hid (HB.out.trans ((BX.out.trans (hb.mono BX.out.size)).mono HB.out.size))
   clear hb h0 h1 h2
   cases b
   ·have XX:=Lib.hid (SP.out rfl)
    go_wp2
    go_ret
    exact ⟨by rw [XX.out];try rfl,HB2.out⟩
   have NX:=Lib.hid (ST.out rfl)
   go_wp2
   go_roundw
   case rel=>exact ⟨k+1,by omega,by go_num,NX.out,HB2.out⟩
   case measure=>simp [intOf];omega
  ·obtain rfl:k=l.length:=by omega
   have FIN:=Lib.hid (show l.all p=true by have:=HA.out;rw [List.take_length] at this;exact this)
   clear hbel
   go_wp2
   go_ret
   exact ⟨by rw [FIN.out];try rfl,HB.out⟩
def ixP {α:Type} (p:α→Bool):List α→Nat→Int
 | [],_=>-1
 | f::r,i=>if p f=true then i else ixP p r (i+1)
theorem ixP_at {α:Type} {p:α→Bool} {l:List α} {k:Nat} (hk:k < l.length):(p l[k]=true→ixP p (l.drop k) k=k)∧(p l[k]=false→ixP p (l.drop k) k=ixP p (l.drop (k+1)) (k+1)):=by
 rw [List.drop_eq_getElem_cons hk]
 exact ⟨fun h=>if_pos h,fun h=>if_neg (by rw [h];decide)⟩
theorem ixP_any {α:Type} {p:α→Bool}:∀{l:List α} {i:Nat},decide (0≤ixP p l i)=l.any p
 | [],_=>rfl
 | f::r,i=>by
  unfold ixP
  rw [List.any_cons]
  cases h:p f
  ·rw [if_neg (by decide),Bool.false_or];exact ixP_any
  ·rw [if_pos rfl,Bool.true_or,decide_eq_true_iff];omega
theorem rgtE_turn (x:Ent):rgtE x=(nameB (B x.n)&&(prB (B x.v)&&(rightG x.d&&(rightG x.r&&(decide (x.c.length≤12)&&(x.c.all rgt&&(decide (x.p.length≤8)&&(x.p.all rgt&&givs6 x.p)))))))):=by
 unfold rgtE
 generalize nameB (B x.n)=b1
 generalize prB (B x.v)=b2
 generalize rightG x.d=b3
 generalize rightG x.r=b4
 generalize x.c.all rgt=b5
 generalize x.p.all rgt=b6
 generalize givs6 x.p=b7
 generalize decide (x.c.length≤12)=b8
 generalize decide (x.p.length≤8)=b9
 cases b1<;>cases b2<;>cases b3<;>cases b4<;>cases b5<;>cases b6<;>cases b7<;>cases b8<;>cases b9<;>rfl
set_option maxHeartbeats 8000000 in
theorem eright_any (x:Ent) (A1:Option Addr) (c1:Nat) (A2:Option Addr) (c2:Nat) (A3:Option Addr) (c3:Nat) (A4:Option Addr) (c4:Nat) (w:World) (hx:EntV w (lt_ w.heap.size) x A1 c1 A2 c2 A3 c3 A4 c4) (E:EnvR w) :
  Calls Tryz.prog 70 #[x.val A1 c1 A2 c2 A3 c3 A4 c4] w fun e w'=>e=.returned (.bool (rgtE x))∧Below w.heap.size w w':=by
 have XE:=Lib.hid (rgtE_turn x)
 obtain ⟨n,v,d,r,c,p⟩:=x
 have B1:=Lib.hid (show Below w.heap.size w (w.alloc (.cells #[.string n,.string v,.slice A1 d.length c1,.slice A2 r.length c2,.slice A3 c.length c3,.slice A4 p.length c4] 60)) from (Below.refl _ w).alloc (Nat.le_refl _) _)
 have KX:=Lib.hid (fun (W:World) (hb:Below (w.alloc (.cells #[.string n,.string v,.slice A1 d.length c1,.slice A2 r.length c2,.slice A3 c.length c3,.slice A4 p.length c4] 60)).heap.size (w.alloc (.cells #[.string n,.string v,.slice A1 d.length c1,.slice A2 r.length c2,.slice A3 c.length c3,.slice A4 p.length c4] 60)) W)=>box6 hb)
 have HX:=Lib.hid hx
 have HE:=Lib.hid E
 have KN:=Lib.hid (fun W=>rname_any n W)
 have KV:=Lib.hid (fun W (hb:Below w.heap.size w W)=>eprinted_any v W ((HE.out.below hb).env))
 have KD:=Lib.hid (fun W (hb:Below w.heap.size w W)=>right4_any A1 d.length c1 d W (HX.out.on hb).d (HE.out.below hb))
 have KR:=Lib.hid (fun W (hb:Below w.heap.size w W)=>right4_any A2 r.length c2 r W (HX.out.on hb).r (HE.out.below hb))
 have KC:=Lib.hid (fun W (hb:Below w.heap.size w W)=>each6_any 105 rgt (fun _ _=>by kernel_rfl) (fun x W E=>rright_atom x W E) A3 c.length c3 c W (HX.out.on hb).c (HE.out.below hb))
 have KP:=Lib.hid (fun W (hb:Below w.heap.size w W)=>each6_any 105 rgt (fun _ _=>by kernel_rfl) (fun x W E=>rright_atom x W E) A4 p.length c4 p W (HX.out.on hb).p (HE.out.below hb))
 have KG:=Lib.hid (fun W (hb:Below w.heap.size w W)=>each6_any 106 giv6 (fun _ _=>by kernel_rfl) (fun x W _=>givable6_any x W) A4 p.length c4 p W (HX.out.on hb).p (HE.out.below hb))
 show Calls Tryz.prog 70 #[.agg #[.string n,.string v,.slice A1 d.length c1,.slice A2 r.length c2,.slice A3 c.length c3,.slice A4 p.length c4]] w _
 unfold givs6 at XE
 simp only at XE
 clear hx E
 generalize rgtE ⟨n,v,d,r,c,p⟩=bE at *
 generalize nameB (B n)=b1 at *
 generalize prB (B v)=b2 at *
 generalize rightG d=b3 at *
 generalize rightG r=b4 at *
 generalize c.all rgt=b5 at *
 generalize p.all rgt=b6 at *
 generalize p.all giv6=b7 at *
 obtain ⟨W1,hW1⟩:∃W,W=(w.alloc (.cells #[.string n,.string v,.slice A1 d.length c1,.slice A2 r.length c2,.slice A3 c.length c3,.slice A4 p.length c4] 60)):=⟨_,rfl⟩
 rw [←hW1] at B1 KX
 have V0:=Lib.hid (Below.refl W1.heap.size W1)
 have C0:=Lib.hid B1.out
 go_enter Tryz.func70,Tryz.ntmps70
 go_wp2_with fail
 rw [←hW1]
 refine (KN.out _).mono ?_
 clear hW1
 rintro e w1 ⟨rfl,hb⟩
 have V1:=Lib.hid (V0.out.trans (hb.mono V0.out.size))
 have C1:=Lib.hid (C0.out.trans (hb.mono C0.out.size))
 clear hb
 cases b1
 ·go_wp2
  go_ret
  exact ⟨by rw [XE.out];try rfl,C1.out⟩
 obtain ⟨a0,a1,a2,a3,a4,a5⟩:=KX.out _ V1.out
 go_wp2_with fail
 refine (KV.out _ C1.out).mono ?_
 rintro e w2 ⟨rfl,hb⟩
 have V2:=Lib.hid (V1.out.trans (hb.mono V1.out.size))
 have C2:=Lib.hid (C1.out.trans (hb.mono C1.out.size))
 clear hb a0 a1 a2 a3 a4 a5
 cases b2
 ·go_wp2
  go_ret
  exact ⟨by rw [XE.out];try rfl,C2.out⟩
 obtain ⟨a0,a1,a2,a3,a4,a5⟩:=KX.out _ V2.out
 go_wp2_with fail
 refine (KD.out _ C2.out).mono ?_
 rintro e w3 ⟨rfl,hb⟩
 have V3:=Lib.hid (V2.out.trans (hb.mono V2.out.size))
 have C3:=Lib.hid (C2.out.trans (hb.mono C2.out.size))
 clear hb a0 a1 a2 a3 a4 a5
 cases b3
 ·go_wp2
  go_ret
  exact ⟨by rw [XE.out];try rfl,C3.out⟩
 obtain ⟨a0,a1,a2,a3,a4,a5⟩:=KX.out _ V3.out
 go_wp2_with fail
 refine (KR.out _ C3.out).mono ?_
 rintro e w4 ⟨rfl,hb⟩
 have V4:=Lib.hid (V3.out.trans (hb.mono V3.out.size))
 have C4:=Lib.hid (C3.out.trans (hb.mono C3.out.size))
 clear hb a0 a1 a2 a3 a4 a5
 cases b4
 ·go_wp2
  go_ret
  exact ⟨by rw [XE.out];try rfl,C4.out⟩
 by_cases q0:¬(c.length:Int)≤12
 ·have Q:=Lib.hid (show decide (c.length≤12)=false from decide_eq_false (by omega))
  obtain ⟨a0,a1,a2,a3,a4,a5⟩:=KX.out _ V4.out
  go_wp2
  go_ret
  exact ⟨by rw [XE.out,Q.out];try rfl,C4.out⟩
 have q0:=Decidable.not_not.1 q0
 have QC:=Lib.hid (show decide (c.length≤12)=true from decide_eq_true (by omega))
 obtain ⟨a0,a1,a2,a3,a4,a5⟩:=KX.out _ V4.out
 go_wp2_with fail
 refine (KC.out _ C4.out).mono ?_
 rintro e w5 ⟨rfl,hb⟩
 have V5:=Lib.hid (V4.out.trans (hb.mono V4.out.size))
 have C5:=Lib.hid (C4.out.trans (hb.mono C4.out.size))
 clear hb a0 a1 a2 a3 a4 a5
 cases b5
 ·go_wp2
  go_ret
  exact ⟨by rw [XE.out,QC.out];try rfl,C5.out⟩
 by_cases q1:¬(p.length:Int)≤8
 ·have Q:=Lib.hid (show decide (p.length≤8)=false from decide_eq_false (by omega))
  obtain ⟨a0,a1,a2,a3,a4,a5⟩:=KX.out _ V5.out
  go_wp2
  go_ret
  exact ⟨by rw [XE.out,QC.out,Q.out];try rfl,C5.out⟩
 have q1:=Decidable.not_not.1 q1
 have QP:=Lib.hid (show decide (p.length≤8)=true from decide_eq_true (by omega))
 obtain ⟨a0,a1,a2,a3,a4,a5⟩:=KX.out _ V5.out
 go_wp2_with fail
 refine (KP.out _ C5.out).mono ?_
 rintro e w6 ⟨rfl,hb⟩
 have V6:=Lib.hid (V5.out.trans (hb.mono V5.out.size))
 have C6:=Lib.hid (C5.out.trans (hb.mono C5.out.size))
 clear hb a0 a1 a2 a3 a4 a5
 cases b6
 ·go_wp2
  go_ret
  exact ⟨by rw [XE.out,QC.out,QP.out];try rfl,C6.out⟩
 obtain ⟨a0,a1,a2,a3,a4,a5⟩:=KX.out _ V6.out
 go_wp2_with fail
 refine (KG.out _ C6.out).mono ?_
 rintro e w7 ⟨rfl,hb⟩
 have V7:=Lib.hid (V6.out.trans (hb.mono V6.out.size))
 have C7:=Lib.hid (C6.out.trans (hb.mono C6.out.size))
 clear hb a0 a1 a2 a3 a4 a5
 go_wp2
 go_ret
 exact ⟨by rw [XE.out,QC.out,QP.out];try rfl,C7.out⟩
end Go.Proofs.YtpilmhoakopcaaaGreatDoor
namespace Go.Proofs.YtpilmhoakopcaaaGreatDoor
open Go.RowKit Go.Shelf
attribute [local go_sem] Oper.semAt_some
theorem cell_al {w:World} {p:Addr} {v:Value} (o:Obj) (h:w.cell? p=some v):(w.alloc o).cell? p=some v:=(((Below.refl w.heap.size w).alloc (Nat.le_refl _) o).cell (World.block_lt_of_cell? _ _ h)).trans h
theorem atm_info:(Tryz.prog.info? 100).map (fun i=>(i.zero,i.size,i.bytes))=some (some (.agg #[.string { data:=#[] },.int .i64 0,.string { data:=#[] }]),3,40):=by kernel_rfl
end Go.Proofs.YtpilmhoakopcaaaGreatDoor
namespace Go.Proofs.YtpilmhoakopcaaaGreatDoor
open Go.RowKit
structure Pn where
 n:ByteArray
 x:ByteArray
 p:Int
deriving instance DecidableEq for Pn
def star8:ByteArray:={ data:=#[42] }
def visB (c:Nat):Bool:=decide (32 < c)&&(decide (c < 127)&&!decide (c=42))
def rgtN (x:Pn):Bool:=(nameB (B x.n)||decide (x.n=star8))&&(decide (x.x.size≤60)&&((B x.x).all visB&&(decide (-1000≤x.p)&&decide (x.p≤1000))))
theorem star_lt:B star8=[42]:=by decide
def pfx8 (x v:ByteArray):Bool:=decide ((B v).take (B x).length=B x)
def matN (x:Pn) (nm v:ByteArray):Bool:=(decide (x.n=nm)||decide (x.n=star8))&&pfx8 x.x v
def hitN (x:Pn) (nm v:ByteArray):Bool:=decide (x.n=nm)&&pfx8 x.x v
def prioN (l:List Pn) (nm v:ByteArray):Int:=
 match l.find? fun x=>hitN x nm v with
 | some x=>x.p
 | none=>match l.find? fun x=>hitN x star8 v with
  | some x=>x.p
  | none=>500
def maxF (f:ByteArray→Int) (b:Int) (all:List ByteArray):Int:=all.foldl (fun b v=>max b (f v)) b
def lossN (l:List Pn) (nm:ByteArray) (all:List ByteArray) (v:ByteArray):Int:=maxF (prioN l nm) (prioN l nm v) all - prioN l nm v
theorem hit_mat {x:Pn} {nm v:ByteArray}:(decide (x.n=nm)&&matN x nm v)=hitN x nm v:=by
 unfold matN hitN
 by_cases h:x.n=nm
 ·rw [decide_eq_true h];rfl
 ·rw [decide_eq_false h];rfl
theorem hit_star {x:Pn} {nm v:ByteArray}:(decide (x.n=star8)&&matN x nm v)=hitN x star8 v:=by
 unfold matN hitN
 by_cases h:x.n=star8
 ·rw [decide_eq_true h,Bool.or_true];rfl
 ·rw [decide_eq_false h];rfl
theorem maxF_ge (f:ByteArray→Int):∀(all:List ByteArray) (b:Int),b≤maxF f b all∧∀v ∈ all,f v≤maxF f b all
 | [],b=>⟨Int.le_refl _,fun v hv=>by cases hv⟩
 | a::r,b=>by
  obtain ⟨h1,h2⟩:=maxF_ge f r (max b (f a))
  show b≤maxF f (max b (f a)) r∧_
  refine ⟨by omega,fun v hv=>?_⟩
  rcases List.mem_cons.1 hv with rfl|hv
  ·show f v≤maxF f (max b (f v)) r;omega
  ·exact h2 v hv
theorem maxF_is (f:ByteArray→Int):∀(all:List ByteArray) (b:Int),maxF f b all=b∨∃v ∈ all,maxF f b all=f v
 | [],b=>.inl rfl
 | a::r,b=>by
  rcases maxF_is f r (max b (f a)) with h|⟨v,hv,h⟩
  ·rcases Int.le_total b (f a) with q|q
   ·exact .inr ⟨a,List.mem_cons_self ..,by show maxF f (max b (f a)) r=_;rw [h];omega⟩
   ·exact .inl (by show maxF f (max b (f a)) r=_;rw [h];omega)
  ·exact .inr ⟨v,List.mem_cons_of_mem _ hv,h⟩
theorem loss_ge (l:List Pn) (nm:ByteArray) (all:List ByteArray) (v:ByteArray):0≤lossN l nm all v:=by
 have:=(maxF_ge (prioN l nm) all (prioN l nm v)).1
 unfold lossN;omega
theorem prio_in {l:List Pn} {b:Int} (hb:500≤b) (h:∀x ∈ l,-b≤x.p∧x.p≤b) (nm v:ByteArray):-b≤prioN l nm v∧prioN l nm v≤b:=by
 unfold prioN
 split
 ·rename_i x q;exact h x (List.mem_of_find?_eq_some q)
 ·split
  ·rename_i x q;exact h x (List.mem_of_find?_eq_some q)
  ·omega
theorem maxF_in {f:ByteArray→Int} {b c:Int} {all:List ByteArray} (hb:-c≤b∧b≤c) (h:∀v,-c≤f v∧f v≤c):-c≤maxF f b all∧maxF f b all≤c:=by
 rcases maxF_is f all b with q|⟨v,_,q⟩
 ·rw [q];exact hb
 ·rw [q];exact h v
theorem maxF_snoc (f:ByteArray→Int) (b:Int) (all:List ByteArray) (v:ByteArray):maxF f b (all++[v])=max (maxF f b all) (f v):=by unfold maxF;rw [List.foldl_append];rfl
def alw (U:List Ent) (here:List Int) (pn:List Pn):List Int:=(rangU 0 U.length).filter fun p=>decide (0≤prioN pn (entA U p).n (entA U p).v)||here.contains p
def bhdL (U:List Ent) (may:List Int) (p:Int):List Int:=may.filter fun q=>decide (p < q)&&decide ((entA U q).n=(entA U p).n)
def bhd (U:List Ent) (here:List Int) (pn:List Pn) (p:Int):Int:=if 0≤p∧p < (U.length:Int) then ((bhdL U (alw U here pn) p).length:Int) else 0
def wnP (U:List Ent) (l:List Int) (p:Int):Nat:=((entA U p).r.filter fun g=>!metS U l g).length
def wnS (U:List Ent) (l m:List Int):Nat:=(m.map (wnP U l)).sum
def wnt (U:List Ent) (l:List Int):Int:=if setB U.length l=true then (wnS U l l:Int) else 0
def verU (U:List Ent) (n:ByteArray):List ByteArray:=(U.filter fun x=>decide (x.n=n)).map (·.v)
def los (U:List Ent) (pn:List Pn) (p:Int):Int:=lossN pn (entA U p).n (verU U (entA U p).n) (entA U p).v
def inP (U:List Ent) (here:List Int) (n:ByteArray):Int:=((here.find? fun p=>decide ((entA U p).n=n))).getD (-1)
def smU (U:List Ent) (l:List Int) (p:Int):Bool:=l.any fun q=>decide ((entA U q).n=(entA U p).n)
def c0S (U:List Ent) (here l:List Int):Int:=((here.filter fun p=>!smU U l p).length:Nat)
def c1S (U:List Ent) (pn:List Pn) (l:List Int):Int:=(l.map (los U pn)).sum
def c2S (U:List Ent) (here:List Int) (pn:List Pn) (up:Bool) (l:List Int):Int:=if up=true then (l.map (bhd U here pn)).sum else ((here.filter fun p=>smU U l p&&!l.contains p).length:Nat)
def c4S (U:List Ent) (here l:List Int):Int:=((l.filter fun p=>decide (inP U here (entA U p).n < 0)).length:Nat)
def w2P (U:List Ent) (here:List Int) (pn:List Pn) (up:Bool) (p:Int):Int:=if up=true then bhd U here pn p else if 0≤inP U here (entA U p).n∧inP U here (entA U p).n≠p then 1 else 0
def w4P (U:List Ent) (here:List Int) (p:Int):Int:=if inP U here (entA U p).n < 0 then 1 else 0
theorem alw_mem {U:List Ent} {here:List Int} {pn:List Pn} {p:Int}:p ∈ alw U here pn↔(0≤p∧p < (U.length:Int))∧(0≤prioN pn (entA U p).n (entA U p).v∨p ∈ here):=by
 unfold alw
 rw [List.mem_filter,rangU_mem]
 simp
theorem alw_set (U:List Ent) (here:List Int) (pn:List Pn):SetP U.length (alw U here pn):=⟨fun p hp=>(alw_mem.1 hp).1,List.Pairwise.filter _ (rangU_ris U.length 0)⟩
theorem alw_here {U:List Ent} {here:List Int} {pn:List Pn} (h:SetP U.length here) {p:Int} (hp:p ∈ here):p ∈ alw U here pn:=alw_mem.2 ⟨h.1 p hp,.inr hp⟩
theorem bhd_ge (U:List Ent) (here:List Int) (pn:List Pn) (p:Int):0≤bhd U here pn p:=by
 unfold bhd;split<;>omega
theorem bhd_out {U:List Ent} {here:List Int} {pn:List Pn} {p:Int} (h:¬(0≤p∧p < (U.length:Int))):bhd U here pn p=0:=if_neg h
theorem los_ge (U:List Ent) (pn:List Pn) (p:Int):0≤los U pn p:=loss_ge _ _ _ _
theorem inP_some {U:List Ent} {here:List Int} {n:ByteArray} (hh:∀p ∈ here,0≤p):(0≤inP U here n↔∃p ∈ here,(entA U p).n=n)∧(0≤inP U here n→inP U here n ∈ here∧(entA U (inP U here n)).n=n):=by
 unfold inP
 cases e:here.find? fun p=>decide ((entA U p).n=n) with
 | none=>
  rw [List.find?_eq_none] at e
  simp only [Option.getD_none]
  refine ⟨⟨fun h=>by omega,fun ⟨p,hp,hn⟩=>absurd (decide_eq_true hn) (e p hp)⟩,fun h=>by omega⟩
 | some q=>
  have h1:=List.mem_of_find?_eq_some e
  have h2:(entA U q).n=n:=by have:=List.find?_some e;exact of_decide_eq_true this
  simp only [Option.getD_some]
  exact ⟨⟨fun _=>⟨q,h1,h2⟩,fun _=>hh q h1⟩,fun _=>⟨h1,h2⟩⟩
theorem nm_up {U:List Ent} (hU:Srt9 U) {p q:Int} (hp:0≤p) (hq:q < (U.length:Int)) (h:p < q):(entA U p).n=(entA U q).n∨blt (entA U p).n (entA U q).n:=by
 obtain ⟨a,rfl⟩:=Int.eq_ofNat_of_zero_le hp
 obtain ⟨b,rfl⟩:=Int.eq_ofNat_of_zero_le (show 0≤q by omega)
 have hb:b < U.length:=by omega
 have ha:a < U.length:=by omega
 rw [entA_at ha,entA_at hb]
 exact les_nm ((List.pairwise_iff_getElem.1 hU) a b ha hb (by omega))
def NmB (U:List Ent) (s:List Int):Prop:=s.Pairwise fun p q=>blt (entA U p).n (entA U q).n
theorem nm_adj {U:List Ent} (hU:Srt9 U) {s:List Int} (hs:SetP U.length s) (h:∀i (hi:i+1 < s.length),(entA U s[i+1]).n≠(entA U s[i]).n):NmB U s:=by
 refine List.pairwise_iff_getElem.2 fun i j hi hj hij=>?_
 have r:=List.pairwise_iff_getElem.1 hs.2
 have hi1:i+1 < s.length:=by omega
 have e1:blt (entA U s[i]).n (entA U s[i+1]).n:=by
  rcases nm_up hU (hs.1 _ (List.getElem_mem hi)).1 (hs.1 _ (List.getElem_mem hi1)).2 (r i (i+1) hi hi1 (by omega)) with q|q
  ·exact absurd q.symm (h i hi1)
  ·exact q
 by_cases e:j=i+1
 ·subst e;exact e1
 ·rcases nm_up hU (hs.1 _ (List.getElem_mem hi1)).1 (hs.1 _ (List.getElem_mem hj)).2 (r (i+1) j hi1 hj (by omega)) with q|q
  ·rw [←q];exact e1
  ·exact blt_tr e1 q
theorem nm_inj {U:List Ent} {s:List Int} (hn:NmB U s) {p q:Int} (hp:p ∈ s) (hq:q ∈ s) (e:(entA U p).n=(entA U q).n):p=q:=by
 obtain ⟨i,hi,rfl⟩:=List.getElem_of_mem hp
 obtain ⟨j,hj,rfl⟩:=List.getElem_of_mem hq
 have r:=List.pairwise_iff_getElem.1 hn
 rcases Nat.lt_trichotomy i j with h|h|h
 ·have:=r i j hi hj h;rw [e] at this;exact absurd this (blt_self _)
 ·subst h;rfl
 ·have:=r j i hj hi h;rw [e] at this;exact absurd this (blt_self _)
theorem ins_nm {U:List Ent} (hU:Srt9 U):∀{m:List Hr},Ris (m.map fun y=>y.e.n)→(∀y ∈ m,y.e ∈ U)→NmB U (insU U m)
 | [],_,_=>List.Pairwise.nil
 | y::r,hr,hm=>by
  unfold Ris at hr
  rw [List.map_cons] at hr
  obtain ⟨r1,r2⟩:=List.pairwise_cons.1 hr
  have ih:=ins_nm hU (m:=r) r2 fun z hz=>hm z (List.mem_cons_of_mem _ hz)
  have at_:∀z ∈ y::r,(entA U (plU z.e.n z.e.v U 0)).n=z.e.n:=fun z hz=>by
   obtain ⟨a,ha,ea⟩:=List.getElem_of_mem (hm z hz)
   rw [←ea,plU_at hU ha 0,Nat.zero_add,entA_at ha]
  unfold insU NmB at *
  rw [List.map_cons]
  refine List.pairwise_cons.2 ⟨fun p hp=>?_,ih⟩
  obtain ⟨z,hz,rfl⟩:=List.mem_map.1 hp
  rw [at_ y (List.mem_cons_self ..),at_ z (List.mem_cons_of_mem _ hz)]
  exact r1 _ (List.mem_map.2 ⟨z,hz,rfl⟩)
theorem sum_ind {α:Type} {c:α→Prop} [DecidablePred c]:∀(l:List α),(l.map fun p=>if c p then (1:Int) else 0).sum=((l.filter fun p=>decide (c p)).length:Nat)
 | []=>rfl
 | a::r=>by
  have ih:=sum_ind (c:=c) r
  rw [List.map_cons,List.sum_cons,ih,List.filter_cons]
  by_cases h:c a
  ·rw [if_pos h,if_pos (decide_eq_true h),List.length_cons];omega
  ·rw [if_neg h,if_neg (by simpa using h)];omega
theorem w4_sum {U:List Ent} {here s:List Int}:(s.map (w4P U here)).sum=c4S U here s:=sum_ind (c:=fun p=>inP U here (entA U p).n < 0) s
theorem bhd_at {U:List Ent} {may:List Int} (hm:SetP U.length may) {i:Nat} (hi:i < may.length):bhdL U may may[i]=(may.drop (i+1)).filter fun q=>decide ((entA U q).n=(entA U may[i]).n):=by
 have r:=List.pairwise_iff_getElem.1 hm.2
 have key:∀P:Int→Bool,may.filter P=(may.take (i+1)).filter P++(may.drop (i+1)).filter P:=fun P=>by rw [←List.filter_append,List.take_append_drop]
 unfold bhdL
 rw [key]
 have h1:((may.take (i+1)).filter fun q=>decide (may[i] < q)&&decide ((entA U q).n=(entA U may[i]).n))=[]:=by
  refine List.filter_eq_nil_iff.2 fun q hq=>?_
  obtain ⟨j,hj,rfl⟩:=List.getElem_of_mem hq
  rw [List.getElem_take]
  have hj':j < i+1:=by rw [List.length_take] at hj;omega
  have:¬may[i] < may[j]'(by omega):=by
   rcases Nat.lt_or_eq_of_le (Nat.lt_succ_iff.1 hj') with q|q
   ·have:=r j i (by omega) hi q;omega
   ·subst q;omega
  simp [this]
 rw [h1,List.nil_append]
 refine List.filter_congr fun q hq=>?_
 obtain ⟨j,hj,rfl⟩:=List.getElem_of_mem hq
 rw [List.getElem_drop]
 rw [List.length_drop] at hj
 rw [decide_eq_true (r i (i+1+j) hi (by omega) (by omega)),Bool.true_and]
theorem bhd_next {U:List Ent} (hU:Srt9 U) {may:List Int} (hm:SetP U.length may) {i:Nat} (hi:i < may.length) :
  (∀h:i+1 < may.length,(entA U may[i+1]).n=(entA U may[i]).n→(bhdL U may may[i]).length=(bhdL U may may[i+1]).length+1)∧((¬∃h:i+1 < may.length,(entA U may[i+1]).n=(entA U may[i]).n)→(bhdL U may may[i]).length=0):=by
 have r:=List.pairwise_iff_getElem.1 hm.2
 constructor
 ·intro h e
  rw [bhd_at hm hi,bhd_at hm h,List.drop_eq_getElem_cons h,List.filter_cons,if_pos (decide_eq_true e),List.length_cons,e]
 ·intro h
  rw [bhd_at hm hi,List.length_eq_zero_iff]
  refine List.filter_eq_nil_iff.2 fun q hq=>?_
  obtain ⟨j,hj,rfl⟩:=List.getElem_of_mem hq
  rw [List.getElem_drop]
  rw [List.length_drop] at hj
  have h1:i+1 < may.length:=by omega
  have n1:(entA U may[i+1]).n≠(entA U may[i]).n:=fun e=>h ⟨h1,e⟩
  have e1:blt (entA U may[i]).n (entA U may[i+1]).n:=by
   rcases nm_up hU (hm.1 _ (List.getElem_mem hi)).1 (hm.1 _ (List.getElem_mem h1)).2 (r i (i+1) hi h1 (by omega)) with q|q
   ·exact absurd q.symm n1
   ·exact q
  have e2:blt (entA U may[i]).n (entA U (may[i+1+j]'(by omega))).n:=by
   by_cases z:j=0
   ·subst z;exact e1
   ·rcases nm_up hU (hm.1 _ (List.getElem_mem h1)).1 (hm.1 _ (List.getElem_mem (show i+1+j < may.length by omega))).2 (r (i+1) (i+1+j) h1 (by omega) (by omega)) with q|q
    ·rw [←q];exact e1
    ·exact blt_tr e1 q
  simp only [decide_eq_true_eq]
  intro e
  rw [e] at e2
  exact blt_self _ e2
theorem setL_last {l:List Int} {p:Int} (h0:0≤p) (hp:p ∈ l):∃r,setL l (p.toNat+1)=r++[p]:=by
 obtain ⟨j,rfl⟩:=Int.eq_ofNat_of_zero_le h0
 rw [Int.toNat_natCast]
 unfold setL
 rw [List.range_succ,List.filter_append,List.map_append]
 refine ⟨((List.range j).filter fun i:Nat=>l.contains (i:Int)).map fun i:Nat=>(i:Int),?_⟩
 rw [show ([j].filter fun i:Nat=>l.contains (i:Int))=[j] from by rw [List.filter_cons,if_pos (by simpa using hp),List.filter_nil]]
 rfl
end Go.Proofs.YtpilmhoakopcaaaGreatDoor
