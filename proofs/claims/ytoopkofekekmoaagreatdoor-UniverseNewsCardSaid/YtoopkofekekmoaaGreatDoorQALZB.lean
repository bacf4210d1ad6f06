/- What the laws rest on: Rel3, VerShown, Rel4, RelRef, D4d, D4m, P6a, P6b. -/
import Derived.Laws.StructEq
import Derived.Test.YtoopkofekekmoaaGreatDoorQAKZB
set_option maxRecDepth 100000
set_option linter.unusedVariables false
set_option linter.unusedSimpArgs false
namespace Go.Proofs.YtoopkofekekmoaaGreatDoor
open Go.RowKit
structure EnvR (w:World):Prop where
 env:Env w
 sgn:Sgn w
theorem EnvR.below {w w':World} (E:EnvR w) (h:Below w.heap.size w w'):EnvR w':=⟨E.env.below h,E.sgn.below h⟩
theorem EnvR.alloc {w:World} (E:EnvR w) (o:Obj):EnvR (w.alloc o):=E.below ((Below.refl _ w).alloc (Nat.le_refl _) _)
theorem vparse_open3 (s:ByteArray):∃(E e:Int) (U R:ByteArray),E=parse1 (B s)∧e=parseE (B s)∧B U=parse2 (B s)∧B R=parse3 (B s)∧U.size≤60∧R.size≤60∧
  ∀w,Env w→Calls Tryz.prog 103 #[.string s] w fun e' w'=>e'=.returned (.tuple #[.agg #[.int .i64 E,.string U,.string R],.int .i64 e])∧Below w.heap.size w w':=
 ⟨_,_,_,_,rfl,rfl,B_mk (parse2_lt s),B_mk (parse3_lt s),by rw [size_mk];exact parse2_len _,by rw [size_mk];exact parse3_len _,fun w E=>vparse_any s w E⟩
theorem printL_lt (e:Int) (u r:ByteArray):∀c ∈ printL e (B u) (B r),c < 256:=by
 unfold printL
 split
 ·exact textL_lt _ u r
 ·intro c hc;cases hc
theorem rprinted_any (s:ByteArray) (w:World) (E:Env w):Calls Tryz.prog 109 #[.string s] w fun e' w'=>e'=.returned (.bool (prB (B s)))∧Below w.heap.size w w':=by
 obtain ⟨ep,e,U,R,h1,h2,h3,h4,z2,z3,cp⟩:=vparse_open3 s
 have X:prB (B s)=(decide (e=0)&&decide (printL ep (B U) (B R)=B s)):=by unfold prB;rw [h1,h2,h3,h4]
 have CP:=Lib.hid cp
 have CT:=Lib.hid (fun w E=>vprint_any ep U R w (by omega) (by omega) E)
 have hst:=strEq (printL ep (B U) (B R)) s (printL_lt ep U R)
 have HE:=Lib.hid E
 clear cp E h1 h2 h3 h4
 by_cases he:e=0
 ·have t1:(e==0)=true:=by rw [beq_iff_eq];exact he
  rw [decide_eq_true he,Bool.true_and] at X
  rw [←X] at hst
  generalize prB (B s)=b at *
  generalize mk (printL ep (B U) (B R))=T at *
  clear X
  go_enter Tryz.func109,Tryz.ntmps109
  go_wp2_with fail
  refine (CP.out _ HE.out).mono ?_
  rintro e' w1 ⟨rfl,hb1⟩
  have B1:=Lib.hid (show Below w.heap.size w (w1.alloc (.cells #[.int .i64 ep,.string U,.string R] 119)) from hb1.alloc hb1.size _)
  clear hb1
  go_wp2_with fail
  refine (CT.out _ (HE.out.below B1.out)).mono ?_
  rintro e' w2 ⟨rfl,hb2⟩
  have B2:=Lib.hid (bel_2 B1.out hb2)
  clear hb2
  go_wp2
  go_ret
  exact ⟨rfl,B2.out⟩
 ·have t1:(e==0)=false:=by rw [beq_eq_false_iff_ne];exact he
  rw [decide_eq_false he,Bool.false_and] at X
  have XX:=Lib.hid X
  clear X hst CT he
  go_enter Tryz.func109,Tryz.ntmps109
  go_wp2_with fail
  refine (CP.out _ HE.out).mono ?_
  rintro e' w1 ⟨rfl,hb1⟩
  have B1:=Lib.hid (show Below w.heap.size w (w1.alloc (.cells #[.int .i64 ep,.string U,.string R] 119)) from hb1.alloc hb1.size _)
  clear hb1
  go_wp2
  go_ret
  exact ⟨by rw [XX.out];rfl,B1.out⟩
theorem rholds_zero (a b:ByteArray) (w:World):Calls Tryz.prog 71 #[.int .i64 0,.string a,.string b] w fun e' w'=>e'=.returned (.bool (holdB 0 (B a) (B b)))∧Below w.heap.size w w':=by
 have X:=Lib.hid (show holdB 0 (B a) (B b)=true from rfl)
 go_enter Tryz.func71,Tryz.ntmps71
 go_wp2
 go_ret
 exact ⟨by rw [X.out];rfl,Below.refl _ _⟩
theorem rholds_any (op:Int) (a b:ByteArray) (w:World) (E:Env w):Calls Tryz.prog 71 #[.int .i64 op,.string a,.string b] w fun e' w'=>e'=.returned (.bool (holdB op (B a) (B b)))∧Below w.heap.size w w':=by
 by_cases h0:op=0
 ·subst h0;exact rholds_zero a b w
 obtain ⟨ep,e,U,R,h1,h2,h3,h4,z2,z3,ca⟩:=vparse_open3 a
 obtain ⟨fp,f,V,S,i1,i2,i3,i4,y2,y3,cb⟩:=vparse_open3 b
 have X:holdB op (B a) (B b)=(decide (e=0)&&decide (f=0)&&opB op (if e≠0 then (if f≠0 then 0 else -1) else if f≠0 then 1 else cmpV ep (B U) (B R) fp (B V) (B S))):=by
  unfold holdB orderV;rw [decide_eq_false h0,Bool.false_or,h1,h2,h3,h4,i1,i2,i3,i4]
 have CA:=Lib.hid ca
 have CB:=Lib.hid cb
 have CV:=Lib.hid (fun w=>vcompare_any ep fp U R V S w (by omega) (by omega) (by omega) (by omega))
 have HE:=Lib.hid E
 have t0:(op==0)=false:=by rw [beq_eq_false_iff_ne];exact h0
 clear ca cb E h1 h2 h3 h4 i1 i2 i3 i4
 generalize holdB op (B a) (B b)=O at *
 generalize cmpV ep (B U) (B R) fp (B V) (B S)=C at *
 by_cases he:e=0
 ·have t1:(e != 0)=false:=by rw [bne_eq_false_iff_eq];exact he
  by_cases hf:f=0
  ·have t2:(f != 0)=false:=by rw [bne_eq_false_iff_eq];exact hf
   rw [decide_eq_true he,decide_eq_true hf,Bool.true_and,Bool.true_and,if_neg (by simp [he]),if_neg (by simp [hf])] at X
   have XX:=Lib.hid X
   clear X he hf h0
   by_cases o1:op=1
   ·subst o1
    go_enter Tryz.func71,Tryz.ntmps71
    go_wp2_with fail
    refine (CA.out _ HE.out).mono ?_
    rintro e' w1 ⟨rfl,hb1⟩
    have B1:=Lib.hid (show Below w.heap.size w (w1.alloc (.cells #[.int .i64 ep,.string U,.string R] 119)) from hb1.alloc hb1.size _)
    have s1:=hb1.size
    clear hb1
    go_wp2_with fail
    refine (CB.out _ (HE.out.below B1.out)).mono ?_
    rintro e' w2 ⟨rfl,hb2⟩
    obtain ⟨c0,c1,c2,s2⟩:=box_cells hb2
    have B2:=Lib.hid (show Below w.heap.size w (w2.alloc (.cells #[.int .i64 fp,.string V,.string S] 119)) from (bel_2 B1.out hb2).alloc (bel_2 B1.out hb2).size _)
    clear hb2
    have s3:w1.heap.size < w2.heap.size:=by omega
    go_wp2_with fail
    refine (CV.out _).mono ?_
    rintro e' w3 ⟨rfl,hb3⟩
    have B3:=Lib.hid (bel_2 B2.out hb3)
    clear hb3
    go_wp2
    go_ret
    exact ⟨by rw [XX.out];rfl,B3.out⟩
   by_cases o2:op=2
   ·subst o2
    go_enter Tryz.func71,Tryz.ntmps71
    go_wp2_with fail
    refine (CA.out _ HE.out).mono ?_
    rintro e' w1 ⟨rfl,hb1⟩
    have B1:=Lib.hid (show Below w.heap.size w (w1.alloc (.cells #[.int .i64 ep,.string U,.string R] 119)) from hb1.alloc hb1.size _)
    have s1:=hb1.size
    clear hb1
    go_wp2_with fail
    refine (CB.out _ (HE.out.below B1.out)).mono ?_
    rintro e' w2 ⟨rfl,hb2⟩
    obtain ⟨c0,c1,c2,s2⟩:=box_cells hb2
    have B2:=Lib.hid (show Below w.heap.size w (w2.alloc (.cells #[.int .i64 fp,.string V,.string S] 119)) from (bel_2 B1.out hb2).alloc (bel_2 B1.out hb2).size _)
    clear hb2
    have s3:w1.heap.size < w2.heap.size:=by omega
    go_wp2_with fail
    refine (CV.out _).mono ?_
    rintro e' w3 ⟨rfl,hb3⟩
    have B3:=Lib.hid (bel_2 B2.out hb3)
    clear hb3
    go_wp2
    go_ret
    exact ⟨by rw [XX.out];rfl,B3.out⟩
   by_cases o3:op=3
   ·subst o3
    go_enter Tryz.func71,Tryz.ntmps71
    go_wp2_with fail
    refine (CA.out _ HE.out).mono ?_
    rintro e' w1 ⟨rfl,hb1⟩
    have B1:=Lib.hid (show Below w.heap.size w (w1.alloc (.cells #[.int .i64 ep,.string U,.string R] 119)) from hb1.alloc hb1.size _)
    have s1:=hb1.size
    clear hb1
    go_wp2_with fail
    refine (CB.out _ (HE.out.below B1.out)).mono ?_
    rintro e' w2 ⟨rfl,hb2⟩
    obtain ⟨c0,c1,c2,s2⟩:=box_cells hb2
    have B2:=Lib.hid (show Below w.heap.size w (w2.alloc (.cells #[.int .i64 fp,.string V,.string S] 119)) from (bel_2 B1.out hb2).alloc (bel_2 B1.out hb2).size _)
    clear hb2
    have s3:w1.heap.size < w2.heap.size:=by omega
    go_wp2_with fail
    refine (CV.out _).mono ?_
    rintro e' w3 ⟨rfl,hb3⟩
    have B3:=Lib.hid (bel_2 B2.out hb3)
    clear hb3
    go_wp2
    go_ret
    exact ⟨by rw [XX.out];rfl,B3.out⟩
   by_cases o4:op=4
   ·subst o4
    go_enter Tryz.func71,Tryz.ntmps71
    go_wp2_with fail
    refine (CA.out _ HE.out).mono ?_
    rintro e' w1 ⟨rfl,hb1⟩
    have B1:=Lib.hid (show Below w.heap.size w (w1.alloc (.cells #[.int .i64 ep,.string U,.string R] 119)) from hb1.alloc hb1.size _)
    have s1:=hb1.size
    clear hb1
    go_wp2_with fail
    refine (CB.out _ (HE.out.below B1.out)).mono ?_
    rintro e' w2 ⟨rfl,hb2⟩
    obtain ⟨c0,c1,c2,s2⟩:=box_cells hb2
    have B2:=Lib.hid (show Below w.heap.size w (w2.alloc (.cells #[.int .i64 fp,.string V,.string S] 119)) from (bel_2 B1.out hb2).alloc (bel_2 B1.out hb2).size _)
    clear hb2
    have s3:w1.heap.size < w2.heap.size:=by omega
    go_wp2_with fail
    refine (CV.out _).mono ?_
    rintro e' w3 ⟨rfl,hb3⟩
    have B3:=Lib.hid (bel_2 B2.out hb3)
    clear hb3
    go_wp2
    go_ret
    exact ⟨by rw [XX.out];rfl,B3.out⟩
   by_cases o5:op=5
   ·subst o5
    go_enter Tryz.func71,Tryz.ntmps71
    go_wp2_with fail
    refine (CA.out _ HE.out).mono ?_
    rintro e' w1 ⟨rfl,hb1⟩
    have B1:=Lib.hid (show Below w.heap.size w (w1.alloc (.cells #[.int .i64 ep,.string U,.string R] 119)) from hb1.alloc hb1.size _)
    have s1:=hb1.size
    clear hb1
    go_wp2_with fail
    refine (CB.out _ (HE.out.below B1.out)).mono ?_
    rintro e' w2 ⟨rfl,hb2⟩
    obtain ⟨c0,c1,c2,s2⟩:=box_cells hb2
    have B2:=Lib.hid (show Below w.heap.size w (w2.alloc (.cells #[.int .i64 fp,.string V,.string S] 119)) from (bel_2 B1.out hb2).alloc (bel_2 B1.out hb2).size _)
    clear hb2
    have s3:w1.heap.size < w2.heap.size:=by omega
    go_wp2_with fail
    refine (CV.out _).mono ?_
    rintro e' w3 ⟨rfl,hb3⟩
    have B3:=Lib.hid (bel_2 B2.out hb3)
    clear hb3
    go_wp2
    go_ret
    exact ⟨by rw [XX.out];rfl,B3.out⟩
   have ZZ:opB op C=false:=by unfold opB;rw [if_neg o1,if_neg o2,if_neg o3,if_neg o4,if_neg o5]
   rw [ZZ] at XX
   have u1:(op==1)=false:=by rw [beq_eq_false_iff_ne];exact o1
   have u2:(op==2)=false:=by rw [beq_eq_false_iff_ne];exact o2
   have u3:(op==3)=false:=by rw [beq_eq_false_iff_ne];exact o3
   have u4:(op==4)=false:=by rw [beq_eq_false_iff_ne];exact o4
   have u5:(op==5)=false:=by rw [beq_eq_false_iff_ne];exact o5
   clear o1 o2 o3 o4 o5 ZZ
   go_enter Tryz.func71,Tryz.ntmps71
   go_wp2_with fail
   refine (CA.out _ HE.out).mono ?_
   rintro e' w1 ⟨rfl,hb1⟩
   have B1:=Lib.hid (show Below w.heap.size w (w1.alloc (.cells #[.int .i64 ep,.string U,.string R] 119)) from hb1.alloc hb1.size _)
   have s1:=hb1.size
   clear hb1
   go_wp2_with fail
   refine (CB.out _ (HE.out.below B1.out)).mono ?_
   rintro e' w2 ⟨rfl,hb2⟩
   obtain ⟨c0,c1,c2,s2⟩:=box_cells hb2
   have B2:=Lib.hid (show Below w.heap.size w (w2.alloc (.cells #[.int .i64 fp,.string V,.string S] 119)) from (bel_2 B1.out hb2).alloc (bel_2 B1.out hb2).size _)
   clear hb2
   have s3:w1.heap.size < w2.heap.size:=by omega
   go_wp2_with fail
   refine (CV.out _).mono ?_
   rintro e' w3 ⟨rfl,hb3⟩
   have B3:=Lib.hid (bel_2 B2.out hb3)
   clear hb3
   go_wp2
   go_ret
   exact ⟨by rw [XX.out];rfl,B3.out⟩
  ·have t2:(f != 0)=true:=by rw [bne_iff_ne];exact hf
   rw [decide_eq_false hf,Bool.and_false,Bool.false_and] at X
   have XX:=Lib.hid X
   clear X he hf h0
   go_enter Tryz.func71,Tryz.ntmps71
   go_wp2_with fail
   refine (CA.out _ HE.out).mono ?_
   rintro e' w1 ⟨rfl,hb1⟩
   have B1:=Lib.hid (show Below w.heap.size w (w1.alloc (.cells #[.int .i64 ep,.string U,.string R] 119)) from hb1.alloc hb1.size _)
   have s1:=hb1.size
   clear hb1
   go_wp2_with fail
   refine (CB.out _ (HE.out.below B1.out)).mono ?_
   rintro e' w2 ⟨rfl,hb2⟩
   obtain ⟨c0,c1,c2,s2⟩:=box_cells hb2
   have B2:=Lib.hid (show Below w.heap.size w (w2.alloc (.cells #[.int .i64 fp,.string V,.string S] 119)) from (bel_2 B1.out hb2).alloc (bel_2 B1.out hb2).size _)
   clear hb2
   go_wp2
   go_ret
   exact ⟨by rw [XX.out];rfl,B2.out⟩
 ·have t1:(e != 0)=true:=by rw [bne_iff_ne];exact he
  rw [decide_eq_false he,Bool.false_and,Bool.false_and] at X
  have XX:=Lib.hid X
  clear X he h0
  go_enter Tryz.func71,Tryz.ntmps71
  go_wp2_with fail
  refine (CA.out _ HE.out).mono ?_
  rintro e' w1 ⟨rfl,hb1⟩
  have B1:=Lib.hid (show Below w.heap.size w (w1.alloc (.cells #[.int .i64 ep,.string U,.string R] 119)) from hb1.alloc hb1.size _)
  have s1:=hb1.size
  clear hb1
  go_wp2_with fail
  refine (CB.out _ (HE.out.below B1.out)).mono ?_
  rintro e' w2 ⟨rfl,hb2⟩
  obtain ⟨c0,c1,c2,s2⟩:=box_cells hb2
  have B2:=Lib.hid (show Below w.heap.size w (w2.alloc (.cells #[.int .i64 fp,.string V,.string S] 119)) from (bel_2 B1.out hb2).alloc (bel_2 B1.out hb2).size _)
  clear hb2
  go_wp2
  go_ret
  exact ⟨by rw [XX.out];rfl,B2.out⟩
theorem p1:parseV ⟨#[49,58,50,46,48,45,51]⟩=.tuple #[.agg #[.int .i64 1,.string ⟨#[50,46,48]⟩,.string ⟨#[51]⟩],.int .i64 0]:=by kernel_rfl
theorem p2:parseV ⟨#[50,45,49,45,51]⟩=.tuple #[.agg #[.int .i64 0,.string ⟨#[50,45,49]⟩,.string ⟨#[51]⟩],.int .i64 0]:=by kernel_rfl
theorem q1:cmpS (B ⟨#[49,46,48,126,114,99,49]⟩) (B ⟨#[49,46,48]⟩)=-1:=by kernel_rfl
theorem q2:cmpS (B ⟨#[49,46,49,48]⟩) (B ⟨#[49,46,57]⟩)=1:=by kernel_rfl
theorem empty_is (v:ByteArray):v.toList.isEmpty=decide (B v=[]):=by
 rw [toList_data]
 unfold B
 cases h:v.data.toList<;>simp
theorem sign_some {op:Int} (h:1≤op∧op≤5):(mk (signL op)).toList.isEmpty=false:=by
 rw [mk_empty]
 have:op=1∨op=2∨op=3∨op=4∨op=5:=by omega
 rcases this with rfl|rfl|rfl|rfl|rfl<;>rfl
theorem sign_none {op:Int} (h:¬(1≤op∧op≤5)):(mk (signL op)).toList.isEmpty=true:=by
 rw [mk_empty,signL_out (by omega)];rfl
theorem rright_any (n:ByteArray) (op:Int) (v:ByteArray) (w:World) (E:EnvR w):Calls Tryz.prog 76 #[.agg #[.string n,.int .i64 op,.string v]] w fun e' w'=>e'=.returned (.bool (rightA (B n) op (B v)))∧Below w.heap.size w w':=by
 have HE:=Lib.hid E
 clear E
 cases hn:nameB (B n)
 ·have X:=Lib.hid (show rightA (B n) op (B v)=false by unfold rightA;rw [hn];rfl)
  have KN:=Lib.hid (fun w=>rname_any n w)
  rw [hn] at KN
  clear hn
  go_enter Tryz.func76,Tryz.ntmps76
  go_wp2_with fail
  refine (KN.out _).mono ?_
  rintro e' w1 ⟨rfl,hb⟩
  have B1:=Lib.hid (bel_boxed hb)
  clear hb
  go_wp2
  go_ret
  exact ⟨by rw [X.out];rfl,B1.out⟩
 ·have KN:=Lib.hid (fun w=>rname_any n w)
  rw [hn] at KN
  by_cases h0:op=0
  ·subst h0
   have X:=Lib.hid (show v.toList.isEmpty=rightA (B n) 0 (B v) by unfold rightA;rw [hn,if_pos rfl,Bool.true_and,empty_is])
   clear hn
   go_enter Tryz.func76,Tryz.ntmps76
   go_wp2_with fail
   refine (KN.out _).mono ?_
   rintro e' w1 ⟨rfl,hb⟩
   have B1:=Lib.hid (bel_boxed hb)
   obtain ⟨c0,c1,c2,s1⟩:=box_cells hb
   clear hb
   go_wp2
   go_ret
   exact ⟨by rw [←X.out];rfl,B1.out⟩
  ·have t0:(op==0)=false:=by rw [beq_eq_false_iff_ne];exact h0
   have KS:=Lib.hid (fun w E=>rsign_any op w E)
   by_cases ho:1≤op∧op≤5
   ·have X:=Lib.hid (show rightA (B n) op (B v)=prB (B v) by unfold rightA;rw [hn,if_neg h0,Bool.true_and,decide_eq_true ho,Bool.true_and])
    have KP:=Lib.hid (fun w E=>rprinted_any v w E)
    have t1:=sign_some ho
    generalize mk (signL op)=sg at *
    clear hn h0 ho
    go_enter Tryz.func76,Tryz.ntmps76
    go_wp2_with fail
    refine (KN.out _).mono ?_
    rintro e' w1 ⟨rfl,hb⟩
    have B1:=Lib.hid (bel_boxed hb)
    obtain ⟨c0,c1,c2,s1⟩:=box_cells hb
    clear hb
    go_wp2_with fail
    refine (KS.out _ (HE.out.below B1.out).sgn).mono ?_
    rintro e' w2 ⟨rfl,rfl⟩
    go_wp2_with fail
    refine (KP.out _ (HE.out.below B1.out).env).mono ?_
    rintro e' w2 ⟨rfl,hb⟩
    have B2:=Lib.hid (bel_2 B1.out hb)
    clear hb
    go_wp2
    go_ret
    exact ⟨by rw [X.out];rfl,B2.out⟩
   ·have X:=Lib.hid (show rightA (B n) op (B v)=false by unfold rightA;rw [if_neg h0,decide_eq_false ho,Bool.false_and,Bool.and_false])
    have t1:=sign_none ho
    generalize mk (signL op)=sg at *
    clear hn h0 ho
    go_enter Tryz.func76,Tryz.ntmps76
    go_wp2_with fail
    refine (KN.out _).mono ?_
    rintro e' w1 ⟨rfl,hb⟩
    have B1:=Lib.hid (bel_boxed hb)
    obtain ⟨c0,c1,c2,s1⟩:=box_cells hb
    clear hb
    go_wp2_with fail
    refine (KS.out _ (HE.out.below B1.out).sgn).mono ?_
    rintro e' w2 ⟨rfl,rfl⟩
    go_wp2
    go_ret
    exact ⟨by rw [X.out];rfl,B1.out⟩
theorem strings_eq (x y:ByteArray):(x.toList==y.toList)=decide (B x=B y):=by
 have:=strEq (B x) y (B_lt x)
 rwa [mk_B] at this
def provB (n:List Nat) (op:Int) (v gn:List Nat) (gop:Int) (gv:List Nat):Bool:=decide (n=gn)&&(decide (op=0)||(decide (gop=3)&&holdB op gv v))
theorem rprov_any (n:ByteArray) (op:Int) (v gn:ByteArray) (gop:Int) (gv:ByteArray) (w:World) (E:EnvR w):Calls Tryz.prog 52 #[.agg #[.string n,.int .i64 op,.string v],.agg #[.string gn,.int .i64 gop,.string gv]] w fun e' w'=>e'=.returned (.bool (provB (B n) op (B v) (B gn) gop (B gv)))∧Below w.heap.size w w':=by
 have HE:=Lib.hid E
 clear E
 have hs:=strings_eq n gn
 have B0:=Lib.hid (show Below w.heap.size w ((w.alloc (.cells #[.string n,.int .i64 op,.string v] 59)).alloc (.cells #[.string gn,.int .i64 gop,.string gv] 59)) from ((Below.refl _ w).alloc (Nat.le_refl _) _).alloc (by simp) _)
 by_cases hn:B n=B gn
 ·rw [decide_eq_true hn] at hs
  by_cases h0:op=0
  ·have X:=Lib.hid (show provB (B n) op (B v) (B gn) gop (B gv)=true by unfold provB;rw [decide_eq_true hn,decide_eq_true h0];rfl)
   have t0:(op==0)=true:=by rw [beq_iff_eq];exact h0
   clear hn h0
   go_enter Tryz.func52,Tryz.ntmps52
   go_wp2
   go_ret
   exact ⟨by rw [X.out];rfl,B0.out⟩
  ·have t0:(op==0)=false:=by rw [beq_eq_false_iff_ne];exact h0
   by_cases h3:gop=3
   ·have X:=Lib.hid (show provB (B n) op (B v) (B gn) gop (B gv)=holdB op (B gv) (B v) by unfold provB;rw [decide_eq_true hn,decide_eq_false h0,decide_eq_true h3];rfl)
    have t3:(gop==3)=true:=by rw [beq_iff_eq];exact h3
    have KH:=Lib.hid (fun w E=>rholds_any op gv v w E)
    clear hn h0 h3
    go_enter Tryz.func52,Tryz.ntmps52
    go_wp2_with fail
    refine (KH.out _ (HE.out.below B0.out).env).mono ?_
    rintro e' w1 ⟨rfl,hb⟩
    have B1:=Lib.hid (bel_2 B0.out hb)
    clear hb
    go_wp2
    go_ret
    exact ⟨by rw [X.out];rfl,B1.out⟩
   ·have X:=Lib.hid (show provB (B n) op (B v) (B gn) gop (B gv)=false by unfold provB;rw [decide_eq_true hn,decide_eq_false h0,decide_eq_false h3];rfl)
    have t3:(gop==3)=false:=by rw [beq_eq_false_iff_ne];exact h3
    clear hn h0 h3
    go_enter Tryz.func52,Tryz.ntmps52
    go_wp2
    go_ret
    exact ⟨by rw [X.out];rfl,B0.out⟩
 ·have X:=Lib.hid (show provB (B n) op (B v) (B gn) gop (B gv)=false by unfold provB;rw [decide_eq_false hn];rfl)
  rw [decide_eq_false hn] at hs
  clear hn
  go_enter Tryz.func52,Tryz.ntmps52
  go_wp2
  go_ret
  exact ⟨by rw [X.out];rfl,B0.out⟩
def okAt (l:List Nat) (j:Nat):Bool:=plnB (l.getD j 0)||(decide (0 < j)&&nmcB (l.getD j 0))
theorem okAt_no {s:ByteArray} {k:Nat} (hk:k < s.size) (h:okAt (B s) k=false):nameB (B s)=false:=by
 unfold okAt at h
 rw [B_getD s k hk] at h
 rw [Bool.or_eq_false_iff] at h
 rcases Nat.eq_zero_or_pos k with rfl|h0
 ·unfold nameB
  rw [B_getD s 0 hk,h.1,Bool.and_false,Bool.false_and]
 ·have h2:=h.2
  rw [decide_eq_true h0,Bool.true_and] at h2
  unfold nameB
  rw [nm_not hk h2,Bool.and_false]
theorem okAt_yes {s:ByteArray} (h:∀j,j < s.size→okAt (B s) j=true):nameB (B s)=(decide (2≤s.size)&&decide (s.size≤40)):=by
 unfold nameB
 rw [B_len]
 by_cases h2:2≤s.size
 ·have h0:=h 0 (by omega)
  unfold okAt at h0
  rw [decide_eq_false (Nat.lt_irrefl 0),Bool.false_and,Bool.or_false] at h0
  have ha:(B s).all nmcB=true:=nm_yes fun j hj=>by
   have:=h j hj
   unfold okAt at this
   rw [Bool.or_eq_true] at this
   rcases this with h1|h1
   ·unfold nmcB;rw [h1];rfl
   ·rw [Bool.and_eq_true] at h1;exact h1.2
  rw [h0,ha,Bool.and_true,Bool.and_true]
 ·rw [decide_eq_false h2,Bool.false_and,Bool.false_and];rfl
theorem q3name_any (s:ByteArray) (w:World) (hs:s.size≤65536):Calls Tryz.prog 62 #[.string s] w fun e w'=>e=.returned (.bool (nameB (B s)))∧w=w':=by
 go_enter Tryz.func62,Tryz.ntmps62
 go_wp2
 go_loop [3] (fun x=>∃k:Nat,k≤s.size∧x=.int .i64 k∧∀j,j < k→okAt (B s) j=true) (fun x=>s.size - (intOf x).toNat)
 case atStart=>exact ⟨0,Nat.zero_le _,rfl,fun j hj=>by omega⟩
 case round=>
  obtain ⟨k,hk,rfl,hno⟩:=hrel
  have HN:=Lib.hid hno
  clear hno
  by_cases hlt:k < s.size
  ·have XN:=Lib.hid (okAt_no hlt)
   rcases Nat.eq_zero_or_pos k with rfl|hk0
   ·have OK:=Lib.hid (show okAt (B s) 0=(plnB s[0].toNat||(decide (0 < 0)&&nmcB s[0].toNat)) by unfold okAt;rw [B_getD s 0 hlt])
    have KD:=Lib.hid (fun w=>Digit_any s[0].toNat w)
    by_cases a1:97≤s[0].toNat
    ·by_cases a2:s[0].toNat≤122
     ·have i1:(97:Int)≤(s[0].toNat:Int):=by omega
      have i2:(s[0].toNat:Int)≤122:=by omega
      have p1:((s[0].toNat:Int)==43)=false:=by rw [beq_eq_false_iff_ne];omega
      have p2:((s[0].toNat:Int)==45)=false:=by rw [beq_eq_false_iff_ne];omega
      have p3:((s[0].toNat:Int)==46)=false:=by rw [beq_eq_false_iff_ne];omega
      have YES:=Lib.hid (show okAt (B s) 0=true by rw [OK.out];unfold plnB;rw [decide_eq_true (show 97≤s[0].toNat∧s[0].toNat≤122 from ⟨a1,a2⟩)];rfl)
      clear a1 a2
      go_wp2_with fail
      go_round
      case rel=>exact ⟨1,by omega,by go_num,fun j hj=>by rcases (by omega:j < 0∨j=0) with h|rfl;exact HN.out j h;exact YES.out⟩
      case measure=>simp [intOf];omega
     ·have i1:(97:Int)≤(s[0].toNat:Int):=by omega
      have i2:(122:Int) < (s[0].toNat:Int):=by omega
      have i3:decide ((s[0].toNat:Int)≤122)=false:=by rw [decide_eq_false_iff_not];omega
      have p1:((s[0].toNat:Int)==43)=false:=by rw [beq_eq_false_iff_ne];omega
      have p2:((s[0].toNat:Int)==45)=false:=by rw [beq_eq_false_iff_ne];omega
      have p3:((s[0].toNat:Int)==46)=false:=by rw [beq_eq_false_iff_ne];omega
      have hd:digB s[0].toNat=false:=by unfold digB;rw [decide_eq_false (by omega)]
      rw [hd] at KD
      have NOT:=Lib.hid (XN.out (show okAt (B s) 0=false by rw [OK.out];unfold nmcB plnB;rw [hd,decide_eq_false (show ¬(97≤s[0].toNat∧s[0].toNat≤122) by omega),decide_eq_false (show ¬s[0].toNat=43 by omega),decide_eq_false (show ¬s[0].toNat=45 by omega),decide_eq_false (show ¬s[0].toNat=46 by omega)];simp))
      clear a1 a2 hd
      go_wp2_with (go_at_call 94;(with_reducible refine (KD.out _).mono ?_);rintro e w' ⟨rfl,rfl⟩)
      go_ret
      exact ⟨by rw [NOT.out];rfl,rfl⟩
    ·have i1:(s[0].toNat:Int) < 97:=by omega
     cases hd:digB s[0].toNat
     ·rw [hd] at KD
      have NOT:=Lib.hid (XN.out (show okAt (B s) 0=false by rw [OK.out];unfold plnB;rw [hd,decide_eq_false (show ¬(97≤s[0].toNat∧s[0].toNat≤122) by omega),decide_eq_false (show ¬0 < 0 by omega)];rfl))
      clear a1 hd
      go_wp2_with (go_at_call 94;(with_reducible refine (KD.out _).mono ?_);rintro e w' ⟨rfl,rfl⟩)
      go_ret
      exact ⟨by rw [NOT.out];rfl,rfl⟩
     ·have hd2:48≤s[0].toNat:=by have:=digB_iff.1 hd;omega
      rw [hd] at KD
      have p1:((s[0].toNat:Int)==43)=false:=by rw [beq_eq_false_iff_ne];omega
      have p2:((s[0].toNat:Int)==45)=false:=by rw [beq_eq_false_iff_ne];omega
      have p3:((s[0].toNat:Int)==46)=false:=by rw [beq_eq_false_iff_ne];omega
      have YES:=Lib.hid (show okAt (B s) 0=true by rw [OK.out];unfold plnB;rw [hd];simp)
      clear a1 hd hd2
      go_wp2_with (go_at_call 94;(with_reducible refine (KD.out _).mono ?_);rintro e w' ⟨rfl,rfl⟩)
      go_round
      case rel=>exact ⟨1,by omega,by go_num,fun j hj=>by rcases (by omega:j < 0∨j=0) with h|rfl;exact HN.out j h;exact YES.out⟩
      case measure=>simp [intOf];omega
   ·have OK:=Lib.hid (show okAt (B s) k=(plnB s[k].toNat||(decide (0 < k)&&nmcB s[k].toNat)) by unfold okAt;rw [B_getD s k hlt])
    have KD:=Lib.hid (fun w=>Digit_any s[k].toNat w)
    by_cases a1:97≤s[k].toNat
    ·by_cases a2:s[k].toNat≤122
     ·have i1:(97:Int)≤(s[k].toNat:Int):=by omega
      have i2:(s[k].toNat:Int)≤122:=by omega
      have hk0:(0:Int) < (k:Int):=by omega
      have p1:((s[k].toNat:Int)==43)=false:=by rw [beq_eq_false_iff_ne];omega
      have p2:((s[k].toNat:Int)==45)=false:=by rw [beq_eq_false_iff_ne];omega
      have p3:((s[k].toNat:Int)==46)=false:=by rw [beq_eq_false_iff_ne];omega
      have YES:=Lib.hid (show okAt (B s) k=true by rw [OK.out];unfold plnB;rw [decide_eq_true (show 97≤s[k].toNat∧s[k].toNat≤122 from ⟨a1,a2⟩)];rfl)
      clear a1 a2
      go_wp2_with fail
      go_round
      case rel=>exact ⟨k+1,by omega,by go_num,fun j hj=>by rcases (by omega:j < k∨j=k) with h|rfl;exact HN.out j h;exact YES.out⟩
      case measure=>simp [intOf];omega
     ·have i1:(97:Int)≤(s[k].toNat:Int):=by omega
      have i2:(122:Int) < (s[k].toNat:Int):=by omega
      have i3:decide ((s[k].toNat:Int)≤122)=false:=by rw [decide_eq_false_iff_not];omega
      have hk0:(0:Int) < (k:Int):=by omega
      have p1:((s[k].toNat:Int)==43)=false:=by rw [beq_eq_false_iff_ne];omega
      have p2:((s[k].toNat:Int)==45)=false:=by rw [beq_eq_false_iff_ne];omega
      have p3:((s[k].toNat:Int)==46)=false:=by rw [beq_eq_false_iff_ne];omega
      have hd:digB s[k].toNat=false:=by unfold digB;rw [decide_eq_false (by omega)]
      rw [hd] at KD
      have NOT:=Lib.hid (XN.out (show okAt (B s) k=false by rw [OK.out];unfold nmcB plnB;rw [hd,decide_eq_false (show ¬(97≤s[k].toNat∧s[k].toNat≤122) by omega),decide_eq_false (show ¬s[k].toNat=43 by omega),decide_eq_false (show ¬s[k].toNat=45 by omega),decide_eq_false (show ¬s[k].toNat=46 by omega)];simp))
      clear a1 a2 hd
      go_wp2_with (go_at_call 94;(with_reducible refine (KD.out _).mono ?_);rintro e w' ⟨rfl,rfl⟩)
      go_ret
      exact ⟨by rw [NOT.out];rfl,rfl⟩
    ·have i1:(s[k].toNat:Int) < 97:=by omega
     cases hd:digB s[k].toNat
     ·rw [hd] at KD
      have hk0:(0:Int) < (k:Int):=by omega
      by_cases h43:s[k].toNat=43
      ·have p1:((s[k].toNat:Int)==43)=true:=by rw [beq_iff_eq];omega
       have YES:=Lib.hid (show okAt (B s) k=true by rw [OK.out];unfold nmcB;rw [decide_eq_true (show 0 < k by omega),decide_eq_true h43];simp)
       clear a1 hd h43
       go_wp2_with (go_at_call 94;(with_reducible refine (KD.out _).mono ?_);rintro e w' ⟨rfl,rfl⟩)
       go_round
       case rel=>exact ⟨k+1,by omega,by go_num,fun j hj=>by rcases (by omega:j < k∨j=k) with h|rfl;exact HN.out j h;exact YES.out⟩
       case measure=>simp [intOf];omega
      by_cases h45:s[k].toNat=45
      ·have p1:((s[k].toNat:Int)==43)=false:=by rw [beq_eq_false_iff_ne];omega
       have p2:((s[k].toNat:Int)==45)=true:=by rw [beq_iff_eq];omega
       have YES:=Lib.hid (show okAt (B s) k=true by rw [OK.out];unfold nmcB;rw [decide_eq_true (show 0 < k by omega),decide_eq_false h43,decide_eq_true h45];simp)
       clear a1 hd h43 h45
       go_wp2_with (go_at_call 94;(with_reducible refine (KD.out _).mono ?_);rintro e w' ⟨rfl,rfl⟩)
       go_round
       case rel=>exact ⟨k+1,by omega,by go_num,fun j hj=>by rcases (by omega:j < k∨j=k) with h|rfl;exact HN.out j h;exact YES.out⟩
       case measure=>simp [intOf];omega
      by_cases h46:s[k].toNat=46
      ·have p1:((s[k].toNat:Int)==43)=false:=by rw [beq_eq_false_iff_ne];omega
       have p2:((s[k].toNat:Int)==45)=false:=by rw [beq_eq_false_iff_ne];omega
       have p3:((s[k].toNat:Int)==46)=true:=by rw [beq_iff_eq];omega
       have YES:=Lib.hid (show okAt (B s) k=true by rw [OK.out];unfold nmcB;rw [decide_eq_true (show 0 < k by omega),decide_eq_false h43,decide_eq_false h45,decide_eq_true h46];simp)
       clear a1 hd h43 h45 h46
       go_wp2_with (go_at_call 94;(with_reducible refine (KD.out _).mono ?_);rintro e w' ⟨rfl,rfl⟩)
       go_round
       case rel=>exact ⟨k+1,by omega,by go_num,fun j hj=>by rcases (by omega:j < k∨j=k) with h|rfl;exact HN.out j h;exact YES.out⟩
       case measure=>simp [intOf];omega
      have p1:((s[k].toNat:Int)==43)=false:=by rw [beq_eq_false_iff_ne];omega
      have p2:((s[k].toNat:Int)==45)=false:=by rw [beq_eq_false_iff_ne];omega
      have p3:((s[k].toNat:Int)==46)=false:=by rw [beq_eq_false_iff_ne];omega
      have NOT:=Lib.hid (XN.out (show okAt (B s) k=false by rw [OK.out];unfold nmcB plnB;rw [hd,decide_eq_false (show ¬(97≤s[k].toNat∧s[k].toNat≤122) by omega),decide_eq_false h43,decide_eq_false h45,decide_eq_false h46];simp))
      clear a1 hd h43 h45 h46
      go_wp2_with (go_at_call 94;(with_reducible refine (KD.out _).mono ?_);rintro e w' ⟨rfl,rfl⟩)
      go_ret
      exact ⟨by rw [NOT.out];rfl,rfl⟩
     ·have hd2:48≤s[k].toNat:=by have:=digB_iff.1 hd;omega
      rw [hd] at KD
      have hk0:(0:Int) < (k:Int):=by omega
      have p1:((s[k].toNat:Int)==43)=false:=by rw [beq_eq_false_iff_ne];omega
      have p2:((s[k].toNat:Int)==45)=false:=by rw [beq_eq_false_iff_ne];omega
      have p3:((s[k].toNat:Int)==46)=false:=by rw [beq_eq_false_iff_ne];omega
      have YES:=Lib.hid (show okAt (B s) k=true by rw [OK.out];unfold plnB;rw [hd];simp)
      clear a1 hd hd2
      go_wp2_with (go_at_call 94;(with_reducible refine (KD.out _).mono ?_);rintro e w' ⟨rfl,rfl⟩)
      go_round
      case rel=>exact ⟨k+1,by omega,by go_num,fun j hj=>by rcases (by omega:j < k∨j=k) with h|rfl;exact HN.out j h;exact YES.out⟩
      case measure=>simp [intOf];omega
  ·have Y:=Lib.hid (okAt_yes (s:=s) (fun j hj=>HN.out j (by omega)))
   by_cases h2:2≤s.size
   ·rw [decide_eq_true h2,Bool.true_and,show decide (s.size≤40)=decide ((s.size:Int)≤40) by rw [Bool.eq_iff_iff];simp;omega] at Y
    go_wp2
    go_ret
    exact ⟨by rw [Y.out];rfl,rfl⟩
   ·rw [decide_eq_false h2] at Y
    have h41:(s.size:Int) < 2:=by omega
    go_wp2
    go_ret
    exact ⟨by rw [Y.out];rfl,rfl⟩
theorem q3plain_any (s:ByteArray) (w:World):Calls Tryz.prog 121 #[.string s] w fun e' w'=>e'=.returned (.bool (prB (B s)))∧Below w.heap.size w w':=by
 obtain ⟨ep,e,U,R,h1,h2,h3,h4,z2,z3,cp⟩:=parse_opened s
 have X:prB (B s)=(decide (e=0)&&decide (printL ep (B U) (B R)=B s)):=by unfold prB;rw [h1,h2,h3,h4]
 have CP:=Lib.hid cp
 have CT:=Lib.hid (fun w=>print_any ep U R w (by omega) (by omega))
 have hst:=strEq (printL ep (B U) (B R)) s (printL_lt ep U R)
 clear cp h1 h2 h3 h4
 by_cases he:e=0
 ·have t1:(e==0)=true:=by rw [beq_iff_eq];exact he
  rw [decide_eq_true he,Bool.true_and] at X
  rw [←X] at hst
  generalize prB (B s)=b at *
  generalize mk (printL ep (B U) (B R))=T at *
  clear X
  go_enter Tryz.func121,Tryz.ntmps121
  go_wp2_with fail
  refine (CP.out _).mono ?_
  rintro e' w1 ⟨rfl,hb1⟩
  have B1:=Lib.hid (show Below w.heap.size w (w1.alloc (.cells #[.int .i64 ep,.string U,.string R] 119)) from hb1.alloc hb1.size _)
  clear hb1
  go_wp2_with fail
  refine (CT.out _).mono ?_
  rintro e' w2 ⟨rfl,hb2⟩
  have B2:=Lib.hid (bel_2 B1.out hb2)
  clear hb2
  go_wp2
  go_ret
  exact ⟨rfl,B2.out⟩
 ·have t1:(e==0)=false:=by rw [beq_eq_false_iff_ne];exact he
  rw [decide_eq_false he,Bool.false_and] at X
  have XX:=Lib.hid X
  clear X hst CT he
  go_enter Tryz.func121,Tryz.ntmps121
  go_wp2_with fail
  refine (CP.out _).mono ?_
  rintro e' w1 ⟨rfl,hb1⟩
  have B1:=Lib.hid (show Below w.heap.size w (w1.alloc (.cells #[.int .i64 ep,.string U,.string R] 119)) from hb1.alloc hb1.size _)
  clear hb1
  go_wp2
  go_ret
  exact ⟨by rw [XX.out];rfl,B1.out⟩
theorem q3right_any (n:ByteArray) (op:Int) (v:ByteArray) (w:World) (hn:n.size≤65536):Calls Tryz.prog 97 #[.agg #[.string n,.int .i64 op,.string v]] w fun e' w'=>e'=.returned (.bool (rightA (B n) op (B v)))∧Below w.heap.size w w':=by
 have B1:=Lib.hid (show Below w.heap.size w (w.alloc (.cells #[.string n,.int .i64 op,.string v] 59)) from (Below.refl _ w).alloc (Nat.le_refl _) _)
 have KN:=Lib.hid (fun w=>q3name_any n w hn)
 cases hb:nameB (B n)
 ·have X:=Lib.hid (show rightA (B n) op (B v)=false by unfold rightA;rw [hb];rfl)
  rw [hb] at KN
  clear hb
  go_enter Tryz.func97,Tryz.ntmps97
  go_wp2_with fail
  refine (KN.out _).mono ?_
  rintro e' w' ⟨rfl,rfl⟩
  go_wp2
  go_ret
  exact ⟨by rw [X.out];rfl,B1.out⟩
 rw [hb] at KN
 by_cases h0:op=0
 ·subst h0
  have X:=Lib.hid (show v.toList.isEmpty=rightA (B n) 0 (B v) by unfold rightA;rw [hb,if_pos rfl,Bool.true_and,empty_is])
  clear hb
  go_enter Tryz.func97,Tryz.ntmps97
  go_wp2_with fail
  refine (KN.out _).mono ?_
  rintro e' w' ⟨rfl,rfl⟩
  go_wp2
  go_ret
  exact ⟨by rw [←X.out];rfl,B1.out⟩
 have t0:(op==0)=false:=by rw [beq_eq_false_iff_ne];exact h0
 by_cases ho:1≤op∧op≤5
 ·have X:=Lib.hid (show rightA (B n) op (B v)=prB (B v) by unfold rightA;rw [hb,if_neg h0,Bool.true_and,decide_eq_true ho,Bool.true_and])
  have KP:=Lib.hid (fun w=>q3plain_any v w)
  have j1:0≤op:=by omega
  have j2:op≤5:=ho.2
  clear hb h0 ho
  go_enter Tryz.func97,Tryz.ntmps97
  go_wp2_with fail
  refine (KN.out _).mono ?_
  rintro e' w' ⟨rfl,rfl⟩
  go_wp2_with fail
  refine (KP.out _).mono ?_
  rintro e' w2 ⟨rfl,hb⟩
  have B2:=Lib.hid (bel_2 B1.out hb)
  clear hb
  go_wp2
  go_ret
  exact ⟨by rw [X.out];rfl,B2.out⟩
 ·have X:=Lib.hid (show rightA (B n) op (B v)=false by unfold rightA;rw [if_neg h0,decide_eq_false ho,Bool.false_and,Bool.and_false])
  by_cases j1:op < 0
  ·clear hb h0 ho
   go_enter Tryz.func97,Tryz.ntmps97
   go_wp2_with fail
   refine (KN.out _).mono ?_
   rintro e' w' ⟨rfl,rfl⟩
   go_wp2
   go_ret
   exact ⟨by rw [X.out];rfl,B1.out⟩
  ·have j2:5 < op:=by omega
   have j0:0≤op:=by omega
   clear hb h0 ho j1
   go_enter Tryz.func97,Tryz.ntmps97
   go_wp2_with fail
   refine (KN.out _).mono ?_
   rintro e' w' ⟨rfl,rfl⟩
   go_wp2
   go_ret
   exact ⟨by rw [X.out];rfl,B1.out⟩
theorem q4r_atom (x:Atm) (w:World) (h:x.n.size≤65536):Calls Tryz.prog 97 #[.agg #[.string x.n,.int .i64 x.o,.string x.v]] w fun e' w'=>e'=.returned (.bool (rgt x))∧Below w.heap.size w w':=q3right_any x.n x.o x.v w h
theorem right_no_many {L:List (List Atm)} (h:¬L.length≤12):rightG L=false:=by unfold rightG;rw [decide_eq_false h];rfl
theorem right_stop {L:List (List Atm)} {k:Nat} (hk:k < L.length) (h:rgtOne L[k]=false):rightG L=false:=by unfold rightG;rw [all_stopL hk h];simp
theorem right_all {L:List (List Atm)} (h:(L.take L.length).all rgtOne=true):rightG L=decide (L.length≤12):=by rw [List.take_length] at h;unfold rightG;rw [h];simp
theorem rgtOne_stop {g:List Atm} {k:Nat} (hk:k < g.length) (h:rgt g[k]=false):rgtOne g=false:=by unfold rgtOne;rw [all_stopL hk h];simp
theorem rgtOne_len {g:List Atm} (h:¬(1≤g.length∧g.length≤6)):rgtOne g=false:=by
 unfold rgtOne
 rw [Bool.and_eq_false_iff,Bool.and_eq_false_iff,decide_eq_false_iff_not,decide_eq_false_iff_not];omega
theorem rgtOne_yes {g:List Atm} (h1:1≤g.length) (h2:g.length≤6) (h:(g.take g.length).all rgt=true):rgtOne g=true:=by
 rw [List.take_length] at h;unfold rgtOne;rw [decide_eq_true h1,decide_eq_true h2,h];rfl
set_option maxHeartbeats 2000000 in
theorem q4right_any (A:Option Addr) (n c:Nat) (L:List (List Atm)) (w:World) (h:rdGrps w (lt_ w.heap.size) L [.slice A n c]) (hz:∀g ∈ L,∀a ∈ g,a.n.size≤65536) :
  Calls Tryz.prog 64 #[.slice A n c] w fun e w'=>e=.returned (.bool (rightG L))∧Below w.heap.size w w':=by
 obtain ⟨rfl,hnc,hcm,_⟩:=rdGrps_at h
 have hcm1:c≤9223372036854775807:=hcm
 have HZ:=Lib.hid hz
 clear hz
 go_enter Tryz.func64,Tryz.ntmps64
 go_wp2
 go_loopw [3,4,5] (fun i n v wr=>∃k:Nat,k≤L.length∧i=.int .i64 k∧(L.take k).all rgtOne=true∧Below w.heap.size w wr) (fun i _ _ _=>L.length - (intOf i).toNat)
 case atStart=>exact ⟨0,Nat.zero_le _,rfl,rfl,Below.refl _ _⟩
 case round=>
  obtain ⟨k,hk,rfl,htk,hbel⟩:=hrel
  by_cases hlt:k < L.length
  ·have T:=Lib.hid (all_takeL rgtOne L k hlt)
   have Z:=Lib.hid (right_stop (L:=L) (k:=k) hlt)
   have H:=Lib.hid htk
   have HB:=Lib.hid hbel
   have hcell:=fun W (hW:Below w.heap.size w W)=>(rdGrps_at (rdGrps_good.below h hW)).2.2.2 k hlt
   have HC:=Lib.hid hcell
   have hzg:=HZ.out L[k] (List.getElem_mem hlt)
   obtain ⟨ad,A',c',rfl,had,h0,h1⟩:=hcell wr hbel
   clear htk hcell hbel
   have hc':c'≤9223372036854775807:=(rdAtms_at h1).2.2.1
   have hgc:=(rdAtms_at h1).2.1
   have HC2:=Lib.hid (show ∀W,Below w.heap.size w W→W.cell? (ad.add k)=some (.slice A' L[k].length c')∧rdAtms W (lt_ w.heap.size) L[k] [.slice A' L[k].length c'] from fun W hW=>by
    refine ⟨?_,?_⟩
    ·rw [World.cell?_of_block (w:=wr) (by rw [blk_add];rw [hW.block _ had,HB.out.block _ had])];exact h0
    ·exact rdAtms_good.keep h1 fun b hb=>by rw [hW.block _ hb,HB.out.block _ hb])
   clear h1 HC h
   generalize L[k]=g at *
   go_wp2
   go_loopw [4,5] (fun n v wr2=>∃q:Nat,q≤g.length∧n=.int .i64 q∧(g.take q).all rgt=true∧Below w.heap.size w wr2) (fun n _ _=>g.length - (intOf n).toNat)
   case atStart=>exact ⟨0,Nat.zero_le _,rfl,rfl,HB.out⟩
   case round=>
    obtain ⟨q,hq,rfl,hall,hbel2⟩:=hrel
    obtain ⟨g0,g1⟩:=HC2.out _ hbel2
    have H2:=Lib.hid hbel2
    clear h0 hbel2
    by_cases hlt2:q < g.length
    ·obtain ⟨ad2,rfl,had2,e0,e1,e2⟩:=(rdAtms_at g1).2.2.2 q hlt2
     have T2:=Lib.hid (all_takeL rgt g q hlt2)
     have Z2:=Lib.hid (rgtOne_stop (g:=g) (k:=q) hlt2)
     have A2:=Lib.hid hall
     have hx:=hzg g[q] (List.getElem_mem hlt2)
     clear hall g1 hzg
     generalize g[q]=x at *
     have K:=Lib.hid (fun W=>q4r_atom x W hx)
     clear hx
     cases hr:rgt x
     ·have R:=Lib.hid hr
      rw [hr] at K
      clear hr
      go_wp2_with (go_at_call 97;refine (K.out _).mono ?_;rintro e w3 ⟨rfl,hb3⟩)
      go_ret
      exact ⟨by rw [Z.out (Z2.out R.out)];try rfl,bel2 H2.out hb3 (Nat.le_refl _)⟩
     ·have R:=Lib.hid hr
      rw [hr] at K
      clear hr
      go_wp2_with (go_at_call 97;refine (K.out _).mono ?_;rintro e w3 ⟨rfl,hb3⟩)
      go_roundw
      case rel=>exact ⟨q+1,by omega,by go_num,by rw [T2.out,A2.out,R.out];rfl,bel2 H2.out hb3 (Nat.le_refl _)⟩
      case measure=>simp [intOf];omega
    ·obtain rfl:q=g.length:=by omega
     have A2:=Lib.hid hall
     clear hall g1 hzg
     by_cases hl1:g.length < 1
     ·have X:=Lib.hid (Z.out (rgtOne_len (g:=g) (by omega)))
      have hl1':(g.length:Int) < 1:=by omega
      go_wp2
      go_ret
      exact ⟨by rw [X.out];try rfl,H2.out⟩
     ·by_cases hl6:6 < g.length
      ·have X:=Lib.hid (Z.out (rgtOne_len (g:=g) (by omega)))
       have hl1':¬(g.length:Int) < 1:=by omega
       have hl6':(6:Int) < g.length:=by omega
       go_wp2
       go_ret
       exact ⟨by rw [X.out];try rfl,H2.out⟩
      ·have X:=Lib.hid (show (L.take (k+1)).all rgtOne=true by rw [T.out,H.out,rgtOne_yes (by omega) (by omega) A2.out];rfl)
       have hl1':¬(g.length:Int) < 1:=by omega
       have hl6':¬(6:Int) < g.length:=by omega
       go_wp2
       go_roundw
       case rel=>exact ⟨k+1,by omega,by go_num,X.out,H2.out⟩
       case measure=>simp [intOf];omega
  ·obtain rfl:k=L.length:=by omega
   have X:=Lib.hid (right_all htk)
   clear htk h
   by_cases h12:L.length≤12
   ·have hd:decide ((L.length:Int)≤12)=true:=by rw [decide_eq_true_eq];omega
    have X2:=Lib.hid (X.out.trans (decide_eq_true h12))
    go_wp2
    go_ret
    exact ⟨by rw [X2.out];try rfl,hbel⟩
   ·have hd:decide ((L.length:Int)≤12)=false:=by rw [decide_eq_false_iff_not];omega
    have X2:=Lib.hid (X.out.trans (decide_eq_false h12))
    go_wp2
    go_ret
    exact ⟨by rw [X2.out];try rfl,hbel⟩
theorem rright_atom (x:Atm) (w:World) (E:EnvR w):Calls Tryz.prog 76 #[.agg #[.string x.n,.int .i64 x.o,.string x.v]] w fun e' w'=>e'=.returned (.bool (rgt x))∧Below w.heap.size w w':=rright_any x.n x.o x.v w E
theorem atm_box {w w1:World} {T:TypeId} {x y z:Value} (h:Below (w.alloc (.cells #[x,y,z] T)).heap.size (w.alloc (.cells #[x,y,z] T)) w1):Below w.heap.size w w1:=(((Below.refl _ w).alloc (Nat.le_refl _) _).trans (h.mono (by simp)))
set_option maxHeartbeats 1000000 in
theorem rightGroup_any (A:Option Addr) (n c:Nat) (g:List Atm) (w:World) (h:rdAtms w (lt_ w.heap.size) g [.slice A n c]) (E:EnvR w) :
  Calls Tryz.prog 107 #[.slice A n c] w fun e w'=>e=.returned (.bool (rgtOne g))∧Below w.heap.size w w':=by
 obtain ⟨rfl,hnc,hcm,_⟩:=rdAtms_at h
 have hcm':c≤9223372036854775807:=hcm
 have HE:=Lib.hid E
 have HR:=Lib.hid h
 clear E h
 by_cases hl0:g.length=0
 ·have X:=Lib.hid (rgtOne_len (g:=g) (by omega))
  have t0:((g.length:Int)==0)=true:=by rw [beq_iff_eq];omega
  have HL:=Lib.hid hl0
  clear hl0
  go_enter Tryz.func107,Tryz.ntmps107
  go_wp2
  go_ret
  exact ⟨by rw [X.out];try rfl,Below.refl _ _⟩
 by_cases hl6:6 < g.length
 ·have X:=Lib.hid (rgtOne_len (g:=g) (by omega))
  have t0:((g.length:Int)==0)=false:=by rw [beq_eq_false_iff_ne];omega
  have t1:(6:Int) < g.length:=by omega
  go_enter Tryz.func107,Tryz.ntmps107
  go_wp2
  go_ret
  exact ⟨by rw [X.out];try rfl,Below.refl _ _⟩
 have t0:((g.length:Int)==0)=false:=by rw [beq_eq_false_iff_ne];omega
 have t1:¬(6:Int) < g.length:=by omega
 go_enter Tryz.func107,Tryz.ntmps107
 go_wp2
 go_loopw [4,15] (fun b i wr=>∃k:Nat,k≤g.length∧i=.int .i64 k∧(g.take k).all rgt=true∧Below w.heap.size w wr) (fun _ i _=>g.length - (intOf i).toNat)
 case atStart=>exact ⟨0,Nat.zero_le _,rfl,rfl,Below.refl _ _⟩
 case round=>
  obtain ⟨k,hk,rfl,hall,hbel⟩:=hrel
  by_cases hlt:k < g.length
  ·obtain ⟨ad,rfl,had,e0,e1,e2⟩:=(rdAtms_at (rdAtms_good.below HR.out hbel)).2.2.2 k hlt
   have T2:=Lib.hid (all_takeL rgt g k hlt)
   have Z2:=Lib.hid (rgtOne_stop (g:=g) (k:=k) hlt)
   have A2:=Lib.hid hall
   have HB:=Lib.hid hbel
   have EE:=Lib.hid (HE.out.below hbel)
   clear hall hbel
   generalize g[k]=x at *
   have K:=Lib.hid (fun w E=>rright_atom x w E)
   cases hr:rgt x
   ·have R:=Lib.hid hr
    rw [hr] at K
    clear hr
    go_wp2_with (go_at_call 76;refine (K.out _ (EE.out.alloc _)).mono ?_;rintro e w3 ⟨rfl,hb3⟩)
    go_ret
    exact ⟨by rw [Z2.out R.out];try rfl,bel2 HB.out (atm_box hb3) (Nat.le_refl _)⟩
   ·have R:=Lib.hid hr
    rw [hr] at K
    clear hr
    go_wp2_with (go_at_call 76;refine (K.out _ (EE.out.alloc _)).mono ?_;rintro e w3 ⟨rfl,hb3⟩)
    go_roundw
    case rel=>exact ⟨k+1,by omega,by go_num,by rw [T2.out,A2.out,R.out];rfl,bel2 HB.out (atm_box hb3) (Nat.le_refl _)⟩
    case measure=>simp [intOf];omega
  ·obtain rfl:k=g.length:=by omega
   have X:=Lib.hid (rgtOne_yes (g:=g) (by omega) (by omega) hall)
   clear hall
   go_wp2
   go_ret
   exact ⟨by rw [X.out];try rfl,hbel⟩
set_option maxHeartbeats 1000000 in
theorem right4_any (A:Option Addr) (n c:Nat) (L:List (List Atm)) (w:World) (h:rdGrps w (lt_ w.heap.size) L [.slice A n c]) (E:EnvR w) :
  Calls Tryz.prog 74 #[.slice A n c] w fun e w'=>e=.returned (.bool (rightG L))∧Below w.heap.size w w':=by
 obtain ⟨rfl,hnc,hcm,_⟩:=rdGrps_at h
 have hcm':c≤9223372036854775807:=hcm
 have HE:=Lib.hid E
 have HR:=Lib.hid h
 clear E h
 by_cases h12:L.length≤12
 ·have t1:¬(12:Int) < L.length:=by omega
  go_enter Tryz.func74,Tryz.ntmps74
  go_wp2
  go_loopw [4,10] (fun b i wr=>∃k:Nat,k≤L.length∧i=.int .i64 k∧(L.take k).all rgtOne=true∧Below w.heap.size w wr) (fun _ i _=>L.length - (intOf i).toNat)
  case atStart=>exact ⟨0,Nat.zero_le _,rfl,rfl,Below.refl _ _⟩
  case round=>
   obtain ⟨k,hk,rfl,hall,hbel⟩:=hrel
   by_cases hlt:k < L.length
   ·obtain ⟨ad,A',c',rfl,had,e0,e1⟩:=(rdGrps_at (rdGrps_good.below HR.out hbel)).2.2.2 k hlt
    have T2:=Lib.hid (all_takeL rgtOne L k hlt)
    have Z2:=Lib.hid (right_stop (L:=L) (k:=k) hlt)
    have A2:=Lib.hid hall
    have HB:=Lib.hid hbel
    have K:=Lib.hid (rightGroup_any _ _ _ _ _ (rdAtms_good.up e1 hbel.size) (HE.out.below hbel))
    clear hall hbel e1
    generalize L[k]=g at *
    cases hr:rgtOne g
    ·have R:=Lib.hid hr
     rw [hr] at K
     clear hr
     go_wp2_with (go_at_call 107;refine (K.out).mono ?_;rintro e w3 ⟨rfl,hb3⟩)
     go_ret
     exact ⟨by rw [Z2.out R.out];try rfl,bel2 HB.out hb3 (Nat.le_refl _)⟩
    ·have R:=Lib.hid hr
     rw [hr] at K
     clear hr
     go_wp2_with (go_at_call 107;refine (K.out).mono ?_;rintro e w3 ⟨rfl,hb3⟩)
     go_roundw
     case rel=>exact ⟨k+1,by omega,by go_num,by rw [T2.out,A2.out,R.out];rfl,bel2 HB.out hb3 (Nat.le_refl _)⟩
     case measure=>simp [intOf];omega
   ·obtain rfl:k=L.length:=by omega
    have X:=Lib.hid (show rightG L=true by rw [right_all hall,decide_eq_true h12])
    clear hall
    go_wp2
    go_ret
    exact ⟨by rw [X.out];try rfl,hbel⟩
 ·have X:=Lib.hid (right_no_many (L:=L) h12)
  have t1:(12:Int) < L.length:=by omega
  go_enter Tryz.func74,Tryz.ntmps74
  go_wp2
  go_ret
  exact ⟨by rw [X.out];try rfl,Below.refl _ _⟩
set_option maxHeartbeats 1000000 in
theorem eprinted_any (s:ByteArray) (w:World) (E:Env w):Calls Tryz.prog 73 #[.string s] w fun e' w'=>e'=.returned (.bool (prB (B s)))∧Below w.heap.size w w':=by
 obtain ⟨ep,e,U,R,h1,h2,h3,h4,z2,z3,cp⟩:=vparse_open3 s
 have X:prB (B s)=(decide (e=0)&&decide (printL ep (B U) (B R)=B s)):=by unfold prB;rw [h1,h2,h3,h4]
 have CP:=Lib.hid cp
 have CT:=Lib.hid (fun w E=>vprint_any ep U R w (by omega) (by omega) E)
 have hst:=strEq (printL ep (B U) (B R)) s (printL_lt ep U R)
 have HE:=Lib.hid E
 clear cp E h1 h2 h3 h4
 by_cases he:e=0
 ·have t1:(e==0)=true:=by rw [beq_iff_eq];exact he
  rw [decide_eq_true he,Bool.true_and] at X
  rw [←X] at hst
  generalize prB (B s)=b at *
  generalize mk (printL ep (B U) (B R))=T at *
  clear X
  go_enter Tryz.func73,Tryz.ntmps73
  go_wp2_with fail
  refine (CP.out _ HE.out).mono ?_
  rintro e' w1 ⟨rfl,hb1⟩
  have B1:=Lib.hid (show Below w.heap.size w (w1.alloc (.cells #[.int .i64 ep,.string U,.string R] 119)) from hb1.alloc hb1.size _)
  clear hb1
  go_wp2_with fail
  refine (CT.out _ (HE.out.below B1.out)).mono ?_
  rintro e' w2 ⟨rfl,hb2⟩
  have B2:=Lib.hid (bel_2 B1.out hb2)
  clear hb2
  go_wp2
  go_ret
  exact ⟨rfl,B2.out⟩
 ·have t1:(e==0)=false:=by rw [beq_eq_false_iff_ne];exact he
  rw [decide_eq_false he,Bool.false_and] at X
  have XX:=Lib.hid X
  clear X hst CT he
  go_enter Tryz.func73,Tryz.ntmps73
  go_wp2_with fail
  refine (CP.out _ HE.out).mono ?_
  rintro e' w1 ⟨rfl,hb1⟩
  have B1:=Lib.hid (show Below w.heap.size w (w1.alloc (.cells #[.int .i64 ep,.string U,.string R] 119)) from hb1.alloc hb1.size _)
  clear hb1
  go_wp2
  go_ret
  exact ⟨by rw [XX.out];rfl,B1.out⟩
set_option maxHeartbeats 1000000 in
theorem givable6_any (x:Atm) (w:World):Calls Tryz.prog 77 #[.agg #[.string x.n,.int .i64 x.o,.string x.v]] w fun e w'=>e=.returned (.bool (giv6 x))∧Below w.heap.size w w':=by
 have B1:=Lib.hid (show Below w.heap.size w (w.alloc (.cells #[.string x.n,.int .i64 x.o,.string x.v] 59)) from (Below.refl _ w).alloc (Nat.le_refl _) _)
 have X:=Lib.hid (show giv6 x=(x.o==0||x.o==3) from rfl)
 obtain ⟨n,o,v⟩:=x
 simp only at X ⊢
 by_cases h0:o=0
 ·have t0:(o==0)=true:=by rw [beq_iff_eq];exact h0
  have XX:=Lib.hid (show giv6 ⟨n,o,v⟩=true by rw [X.out,t0];rfl)
  clear X h0
  go_enter Tryz.func77,Tryz.ntmps77
  go_wp2
  go_ret
  exact ⟨by rw [XX.out];try rfl,B1.out⟩
 ·have t0:(o==0)=false:=by rw [beq_eq_false_iff_ne];exact h0
  have XX:=Lib.hid (show giv6 ⟨n,o,v⟩=(o==3) by rw [X.out,t0];rfl)
  clear X h0
  generalize giv6 ⟨n,o,v⟩=q at *
  go_enter Tryz.func77,Tryz.ntmps77
  go_wp2
  go_ret
  exact ⟨by rw [XX.out];try rfl,B1.out⟩
set_option maxHeartbeats 4000000 in
theorem each6_any (f:Nat) (p:Atm→Bool) (hcf:∀(args:Array Value) (w:World),(callFunc f args).run Tryz.prog w=.ok (.enter f args) w)
  (hf:∀(x:Atm) (w:World),EnvR w→Calls Tryz.prog f #[.agg #[.string x.n,.int .i64 x.o,.string x.v]] w fun e w'=>e=.returned (.bool (p x))∧Below w.heap.size w w')
  (A:Option Addr) (n c:Nat) (l:List Atm) (w:World) (h:rdAtms w (lt_ w.heap.size) l [.slice A n c]) (E:EnvR w) :
  Calls Tryz.prog 75 #[.slice A n c,.func (.func f) #[] #[]] w fun e w'=>e=.returned (.bool (l.all p))∧Below w.heap.size w w':=by
 obtain ⟨rfl,hnc,hcm,_⟩:=rdAtms_at h
 have hcm':c≤9223372036854775807:=hcm
 have HE:=Lib.hid E
 have H:=Lib.hid h
 have KF:=Lib.hid hf
 clear hcm E h hf
 go_enter Tryz.func75,Tryz.ntmps75
 go_wp2
 go_loopw [6,9] (fun _ i wr=>∃k:Nat,k≤l.length∧i=.int .i64 k∧(l.take k).all p=true∧Below w.heap.size w wr) (fun _ i _=>l.length - (intOf i).toNat)
 case atStart=>exact ⟨0,Nat.zero_le _,rfl,rfl,Below.refl _ _⟩
 case round=>
  obtain ⟨k,hk,rfl,hall,hbel⟩:=hrel
  have HA:=Lib.hid hall
  have HB:=Lib.hid hbel
  clear hall
  by_cases hlt:k < l.length
  ·obtain ⟨_,_,_,hat⟩:=rdAtms_at (rdAtms_good.below H.out hbel)
   obtain ⟨ad,rfl,had,h0,h1,h2⟩:=hat k hlt
   have i0:(0:Int)≤(k:Int):=by omega
   have i1:(k:Int) < (l.length:Int):=by omega
   have ST:=Lib.hid (fun hf=>all_step6 (f:=p) hlt HA.out hf)
   have SP:=Lib.hid (fun hf=>all_stop6 (f:=p) hlt hf)
   generalize l[k]=x at *
   have BX:=Lib.hid (show Below wr.heap.size wr (wr.alloc (.cells #[.string x.n,.int .i64 x.o,.string x.v] 59)) from (Below.refl _ wr).alloc (Nat.le_refl _) _)
   have K:=Lib.hid (KF.out x (wr.alloc (.cells #[.string x.n,.int .i64 x.o,.string x.v] 59)) ((HE.out.below HB.out).below BX.out))
   generalize p x=b at *
   clear had hat hbel
   go_wp2_with fail
   refine K.out.mono ?_
   rintro e w' ⟨rfl,hb⟩
   have HB2:=Lib.hid (HB.out.trans ((BX.out.trans (hb.mono BX.out.size)).mono HB.out.size))
   clear hb h0 h1 h2
   cases b
   ·have XX:=Lib.hid (SP.out rfl)
    go_wp2
    go_ret
    exact ⟨by rw [XX.out];try rfl,HB2.out⟩
   have NX:=Lib.hid (ST.out rfl)
   go_wp2
   go_roundw
   case rel=>exact ⟨k+1,by omega,by go_num,NX.out,HB2.out⟩
   case measure=>simp [intOf];omega
  ·obtain rfl:k=l.length:=by omega
   have FIN:=Lib.hid (show l.all p=true by have:=HA.out;rw [List.take_length] at this;exact this)
   clear hbel
   go_wp2
   go_ret
   exact ⟨by rw [FIN.out];try rfl,HB.out⟩
def ixP {α:Type} (p:α→Bool):List α→Nat→Int
 | [],_=>-1
 | f::r,i=>if p f=true then i else ixP p r (i+1)
theorem ixP_at {α:Type} {p:α→Bool} {l:List α} {k:Nat} (hk:k < l.length):(p l[k]=true→ixP p (l.drop k) k=k)∧(p l[k]=false→ixP p (l.drop k) k=ixP p (l.drop (k+1)) (k+1)):=by
 rw [List.drop_eq_getElem_cons hk]
 exact ⟨fun h=>if_pos h,fun h=>if_neg (by rw [h];decide)⟩
theorem ixP_any {α:Type} {p:α→Bool}:∀{l:List α} {i:Nat},decide (0≤ixP p l i)=l.any p
 | [],_=>rfl
 | f::r,i=>by
  unfold ixP
  rw [List.any_cons]
  cases h:p f
  ·rw [if_neg (by decide),Bool.false_or];exact ixP_any
  ·rw [if_pos rfl,Bool.true_or,decide_eq_true_iff];omega
end Go.Proofs.YtoopkofekekmoaaGreatDoor
