/- What the laws rest on: E6e, E9b2, E9i. -/
import Derived.OrdersHeld
import Derived.Deep.RegionHeld
import Derived.Stop.BytesEq
import Derived.Laws.StructEq
import Derived.Test.YtoopkofekekmoaaGreatDoorQAGZB
set_option maxRecDepth 100000
set_option linter.unusedVariables false
set_option linter.unusedSimpArgs false
namespace Go.Proofs.YtoopkofekekmoaaGreatDoor
open Go.RowKit
theorem none_step6 {α:Type} {f:α→Bool} {l:List α} {k:Nat} (h:k < l.length) (ha:(l.take k).any f=false) (hf:f l[k]=false):(l.take (k+1)).any f=false:=by
 rw [List.take_succ_eq_append_getElem h,List.any_append,ha];simp [hf]
theorem any_stop6 {α:Type} {f:α→Bool} {l:List α} {k:Nat} (h:k < l.length) (hf:f l[k]=true):l.any f=true:=List.any_eq_true.2 ⟨_,List.getElem_mem h,hf⟩
theorem sz_int9 (w:World):(sizeOf 3).run Tryz.prog w=.ok 1 w:=by kernel_rfl
theorem eq_pair9 (a b c d:Int) (w:World) :
  (Op.equalIn 10000 81 (.agg #[.int .i64 a,.int .i64 b]) (.agg #[.int .i64 c,.int .i64 d])).run Tryz.prog w=.ok (decide ((a,b)=(c,d))) w:=by
 have ht:=Tryz.underlying81
 have he:=Tryz.underlying3
 rw [Op.equalIn]
 simp only [Sem.run_bind,run_underlying ht,Result.andThen_ok,sz_int9,Std.Legacy.Range.forIn_eq_forIn_range',Std.Legacy.Range.size,Nat.sub_zero,Nat.add_sub_cancel,Nat.div_one]
 have pe:∀x y:Int,(Op.equalIn 9999 3 (.int .i64 x) (.int .i64 y)).run Tryz.prog w=.ok (x==y) w:=fun x y=>run_equalIn_int w 9998 _ .i64 .i64 _ _ he
 have p0:∀x y:Int,(part 3 #[.int .i64 x,.int .i64 y] (0*1)).run Tryz.prog w=.ok (.int .i64 x) w:=fun x y=>by simp [part,isAgg,run_underlying he]
 have p1:∀x y:Int,(part 3 #[.int .i64 x,.int .i64 y] (1*1)).run Tryz.prog w=.ok (.int .i64 y) w:=fun x y=>by simp [part,isAgg,run_underlying he]
 have hr:List.range' 0 2 1=[0,1]:=rfl
 rw [hr]
 have hd:decide ((a,b)=(c,d))=(a==c&&b==d):=by
  rw [Bool.eq_iff_iff,decide_eq_true_iff,Bool.and_eq_true,beq_iff_eq,beq_iff_eq,Prod.mk.injEq]
 rw [hd]
 simp only [List.forIn_cons,Sem.run_bind,p0,p1,pe,Result.andThen_ok]
 cases h1:(a==c)
 ·simp
 ·simp only [Bool.not_true,Bool.false_eq_true,if_false,Sem.run_pure,Result.andThen_ok,Bool.true_and]
  cases h2:(b==d)<;>simp [p1,pe,h2]
def rdPr:Rd (Int × Int):=fun _ _ a cs=>cs=[.int .i64 a.1,.int .i64 a.2]
theorem rdPr_good:Good rdPr 2:=⟨fun h _=>h,fun h _=>h,fun h _ _=>h,fun h=>by rw [h];rfl,fun h u hu=>by rw [h] at hu;simp at hu;rcases hu with rfl|rfl<;>rfl⟩
abbrev rdPrs:Rd (List (Int × Int)):=rdRow 2 rdPr
theorem rdPrs_good:Good rdPrs 1:=rdRow_good rdPr_good
theorem rdPrs_at {w:World} {S:Nat→Prop} {l:List (Int × Int)} {A:Option Addr} {n c:Nat} (h:rdPrs w S l [.slice A n c]):n=l.length∧n≤c∧c≤maxLen∧∀k (hk:k < l.length),∃ad,A=some ad∧S ad.block∧
  w.cell? (ad.add (k*2))=some (.int .i64 l[k].1)∧w.cell? ⟨(ad.add (k*2)).block,(ad.add (k*2)).off+1,none⟩=some (.int .i64 l[k].2):=by
 obtain ⟨A',c',e,h1,h2,h⟩:=h
 simp only [List.cons.injEq,Value.slice.injEq,and_true] at e
 obtain ⟨rfl,rfl,rfl⟩:=e
 refine ⟨rfl,h1,h2,fun k hk=>?_⟩
 obtain ⟨ad,es,e,hS,hE,hl,hc⟩:=h k hk
 rw [show es=[.int .i64 l[k].1,.int .i64 l[k].2] from hE] at hc
 exact ⟨ad,e,hS,hc 0 _ rfl,by rw [off_add ad (k*2) 1 (by omega)];exact hc 1 _ rfl⟩
set_option maxHeartbeats 4000000 in
theorem samePairs9_any (A A':Option Addr) (n c n' c':Nat) (l m:List (Int × Int)) (w:World) (h:rdPrs w (lt_ w.heap.size) l [.slice A n c]) (h':rdPrs w (lt_ w.heap.size) m [.slice A' n' c']) :
  Calls Tryz.prog 25 #[.slice A n c,.slice A' n' c'] w fun e w'=>e=.returned (.bool (decide (l=m)))∧Dr w w':=by
 obtain ⟨rfl,hnc,hcm,_⟩:=rdPrs_at h
 obtain ⟨rfl,hnc',hcm',_⟩:=rdPrs_at h'
 have hcm1:c≤9223372036854775807:=hcm
 have hcm2:c'≤9223372036854775807:=hcm'
 have heq:=eq_pair9
 by_cases hlen:l.length=m.length
 ·have hd:((l.length:Int) != (m.length:Int))=false:=by rw [hlen];simp
  have HL:=Lib.hid hlen
  clear hlen
  go_enter Tryz.func25,Tryz.ntmps25
  go_wp2
  go_loopw [5] (fun i wr=>∃k:Nat,k≤l.length∧i=.int .i64 k∧l.take k=m.take k∧Dr w wr) (fun i _=>l.length - (intOf i).toNat)
  case atStart=>exact ⟨0,Nat.zero_le _,rfl,rfl,Dr.refl _⟩
  case round=>
   obtain ⟨k,hk,rfl,htk,hbel⟩:=hrel
   by_cases hlt:k < l.length
   ·obtain ⟨_,_,_,ha⟩:=rdPrs_at (rdPrs_good.below h (hbel.below _))
    obtain ⟨_,_,_,hb⟩:=rdPrs_at (rdPrs_good.below h' (hbel.below _))
    have hltm:k < m.length:=by rw [←HL.out];exact hlt
    obtain ⟨ad,rfl,had,h0,h1⟩:=ha k hlt
    obtain ⟨ad',rfl,had',g0,g1⟩:=hb k hltm
    have T:=Lib.hid (same_take5 (l:=l) (m:=m) HL.out hlt hltm htk)
    have Z:=Lib.hid (show l[k]≠m[k]→l≠m from fun hn e=>hn (by subst e;rfl))
    have HB:=Lib.hid hbel
    have hki:(k:Int) < (m.length:Int):=by omega
    have i0:(0:Int)≤(k:Int):=by omega
    have i1:(k:Int) < (l.length:Int):=by omega
    clear htk ha hb hbel h h'
    generalize l[k]=x at *
    generalize m[k]=y at *
    obtain ⟨x1,x2⟩:=x
    obtain ⟨y1,y2⟩:=y
    simp only at h0 h1 g0 g1
    have hq:=heq x1 x2 y1 y2
    clear heq
    by_cases he:((x1,x2):Int × Int)=(y1,y2)
    ·rw [decide_eq_true he] at hq
     have HE:=Lib.hid he
     clear he
     go_wp2_with fail
     go_quiet (fail)
     go_wp2
     go_roundw
     case rel=>exact ⟨k+1,by omega,by go_num,T.out HE.out,HB.out.more _⟩
     case measure=>simp [intOf];omega
    ·rw [decide_eq_false he] at hq
     have HE:=Lib.hid he
     clear he
     go_wp2_with fail
     go_quiet (fail)
     go_wp2
     go_ret
     exact ⟨by rw [decide_eq_false (Z.out HE.out)];try rfl,HB.out.more _⟩
   ·obtain rfl:k=l.length:=by omega
    have X:=Lib.hid (show l=m by rw [List.take_length] at htk;rw [htk,HL.out,List.take_length])
    clear htk h h'
    go_wp2
    go_ret
    exact ⟨by rw [decide_eq_true X.out];try rfl,hbel⟩
 ·have hd:((l.length:Int) != (m.length:Int))=true:=by rw [bne_iff_ne];omega
  have X:=Lib.hid (show l≠m by rintro rfl;exact hlen rfl)
  clear hlen
  go_enter Tryz.func25,Tryz.ntmps25
  go_wp2
  go_ret
  exact ⟨by rw [decide_eq_false X.out];try rfl,Dr.refl _⟩
set_option maxHeartbeats 8000000 in
theorem q3holds_any (op:Int) (a b:ByteArray) (w:World):Calls Tryz.prog 123 #[.int .i64 op,.string a,.string b] w fun e' w'=>e'=.returned (.bool (holdB op (B a) (B b)))∧Below w.heap.size w w':=by
 by_cases h0:op=0
 ·subst h0
  have X:=Lib.hid (show holdB 0 (B a) (B b)=true from rfl)
  go_enter Tryz.func123,Tryz.ntmps123
  go_wp2
  go_ret
  exact ⟨by rw [X.out];try rfl,Below.refl _ _⟩
 obtain ⟨E,e,U,R,hE,he,hU,hR,zU,zR,ca⟩:=parse_opened a
 obtain ⟨F,f,V,S,hF,hf,hV,hS,zV,zS,cb⟩:=parse_opened b
 have XO:=Lib.hid (show holdB op (B a) (B b)=(decide (e=0)&&decide (f=0)&&opB op (orderV (B a) (B b))) from by
  unfold holdB;rw [decide_eq_false h0,Bool.false_or,←he,←hf])
 have CA:=Lib.hid ca
 have CB:=Lib.hid cb
 have CO:=Lib.hid (fun w=>order_any a b w)
 have t0:(op==0)=false:=by rw [beq_eq_false_iff_ne];exact h0
 clear ca cb hE he hU hR hF hf hV hS h0
 generalize orderV (B a) (B b)=C at *
 generalize holdB op (B a) (B b)=O at XO ⊢
 go_enter Tryz.func123,Tryz.ntmps123
 go_wp2_with fail
 refine (CA.out _).mono ?_
 rintro e' w1 ⟨rfl,hb1⟩
 have s1:=hb1.size
 go_wp2_with fail
 refine (CB.out _).mono ?_
 rintro e' w2 ⟨rfl,hb2⟩
 obtain ⟨c0,c1,c2,s2⟩:=box_cells hb2
 have b2:Below w.heap.size w w2:=(hb1.alloc s1 _).trans (hb2.mono (by simp;omega))
 have b3:=Lib.hid (show Below w.heap.size w (w2.alloc (.cells #[.int .i64 F,.string V,.string S] 119)) from b2.alloc (by omega) _)
 have s3:w1.heap.size < w2.heap.size:=by omega
 clear b2 hb1 hb2
 by_cases he:e=0
 rotate_left
 ·have t1:(e != 0)=true:=by rw [bne_iff_ne];exact he
  have XF:=Lib.hid (show O=false by rw [XO.out,decide_eq_false he];rfl)
  clear he
  go_wp2
  go_ret
  exact ⟨by rw [XF.out];try rfl,b3.out⟩
 have t1:(e != 0)=false:=by rw [bne_eq_false_iff_eq];exact he
 by_cases hf:f=0
 rotate_left
 ·have t2:(f != 0)=true:=by rw [bne_iff_ne];exact hf
  have XF:=Lib.hid (show O=false by rw [XO.out,decide_eq_false hf,Bool.and_false];rfl)
  clear hf he
  go_wp2
  go_ret
  exact ⟨by rw [XF.out];try rfl,b3.out⟩
 have t2:(f != 0)=false:=by rw [bne_eq_false_iff_eq];exact hf
 have XF:=Lib.hid (show O=opB op C by rw [XO.out,decide_eq_true he,decide_eq_true hf];rfl)
 clear hf he XO
 go_wp2_with fail
 refine (CO.out _).mono ?_
 rintro e' w3 ⟨rfl,hb3⟩
 have B3:=Lib.hid (b3.out.trans (hb3.mono (by simp;omega)))
 clear hb3
 by_cases o1:op=1
 ·subst o1
  go_wp2
  go_ret
  exact ⟨by rw [XF.out];try rfl,B3.out⟩
 have t11:(op==1)=false:=by rw [beq_eq_false_iff_ne];exact o1
 by_cases o2:op=2
 ·subst o2
  go_wp2
  go_ret
  exact ⟨by rw [XF.out];try rfl,B3.out⟩
 have t12:(op==2)=false:=by rw [beq_eq_false_iff_ne];exact o2
 by_cases o3:op=3
 ·subst o3
  go_wp2
  go_ret
  exact ⟨by rw [XF.out];try rfl,B3.out⟩
 have t13:(op==3)=false:=by rw [beq_eq_false_iff_ne];exact o3
 by_cases o4:op=4
 ·subst o4
  go_wp2
  go_ret
  exact ⟨by rw [XF.out];try rfl,B3.out⟩
 have t14:(op==4)=false:=by rw [beq_eq_false_iff_ne];exact o4
 by_cases o5:op=5
 ·subst o5
  go_wp2
  go_ret
  exact ⟨by rw [XF.out];try rfl,B3.out⟩
 have t15:(op==5)=false:=by rw [beq_eq_false_iff_ne];exact o5
 have XG:=Lib.hid (show O=false by rw [XF.out];unfold opB;rw [if_neg o1,if_neg o2,if_neg o3,if_neg o4,if_neg o5])
 clear o1 o2 o3 o4 o5
 go_wp2
 go_ret
 exact ⟨by rw [XG.out];try rfl,B3.out⟩
end Go.Proofs.YtoopkofekekmoaaGreatDoor
