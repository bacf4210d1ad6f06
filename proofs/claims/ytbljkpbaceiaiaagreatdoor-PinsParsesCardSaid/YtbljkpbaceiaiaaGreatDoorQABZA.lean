/- What the laws rest on: CutP, S5a, Ref2a, RefDec, RefText, RelRef, StzT, S5b, E8b, E8c. -/
import Derived.Test.YtbljkpbaceiaiaaGreatDoorQAPZA
import Derived.Test.YtbljkpbaceiaiaaGreatDoorQARZA
set_option maxRecDepth 100000
set_option linter.unusedVariables false
set_option linter.unusedSimpArgs false
namespace Go.Proofs.YtbljkpbaceiaiaaGreatDoor
open Go.RowKit
def PcInv (c:Nat) (l:List Nat) (out:List (List Nat)) (fr i:Nat):Prop:=fr≤i∧cutBy c l=out++preH ((l.drop fr).take (i - fr)) (cutBy c (l.drop i))
theorem pc_start (c:Nat) (l:List Nat):PcInv c l [] 0 0:=⟨Nat.le_refl _,by simp [preH_nil (cutBy_ne _ _)]⟩
theorem pc_cut {c:Nat} {l:List Nat} {out:List (List Nat)} {fr i:Nat} (h:PcInv c l out fr i) (hi:i < l.length) (hc:l.getD i 0=c):PcInv c l (out++[(l.drop fr).take (i - fr)]) (i+1) (i+1):=by
 refine ⟨Nat.le_refl _,?_⟩
 obtain ⟨h1,h2⟩:=h
 rw [List.getD_eq_getElem?_getD,List.getElem?_eq_getElem hi,Option.getD_some] at hc
 rw [List.drop_eq_getElem_cons hi] at h2
 conv at h2=>rhs;unfold cutBy
 rw [if_pos hc] at h2
 rw [h2,Nat.sub_self,List.take_zero,preH_nil (cutBy_ne _ _)]
 simp [preH]
theorem pc_on {c:Nat} {l:List Nat} {out:List (List Nat)} {fr i:Nat} (h:PcInv c l out fr i) (hi:i < l.length) (hc:l.getD i 0≠c):PcInv c l out fr (i+1):=by
 obtain ⟨h1,h2⟩:=h
 refine ⟨by omega,?_⟩
 rw [List.getD_eq_getElem?_getD,List.getElem?_eq_getElem hi,Option.getD_some] at hc
 rw [List.drop_eq_getElem_cons hi] at h2
 conv at h2=>rhs;unfold cutBy
 rw [if_neg hc,preH_preH] at h2
 rw [h2]
 congr 2
 rw [show i+1 - fr=(i - fr)+1 by omega,List.take_succ_eq_append_getElem (by rw [List.length_drop];omega)]
 congr 2
 rw [List.getElem_drop]
 congr 1
 omega
theorem pc_end {c:Nat} {l:List Nat} {out:List (List Nat)} {fr:Nat} (h:PcInv c l out fr l.length):cutBy c l=out++[l.drop fr]:=by
 obtain ⟨h1,h2⟩:=h
 rw [h2,List.drop_length]
 simp only [cutBy,preH,List.append_nil]
 rw [List.take_of_length_le (by rw [List.length_drop];omega)]
theorem pc_len {c:Nat} {l:List Nat} {out:List (List Nat)} {fr i:Nat} (h:PcInv c l out fr i):out.length≤l.length:=by
 have:=congrArg List.length h.2
 rw [cutBy_len,List.length_append,preH_len _ (cutBy_ne _ _),cutBy_len] at this
 have h2:=List.count_le_length (a:=c) (l:=l)
 omega
theorem fds_info:(Tryz.prog.info? 47).map (fun i=>(i.zero,i.size,i.bytes))=some (some (.slice none 0 0),1,24):=by kernel_rfl
theorem Digit_any (c:Nat) (w:World):Calls Tryz.prog 53 #[.int .u8 (c:Int)] w fun e w'=>e=.returned (.bool (digB c))∧w=w':=by
 have X:=Lib.hid (show digB c=(decide ((48:Int)≤c)&&decide ((c:Int)≤57)) by unfold digB;rw [Bool.eq_iff_iff];simp;omega)
 by_cases h:(48:Int)≤c
 ·go_enter Tryz.func53,Tryz.ntmps53
  go_wp2
  go_ret
  refine ⟨?_,rfl⟩
  rw [X.out];simp [h]
 ·have h2:(c:Int) < 48:=by omega
  go_enter Tryz.func53,Tryz.ntmps53
  go_wp2
  go_ret
  refine ⟨?_,rfl⟩
  rw [X.out];simp;omega
theorem Letter_any (c:Nat) (w:World):Calls Tryz.prog 113 #[.int .u8 (c:Int)] w fun e w'=>e=.returned (.bool (letB c))∧w=w':=by
 have X:=Lib.hid (show letB c=((decide ((97:Int)≤c)&&decide ((c:Int)≤122))||(decide ((65:Int)≤c)&&decide ((c:Int)≤90))) by unfold letB;rw [Bool.eq_iff_iff];simp;omega)
 go_enter Tryz.func113,Tryz.ntmps113
 go_wp2
 all_goals
  go_ret
  refine ⟨congrArg (fun b=>Ending.returned (.bool b)) ?_,rfl⟩
  rw [X.out,Bool.eq_iff_iff]
  simp
  omega
theorem decF_fuel:∀(f g n:Nat) (l:List Nat),n < f→n < g→decF f n l=decF g n l
 | 0,_,_,_,h,_=>by omega
 | _+1,0,_,_,_,h=>by omega
 | f+1,g+1,n,l,h1,h2=>by
  simp only [decF]
  by_cases h:n < 10
  ·rw [if_pos h,if_pos h]
  ·rw [if_neg h,if_neg h]
   exact decF_fuel f g _ _ (by omega) (by omega)
def tenS:ByteArray:={ data:=#[48,49,50,51,52,53,54,55,56,57] }
theorem digit_at:∀d,d < 10→((B tenS).drop d).take (d+1 - d)=[48+d]:=by decide
theorem B_digit (s:ByteArray) (d:Nat) (h:d < 10):B (tenS.extract d (d+1)++s)=(48+d)::B s:=by
 rw [B_append,B_extract,digit_at d h];rfl
theorem digit_size (s:ByteArray) (d:Nat) (h:d < 10):(tenS.extract d (d+1)++s).size=s.size+1:=by
 rw [←B_len,B_digit s d h,List.length_cons,B_len]
def DecRel (n m:Nat) (s:ByteArray):Prop:=(s.size=0∧m=n)∨(s.size≠0∧decL n=if m=0 then B s else decF (m+1) m (B s))
theorem decRel_step {n m:Nat} {s:ByteArray} (h:DecRel n m s) (hg:0 < m∨s.size=0):DecRel n (m / 10) (tenS.extract (m % 10) (m % 10+1)++s):=by
 have hd:m % 10 < 10:=Nat.mod_lt _ (by omega)
 right
 rw [digit_size s _ hd,B_digit s _ hd]
 refine ⟨by omega,?_⟩
 have e:decL n=decF (m+1) m (B s):=by
  rcases h with ⟨h1,rfl⟩|⟨h1,h2⟩
  ·have:B s=[]:=List.eq_nil_of_length_eq_zero (by rw [B_len];exact h1)
   rw [this];rfl
  ·rw [h2,if_neg (by omega)]
 rw [e]
 simp only [decF]
 by_cases h10:m < 10
 ·rw [if_pos h10,if_pos (by omega),Nat.mod_eq_of_lt h10]
 ·rw [if_neg h10,if_neg (by omega)]
  have:=decF_fuel m (m / 10+1) (m / 10) ((48+m % 10)::B s) (by omega) (by omega)
  rw [this]
  rfl
def decM (x y:Value):Nat:=(intOf x).toNat+(match y with|.string s=>1 - s.size|_=>0)
theorem decM_step {m:Nat} {s:ByteArray} (h:0 < m∨s.size=0):decM (.int .i64 ((m:Int) / 10)) (.string (tenS.extract (m % 10) (m % 10+1)++s)) < decM (.int .i64 m) (.string s):=by
 have e:=digit_size s (m % 10) (Nat.mod_lt _ (by omega))
 unfold decM intOf
 simp only [e]
 omega
theorem decimal_any (n:Nat) (w:World) (hn:n≤9223372036854775807) :
  Calls Tryz.prog 55 #[.int .i64 (n:Int)] w fun e w'=>e=.returned (.string (mk (decL n)))∧w=w':=by
 go_enter Tryz.func55,Tryz.ntmps55
 go_wp2
 go_loop [0,3] (fun x y=>∃(m:Nat) (s:ByteArray),(s.size+m≤n∨(m=0∧s.size≤1))∧x=.int .i64 m∧y=.string s∧DecRel n m s) (fun x y=>decM x y)
 case atStart=>exact ⟨n,_,.inl (by show 0+n≤n;omega),rfl,rfl,.inl ⟨rfl,rfl⟩⟩
 case round=>
  obtain ⟨m,s,hm,rfl,rfl,hd⟩:=hrel
  have HD:=Lib.hid hd
  have HM:=Lib.hid hm
  clear hd
  by_cases h:0 < m
  ·have hmn:m≤n:=by omega
   have hsz:min (m % 10+1) 10 - m % 10+s.size≤9223372036854775807:=by omega
   clear hm
   go_wp2
   go_round
   case rel=>exact ⟨m / 10,_,by have:=HM.out;have e:=digit_size s (m % 10) (Nat.mod_lt _ (by omega));show (tenS.extract (m % 10) (m % 10+1)++s).size+m / 10≤n∨_;rw [e];omega,by go_num,rfl,decRel_step HD.out (.inl h)⟩
   case measure=>exact decM_step (.inl h)
  ·have hm0:m≤0:=by omega
   by_cases hs:s.size=0
   ·have t1:s.toList.isEmpty=true:=by rw [toList_data,List.isEmpty_iff];exact List.eq_nil_of_length_eq_zero (by rw [Array.length_toList];exact hs)
    have hsz:min (m % 10+1) 10 - m % 10+s.size≤9223372036854775807:=by omega
    have HS:=Lib.hid hs
    clear hs hm
    go_wp2
    go_round
    case rel=>exact ⟨m / 10,_,by have:=HS.out;have e:=digit_size s (m % 10) (Nat.mod_lt _ (by omega));show (tenS.extract (m % 10) (m % 10+1)++s).size+m / 10≤n∨(m / 10=0∧(tenS.extract (m % 10) (m % 10+1)++s).size≤1);rw [e];omega,by go_num,rfl,decRel_step HD.out (.inr HS.out)⟩
    case measure=>exact decM_step (.inr HS.out)
   ·have t1:s.toList.isEmpty=false:=by
     rw [toList_data,List.isEmpty_eq_false_iff]
     intro he
     apply hs
     have:=congrArg List.length he
     rw [Array.length_toList] at this
     exact this
    have HF:=Lib.hid (show s=mk (decL n) by
     refine eq_mk ?_
     rcases HD.out with ⟨h1,_⟩|⟨_,h2⟩
     ·exact absurd h1 hs
     ·rw [h2,if_pos (by omega)])
    clear hs hm
    go_wp2
    go_ret
    exact ⟨by rw [←HF.out];rfl,rfl⟩
theorem digB_iff {c:Nat}:digB c=true↔48≤c∧c≤57:=by simp [digB]
def okAt (l:List Nat) (j:Nat):Bool:=plnB (l.getD j 0)||(decide (0 < j)&&nmcB (l.getD j 0))
theorem okAt_no {s:ByteArray} {k:Nat} (hk:k < s.size) (h:okAt (B s) k=false):nameB (B s)=false:=by
 unfold okAt at h
 rw [B_getD s k hk] at h
 rw [Bool.or_eq_false_iff] at h
 rcases Nat.eq_zero_or_pos k with rfl|h0
 ·unfold nameB
  rw [B_getD s 0 hk,h.1,Bool.and_false,Bool.false_and]
 ·have h2:=h.2
  rw [decide_eq_true h0,Bool.true_and] at h2
  unfold nameB
  rw [nm_not hk h2,Bool.and_false]
theorem okAt_yes {s:ByteArray} (h:∀j,j < s.size→okAt (B s) j=true):nameB (B s)=(decide (2≤s.size)&&decide (s.size≤40)):=by
 unfold nameB
 rw [B_len]
 by_cases h2:2≤s.size
 ·have h0:=h 0 (by omega)
  unfold okAt at h0
  rw [decide_eq_false (Nat.lt_irrefl 0),Bool.false_and,Bool.or_false] at h0
  have ha:(B s).all nmcB=true:=nm_yes fun j hj=>by
   have:=h j hj
   unfold okAt at this
   rw [Bool.or_eq_true] at this
   rcases this with h1|h1
   ·unfold nmcB;rw [h1];rfl
   ·rw [Bool.and_eq_true] at h1;exact h1.2
  rw [h0,ha,Bool.and_true,Bool.and_true]
 ·rw [decide_eq_false h2,Bool.false_and,Bool.false_and];rfl
theorem q3name_any (s:ByteArray) (w:World) (hs:s.size≤65536):Calls Tryz.prog 32 #[.string s] w fun e w'=>e=.returned (.bool (nameB (B s)))∧w=w':=by
 go_enter Tryz.func32,Tryz.ntmps32
 go_wp2
 go_loop [3] (fun x=>∃k:Nat,k≤s.size∧x=.int .i64 k∧∀j,j < k→okAt (B s) j=true) (fun x=>s.size - (intOf x).toNat)
 case atStart=>exact ⟨0,Nat.zero_le _,rfl,fun j hj=>by omega⟩
 case round=>
  obtain ⟨k,hk,rfl,hno⟩:=hrel
  have HN:=Lib.hid hno
  clear hno
  by_cases hlt:k < s.size
  ·have XN:=Lib.hid (okAt_no hlt)
   rcases Nat.eq_zero_or_pos k with rfl|hk0
   ·have OK:=Lib.hid (show okAt (B s) 0=(plnB s[0].toNat||(decide (0 < 0)&&nmcB s[0].toNat)) by unfold okAt;rw [B_getD s 0 hlt])
    have KD:=Lib.hid (fun w=>Digit_any s[0].toNat w)
    by_cases a1:97≤s[0].toNat
    ·by_cases a2:s[0].toNat≤122
     ·have i1:(97:Int)≤(s[0].toNat:Int):=by omega
      have i2:(s[0].toNat:Int)≤122:=by omega
      have p1:((s[0].toNat:Int)==43)=false:=by rw [beq_eq_false_iff_ne];omega
      have p2:((s[0].toNat:Int)==45)=false:=by rw [beq_eq_false_iff_ne];omega
      have p3:((s[0].toNat:Int)==46)=false:=by rw [beq_eq_false_iff_ne];omega
      have YES:=Lib.hid (show okAt (B s) 0=true by rw [OK.out];unfold plnB;rw [decide_eq_true (show 97≤s[0].toNat∧s[0].toNat≤122 from ⟨a1,a2⟩)];rfl)
      clear a1 a2
      go_wp2_with fail
      go_round
      case rel=>exact ⟨1,by omega,by go_num,fun j hj=>by rcases (by omega:j < 0∨j=0) with h|rfl;exact HN.out j h;exact YES.out⟩
      case measure=>simp [intOf];omega
     ·have i1:(97:Int)≤(s[0].toNat:Int):=by omega
      have i2:(122:Int) < (s[0].toNat:Int):=by omega
      have i3:decide ((s[0].toNat:Int)≤122)=false:=by rw [decide_eq_false_iff_not];omega
      have p1:((s[0].toNat:Int)==43)=false:=by rw [beq_eq_false_iff_ne];omega
      have p2:((s[0].toNat:Int)==45)=false:=by rw [beq_eq_false_iff_ne];omega
      have p3:((s[0].toNat:Int)==46)=false:=by rw [beq_eq_false_iff_ne];omega
      have hd:digB s[0].toNat=false:=by unfold digB;rw [decide_eq_false (by omega)]
      rw [hd] at KD
      have NOT:=Lib.hid (XN.out (show okAt (B s) 0=false by rw [OK.out];unfold nmcB plnB;rw [hd,decide_eq_false (show ¬(97≤s[0].toNat∧s[0].toNat≤122) by omega),decide_eq_false (show ¬s[0].toNat=43 by omega),decide_eq_false (show ¬s[0].toNat=45 by omega),decide_eq_false (show ¬s[0].toNat=46 by omega)];simp))
      clear a1 a2 hd
      go_wp2_with (go_at_call 53;(with_reducible refine (KD.out _).mono ?_);rintro e w' ⟨rfl,rfl⟩)
      go_ret
      exact ⟨by rw [NOT.out];rfl,rfl⟩
    ·have i1:(s[0].toNat:Int) < 97:=by omega
     cases hd:digB s[0].toNat
     ·rw [hd] at KD
      have NOT:=Lib.hid (XN.out (show okAt (B s) 0=false by rw [OK.out];unfold plnB;rw [hd,decide_eq_false (show ¬(97≤s[0].toNat∧s[0].toNat≤122) by omega),decide_eq_false (show ¬0 < 0 by omega)];rfl))
      clear a1 hd
      go_wp2_with (go_at_call 53;(with_reducible refine (KD.out _).mono ?_);rintro e w' ⟨rfl,rfl⟩)
      go_ret
      exact ⟨by rw [NOT.out];rfl,rfl⟩
     ·have hd2:48≤s[0].toNat:=by have:=digB_iff.1 hd;omega
      rw [hd] at KD
      have p1:((s[0].toNat:Int)==43)=false:=by rw [beq_eq_false_iff_ne];omega
      have p2:((s[0].toNat:Int)==45)=false:=by rw [beq_eq_false_iff_ne];omega
      have p3:((s[0].toNat:Int)==46)=false:=by rw [beq_eq_false_iff_ne];omega
      have YES:=Lib.hid (show okAt (B s) 0=true by rw [OK.out];unfold plnB;rw [hd];simp)
      clear a1 hd hd2
      go_wp2_with (go_at_call 53;(with_reducible refine (KD.out _).mono ?_);rintro e w' ⟨rfl,rfl⟩)
      go_round
      case rel=>exact ⟨1,by omega,by go_num,fun j hj=>by rcases (by omega:j < 0∨j=0) with h|rfl;exact HN.out j h;exact YES.out⟩
      case measure=>simp [intOf];omega
   ·have OK:=Lib.hid (show okAt (B s) k=(plnB s[k].toNat||(decide (0 < k)&&nmcB s[k].toNat)) by unfold okAt;rw [B_getD s k hlt])
    have KD:=Lib.hid (fun w=>Digit_any s[k].toNat w)
    by_cases a1:97≤s[k].toNat
    ·by_cases a2:s[k].toNat≤122
     ·have i1:(97:Int)≤(s[k].toNat:Int):=by omega
      have i2:(s[k].toNat:Int)≤122:=by omega
      have hk0:(0:Int) < (k:Int):=by omega
      have p1:((s[k].toNat:Int)==43)=false:=by rw [beq_eq_false_iff_ne];omega
      have p2:((s[k].toNat:Int)==45)=false:=by rw [beq_eq_false_iff_ne];omega
      have p3:((s[k].toNat:Int)==46)=false:=by rw [beq_eq_false_iff_ne];omega
      have YES:=Lib.hid (show okAt (B s) k=true by rw [OK.out];unfold plnB;rw [decide_eq_true (show 97≤s[k].toNat∧s[k].toNat≤122 from ⟨a1,a2⟩)];rfl)
      clear a1 a2
      go_wp2_with fail
      go_round
      case rel=>exact ⟨k+1,by omega,by go_num,fun j hj=>by rcases (by omega:j < k∨j=k) with h|rfl;exact HN.out j h;exact YES.out⟩
      case measure=>simp [intOf];omega
     ·have i1:(97:Int)≤(s[k].toNat:Int):=by omega
      have i2:(122:Int) < (s[k].toNat:Int):=by omega
      have i3:decide ((s[k].toNat:Int)≤122)=false:=by rw [decide_eq_false_iff_not];omega
      have hk0:(0:Int) < (k:Int):=by omega
      have p1:((s[k].toNat:Int)==43)=false:=by rw [beq_eq_false_iff_ne];omega
      have p2:((s[k].toNat:Int)==45)=false:=by rw [beq_eq_false_iff_ne];omega
      have p3:((s[k].toNat:Int)==46)=false:=by rw [beq_eq_false_iff_ne];omega
      have hd:digB s[k].toNat=false:=by unfold digB;rw [decide_eq_false (by omega)]
      rw [hd] at KD
      have NOT:=Lib.hid (XN.out (show okAt (B s) k=false by rw [OK.out];unfold nmcB plnB;rw [hd,decide_eq_false (show ¬(97≤s[k].toNat∧s[k].toNat≤122) by omega),decide_eq_false (show ¬s[k].toNat=43 by omega),decide_eq_false (show ¬s[k].toNat=45 by omega),decide_eq_false (show ¬s[k].toNat=46 by omega)];simp))
      clear a1 a2 hd
      go_wp2_with (go_at_call 53;(with_reducible refine (KD.out _).mono ?_);rintro e w' ⟨rfl,rfl⟩)
      go_ret
      exact ⟨by rw [NOT.out];rfl,rfl⟩
    ·have i1:(s[k].toNat:Int) < 97:=by omega
     cases hd:digB s[k].toNat
     ·rw [hd] at KD
      have hk0:(0:Int) < (k:Int):=by omega
      by_cases h43:s[k].toNat=43
      ·have p1:((s[k].toNat:Int)==43)=true:=by rw [beq_iff_eq];omega
       have YES:=Lib.hid (show okAt (B s) k=true by rw [OK.out];unfold nmcB;rw [decide_eq_true (show 0 < k by omega),decide_eq_true h43];simp)
       clear a1 hd h43
       go_wp2_with (go_at_call 53;(with_reducible refine (KD.out _).mono ?_);rintro e w' ⟨rfl,rfl⟩)
       go_round
       case rel=>exact ⟨k+1,by omega,by go_num,fun j hj=>by rcases (by omega:j < k∨j=k) with h|rfl;exact HN.out j h;exact YES.out⟩
       case measure=>simp [intOf];omega
      by_cases h45:s[k].toNat=45
      ·have p1:((s[k].toNat:Int)==43)=false:=by rw [beq_eq_false_iff_ne];omega
       have p2:((s[k].toNat:Int)==45)=true:=by rw [beq_iff_eq];omega
       have YES:=Lib.hid (show okAt (B s) k=true by rw [OK.out];unfold nmcB;rw [decide_eq_true (show 0 < k by omega),decide_eq_false h43,decide_eq_true h45];simp)
       clear a1 hd h43 h45
       go_wp2_with (go_at_call 53;(with_reducible refine (KD.out _).mono ?_);rintro e w' ⟨rfl,rfl⟩)
       go_round
       case rel=>exact ⟨k+1,by omega,by go_num,fun j hj=>by rcases (by omega:j < k∨j=k) with h|rfl;exact HN.out j h;exact YES.out⟩
       case measure=>simp [intOf];omega
      by_cases h46:s[k].toNat=46
      ·have p1:((s[k].toNat:Int)==43)=false:=by rw [beq_eq_false_iff_ne];omega
       have p2:((s[k].toNat:Int)==45)=false:=by rw [beq_eq_false_iff_ne];omega
       have p3:((s[k].toNat:Int)==46)=true:=by rw [beq_iff_eq];omega
       have YES:=Lib.hid (show okAt (B s) k=true by rw [OK.out];unfold nmcB;rw [decide_eq_true (show 0 < k by omega),decide_eq_false h43,decide_eq_false h45,decide_eq_true h46];simp)
       clear a1 hd h43 h45 h46
       go_wp2_with (go_at_call 53;(with_reducible refine (KD.out _).mono ?_);rintro e w' ⟨rfl,rfl⟩)
       go_round
       case rel=>exact ⟨k+1,by omega,by go_num,fun j hj=>by rcases (by omega:j < k∨j=k) with h|rfl;exact HN.out j h;exact YES.out⟩
       case measure=>simp [intOf];omega
      have p1:((s[k].toNat:Int)==43)=false:=by rw [beq_eq_false_iff_ne];omega
      have p2:((s[k].toNat:Int)==45)=false:=by rw [beq_eq_false_iff_ne];omega
      have p3:((s[k].toNat:Int)==46)=false:=by rw [beq_eq_false_iff_ne];omega
      have NOT:=Lib.hid (XN.out (show okAt (B s) k=false by rw [OK.out];unfold nmcB plnB;rw [hd,decide_eq_false (show ¬(97≤s[k].toNat∧s[k].toNat≤122) by omega),decide_eq_false h43,decide_eq_false h45,decide_eq_false h46];simp))
      clear a1 hd h43 h45 h46
      go_wp2_with (go_at_call 53;(with_reducible refine (KD.out _).mono ?_);rintro e w' ⟨rfl,rfl⟩)
      go_ret
      exact ⟨by rw [NOT.out];rfl,rfl⟩
     ·have hd2:48≤s[k].toNat:=by have:=digB_iff.1 hd;omega
      rw [hd] at KD
      have hk0:(0:Int) < (k:Int):=by omega
      have p1:((s[k].toNat:Int)==43)=false:=by rw [beq_eq_false_iff_ne];omega
      have p2:((s[k].toNat:Int)==45)=false:=by rw [beq_eq_false_iff_ne];omega
      have p3:((s[k].toNat:Int)==46)=false:=by rw [beq_eq_false_iff_ne];omega
      have YES:=Lib.hid (show okAt (B s) k=true by rw [OK.out];unfold plnB;rw [hd];simp)
      clear a1 hd hd2
      go_wp2_with (go_at_call 53;(with_reducible refine (KD.out _).mono ?_);rintro e w' ⟨rfl,rfl⟩)
      go_round
      case rel=>exact ⟨k+1,by omega,by go_num,fun j hj=>by rcases (by omega:j < k∨j=k) with h|rfl;exact HN.out j h;exact YES.out⟩
      case measure=>simp [intOf];omega
  ·have Y:=Lib.hid (okAt_yes (s:=s) (fun j hj=>HN.out j (by omega)))
   by_cases h2:2≤s.size
   ·rw [decide_eq_true h2,Bool.true_and,show decide (s.size≤40)=decide ((s.size:Int)≤40) by rw [Bool.eq_iff_iff];simp;omega] at Y
    go_wp2
    go_ret
    exact ⟨by rw [Y.out];rfl,rfl⟩
   ·rw [decide_eq_false h2] at Y
    have h41:(s.size:Int) < 2:=by omega
    go_wp2
    go_ret
    exact ⟨by rw [Y.out];rfl,rfl⟩
def okF (l:List Nat) (j:Nat):Bool:=letB (l.getD j 0)||(decide (0 < j)&&(digB (l.getD j 0)||decide (l.getD j 0=45)))
theorem fn_all {r:List Nat} (h:∀j,j < r.length→nmC (r.getD j 0)=true):r.all nmC=true:=by
 rw [List.all_eq_true]
 intro x hx
 obtain ⟨j,hj,rfl⟩:=List.getElem_of_mem hx
 have:=h j hj
 rwa [List.getD_eq_getElem?_getD,List.getElem?_eq_getElem hj] at this
theorem fn_no {l:List Nat} {k:Nat} (hk:k < l.length) (h:okF l k=false):fnB l=false:=by
 cases l with
 | nil=>rfl
 | cons c r=>
  unfold okF at h
  rw [Bool.or_eq_false_iff] at h
  cases k with
  | zero=>
   have h1:=h.1
   simp only [List.getD_cons_zero] at h1
   rw [fnB_cons]
   rw [h1];rfl
  | succ k=>
   simp only [List.getD_cons_succ] at h
   have hn:nmC (r.getD k 0)=false:=by
    unfold nmC
    have h2:=h.2
    rw [decide_eq_true (Nat.succ_pos k),Bool.true_and] at h2
    rw [Bool.or_assoc,h2,Bool.or_false];exact h.1
   have:r.all nmC=false:=by
    rw [List.all_eq_false]
    have hk':k < r.length:=by simpa using hk
    exact ⟨r[k],List.getElem_mem hk',by rw [List.getD_eq_getElem?_getD,List.getElem?_eq_getElem hk'] at hn;simp only [Option.getD_some] at hn;rw [hn];decide⟩
   rw [fnB_cons]
   rw [this,Bool.and_false,Bool.false_and]
theorem fn_yes {l:List Nat} (h:∀j,j < l.length→okF l j=true):fnB l=(decide (1≤l.length)&&decide (l.length≤40)):=by
 cases l with
 | nil=>rfl
 | cons c r=>
  have h0:=h 0 (by simp)
  unfold okF at h0
  simp only [List.getD_cons_zero,decide_eq_false (Nat.lt_irrefl 0),Bool.false_and,Bool.or_false] at h0
  have ha:r.all nmC=true:=fn_all fun j hj=>by
   have:=h (j+1) (by simpa using hj)
   unfold okF at this
   simp only [List.getD_cons_succ,decide_eq_true (Nat.succ_pos j),Bool.true_and] at this
   unfold nmC
   rw [Bool.or_assoc];exact this
  rw [fnB_cons]
  rw [h0,ha]
  simp
  omega
theorem own_strs {T:Nat→Prop} {w:World} {base:Nat} {e:TypeId} {v:Value} {l:List (List Nat)} (h:Grow rdStr 1 T w base e v l):rdStrs w (fun b=>base≤b∧b < w.heap.size) l [v]:=by
 have h2:Grow rdStr 1 (fun _=>False) w base e v l:=h.flat fun _ _ _ _ _ h=>h
 exact rdStrs_good.more (h2.reads rdStr_good) fun b hb=>⟨hb.2.resolve_right id,hb.1⟩
set_option maxHeartbeats 1000000 in
theorem q5lines_any (s:ByteArray) (w:World) (hs:s.size≤65536) :
  Calls Tryz.prog 48 #[.string s] w fun e w'=>(∃A n cp,e=.returned (.slice A n cp)∧rdStrs w' (fun b=>w.heap.size≤b∧b < w'.heap.size) (cutBy 10 (B s)) [.slice A n cp])∧Below w.heap.size w w':=by
 obtain ⟨i0,hi,hz0,hz1,hz2⟩:=info_parts str_info
 have hlen:=B_len s
 go_enter Tryz.func48,Tryz.ntmps48
 go_wp2
 go_loopw [3,4,5] (fun v f i wr=>∃(out:List (List Nat)) (fr k:Nat),k≤s.size∧i=.int .i64 k∧f=.int .i64 fr∧PcInv 10 (B s) out fr k∧Grow rdStr 1 (fun _=>True) wr w.heap.size 9 v out∧Below w.heap.size w wr) (fun _ _ i _=>s.size - (intOf i).toNat)
 case atStart=>exact ⟨[],0,0,Nat.zero_le _,rfl,rfl,pc_start _ _,Grow.nil _ _ _ _,Below.refl _ _⟩
 case round=>
  obtain ⟨out,fr,k,hk,rfl,rfl,hP,hG,hbel⟩:=hrel
  have hfr:=hP.1
  have hol:=pc_len hP
  rw [hlen] at hol
  by_cases hlt:k < s.size
  ·have hgd:=B_getD s k hlt
   have hb256:=byte_le s k hlt
   have hPC:=Lib.hid (fun h=>pc_cut (c:=10) hP (by rw [hlen];exact hlt) h)
   have hPO:=Lib.hid (fun h=>pc_on (c:=10) hP (by rw [hlen];exact hlt) h)
   rw [hgd] at hPC hPO
   have HB:=Lib.hid hbel
   have hbs:=hbel.size
   clear hP hbel hgd
   by_cases he:s[k].toNat=10
   ·have hd:((s[k].toNat:Int)==10)=true:=by rw [beq_iff_eq];omega
    have PC:=Lib.hid (hPC.out he)
    clear hPC hPO he
    have hE:=(show rdStr wr (fun b=>True∧b < wr.heap.size∧u3.ownBlock≠some b) (((B s).drop fr).take (k - fr)) (#[Value.string (s.extract fr k)]:Array Value).toList from ⟨_,rfl,B_extract s fr k⟩)
    have hn1:out.length+1≤maxLen:=by unfold maxLen;omega
    have hn2:(out.length+1)*16≤140737488355328:=by omega
    go_wp2_with (at_builtin;refine wpList_grow1 _ rfl _ _ 35 rfl rdStr_good (by decide) (fun _=>True) w.heap.size 9 i0 (.string { data:=#[] }) 16 Tryz.underlying35 hi hz0 hz1 hz2 rfl _ out rfl hG _ _ 9 hE _ rfl rfl hn1 hn2 hbs ?_)
    intro v' w' hG' hgr
    have HB':=Lib.hid (grow_below hG hgr HB.out (Nat.le_refl _) hbs)
    clear hG hgr hE
    go_wp2
    go_roundw
    case rel=>exact ⟨_,k+1,k+1,by omega,by go_num,by go_num,PC.out,hG',HB'.out⟩
    case measure=>first|(simp [intOf];omega)|simp [intOf]
   ·have hd:((s[k].toNat:Int)==10)=false:=by rw [beq_eq_false_iff_ne];omega
    have PC:=Lib.hid (hPO.out he)
    clear hPC hPO he
    go_wp2
    go_roundw
    case rel=>exact ⟨_,fr,k+1,by omega,by go_num,rfl,PC.out,hG,HB.out⟩
    case measure=>first|(simp [intOf];omega)|simp [intOf]
  ·obtain rfl:k=s.size:=by omega
   have PE:=Lib.hid (show cutBy 10 (B s)=out++[(B s).drop fr] from pc_end (by rw [hlen];exact hP))
   have hE:=(show rdStr wr (fun b=>True∧b < wr.heap.size∧u3.ownBlock≠some b) ((B s).drop fr) (#[Value.string (s.extract fr s.size)]:Array Value).toList from ⟨_,rfl,by rw [B_extract,List.take_of_length_le (by rw [List.length_drop,hlen];omega)]⟩)
   have hn1:out.length+1≤maxLen:=by unfold maxLen;omega
   have hn2:(out.length+1)*16≤140737488355328:=by omega
   have HB:=Lib.hid hbel
   have hbs:=hbel.size
   clear hP hbel
   go_wp2_with (at_builtin;refine wpList_grow1 _ rfl _ _ 35 rfl rdStr_good (by decide) (fun _=>True) w.heap.size 9 i0 (.string { data:=#[] }) 16 Tryz.underlying35 hi hz0 hz1 hz2 rfl _ out rfl hG _ _ 9 hE _ rfl rfl hn1 hn2 hbs ?_)
   intro v' w' hG' hgr
   have HB':=Lib.hid (grow_below hG hgr HB.out (Nat.le_refl _) hbs)
   clear hG hgr hE
   obtain ⟨A,cp,rfl,_,_⟩:=hG'.own
   go_wp2
   go_ret
   exact ⟨⟨_,_,_,rfl,by rw [PE.out];exact own_strs hG'⟩,HB'.out⟩
set_option maxHeartbeats 1000000 in
theorem q5clean_any (s:ByteArray) (w:World) (hs:s.size≤maxLen):Calls Tryz.prog 71 #[.string s] w fun e w'=>e=.returned (.bool (!lowB (B s)))∧w=w':=by
 unfold maxLen at hs
 go_enter Tryz.func71,Tryz.ntmps71
 go_wp2
 go_loop [3] (fun i=>∃k:Nat,k≤s.size∧i=.int .i64 k∧lowB (B s)=lowB ((B s).drop k)) (fun i=>s.size - (intOf i).toNat)
 case atStart=>exact ⟨0,Nat.zero_le _,rfl,rfl⟩
 case round=>
  obtain ⟨k,hk,rfl,hl⟩:=hrel
  have HL:=Lib.hid hl
  clear hl
  by_cases hlt:k < s.size
  ·have BD:=Lib.hid (B_drop s k hlt)
   have hb:=byte_le s k hlt
   by_cases h32:s[k].toNat < 32
   ·have hd:(s[k].toNat:Int) < 32:=by omega
    have X:=Lib.hid (show lowB (B s)=true by rw [HL.out,BD.out,low_cons,decide_eq_true h32];rfl)
    clear h32
    go_wp2
    go_ret
    exact ⟨by rw [X.out];rfl,rfl⟩
   ·have hd:¬(s[k].toNat:Int) < 32:=by omega
    have X:=Lib.hid (show lowB (B s)=lowB ((B s).drop (k+1)) by rw [HL.out,BD.out,low_cons,decide_eq_false h32];rfl)
    clear h32
    go_wp2
    go_round
    case rel=>exact ⟨k+1,by omega,by go_num,X.out⟩
    case measure=>simp [intOf];omega
  ·have X:=Lib.hid (show lowB (B s)=false by rw [HL.out,B_drop_end s k (by omega)];rfl)
   go_wp2
   go_ret
   exact ⟨by rw [X.out];rfl,rfl⟩
theorem okF_at {s:ByteArray} {k:Nat} (hk:k < s.size):okF (B s) k=(letB s[k].toNat||(decide (0 < k)&&(digB s[k].toNat||decide (s[k].toNat=45)))):=by
 unfold okF
 rw [B_getD s k hk]
set_option maxHeartbeats 1000000 in
theorem q5name_any (s:ByteArray) (w:World) (hs:s.size≤maxLen):Calls Tryz.prog 95 #[.string s] w fun e w'=>e=.returned (.bool (fnB (B s)))∧w=w':=by
 unfold maxLen at hs
 have hlen:=B_len s
 go_enter Tryz.func95,Tryz.ntmps95
 go_wp2
 go_loop [3] (fun x=>∃k:Nat,k≤s.size∧x=.int .i64 k∧∀j,j < k→okF (B s) j=true) (fun x=>s.size - (intOf x).toNat)
 case atStart=>exact ⟨0,Nat.zero_le _,rfl,fun j hj=>by omega⟩
 case round=>
  obtain ⟨k,hk,rfl,hno⟩:=hrel
  have HN:=Lib.hid hno
  clear hno
  by_cases hlt:k < s.size
  ·have XN:=Lib.hid (fun h=>fn_no (l:=B s) (k:=k) (by rw [hlen];exact hlt) h)
   have OK:=Lib.hid (okF_at hlt)
   have KL:=Lib.hid (fun w=>Letter_any s[k].toNat w)
   have KD:=Lib.hid (fun w=>Digit_any s[k].toNat w)
   have hb:=byte_le s k hlt
   cases hl:letB s[k].toNat
   ·rw [hl] at KL OK
    clear hl
    rcases Nat.eq_zero_or_pos k with rfl|hk0
    ·have X:=Lib.hid (XN.out (by rw [OK.out];rfl))
     go_wp2_with (go_at_call 113;(with_reducible refine (KL.out _).mono ?_);rintro e w' ⟨rfl,rfl⟩)
     go_ret
     exact ⟨by rw [X.out];rfl,rfl⟩
    ·have k0:((k:Int)==0)=false:=by rw [beq_eq_false_iff_ne];omega
     cases hdg:digB s[k].toNat
     ·rw [hdg] at KD OK
      clear hdg
      by_cases h45:s[k].toNat=45
      ·have p1:((s[k].toNat:Int) != 45)=false:=by rw [h45];rfl
       have Y:=Lib.hid (show okF (B s) k=true by rw [OK.out,decide_eq_true hk0,decide_eq_true h45];rfl)
       clear h45
       go_wp2_with (first|(go_at_call 113;(with_reducible refine (KL.out _).mono ?_);rintro e w' ⟨rfl,rfl⟩)|(go_at_call 53;(with_reducible refine (KD.out _).mono ?_);rintro e w' ⟨rfl,rfl⟩))
       go_round
       case rel=>exact ⟨k+1,by omega,by go_num,fun j hj=>by rcases (by omega:j < k∨j=k) with h|rfl;exact HN.out j h;exact Y.out⟩
       case measure=>simp [intOf];omega
      ·have p1:((s[k].toNat:Int) != 45)=true:=by rw [bne_iff_ne];omega
       have X:=Lib.hid (XN.out (by rw [OK.out,decide_eq_false h45];simp))
       clear h45
       go_wp2_with (first|(go_at_call 113;(with_reducible refine (KL.out _).mono ?_);rintro e w' ⟨rfl,rfl⟩)|(go_at_call 53;(with_reducible refine (KD.out _).mono ?_);rintro e w' ⟨rfl,rfl⟩))
       go_ret
       exact ⟨by rw [X.out];rfl,rfl⟩
     ·rw [hdg] at KD OK
      clear hdg
      have Y:=Lib.hid (show okF (B s) k=true by rw [OK.out,decide_eq_true hk0];rfl)
      go_wp2_with (first|(go_at_call 113;(with_reducible refine (KL.out _).mono ?_);rintro e w' ⟨rfl,rfl⟩)|(go_at_call 53;(with_reducible refine (KD.out _).mono ?_);rintro e w' ⟨rfl,rfl⟩))
      go_round
      case rel=>exact ⟨k+1,by omega,by go_num,fun j hj=>by rcases (by omega:j < k∨j=k) with h|rfl;exact HN.out j h;exact Y.out⟩
      case measure=>simp [intOf];omega
   ·rw [hl] at KL OK
    clear hl
    have Y:=Lib.hid (show okF (B s) k=true by rw [OK.out];rfl)
    go_wp2_with (go_at_call 113;(with_reducible refine (KL.out _).mono ?_);rintro e w' ⟨rfl,rfl⟩)
    go_round
    case rel=>exact ⟨k+1,by omega,by go_num,fun j hj=>by rcases (by omega:j < k∨j=k) with h|rfl;exact HN.out j h;exact Y.out⟩
    case measure=>simp [intOf];omega
  ·obtain rfl:k=s.size:=by omega
   have X:=Lib.hid (fn_yes (l:=B s) (by rw [hlen];exact HN.out))
   rw [hlen] at X
   by_cases h1:1≤s.size
   ·by_cases h40:s.size≤40
    ·have i1:(1:Int)≤s.size:=by omega
     have i2:(s.size:Int)≤40:=by omega
     rw [decide_eq_true h1,decide_eq_true h40] at X
     clear h1 h40
     go_wp2
     go_ret
     exact ⟨by rw [X.out];rfl,rfl⟩
    ·have i1:(1:Int)≤s.size:=by omega
     have i2:decide ((s.size:Int)≤40)=false:=by rw [decide_eq_false_iff_not];omega
     rw [decide_eq_true h1,decide_eq_false h40] at X
     clear h1 h40
     go_wp2
     go_ret
     exact ⟨by rw [X.out];rfl,rfl⟩
   ·have i1:decide ((1:Int)≤s.size)=false:=by rw [decide_eq_false_iff_not];omega
    rw [decide_eq_false h1] at X
    clear h1
    go_wp2
    go_ret
    exact ⟨by rw [X.out];rfl,rfl⟩
set_option maxHeartbeats 2000000 in
theorem q8right_any (x:Pn) (w:World) (hn:x.n.size≤65536) (hv:x.x.size≤maxLen):Calls Tryz.prog 15 #[x.val] w fun e w'=>e=.returned (.bool (rgtN x))∧Below w.heap.size w w':=by
 obtain ⟨n,v,p⟩:=x
 have hv':v.size≤9223372036854775807:=hv
 clear hv
 have B1:=Lib.hid (show Below w.heap.size w (w.alloc (.cells #[.string n,.string v,.int .i64 p] 30)) from (Below.refl _ w).alloc (Nat.le_refl _) _)
 have KN:=Lib.hid (fun W=>q3name_any n W hn)
 have HX:=Lib.hid (show rgtN ⟨n,v,p⟩=((nameB (B n)||decide (n=star8))&&(decide (v.size≤60)&&((B v).all visB&&(decide (-1000≤p)&&decide (p≤1000))))) from rfl)
 have hst:=star_eq n
 clear hn
 generalize nameB (B n)=b at *
 generalize rgtN ⟨n,v,p⟩=R at *
 go_enter Tryz.func15,Tryz.ntmps15
 go_wp2_with fail
 refine (KN.out _).mono ?_
 rintro e w' ⟨rfl,rfl⟩
 go_wp2
 go_loop [4] (fun i=>∃k:Nat,k≤v.size∧i=.int .i64 k∧∀j,j < k→visB ((B v).getD j 0)=true) (fun i=>v.size - (intOf i).toNat)
 case atStart=>exact ⟨0,Nat.zero_le _,rfl,fun j hj=>absurd hj (Nat.not_lt_zero _)⟩
 case round=>
  obtain ⟨k,hk,rfl,hno⟩:=hrel
  have HN:=Lib.hid hno
  clear hno
  by_cases hlt:k < v.size
  ·have HD:=Lib.hid (B_getD v k hlt)
   have AN:=Lib.hid (byt_no (p:=visB) hlt)
   have XN:=Lib.hid (fun h:(B v).all visB=false=>show R=false by rw [HX.out,h,Bool.false_and,Bool.and_false,Bool.and_false])
   by_cases q1:(v[k].toNat:Int)≤32
   ·have X:=Lib.hid (XN.out (AN.out (vis_low (by omega))))
    clear hst
    go_wp2
    go_ret
    exact ⟨by rw [X.out];try rfl,B1.out⟩
   by_cases q2:(127:Int)≤(v[k].toNat:Int)
   ·have X:=Lib.hid (XN.out (AN.out (vis_high (by omega))))
    clear hst
    go_wp2
    go_ret
    exact ⟨by rw [X.out];try rfl,B1.out⟩
   by_cases q3:v[k].toNat=42
   ·have X:=Lib.hid (XN.out (AN.out (vis_star q3)))
    have t3:((v[k].toNat:Int)==42)=true:=by rw [beq_iff_eq];omega
    clear hst q3
    go_wp2
    go_ret
    exact ⟨by rw [X.out];try rfl,B1.out⟩
   ·have Y:=Lib.hid (show visB ((B v).getD k 0)=true by rw [HD.out];exact vis_ok (by omega) (by omega) q3)
    have t3:((v[k].toNat:Int)==42)=false:=by rw [beq_eq_false_iff_ne];omega
    clear hst q3
    go_wp2
    go_round
    case rel=>exact ⟨k+1,by omega,by go_num,fun j hj=>by rcases (by omega:j < k∨j=k) with h|rfl;exact HN.out j h;exact Y.out⟩
    case measure=>simp [intOf];omega
  ·have Y:=Lib.hid (byt_yes (p:=visB) (s:=v) (fun j hj=>HN.out j (by omega)))
   have HY:=Lib.hid (show R=((b||decide (n=star8))&&(decide (v.size≤60)&&(decide (-1000≤p)&&decide (p≤1000)))) by rw [HX.out,Y.out,Bool.true_and])
   clear HX
   cases b
   ·by_cases hs:n=star8
    ·rw [decide_eq_true hs] at hst HY
     clear hs
     by_cases h60:(v.size:Int)≤60
     ·by_cases p1:-1000≤p
      ·have X:=Lib.hid (show R=decide (p≤1000) by rw [HY.out,decide_eq_true (show v.size≤60 by omega),decide_eq_true p1];rfl)
       by_cases p2:p≤1000
       ·rw [decide_eq_true p2] at X
        go_wp2
        go_ret
        exact ⟨by rw [X.out];try rfl,B1.out⟩
       ·rw [decide_eq_false p2] at X
        go_wp2
        go_ret
        exact ⟨by rw [X.out];try rfl,B1.out⟩
      ·have X:=Lib.hid (show R=false by rw [HY.out,decide_eq_false p1,Bool.false_and,Bool.and_false,Bool.and_false])
       go_wp2
       go_ret
       exact ⟨by rw [X.out];try rfl,B1.out⟩
     ·have X:=Lib.hid (show R=false by rw [HY.out,decide_eq_false (show ¬v.size≤60 by omega),Bool.false_and,Bool.and_false])
      go_wp2
      go_ret
      exact ⟨by rw [X.out];try rfl,B1.out⟩
    ·rw [decide_eq_false hs] at hst HY
     have X:=Lib.hid (show R=false by rw [HY.out];rfl)
     clear hs
     go_wp2
     go_ret
     exact ⟨by rw [X.out];try rfl,B1.out⟩
   ·clear hst
    by_cases h60:(v.size:Int)≤60
    ·by_cases p1:-1000≤p
     ·have X:=Lib.hid (show R=decide (p≤1000) by rw [HY.out,decide_eq_true (show v.size≤60 by omega),decide_eq_true p1];rfl)
      by_cases p2:p≤1000
      ·rw [decide_eq_true p2] at X
       go_wp2
       go_ret
       exact ⟨by rw [X.out];try rfl,B1.out⟩
      ·rw [decide_eq_false p2] at X
       go_wp2
       go_ret
       exact ⟨by rw [X.out];try rfl,B1.out⟩
     ·have X:=Lib.hid (show R=false by rw [HY.out,decide_eq_false p1,Bool.false_and,Bool.and_false,Bool.and_false])
      go_wp2
      go_ret
      exact ⟨by rw [X.out];try rfl,B1.out⟩
    ·have X:=Lib.hid (show R=false by rw [HY.out,decide_eq_false (show ¬v.size≤60 by omega),Bool.false_and,Bool.and_false])
     go_wp2
     go_ret
     exact ⟨by rw [X.out];try rfl,B1.out⟩
theorem q8dec_any (p:Int) (w:World) (h1:-1000≤p) (h2:p≤1000):Calls Tryz.prog 35 #[.int .i64 p] w fun e w'=>e=.returned (.string (mk (decI p)))∧w=w':=by
 by_cases h0:p < 0
 ·obtain ⟨m,hm⟩:∃m:Nat,-p=(m:Int):=⟨(-p).toNat,by omega⟩
  have K:=Lib.hid (fun W=>decimal_any m W (by omega))
  have X:=Lib.hid (show ({ data:=#[45] }:ByteArray)++mk (decL m)=mk (decI p) by
   refine eq_mk ?_
   rw [B_append,B_mk (decL_lt m)]
   unfold decI
   rw [if_pos h0,show (-p).toNat=m by omega]
   rfl)
  have hz:(mk (decL m)).size≤1000:=by rw [size_mk];have:=dec_len8 m (by omega);omega
  obtain rfl:p=-(m:Int):=by omega
  have e1:IntKind.i64.wrap (-(-(m:Int)))=(m:Int):=by rw [Int.neg_neg];exact IntWalk.i64_in _ (by omega)
  clear hm
  generalize mk (decL m)=d at *
  go_enter Tryz.func35,Tryz.ntmps35
  go_wp2_with fail
  refine (K.out _).mono ?_
  rintro e w' ⟨rfl,rfl⟩
  go_wp2
  go_ret
  exact ⟨by rw [←X.out];try rfl,rfl⟩
 ·obtain ⟨m,rfl⟩:∃m:Nat,p=(m:Int):=⟨p.toNat,by omega⟩
  have K:=Lib.hid (fun W=>decimal_any m W (by omega))
  have X:=Lib.hid (show decL m=decI (m:Int) by unfold decI;rw [if_neg h0];rfl)
  go_enter Tryz.func35,Tryz.ntmps35
  go_wp2_with fail
  refine (K.out _).mono ?_
  rintro e w' ⟨rfl,rfl⟩
  go_wp2
  go_ret
  exact ⟨by rw [←X.out];try rfl,rfl⟩
end Go.Proofs.YtbljkpbaceiaiaaGreatDoor
