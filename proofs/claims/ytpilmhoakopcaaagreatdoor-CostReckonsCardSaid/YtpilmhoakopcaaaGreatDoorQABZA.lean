/- What the laws rest on: Str, Deep, Ref2a, Ref2b, RefDec, RefText, RefRight. -/
import Derived.Test.YtpilmhoakopcaaaGreatDoorQACZA
set_option maxRecDepth 100000
set_option linter.unusedVariables false
set_option linter.unusedSimpArgs false
namespace Go.Proofs.YtpilmhoakopcaaaGreatDoor
open Go.RowKit
theorem B_take_snoc (s:ByteArray) (k:Nat) (hk:k < s.size):(B s).take (k+1)=(B s).take k++[s[k].toNat]:=by
 rw [List.take_add_one,B_at s k hk];rfl
section
variable {α:Type} {E:Rd α} {sz:Nat}
theorem Grow.alloc (g:Good E sz) {T:Nat→Prop} {w:World} {base:Nat} {e:TypeId} {v:Value} {l:List α} (h:Grow E sz T w base e v l) (o:Obj):Grow E sz T (w.alloc o) base e v l:=
 h.below g ((Below.refl _ w).alloc (Nat.le_refl _) o)
end
theorem Digit_any (c:Nat) (w:World):Calls Tryz.prog 123 #[.int .u8 (c:Int)] w fun e w'=>e=.returned (.bool (digB c))∧w=w':=by
 have X:=Lib.hid (show digB c=(decide ((48:Int)≤c)&&decide ((c:Int)≤57)) by unfold digB;rw [Bool.eq_iff_iff];simp;omega)
 by_cases h:(48:Int)≤c
 ·go_enter Tryz.func123,Tryz.ntmps123
  go_wp2
  go_ret
  refine ⟨?_,rfl⟩
  rw [X.out];simp [h]
 ·have h2:(c:Int) < 48:=by omega
  go_enter Tryz.func123,Tryz.ntmps123
  go_wp2
  go_ret
  refine ⟨?_,rfl⟩
  rw [X.out];simp;omega
theorem Letter_any (c:Nat) (w:World):Calls Tryz.prog 166 #[.int .u8 (c:Int)] w fun e w'=>e=.returned (.bool (letB c))∧w=w':=by
 have X:=Lib.hid (show letB c=((decide ((97:Int)≤c)&&decide ((c:Int)≤122))||(decide ((65:Int)≤c)&&decide ((c:Int)≤90))) by unfold letB;rw [Bool.eq_iff_iff];simp;omega)
 go_enter Tryz.func166,Tryz.ntmps166
 go_wp2
 all_goals
  go_ret
  refine ⟨congrArg (fun b=>Ending.returned (.bool b)) ?_,rfl⟩
  rw [X.out,Bool.eq_iff_iff]
  simp
  omega
theorem sign_any (n:Int) (w:World):Calls Tryz.prog 183 #[.int .i64 n] w fun e w'=>e=.returned (.int .i64 (sgn n))∧w=w':=by
 have X:=Lib.hid (show (n < 0→sgn n=-1)∧(0 < n→sgn n=1)∧(¬n < 0→¬0 < n→sgn n=0) by unfold sgn;refine ⟨fun h=>if_pos h,fun h=>by rw [if_neg (by omega),if_pos h],fun h h2=>by rw [if_neg h,if_neg h2]⟩)
 rcases Int.lt_trichotomy n 0 with h|h|h
 ·go_enter Tryz.func183,Tryz.ntmps183
  go_wp2
  go_ret
  exact ⟨by rw [X.out.1 h];rfl,rfl⟩
 ·have h1:n≤0:=by omega
  have h2:0≤n:=by omega
  clear h
  go_enter Tryz.func183,Tryz.ntmps183
  go_wp2
  go_ret
  exact ⟨by rw [X.out.2.2 (by omega) (by omega)];rfl,rfl⟩
 ·go_enter Tryz.func183,Tryz.ntmps183
  go_wp2
  go_ret
  exact ⟨by rw [X.out.2.1 h];rfl,rfl⟩
theorem hasB_take {l:List Nat} {c k:Nat} (h:∀j,j < k→l.getD j 256≠c) (hk:l.length≤k):hasB l c=false:=by
 unfold hasB
 rw [Bool.eq_false_iff]
 intro hc
 obtain ⟨j,hj,e⟩:=List.getElem_of_mem (List.contains_iff_mem.1 hc)
 exact h j (by omega) (by rw [List.getD_eq_getElem?_getD,List.getElem?_eq_getElem hj];exact e)
theorem has_any (s:ByteArray) (c:Nat) (w:World) (hs:s.size≤9223372036854775807):Calls Tryz.prog 165 #[.string s,.int .u8 (c:Int)] w fun e w'=>e=.returned (.bool (hasB (B s) c))∧w=w':=by
 go_enter Tryz.func165,Tryz.ntmps165
 go_wp2
 go_loop [5] (fun i=>∃k:Nat,k≤s.size∧i=.int .i64 k∧∀j,j < k→(B s).getD j 256≠c) (fun i=>s.size - (intOf i).toNat)
 case atStart=>exact ⟨0,Nat.zero_le _,rfl,fun j hj=>by omega⟩
 case round=>
  obtain ⟨k,hk,rfl,hno⟩:=hrel
  have HN:=Lib.hid hno
  clear hno
  by_cases hlt:k < s.size
  ·have hb:=B_at s k hlt
   have HB:=Lib.hid hb
   clear hb
   by_cases hc:s[k].toNat=c
   ·have h1:((s[k].toNat:Int)==(c:Int))=true:=by rw [beq_iff_eq];omega
    have HC:=Lib.hid hc
    clear hc
    go_wp2
    go_ret
    refine ⟨congrArg (fun b=>Ending.returned (.bool b)) ?_,rfl⟩
    unfold hasB
    rw [eq_comm,List.contains_iff_mem]
    exact List.mem_of_getElem? (HC.out ▸ HB.out)
   ·have h1:((s[k].toNat:Int)==(c:Int))=false:=by rw [beq_eq_false_iff_ne];omega
    have HC:=Lib.hid hc
    clear hc
    go_wp2
    go_round
    case rel=>exact ⟨k+1,by omega,by go_num,fun j hj=>by rcases (by omega:j < k∨j=k) with h|rfl;exact HN.out j h;rw [List.getD_eq_getElem?_getD,HB.out];exact HC.out⟩
    case measure=>simp [intOf];omega
  ·go_wp2
   go_ret
   exact ⟨by rw [hasB_take HN.out (by rw [B_len];omega)];rfl,rfl⟩
theorem weight_any (s:ByteArray) (k:Nat) (w:World):Calls Tryz.prog 184 #[.string s,.int .i64 (k:Int)] w fun e w'=>e=.returned (.int .i64 (wt ((B s).drop k)))∧w=w':=by
 by_cases hk:k < s.size
 ·have hl:=byte_le s k hk
  have hd:=Lib.hid (B_drop s k hk)
  have t0:decide (s.size≤k)=false:=by simp;omega
  cases h1:digB s[k].toNat
  ·have W:=Lib.hid (show wt ((B s).drop k)=if s[k].toNat=126 then -1 else if letB s[k].toNat then (s[k].toNat:Int) else 1000+s[k].toNat by rw [hd.out];simp [wt,h1])
   by_cases h2:s[k].toNat=126
   ·have t2:((s[k].toNat:Int)==126)=true:=by rw [beq_iff_eq];omega
    have H2:=Lib.hid h2
    clear h2
    go_enter Tryz.func184,Tryz.ntmps184
    go_wp2_with (go_at_call 123;refine (Digit_any _ _).mono ?_;rw [h1];rintro e w' ⟨rfl,rfl⟩)
    go_ret
    exact ⟨by rw [W.out,if_pos H2.out];rfl,rfl⟩
   ·have t2:((s[k].toNat:Int)==126)=false:=by rw [beq_eq_false_iff_ne];omega
    have H2:=Lib.hid h2
    clear h2
    cases h3:letB s[k].toNat
    ·go_enter Tryz.func184,Tryz.ntmps184
     go_wp2_with (first|(go_at_call 123;refine (Digit_any _ _).mono ?_;rw [h1];rintro e w' ⟨rfl,rfl⟩)|(go_at_call 166;refine (Letter_any _ _).mono ?_;rw [h3];rintro e w' ⟨rfl,rfl⟩))
     go_ret
     exact ⟨by rw [W.out,if_neg H2.out,h3];rfl,rfl⟩
    ·go_enter Tryz.func184,Tryz.ntmps184
     go_wp2_with (first|(go_at_call 123;refine (Digit_any _ _).mono ?_;rw [h1];rintro e w' ⟨rfl,rfl⟩)|(go_at_call 166;refine (Letter_any _ _).mono ?_;rw [h3];rintro e w' ⟨rfl,rfl⟩))
     go_ret
     exact ⟨by rw [W.out,if_neg H2.out,h3];rfl,rfl⟩
  ·have W:=Lib.hid (show wt ((B s).drop k)=0 by rw [hd.out];simp [wt,h1])
   go_enter Tryz.func184,Tryz.ntmps184
   go_wp2_with (go_at_call 123;refine (Digit_any _ _).mono ?_;rw [h1];rintro e w' ⟨rfl,rfl⟩)
   go_ret
   exact ⟨by rw [W.out];rfl,rfl⟩
 ·have W:=Lib.hid (show wt ((B s).drop k)=0 by rw [B_drop_end s k (by omega)];rfl)
  have t0:decide (s.size≤k)=true:=by simp;omega
  go_enter Tryz.func184,Tryz.ntmps184
  go_wp2
  go_ret
  exact ⟨by rw [W.out];rfl,rfl⟩
def endD (l:List Nat) (i:Nat):Nat:=i+numD (l.drop i)
theorem getD_drop (l:List Nat) (i j:Nat):(l.drop i).getD j 0=l.getD (i+j) 0:=by
 rw [List.getD_eq_getElem?_getD,List.getD_eq_getElem?_getD,List.getElem?_drop]
theorem getD_take (l:List Nat) (n j:Nat) (h:j < n):(l.take n).getD j 0=l.getD j 0:=by
 rw [List.getD_eq_getElem?_getD,List.getD_eq_getElem?_getD,List.getElem?_take,if_pos h]
theorem digits_ends {s:ByteArray} {i k:Nat} (hi:i≤k) (hk:k≤s.size) (h:∀j,i≤j→j < k→digB ((B s).getD j 0)=true) (he:k=s.size∨digB ((B s).getD k 0)=false) :
  ((B s).drop i).takeWhile digB=((B s).drop i).take (k - i):=by
 refine takeWhile_is (by rw [List.length_drop,B_len];omega) (fun j hj=>by rw [getD_drop];exact h _ (by omega) (by omega)) ?_
 rcases he with he|he
 ·left;rw [List.length_drop,B_len];omega
 ·right;rw [getD_drop,show i+(k - i)=k by omega];exact he
theorem digits_of {s:ByteArray} {i k m:Nat} (hi:i≤m) (hm:m≤k) (hk:k≤s.size) (h1:((B s).drop i).takeWhile digB=((B s).drop i).take (k - i)) (h:∀j,i≤j→j < m→(B s).getD j 0=48) (he:m=k∨(B s).getD m 0≠48) :
  s.extract m k=mk (digs ((B s).drop i)):=by
 refine eq_mk ?_
 have hl:(((B s).drop i).take (k - i)).length=k - i:=by rw [List.length_take,List.length_drop,B_len];omega
 unfold digs
 rw [h1,B_extract,dropWhile_is (n:=m - i) (by omega) (fun j hj=>by rw [getD_take _ _ _ (by omega),getD_drop,h _ (by omega) (by omega)];rfl)]
 ·rw [List.drop_take,List.drop_drop,show i+(m - i)=m by omega,show k - i - (m - i)=k - m by omega]
 ·rcases he with he|he
  ·left;omega
  ·by_cases hmk:m=k
   ·left;omega
   ·right
    rw [getD_take _ _ _ (by omega),getD_drop,show i+(m - i)=m by omega]
    simpa using he
theorem numD_of {s:ByteArray} {i k:Nat} (hi:i≤k) (hk:k≤s.size) (h1:((B s).drop i).takeWhile digB=((B s).drop i).take (k - i)):endD (B s) i=k:=by
 unfold endD numD
 rw [h1,List.length_take,List.length_drop,B_len]
 omega
set_option maxHeartbeats 1000000 in
theorem digits_any (s:ByteArray) (i:Nat) (w:World) (hs:s.size≤9223372036854775807) (hi:i≤s.size) :
  Calls Tryz.prog 185 #[.string s,.int .i64 (i:Int)] w fun e w'=>e=.returned (.tuple #[.string (mk (digs ((B s).drop i))),.int .i64 (endD (B s) i:Int)])∧w=w':=by
 go_enter Tryz.func185,Tryz.ntmps185
 go_wp2
 go_loop [6] (fun x=>∃k:Nat,i≤k∧k≤s.size∧x=.int .i64 k∧∀j,i≤j→j < k→digB ((B s).getD j 0)=true) (fun x=>s.size - (intOf x).toNat)
 case atStart=>exact ⟨i,Nat.le_refl _,hi,rfl,fun j h1 h2=>by omega⟩
 case round=>
  obtain ⟨k,hik,hk,rfl,hall⟩:=hrel
  have HA:=Lib.hid hall
  clear hall
  by_cases hgo:k < s.size∧digB ((B s).getD k 0)=true
  ·obtain ⟨hlt,hd⟩:=hgo
   have hb:=B_getD s k hlt
   have HD:=Lib.hid hd
   rw [hb] at hd
   clear hb
   have HD2:=Lib.hid hd
   clear hd
   go_wp2_with (go_at_call 123;refine (Digit_any _ _).mono ?_;rw [HD2.out];rintro e w' ⟨rfl,rfl⟩)
   go_round
   case rel=>exact ⟨k+1,by omega,by omega,by go_num,fun j h1 h2=>by rcases (by omega:j < k∨j=k) with h|rfl;exact HA.out j h1 h;exact HD.out⟩
   case measure=>simp [intOf];omega
  ·have hend:k=s.size∨digB ((B s).getD k 0)=false:=by
    by_cases h:k < s.size
    ·right
     cases hd:digB ((B s).getD k 0)
     ·rfl
     ·exact absurd ⟨h,hd⟩ hgo
    ·left;omega
   have H1:=Lib.hid (digits_ends hik hk HA.out hend)
   have HEND:=Lib.hid hend
   clear hgo hend HA
   by_cases hlt:k < s.size
   ·have hd:=HEND.out.resolve_left (by omega)
    rw [B_getD s k hlt] at hd
    have HD:=Lib.hid hd
    clear hd
    go_wp2_with (go_at_call 123;refine (Digit_any _ _).mono ?_;rw [HD.out];rintro e w' ⟨rfl,rfl⟩)
    go_loop [7] (fun x=>∃m:Nat,i≤m∧m≤k∧x=.int .i64 m∧∀j,i≤j→j < m→(B s).getD j 0=48) (fun x=>k - (intOf x).toNat)
    case atStart=>exact ⟨i,Nat.le_refl _,hik,rfl,fun j h1 h2=>by omega⟩
    case round=>
     obtain ⟨m,him,hmk,rfl,hall⟩:=hrel
     have HA:=Lib.hid hall
     clear hall
     by_cases hmlt:m < k
     ·have hms:m < s.size:=by omega
      have hb:=B_getD s m hms
      by_cases hz:s[m].toNat=48
      ·have t1:((s[m].toNat:Int)==48)=true:=by rw [beq_iff_eq];omega
       have HZ:=Lib.hid (hb.trans hz)
       clear hb hz
       go_wp2
       go_round
       case rel=>exact ⟨m+1,by omega,by omega,by go_num,fun j h1 h2=>by rcases (by omega:j < m∨j=m) with h|rfl;exact HA.out j h1 h;exact HZ.out⟩
       case measure=>simp [intOf];omega
      ·have t1:((s[m].toNat:Int)==48)=false:=by rw [beq_eq_false_iff_ne];omega
       have HZ:=Lib.hid (show (B s).getD m 0≠48 by rw [hb];exact hz)
       have HF:=Lib.hid (digits_of him hmk hk H1.out HA.out (.inr HZ.out))
       clear hb hz
       go_wp2
       go_ret2
       exact ⟨by rw [←HF.out,numD_of hik hk H1.out];rfl,rfl⟩
     ·have hmk2:m=k:=by omega
      have HF:=Lib.hid (digits_of him hmk hk H1.out HA.out (.inl hmk2))
      clear hmk2
      go_wp2
      go_ret2
      exact ⟨by rw [←HF.out,numD_of hik hk H1.out];rfl,rfl⟩
   ·go_wp2_with fail
    go_loop [7] (fun x=>∃m:Nat,i≤m∧m≤k∧x=.int .i64 m∧∀j,i≤j→j < m→(B s).getD j 0=48) (fun x=>k - (intOf x).toNat)
    case atStart=>exact ⟨i,Nat.le_refl _,hik,rfl,fun j h1 h2=>by omega⟩
    case round=>
     obtain ⟨m,him,hmk,rfl,hall⟩:=hrel
     have HA:=Lib.hid hall
     clear hall
     by_cases hmlt:m < k
     ·have hms:m < s.size:=by omega
      have hb:=B_getD s m hms
      by_cases hz:s[m].toNat=48
      ·have t1:((s[m].toNat:Int)==48)=true:=by rw [beq_iff_eq];omega
       have HZ:=Lib.hid (hb.trans hz)
       clear hb hz
       go_wp2
       go_round
       case rel=>exact ⟨m+1,by omega,by omega,by go_num,fun j h1 h2=>by rcases (by omega:j < m∨j=m) with h|rfl;exact HA.out j h1 h;exact HZ.out⟩
       case measure=>simp [intOf];omega
      ·have t1:((s[m].toNat:Int)==48)=false:=by rw [beq_eq_false_iff_ne];omega
       have HZ:=Lib.hid (show (B s).getD m 0≠48 by rw [hb];exact hz)
       have HF:=Lib.hid (digits_of him hmk hk H1.out HA.out (.inr HZ.out))
       clear hb hz
       go_wp2
       go_ret2
       exact ⟨by rw [←HF.out,numD_of hik hk H1.out];rfl,rfl⟩
     ·have hmk2:m=k:=by omega
      have HF:=Lib.hid (digits_of him hmk hk H1.out HA.out (.inl hmk2))
      clear hmk2
      go_wp2
      go_ret2
      exact ⟨by rw [←HF.out,numD_of hik hk H1.out];rfl,rfl⟩
theorem numbers_any (s t:ByteArray) (w:World) (hs:s.size≤9223372036854775807) (ht:t.size≤9223372036854775807) :
  Calls Tryz.prog 186 #[.string s,.string t] w fun e w'=>e=.returned (.int .i64 (numC (B s) (B t)))∧w=w':=by
 by_cases hl:s.size=t.size
 ·have t1:((s.size:Int) != (t.size:Int))=false:=by rw [bne_eq_false_iff_eq];omega
  have N:=Lib.hid (show (Op.bytesLess s.toList t.toList=true→numC (B s) (B t)=-1)∧(Op.bytesLess s.toList t.toList=false→¬s.toList=t.toList→numC (B s) (B t)=1)∧(s.toList=t.toList→numC (B s) (B t)=0) by
   have hll:s.toList.length=t.toList.length:=by rw [toList_data,toList_data,Array.length_toList,Array.length_toList];exact hl
   obtain ⟨i1,i2,i3⟩:=bytesLess_lex s.toList t.toList hll
   have en:numC (B s) (B t)=lexL (s.toList.map UInt8.toNat) (t.toList.map UInt8.toNat):=by
    unfold numC;rw [if_neg (by rw [B_len,B_len];omega),toList_data,toList_data];rfl
   rw [en]
   refine ⟨i1.1,fun h1 h2=>?_,i2.1⟩
   rcases i3 with h|h|h
   ·have:=i1.2 h;rw [h1] at this;cases this
   ·exact absurd (i2.2 h) h2
   ·exact h)
  clear hl
  go_enter Tryz.func186,Tryz.ntmps186
  go_wp2
  ·have h1:Op.bytesLess s.toList t.toList=true:=by assumption
   go_ret
   exact ⟨by rw [N.out.1 h1];rfl,rfl⟩
  ·have h1:Op.bytesLess s.toList t.toList=false:=by assumption
   have h2:(!s.toList==t.toList)=true:=by assumption
   go_ret
   exact ⟨by rw [N.out.2.1 h1 (by simpa using h2)];rfl,rfl⟩
  ·have h2:(!s.toList==t.toList)=false:=by assumption
   go_ret
   exact ⟨by rw [N.out.2.2 (by simpa using h2)];rfl,rfl⟩
 ·have t1:((s.size:Int) != (t.size:Int))=true:=by rw [bne_iff_ne];omega
  have HN:=Lib.hid (show numC (B s) (B t)=sgn ((s.size:Int) - t.size) by unfold numC;rw [B_len,B_len,if_pos hl])
  clear hl
  go_enter Tryz.func186,Tryz.ntmps186
  go_wp2_with (go_at_call 183;refine (sign_any _ _).mono ?_;rintro e w' ⟨rfl,rfl⟩)
  go_ret
  exact ⟨by rw [HN.out];rfl,rfl⟩
theorem decF_fuel:∀(f g n:Nat) (l:List Nat),n < f→n < g→decF f n l=decF g n l
 | 0,_,_,_,h,_=>by omega
 | _+1,0,_,_,_,h=>by omega
 | f+1,g+1,n,l,h1,h2=>by
  simp only [decF]
  by_cases h:n < 10
  ·rw [if_pos h,if_pos h]
  ·rw [if_neg h,if_neg h]
   exact decF_fuel f g _ _ (by omega) (by omega)
def tenS:ByteArray:={ data:=#[48,49,50,51,52,53,54,55,56,57] }
theorem digit_at:∀d,d < 10→((B tenS).drop d).take (d+1 - d)=[48+d]:=by decide
theorem B_digit (s:ByteArray) (d:Nat) (h:d < 10):B (tenS.extract d (d+1)++s)=(48+d)::B s:=by
 rw [B_append,B_extract,digit_at d h];rfl
theorem digit_size (s:ByteArray) (d:Nat) (h:d < 10):(tenS.extract d (d+1)++s).size=s.size+1:=by
 rw [←B_len,B_digit s d h,List.length_cons,B_len]
def DecRel (n m:Nat) (s:ByteArray):Prop:=(s.size=0∧m=n)∨(s.size≠0∧decL n=if m=0 then B s else decF (m+1) m (B s))
theorem decRel_step {n m:Nat} {s:ByteArray} (h:DecRel n m s) (hg:0 < m∨s.size=0):DecRel n (m / 10) (tenS.extract (m % 10) (m % 10+1)++s):=by
 have hd:m % 10 < 10:=Nat.mod_lt _ (by omega)
 right
 rw [digit_size s _ hd,B_digit s _ hd]
 refine ⟨by omega,?_⟩
 have e:decL n=decF (m+1) m (B s):=by
  rcases h with ⟨h1,rfl⟩|⟨h1,h2⟩
  ·have:B s=[]:=List.eq_nil_of_length_eq_zero (by rw [B_len];exact h1)
   rw [this];rfl
  ·rw [h2,if_neg (by omega)]
 rw [e]
 simp only [decF]
 by_cases h10:m < 10
 ·rw [if_pos h10,if_pos (by omega),Nat.mod_eq_of_lt h10]
 ·rw [if_neg h10,if_neg (by omega)]
  have:=decF_fuel m (m / 10+1) (m / 10) ((48+m % 10)::B s) (by omega) (by omega)
  rw [this]
  rfl
def decM (x y:Value):Nat:=(intOf x).toNat+(match y with|.string s=>1 - s.size|_=>0)
theorem decM_step {m:Nat} {s:ByteArray} (h:0 < m∨s.size=0):decM (.int .i64 ((m:Int) / 10)) (.string (tenS.extract (m % 10) (m % 10+1)++s)) < decM (.int .i64 m) (.string s):=by
 have e:=digit_size s (m % 10) (Nat.mod_lt _ (by omega))
 unfold decM intOf
 simp only [e]
 omega
theorem decimal_any (n:Nat) (w:World) (hn:n≤9223372036854775807) :
  Calls Tryz.prog 164 #[.int .i64 (n:Int)] w fun e w'=>e=.returned (.string (mk (decL n)))∧w=w':=by
 go_enter Tryz.func164,Tryz.ntmps164
 go_wp2
 go_loop [0,3] (fun x y=>∃(m:Nat) (s:ByteArray),(s.size+m≤n∨(m=0∧s.size≤1))∧x=.int .i64 m∧y=.string s∧DecRel n m s) (fun x y=>decM x y)
 case atStart=>exact ⟨n,_,.inl (by show 0+n≤n;omega),rfl,rfl,.inl ⟨rfl,rfl⟩⟩
 case round=>
  obtain ⟨m,s,hm,rfl,rfl,hd⟩:=hrel
  have HD:=Lib.hid hd
  have HM:=Lib.hid hm
  clear hd
  by_cases h:0 < m
  ·have hmn:m≤n:=by omega
   have hsz:min (m % 10+1) 10 - m % 10+s.size≤9223372036854775807:=by omega
   clear hm
   go_wp2
   go_round
   case rel=>exact ⟨m / 10,_,by have:=HM.out;have e:=digit_size s (m % 10) (Nat.mod_lt _ (by omega));show (tenS.extract (m % 10) (m % 10+1)++s).size+m / 10≤n∨_;rw [e];omega,by go_num,rfl,decRel_step HD.out (.inl h)⟩
   case measure=>exact decM_step (.inl h)
  ·have hm0:m≤0:=by omega
   by_cases hs:s.size=0
   ·have t1:s.toList.isEmpty=true:=by rw [toList_data,List.isEmpty_iff];exact List.eq_nil_of_length_eq_zero (by rw [Array.length_toList];exact hs)
    have hsz:min (m % 10+1) 10 - m % 10+s.size≤9223372036854775807:=by omega
    have HS:=Lib.hid hs
    clear hs hm
    go_wp2
    go_round
    case rel=>exact ⟨m / 10,_,by have:=HS.out;have e:=digit_size s (m % 10) (Nat.mod_lt _ (by omega));show (tenS.extract (m % 10) (m % 10+1)++s).size+m / 10≤n∨(m / 10=0∧(tenS.extract (m % 10) (m % 10+1)++s).size≤1);rw [e];omega,by go_num,rfl,decRel_step HD.out (.inr HS.out)⟩
    case measure=>exact decM_step (.inr HS.out)
   ·have t1:s.toList.isEmpty=false:=by
     rw [toList_data,List.isEmpty_eq_false_iff]
     intro he
     apply hs
     have:=congrArg List.length he
     rw [Array.length_toList] at this
     exact this
    have HF:=Lib.hid (show s=mk (decL n) by
     refine eq_mk ?_
     rcases HD.out with ⟨h1,_⟩|⟨_,h2⟩
     ·exact absurd h1 hs
     ·rw [h2,if_pos (by omega)])
    clear hs hm
    go_wp2
    go_ret
    exact ⟨by rw [←HF.out];rfl,rfl⟩
theorem empty_size {s:ByteArray} (h:B s=[]):s.size=0:=by rw [←B_len,h];rfl
theorem text_any (e:Nat) (u r:ByteArray) (w:World) (he:e≤1000000000) (hu:u.size≤65536) (hr:r.size≤65536) :
  Calls Tryz.prog 151 #[.agg #[.int .i64 (e:Int),.string u,.string r]] w fun e' w'=>e'=.returned (.string (mk (textL e (B u) (B r))))∧Below w.heap.size w w':=by
 have hmk:=decL_len e
 have hsz:(mk (decL e)).size≤1000000001:=by rw [size_mk];omega
 by_cases h1:e=0
 ·cases h2:r.toList.isEmpty
  ·skip
   have t1:((e:Int) != 0)=false:=by rw [bne_eq_false_iff_eq];omega
   have HE:B r≠[]:=fun hh=>by rw [(empty_iff r).2 hh] at h2;cases h2
   have X:=Lib.hid (show u++{ data:=#[45] }++r=mk (textL e (B u) (B r)) by
    refine eq_mk ?_
    unfold textL
    rw [if_pos h1,if_neg HE]
    simp [B_append,B_dash])
   clear HE h1
   go_enter Tryz.func151,Tryz.ntmps151
   go_wp2
   go_ret
   exact ⟨by rw [←X.out];rfl,(Below.refl _ w).alloc (Nat.le_refl _) _⟩
  ·skip
   have t1:((e:Int) != 0)=false:=by rw [bne_eq_false_iff_eq];omega
   have HE:B r=[]:=(empty_iff r).1 h2
   have X:=Lib.hid (show u=mk (textL e (B u) (B r)) by
    refine eq_mk ?_
    unfold textL
    rw [if_pos h1,if_pos HE]
    simp)
   clear HE h1
   go_enter Tryz.func151,Tryz.ntmps151
   go_wp2
   go_ret
   exact ⟨by rw [←X.out];rfl,(Below.refl _ w).alloc (Nat.le_refl _) _⟩
 ·cases h2:r.toList.isEmpty
  ·skip
   have t1:((e:Int) != 0)=true:=by rw [bne_iff_ne];omega
   have HE:B r≠[]:=fun hh=>by rw [(empty_iff r).2 hh] at h2;cases h2
   have X:=Lib.hid (show mk (decL e)++{ data:=#[58] }++u++{ data:=#[45] }++r=mk (textL e (B u) (B r)) by
    refine eq_mk ?_
    unfold textL
    rw [if_neg h1,if_neg HE]
    simp [B_append,B_colon,B_dash,B_mk (decL_lt e)])
   clear HE h1
   go_enter Tryz.func151,Tryz.ntmps151
   go_wp2_with (go_at_call 164;refine (decimal_any _ _ (by omega)).mono ?_;rintro e w' ⟨rfl,rfl⟩)
   go_ret
   exact ⟨by rw [←X.out];rfl,(Below.refl _ w).alloc (Nat.le_refl _) _⟩
  ·skip
   have t1:((e:Int) != 0)=true:=by rw [bne_iff_ne];omega
   have HE:B r=[]:=(empty_iff r).1 h2
   have X:=Lib.hid (show mk (decL e)++{ data:=#[58] }++u=mk (textL e (B u) (B r)) by
    refine eq_mk ?_
    unfold textL
    rw [if_neg h1,if_pos HE]
    simp [B_append,B_colon,B_mk (decL_lt e)])
   clear HE h1
   go_enter Tryz.func151,Tryz.ntmps151
   go_wp2_with (go_at_call 164;refine (decimal_any _ _ (by omega)).mono ?_;rintro e w' ⟨rfl,rfl⟩)
   go_ret
   exact ⟨by rw [←X.out];rfl,(Below.refl _ w).alloc (Nat.le_refl _) _⟩
set_option maxHeartbeats 1000000 in
theorem number_any (s:ByteArray) (w:World) (hs:s.size≤9223372036854775807) :
  Calls Tryz.prog 149 #[.string s] w fun e w'=>e=.returned (.int .i64 (numL (B s)))∧w=w':=by
 go_enter Tryz.func149,Tryz.ntmps149
 go_wp2
 go_loop [3,4] (fun x y=>∃k n:Nat,k≤s.size∧k≤12∧n=numV ((B s).take k)∧(∀c ∈ (B s).take k,digB c=true)∧x=.int .i64 n∧y=.int .i64 k) (fun _ y=>12 - (intOf y).toNat)
 case atStart=>exact ⟨0,0,Nat.zero_le _,by omega,by simp [numV],by simp,rfl,rfl⟩
 case round=>
  obtain ⟨k,n,hk,hk12,hn,hall,rfl,rfl⟩:=hrel
  have hlt:=numV_lt _ hall
  rw [←hn,List.length_take,B_len,Nat.min_eq_left hk] at hlt
  have HN:=Lib.hid hn
  have HA:=Lib.hid hall
  have hpow:10 ^ k≤10 ^ 12:=Nat.pow_le_pow_right (by omega) hk12
  have hn12:n≤1000000000000:=by omega
  clear hn hall hlt hpow
  by_cases hgo:k < s.size∧k < 12
  ·obtain ⟨h1,h2⟩:=hgo
   cases hd:digB s[k].toNat
   ·have HF:=Lib.hid (show numL (B s)=-1 by
     unfold numL
     rw [if_neg]
     rintro ⟨_,_,h3,_⟩
     rw [List.all_eq_true] at h3
     have:=h3 _ (List.mem_of_getElem? (B_at s k h1))
     rw [hd] at this;cases this)
    have HD:=Lib.hid hd
    clear hd
    go_wp2_with (go_at_call 123;refine (Digit_any _ _).mono ?_;rw [HD.out];rintro e w' ⟨rfl,rfl⟩)
    go_ret
    exact ⟨by rw [HF.out];rfl,rfl⟩
   ·have hc:=digB_iff.1 hd
    have hc1:=hc.1
    have hc2:=hc.2
    have HD:=Lib.hid hd
    have HS:=Lib.hid (B_take_snoc s k h1)
    clear hd hc
    go_wp2_with (go_at_call 123;refine (Digit_any _ _).mono ?_;rw [HD.out];rintro e w' ⟨rfl,rfl⟩)
    go_round
    case rel=>
     refine ⟨k+1,10*n+(s[k].toNat - 48),by omega,by omega,by rw [HS.out,numV_snoc,←HN.out],fun c hc=>?_,congrArg (Value.int .i64) (by omega),by go_num⟩
     rw [HS.out] at hc
     rcases List.mem_append.1 hc with hc|hc
     ·exact HA.out c hc
     ·rw [List.mem_singleton.1 hc];exact HD.out
    case measure=>simp [intOf];omega
  ·have hnot:¬k < s.size∨¬k < 12:=by omega
   clear hgo
   cases he:s.toList.isEmpty
   ·have hne:B s≠[]:=fun hh=>by rw [(empty_iff s).2 hh] at he;cases he
    by_cases h9:9 < s.size
    ·have HF:=Lib.hid (show numL (B s)=-1 by unfold numL;rw [if_neg];rintro ⟨_,h,_⟩;rw [B_len] at h;omega)
     have h9i:(9:Int) < (s.size:Int):=by omega
     clear hne
     by_cases hks:k < s.size
     ·have hk2:12≤k:=by omega
      clear hnot
      go_wp2
      go_ret
      exact ⟨by rw [HF.out];rfl,rfl⟩
     ·clear hnot
      go_wp2
      go_ret
      exact ⟨by rw [HF.out];rfl,rfl⟩
    ·have hks:¬k < s.size:=by omega
     have hek:(B s).take k=B s:=List.take_of_length_le (by rw [B_len];omega)
     have hnn:n=numV (B s):=by rw [HN.out,hek]
     have hal:(B s).all digB=true:=by rw [List.all_eq_true,←hek];exact HA.out
     have hst:=strEq (decL n) s (decL_lt n)
     by_cases hd:decL n=B s
     ·have HF:=Lib.hid (show numL (B s)=(n:Int) by unfold numL;rw [if_pos ⟨hne,by rw [B_len];omega,hal,by rw [←hnn];exact hd⟩,←hnn])
      rw [decide_eq_true hd] at hst
      clear hnn hek hal hne hd hnot
      go_wp2_with (go_at_call 164;refine (decimal_any _ _ (by omega)).mono ?_;rintro e w' ⟨rfl,rfl⟩)
      go_ret
      exact ⟨by rw [HF.out];rfl,rfl⟩
     ·have HF:=Lib.hid (show numL (B s)=-1 by unfold numL;rw [if_neg];rintro ⟨_,_,_,h⟩;rw [←hnn] at h;exact hd h)
      rw [decide_eq_false hd] at hst
      clear hnn hek hal hne hd hnot
      go_wp2_with (go_at_call 164;refine (decimal_any _ _ (by omega)).mono ?_;rintro e w' ⟨rfl,rfl⟩)
      go_ret
      exact ⟨by rw [HF.out];rfl,rfl⟩
   ·have hB:=(empty_iff s).1 he
    have HF:=Lib.hid (show numL (B s)=-1 by unfold numL;rw [if_neg];rintro ⟨h,_⟩;exact h hB)
    have hz:=empty_size hB
    have hz2:s.size≤0:=by omega
    clear hB hz hnot
    go_wp2
    go_ret
    exact ⟨by rw [HF.out];rfl,rfl⟩
theorem uX_B:B { data:=#[46,43,126,45,58] }=uX:=by decide
theorem rX_B:B { data:=#[46,43,126] }=rX:=by decide
theorem has_uX (c:Nat) (w:World):Calls Tryz.prog 165 #[.string { data:=#[46,43,126,45,58] },.int .u8 (c:Int)] w fun e w'=>e=.returned (.bool (hasB uX c))∧w=w':=by
 have:=has_any { data:=#[46,43,126,45,58] } c w (by decide)
 rwa [uX_B] at this
theorem has_rX (c:Nat) (w:World):Calls Tryz.prog 165 #[.string { data:=#[46,43,126] },.int .u8 (c:Int)] w fun e w'=>e=.returned (.bool (hasB rX c))∧w=w':=by
 have:=has_any { data:=#[46,43,126] } c w (by decide)
 rwa [rX_B] at this
theorem has_45 (s:ByteArray) (w:World) (hs:s.size≤9223372036854775807):Calls Tryz.prog 165 #[.string s,.int .u8 45] w fun e w'=>e=.returned (.bool (hasB (B s) 45))∧w=w':=has_any s 45 w hs
theorem has_58 (s:ByteArray) (w:World) (hs:s.size≤9223372036854775807):Calls Tryz.prog 165 #[.string s,.int .u8 58] w fun e w'=>e=.returned (.bool (hasB (B s) 58))∧w=w':=has_any s 58 w hs
theorem text_len (e:Nat) (u r:ByteArray) (he:e≤1000000000) (hu:u.size≤65536) (hr:r.size≤65536) :
  ∃T:ByteArray,T=mk (textL e (B u) (B r))∧T.size=(textL e (B u) (B r)).length∧∀w,Calls Tryz.prog 151 #[.agg #[.int .i64 (e:Int),.string u,.string r]] w fun e' w'=>e'=.returned (.string T)∧Below w.heap.size w w':=
 ⟨_,rfl,size_mk _,fun w=>text_any e u r w he hu hr⟩
theorem all_take {s:ByteArray} {p:Nat→Bool} {k:Nat} (hk:k < s.size) (h:∀c ∈ (B s).take k,p c=true) (hp:p s[k].toNat=true):∀c ∈ (B s).take (k+1),p c=true:=by
 intro c hc
 rw [B_take_snoc s k hk] at hc
 rcases List.mem_append.1 hc with hc|hc
 ·exact h c hc
 ·rw [List.mem_singleton.1 hc];exact hp
theorem all_end {s:ByteArray} {p:Nat→Bool} {k:Nat} (hk:¬k < s.size) (h:∀c ∈ (B s).take k,p c=true):(B s).all p=true:=by
 rw [List.take_of_length_le (by rw [B_len];omega)] at h
 exact List.all_eq_true.2 h
theorem all_not {s:ByteArray} {p:Nat→Bool} {k:Nat} (hk:k < s.size) (hp:p s[k].toNat=false):(B s).all p=false:=by
 rw [Bool.eq_false_iff]
 intro h
 rw [List.all_eq_true] at h
 have:=h _ (List.mem_of_getElem? (B_at s k hk))
 rw [hp] at this;cases this
theorem right_neg (e:Int) (u r:ByteArray) (w:World) (h:e < 0) :
  Calls Tryz.prog 150 #[.agg #[.int .i64 e,.string u,.string r]] w fun e' w'=>e'=.returned (.bool (rightB e (B u) (B r)))∧Below w.heap.size w w':=by
 have X:=Lib.hid (show rightB e (B u) (B r)=false by unfold rightB;rw [decide_eq_false (by omega)];rfl)
 go_enter Tryz.func150,Tryz.ntmps150
 go_wp2
 go_ret
 exact ⟨by rw [X.out];rfl,(Below.refl _ w).alloc (Nat.le_refl _) _⟩
theorem right_big (e:Int) (u r:ByteArray) (w:World) (h:999999999 < e) :
  Calls Tryz.prog 150 #[.agg #[.int .i64 e,.string u,.string r]] w fun e' w'=>e'=.returned (.bool (rightB e (B u) (B r)))∧Below w.heap.size w w':=by
 have X:=Lib.hid (show rightB e (B u) (B r)=false by unfold rightB;rw [decide_eq_false (by omega)];rfl)
 go_enter Tryz.func150,Tryz.ntmps150
 go_wp2
 go_ret
 exact ⟨by rw [X.out];rfl,(Below.refl _ w).alloc (Nat.le_refl _) _⟩
theorem right_empty (e:Int) (u r:ByteArray) (w:World) (h0:0≤e) (h1:e≤999999999) (hu:u.toList.isEmpty=true) :
  Calls Tryz.prog 150 #[.agg #[.int .i64 e,.string u,.string r]] w fun e' w'=>e'=.returned (.bool (rightB e (B u) (B r)))∧Below w.heap.size w w':=by
 have X:=Lib.hid (show rightB e (B u) (B r)=false by unfold rightB;rw [(empty_iff u).1 hu];simp [headD])
 go_enter Tryz.func150,Tryz.ntmps150
 go_wp2
 go_ret
 exact ⟨by rw [X.out];rfl,(Below.refl _ w).alloc (Nat.le_refl _) _⟩
theorem right_head (e:Int) (u r:ByteArray) (w:World) (h0:0≤e) (h1:e≤999999999) (hu:u.toList.isEmpty=false) (hs:0 < u.size) (hd:digB u[0].toNat=false) :
  Calls Tryz.prog 150 #[.agg #[.int .i64 e,.string u,.string r]] w fun e' w'=>e'=.returned (.bool (rightB e (B u) (B r)))∧Below w.heap.size w w':=by
 have X:=Lib.hid (show rightB e (B u) (B r)=false by unfold rightB;rw [headD_at u hs,hd];simp)
 have HD:=Lib.hid hd
 clear hd
 go_enter Tryz.func150,Tryz.ntmps150
 go_wp2_with (go_at_call 123;refine (Digit_any _ _).mono ?_;rw [HD.out];rintro e' w' ⟨rfl,rfl⟩)
 go_ret
 exact ⟨by rw [X.out];rfl,(Below.refl _ w).alloc (Nat.le_refl _) _⟩
theorem right_dash (e:Int) (u r:ByteArray) (w:World) (h0:0≤e) (h1:e≤999999999) (hu:u.toList.isEmpty=false) (hs:0 < u.size) (hsz:u.size≤9223372036854775807) (hd:digB u[0].toNat=true) (h45:hasB (B u) 45=true) (hr:r.toList.isEmpty=true) :
  Calls Tryz.prog 150 #[.agg #[.int .i64 e,.string u,.string r]] w fun e' w'=>e'=.returned (.bool (rightB e (B u) (B r)))∧Below w.heap.size w w':=by
 have X:=Lib.hid (show rightB e (B u) (B r)=false by unfold rightB;rw [h45,(empty_iff r).1 hr];simp)
 have HD:=Lib.hid hd
 have C45:=Lib.hid (fun w=>has_45 u w hsz)
 have C58:=Lib.hid (fun w=>has_58 u w hsz)
 rw [h45] at C45
 clear hd h45
 go_enter Tryz.func150,Tryz.ntmps150
 go_wp2_with (first|(go_at_call 123;refine (Digit_any _ _).mono ?_;rw [HD.out];rintro e' w' ⟨rfl,rfl⟩)|(go_at_call 165;(with_reducible refine (C45.out _).mono ?_);rintro e' w' ⟨rfl,rfl⟩)|(go_at_call 165;(with_reducible refine (C58.out _).mono ?_);rintro e' w' ⟨rfl,rfl⟩))
 go_ret
 exact ⟨by rw [X.out];rfl,(Below.refl _ w).alloc (Nat.le_refl _) _⟩
theorem right_colon_true (u r:ByteArray) (w:World) (hu:u.toList.isEmpty=false) (hs:0 < u.size) (hsz:u.size≤9223372036854775807) (hd:digB u[0].toNat=true) (h45:hasB (B u) 45=true) (hr:r.toList.isEmpty=false) (h58:hasB (B u) 58=true) :
  Calls Tryz.prog 150 #[.agg #[.int .i64 0,.string u,.string r]] w fun e' w'=>e'=.returned (.bool (rightB 0 (B u) (B r)))∧Below w.heap.size w w':=by
 have X:=Lib.hid (show rightB 0 (B u) (B r)=false by unfold rightB;rw [h58];simp)
 have HD:=Lib.hid hd
 have C45:=Lib.hid (fun w=>has_45 u w hsz)
 have C58:=Lib.hid (fun w=>has_58 u w hsz)
 rw [h45] at C45
 rw [h58] at C58
 clear hd h45 h58
 go_enter Tryz.func150,Tryz.ntmps150
 go_wp2_with (first|(go_at_call 123;refine (Digit_any _ _).mono ?_;rw [HD.out];rintro e' w' ⟨rfl,rfl⟩)|(go_at_call 165;(with_reducible refine (C45.out _).mono ?_);rintro e' w' ⟨rfl,rfl⟩)|(go_at_call 165;(with_reducible refine (C58.out _).mono ?_);rintro e' w' ⟨rfl,rfl⟩))
 go_ret
 exact ⟨by rw [X.out];rfl,(Below.refl _ w).alloc (Nat.le_refl _) _⟩
theorem right_colon_false (u r:ByteArray) (w:World) (hu:u.toList.isEmpty=false) (hs:0 < u.size) (hsz:u.size≤9223372036854775807) (hd:digB u[0].toNat=true) (h45:hasB (B u) 45=false) (h58:hasB (B u) 58=true) :
  Calls Tryz.prog 150 #[.agg #[.int .i64 0,.string u,.string r]] w fun e' w'=>e'=.returned (.bool (rightB 0 (B u) (B r)))∧Below w.heap.size w w':=by
 have X:=Lib.hid (show rightB 0 (B u) (B r)=false by unfold rightB;rw [h58];simp)
 have HD:=Lib.hid hd
 have C45:=Lib.hid (fun w=>has_45 u w hsz)
 have C58:=Lib.hid (fun w=>has_58 u w hsz)
 rw [h45] at C45
 rw [h58] at C58
 clear hd h45 h58
 go_enter Tryz.func150,Tryz.ntmps150
 go_wp2_with (first|(go_at_call 123;refine (Digit_any _ _).mono ?_;rw [HD.out];rintro e' w' ⟨rfl,rfl⟩)|(go_at_call 165;(with_reducible refine (C45.out _).mono ?_);rintro e' w' ⟨rfl,rfl⟩)|(go_at_call 165;(with_reducible refine (C58.out _).mono ?_);rintro e' w' ⟨rfl,rfl⟩))
 go_ret
 exact ⟨by rw [X.out];rfl,(Below.refl _ w).alloc (Nat.le_refl _) _⟩
end Go.Proofs.YtpilmhoakopcaaaGreatDoor
