/- What the laws rest on: Str, CutP, S5a, Ref2a, RefDec, RefText, RefRight, RefRight2. -/
import Derived.Test.YtboinnjncaehkaaGreatDoorQALZA
set_option maxRecDepth 100000
set_option linter.unusedVariables false
set_option linter.unusedSimpArgs false
namespace Go.Proofs.YtboinnjncaehkaaGreatDoor
open Go.RowKit
theorem B_take_snoc (s:ByteArray) (k:Nat) (hk:k < s.size):(B s).take (k+1)=(B s).take k++[s[k].toNat]:=by
 rw [List.take_add_one,B_at s k hk];rfl
def PcInv (c:Nat) (l:List Nat) (out:List (List Nat)) (fr i:Nat):Prop:=fr≤i∧cutBy c l=out++preH ((l.drop fr).take (i - fr)) (cutBy c (l.drop i))
theorem pc_start (c:Nat) (l:List Nat):PcInv c l [] 0 0:=⟨Nat.le_refl _,by simp [preH_nil (cutBy_ne _ _)]⟩
theorem pc_cut {c:Nat} {l:List Nat} {out:List (List Nat)} {fr i:Nat} (h:PcInv c l out fr i) (hi:i < l.length) (hc:l.getD i 0=c):PcInv c l (out++[(l.drop fr).take (i - fr)]) (i+1) (i+1):=by
 refine ⟨Nat.le_refl _,?_⟩
 obtain ⟨h1,h2⟩:=h
 rw [List.getD_eq_getElem?_getD,List.getElem?_eq_getElem hi,Option.getD_some] at hc
 rw [List.drop_eq_getElem_cons hi] at h2
 conv at h2=>rhs;unfold cutBy
 rw [if_pos hc] at h2
 rw [h2,Nat.sub_self,List.take_zero,preH_nil (cutBy_ne _ _)]
 simp [preH]
theorem pc_on {c:Nat} {l:List Nat} {out:List (List Nat)} {fr i:Nat} (h:PcInv c l out fr i) (hi:i < l.length) (hc:l.getD i 0≠c):PcInv c l out fr (i+1):=by
 obtain ⟨h1,h2⟩:=h
 refine ⟨by omega,?_⟩
 rw [List.getD_eq_getElem?_getD,List.getElem?_eq_getElem hi,Option.getD_some] at hc
 rw [List.drop_eq_getElem_cons hi] at h2
 conv at h2=>rhs;unfold cutBy
 rw [if_neg hc,preH_preH] at h2
 rw [h2]
 congr 2
 rw [show i+1 - fr=(i - fr)+1 by omega,List.take_succ_eq_append_getElem (by rw [List.length_drop];omega)]
 congr 2
 rw [List.getElem_drop]
 congr 1
 omega
theorem pc_end {c:Nat} {l:List Nat} {out:List (List Nat)} {fr:Nat} (h:PcInv c l out fr l.length):cutBy c l=out++[l.drop fr]:=by
 obtain ⟨h1,h2⟩:=h
 rw [h2,List.drop_length]
 simp only [cutBy,preH,List.append_nil]
 rw [List.take_of_length_le (by rw [List.length_drop];omega)]
theorem pc_len {c:Nat} {l:List Nat} {out:List (List Nat)} {fr i:Nat} (h:PcInv c l out fr i):out.length≤l.length:=by
 have:=congrArg List.length h.2
 rw [cutBy_len,List.length_append,preH_len _ (cutBy_ne _ _),cutBy_len] at this
 have h2:=List.count_le_length (a:=c) (l:=l)
 omega
theorem fds_info:(Tryz.prog.info? 54).map (fun i=>(i.zero,i.size,i.bytes))=some (some (.slice none 0 0),1,24):=by kernel_rfl
theorem Digit_any (c:Nat) (w:World):Calls Tryz.prog 122 #[.int .u8 (c:Int)] w fun e w'=>e=.returned (.bool (digB c))∧w=w':=by
 have X:=Lib.hid (show digB c=(decide ((48:Int)≤c)&&decide ((c:Int)≤57)) by unfold digB;rw [Bool.eq_iff_iff];simp;omega)
 by_cases h:(48:Int)≤c
 ·go_enter Tryz.func122,Tryz.ntmps122
  go_wp2
  go_ret
  refine ⟨?_,rfl⟩
  rw [X.out];simp [h]
 ·have h2:(c:Int) < 48:=by omega
  go_enter Tryz.func122,Tryz.ntmps122
  go_wp2
  go_ret
  refine ⟨?_,rfl⟩
  rw [X.out];simp;omega
theorem Letter_any (c:Nat) (w:World):Calls Tryz.prog 205 #[.int .u8 (c:Int)] w fun e w'=>e=.returned (.bool (letB c))∧w=w':=by
 have X:=Lib.hid (show letB c=((decide ((97:Int)≤c)&&decide ((c:Int)≤122))||(decide ((65:Int)≤c)&&decide ((c:Int)≤90))) by unfold letB;rw [Bool.eq_iff_iff];simp;omega)
 go_enter Tryz.func205,Tryz.ntmps205
 go_wp2
 all_goals
  go_ret
  refine ⟨congrArg (fun b=>Ending.returned (.bool b)) ?_,rfl⟩
  rw [X.out,Bool.eq_iff_iff]
  simp
  omega
theorem hasB_take {l:List Nat} {c k:Nat} (h:∀j,j < k→l.getD j 256≠c) (hk:l.length≤k):hasB l c=false:=by
 unfold hasB
 rw [Bool.eq_false_iff]
 intro hc
 obtain ⟨j,hj,e⟩:=List.getElem_of_mem (List.contains_iff_mem.1 hc)
 exact h j (by omega) (by rw [List.getD_eq_getElem?_getD,List.getElem?_eq_getElem hj];exact e)
theorem has_any (s:ByteArray) (c:Nat) (w:World) (hs:s.size≤9223372036854775807):Calls Tryz.prog 207 #[.string s,.int .u8 (c:Int)] w fun e w'=>e=.returned (.bool (hasB (B s) c))∧w=w':=by
 go_enter Tryz.func207,Tryz.ntmps207
 go_wp2
 go_loop [5] (fun i=>∃k:Nat,k≤s.size∧i=.int .i64 k∧∀j,j < k→(B s).getD j 256≠c) (fun i=>s.size - (intOf i).toNat)
 case atStart=>exact ⟨0,Nat.zero_le _,rfl,fun j hj=>by omega⟩
 case round=>
  obtain ⟨k,hk,rfl,hno⟩:=hrel
  have HN:=Lib.hid hno
  clear hno
  by_cases hlt:k < s.size
  ·have hb:=B_at s k hlt
   have HB:=Lib.hid hb
   clear hb
   by_cases hc:s[k].toNat=c
   ·have h1:((s[k].toNat:Int)==(c:Int))=true:=by rw [beq_iff_eq];omega
    have HC:=Lib.hid hc
    clear hc
    go_wp2
    go_ret
    refine ⟨congrArg (fun b=>Ending.returned (.bool b)) ?_,rfl⟩
    unfold hasB
    rw [eq_comm,List.contains_iff_mem]
    exact List.mem_of_getElem? (HC.out ▸ HB.out)
   ·have h1:((s[k].toNat:Int)==(c:Int))=false:=by rw [beq_eq_false_iff_ne];omega
    have HC:=Lib.hid hc
    clear hc
    go_wp2
    go_round
    case rel=>exact ⟨k+1,by omega,by go_num,fun j hj=>by rcases (by omega:j < k∨j=k) with h|rfl;exact HN.out j h;rw [List.getD_eq_getElem?_getD,HB.out];exact HC.out⟩
    case measure=>simp [intOf];omega
  ·go_wp2
   go_ret
   exact ⟨by rw [hasB_take HN.out (by rw [B_len];omega)];rfl,rfl⟩
theorem decF_fuel:∀(f g n:Nat) (l:List Nat),n < f→n < g→decF f n l=decF g n l
 | 0,_,_,_,h,_=>by omega
 | _+1,0,_,_,_,h=>by omega
 | f+1,g+1,n,l,h1,h2=>by
  simp only [decF]
  by_cases h:n < 10
  ·rw [if_pos h,if_pos h]
  ·rw [if_neg h,if_neg h]
   exact decF_fuel f g _ _ (by omega) (by omega)
def tenS:ByteArray:={ data:=#[48,49,50,51,52,53,54,55,56,57] }
theorem digit_at:∀d,d < 10→((B tenS).drop d).take (d+1 - d)=[48+d]:=by decide
theorem B_digit (s:ByteArray) (d:Nat) (h:d < 10):B (tenS.extract d (d+1)++s)=(48+d)::B s:=by
 rw [B_append,B_extract,digit_at d h];rfl
theorem digit_size (s:ByteArray) (d:Nat) (h:d < 10):(tenS.extract d (d+1)++s).size=s.size+1:=by
 rw [←B_len,B_digit s d h,List.length_cons,B_len]
def DecRel (n m:Nat) (s:ByteArray):Prop:=(s.size=0∧m=n)∨(s.size≠0∧decL n=if m=0 then B s else decF (m+1) m (B s))
theorem decRel_step {n m:Nat} {s:ByteArray} (h:DecRel n m s) (hg:0 < m∨s.size=0):DecRel n (m / 10) (tenS.extract (m % 10) (m % 10+1)++s):=by
 have hd:m % 10 < 10:=Nat.mod_lt _ (by omega)
 right
 rw [digit_size s _ hd,B_digit s _ hd]
 refine ⟨by omega,?_⟩
 have e:decL n=decF (m+1) m (B s):=by
  rcases h with ⟨h1,rfl⟩|⟨h1,h2⟩
  ·have:B s=[]:=List.eq_nil_of_length_eq_zero (by rw [B_len];exact h1)
   rw [this];rfl
  ·rw [h2,if_neg (by omega)]
 rw [e]
 simp only [decF]
 by_cases h10:m < 10
 ·rw [if_pos h10,if_pos (by omega),Nat.mod_eq_of_lt h10]
 ·rw [if_neg h10,if_neg (by omega)]
  have:=decF_fuel m (m / 10+1) (m / 10) ((48+m % 10)::B s) (by omega) (by omega)
  rw [this]
  rfl
def decM (x y:Value):Nat:=(intOf x).toNat+(match y with|.string s=>1 - s.size|_=>0)
theorem decM_step {m:Nat} {s:ByteArray} (h:0 < m∨s.size=0):decM (.int .i64 ((m:Int) / 10)) (.string (tenS.extract (m % 10) (m % 10+1)++s)) < decM (.int .i64 m) (.string s):=by
 have e:=digit_size s (m % 10) (Nat.mod_lt _ (by omega))
 unfold decM intOf
 simp only [e]
 omega
theorem decimal_any (n:Nat) (w:World) (hn:n≤9223372036854775807) :
  Calls Tryz.prog 206 #[.int .i64 (n:Int)] w fun e w'=>e=.returned (.string (mk (decL n)))∧w=w':=by
 go_enter Tryz.func206,Tryz.ntmps206
 go_wp2
 go_loop [0,3] (fun x y=>∃(m:Nat) (s:ByteArray),(s.size+m≤n∨(m=0∧s.size≤1))∧x=.int .i64 m∧y=.string s∧DecRel n m s) (fun x y=>decM x y)
 case atStart=>exact ⟨n,_,.inl (by show 0+n≤n;omega),rfl,rfl,.inl ⟨rfl,rfl⟩⟩
 case round=>
  obtain ⟨m,s,hm,rfl,rfl,hd⟩:=hrel
  have HD:=Lib.hid hd
  have HM:=Lib.hid hm
  clear hd
  by_cases h:0 < m
  ·have hmn:m≤n:=by omega
   have hsz:min (m % 10+1) 10 - m % 10+s.size≤9223372036854775807:=by omega
   clear hm
   go_wp2
   go_round
   case rel=>exact ⟨m / 10,_,by have:=HM.out;have e:=digit_size s (m % 10) (Nat.mod_lt _ (by omega));show (tenS.extract (m % 10) (m % 10+1)++s).size+m / 10≤n∨_;rw [e];omega,by go_num,rfl,decRel_step HD.out (.inl h)⟩
   case measure=>exact decM_step (.inl h)
  ·have hm0:m≤0:=by omega
   by_cases hs:s.size=0
   ·have t1:s.toList.isEmpty=true:=by rw [toList_data,List.isEmpty_iff];exact List.eq_nil_of_length_eq_zero (by rw [Array.length_toList];exact hs)
    have hsz:min (m % 10+1) 10 - m % 10+s.size≤9223372036854775807:=by omega
    have HS:=Lib.hid hs
    clear hs hm
    go_wp2
    go_round
    case rel=>exact ⟨m / 10,_,by have:=HS.out;have e:=digit_size s (m % 10) (Nat.mod_lt _ (by omega));show (tenS.extract (m % 10) (m % 10+1)++s).size+m / 10≤n∨(m / 10=0∧(tenS.extract (m % 10) (m % 10+1)++s).size≤1);rw [e];omega,by go_num,rfl,decRel_step HD.out (.inr HS.out)⟩
    case measure=>exact decM_step (.inr HS.out)
   ·have t1:s.toList.isEmpty=false:=by
     rw [toList_data,List.isEmpty_eq_false_iff]
     intro he
     apply hs
     have:=congrArg List.length he
     rw [Array.length_toList] at this
     exact this
    have HF:=Lib.hid (show s=mk (decL n) by
     refine eq_mk ?_
     rcases HD.out with ⟨h1,_⟩|⟨_,h2⟩
     ·exact absurd h1 hs
     ·rw [h2,if_pos (by omega)])
    clear hs hm
    go_wp2
    go_ret
    exact ⟨by rw [←HF.out];rfl,rfl⟩
theorem empty_size {s:ByteArray} (h:B s=[]):s.size=0:=by rw [←B_len,h];rfl
theorem text_any (e:Nat) (u r:ByteArray) (w:World) (he:e≤1000000000) (hu:u.size≤65536) (hr:r.size≤65536) :
  Calls Tryz.prog 177 #[.agg #[.int .i64 (e:Int),.string u,.string r]] w fun e' w'=>e'=.returned (.string (mk (textL e (B u) (B r))))∧Below w.heap.size w w':=by
 have hmk:=decL_len e
 have hsz:(mk (decL e)).size≤1000000001:=by rw [size_mk];omega
 by_cases h1:e=0
 ·cases h2:r.toList.isEmpty
  ·skip
   have t1:((e:Int) != 0)=false:=by rw [bne_eq_false_iff_eq];omega
   have HE:B r≠[]:=fun hh=>by rw [(empty_iff r).2 hh] at h2;cases h2
   have X:=Lib.hid (show u++{ data:=#[45] }++r=mk (textL e (B u) (B r)) by
    refine eq_mk ?_
    unfold textL
    rw [if_pos h1,if_neg HE]
    simp [B_append,B_dash])
   clear HE h1
   go_enter Tryz.func177,Tryz.ntmps177
   go_wp2
   go_ret
   exact ⟨by rw [←X.out];rfl,(Below.refl _ w).alloc (Nat.le_refl _) _⟩
  ·skip
   have t1:((e:Int) != 0)=false:=by rw [bne_eq_false_iff_eq];omega
   have HE:B r=[]:=(empty_iff r).1 h2
   have X:=Lib.hid (show u=mk (textL e (B u) (B r)) by
    refine eq_mk ?_
    unfold textL
    rw [if_pos h1,if_pos HE]
    simp)
   clear HE h1
   go_enter Tryz.func177,Tryz.ntmps177
   go_wp2
   go_ret
   exact ⟨by rw [←X.out];rfl,(Below.refl _ w).alloc (Nat.le_refl _) _⟩
 ·cases h2:r.toList.isEmpty
  ·skip
   have t1:((e:Int) != 0)=true:=by rw [bne_iff_ne];omega
   have HE:B r≠[]:=fun hh=>by rw [(empty_iff r).2 hh] at h2;cases h2
   have X:=Lib.hid (show mk (decL e)++{ data:=#[58] }++u++{ data:=#[45] }++r=mk (textL e (B u) (B r)) by
    refine eq_mk ?_
    unfold textL
    rw [if_neg h1,if_neg HE]
    simp [B_append,B_colon,B_dash,B_mk (decL_lt e)])
   clear HE h1
   go_enter Tryz.func177,Tryz.ntmps177
   go_wp2_with (go_at_call 206;refine (decimal_any _ _ (by omega)).mono ?_;rintro e w' ⟨rfl,rfl⟩)
   go_ret
   exact ⟨by rw [←X.out];rfl,(Below.refl _ w).alloc (Nat.le_refl _) _⟩
  ·skip
   have t1:((e:Int) != 0)=true:=by rw [bne_iff_ne];omega
   have HE:B r=[]:=(empty_iff r).1 h2
   have X:=Lib.hid (show mk (decL e)++{ data:=#[58] }++u=mk (textL e (B u) (B r)) by
    refine eq_mk ?_
    unfold textL
    rw [if_neg h1,if_pos HE]
    simp [B_append,B_colon,B_mk (decL_lt e)])
   clear HE h1
   go_enter Tryz.func177,Tryz.ntmps177
   go_wp2_with (go_at_call 206;refine (decimal_any _ _ (by omega)).mono ?_;rintro e w' ⟨rfl,rfl⟩)
   go_ret
   exact ⟨by rw [←X.out];rfl,(Below.refl _ w).alloc (Nat.le_refl _) _⟩
set_option maxHeartbeats 1000000 in
theorem number_any (s:ByteArray) (w:World) (hs:s.size≤9223372036854775807) :
  Calls Tryz.prog 175 #[.string s] w fun e w'=>e=.returned (.int .i64 (numL (B s)))∧w=w':=by
 go_enter Tryz.func175,Tryz.ntmps175
 go_wp2
 go_loop [3,4] (fun x y=>∃k n:Nat,k≤s.size∧k≤12∧n=numV ((B s).take k)∧(∀c ∈ (B s).take k,digB c=true)∧x=.int .i64 n∧y=.int .i64 k) (fun _ y=>12 - (intOf y).toNat)
 case atStart=>exact ⟨0,0,Nat.zero_le _,by omega,by simp [numV],by simp,rfl,rfl⟩
 case round=>
  obtain ⟨k,n,hk,hk12,hn,hall,rfl,rfl⟩:=hrel
  have hlt:=numV_lt _ hall
  rw [←hn,List.length_take,B_len,Nat.min_eq_left hk] at hlt
  have HN:=Lib.hid hn
  have HA:=Lib.hid hall
  have hpow:10 ^ k≤10 ^ 12:=Nat.pow_le_pow_right (by omega) hk12
  have hn12:n≤1000000000000:=by omega
  clear hn hall hlt hpow
  by_cases hgo:k < s.size∧k < 12
  ·obtain ⟨h1,h2⟩:=hgo
   cases hd:digB s[k].toNat
   ·have HF:=Lib.hid (show numL (B s)=-1 by
     unfold numL
     rw [if_neg]
     rintro ⟨_,_,h3,_⟩
     rw [List.all_eq_true] at h3
     have:=h3 _ (List.mem_of_getElem? (B_at s k h1))
     rw [hd] at this;cases this)
    have HD:=Lib.hid hd
    clear hd
    go_wp2_with (go_at_call 122;refine (Digit_any _ _).mono ?_;rw [HD.out];rintro e w' ⟨rfl,rfl⟩)
    go_ret
    exact ⟨by rw [HF.out];rfl,rfl⟩
   ·have hc:=digB_iff.1 hd
    have hc1:=hc.1
    have hc2:=hc.2
    have HD:=Lib.hid hd
    have HS:=Lib.hid (B_take_snoc s k h1)
    clear hd hc
    go_wp2_with (go_at_call 122;refine (Digit_any _ _).mono ?_;rw [HD.out];rintro e w' ⟨rfl,rfl⟩)
    go_round
    case rel=>
     refine ⟨k+1,10*n+(s[k].toNat - 48),by omega,by omega,by rw [HS.out,numV_snoc,←HN.out],fun c hc=>?_,congrArg (Value.int .i64) (by omega),by go_num⟩
     rw [HS.out] at hc
     rcases List.mem_append.1 hc with hc|hc
     ·exact HA.out c hc
     ·rw [List.mem_singleton.1 hc];exact HD.out
    case measure=>simp [intOf];omega
  ·have hnot:¬k < s.size∨¬k < 12:=by omega
   clear hgo
   cases he:s.toList.isEmpty
   ·have hne:B s≠[]:=fun hh=>by rw [(empty_iff s).2 hh] at he;cases he
    by_cases h9:9 < s.size
    ·have HF:=Lib.hid (show numL (B s)=-1 by unfold numL;rw [if_neg];rintro ⟨_,h,_⟩;rw [B_len] at h;omega)
     have h9i:(9:Int) < (s.size:Int):=by omega
     clear hne
     by_cases hks:k < s.size
     ·have hk2:12≤k:=by omega
      clear hnot
      go_wp2
      go_ret
      exact ⟨by rw [HF.out];rfl,rfl⟩
     ·clear hnot
      go_wp2
      go_ret
      exact ⟨by rw [HF.out];rfl,rfl⟩
    ·have hks:¬k < s.size:=by omega
     have hek:(B s).take k=B s:=List.take_of_length_le (by rw [B_len];omega)
     have hnn:n=numV (B s):=by rw [HN.out,hek]
     have hal:(B s).all digB=true:=by rw [List.all_eq_true,←hek];exact HA.out
     have hst:=strEq (decL n) s (decL_lt n)
     by_cases hd:decL n=B s
     ·have HF:=Lib.hid (show numL (B s)=(n:Int) by unfold numL;rw [if_pos ⟨hne,by rw [B_len];omega,hal,by rw [←hnn];exact hd⟩,←hnn])
      rw [decide_eq_true hd] at hst
      clear hnn hek hal hne hd hnot
      go_wp2_with (go_at_call 206;refine (decimal_any _ _ (by omega)).mono ?_;rintro e w' ⟨rfl,rfl⟩)
      go_ret
      exact ⟨by rw [HF.out];rfl,rfl⟩
     ·have HF:=Lib.hid (show numL (B s)=-1 by unfold numL;rw [if_neg];rintro ⟨_,_,_,h⟩;rw [←hnn] at h;exact hd h)
      rw [decide_eq_false hd] at hst
      clear hnn hek hal hne hd hnot
      go_wp2_with (go_at_call 206;refine (decimal_any _ _ (by omega)).mono ?_;rintro e w' ⟨rfl,rfl⟩)
      go_ret
      exact ⟨by rw [HF.out];rfl,rfl⟩
   ·have hB:=(empty_iff s).1 he
    have HF:=Lib.hid (show numL (B s)=-1 by unfold numL;rw [if_neg];rintro ⟨h,_⟩;exact h hB)
    have hz:=empty_size hB
    have hz2:s.size≤0:=by omega
    clear hB hz hnot
    go_wp2
    go_ret
    exact ⟨by rw [HF.out];rfl,rfl⟩
theorem uX_B:B { data:=#[46,43,126,45,58] }=uX:=by decide
theorem rX_B:B { data:=#[46,43,126] }=rX:=by decide
theorem has_uX (c:Nat) (w:World):Calls Tryz.prog 207 #[.string { data:=#[46,43,126,45,58] },.int .u8 (c:Int)] w fun e w'=>e=.returned (.bool (hasB uX c))∧w=w':=by
 have:=has_any { data:=#[46,43,126,45,58] } c w (by decide)
 rwa [uX_B] at this
theorem has_rX (c:Nat) (w:World):Calls Tryz.prog 207 #[.string { data:=#[46,43,126] },.int .u8 (c:Int)] w fun e w'=>e=.returned (.bool (hasB rX c))∧w=w':=by
 have:=has_any { data:=#[46,43,126] } c w (by decide)
 rwa [rX_B] at this
theorem has_45 (s:ByteArray) (w:World) (hs:s.size≤9223372036854775807):Calls Tryz.prog 207 #[.string s,.int .u8 45] w fun e w'=>e=.returned (.bool (hasB (B s) 45))∧w=w':=has_any s 45 w hs
theorem has_58 (s:ByteArray) (w:World) (hs:s.size≤9223372036854775807):Calls Tryz.prog 207 #[.string s,.int .u8 58] w fun e w'=>e=.returned (.bool (hasB (B s) 58))∧w=w':=has_any s 58 w hs
theorem text_len (e:Nat) (u r:ByteArray) (he:e≤1000000000) (hu:u.size≤65536) (hr:r.size≤65536) :
  ∃T:ByteArray,T=mk (textL e (B u) (B r))∧T.size=(textL e (B u) (B r)).length∧∀w,Calls Tryz.prog 177 #[.agg #[.int .i64 (e:Int),.string u,.string r]] w fun e' w'=>e'=.returned (.string T)∧Below w.heap.size w w':=
 ⟨_,rfl,size_mk _,fun w=>text_any e u r w he hu hr⟩
theorem all_take {s:ByteArray} {p:Nat→Bool} {k:Nat} (hk:k < s.size) (h:∀c ∈ (B s).take k,p c=true) (hp:p s[k].toNat=true):∀c ∈ (B s).take (k+1),p c=true:=by
 intro c hc
 rw [B_take_snoc s k hk] at hc
 rcases List.mem_append.1 hc with hc|hc
 ·exact h c hc
 ·rw [List.mem_singleton.1 hc];exact hp
theorem all_end {s:ByteArray} {p:Nat→Bool} {k:Nat} (hk:¬k < s.size) (h:∀c ∈ (B s).take k,p c=true):(B s).all p=true:=by
 rw [List.take_of_length_le (by rw [B_len];omega)] at h
 exact List.all_eq_true.2 h
theorem all_not {s:ByteArray} {p:Nat→Bool} {k:Nat} (hk:k < s.size) (hp:p s[k].toNat=false):(B s).all p=false:=by
 rw [Bool.eq_false_iff]
 intro h
 rw [List.all_eq_true] at h
 have:=h _ (List.mem_of_getElem? (B_at s k hk))
 rw [hp] at this;cases this
theorem right_neg (e:Int) (u r:ByteArray) (w:World) (h:e < 0) :
  Calls Tryz.prog 176 #[.agg #[.int .i64 e,.string u,.string r]] w fun e' w'=>e'=.returned (.bool (rightB e (B u) (B r)))∧Below w.heap.size w w':=by
 have X:=Lib.hid (show rightB e (B u) (B r)=false by unfold rightB;rw [decide_eq_false (by omega)];rfl)
 go_enter Tryz.func176,Tryz.ntmps176
 go_wp2
 go_ret
 exact ⟨by rw [X.out];rfl,(Below.refl _ w).alloc (Nat.le_refl _) _⟩
theorem right_big (e:Int) (u r:ByteArray) (w:World) (h:999999999 < e) :
  Calls Tryz.prog 176 #[.agg #[.int .i64 e,.string u,.string r]] w fun e' w'=>e'=.returned (.bool (rightB e (B u) (B r)))∧Below w.heap.size w w':=by
 have X:=Lib.hid (show rightB e (B u) (B r)=false by unfold rightB;rw [decide_eq_false (by omega)];rfl)
 go_enter Tryz.func176,Tryz.ntmps176
 go_wp2
 go_ret
 exact ⟨by rw [X.out];rfl,(Below.refl _ w).alloc (Nat.le_refl _) _⟩
theorem right_empty (e:Int) (u r:ByteArray) (w:World) (h0:0≤e) (h1:e≤999999999) (hu:u.toList.isEmpty=true) :
  Calls Tryz.prog 176 #[.agg #[.int .i64 e,.string u,.string r]] w fun e' w'=>e'=.returned (.bool (rightB e (B u) (B r)))∧Below w.heap.size w w':=by
 have X:=Lib.hid (show rightB e (B u) (B r)=false by unfold rightB;rw [(empty_iff u).1 hu];simp [headD])
 go_enter Tryz.func176,Tryz.ntmps176
 go_wp2
 go_ret
 exact ⟨by rw [X.out];rfl,(Below.refl _ w).alloc (Nat.le_refl _) _⟩
theorem right_head (e:Int) (u r:ByteArray) (w:World) (h0:0≤e) (h1:e≤999999999) (hu:u.toList.isEmpty=false) (hs:0 < u.size) (hd:digB u[0].toNat=false) :
  Calls Tryz.prog 176 #[.agg #[.int .i64 e,.string u,.string r]] w fun e' w'=>e'=.returned (.bool (rightB e (B u) (B r)))∧Below w.heap.size w w':=by
 have X:=Lib.hid (show rightB e (B u) (B r)=false by unfold rightB;rw [headD_at u hs,hd];simp)
 have HD:=Lib.hid hd
 clear hd
 go_enter Tryz.func176,Tryz.ntmps176
 go_wp2_with (go_at_call 122;refine (Digit_any _ _).mono ?_;rw [HD.out];rintro e' w' ⟨rfl,rfl⟩)
 go_ret
 exact ⟨by rw [X.out];rfl,(Below.refl _ w).alloc (Nat.le_refl _) _⟩
theorem right_dash (e:Int) (u r:ByteArray) (w:World) (h0:0≤e) (h1:e≤999999999) (hu:u.toList.isEmpty=false) (hs:0 < u.size) (hsz:u.size≤9223372036854775807) (hd:digB u[0].toNat=true) (h45:hasB (B u) 45=true) (hr:r.toList.isEmpty=true) :
  Calls Tryz.prog 176 #[.agg #[.int .i64 e,.string u,.string r]] w fun e' w'=>e'=.returned (.bool (rightB e (B u) (B r)))∧Below w.heap.size w w':=by
 have X:=Lib.hid (show rightB e (B u) (B r)=false by unfold rightB;rw [h45,(empty_iff r).1 hr];simp)
 have HD:=Lib.hid hd
 have C45:=Lib.hid (fun w=>has_45 u w hsz)
 have C58:=Lib.hid (fun w=>has_58 u w hsz)
 rw [h45] at C45
 clear hd h45
 go_enter Tryz.func176,Tryz.ntmps176
 go_wp2_with (first|(go_at_call 122;refine (Digit_any _ _).mono ?_;rw [HD.out];rintro e' w' ⟨rfl,rfl⟩)|(go_at_call 207;(with_reducible refine (C45.out _).mono ?_);rintro e' w' ⟨rfl,rfl⟩)|(go_at_call 207;(with_reducible refine (C58.out _).mono ?_);rintro e' w' ⟨rfl,rfl⟩))
 go_ret
 exact ⟨by rw [X.out];rfl,(Below.refl _ w).alloc (Nat.le_refl _) _⟩
theorem right_colon_true (u r:ByteArray) (w:World) (hu:u.toList.isEmpty=false) (hs:0 < u.size) (hsz:u.size≤9223372036854775807) (hd:digB u[0].toNat=true) (h45:hasB (B u) 45=true) (hr:r.toList.isEmpty=false) (h58:hasB (B u) 58=true) :
  Calls Tryz.prog 176 #[.agg #[.int .i64 0,.string u,.string r]] w fun e' w'=>e'=.returned (.bool (rightB 0 (B u) (B r)))∧Below w.heap.size w w':=by
 have X:=Lib.hid (show rightB 0 (B u) (B r)=false by unfold rightB;rw [h58];simp)
 have HD:=Lib.hid hd
 have C45:=Lib.hid (fun w=>has_45 u w hsz)
 have C58:=Lib.hid (fun w=>has_58 u w hsz)
 rw [h45] at C45
 rw [h58] at C58
 clear hd h45 h58
 go_enter Tryz.func176,Tryz.ntmps176
 go_wp2_with (first|(go_at_call 122;refine (Digit_any _ _).mono ?_;rw [HD.out];rintro e' w' ⟨rfl,rfl⟩)|(go_at_call 207;(with_reducible refine (C45.out _).mono ?_);rintro e' w' ⟨rfl,rfl⟩)|(go_at_call 207;(with_reducible refine (C58.out _).mono ?_);rintro e' w' ⟨rfl,rfl⟩))
 go_ret
 exact ⟨by rw [X.out];rfl,(Below.refl _ w).alloc (Nat.le_refl _) _⟩
theorem right_colon_false (u r:ByteArray) (w:World) (hu:u.toList.isEmpty=false) (hs:0 < u.size) (hsz:u.size≤9223372036854775807) (hd:digB u[0].toNat=true) (h45:hasB (B u) 45=false) (h58:hasB (B u) 58=true) :
  Calls Tryz.prog 176 #[.agg #[.int .i64 0,.string u,.string r]] w fun e' w'=>e'=.returned (.bool (rightB 0 (B u) (B r)))∧Below w.heap.size w w':=by
 have X:=Lib.hid (show rightB 0 (B u) (B r)=false by unfold rightB;rw [h58];simp)
 have HD:=Lib.hid hd
 have C45:=Lib.hid (fun w=>has_45 u w hsz)
 have C58:=Lib.hid (fun w=>has_58 u w hsz)
 rw [h45] at C45
 rw [h58] at C58
 clear hd h45 h58
 go_enter Tryz.func176,Tryz.ntmps176
 go_wp2_with (first|(go_at_call 122;refine (Digit_any _ _).mono ?_;rw [HD.out];rintro e' w' ⟨rfl,rfl⟩)|(go_at_call 207;(with_reducible refine (C45.out _).mono ?_);rintro e' w' ⟨rfl,rfl⟩)|(go_at_call 207;(with_reducible refine (C58.out _).mono ?_);rintro e' w' ⟨rfl,rfl⟩))
 go_ret
 exact ⟨by rw [X.out];rfl,(Below.refl _ w).alloc (Nat.le_refl _) _⟩
set_option maxHeartbeats 1000000 in
theorem right_false_false (e:Nat) (u r:ByteArray) (w:World) (he:e≤999999999) (hu:u.toList.isEmpty=false) (hs:0 < u.size) (hsz:u.size≤65536) (hrz:r.size≤65536) (hd:digB u[0].toNat=true) (h45:hasB (B u) 45=false) (h58:hasB (B u) 58=false) :
  Calls Tryz.prog 176 #[.agg #[.int .i64 (e:Int),.string u,.string r]] w fun e' w'=>e'=.returned (.bool (rightB (e:Int) (B u) (B r)))∧Below w.heap.size w w':=by
 have XR:=Lib.hid (show rightB e (B u) (B r)=((B u).all (chB uX)&&(B r).all (chB rX)&&decide ((textL e (B u) (B r)).length≤60)) by
  unfold rightB
  rw [decide_eq_true (by omega),headD_at u hs,hd]
  rw [h45]
  rw [h58]
  simp)
 obtain ⟨T,-,hT,ct⟩:=text_len e u r (by omega) hsz hrz
 have HT:=Lib.hid hT
 have CT:=Lib.hid ct
 clear hT ct
 have HD:=Lib.hid hd
 have C45:=Lib.hid (fun w=>has_45 u w (by omega))
 have C58:=Lib.hid (fun w=>has_58 u w (by omega))
 rw [h45] at C45
 rw [h58] at C58
 clear hd h45 h58
 go_enter Tryz.func176,Tryz.ntmps176
 go_wp2_with (first|(go_at_call 122;refine (Digit_any _ _).mono ?_;rw [HD.out];rintro e' w' ⟨rfl,rfl⟩)|(go_at_call 207;(with_reducible refine (C45.out _).mono ?_);rintro e' w' ⟨rfl,rfl⟩)|(go_at_call 207;(with_reducible refine (C58.out _).mono ?_);rintro e' w' ⟨rfl,rfl⟩))
 clear HD C45 C58
 go_loop [3] (fun x=>∃k:Nat,k≤u.size∧x=.int .i64 k∧∀c ∈ (B u).take k,chB uX c=true) (fun x=>u.size - (intOf x).toNat)
 case atStart=>exact ⟨0,Nat.zero_le _,rfl,by simp⟩
 case round=>
  obtain ⟨k,hk,rfl,hall⟩:=hrel
  have HA:=Lib.hid hall
  clear hall
  by_cases hlt:k < u.size
  ·have t_u:=byte_le u k hlt
   cases hl:letB u[k].toNat
   ·cases hd:digB u[k].toNat
    ·cases hh:hasB uX u[k].toNat
     ·have HF:=Lib.hid (all_not (p:=chB uX) hlt (by unfold chB;rw [hl,hd,hh];rfl))
      have HL:=Lib.hid hl
      have HD2:=Lib.hid hd
      have HH:=Lib.hid hh
      clear hl hd hh
      go_wp2_with (first|(go_at_call 205;refine (Letter_any _ _).mono ?_;rw [HL.out];rintro e' w' ⟨rfl,rfl⟩)|(go_at_call 122;refine (Digit_any _ _).mono ?_;rw [HD2.out];rintro e' w' ⟨rfl,rfl⟩)|(go_at_call 207;refine (has_uX _ _).mono ?_;rw [HH.out];rintro e' w' ⟨rfl,rfl⟩))
      go_ret
      exact ⟨by rw [XR.out,HF.out,Bool.false_and];rfl,(Below.refl _ w).alloc (Nat.le_refl _) _⟩
     ·have HOK:=Lib.hid (all_take (p:=chB uX) hlt HA.out (by unfold chB;rw [hl,hd,hh];rfl))
      have HL:=Lib.hid hl
      have HD2:=Lib.hid hd
      have HH:=Lib.hid hh
      clear hl hd hh
      go_wp2_with (first|(go_at_call 205;refine (Letter_any _ _).mono ?_;rw [HL.out];rintro e' w' ⟨rfl,rfl⟩)|(go_at_call 122;refine (Digit_any _ _).mono ?_;rw [HD2.out];rintro e' w' ⟨rfl,rfl⟩)|(go_at_call 207;refine (has_uX _ _).mono ?_;rw [HH.out];rintro e' w' ⟨rfl,rfl⟩))
      go_round
      case rel=>exact ⟨k+1,by omega,by go_num,HOK.out⟩
      case measure=>simp [intOf];omega
    ·have HOK:=Lib.hid (all_take (p:=chB uX) hlt HA.out (by unfold chB;rw [hl,hd];rfl))
     have HL:=Lib.hid hl
     have HD2:=Lib.hid hd
     clear hl hd
     go_wp2_with (first|(go_at_call 205;refine (Letter_any _ _).mono ?_;rw [HL.out];rintro e' w' ⟨rfl,rfl⟩)|(go_at_call 122;refine (Digit_any _ _).mono ?_;rw [HD2.out];rintro e' w' ⟨rfl,rfl⟩))
     go_round
     case rel=>exact ⟨k+1,by omega,by go_num,HOK.out⟩
     case measure=>simp [intOf];omega
   ·have HOK:=Lib.hid (all_take (p:=chB uX) hlt HA.out (by unfold chB;rw [hl];rfl))
    have HL:=Lib.hid hl
    clear hl
    go_wp2_with (go_at_call 205;refine (Letter_any _ _).mono ?_;rw [HL.out];rintro e' w' ⟨rfl,rfl⟩)
    go_round
    case rel=>exact ⟨k+1,by omega,by go_num,HOK.out⟩
    case measure=>simp [intOf];omega
  ·have HALLu:=Lib.hid (all_end hlt HA.out)
   clear HA
   go_wp2
   go_loop [5] (fun x=>∃m:Nat,m≤r.size∧x=.int .i64 m∧∀c ∈ (B r).take m,chB rX c=true) (fun x=>r.size - (intOf x).toNat)
   case atStart=>exact ⟨0,Nat.zero_le _,rfl,by simp⟩
   case round=>
    obtain ⟨m,hm,rfl,hall⟩:=hrel
    have HA:=Lib.hid hall
    clear hall
    by_cases hlt:m < r.size
    ·have t_u:=byte_le r m hlt
     cases hl:letB r[m].toNat
     ·cases hd:digB r[m].toNat
      ·cases hh:hasB rX r[m].toNat
       ·have HF:=Lib.hid (all_not (p:=chB rX) hlt (by unfold chB;rw [hl,hd,hh];rfl))
        have HL:=Lib.hid hl
        have HD2:=Lib.hid hd
        have HH:=Lib.hid hh
        clear hl hd hh
        go_wp2_with (first|(go_at_call 205;refine (Letter_any _ _).mono ?_;rw [HL.out];rintro e' w' ⟨rfl,rfl⟩)|(go_at_call 122;refine (Digit_any _ _).mono ?_;rw [HD2.out];rintro e' w' ⟨rfl,rfl⟩)|(go_at_call 207;refine (has_rX _ _).mono ?_;rw [HH.out];rintro e' w' ⟨rfl,rfl⟩))
        go_ret
        exact ⟨by rw [XR.out,HF.out,Bool.and_false,Bool.false_and];rfl,(Below.refl _ w).alloc (Nat.le_refl _) _⟩
       ·have HOK:=Lib.hid (all_take (p:=chB rX) hlt HA.out (by unfold chB;rw [hl,hd,hh];rfl))
        have HL:=Lib.hid hl
        have HD2:=Lib.hid hd
        have HH:=Lib.hid hh
        clear hl hd hh
        go_wp2_with (first|(go_at_call 205;refine (Letter_any _ _).mono ?_;rw [HL.out];rintro e' w' ⟨rfl,rfl⟩)|(go_at_call 122;refine (Digit_any _ _).mono ?_;rw [HD2.out];rintro e' w' ⟨rfl,rfl⟩)|(go_at_call 207;refine (has_rX _ _).mono ?_;rw [HH.out];rintro e' w' ⟨rfl,rfl⟩))
        go_round
        case rel=>exact ⟨m+1,by omega,by go_num,HOK.out⟩
        case measure=>simp [intOf];omega
      ·have HOK:=Lib.hid (all_take (p:=chB rX) hlt HA.out (by unfold chB;rw [hl,hd];rfl))
       have HL:=Lib.hid hl
       have HD2:=Lib.hid hd
       clear hl hd
       go_wp2_with (first|(go_at_call 205;refine (Letter_any _ _).mono ?_;rw [HL.out];rintro e' w' ⟨rfl,rfl⟩)|(go_at_call 122;refine (Digit_any _ _).mono ?_;rw [HD2.out];rintro e' w' ⟨rfl,rfl⟩))
       go_round
       case rel=>exact ⟨m+1,by omega,by go_num,HOK.out⟩
       case measure=>simp [intOf];omega
     ·have HOK:=Lib.hid (all_take (p:=chB rX) hlt HA.out (by unfold chB;rw [hl];rfl))
      have HL:=Lib.hid hl
      clear hl
      go_wp2_with (go_at_call 205;refine (Letter_any _ _).mono ?_;rw [HL.out];rintro e' w' ⟨rfl,rfl⟩)
      go_round
      case rel=>exact ⟨m+1,by omega,by go_num,HOK.out⟩
      case measure=>simp [intOf];omega
    ·have HALLr:=Lib.hid (all_end hlt HA.out)
     clear HA
     go_wp2_with (go_at_call 177;(with_reducible refine (CT.out _).mono ?_);rintro e' w1 ⟨rfl,hb1⟩)
     go_ret
     exact ⟨by rw [XR.out,HALLu.out,HALLr.out,←HT.out];show Ending.returned (.bool (decide ((T.size:Int)≤60)))=.returned (.bool (decide (T.size≤60)));rw [decide_eq_decide.2 (show (T.size:Int)≤60↔T.size≤60 by omega)],((Below.refl _ w).alloc (Nat.le_refl _) _).trans (hb1.mono (by simp))⟩
set_option maxHeartbeats 1000000 in
theorem right_false_true (e:Nat) (u r:ByteArray) (w:World) (he:e≤999999999) (hu:u.toList.isEmpty=false) (hs:0 < u.size) (hsz:u.size≤65536) (hrz:r.size≤65536) (hd:digB u[0].toNat=true) (h45:hasB (B u) 45=false) (h58:hasB (B u) 58=true) (he0:((e:Int)==0)=false) :
  Calls Tryz.prog 176 #[.agg #[.int .i64 (e:Int),.string u,.string r]] w fun e' w'=>e'=.returned (.bool (rightB (e:Int) (B u) (B r)))∧Below w.heap.size w w':=by
 have XR:=Lib.hid (show rightB e (B u) (B r)=((B u).all (chB uX)&&(B r).all (chB rX)&&decide ((textL e (B u) (B r)).length≤60)) by
  unfold rightB
  rw [decide_eq_true (by omega),headD_at u hs,hd]
  rw [h45]
  rw [h58,show decide ((e:Int)=0)=false from decide_eq_false (by intro h;rw [h] at he0;cases he0)]
  simp)
 obtain ⟨T,-,hT,ct⟩:=text_len e u r (by omega) hsz hrz
 have HT:=Lib.hid hT
 have CT:=Lib.hid ct
 clear hT ct
 have HD:=Lib.hid hd
 have C45:=Lib.hid (fun w=>has_45 u w (by omega))
 have C58:=Lib.hid (fun w=>has_58 u w (by omega))
 rw [h45] at C45
 rw [h58] at C58
 clear hd h45 h58
 go_enter Tryz.func176,Tryz.ntmps176
 go_wp2_with (first|(go_at_call 122;refine (Digit_any _ _).mono ?_;rw [HD.out];rintro e' w' ⟨rfl,rfl⟩)|(go_at_call 207;(with_reducible refine (C45.out _).mono ?_);rintro e' w' ⟨rfl,rfl⟩)|(go_at_call 207;(with_reducible refine (C58.out _).mono ?_);rintro e' w' ⟨rfl,rfl⟩))
 clear HD C45 C58
 go_loop [3] (fun x=>∃k:Nat,k≤u.size∧x=.int .i64 k∧∀c ∈ (B u).take k,chB uX c=true) (fun x=>u.size - (intOf x).toNat)
 case atStart=>exact ⟨0,Nat.zero_le _,rfl,by simp⟩
 case round=>
  obtain ⟨k,hk,rfl,hall⟩:=hrel
  have HA:=Lib.hid hall
  clear hall
  by_cases hlt:k < u.size
  ·have t_u:=byte_le u k hlt
   cases hl:letB u[k].toNat
   ·cases hd:digB u[k].toNat
    ·cases hh:hasB uX u[k].toNat
     ·have HF:=Lib.hid (all_not (p:=chB uX) hlt (by unfold chB;rw [hl,hd,hh];rfl))
      have HL:=Lib.hid hl
      have HD2:=Lib.hid hd
      have HH:=Lib.hid hh
      clear hl hd hh
      go_wp2_with (first|(go_at_call 205;refine (Letter_any _ _).mono ?_;rw [HL.out];rintro e' w' ⟨rfl,rfl⟩)|(go_at_call 122;refine (Digit_any _ _).mono ?_;rw [HD2.out];rintro e' w' ⟨rfl,rfl⟩)|(go_at_call 207;refine (has_uX _ _).mono ?_;rw [HH.out];rintro e' w' ⟨rfl,rfl⟩))
      go_ret
      exact ⟨by rw [XR.out,HF.out,Bool.false_and];rfl,(Below.refl _ w).alloc (Nat.le_refl _) _⟩
     ·have HOK:=Lib.hid (all_take (p:=chB uX) hlt HA.out (by unfold chB;rw [hl,hd,hh];rfl))
      have HL:=Lib.hid hl
      have HD2:=Lib.hid hd
      have HH:=Lib.hid hh
      clear hl hd hh
      go_wp2_with (first|(go_at_call 205;refine (Letter_any _ _).mono ?_;rw [HL.out];rintro e' w' ⟨rfl,rfl⟩)|(go_at_call 122;refine (Digit_any _ _).mono ?_;rw [HD2.out];rintro e' w' ⟨rfl,rfl⟩)|(go_at_call 207;refine (has_uX _ _).mono ?_;rw [HH.out];rintro e' w' ⟨rfl,rfl⟩))
      go_round
      case rel=>exact ⟨k+1,by omega,by go_num,HOK.out⟩
      case measure=>simp [intOf];omega
    ·have HOK:=Lib.hid (all_take (p:=chB uX) hlt HA.out (by unfold chB;rw [hl,hd];rfl))
     have HL:=Lib.hid hl
     have HD2:=Lib.hid hd
     clear hl hd
     go_wp2_with (first|(go_at_call 205;refine (Letter_any _ _).mono ?_;rw [HL.out];rintro e' w' ⟨rfl,rfl⟩)|(go_at_call 122;refine (Digit_any _ _).mono ?_;rw [HD2.out];rintro e' w' ⟨rfl,rfl⟩))
     go_round
     case rel=>exact ⟨k+1,by omega,by go_num,HOK.out⟩
     case measure=>simp [intOf];omega
   ·have HOK:=Lib.hid (all_take (p:=chB uX) hlt HA.out (by unfold chB;rw [hl];rfl))
    have HL:=Lib.hid hl
    clear hl
    go_wp2_with (go_at_call 205;refine (Letter_any _ _).mono ?_;rw [HL.out];rintro e' w' ⟨rfl,rfl⟩)
    go_round
    case rel=>exact ⟨k+1,by omega,by go_num,HOK.out⟩
    case measure=>simp [intOf];omega
  ·have HALLu:=Lib.hid (all_end hlt HA.out)
   clear HA
   go_wp2
   go_loop [5] (fun x=>∃m:Nat,m≤r.size∧x=.int .i64 m∧∀c ∈ (B r).take m,chB rX c=true) (fun x=>r.size - (intOf x).toNat)
   case atStart=>exact ⟨0,Nat.zero_le _,rfl,by simp⟩
   case round=>
    obtain ⟨m,hm,rfl,hall⟩:=hrel
    have HA:=Lib.hid hall
    clear hall
    by_cases hlt:m < r.size
    ·have t_u:=byte_le r m hlt
     cases hl:letB r[m].toNat
     ·cases hd:digB r[m].toNat
      ·cases hh:hasB rX r[m].toNat
       ·have HF:=Lib.hid (all_not (p:=chB rX) hlt (by unfold chB;rw [hl,hd,hh];rfl))
        have HL:=Lib.hid hl
        have HD2:=Lib.hid hd
        have HH:=Lib.hid hh
        clear hl hd hh
        go_wp2_with (first|(go_at_call 205;refine (Letter_any _ _).mono ?_;rw [HL.out];rintro e' w' ⟨rfl,rfl⟩)|(go_at_call 122;refine (Digit_any _ _).mono ?_;rw [HD2.out];rintro e' w' ⟨rfl,rfl⟩)|(go_at_call 207;refine (has_rX _ _).mono ?_;rw [HH.out];rintro e' w' ⟨rfl,rfl⟩))
        go_ret
        exact ⟨by rw [XR.out,HF.out,Bool.and_false,Bool.false_and];rfl,(Below.refl _ w).alloc (Nat.le_refl _) _⟩
       ·have HOK:=Lib.hid (all_take (p:=chB rX) hlt HA.out (by unfold chB;rw [hl,hd,hh];rfl))
        have HL:=Lib.hid hl
        have HD2:=Lib.hid hd
        have HH:=Lib.hid hh
        clear hl hd hh
        go_wp2_with (first|(go_at_call 205;refine (Letter_any _ _).mono ?_;rw [HL.out];rintro e' w' ⟨rfl,rfl⟩)|(go_at_call 122;refine (Digit_any _ _).mono ?_;rw [HD2.out];rintro e' w' ⟨rfl,rfl⟩)|(go_at_call 207;refine (has_rX _ _).mono ?_;rw [HH.out];rintro e' w' ⟨rfl,rfl⟩))
        go_round
        case rel=>exact ⟨m+1,by omega,by go_num,HOK.out⟩
        case measure=>simp [intOf];omega
      ·have HOK:=Lib.hid (all_take (p:=chB rX) hlt HA.out (by unfold chB;rw [hl,hd];rfl))
       have HL:=Lib.hid hl
       have HD2:=Lib.hid hd
       clear hl hd
       go_wp2_with (first|(go_at_call 205;refine (Letter_any _ _).mono ?_;rw [HL.out];rintro e' w' ⟨rfl,rfl⟩)|(go_at_call 122;refine (Digit_any _ _).mono ?_;rw [HD2.out];rintro e' w' ⟨rfl,rfl⟩))
       go_round
       case rel=>exact ⟨m+1,by omega,by go_num,HOK.out⟩
       case measure=>simp [intOf];omega
     ·have HOK:=Lib.hid (all_take (p:=chB rX) hlt HA.out (by unfold chB;rw [hl];rfl))
      have HL:=Lib.hid hl
      clear hl
      go_wp2_with (go_at_call 205;refine (Letter_any _ _).mono ?_;rw [HL.out];rintro e' w' ⟨rfl,rfl⟩)
      go_round
      case rel=>exact ⟨m+1,by omega,by go_num,HOK.out⟩
      case measure=>simp [intOf];omega
    ·have HALLr:=Lib.hid (all_end hlt HA.out)
     clear HA
     go_wp2_with (go_at_call 177;(with_reducible refine (CT.out _).mono ?_);rintro e' w1 ⟨rfl,hb1⟩)
     go_ret
     exact ⟨by rw [XR.out,HALLu.out,HALLr.out,←HT.out];show Ending.returned (.bool (decide ((T.size:Int)≤60)))=.returned (.bool (decide (T.size≤60)));rw [decide_eq_decide.2 (show (T.size:Int)≤60↔T.size≤60 by omega)],((Below.refl _ w).alloc (Nat.le_refl _) _).trans (hb1.mono (by simp))⟩
set_option maxHeartbeats 1000000 in
theorem right_true_false (e:Nat) (u r:ByteArray) (w:World) (he:e≤999999999) (hu:u.toList.isEmpty=false) (hs:0 < u.size) (hsz:u.size≤65536) (hrz:r.size≤65536) (hd:digB u[0].toNat=true) (h45:hasB (B u) 45=true) (hre:r.toList.isEmpty=false) (h58:hasB (B u) 58=false) :
  Calls Tryz.prog 176 #[.agg #[.int .i64 (e:Int),.string u,.string r]] w fun e' w'=>e'=.returned (.bool (rightB (e:Int) (B u) (B r)))∧Below w.heap.size w w':=by
 have XR:=Lib.hid (show rightB e (B u) (B r)=((B u).all (chB uX)&&(B r).all (chB rX)&&decide ((textL e (B u) (B r)).length≤60)) by
  unfold rightB
  rw [decide_eq_true (by omega),headD_at u hs,hd]
  rw [h45,decide_eq_false (fun h=>by rw [(empty_iff r).2 h] at hre;cases hre)]
  rw [h58]
  simp)
 obtain ⟨T,-,hT,ct⟩:=text_len e u r (by omega) hsz hrz
 have HT:=Lib.hid hT
 have CT:=Lib.hid ct
 clear hT ct
 have HD:=Lib.hid hd
 have C45:=Lib.hid (fun w=>has_45 u w (by omega))
 have C58:=Lib.hid (fun w=>has_58 u w (by omega))
 rw [h45] at C45
 rw [h58] at C58
 clear hd h45 h58
 go_enter Tryz.func176,Tryz.ntmps176
 go_wp2_with (first|(go_at_call 122;refine (Digit_any _ _).mono ?_;rw [HD.out];rintro e' w' ⟨rfl,rfl⟩)|(go_at_call 207;(with_reducible refine (C45.out _).mono ?_);rintro e' w' ⟨rfl,rfl⟩)|(go_at_call 207;(with_reducible refine (C58.out _).mono ?_);rintro e' w' ⟨rfl,rfl⟩))
 clear HD C45 C58
 go_loop [3] (fun x=>∃k:Nat,k≤u.size∧x=.int .i64 k∧∀c ∈ (B u).take k,chB uX c=true) (fun x=>u.size - (intOf x).toNat)
 case atStart=>exact ⟨0,Nat.zero_le _,rfl,by simp⟩
 case round=>
  obtain ⟨k,hk,rfl,hall⟩:=hrel
  have HA:=Lib.hid hall
  clear hall
  by_cases hlt:k < u.size
  ·have t_u:=byte_le u k hlt
   cases hl:letB u[k].toNat
   ·cases hd:digB u[k].toNat
    ·cases hh:hasB uX u[k].toNat
     ·have HF:=Lib.hid (all_not (p:=chB uX) hlt (by unfold chB;rw [hl,hd,hh];rfl))
      have HL:=Lib.hid hl
      have HD2:=Lib.hid hd
      have HH:=Lib.hid hh
      clear hl hd hh
      go_wp2_with (first|(go_at_call 205;refine (Letter_any _ _).mono ?_;rw [HL.out];rintro e' w' ⟨rfl,rfl⟩)|(go_at_call 122;refine (Digit_any _ _).mono ?_;rw [HD2.out];rintro e' w' ⟨rfl,rfl⟩)|(go_at_call 207;refine (has_uX _ _).mono ?_;rw [HH.out];rintro e' w' ⟨rfl,rfl⟩))
      go_ret
      exact ⟨by rw [XR.out,HF.out,Bool.false_and];rfl,(Below.refl _ w).alloc (Nat.le_refl _) _⟩
     ·have HOK:=Lib.hid (all_take (p:=chB uX) hlt HA.out (by unfold chB;rw [hl,hd,hh];rfl))
      have HL:=Lib.hid hl
      have HD2:=Lib.hid hd
      have HH:=Lib.hid hh
      clear hl hd hh
      go_wp2_with (first|(go_at_call 205;refine (Letter_any _ _).mono ?_;rw [HL.out];rintro e' w' ⟨rfl,rfl⟩)|(go_at_call 122;refine (Digit_any _ _).mono ?_;rw [HD2.out];rintro e' w' ⟨rfl,rfl⟩)|(go_at_call 207;refine (has_uX _ _).mono ?_;rw [HH.out];rintro e' w' ⟨rfl,rfl⟩))
      go_round
      case rel=>exact ⟨k+1,by omega,by go_num,HOK.out⟩
      case measure=>simp [intOf];omega
    ·have HOK:=Lib.hid (all_take (p:=chB uX) hlt HA.out (by unfold chB;rw [hl,hd];rfl))
     have HL:=Lib.hid hl
     have HD2:=Lib.hid hd
     clear hl hd
     go_wp2_with (first|(go_at_call 205;refine (Letter_any _ _).mono ?_;rw [HL.out];rintro e' w' ⟨rfl,rfl⟩)|(go_at_call 122;refine (Digit_any _ _).mono ?_;rw [HD2.out];rintro e' w' ⟨rfl,rfl⟩))
     go_round
     case rel=>exact ⟨k+1,by omega,by go_num,HOK.out⟩
     case measure=>simp [intOf];omega
   ·have HOK:=Lib.hid (all_take (p:=chB uX) hlt HA.out (by unfold chB;rw [hl];rfl))
    have HL:=Lib.hid hl
    clear hl
    go_wp2_with (go_at_call 205;refine (Letter_any _ _).mono ?_;rw [HL.out];rintro e' w' ⟨rfl,rfl⟩)
    go_round
    case rel=>exact ⟨k+1,by omega,by go_num,HOK.out⟩
    case measure=>simp [intOf];omega
  ·have HALLu:=Lib.hid (all_end hlt HA.out)
   clear HA
   go_wp2
   go_loop [5] (fun x=>∃m:Nat,m≤r.size∧x=.int .i64 m∧∀c ∈ (B r).take m,chB rX c=true) (fun x=>r.size - (intOf x).toNat)
   case atStart=>exact ⟨0,Nat.zero_le _,rfl,by simp⟩
   case round=>
    obtain ⟨m,hm,rfl,hall⟩:=hrel
    have HA:=Lib.hid hall
    clear hall
    by_cases hlt:m < r.size
    ·have t_u:=byte_le r m hlt
     cases hl:letB r[m].toNat
     ·cases hd:digB r[m].toNat
      ·cases hh:hasB rX r[m].toNat
       ·have HF:=Lib.hid (all_not (p:=chB rX) hlt (by unfold chB;rw [hl,hd,hh];rfl))
        have HL:=Lib.hid hl
        have HD2:=Lib.hid hd
        have HH:=Lib.hid hh
        clear hl hd hh
        go_wp2_with (first|(go_at_call 205;refine (Letter_any _ _).mono ?_;rw [HL.out];rintro e' w' ⟨rfl,rfl⟩)|(go_at_call 122;refine (Digit_any _ _).mono ?_;rw [HD2.out];rintro e' w' ⟨rfl,rfl⟩)|(go_at_call 207;refine (has_rX _ _).mono ?_;rw [HH.out];rintro e' w' ⟨rfl,rfl⟩))
        go_ret
        exact ⟨by rw [XR.out,HF.out,Bool.and_false,Bool.false_and];rfl,(Below.refl _ w).alloc (Nat.le_refl _) _⟩
       ·have HOK:=Lib.hid (all_take (p:=chB rX) hlt HA.out (by unfold chB;rw [hl,hd,hh];rfl))
        have HL:=Lib.hid hl
        have HD2:=Lib.hid hd
        have HH:=Lib.hid hh
        clear hl hd hh
        go_wp2_with (first|(go_at_call 205;refine (Letter_any _ _).mono ?_;rw [HL.out];rintro e' w' ⟨rfl,rfl⟩)|(go_at_call 122;refine (Digit_any _ _).mono ?_;rw [HD2.out];rintro e' w' ⟨rfl,rfl⟩)|(go_at_call 207;refine (has_rX _ _).mono ?_;rw [HH.out];rintro e' w' ⟨rfl,rfl⟩))
        go_round
        case rel=>exact ⟨m+1,by omega,by go_num,HOK.out⟩
        case measure=>simp [intOf];omega
      ·have HOK:=Lib.hid (all_take (p:=chB rX) hlt HA.out (by unfold chB;rw [hl,hd];rfl))
       have HL:=Lib.hid hl
       have HD2:=Lib.hid hd
       clear hl hd
       go_wp2_with (first|(go_at_call 205;refine (Letter_any _ _).mono ?_;rw [HL.out];rintro e' w' ⟨rfl,rfl⟩)|(go_at_call 122;refine (Digit_any _ _).mono ?_;rw [HD2.out];rintro e' w' ⟨rfl,rfl⟩))
       go_round
       case rel=>exact ⟨m+1,by omega,by go_num,HOK.out⟩
       case measure=>simp [intOf];omega
     ·have HOK:=Lib.hid (all_take (p:=chB rX) hlt HA.out (by unfold chB;rw [hl];rfl))
      have HL:=Lib.hid hl
      clear hl
      go_wp2_with (go_at_call 205;refine (Letter_any _ _).mono ?_;rw [HL.out];rintro e' w' ⟨rfl,rfl⟩)
      go_round
      case rel=>exact ⟨m+1,by omega,by go_num,HOK.out⟩
      case measure=>simp [intOf];omega
    ·have HALLr:=Lib.hid (all_end hlt HA.out)
     clear HA
     go_wp2_with (go_at_call 177;(with_reducible refine (CT.out _).mono ?_);rintro e' w1 ⟨rfl,hb1⟩)
     go_ret
     exact ⟨by rw [XR.out,HALLu.out,HALLr.out,←HT.out];show Ending.returned (.bool (decide ((T.size:Int)≤60)))=.returned (.bool (decide (T.size≤60)));rw [decide_eq_decide.2 (show (T.size:Int)≤60↔T.size≤60 by omega)],((Below.refl _ w).alloc (Nat.le_refl _) _).trans (hb1.mono (by simp))⟩
set_option maxHeartbeats 1000000 in
theorem right_true_true (e:Nat) (u r:ByteArray) (w:World) (he:e≤999999999) (hu:u.toList.isEmpty=false) (hs:0 < u.size) (hsz:u.size≤65536) (hrz:r.size≤65536) (hd:digB u[0].toNat=true) (h45:hasB (B u) 45=true) (hre:r.toList.isEmpty=false) (h58:hasB (B u) 58=true) (he0:((e:Int)==0)=false) :
  Calls Tryz.prog 176 #[.agg #[.int .i64 (e:Int),.string u,.string r]] w fun e' w'=>e'=.returned (.bool (rightB (e:Int) (B u) (B r)))∧Below w.heap.size w w':=by
 have XR:=Lib.hid (show rightB e (B u) (B r)=((B u).all (chB uX)&&(B r).all (chB rX)&&decide ((textL e (B u) (B r)).length≤60)) by
  unfold rightB
  rw [decide_eq_true (by omega),headD_at u hs,hd]
  rw [h45,decide_eq_false (fun h=>by rw [(empty_iff r).2 h] at hre;cases hre)]
  rw [h58,show decide ((e:Int)=0)=false from decide_eq_false (by intro h;rw [h] at he0;cases he0)]
  simp)
 obtain ⟨T,-,hT,ct⟩:=text_len e u r (by omega) hsz hrz
 have HT:=Lib.hid hT
 have CT:=Lib.hid ct
 clear hT ct
 have HD:=Lib.hid hd
 have C45:=Lib.hid (fun w=>has_45 u w (by omega))
 have C58:=Lib.hid (fun w=>has_58 u w (by omega))
 rw [h45] at C45
 rw [h58] at C58
 clear hd h45 h58
 go_enter Tryz.func176,Tryz.ntmps176
 go_wp2_with (first|(go_at_call 122;refine (Digit_any _ _).mono ?_;rw [HD.out];rintro e' w' ⟨rfl,rfl⟩)|(go_at_call 207;(with_reducible refine (C45.out _).mono ?_);rintro e' w' ⟨rfl,rfl⟩)|(go_at_call 207;(with_reducible refine (C58.out _).mono ?_);rintro e' w' ⟨rfl,rfl⟩))
 clear HD C45 C58
 go_loop [3] (fun x=>∃k:Nat,k≤u.size∧x=.int .i64 k∧∀c ∈ (B u).take k,chB uX c=true) (fun x=>u.size - (intOf x).toNat)
 case atStart=>exact ⟨0,Nat.zero_le _,rfl,by simp⟩
 case round=>
  obtain ⟨k,hk,rfl,hall⟩:=hrel
  have HA:=Lib.hid hall
  clear hall
  by_cases hlt:k < u.size
  ·have t_u:=byte_le u k hlt
   cases hl:letB u[k].toNat
   ·cases hd:digB u[k].toNat
    ·cases hh:hasB uX u[k].toNat
     ·have HF:=Lib.hid (all_not (p:=chB uX) hlt (by unfold chB;rw [hl,hd,hh];rfl))
      have HL:=Lib.hid hl
      have HD2:=Lib.hid hd
      have HH:=Lib.hid hh
      clear hl hd hh
      go_wp2_with (first|(go_at_call 205;refine (Letter_any _ _).mono ?_;rw [HL.out];rintro e' w' ⟨rfl,rfl⟩)|(go_at_call 122;refine (Digit_any _ _).mono ?_;rw [HD2.out];rintro e' w' ⟨rfl,rfl⟩)|(go_at_call 207;refine (has_uX _ _).mono ?_;rw [HH.out];rintro e' w' ⟨rfl,rfl⟩))
      go_ret
      exact ⟨by rw [XR.out,HF.out,Bool.false_and];rfl,(Below.refl _ w).alloc (Nat.le_refl _) _⟩
     ·have HOK:=Lib.hid (all_take (p:=chB uX) hlt HA.out (by unfold chB;rw [hl,hd,hh];rfl))
      have HL:=Lib.hid hl
      have HD2:=Lib.hid hd
      have HH:=Lib.hid hh
      clear hl hd hh
      go_wp2_with (first|(go_at_call 205;refine (Letter_any _ _).mono ?_;rw [HL.out];rintro e' w' ⟨rfl,rfl⟩)|(go_at_call 122;refine (Digit_any _ _).mono ?_;rw [HD2.out];rintro e' w' ⟨rfl,rfl⟩)|(go_at_call 207;refine (has_uX _ _).mono ?_;rw [HH.out];rintro e' w' ⟨rfl,rfl⟩))
      go_round
      case rel=>exact ⟨k+1,by omega,by go_num,HOK.out⟩
      case measure=>simp [intOf];omega
    ·have HOK:=Lib.hid (all_take (p:=chB uX) hlt HA.out (by unfold chB;rw [hl,hd];rfl))
     have HL:=Lib.hid hl
     have HD2:=Lib.hid hd
     clear hl hd
     go_wp2_with (first|(go_at_call 205;refine (Letter_any _ _).mono ?_;rw [HL.out];rintro e' w' ⟨rfl,rfl⟩)|(go_at_call 122;refine (Digit_any _ _).mono ?_;rw [HD2.out];rintro e' w' ⟨rfl,rfl⟩))
     go_round
     case rel=>exact ⟨k+1,by omega,by go_num,HOK.out⟩
     case measure=>simp [intOf];omega
   ·have HOK:=Lib.hid (all_take (p:=chB uX) hlt HA.out (by unfold chB;rw [hl];rfl))
    have HL:=Lib.hid hl
    clear hl
    go_wp2_with (go_at_call 205;refine (Letter_any _ _).mono ?_;rw [HL.out];rintro e' w' ⟨rfl,rfl⟩)
    go_round
    case rel=>exact ⟨k+1,by omega,by go_num,HOK.out⟩
    case measure=>simp [intOf];omega
  ·have HALLu:=Lib.hid (all_end hlt HA.out)
   clear HA
   go_wp2
   go_loop [5] (fun x=>∃m:Nat,m≤r.size∧x=.int .i64 m∧∀c ∈ (B r).take m,chB rX c=true) (fun x=>r.size - (intOf x).toNat)
   case atStart=>exact ⟨0,Nat.zero_le _,rfl,by simp⟩
   case round=>
    obtain ⟨m,hm,rfl,hall⟩:=hrel
    have HA:=Lib.hid hall
    clear hall
    by_cases hlt:m < r.size
    ·have t_u:=byte_le r m hlt
     cases hl:letB r[m].toNat
     ·cases hd:digB r[m].toNat
      ·cases hh:hasB rX r[m].toNat
       ·have HF:=Lib.hid (all_not (p:=chB rX) hlt (by unfold chB;rw [hl,hd,hh];rfl))
        have HL:=Lib.hid hl
        have HD2:=Lib.hid hd
        have HH:=Lib.hid hh
        clear hl hd hh
        go_wp2_with (first|(go_at_call 205;refine (Letter_any _ _).mono ?_;rw [HL.out];rintro e' w' ⟨rfl,rfl⟩)|(go_at_call 122;refine (Digit_any _ _).mono ?_;rw [HD2.out];rintro e' w' ⟨rfl,rfl⟩)|(go_at_call 207;refine (has_rX _ _).mono ?_;rw [HH.out];rintro e' w' ⟨rfl,rfl⟩))
        go_ret
        exact ⟨by rw [XR.out,HF.out,Bool.and_false,Bool.false_and];rfl,(Below.refl _ w).alloc (Nat.le_refl _) _⟩
       ·have HOK:=Lib.hid (all_take (p:=chB rX) hlt HA.out (by unfold chB;rw [hl,hd,hh];rfl))
        have HL:=Lib.hid hl
        have HD2:=Lib.hid hd
        have HH:=Lib.hid hh
        clear hl hd hh
        go_wp2_with (first|(go_at_call 205;refine (Letter_any _ _).mono ?_;rw [HL.out];rintro e' w' ⟨rfl,rfl⟩)|(go_at_call 122;refine (Digit_any _ _).mono ?_;rw [HD2.out];rintro e' w' ⟨rfl,rfl⟩)|(go_at_call 207;refine (has_rX _ _).mono ?_;rw [HH.out];rintro e' w' ⟨rfl,rfl⟩))
        go_round
        case rel=>exact ⟨m+1,by omega,by go_num,HOK.out⟩
        case measure=>simp [intOf];omega
      ·have HOK:=Lib.hid (all_take (p:=chB rX) hlt HA.out (by unfold chB;rw [hl,hd];rfl))
       have HL:=Lib.hid hl
       have HD2:=Lib.hid hd
       clear hl hd
       go_wp2_with (first|(go_at_call 205;refine (Letter_any _ _).mono ?_;rw [HL.out];rintro e' w' ⟨rfl,rfl⟩)|(go_at_call 122;refine (Digit_any _ _).mono ?_;rw [HD2.out];rintro e' w' ⟨rfl,rfl⟩))
       go_round
       case rel=>exact ⟨m+1,by omega,by go_num,HOK.out⟩
       case measure=>simp [intOf];omega
     ·have HOK:=Lib.hid (all_take (p:=chB rX) hlt HA.out (by unfold chB;rw [hl];rfl))
      have HL:=Lib.hid hl
      clear hl
      go_wp2_with (go_at_call 205;refine (Letter_any _ _).mono ?_;rw [HL.out];rintro e' w' ⟨rfl,rfl⟩)
      go_round
      case rel=>exact ⟨m+1,by omega,by go_num,HOK.out⟩
      case measure=>simp [intOf];omega
    ·have HALLr:=Lib.hid (all_end hlt HA.out)
     clear HA
     go_wp2_with (go_at_call 177;(with_reducible refine (CT.out _).mono ?_);rintro e' w1 ⟨rfl,hb1⟩)
     go_ret
     exact ⟨by rw [XR.out,HALLu.out,HALLr.out,←HT.out];show Ending.returned (.bool (decide ((T.size:Int)≤60)))=.returned (.bool (decide (T.size≤60)));rw [decide_eq_decide.2 (show (T.size:Int)≤60↔T.size≤60 by omega)],((Below.refl _ w).alloc (Nat.le_refl _) _).trans (hb1.mono (by simp))⟩
theorem right_any (e:Int) (u r:ByteArray) (w:World) (hsz:u.size≤65536) (hrz:r.size≤65536) :
  Calls Tryz.prog 176 #[.agg #[.int .i64 e,.string u,.string r]] w fun e' w'=>e'=.returned (.bool (rightB e (B u) (B r)))∧Below w.heap.size w w':=by
 by_cases h0:0≤e
 ·by_cases h1:e≤999999999
  ·cases hu:u.toList.isEmpty
   ·have hs:0 < u.size:=by
     rcases Nat.eq_zero_or_pos u.size with h|h
     ·have:=(empty_iff u).2 (List.eq_nil_of_length_eq_zero (by rw [B_len];exact h))
      rw [hu] at this;cases this
     ·exact h
    cases hd:digB u[0].toNat
    ·exact right_head e u r w h0 h1 hu hs hd
    ·obtain ⟨n,rfl⟩:∃n:Nat,e=n:=⟨e.toNat,by omega⟩
     cases h45:hasB (B u) 45
     ·cases h58:hasB (B u) 58
      ·exact right_false_false n u r w (by omega) hu hs hsz hrz hd h45 h58
      ·cases he0:((n:Int)==0)
       ·exact right_false_true n u r w (by omega) hu hs hsz hrz hd h45 h58 he0
       ·have:n=0:=by rw [beq_iff_eq] at he0;omega
        subst this
        exact right_colon_false u r w hu hs (by omega) hd h45 h58
     ·cases hre:r.toList.isEmpty
      ·cases h58:hasB (B u) 58
       ·exact right_true_false n u r w (by omega) hu hs hsz hrz hd h45 hre h58
       ·cases he0:((n:Int)==0)
        ·exact right_true_true n u r w (by omega) hu hs hsz hrz hd h45 hre h58 he0
        ·have:n=0:=by rw [beq_iff_eq] at he0;omega
         subst this
         exact right_colon_true u r w hu hs (by omega) hd h45 hre h58
      ·exact right_dash n u r w h0 h1 hu hs (by omega) hd h45 hre
   ·exact right_empty e u r w h0 h1 hu
  ·exact right_big e u r w (by omega)
 ·exact right_neg e u r w (by omega)
end Go.Proofs.YtboinnjncaehkaaGreatDoor
