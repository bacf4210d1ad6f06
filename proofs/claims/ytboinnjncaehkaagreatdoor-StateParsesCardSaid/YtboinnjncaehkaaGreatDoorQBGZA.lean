/- What the laws rest on: D4c, RelRef, RelRef2, S5d. -/
import Derived.Test.YtboinnjncaehkaaGreatDoorQAHZA
import Derived.Test.YtboinnjncaehkaaGreatDoorQBKZA
import Derived.Test.YtboinnjncaehkaaGreatDoorQBPZA
set_option maxRecDepth 100000
set_option linter.unusedVariables false
set_option linter.unusedSimpArgs false
namespace Go.Proofs.YtboinnjncaehkaaGreatDoor
open Go.RowKit
set_option maxHeartbeats 1000000 in
theorem q4pieces_any (s:ByteArray) (c:Nat) (hc:c < 256) (w:World) (hs:s.size≤65536) :
  Calls Tryz.prog 125 #[.string s,.int .u8 (c:Int)] w fun e w'=>(∃A n cp,e=.returned (.slice A n cp)∧rdStrs w' (lt_ w'.heap.size) (cutBy c (B s)) [.slice A n cp])∧Below w.heap.size w w':=by
 obtain ⟨i0,hi,hz0,hz1,hz2⟩:=info_parts str_info
 have hlen:=B_len s
 go_enter Tryz.func125,Tryz.ntmps125
 go_wp2
 go_loopw [5,6,7] (fun v f i wr=>∃(out:List (List Nat)) (fr k:Nat),k≤s.size∧i=.int .i64 k∧f=.int .i64 fr∧PcInv c (B s) out fr k∧Grow rdStr 1 (fun _=>True) wr w.heap.size 9 v out∧Below w.heap.size w wr) (fun _ _ i _=>s.size - (intOf i).toNat)
 case atStart=>exact ⟨[],0,0,Nat.zero_le _,rfl,rfl,pc_start _ _,Grow.nil _ _ _ _,Below.refl _ _⟩
 case round=>
  obtain ⟨out,fr,k,hk,rfl,rfl,hP,hG,hbel⟩:=hrel
  have hfr:=hP.1
  have hol:=pc_len hP
  rw [hlen] at hol
  by_cases hlt:k < s.size
  ·have hgd:=B_getD s k hlt
   have hb256:=byte_le s k hlt
   have hPC:=Lib.hid (fun h=>pc_cut (c:=c) hP (by rw [hlen];exact hlt) h)
   have hPO:=Lib.hid (fun h=>pc_on (c:=c) hP (by rw [hlen];exact hlt) h)
   rw [hgd] at hPC hPO
   have HB:=Lib.hid hbel
   have hbs:=hbel.size
   clear hP hbel hgd
   by_cases he:s[k].toNat=c
   ·have hd:((s[k].toNat:Int)==(c:Int))=true:=by rw [beq_iff_eq];omega
    have PC:=Lib.hid (hPC.out he)
    clear hPC hPO he
    have hE:=(show rdStr wr (fun b=>True∧b < wr.heap.size∧u5.ownBlock≠some b) (((B s).drop fr).take (k - fr)) (#[Value.string (s.extract fr k)]:Array Value).toList from ⟨_,rfl,B_extract s fr k⟩)
    have hn1:out.length+1≤maxLen:=by unfold maxLen;omega
    have hn2:(out.length+1)*16≤140737488355328:=by omega
    go_wp2_with (at_builtin;refine wpList_grow1 _ rfl _ _ 45 rfl rdStr_good (by decide) (fun _=>True) w.heap.size 9 i0 (.string { data:=#[] }) 16 Tryz.underlying45 hi hz0 hz1 hz2 rfl _ out rfl hG _ _ 9 hE _ rfl rfl hn1 hn2 hbs ?_)
    intro v' w' hG' hgr
    have HB':=Lib.hid (grow_below hG hgr HB.out (Nat.le_refl _) hbs)
    clear hG hgr hE
    go_wp2
    go_roundw
    case rel=>exact ⟨_,k+1,k+1,by omega,by go_num,by go_num,PC.out,hG',HB'.out⟩
    case measure=>first|(simp [intOf];omega)|simp [intOf]
   ·have hd:((s[k].toNat:Int)==(c:Int))=false:=by rw [beq_eq_false_iff_ne];omega
    have PC:=Lib.hid (hPO.out he)
    clear hPC hPO he
    go_wp2
    go_roundw
    case rel=>exact ⟨_,fr,k+1,by omega,by go_num,rfl,PC.out,hG,HB.out⟩
    case measure=>first|(simp [intOf];omega)|simp [intOf]
  ·obtain rfl:k=s.size:=by omega
   have PE:=Lib.hid (show cutBy c (B s)=out++[(B s).drop fr] from pc_end (by rw [hlen];exact hP))
   have hE:=(show rdStr wr (fun b=>True∧b < wr.heap.size∧u5.ownBlock≠some b) ((B s).drop fr) (#[Value.string (s.extract fr s.size)]:Array Value).toList from ⟨_,rfl,by rw [B_extract,List.take_of_length_le (by rw [List.length_drop,hlen];omega)]⟩)
   have hn1:out.length+1≤maxLen:=by unfold maxLen;omega
   have hn2:(out.length+1)*16≤140737488355328:=by omega
   have HB:=Lib.hid hbel
   have hbs:=hbel.size
   clear hP hbel
   go_wp2_with (at_builtin;refine wpList_grow1 _ rfl _ _ 45 rfl rdStr_good (by decide) (fun _=>True) w.heap.size 9 i0 (.string { data:=#[] }) 16 Tryz.underlying45 hi hz0 hz1 hz2 rfl _ out rfl hG _ _ 9 hE _ rfl rfl hn1 hn2 hbs ?_)
   intro v' w' hG' hgr
   have HB':=Lib.hid (grow_below hG hgr HB.out (Nat.le_refl _) hbs)
   clear hG hgr hE
   obtain ⟨A,cp,rfl,_,_⟩:=hG'.own
   go_wp2
   go_ret
   exact ⟨⟨_,_,_,rfl,by rw [PE.out];exact hG'.read rdStr_good⟩,HB'.out⟩
theorem trim_done {l:List Nat} {i k:Nat} (hik:i≤k) (hk:k≤l.length) (h1:∀j,j < i→l.getD j 0=32) (h2:∀j,k≤j→j < l.length→l.getD j 0=32)
  (h3:i < k→l.getD i 0≠32) (h4:i < k→l.getD (k - 1) 0≠32):(l.drop i).take (k - i)=trm l:=by
 have e:l=l.take i++((l.drop i).take (k - i)++l.drop k):=by
  rw [show l.drop k=(l.drop i).drop (k - i) by rw [List.drop_drop];congr 1;omega,List.take_append_drop,List.take_append_drop]
 have gd:∀j (hj:j < l.length),l.getD j 0=l[j]:=fun j hj=>by rw [List.getD_eq_getElem?_getD,List.getElem?_eq_getElem hj];rfl
 conv=>rhs;rw [e]
 refine (trm_unique ?_ ?_ ?_ ?_).symm
 ·intro x hx
  obtain ⟨j,hj,rfl⟩:=List.getElem_of_mem hx
  rw [List.length_take] at hj
  rw [List.getElem_take,←gd j (by omega)];exact h1 j (by omega)
 ·intro x hx
  obtain ⟨j,hj,rfl⟩:=List.getElem_of_mem hx
  rw [List.length_drop] at hj
  rw [List.getElem_drop,←gd (k+j) (by omega)];exact h2 _ (by omega) (by omega)
 ·intro x r hx
  have hl:=congrArg List.length hx
  rw [List.length_take,List.length_drop,List.length_cons] at hl
  have h0:=congrArg (·[0]?) hx
  simp only [List.getElem?_cons_zero] at h0
  rw [List.getElem?_take_of_lt (by omega),List.getElem?_drop,Nat.add_zero,List.getElem?_eq_getElem (by omega)] at h0
  injection h0 with h0
  rw [←h0,←gd i (by omega)];exact h3 (by omega)
 ·intro x r hx
  have hl:=congrArg List.length hx
  rw [List.length_take,List.length_drop,List.length_append,List.length_singleton] at hl
  have h0:=congrArg (·[r.length]?) hx
  simp only [List.getElem?_append_right (Nat.le_refl _),Nat.sub_self,List.getElem?_cons_zero] at h0
  rw [List.getElem?_take_of_lt (by omega),List.getElem?_drop,List.getElem?_eq_getElem (by omega)] at h0
  injection h0 with h0
  rw [←h0,←gd (i+r.length) (by omega),show i+r.length=k - 1 by omega];exact h4 (by omega)
set_option maxHeartbeats 1000000 in
theorem q4trim_any (s:ByteArray) (w:World) (hs:s.size≤65536) :
  Calls Tryz.prog 127 #[.string s] w fun e w'=>e=.returned (.string (mk (trm (B s))))∧w=w':=by
 have hlen:=B_len s
 go_enter Tryz.func127,Tryz.ntmps127
 go_wp2
 go_loop [3] (fun i=>∃j:Nat,j≤s.size∧i=.int .i64 j∧(∀x,x < j→(B s).getD x 0=32)) (fun i=>s.size - (intOf i).toNat)
 case atStart=>exact ⟨0,Nat.zero_le _,rfl,fun x hx=>absurd hx (by omega)⟩
 case round=>
  obtain ⟨j,hj,rfl,h1⟩:=hrel
  have H1:=Lib.hid h1
  by_cases hb:j < s.size∧(B s).getD j 0=32
  ·obtain ⟨hlt,he⟩:=hb
   have hgd:=B_getD s j hlt
   have hd:((s[j].toNat:Int)==32)=true:=by rw [beq_iff_eq];omega
   have HE:=Lib.hid he
   clear h1 he hgd
   go_wp2
   go_round
   case rel=>exact ⟨j+1,by omega,by go_num,fun x hx=>by
    by_cases hx':x < j
    ·exact H1.out x hx'
    ·obtain rfl:x=j:=by omega
     exact HE.out⟩
   case measure=>first|(simp [intOf];omega)|simp [intOf]
  ·have H3:=Lib.hid (show j < s.size→(B s).getD j 0≠32 from fun hlt he=>hb ⟨hlt,he⟩)
   clear h1 hb
   by_cases hlt:j < s.size
   ·have hgd:=B_getD s j hlt
    have hne:=H3.out hlt
    have hd:((s[j].toNat:Int)==32)=false:=by rw [beq_eq_false_iff_ne];omega
    clear hgd hne
    go_wp2
    go_loop [4] (fun i=>∃k:Nat,j≤k∧k≤s.size∧i=.int .i64 k∧(∀x,k≤x→x < s.size→(B s).getD x 0=32)) (fun i=>(intOf i).toNat)
    case atStart=>exact ⟨s.size,hj,Nat.le_refl _,rfl,fun x hx hx'=>absurd hx (by omega)⟩
    case round=>
     obtain ⟨k,hjk,hks,rfl,h2⟩:=hrel
     have H2:=Lib.hid h2
     by_cases hb:j < k∧(B s).getD (k - 1) 0=32
     ·obtain ⟨hlt2,he⟩:=hb
      obtain ⟨q,rfl⟩:∃q,k=q+1:=⟨k - 1,by omega⟩
      rw [Nat.add_sub_cancel] at he
      have hq:q < s.size:=by omega
      have hgd:=B_getD s q hq
      have hd2:((s[q].toNat:Int)==32)=true:=by rw [beq_iff_eq];omega
      have HE:=Lib.hid he
      clear h2 he hgd
      go_wp2
      go_round
      case rel=>exact ⟨q,by omega,by omega,by go_num,fun x hx hx'=>by
       by_cases hx2:x=q
       ·subst hx2;exact HE.out
       ·exact H2.out x (by omega) hx'⟩
      case measure=>first|(simp [intOf];omega)|simp [intOf]
     ·have X:=Lib.hid (trim_done (l:=B s) (i:=j) (k:=k) hjk (by rw [hlen];exact hks) H1.out (by rw [hlen];exact H2.out) (fun h=>H3.out (by omega)) (fun h e=>hb ⟨h,e⟩))
      by_cases hlt2:j < k
      ·obtain ⟨q,rfl⟩:∃q,k=q+1:=⟨k - 1,by omega⟩
       have hq:q < s.size:=by omega
       have hgd:=B_getD s q hq
       have hne:¬(B s).getD q 0=32:=fun e=>hb ⟨hlt2,by rw [Nat.add_sub_cancel];exact e⟩
       have hd2:((s[q].toNat:Int)==32)=false:=by rw [beq_eq_false_iff_ne];omega
       clear h2 hb hgd hne
       go_wp2
       go_ret
       exact ⟨by rw [←X.out,←B_extract,mk_B];try rfl,rfl⟩
      ·obtain rfl:k=j:=by omega
       have X0:mk (trm (B s))=ByteArray.empty:=by rw [←X.out,Nat.sub_self,List.take_zero];rfl
       clear h2 hb X
       go_wp2
       go_ret
       exact ⟨rfl,rfl⟩
   ·obtain rfl:j=s.size:=by omega
    have X:=Lib.hid (trim_done (l:=B s) (i:=s.size) (k:=s.size) (Nat.le_refl _) (by rw [hlen];exact Nat.le_refl _) H1.out (fun j h1 h2=>absurd h2 (by rw [hlen];omega)) (fun h=>absurd h (by omega)) (fun h=>absurd h (by omega)))
    have X0:mk (trm (B s))=ByteArray.empty:=by rw [←X.out,Nat.sub_self,List.take_zero];rfl
    clear X H1 H3
    go_wp2
    refine wp_loop_rounds 1 ?_
    rw [rounds_succ]
    go_wp2
    go_ret
    exact ⟨by first|rfl|(rw [X0];rfl),rfl⟩
theorem sEqR (s:ByteArray) (m:List UInt8) (l:List Nat) (e:m=l.map UInt8.ofNat) (hl:∀c ∈ l,c < 256):(m==s.toList)=decide (B s=l):=by
 have:=sEqL s m l e hl
 rw [Bool.eq_iff_iff] at this ⊢
 simp only [beq_iff_eq] at this ⊢
 exact ⟨fun h=>this.1 h.symm,fun h=>(this.2 h).symm⟩
theorem q3sign_is {op:Int} {x:ByteArray} (h:mk (signL op)=x) (w:World):Calls Tryz.prog 190 #[.int .i64 op] w fun e w'=>e=.returned (.string x)∧w=w':=by
 rw [←h];exact q3sign_any op w
theorem q3op_any (s:ByteArray) (w:World):Calls Tryz.prog 179 #[.string s] w fun e w'=>e=.returned (.tuple #[.int .i64 (opI (B s)),.bool (decide (opI (B s)≠0))])∧w=w':=by
 have q0:(([60,60]:List UInt8)==s.toList)=decide (B s=[60,60]):=sEqR s [60,60] [60,60] rfl (by decide)
 have q1:(([60,61]:List UInt8)==s.toList)=decide (B s=[60,61]):=sEqR s [60,61] [60,61] rfl (by decide)
 have q2:(([61]:List UInt8)==s.toList)=decide (B s=[61]):=sEqR s [61] [61] rfl (by decide)
 have q3:(([62,61]:List UInt8)==s.toList)=decide (B s=[62,61]):=sEqR s [62,61] [62,61] rfl (by decide)
 have q4:(([62,62]:List UInt8)==s.toList)=decide (B s=[62,62]):=sEqR s [62,62] [62,62] rfl (by decide)
 have K0:=Lib.hid (q3sign_is (op:=1) (x:={ data:=#[60,60] }) rfl)
 have K1:=Lib.hid (q3sign_is (op:=2) (x:={ data:=#[60,61] }) rfl)
 have K2:=Lib.hid (q3sign_is (op:=3) (x:={ data:=#[61] }) rfl)
 have K3:=Lib.hid (q3sign_is (op:=4) (x:={ data:=#[62,61] }) rfl)
 have K4:=Lib.hid (q3sign_is (op:=5) (x:={ data:=#[62,62] }) rfl)
 have X:=Lib.hid (show opI (B s)=if B s=[60,60] then 1 else if B s=[60,61] then 2 else if B s=[61] then 3 else if B s=[62,61] then 4 else if B s=[62,62] then 5 else 0 from rfl)
 generalize B s=b at *
 have five:∀r:Int,opI b=r→(r=1∧decide (b=[60,60])=true∨r=2∧decide (b=[60,60])=false∧decide (b=[60,61])=true∨r=3∧decide (b=[60,60])=false∧decide (b=[60,61])=false∧decide (b=[61])=true∨
   r=4∧decide (b=[60,60])=false∧decide (b=[60,61])=false∧decide (b=[61])=false∧decide (b=[62,61])=true∨r=5∧decide (b=[60,60])=false∧decide (b=[60,61])=false∧decide (b=[61])=false∧decide (b=[62,61])=false∧decide (b=[62,62])=true∨
   r=0∧decide (b=[60,60])=false∧decide (b=[60,61])=false∧decide (b=[61])=false∧decide (b=[62,61])=false∧decide (b=[62,62])=false):=by
  intro r hr
  rw [X.out] at hr
  simp only [decide_eq_true_eq,decide_eq_false_iff_not]
  repeat' split at hr
  all_goals simp_all
 obtain ⟨r,hr⟩:∃r,opI b=r:=⟨_,rfl⟩
 have h5:=five r hr
 rw [hr]
 clear X five hr
 rcases h5 with ⟨rfl,a0⟩|⟨rfl,a0,a1⟩|⟨rfl,a0,a1,a2⟩|⟨rfl,a0,a1,a2,a3⟩|⟨rfl,a0,a1,a2,a3,a4⟩|⟨rfl,a0,a1,a2,a3,a4⟩
 ·rw [a0] at q0
  clear a0
  go_enter Tryz.func179,Tryz.ntmps179
  go_wp2
  go_loop [4] (fun x=>∃k:Nat,k≤0∧x=.int .i64 ((k:Int)+1)) (fun x=>6 - (intOf x).toNat)
  case atStart=>exact ⟨0,Nat.zero_le _,rfl⟩
  case round=>
   obtain ⟨k,hk,rfl⟩:=hrel
   have hk':k=0:=by omega
   clear hk
   obtain rfl:=hk'
   ·go_wp2_with fail
    refine (K0.out _).mono ?_
    rintro e' w' ⟨rfl,rfl⟩
    go_wp2
    go_ret2
    exact ⟨rfl,rfl⟩
 ·rw [a0] at q0
  rw [a1] at q1
  clear a0 a1
  go_enter Tryz.func179,Tryz.ntmps179
  go_wp2
  go_loop [4] (fun x=>∃k:Nat,k≤1∧x=.int .i64 ((k:Int)+1)) (fun x=>6 - (intOf x).toNat)
  case atStart=>exact ⟨0,Nat.zero_le _,rfl⟩
  case round=>
   obtain ⟨k,hk,rfl⟩:=hrel
   have hk':k=0∨k=1:=by omega
   clear hk
   rcases hk' with rfl|rfl
   ·go_wp2_with fail
    refine (K0.out _).mono ?_
    rintro e' w' ⟨rfl,rfl⟩
    go_wp2
    go_round
    case rel=>exact ⟨1,by omega,by go_num⟩
    case measure=>simp [intOf]
   ·go_wp2_with fail
    refine (K1.out _).mono ?_
    rintro e' w' ⟨rfl,rfl⟩
    go_wp2
    go_ret2
    exact ⟨rfl,rfl⟩
 ·rw [a0] at q0
  rw [a1] at q1
  rw [a2] at q2
  clear a0 a1 a2
  go_enter Tryz.func179,Tryz.ntmps179
  go_wp2
  go_loop [4] (fun x=>∃k:Nat,k≤2∧x=.int .i64 ((k:Int)+1)) (fun x=>6 - (intOf x).toNat)
  case atStart=>exact ⟨0,Nat.zero_le _,rfl⟩
  case round=>
   obtain ⟨k,hk,rfl⟩:=hrel
   have hk':k=0∨k=1∨k=2:=by omega
   clear hk
   rcases hk' with rfl|rfl|rfl
   ·go_wp2_with fail
    refine (K0.out _).mono ?_
    rintro e' w' ⟨rfl,rfl⟩
    go_wp2
    go_round
    case rel=>exact ⟨1,by omega,by go_num⟩
    case measure=>simp [intOf]
   ·go_wp2_with fail
    refine (K1.out _).mono ?_
    rintro e' w' ⟨rfl,rfl⟩
    go_wp2
    go_round
    case rel=>exact ⟨2,by omega,by go_num⟩
    case measure=>simp [intOf]
   ·go_wp2_with fail
    refine (K2.out _).mono ?_
    rintro e' w' ⟨rfl,rfl⟩
    go_wp2
    go_ret2
    exact ⟨rfl,rfl⟩
 ·rw [a0] at q0
  rw [a1] at q1
  rw [a2] at q2
  rw [a3] at q3
  clear a0 a1 a2 a3
  go_enter Tryz.func179,Tryz.ntmps179
  go_wp2
  go_loop [4] (fun x=>∃k:Nat,k≤3∧x=.int .i64 ((k:Int)+1)) (fun x=>6 - (intOf x).toNat)
  case atStart=>exact ⟨0,Nat.zero_le _,rfl⟩
  case round=>
   obtain ⟨k,hk,rfl⟩:=hrel
   have hk':k=0∨k=1∨k=2∨k=3:=by omega
   clear hk
   rcases hk' with rfl|rfl|rfl|rfl
   ·go_wp2_with fail
    refine (K0.out _).mono ?_
    rintro e' w' ⟨rfl,rfl⟩
    go_wp2
    go_round
    case rel=>exact ⟨1,by omega,by go_num⟩
    case measure=>simp [intOf]
   ·go_wp2_with fail
    refine (K1.out _).mono ?_
    rintro e' w' ⟨rfl,rfl⟩
    go_wp2
    go_round
    case rel=>exact ⟨2,by omega,by go_num⟩
    case measure=>simp [intOf]
   ·go_wp2_with fail
    refine (K2.out _).mono ?_
    rintro e' w' ⟨rfl,rfl⟩
    go_wp2
    go_round
    case rel=>exact ⟨3,by omega,by go_num⟩
    case measure=>simp [intOf]
   ·go_wp2_with fail
    refine (K3.out _).mono ?_
    rintro e' w' ⟨rfl,rfl⟩
    go_wp2
    go_ret2
    exact ⟨rfl,rfl⟩
 ·rw [a0] at q0
  rw [a1] at q1
  rw [a2] at q2
  rw [a3] at q3
  rw [a4] at q4
  clear a0 a1 a2 a3 a4
  go_enter Tryz.func179,Tryz.ntmps179
  go_wp2
  go_loop [4] (fun x=>∃k:Nat,k≤4∧x=.int .i64 ((k:Int)+1)) (fun x=>6 - (intOf x).toNat)
  case atStart=>exact ⟨0,Nat.zero_le _,rfl⟩
  case round=>
   obtain ⟨k,hk,rfl⟩:=hrel
   have hk':k=0∨k=1∨k=2∨k=3∨k=4:=by omega
   clear hk
   rcases hk' with rfl|rfl|rfl|rfl|rfl
   ·go_wp2_with fail
    refine (K0.out _).mono ?_
    rintro e' w' ⟨rfl,rfl⟩
    go_wp2
    go_round
    case rel=>exact ⟨1,by omega,by go_num⟩
    case measure=>simp [intOf]
   ·go_wp2_with fail
    refine (K1.out _).mono ?_
    rintro e' w' ⟨rfl,rfl⟩
    go_wp2
    go_round
    case rel=>exact ⟨2,by omega,by go_num⟩
    case measure=>simp [intOf]
   ·go_wp2_with fail
    refine (K2.out _).mono ?_
    rintro e' w' ⟨rfl,rfl⟩
    go_wp2
    go_round
    case rel=>exact ⟨3,by omega,by go_num⟩
    case measure=>simp [intOf]
   ·go_wp2_with fail
    refine (K3.out _).mono ?_
    rintro e' w' ⟨rfl,rfl⟩
    go_wp2
    go_round
    case rel=>exact ⟨4,by omega,by go_num⟩
    case measure=>simp [intOf]
   ·go_wp2_with fail
    refine (K4.out _).mono ?_
    rintro e' w' ⟨rfl,rfl⟩
    go_wp2
    go_ret2
    exact ⟨rfl,rfl⟩
 ·rw [a0] at q0
  rw [a1] at q1
  rw [a2] at q2
  rw [a3] at q3
  rw [a4] at q4
  clear a0 a1 a2 a3 a4
  go_enter Tryz.func179,Tryz.ntmps179
  go_wp2
  go_loop [4] (fun x=>∃k:Nat,k≤5∧x=.int .i64 ((k:Int)+1)) (fun x=>6 - (intOf x).toNat)
  case atStart=>exact ⟨0,Nat.zero_le _,rfl⟩
  case round=>
   obtain ⟨k,hk,rfl⟩:=hrel
   have hk':k=0∨k=1∨k=2∨k=3∨k=4∨k=5:=by omega
   clear hk
   rcases hk' with rfl|rfl|rfl|rfl|rfl|rfl
   ·go_wp2_with fail
    refine (K0.out _).mono ?_
    rintro e' w' ⟨rfl,rfl⟩
    go_wp2
    go_round
    case rel=>exact ⟨1,by omega,by go_num⟩
    case measure=>simp [intOf]
   ·go_wp2_with fail
    refine (K1.out _).mono ?_
    rintro e' w' ⟨rfl,rfl⟩
    go_wp2
    go_round
    case rel=>exact ⟨2,by omega,by go_num⟩
    case measure=>simp [intOf]
   ·go_wp2_with fail
    refine (K2.out _).mono ?_
    rintro e' w' ⟨rfl,rfl⟩
    go_wp2
    go_round
    case rel=>exact ⟨3,by omega,by go_num⟩
    case measure=>simp [intOf]
   ·go_wp2_with fail
    refine (K3.out _).mono ?_
    rintro e' w' ⟨rfl,rfl⟩
    go_wp2
    go_round
    case rel=>exact ⟨4,by omega,by go_num⟩
    case measure=>simp [intOf]
   ·go_wp2_with fail
    refine (K4.out _).mono ?_
    rintro e' w' ⟨rfl,rfl⟩
    go_wp2
    go_round
    case rel=>exact ⟨5,by omega,by go_num⟩
    case measure=>simp [intOf]
   ·go_wp2
    go_ret2
    exact ⟨rfl,rfl⟩
theorem cut_found {s:ByteArray} {k:Nat} (hk:k < s.size) (hc:s[k].toNat=32) (hno:∀j,j < k→(B s).getD j 0≠32):s.extract 0 k=mk (cutN (B s))∧s.extract (k+1) s.size=mk (cutR (B s))∧cutH (B s)=true:=by
 have hl:B s=(B s).take k++32::(B s).drop (k+1):=by
  have h2:=B_drop s k hk
  rw [hc] at h2
  rw [←h2,List.take_append_drop]
 have hn:∀c ∈ (B s).take k,c≠32:=by
  intro c hc2
  obtain ⟨j,hj,e⟩:=List.getElem_of_mem hc2
  rw [List.length_take,B_len] at hj
  have:=hno j (by omega)
  rw [List.getElem_take] at e
  rwa [List.getD_eq_getElem?_getD,List.getElem?_eq_getElem (by rw [B_len];omega),Option.getD_some,e] at this
 obtain ⟨a,b,c⟩:=cut_at (r:=(B s).drop (k+1)) hn
 rw [←hl] at a b c
 exact ⟨by rw [a];exact ext_take,by rw [b];exact ext_drop,c⟩
theorem cut_none3 {s:ByteArray} (hno:∀j,j < s.size→(B s).getD j 0≠32):mk (cutN (B s))=s∧mk (cutR (B s))={ data:=#[] }∧cutH (B s)=false:=by
 have hn:∀c ∈ B s,c≠32:=by
  intro c hc2
  obtain ⟨j,hj,e⟩:=List.getElem_of_mem hc2
  rw [B_len] at hj
  have:=hno j hj
  rwa [List.getD_eq_getElem?_getD,List.getElem?_eq_getElem (by rw [B_len];omega),Option.getD_some,e] at this
 obtain ⟨a,b,c⟩:=cut_no hn
 exact ⟨by rw [a,mk_B],by rw [b];rfl,c⟩
theorem q3cut_any (s:ByteArray) (w:World) (hs:s.size≤65536):Calls Tryz.prog 178 #[.string s] w fun e w'=>e=.returned (.tuple #[.string (mk (cutN (B s))),.string (mk (cutR (B s))),.bool (cutH (B s))])∧∃n,w'=w.drewN n:=by
 go_enter Tryz.func178,Tryz.ntmps178
 go_wp2
 go_loop [5] (fun x=>∃k:Nat,k≤s.size∧x=.int .i64 k∧∀j,j < k→(B s).getD j 0≠32) (fun x=>s.size - (intOf x).toNat)
 case atStart=>exact ⟨0,Nat.zero_le _,rfl,fun j hj=>by omega⟩
 case round=>
  obtain ⟨k,hk,rfl,hno⟩:=hrel
  have HN:=Lib.hid hno
  clear hno
  by_cases hlt:k < s.size
  ·by_cases hc:s[k].toNat=32
   ·have X:=Lib.hid (cut_found hlt hc HN.out)
    have t1:((s[k].toNat:Int)==32)=true:=by rw [beq_iff_eq];omega
    have z0:(0:Int)≤(k:Int):=by omega
    clear hc
    go_wp2
    go_quiet (fail)
    go_wp2
    go_ret3
    exact ⟨by rw [←X.out.1,←X.out.2.1,X.out.2.2];rfl,_,rfl⟩
   ·have t1:((s[k].toNat:Int)==32)=false:=by rw [beq_eq_false_iff_ne];omega
    have HC:=Lib.hid (show (B s).getD k 0≠32 by rw [B_getD s k hlt];exact hc)
    clear hc
    go_wp2
    go_round
    case rel=>exact ⟨k+1,by omega,by go_num,fun j hj=>by rcases (by omega:j < k∨j=k) with h|rfl;exact HN.out j h;exact HC.out⟩
    case measure=>simp [intOf];omega
  ·have X:=Lib.hid (cut_none3 (s:=s) (fun j hj=>HN.out j (by omega)))
   go_wp2
   go_ret3
   exact ⟨by rw [X.out.1,X.out.2.1,X.out.2.2];rfl,0,rfl⟩
theorem q3cut_is {s:ByteArray} {a b:ByteArray} {h:Bool} (h1:mk (cutN (B s))=a) (h2:mk (cutR (B s))=b) (h3:cutH (B s)=h) (hs:s.size≤65536) (w:World) :
  Calls Tryz.prog 178 #[.string s] w fun e w'=>e=.returned (.tuple #[.string a,.string b,.bool h])∧∃n,w'=w.drewN n:=by
 rw [←h1,←h2,←h3];exact q3cut_any s w hs
theorem form_of {r:ByteArray} (h:2≤r.size) (h0:r[0].toNat=40) (h1:(r[r.size - 1]'(by omega)).toNat=41) :
  formB (B r)=(cutH (inL (B r))&&decide (opI (cutN (inL (B r)))≠0))∧B (r.extract 1 (r.size - 1))=inL (B r):=by
 have hl:2≤(B r).length:=by rw [B_len];exact h
 have g0:(B r).getD 0 0=40:=by rw [B_getD r 0 (by omega)];exact h0
 have g1:(B r).getD ((B r).length - 1) 0=41:=by rw [B_len,B_getD r (r.size - 1) (by omega)];exact h1
 refine ⟨?_,?_⟩
 ·unfold formB;rw [decide_eq_true hl,decide_eq_true g0,decide_eq_true g1];rfl
 ·have hf:=form_is hl g0 g1
  have hz:=congrArg List.length hf
  rw [B_len] at hz
  simp only [List.length_cons,List.length_append,List.length_nil] at hz
  rw [B_extract,show r.size - 1 - 1=(inL (B r)).length by omega]
  conv=>lhs;rw [hf]
  simp only [List.drop_succ_cons,List.drop_zero,inL_of]
  simp
set_option maxHeartbeats 4000000 in
theorem q3parse_any (s:ByteArray) (w:World) (hs:s.size≤65536):Calls Tryz.prog 126 #[.string s] w fun e w'=>e=.returned (relVal s)∧Below w.heap.size w w':=by
 obtain ⟨nm,hnm⟩:∃nm,mk (cutN (B s))=nm:=⟨_,rfl⟩
 obtain ⟨rs,hrs⟩:∃rs,mk (cutR (B s))=rs:=⟨_,rfl⟩
 have hBN:B nm=cutN (B s):=by rw [←hnm];exact B_mk (cutN_lt (B_lt s))
 have hBR:B rs=cutR (B s):=by rw [←hrs];exact B_mk (cutR_lt (B_lt s))
 have zN:nm.size≤65536:=by rw [←B_len,hBN];have:=cutN_len (B s);rw [B_len] at this;omega
 have zR:rs.size≤65536:=by rw [←B_len,hBR];have:=cutR_len (B s);rw [B_len] at this;omega
 have KC:=Lib.hid (fun w=>q3cut_is hnm hrs rfl hs w)
 have KN:=Lib.hid (fun w=>q3name_any nm w zN)
 rw [hBN] at KN
 cases hn:nameB (cutN (B s))
 ·have X:=Lib.hid (relV_bad (s:=s) (e:=3) (by unfold relE;rw [hn];rfl) (by decide))
  rw [hn] at KN
  clear hBN hBR zN zR hn hnm hrs
  generalize cutH (B s)=ch at *
  go_enter Tryz.func126,Tryz.ntmps126
  go_wp2_with fail
  refine (KC.out _).mono ?_
  rintro e' w' ⟨rfl,n,rfl⟩
  have B1:=Lib.hid (bel_d (bel_box w (.cells #[.string { data:=#[] },.int .i64 0,.string { data:=#[] }] 109)) n)
  obtain ⟨V,hV⟩:∃V,V=(w.alloc (.cells #[.string { data:=#[] },.int .i64 0,.string { data:=#[] }] 109)).drewN n:=⟨_,rfl⟩
  have c0:V.cell? ⟨w.heap.size,0,none⟩=some (.string { data:=#[] }):=by rw [hV];simp [go_sem]
  have c1:V.cell? ⟨w.heap.size,1,none⟩=some (.int .i64 0):=by rw [hV];simp [go_sem]
  have c2:V.cell? ⟨w.heap.size,2,none⟩=some (.string { data:=#[] }):=by rw [hV];simp [go_sem]
  have f0:V.frozen? ⟨w.heap.size,0,none⟩=false:=by rw [hV];simp [go_sem]
  have f1:V.frozen? ⟨w.heap.size,1,none⟩=false:=by rw [hV];simp [go_sem]
  have f2:V.frozen? ⟨w.heap.size,2,none⟩=false:=by rw [hV];simp [go_sem]
  have s1:w.heap.size+1≤V.heap.size:=by rw [hV];simp
  rw [←hV] at B1 ⊢
  clear hV
  go_wp2_with fail
  refine (KN.out _).mono ?_
  rintro e' w' ⟨rfl,rfl⟩
  go_wp2
  obtain ⟨k0,k1,k2,bW⟩:=fin3 (x:=.string { data:=#[] }) (y:=.int .i64 0) (z:=.string { data:=#[] }) B1.out c0 c1 c2
  exact bodyPost_ret (v:=.tuple #[.agg #[.string { data:=#[] },.int .i64 0,.string { data:=#[] }],.int .i64 3]) (by simp [results,Tryz.results126,go_sem,k0,k1,k2]) rfl ⟨by rw [X.out],bW⟩
 rw [hn] at KN
 cases hc:cutH (B s)
 ·have X:=Lib.hid (relV_bare hn hc)
  rw [hnm] at X
  rw [hc] at KC
  clear hBN hBR zN hn hc hnm hrs
  go_enter Tryz.func126,Tryz.ntmps126
  go_wp2_with fail
  refine (KC.out _).mono ?_
  rintro e' w' ⟨rfl,n,rfl⟩
  have B1:=Lib.hid (bel_d (bel_box w (.cells #[.string { data:=#[] },.int .i64 0,.string { data:=#[] }] 109)) n)
  obtain ⟨V,hV⟩:∃V,V=(w.alloc (.cells #[.string { data:=#[] },.int .i64 0,.string { data:=#[] }] 109)).drewN n:=⟨_,rfl⟩
  have c0:V.cell? ⟨w.heap.size,0,none⟩=some (.string { data:=#[] }):=by rw [hV];simp [go_sem]
  have c1:V.cell? ⟨w.heap.size,1,none⟩=some (.int .i64 0):=by rw [hV];simp [go_sem]
  have c2:V.cell? ⟨w.heap.size,2,none⟩=some (.string { data:=#[] }):=by rw [hV];simp [go_sem]
  have f0:V.frozen? ⟨w.heap.size,0,none⟩=false:=by rw [hV];simp [go_sem]
  have f1:V.frozen? ⟨w.heap.size,1,none⟩=false:=by rw [hV];simp [go_sem]
  have f2:V.frozen? ⟨w.heap.size,2,none⟩=false:=by rw [hV];simp [go_sem]
  have s1:w.heap.size+1≤V.heap.size:=by rw [hV];simp
  rw [←hV] at B1 ⊢
  clear hV
  go_wp2_with fail
  refine (KN.out _).mono ?_
  rintro e' w' ⟨rfl,rfl⟩
  go_wp2
  obtain ⟨k0,k1,k2,bW⟩:=fin3 (x:=.string nm) (y:=.int .i64 0) (z:=.string { data:=#[] }) B1.out c0 c1 c2
  exact bodyPost_ret (v:=.tuple #[.agg #[.string nm,.int .i64 0,.string { data:=#[] }],.int .i64 0]) (by simp [results,Tryz.results126,go_sem,k0,k1,k2]) rfl ⟨by rw [X.out],bW⟩
 rw [hc] at KC
 by_cases h2:2≤rs.size
 ·have j2:(2:Int)≤rs.size:=by omega
  by_cases h0:rs[0].toNat=40
  ·have t0:((rs[0].toNat:Int) != 40)=false:=by rw [bne_eq_false_iff_eq];omega
   have hlt1:rs.size - 1 < rs.size:=by omega
   by_cases h1:(rs[rs.size - 1]'hlt1).toNat=41
   ·have t1:(((rs[rs.size - 1]'hlt1).toNat:Int) != 41)=false:=by rw [bne_eq_false_iff_eq];omega
    obtain ⟨HF,hI⟩:=form_of h2 h0 h1
    rw [hBR] at HF hI
    have zI:(rs.extract 1 (rs.size - 1)).size≤65536:=by rw [ByteArray.size_extract];omega
    obtain ⟨sg,hsg⟩:∃sg,mk (cutN (B (rs.extract 1 (rs.size - 1))))=sg:=⟨_,rfl⟩
    obtain ⟨vv,hvv⟩:∃vv,mk (cutR (B (rs.extract 1 (rs.size - 1))))=vv:=⟨_,rfl⟩
    have KI:=Lib.hid (fun w=>q3cut_is hsg hvv rfl zI w)
    have KO:=Lib.hid (fun w=>q3op_any sg w)
    have hBS:B sg=cutN (inL (cutR (B s))):=by rw [←hsg,hI];exact B_mk (fun c hc=>B_lt s c (cutR_mem (inL_mem (cutN_mem hc))))
    have hBV:B vv=verL (cutR (B s)):=by rw [←hvv,hI];exact B_mk (fun c hc=>B_lt s c (cutR_mem (inL_mem (cutR_mem hc))))
    have hvm:mk (verL (cutR (B s)))=vv:=by rw [←hBV,mk_B]
    rw [hBS] at KO
    rw [hI] at KI
    have KP:=Lib.hid (fun w=>q3plain_any vv w)
    rw [hBV] at KP
    cases hh:cutH (inL (cutR (B s)))
    ·rw [hh,Bool.false_and] at HF
     have X:=Lib.hid (relV_bad (s:=s) (e:=5) (by unfold relE;rw [if_pos hn,if_pos hc,if_neg (by rw [HF];decide)]) (by decide))
     rw [hh] at KI
     generalize opI (cutN (inL (cutR (B s))))=o at *
     generalize decide (o≠0)=ob at *
     clear hBN hBR zN hn hc hnm hrs h0 h1 hI zI hsg hvv hBS hBV hvm hh HF KP
     go_enter Tryz.func126,Tryz.ntmps126
     go_wp2_with fail
     refine (KC.out _).mono ?_
     rintro e' w' ⟨rfl,n,rfl⟩
     have B1:=Lib.hid (bel_d (bel_box w (.cells #[.string { data:=#[] },.int .i64 0,.string { data:=#[] }] 109)) n)
     obtain ⟨V,hV⟩:∃V,V=(w.alloc (.cells #[.string { data:=#[] },.int .i64 0,.string { data:=#[] }] 109)).drewN n:=⟨_,rfl⟩
     have c0:V.cell? ⟨w.heap.size,0,none⟩=some (.string { data:=#[] }):=by rw [hV];simp [go_sem]
     have c1:V.cell? ⟨w.heap.size,1,none⟩=some (.int .i64 0):=by rw [hV];simp [go_sem]
     have c2:V.cell? ⟨w.heap.size,2,none⟩=some (.string { data:=#[] }):=by rw [hV];simp [go_sem]
     have f0:V.frozen? ⟨w.heap.size,0,none⟩=false:=by rw [hV];simp [go_sem]
     have f1:V.frozen? ⟨w.heap.size,1,none⟩=false:=by rw [hV];simp [go_sem]
     have f2:V.frozen? ⟨w.heap.size,2,none⟩=false:=by rw [hV];simp [go_sem]
     have s1:w.heap.size+1≤V.heap.size:=by rw [hV];simp
     rw [←hV] at B1 ⊢
     clear hV
     go_wp2_with fail
     refine (KN.out _).mono ?_
     rintro e' w' ⟨rfl,rfl⟩
     go_wp2_with fail
     refine (KI.out _).mono ?_
     rintro e' w' ⟨rfl,m,rfl⟩
     have B2:=Lib.hid (bel_d B1.out m)
     obtain ⟨V2,hV2⟩:∃V2,V2=V.drewN m:=⟨_,rfl⟩
     replace c0:V2.cell? ⟨w.heap.size,0,none⟩=some (.string { data:=#[] }):=by rw [hV2];exact c0
     replace c1:V2.cell? ⟨w.heap.size,1,none⟩=some (.int .i64 0):=by rw [hV2];exact c1
     replace c2:V2.cell? ⟨w.heap.size,2,none⟩=some (.string { data:=#[] }):=by rw [hV2];exact c2
     replace f0:V2.frozen? ⟨w.heap.size,0,none⟩=false:=by rw [hV2];exact f0
     replace f1:V2.frozen? ⟨w.heap.size,1,none⟩=false:=by rw [hV2];exact f1
     replace f2:V2.frozen? ⟨w.heap.size,2,none⟩=false:=by rw [hV2];exact f2
     replace s1:w.heap.size+1≤V2.heap.size:=by rw [hV2];exact s1
     rw [←hV2] at B2 ⊢
     clear hV2
     go_wp2_with fail
     refine (KO.out _).mono ?_
     rintro e' w' ⟨rfl,rfl⟩
     go_wp2
     obtain ⟨k0,k1,k2,bW⟩:=fin3 (x:=.string { data:=#[] }) (y:=.int .i64 0) (z:=.string { data:=#[] }) B2.out c0 c1 c2
     exact bodyPost_ret (v:=.tuple #[.agg #[.string { data:=#[] },.int .i64 0,.string { data:=#[] }],.int .i64 5]) (by simp [results,Tryz.results126,go_sem,k0,k1,k2]) rfl ⟨by rw [X.out],bW⟩
    by_cases ho:opI (cutN (inL (cutR (B s))))=0
    ·rw [hh,decide_eq_false (p:=opI (cutN (inL (cutR (B s))))≠0) (by simpa using ho),Bool.and_false] at HF
     have X:=Lib.hid (relV_bad (s:=s) (e:=5) (by unfold relE;rw [if_pos hn,if_pos hc,if_neg (by rw [HF];decide)]) (by decide))
     rw [hh] at KI
     rw [decide_eq_false (p:=opI (cutN (inL (cutR (B s))))≠0) (by simpa using ho)] at KO
     generalize opI (cutN (inL (cutR (B s))))=o at *
     clear hBN hBR zN hn hc hnm hrs h0 h1 hI zI hsg hvv hBS hBV hvm hh HF KP ho
     go_enter Tryz.func126,Tryz.ntmps126
     go_wp2_with fail
     refine (KC.out _).mono ?_
     rintro e' w' ⟨rfl,n,rfl⟩
     have B1:=Lib.hid (bel_d (bel_box w (.cells #[.string { data:=#[] },.int .i64 0,.string { data:=#[] }] 109)) n)
     obtain ⟨V,hV⟩:∃V,V=(w.alloc (.cells #[.string { data:=#[] },.int .i64 0,.string { data:=#[] }] 109)).drewN n:=⟨_,rfl⟩
     have c0:V.cell? ⟨w.heap.size,0,none⟩=some (.string { data:=#[] }):=by rw [hV];simp [go_sem]
     have c1:V.cell? ⟨w.heap.size,1,none⟩=some (.int .i64 0):=by rw [hV];simp [go_sem]
     have c2:V.cell? ⟨w.heap.size,2,none⟩=some (.string { data:=#[] }):=by rw [hV];simp [go_sem]
     have f0:V.frozen? ⟨w.heap.size,0,none⟩=false:=by rw [hV];simp [go_sem]
     have f1:V.frozen? ⟨w.heap.size,1,none⟩=false:=by rw [hV];simp [go_sem]
     have f2:V.frozen? ⟨w.heap.size,2,none⟩=false:=by rw [hV];simp [go_sem]
     have s1:w.heap.size+1≤V.heap.size:=by rw [hV];simp
     rw [←hV] at B1 ⊢
     clear hV
     go_wp2_with fail
     refine (KN.out _).mono ?_
     rintro e' w' ⟨rfl,rfl⟩
     go_wp2_with fail
     refine (KI.out _).mono ?_
     rintro e' w' ⟨rfl,m,rfl⟩
     have B2:=Lib.hid (bel_d B1.out m)
     obtain ⟨V2,hV2⟩:∃V2,V2=V.drewN m:=⟨_,rfl⟩
     replace c0:V2.cell? ⟨w.heap.size,0,none⟩=some (.string { data:=#[] }):=by rw [hV2];exact c0
     replace c1:V2.cell? ⟨w.heap.size,1,none⟩=some (.int .i64 0):=by rw [hV2];exact c1
     replace c2:V2.cell? ⟨w.heap.size,2,none⟩=some (.string { data:=#[] }):=by rw [hV2];exact c2
     replace f0:V2.frozen? ⟨w.heap.size,0,none⟩=false:=by rw [hV2];exact f0
     replace f1:V2.frozen? ⟨w.heap.size,1,none⟩=false:=by rw [hV2];exact f1
     replace f2:V2.frozen? ⟨w.heap.size,2,none⟩=false:=by rw [hV2];exact f2
     replace s1:w.heap.size+1≤V2.heap.size:=by rw [hV2];exact s1
     rw [←hV2] at B2 ⊢
     clear hV2
     go_wp2_with fail
     refine (KO.out _).mono ?_
     rintro e' w' ⟨rfl,rfl⟩
     go_wp2
     obtain ⟨k0,k1,k2,bW⟩:=fin3 (x:=.string { data:=#[] }) (y:=.int .i64 0) (z:=.string { data:=#[] }) B2.out c0 c1 c2
     exact bodyPost_ret (v:=.tuple #[.agg #[.string { data:=#[] },.int .i64 0,.string { data:=#[] }],.int .i64 5]) (by simp [results,Tryz.results126,go_sem,k0,k1,k2]) rfl ⟨by rw [X.out],bW⟩
    rw [hh,decide_eq_true (p:=opI (cutN (inL (cutR (B s))))≠0) (by simpa using ho),Bool.and_true] at HF
    rw [hh] at KI
    rw [decide_eq_true (p:=opI (cutN (inL (cutR (B s))))≠0) (by simpa using ho)] at KO
    cases hp:prB (verL (cutR (B s)))
    ·have X:=Lib.hid (relV_bad (s:=s) (e:=4) (by unfold relE;rw [if_pos hn,if_pos hc,if_pos HF,hp];rfl) (by decide))
     rw [hp] at KP
     generalize opI (cutN (inL (cutR (B s))))=o at *
     clear hBN hBR zN hn hc hnm hrs h0 h1 hI zI hsg hvv hBS hBV hvm hh HF ho hp
     go_enter Tryz.func126,Tryz.ntmps126
     go_wp2_with fail
     refine (KC.out _).mono ?_
     rintro e' w' ⟨rfl,n,rfl⟩
     have B1:=Lib.hid (bel_d (bel_box w (.cells #[.string { data:=#[] },.int .i64 0,.string { data:=#[] }] 109)) n)
     obtain ⟨V,hV⟩:∃V,V=(w.alloc (.cells #[.string { data:=#[] },.int .i64 0,.string { data:=#[] }] 109)).drewN n:=⟨_,rfl⟩
     have c0:V.cell? ⟨w.heap.size,0,none⟩=some (.string { data:=#[] }):=by rw [hV];simp [go_sem]
     have c1:V.cell? ⟨w.heap.size,1,none⟩=some (.int .i64 0):=by rw [hV];simp [go_sem]
     have c2:V.cell? ⟨w.heap.size,2,none⟩=some (.string { data:=#[] }):=by rw [hV];simp [go_sem]
     have f0:V.frozen? ⟨w.heap.size,0,none⟩=false:=by rw [hV];simp [go_sem]
     have f1:V.frozen? ⟨w.heap.size,1,none⟩=false:=by rw [hV];simp [go_sem]
     have f2:V.frozen? ⟨w.heap.size,2,none⟩=false:=by rw [hV];simp [go_sem]
     have s1:w.heap.size+1≤V.heap.size:=by rw [hV];simp
     rw [←hV] at B1 ⊢
     clear hV
     go_wp2_with fail
     refine (KN.out _).mono ?_
     rintro e' w' ⟨rfl,rfl⟩
     go_wp2_with fail
     refine (KI.out _).mono ?_
     rintro e' w' ⟨rfl,m,rfl⟩
     have B2:=Lib.hid (bel_d B1.out m)
     obtain ⟨V2,hV2⟩:∃V2,V2=V.drewN m:=⟨_,rfl⟩
     replace c0:V2.cell? ⟨w.heap.size,0,none⟩=some (.string { data:=#[] }):=by rw [hV2];exact c0
     replace c1:V2.cell? ⟨w.heap.size,1,none⟩=some (.int .i64 0):=by rw [hV2];exact c1
     replace c2:V2.cell? ⟨w.heap.size,2,none⟩=some (.string { data:=#[] }):=by rw [hV2];exact c2
     replace f0:V2.frozen? ⟨w.heap.size,0,none⟩=false:=by rw [hV2];exact f0
     replace f1:V2.frozen? ⟨w.heap.size,1,none⟩=false:=by rw [hV2];exact f1
     replace f2:V2.frozen? ⟨w.heap.size,2,none⟩=false:=by rw [hV2];exact f2
     replace s1:w.heap.size+1≤V2.heap.size:=by rw [hV2];exact s1
     rw [←hV2] at B2 ⊢
     clear hV2
     go_wp2_with fail
     refine (KO.out _).mono ?_
     rintro e' w' ⟨rfl,rfl⟩
     go_wp2_with fail
     refine (KP.out _).mono ?_
     rintro e' w3 ⟨rfl,hb⟩
     replace c0:=keep_cell hb c0
     replace c1:=keep_cell hb c1
     replace c2:=keep_cell hb c2
     replace f0:=keep_fr hb (by omega) f0
     replace f1:=keep_fr hb (by omega) f1
     replace f2:=keep_fr hb (by omega) f2
     have B3:=Lib.hid (bel_2 B2.out hb)
     clear hb
     go_wp2
     obtain ⟨k0,k1,k2,bW⟩:=fin3 (x:=.string { data:=#[] }) (y:=.int .i64 0) (z:=.string { data:=#[] }) B3.out c0 c1 c2
     exact bodyPost_ret (v:=.tuple #[.agg #[.string { data:=#[] },.int .i64 0,.string { data:=#[] }],.int .i64 4]) (by simp [results,Tryz.results126,go_sem,k0,k1,k2]) rfl ⟨by rw [X.out],bW⟩
    ·have X:=Lib.hid (relV_full hn hc HF hp)
     rw [hnm,hvm] at X
     rw [hp] at KP
     generalize opI (cutN (inL (cutR (B s))))=o at *
     clear hBN hBR zN hn hc hnm hrs h0 h1 hI zI hsg hvv hBS hBV hvm hh HF ho hp
     go_enter Tryz.func126,Tryz.ntmps126
     go_wp2_with fail
     refine (KC.out _).mono ?_
     rintro e' w' ⟨rfl,n,rfl⟩
     have B1:=Lib.hid (bel_d (bel_box w (.cells #[.string { data:=#[] },.int .i64 0,.string { data:=#[] }] 109)) n)
     obtain ⟨V,hV⟩:∃V,V=(w.alloc (.cells #[.string { data:=#[] },.int .i64 0,.string { data:=#[] }] 109)).drewN n:=⟨_,rfl⟩
     have c0:V.cell? ⟨w.heap.size,0,none⟩=some (.string { data:=#[] }):=by rw [hV];simp [go_sem]
     have c1:V.cell? ⟨w.heap.size,1,none⟩=some (.int .i64 0):=by rw [hV];simp [go_sem]
     have c2:V.cell? ⟨w.heap.size,2,none⟩=some (.string { data:=#[] }):=by rw [hV];simp [go_sem]
     have f0:V.frozen? ⟨w.heap.size,0,none⟩=false:=by rw [hV];simp [go_sem]
     have f1:V.frozen? ⟨w.heap.size,1,none⟩=false:=by rw [hV];simp [go_sem]
     have f2:V.frozen? ⟨w.heap.size,2,none⟩=false:=by rw [hV];simp [go_sem]
     have s1:w.heap.size+1≤V.heap.size:=by rw [hV];simp
     rw [←hV] at B1 ⊢
     clear hV
     go_wp2_with fail
     refine (KN.out _).mono ?_
     rintro e' w' ⟨rfl,rfl⟩
     go_wp2_with fail
     refine (KI.out _).mono ?_
     rintro e' w' ⟨rfl,m,rfl⟩
     have B2:=Lib.hid (bel_d B1.out m)
     obtain ⟨V2,hV2⟩:∃V2,V2=V.drewN m:=⟨_,rfl⟩
     replace c0:V2.cell? ⟨w.heap.size,0,none⟩=some (.string { data:=#[] }):=by rw [hV2];exact c0
     replace c1:V2.cell? ⟨w.heap.size,1,none⟩=some (.int .i64 0):=by rw [hV2];exact c1
     replace c2:V2.cell? ⟨w.heap.size,2,none⟩=some (.string { data:=#[] }):=by rw [hV2];exact c2
     replace f0:V2.frozen? ⟨w.heap.size,0,none⟩=false:=by rw [hV2];exact f0
     replace f1:V2.frozen? ⟨w.heap.size,1,none⟩=false:=by rw [hV2];exact f1
     replace f2:V2.frozen? ⟨w.heap.size,2,none⟩=false:=by rw [hV2];exact f2
     replace s1:w.heap.size+1≤V2.heap.size:=by rw [hV2];exact s1
     rw [←hV2] at B2 ⊢
     clear hV2
     go_wp2_with fail
     refine (KO.out _).mono ?_
     rintro e' w' ⟨rfl,rfl⟩
     go_wp2_with fail
     refine (KP.out _).mono ?_
     rintro e' w3 ⟨rfl,hb⟩
     replace c0:=keep_cell hb c0
     replace c1:=keep_cell hb c1
     replace c2:=keep_cell hb c2
     replace f0:=keep_fr hb (by omega) f0
     replace f1:=keep_fr hb (by omega) f1
     replace f2:=keep_fr hb (by omega) f2
     have B3:=Lib.hid (bel_2 B2.out hb)
     clear hb
     go_wp2
     obtain ⟨k0,k1,k2,bW⟩:=fin3 (x:=.string nm) (y:=.int .i64 o) (z:=.string vv) B3.out c0 c1 c2
     exact bodyPost_ret (v:=.tuple #[.agg #[.string nm,.int .i64 o,.string vv],.int .i64 0]) (by simp [results,Tryz.results126,go_sem,k0,k1,k2]) rfl ⟨by rw [X.out],bW⟩
   ·have t1:(((rs[rs.size - 1]'hlt1).toNat:Int) != 41)=true:=by rw [bne_iff_ne];omega
    have HF:formB (cutR (B s))=false:=form_suf (by rw [←hBR];unfold sufB;rw [B_len,B_getD rs _ hlt1];exact decide_eq_false h1)
    have X:=Lib.hid (relV_bad (s:=s) (e:=5) (by unfold relE;rw [if_pos hn,if_pos hc,if_neg (by rw [HF];decide)]) (by decide))
    clear hBN hBR zN hn hc hnm hrs h0 h1 HF
    go_enter Tryz.func126,Tryz.ntmps126
    go_wp2_with fail
    refine (KC.out _).mono ?_
    rintro e' w' ⟨rfl,n,rfl⟩
    have B1:=Lib.hid (bel_d (bel_box w (.cells #[.string { data:=#[] },.int .i64 0,.string { data:=#[] }] 109)) n)
    obtain ⟨V,hV⟩:∃V,V=(w.alloc (.cells #[.string { data:=#[] },.int .i64 0,.string { data:=#[] }] 109)).drewN n:=⟨_,rfl⟩
    have c0:V.cell? ⟨w.heap.size,0,none⟩=some (.string { data:=#[] }):=by rw [hV];simp [go_sem]
    have c1:V.cell? ⟨w.heap.size,1,none⟩=some (.int .i64 0):=by rw [hV];simp [go_sem]
    have c2:V.cell? ⟨w.heap.size,2,none⟩=some (.string { data:=#[] }):=by rw [hV];simp [go_sem]
    have f0:V.frozen? ⟨w.heap.size,0,none⟩=false:=by rw [hV];simp [go_sem]
    have f1:V.frozen? ⟨w.heap.size,1,none⟩=false:=by rw [hV];simp [go_sem]
    have f2:V.frozen? ⟨w.heap.size,2,none⟩=false:=by rw [hV];simp [go_sem]
    have s1:w.heap.size+1≤V.heap.size:=by rw [hV];simp
    rw [←hV] at B1 ⊢
    clear hV
    go_wp2_with fail
    refine (KN.out _).mono ?_
    rintro e' w' ⟨rfl,rfl⟩
    go_wp2
    obtain ⟨k0,k1,k2,bW⟩:=fin3 (x:=.string { data:=#[] }) (y:=.int .i64 0) (z:=.string { data:=#[] }) B1.out c0 c1 c2
    exact bodyPost_ret (v:=.tuple #[.agg #[.string { data:=#[] },.int .i64 0,.string { data:=#[] }],.int .i64 5]) (by simp [results,Tryz.results126,go_sem,k0,k1,k2]) rfl ⟨by rw [X.out],bW⟩
  ·have t0:((rs[0].toNat:Int) != 40)=true:=by rw [bne_iff_ne];omega
   have HF:formB (cutR (B s))=false:=form_pre (by rw [←hBR];unfold preB;rw [B_getD rs 0 (by omega)];exact decide_eq_false h0)
   have X:=Lib.hid (relV_bad (s:=s) (e:=5) (by unfold relE;rw [if_pos hn,if_pos hc,if_neg (by rw [HF];decide)]) (by decide))
   clear hBN hBR zN hn hc hnm hrs h0 HF
   go_enter Tryz.func126,Tryz.ntmps126
   go_wp2_with fail
   refine (KC.out _).mono ?_
   rintro e' w' ⟨rfl,n,rfl⟩
   have B1:=Lib.hid (bel_d (bel_box w (.cells #[.string { data:=#[] },.int .i64 0,.string { data:=#[] }] 109)) n)
   obtain ⟨V,hV⟩:∃V,V=(w.alloc (.cells #[.string { data:=#[] },.int .i64 0,.string { data:=#[] }] 109)).drewN n:=⟨_,rfl⟩
   have c0:V.cell? ⟨w.heap.size,0,none⟩=some (.string { data:=#[] }):=by rw [hV];simp [go_sem]
   have c1:V.cell? ⟨w.heap.size,1,none⟩=some (.int .i64 0):=by rw [hV];simp [go_sem]
   have c2:V.cell? ⟨w.heap.size,2,none⟩=some (.string { data:=#[] }):=by rw [hV];simp [go_sem]
   have f0:V.frozen? ⟨w.heap.size,0,none⟩=false:=by rw [hV];simp [go_sem]
   have f1:V.frozen? ⟨w.heap.size,1,none⟩=false:=by rw [hV];simp [go_sem]
   have f2:V.frozen? ⟨w.heap.size,2,none⟩=false:=by rw [hV];simp [go_sem]
   have s1:w.heap.size+1≤V.heap.size:=by rw [hV];simp
   rw [←hV] at B1 ⊢
   clear hV
   go_wp2_with fail
   refine (KN.out _).mono ?_
   rintro e' w' ⟨rfl,rfl⟩
   go_wp2
   obtain ⟨k0,k1,k2,bW⟩:=fin3 (x:=.string { data:=#[] }) (y:=.int .i64 0) (z:=.string { data:=#[] }) B1.out c0 c1 c2
   exact bodyPost_ret (v:=.tuple #[.agg #[.string { data:=#[] },.int .i64 0,.string { data:=#[] }],.int .i64 5]) (by simp [results,Tryz.results126,go_sem,k0,k1,k2]) rfl ⟨by rw [X.out],bW⟩
 ·have j2:(rs.size:Int) < 2:=by omega
  have HF:formB (cutR (B s))=false:=by rw [←hBR];unfold formB;rw [decide_eq_false (by rw [B_len];exact h2)];rfl
  have X:=Lib.hid (relV_bad (s:=s) (e:=5) (by unfold relE;rw [if_pos hn,if_pos hc,if_neg (by rw [HF];decide)]) (by decide))
  clear hBN hBR zN hn hc hnm hrs HF
  go_enter Tryz.func126,Tryz.ntmps126
  go_wp2_with fail
  refine (KC.out _).mono ?_
  rintro e' w' ⟨rfl,n,rfl⟩
  have B1:=Lib.hid (bel_d (bel_box w (.cells #[.string { data:=#[] },.int .i64 0,.string { data:=#[] }] 109)) n)
  obtain ⟨V,hV⟩:∃V,V=(w.alloc (.cells #[.string { data:=#[] },.int .i64 0,.string { data:=#[] }] 109)).drewN n:=⟨_,rfl⟩
  have c0:V.cell? ⟨w.heap.size,0,none⟩=some (.string { data:=#[] }):=by rw [hV];simp [go_sem]
  have c1:V.cell? ⟨w.heap.size,1,none⟩=some (.int .i64 0):=by rw [hV];simp [go_sem]
  have c2:V.cell? ⟨w.heap.size,2,none⟩=some (.string { data:=#[] }):=by rw [hV];simp [go_sem]
  have f0:V.frozen? ⟨w.heap.size,0,none⟩=false:=by rw [hV];simp [go_sem]
  have f1:V.frozen? ⟨w.heap.size,1,none⟩=false:=by rw [hV];simp [go_sem]
  have f2:V.frozen? ⟨w.heap.size,2,none⟩=false:=by rw [hV];simp [go_sem]
  have s1:w.heap.size+1≤V.heap.size:=by rw [hV];simp
  rw [←hV] at B1 ⊢
  clear hV
  go_wp2_with fail
  refine (KN.out _).mono ?_
  rintro e' w' ⟨rfl,rfl⟩
  go_wp2
  obtain ⟨k0,k1,k2,bW⟩:=fin3 (x:=.string { data:=#[] }) (y:=.int .i64 0) (z:=.string { data:=#[] }) B1.out c0 c1 c2
  exact bodyPost_ret (v:=.tuple #[.agg #[.string { data:=#[] },.int .i64 0,.string { data:=#[] }],.int .i64 5]) (by simp [results,Tryz.results126,go_sem,k0,k1,k2]) rfl ⟨by rw [X.out],bW⟩
theorem nm_drop {l:List Nat} {k:Nat} (hk:k≤(nmOf l).length):nmOf (l.drop k)=(nmOf l).drop k:=by
 induction k generalizing l with
 | zero=>rfl
 | succ k ih=>
  cases l with
  | nil=>simp [nmOf]
  | cons c r=>
   unfold nmOf at hk ⊢
   rw [List.takeWhile_cons] at hk ⊢
   by_cases hc:(c != 58)=true
   ·rw [if_pos hc] at hk ⊢
    rw [List.drop_succ_cons,List.drop_succ_cons]
    exact ih (l:=r) (by unfold nmOf;simpa using hk)
   ·rw [if_neg hc] at hk
    simp at hk
theorem nm_at {l:List Nat} {k:Nat} (hk:k≤(nmOf l).length) (hl:k < l.length):(k < (nmOf l).length↔l[k]≠58):=by
 have h:=nm_drop hk
 rw [List.drop_eq_getElem_cons hl] at h
 unfold nmOf at h
 rw [List.takeWhile_cons] at h
 have h2:=congrArg List.length h
 by_cases hc:l[k]=58
 ·rw [hc] at h2
  simp only [bne_self_eq_false,Bool.false_eq_true,if_false,List.length_nil,List.length_drop] at h2
  unfold nmOf
  exact ⟨fun hlt=>by omega,fun hne=>absurd hc hne⟩
 ·rw [if_pos (by rw [bne_iff_ne];exact hc)] at h2
  rw [List.length_cons,List.length_drop] at h2
  unfold nmOf
  exact ⟨fun _=>hc,fun _=>by omega⟩
theorem nm_has (l:List Nat):(58 ∈ l)↔(nmOf l).length < l.length:=by
 constructor
 ·intro h
  rcases Nat.lt_or_ge (nmOf l).length l.length with h1|h1
  ·exact h1
  ·have e:=nm_take l
   rw [List.take_of_length_le h1] at e
   have:=twl_all (p:=fun c=>c != 58) (l:=l) (x:=58) (by unfold nmOf at e;rw [←e];exact h)
   simp at this
 ·intro h
  have:=(nm_at (l:=l) (k:=(nmOf l).length) (Nat.le_refl _) h)
  have hc:l[(nmOf l).length]=58:=by
   by_cases hc:l[(nmOf l).length]=58
   ·exact hc
   ·exact absurd (this.2 hc) (Nat.lt_irrefl _)
  rw [←hc];exact List.getElem_mem h
def BlI (l:List Nat) (n k:Nat):Prop:=(l.drop n).dropWhile (fun c=>c==32)=(l.drop k).dropWhile (fun c=>c==32)
theorem bl_on {l:List Nat} {n k:Nat} (h:BlI l n k) (hk:k < l.length) (hc:l[k]=32):BlI l n (k+1):=by
 unfold BlI at *
 rw [h,List.drop_eq_getElem_cons hk,List.dropWhile_cons,if_pos (by rw [hc];rfl)]
theorem bl_off {l:List Nat} {n k:Nat} (h:BlI l n k) (hc:∀hk:k < l.length,l[k]≠32):(l.drop n).dropWhile (fun c=>c==32)=l.drop k:=by
 unfold BlI at h
 rw [h]
 by_cases hk:k < l.length
 ·rw [List.drop_eq_getElem_cons hk,List.dropWhile_cons,if_neg (by simpa using hc hk)]
 ·rw [List.drop_eq_nil_of_le (by omega)];rfl
theorem B_el (s:ByteArray) (k:Nat) (hk:k < (B s).length):(B s)[k]=(s[k]'(by rw [B_len] at hk;exact hk)).toNat:=by
 have h:=B_at s k (by rw [B_len] at hk;exact hk)
 rw [List.getElem?_eq_getElem hk] at h
 injection h
theorem Fr.drewN {N r:Nat} {W W':World} (h:Fr N r W W') (n:Nat):Fr N r W (W'.drewN n):=⟨belD h.bel n,h.mid⟩
structure RdR (W:World) (N r:Nat) (t:RS):Prop where
 f0:W.frozen? ⟨r,0,none⟩=false
 f1:W.frozen? ⟨r,1,none⟩=false
 c1:W.cell? ⟨r,1,none⟩=some (.bool t.o)
 g:∃v,W.cell? ⟨r,0,none⟩=some v∧Grow rdFds 1 (fun b=>N≤b) W N 54 v t.l
theorem RdR.below {W W':World} {N r:Nat} {t:RS} (h:RdR W N r t) (hb:Below W.heap.size W W') (hr:r < W.heap.size):RdR W' N r t:=by
 obtain ⟨v,h1,h2⟩:=h.g
 obtain ⟨a0,b0⟩:=blk_of (hb.block r hr) 0
 obtain ⟨a1,b1⟩:=blk_of (hb.block r hr) 1
 exact ⟨b0.trans h.f0,b1.trans h.f1,a1.trans h.c1,v,a0.trans h1,h2.below rdFds_good hb⟩
end Go.Proofs.YtboinnjncaehkaaGreatDoor
