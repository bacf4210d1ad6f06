/- What the laws rest on: S5b, S5c, S5k6, S5k7, S5k8, S5k9. -/
import Derived.Test.YtbljkpbaceiaiaaGreatDoorQABZA
import Derived.Test.YtbljkpbaceiaiaaGreatDoorQAQZA
set_option maxRecDepth 100000
set_option linter.unusedVariables false
set_option linter.unusedSimpArgs false
namespace Go.Proofs.YtbljkpbaceiaiaaGreatDoor
open Go.RowKit
theorem add_0 (a:Addr):a.add 0=a:=by unfold Addr.add;simp
theorem cut_zero (c:Nat) (l:List Nat):0 < (cutBy c l).length:=by rw [cutBy_len];omega
set_option maxHeartbeats 2000000 in
theorem q5value_any (s:ByteArray) (w:World) (hs:s.size≤65536):Calls Tryz.prog 101 #[.string s] w fun e w'=>e=.returned (.bool (valB (B s)))∧Below w.heap.size w w':=by
 have K:=Lib.hid (q5lines_any s w hs)
 have hmem:=Lib.hid (fun p (hp:p ∈ cutBy 10 (B s))=>cutBy_mem_len hp)
 rw [B_len] at hmem
 have hnz:=cut_zero 10 (B s)
 have HV:=Lib.hid (show valB (B s)=valL (cutBy 10 (B s)) from rfl)
 generalize cutBy 10 (B s)=L at *
 go_enter Tryz.func101,Tryz.ntmps101
 go_wp2_with fail
 refine K.out.mono ?_
 rintro e w1 ⟨⟨A,n,cp,rfl,hrd⟩,hb1⟩
 obtain ⟨rfl,hnc,hcm,hat⟩:=rdStrs_at hrd
 have hcm':cp≤9223372036854775807:=hcm
 have HB:=Lib.hid hb1
 have HAT:=Lib.hid hat
 clear hrd hb1 hat hcm
 go_wp2
 go_loop [4,5] (fun i _=>∃k:Nat,k≤L.length∧i=.int .i64 k∧∀j (hj:j < L.length),j < k→lowB L[j]=false∧(0 < j→L[j]≠[])) (fun i _=>L.length - (intOf i).toNat)
 case atStart=>exact ⟨0,Nat.zero_le _,rfl,fun j _ hj=>absurd hj (by omega)⟩
 case round=>
  obtain ⟨k,hk,rfl,hall⟩:=hrel
  have HN:=Lib.hid hall
  clear hall
  by_cases hlt:k < L.length
  ·obtain ⟨ad,t,rfl,had,hc,hB⟩:=HAT.out k hlt
   have hsz:t.size≤maxLen:=by have:=hmem.out _ (List.getElem_mem hlt);rw [←hB,B_len] at this;unfold maxLen;omega
   have KC:=Lib.hid (fun w=>q5clean_any t w hsz)
   have XN:=Lib.hid (fun h=>valL_no (L:=L) hlt h)
   have HL:=Lib.hid hB
   have em:=emp_eq t
   have YY:=Lib.hid (fun (h1:lowB L[k]=false) (h2:0 < k→L[k]≠[]) j (hj:j < L.length) (hjk:j < k+1)=>(show lowB L[j]=false∧(0 < j→L[j]≠[]) from by
    by_cases h:j < k
    ·exact HN.out j hj h
    ·obtain rfl:j=k:=by omega
     exact ⟨h1,h2⟩))
   rw [hB] at KC em
   clear hB
   cases hlow:lowB L[k]
   ·rw [hlow] at KC
    rcases Nat.eq_zero_or_pos k with rfl|hk0
    ·have Y:=Lib.hid (YY.out hlow (fun h=>absurd h (Nat.lt_irrefl 0)))
     rw [add_0] at hc
     clear em hlow
     go_wp2_with (go_at_call 71;(with_reducible refine (KC.out _).mono ?_);rintro e w' ⟨rfl,rfl⟩)
     go_round
     case rel=>exact ⟨1,by omega,by go_num,Y.out⟩
     case measure=>simp [intOf];omega
    ·have k0:(0:Int) < (k:Int):=by omega
     by_cases hem:L[k]=[]
     ·have X:=Lib.hid (XN.out (.inr ⟨hk0,hem⟩))
      rw [decide_eq_true hem] at em
      clear hem hlow
      go_wp2_with (go_at_call 71;(with_reducible refine (KC.out _).mono ?_);rintro e w' ⟨rfl,rfl⟩)
      go_ret
      exact ⟨by rw [HV.out,X.out];rfl,HB.out⟩
     ·have Y:=Lib.hid (YY.out hlow (fun _=>hem))
      rw [decide_eq_false hem] at em
      clear hem hlow
      go_wp2_with (go_at_call 71;(with_reducible refine (KC.out _).mono ?_);rintro e w' ⟨rfl,rfl⟩)
      go_round
      case rel=>exact ⟨k+1,by omega,by go_num,Y.out⟩
      case measure=>simp [intOf];omega
   ·rw [hlow] at KC
    have X:=Lib.hid (XN.out (.inl hlow))
    clear em hlow
    go_wp2_with (go_at_call 71;(with_reducible refine (KC.out _).mono ?_);rintro e w' ⟨rfl,rfl⟩)
    go_ret
    exact ⟨by rw [HV.out,X.out];rfl,HB.out⟩
  ·obtain rfl:k=L.length:=by omega
   obtain ⟨ad,t,rfl,had,hc,hB⟩:=HAT.out 0 hnz
   rw [add_0] at hc
   have V:=Lib.hid (valL_yes hnz fun k hk=>HN.out k hk hk)
   have em:=emp_eq t
   by_cases hem:B t=[]
   ·rw [decide_eq_true hem] at em
    have X:=Lib.hid (show valL L=true by rw [V.out,←hB,hem];rfl)
    clear hem hB V
    go_wp2
    go_ret
    exact ⟨by rw [HV.out,X.out];rfl,HB.out⟩
   ·rw [decide_eq_false hem] at em
    have h0:0 < t.size:=by
     rcases Nat.eq_zero_or_pos t.size with h|h
     ·exact absurd (List.eq_nil_of_length_eq_zero (by rw [B_len];exact h)) hem
     ·exact h
    have hb:=byte_le t 0 h0
    have hh:hd32 (B t)=decide (t[0].toNat=32):=by
     have:=B_drop t 0 h0
     rw [List.drop_zero] at this
     rw [this];rfl
    by_cases h32:t[0].toNat=32
    ·have p1:((t[0].toNat:Int) != 32)=false:=by rw [h32];rfl
     have X:=Lib.hid (show valL L=false by rw [V.out,←hB,hh,decide_eq_true h32];rfl)
     clear hem hB V hh h32
     go_wp2
     go_ret
     exact ⟨by rw [HV.out,X.out];rfl,HB.out⟩
    ·have p1:((t[0].toNat:Int) != 32)=true:=by rw [bne_iff_ne];omega
     have X:=Lib.hid (show valL L=true by rw [V.out,←hB,hh,decide_eq_false h32];rfl)
     clear hem hB V hh h32
     go_wp2
     go_ret
     exact ⟨by rw [HV.out,X.out];rfl,HB.out⟩
theorem any_snoc {α:Type} (p:α→Bool) (l:List α) (k:Nat) (hk:k < l.length):(l.take (k+1)).any p=((l.take k).any p||p l[k]):=by
 rw [List.take_succ_eq_append_getElem hk,List.any_append];simp
def fbT (n:List Nat) (L:List (List Nat)) (k:Nat):List Nat:=n++(58::((if L.getD 0 []=[] then [] else 32::L.getD 0 [])++10::(((L.take k).drop 1).map fun l=>32::(l++[10])).flatten))
theorem fb_end (f:Fd):fbT (B f.n) (cutBy 10 (B f.v)) (cutBy 10 (B f.v)).length=fldT f:=by
 unfold fbT fldT
 rw [List.take_length]
 cases h:cutBy 10 (B f.v) with
 | nil=>exact absurd h (cutBy_ne _ _)
 | cons x r=>rfl
theorem fb_step {n:List Nat} {L:List (List Nat)} {k:Nat} (h1:1≤k) (hk:k < L.length):fbT n L (k+1)=fbT n L k++([32]++(L[k]++[10])):=by
 unfold fbT
 have:(L.take (k+1)).drop 1=(L.take k).drop 1++[L[k]]:=by
  rw [List.take_succ_eq_append_getElem hk,List.drop_append_of_le_length (by rw [List.length_take];omega)]
 rw [this,List.map_append,List.flatten_append]
 simp
set_option maxHeartbeats 4000000 in
theorem q5field_any (f:Fd) (w:World) (hn:f.n.size≤65536) (hv:f.v.size≤65536) :
  Calls Tryz.prog 80 #[.agg #[.string f.n,.string f.v]] w fun e w'=>(∃y:ByteArray,e=.returned (.string y)∧B y=fldT f∧y.size≤4400000000)∧Below w.heap.size w w':=by
 have FE:=Lib.hid (fb_end f)
 obtain ⟨fn,fv⟩:=f
 have BA:=Lib.hid ((Below.refl w.heap.size w).alloc (Nat.le_refl _) (.cells #[.string fn,.string fv] 58))
 have Z:=Lib.hid (show (w.alloc (.cells #[.string fn,.string fv] 58)).heap.size=w.heap.size+1 by rw [World.size_alloc])
 have Q:=Lib.hid (show (w.alloc (.cells #[.string fn,.string fv] 58)).cell? ⟨w.heap.size,0,none⟩=some (.string fn)∧(w.alloc (.cells #[.string fn,.string fv] 58)).cell? ⟨w.heap.size,1,none⟩=some (.string fv) from ⟨by simp [go_sem],by simp [go_sem]⟩)
 have KL:=Lib.hid (q5lines_any fv (w.alloc (.cells #[.string fn,.string fv] 58)) hv)
 have HLL:=Lib.hid (show (cutBy 10 (B fv)).length≤65537 by rw [cutBy_len];have:=List.count_le_length (a:=10) (l:=B fv);rw [B_len] at this;have hv:fv.size≤65536:=hv;omega)
 have HL0:=Lib.hid (cut_zero 10 (B fv))
 have HLB:=Lib.hid (fun l (hl:l ∈ cutBy 10 (B fv))=>(show l.length≤65536 from by have:=cutBy_mem_len hl;rw [B_len] at this;have hv:fv.size≤65536:=hv;omega))
 have HN:=Lib.hid (show fn.size≤65536 from hn)
 clear hn hv
 generalize cutBy 10 (B fv)=L at *
 go_enter Tryz.func80,Tryz.ntmps80
 go_wp2_with fail
 refine KL.out.mono ?_
 rintro e w1 ⟨⟨A1,n1,c1,rfl,hr⟩,hb⟩
 obtain ⟨rfl,hnc1,hcm1,ha⟩:=rdStrs_at hr
 have hcm1':c1≤9223372036854775807:=hcm1
 have x0:=(hb.cell (show (⟨w.heap.size,0,none⟩:Addr).block < _ by rw [Z.out];exact Nat.lt_succ_self _)).trans Q.out.1
 have HB:=Lib.hid (BA.out.trans (hb.mono BA.out.size))
 have HA:=Lib.hid ha
 obtain ⟨ad,l0,rfl,had,g0,hB0⟩:=ha 0 HL0.out
 rw [add_0] at g0
 have L0:=Lib.hid (show L.getD 0 []=B l0 by rw [List.getD_eq_getElem?_getD,List.getElem?_eq_getElem HL0.out];exact hB0.symm)
 have Z0:=Lib.hid (show l0.size≤65536 by rw [←B_len,hB0];exact HLB.out _ (List.getElem_mem HL0.out))
 have i0:(0:Int) < (L.length:Int):=by have:=HL0.out;omega
 have hll:=HLL.out
 obtain ⟨y1,a1,p1,z1⟩:=add_out fn { data:=#[58] } 65536 1 HN.out (by decide)
 have em:=emp_eq l0
 have P1:=Lib.hid p1
 clear hr hb ha hB0 hcm1 p1
 rcases (by
  by_cases h0:B l0=[]
  ·exact Or.inl h0
  ·exact Or.inr h0:B l0=[]∨¬B l0=[]) with h0|h0
 ·rw [decide_eq_true h0] at em
  obtain ⟨y4,a4,p4,z4⟩:=add_out y1 { data:=#[10] } 65537 1 z1 (by decide)
  have ST:=Lib.hid (show B y4=fbT (B fn) L 1∧y4.size≤200000 from ⟨by
   rw [p4,P1.out,B_append,B_append]
   unfold fbT
   rw [L0.out,if_pos h0,show (L.take 1).drop 1=[] from List.drop_eq_nil_of_le (by rw [List.length_take];omega)]
   show B fn++[58]++[10]=B fn++(58::([]++10::[]))
   simp,by omega⟩)
  clear p4 z4 h0 z1
  go_wp2
  clear x0
  go_loop [4,5] (fun v i=>∃(k:Nat) (y:ByteArray),1≤k∧k≤L.length∧i=.int .i64 k∧v=.string y∧B y=fbT (B fn) L k∧y.size≤200000+k*65538) (fun _ i=>L.length - (intOf i).toNat)
  case atStart=>exact ⟨1,y4,Nat.le_refl _,HL0.out,by go_num,rfl,ST.out.1,by have:=ST.out.2;omega⟩
  case round=>
   obtain ⟨k,y,hk1,hk,rfl,rfl,hy,hys⟩:=hrel
   have HY:=Lib.hid (And.intro hy hys)
   clear hy hys
   by_cases hlt:k < L.length
   ·obtain ⟨ad',s,e',_,gk,hB⟩:=HA.out k hlt
    injection e' with e'
    subst e'
    have FS:=Lib.hid (fb_step (n:=B fn) hk1 hlt)
    have SZ:=Lib.hid (show s.size≤65536 by rw [←B_len,hB];exact HLB.out _ (List.getElem_mem hlt))
    obtain ⟨u1,b1,r1,t1⟩:=add_out y { data:=#[32] } (200000+k*65538) 1 HY.out.2 (by decide) (by omega)
    obtain ⟨u2,b2,r2,t2⟩:=add_out u1 s (200000+k*65538+1) 65536 t1 SZ.out (by omega)
    obtain ⟨u3,b3,r3,t3⟩:=add_out u2 { data:=#[10] } (200000+k*65538+1+65536) 1 t2 (by decide) (by omega)
    have NX:=Lib.hid (show B u3=fbT (B fn) L (k+1)∧u3.size≤200000+(k+1)*65538 from ⟨by
     rw [r3,r2,r1,B_append,B_append,B_append,HY.out.1,FS.out,hB]
     show _++[32]++_++[10]=_
     simp,by omega⟩)
    clear r1 r2 r3 t1 t2 t3 hB
    go_wp2
    go_round
    case rel=>exact ⟨k+1,u3,by omega,by omega,by go_num,rfl,NX.out.1,NX.out.2⟩
    case measure=>simp [intOf];omega
   ·obtain rfl:k=L.length:=by omega
    have FIN:=Lib.hid (show B y=fldT ⟨fn,fv⟩∧y.size≤4400000000 from ⟨HY.out.1.trans FE.out,by have h1:=HY.out.2;have:=HLL.out;omega⟩)
    go_wp2
    go_ret
    exact ⟨⟨y,rfl,FIN.out.1,FIN.out.2⟩,HB.out⟩
 ·rw [decide_eq_false h0] at em
  obtain ⟨y2,a2,p2,z2⟩:=add_out y1 { data:=#[32] } 65537 1 z1 (by decide)
  obtain ⟨y3,a3,p3,z3⟩:=add_out y2 l0 65538 65536 z2 Z0.out
  obtain ⟨y4,a4,p4,z4⟩:=add_out y3 { data:=#[10] } 131074 1 z3 (by decide)
  have ST:=Lib.hid (show B y4=fbT (B fn) L 1∧y4.size≤200000 from ⟨by
   rw [p4,p3,p2,P1.out,B_append,B_append,B_append,B_append]
   unfold fbT
   rw [L0.out,if_neg h0,show (L.take 1).drop 1=[] from List.drop_eq_nil_of_le (by rw [List.length_take];omega)]
   show B fn++[58]++[32]++B l0++[10]=B fn++(58::((32::B l0)++10::[]))
   simp,by omega⟩)
  clear p2 p3 p4 z4 z3 z2 h0 z1
  go_wp2
  clear x0
  go_loop [4,5] (fun v i=>∃(k:Nat) (y:ByteArray),1≤k∧k≤L.length∧i=.int .i64 k∧v=.string y∧B y=fbT (B fn) L k∧y.size≤200000+k*65538) (fun _ i=>L.length - (intOf i).toNat)
  case atStart=>exact ⟨1,y4,Nat.le_refl _,HL0.out,by go_num,rfl,ST.out.1,by have:=ST.out.2;omega⟩
  case round=>
   obtain ⟨k,y,hk1,hk,rfl,rfl,hy,hys⟩:=hrel
   have HY:=Lib.hid (And.intro hy hys)
   clear hy hys
   by_cases hlt:k < L.length
   ·obtain ⟨ad',s,e',_,gk,hB⟩:=HA.out k hlt
    injection e' with e'
    subst e'
    have FS:=Lib.hid (fb_step (n:=B fn) hk1 hlt)
    have SZ:=Lib.hid (show s.size≤65536 by rw [←B_len,hB];exact HLB.out _ (List.getElem_mem hlt))
    obtain ⟨u1,b1,r1,t1⟩:=add_out y { data:=#[32] } (200000+k*65538) 1 HY.out.2 (by decide) (by omega)
    obtain ⟨u2,b2,r2,t2⟩:=add_out u1 s (200000+k*65538+1) 65536 t1 SZ.out (by omega)
    obtain ⟨u3,b3,r3,t3⟩:=add_out u2 { data:=#[10] } (200000+k*65538+1+65536) 1 t2 (by decide) (by omega)
    have NX:=Lib.hid (show B u3=fbT (B fn) L (k+1)∧u3.size≤200000+(k+1)*65538 from ⟨by
     rw [r3,r2,r1,B_append,B_append,B_append,HY.out.1,FS.out,hB]
     show _++[32]++_++[10]=_
     simp,by omega⟩)
    clear r1 r2 r3 t1 t2 t3 hB
    go_wp2
    go_round
    case rel=>exact ⟨k+1,u3,by omega,by omega,by go_num,rfl,NX.out.1,NX.out.2⟩
    case measure=>simp [intOf];omega
   ·obtain rfl:k=L.length:=by omega
    have FIN:=Lib.hid (show B y=fldT ⟨fn,fv⟩∧y.size≤4400000000 from ⟨HY.out.1.trans FE.out,by have h1:=HY.out.2;have:=HLL.out;omega⟩)
    go_wp2
    go_ret
    exact ⟨⟨y,rfl,FIN.out.1,FIN.out.2⟩,HB.out⟩
set_option maxHeartbeats 8000000 in
theorem q5stanza_any (A:Option Addr) (n c:Nat) (l:List Fd) (w:World) (h:rdFds w (lt_ w.heap.size) l [.slice A n c]) (hs:∀f ∈ l,f.n.size≤maxLen∧f.v.size≤65536) :
  Calls Tryz.prog 79 #[.slice A n c] w fun e w'=>e=.returned (.bool (stzR l))∧Below w.heap.size w w':=by
 obtain ⟨rfl,hnc,hcm,_⟩:=rdFds_at h
 have hcm':c≤9223372036854775807:=hcm
 have H:=Lib.hid h
 have HS:=Lib.hid hs
 have SD:=Lib.hid (show stzR l=(l.all fdR&&noDup [] l&&(decide (1≤l.length)&&decide (l.length≤40))) from rfl)
 clear hcm h hs
 go_enter Tryz.func79,Tryz.ntmps79
 go_wp2
 go_loopw [3] (fun i wr=>∃k:Nat,k≤l.length∧i=.int .i64 k∧(l.take k).all fdR=true∧noDup [] l=noDup (l.take k) (l.drop k)∧Below w.heap.size w wr) (fun i _=>l.length - (intOf i).toNat)
 case atStart=>exact ⟨0,Nat.zero_le _,rfl,rfl,rfl,Below.refl _ _⟩
 case round=>
  obtain ⟨k,hk,rfl,hall,hdup,hbel⟩:=hrel
  have HA:=Lib.hid hall
  have HD:=Lib.hid hdup
  have HB:=Lib.hid hbel
  clear hall hdup
  by_cases hlt:k < l.length
  ·obtain ⟨_,_,_,ha⟩:=rdFds_at (rdFds_good.below H.out hbel)
   obtain ⟨ad,rfl,had,x0,x1⟩:=ha k hlt
   have hf:=HS.out l[k] (List.getElem_mem hlt)
   have KN:=Lib.hid (fun w=>q5name_any l[k].n w hf.1)
   have KV:=Lib.hid (fun w=>q5value_any l[k].v w hf.2)
   have AS:=Lib.hid (all_snoc fdR l k hlt)
   have AN:=Lib.hid (fun h=>all_not5 (p:=fdR) (l:=l) (k:=k) hlt h)
   have DS:=Lib.hid (noDup_step hlt)
   have FDK:=Lib.hid (show fdR l[k]=(fnB (B l[k].n)&&valB (B l[k].v)) from rfl)
   have i0:(0:Int)≤(k:Int):=by omega
   have i1:(k:Int) < (l.length:Int):=by omega
   have hki:k < l.length:=hlt
   clear ha hbel hf
   cases h1:fnB (B l[k].n)
   ·have X:=Lib.hid (show stzR l=false by rw [SD.out,AN.out (by rw [FDK.out,h1];rfl)];rfl)
    rw [h1] at KN
    clear h1
    go_wp2_with fail
    refine (KN.out _).mono ?_
    rintro e w' ⟨rfl,rfl⟩
    go_wp2_with fail
    refine (KV.out _).mono ?_
    rintro e w2 ⟨rfl,hb2⟩
    have HB2:=Lib.hid (HB.out.trans (hb2.mono HB.out.size))
    clear hb2
    go_wp2
    go_ret
    exact ⟨by rw [X.out];try rfl,HB2.out⟩
   ·rw [h1] at KN
    cases h2:valB (B l[k].v)
    ·have X:=Lib.hid (show stzR l=false by rw [SD.out,AN.out (by rw [FDK.out,h1,h2];rfl)];rfl)
     rw [h2] at KV
     clear h1 h2
     go_wp2_with fail
     refine (KN.out _).mono ?_
     rintro e w' ⟨rfl,rfl⟩
     go_wp2_with fail
     refine (KV.out _).mono ?_
     rintro e w2 ⟨rfl,hb2⟩
     have HB2:=Lib.hid (HB.out.trans (hb2.mono HB.out.size))
     clear hb2
     go_wp2
     go_ret
     exact ⟨by rw [X.out];try rfl,HB2.out⟩
    ·rw [h2] at KV
     have FOK:=Lib.hid (show fdR l[k]=true by rw [FDK.out,h1,h2];rfl)
     clear h1 h2 FDK
     go_wp2_with fail
     refine (KN.out _).mono ?_
     rintro e w' ⟨rfl,rfl⟩
     go_wp2_with fail
     refine (KV.out _).mono ?_
     rintro e w2 ⟨rfl,hb2⟩
     have HB2:=Lib.hid (HB.out.trans (hb2.mono HB.out.size))
     clear hb2 x0 x1
     go_wp2
     go_loopw [6] (fun i wr=>∃q:Nat,q≤k∧i=.int .i64 q∧getV (l.take q) l[k].n=false∧Dr w2 wr) (fun i _=>k - (intOf i).toNat)
     case atStart=>exact ⟨0,Nat.zero_le _,rfl,rfl,Dr.refl _⟩
     case round=>
      obtain ⟨q,hq,rfl,hg,hdr⟩:=hrel
      have HG:=Lib.hid hg
      have HDR:=Lib.hid hdr
      clear hg
      by_cases hlq:q < k
      ·have hql:q < l.length:=by omega
       have BX:=hdr.below w.heap.size
       obtain ⟨_,_,_,ha⟩:=rdFds_at (rdFds_good.below H.out (HB2.out.trans BX))
       obtain ⟨ad1,e1,had1,c0,_⟩:=ha k hlt
       obtain ⟨ad2,e2,had2,g0,_⟩:=ha q hql
       injection e1 with e1
       injection e2 with e2
       subst e1
       subst e2
       have GS:=Lib.hid (show getV (l.take (q+1)) l[k].n=(getV (l.take q) l[k].n||decide (l[q].n=l[k].n)) from any_snoc (fun f:Fd=>decide (f.n=l[k].n)) l q hql)
       have GH:=Lib.hid (fun (h:l[q].n=l[k].n)=>(show getV (l.take k) l[k].n=true from by
        unfold getV
        rw [List.any_eq_true]
        exact ⟨l[q],by rw [List.mem_take_iff_getElem];exact ⟨q,by omega,rfl⟩,decide_eq_true h⟩))
       have he:=str_eq l[q].n l[k].n
       have j0:(0:Int)≤(q:Int):=by omega
       have j1:(q:Int) < (l.length:Int):=by omega
       clear ha hdr BX had1 had2
       by_cases hn:l[q].n=l[k].n
       ·have X:=Lib.hid (show stzR l=false by rw [SD.out,HD.out,DS.out,GH.out hn];simp)
        rw [decide_eq_true hn] at he
        clear hn
        generalize l[q].n=s1 at *
        generalize l[k].n=s2 at *
        go_wp2_with fail
        go_quiet (fail)
        go_wp2
        go_ret
        exact ⟨by rw [X.out];try rfl,HB2.out.trans ((HDR.out.more _).below _)⟩
       ·have Y:=Lib.hid (show getV (l.take (q+1)) l[k].n=false by rw [GS.out,HG.out,decide_eq_false hn];rfl)
        rw [decide_eq_false hn] at he
        clear hn
        go_wp2_with fail
        go_quiet (fail)
        go_wp2
        go_roundw
        case rel=>exact ⟨q+1,by omega,by go_num,Y.out,HDR.out.more _⟩
        case measure=>simp [intOf];omega
      ·obtain rfl:q=k:=by omega
       have Y:=Lib.hid (show (l.take (q+1)).all fdR=true∧noDup [] l=noDup (l.take (q+1)) (l.drop (q+1)) from ⟨by rw [AS.out,HA.out,FOK.out];rfl,by rw [HD.out,DS.out,HG.out];rfl⟩)
       clear hdr
       go_wp2
       go_roundw
       case rel=>exact ⟨q+1,by omega,by go_num,Y.out.1,Y.out.2,HB2.out.trans (HDR.out.below _)⟩
       case measure=>simp [intOf];omega
  ·obtain rfl:k=l.length:=by omega
   have X:=Lib.hid (show stzR l=(decide (1≤l.length)&&decide (l.length≤40)) by
    have h1:=HA.out
    have h2:=HD.out
    rw [List.take_length] at h1 h2
    rw [SD.out,h1,h2,List.drop_length];rfl)
   clear hbel
   by_cases h0:1≤l.length
   ·have z0:(1:Int)≤(l.length:Int):=by omega
    by_cases h40:l.length≤40
    ·have z1:(l.length:Int)≤40:=by omega
     go_wp2
     go_ret
     exact ⟨by rw [X.out,decide_eq_true h0,decide_eq_true h40];try rfl,HB.out⟩
    ·have z1:¬(l.length:Int)≤40:=by omega
     go_wp2
     go_ret
     exact ⟨by rw [X.out,decide_eq_true h0,decide_eq_false h40];try rfl,HB.out⟩
   ·have z0:¬(1:Int)≤(l.length:Int):=by omega
    go_wp2
    go_ret
    exact ⟨by rw [X.out,decide_eq_false h0];try rfl,HB.out⟩
theorem own_below {w w':World} {B:Nat} {e:TypeId} {v:Value} {n:Nat} {xs:List Value} (h:w.ownsRow B e 1 v n xs) (hb:Below w.heap.size w w'):w'.ownsRow B e 1 v n xs:=by
 refine h.kept (row:=none) ⟨hb.os,hb.tape,hb.output,hb.size,fun k hk _=>hb.block k hk⟩ ?_
 cases h:v.ownBlock with
 | none=>exact .inl rfl
 | some x=>exact .inr (by simp)
theorem str_of_row {w:World} {N0:Nat} {v:Value} {cur:ByteArray} (h:w.ownsRow N0 5 1 v cur.size (Lib.strCells cur)):(convert 85 9 v).run Tryz.prog w=.ok (.string cur) w:=by
 rcases h.2 with ⟨rfl,h0⟩|⟨g,cap,cu,rfl,hb,hg,hn,hm,hsz,ht⟩
 ·have:cur={ data:=#[] }:=by
   have hl:(B cur).length=0:=by rw [B_len];exact h0
   exact B_inj (List.eq_nil_of_length_eq_zero hl)
  subst this
  exact (by kernel_rfl:(convert 85 9 (.slice none 0 0)).run Tryz.prog w=.ok (.string { data:=#[] }) w)
 ·have hl:cur.data.toList.length=cur.size:=by rw [Array.length_toList];rfl
  have:=run_convert_bytes_back (P:=Tryz.prog) w 85 9 5 ⟨g,0,none⟩ cap cur.data.toList Tryz.underlying85 Tryz.underlying5 Tryz.underlying9 (fun j hj=>by
   exact h.cells (g:=g) rfl j _ (by unfold Lib.strCells;rw [List.getElem?_map,List.getElem?_eq_getElem hj];rfl))
  rw [hl] at this
  rw [this]
theorem own_form {w:World} {B:Nat} {e:TypeId} {v:Value} {n:Nat} {xs:List Value} (h:w.ownsRow B e 1 v n xs):∃A c,v=.slice A n c∧c≤maxLen:=by
 rcases h.2 with ⟨rfl,h0⟩|⟨g,cap,cu,rfl,hb,hg,hn,hm,hsz,ht⟩
 ·exact ⟨none,0,by rw [h0],Nat.zero_le _⟩
 ·exact ⟨_,cap,rfl,hm⟩
set_option maxHeartbeats 8000000 in
theorem q5text_any (A : Option Addr) (n c : Nat) (L : List (List Fd)) (w : World) (h : rdStzs w (lt_ w.heap.size) L [.slice A n c]) (hL : L.length ≤ 210) (hs : ∀ st ∈ L, st.length ≤ 45 ∧ ∀ f ∈ st, f.n.size ≤ 65536 ∧ f.v.size ≤ 65536) :
    Calls Tryz.prog 57 #[.slice A n c] w fun e w' => (∃ y : ByteArray, e = .returned (.string y) ∧ B y = txL L) ∧ Below w.heap.size w w' := by
  obtain ⟨rfl, hnc, hcm, _⟩ := rdStzs_at h
  have hcm' : c ≤ 9223372036854775807 := hcm
  obtain ⟨i0, hi, hz0, hz1, hz2⟩ := info_parts byteInfo
  have H := Lib.hid h
  have HS := Lib.hid hs
  have HL := Lib.hid hL
  obtain ⟨U, hU⟩ : ∃ U, U = 4400000000 := ⟨_, rfl⟩
  have HU := Lib.hid hU
  clear hU hL
  clear hcm h hs
  go_enter Tryz.func57, Tryz.ntmps57
  go_wp2
  go_loopw [3, 4] (fun v i wr => ∃ (k : Nat) (cur : ByteArray), k ≤ L.length ∧ i = .int .i64 k ∧ B cur = joinL [10] ((L.take k).map stT) ∧ (∃ cnt, cnt ≤ k * 46 ∧ cur.size ≤ cnt * U) ∧ wr.ownsRow w.heap.size 5 1 v cur.size (Lib.strCells cur) ∧ Below w.heap.size w wr) (fun _ i _ => L.length - (intOf i).toNat)
  case atStart => exact ⟨0, { data := #[] }, Nat.zero_le _, rfl, rfl, ⟨0, Nat.zero_le _, Nat.zero_le _⟩, World.ownsRow_nil _ _ _ _, Below.refl _ _⟩
  case round =>
    obtain ⟨k, cur, hk, rfl, hc1, hc2, hown, hbel⟩ := hrel
    obtain ⟨Av, cv, rfl, hcv⟩ := own_form hown
    have hcv' : cv ≤ 9223372036854775807 := hcv
    have HC := Lib.hid (And.intro hc1 hc2)
    have HB := Lib.hid hbel
    have HO := Lib.hid hown
    clear hc1 hc2 hcv
    by_cases hlt : k < L.length
    · obtain ⟨_, _, _, ha⟩ := rdStzs_at H.out
      obtain ⟨ad, A', c', rfl, had, x0w, hrd⟩ := ha k hlt
      have HX := Lib.hid (fun (W : World) (hb : Below w.heap.size w W) => (show W.cell? (ad.add k) = some (.slice A' L[k].length c') from (hb.cell (show (ad.add k).block < w.heap.size by rw [blk_add]; exact had)).trans x0w))
      have HRDW := Lib.hid hrd
      have hcm2' : c' ≤ 9223372036854775807 := (rdFds_at hrd).2.2.1
      have PN := Lib.hid (pt_next (L := L) hlt)
      have PSN := Lib.hid (fun j (hj : j < L[k].length) => stT_snoc L[k] j hj)
      have hst := HS.out L[k] (List.getElem_mem hlt)
      have HST := Lib.hid hst
      have hl45 := hst.1
      have i2 : (0 : Int) ≤ (k : Int) := by omega
      have i3 : (k : Int) < (L.length : Int) := by omega
      clear ha hrd x0w hst
      by_cases hk0 : 0 < k
      · have z1 : (0 : Int) < (k : Int) := by omega
        have PP := Lib.hid (pt_pos (L := L) hk0)
        have hb45 : cur.size + 1 ≤ 140737488355328 := by
          obtain ⟨cnt, h1, h2⟩ := HC.out.2
          have h3 : cnt * U ≤ 9661 * U := Nat.mul_le_mul_right _ (by have := HL.out; omega)
          have := HU.out
          omega
        go_wp2_with (at_builtin; refine wpList_append_own _ rfl _ _ 85 rfl w.heap.size 5 i0 (.int .u8 0) 1 1 Tryz.underlying85 hi hz0 hz1 hz2 rfl (by decide) _ _ _ rfl (hown.alloc _) ⟨wr.heap.size, 0, none⟩ 1 1 [.int .u8 10] rfl rfl ?c1 ?c2 ?c3 ?c4 ?c5 ?_)
        case c2 => rfl
        case c3 => unfold maxLen; omega
        case c5 => have := hbel.size; simp; omega
        intro v' w3 hown' hgrow _
        have C3 := Lib.hid (show ∃ cur3 : ByteArray, B cur3 = ptT L k ++ stT (L[k].take 0) ∧ (∃ cnt, cnt ≤ k * 46 + 1 ∧ cur3.size ≤ cnt * U) ∧ w3.ownsRow w.heap.size 5 1 v' cur3.size (Lib.strCells cur3) from ⟨cur ++ { data := #[10] }, by rw [B_append, HC.out.1, PP.out]; simp [stT]; rfl, by
          obtain ⟨cnt, h1, h2⟩ := HC.out.2
          refine ⟨cnt + 1, by omega, ?_⟩
          rw [ByteArray.size_append, Nat.succ_mul]
          have h3 := HU.out
          have h4 : ({ data := #[10] } : ByteArray).size = 1 := rfl
          omega, by
          rw [ByteArray.size_append, ← strCells_app]; exact hown'⟩)
        have HB3 := Lib.hid ((hbel.alloc hbel.size _).grown hgrow (by have := hbel.size; simp; omega) (fun k hk => (hown.lt k hk).1))
        clear hown hgrow hown' hbel hb45 hk0
        go_wp2
        go_loopw [3, 5] (fun v i wr => ∃ (j : Nat) (cur3 : ByteArray), j ≤ L[k].length ∧ i = .int .i64 j ∧ B cur3 = ptT L k ++ stT (L[k].take j) ∧ (∃ cnt, cnt ≤ k * 46 + 1 + j ∧ cur3.size ≤ cnt * U) ∧ wr.ownsRow w.heap.size 5 1 v cur3.size (Lib.strCells cur3) ∧ Below w.heap.size w wr) (fun _ i _ => L[k].length - (intOf i).toNat)
        case atStart =>
          obtain ⟨cur3, c1, c2, c3⟩ := C3.out
          exact ⟨0, cur3, Nat.zero_le _, rfl, c1, c2, c3, HB3.out⟩
        case round =>
          obtain ⟨j, cur3, hj, rfl, hd1, hd2, hown, hbel⟩ := hrel
          obtain ⟨Av3, cv3, rfl, hcv3⟩ := own_form hown
          have hcv3' : cv3 ≤ 9223372036854775807 := hcv3
          have HD := Lib.hid (And.intro hd1 hd2)
          have HBX := Lib.hid hbel
          have HOX := Lib.hid hown
          have x0 := HX.out _ hbel
          clear hd1 hd2 hcv3 hown
          by_cases hlj : j < L[k].length
          · obtain ⟨_, _, _, hb⟩ := rdFds_at (rdFds_good.below HRDW.out hbel)
            obtain ⟨ad3, hA3, had3, f0, f1⟩ := hb j hlj
            subst hA3
            have hfs := HST.out.2 L[k][j] (List.getElem_mem hlj)
            have PSJ := Lib.hid (PSN.out j hlj)
            have FT := Lib.hid (fun V => q5field_any L[k][j] V hfs.1 hfs.2)
            have j2 : (0 : Int) ≤ (j : Int) := by omega
            have j3 : (j : Int) < (L[k].length : Int) := by omega
            clear hfs hb had3 hbel
            go_wp2_with fail
            refine (FT.out _).mono ?_
            rintro e w5 ⟨⟨y, rfl, hy1, hy2⟩, hb5⟩
            have HY := Lib.hid (And.intro hy1 hy2)
            have BW5 := Lib.hid (HBX.out.trans (hb5.mono HBX.out.size))
            have hown5 := own_below HOX.out hb5
            have hsz : cur3.size + y.size ≤ 140737488355328 := by
              obtain ⟨cnt, h1, h2⟩ := HD.out.2
              have h3 : cnt * U ≤ 9661 * U := Nat.mul_le_mul_right _ (by have := HL.out; omega)
              have h4 := HU.out
              have h5 := HY.out.2
              omega
            have hsz2 : cur3.size + y.size ≤ maxLen := by unfold maxLen; omega
            have hbs5 := BW5.out.size
            clear hb5 hy1 hy2
            go_wp2_with (at_builtin; refine Lib.wpList_append_own_string _ rfl _ _ 85 9 rfl w.heap.size 5 i0 Tryz.underlying85 Tryz.underlying9 hi hz0 hz1 hz2 _ _ _ rfl hown5 y rfl hsz2 hsz hbs5 ?_)
            intro v6 w6 hown6 hgrow6 _
            have NX := Lib.hid (show ∃ cur4 : ByteArray, B cur4 = ptT L k ++ stT (L[k].take (j + 1)) ∧ (∃ cnt, cnt ≤ k * 46 + 1 + (j + 1) ∧ cur4.size ≤ cnt * U) ∧ w6.ownsRow w.heap.size 5 1 v6 cur4.size (Lib.strCells cur4) from ⟨cur3 ++ y, by rw [B_append, HD.out.1, PSJ.out, HY.out.1, List.append_assoc], by
              obtain ⟨cnt, h1, h2⟩ := HD.out.2
              refine ⟨cnt + 1, by omega, ?_⟩
              rw [ByteArray.size_append, Nat.succ_mul]
              have h3 := HU.out
              have h4 := HY.out.2
              omega, by rw [ByteArray.size_append, ← strCells_app]; exact hown6⟩)
            have HB6 := Lib.hid (BW5.out.grown hgrow6 (by have := hbs5; omega) (fun k hk => (hown5.lt k hk).1))
            clear hown5 hgrow6 hown6 hsz hsz2
            go_wp2
            go_roundw
            case rel =>
              obtain ⟨cur4, c1, c2, c3⟩ := NX.out
              exact ⟨j + 1, cur4, by omega, by go_num, c1, c2, c3, HB6.out⟩
            case measure => simp [intOf]; omega
          · obtain rfl : j = L[k].length := by omega
            have FIN := Lib.hid (show B cur3 = joinL [10] ((L.take (k + 1)).map stT) ∧ (∃ cnt, cnt ≤ (k + 1) * 46 ∧ cur3.size ≤ cnt * U) from ⟨by rw [HD.out.1, List.take_length, PN.out], by obtain ⟨cnt, h1, h2⟩ := HD.out.2; exact ⟨cnt, by have := HST.out.1; omega, h2⟩⟩)
            clear hbel
            go_wp2
            go_roundw
            case rel => exact ⟨k + 1, cur3, by omega, by go_num, FIN.out.1, FIN.out.2, HOX.out, HBX.out⟩
            case measure => simp [intOf]; omega
      · have z1 : ¬ (0 : Int) < (k : Int) := by omega
        have PP := Lib.hid (show ptT L k = [] ∧ joinL [10] ((L.take k).map stT) = [] by obtain rfl : k = 0 := by omega
                                                                                        exact ⟨rfl, rfl⟩)
        obtain ⟨v', hv'⟩ : ∃ v', v' = Value.slice Av cur.size cv := ⟨_, rfl⟩
        have C3 := Lib.hid (show ∃ cur3 : ByteArray, B cur3 = ptT L k ++ stT (L[k].take 0) ∧ (∃ cnt, cnt ≤ k * 46 + 1 ∧ cur3.size ≤ cnt * U) ∧ wr.ownsRow w.heap.size 5 1 (Value.slice Av cur.size cv) cur3.size (Lib.strCells cur3) from ⟨cur, by rw [HC.out.1, PP.out.1, PP.out.2]; rfl, by obtain ⟨cnt, h1, h2⟩ := HC.out.2; exact ⟨cnt, by omega, h2⟩, HO.out⟩)
        have HB3 := Lib.hid HB.out
        clear hown hbel hv'
        go_wp2
        go_loopw [3, 5] (fun v i wr => ∃ (j : Nat) (cur3 : ByteArray), j ≤ L[k].length ∧ i = .int .i64 j ∧ B cur3 = ptT L k ++ stT (L[k].take j) ∧ (∃ cnt, cnt ≤ k * 46 + 1 + j ∧ cur3.size ≤ cnt * U) ∧ wr.ownsRow w.heap.size 5 1 v cur3.size (Lib.strCells cur3) ∧ Below w.heap.size w wr) (fun _ i _ => L[k].length - (intOf i).toNat)
        case atStart =>
          obtain ⟨cur3, c1, c2, c3⟩ := C3.out
          exact ⟨0, cur3, Nat.zero_le _, rfl, c1, c2, c3, HB3.out⟩
        case round =>
          obtain ⟨j, cur3, hj, rfl, hd1, hd2, hown, hbel⟩ := hrel
          obtain ⟨Av3, cv3, rfl, hcv3⟩ := own_form hown
          have hcv3' : cv3 ≤ 9223372036854775807 := hcv3
          have HD := Lib.hid (And.intro hd1 hd2)
          have HBX := Lib.hid hbel
          have HOX := Lib.hid hown
          have x0 := HX.out _ hbel
          clear hd1 hd2 hcv3 hown
          by_cases hlj : j < L[k].length
          · obtain ⟨_, _, _, hb⟩ := rdFds_at (rdFds_good.below HRDW.out hbel)
            obtain ⟨ad3, hA3, had3, f0, f1⟩ := hb j hlj
            subst hA3
            have hfs := HST.out.2 L[k][j] (List.getElem_mem hlj)
            have PSJ := Lib.hid (PSN.out j hlj)
            have FT := Lib.hid (fun V => q5field_any L[k][j] V hfs.1 hfs.2)
            have j2 : (0 : Int) ≤ (j : Int) := by omega
            have j3 : (j : Int) < (L[k].length : Int) := by omega
            clear hfs hb had3 hbel
            go_wp2_with fail
            refine (FT.out _).mono ?_
            rintro e w5 ⟨⟨y, rfl, hy1, hy2⟩, hb5⟩
            have HY := Lib.hid (And.intro hy1 hy2)
            have BW5 := Lib.hid (HBX.out.trans (hb5.mono HBX.out.size))
            have hown5 := own_below HOX.out hb5
            have hsz : cur3.size + y.size ≤ 140737488355328 := by
              obtain ⟨cnt, h1, h2⟩ := HD.out.2
              have h3 : cnt * U ≤ 9661 * U := Nat.mul_le_mul_right _ (by have := HL.out; omega)
              have h4 := HU.out
              have h5 := HY.out.2
              omega
            have hsz2 : cur3.size + y.size ≤ maxLen := by unfold maxLen; omega
            have hbs5 := BW5.out.size
            clear hb5 hy1 hy2
            go_wp2_with (at_builtin; refine Lib.wpList_append_own_string _ rfl _ _ 85 9 rfl w.heap.size 5 i0 Tryz.underlying85 Tryz.underlying9 hi hz0 hz1 hz2 _ _ _ rfl hown5 y rfl hsz2 hsz hbs5 ?_)
            intro v6 w6 hown6 hgrow6 _
            have NX := Lib.hid (show ∃ cur4 : ByteArray, B cur4 = ptT L k ++ stT (L[k].take (j + 1)) ∧ (∃ cnt, cnt ≤ k * 46 + 1 + (j + 1) ∧ cur4.size ≤ cnt * U) ∧ w6.ownsRow w.heap.size 5 1 v6 cur4.size (Lib.strCells cur4) from ⟨cur3 ++ y, by rw [B_append, HD.out.1, PSJ.out, HY.out.1, List.append_assoc], by
              obtain ⟨cnt, h1, h2⟩ := HD.out.2
              refine ⟨cnt + 1, by omega, ?_⟩
              rw [ByteArray.size_append, Nat.succ_mul]
              have h3 := HU.out
              have h4 := HY.out.2
              omega, by rw [ByteArray.size_append, ← strCells_app]; exact hown6⟩)
            have HB6 := Lib.hid (BW5.out.grown hgrow6 (by have := hbs5; omega) (fun k hk => (hown5.lt k hk).1))
            clear hown5 hgrow6 hown6 hsz hsz2
            go_wp2
            go_roundw
            case rel =>
              obtain ⟨cur4, c1, c2, c3⟩ := NX.out
              exact ⟨j + 1, cur4, by omega, by go_num, c1, c2, c3, HB6.out⟩
            case measure => simp [intOf]; omega
          · obtain rfl : j = L[k].length := by omega
            have FIN := Lib.hid (show B cur3 = joinL [10] ((L.take (k + 1)).map stT) ∧ (∃ cnt, cnt ≤ (k + 1) * 46 ∧ cur3.size ≤ cnt * U) from ⟨by rw [HD.out.1, List.take_length, PN.out], by obtain ⟨cnt, h1, h2⟩ := HD.out.2; exact ⟨cnt, by have := HST.out.1; omega, h2⟩⟩)
            clear hbel
            go_wp2
            go_roundw
            case rel => exact ⟨k + 1, cur3, by omega, by go_num, FIN.out.1, FIN.out.2, HOX.out, HBX.out⟩
            case measure => simp [intOf]; omega
    · obtain rfl : k = L.length := by omega
      have FIN := Lib.hid (show B cur = txL L by have := HC.out.1; rwa [List.take_length] at this)
      have SR := str_of_row hown
      clear hown hbel
      go_wp2
      go_ret
      exact ⟨⟨cur, rfl, FIN.out⟩, HB.out⟩
def Sml (L:List (List Fd)):Prop:=L.length≤210∧∀st ∈ L,st.length≤45∧∀f ∈ st,f.n.size≤65536∧f.v.size≤60000
theorem okR_stz {L:List (List Fd)} {k:Nat} (hk:k < L.length) (h:stzR L[k]=false):okR L=false:=by
 have:L.all stzR=false:=by rw [List.all_eq_false];exact ⟨L[k],List.getElem_mem hk,by rw [h];decide⟩
 unfold okR;rw [this];rfl
set_option maxHeartbeats 4000000 in
theorem q5right_any (A:Option Addr) (n c:Nat) (L:List (List Fd)) (w:World) (h:rdStzs w (lt_ w.heap.size) L [.slice A n c]) (hS:Sml L) :
  Calls Tryz.prog 56 #[.slice A n c] w fun e w'=>e=.returned (.bool (okR L))∧Below w.heap.size w w':=by
 obtain ⟨rfl,hnc,hcm,_⟩:=rdStzs_at h
 have hcm':c≤9223372036854775807:=hcm
 have H:=Lib.hid h
 have HS:=Lib.hid hS
 have KT:=Lib.hid (fun (W:World) (hb:Below w.heap.size w W)=>q5text_any A L.length c L W (rdStzs_good.up (rdStzs_good.below h hb) hb.size) hS.1 (fun st hst=>⟨(hS.2 st hst).1,fun f hf=>⟨((hS.2 st hst).2 f hf).1,by have:=((hS.2 st hst).2 f hf).2;omega⟩⟩))
 have OK:=Lib.hid (show okR L=(L.all stzR&&(decide (L.length≤200)&&decide ((txL L).length≤60000))) from rfl)
 clear hcm h hS
 go_enter Tryz.func56,Tryz.ntmps56
 go_wp2
 go_loopw [3] (fun i wr=>∃k:Nat,k≤L.length∧i=.int .i64 k∧(L.take k).all stzR=true∧Below w.heap.size w wr) (fun i _=>L.length - (intOf i).toNat)
 case atStart=>exact ⟨0,Nat.zero_le _,rfl,rfl,Below.refl _ _⟩
 case round=>
  obtain ⟨k,hk,rfl,hall,hbel⟩:=hrel
  have HA:=Lib.hid hall
  have HB:=Lib.hid hbel
  clear hall
  by_cases hlt:k < L.length
  ·obtain ⟨_,_,_,ha⟩:=rdStzs_at (rdStzs_good.below H.out hbel)
   obtain ⟨ad,A',c',rfl,had,x0,hrd⟩:=ha k hlt
   have KS:=Lib.hid (q5stanza_any A' L[k].length c' L[k] wr (rdFds_good.up hrd hbel.size) (fun f hf=>⟨by have:=((HS.out.2 _ (List.getElem_mem hlt)).2 f hf).1;unfold maxLen;omega,by have:=((HS.out.2 _ (List.getElem_mem hlt)).2 f hf).2;omega⟩))
   have AS:=Lib.hid (all_snoc stzR L k hlt)
   have SZ:=Lib.hid (fun h=>okR_stz (L:=L) hlt h)
   have i0:(0:Int)≤(k:Int):=by omega
   have i1:(k:Int) < (L.length:Int):=by omega
   clear ha hrd hbel
   cases hst:stzR L[k]
   ·have X:=Lib.hid (SZ.out hst)
    rw [hst] at KS
    clear hst
    go_wp2_with fail
    refine KS.out.mono ?_
    rintro e w2 ⟨rfl,hb2⟩
    have HB2:=Lib.hid (HB.out.trans (hb2.mono HB.out.size))
    clear hb2
    go_wp2
    go_ret
    exact ⟨by rw [X.out];try rfl,HB2.out⟩
   ·rw [hst] at KS
    have HST:=Lib.hid hst
    clear hst
    go_wp2_with fail
    refine KS.out.mono ?_
    rintro e w2 ⟨rfl,hb2⟩
    have HB2:=Lib.hid (HB.out.trans (hb2.mono HB.out.size))
    clear hb2
    go_wp2
    go_roundw
    case rel=>exact ⟨k+1,by omega,by go_num,by rw [AS.out,HA.out,HST.out];rfl,HB2.out⟩
    case measure=>simp [intOf];omega
  ·obtain rfl:k=L.length:=by omega
   have X:=Lib.hid (show okR L=(decide (L.length≤200)&&decide ((txL L).length≤60000)) by
    have h1:=HA.out
    rw [List.take_length] at h1
    rw [OK.out,h1];rfl)
   clear hbel
   by_cases h200:L.length≤200
   ·have z0:(L.length:Int)≤200:=by omega
    have X2:=Lib.hid (show okR L=decide ((txL L).length≤60000) by rw [X.out,decide_eq_true h200];rfl)
    clear h200
    go_wp2_with fail
    refine (KT.out _ HB.out).mono ?_
    rintro e w2 ⟨⟨y,rfl,hy⟩,hb2⟩
    have HB2:=Lib.hid (HB.out.trans (hb2.mono HB.out.size))
    have HY:=Lib.hid (show y.size=(txL L).length by rw [←hy,B_len])
    clear hb2 hy
    by_cases h6:y.size≤60000
    ·have z1:(y.size:Int)≤60000:=by omega
     have X3:=Lib.hid (show okR L=true by rw [X2.out,←HY.out];exact decide_eq_true h6)
     clear h6
     go_wp2
     go_ret
     exact ⟨by rw [X3.out];try rfl,HB2.out⟩
    ·have z1:¬(y.size:Int)≤60000:=by omega
     have X3:=Lib.hid (show okR L=false by rw [X2.out,←HY.out];exact decide_eq_false h6)
     clear h6
     go_wp2
     go_ret
     have z2:decide ((y.size:Int)≤60000)=false:=decide_eq_false (by omega)
     exact ⟨by rw [X3.out];first|rfl|(show Ending.returned (.bool (decide ((y.size:Int)≤60000)))=_;rw [z2]),HB2.out⟩
   ·have z0:¬(L.length:Int)≤200:=by omega
    have X3:=Lib.hid (show okR L=false by rw [X.out,decide_eq_false h200];rfl)
    clear h200
    go_wp2
    go_ret
    exact ⟨by rw [X3.out];try rfl,HB.out⟩
theorem q5print_any (A:Option Addr) (n c:Nat) (L:List (List Fd)) (w:World) (h:rdStzs w (lt_ w.heap.size) L [.slice A n c]) (hS:Sml L) :
  Calls Tryz.prog 36 #[.slice A n c] w fun e w'=>e=.returned (.string (if okR L=true then mk (txL L) else { data:=#[] }))∧Below w.heap.size w w':=by
 have KR:=Lib.hid (q5right_any A n c L w h hS)
 have KT:=Lib.hid (fun (W:World) (hb:Below w.heap.size w W)=>q5text_any A n c L W (rdStzs_good.up (rdStzs_good.below h hb) hb.size) hS.1 (fun st hst=>⟨(hS.2 st hst).1,fun f hf=>⟨((hS.2 st hst).2 f hf).1,by have:=((hS.2 st hst).2 f hf).2;omega⟩⟩))
 clear h hS
 cases hok:okR L
 ·rw [hok] at KR
  go_enter Tryz.func36,Tryz.ntmps36
  go_wp2_with fail
  refine KR.out.mono ?_
  rintro e w2 ⟨rfl,hb2⟩
  go_wp2
  go_ret
  exact ⟨rfl,hb2⟩
 ·rw [hok] at KR
  go_enter Tryz.func36,Tryz.ntmps36
  go_wp2_with fail
  refine KR.out.mono ?_
  rintro e w2 ⟨rfl,hb2⟩
  have HB:=Lib.hid hb2
  clear hb2
  go_wp2_with fail
  refine (KT.out _ HB.out).mono ?_
  rintro e w3 ⟨⟨y,rfl,hy⟩,hb3⟩
  have HB3:=Lib.hid (HB.out.trans (hb3.mono HB.out.size))
  have HY:=Lib.hid (eq_mk hy)
  clear hb3 hy
  go_wp2
  go_ret
  exact ⟨by first|(rw [if_pos rfl,←HY.out];done)|(rw [←HY.out];done)|(rw [←HY.out];rfl)|(rw [if_pos rfl,←HY.out];rfl),HB3.out⟩
end Go.Proofs.YtbljkpbaceiaiaaGreatDoor
