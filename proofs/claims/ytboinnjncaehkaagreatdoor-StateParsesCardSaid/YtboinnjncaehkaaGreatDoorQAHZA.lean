/- What the laws rest on: StzP, RelP, DepP, S5c, E7n, E7o. -/
import Derived.Test.YtboinnjncaehkaaGreatDoorQAGZA
import Derived.Test.YtboinnjncaehkaaGreatDoorQAMZA
import Derived.Test.YtboinnjncaehkaaGreatDoorQAQZA
import Derived.Test.YtboinnjncaehkaaGreatDoorQAXZA
set_option maxRecDepth 100000
set_option linter.unusedVariables false
set_option linter.unusedSimpArgs false
namespace Go.Proofs.YtboinnjncaehkaaGreatDoor
open Go.RowKit
structure RS where
 l:List (List Fd)
 o:Bool
def setLast {α:Type} (l:List α) (x:α):List α:=l.dropLast++[x]
def lastD (l:List (List Fd)):List Fd:=l.getLastD []
def addV (f:Fd) (r:List Nat):Fd:=⟨f.n,mk (B f.v++(10::r))⟩
def fdOf (l:List Nat):Fd:=⟨mk (nmOf l),mk (vlOf l)⟩
def begER (s:RS) (l:List Nat):Int:=
 if (decide (58 ∈ l)&&fnB (nmOf l))=true then
  (if s.o=true then (if getV (lastD s.l) (mk (nmOf l))=true then 7 else if 40≤(lastD s.l).length then 8 else 0) else if 200≤s.l.length then 8 else 0)
 else 5
def lnER (s:RS) (l:List Nat):Int:=
 if lowB l=true then 5 else match l with
  | []=>0
  | c::r=>if c=32 then (if (!s.o||decide (r=[]))=true then 5 else 0) else begER s (c::r)
def lnSR (s:RS) (l:List Nat):RS:=
 match l with
  | []=>⟨s.l,false⟩
  | c::r=>if c=32 then ⟨setLast s.l (setLast (lastD s.l) (addV ((lastD s.l).getLastD ⟨mk [],mk []⟩) r)),s.o⟩
   else if s.o=true then ⟨setLast s.l (lastD s.l++[fdOf (c::r)]),true⟩ else ⟨s.l++[[fdOf (c::r)]],true⟩
def rnER (s:RS):List (List Nat)→Int
 | []=>0
 | l::r=>if lnER s l=0 then rnER (lnSR s l) r else lnER s l
def rnNR (s:RS) (k:Nat):List (List Nat)→Nat
 | []=>0
 | l::r=>if lnER s l=0 then rnNR (lnSR s l) (k+1) r else k+1
def rnSR (s:RS):List (List Nat)→RS
 | []=>s
 | l::r=>rnSR (lnSR s l) r
def Twin (s:PS) (t:RS):Prop:=t.l=s.fin.dn∧t.o=!decide (s.op=[])
theorem mk_app5 (a b:List Nat):mk (a++b)=mk a++mk b:=by
 unfold mk
 apply ByteArray.ext
 rw [ByteArray.data_append]
 simp
theorem B_joinB_snoc {ls:List (List Nat)} (h:ls≠[]) (x:List Nat):joinB (ls++[x])=mk (B (joinB ls)++(10::x)):=by
 unfold joinB
 rw [joinL_snoc,if_neg h,show (10::x)=[10]++x from rfl,mk_app5,mk_app5 (B _),mk_B]
theorem onLast_ne (x:List Nat) {l:List Opn} (h:l≠[]):onLast x l≠[]:=by
 intro e
 have:=onLast_len x l
 rw [e] at this
 exact h (List.eq_nil_of_length_eq_zero this.symm)
theorem setLast_snoc {α:Type} (i:List α) (z x:α):setLast (i++[z]) x=i++[x]:=by unfold setLast;rw [List.dropLast_concat]
theorem twin0:Twin ps0 ⟨[],false⟩:=⟨rfl,rfl⟩
theorem fin_op {s:PS} {i:List Opn} {f:Opn} (e:s.op=i++[f]):s.fin.dn=s.dn++[i.map clF++[clF f]]:=by
 unfold PS.fin
 rw [if_neg (by rw [e];simp),e];simp
theorem twin_err {s:PS} {t:RS} (h:Fit s) (ht:Twin s t) (l:List Nat):lnER t l=lnE s l:=by
 obtain ⟨h1,h2⟩:=ht
 unfold lnER lnE
 split
 ·rfl
 ·cases l with
  | nil=>rfl
  | cons c r=>
   simp only
   split
   ·unfold goE
    rw [h2,Bool.not_not]
   ·unfold begER begE
    split
    ·rw [h2]
     by_cases ho:s.op=[]
     ·rw [if_neg (by simp [ho]),ho]
      have e:s.fin=s:=by unfold PS.fin;rw [if_pos ho]
      rw [h1,e]
      have hd:=h.d
      by_cases h3:s.dn.length=200
      ·rw [if_pos (by omega)];simp [h3]
      ·rw [if_neg (by omega)];simp [h3]
     ·rw [if_pos (by simp [ho])]
      rcases List.eq_nil_or_concat s.op with e|⟨i,f,e⟩
      ·exact absurd e ho
      ·rw [List.concat_eq_append] at e
       have hl:lastD t.l=s.op.map clF:=by
        rw [h1,fin_op e,e];unfold lastD;simp
       rw [hl,any_cl]
       split
       ·rfl
       ·have hf:=h.f
        have ho':=h.o ho
        rw [List.length_map]
        by_cases h4:s.op.length=40
        ·rw [if_pos (by omega)];simp [h4]
        ·have h5:s.dn.length≠200:=by omega
         rw [if_neg (by omega)];simp [h4,h5]
    ·rfl
theorem twin_line {s:PS} {t:RS} {l:List Nat} (hb:∀c ∈ l,c < 256) (h:Fit s) (ht:Twin s t) (h0:lnE s l=0):Twin (lnS s l) (lnSR t l):=by
 obtain ⟨h1,h2⟩:=ht
 cases l with
 | nil=>
  refine ⟨?_,?_⟩
  ·show t.l=s.fin.fin.dn
   rw [fin_fin,h1]
  ·show false=!decide (s.fin.op=[])
   rw [fin_closed];rfl
 | cons c r=>
  unfold lnE at h0
  split at h0
  ·cases h0
  ·unfold lnS lnSR
   simp only at h0 ⊢
   split at h0
   ·rename_i hc
    rw [if_pos hc,if_pos hc]
    unfold goE at h0
    split at h0
    ·cases h0
    ·rename_i hg
     simp only [Bool.or_eq_true,decide_eq_true_eq] at hg
     have hne:s.op≠[]:=fun e=>hg (.inl e)
     rcases List.eq_nil_or_concat s.op with e|⟨i,f,e⟩
     ·exact absurd e hne
     ·rw [List.concat_eq_append] at e
      have hl:=h.l f (by rw [e];simp)
      have hcl:clF (f.1,f.2++[r])=addV (clF f) r:=by
       unfold clF addV
       simp only
       rw [B_joinB_snoc hl]
      refine ⟨?_,?_⟩
      ·show _=(PS.mk s.dn (onLast r s.op)).fin.dn
       rw [fin_op (s:=PS.mk s.dn (onLast r s.op)) (i:=i) (f:=(f.1,f.2++[r])) (by show onLast _ s.op=_;rw [e,onLast_snoc])]
       simp only
       rw [h1,fin_op e]
       unfold lastD
       simp only [List.getLastD_concat]
       rw [setLast_snoc,setLast_snoc,hcl]
      ·show t.o=!decide (onLast r s.op=[])
       rw [h2]
       have:=onLast_ne r hne
       simp [hne,this]
   ·rename_i hc
    rw [if_neg hc,if_neg hc]
    have hcl:clF (mk (nmOf (c::r)),[vlOf (c::r)])=fdOf (c::r):=by
     unfold clF fdOf joinB
     rfl
    refine ⟨?_,?_⟩
    ·rw [fin_op (s:=PS.mk s.dn (s.op++[(mk (nmOf (c::r)),[vlOf (c::r)])])) rfl,hcl]
     by_cases ho:s.op=[]
     ·rw [if_neg (by rw [h2];simp [ho])]
      have e:s.fin=s:=by unfold PS.fin;rw [if_pos ho]
      simp only
      rw [h1,e,ho];rfl
     ·rw [if_pos (by rw [h2];simp [ho])]
      have e:s.fin.dn=s.dn++[s.op.map clF]:=by unfold PS.fin;rw [if_neg ho]
      simp only
      rw [h1,e]
      unfold lastD
      simp only [List.getLastD_concat]
      rw [setLast_snoc]
    ·have:(if t.o=true then RS.mk (setLast t.l (lastD t.l++[fdOf (c::r)])) true else RS.mk (t.l++[[fdOf (c::r)]]) true).o=true:=by split<;>rfl
     rw [this]
     simp
theorem twin_run:∀(L:List (List Nat)) (s:PS) (t:RS) (k:Nat),(∀l ∈ L,∀c ∈ l,c < 256)→Fit s→Twin s t→
  rnER t L=rnE s L∧rnNR t k L=rnN s k L∧(rnE s L=0→(rnSR t L).l=(rnS s L).fin.dn)
 | [],s,t,k,_,_,ht=>⟨rfl,rfl,fun _=>ht.1⟩
 | l::r,s,t,k,hb,h,ht=>by
  have he:=twin_err h ht l
  unfold rnER rnE rnNR rnN rnSR rnS
  rw [he]
  by_cases h0:lnE s l=0
  ·obtain ⟨a,b,c⟩:=twin_run r (lnS s l) (lnSR t l) (k+1) (fun m hm=>hb m (by simp [hm])) (fit_line h h0) (twin_line (hb l (by simp)) h ht h0)
   rw [if_pos h0,if_pos h0,if_pos h0,if_pos h0]
   exact ⟨a,b,c⟩
  ·rw [if_neg h0,if_neg h0,if_neg h0,if_neg h0]
   exact ⟨rfl,rfl,fun h=>absurd h h0⟩
theorem cutN_len (l:List Nat):(cutN l).length≤l.length:=List.Sublist.length_le (List.takeWhile_sublist _)
theorem trm_blanks {a b:List Nat} (ha:∀x ∈ a,x=32) (hb:∀x ∈ b,x=32) (m:List Nat):trm (a++(m++b))=trm m:=by
 induction a with
 | nil=>
  rw [List.nil_append]
  induction b generalizing m with
  | nil=>rw [List.append_nil]
  | cons x b ih=>
   obtain rfl:=hb x (by simp)
   rw [show m++32::b=(m++[32])++b by simp,ih (fun y hy=>hb y (by simp [hy])),trm_snoc]
 | cons x a ih=>
  obtain rfl:=ha x (by simp)
  rw [List.cons_append,trm_cons,ih (fun y hy=>ha y (by simp [hy]))]
theorem trm_unique {a m b:List Nat} (ha:∀x ∈ a,x=32) (hb:∀x ∈ b,x=32) (h0:∀x r,m=x::r→x≠32) (h1:∀x r,m=r++[x]→x≠32):trm (a++(m++b))=m:=by
 rw [trm_blanks ha hb,trm_full h0 h1]
theorem get_at {l:List Fd} {n:ByteArray} {k:Nat} (hk:k < l.length):(l[k].n=n→getV (l.drop k) n=true∧fstV (l.drop k) n=l[k].v)∧(l[k].n≠n→getV (l.drop k) n=getV (l.drop (k+1)) n∧fstV (l.drop k) n=fstV (l.drop (k+1)) n):=by
 rw [List.drop_eq_getElem_cons hk,getV_cons,fstV_cons]
 exact ⟨fun h=>by rw [decide_eq_true h,if_pos h];exact ⟨rfl,rfl⟩,fun h=>by rw [decide_eq_false h,if_neg h];exact ⟨rfl,rfl⟩⟩
set_option maxHeartbeats 1000000 in
theorem q5get_any (A:Option Addr) (n c:Nat) (l:List Fd) (nm:ByteArray) (w:World) (h:rdFds w (lt_ w.heap.size) l [.slice A n c]) :
  Calls Tryz.prog 66 #[.slice A n c,.string nm] w fun e w'=>e=.returned (.tuple #[.string (fstV l nm),.bool (getV l nm)])∧w=w':=by
 obtain ⟨rfl,hnc,hcm,hat⟩:=rdFds_at h
 have hcm':c≤9223372036854775807:=hcm
 have HAT:=Lib.hid hat
 clear h hat hcm
 go_enter Tryz.func66,Tryz.ntmps66
 go_wp2
 go_loop [6] (fun i=>∃k:Nat,k≤l.length∧i=.int .i64 k∧getV l nm=getV (l.drop k) nm∧fstV l nm=fstV (l.drop k) nm) (fun i=>l.length - (intOf i).toNat)
 case atStart=>exact ⟨0,Nat.zero_le _,rfl,rfl,rfl⟩
 case round=>
  obtain ⟨k,hk,rfl,h1,h2⟩:=hrel
  have H1:=Lib.hid h1
  have H2:=Lib.hid h2
  clear h1 h2
  by_cases hlt:k < l.length
  ·obtain ⟨ad,rfl,had,c0,c1⟩:=HAT.out k hlt
   have GA:=Lib.hid (get_at (l:=l) (n:=nm) hlt)
   have hq:=str_eq l[k].n nm
   by_cases he:l[k].n=nm
   ·have X:=Lib.hid (GA.out.1 he)
    rw [decide_eq_true he] at hq
    clear he
    go_wp2
    go_ret2
    exact ⟨by rw [H1.out,H2.out,X.out.1,X.out.2];try rfl,rfl⟩
   ·have X:=Lib.hid (GA.out.2 he)
    rw [decide_eq_false he] at hq
    clear he
    go_wp2
    go_round
    case rel=>exact ⟨k+1,by omega,by go_num,by rw [H1.out,X.out.1],by rw [H2.out,X.out.2]⟩
    case measure=>simp [intOf];omega
  ·have X:=Lib.hid (show getV l nm=false∧fstV l nm={ data:=#[] } by rw [H1.out,H2.out,List.drop_eq_nil_of_le (by omega)];exact ⟨rfl,rfl⟩)
   go_wp2
   go_ret2
   exact ⟨by rw [X.out.1,X.out.2];try rfl,rfl⟩
theorem fin67 {W:World} {rb N:Nat} {w:World} {a0 a1 a2 a3 a4 a5 x0 x1 x2 x3 x4 x5:Value} (hb:Below N w W) (hN:N≤rb) (h0:W.cell? ⟨rb,0,none⟩=some a0) (h1:W.cell? ⟨rb,1,none⟩=some a1) (h2:W.cell? ⟨rb,2,none⟩=some a2) (h3:W.cell? ⟨rb,3,none⟩=some a3) (h4:W.cell? ⟨rb,4,none⟩=some a4) (h5:W.cell? ⟨rb,5,none⟩=some a5) :
  ((((((W.setCell ⟨rb,0,none⟩ x0).setCell ⟨rb,1,none⟩ x1).setCell ⟨rb,2,none⟩ x2).setCell ⟨rb,3,none⟩ x3).setCell ⟨rb,4,none⟩ x4).setCell ⟨rb,5,none⟩ x5).cell? ⟨rb,0,none⟩=some x0∧((((((W.setCell ⟨rb,0,none⟩ x0).setCell ⟨rb,1,none⟩ x1).setCell ⟨rb,2,none⟩ x2).setCell ⟨rb,3,none⟩ x3).setCell ⟨rb,4,none⟩ x4).setCell ⟨rb,5,none⟩ x5).cell? ⟨rb,1,none⟩=some x1∧((((((W.setCell ⟨rb,0,none⟩ x0).setCell ⟨rb,1,none⟩ x1).setCell ⟨rb,2,none⟩ x2).setCell ⟨rb,3,none⟩ x3).setCell ⟨rb,4,none⟩ x4).setCell ⟨rb,5,none⟩ x5).cell? ⟨rb,2,none⟩=some x2∧((((((W.setCell ⟨rb,0,none⟩ x0).setCell ⟨rb,1,none⟩ x1).setCell ⟨rb,2,none⟩ x2).setCell ⟨rb,3,none⟩ x3).setCell ⟨rb,4,none⟩ x4).setCell ⟨rb,5,none⟩ x5).cell? ⟨rb,3,none⟩=some x3∧((((((W.setCell ⟨rb,0,none⟩ x0).setCell ⟨rb,1,none⟩ x1).setCell ⟨rb,2,none⟩ x2).setCell ⟨rb,3,none⟩ x3).setCell ⟨rb,4,none⟩ x4).setCell ⟨rb,5,none⟩ x5).cell? ⟨rb,4,none⟩=some x4∧((((((W.setCell ⟨rb,0,none⟩ x0).setCell ⟨rb,1,none⟩ x1).setCell ⟨rb,2,none⟩ x2).setCell ⟨rb,3,none⟩ x3).setCell ⟨rb,4,none⟩ x4).setCell ⟨rb,5,none⟩ x5).cell? ⟨rb,5,none⟩=some x5∧Below N w ((((((W.setCell ⟨rb,0,none⟩ x0).setCell ⟨rb,1,none⟩ x1).setCell ⟨rb,2,none⟩ x2).setCell ⟨rb,3,none⟩ x3).setCell ⟨rb,4,none⟩ x4).setCell ⟨rb,5,none⟩ x5)∧(∀b,b≠rb→((((((W.setCell ⟨rb,0,none⟩ x0).setCell ⟨rb,1,none⟩ x1).setCell ⟨rb,2,none⟩ x2).setCell ⟨rb,3,none⟩ x3).setCell ⟨rb,4,none⟩ x4).setCell ⟨rb,5,none⟩ x5).heap[b]?=W.heap[b]?)∧((((((W.setCell ⟨rb,0,none⟩ x0).setCell ⟨rb,1,none⟩ x1).setCell ⟨rb,2,none⟩ x2).setCell ⟨rb,3,none⟩ x3).setCell ⟨rb,4,none⟩ x4).setCell ⟨rb,5,none⟩ x5).heap.size=W.heap.size:=by
 refine ⟨by simp [go_sem,h0],by simp [go_sem,h1],by simp [go_sem,h2],by simp [go_sem,h3],by simp [go_sem,h4],by simp [go_sem,h5],(((((hb.setCell hN _).setCell hN _).setCell hN _).setCell hN _).setCell hN _).setCell hN _,fun b h=>?_,by simp⟩
 rw [heap_setCell_other _ _ _ _ h,heap_setCell_other _ _ _ _ h,heap_setCell_other _ _ _ _ h,heap_setCell_other _ _ _ _ h,heap_setCell_other _ _ _ _ h,heap_setCell_other _ _ _ _ h]
theorem new7 {α:Type} {E:Rd α} {z N M:Nat} (g:Good E z) {w w':World} {x:α} {cs:List Value} (h:E w (fun b=>M≤b∧b < w.heap.size) x cs) (hN:N < M) (hb:Below w.heap.size w w'):E w' (fun b=>N < b∧b < w'.heap.size) x cs:=
 g.both h (fun b hb'=>hb.block b hb'.2) fun b hb'=>⟨Nat.lt_of_lt_of_le hN hb'.1,Nat.lt_of_lt_of_le hb'.2 hb.size⟩
def RdR7 (w:World) (s:Int × Ent) (e:Ending) (w':World):Prop:=(∃A1 c1 A2 c2 A3 c3 A4 c4,e=.returned (.tuple #[s.2.val A1 c1 A2 c2 A3 c3 A4 c4,.int .i64 s.1])∧EntV w' (lt_ w'.heap.size) s.2 A1 c1 A2 c2 A3 c3 A4 c4)∧Below w.heap.size w w'
theorem rdR7_none {w w':World} {s:Int × Ent} (er:Int) (hs:s=(er,emp)) (hb:Below w.heap.size w w'):RdR7 w s (.returned (.tuple #[.agg #[.string { data:=#[] },.string { data:=#[] },.slice none 0 0,.slice none 0 0,.slice none 0 0,.slice none 0 0],.int .i64 er])) w':=by
 subst hs
 exact ⟨⟨none,0,none,0,none,0,none,0,rfl,⟨rdRow_nil _ _,rdRow_nil _ _,rdRow_nil _ _,rdRow_nil _ _⟩⟩,hb⟩
set_option maxHeartbeats 16000000 in
theorem q6read_any (AE:List Nat→Int) (AL:List Nat→List Atm) (KN:∀(s:ByteArray) (w:World),s.size≤65536→Calls Tryz.prog 67 #[.string s] w fun e w'=>e=.returned (.bool (nameB (B s)))∧w=w')
  (KP:∀(s:ByteArray) (w:World),s.size≤65536→Calls Tryz.prog 69 #[.string s] w fun e' w'=>(∃A c,e'=.returned (.tuple #[.slice A (depL (B s)).length c,.int .i64 (depE (B s))])∧rdGrps w' (fun b=>w.heap.size≤b∧b < w'.heap.size) (depL (B s)) [.slice A (depL (B s)).length c])∧Below w.heap.size w w')
  (KA:∀(s:ByteArray) (w:World),s.size≤65536→Calls Tryz.prog 70 #[.string s] w fun e' w'=>(∃A c,e'=.returned (.tuple #[.slice A (AL (B s)).length c,.int .i64 (AE (B s))])∧rdAtms w' (fun b=>w.heap.size≤b∧b < w'.heap.size) (AL (B s)) [.slice A (AL (B s)).length c])∧Below w.heap.size w w')
  (A:Option Addr) (n c:Nat) (st:List Fd) (w:World) (h:rdFds w (lt_ w.heap.size) st [.slice A n c]) (hz:∀nm,(fstV st nm).size≤65536) :
  Calls Tryz.prog 38 #[.slice A n c] w (RdR7 w (rdE AE AL st)):=by
 obtain ⟨rfl,hnc,hcm,-⟩:=rdFds_at h
 have hcm':c≤9223372036854775807:=hcm
 obtain ⟨w1,hw1⟩:∃W,W=w.alloc (.cells #[.string { data:=#[] },.string { data:=#[] },.slice none 0 0,.slice none 0 0,.slice none 0 0,.slice none 0 0] 34):=⟨_,rfl⟩
 have hb1:Below w.heap.size w w1:=by rw [hw1];exact (Below.refl _ w).alloc (Nat.le_refl _) _
 have hs1:w1.heap.size=w.heap.size+1:=by rw [hw1,World.size_alloc]
 have hc1:(w1.cell? ⟨w.heap.size,0,none⟩=some (.string { data:=#[] })∧w1.cell? ⟨w.heap.size,1,none⟩=some (.string { data:=#[] })∧w1.cell? ⟨w.heap.size,2,none⟩=some (.slice none 0 0)∧w1.cell? ⟨w.heap.size,3,none⟩=some (.slice none 0 0)∧w1.cell? ⟨w.heap.size,4,none⟩=some (.slice none 0 0)∧w1.cell? ⟨w.heap.size,5,none⟩=some (.slice none 0 0)):=by rw [hw1];refine ⟨?_,?_,?_,?_,?_,?_⟩<;>simp [go_sem]
 have hf1:∀o,w1.frozen? ⟨w.heap.size,o,none⟩=false:=fun o=>by rw [hw1];simp [go_sem]
 have B1:=Lib.hid hb1
 have KC:=Lib.hid (fun (W:World) (hb:Below w1.heap.size w1 W)=>(show (W.cell? ⟨w.heap.size,0,none⟩=some (.string { data:=#[] })∧W.cell? ⟨w.heap.size,1,none⟩=some (.string { data:=#[] })∧W.cell? ⟨w.heap.size,2,none⟩=some (.slice none 0 0)∧W.cell? ⟨w.heap.size,3,none⟩=some (.slice none 0 0)∧W.cell? ⟨w.heap.size,4,none⟩=some (.slice none 0 0)∧W.cell? ⟨w.heap.size,5,none⟩=some (.slice none 0 0))∧∀o,W.frozen? ⟨w.heap.size,o,none⟩=false from by
  obtain ⟨k0,k1,k2,k3,k4,k5⟩:=hc1
  exact ⟨⟨keep6 hb k0,keep6 hb k1,keep6 hb k2,keep6 hb k3,keep6 hb k4,keep6 hb k5⟩,fun o=>(hb.frozen (p:=⟨w.heap.size,o,none⟩) (by show w.heap.size < w1.heap.size;omega)).trans (hf1 o)⟩))
 have KG:=Lib.hid (fun nm (W:World) (hb:Below w.heap.size w W)=>q5get_any A st.length c st nm W (rdFds_good.up (rdFds_good.below h hb) hb.size))
 have XP:=Lib.hid (show rdE AE AL st=if getV st nPk=false∨getV st nVe=false then (6,emp)
  else if nameB (B (fstV st nPk))=false then (3,emp)
  else if prB (B (fstV st nVe))=false then (4,emp)
  else if depE (B (fstV st nDe))≠0 then (depE (B (fstV st nDe)),emp)
  else if depE (B (fstV st nRe))≠0 then (depE (B (fstV st nRe)),emp)
  else if AE (B (fstV st nCo))≠0 then (AE (B (fstV st nCo)),emp)
  else if AE (B (fstV st nPr))≠0 then (AE (B (fstV st nPr)),emp)
  else if 8 < (AL (B (fstV st nPr))).length then (8,emp)
  else if givs6 (AL (B (fstV st nPr)))=false then (5,emp)
  else (0,⟨fstV st nPk,fstV st nVe,depL (B (fstV st nDe)),depL (B (fstV st nRe)),AL (B (fstV st nCo)),AL (B (fstV st nPr))⟩) from rfl)
 have Z1:=Lib.hid (hz nPk)
 have Z2:=Lib.hid (hz nVe)
 have Z3:=Lib.hid (hz nDe)
 have Z4:=Lib.hid (hz nRe)
 have Z5:=Lib.hid (hz nCo)
 have Z6:=Lib.hid (hz nPr)
 have G1:=Lib.hid (fun (W:World) (hb:Below w.heap.size w W)=>(show Calls Tryz.prog 66 #[.slice A st.length c,.string { data:=#[80,97,99,107,97,103,101] }] W fun e w'=>e=.returned (.tuple #[.string (fstV st nPk),.bool (getV st nPk)])∧W=w' from KG.out nPk W hb))
 have G2:=Lib.hid (fun (W:World) (hb:Below w.heap.size w W)=>(show Calls Tryz.prog 66 #[.slice A st.length c,.string { data:=#[86,101,114,115,105,111,110] }] W fun e w'=>e=.returned (.tuple #[.string (fstV st nVe),.bool (getV st nVe)])∧W=w' from KG.out nVe W hb))
 have G3:=Lib.hid (fun (W:World) (hb:Below w.heap.size w W)=>(show Calls Tryz.prog 66 #[.slice A st.length c,.string { data:=#[68,101,112,101,110,100,115] }] W fun e w'=>e=.returned (.tuple #[.string (fstV st nDe),.bool (getV st nDe)])∧W=w' from KG.out nDe W hb))
 have G4:=Lib.hid (fun (W:World) (hb:Below w.heap.size w W)=>(show Calls Tryz.prog 66 #[.slice A st.length c,.string { data:=#[82,101,99,111,109,109,101,110,100,115] }] W fun e w'=>e=.returned (.tuple #[.string (fstV st nRe),.bool (getV st nRe)])∧W=w' from KG.out nRe W hb))
 have G5:=Lib.hid (fun (W:World) (hb:Below w.heap.size w W)=>(show Calls Tryz.prog 66 #[.slice A st.length c,.string { data:=#[67,111,110,102,108,105,99,116,115] }] W fun e w'=>e=.returned (.tuple #[.string (fstV st nCo),.bool (getV st nCo)])∧W=w' from KG.out nCo W hb))
 have G6:=Lib.hid (fun (W:World) (hb:Below w.heap.size w W)=>(show Calls Tryz.prog 66 #[.slice A st.length c,.string { data:=#[80,114,111,118,105,100,101,115] }] W fun e w'=>e=.returned (.tuple #[.string (fstV st nPr),.bool (getV st nPr)])∧W=w' from KG.out nPr W hb))
 have SX:=Lib.hid hw1
 have SZ1:=Lib.hid hs1
 clear hb1 hs1 hc1 hf1 h hz hcm hw1 KG
 generalize getV st nPk=g1 at *
 generalize getV st nVe=g2 at *
 generalize fstV st nPk=sp at *
 generalize fstV st nVe=sv at *
 generalize fstV st nDe=sd at *
 generalize fstV st nRe=sr at *
 generalize fstV st nCo=sc at *
 generalize fstV st nPr=sq at *
 generalize rdE AE AL st=R at *
 go_enter Tryz.func38,Tryz.ntmps38
 go_wp2_with fail
 rw [←SX.out]
 refine (G1.out w1 B1.out).mono ?_
 rintro e w' ⟨rfl,rfl⟩
 have V1:=Lib.hid (Below.refl w1.heap.size w1)
 clear SX
 go_wp2_with fail
 refine (G2.out w1 B1.out).mono ?_
 rintro e w' ⟨rfl,rfl⟩
 go_wp2_with fail
 refine (KN sp w1 Z1.out).mono ?_
 rintro e w' ⟨rfl,rfl⟩
 generalize nameB (B sp)=nb at *
 go_wp2_with fail
 refine (q6plain_any sv w1).mono ?_
 rintro e w2 ⟨rfl,hb⟩
 have V2:=Lib.hid hb
 have W2:=Lib.hid (bel_in B1.out hb)
 clear hb
 generalize prB (B sv)=pb at *
 cases g1
 ·have X:=Lib.hid (XP.out.trans (if_pos (.inl rfl)))
  obtain ⟨⟨r0,r1,r2,r3,r4,r5⟩,hfz⟩:=KC.out w2 V2.out
  have f0:=hfz 0
  have f1:=hfz 1
  have f2:=hfz 2
  have f3:=hfz 3
  have f4:=hfz 4
  have f5:=hfz 5
  obtain ⟨k0,k1,k2,k3,k4,k5,bW,hk,hs⟩:=fin67 (x0:=.string { data:=#[] }) (x1:=.string { data:=#[] }) (x2:=.slice none 0 0) (x3:=.slice none 0 0) (x4:=.slice none 0 0) (x5:=.slice none 0 0) (bel_in B1.out V2.out) (Nat.le_refl _) r0 r1 r2 r3 r4 r5
  have KK:=Lib.hid (And.intro k0 (And.intro k1 (And.intro k2 (And.intro k3 (And.intro k4 (And.intro k5 (And.intro bW (And.intro hk hs))))))))
  clear k0 k1 k2 k3 k4 k5 bW hk hs hfz
  go_wp2
  obtain ⟨k0,k1,k2,k3,k4,k5,bW,-,-⟩:=KK.out
  exact bodyPost_ret (v:=.tuple #[.agg #[.string { data:=#[] },.string { data:=#[] },.slice none 0 0,.slice none 0 0,.slice none 0 0,.slice none 0 0],.int .i64 6]) (by simp [results,Tryz.results38,go_sem,k0,k1,k2,k3,k4,k5]) rfl (rdR7_none 6 (X.out) bW)
 cases g2
 ·have X:=Lib.hid (XP.out.trans (if_pos (.inr rfl)))
  obtain ⟨⟨r0,r1,r2,r3,r4,r5⟩,hfz⟩:=KC.out w2 V2.out
  have f0:=hfz 0
  have f1:=hfz 1
  have f2:=hfz 2
  have f3:=hfz 3
  have f4:=hfz 4
  have f5:=hfz 5
  obtain ⟨k0,k1,k2,k3,k4,k5,bW,hk,hs⟩:=fin67 (x0:=.string { data:=#[] }) (x1:=.string { data:=#[] }) (x2:=.slice none 0 0) (x3:=.slice none 0 0) (x4:=.slice none 0 0) (x5:=.slice none 0 0) (bel_in B1.out V2.out) (Nat.le_refl _) r0 r1 r2 r3 r4 r5
  have KK:=Lib.hid (And.intro k0 (And.intro k1 (And.intro k2 (And.intro k3 (And.intro k4 (And.intro k5 (And.intro bW (And.intro hk hs))))))))
  clear k0 k1 k2 k3 k4 k5 bW hk hs hfz
  go_wp2
  obtain ⟨k0,k1,k2,k3,k4,k5,bW,-,-⟩:=KK.out
  exact bodyPost_ret (v:=.tuple #[.agg #[.string { data:=#[] },.string { data:=#[] },.slice none 0 0,.slice none 0 0,.slice none 0 0,.slice none 0 0],.int .i64 6]) (by simp [results,Tryz.results38,go_sem,k0,k1,k2,k3,k4,k5]) rfl (rdR7_none 6 (X.out) bW)
 have XP:=Lib.hid (XP.out.trans (if_neg (by decide)))
 cases nb
 ·have X:=Lib.hid (XP.out.trans (if_pos rfl))
  obtain ⟨⟨r0,r1,r2,r3,r4,r5⟩,hfz⟩:=KC.out w2 V2.out
  have f0:=hfz 0
  have f1:=hfz 1
  have f2:=hfz 2
  have f3:=hfz 3
  have f4:=hfz 4
  have f5:=hfz 5
  obtain ⟨k0,k1,k2,k3,k4,k5,bW,hk,hs⟩:=fin67 (x0:=.string { data:=#[] }) (x1:=.string { data:=#[] }) (x2:=.slice none 0 0) (x3:=.slice none 0 0) (x4:=.slice none 0 0) (x5:=.slice none 0 0) (bel_in B1.out V2.out) (Nat.le_refl _) r0 r1 r2 r3 r4 r5
  have KK:=Lib.hid (And.intro k0 (And.intro k1 (And.intro k2 (And.intro k3 (And.intro k4 (And.intro k5 (And.intro bW (And.intro hk hs))))))))
  clear k0 k1 k2 k3 k4 k5 bW hk hs hfz
  go_wp2
  obtain ⟨k0,k1,k2,k3,k4,k5,bW,-,-⟩:=KK.out
  exact bodyPost_ret (v:=.tuple #[.agg #[.string { data:=#[] },.string { data:=#[] },.slice none 0 0,.slice none 0 0,.slice none 0 0,.slice none 0 0],.int .i64 3]) (by simp [results,Tryz.results38,go_sem,k0,k1,k2,k3,k4,k5]) rfl (rdR7_none 3 (X.out) bW)
 have XP:=Lib.hid (XP.out.trans (if_neg (by decide)))
 cases pb
 ·have X:=Lib.hid (XP.out.trans (if_pos rfl))
  obtain ⟨⟨r0,r1,r2,r3,r4,r5⟩,hfz⟩:=KC.out w2 V2.out
  have f0:=hfz 0
  have f1:=hfz 1
  have f2:=hfz 2
  have f3:=hfz 3
  have f4:=hfz 4
  have f5:=hfz 5
  obtain ⟨k0,k1,k2,k3,k4,k5,bW,hk,hs⟩:=fin67 (x0:=.string { data:=#[] }) (x1:=.string { data:=#[] }) (x2:=.slice none 0 0) (x3:=.slice none 0 0) (x4:=.slice none 0 0) (x5:=.slice none 0 0) (bel_in B1.out V2.out) (Nat.le_refl _) r0 r1 r2 r3 r4 r5
  have KK:=Lib.hid (And.intro k0 (And.intro k1 (And.intro k2 (And.intro k3 (And.intro k4 (And.intro k5 (And.intro bW (And.intro hk hs))))))))
  clear k0 k1 k2 k3 k4 k5 bW hk hs hfz
  go_wp2
  obtain ⟨k0,k1,k2,k3,k4,k5,bW,-,-⟩:=KK.out
  exact bodyPost_ret (v:=.tuple #[.agg #[.string { data:=#[] },.string { data:=#[] },.slice none 0 0,.slice none 0 0,.slice none 0 0,.slice none 0 0],.int .i64 4]) (by simp [results,Tryz.results38,go_sem,k0,k1,k2,k3,k4,k5]) rfl (rdR7_none 4 (X.out) bW)
 have XP2:=Lib.hid (XP.out.trans (if_neg (by decide)))
 go_wp2_with fail
 refine (G3.out w2 W2.out).mono ?_
 rintro e w' ⟨rfl,rfl⟩
 go_wp2_with fail
 refine (G4.out w2 W2.out).mono ?_
 rintro e w' ⟨rfl,rfl⟩
 go_wp2_with fail
 refine (G5.out w2 W2.out).mono ?_
 rintro e w' ⟨rfl,rfl⟩
 go_wp2_with fail
 refine (G6.out w2 W2.out).mono ?_
 rintro e w' ⟨rfl,rfl⟩
 have K:=Lib.hid (KP sd w2 Z3.out)
 generalize hE3:depE (B sd)=e3 at *
 generalize hL3:depL (B sd)=L3 at *
 clear hE3 hL3
 go_wp2_with fail
 refine K.out.mono ?_
 rintro e w3 ⟨⟨P3,p3,rfl,hr3⟩,hb⟩
 have H3:=Lib.hid hr3
 have S3:=Lib.hid hb
 have V3:=Lib.hid (bel_in V2.out hb)
 obtain ⟨-,-,hpc3,-⟩:=rdGrps_at hr3
 have hpc3':p3≤9223372036854775807:=hpc3
 clear hb hr3 K hpc3
 have K:=Lib.hid (KP sr w3 Z4.out)
 generalize hE4:depE (B sr)=e4 at *
 generalize hL4:depL (B sr)=L4 at *
 clear hE4 hL4
 go_wp2_with fail
 refine K.out.mono ?_
 rintro e w4 ⟨⟨P4,p4,rfl,hr4⟩,hb⟩
 have H4:=Lib.hid hr4
 have S4:=Lib.hid hb
 have V4:=Lib.hid (bel_in V3.out hb)
 obtain ⟨-,-,hpc4,-⟩:=rdGrps_at hr4
 have hpc4':p4≤9223372036854775807:=hpc4
 clear hb hr4 K hpc4
 have K:=Lib.hid (KA sc w4 Z5.out)
 generalize hE5:AE (B sc)=e5 at *
 generalize hL5:AL (B sc)=L5 at *
 clear hE5 hL5
 go_wp2_with fail
 refine K.out.mono ?_
 rintro e w5 ⟨⟨P5,p5,rfl,hr5⟩,hb⟩
 have H5:=Lib.hid hr5
 have S5:=Lib.hid hb
 have V5:=Lib.hid (bel_in V4.out hb)
 obtain ⟨-,-,hpc5,-⟩:=rdAtms_at hr5
 have hpc5':p5≤9223372036854775807:=hpc5
 clear hb hr5 K hpc5
 have K:=Lib.hid (KA sq w5 Z6.out)
 generalize hE6:AE (B sq)=e6 at *
 generalize hL6:AL (B sq)=L6 at *
 clear hE6 hL6
 go_wp2_with fail
 refine K.out.mono ?_
 rintro e w6 ⟨⟨P6,p6,rfl,hr6⟩,hb⟩
 have H6:=Lib.hid hr6
 have S6:=Lib.hid hb
 have V6:=Lib.hid (bel_in V5.out hb)
 obtain ⟨-,-,hpc6,-⟩:=rdAtms_at hr6
 have hpc6':p6≤9223372036854775807:=hpc6
 clear hb hr6 K hpc6
 have K:=Lib.hid (q6given_any P6 L6.length p6 L6 w6 (rdAtms_good.more H6.out fun b hb=>hb.2))
 generalize givs6 L6=gv at *
 go_wp2_with fail
 refine K.out.mono ?_
 rintro e w' ⟨rfl,rfl⟩
 clear K
 by_cases q3:e3≠0
 ·have X:=Lib.hid (XP2.out.trans (if_pos q3))
  have t3:(e3 != 0)=true:=by rw [bne_iff_ne];exact q3
  clear q3
  obtain ⟨⟨r0,r1,r2,r3,r4,r5⟩,hfz⟩:=KC.out w6 V6.out
  have f0:=hfz 0
  have f1:=hfz 1
  have f2:=hfz 2
  have f3:=hfz 3
  have f4:=hfz 4
  have f5:=hfz 5
  obtain ⟨k0,k1,k2,k3,k4,k5,bW,hk,hs⟩:=fin67 (x0:=.string { data:=#[] }) (x1:=.string { data:=#[] }) (x2:=.slice none 0 0) (x3:=.slice none 0 0) (x4:=.slice none 0 0) (x5:=.slice none 0 0) (bel_in B1.out V6.out) (Nat.le_refl _) r0 r1 r2 r3 r4 r5
  have KK:=Lib.hid (And.intro k0 (And.intro k1 (And.intro k2 (And.intro k3 (And.intro k4 (And.intro k5 (And.intro bW (And.intro hk hs))))))))
  clear k0 k1 k2 k3 k4 k5 bW hk hs hfz
  go_wp2
  obtain ⟨k0,k1,k2,k3,k4,k5,bW,-,-⟩:=KK.out
  exact bodyPost_ret (v:=.tuple #[.agg #[.string { data:=#[] },.string { data:=#[] },.slice none 0 0,.slice none 0 0,.slice none 0 0,.slice none 0 0],.int .i64 e3]) (by simp [results,Tryz.results38,go_sem,k0,k1,k2,k3,k4,k5]) rfl (rdR7_none e3 (X.out) bW)
 have XP3:=Lib.hid (XP2.out.trans (if_neg q3))
 obtain rfl:e3=0:=Decidable.not_not.1 q3
 clear q3
 by_cases q4:e4≠0
 ·have X:=Lib.hid (XP3.out.trans (if_pos q4))
  have t4:(e4 != 0)=true:=by rw [bne_iff_ne];exact q4
  clear q4
  obtain ⟨⟨r0,r1,r2,r3,r4,r5⟩,hfz⟩:=KC.out w6 V6.out
  have f0:=hfz 0
  have f1:=hfz 1
  have f2:=hfz 2
  have f3:=hfz 3
  have f4:=hfz 4
  have f5:=hfz 5
  obtain ⟨k0,k1,k2,k3,k4,k5,bW,hk,hs⟩:=fin67 (x0:=.string { data:=#[] }) (x1:=.string { data:=#[] }) (x2:=.slice none 0 0) (x3:=.slice none 0 0) (x4:=.slice none 0 0) (x5:=.slice none 0 0) (bel_in B1.out V6.out) (Nat.le_refl _) r0 r1 r2 r3 r4 r5
  have KK:=Lib.hid (And.intro k0 (And.intro k1 (And.intro k2 (And.intro k3 (And.intro k4 (And.intro k5 (And.intro bW (And.intro hk hs))))))))
  clear k0 k1 k2 k3 k4 k5 bW hk hs hfz
  go_wp2
  obtain ⟨k0,k1,k2,k3,k4,k5,bW,-,-⟩:=KK.out
  exact bodyPost_ret (v:=.tuple #[.agg #[.string { data:=#[] },.string { data:=#[] },.slice none 0 0,.slice none 0 0,.slice none 0 0,.slice none 0 0],.int .i64 e4]) (by simp [results,Tryz.results38,go_sem,k0,k1,k2,k3,k4,k5]) rfl (rdR7_none e4 (X.out) bW)
 have XP4:=Lib.hid (XP3.out.trans (if_neg q4))
 obtain rfl:e4=0:=Decidable.not_not.1 q4
 clear q4
 by_cases q5:e5≠0
 ·have X:=Lib.hid (XP4.out.trans (if_pos q5))
  have t5:(e5 != 0)=true:=by rw [bne_iff_ne];exact q5
  clear q5
  obtain ⟨⟨r0,r1,r2,r3,r4,r5⟩,hfz⟩:=KC.out w6 V6.out
  have f0:=hfz 0
  have f1:=hfz 1
  have f2:=hfz 2
  have f3:=hfz 3
  have f4:=hfz 4
  have f5:=hfz 5
  obtain ⟨k0,k1,k2,k3,k4,k5,bW,hk,hs⟩:=fin67 (x0:=.string { data:=#[] }) (x1:=.string { data:=#[] }) (x2:=.slice none 0 0) (x3:=.slice none 0 0) (x4:=.slice none 0 0) (x5:=.slice none 0 0) (bel_in B1.out V6.out) (Nat.le_refl _) r0 r1 r2 r3 r4 r5
  have KK:=Lib.hid (And.intro k0 (And.intro k1 (And.intro k2 (And.intro k3 (And.intro k4 (And.intro k5 (And.intro bW (And.intro hk hs))))))))
  clear k0 k1 k2 k3 k4 k5 bW hk hs hfz
  go_wp2
  obtain ⟨k0,k1,k2,k3,k4,k5,bW,-,-⟩:=KK.out
  exact bodyPost_ret (v:=.tuple #[.agg #[.string { data:=#[] },.string { data:=#[] },.slice none 0 0,.slice none 0 0,.slice none 0 0,.slice none 0 0],.int .i64 e5]) (by simp [results,Tryz.results38,go_sem,k0,k1,k2,k3,k4,k5]) rfl (rdR7_none e5 (X.out) bW)
 have XP5:=Lib.hid (XP4.out.trans (if_neg q5))
 obtain rfl:e5=0:=Decidable.not_not.1 q5
 clear q5
 by_cases q6:e6≠0
 ·have X:=Lib.hid (XP5.out.trans (if_pos q6))
  have t6:(e6 != 0)=true:=by rw [bne_iff_ne];exact q6
  clear q6
  obtain ⟨⟨r0,r1,r2,r3,r4,r5⟩,hfz⟩:=KC.out w6 V6.out
  have f0:=hfz 0
  have f1:=hfz 1
  have f2:=hfz 2
  have f3:=hfz 3
  have f4:=hfz 4
  have f5:=hfz 5
  obtain ⟨k0,k1,k2,k3,k4,k5,bW,hk,hs⟩:=fin67 (x0:=.string { data:=#[] }) (x1:=.string { data:=#[] }) (x2:=.slice none 0 0) (x3:=.slice none 0 0) (x4:=.slice none 0 0) (x5:=.slice none 0 0) (bel_in B1.out V6.out) (Nat.le_refl _) r0 r1 r2 r3 r4 r5
  have KK:=Lib.hid (And.intro k0 (And.intro k1 (And.intro k2 (And.intro k3 (And.intro k4 (And.intro k5 (And.intro bW (And.intro hk hs))))))))
  clear k0 k1 k2 k3 k4 k5 bW hk hs hfz
  go_wp2
  obtain ⟨k0,k1,k2,k3,k4,k5,bW,-,-⟩:=KK.out
  exact bodyPost_ret (v:=.tuple #[.agg #[.string { data:=#[] },.string { data:=#[] },.slice none 0 0,.slice none 0 0,.slice none 0 0,.slice none 0 0],.int .i64 e6]) (by simp [results,Tryz.results38,go_sem,k0,k1,k2,k3,k4,k5]) rfl (rdR7_none e6 (X.out) bW)
 have XP6:=Lib.hid (XP5.out.trans (if_neg q6))
 obtain rfl:e6=0:=Decidable.not_not.1 q6
 clear q6
 by_cases q8:(8:Int) < (L6.length:Int)
 ·have X:=Lib.hid (XP6.out.trans (if_pos (by omega)))
  obtain ⟨⟨r0,r1,r2,r3,r4,r5⟩,hfz⟩:=KC.out w6 V6.out
  have f0:=hfz 0
  have f1:=hfz 1
  have f2:=hfz 2
  have f3:=hfz 3
  have f4:=hfz 4
  have f5:=hfz 5
  obtain ⟨k0,k1,k2,k3,k4,k5,bW,hk,hs⟩:=fin67 (x0:=.string { data:=#[] }) (x1:=.string { data:=#[] }) (x2:=.slice none 0 0) (x3:=.slice none 0 0) (x4:=.slice none 0 0) (x5:=.slice none 0 0) (bel_in B1.out V6.out) (Nat.le_refl _) r0 r1 r2 r3 r4 r5
  have KK:=Lib.hid (And.intro k0 (And.intro k1 (And.intro k2 (And.intro k3 (And.intro k4 (And.intro k5 (And.intro bW (And.intro hk hs))))))))
  clear k0 k1 k2 k3 k4 k5 bW hk hs hfz
  go_wp2
  obtain ⟨k0,k1,k2,k3,k4,k5,bW,-,-⟩:=KK.out
  exact bodyPost_ret (v:=.tuple #[.agg #[.string { data:=#[] },.string { data:=#[] },.slice none 0 0,.slice none 0 0,.slice none 0 0,.slice none 0 0],.int .i64 8]) (by simp [results,Tryz.results38,go_sem,k0,k1,k2,k3,k4,k5]) rfl (rdR7_none 8 (X.out) bW)
 have XP7:=Lib.hid (XP6.out.trans (if_neg (by omega)))
 cases gv
 ·have X:=Lib.hid (XP7.out.trans (if_pos rfl))
  obtain ⟨⟨r0,r1,r2,r3,r4,r5⟩,hfz⟩:=KC.out w6 V6.out
  have f0:=hfz 0
  have f1:=hfz 1
  have f2:=hfz 2
  have f3:=hfz 3
  have f4:=hfz 4
  have f5:=hfz 5
  obtain ⟨k0,k1,k2,k3,k4,k5,bW,hk,hs⟩:=fin67 (x0:=.string { data:=#[] }) (x1:=.string { data:=#[] }) (x2:=.slice none 0 0) (x3:=.slice none 0 0) (x4:=.slice none 0 0) (x5:=.slice none 0 0) (bel_in B1.out V6.out) (Nat.le_refl _) r0 r1 r2 r3 r4 r5
  have KK:=Lib.hid (And.intro k0 (And.intro k1 (And.intro k2 (And.intro k3 (And.intro k4 (And.intro k5 (And.intro bW (And.intro hk hs))))))))
  clear k0 k1 k2 k3 k4 k5 bW hk hs hfz
  go_wp2
  obtain ⟨k0,k1,k2,k3,k4,k5,bW,-,-⟩:=KK.out
  exact bodyPost_ret (v:=.tuple #[.agg #[.string { data:=#[] },.string { data:=#[] },.slice none 0 0,.slice none 0 0,.slice none 0 0,.slice none 0 0],.int .i64 5]) (by simp [results,Tryz.results38,go_sem,k0,k1,k2,k3,k4,k5]) rfl (rdR7_none 5 (X.out) bW)
 have X:=Lib.hid (XP7.out.trans (if_neg (by decide)))
 have HV:=Lib.hid (show EntV w6 (fun b=>w.heap.size < b∧b < w6.heap.size) ⟨sp,sv,L3,L4,L5,L6⟩ P3 p3 P4 p4 P5 p5 P6 p6 from ⟨new7 rdGrps_good H3.out (by have:=V2.out.size;have:=SZ1.out;omega) (bel_in S4.out (bel_in S5.out S6.out)),new7 rdGrps_good H4.out (by have:=V3.out.size;have:=SZ1.out;omega) (bel_in S5.out S6.out),new7 rdAtms_good H5.out (by have:=V4.out.size;have:=SZ1.out;omega) S6.out,new7 rdAtms_good H6.out (by have:=V5.out.size;have:=SZ1.out;omega) (Below.refl _ _)⟩)
 obtain ⟨⟨r0,r1,r2,r3,r4,r5⟩,hfz⟩:=KC.out w6 V6.out
 have f0:=hfz 0
 have f1:=hfz 1
 have f2:=hfz 2
 have f3:=hfz 3
 have f4:=hfz 4
 have f5:=hfz 5
 obtain ⟨k0,k1,k2,k3,k4,k5,bW,hk,hs⟩:=fin67 (x0:=.string sp) (x1:=.string sv) (x2:=.slice P3 L3.length p3) (x3:=.slice P4 L4.length p4) (x4:=.slice P5 L5.length p5) (x5:=.slice P6 L6.length p6) (bel_in B1.out V6.out) (Nat.le_refl _) r0 r1 r2 r3 r4 r5
 have KK:=Lib.hid (And.intro k0 (And.intro k1 (And.intro k2 (And.intro k3 (And.intro k4 (And.intro k5 (And.intro bW (And.intro hk hs))))))))
 clear k0 k1 k2 k3 k4 k5 bW hk hs hfz
 go_wp2
 obtain ⟨k0,k1,k2,k3,k4,k5,bW,hk,hs⟩:=KK.out
 refine bodyPost_ret (v:=.tuple #[.agg #[.string sp,.string sv,.slice P3 L3.length p3,.slice P4 L4.length p4,.slice P5 L5.length p5,.slice P6 L6.length p6],.int .i64 0]) (by simp [results,Tryz.results38,go_sem,k0,k1,k2,k3,k4,k5]) rfl ?_
 rw [X.out]
 exact ⟨⟨P3,p3,P4,p4,P5,p5,P6,p6,rfl,HV.out.to (fun b hb=>hk b (by have:=hb.1;omega)) (fun b hb=>by show b < _;rw [hs];exact hb.2)⟩,bW⟩
theorem q7mk_any (A:Option Addr) (n c:Nat) (st:List Fd) (nm:ByteArray) (w:World) (h:rdFds w (lt_ w.heap.size) st [.slice A n c]) :
  Calls Tryz.prog 39 #[.slice A n c,.string nm] w fun e w'=>e=.returned (.tuple #[.bool (mkB st nm),.bool (mkO st nm)])∧w=w':=by
 have KG:=Lib.hid (q5get_any A n c st nm w h)
 have X:=Lib.hid (show mkB st nm=(getV st nm&&decide (fstV st nm=yes7))∧mkO st nm=(!getV st nm||(decide (fstV st nm=yes7)||decide (fstV st nm=no7))) from ⟨rfl,rfl⟩)
 generalize mkB st nm=b1 at *
 generalize mkO st nm=b2 at *
 clear h
 generalize fstV st nm=v at *
 generalize getV st nm=g at *
 have e1:yes7.toList=[121,101,115]:=by kernel_rfl
 have e2:no7.toList=[110,111]:=by kernel_rfl
 have hy:(v.toList==[121,101,115])=decide (v=yes7):=by rw [←str_eq,e1]
 have hn:(v.toList==[110,111])=decide (v=no7):=by rw [←str_eq,e2]
 clear e1 e2
 generalize decide (v=yes7)=dy at *
 generalize decide (v=no7)=dn at *
 cases g
 ·go_enter Tryz.func39,Tryz.ntmps39
  go_wp2_with fail
  refine KG.out.mono ?_
  rintro e w' ⟨rfl,rfl⟩
  go_wp2
  go_ret2
  exact ⟨by rw [X.out.1,X.out.2];try rfl,rfl⟩
 ·cases dy<;>cases dn
  all_goals
   go_enter Tryz.func39,Tryz.ntmps39
   go_wp2_with fail
   refine KG.out.mono ?_
   rintro e w' ⟨rfl,rfl⟩
   go_wp2
   go_ret2
   exact ⟨by rw [X.out.1,X.out.2];try rfl,rfl⟩
theorem paR_no {w w':World} {R:List Hr × Int × Int} {n e:Int} (h:R=([],n,e)) (hb:Below w.heap.size w w'):PaR w R (.returned (.tuple #[.slice none 0 0,.int .i64 n,.int .i64 e])) w':=by
 subst h;exact ⟨⟨none,0,0,rfl,rdRow_nil _ _⟩,hb⟩
set_option maxHeartbeats 16000000 in
theorem q7parse_any (KP:∀(s:ByteArray) (w:World),s.size≤maxLen→Calls Tryz.prog 37 #[.string s] w fun e w'=>(∃v,e=.returned (.tuple #[v,.int .i64 (stN (B s)),.int .i64 (stE (B s))])∧rdStzs w' (lt_ w'.heap.size) (stL (B s)) [v])∧Below w.heap.size w w')
  (RD:List Fd→Int × Ent) (KR:∀(A:Option Addr) (n c:Nat) (st:List Fd) (w:World),rdFds w (lt_ w.heap.size) st [.slice A n c]→(∀nm,(fstV st nm).size≤65536)→Calls Tryz.prog 38 #[.slice A n c] w (RdR7 w (RD st)))
  (s:ByteArray) (w:World) (hs:s.size≤maxLen) (hz:stE (B s)=0→∀st ∈ stL (B s),∀nm,(fstV st nm).size≤65536) :
  Calls Tryz.prog 11 #[.string s] w (PaR w (paD RD (B s))):=by
 have K:=Lib.hid (KP s w hs)
 have KR:=Lib.hid KR
 have HZ:=Lib.hid hz
 have X:=Lib.hid (show paD RD (B s)=if stE (B s)≠0 then ([],((stN (B s):Nat):Int),stE (B s)) else if 64 < (stL (B s)).length then ([],0,8) else goH RD (stL (B s)) 0 [] from rfl)
 clear hz KP
 generalize paD RD (B s)=R at *
 generalize stE (B s)=er at *
 generalize stN (B s)=ln at *
 generalize stL (B s)=L at *
 go_enter Tryz.func11,Tryz.ntmps11
 go_wp2_with fail
 refine K.out.mono ?_
 rintro e w1 ⟨⟨v1,rfl,hr⟩,hb⟩
 have B1:=Lib.hid hb
 obtain ⟨AL,cL,hv1,_⟩:=id hr
 simp only [List.cons.injEq,and_true] at hv1
 subst hv1
 obtain ⟨-,hnc,hcm,-⟩:=rdStzs_at hr
 have hcm':cL≤9223372036854775807:=hcm
 have HL:=Lib.hid hr
 clear hb hr hcm K
 by_cases h0:er≠0
 ·have X1:=Lib.hid (X.out.trans (if_pos h0))
  have t0:(er != 0)=true:=by rw [bne_iff_ne];exact h0
  clear h0
  go_wp2
  go_ret3
  exact paR_no X1.out B1.out
 have X1:=Lib.hid (X.out.trans (if_neg h0))
 have HZ2:=Lib.hid (HZ.out (Decidable.not_not.1 h0))
 obtain rfl:er=0:=Decidable.not_not.1 h0
 clear h0
 by_cases h64:(64:Int) < (L.length:Int)
 ·have X2:=Lib.hid (X1.out.trans (if_pos (by omega)))
  go_wp2
  go_ret3
  exact paR_no X2.out B1.out
 have X2:=Lib.hid (X1.out.trans (if_neg (by omega)))
 have H64:=Lib.hid (show L.length≤64 by omega)
 go_wp2
 go_loopw [8,9] (fun u i wr=>∃(k:Nat) (out:List Hr),k≤L.length∧i=.int .i64 k∧R=goH RD (L.drop k) k out∧out.length≤k∧(∃Au nu cu,u=.slice Au nu cu∧rdHrs wr (lt_ wr.heap.size) out [.slice Au nu cu])∧Below w1.heap.size w1 wr) (fun _ i _=>L.length - (intOf i).toNat)
 case atStart=>exact ⟨0,[],Nat.zero_le _,rfl,X2.out,Nat.le_refl _,⟨none,0,0,rfl,rdRow_nil _ _⟩,Below.refl _ _⟩
 case round=>
  obtain ⟨k,out,hk,rfl,hR,hol,⟨Au,nu,cu,rfl,hru⟩,hb1⟩:=hrel
  have HR:=Lib.hid hR
  have HOL:=Lib.hid hol
  have HU:=Lib.hid hru
  have HB:=Lib.hid (bel_in B1.out hb1)
  have HB1:=Lib.hid hb1
  clear hR hol hru hb1 X X1 X2
  by_cases hlt:k < L.length
  ·obtain ⟨-,-,-,hat⟩:=rdStzs_at (rdStzs_good.up (rdStzs_good.below HL.out HB1.out) HB1.out.size)
   obtain ⟨ad,A',c',rfl,-,h0,h1⟩:=hat k hlt
   have i0:(0:Int)≤(k:Int):=by omega
   have i1:(k:Int) < (L.length:Int):=by omega
   have hk64:=H64.out
   have i2:(k:Int)≤64:=by omega
   have GA:=Lib.hid (HR.out.trans (goH_at hlt out))
   have K1:=Lib.hid (KR.out A' L[k].length c' L[k] wr h1 (HZ2.out _ (List.getElem_mem hlt)))
   have M1:=Lib.hid (fun (W:World) (hb:Below wr.heap.size wr W)=>(show Calls Tryz.prog 39 #[.slice A' L[k].length c',.string { data:=#[65,117,116,111] }] W fun e w'=>e=.returned (.tuple #[.bool (mkB L[k] nAu),.bool (mkO L[k] nAu)])∧W=w' from q7mk_any A' L[k].length c' L[k] nAu W (rdFds_good.up (rdFds_good.below h1 hb) hb.size)))
   have M2:=Lib.hid (fun (W:World) (hb:Below wr.heap.size wr W)=>(show Calls Tryz.prog 39 #[.slice A' L[k].length c',.string { data:=#[72,111,108,100] }] W fun e w'=>e=.returned (.tuple #[.bool (mkB L[k] nHo),.bool (mkO L[k] nHo)])∧W=w' from q7mk_any A' L[k].length c' L[k] nHo W (rdFds_good.up (rdFds_good.below h1 hb) hb.size)))
   have H0:=Lib.hid h0
   clear hat h1
   generalize L[k]=st at *
   generalize mkB st nAu=ba at *
   generalize mkB st nHo=bh at *
   generalize mkO st nAu=oa at *
   generalize mkO st nHo=oh at *
   generalize hsx:RD st=sx at *
   obtain ⟨er2,xe⟩:=sx
   clear hsx
   simp only at GA
   have KF:=Lib.hid (fun (W:World) (hb:Below wr.heap.size wr W)=>q7find_any Au nu cu out xe.n W (rdHrs_good.up (rdHrs_good.below HU.out hb) hb.size))
   go_wp2_with fail
   refine K1.out.mono ?_
   rintro e w3 ⟨⟨A1,c1,A2,c2,A3,c3,A4,c4,rfl,hv⟩,hb⟩
   have V3:=Lib.hid hb
   have HX:=Lib.hid hv
   clear hb hv h0 K1
   obtain ⟨w4,hw4⟩:∃W,W=w3.alloc (.cells #[.string xe.n,.string xe.v,.slice A1 xe.d.length c1,.slice A2 xe.r.length c2,.slice A3 xe.c.length c3,.slice A4 xe.p.length c4] 34):=⟨_,rfl⟩
   have hb4:Below w3.heap.size w3 w4:=by rw [hw4];exact (Below.refl _ _).alloc (Nat.le_refl _) _
   have hc4:(show World→Prop from fun W=>W.cell? ⟨w3.heap.size,0,none⟩=some (.string xe.n)∧W.cell? ⟨w3.heap.size,1,none⟩=some (.string xe.v)∧W.cell? ⟨w3.heap.size,2,none⟩=some (.slice A1 xe.d.length c1)∧W.cell? ⟨w3.heap.size,3,none⟩=some (.slice A2 xe.r.length c2)∧W.cell? ⟨w3.heap.size,4,none⟩=some (.slice A3 xe.c.length c3)∧W.cell? ⟨w3.heap.size,5,none⟩=some (.slice A4 xe.p.length c4)) w4:=by rw [hw4];refine ⟨?_,?_,?_,?_,?_,?_⟩<;>simp [go_sem]
   have V4:=Lib.hid (bel_in V3.out hb4)
   have HX4:=Lib.hid (HX.out.on hb4)
   have KC:=Lib.hid (fun (W:World) (hb:Below w4.heap.size w4 W)=>(show W.cell? ⟨w3.heap.size,0,none⟩=some (.string xe.n)∧W.cell? ⟨w3.heap.size,1,none⟩=some (.string xe.v)∧W.cell? ⟨w3.heap.size,2,none⟩=some (.slice A1 xe.d.length c1)∧W.cell? ⟨w3.heap.size,3,none⟩=some (.slice A2 xe.r.length c2)∧W.cell? ⟨w3.heap.size,4,none⟩=some (.slice A3 xe.c.length c3)∧W.cell? ⟨w3.heap.size,5,none⟩=some (.slice A4 xe.p.length c4) from by
    obtain ⟨k0,k1,k2,k3,k4,k5⟩:=hc4
    exact ⟨keep6 hb k0,keep6 hb k1,keep6 hb k2,keep6 hb k3,keep6 hb k4,keep6 hb k5⟩))
   have h4:=keep6 V4.out H0.out
   have SX:=Lib.hid hw4
   rw [hw4] at h4
   clear hb4 hc4
   go_wp2_with fail
   rw [←SX.out]
   rw [←SX.out] at h4
   clear SX hw4
   refine (M1.out w4 V4.out).mono ?_
   rintro e w' ⟨rfl,rfl⟩
   go_wp2_with fail
   refine (M2.out w4 V4.out).mono ?_
   rintro e w' ⟨rfl,rfl⟩
   obtain ⟨k0,-⟩:=KC.out w4 (Below.refl _ _)
   go_wp2_with fail
   refine (KF.out w4 V4.out).mono ?_
   rintro e w5 ⟨⟨B1,d1,B2v,d2,B3,d3,B4,d4,rfl,-⟩,hb⟩
   have V5:=Lib.hid (bel_in V4.out hb)
   have HX5:=Lib.hid (HX4.out.on hb)
   have KC:=Lib.hid (fun (W:World) (hx:Below w5.heap.size w5 W)=>KC.out W (bel_in hb hx))
   clear hb k0 h4 KF
   generalize (fdH out xe.n).getD nil7=y at *
   generalize (fdH out xe.n).isSome=tw at *
   obtain ⟨w6,hw6⟩:∃W,W=w5.alloc (.cells #[.string y.e.n,.string y.e.v,.slice B1 y.e.d.length d1,.slice B2v y.e.r.length d2,.slice B3 y.e.c.length d3,.slice B4 y.e.p.length d4,.bool y.a,.bool y.h] 36):=⟨_,rfl⟩
   have hb6:Below w5.heap.size w5 w6:=by rw [hw6];exact (Below.refl _ _).alloc (Nat.le_refl _) _
   have V6:=Lib.hid (bel_in V5.out hb6)
   have W6:=Lib.hid (bel_in HB.out V6.out)
   have HX6:=Lib.hid (HX5.out.on hb6)
   obtain ⟨k0,k1,k2,k3,k4,k5⟩:=KC.out w6 hb6
   have KT:=Lib.hid (And.intro k0 (And.intro k1 (And.intro k2 (And.intro k3 (And.intro k4 k5)))))
   have SY:=Lib.hid hw6
   clear hb6 hw6 k0 k1 k2 k3 k4 k5
   by_cases hz:er2≠0
   ·have X3:=Lib.hid (GA.out.trans (if_pos hz))
    have t1:(er2 != 0)=true:=by rw [bne_iff_ne];exact hz
    have t2:(er2==0)=false:=by rw [beq_eq_false_iff_ne];exact hz
    clear hz
    go_wp2_with fail
    rw [←SY.out]
    go_ret3
    exact paR_no X3.out W6.out
   have G1:=Lib.hid (GA.out.trans (if_neg hz))
   obtain rfl:er2=0:=Decidable.not_not.1 hz
   clear hz
   cases oa
   ·have X3:=Lib.hid (G1.out.trans (if_pos rfl))
    go_wp2_with fail
    rw [←SY.out]
    go_ret3
    exact paR_no X3.out W6.out
   cases oh
   ·have X3:=Lib.hid (G1.out.trans (if_pos rfl))
    go_wp2_with fail
    rw [←SY.out]
    go_ret3
    exact paR_no X3.out W6.out
   have G2:=Lib.hid (G1.out.trans (if_neg (by decide)))
   cases tw
   ·have G3:=Lib.hid (G2.out.trans (if_neg (by decide)))
    have KW:=Lib.hid (q7with_any Au nu cu out ⟨xe,ba,bh⟩ A1 c1 A2 c2 A3 c3 A4 c4 w6 (rdHrs_good.up (rdHrs_good.below HU.out V6.out) V6.out.size) HX6.out (by have:=HOL.out;have:=H64.out;omega))
    have WL:=Lib.hid (wi_len out ⟨xe,ba,bh⟩)
    obtain ⟨k0,k1,k2,k3,k4,k5⟩:=KT.out
    rw [SY.out] at k0 k1 k2 k3 k4 k5
    go_wp2_with fail
    rw [←SY.out]
    clear k0 k1 k2 k3 k4 k5
    refine KW.out.mono ?_
    rintro e w8 ⟨⟨A8,c8,rfl,hr8⟩,hb⟩
    have V8:=Lib.hid (bel_in V6.out hb)
    have H8:=Lib.hid hr8
    clear hb hr8
    go_wp2
    go_roundw
    case rel=>exact ⟨k+1,_,by omega,by go_num,G3.out,by have:=WL.out;have:=HOL.out;omega,⟨A8,_,c8,rfl,H8.out⟩,bel_in HB1.out V8.out⟩
    case measure=>simp [intOf];omega
   ·have X3:=Lib.hid (G2.out.trans (if_pos rfl))
    go_wp2_with fail
    rw [←SY.out]
    go_ret3
    exact paR_no X3.out W6.out
  ·obtain rfl:k=L.length:=by omega
   have X3:=Lib.hid (show R=(out,0,0) by rw [HR.out,List.drop_eq_nil_of_le (Nat.le_refl _)];rfl)
   go_wp2
   go_ret3
   exact ⟨⟨Au,nu,cu,by rw [X3.out];try rfl,by rw [X3.out];exact HU.out⟩,HB.out⟩
end Go.Proofs.YtboinnjncaehkaaGreatDoor
