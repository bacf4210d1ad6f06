/- What the laws rest on: CutP, StzP, S5c, S5d, HeldA, E8c, E8g. -/
import Derived.Test.YtbljkpbaceiaiaaGreatDoorQABZA
import Derived.Test.YtbljkpbaceiaiaaGreatDoorQADZA
import Derived.Test.YtbljkpbaceiaiaaGreatDoorQAFZA
set_option maxRecDepth 100000
set_option linter.unusedVariables false
set_option linter.unusedSimpArgs false
namespace Go.Proofs.YtbljkpbaceiaiaaGreatDoor
open Go.RowKit
theorem twl_all {p:Nat→Bool}:∀{l:List Nat} {x:Nat},x ∈ l.takeWhile p→p x=true
 | [],x,h=>by simp at h
 | y::l,x,h=>by
  rw [List.takeWhile_cons] at h
  split at h
  ·rcases List.mem_cons.1 h with rfl|h
   ·assumption
   ·exact twl_all h
  ·simp at h
structure RS where
 l:List (List Fd)
 o:Bool
def setLast {α:Type} (l:List α) (x:α):List α:=l.dropLast++[x]
def lastD (l:List (List Fd)):List Fd:=l.getLastD []
def addV (f:Fd) (r:List Nat):Fd:=⟨f.n,mk (B f.v++(10::r))⟩
def fdOf (l:List Nat):Fd:=⟨mk (nmOf l),mk (vlOf l)⟩
def begER (s:RS) (l:List Nat):Int:=
 if (decide (58 ∈ l)&&fnB (nmOf l))=true then
  (if s.o=true then (if getV (lastD s.l) (mk (nmOf l))=true then 7 else if 40≤(lastD s.l).length then 8 else 0) else if 200≤s.l.length then 8 else 0)
 else 5
def lnER (s:RS) (l:List Nat):Int:=
 if lowB l=true then 5 else match l with
  | []=>0
  | c::r=>if c=32 then (if (!s.o||decide (r=[]))=true then 5 else 0) else begER s (c::r)
def lnSR (s:RS) (l:List Nat):RS:=
 match l with
  | []=>⟨s.l,false⟩
  | c::r=>if c=32 then ⟨setLast s.l (setLast (lastD s.l) (addV ((lastD s.l).getLastD ⟨mk [],mk []⟩) r)),s.o⟩
   else if s.o=true then ⟨setLast s.l (lastD s.l++[fdOf (c::r)]),true⟩ else ⟨s.l++[[fdOf (c::r)]],true⟩
def rnER (s:RS):List (List Nat)→Int
 | []=>0
 | l::r=>if lnER s l=0 then rnER (lnSR s l) r else lnER s l
def rnNR (s:RS) (k:Nat):List (List Nat)→Nat
 | []=>0
 | l::r=>if lnER s l=0 then rnNR (lnSR s l) (k+1) r else k+1
def rnSR (s:RS):List (List Nat)→RS
 | []=>s
 | l::r=>rnSR (lnSR s l) r
def Twin (s:PS) (t:RS):Prop:=t.l=s.fin.dn∧t.o=!decide (s.op=[])
theorem mk_app5 (a b:List Nat):mk (a++b)=mk a++mk b:=by
 unfold mk
 apply ByteArray.ext
 rw [ByteArray.data_append]
 simp
theorem B_joinB_snoc {ls:List (List Nat)} (h:ls≠[]) (x:List Nat):joinB (ls++[x])=mk (B (joinB ls)++(10::x)):=by
 unfold joinB
 rw [joinL_snoc,if_neg h,show (10::x)=[10]++x from rfl,mk_app5,mk_app5 (B _),mk_B]
theorem onLast_ne (x:List Nat) {l:List Opn} (h:l≠[]):onLast x l≠[]:=by
 intro e
 have:=onLast_len x l
 rw [e] at this
 exact h (List.eq_nil_of_length_eq_zero this.symm)
theorem setLast_snoc {α:Type} (i:List α) (z x:α):setLast (i++[z]) x=i++[x]:=by unfold setLast;rw [List.dropLast_concat]
theorem twin0:Twin ps0 ⟨[],false⟩:=⟨rfl,rfl⟩
theorem fin_op {s:PS} {i:List Opn} {f:Opn} (e:s.op=i++[f]):s.fin.dn=s.dn++[i.map clF++[clF f]]:=by
 unfold PS.fin
 rw [if_neg (by rw [e];simp),e];simp
theorem twin_err {s:PS} {t:RS} (h:Fit s) (ht:Twin s t) (l:List Nat):lnER t l=lnE s l:=by
 obtain ⟨h1,h2⟩:=ht
 unfold lnER lnE
 split
 ·rfl
 ·cases l with
  | nil=>rfl
  | cons c r=>
   simp only
   split
   ·unfold goE
    rw [h2,Bool.not_not]
   ·unfold begER begE
    split
    ·rw [h2]
     by_cases ho:s.op=[]
     ·rw [if_neg (by simp [ho]),ho]
      have e:s.fin=s:=by unfold PS.fin;rw [if_pos ho]
      rw [h1,e]
      have hd:=h.d
      by_cases h3:s.dn.length=200
      ·rw [if_pos (by omega)];simp [h3]
      ·rw [if_neg (by omega)];simp [h3]
     ·rw [if_pos (by simp [ho])]
      rcases List.eq_nil_or_concat s.op with e|⟨i,f,e⟩
      ·exact absurd e ho
      ·rw [List.concat_eq_append] at e
       have hl:lastD t.l=s.op.map clF:=by
        rw [h1,fin_op e,e];unfold lastD;simp
       rw [hl,any_cl]
       split
       ·rfl
       ·have hf:=h.f
        have ho':=h.o ho
        rw [List.length_map]
        by_cases h4:s.op.length=40
        ·rw [if_pos (by omega)];simp [h4]
        ·have h5:s.dn.length≠200:=by omega
         rw [if_neg (by omega)];simp [h4,h5]
    ·rfl
theorem twin_line {s:PS} {t:RS} {l:List Nat} (hb:∀c ∈ l,c < 256) (h:Fit s) (ht:Twin s t) (h0:lnE s l=0):Twin (lnS s l) (lnSR t l):=by
 obtain ⟨h1,h2⟩:=ht
 cases l with
 | nil=>
  refine ⟨?_,?_⟩
  ·show t.l=s.fin.fin.dn
   rw [fin_fin,h1]
  ·show false=!decide (s.fin.op=[])
   rw [fin_closed];rfl
 | cons c r=>
  unfold lnE at h0
  split at h0
  ·cases h0
  ·unfold lnS lnSR
   simp only at h0 ⊢
   split at h0
   ·rename_i hc
    rw [if_pos hc,if_pos hc]
    unfold goE at h0
    split at h0
    ·cases h0
    ·rename_i hg
     simp only [Bool.or_eq_true,decide_eq_true_eq] at hg
     have hne:s.op≠[]:=fun e=>hg (.inl e)
     rcases List.eq_nil_or_concat s.op with e|⟨i,f,e⟩
     ·exact absurd e hne
     ·rw [List.concat_eq_append] at e
      have hl:=h.l f (by rw [e];simp)
      have hcl:clF (f.1,f.2++[r])=addV (clF f) r:=by
       unfold clF addV
       simp only
       rw [B_joinB_snoc hl]
      refine ⟨?_,?_⟩
      ·show _=(PS.mk s.dn (onLast r s.op)).fin.dn
       rw [fin_op (s:=PS.mk s.dn (onLast r s.op)) (i:=i) (f:=(f.1,f.2++[r])) (by show onLast _ s.op=_;rw [e,onLast_snoc])]
       simp only
       rw [h1,fin_op e]
       unfold lastD
       simp only [List.getLastD_concat]
       rw [setLast_snoc,setLast_snoc,hcl]
      ·show t.o=!decide (onLast r s.op=[])
       rw [h2]
       have:=onLast_ne r hne
       simp [hne,this]
   ·rename_i hc
    rw [if_neg hc,if_neg hc]
    have hcl:clF (mk (nmOf (c::r)),[vlOf (c::r)])=fdOf (c::r):=by
     unfold clF fdOf joinB
     rfl
    refine ⟨?_,?_⟩
    ·rw [fin_op (s:=PS.mk s.dn (s.op++[(mk (nmOf (c::r)),[vlOf (c::r)])])) rfl,hcl]
     by_cases ho:s.op=[]
     ·rw [if_neg (by rw [h2];simp [ho])]
      have e:s.fin=s:=by unfold PS.fin;rw [if_pos ho]
      simp only
      rw [h1,e,ho];rfl
     ·rw [if_pos (by rw [h2];simp [ho])]
      have e:s.fin.dn=s.dn++[s.op.map clF]:=by unfold PS.fin;rw [if_neg ho]
      simp only
      rw [h1,e]
      unfold lastD
      simp only [List.getLastD_concat]
      rw [setLast_snoc]
    ·have:(if t.o=true then RS.mk (setLast t.l (lastD t.l++[fdOf (c::r)])) true else RS.mk (t.l++[[fdOf (c::r)]]) true).o=true:=by split<;>rfl
     rw [this]
     simp
theorem twin_run:∀(L:List (List Nat)) (s:PS) (t:RS) (k:Nat),(∀l ∈ L,∀c ∈ l,c < 256)→Fit s→Twin s t→
  rnER t L=rnE s L∧rnNR t k L=rnN s k L∧(rnE s L=0→(rnSR t L).l=(rnS s L).fin.dn)
 | [],s,t,k,_,_,ht=>⟨rfl,rfl,fun _=>ht.1⟩
 | l::r,s,t,k,hb,h,ht=>by
  have he:=twin_err h ht l
  unfold rnER rnE rnNR rnN rnSR rnS
  rw [he]
  by_cases h0:lnE s l=0
  ·obtain ⟨a,b,c⟩:=twin_run r (lnS s l) (lnSR t l) (k+1) (fun m hm=>hb m (by simp [hm])) (fit_line h h0) (twin_line (hb l (by simp)) h ht h0)
   rw [if_pos h0,if_pos h0,if_pos h0,if_pos h0]
   exact ⟨a,b,c⟩
  ·rw [if_neg h0,if_neg h0,if_neg h0,if_neg h0]
   exact ⟨rfl,rfl,fun h=>absurd h h0⟩
theorem get_at {l:List Fd} {n:ByteArray} {k:Nat} (hk:k < l.length):(l[k].n=n→getV (l.drop k) n=true∧fstV (l.drop k) n=l[k].v)∧(l[k].n≠n→getV (l.drop k) n=getV (l.drop (k+1)) n∧fstV (l.drop k) n=fstV (l.drop (k+1)) n):=by
 rw [List.drop_eq_getElem_cons hk,getV_cons,fstV_cons]
 exact ⟨fun h=>by rw [decide_eq_true h,if_pos h];exact ⟨rfl,rfl⟩,fun h=>by rw [decide_eq_false h,if_neg h];exact ⟨rfl,rfl⟩⟩
set_option maxHeartbeats 1000000 in
theorem q5get_any (A:Option Addr) (n c:Nat) (l:List Fd) (nm:ByteArray) (w:World) (h:rdFds w (lt_ w.heap.size) l [.slice A n c]) :
  Calls Tryz.prog 50 #[.slice A n c,.string nm] w fun e w'=>e=.returned (.tuple #[.string (fstV l nm),.bool (getV l nm)])∧w=w':=by
 obtain ⟨rfl,hnc,hcm,hat⟩:=rdFds_at h
 have hcm':c≤9223372036854775807:=hcm
 have HAT:=Lib.hid hat
 clear h hat hcm
 go_enter Tryz.func50,Tryz.ntmps50
 go_wp2
 go_loop [6] (fun i=>∃k:Nat,k≤l.length∧i=.int .i64 k∧getV l nm=getV (l.drop k) nm∧fstV l nm=fstV (l.drop k) nm) (fun i=>l.length - (intOf i).toNat)
 case atStart=>exact ⟨0,Nat.zero_le _,rfl,rfl,rfl⟩
 case round=>
  obtain ⟨k,hk,rfl,h1,h2⟩:=hrel
  have H1:=Lib.hid h1
  have H2:=Lib.hid h2
  clear h1 h2
  by_cases hlt:k < l.length
  ·obtain ⟨ad,rfl,had,c0,c1⟩:=HAT.out k hlt
   have GA:=Lib.hid (get_at (l:=l) (n:=nm) hlt)
   have hq:=str_eq l[k].n nm
   by_cases he:l[k].n=nm
   ·have X:=Lib.hid (GA.out.1 he)
    rw [decide_eq_true he] at hq
    clear he
    go_wp2
    go_ret2
    exact ⟨by rw [H1.out,H2.out,X.out.1,X.out.2];try rfl,rfl⟩
   ·have X:=Lib.hid (GA.out.2 he)
    rw [decide_eq_false he] at hq
    clear he
    go_wp2
    go_round
    case rel=>exact ⟨k+1,by omega,by go_num,by rw [H1.out,X.out.1],by rw [H2.out,X.out.2]⟩
    case measure=>simp [intOf];omega
  ·have X:=Lib.hid (show getV l nm=false∧fstV l nm={ data:=#[] } by rw [H1.out,H2.out,List.drop_eq_nil_of_le (by omega)];exact ⟨rfl,rfl⟩)
   go_wp2
   go_ret2
   exact ⟨by rw [X.out.1,X.out.2];try rfl,rfl⟩
theorem nm_drop {l:List Nat} {k:Nat} (hk:k≤(nmOf l).length):nmOf (l.drop k)=(nmOf l).drop k:=by
 induction k generalizing l with
 | zero=>rfl
 | succ k ih=>
  cases l with
  | nil=>simp [nmOf]
  | cons c r=>
   unfold nmOf at hk ⊢
   rw [List.takeWhile_cons] at hk ⊢
   by_cases hc:(c != 58)=true
   ·rw [if_pos hc] at hk ⊢
    rw [List.drop_succ_cons,List.drop_succ_cons]
    exact ih (l:=r) (by unfold nmOf;simpa using hk)
   ·rw [if_neg hc] at hk
    simp at hk
theorem nm_at {l:List Nat} {k:Nat} (hk:k≤(nmOf l).length) (hl:k < l.length):(k < (nmOf l).length↔l[k]≠58):=by
 have h:=nm_drop hk
 rw [List.drop_eq_getElem_cons hl] at h
 unfold nmOf at h
 rw [List.takeWhile_cons] at h
 have h2:=congrArg List.length h
 by_cases hc:l[k]=58
 ·rw [hc] at h2
  simp only [bne_self_eq_false,Bool.false_eq_true,if_false,List.length_nil,List.length_drop] at h2
  unfold nmOf
  exact ⟨fun hlt=>by omega,fun hne=>absurd hc hne⟩
 ·rw [if_pos (by rw [bne_iff_ne];exact hc)] at h2
  rw [List.length_cons,List.length_drop] at h2
  unfold nmOf
  exact ⟨fun _=>hc,fun _=>by omega⟩
theorem nm_has (l:List Nat):(58 ∈ l)↔(nmOf l).length < l.length:=by
 constructor
 ·intro h
  rcases Nat.lt_or_ge (nmOf l).length l.length with h1|h1
  ·exact h1
  ·have e:=nm_take l
   rw [List.take_of_length_le h1] at e
   have:=twl_all (p:=fun c=>c != 58) (l:=l) (x:=58) (by unfold nmOf at e;rw [←e];exact h)
   simp at this
 ·intro h
  have:=(nm_at (l:=l) (k:=(nmOf l).length) (Nat.le_refl _) h)
  have hc:l[(nmOf l).length]=58:=by
   by_cases hc:l[(nmOf l).length]=58
   ·exact hc
   ·exact absurd (this.2 hc) (Nat.lt_irrefl _)
  rw [←hc];exact List.getElem_mem h
def BlI (l:List Nat) (n k:Nat):Prop:=(l.drop n).dropWhile (fun c=>c==32)=(l.drop k).dropWhile (fun c=>c==32)
theorem bl_on {l:List Nat} {n k:Nat} (h:BlI l n k) (hk:k < l.length) (hc:l[k]=32):BlI l n (k+1):=by
 unfold BlI at *
 rw [h,List.drop_eq_getElem_cons hk,List.dropWhile_cons,if_pos (by rw [hc];rfl)]
theorem bl_off {l:List Nat} {n k:Nat} (h:BlI l n k) (hc:∀hk:k < l.length,l[k]≠32):(l.drop n).dropWhile (fun c=>c==32)=l.drop k:=by
 unfold BlI at h
 rw [h]
 by_cases hk:k < l.length
 ·rw [List.drop_eq_getElem_cons hk,List.dropWhile_cons,if_neg (by simpa using hc hk)]
 ·rw [List.drop_eq_nil_of_le (by omega)];rfl
theorem B_el (s:ByteArray) (k:Nat) (hk:k < (B s).length):(B s)[k]=(s[k]'(by rw [B_len] at hk;exact hk)).toNat:=by
 have h:=B_at s k (by rw [B_len] at hk;exact hk)
 rw [List.getElem?_eq_getElem hk] at h
 injection h
theorem Fr.drewN {N r:Nat} {W W':World} (h:Fr N r W W') (n:Nat):Fr N r W (W'.drewN n):=⟨belD h.bel n,h.mid⟩
structure RdR (W:World) (N r:Nat) (t:RS):Prop where
 f0:W.frozen? ⟨r,0,none⟩=false
 f1:W.frozen? ⟨r,1,none⟩=false
 c1:W.cell? ⟨r,1,none⟩=some (.bool t.o)
 g:∃v,W.cell? ⟨r,0,none⟩=some v∧Grow rdFds 1 (fun b=>N≤b) W N 47 v t.l
theorem RdR.below {W W':World} {N r:Nat} {t:RS} (h:RdR W N r t) (hb:Below W.heap.size W W') (hr:r < W.heap.size):RdR W' N r t:=by
 obtain ⟨v,h1,h2⟩:=h.g
 obtain ⟨a0,b0⟩:=blk_of (hb.block r hr) 0
 obtain ⟨a1,b1⟩:=blk_of (hb.block r hr) 1
 exact ⟨b0.trans h.f0,b1.trans h.f1,a1.trans h.c1,v,a0.trans h1,h2.below rdFds_good hb⟩
theorem setLast_at {α:Type} {l:List α} {m:Nat} (hm:l.length=m+1) (y:α):l.set m y=setLast l y:=by
 rcases List.eq_nil_or_concat l with rfl|⟨i,z,rfl⟩
 ·simp at hm
 ·rw [List.concat_eq_append] at hm ⊢
  rw [setLast_snoc]
  simp only [List.length_append,List.length_singleton] at hm
  obtain rfl:m=i.length:=by omega
  rw [List.set_append_right _ _ (Nat.le_refl _),Nat.sub_self];rfl
theorem lastD_at {l:List (List Fd)} {m:Nat} (hm:l.length=m+1):lastD l=l[m]'(by omega):=by
 unfold lastD
 rw [List.getLastD_eq_getLast?,List.getLast?_eq_getElem?,show l.length - 1=m by omega,List.getElem?_eq_getElem (by omega)];rfl
theorem RdR.setlast {W w4:World} {N r m cp n:Nat} {t:RS} {ad:Addr} {v5:Value} {y:List Fd} (hR:RdR W N r t) (hr:r < N) (hN:N≤W.heap.size) (hc0:W.cell? ⟨r,0,none⟩=some (.slice (some ad) n cp)) (hm:t.l.length=m+1)
  (hb:Below W.heap.size W w4) (hrd:rdFds w4 (fun b=>W.heap.size≤b∧b < w4.heap.size) y [v5]) :
  RdR (w4.setCell (ad.add m) v5) N r ⟨setLast t.l y,t.o⟩∧Fr N r W (w4.setCell (ad.add m) v5):=by
 obtain ⟨f0,f1,c1,v,c0,hG⟩:=hR
 rw [hc0] at c0
 injection c0 with c0
 subst c0
 have hG4:=hG.below rdFds_good hb
 obtain ⟨a0,a1⟩:=blk_of (hb.block r (by omega)) 0
 obtain ⟨a2,a3⟩:=blk_of (hb.block r (by omega)) 1
 obtain ⟨e0,hba,hbb,_,hfz⟩:=hG.spot
 have hlt:=hG.lt ad.block rfl
 obtain ⟨S1,S2⟩:=hG4.set rdFds_good (k:=m) (by omega) (j:=0) (by decide) v5 y (fun cs hcs=>by
  have hl:=rdFds_good.len hcs
  match cs,hl with
  | [c],_=>exact rdFds_good.more hrd fun b hb'=>⟨by omega,hb'.2,fun hh=>by injection hh with hh;omega⟩)
 rw [Nat.mul_one,Nat.add_zero,setLast_at hm] at S1
 have hbk:(ad.add m).block=ad.block:=blk_add _ _
 have hne:∀o,(⟨r,o,none⟩:Addr)≠ad.add m:=fun o e=>by have:=congrArg Addr.block e;rw [hbk] at this;simp only at this;omega
 refine ⟨⟨?_,?_,?_,.slice (some ad) n cp,?_,S1⟩,(Fr.of (hb.mono hN) (Nat.le_of_lt hr)).set (.inr (by rw [hbk];exact hba)) (Nat.le_of_lt hr) _⟩
 ·rw [World.frozen?_setCell,a1,f0]
 ·rw [World.frozen?_setCell,a3,f1]
 ·rw [World.cell?_setCell_other _ _ _ _ (fun e=>hne 1 e.symm),a2,c1]
 ·rw [World.cell?_setCell_other _ _ _ _ (fun e=>hne 0 e.symm),a0,hc0]
structure Ap (W WX:World) (b:Nat) (l:List Fd) (x:Value):Prop where
 g:Grow rdFd 2 (fun _=>True) WX W.heap.size 58 (.slice (some ⟨b,0,none⟩) 0 0) []
 x:rdFds WX (lt_ W.heap.size) l [x]
 s:∀c,lt_ W.heap.size c→True∧c < WX.heap.size∧(Value.slice (some ⟨b,0,none⟩) 0 0).ownBlock≠some c
 bs:W.heap.size≤WX.heap.size
 bel:Below W.heap.size W WX
theorem ap_of {W WX:World} {b:Nat} {l:List Fd} {x:Value} (hx:rdFds W (lt_ W.heap.size) l [x]) (hb:WX.heap[b]?=some (.cells #[] 58 (0,0))) (hge:W.heap.size≤b) (bel:Below W.heap.size W WX):Ap W WX b l x:=
 ⟨Grow.empty _ hb hge,rdFds_good.below hx bel,fun c hc=>⟨trivial,Nat.lt_of_lt_of_le hc bel.size,fun hh=>by simp only [Value.ownBlock,Option.some.injEq] at hh;unfold lt_ at hc;omega⟩,bel.size,bel⟩
theorem apA {W:World} {l:List Fd} {x:Value} (hx:rdFds W (lt_ W.heap.size) l [x]):Ap W (W.alloc (Obj.cells #[] 58)).drew W.heap.size l x:=
 ap_of hx (heap_alloc_new W _) (Nat.le_refl _) (belD ((Below.refl _ W).alloc (Nat.le_refl _) _) 1)
theorem apB {W:World} {l:List Fd} {x:Value} (n v:ByteArray) (hx:rdFds W (lt_ W.heap.size) l [x]):Ap W ((W.alloc (Obj.cells #[] 58)).alloc (Obj.cells #[Value.string n,Value.string v] 58)).drew W.heap.size l x:=
 ap_of hx (old_heap _ (heap_alloc_new W _)) (Nat.le_refl _) (belD (((Below.refl _ W).alloc (Nat.le_refl _) _).alloc (by simp) _) 1)
theorem apC {W:World} {l:List Fd} {x:Value} (n v:ByteArray) (hx:rdFds W (lt_ W.heap.size) l [x]):Ap W ((W.alloc (Obj.cells #[Value.string n,Value.string v] 58)).alloc (Obj.cells #[] 58)).drew (W.heap.size+1) l x:=
 ap_of hx (by have:=heap_alloc_new (W.alloc (Obj.cells #[Value.string n,Value.string v] 58)) (Obj.cells #[] 58);rw [World.size_alloc] at this;exact this) (Nat.le_succ _) (belD (((Below.refl _ W).alloc (Nat.le_refl _) _).alloc (by simp) _) 1)
structure Ap2 (W WY:World) (b:Nat) (l:List Fd) (v3:Value) (n v:ByteArray):Prop where
 g:Grow rdFd 2 (fun _=>True) WY W.heap.size 58 v3 l
 x:rdFds WY (fun c=>c=b) [⟨n,v⟩] [.slice (some ⟨b,0,none⟩) 1 1]
 s:∀c,c=b→True∧c < WY.heap.size∧v3.ownBlock≠some c
 bs:W.heap.size≤WY.heap.size
 bel:Below W.heap.size W WY
theorem ap_next {W WX w3:World} {b:Nat} {l:List Fd} {x v3:Value} (a:Ap W WX b l x) (hG:Grow rdFd 2 (fun _=>True) w3 W.heap.size 58 v3 l) (hg:WX.grownBy w3 (Value.slice (some ⟨b,0,none⟩) 0 0).ownBlock):W.heap.size≤w3.heap.size∧Below W.heap.size W w3:=
 ⟨Nat.le_trans a.bs hg.size,grow_below a.g hg a.bel (Nat.le_refl _) a.bs⟩
theorem ap2A {W WX w3:World} {b:Nat} {l:List Fd} {x v3:Value} (n v:ByteArray) (a:Ap W WX b l x) (hG:Grow rdFd 2 (fun _=>True) w3 W.heap.size 58 v3 l) (hg:WX.grownBy w3 (Value.slice (some ⟨b,0,none⟩) 0 0).ownBlock) :
  Ap2 W (w3.alloc (Obj.cells #[Value.string n,Value.string v] 58)) w3.heap.size l v3 n v:=by
 obtain ⟨h1,h2⟩:=ap_next a hG hg
 exact ⟨hG.alloc rdFd_good _,one_fd (heap_alloc_new w3 _) rfl,fun c hc=>⟨trivial,by rw [World.size_alloc];omega,fun hh=>by have:=(hG.lt c hh).2;omega⟩,by rw [World.size_alloc];omega,h2.alloc h1 _⟩
theorem ap2BC {W WX w3:World} {b q:Nat} {l:List Fd} {x v3:Value} {n v:ByteArray} (a:Ap W WX b l x) (hq:WX.heap[q]?=some (.cells #[Value.string n,Value.string v] 58 (0,0))) (hqb:q≠b) (hG:Grow rdFd 2 (fun _=>True) w3 W.heap.size 58 v3 l)
  (hg:WX.grownBy w3 (Value.slice (some ⟨b,0,none⟩) 0 0).ownBlock) (hm:v3.ownBlock=(Value.slice (some ⟨b,0,none⟩) 0 0).ownBlock∨∃c,v3.ownBlock=some c∧WX.heap.size≤c):Ap2 W w3 q l v3 n v:=by
 obtain ⟨h1,h2⟩:=ap_next a hG hg
 have hlt:q < WX.heap.size:=(Array.getElem?_eq_some_iff.1 hq).1
 have hne:∀c,c=q→v3.ownBlock≠some c:=fun c hc hh=>by
  rcases hm with h|⟨d,h,hd⟩
  ·rw [h] at hh;simp only [Value.ownBlock,Option.some.injEq] at hh;omega
  ·rw [h] at hh;injection hh with hh;omega
 exact ⟨hG,one_fd ((hg.block q hlt (fun hh=>by simp only [Value.ownBlock,Option.some.injEq] at hh;omega)).trans hq) rfl,fun c hc=>⟨trivial,by have:=hg.size;omega,hne c hc⟩,h1,h2⟩
theorem ap2B {W w3:World} {l:List Fd} {x v3:Value} {n v:ByteArray} (a:Ap W ((W.alloc (Obj.cells #[] 58)).alloc (Obj.cells #[Value.string n,Value.string v] 58)).drew W.heap.size l x) (hG:Grow rdFd 2 (fun _=>True) w3 W.heap.size 58 v3 l)
  (hg:((W.alloc (Obj.cells #[] 58)).alloc (Obj.cells #[Value.string n,Value.string v] 58)).drew.grownBy w3 (Value.slice (some ⟨W.heap.size,0,none⟩) 0 0).ownBlock) (hm:v3.ownBlock=(Value.slice (some ⟨W.heap.size,0,none⟩) 0 0).ownBlock∨∃c,v3.ownBlock=some c∧((W.alloc (Obj.cells #[] 58)).alloc (Obj.cells #[Value.string n,Value.string v] 58)).drew.heap.size≤c):Ap2 W w3 (W.heap.size+1) l v3 n v:=
 ap2BC a (by have:=heap_alloc_new (W.alloc (Obj.cells #[] 58)) (Obj.cells #[Value.string n,Value.string v] 58);rw [World.size_alloc] at this;exact this) (by omega) hG hg hm
theorem ap2C {W w3:World} {l:List Fd} {x v3:Value} {n v:ByteArray} (a:Ap W ((W.alloc (Obj.cells #[Value.string n,Value.string v] 58)).alloc (Obj.cells #[] 58)).drew (W.heap.size+1) l x) (hG:Grow rdFd 2 (fun _=>True) w3 W.heap.size 58 v3 l)
  (hg:((W.alloc (Obj.cells #[Value.string n,Value.string v] 58)).alloc (Obj.cells #[] 58)).drew.grownBy w3 (Value.slice (some ⟨W.heap.size+1,0,none⟩) 0 0).ownBlock) (hm:v3.ownBlock=(Value.slice (some ⟨W.heap.size+1,0,none⟩) 0 0).ownBlock∨∃c,v3.ownBlock=some c∧((W.alloc (Obj.cells #[Value.string n,Value.string v] 58)).alloc (Obj.cells #[] 58)).drew.heap.size≤c):Ap2 W w3 W.heap.size l v3 n v:=
 ap2BC a (old_heap _ (heap_alloc_new W _)) (by omega) hG hg hm
theorem ap_end {W WY w5:World} {b:Nat} {l:List Fd} {v3 v5:Value} {n v:ByteArray} (a:Ap2 W WY b l v3 n v) (hG:Grow rdFd 2 (fun _=>True) w5 W.heap.size 58 v5 (l++[⟨n,v⟩])) (hg:WY.grownBy w5 v3.ownBlock) :
  Below W.heap.size W w5∧rdFds w5 (fun b=>W.heap.size≤b∧b < w5.heap.size) (l++[⟨n,v⟩]) [v5]:=by
 refine ⟨grow_below a.g hg a.bel (Nat.le_refl _) a.bs,?_⟩
 have h2:Grow rdFd 2 (fun _=>False) w5 W.heap.size 58 v5 (l++[⟨n,v⟩]):=hG.flat fun _ _ _ _ _ h=>h
 exact rdFds_good.more (h2.reads rdFd_good) fun b hb=>⟨hb.2.resolve_right id,hb.1⟩
theorem pri_step {s:List Nat} {k:Nat} (hk:k < 2001) (hno:∀j:Nat,j < k→decI ((j:Int) - 1000)≠s) (h:decI ((k:Int) - 1000)=s):priI s=some ((k:Int) - 1000):=by
 rw [←h];exact pri_dec (by omega) (by omega)
theorem pri_none {s:List Nat} (hno:∀j:Nat,j < 2001→decI ((j:Int) - 1000)≠s):priI s=none:=by
 cases h:priI s with
 | none=>rfl
 | some n=>
  obtain ⟨e,h1,h2⟩:=pri_some h
  exact absurd (by rw [show ((((n+1000).toNat:Nat):Int) - 1000)=n by omega];exact e) (hno (n+1000).toNat (by omega))
set_option maxHeartbeats 1000000 in
theorem q8pri_any (s:ByteArray) (w:World):Calls Tryz.prog 51 #[.string s] w fun e w'=>e=.returned (.tuple #[.int .i64 ((priI (B s)).getD 0),.bool (priI (B s)).isSome])∧w=w':=by
 go_enter Tryz.func51,Tryz.ntmps51
 go_wp2
 go_loop [4] (fun i=>∃k:Nat,k≤2001∧i=.int .i64 ((k:Int) - 1000)∧∀j:Nat,j < k→decI ((j:Int) - 1000)≠B s) (fun i=>(1001 - intOf i).toNat)
 case atStart=>exact ⟨0,by omega,rfl,fun j hj=>absurd hj (Nat.not_lt_zero _)⟩
 case round=>
  obtain ⟨k,hk,rfl,hno⟩:=hrel
  have HN:=Lib.hid hno
  clear hno
  by_cases hlt:k < 2001
  ·have K:=Lib.hid (fun W=>q8dec_any ((k:Int) - 1000) W (by omega) (by omega))
   have he:=str_eq (mk (decI ((k:Int) - 1000))) s
   have l1:(k:Int) - 1000≤1000:=by omega
   have l2:-1000≤(k:Int) - 1000:=by omega
   by_cases hq:decI ((k:Int) - 1000)=B s
   ·have X:=Lib.hid (pri_step hlt HN.out hq)
    rw [decide_eq_true (show mk (decI ((k:Int) - 1000))=s by rw [hq,mk_B])] at he
    clear hq
    generalize hm:(k:Int) - 1000=m at *
    clear hm
    go_wp2_with fail
    refine (K.out _).mono ?_
    rintro e w' ⟨rfl,rfl⟩
    go_wp2
    go_ret2
    exact ⟨by rw [X.out];try rfl,rfl⟩
   ·rw [decide_eq_false (show ¬mk (decI ((k:Int) - 1000))=s from fun h=>hq (by rw [←h,B_mk (decI_lt _)]))] at he
    have Y:=Lib.hid (show ∀j:Nat,j < k+1→decI ((j:Int) - 1000)≠B s from fun j hj=>by rcases (by omega:j < k∨j=k) with h|rfl;exact HN.out j h;exact hq)
    clear hq
    go_wp2_with fail
    refine (K.out _).mono ?_
    rintro e w' ⟨rfl,rfl⟩
    go_wp2
    go_round
    case rel=>exact ⟨k+1,by omega,by go_num,Y.out⟩
    case measure=>simp [intOf];omega
  ·obtain rfl:k=2001:=by omega
   have X:=Lib.hid (pri_none HN.out)
   go_wp2
   go_ret2
   exact ⟨by rw [X.out];try rfl,rfl⟩
theorem take_ext (s:ByteArray):(B s).take 8=B (s.extract 0 8):=by rw [B_extract,List.drop_zero,Nat.sub_zero]
theorem last_at {s:ByteArray} (h:s.size - 1 < s.size):(B s).getLast?=some (s[s.size - 1]'h).toNat:=by rw [List.getLast?_eq_getElem?,B_len,B_at s _ h]
theorem pref_ok {s:ByteArray} (h9:9≤s.size) (h8:B (s.extract 0 8)=ver8L) (h:s.size - 1 < s.size) (hl:(s[s.size - 1]'h).toNat=42):prefB (B s)=some (B (s.extract 8 (s.size - 1))):=by
 unfold prefB
 rw [if_pos ⟨by rw [B_len];exact h9,by rw [take_ext];exact h8,by rw [last_at h,hl]⟩,B_extract,List.dropLast_eq_take,List.length_drop,B_len,Nat.sub_right_comm]
theorem pref_short {s:ByteArray} (h:¬9≤s.size):prefB (B s)=none:=if_neg fun hh=>by rw [B_len] at hh;exact h hh.1
theorem pref_head {s:ByteArray} (h:¬B (s.extract 0 8)=ver8L):prefB (B s)=none:=if_neg fun hh=>by rw [take_ext] at hh;exact h hh.2.1
theorem pref_last {s:ByteArray} (h:s.size - 1 < s.size) (hl:¬(s[s.size - 1]'h).toNat=42):prefB (B s)=none:=if_neg fun hh=>by
 have:=hh.2.2
 rw [last_at h] at this
 exact hl (Option.some.inj this)
set_option maxHeartbeats 8000000 in
theorem q8pin_any (A:Option Addr) (n c:Nat) (st:List Fd) (w:World) (h:rdFds w (lt_ w.heap.size) st [.slice A n c]) (hz:∀nm,(fstV st nm).size≤65536) :
  Calls Tryz.prog 29 #[.slice A n c] w fun e w'=>e=.returned (.tuple #[(rdN st).2.val,.int .i64 (rdN st).1])∧Below w.heap.size w w':=by
 obtain ⟨V,hV⟩:∃V,V=w.alloc (.cells #[.string { data:=#[] },.string { data:=#[] },.int .i64 0] 30):=⟨_,rfl⟩
 have c0:V.cell? ⟨w.heap.size,0,none⟩=some (.string { data:=#[] }):=by rw [hV];simp [go_sem]
 have c1:V.cell? ⟨w.heap.size,1,none⟩=some (.string { data:=#[] }):=by rw [hV];simp [go_sem]
 have c2:V.cell? ⟨w.heap.size,2,none⟩=some (.int .i64 0):=by rw [hV];simp [go_sem]
 have f0:V.frozen? ⟨w.heap.size,0,none⟩=false:=by rw [hV];simp [go_sem]
 have f1:V.frozen? ⟨w.heap.size,1,none⟩=false:=by rw [hV];simp [go_sem]
 have f2:V.frozen? ⟨w.heap.size,2,none⟩=false:=by rw [hV];simp [go_sem]
 have s1:w.heap.size+1≤V.heap.size:=by rw [hV];simp
 have b1':Below w.heap.size w V:=by rw [hV];exact (Below.refl _ w).alloc (Nat.le_refl _) _
 have B1:=Lib.hid b1'
 have hr:=rdFds_good.up (rdFds_good.below h b1') b1'.size
 have K1:=Lib.hid (show Calls Tryz.prog 50 #[.slice A n c,.string { data:=#[80,97,99,107,97,103,101] }] V _ from q5get_any A n c st nPk V hr)
 have K2:=Lib.hid (show Calls Tryz.prog 50 #[.slice A n c,.string { data:=#[80,105,110] }] V _ from q5get_any A n c st nPi V hr)
 have K3:=Lib.hid (show Calls Tryz.prog 50 #[.slice A n c,.string { data:=#[80,105,110,45,80,114,105,111,114,105,116,121] }] V _ from q5get_any A n c st nPp V hr)
 have HX:=Lib.hid (rdN_x st)
 have z1:=hz nPk
 have z2:=hz nPi
 have KP:=Lib.hid (q8pri_any (fstV st nPp) V)
 have HV:=Lib.hid hV
 clear h hz hr b1' hV
 generalize rdN st=R at *
 generalize getV st nPk=g1 at *
 generalize getV st nPi=g2 at *
 generalize getV st nPp=g3 at *
 generalize fstV st nPk=nm at *
 generalize fstV st nPi=s at *
 generalize fstV st nPp=num at *
 cases g1
 ·have X:=Lib.hid (HX.out.trans (rdX_no rfl))
  clear z1 z2
  go_enter Tryz.func29,Tryz.ntmps29
  go_wp2_with fail
  rw [←HV.out]
  refine K1.out.mono ?_
  rintro e w' ⟨rfl,rfl⟩
  go_wp2_with fail
  refine K2.out.mono ?_
  rintro e w' ⟨rfl,rfl⟩
  go_wp2_with fail
  refine K3.out.mono ?_
  rintro e w' ⟨rfl,rfl⟩
  go_wp2
  obtain ⟨k0,k1,k2,bW⟩:=fin3 (x:=.string { data:=#[] }) (y:=.string { data:=#[] }) (z:=.int .i64 0) B1.out c0 c1 c2
  exact bodyPost_ret (v:=.tuple #[.agg #[.string { data:=#[] },.string { data:=#[] },.int .i64 0],.int .i64 6]) (by simp [results,Tryz.results29,go_sem,k0,k1,k2]) rfl ⟨by rw [X.out];try rfl,bW⟩
 cases g2
 ·have X:=Lib.hid (HX.out.trans (rdX_no rfl))
  clear z1 z2
  go_enter Tryz.func29,Tryz.ntmps29
  go_wp2_with fail
  rw [←HV.out]
  refine K1.out.mono ?_
  rintro e w' ⟨rfl,rfl⟩
  go_wp2_with fail
  refine K2.out.mono ?_
  rintro e w' ⟨rfl,rfl⟩
  go_wp2_with fail
  refine K3.out.mono ?_
  rintro e w' ⟨rfl,rfl⟩
  go_wp2
  obtain ⟨k0,k1,k2,bW⟩:=fin3 (x:=.string { data:=#[] }) (y:=.string { data:=#[] }) (z:=.int .i64 0) B1.out c0 c1 c2
  exact bodyPost_ret (v:=.tuple #[.agg #[.string { data:=#[] },.string { data:=#[] },.int .i64 0],.int .i64 6]) (by simp [results,Tryz.results29,go_sem,k0,k1,k2]) rfl ⟨by rw [X.out];try rfl,bW⟩
 cases g3
 ·have X:=Lib.hid (HX.out.trans (rdX_no rfl))
  clear z1 z2
  go_enter Tryz.func29,Tryz.ntmps29
  go_wp2_with fail
  rw [←HV.out]
  refine K1.out.mono ?_
  rintro e w' ⟨rfl,rfl⟩
  go_wp2_with fail
  refine K2.out.mono ?_
  rintro e w' ⟨rfl,rfl⟩
  go_wp2_with fail
  refine K3.out.mono ?_
  rintro e w' ⟨rfl,rfl⟩
  go_wp2
  obtain ⟨k0,k1,k2,bW⟩:=fin3 (x:=.string { data:=#[] }) (y:=.string { data:=#[] }) (z:=.int .i64 0) B1.out c0 c1 c2
  exact bodyPost_ret (v:=.tuple #[.agg #[.string { data:=#[] },.string { data:=#[] },.int .i64 0],.int .i64 6]) (by simp [results,Tryz.results29,go_sem,k0,k1,k2]) rfl ⟨by rw [X.out];try rfl,bW⟩
 cases hp:priI (B num) with
 | none=>
  have X:=Lib.hid (HX.out.trans (rdX_num hp))
  rw [hp] at KP
  clear z1 z2 hp
  go_enter Tryz.func29,Tryz.ntmps29
  go_wp2_with fail
  rw [←HV.out]
  refine K1.out.mono ?_
  rintro e w' ⟨rfl,rfl⟩
  go_wp2_with fail
  refine K2.out.mono ?_
  rintro e w' ⟨rfl,rfl⟩
  go_wp2_with fail
  refine K3.out.mono ?_
  rintro e w' ⟨rfl,rfl⟩
  go_wp2_with fail
  refine KP.out.mono ?_
  rintro e w' ⟨rfl,rfl⟩
  go_wp2
  obtain ⟨k0,k1,k2,bW⟩:=fin3 (x:=.string { data:=#[] }) (y:=.string { data:=#[] }) (z:=.int .i64 0) B1.out c0 c1 c2
  exact bodyPost_ret (v:=.tuple #[.agg #[.string { data:=#[] },.string { data:=#[] },.int .i64 0],.int .i64 5]) (by simp [results,Tryz.results29,go_sem,k0,k1,k2]) rfl ⟨by rw [X.out];try rfl,bW⟩
 | some p=>
  have HP:=Lib.hid hp
  rw [hp] at KP
  clear hp
  by_cases h9:(9:Int)≤(s.size:Int)
  ·have e8:=sEqL (s.extract 0 8) [118,101,114,115,105,111,110,32] ver8L rfl (by decide)
   have j8:8≤s.size:=by omega
   by_cases h8:B (s.extract 0 8)=ver8L
   ·have H8:=Lib.hid h8
    rw [decide_eq_true h8] at e8
    have hlt1:s.size - 1 < s.size:=by omega
    by_cases hl:(s[s.size - 1]'hlt1).toNat=42
    ·have t1:(((s[s.size - 1]'hlt1).toNat:Int) != 42)=false:=by rw [bne_eq_false_iff_eq];omega
     have PO:=Lib.hid (pref_ok (by omega) h8 hlt1 hl)
     have hy:(s.extract 8 (s.size - 1)).size≤maxLen:=by rw [ByteArray.size_extract];unfold maxLen;omega
     obtain ⟨y,hye⟩:∃y,y=s.extract 8 (s.size - 1):=⟨_,rfl⟩
     have HY:=Lib.hid hye
     rw [←hye] at PO hy
     have KR:=Lib.hid (fun W=>q8right_any ⟨nm,y,p⟩ W z1 hy)
     have BX:=Lib.hid (B1.out.alloc B1.out.size (.cells #[.string nm,.string y,.int .i64 p] 30))
     have RB:=Lib.hid (fun hr=>rdX_bad (nm:=nm) HP.out PO.out hr)
     have RO:=Lib.hid (fun hr=>rdX_ok (nm:=nm) HP.out PO.out hr)
     clear h8 hl hye z1 hy
     cases hrg:rgtN ⟨nm,y,p⟩
     ·have X:=Lib.hid (HX.out.trans (RB.out hrg))
      rw [hrg] at KR
      clear hrg
      go_enter Tryz.func29,Tryz.ntmps29
      go_wp2_with fail
      rw [←HV.out]
      refine K1.out.mono ?_
      rintro e w' ⟨rfl,rfl⟩
      go_wp2_with fail
      refine K2.out.mono ?_
      rintro e w' ⟨rfl,rfl⟩
      go_wp2_with fail
      refine K3.out.mono ?_
      rintro e w' ⟨rfl,rfl⟩
      go_wp2_with fail
      refine KP.out.mono ?_
      rintro e w' ⟨rfl,rfl⟩
      go_wp2_with fail
      rw [←HY.out]
      refine (KR.out _).mono ?_
      rintro e w3 ⟨rfl,hb⟩
      have B3:=Lib.hid (bel_2 B1.out (bel_boxed hb))
      replace c0:=keep_cell (bel_boxed hb) c0
      replace c1:=keep_cell (bel_boxed hb) c1
      replace c2:=keep_cell (bel_boxed hb) c2
      replace f0:=keep_fr (bel_boxed hb) (by omega) f0
      replace f1:=keep_fr (bel_boxed hb) (by omega) f1
      replace f2:=keep_fr (bel_boxed hb) (by omega) f2
      clear hb
      go_wp2
      obtain ⟨k0,k1,k2,bW⟩:=fin3 (x:=.string { data:=#[] }) (y:=.string { data:=#[] }) (z:=.int .i64 0) B3.out c0 c1 c2
      exact bodyPost_ret (v:=.tuple #[.agg #[.string { data:=#[] },.string { data:=#[] },.int .i64 0],.int .i64 5]) (by simp [results,Tryz.results29,go_sem,k0,k1,k2]) rfl ⟨by rw [X.out];try rfl,bW⟩
     ·have X:=Lib.hid (HX.out.trans (RO.out hrg))
      rw [hrg] at KR
      clear hrg
      go_enter Tryz.func29,Tryz.ntmps29
      go_wp2_with fail
      rw [←HV.out]
      refine K1.out.mono ?_
      rintro e w' ⟨rfl,rfl⟩
      go_wp2_with fail
      refine K2.out.mono ?_
      rintro e w' ⟨rfl,rfl⟩
      go_wp2_with fail
      refine K3.out.mono ?_
      rintro e w' ⟨rfl,rfl⟩
      go_wp2_with fail
      refine KP.out.mono ?_
      rintro e w' ⟨rfl,rfl⟩
      go_wp2_with fail
      rw [←HY.out]
      refine (KR.out _).mono ?_
      rintro e w3 ⟨rfl,hb⟩
      obtain ⟨d0,d1,d2,-⟩:=box_cells hb
      have B3:=Lib.hid (bel_2 B1.out (bel_boxed hb))
      replace c0:=keep_cell (bel_boxed hb) c0
      replace c1:=keep_cell (bel_boxed hb) c1
      replace c2:=keep_cell (bel_boxed hb) c2
      replace f0:=keep_fr (bel_boxed hb) (by omega) f0
      replace f1:=keep_fr (bel_boxed hb) (by omega) f1
      replace f2:=keep_fr (bel_boxed hb) (by omega) f2
      clear hb
      go_wp2
      obtain ⟨k0,k1,k2,bW⟩:=fin3 (x:=.string nm) (y:=.string y) (z:=.int .i64 p) B3.out c0 c1 c2
      exact bodyPost_ret (v:=.tuple #[.agg #[.string nm,.string y,.int .i64 p],.int .i64 0]) (by simp [results,Tryz.results29,go_sem,k0,k1,k2]) rfl ⟨by rw [X.out];try rfl,bW⟩
    ·have t1:(((s[s.size - 1]'hlt1).toNat:Int) != 42)=true:=by rw [bne_iff_ne];omega
     have X:=Lib.hid (HX.out.trans (rdX_pre (pref_last hlt1 hl)))
     clear h8 hl z1
     go_enter Tryz.func29,Tryz.ntmps29
     go_wp2_with fail
     rw [←HV.out]
     refine K1.out.mono ?_
     rintro e w' ⟨rfl,rfl⟩
     go_wp2_with fail
     refine K2.out.mono ?_
     rintro e w' ⟨rfl,rfl⟩
     go_wp2_with fail
     refine K3.out.mono ?_
     rintro e w' ⟨rfl,rfl⟩
     go_wp2_with fail
     refine KP.out.mono ?_
     rintro e w' ⟨rfl,rfl⟩
     go_wp2
     obtain ⟨k0,k1,k2,bW⟩:=fin3 (x:=.string { data:=#[] }) (y:=.string { data:=#[] }) (z:=.int .i64 0) B1.out c0 c1 c2
     exact bodyPost_ret (v:=.tuple #[.agg #[.string { data:=#[] },.string { data:=#[] },.int .i64 0],.int .i64 5]) (by simp [results,Tryz.results29,go_sem,k0,k1,k2]) rfl ⟨by rw [X.out];try rfl,bW⟩
   ·have X:=Lib.hid (HX.out.trans (rdX_pre (pref_head h8)))
    rw [decide_eq_false h8] at e8
    clear h8 z1
    go_enter Tryz.func29,Tryz.ntmps29
    go_wp2_with fail
    rw [←HV.out]
    refine K1.out.mono ?_
    rintro e w' ⟨rfl,rfl⟩
    go_wp2_with fail
    refine K2.out.mono ?_
    rintro e w' ⟨rfl,rfl⟩
    go_wp2_with fail
    refine K3.out.mono ?_
    rintro e w' ⟨rfl,rfl⟩
    go_wp2_with fail
    refine KP.out.mono ?_
    rintro e w' ⟨rfl,rfl⟩
    go_wp2
    obtain ⟨k0,k1,k2,bW⟩:=fin3 (x:=.string { data:=#[] }) (y:=.string { data:=#[] }) (z:=.int .i64 0) B1.out c0 c1 c2
    exact bodyPost_ret (v:=.tuple #[.agg #[.string { data:=#[] },.string { data:=#[] },.int .i64 0],.int .i64 5]) (by simp [results,Tryz.results29,go_sem,k0,k1,k2]) rfl ⟨by rw [X.out];try rfl,bW⟩
  ·have X:=Lib.hid (HX.out.trans (rdX_pre (pref_short (by omega))))
   clear z1
   go_enter Tryz.func29,Tryz.ntmps29
   go_wp2_with fail
   rw [←HV.out]
   refine K1.out.mono ?_
   rintro e w' ⟨rfl,rfl⟩
   go_wp2_with fail
   refine K2.out.mono ?_
   rintro e w' ⟨rfl,rfl⟩
   go_wp2_with fail
   refine K3.out.mono ?_
   rintro e w' ⟨rfl,rfl⟩
   go_wp2_with fail
   refine KP.out.mono ?_
   rintro e w' ⟨rfl,rfl⟩
   go_wp2
   obtain ⟨k0,k1,k2,bW⟩:=fin3 (x:=.string { data:=#[] }) (y:=.string { data:=#[] }) (z:=.int .i64 0) B1.out c0 c1 c2
   exact bodyPost_ret (v:=.tuple #[.agg #[.string { data:=#[] },.string { data:=#[] },.int .i64 0],.int .i64 5]) (by simp [results,Tryz.results29,go_sem,k0,k1,k2]) rfl ⟨by rw [X.out];try rfl,bW⟩
end Go.Proofs.YtbljkpbaceiaiaaGreatDoor
