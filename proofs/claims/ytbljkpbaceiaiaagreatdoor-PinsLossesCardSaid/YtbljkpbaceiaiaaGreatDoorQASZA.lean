/- What the laws rest on: E8q, E8a, E8e, N8c, E8i, OpenF, E8z. -/
import Derived.Test.YtbljkpbaceiaiaaGreatDoorQAGZA
import Derived.Test.YtbljkpbaceiaiaaGreatDoorQBDZA
set_option maxRecDepth 100000
set_option linter.unusedVariables false
set_option linter.unusedSimpArgs false
namespace Go.Proofs.YtbljkpbaceiaiaaGreatDoor
open Go.RowKit
def maxF (f:ByteArray→Int) (b:Int) (all:List ByteArray):Int:=all.foldl (fun b v=>max b (f v)) b
def lossN (l:List Pn) (nm:ByteArray) (all:List ByteArray) (v:ByteArray):Int:=maxF (prioN l nm) (prioN l nm v) all - prioN l nm v
theorem maxF_ge (f:ByteArray→Int):∀(all:List ByteArray) (b:Int),b≤maxF f b all∧∀v ∈ all,f v≤maxF f b all
 | [],b=>⟨Int.le_refl _,fun v hv=>by cases hv⟩
 | a::r,b=>by
  obtain ⟨h1,h2⟩:=maxF_ge f r (max b (f a))
  show b≤maxF f (max b (f a)) r∧_
  refine ⟨by omega,fun v hv=>?_⟩
  rcases List.mem_cons.1 hv with rfl|hv
  ·show f v≤maxF f (max b (f v)) r;omega
  ·exact h2 v hv
theorem maxF_is (f:ByteArray→Int):∀(all:List ByteArray) (b:Int),maxF f b all=b∨∃v ∈ all,maxF f b all=f v
 | [],b=>.inl rfl
 | a::r,b=>by
  rcases maxF_is f r (max b (f a)) with h|⟨v,hv,h⟩
  ·rcases Int.le_total b (f a) with q|q
   ·exact .inr ⟨a,List.mem_cons_self ..,by show maxF f (max b (f a)) r=_;rw [h];omega⟩
   ·exact .inl (by show maxF f (max b (f a)) r=_;rw [h];omega)
  ·exact .inr ⟨v,List.mem_cons_of_mem _ hv,h⟩
theorem prio_in {l:List Pn} {b:Int} (hb:500≤b) (h:∀x ∈ l,-b≤x.p∧x.p≤b) (nm v:ByteArray):-b≤prioN l nm v∧prioN l nm v≤b:=by
 unfold prioN
 split
 ·rename_i x q;exact h x (List.mem_of_find?_eq_some q)
 ·split
  ·rename_i x q;exact h x (List.mem_of_find?_eq_some q)
  ·omega
theorem maxF_in {f:ByteArray→Int} {b c:Int} {all:List ByteArray} (hb:-c≤b∧b≤c) (h:∀v,-c≤f v∧f v≤c):-c≤maxF f b all∧maxF f b all≤c:=by
 rcases maxF_is f all b with q|⟨v,_,q⟩
 ·rw [q];exact hb
 ·rw [q];exact h v
theorem maxF_snoc (f:ByteArray→Int) (b:Int) (all:List ByteArray) (v:ByteArray):maxF f b (all++[v])=max (maxF f b all) (f v):=by unfold maxF;rw [List.foldl_append];rfl
def Bd8 (l:List Pn):Prop:=∀x ∈ l,-1099511627776≤x.p∧x.p≤1099511627776
def Sh8 (l:List ByteArray):Prop:=l.length≤60∧∀x ∈ l,x.size≤100
def rdBa:Rd ByteArray:=fun _ _ s cs=>cs=[.string s]
theorem rdBa_good:Good rdBa 1:=⟨fun h _=>h,fun h _=>h,fun h _ _=>h,fun h=>by rw [h];rfl,fun h u hu=>by rw [h] at hu;rw [List.mem_singleton.1 hu];rfl⟩
abbrev rdBas:Rd (List ByteArray):=rdRow 1 rdBa
theorem rdBas_good:Good rdBas 1:=rdRow_good rdBa_good
theorem rdBas_at {w:World} {S:Nat→Prop} {l:List ByteArray} {A:Option Addr} {n c:Nat} (h:rdBas w S l [.slice A n c]):n=l.length∧n≤c∧c≤maxLen∧∀k (hk:k < l.length),∃ad,A=some ad∧S ad.block∧w.cell? (ad.add k)=some (.string l[k]):=by
 obtain ⟨A',c',e,h1,h2,h⟩:=h
 simp only [List.cons.injEq,Value.slice.injEq,and_true] at e
 obtain ⟨rfl,rfl,rfl⟩:=e
 refine ⟨rfl,h1,h2,fun k hk=>?_⟩
 obtain ⟨ad,es,e,hS,hE,hl,hc⟩:=h k hk
 rw [show es=[.string l[k]] from hE] at hc
 have:=hc 0 _ rfl
 rw [Nat.mul_one] at this
 exact ⟨ad,e,hS,this⟩
theorem rdBas_of {w:World} {S:Nat→Prop} {ns:List (List Nat)} {cs:List Value} (h:rdStrs w S ns cs):∃l:List ByteArray,l.map B=ns∧rdBas w S l cs:=by
 obtain ⟨A',c',rfl,h1,h2,h⟩:=h
 refine ⟨ns.map mk,?_,A',c',by rw [List.length_map],by rw [List.length_map];exact h1,h2,fun k hk=>?_⟩
 ·rw [List.map_map]
  refine (List.map_congr_left fun x hx=>?_).trans (List.map_id ns)
  obtain ⟨k,hk,rfl⟩:=List.getElem_of_mem hx
  obtain ⟨ad,es,e,hS,⟨s,rfl,hs⟩,-⟩:=h k hk
  show B (mk ns[k])=ns[k]
  rw [←hs,mk_B]
 ·rw [List.length_map] at hk
  obtain ⟨ad,es,e,hS,⟨s,rfl,hs⟩,hl,hc⟩:=h k hk
  refine ⟨ad,_,e,hS,?_,hl,hc⟩
  show _=_
  rw [List.getElem_map,←hs,mk_B]
theorem maxF_step (f:ByteArray→Int) (b:Int) (all:List ByteArray) {k:Nat} (hk:k < all.length):maxF f b (all.take (k+1))=max (maxF f b (all.take k)) (f all[k]):=by
 rw [List.take_succ_eq_append_getElem hk,maxF_snoc]
set_option maxHeartbeats 4000000 in
theorem ploss_any (A:Option Addr) (n c:Nat) (l:List Pn) (nm:ByteArray) (A':Option Addr) (n' c':Nat) (all:List ByteArray) (v:ByteArray) (w:World) (h:rdPns w (lt_ w.heap.size) l [.slice A n c]) (h':rdBas w (lt_ w.heap.size) all [.slice A' n' c'])
  (hB:Bd8 l) :
  Calls Tryz.prog 24 #[.slice A n c,.string nm,.slice A' n' c',.string v] w fun e w'=>e=.returned (.int .i64 (lossN l nm all v))∧Below w.heap.size w w':=by
 obtain ⟨rfl,hnc,hcm,-⟩:=rdBas_at h'
 have hcm':c'≤9223372036854775807:=hcm
 have H:=Lib.hid h
 have H':=Lib.hid h'
 have KP:=Lib.hid (fun u W hW=>pprio_any A n c l nm u W hW)
 have BD:=Lib.hid (fun u=>prio_in (b:=1099511627776) (by decide) hB nm u)
 have K0:=Lib.hid (KP.out v w h)
 have X:=Lib.hid (show lossN l nm all v=maxF (prioN l nm) (prioN l nm v) (all.take all.length) - prioN l nm v by rw [List.take_length];rfl)
 have MB:=Lib.hid (fun k=>maxF_in (f:=prioN l nm) (b:=prioN l nm v) (c:=1099511627776) (all:=all.take k) (BD.out v) BD.out)
 have MS:=Lib.hid (fun k hk=>maxF_step (prioN l nm) (prioN l nm v) all (k:=k) hk)
 have M0:=Lib.hid (show prioN l nm v=maxF (prioN l nm) (prioN l nm v) (all.take 0) from rfl)
 obtain ⟨o1,o2⟩:=BD.out v
 clear h h' hcm hB
 generalize lossN l nm all v=R at *
 generalize prioN l nm v=own at *
 generalize prioN l nm=f at *
 go_enter Tryz.func24,Tryz.ntmps24
 go_wp2_with fail
 refine K0.out.mono ?_
 rintro e w1 ⟨rfl,hb⟩
 have B1:=Lib.hid hb
 clear hb K0
 go_wp2
 go_loopw [10,20] (fun b i wr=>∃k:Nat,k≤all.length∧i=.int .i64 k∧b=.int .i64 (maxF f own (all.take k))∧Below w.heap.size w wr) (fun _ i _=>all.length - (intOf i).toNat)
 case atStart=>exact ⟨0,Nat.zero_le _,rfl,by rw [←M0.out],B1.out⟩
 case round=>
  obtain ⟨k,hk,rfl,rfl,hbel⟩:=hrel
  have HB:=Lib.hid hbel
  obtain ⟨m1,m2⟩:=MB.out k
  by_cases hlt:k < all.length
  ·obtain ⟨_,_,_,hat⟩:=rdBas_at (rdBas_good.up (rdBas_good.below H'.out hbel) hbel.size)
   obtain ⟨ad,rfl,had,c0⟩:=hat k hlt
   have K:=Lib.hid (KP.out all[k] wr (rdPns_good.up (rdPns_good.below H.out hbel) hbel.size))
   have SX:=Lib.hid (MS.out k hlt)
   obtain ⟨f1,f2⟩:=BD.out all[k]
   have i0:(0:Int)≤(k:Int):=by omega
   have i1:(k:Int) < (all.length:Int):=by omega
   clear hat hbel had
   generalize all[k]=u at *
   generalize f u=y at *
   generalize maxF f own (all.take k)=b at *
   go_wp2_with fail
   refine K.out.mono ?_
   rintro e w2 ⟨rfl,hb⟩
   have HB2:=Lib.hid (HB.out.trans (hb.mono HB.out.size))
   clear hb c0
   go_wp2
   go_roundw
   case rel=>exact ⟨k+1,by omega,by go_num,by rw [SX.out];try rfl,HB2.out⟩
   case measure=>simp [intOf];omega
  ·obtain rfl:k=all.length:=by omega
   clear hbel
   generalize maxF f own (all.take all.length)=b at *
   go_wp2
   go_ret
   exact ⟨by rw [X.out];try rfl,HB.out⟩
set_option maxHeartbeats 2000000 in
theorem bounded8_any (A:Option Addr) (n c:Nat) (l:List Pn) (w:World) (h:rdPns w (lt_ w.heap.size) l [.slice A n c]) :
  Calls Tryz.prog 18 #[.slice A n c] w fun e w'=>LtR (Bd8 l) e∧w=w':=by
 obtain ⟨rfl,hnc,hcm,hat⟩:=rdPns_at h
 have hcm':c≤9223372036854775807:=hcm
 have HAT:=Lib.hid hat
 clear hcm hat h
 go_enter Tryz.func18,Tryz.ntmps18
 go_wp2
 go_loop [3] (fun i=>∃k:Nat,k≤l.length∧i=.int .i64 k∧(∀j (hj:j < l.length),j < k→(-1099511627776≤l[j].p∧l[j].p≤1099511627776))) (fun i=>l.length - (intOf i).toNat)
 case atStart=>exact ⟨0,Nat.zero_le _,rfl,fun j _ hj=>absurd hj (Nat.not_lt_zero _)⟩
 case round=>
  obtain ⟨k,hk,rfl,hall⟩:=hrel
  have HA:=Lib.hid hall
  clear hall
  by_cases hlt:k < l.length
  ·obtain ⟨ad,rfl,had,c0,c1,c2⟩:=HAT.out k hlt
   have i0:(0:Int)≤(k:Int):=by omega
   have i1:(k:Int) < (l.length:Int):=by omega
   have SX:=Lib.hid (fun hs:(-1099511627776≤l[k].p∧l[k].p≤1099511627776)=>show ∀j (hj:j < l.length),j < k+1→(-1099511627776≤l[j].p∧l[j].p≤1099511627776) from fun j hj h=>by
    by_cases hjk:j=k
    ·subst hjk;exact hs
    ·exact HA.out j hj (by omega))
   clear had
   generalize l[k]=x at *
   by_cases q0:x.p < -1099511627776
   ·go_wp2
    go_ret
    exact ⟨ltR_no _,rfl⟩
   by_cases q1:1099511627776 < x.p
   ·go_wp2
    go_ret
    exact ⟨ltR_no _,rfl⟩
   have NX:=Lib.hid (SX.out ⟨by omega,by omega⟩)
   go_wp2
   go_round
   case rel=>exact ⟨k+1,by omega,by go_num,NX.out⟩
   case measure=>simp [intOf];omega
  ·have X:=Lib.hid (show Bd8 l from fun x hx=>by
    obtain ⟨j,hj,rfl⟩:=List.getElem_of_mem hx
    exact HA.out j hj (by omega))
   go_wp2
   go_ret
   exact ⟨⟨true,rfl,fun _=>X.out⟩,rfl⟩
set_option maxHeartbeats 2000000 in
theorem short8_any (A:Option Addr) (n c:Nat) (l:List ByteArray) (w:World) (h:rdBas w (lt_ w.heap.size) l [.slice A n c]) :
  Calls Tryz.prog 19 #[.slice A n c] w fun e w'=>LtR (Sh8 l) e∧w=w':=by
 obtain ⟨rfl,hnc,hcm,hat⟩:=rdBas_at h
 have hcm':c≤9223372036854775807:=hcm
 have HAT:=Lib.hid hat
 clear hcm hat h
 by_cases g0:(60:Int) < (l.length:Int)
 ·go_enter Tryz.func19,Tryz.ntmps19
  go_wp2
  go_ret
  exact ⟨ltR_no _,rfl⟩
 have HL:=Lib.hid (show l.length≤60 by omega)
 go_enter Tryz.func19,Tryz.ntmps19
 go_wp2
 go_loop [3] (fun i=>∃k:Nat,k≤l.length∧i=.int .i64 k∧(∀j (hj:j < l.length),j < k→(l[j].size≤100))) (fun i=>l.length - (intOf i).toNat)
 case atStart=>exact ⟨0,Nat.zero_le _,rfl,fun j _ hj=>absurd hj (Nat.not_lt_zero _)⟩
 case round=>
  obtain ⟨k,hk,rfl,hall⟩:=hrel
  have HA:=Lib.hid hall
  clear hall
  by_cases hlt:k < l.length
  ·obtain ⟨ad,rfl,had,c0⟩:=HAT.out k hlt
   have i0:(0:Int)≤(k:Int):=by omega
   have i1:(k:Int) < (l.length:Int):=by omega
   have SX:=Lib.hid (fun hs:(l[k].size≤100)=>show ∀j (hj:j < l.length),j < k+1→(l[j].size≤100) from fun j hj h=>by
    by_cases hjk:j=k
    ·subst hjk;exact hs
    ·exact HA.out j hj (by omega))
   clear had
   generalize l[k]=x at *
   by_cases q0:(100:Int) < (x.size:Int)
   ·go_wp2
    go_ret
    exact ⟨ltR_no _,rfl⟩
   have NX:=Lib.hid (SX.out (by omega))
   go_wp2
   go_round
   case rel=>exact ⟨k+1,by omega,by go_num,NX.out⟩
   case measure=>simp [intOf];omega
  ·have X:=Lib.hid (show Sh8 l from ⟨HL.out,fun x hx=>by
    obtain ⟨j,hj,rfl⟩:=List.getElem_of_mem hx
    exact HA.out j hj (by omega)⟩)
   go_wp2
   go_ret
   exact ⟨⟨true,rfl,fun _=>X.out⟩,rfl⟩
end Go.Proofs.YtbljkpbaceiaiaaGreatDoor
namespace Go.Proofs.YtbljkpbaceiaiaaGreatDoor
open Go.RowKit Go.WideShapes Go.ChangeShapes Go.ChangeAt Go.WideMaps Go.WideElems Go.Joins Go.Deep
section
variable {H:Type} {enc:TypeId × Value→H} {W:World}
def FdOk (a:Fd):Prop:=a.n.size≤maxLen∧a.v.size≤maxLen
theorem cells_fd:Tryz.prog.cellsOf 58=2:=by kernel_rfl
theorem cells_stz:Tryz.prog.cellsOf 48=1:=by kernel_rfl
theorem cells_st:Tryz.prog.cellsOf 9=1:=by kernel_rfl
theorem trod_fd {base n:Nat} {sp:Nat→Bool} {held:Bool} {cs:List Value} {y:DataW H × List MemPlace} (h:DataW.trod enc Tryz.prog W base sp held n 58 cs=some y):∃x:Fd,cs=x.cells∧FdOk x:=by
 obtain ⟨y0,y1,m,_,hl,h0,h1⟩:=trod_struct2 Tryz.underlying58 h
 rw [cells_fd] at hl
 rcases cs with _|⟨c0,_|⟨c1,_|⟨c2,cs⟩⟩⟩
 ·simp at hl
 ·simp at hl
 ·have e0:DataW.trod enc Tryz.prog W base sp held m 9 [c0]=some y0:=h0
  have e1:DataW.trod enc Tryz.prog W base sp held m 9 [c1]=some y1:=h1
  obtain ⟨u,rfl,wu⟩:=one_string e0
  obtain ⟨r,rfl,wr⟩:=one_string e1
  exact ⟨⟨u,r⟩,rfl,wu,wr⟩
 ·simp at hl
theorem open_fds_trod {base n:Nat} {sp:Nat→Bool} {held:Bool} {t:TypeId} {cs:List Value} {y:DataW H × List MemPlace} (ht:Tryz.prog.underlying t=some (.slice 58)) (h:DataW.trod enc Tryz.prog W base sp held n t cs=some y) :
  ∃A len c l,cs=[.slice A len c]∧rdFds W (lt_ W.heap.size) l [.slice A len c]∧(∀a ∈ l,FdOk a):=by
 rcases open_slice ht h with ⟨rfl,_⟩|⟨a,len,cap,m,k,D,Pl,rfl,hb,hl,hm,hmm,_,hx⟩
 ·exact ⟨none,0,0,[],rfl,rdRow_nil _ _,by simp⟩
 ·have hlm:len≤m:=by rw [hmm];split<;>omega
  have hat:∀i,i < len→∃x:Fd,FdOk x∧a.block < W.heap.size∧∀j u,x.cells[j]?=some u→W.cell? (a.add (i*2+j))=some u:=by
   intro i hi
   obtain ⟨cs',hc,ht'⟩:=hx i (by omega)
   rw [cells_fd] at hc
   obtain ⟨x,rfl,hok⟩:=trod_fd ht'
   obtain ⟨_,hcl,hcell⟩:=World.cells?_some hc
   have key:∀j u,x.cells[j]?=some u→W.cell? (a.add (i*2+j))=some u:=fun j u hu=>by
    have hj:j < 2:=by have:=(List.getElem?_eq_some_iff.1 hu).1;simpa [Fd.cells] using this
    have:=hcell j hj
    rw [hu] at this
    rw [←this]
    congr 1
    unfold Addr.add
    by_cases h1:i*2=0<;>by_cases h2:j=0<;>simp [h1,h2,Nat.add_assoc]
   have hb':=World.block_lt_of_cell? _ _ (key 0 _ rfl)
   rw [blk_add] at hb'
   exact ⟨x,hok,hb',key⟩
  refine ⟨some a,len,cap,List.ofFn fun i:Fin len=>Classical.choose (hat i.1 i.2),rfl,⟨some a,cap,by simp,by simpa using hl,hm,fun i hi=>?_⟩,fun x hx=>?_⟩
  ·simp only [List.length_ofFn] at hi
   have hs:=Classical.choose_spec (hat i hi)
   refine ⟨a,_,rfl,hs.2.1,?_,?_,hs.2.2⟩
   ·show _=Fd.cells _
    rw [List.getElem_ofFn]
   ·rfl
  ·obtain ⟨i,hi⟩:=List.mem_ofFn.1 hx
   rw [←hi];exact (Classical.choose_spec (hat i.1 i.2)).1
theorem open_stzs_arg {v:Value} {d:DataW H} {p:List MemPlace} {base:Nat} (hv:Value.okWide Tryz.prog W .any base 44 v) (h:DataW.Trod enc Tryz.prog W 0 (fun _=>true) true 44 v d p) :
  ∃A n c L,v=.slice A n c∧rdStzs W (lt_ W.heap.size) L [.slice A n c]∧(∀g ∈ L,∀a ∈ g,FdOk a):=by
 obtain ⟨a0,len0,cap0,rfl⟩:=okWide_slice Tryz.underlying44 hv
 obtain ⟨fuel,hf⟩:=h
 rcases open_slice Tryz.underlying44 hf with ⟨hcs,_⟩|⟨a,len,cap,m,k,D,Pl,hcs,hb,hl,hm,hmm,_,hx⟩
 ·simp [Value.cells] at hcs
  obtain ⟨rfl,rfl,rfl⟩:=hcs
  exact ⟨none,0,0,[],rfl,rdRow_nil _ _,by simp⟩
 ·simp [Value.cells] at hcs
  obtain ⟨rfl,rfl,rfl⟩:=hcs
  have hlm:len0≤m:=by rw [hmm];split<;>omega
  have hat:∀i,i < len0→∃(g:List Fd) (u:Value),(∀x ∈ g,FdOk x)∧a.block < W.heap.size∧rdFds W (lt_ W.heap.size) g [u]∧W.cell? (a.add (i*1+0))=some u:=by
   intro i hi
   obtain ⟨cs',hc,ht'⟩:=hx i (by omega)
   rw [cells_stz] at hc
   obtain ⟨A,n,c,l,rfl,h1,h2⟩:=open_fds_trod Tryz.underlying48 ht'
   obtain ⟨_,hcl,hcell⟩:=World.cells?_some hc
   have h0:=hcell 0 (by omega)
   have hadd:((a.add (i*1)).add 0)=a.add (i*1+0):=by unfold Addr.add;simp
   rw [hadd] at h0
   have hb':=World.block_lt_of_cell? W (a.add (i*1+0)) h0
   rw [blk_add] at hb'
   exact ⟨l,_,h2,hb',h1,h0⟩
  refine ⟨some a,len0,cap0,List.ofFn fun i:Fin len0=>Classical.choose (hat i.1 i.2),rfl,⟨some a,cap0,by simp,by simpa using hl,hm,fun i hi=>?_⟩,fun g hg=>?_⟩
  ·simp only [List.length_ofFn] at hi
   have hs:=Classical.choose_spec (Classical.choose_spec (hat i hi))
   refine ⟨a,[Classical.choose (Classical.choose_spec (hat i hi))],rfl,hs.2.1,?_,rfl,fun j u hu=>?_⟩
   ·rw [List.getElem_ofFn];exact hs.2.2.1
   ·have hj:j=0:=by have:=(List.getElem?_eq_some_iff.1 hu).1;simpa using this
    subst hj
    simp only [List.getElem?_cons_zero,Option.some.injEq] at hu
    rw [←hu];exact hs.2.2.2
  ·obtain ⟨i,hi⟩:=List.mem_ofFn.1 hg
   rw [←hi];exact (Classical.choose_spec (Classical.choose_spec (hat i.1 i.2))).1
theorem open_strs5_arg {v:Value} {d:DataW H} {p:List MemPlace} {base:Nat} (hv:Value.okWide Tryz.prog W .any base 35 v) (h:DataW.Trod enc Tryz.prog W 0 (fun _=>true) true 35 v d p) :
  ∃A n c l,v=.slice A n c∧rdStrs W (lt_ W.heap.size) l [.slice A n c]∧(∀x ∈ l,x.length≤maxLen):=by
 obtain ⟨a0,len0,cap0,rfl⟩:=okWide_slice Tryz.underlying35 hv
 obtain ⟨fuel,hf⟩:=h
 rcases open_slice Tryz.underlying35 hf with ⟨hcs,_⟩|⟨a,len,cap,m,k,D,Pl,hcs,hb,hl,hm,hmm,_,hx⟩
 ·simp [Value.cells] at hcs
  obtain ⟨rfl,rfl,rfl⟩:=hcs
  exact ⟨none,0,0,[],rfl,rdRow_nil _ _,by simp⟩
 ·simp [Value.cells] at hcs
  obtain ⟨rfl,rfl,rfl⟩:=hcs
  have hlm:len0≤m:=by rw [hmm];split<;>omega
  have hat:∀i,i < len0→∃s:ByteArray,s.size≤maxLen∧a.block < W.heap.size∧W.cell? (a.add (i*1+0))=some (.string s):=by
   intro i hi
   obtain ⟨cs',hc,ht'⟩:=hx i (by omega)
   rw [cells_st] at hc
   obtain ⟨_,hcl,hcell⟩:=World.cells?_some hc
   rcases cs' with _|⟨c0,_|⟨c1,cs⟩⟩
   ·simp at hcl
   ·obtain ⟨s,rfl,ws⟩:=one_string ht'
    have h0:=hcell 0 (by omega)
    have hadd:((a.add (i*1)).add 0)=a.add (i*1+0):=by unfold Addr.add;simp
    rw [hadd] at h0
    have hb':=World.block_lt_of_cell? W (a.add (i*1+0)) h0
    rw [blk_add] at hb'
    exact ⟨s,ws,hb',h0⟩
   ·simp at hcl
  refine ⟨some a,len0,cap0,List.ofFn fun i:Fin len0=>B (Classical.choose (hat i.1 i.2)),rfl,⟨some a,cap0,by simp,by simpa using hl,hm,fun i hi=>?_⟩,fun g hg=>?_⟩
  ·simp only [List.length_ofFn] at hi
   have hs:=Classical.choose_spec (hat i hi)
   refine ⟨a,[.string (Classical.choose (hat i hi))],rfl,hs.2.1,?_,rfl,fun j u hu=>?_⟩
   ·rw [List.getElem_ofFn];exact ⟨_,rfl,rfl⟩
   ·have hj:j=0:=by have:=(List.getElem?_eq_some_iff.1 hu).1;simpa using this
    subst hj
    simp only [List.getElem?_cons_zero,Option.some.injEq] at hu
    rw [←hu];exact hs.2.2
  ·obtain ⟨i,hi⟩:=List.mem_ofFn.1 hg
   rw [←hi,B_len];exact (Classical.choose_spec (hat i.1 i.2)).1
end
section
variable {H:Type} {enc:TypeId × Value→H} {W:World}
theorem bytes_str:Tryz.prog.bytesOf 9=16:=by kernel_rfl
theorem reach_strs {A:Option Addr} {n c:Nat} {d:DataW H} {p:List MemPlace} (h:DataW.Trod enc Tryz.prog W 0 (fun _=>true) true 35 (.slice A n c) d p) {ts:List TypeId} {ds:List (DataW H)} {j:Nat}
  (hz:(DataW.weightsEach Tryz.prog ts ds).all (·≤reachBytes)=true) (ht:ts[j]?=some 35) (hd:ds[j]?=some d):n*16≤140737488351232:=reach_slice Tryz.underlying35 bytes_str h hz ht hd
theorem open_bas_arg {v:Value} {d:DataW H} {p:List MemPlace} {base:Nat} (hv:Value.okWide Tryz.prog W .any base 35 v) (h:DataW.Trod enc Tryz.prog W 0 (fun _=>true) true 35 v d p) :
  ∃A n c l,v=.slice A n c∧rdBas W (lt_ W.heap.size) l [.slice A n c]:=by
 obtain ⟨A,n,c,l,hv',hr,-⟩:=open_strs5_arg hv h
 obtain ⟨m,-,hm⟩:=rdBas_of hr
 exact ⟨A,n,c,m,hv',hm⟩
end
end Go.Proofs.YtbljkpbaceiaiaaGreatDoor
