/- What the laws rest on: E11f, E8o. -/
import Derived.Test.YtpilmhoakopcaaaGreatDoorQAVZA
set_option maxRecDepth 100000
set_option linter.unusedVariables false
set_option linter.unusedSimpArgs false
namespace Go.Proofs.YtpilmhoakopcaaaGreatDoor
open Go.RowKit
def Pw11 (l:List Pn):Prop:=l.length≤20∧∀x ∈ l,x.n.size≤100∧x.x.size≤100
set_option maxHeartbeats 2000000 in
theorem wishes11_any (A:Option Addr) (n c:Nat) (l:List Pn) (w:World) (h:rdPns w (lt_ w.heap.size) l [.slice A n c]) :
  Calls Tryz.prog 10 #[.slice A n c] w fun e w'=>LtR (Pw11 l) e∧w=w':=by
 obtain ⟨rfl,hnc,hcm,hat⟩:=rdPns_at h
 have hcm':c≤9223372036854775807:=hcm
 have HAT:=Lib.hid hat
 clear hcm hat h
 by_cases g0:(20:Int) < (l.length:Int)
 ·go_enter Tryz.func10,Tryz.ntmps10
  go_wp2
  go_ret
  exact ⟨ltR_no _,rfl⟩
 have HL:=Lib.hid (show l.length≤20 by omega)
 go_enter Tryz.func10,Tryz.ntmps10
 go_wp2
 go_loop [3] (fun i=>∃k:Nat,k≤l.length∧i=.int .i64 k∧(∀j (hj:j < l.length),j < k→(l[j].n.size≤100∧l[j].x.size≤100))) (fun i=>l.length - (intOf i).toNat)
 case atStart=>exact ⟨0,Nat.zero_le _,rfl,fun j _ hj=>absurd hj (Nat.not_lt_zero _)⟩
 case round=>
  obtain ⟨k,hk,rfl,hall⟩:=hrel
  have HA:=Lib.hid hall
  clear hall
  by_cases hlt:k < l.length
  ·obtain ⟨ad,rfl,had,c0,c1,c2⟩:=HAT.out k hlt
   have i0:(0:Int)≤(k:Int):=by omega
   have i1:(k:Int) < (l.length:Int):=by omega
   have SX:=Lib.hid (fun hs:(l[k].n.size≤100∧l[k].x.size≤100)=>show ∀j (hj:j < l.length),j < k+1→(l[j].n.size≤100∧l[j].x.size≤100) from fun j hj h=>by
    by_cases hjk:j=k
    ·subst hjk;exact hs
    ·exact HA.out j hj (by omega))
   clear had
   generalize l[k]=x at *
   by_cases q0:(100:Int) < (x.n.size:Int)
   ·go_wp2
    go_ret
    exact ⟨ltR_no _,rfl⟩
   by_cases q1:(100:Int) < (x.x.size:Int)
   ·go_wp2
    go_ret
    exact ⟨ltR_no _,rfl⟩
   have NX:=Lib.hid (SX.out ⟨by omega,by omega⟩)
   go_wp2
   go_round
   case rel=>exact ⟨k+1,by omega,by go_num,NX.out⟩
   case measure=>simp [intOf];omega
  ·have X:=Lib.hid (show Pw11 l from ⟨HL.out,fun x hx=>by
    obtain ⟨j,hj,rfl⟩:=List.getElem_of_mem hx
    exact HA.out j hj (by omega)⟩)
   go_wp2
   go_ret
   exact ⟨⟨true,rfl,fun _=>X.out⟩,rfl⟩
end Go.Proofs.YtpilmhoakopcaaaGreatDoor
namespace Go.Proofs.YtpilmhoakopcaaaGreatDoor
open Go.RowKit Go.WideShapes Go.ChangeShapes Go.ChangeAt Go.WideMaps Go.WideElems Go.Joins Go.Deep
section
variable {H:Type} {enc:TypeId × Value→H} {W:World}
def PnOk (a:Pn):Prop:=a.n.size≤maxLen∧a.x.size≤maxLen∧(Lit.int .i64 a.p).wf=true
theorem cells_pn:Tryz.prog.cellsOf 70=3:=by kernel_rfl
theorem trod_pn {base n:Nat} {sp:Nat→Bool} {held:Bool} {cs:List Value} {y:DataW H × List MemPlace} (h:DataW.trod enc Tryz.prog W base sp held n 70 cs=some y):∃x:Pn,cs=x.cells∧PnOk x:=by
 obtain ⟨y0,y1,y2,m,_,hl,h0,h1,h2⟩:=trod_struct3 Tryz.underlying70 h
 rw [cells_pn] at hl
 rcases cs with _|⟨c0,_|⟨c1,_|⟨c2,_|⟨c3,cs⟩⟩⟩⟩
 ·simp at hl
 ·simp at hl
 ·simp at hl
 ·have e0:DataW.trod enc Tryz.prog W base sp held m 9 [c0]=some y0:=h0
  have e1:DataW.trod enc Tryz.prog W base sp held m 9 [c1]=some y1:=h1
  have e2:DataW.trod enc Tryz.prog W base sp held m 3 [c2]=some y2:=h2
  obtain ⟨u,rfl,wu⟩:=one_string e0
  obtain ⟨r,rfl,wr⟩:=one_string e1
  obtain ⟨e,rfl,we⟩:=one_int e2
  exact ⟨⟨u,r,e⟩,rfl,wu,wr,we⟩
 ·simp at hl
theorem open_pins_trod {base n:Nat} {sp:Nat→Bool} {held:Bool} {t:TypeId} {cs:List Value} {y:DataW H × List MemPlace} (ht:Tryz.prog.underlying t=some (.slice 70)) (h:DataW.trod enc Tryz.prog W base sp held n t cs=some y) :
  ∃A len c l,cs=[.slice A len c]∧rdPns W (lt_ W.heap.size) l [.slice A len c]∧(∀a ∈ l,PnOk a):=by
 rcases open_slice ht h with ⟨rfl,_⟩|⟨a,len,cap,m,k,D,Pl,rfl,hb,hl,hm,hmm,_,hx⟩
 ·exact ⟨none,0,0,[],rfl,rdRow_nil _ _,by simp⟩
 ·have hlm:len≤m:=by rw [hmm];split<;>omega
  have hat:∀i,i < len→∃x:Pn,PnOk x∧a.block < W.heap.size∧∀j u,x.cells[j]?=some u→W.cell? (a.add (i*3+j))=some u:=by
   intro i hi
   obtain ⟨cs',hc,ht'⟩:=hx i (by omega)
   rw [cells_pn] at hc
   obtain ⟨x,rfl,hok⟩:=trod_pn ht'
   obtain ⟨_,hcl,hcell⟩:=World.cells?_some hc
   have key:∀j u,x.cells[j]?=some u→W.cell? (a.add (i*3+j))=some u:=fun j u hu=>by
    have hj:j < 3:=by have:=(List.getElem?_eq_some_iff.1 hu).1;simpa [Pn.cells] using this
    have:=hcell j hj
    rw [hu] at this
    rw [←this]
    congr 1
    unfold Addr.add
    by_cases h1:i*3=0<;>by_cases h2:j=0<;>simp [h1,h2,Nat.add_assoc]
   have hb':=World.block_lt_of_cell? _ _ (key 0 _ rfl)
   rw [blk_add] at hb'
   exact ⟨x,hok,hb',key⟩
  refine ⟨some a,len,cap,List.ofFn fun i:Fin len=>Classical.choose (hat i.1 i.2),rfl,⟨some a,cap,by simp,by simpa using hl,hm,fun i hi=>?_⟩,fun x hx=>?_⟩
  ·simp only [List.length_ofFn] at hi
   have hs:=Classical.choose_spec (hat i hi)
   refine ⟨a,_,rfl,hs.2.1,?_,?_,hs.2.2⟩
   ·show _=Pn.cells _
    rw [List.getElem_ofFn]
   ·rfl
  ·obtain ⟨i,hi⟩:=List.mem_ofFn.1 hx
   rw [←hi];exact (Classical.choose_spec (hat i.1 i.2)).1
theorem open_pins_arg {v:Value} {d:DataW H} {p:List MemPlace} {base:Nat} (hv:Value.okWide Tryz.prog W .any base 24 v) (h:DataW.Trod enc Tryz.prog W 0 (fun _=>true) true 24 v d p) :
  ∃A n c l,v=.slice A n c∧rdPns W (lt_ W.heap.size) l [.slice A n c]∧(∀a ∈ l,PnOk a):=by
 obtain ⟨a0,len,cap,rfl⟩:=okWide_slice Tryz.underlying24 hv
 obtain ⟨fuel,hf⟩:=h
 obtain ⟨A,n,c,l,hcs,h1,h2⟩:=open_pins_trod Tryz.underlying24 hf
 simp [Value.cells] at hcs
 obtain ⟨rfl,rfl,rfl⟩:=hcs
 exact ⟨a0,len,cap,l,rfl,h1,h2⟩
end
end Go.Proofs.YtpilmhoakopcaaaGreatDoor
