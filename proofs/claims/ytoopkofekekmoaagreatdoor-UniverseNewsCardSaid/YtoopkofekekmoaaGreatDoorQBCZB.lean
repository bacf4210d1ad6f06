/- What the laws rest on: E9g, E9b, Open2, OpenG, E6j, E7t, LaidStr, Post2. -/
import Derived.ProofKit
import Derived.OpenShut
import Derived.ChangeMaps5
import Derived.SliceStrings
import Derived.Lib.SmallJoins
import Derived.Deep.Slices
import Derived.Deep.Strs
import Derived.Lib.LaidTab
import Derived.ChangeArms
import Derived.Test.YtoopkofekekmoaaGreatDoorRows
import Derived.ChangeSame
import Derived.Carry
import Derived.Test.YtoopkofekekmoaaGreatDoorQAMZB
set_option maxRecDepth 100000
set_option linter.unusedVariables false
set_option linter.unusedSimpArgs false
namespace Go.Proofs.YtoopkofekekmoaaGreatDoor
open Go.RowKit
theorem plU_in9 {e:Ent}:∀(L:List Ent) (i:Nat),plU e.n e.v L i < 0↔in9 L e=false
 | [],i=>⟨fun _=>rfl,fun _=>by show (-1:Int) < 0;decide⟩
 | x::r,i=>by
  rw [plU_cons]
  have s:in9 (x::r) e=(decide (one9 x e)||in9 r e):=rfl
  rw [s]
  split
  ·rename_i h
   rw [decide_eq_true (show one9 x e from h)]
   exact ⟨fun q=>by omega,fun q=>by cases q⟩
  ·rename_i h
   rw [decide_eq_false (show ¬one9 x e from h),Bool.false_or]
   exact plU_in9 r (i+1)
theorem add9_place {L:List Ent} {e:Ent}:(plU e.n e.v L 0 < 0→addU L e=putU L e)∧(¬plU e.n e.v L 0 < 0→addU L e=L):=by
 unfold addU
 exact ⟨fun h=>if_neg (by rw [(plU_in9 L 0).1 h];decide),fun h=>if_pos (by
  cases q:in9 L e
  ·exact absurd ((plU_in9 L 0).2 q) h
  ·rfl)⟩
theorem fold_take {α β:Type} {f:β→α→β} {b:β} {l:List α} {k:Nat} (h:k < l.length):(l.take (k+1)).foldl f b=f ((l.take k).foldl f b) l[k]:=by
 rw [List.take_succ_eq_append_getElem h,List.foldl_append];rfl
theorem putU_len (L:List Ent) (e:Ent):(putU L e).length=L.length+1:=by
 have q:=congrArg List.length (List.takeWhile_append_dropWhile (p:=fun x=>lesB x e) (l:=L))
 rw [List.length_append] at q
 unfold putU
 rw [List.length_append,List.length_cons];omega
theorem fold_put_len:∀(he L:List Ent),(he.foldl putU L).length=L.length+he.length
 | [],L=>rfl
 | e::r,L=>by
  show (r.foldl putU (putU L e)).length=_
  rw [fold_put_len r,putU_len,List.length_cons];omega
theorem fold_addU_len:∀(ix L:List Ent),(ix.foldl addU L).length≤L.length+ix.length
 | [],L=>Nat.le_refl _
 | e::r,L=>by
  show (r.foldl addU (addU L e)).length≤_
  have h:=fold_addU_len r (addU L e)
  have h2:(addU L e).length≤L.length+1:=by
   unfold addU
   split
   ·omega
   ·rw [putU_len];exact Nat.le_refl _
  rw [List.length_cons];omega
def Fw9 (l:List Ent) (m:List Hr):Prop:=(l.length≤70∧∀x ∈ l,Sm x)∧m.length≤70∧∀x ∈ m,Sm x.e
set_option maxHeartbeats 8000000 in
theorem small9_any (A:Option Addr) (n c:Nat) (l:List Ent) (A':Option Addr) (n' c':Nat) (m:List Hr) (w:World) (h:rdEnts w (lt_ w.heap.size) l [.slice A n c]) (h':rdHrs w (lt_ w.heap.size) m [.slice A' n' c']) :
  Calls Tryz.prog 9 #[.slice A n c,.slice A' n' c'] w fun e w'=>LtR (Fw9 l m) e∧Below w.heap.size w w':=by
 obtain ⟨rfl,hnc,hcm,-⟩:=rdEnts_at h
 obtain ⟨rfl,hnc',hcm',-⟩:=rdHrs_at h'
 have hcm1:c≤9223372036854775807:=hcm
 have hcm2:c'≤9223372036854775807:=hcm'
 clear hcm hcm'
 by_cases g0:(70:Int) < (l.length:Int)
 ·go_enter Tryz.func9,Tryz.ntmps9
  go_wp2
  go_ret
  exact ⟨ltR_no _,Below.refl _ _⟩
 by_cases g1:(70:Int) < (m.length:Int)
 ·go_enter Tryz.func9,Tryz.ntmps9
  go_wp2
  go_ret
  exact ⟨ltR_no _,Below.refl _ _⟩
 have HL:=Lib.hid (show l.length≤70∧m.length≤70 by omega)
 have H':=Lib.hid h'
 clear h'
 go_enter Tryz.func9,Tryz.ntmps9
 go_wp2
 go_loopw [5] (fun i wr=>∃k:Nat,k≤l.length∧i=.int .i64 k∧(∀j (hj:j < l.length),j < k→Sm l[j])∧Below w.heap.size w wr) (fun i _=>l.length - (intOf i).toNat)
 case atStart=>exact ⟨0,Nat.zero_le _,rfl,fun j _ hj=>absurd hj (Nat.not_lt_zero _),Below.refl _ _⟩
 case round=>
  obtain ⟨k,hk,rfl,hall,hbel⟩:=hrel
  have HA:=Lib.hid hall
  have HB:=Lib.hid hbel
  clear hall
  by_cases hlt:k < l.length
  ·obtain ⟨_,_,_,hat⟩:=rdEnts_at (rdEnts_good.up (rdEnts_good.below h hbel) hbel.size)
   obtain ⟨ad,A1,c1,A2,c2,A3,c3,A4,c4,rfl,had,hv,h0,h1,h2,h3,h4,h5⟩:=hat k hlt
   have i0:(0:Int)≤(k:Int):=by omega
   have i1:(k:Int) < (l.length:Int):=by omega
   have K:=Lib.hid (fine9_any l[k] A1 c1 A2 c2 A3 c3 A4 c4 _ hv)
   clear had hat hv hbel h
   go_wp2_with fail
   refine K.out.mono ?_
   rintro e w' ⟨⟨b,rfl,hb⟩,hbl⟩
   have HB2:=Lib.hid (HB.out.trans (hbl.mono HB.out.size))
   cases b
   ·go_wp2
    go_ret
    exact ⟨ltR_no _,HB2.out⟩
   have NX:=Lib.hid (hb rfl)
   clear hb hbl h0 h1 h2 h3 h4 h5
   go_wp2
   go_roundw
   case rel=>exact ⟨k+1,by omega,by go_num,fun j hj h=>by
    by_cases hjk:j=k
    ·subst hjk;exact NX.out
    ·exact HA.out j hj (by omega),HB2.out⟩
   case measure=>simp [intOf];omega
  ·obtain rfl:k=l.length:=by omega
   have FIN:=Lib.hid (show ∀x ∈ l,Sm x from fun a ha=>by
    obtain ⟨j,hj,rfl⟩:=List.getElem_of_mem ha
    exact HA.out j hj hj)
   clear h hbel HA
   go_wp2
   go_loopw [7] (fun i wr=>∃k:Nat,k≤m.length∧i=.int .i64 k∧(∀j (hj:j < m.length),j < k→Sm m[j].e)∧Below w.heap.size w wr) (fun i _=>m.length - (intOf i).toNat)
   case atStart=>exact ⟨0,Nat.zero_le _,rfl,fun j _ hj=>absurd hj (Nat.not_lt_zero _),HB.out⟩
   case round=>
    clear HB
    obtain ⟨k,hk,rfl,hall,hbel⟩:=hrel
    have HA:=Lib.hid hall
    have HB:=Lib.hid hbel
    clear hall
    by_cases hlt:k < m.length
    ·obtain ⟨_,_,_,hat⟩:=rdHrs_at (rdHrs_good.up (rdHrs_good.below H'.out hbel) hbel.size)
     obtain ⟨ad,A1,c1,A2,c2,A3,c3,A4,c4,rfl,had,hv,h0,h1,h2,h3,h4,h5,-,-⟩:=hat k hlt
     have i0:(0:Int)≤(k:Int):=by omega
     have i1:(k:Int) < (m.length:Int):=by omega
     have K:=Lib.hid (fine9_any m[k].e A1 c1 A2 c2 A3 c3 A4 c4 _ hv)
     clear had hat hv hbel
     go_wp2_with fail
     refine K.out.mono ?_
     rintro e w' ⟨⟨b,rfl,hb⟩,hbl⟩
     have HB2:=Lib.hid (HB.out.trans (hbl.mono HB.out.size))
     cases b
     ·go_wp2
      go_ret
      exact ⟨ltR_no _,HB2.out⟩
     have NX:=Lib.hid (hb rfl)
     clear hb hbl h0 h1 h2 h3 h4 h5
     go_wp2
     go_roundw
     case rel=>exact ⟨k+1,by omega,by go_num,fun j hj h=>by
      by_cases hjk:j=k
      ·subst hjk;exact NX.out
      ·exact HA.out j hj (by omega),HB2.out⟩
     case measure=>simp [intOf];omega
    ·obtain rfl:k=m.length:=by omega
     have FIN2:=Lib.hid (show Fw9 l m from ⟨⟨HL.out.1,FIN.out⟩,HL.out.2,fun a ha=>by
      obtain ⟨j,hj,rfl⟩:=List.getElem_of_mem ha
      exact HA.out j hj hj⟩)
     clear hbel
     go_wp2
     go_ret
     exact ⟨ltR_yes FIN2.out,HB.out⟩
end Go.Proofs.YtoopkofekekmoaaGreatDoor
namespace Go.Proofs.YtoopkofekekmoaaGreatDoor
open Go.RowKit Go.WideShapes Go.ChangeShapes Go.ChangeAt Go.WideMaps Go.WideElems Go.Joins
section
variable {H:Type} {enc:TypeId × Value→H} {W:World}
theorem one_int {base n:Nat} {sp:Nat→Bool} {held:Bool} {v:Value} {y:DataW H × List MemPlace} (h:DataW.trod enc Tryz.prog W base sp held n 3 [v]=some y):∃e:Int,v=.int .i64 e∧(Lit.int .i64 e).wf=true:=by
 obtain ⟨e,h0,_,h2⟩:=DataW.trod_int Tryz.underlying3 h
 injection h0 with h0
 exact ⟨e,h0,h2⟩
theorem one_string {base n:Nat} {sp:Nat→Bool} {held:Bool} {v:Value} {y:DataW H × List MemPlace} (h:DataW.trod enc Tryz.prog W base sp held n 9 [v]=some y):∃s:ByteArray,v=.string s∧s.size≤maxLen:=by
 obtain ⟨s,h0,_,h2⟩:=DataW.trod_string Tryz.underlying9 h
 injection h0 with h0
 exact ⟨s,h0,h2⟩
end
end Go.Proofs.YtoopkofekekmoaaGreatDoor
namespace Go.Proofs.YtoopkofekekmoaaGreatDoor
open Go.RowKit Go.WideShapes Go.ChangeShapes Go.ChangeAt Go.WideMaps Go.WideElems Go.Joins Go.Deep
section
variable {H:Type} {enc:TypeId × Value→H} {W:World}
def AtmOk (a:Atm):Prop:=a.n.size≤maxLen∧(Lit.int .i64 a.o).wf=true∧a.v.size≤maxLen
theorem cells_atm:Tryz.prog.cellsOf 59=3:=by kernel_rfl
theorem cells_grp:Tryz.prog.cellsOf 89=1:=by kernel_rfl
theorem trod_atm {base n:Nat} {sp:Nat→Bool} {held:Bool} {cs:List Value} {y:DataW H × List MemPlace} (h:DataW.trod enc Tryz.prog W base sp held n 59 cs=some y):∃x:Atm,cs=x.cells∧AtmOk x:=by
 obtain ⟨y0,y1,y2,m,_,hl,h0,h1,h2⟩:=trod_struct3 Tryz.underlying59 h
 rw [cells_atm] at hl
 rcases cs with _|⟨c0,_|⟨c1,_|⟨c2,_|⟨c3,cs⟩⟩⟩⟩
 ·simp at hl
 ·simp at hl
 ·simp at hl
 ·have e0:DataW.trod enc Tryz.prog W base sp held m 9 [c0]=some y0:=h0
  have e1:DataW.trod enc Tryz.prog W base sp held m 3 [c1]=some y1:=h1
  have e2:DataW.trod enc Tryz.prog W base sp held m 9 [c2]=some y2:=h2
  obtain ⟨u,rfl,wu⟩:=one_string e0
  obtain ⟨e,rfl,we⟩:=one_int e1
  obtain ⟨r,rfl,wr⟩:=one_string e2
  exact ⟨⟨u,e,r⟩,rfl,wu,we,wr⟩
 ·simp at hl
theorem open_atoms_trod {base n:Nat} {sp:Nat→Bool} {held:Bool} {t:TypeId} {cs:List Value} {y:DataW H × List MemPlace} (ht:Tryz.prog.underlying t=some (.slice 59)) (h:DataW.trod enc Tryz.prog W base sp held n t cs=some y) :
  ∃A len c l,cs=[.slice A len c]∧rdAtms W (lt_ W.heap.size) l [.slice A len c]∧(∀a ∈ l,AtmOk a):=by
 rcases open_slice ht h with ⟨rfl,_⟩|⟨a,len,cap,m,k,D,Pl,rfl,hb,hl,hm,hmm,_,hx⟩
 ·exact ⟨none,0,0,[],rfl,rdRow_nil _ _,by simp⟩
 ·have hlm:len≤m:=by rw [hmm];split<;>omega
  have hat:∀i,i < len→∃x:Atm,AtmOk x∧a.block < W.heap.size∧∀j u,x.cells[j]?=some u→W.cell? (a.add (i*3+j))=some u:=by
   intro i hi
   obtain ⟨cs',hc,ht'⟩:=hx i (by omega)
   rw [cells_atm] at hc
   obtain ⟨x,rfl,hok⟩:=trod_atm ht'
   obtain ⟨_,hcl,hcell⟩:=World.cells?_some hc
   have key:∀j u,x.cells[j]?=some u→W.cell? (a.add (i*3+j))=some u:=fun j u hu=>by
    have hj:j < 3:=by have:=(List.getElem?_eq_some_iff.1 hu).1;simpa [Atm.cells] using this
    have:=hcell j hj
    rw [hu] at this
    rw [←this]
    congr 1
    unfold Addr.add
    by_cases h1:i*3=0<;>by_cases h2:j=0<;>simp [h1,h2,Nat.add_assoc]
   have hb':=World.block_lt_of_cell? _ _ (key 0 _ rfl)
   rw [blk_add] at hb'
   exact ⟨x,hok,hb',key⟩
  refine ⟨some a,len,cap,List.ofFn fun i:Fin len=>Classical.choose (hat i.1 i.2),rfl,⟨some a,cap,by simp,by simpa using hl,hm,fun i hi=>?_⟩,fun x hx=>?_⟩
  ·simp only [List.length_ofFn] at hi
   have hs:=Classical.choose_spec (hat i hi)
   refine ⟨a,_,rfl,hs.2.1,?_,?_,hs.2.2⟩
   ·show _=Atm.cells _
    rw [List.getElem_ofFn]
   ·rfl
  ·obtain ⟨i,hi⟩:=List.mem_ofFn.1 hx
   rw [←hi];exact (Classical.choose_spec (hat i.1 i.2)).1
end
section
variable {H:Type} {enc:TypeId × Value→H} {W:World}
def EntOk (x:Ent):Prop:=x.n.size≤maxLen∧x.v.size≤maxLen∧(∀g ∈ x.d,∀a ∈ g,AtmOk a)∧(∀g ∈ x.r,∀a ∈ g,AtmOk a)∧(∀a ∈ x.c,AtmOk a)∧(∀a ∈ x.p,AtmOk a)
theorem cells_ent:Tryz.prog.cellsOf 53=6:=by kernel_rfl
theorem open_grps_trod {base n:Nat} {sp:Nat→Bool} {held:Bool} {t:TypeId} {cs:List Value} {y:DataW H × List MemPlace} (ht:Tryz.prog.underlying t=some (.slice 89)) (hf:DataW.trod enc Tryz.prog W base sp held n t cs=some y) :
  ∃A len c L,cs=[.slice A len c]∧rdGrps W (lt_ W.heap.size) L [.slice A len c]∧(∀g ∈ L,∀a ∈ g,AtmOk a):=by
 rcases open_slice ht hf with ⟨rfl,_⟩|⟨a,len,cap,m,k,D,Pl,rfl,hb,hl,hm,hmm,_,hx⟩
 ·exact ⟨none,0,0,[],rfl,rdRow_nil _ _,by simp⟩
 ·have hlm:len≤m:=by rw [hmm];split<;>omega
  have hat:∀i,i < len→∃(g:List Atm) (u:Value),(∀x ∈ g,AtmOk x)∧a.block < W.heap.size∧rdAtms W (lt_ W.heap.size) g [u]∧W.cell? (a.add (i*1+0))=some u:=by
   intro i hi
   obtain ⟨cs',hc,ht'⟩:=hx i (by omega)
   rw [cells_grp] at hc
   obtain ⟨A,n,c,l,rfl,h1,h2⟩:=open_atoms_trod Tryz.underlying89 ht'
   obtain ⟨_,hcl,hcell⟩:=World.cells?_some hc
   have h0:=hcell 0 (by omega)
   have hadd:((a.add (i*1)).add 0)=a.add (i*1+0):=by unfold Addr.add;simp
   rw [hadd] at h0
   have hb':=World.block_lt_of_cell? W (a.add (i*1+0)) h0
   rw [blk_add] at hb'
   exact ⟨l,_,h2,hb',h1,h0⟩
  refine ⟨some a,len,cap,List.ofFn fun i:Fin len=>Classical.choose (hat i.1 i.2),rfl,⟨some a,cap,by simp,by simpa using hl,hm,fun i hi=>?_⟩,fun g hg=>?_⟩
  ·simp only [List.length_ofFn] at hi
   have hs:=Classical.choose_spec (Classical.choose_spec (hat i hi))
   refine ⟨a,[Classical.choose (Classical.choose_spec (hat i hi))],rfl,hs.2.1,?_,rfl,fun j u hu=>?_⟩
   ·rw [List.getElem_ofFn];exact hs.2.2.1
   ·have hj:j=0:=by have:=(List.getElem?_eq_some_iff.1 hu).1;simpa using this
    subst hj
    simp only [List.getElem?_cons_zero,Option.some.injEq] at hu
    rw [←hu];exact hs.2.2.2
  ·obtain ⟨i,hi⟩:=List.mem_ofFn.1 hg
   rw [←hi];exact (Classical.choose_spec (Classical.choose_spec (hat i.1 i.2))).1
theorem trod_ent {base n:Nat} {sp:Nat→Bool} {held:Bool} {cs:List Value} {y:DataW H × List MemPlace} (h:DataW.trod enc Tryz.prog W base sp held n 53 cs=some y):∃x:Ent,rdEnt W (lt_ W.heap.size) x cs∧EntOk x:=by
 obtain ⟨xs,m,_,rfl,hl,hlen,hf⟩:=DataW.trod_struct Tryz.underlying53 h
 rw [cells_ent] at hl
 rcases cs with _|⟨c0,_|⟨c1,_|⟨c2,_|⟨c3,_|⟨c4,_|⟨c5,_|⟨c6,cs⟩⟩⟩⟩⟩⟩⟩
 ·simp at hl
 ·simp at hl
 ·simp at hl
 ·simp at hl
 ·simp at hl
 ·simp at hl
 ·rcases xs with _|⟨y0,_|⟨y1,_|⟨y2,_|⟨y3,_|⟨y4,_|⟨y5,_|⟨y6,xs⟩⟩⟩⟩⟩⟩⟩
  ·simp at hlen
  ·simp at hlen
  ·simp at hlen
  ·simp at hlen
  ·simp at hlen
  ·simp at hlen
  ·have e0:DataW.trod enc Tryz.prog W base sp held m 9 [c0]=some y0:=hf 0 _ rfl
   have e1:DataW.trod enc Tryz.prog W base sp held m 9 [c1]=some y1:=hf 1 _ rfl
   have e2:DataW.trod enc Tryz.prog W base sp held m 50 [c2]=some y2:=hf 2 _ rfl
   have e3:DataW.trod enc Tryz.prog W base sp held m 50 [c3]=some y3:=hf 3 _ rfl
   have e4:DataW.trod enc Tryz.prog W base sp held m 51 [c4]=some y4:=hf 4 _ rfl
   have e5:DataW.trod enc Tryz.prog W base sp held m 51 [c5]=some y5:=hf 5 _ rfl
   obtain ⟨n,rfl,wn⟩:=one_string e0
   obtain ⟨v,rfl,wv⟩:=one_string e1
   obtain ⟨A1,n1,k1,d,h1,r1,o1⟩:=open_grps_trod Tryz.underlying50 e2
   obtain ⟨A2,n2,k2,r,h2,r2,o2⟩:=open_grps_trod Tryz.underlying50 e3
   obtain ⟨A3,n3,k3,c,h3,r3,o3⟩:=open_atoms_trod Tryz.underlying51 e4
   obtain ⟨A4,n4,k4,p,h4,r4,o4⟩:=open_atoms_trod Tryz.underlying51 e5
   simp only [List.cons.injEq,and_true] at h1 h2 h3 h4
   subst h1
   subst h2
   subst h3
   subst h4
   exact ⟨⟨n,v,d,r,c,p⟩,⟨_,_,_,_,rfl,r1,r2,r3,r4⟩,wn,wv,o1,o2,o3,o4⟩
  ·simp at hlen
 ·simp at hl
theorem open_ents_arg {v:Value} {d:DataW H} {p:List MemPlace} {base:Nat} (hv:Value.okWide Tryz.prog W .any base 22 v) (h:DataW.Trod enc Tryz.prog W 0 (fun _=>true) true 22 v d p) :
  ∃A n c l,v=.slice A n c∧rdEnts W (lt_ W.heap.size) l [.slice A n c]∧(∀x ∈ l,EntOk x):=by
 obtain ⟨a0,len0,cap0,rfl⟩:=okWide_slice Tryz.underlying22 hv
 obtain ⟨fuel,hf⟩:=h
 rcases open_slice Tryz.underlying22 hf with ⟨hcs,_⟩|⟨a,len,cap,m,k,D,Pl,hcs,hb,hl,hm,hmm,_,hx⟩
 ·simp [Value.cells] at hcs
  obtain ⟨rfl,rfl,rfl⟩:=hcs
  exact ⟨none,0,0,[],rfl,rdRow_nil _ _,by simp⟩
 ·simp [Value.cells] at hcs
  obtain ⟨rfl,rfl,rfl⟩:=hcs
  have hlm:len0≤m:=by rw [hmm];split<;>omega
  have hat:∀i,i < len0→∃(x:Ent) (es:List Value),EntOk x∧a.block < W.heap.size∧rdEnt W (lt_ W.heap.size) x es∧es.length=6∧∀j u,es[j]?=some u→W.cell? (a.add (i*6+j))=some u:=by
   intro i hi
   obtain ⟨cs',hc,ht'⟩:=hx i (by omega)
   rw [cells_ent] at hc
   obtain ⟨x,hrd,hok⟩:=trod_ent ht'
   obtain ⟨_,hcl,hcell⟩:=World.cells?_some hc
   have hlen:=rdEnt_good.len hrd
   have key:∀j u,cs'[j]?=some u→W.cell? (a.add (i*6+j))=some u:=fun j u hu=>by
    have hj:j < 6:=by have:=(List.getElem?_eq_some_iff.1 hu).1;omega
    have:=hcell j hj
    rw [hu] at this
    rw [←this]
    congr 1
    unfold Addr.add
    by_cases h1:i*6=0<;>by_cases h2:j=0<;>simp [h1,h2,Nat.add_assoc]
   have hb':=World.block_lt_of_cell? _ _ (key 0 _ (List.getElem?_eq_getElem (by omega)))
   rw [blk_add] at hb'
   exact ⟨x,cs',hok,hb',hrd,hlen,key⟩
  refine ⟨some a,len0,cap0,List.ofFn fun i:Fin len0=>Classical.choose (hat i.1 i.2),rfl,⟨some a,cap0,by simp,by simpa using hl,hm,fun i hi=>?_⟩,fun x hx=>?_⟩
  ·simp only [List.length_ofFn] at hi
   have hs:=Classical.choose_spec (Classical.choose_spec (hat i hi))
   refine ⟨a,Classical.choose (Classical.choose_spec (hat i hi)),rfl,hs.2.1,?_,hs.2.2.2.1,hs.2.2.2.2⟩
   rw [List.getElem_ofFn];exact hs.2.2.1
  ·obtain ⟨i,hi⟩:=List.mem_ofFn.1 hx
   rw [←hi];exact (Classical.choose_spec (Classical.choose_spec (hat i.1 i.2))).1
end
section
variable {H:Type} {enc:TypeId × Value→H} {W:World}
def HrOk (x:Hr):Prop:=EntOk x.e
theorem cells_here:Tryz.prog.cellsOf 56=8:=by kernel_rfl
theorem trod_here {base n:Nat} {sp:Nat→Bool} {held:Bool} {cs:List Value} {y:DataW H × List MemPlace} (h:DataW.trod enc Tryz.prog W base sp held n 56 cs=some y):∃x:Hr,rdHr W (lt_ W.heap.size) x cs∧HrOk x:=by
 obtain ⟨xs,m,_,rfl,hl,hlen,hf⟩:=DataW.trod_struct Tryz.underlying56 h
 rw [cells_here] at hl
 rcases cs with _|⟨c0,_|⟨c1,_|⟨c2,_|⟨c3,_|⟨c4,_|⟨c5,_|⟨c6,_|⟨c7,_|⟨c8,cs⟩⟩⟩⟩⟩⟩⟩⟩⟩
 ·simp at hl
 ·simp at hl
 ·simp at hl
 ·simp at hl
 ·simp at hl
 ·simp at hl
 ·simp at hl
 ·simp at hl
 ·rcases xs with _|⟨y0,_|⟨y1,_|⟨y2,_|⟨y3,xs⟩⟩⟩⟩
  ·simp at hlen
  ·simp at hlen
  ·simp at hlen
  ·have e0:DataW.trod enc Tryz.prog W base sp held m 53 [c0,c1,c2,c3,c4,c5]=some y0:=hf 0 _ rfl
   have e1:DataW.trod enc Tryz.prog W base sp held m 4 [c6]=some y1:=hf 1 _ rfl
   have e2:DataW.trod enc Tryz.prog W base sp held m 4 [c7]=some y2:=hf 2 _ rfl
   obtain ⟨x,hx,ok⟩:=trod_ent e0
   obtain ⟨b1,h1,-⟩:=DataW.trod_bool Tryz.underlying4 e1
   obtain ⟨b2,h2,-⟩:=DataW.trod_bool Tryz.underlying4 e2
   simp only [List.cons.injEq,and_true] at h1 h2
   subst h1
   subst h2
   exact ⟨⟨x,b1,b2⟩,⟨_,rfl,hx⟩,ok⟩
  ·simp at hlen
 ·simp at hl
theorem open_heres_arg {v:Value} {d:DataW H} {p:List MemPlace} {base:Nat} (hv:Value.okWide Tryz.prog W .any base 23 v) (h:DataW.Trod enc Tryz.prog W 0 (fun _=>true) true 23 v d p) :
  ∃A n c l,v=.slice A n c∧rdHrs W (lt_ W.heap.size) l [.slice A n c]∧(∀x ∈ l,HrOk x):=by
 obtain ⟨a0,len0,cap0,rfl⟩:=okWide_slice Tryz.underlying23 hv
 obtain ⟨fuel,hf⟩:=h
 rcases open_slice Tryz.underlying23 hf with ⟨hcs,_⟩|⟨a,len,cap,m,k,D,Pl,hcs,hb,hl,hm,hmm,_,hx⟩
 ·simp [Value.cells] at hcs
  obtain ⟨rfl,rfl,rfl⟩:=hcs
  exact ⟨none,0,0,[],rfl,rdRow_nil _ _,by simp⟩
 ·simp [Value.cells] at hcs
  obtain ⟨rfl,rfl,rfl⟩:=hcs
  have hlm:len0≤m:=by rw [hmm];split<;>omega
  have hat:∀i,i < len0→∃(x:Hr) (es:List Value),HrOk x∧a.block < W.heap.size∧rdHr W (lt_ W.heap.size) x es∧es.length=8∧∀j u,es[j]?=some u→W.cell? (a.add (i*8+j))=some u:=by
   intro i hi
   obtain ⟨cs',hc,ht'⟩:=hx i (by omega)
   rw [cells_here] at hc
   obtain ⟨x,hrd,hok⟩:=trod_here ht'
   obtain ⟨_,hcl,hcell⟩:=World.cells?_some hc
   have hlen:=rdHr_good.len hrd
   have key:∀j u,cs'[j]?=some u→W.cell? (a.add (i*8+j))=some u:=fun j u hu=>by
    have hj:j < 8:=by have:=(List.getElem?_eq_some_iff.1 hu).1;omega
    have:=hcell j hj
    rw [hu] at this
    rw [←this]
    congr 1
    unfold Addr.add
    by_cases h1:i*8=0<;>by_cases h2:j=0<;>simp [h1,h2,Nat.add_assoc]
   have hb':=World.block_lt_of_cell? _ _ (key 0 _ (List.getElem?_eq_getElem (by omega)))
   rw [blk_add] at hb'
   exact ⟨x,cs',hok,hb',hrd,hlen,key⟩
  refine ⟨some a,len0,cap0,List.ofFn fun i:Fin len0=>Classical.choose (hat i.1 i.2),rfl,⟨some a,cap0,by simp,by simpa using hl,hm,fun i hi=>?_⟩,fun x hx=>?_⟩
  ·simp only [List.length_ofFn] at hi
   have hs:=Classical.choose_spec (Classical.choose_spec (hat i hi))
   refine ⟨a,Classical.choose (Classical.choose_spec (hat i hi)),rfl,hs.2.1,?_,hs.2.2.2.1,hs.2.2.2.2⟩
   rw [List.getElem_ofFn];exact hs.2.2.1
  ·obtain ⟨i,hi⟩:=List.mem_ofFn.1 hx
   rw [←hi];exact (Classical.choose_spec (Classical.choose_spec (hat i.1 i.2))).1
end
end Go.Proofs.YtoopkofekekmoaaGreatDoor
namespace Go.Proofs.YtoopkofekekmoaaGreatDoor
def strTab {H:Type} (zs:List (List UInt8)):DataW H:=.agg (zs.map fun z=>.lit (.string z))
theorem cells_of_strs {H:Type} {enc:TypeId × Value→H} {P:Program} {w:World} {base:Nat} {sp:Nat→Bool} {held:Bool} {fuel:Nat} {t e:TypeId} {n:Nat} {cs:List Value} {zs:List (List UInt8)} {p:List MemPlace}
  (ht:P.underlying t=some (.array n e)) (he:P.underlying e=some .string) (hce:P.cellsOf e=1) (hct:P.cellsOf t=n)
  (h:DataW.trod enc P w base sp held fuel t cs=some (strTab zs,p)):cs=zs.map fun z=>Value.string ⟨z.toArray⟩:=by
 cases fuel with
 | zero=>simp [DataW.trod] at h
 | succ fuel=>
  simp only [DataW.trod,ht,hce,hct,Nat.mul_one] at h
  split at h
  ·rename_i hl
   obtain ⟨xs,hm,hx⟩:=Option.map_eq_some_iff.1 h
   have hxs:xs.map (·.1)=zs.map fun z=>(DataW.lit (.string z):DataW H):=by
    have:=congrArg Prod.fst hx
    simpa [strTab] using this
   have hxl:xs.length=n:=by simpa using Lib.mapM_length hm
   have hzl:zs.length=n:=by
    have:=congrArg List.length hxs
    simp at this
    omega
   apply List.ext_getElem?
   intro i
   by_cases hi:i < n
   ·obtain ⟨b,hb,hf⟩:=Lib.mapM_at hm i i (by simp [hi])
    obtain ⟨z,hc,rfl,_⟩:=DataW.trod_string he hf
    have h1:cs[i]?=some (.string z):=by
     have:=congrArg (·[0]?) hc
     simpa [List.getElem?_take,List.getElem?_drop] using this
    have h2:(xs.map (·.1))[i]?=some (DataW.lit (.string z.data.toList):DataW H):=by simp [hb]
    rw [hxs] at h2
    simp only [List.getElem?_map,Option.map_eq_some_iff,DataW.lit.injEq,Lit.string.injEq] at h2
    obtain ⟨z',hz',e'⟩:=h2
    rw [h1,List.getElem?_map,hz',e']
    rfl
   ·rw [List.getElem?_eq_none (by omega),List.getElem?_eq_none (by simp;omega)]
  ·cases h
theorem strs_of_head {P:Program} {W:World} {name:String} {zs:List (List UInt8)} {rest:List (String × DataW Unit)} {g:Nat} {t e:TypeId} {n:Nat}
  (hg:P.globalNamed name=some g) (hty:(P.globals[g]?).map (·.type)=some t) (ht:P.underlying t=some (.array n e)) (he:P.underlying e=some .string) (hce:P.cellsOf e=1) (hct:P.cellsOf t=n)
  (h:laidMet P ((name,strTab zs)::rest) W) (i:Nat) (z:List UInt8) (hi:zs[i]?=some z):W.cell? ⟨g,i,none⟩=some (.string ⟨z.toArray⟩):=by
 obtain ⟨ps,⟨g',t',cs,fuel,p,q,hg',ht',hvar,hd,_,_⟩,_⟩:=h
 obtain rfl:=Option.some.inj (hg.symm.trans hg')
 obtain rfl:=Option.some.inj (hty.symm.trans ht')
 have hz:W.var? P name=some (zs.map fun z=>Value.string ⟨z.toArray⟩).toArray:=by
  rw [hvar,←cells_of_strs ht he hce hct hd]
 have:=World.var?_cell hg hz i
 simpa [hi] using this
end Go.Proofs.YtoopkofekekmoaaGreatDoor
namespace Go.Proofs.YtoopkofekekmoaaGreatDoor
open Go.RowKit Go.WideShapes Go.ChangeShapes Go.ChangeAt
section
variable {H:Type} {enc:TypeId × Value→H} {P:Program}
end
theorem laid_out:laidOutB Tryz.prog=true:=by kernel_rfl
section
variable {H:Type} {enc:TypeId × Value→H} {P:Program}
theorem trodAll_below {W W':World} (hl:laidOutB P=true) (hb:Below W.heap.size W W'):∀{ts:List TypeId} {vs:List Value} {ds:List (DataW H)} {ps:List MemPlace},(∀t ∈ ts,P.readableRec t=true∧t < P.types.size)→
  DataW.TrodAll enc P W 0 (fun _=>true) true ts vs ds ps→(∀x ∈ ps,x.block < W.heap.size)→DataW.TrodAll enc P W' 0 (fun b=>decide (b < W.heap.size)) true ts vs ds ps
 | [],[],[],_,_,h,_=>h
 | t::ts,v::vs,d::ds,ps,hts,h,hlt=>by
  obtain ⟨p,q,h1,h2,rfl⟩:=h
  refine ⟨p,q,Below.trod hl (hts t (by simp)).1 (hts t (by simp)).2 h1 hb (fun x hx=>hlt x (by simp [hx])),trodAll_below hl hb (fun t ht=>hts t (by simp [ht])) h2 (fun x hx=>hlt x (by simp [hx])),rfl⟩
 | [],[],_::_,_,_,h,_=>h.elim
 | [],_::_,_,_,_,h,_=>h.elim
 | _::_,[],_,_,_,h,_=>h.elim
 | _::_,_::_,[],_,_,h,_=>h.elim
theorem law_post {f:Func} {s:ChangeSpec} {W W':World} {args:Array Value} {ds gs:List (DataW H)} {before:List MemPlace} {b:TypeId} {apart:Bool}
  (hW:DataW.Whole enc P f.params.toList s.vars apart W args.toList ds gs before) (hv:s.vars=[])
  (h1:(s.fn H ds).results=[.lit (.bool true)]) (h2:(s.fn H ds).args=ds) (h3:(s.fn H ds).vars=[])
  (hrt:f.resultTypes=#[b]) (hbool:P.underlying b=some .bool) (hl:laidOutB P=true) (hts:∀t ∈ f.params.toList,P.readableRec t=true∧t < P.types.size)
  (hb:Below W.heap.size W W'):s.post enc P f apart true false false W args (.bool true) W':=by
 have hW':=hW
 have hlt0:=hW.lt
 obtain ⟨p,q,hA,hV,rfl,hz,hn⟩:=hW
 rw [hv] at hV
 obtain ⟨rfl,rfl⟩:=trodVars_none hV
 refine ⟨ds,[],p++[],[],p,[],hW',?_,?_,?_,hb.frame _,fun h=>by cases h⟩
 ·rw [List.append_nil,h1,hrt]
  exact trodAll_cons_mk (shut_bool hbool _) trodAll_mk0
 ·rw [List.append_nil,h2]
  exact trodAll_below hl hb hts hA (fun x hx=>hlt0 x (by simp [hx]))
 ·rw [hv,List.append_nil,h3];rfl
end
end Go.Proofs.YtoopkofekekmoaaGreatDoor
