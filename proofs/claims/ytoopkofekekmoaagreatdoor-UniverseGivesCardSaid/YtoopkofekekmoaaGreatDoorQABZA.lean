/- What the laws rest on: CutP, StzP, RelP, DepP, E6g, E6h, E6k, E9q, HeldM, OpenA. -/
import Derived.Test.YtoopkofekekmoaaGreatDoorQAHZA
set_option maxRecDepth 100000
set_option linter.unusedVariables false
set_option linter.unusedSimpArgs false
namespace Go.Proofs.YtoopkofekekmoaaGreatDoor
open Go.RowKit
def joinL (sep:List Nat):List (List Nat)→List Nat
 | []=>[]
 | [x]=>x
 | x::y::r=>x++(sep++joinL sep (y::r))
structure Fd where
 n:ByteArray
 v:ByteArray
deriving instance DecidableEq for Fd
def textA (n:List Nat) (op:Int) (v:List Nat):List Nat:=if op=0 then n else n++32::40::(signL op++32::(v++[41]))
def txt (a:Atm):List Nat:=textA (B a.n) a.o (B a.v)
def grpS (g:List Atm):List Nat:=joinL [32,124,32] (g.map txt)
def prtG (L:List (List Atm)):List Nat:=if rightG L=true then joinL [44,32] (L.map grpS) else []
def wth (l:List Fd) (n v:ByteArray):List Fd:=if v.size=0 then l else l++[⟨n,v⟩]
def wr0 (x:Ent):List Fd:=[⟨{ data:=#[80,97,99,107,97,103,101] },x.n⟩,⟨{ data:=#[86,101,114,115,105,111,110] },x.v⟩]
def wr1 (x:Ent):List Fd:=wth (wr0 x) { data:=#[68,101,112,101,110,100,115] } (mk (prtG x.d))
def wr2 (x:Ent):List Fd:=wth (wr1 x) { data:=#[82,101,99,111,109,109,101,110,100,115] } (mk (prtG x.r))
theorem rgtE_parts {x:Ent} (h:rgtE x=true):nameB (B x.n)=true∧prB (B x.v)=true∧rightG x.d=true∧rightG x.r=true∧(∀a ∈ x.c,rgt a=true)∧(∀a ∈ x.p,rgt a=true)∧givs6 x.p=true∧x.c.length≤12∧x.p.length≤8:=by
 unfold rgtE at h
 simp only [Bool.and_eq_true,decide_eq_true_eq,List.all_eq_true] at h
 obtain ⟨a,b,c,d,e,f,g,i,j⟩:=h
 exact ⟨a,b,c,d,e,f,g,i,j⟩
theorem ixU_ris {p:Ent→Bool}:∀(L:List Ent) (i:Nat),(ixU p L i).Pairwise (· < ·)∧∀k ∈ ixU p L i,(i:Int)≤k
 | [],i=>⟨List.Pairwise.nil,fun k h=>by cases h⟩
 | x::r,i=>by
  obtain ⟨h1,h2⟩:=ixU_ris (p:=p) r (i+1)
  rw [ixU_cons]
  split
  ·refine ⟨List.pairwise_cons.2 ⟨fun k hk=>by have:=h2 k hk;omega,h1⟩,fun k hk=>?_⟩
   rcases List.mem_cons.1 hk with rfl|hk
   ·omega
   ·have:=h2 k hk;omega
  ·exact ⟨h1,fun k hk=>by have:=h2 k hk;omega⟩
theorem ixU_sub {p q:Ent→Bool} {L:List Ent} {i:Nat} (h:∀x ∈ L,p x=true→q x=true):∀k ∈ ixU p L i,k ∈ ixU q L i:=fun k hk=>by
 obtain ⟨j,hj,e,hp⟩:=ixU_mem.1 hk
 exact ixU_mem.2 ⟨j,hj,e,h _ (List.getElem_mem hj) hp⟩
theorem one_atm {w:World} {S:Nat→Prop} {b:Nat} {n:ByteArray} {o:Int} {v:ByteArray} {T:TypeId} (hb:w.heap[b]?=some (.cells #[.string n,.int .i64 o,.string v] T (0,0))) (hS:S b):rdAtms w S [⟨n,o,v⟩] [.slice (some ⟨b,0,none⟩) 1 1]:=
 rd_block rdAtm_good (S:=S) (l:=[⟨n,o,v⟩]) (css:=[[.string n,.int .i64 o,.string v]]) hb hS rfl rfl (fun k hk=>by
  simp only [List.length_singleton] at hk
  obtain rfl:k=0:=by omega
  exact ⟨_,rfl,rfl⟩) (by simp)
end Go.Proofs.YtoopkofekekmoaaGreatDoor
namespace Go.Proofs.YtoopkofekekmoaaGreatDoor
open Go.RowKit Go.WideShapes Go.ChangeShapes Go.ChangeAt Go.WideMaps Go.WideElems Go.Joins
theorem open_atom_arg {H:Type} {enc:TypeId × Value→H} {W:World} {v:Value} {d:DataW H} {p:List MemPlace} {base:Nat} (hv:Value.okWide Tryz.prog W .any base 59 v) (h:DataW.Trod enc Tryz.prog W 0 (fun _=>true) true 59 v d p) :
  ∃(n:ByteArray) (e:Int) (r:ByteArray),v=.agg #[.string n,.int .i64 e,.string r]∧n.size≤maxLen∧(Lit.int .i64 e).wf=true∧r.size≤maxLen:=by
 obtain ⟨v0,v1,v2,y0,y1,y2,n,rfl,_,_,h0,h1,h2⟩:=open_agg3 Tryz.underlying59 (by kernel_rfl) (by kernel_rfl) hv h
 obtain ⟨u,rfl,wu⟩:=one_string h0
 obtain ⟨e,rfl,we⟩:=one_int h1
 obtain ⟨r,rfl,wr⟩:=one_string h2
 exact ⟨u,e,r,rfl,wu,we,wr⟩
end Go.Proofs.YtoopkofekekmoaaGreatDoor
