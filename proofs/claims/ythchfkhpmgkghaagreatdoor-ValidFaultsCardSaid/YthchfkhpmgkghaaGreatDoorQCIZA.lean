/- What the laws rest on: E10n, E10z. -/
import Derived.Test.YthchfkhpmgkghaaGreatDoorQCCZA
set_option maxRecDepth 100000
set_option linter.unusedVariables false
set_option linter.unusedSimpArgs false
namespace Go.Proofs.YthchfkhpmgkghaaGreatDoor
open Go.RowKit Go.Sort
set_option maxHeartbeats 4000000 in
theorem asks10_any (A1:Option Addr) (c1:Nat) (A2:Option Addr) (c2:Nat) (i r:List Atm) (up:Bool) (w:World) (hi:rdAtms w (lt_ w.heap.size) i [.slice A1 i.length c1]) (hr:rdAtms w (lt_ w.heap.size) r [.slice A2 r.length c2]) :
  Calls Tryz.prog 11 #[.agg #[.slice A1 i.length c1,.slice A2 r.length c2,.bool up]] w fun e w'=>LtR (Lt i∧Lt r) e∧Below w.heap.size w w':=by
 obtain ⟨W1,hW1⟩:∃W,W=w.alloc (.cells #[.slice A1 i.length c1,.slice A2 r.length c2,.bool up] 26):=⟨_,rfl⟩
 have b1:Below w.heap.size w W1:=by rw [hW1];exact (Below.refl _ w).alloc (Nat.le_refl _) _
 have x0:W1.cell? ⟨w.heap.size,0,none⟩=some (.slice A1 i.length c1):=by rw [hW1];simp [go_sem]
 have x1:W1.cell? ⟨w.heap.size,1,none⟩=some (.slice A2 r.length c2):=by rw [hW1];simp [go_sem]
 have KA:=Lib.hid (light10_any A1 i.length c1 i W1 (rdAtms_good.up (rdAtms_good.below hi b1) b1.size))
 have KB:=Lib.hid (light10_any A2 r.length c2 r W1 (rdAtms_good.up (rdAtms_good.below hr b1) b1.size))
 have B1:=Lib.hid b1
 clear hi hr b1
 go_enter Tryz.func11,Tryz.ntmps11
 go_wp2_with fail
 rw [←hW1]
 clear hW1
 go_wp2_with fail
 refine KA.out.mono ?_
 rintro e w2 ⟨⟨a,rfl,ha⟩,rfl⟩
 have HA:=Lib.hid ha
 clear ha
 go_wp2_with fail
 refine KB.out.mono ?_
 rintro e w3 ⟨⟨b,rfl,hb⟩,rfl⟩
 have HB:=Lib.hid hb
 clear hb x0 x1 KA KB
 cases a
 ·go_wp2
  go_ret
  exact ⟨ltR_no _,B1.out⟩
 ·cases b
  ·go_wp2
   go_ret
   exact ⟨ltR_no _,B1.out⟩
  ·have YES:=Lib.hid (ltR_yes (And.intro (HA.out rfl) (HB.out rfl)))
   go_wp2
   go_ret
   exact ⟨YES.out,B1.out⟩
end Go.Proofs.YthchfkhpmgkghaaGreatDoor
namespace Go.Proofs.YthchfkhpmgkghaaGreatDoor
open Go.RowKit Go.WideShapes Go.ChangeShapes Go.ChangeAt Go.WideMaps Go.WideElems Go.Joins Go.Deep
section
variable {H:Type} {enc:TypeId × Value→H} {W:World}
theorem cells_req:Tryz.prog.cellsOf 26=3:=by kernel_rfl
theorem trod_req {base n:Nat} {sp:Nat→Bool} {held:Bool} {cs:List Value} {y:DataW H × List MemPlace} (h:DataW.trod enc Tryz.prog W base sp held n 26 cs=some y) :
  ∃A1 c1 A2 c2,∃(i r:List Atm) (up:Bool),cs=[.slice A1 i.length c1,.slice A2 r.length c2,.bool up]∧rdAtms W (lt_ W.heap.size) i [.slice A1 i.length c1]∧rdAtms W (lt_ W.heap.size) r [.slice A2 r.length c2]∧(∀a ∈ i,AtmOk a)∧(∀a ∈ r,AtmOk a):=by
 obtain ⟨xs,m,_,rfl,hl,hlen,hf⟩:=DataW.trod_struct Tryz.underlying26 h
 rw [cells_req] at hl
 rcases cs with _|⟨c0,_|⟨c1,_|⟨c2,_|⟨c3,cs⟩⟩⟩⟩
 ·simp at hl
 ·simp at hl
 ·simp at hl
 ·rcases xs with _|⟨y0,_|⟨y1,_|⟨y2,_|⟨y3,xs⟩⟩⟩⟩
  ·simp at hlen
  ·simp at hlen
  ·simp at hlen
  ·have e0:DataW.trod enc Tryz.prog W base sp held m 24 [c0]=some y0:=hf 0 _ rfl
   have e1:DataW.trod enc Tryz.prog W base sp held m 24 [c1]=some y1:=hf 1 _ rfl
   have e2:DataW.trod enc Tryz.prog W base sp held m 4 [c2]=some y2:=hf 2 _ rfl
   obtain ⟨A1,n1,k1,i,h1,r1,o1⟩:=open_atoms_trod Tryz.underlying24 e0
   obtain ⟨A2,n2,k2,r,h2,r2,o2⟩:=open_atoms_trod Tryz.underlying24 e1
   obtain ⟨b,h3,-⟩:=DataW.trod_bool Tryz.underlying4 e2
   simp only [List.cons.injEq,and_true] at h1 h2 h3
   subst h1
   subst h2
   subst h3
   obtain ⟨rfl,-⟩:=rdAtms_at r1
   obtain ⟨rfl,-⟩:=rdAtms_at r2
   exact ⟨A1,k1,A2,k2,i,r,b,rfl,r1,r2,o1,o2⟩
  ·simp at hlen
 ·simp at hl
theorem open_req_arg {v:Value} {d:DataW H} {p:List MemPlace} {base:Nat} (hv:Value.okWide Tryz.prog W .any base 26 v) (h:DataW.Trod enc Tryz.prog W 0 (fun _=>true) true 26 v d p) :
  ∃A1 c1 A2 c2,∃(i r:List Atm) (up:Bool),v=.agg #[.slice A1 i.length c1,.slice A2 r.length c2,.bool up]∧rdAtms W (lt_ W.heap.size) i [.slice A1 i.length c1]∧rdAtms W (lt_ W.heap.size) r [.slice A2 r.length c2]∧(∀a ∈ i,AtmOk a)∧(∀a ∈ r,AtmOk a):=by
 obtain ⟨cs,rfl,hsz⟩:=okWide_struct Tryz.underlying26 hv
 obtain ⟨fuel,hf⟩:=h
 obtain ⟨A1,c1,A2,c2,i,r,up,hcs,h1,h2,o1,o2⟩:=trod_req hf
 refine ⟨A1,c1,A2,c2,i,r,up,?_,h1,h2,o1,o2⟩
 simp [Value.cells] at hcs
 obtain ⟨cl⟩:=cs
 have hcl:cl=_:=hcs
 rw [hcl]
end
end Go.Proofs.YthchfkhpmgkghaaGreatDoor
