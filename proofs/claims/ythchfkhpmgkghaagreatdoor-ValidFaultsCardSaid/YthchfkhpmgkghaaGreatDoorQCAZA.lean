/- What the laws rest on: E10k, N10g. -/
import Derived.Test.YthchfkhpmgkghaaGreatDoorQBGZA
set_option maxRecDepth 100000
set_option linter.unusedVariables false
set_option linter.unusedSimpArgs false
namespace Go.Proofs.YthchfkhpmgkghaaGreatDoor
open Go.RowKit Go.Sort
def clB (U:List Ent) (l:List Int):Bool:=setB U.length l&&(insS U l).isEmpty
end Go.Proofs.YthchfkhpmgkghaaGreatDoor
namespace Go.Proofs.YthchfkhpmgkghaaGreatDoor
open Go.RowKit
def StC (q:Nat) (W:World) (g:List Ft) (O:Nat→Prop):Prop:=
 W.cell? ⟨q,0,none⟩=some (.bool g.isEmpty)∧W.frozen? ⟨q,0,none⟩=false∧∀b,O b↔b=q
set_option maxHeartbeats 2000000 in
theorem sinkC_call (q:Nat) (W:World) (g:List Ft) (O:Nat→Prop) (x:Ft) (h:StC q W g O) :
  Calls Tryz.prog 55 #[.int .i64 x.k,.int .i64 x.a,.int .i64 x.b,.pointer (some ⟨q,0,none⟩)] W fun e W'=>e=.returned (.tuple #[])∧∃O',StC q W' (g++[x]) O'∧Pst W O W' O':=by
 obtain ⟨c0,f0,hO⟩:=h
 have PP:=Lib.hid (show ∃O',StC q (W.setCell ⟨q,0,none⟩ (.bool false)) (g++[x]) O'∧Pst W O (W.setCell ⟨q,0,none⟩ (.bool false)) O' from by
  refine ⟨O,⟨?_,by rw [World.frozen?_setCell];exact f0,hO⟩,rfl,rfl,rfl,by rw [World.size_setCell];exact Nat.le_refl _,fun b hb hno=>Below.heap_setCell _ _ _ _ (fun e=>hno ((hO b).2 e)),fun b hb=>.inl hb⟩
  rw [World.cell?_setCell_same _ _ _ c0]
  congr 2
  cases g<;>rfl)
 clear hO
 go_enter Tryz.func55,Tryz.ntmps55
 go_wp2
 go_end0
 exact ⟨rfl,PP.out⟩
theorem sinkC (N q:Nat) (hN:N≤q):Sink N (StC q) 55 q where
 own:=fun {W g O} h b hb=>by
  obtain ⟨c0,-,hO⟩:=h
  obtain rfl:=(hO b).1 hb
  exact ⟨hN,World.block_lt_of_cell? _ _ c0⟩
 up:=fun {W W' g O} h hb=>by
  obtain ⟨c0,f0,hO⟩:=h
  have hq:q < W.heap.size:=World.block_lt_of_cell? _ _ c0
  exact ⟨(hb.cell hq).trans c0,(hb.frozen hq).trans f0,hO⟩
 enter:=fun _ _=>by kernel_rfl
 call:=fun W g O x h hn=>sinkC_call q W g O x h
end Go.Proofs.YthchfkhpmgkghaaGreatDoor
