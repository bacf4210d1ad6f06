/- What the laws rest on: N12k, E12j, E12i, Post2. -/
import Derived.Deep.LoopGhost
import Derived.Shelf.SlSortCmp.Kit1
import Derived.ProofKit
import Derived.OpenShut
import Derived.ChangeMaps5
import Derived.SliceStrings
import Derived.Lib.SmallJoins
import Derived.Deep.Slices
import Derived.Deep.Strs
import Derived.Test.YtgjlgdpbmhdnbaaDoorRows
import Derived.ChangeSame
import Derived.Carry
import Derived.Test.YtgjlgdpbmhdnbaaDoorQAEZB
set_option maxRecDepth 100000
set_option linter.unusedVariables false
set_option linter.unusedSimpArgs false
namespace Go.Proofs.YtgjlgdpbmhdnbaaDoor
open Go.RowKit
def swL (d:List Int) (i j:Nat):List Int:=(d.set i d[j]!).set j d[i]!
theorem swL_len (d:List Int) (i j:Nat):(swL d i j).length=d.length:=by unfold swL;rw [List.length_set,List.length_set]
def insI (a:Nat):Nat→List Int × Bool→List Int × Bool
 | 0,s=>s
 | j+1,s=>if a < j+1 then (if cfT s.1[j+1]! s.1[j]! < 0 then insI a j (swL s.1 (j+1) j,s.2||bfT s.1[j+1]! s.1[j]!) else (s.1,s.2||bfT s.1[j+1]! s.1[j]!)) else s
def insO (a:Nat):Nat→Nat→List Int × Bool→List Int × Bool
 | 0,_,s=>s
 | k+1,i,s=>insO a k (i+1) (insI a i s)
theorem insI_len (a:Nat):∀(j:Nat) (s:List Int × Bool),(insI a j s).1.length=s.1.length
 | 0,s=>rfl
 | j+1,s=>by
  unfold insI
  split
  ·split
   ·rw [insI_len a j];exact swL_len _ _ _
   ·rfl
  ·rfl
theorem insI_stop {a j:Nat} {s:List Int × Bool} (h:¬a < j):insI a j s=s:=by
 cases j with
 | zero=>rfl
 | succ j=>unfold insI;rw [if_neg h]
theorem insI_go {a j:Nat} {s:List Int × Bool} (h:a < j+1):insI a (j+1) s=if cfT s.1[j+1]! s.1[j]! < 0 then insI a j (swL s.1 (j+1) j,s.2||bfT s.1[j+1]! s.1[j]!) else (s.1,s.2||bfT s.1[j+1]! s.1[j]!):=by
 rw [insI,if_pos h]
theorem insO_go {a b i:Nat} {s:List Int × Bool} (h:i < b):insO a (b - i) i s=insO a (b - (i+1)) (i+1) (insI a i s):=by
 rw [show b - i=(b - (i+1))+1 by omega,insO]
section
variable {w0 w:World} {N0 blk fb:Nat} {tail:List Value} {d:List Int} {f:Bool}
theorem SrtW.swap (h:SrtW w0 N0 blk fb tail d f w) {i j:Nat} (hi:i < d.length) (hj:j < d.length):SrtW w0 N0 blk fb tail (swL d i j) f ((w.setCell ⟨blk,i,none⟩ (.int .i64 d[j]!)).setCell ⟨blk,j,none⟩ (.int .i64 d[i]!)).drew:=((h.put hi _).put (by rw [List.length_set];exact hj) _).drew
theorem SrtW.swcell (h:SrtW w0 N0 blk fb tail d f w) {i j:Nat} (hi:i < d.length) (hj:j < d.length) (x:Int):∃u,(w.setCell ⟨blk,i,none⟩ (.int .i64 x)).cell? ⟨blk,j,none⟩=some u:=⟨_,(h.put hi x).cell (by rw [List.length_set];exact hj)⟩
theorem SrtW.swSup (h:SrtW w0 N0 blk fb tail d f w) {w1:World} (k:Sup N0 w1 w) (i j:Nat) (u v:Value):Sup N0 w1 ((w.setCell ⟨blk,i,none⟩ u).setCell ⟨blk,j,none⟩ v).drew:=Sup.drew ((k.trans (Sup.set h.bn)).trans (Sup.set h.bn))
end
set_option maxHeartbeats 16000000 in
theorem ins12_any {w0 w:World} {N0 blk fb:Nat} {tail:List Value} {d:List Int} {f:Bool} (h:SrtW w0 N0 blk fb tail d f w) {n cap a b:Nat} (hn:d.length=n) (hn2:n≤1000000) (hc:n≤cap) (hcm:cap≤maxLen) (hb:b≤n) (ha:a≤b) :
  Calls Tryd.prog 53 #[.slice (some ⟨blk,0,none⟩) n cap,.int .i64 a,.int .i64 b,.func (.func 32) #[] #[.pointer (some ⟨fb,0,none⟩)]] w fun e w'=>
   e=.returned (.tuple #[])∧SrtW w0 N0 blk fb tail (insO a (b - (a+1)) (a+1) (d,f)).1 (insO a (b - (a+1)) (a+1) (d,f)).2 w'∧Sup N0 w w':=by
 have hcm':cap≤9223372036854775807:=hcm
 have mixed:Tryd.prog.follows .mixedOrders=true:=by kernel_rfl
 have eg:∀(args:Array Value) (w:World),(callFunc 32 args).run Tryd.prog w=.ok (.enter 32 args) w:=fun _ _=>by kernel_rfl
 have START:=Lib.hid (show ∃s:List Int × Bool,SrtW w0 N0 blk fb tail s.1 s.2 w∧Sup N0 w w∧s.1.length=n∧insO a (b - (a+1)) (a+1) s=insO a (b - (a+1)) (a+1) (d,f) from ⟨(d,f),h,Sup.refl _ _,hn,rfl⟩)
 generalize insO a (b - (a+1)) (a+1) (d,f)=RES at *
 clear h hn
 go_enter Tryd.func53,Tryd.ntmps53
 go_wp2
 go_loopg [8] (b+1) (fun gm v wr=>∃i:Nat,v=.int .i64 i∧a < i∧i≤b+1∧b+1 - i≤gm∧Hid (∃s:List Int × Bool,SrtW w0 N0 blk fb tail s.1 s.2 wr∧Sup N0 w wr∧s.1.length=n∧insO a (b - i) i s=RES))
 case atStart=>exact ⟨a+1,by go_num,by omega,by omega,by omega,START⟩
 case round=>
  clear START
  obtain ⟨i,rfl,hai,hib,hgm,H1⟩:=hrel
  by_cases hlt:i < b
  ·have hltz:(i:Int) < (b:Int):=by omega
   have START:=Lib.hid (show ∃s:List Int × Bool,SrtW w0 N0 blk fb tail s.1 s.2 wr∧Sup N0 w wr∧s.1.length=n∧insO a (b - (i+1)) (i+1) (insI a i s)=RES from by
    obtain ⟨s,a1,a2,a3,a4⟩:=H1.out
    exact ⟨s,a1,a2,a3,by rw [←a4,insO_go hlt]⟩)
   clear H1
   go_wp2
   go_loopg [9] i (fun g2 v wr2=>∃j:Nat,v=.int .i64 j∧a≤j∧j≤i∧j≤g2∧Hid (∃s:List Int × Bool,SrtW w0 N0 blk fb tail s.1 s.2 wr2∧Sup N0 w wr2∧s.1.length=n∧insO a (b - (i+1)) (i+1) (insI a j s)=RES))
   case atStart=>exact ⟨i,rfl,by omega,Nat.le_refl _,Nat.le_refl _,START⟩
   case round=>
    clear START
    obtain ⟨j,rfl,haj,hji,hg2,H2⟩:=hrel
    by_cases hja:a < j
    ·have hjaz:(a:Int) < (j:Int):=by omega
     have hjd:decide ((a:Int) < (j:Int))=true:=decide_eq_true hjaz
     obtain ⟨q,hq⟩:∃q,j=q+1:=⟨j - 1,by omega⟩
     have ej:(j:Int) - 1=(q:Int):=by omega
     have ew:IntKind.i64.wrap ((j:Int) - 1)=(q:Int):=by rw [IntKind.wrap_i64];omega
     have ew2:IntKind.i64.wrap (q:Int)=(q:Int):=by rw [IntKind.wrap_i64];omega
     have q0:(0:Int)≤(q:Int):=by omega
     have q1:(q:Int) < (n:Int):=by omega
     have j0:(0:Int)≤(j:Int):=by omega
     have j1:(j:Int) < (n:Int):=by omega
     obtain ⟨s,S1,P1,L1,R1⟩:=H2.out
     have hjl:j < s.1.length:=by omega
     have hql:q < s.1.length:=by omega
     have cj:=S1.cell hjl
     have cq:=S1.cell hql
     have KC:=Lib.hid (tidyC_any S1.drew s.1[j]! s.1[q]!)
     have GO:=Lib.hid (show insI a j s=if cfT s.1[j]! s.1[q]! < 0 then insI a q (swL s.1 j q,s.2||bfT s.1[j]! s.1[q]!) else (s.1,s.2||bfT s.1[j]! s.1[q]!) by rw [hq];exact insI_go (by omega))
     have SW:=Lib.hid (fun (w2:World) (f2:Bool) (hs:SrtW w0 N0 blk fb tail s.1 f2 w2)=>(show SrtW w0 N0 blk fb tail (swL s.1 j q) f2 ((w2.setCell ⟨blk,j,none⟩ (.int .i64 s.1[q]!)).setCell ⟨blk,q,none⟩ (.int .i64 s.1[j]!)).drew∧(w2.cell? ⟨blk,j,none⟩=some (.int .i64 s.1[j]!)∧w2.cell? ⟨blk,q,none⟩=some (.int .i64 s.1[q]!)∧w2.frozen? ⟨blk,j,none⟩=false∧w2.frozen? ⟨blk,q,none⟩=false∧∃u,(w2.setCell ⟨blk,j,none⟩ (.int .i64 s.1[q]!)).cell? ⟨blk,q,none⟩=some u) from ⟨hs.swap hjl hql,hs.cell hjl,hs.cell hql,hs.fz j,hs.fz q,hs.swcell hjl hql _⟩))
     have P1':=Lib.hid (Sup.drew P1)
     have LL:=Lib.hid L1
     have RR:=Lib.hid R1
     have SL:=Lib.hid (swL_len s.1 j q)
     have hqj:q < j:=by omega
     have hqa:a≤q:=by omega
     clear H2 S1 P1 L1 R1 hjl hql hq
     generalize hx:s.1[j]! = x at *
     generalize hy:s.1[q]! = y at *
     generalize hcv:cfT x y=cv at *
     clear hx hy hcv
     go_wp2_with fail
     refine wp_region_noPanic ?_
     refine wp_region_L (fun W=>W.cell? ⟨blk,j,none⟩=some (.int .i64 x)∧W.cell? ⟨blk,q,none⟩=some (.int .i64 y)) 16 (by kernel_rfl) ⟨cj,cq⟩ (fun hHeld=>?_)
     refine wpAnyL_take (i:=0) (v:=?_) [3,2] rfl (by kernel_rfl) (by kernel_rfl) (by kernel_rfl) (fun _ _ _ h=>h) (by kernel_rfl) (by kernel_rfl) (by kernel_rfl) (Or.inl ⟨by rfl,?_⟩) (by assumption) ?_
     rotate_left
     ·intro w hSw
      try dsimp only at hSw
      go_simp
      first|done|with_reducible rfl
     try simp only [Act.put,List.getElem_toArray,List.getElem_cons_zero,List.getElem_cons_succ,List.setIfInBounds_toArray,List.set_cons_zero,List.set_cons_succ]
     refine wpAnyL_take (i:=1) (v:=?_) [3,2] rfl (by kernel_rfl) (by kernel_rfl) (by kernel_rfl) (fun _ _ _ h=>h) (by kernel_rfl) (by kernel_rfl) (by kernel_rfl) (Or.inl ⟨by rfl,?_⟩) (by assumption) ?_
     rotate_left
     ·intro w hSw
      try dsimp only at hSw
      go_simp
      first|done|with_reducible rfl
     try simp only [Act.put,List.getElem_toArray,List.getElem_cons_zero,List.getElem_cons_succ,List.setIfInBounds_toArray,List.set_cons_zero,List.set_cons_succ]
     refine wpAnyL_take (i:=2) (v:=?_) [3] rfl (by kernel_rfl) (by kernel_rfl) (by kernel_rfl) (fun _ _ _ h=>h) (by kernel_rfl) (by kernel_rfl) (by kernel_rfl) (Or.inl ⟨by rfl,?_⟩) (by assumption) ?_
     rotate_left
     ·intro w hSw
      try dsimp only at hSw
      go_simp
      first|done|with_reducible rfl
     try simp only [Act.put,List.getElem_toArray,List.getElem_cons_zero,List.getElem_cons_succ,List.setIfInBounds_toArray,List.set_cons_zero,List.set_cons_succ]
     refine wpAnyL_take (i:=3) (v:=?_) [] rfl (by kernel_rfl) (by kernel_rfl) (by kernel_rfl) (fun _ _ _ h=>h) (by kernel_rfl) (by kernel_rfl) (by kernel_rfl) (Or.inl ⟨by rfl,?_⟩) (by assumption) ?_
     rotate_left
     ·intro w hSw
      try dsimp only at hSw
      go_simp
      first|done|with_reducible rfl
     try simp only [Act.put,List.getElem_toArray,List.getElem_cons_zero,List.getElem_cons_succ,List.setIfInBounds_toArray,List.set_cons_zero,List.set_cons_succ]
     refine wpAnyL_take (i:=4) (v:=?_) [15,14] rfl (by kernel_rfl) (by kernel_rfl) (by kernel_rfl) (fun _ _ _ h=>h) (by kernel_rfl) (by kernel_rfl) (by kernel_rfl) (Or.inl ⟨by rfl,?_⟩) (by assumption) ?_
     rotate_left
     ·intro w hSw
      try dsimp only at hSw
      go_simp
      first|done|with_reducible rfl
     try simp only [Act.put,List.getElem_toArray,List.getElem_cons_zero,List.getElem_cons_succ,List.setIfInBounds_toArray,List.set_cons_zero,List.set_cons_succ]
     refine wpAnyL_take (i:=5) (v:=?_) [15,14,8,7] rfl (by kernel_rfl) (by kernel_rfl) (by kernel_rfl) (fun _ _ _ h=>h) (by kernel_rfl) (by kernel_rfl) (by kernel_rfl) (Or.inl ⟨by rfl,?_⟩) (by assumption) ?_
     rotate_left
     ·intro w hSw
      try dsimp only at hSw
      go_simp
      first|done|with_reducible rfl
     try simp only [Act.put,List.getElem_toArray,List.getElem_cons_zero,List.getElem_cons_succ,List.setIfInBounds_toArray,List.set_cons_zero,List.set_cons_succ]
     refine wpAnyL_take (i:=6) (v:=?_) [15,14,8,7] rfl (by kernel_rfl) (by kernel_rfl) (by kernel_rfl) (fun _ _ _ h=>h) (by kernel_rfl) (by kernel_rfl) (by kernel_rfl) (Or.inl ⟨by rfl,?_⟩) (by assumption) ?_
     rotate_left
     ·intro w hSw
      try dsimp only at hSw
      go_simp
      first|done|with_reducible rfl
     try simp only [Act.put,List.getElem_toArray,List.getElem_cons_zero,List.getElem_cons_succ,List.setIfInBounds_toArray,List.set_cons_zero,List.set_cons_succ]
     refine wpAnyL_take (i:=7) (v:=?_) [15,14,8] rfl (by kernel_rfl) (by kernel_rfl) (by kernel_rfl) (fun _ _ _ h=>h) (by kernel_rfl) (by kernel_rfl) (by kernel_rfl) (Or.inl ⟨by rfl,?_⟩) (by assumption) ?_
     rotate_left
     ·intro w hSw
      try dsimp only at hSw
      go_simp
      first|done|with_reducible rfl
     try simp only [Act.put,List.getElem_toArray,List.getElem_cons_zero,List.getElem_cons_succ,List.setIfInBounds_toArray,List.set_cons_zero,List.set_cons_succ]
     refine wpAnyL_take (i:=8) (v:=?_) [15,14] rfl (by kernel_rfl) (by kernel_rfl) (by kernel_rfl) (fun _ _ _ h=>h) (by kernel_rfl) (by kernel_rfl) (by kernel_rfl) (Or.inl ⟨by rfl,?_⟩) (by assumption) ?_
     rotate_left
     ·intro w hSw
      try dsimp only at hSw
      go_simp
      first|done|with_reducible rfl
     try simp only [Act.put,List.getElem_toArray,List.getElem_cons_zero,List.getElem_cons_succ,List.setIfInBounds_toArray,List.set_cons_zero,List.set_cons_succ]
     refine wpAnyL_take (i:=9) (v:=?_) [15,14,13,12] rfl (by kernel_rfl) (by kernel_rfl) (by kernel_rfl) (fun _ _ _ h=>h) (by kernel_rfl) (by kernel_rfl) (by kernel_rfl) (Or.inl ⟨by rfl,?_⟩) (by assumption) ?_
     rotate_left
     ·intro w hSw
      try dsimp only at hSw
      go_simp
      first|done|with_reducible rfl
     try simp only [Act.put,List.getElem_toArray,List.getElem_cons_zero,List.getElem_cons_succ,List.setIfInBounds_toArray,List.set_cons_zero,List.set_cons_succ]
     refine wpAnyL_take (i:=10) (v:=?_) [15,14,13,12,11] rfl (by kernel_rfl) (by kernel_rfl) (by kernel_rfl) (fun _ _ _ h=>h) (by kernel_rfl) (by kernel_rfl) (by kernel_rfl) (Or.inl ⟨by rfl,?_⟩) (by assumption) ?_
     rotate_left
     ·intro w hSw
      try dsimp only at hSw
      go_simp
      first|done|with_reducible rfl
     try simp only [Act.put,List.getElem_toArray,List.getElem_cons_zero,List.getElem_cons_succ,List.setIfInBounds_toArray,List.set_cons_zero,List.set_cons_succ]
     refine wpAnyL_take (i:=11) (v:=?_) [15,14,13,12] rfl (by kernel_rfl) (by kernel_rfl) (by kernel_rfl) (fun _ _ _ h=>h) (by kernel_rfl) (by kernel_rfl) (by kernel_rfl) (Or.inl ⟨by rfl,?_⟩) (by assumption) ?_
     rotate_left
     ·intro w hSw
      try dsimp only at hSw
      go_simp
      first|done|with_reducible rfl
     try simp only [Act.put,List.getElem_toArray,List.getElem_cons_zero,List.getElem_cons_succ,List.setIfInBounds_toArray,List.set_cons_zero,List.set_cons_succ]
     refine wpAnyL_take (i:=12) (v:=?_) [15,14,13] rfl (by kernel_rfl) (by kernel_rfl) (by kernel_rfl) (fun _ _ _ h=>h) (by kernel_rfl) (by kernel_rfl) (by kernel_rfl) (Or.inl ⟨by rfl,?_⟩) (by assumption) ?_
     rotate_left
     ·intro w hSw
      try dsimp only at hSw
      go_simp
      first|done|with_reducible rfl
     try simp only [Act.put,List.getElem_toArray,List.getElem_cons_zero,List.getElem_cons_succ,List.setIfInBounds_toArray,List.set_cons_zero,List.set_cons_succ]
     refine wpAnyL_take (i:=13) (v:=?_) [15,14] rfl (by kernel_rfl) (by kernel_rfl) (by kernel_rfl) (fun _ _ _ h=>h) (by kernel_rfl) (by kernel_rfl) (by kernel_rfl) (Or.inl ⟨by rfl,?_⟩) (by assumption) ?_
     rotate_left
     ·intro w hSw
      try dsimp only at hSw
      go_simp
      first|done|with_reducible rfl
     try simp only [Act.put,List.getElem_toArray,List.getElem_cons_zero,List.getElem_cons_succ,List.setIfInBounds_toArray,List.set_cons_zero,List.set_cons_succ]
     refine wpAnyL_one (i:=14) (by kernel_rfl) rfl (fun K hK=>?_)
     go_simp
     refine KC.out.mono ?_
     rintro e w2 ⟨rfl,hs2,hp2⟩
     go_wp2_with fail
     refine hK.out _ _ ⟨(SW.out _ _ hs2).2.1,(SW.out _ _ hs2).2.2.1⟩ (fun hHeld=>?_)
     clear hK K
     try simp only [Act.put,List.getElem_toArray,List.getElem_cons_zero,List.getElem_cons_succ,List.setIfInBounds_toArray,List.set_cons_zero,List.set_cons_succ]
     refine wpAnyL_take (i:=15) (v:=?_) [] rfl (by kernel_rfl) (by kernel_rfl) (by kernel_rfl) (fun _ _ _ h=>h) (by kernel_rfl) (by kernel_rfl) (by kernel_rfl) (Or.inl ⟨by rfl,?_⟩) (by assumption) ?_
     rotate_left
     ·intro w hSw
      try dsimp only at hSw
      go_simp
      first|done|with_reducible rfl
     try simp only [Act.put,List.getElem_toArray,List.getElem_cons_zero,List.getElem_cons_succ,List.setIfInBounds_toArray,List.set_cons_zero,List.set_cons_succ]
     refine wpAnyL_last (by kernel_rfl) rfl (by kernel_rfl) (fun K hK=>?_)
     go_simp
     refine hK.out _ _ ?_
     clear hK K
     refine NoPanic.normal ?_
     clear KC cj cq
     by_cases hcv:cv < 0
     ·have d1:decide (cv < 0)=true:=decide_eq_true hcv
      obtain ⟨S3,c1,c2,f1,f2,u,c3⟩:=SW.out w2 _ hs2
      have NX:=Lib.hid (show ∃s:List Int × Bool,SrtW w0 N0 blk fb tail s.1 s.2 ((w2.setCell ⟨blk,j,none⟩ (.int .i64 y)).setCell ⟨blk,q,none⟩ (.int .i64 x)).drew∧Sup N0 w ((w2.setCell ⟨blk,j,none⟩ (.int .i64 y)).setCell ⟨blk,q,none⟩ (.int .i64 x)).drew∧s.1.length=n∧insO a (b - (i+1)) (i+1) (insI a q s)=RES from ⟨_,S3,hs2.swSup (P1'.out.trans hp2) _ _ _ _,SL.out.trans LL.out,by rw [←RR.out,GO.out,if_pos hcv]⟩)
      clear SW hs2 hp2 S3 GO RR LL SL P1'
      go_wp2_with fail
      go_big_region_o
      clear c1 c2 c3 f1 f2
      generalize ((w2.setCell ⟨blk,j,none⟩ (.int .i64 y)).setCell ⟨blk,q,none⟩ (.int .i64 x)).drew=w3 at *
      go_wp2
      go_roundg q
      case measure=>omega
      case rel=>exact ⟨q,by first|rfl|go_num,by omega,by omega,Nat.le_refl _,NX⟩
     ·have d1:decide (cv < 0)=false:=decide_eq_false hcv
      have NX:=Lib.hid (show ∃s:List Int × Bool,SrtW w0 N0 blk fb tail s.1 s.2 w2∧Sup N0 w w2∧s.1.length=n∧insO a (b - (i+1)) (i+1) s=RES from ⟨(s.1,s.2||bfT x y),hs2,P1'.out.trans hp2,LL.out,by rw [←RR.out,GO.out,if_neg hcv]⟩)
      clear SW hs2 hp2 GO RR LL SL P1'
      go_wp2
      go_roundg (b - i)
      case measure=>omega
      case rel=>exact ⟨i+1,by go_num,by omega,by omega,by omega,NX⟩
    ·have hjd:decide ((a:Int) < (j:Int))=false:=decide_eq_false (by omega)
     have hjn:¬(a:Int) < (j:Int):=by omega
     have NX:=Lib.hid (show ∃s:List Int × Bool,SrtW w0 N0 blk fb tail s.1 s.2 wr.drew∧Sup N0 w wr.drew∧s.1.length=n∧insO a (b - (i+1)) (i+1) s=RES from by
      obtain ⟨s,a1,a2,a3,a4⟩:=H2.out
      exact ⟨s,a1.drew,a2.drew,a3,by rw [insI_stop hja] at a4;exact a4⟩)
     clear H2
     go_wp2_with fail
     go_big_region_o
     generalize wr.drew=w2 at *
     go_wp2
     go_roundg (b - i)
     case measure=>omega
     case rel=>exact ⟨i+1,by go_num,by omega,by omega,by omega,NX⟩
  ·have PX:=Lib.hid (show SrtW w0 N0 blk fb tail RES.1 RES.2 wr∧Sup N0 w wr from by
    obtain ⟨s,a1,a2,a3,a4⟩:=H1.out
    rw [show b - i=0 by omega] at a4
    have a5:s=RES:=a4
    exact ⟨a5 ▸ a1,a2⟩)
   clear H1
   go_wp2
   go_end0
   exact ⟨rfl,PX.out⟩
end Go.Proofs.YtgjlgdpbmhdnbaaDoor
namespace Go.Proofs.YtgjlgdpbmhdnbaaDoor
def Alk (l l':List (List Int)):Prop:=∀c ∈ l,∃c' ∈ l',∀x,x ∈ c↔x ∈ c'
theorem bad_alk {n:Nat} {l l':List (List Int)} {g:List Int} (h:Alk l l') (hb:Bad n l g):Bad n l' g:=by
 rcases hb with h1|⟨x,h1,h2⟩|h1
 ·exact Or.inl h1
 ·exact Or.inr (Or.inl ⟨x,der_mono h (fun x hx=>Der.giv hx) h1,der_mono h (fun x hx=>Der.giv hx) h2⟩)
 ·obtain ⟨c',k1,k2⟩:=h [] h1
  refine Or.inr (Or.inr ?_)
  cases c' with
  | nil=>exact k1
  | cons a t=>exact absurd ((k2 a).2 List.mem_cons_self) List.not_mem_nil
theorem isU_alk {n:Nat} {l l':List (List Int)} {g r:List Int} {ok:Bool} (h:Alk l l') (h':Alk l' l) (hu:IsU n l g r ok):IsU n l' g r ok:=by
 rcases hu with ⟨a,b,c⟩|⟨a,b,c,d,e⟩
 ·exact Or.inl ⟨a,b,bad_alk h c⟩
 ·exact Or.inr ⟨a,fun q=>b (bad_alk h' q),c,d,fun x=>⟨fun q=>(e x).1 (der_mono h' (fun x hx=>Der.giv hx) q),fun q=>der_mono h (fun x hx=>Der.giv hx) ((e x).2 q)⟩⟩
theorem unA_alk {n:Int} {l l':List (List Int)} {g r:List Int} {ok:Bool} (ho:okF n l=okF n l') (h:Alk l l') (h':Alk l' l) (hu:UnA n l g r ok):UnA n l' g r ok:=by
 rcases hu with ⟨a,b⟩|⟨a,b⟩
 ·exact Or.inl ⟨ho ▸ a,b⟩
 ·exact Or.inr ⟨ho ▸ a,isU_alk h h' b⟩
def allT (a:List Int) (k:Nat):List Int:=((List.range k).filter fun i=>a[i]! != 0).map fun (i:Nat)=>((i:Int)+1)*a[i]!
theorem allT_go (a:List Int) (k:Nat):allT a (k+1)=allT a k++(if (a[k]! != 0)=true then [((k:Int)+1)*a[k]!] else []):=by
 unfold allT
 rw [List.range_succ,List.filter_append,List.map_append,List.filter_cons,List.filter_nil]
 split<;>rfl
theorem allT_mem {a:List Int} (h3:∀i,i < a.length→a[i]! = 1∨a[i]! = -1∨a[i]! = 0) (x:Int):x ∈ allT a a.length↔tv a x=1:=by
 unfold allT
 rw [List.mem_map]
 constructor
 ·rintro ⟨i,h1,rfl⟩
  rw [List.mem_filter,List.mem_range] at h1
  have t1:=tv_at h1.1 (h3 i h1.1)
  rcases h3 i h1.1 with q|q|q
  ·rw [q,Int.mul_one,t1,q]
  ·rw [q,show ((i:Int)+1)*-1=-((i:Int)+1) by omega,tv_neg,t1,q];rfl
  ·rw [q] at h1;exact absurd h1.2 (by decide)
 ·intro h
  have hl:=tv_lit (by rw [h];decide)
  have hp:=plc_lt hl
  have h0:=hl.1
  refine ⟨plc x,?_,?_⟩
  ·rw [List.mem_filter,List.mem_range]
   refine ⟨hp,?_⟩
   have:a[plc x]! ≠0:=fun e=>by rw [(tv_zero2 hl).2 e] at h;omega
   simpa using this
  ·have:=tv_sgn hl
   rw [h] at this
   have e:((plc x:Nat):Int)+1=x.natAbs:=by unfold plc;omega
   rw [e]
   rcases h3 (plc x) hp with q|q|q
   ·rw [q] at this ⊢
    have s1:x.sign=1:=by have:(1:Int)=1*x.sign:=this;omega
    have:=Int.sign_eq_one_iff_pos.1 s1
    omega
   ·rw [q] at this ⊢
    have s1:x.sign=-1:=by have:(1:Int)=-1*x.sign:=this;omega
    have:=Int.sign_eq_neg_one_iff_neg.1 s1
    omega
   ·rw [q] at this;simp at this
theorem unA_again {n:Int} {l:List (List Int)} {g a:List Int} (h:UnA n l g a true):UnA n l (allT a a.length) a true:=by
 rcases h with ⟨_,_,h⟩|⟨ho,h⟩
 ·cases h
 ·rcases h with ⟨h,_⟩|⟨_,hb,hl,h3,hd⟩
  ·cases h
  have M:=allT_mem (a:=a) (fun i hi=>h3 i (by rw [←hl];exact hi))
  have D1:∀x,Der l (allT a a.length) x→Der l g x:=fun x hx=>der_mono (fun c hc=>⟨c,hc,fun _=>Iff.rfl⟩) (fun y hy=>(hd y).2 ((M y).1 hy)) hx
  have D2:∀x,Der l g x→Der l (allT a a.length) x:=fun x hx=>Der.giv ((M x).2 ((hd x).1 hx))
  refine Or.inr ⟨ho,Or.inr ⟨rfl,?_,hl,h3,fun x=>⟨fun q=>(hd x).1 (D1 x q),fun q=>D2 x ((hd x).2 q)⟩⟩⟩
  rintro (⟨x,k1,k2⟩|⟨x,k1,k2⟩|k)
  ·exact k2 (hl ▸ tv_lit (by rw [(M x).1 k1];decide))
  ·exact hb (Or.inr (Or.inl ⟨x,D1 x k1,D1 _ k2⟩))
  ·exact hb (Or.inr (Or.inr k))
def rotL (l:List (List Int)) (k i:Nat):List Int:=(l[(i+k) % l.length]!).reverse
def othL (l:List (List Int)) (k m:Nat):List (List Int):=(List.range m).map (rotL l k)
theorem othL_go (l:List (List Int)) (k m:Nat):othL l k (m+1)=othL l k m++[rotL l k m]:=by
 unfold othL;rw [List.range_succ,List.map_append];rfl
theorem othL_len (l:List (List Int)) (k m:Nat):(othL l k m).length=m:=by unfold othL;rw [List.length_map,List.length_range]
theorem oth_alk {l:List (List Int)} (k:Nat) (h0:0 < l.length):Alk (othL l k l.length) l:=by
 intro c hc
 unfold othL at hc
 obtain ⟨i,_,rfl⟩:=List.mem_map.1 hc
 have hm:(i+k) % l.length < l.length:=Nat.mod_lt _ h0
 refine ⟨l[(i+k) % l.length],List.getElem_mem hm,fun x=>?_⟩
 unfold rotL
 rw [getElem!_pos l _ hm,List.mem_reverse]
theorem alk_oth {l:List (List Int)} (k:Nat) (h0:0 < l.length) (hk:k < l.length):Alk l (othL l k l.length):=by
 intro c hc
 obtain ⟨j,hj,rfl⟩:=List.getElem_of_mem hc
 have e:∃i,i < l.length∧(i+k) % l.length=j:=by
  by_cases q:k≤j
  ·exact ⟨j - k,by omega,by rw [Nat.sub_add_cancel q];exact Nat.mod_eq_of_lt hj⟩
  ·refine ⟨j+l.length - k,by omega,?_⟩
   rw [show j+l.length - k+k=j+l.length by omega,Nat.add_mod_right];exact Nat.mod_eq_of_lt hj
 obtain ⟨i,hi,he⟩:=e
 refine ⟨rotL l k i,List.mem_map.2 ⟨i,List.mem_range.2 hi,rfl⟩,fun x=>?_⟩
 unfold rotL
 rw [he,getElem!_pos l j hj,List.mem_reverse]
theorem okC_alk {n:Nat} {c c':List Int} (hl:c.length=c'.length) (h:∀x,x ∈ c↔x ∈ c'):okC n c=okC n c':=by
 unfold okC
 rw [hl]
 congr 2
 rw [Bool.eq_iff_iff,List.any_eq_true,List.any_eq_true]
 exact ⟨fun ⟨x,a,b⟩=>⟨x,(h x).1 a,b⟩,fun ⟨x,a,b⟩=>⟨x,(h x).2 a,b⟩⟩
theorem okF_oth {n:Int} {l:List (List Int)} {k:Nat} (h0:0 < l.length) (hk:k < l.length):okF n l=okF n (othL l k l.length):=by
 unfold okF
 rw [othL_len]
 congr 1
 rw [Bool.eq_iff_iff,List.all_eq_true,List.all_eq_true]
 have key:∀i,i < l.length→okC n.toNat (rotL l k i)=okC n.toNat l[(i+k) % l.length]! :=fun i hi=>by
  unfold rotL
  exact okC_alk (List.length_reverse) (fun x=>List.mem_reverse)
 constructor
 ·intro H c hc
  obtain ⟨i,hi,rfl⟩:=List.mem_map.1 hc
  rw [List.mem_range] at hi
  rw [key i hi]
  have hm:(i+k) % l.length < l.length:=Nat.mod_lt _ h0
  rw [getElem!_pos l _ hm]
  exact H _ (List.getElem_mem hm)
 ·intro H c hc
  obtain ⟨j,hj,rfl⟩:=List.getElem_of_mem hc
  have e:∃i,i < l.length∧(i+k) % l.length=j:=by
   by_cases q:k≤j
   ·exact ⟨j - k,by omega,by rw [Nat.sub_add_cancel q];exact Nat.mod_eq_of_lt hj⟩
   ·refine ⟨j+l.length - k,by omega,?_⟩
    rw [show j+l.length - k+k=j+l.length by omega,Nat.add_mod_right];exact Nat.mod_eq_of_lt hj
  obtain ⟨i,hi,he⟩:=e
  have:=H (rotL l k i) (List.mem_map.2 ⟨i,List.mem_range.2 hi,rfl⟩)
  rw [key i hi,he,getElem!_pos l j hj] at this
  exact this
theorem unA_oth {n:Int} {l:List (List Int)} {g r r':List Int} {ok ok':Bool} {k:Nat} (h0:0 < l.length) (hk:k < l.length) (h:UnA n l g r ok) (h':UnA n (othL l k l.length) g r' ok'):r=r'∧ok=ok':=
 unA_one (unA_alk (okF_oth h0 hk) (alk_oth k h0 hk) (oth_alk k h0) h) h'
theorem unA_three {n:Int} {l:List (List Int)} {g a:List Int} {ok:Bool} (h:UnA n l g a ok):∀i,i < a.length→a[i]! = 1∨a[i]! = -1∨a[i]! = 0:=by
 rcases h with ⟨_,rfl,_⟩|⟨_,h⟩
 ·exact fun i hi=>absurd hi (Nat.not_lt_zero _)
 ·rcases h with ⟨_,rfl,_⟩|⟨_,_,hl,h3,_⟩
  ·exact fun i hi=>absurd hi (Nat.not_lt_zero _)
  ·exact fun i hi=>h3 i (by rw [←hl];exact hi)
theorem unA_len {n:Int} {l:List (List Int)} {g a:List Int} {ok:Bool} (h:UnA n l g a ok):a.length≤20000:=by
 rcases h with ⟨_,rfl,_⟩|⟨ho,h⟩
 ·exact Nat.zero_le _
 ·rcases h with ⟨_,rfl,_⟩|⟨_,_,hl,_,_⟩
  ·exact Nat.zero_le _
  ·have:=okF_spec ho;omega
end Go.Proofs.YtgjlgdpbmhdnbaaDoor
namespace Go.Proofs.YtgjlgdpbmhdnbaaDoor
open Go.RowKit Go.WideShapes Go.ChangeShapes Go.ChangeAt Go.WideMaps Go.WideElems Go.Joins Go.Deep
section
variable {H:Type} {enc:TypeId × Value→H} {W:World}
theorem cells12_ints:Tryd.prog.cellsOf 23=1:=by kernel_rfl
theorem open12_ints_trod {base n:Nat} {sp:Nat→Bool} {held:Bool} {cs:List Value} {y:DataW H × List MemPlace} (h:DataW.trod enc Tryd.prog W base sp held n 23 cs=some y) :
  ∃A len c l,cs=[.slice A len c]∧rdInts W (lt_ W.heap.size) l [.slice A len c]∧(∀x ∈ l,(Lit.int .i64 x).wf=true):=by
 rcases open_ints Tryd.underlying23 Tryd.underlying3 (by kernel_rfl) h with ⟨rfl,hx⟩|⟨a,len,cap,zs,rfl,_,hl,hm,hz,hx,hcell,hwz⟩
 ·exact ⟨none,0,0,[],rfl,rdRow_nil _ _,by simp⟩
 ·have hlz:len≤zs.length:=by rw [hz];split<;>omega
  refine ⟨some a,len,cap,zs.take len,rfl,⟨some a,cap,by rw [List.length_take,Nat.min_eq_left hlz],by rw [List.length_take];omega,hm,fun k hk=>?_⟩,fun x hx=>hwz x (List.mem_of_mem_take hx)⟩
  rw [List.length_take,Nat.min_eq_left hlz] at hk
  have hc:=hcell k (by omega)
  have hb:=World.block_lt_of_cell? W (a.add k) hc
  rw [blk_add] at hb
  refine ⟨a,[.int .i64 (zs.take len)[k]],rfl,hb,rfl,rfl,fun j u hu=>?_⟩
  have hj:j=0:=by have:=(List.getElem?_eq_some_iff.1 hu).1;simpa using this
  subst hj
  simp only [List.getElem?_cons_zero,Option.some.injEq] at hu
  rw [←hu,List.getElem_take,Nat.mul_one,Nat.add_zero,hc]
  simp [List.getElem?_eq_getElem (show k < zs.length by omega)]
theorem open12_ints_arg {v:Value} {d:DataW H} {p:List MemPlace} {base:Nat} (hv:Value.okWide Tryd.prog W .any base 23 v) (h:DataW.Trod enc Tryd.prog W 0 (fun _=>true) true 23 v d p) :
  ∃A n c l,v=.slice A n c∧rdInts W (lt_ W.heap.size) l [.slice A n c]∧(∀x ∈ l,(Lit.int .i64 x).wf=true):=by
 obtain ⟨a0,len,cap,rfl⟩:=okWide_slice Tryd.underlying23 hv
 obtain ⟨fuel,hf⟩:=h
 obtain ⟨A,n,c,l,hcs,h1,h2⟩:=open12_ints_trod hf
 simp [Value.cells] at hcs
 obtain ⟨rfl,rfl,rfl⟩:=hcs
 exact ⟨a0,len,cap,l,rfl,h1,h2⟩
theorem open12_iss_arg {v:Value} {d:DataW H} {p:List MemPlace} {base:Nat} (hv:Value.okWide Tryd.prog W .any base 22 v) (h:DataW.Trod enc Tryd.prog W 0 (fun _=>true) true 22 v d p) :
  ∃A n c L,v=.slice A n c∧rdIss W (lt_ W.heap.size) L [.slice A n c]∧(∀g ∈ L,∀x ∈ g,(Lit.int .i64 x).wf=true):=by
 obtain ⟨a0,len0,cap0,rfl⟩:=okWide_slice Tryd.underlying22 hv
 obtain ⟨fuel,hf⟩:=h
 rcases open_slice Tryd.underlying22 hf with ⟨hcs,_⟩|⟨a,len,cap,m,k,D,Pl,hcs,hb,hl,hm,hmm,_,hx⟩
 ·simp [Value.cells] at hcs
  obtain ⟨rfl,rfl,rfl⟩:=hcs
  exact ⟨none,0,0,[],rfl,rdRow_nil _ _,by simp⟩
 ·simp [Value.cells] at hcs
  obtain ⟨rfl,rfl,rfl⟩:=hcs
  have hlm:len0≤m:=by rw [hmm];split<;>omega
  have hat:∀i,i < len0→∃(g:List Int) (u:Value),(∀x ∈ g,(Lit.int .i64 x).wf=true)∧a.block < W.heap.size∧rdInts W (lt_ W.heap.size) g [u]∧W.cell? (a.add (i*1+0))=some u:=by
   intro i hi
   obtain ⟨cs',hc,ht'⟩:=hx i (by omega)
   rw [cells12_ints] at hc
   obtain ⟨A,n,c,l,rfl,h1,h2⟩:=open12_ints_trod ht'
   obtain ⟨_,hcl,hcell⟩:=World.cells?_some hc
   have h0:=hcell 0 (by omega)
   have hadd:((a.add (i*1)).add 0)=a.add (i*1+0):=by unfold Addr.add;simp
   rw [hadd] at h0
   have hb':=World.block_lt_of_cell? W (a.add (i*1+0)) h0
   rw [blk_add] at hb'
   exact ⟨l,_,h2,hb',h1,h0⟩
  refine ⟨some a,len0,cap0,List.ofFn fun i:Fin len0=>Classical.choose (hat i.1 i.2),rfl,⟨some a,cap0,by simp,by simpa using hl,hm,fun i hi=>?_⟩,fun g hg=>?_⟩
  ·simp only [List.length_ofFn] at hi
   have hs:=Classical.choose_spec (Classical.choose_spec (hat i hi))
   refine ⟨a,[Classical.choose (Classical.choose_spec (hat i hi))],rfl,hs.2.1,?_,rfl,fun j u hu=>?_⟩
   ·rw [List.getElem_ofFn];exact hs.2.2.1
   ·have hj:j=0:=by have:=(List.getElem?_eq_some_iff.1 hu).1;simpa using this
    subst hj
    simp only [List.getElem?_cons_zero,Option.some.injEq] at hu
    rw [←hu];exact hs.2.2.2
  ·obtain ⟨i,hi⟩:=List.mem_ofFn.1 hg
   rw [←hi];exact (Classical.choose_spec (Classical.choose_spec (hat i.1 i.2))).1
end
end Go.Proofs.YtgjlgdpbmhdnbaaDoor
namespace Go.Proofs.YtgjlgdpbmhdnbaaDoor
open Go.RowKit Go.WideShapes Go.ChangeShapes Go.ChangeAt
section
variable {H:Type} {enc:TypeId × Value→H} {P:Program}
end
theorem laid_out:laidOutB Tryd.prog=true:=by kernel_rfl
section
variable {H:Type} {enc:TypeId × Value→H} {P:Program}
theorem trodAll_below {W W':World} (hl:laidOutB P=true) (hb:Below W.heap.size W W'):∀{ts:List TypeId} {vs:List Value} {ds:List (DataW H)} {ps:List MemPlace},(∀t ∈ ts,P.readableRec t=true∧t < P.types.size)→
  DataW.TrodAll enc P W 0 (fun _=>true) true ts vs ds ps→(∀x ∈ ps,x.block < W.heap.size)→DataW.TrodAll enc P W' 0 (fun b=>decide (b < W.heap.size)) true ts vs ds ps
 | [],[],[],_,_,h,_=>h
 | t::ts,v::vs,d::ds,ps,hts,h,hlt=>by
  obtain ⟨p,q,h1,h2,rfl⟩:=h
  refine ⟨p,q,Below.trod hl (hts t (by simp)).1 (hts t (by simp)).2 h1 hb (fun x hx=>hlt x (by simp [hx])),trodAll_below hl hb (fun t ht=>hts t (by simp [ht])) h2 (fun x hx=>hlt x (by simp [hx])),rfl⟩
 | [],[],_::_,_,_,h,_=>h.elim
 | [],_::_,_,_,_,h,_=>h.elim
 | _::_,[],_,_,_,h,_=>h.elim
 | _::_,_::_,[],_,_,h,_=>h.elim
theorem law_post {f:Func} {s:ChangeSpec} {W W':World} {args:Array Value} {ds gs:List (DataW H)} {before:List MemPlace} {b:TypeId} {apart:Bool}
  (hW:DataW.Whole enc P f.params.toList s.vars apart W args.toList ds gs before) (hv:s.vars=[])
  (h1:(s.fn H ds).results=[.lit (.bool true)]) (h2:(s.fn H ds).args=ds) (h3:(s.fn H ds).vars=[])
  (hrt:f.resultTypes=#[b]) (hbool:P.underlying b=some .bool) (hl:laidOutB P=true) (hts:∀t ∈ f.params.toList,P.readableRec t=true∧t < P.types.size)
  (hb:Below W.heap.size W W'):s.post enc P f apart true false false W args (.bool true) W':=by
 have hW':=hW
 have hlt0:=hW.lt
 obtain ⟨p,q,hA,hV,rfl,hz,hn⟩:=hW
 rw [hv] at hV
 obtain ⟨rfl,rfl⟩:=trodVars_none hV
 refine ⟨ds,[],p++[],[],p,[],hW',?_,?_,?_,hb.frame _,fun h=>by cases h⟩
 ·rw [List.append_nil,h1,hrt]
  exact trodAll_cons_mk (shut_bool hbool _) trodAll_mk0
 ·rw [List.append_nil,h2]
  exact trodAll_below hl hb hts hA (fun x hx=>hlt0 x (by simp [hx]))
 ·rw [hv,List.append_nil,h3];rfl
end
end Go.Proofs.YtgjlgdpbmhdnbaaDoor
