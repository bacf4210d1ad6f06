/- What the laws rest on: N12k, N12v, E12j, E12i, Post2. -/
import Derived.Deep.LoopGhost
import Derived.Shelf.SlSortCmp.Kit1
import Derived.ProofKit
import Derived.OpenShut
import Derived.ChangeMaps5
import Derived.SliceStrings
import Derived.Lib.SmallJoins
import Derived.Deep.Slices
import Derived.Deep.Strs
import Derived.Test.YtgjlgdpbmhdnbaaDoorRows
import Derived.ChangeSame
import Derived.Carry
import Derived.Test.YtgjlgdpbmhdnbaaDoorQAEZC
set_option maxRecDepth 100000
set_option linter.unusedVariables false
set_option linter.unusedSimpArgs false
namespace Go.Proofs.YtgjlgdpbmhdnbaaDoor
open Go.RowKit
def swL (d:List Int) (i j:Nat):List Int:=(d.set i d[j]!).set j d[i]!
theorem swL_len (d:List Int) (i j:Nat):(swL d i j).length=d.length:=by unfold swL;rw [List.length_set,List.length_set]
def insI (a:Nat):Nat→List Int × Bool→List Int × Bool
 | 0,s=>s
 | j+1,s=>if a < j+1 then (if cfT s.1[j+1]! s.1[j]! < 0 then insI a j (swL s.1 (j+1) j,s.2||bfT s.1[j+1]! s.1[j]!) else (s.1,s.2||bfT s.1[j+1]! s.1[j]!)) else s
def insO (a:Nat):Nat→Nat→List Int × Bool→List Int × Bool
 | 0,_,s=>s
 | k+1,i,s=>insO a k (i+1) (insI a i s)
theorem insI_len (a:Nat):∀(j:Nat) (s:List Int × Bool),(insI a j s).1.length=s.1.length
 | 0,s=>rfl
 | j+1,s=>by
  unfold insI
  split
  ·split
   ·rw [insI_len a j];exact swL_len _ _ _
   ·rfl
  ·rfl
theorem insI_stop {a j:Nat} {s:List Int × Bool} (h:¬a < j):insI a j s=s:=by
 cases j with
 | zero=>rfl
 | succ j=>unfold insI;rw [if_neg h]
theorem insI_go {a j:Nat} {s:List Int × Bool} (h:a < j+1):insI a (j+1) s=if cfT s.1[j+1]! s.1[j]! < 0 then insI a j (swL s.1 (j+1) j,s.2||bfT s.1[j+1]! s.1[j]!) else (s.1,s.2||bfT s.1[j+1]! s.1[j]!):=by
 rw [insI,if_pos h]
theorem insO_go {a b i:Nat} {s:List Int × Bool} (h:i < b):insO a (b - i) i s=insO a (b - (i+1)) (i+1) (insI a i s):=by
 rw [show b - i=(b - (i+1))+1 by omega,insO]
section
variable {w0 w:World} {N0 blk fb:Nat} {tail:List Value} {d:List Int} {f:Bool}
theorem SrtW.swap (h:SrtW w0 N0 blk fb tail d f w) {i j:Nat} (hi:i < d.length) (hj:j < d.length):SrtW w0 N0 blk fb tail (swL d i j) f ((w.setCell ⟨blk,i,none⟩ (.int .i64 d[j]!)).setCell ⟨blk,j,none⟩ (.int .i64 d[i]!)).drew:=((h.put hi _).put (by rw [List.length_set];exact hj) _).drew
theorem SrtW.swcell (h:SrtW w0 N0 blk fb tail d f w) {i j:Nat} (hi:i < d.length) (hj:j < d.length) (x:Int):∃u,(w.setCell ⟨blk,i,none⟩ (.int .i64 x)).cell? ⟨blk,j,none⟩=some u:=⟨_,(h.put hi x).cell (by rw [List.length_set];exact hj)⟩
theorem SrtW.swSup (h:SrtW w0 N0 blk fb tail d f w) {w1:World} (k:Sup N0 w1 w) (i j:Nat) (u v:Value):Sup N0 w1 ((w.setCell ⟨blk,i,none⟩ u).setCell ⟨blk,j,none⟩ v).drew:=Sup.drew ((k.trans (Sup.set h.bn)).trans (Sup.set h.bn))
end
set_option maxHeartbeats 16000000 in
theorem ins12_any {w0 w:World} {N0 blk fb:Nat} {tail:List Value} {d:List Int} {f:Bool} (h:SrtW w0 N0 blk fb tail d f w) {n cap a b:Nat} (hn:d.length=n) (hn2:n≤1000000) (hc:n≤cap) (hcm:cap≤maxLen) (hb:b≤n) (ha:a≤b) :
  Calls Tryd.prog 53 #[.slice (some ⟨blk,0,none⟩) n cap,.int .i64 a,.int .i64 b,.func (.func 32) #[] #[.pointer (some ⟨fb,0,none⟩)]] w fun e w'=>
   e=.returned (.tuple #[])∧SrtW w0 N0 blk fb tail (insO a (b - (a+1)) (a+1) (d,f)).1 (insO a (b - (a+1)) (a+1) (d,f)).2 w'∧Sup N0 w w':=by
 have hcm':cap≤9223372036854775807:=hcm
 have mixed:Tryd.prog.follows .mixedOrders=true:=by kernel_rfl
 have eg:∀(args:Array Value) (w:World),(callFunc 32 args).run Tryd.prog w=.ok (.enter 32 args) w:=fun _ _=>by kernel_rfl
 have START:=Lib.hid (show ∃s:List Int × Bool,SrtW w0 N0 blk fb tail s.1 s.2 w∧Sup N0 w w∧s.1.length=n∧insO a (b - (a+1)) (a+1) s=insO a (b - (a+1)) (a+1) (d,f) from ⟨(d,f),h,Sup.refl _ _,hn,rfl⟩)
 generalize insO a (b - (a+1)) (a+1) (d,f)=RES at *
 clear h hn
 go_enter Tryd.func53,Tryd.ntmps53
 go_wp2
 go_loopg [8] (b+1) (fun gm v wr=>∃i:Nat,v=.int .i64 i∧a < i∧i≤b+1∧b+1 - i≤gm∧Hid (∃s:List Int × Bool,SrtW w0 N0 blk fb tail s.1 s.2 wr∧Sup N0 w wr∧s.1.length=n∧insO a (b - i) i s=RES))
 case atStart=>exact ⟨a+1,by go_num,by omega,by omega,by omega,START⟩
 case round=>
  clear START
  obtain ⟨i,rfl,hai,hib,hgm,H1⟩:=hrel
  by_cases hlt:i < b
  ·have hltz:(i:Int) < (b:Int):=by omega
   have START:=Lib.hid (show ∃s:List Int × Bool,SrtW w0 N0 blk fb tail s.1 s.2 wr∧Sup N0 w wr∧s.1.length=n∧insO a (b - (i+1)) (i+1) (insI a i s)=RES from by
    obtain ⟨s,a1,a2,a3,a4⟩:=H1.out
    exact ⟨s,a1,a2,a3,by rw [←a4,insO_go hlt]⟩)
   clear H1
   go_wp2
   go_loopg [9] i (fun g2 v wr2=>∃j:Nat,v=.int .i64 j∧a≤j∧j≤i∧j≤g2∧Hid (∃s:List Int × Bool,SrtW w0 N0 blk fb tail s.1 s.2 wr2∧Sup N0 w wr2∧s.1.length=n∧insO a (b - (i+1)) (i+1) (insI a j s)=RES))
   case atStart=>exact ⟨i,rfl,by omega,Nat.le_refl _,Nat.le_refl _,START⟩
   case round=>
    clear START
    obtain ⟨j,rfl,haj,hji,hg2,H2⟩:=hrel
    by_cases hja:a < j
    ·have hjaz:(a:Int) < (j:Int):=by omega
     have hjd:decide ((a:Int) < (j:Int))=true:=decide_eq_true hjaz
     obtain ⟨q,hq⟩:∃q,j=q+1:=⟨j - 1,by omega⟩
     have ej:(j:Int) - 1=(q:Int):=by omega
     have ew:IntKind.i64.wrap ((j:Int) - 1)=(q:Int):=by rw [IntKind.wrap_i64];omega
     have ew2:IntKind.i64.wrap (q:Int)=(q:Int):=by rw [IntKind.wrap_i64];omega
     have q0:(0:Int)≤(q:Int):=by omega
     have q1:(q:Int) < (n:Int):=by omega
     have j0:(0:Int)≤(j:Int):=by omega
     have j1:(j:Int) < (n:Int):=by omega
     obtain ⟨s,S1,P1,L1,R1⟩:=H2.out
     have hjl:j < s.1.length:=by omega
     have hql:q < s.1.length:=by omega
     have cj:=S1.cell hjl
     have cq:=S1.cell hql
     have KC:=Lib.hid (tidyC_any S1.drew s.1[j]! s.1[q]!)
     have GO:=Lib.hid (show insI a j s=if cfT s.1[j]! s.1[q]! < 0 then insI a q (swL s.1 j q,s.2||bfT s.1[j]! s.1[q]!) else (s.1,s.2||bfT s.1[j]! s.1[q]!) by rw [hq];exact insI_go (by omega))
     have SW:=Lib.hid (fun (w2:World) (f2:Bool) (hs:SrtW w0 N0 blk fb tail s.1 f2 w2)=>(show SrtW w0 N0 blk fb tail (swL s.1 j q) f2 ((w2.setCell ⟨blk,j,none⟩ (.int .i64 s.1[q]!)).setCell ⟨blk,q,none⟩ (.int .i64 s.1[j]!)).drew∧(w2.cell? ⟨blk,j,none⟩=some (.int .i64 s.1[j]!)∧w2.cell? ⟨blk,q,none⟩=some (.int .i64 s.1[q]!)∧w2.frozen? ⟨blk,j,none⟩=false∧w2.frozen? ⟨blk,q,none⟩=false∧∃u,(w2.setCell ⟨blk,j,none⟩ (.int .i64 s.1[q]!)).cell? ⟨blk,q,none⟩=some u) from ⟨hs.swap hjl hql,hs.cell hjl,hs.cell hql,hs.fz j,hs.fz q,hs.swcell hjl hql _⟩))
     have P1':=Lib.hid (Sup.drew P1)
     have LL:=Lib.hid L1
     have RR:=Lib.hid R1
     have SL:=Lib.hid (swL_len s.1 j q)
     have hqj:q < j:=by omega
     have hqa:a≤q:=by omega
     clear H2 S1 P1 L1 R1 hjl hql hq
     generalize hx:s.1[j]! = x at *
     generalize hy:s.1[q]! = y at *
     generalize hcv:cfT x y=cv at *
     clear hx hy hcv
     go_wp2_with fail
     refine wp_region_noPanic ?_
     refine wp_region_L (fun W=>W.cell? ⟨blk,j,none⟩=some (.int .i64 x)∧W.cell? ⟨blk,q,none⟩=some (.int .i64 y)) 16 (by kernel_rfl) ⟨cj,cq⟩ (fun hHeld=>?_)
     refine wpAnyL_take (i:=0) (v:=?_) [3,2] rfl (by kernel_rfl) (by kernel_rfl) (by kernel_rfl) (fun _ _ _ h=>h) (by kernel_rfl) (by kernel_rfl) (by kernel_rfl) (Or.inl ⟨by rfl,?_⟩) (by assumption) ?_
     rotate_left
     ·intro w hSw
      try dsimp only at hSw
      go_simp
      first|done|with_reducible rfl
     try simp only [Act.put,List.getElem_toArray,List.getElem_cons_zero,List.getElem_cons_succ,List.setIfInBounds_toArray,List.set_cons_zero,List.set_cons_succ]
     refine wpAnyL_take (i:=1) (v:=?_) [3,2] rfl (by kernel_rfl) (by kernel_rfl) (by kernel_rfl) (fun _ _ _ h=>h) (by kernel_rfl) (by kernel_rfl) (by kernel_rfl) (Or.inl ⟨by rfl,?_⟩) (by assumption) ?_
     rotate_left
     ·intro w hSw
      try dsimp only at hSw
      go_simp
      first|done|with_reducible rfl
     try simp only [Act.put,List.getElem_toArray,List.getElem_cons_zero,List.getElem_cons_succ,List.setIfInBounds_toArray,List.set_cons_zero,List.set_cons_succ]
     refine wpAnyL_take (i:=2) (v:=?_) [3] rfl (by kernel_rfl) (by kernel_rfl) (by kernel_rfl) (fun _ _ _ h=>h) (by kernel_rfl) (by kernel_rfl) (by kernel_rfl) (Or.inl ⟨by rfl,?_⟩) (by assumption) ?_
     rotate_left
     ·intro w hSw
      try dsimp only at hSw
      go_simp
      first|done|with_reducible rfl
     try simp only [Act.put,List.getElem_toArray,List.getElem_cons_zero,List.getElem_cons_succ,List.setIfInBounds_toArray,List.set_cons_zero,List.set_cons_succ]
     refine wpAnyL_take (i:=3) (v:=?_) [] rfl (by kernel_rfl) (by kernel_rfl) (by kernel_rfl) (fun _ _ _ h=>h) (by kernel_rfl) (by kernel_rfl) (by kernel_rfl) (Or.inl ⟨by rfl,?_⟩) (by assumption) ?_
     rotate_left
     ·intro w hSw
      try dsimp only at hSw
      go_simp
      first|done|with_reducible rfl
     try simp only [Act.put,List.getElem_toArray,List.getElem_cons_zero,List.getElem_cons_succ,List.setIfInBounds_toArray,List.set_cons_zero,List.set_cons_succ]
     refine wpAnyL_take (i:=4) (v:=?_) [15,14] rfl (by kernel_rfl) (by kernel_rfl) (by kernel_rfl) (fun _ _ _ h=>h) (by kernel_rfl) (by kernel_rfl) (by kernel_rfl) (Or.inl ⟨by rfl,?_⟩) (by assumption) ?_
     rotate_left
     ·intro w hSw
      try dsimp only at hSw
      go_simp
      first|done|with_reducible rfl
     try simp only [Act.put,List.getElem_toArray,List.getElem_cons_zero,List.getElem_cons_succ,List.setIfInBounds_toArray,List.set_cons_zero,List.set_cons_succ]
     refine wpAnyL_take (i:=5) (v:=?_) [15,14,8,7] rfl (by kernel_rfl) (by kernel_rfl) (by kernel_rfl) (fun _ _ _ h=>h) (by kernel_rfl) (by kernel_rfl) (by kernel_rfl) (Or.inl ⟨by rfl,?_⟩) (by assumption) ?_
     rotate_left
     ·intro w hSw
      try dsimp only at hSw
      go_simp
      first|done|with_reducible rfl
     try simp only [Act.put,List.getElem_toArray,List.getElem_cons_zero,List.getElem_cons_succ,List.setIfInBounds_toArray,List.set_cons_zero,List.set_cons_succ]
     refine wpAnyL_take (i:=6) (v:=?_) [15,14,8,7] rfl (by kernel_rfl) (by kernel_rfl) (by kernel_rfl) (fun _ _ _ h=>h) (by kernel_rfl) (by kernel_rfl) (by kernel_rfl) (Or.inl ⟨by rfl,?_⟩) (by assumption) ?_
     rotate_left
     ·intro w hSw
      try dsimp only at hSw
      go_simp
      first|done|with_reducible rfl
     try simp only [Act.put,List.getElem_toArray,List.getElem_cons_zero,List.getElem_cons_succ,List.setIfInBounds_toArray,List.set_cons_zero,List.set_cons_succ]
     refine wpAnyL_take (i:=7) (v:=?_) [15,14,8] rfl (by kernel_rfl) (by kernel_rfl) (by kernel_rfl) (fun _ _ _ h=>h) (by kernel_rfl) (by kernel_rfl) (by kernel_rfl) (Or.inl ⟨by rfl,?_⟩) (by assumption) ?_
     rotate_left
     ·intro w hSw
      try dsimp only at hSw
      go_simp
      first|done|with_reducible rfl
     try simp only [Act.put,List.getElem_toArray,List.getElem_cons_zero,List.getElem_cons_succ,List.setIfInBounds_toArray,List.set_cons_zero,List.set_cons_succ]
     refine wpAnyL_take (i:=8) (v:=?_) [15,14] rfl (by kernel_rfl) (by kernel_rfl) (by kernel_rfl) (fun _ _ _ h=>h) (by kernel_rfl) (by kernel_rfl) (by kernel_rfl) (Or.inl ⟨by rfl,?_⟩) (by assumption) ?_
     rotate_left
     ·intro w hSw
      try dsimp only at hSw
      go_simp
      first|done|with_reducible rfl
     try simp only [Act.put,List.getElem_toArray,List.getElem_cons_zero,List.getElem_cons_succ,List.setIfInBounds_toArray,List.set_cons_zero,List.set_cons_succ]
     refine wpAnyL_take (i:=9) (v:=?_) [15,14,13,12] rfl (by kernel_rfl) (by kernel_rfl) (by kernel_rfl) (fun _ _ _ h=>h) (by kernel_rfl) (by kernel_rfl) (by kernel_rfl) (Or.inl ⟨by rfl,?_⟩) (by assumption) ?_
     rotate_left
     ·intro w hSw
      try dsimp only at hSw
      go_simp
      first|done|with_reducible rfl
     try simp only [Act.put,List.getElem_toArray,List.getElem_cons_zero,List.getElem_cons_succ,List.setIfInBounds_toArray,List.set_cons_zero,List.set_cons_succ]
     refine wpAnyL_take (i:=10) (v:=?_) [15,14,13,12,11] rfl (by kernel_rfl) (by kernel_rfl) (by kernel_rfl) (fun _ _ _ h=>h) (by kernel_rfl) (by kernel_rfl) (by kernel_rfl) (Or.inl ⟨by rfl,?_⟩) (by assumption) ?_
     rotate_left
     ·intro w hSw
      try dsimp only at hSw
      go_simp
      first|done|with_reducible rfl
     try simp only [Act.put,List.getElem_toArray,List.getElem_cons_zero,List.getElem_cons_succ,List.setIfInBounds_toArray,List.set_cons_zero,List.set_cons_succ]
     refine wpAnyL_take (i:=11) (v:=?_) [15,14,13,12] rfl (by kernel_rfl) (by kernel_rfl) (by kernel_rfl) (fun _ _ _ h=>h) (by kernel_rfl) (by kernel_rfl) (by kernel_rfl) (Or.inl ⟨by rfl,?_⟩) (by assumption) ?_
     rotate_left
     ·intro w hSw
      try dsimp only at hSw
      go_simp
      first|done|with_reducible rfl
     try simp only [Act.put,List.getElem_toArray,List.getElem_cons_zero,List.getElem_cons_succ,List.setIfInBounds_toArray,List.set_cons_zero,List.set_cons_succ]
     refine wpAnyL_take (i:=12) (v:=?_) [15,14,13] rfl (by kernel_rfl) (by kernel_rfl) (by kernel_rfl) (fun _ _ _ h=>h) (by kernel_rfl) (by kernel_rfl) (by kernel_rfl) (Or.inl ⟨by rfl,?_⟩) (by assumption) ?_
     rotate_left
     ·intro w hSw
      try dsimp only at hSw
      go_simp
      first|done|with_reducible rfl
     try simp only [Act.put,List.getElem_toArray,List.getElem_cons_zero,List.getElem_cons_succ,List.setIfInBounds_toArray,List.set_cons_zero,List.set_cons_succ]
     refine wpAnyL_take (i:=13) (v:=?_) [15,14] rfl (by kernel_rfl) (by kernel_rfl) (by kernel_rfl) (fun _ _ _ h=>h) (by kernel_rfl) (by kernel_rfl) (by kernel_rfl) (Or.inl ⟨by rfl,?_⟩) (by assumption) ?_
     rotate_left
     ·intro w hSw
      try dsimp only at hSw
      go_simp
      first|done|with_reducible rfl
     try simp only [Act.put,List.getElem_toArray,List.getElem_cons_zero,List.getElem_cons_succ,List.setIfInBounds_toArray,List.set_cons_zero,List.set_cons_succ]
     refine wpAnyL_one (i:=14) (by kernel_rfl) rfl (fun K hK=>?_)
     go_simp
     refine KC.out.mono ?_
     rintro e w2 ⟨rfl,hs2,hp2⟩
     go_wp2_with fail
     refine hK.out _ _ ⟨(SW.out _ _ hs2).2.1,(SW.out _ _ hs2).2.2.1⟩ (fun hHeld=>?_)
     clear hK K
     try simp only [Act.put,List.getElem_toArray,List.getElem_cons_zero,List.getElem_cons_succ,List.setIfInBounds_toArray,List.set_cons_zero,List.set_cons_succ]
     refine wpAnyL_take (i:=15) (v:=?_) [] rfl (by kernel_rfl) (by kernel_rfl) (by kernel_rfl) (fun _ _ _ h=>h) (by kernel_rfl) (by kernel_rfl) (by kernel_rfl) (Or.inl ⟨by rfl,?_⟩) (by assumption) ?_
     rotate_left
     ·intro w hSw
      try dsimp only at hSw
      go_simp
      first|done|with_reducible rfl
     try simp only [Act.put,List.getElem_toArray,List.getElem_cons_zero,List.getElem_cons_succ,List.setIfInBounds_toArray,List.set_cons_zero,List.set_cons_succ]
     refine wpAnyL_last (by kernel_rfl) rfl (by kernel_rfl) (fun K hK=>?_)
     go_simp
     refine hK.out _ _ ?_
     clear hK K
     refine NoPanic.normal ?_
     clear KC cj cq
     by_cases hcv:cv < 0
     ·have d1:decide (cv < 0)=true:=decide_eq_true hcv
      obtain ⟨S3,c1,c2,f1,f2,u,c3⟩:=SW.out w2 _ hs2
      have NX:=Lib.hid (show ∃s:List Int × Bool,SrtW w0 N0 blk fb tail s.1 s.2 ((w2.setCell ⟨blk,j,none⟩ (.int .i64 y)).setCell ⟨blk,q,none⟩ (.int .i64 x)).drew∧Sup N0 w ((w2.setCell ⟨blk,j,none⟩ (.int .i64 y)).setCell ⟨blk,q,none⟩ (.int .i64 x)).drew∧s.1.length=n∧insO a (b - (i+1)) (i+1) (insI a q s)=RES from ⟨_,S3,hs2.swSup (P1'.out.trans hp2) _ _ _ _,SL.out.trans LL.out,by rw [←RR.out,GO.out,if_pos hcv]⟩)
      clear SW hs2 hp2 S3 GO RR LL SL P1'
      go_wp2_with fail
      go_big_region_o
      clear c1 c2 c3 f1 f2
      generalize ((w2.setCell ⟨blk,j,none⟩ (.int .i64 y)).setCell ⟨blk,q,none⟩ (.int .i64 x)).drew=w3 at *
      go_wp2
      go_roundg q
      case measure=>omega
      case rel=>exact ⟨q,by first|rfl|go_num,by omega,by omega,Nat.le_refl _,NX⟩
     ·have d1:decide (cv < 0)=false:=decide_eq_false hcv
      have NX:=Lib.hid (show ∃s:List Int × Bool,SrtW w0 N0 blk fb tail s.1 s.2 w2∧Sup N0 w w2∧s.1.length=n∧insO a (b - (i+1)) (i+1) s=RES from ⟨(s.1,s.2||bfT x y),hs2,P1'.out.trans hp2,LL.out,by rw [←RR.out,GO.out,if_neg hcv]⟩)
      clear SW hs2 hp2 GO RR LL SL P1'
      go_wp2
      go_roundg (b - i)
      case measure=>omega
      case rel=>exact ⟨i+1,by go_num,by omega,by omega,by omega,NX⟩
    ·have hjd:decide ((a:Int) < (j:Int))=false:=decide_eq_false (by omega)
     have hjn:¬(a:Int) < (j:Int):=by omega
     have NX:=Lib.hid (show ∃s:List Int × Bool,SrtW w0 N0 blk fb tail s.1 s.2 wr.drew∧Sup N0 w wr.drew∧s.1.length=n∧insO a (b - (i+1)) (i+1) s=RES from by
      obtain ⟨s,a1,a2,a3,a4⟩:=H2.out
      exact ⟨s,a1.drew,a2.drew,a3,by rw [insI_stop hja] at a4;exact a4⟩)
     clear H2
     go_wp2_with fail
     go_big_region_o
     generalize wr.drew=w2 at *
     go_wp2
     go_roundg (b - i)
     case measure=>omega
     case rel=>exact ⟨i+1,by go_num,by omega,by omega,by omega,NX⟩
  ·have PX:=Lib.hid (show SrtW w0 N0 blk fb tail RES.1 RES.2 wr∧Sup N0 w wr from by
    obtain ⟨s,a1,a2,a3,a4⟩:=H1.out
    rw [show b - i=0 by omega] at a4
    have a5:s=RES:=a4
    exact ⟨a5 ▸ a1,a2⟩)
   clear H1
   go_wp2
   go_end0
   exact ⟨rfl,PX.out⟩
def rdBoo:Rd Bool:=fun _ _ a cs=>cs=[.bool a]
theorem rdBoo_good:Good rdBoo 1:=⟨fun h _=>h,fun h _=>h,fun h _ _=>h,fun h=>by rw [h];rfl,fun h u hu=>by rw [h] at hu;simp at hu;subst hu;rfl⟩
abbrev rdBoos:Rd (List Bool):=rdRow 1 rdBoo
theorem rdBoos_good:Good rdBoos 1:=rdRow_good rdBoo_good
theorem rdBoos_at {w:World} {S:Nat→Prop} {l:List Bool} {A:Option Addr} {n c:Nat} (h:rdBoos w S l [.slice A n c]):n=l.length∧n≤c∧c≤maxLen∧∀k (hk:k < l.length),∃ad,A=some ad∧S ad.block∧
  w.cell? (ad.add k)=some (.bool l[k]):=by
 obtain ⟨A',c',e,h1,h2,h⟩:=h
 simp only [List.cons.injEq,Value.slice.injEq,and_true] at e
 obtain ⟨rfl,rfl,rfl⟩:=e
 refine ⟨rfl,h1,h2,fun k hk=>?_⟩
 obtain ⟨ad,es,e,hS,hE,hl,hc⟩:=h k hk
 rw [show es=[.bool l[k]] from hE] at hc
 have:=hc 0 _ rfl
 rw [Nat.mul_one] at this
 exact ⟨ad,e,hS,this⟩
def trB (m:List Bool) (x:Int):Bool:=decide (x≠0∧-(m.length:Int)≤x∧x≤m.length)&&(m[plc x]! ==decide (0 < x))
set_option maxHeartbeats 2000000 in
theorem hcl12_any (b:Nat) (x:Int) (m:List Bool) (A:Option Addr) (c:Nat) (S:Nat→Prop) (w:World) (hn:m.length≤1000000) (hc:w.cell? ⟨b,0,none⟩=some (.slice A m.length c)) (h:rdBoos w S m [.slice A m.length c]) :
  Calls Tryd.prog 27 #[.int .i64 x,.pointer (some ⟨b,0,none⟩)] w fun e w'=>e=.returned (.bool (trB m x))∧w=w':=by
 have PL:=Lib.hid (pla12_any x m.length w (by omega))
 have X:=Lib.hid (show trB m x=(decide (x≠0∧-(m.length:Int)≤x∧x≤m.length)&&(m[plc x]! ==decide (0 < x))) from rfl)
 generalize trB m x=bb at *
 obtain ⟨-,hnc,hcm,hat⟩:=rdBoos_at h
 have hcm':c≤9223372036854775807:=hcm
 by_cases hl:litN m.length x
 ·have hp:=plc_lt hl
  rw [plI_lit hl] at PL
  obtain ⟨ad,rfl,had,hcell⟩:=hat (plc x) hp
  rw [getElem!_pos m _ hp,decide_eq_true (p:=x≠0∧-(m.length:Int)≤x∧x≤m.length) hl,Bool.true_and] at X
  generalize m[plc x]=y at *
  have i0:(0:Int)≤(plc x:Int):=by omega
  have i1:(plc x:Int) < (m.length:Int):=by omega
  have i2:decide ((plc x:Int)≥0)=true:=decide_eq_true i0
  have N0:=hl.1
  clear hl hp had hat h hcm
  generalize plc x=p at *
  by_cases hx:0 < x
  ·have d1:decide (0 < x)=true:=decide_eq_true hx
   have d2:decide (x > 0)=true:=decide_eq_true hx
   rw [d1] at X
   have ey:(y==true)=y:=by cases y<;>rfl
   go_enter Tryd.func27,Tryd.ntmps27
   go_wp2_with fail
   refine PL.out.mono ?_
   rintro e w' ⟨rfl,rfl⟩
   go_wp2
   go_ret
   exact ⟨by rw [X.out];cases y<;>rfl,rfl⟩
  ·have d1:decide (0 < x)=false:=decide_eq_false hx
   have d2:decide (x > 0)=false:=decide_eq_false hx
   rw [d1] at X
   go_enter Tryd.func27,Tryd.ntmps27
   go_wp2_with fail
   refine PL.out.mono ?_
   rintro e w' ⟨rfl,rfl⟩
   go_wp2
   go_ret
   exact ⟨by rw [X.out];cases y<;>rfl,rfl⟩
 ·rw [plI_not hl] at PL
  rw [decide_eq_false (p:=x≠0∧-(m.length:Int)≤x∧x≤m.length) hl,Bool.false_and] at X
  clear hl h hat hcm
  go_enter Tryd.func27,Tryd.ntmps27
  go_wp2_with fail
  refine PL.out.mono ?_
  rintro e w' ⟨rfl,rfl⟩
  go_wp2
  go_ret
  exact ⟨by rw [X.out];try rfl,rfl⟩
def holB (m:List Bool) (l:List (List Int)):Bool:=l.all fun c=>c.any (trB m)
set_option maxHeartbeats 4000000 in
theorem hold12_any (A Am:Option Addr) (nl cl nm cm:Nat) (l:List (List Int)) (m:List Bool) (w:World) (h:rdIss w (lt_ w.heap.size) l [.slice A nl cl]) (hm:rdBoos w (lt_ w.heap.size) m [.slice Am nm cm]) (hn:m.length≤1000000) :
  Calls Tryd.prog 14 #[.slice A nl cl,.slice Am nm cm] w fun e w'=>e=.returned (.bool (holB m l))∧Below w.heap.size w w':=by
 obtain ⟨rfl,hmc,hmm,_⟩:=rdBoos_at hm
 obtain ⟨V,hV⟩:∃V,V=w.alloc (.cells #[.slice Am m.length cm] 31):=⟨_,rfl⟩
 have b1:Below w.heap.size w V:=by rw [hV];exact (Below.refl _ w).alloc (Nat.le_refl _) _
 have d1:V.cell? ⟨w.heap.size,0,none⟩=some (.slice Am m.length cm):=by rw [hV];simp [go_sem]
 obtain ⟨rfl,hnc,hcm,_⟩:=rdIss_at h
 have hcm':cl≤9223372036854775807:=hcm
 have HB:=Lib.hid b1
 have HA:=Lib.hid (rdIss_at (rdIss_good.below h b1)).2.2.2
 have KC:=Lib.hid (fun (x:Int)=>hcl12_any w.heap.size x m Am cm _ V hn d1 (rdBoos_good.below hm b1))
 have KF:=Lib.hid (fun (A:Option Addr) (k c:Nat) (q:List Int) (hq:rdInts V (lt_ w.heap.size) q [.slice A k c])=>contF_any 27 #[.pointer (some ⟨w.heap.size,0,none⟩)] (trB m) A k c q _ V (fun _ _=>by kernel_rfl) hq (fun x=>KC.out x))
 have X:=Lib.hid (show holB m l=l.all (fun c=>c.any (trB m)) from rfl)
 clear h hm hcm b1 hmm
 generalize holB m l=bb at *
 go_enter Tryd.func14,Tryd.ntmps14
 go_upto_region 1 with fail
 rw [←hV]
 clear hV
 go_wp2
 go_loopw [11] (fun i wr=>∃k:Nat,k≤l.length∧i=.int .i64 k∧Hid ((l.take k).all (fun c=>c.any (trB m))=true)∧V=wr) (fun i _=>l.length - (intOf i).toNat)
 case atStart=>exact ⟨0,Nat.zero_le _,rfl,Lib.hid rfl,rfl⟩
 case round=>
  obtain ⟨k,hk,rfl,H1,rfl⟩:=hrel
  by_cases hlt:k < l.length
  ·obtain ⟨ad,rfl,had,A2,c2,g0,g1⟩:=HA.out k hlt
   have CL:=Lib.hid (KF.out _ _ _ _ g1)
   have i0:(0:Int)≤(k:Int):=by omega
   have i1:(k:Int) < (l.length:Int):=by omega
   have TK:=Lib.hid (show (l.take (k+1)).all (fun c=>c.any (trB m))=l[k].any (trB m) by rw [List.take_succ_eq_append_getElem hlt,List.all_append,H1.out,Bool.true_and,List.all_cons,List.all_nil,Bool.and_true])
   have AL:=Lib.hid (show l[k].any (trB m)=false→l.all (fun c=>c.any (trB m))=false from fun q=>by rw [List.all_eq_false];exact ⟨_,List.getElem_mem hlt,by rw [q];decide⟩)
   clear had g1
   generalize l[k].any (trB m)=aa at *
   generalize l[k].length=ln at *
   cases aa
   ·have O2:=Lib.hid (AL.out rfl)
    clear AL TK
    go_wp2_with fail
    refine CL.out.mono ?_
    rintro e w' ⟨rfl,rfl⟩
    go_wp2
    go_ret
    exact ⟨by rw [X.out,O2.out];try rfl,HB.out⟩
   ·have T2:=Lib.hid TK.out
    clear AL TK
    go_wp2_with fail
    refine CL.out.mono ?_
    rintro e w' ⟨rfl,rfl⟩
    go_wp2
    go_roundw
    case rel=>exact ⟨k+1,by omega,by go_num,T2,by first|rfl|trivial⟩
    case measure=>simp [intOf]<;>omega
  ·have O2:=Lib.hid (show l.all (fun c=>c.any (trB m))=true by have:=H1.out;rwa [List.take_of_length_le (by omega)] at this)
   go_wp2
   go_ret
   exact ⟨by rw [X.out,O2.out];try rfl,HB.out⟩
def mdl (m n:Nat):List Bool:=(List.range n).map fun i=>decide (m / 2 ^ i % 2=1)
theorem mdl_len (m n:Nat):(mdl m n).length=n:=by unfold mdl;rw [List.length_map,List.length_range]
theorem mdl_go (m n:Nat):mdl m (n+1)=mdl m n++[decide (m / 2 ^ n % 2=1)]:=by unfold mdl;rw [List.range_succ,List.map_append];rfl
theorem boo12_info:(Tryd.prog.info? 4).map (fun i=>(i.zero,i.size,i.bytes))=some (some (.bool false),1,1):=by kernel_rfl
set_option maxHeartbeats 4000000 in
theorem mod12_any (m n:Nat) (w:World) (hm:m≤1000000) (hn:n≤1000) :
  Calls Tryd.prog 13 #[.int .i64 m,.int .i64 n] w fun e w'=>(∃A c,e=.returned (.slice A n c)∧rdBoos w' (lt_ w'.heap.size) (mdl m n) [.slice A n c])∧Below w.heap.size w w':=by
 obtain ⟨fi,hi,hz0,hz1,hz2⟩:=info_parts boo12_info
 have NIL:=Lib.hid (Grow.nil (E:=rdBoo) (sz:=1) (fun _=>False) w w.heap.size 4)
 have START:=Lib.hid (show m=m / 2 ^ 0 by simp)
 have GO:=Lib.hid (mdl_go m)
 have LN:=Lib.hid (mdl_len m)
 have QL:∀i,m / 2 ^ i≤m:=fun i=>Nat.div_le_self _ _
 have QN:=Lib.hid (show ∀i,m / 2 ^ i / 2=m / 2 ^ (i+1) from fun i=>by rw [Nat.div_div_eq_div_mul,Nat.pow_succ])
 go_enter Tryd.func13,Tryd.ntmps13
 go_wp2
 go_loopw [0,5,6] (fun a v i wr=>∃(t:Nat) (q:Nat),t≤n∧i=.int .i64 t∧a=.int .i64 q∧Hid (q=m / 2 ^ t)∧Grow rdBoo 1 (fun _=>False) wr w.heap.size 4 v (mdl m t)∧Below w.heap.size w wr) (fun _ _ i _=>n - (intOf i).toNat)
 case atStart=>exact ⟨0,m,Nat.zero_le _,rfl,rfl,START,NIL.out,Below.refl _ _⟩
 case round=>
  clear NIL START
  obtain ⟨t,q,ht,rfl,rfl,HQ,hG,hbel⟩:=hrel
  have HB:=Lib.hid hbel
  by_cases hlt:t < n
  ·have i1:(t:Int) < (n:Int):=by omega
   have hq:q≤1000000:=by have:=QL t;rw [←HQ.out] at this;omega
   have r1:(q:Int).tmod 2=((q % 2:Nat):Int):=by rw [Int.tmod_eq_emod_of_nonneg (by omega)];omega
   have r2:(q:Int) % 2=((q % 2:Nat):Int):=by omega
   have r3:(q:Int).tdiv 2=((q / 2:Nat):Int):=by rw [Int.tdiv_eq_ediv_of_nonneg (by omega)];omega
   have r4:(q:Int) / 2=((q / 2:Nat):Int):=by omega
   have r5:IntKind.i64.wrap ((q / 2:Nat):Int)=((q / 2:Nat):Int):=by rw [IntKind.wrap_i64];omega
   have r6:IntKind.i64.wrap ((q % 2:Nat):Int)=((q % 2:Nat):Int):=by rw [IntKind.wrap_i64];omega
   have r7:(((q % 2:Nat):Int)==1)=decide (q % 2=1):=by
    by_cases c:q % 2=1
    ·rw [c];rfl
    ·rw [decide_eq_false c,beq_eq_false_iff_ne];omega
   have G1:=Lib.hid (GO.out t)
   rw [←HQ.out] at G1
   have Q2:=Lib.hid (show q / 2=m / 2 ^ (t+1) by rw [HQ.out];exact QN.out t)
   generalize hbv:decide (q % 2=1)=bv at *
   generalize q % 2=qm at *
   generalize q / 2=qd at *
   have hE:=(show rdBoo wr (fun b=>False∧b < wr.heap.size∧u5.ownBlock≠some b) bv (#[Value.bool bv]:Array Value).toList from rfl)
   have hl2:=LN.out t
   have hn1:(mdl m t).length+1≤maxLen:=by unfold maxLen;omega
   have hn2:((mdl m t).length+1)*1≤140737488355328:=by omega
   have hbs:=hbel.size
   clear hbel hl2 hbv HQ QL
   go_wp2_with (at_builtin;refine wpList_grow1 wr rfl _ _ 31 rfl rdBoo_good (by decide) (fun _=>False) w.heap.size 4 fi _ 1 Tryd.underlying31 hi hz0 hz1 hz2 rfl u5 _ rfl hG _ _ 4 hE _ rfl rfl hn1 hn2 hbs ?_)
   intro v' w' hG' hgr
   have HB':=Lib.hid (grow_below hG hgr HB.out (Nat.le_refl _) hbs)
   clear hG hgr hE
   go_wp2
   go_roundw
   case rel=>exact ⟨t+1,qd,by omega,by go_num,rfl,Q2,by rw [G1.out];exact hG',HB'.out⟩
   case measure=>simp [intOf]<;>omega
  ·obtain rfl:t=n:=by omega
   have hR:=hG.read rdBoo_good
   obtain ⟨A3,cp3,rfl,_,_⟩:=hG.own
   rw [LN.out t] at hR ⊢
   have HR:=Lib.hid hR
   clear hR hG hbel
   go_wp2
   go_ret
   exact ⟨⟨_,_,rfl,HR.out⟩,HB.out⟩
end Go.Proofs.YtgjlgdpbmhdnbaaDoor
namespace Go.Proofs.YtgjlgdpbmhdnbaaDoor
theorem unA_len {n:Int} {l:List (List Int)} {g a:List Int} {ok:Bool} (h:UnA n l g a ok):a.length≤20000:=by
 rcases h with ⟨_,rfl,_⟩|⟨ho,h⟩
 ·exact Nat.zero_le _
 ·rcases h with ⟨_,rfl,_⟩|⟨_,_,hl,_,_⟩
  ·exact Nat.zero_le _
  ·have:=okF_spec ho;omega
end Go.Proofs.YtgjlgdpbmhdnbaaDoor
namespace Go.Proofs.YtgjlgdpbmhdnbaaDoor
open Go.RowKit Go.WideShapes Go.ChangeShapes Go.ChangeAt Go.WideMaps Go.WideElems Go.Joins Go.Deep
section
variable {H:Type} {enc:TypeId × Value→H} {W:World}
theorem cells12_ints:Tryd.prog.cellsOf 23=1:=by kernel_rfl
theorem open12_ints_trod {base n:Nat} {sp:Nat→Bool} {held:Bool} {cs:List Value} {y:DataW H × List MemPlace} (h:DataW.trod enc Tryd.prog W base sp held n 23 cs=some y) :
  ∃A len c l,cs=[.slice A len c]∧rdInts W (lt_ W.heap.size) l [.slice A len c]∧(∀x ∈ l,(Lit.int .i64 x).wf=true):=by
 rcases open_ints Tryd.underlying23 Tryd.underlying3 (by kernel_rfl) h with ⟨rfl,hx⟩|⟨a,len,cap,zs,rfl,_,hl,hm,hz,hx,hcell,hwz⟩
 ·exact ⟨none,0,0,[],rfl,rdRow_nil _ _,by simp⟩
 ·have hlz:len≤zs.length:=by rw [hz];split<;>omega
  refine ⟨some a,len,cap,zs.take len,rfl,⟨some a,cap,by rw [List.length_take,Nat.min_eq_left hlz],by rw [List.length_take];omega,hm,fun k hk=>?_⟩,fun x hx=>hwz x (List.mem_of_mem_take hx)⟩
  rw [List.length_take,Nat.min_eq_left hlz] at hk
  have hc:=hcell k (by omega)
  have hb:=World.block_lt_of_cell? W (a.add k) hc
  rw [blk_add] at hb
  refine ⟨a,[.int .i64 (zs.take len)[k]],rfl,hb,rfl,rfl,fun j u hu=>?_⟩
  have hj:j=0:=by have:=(List.getElem?_eq_some_iff.1 hu).1;simpa using this
  subst hj
  simp only [List.getElem?_cons_zero,Option.some.injEq] at hu
  rw [←hu,List.getElem_take,Nat.mul_one,Nat.add_zero,hc]
  simp [List.getElem?_eq_getElem (show k < zs.length by omega)]
theorem open12_ints_arg {v:Value} {d:DataW H} {p:List MemPlace} {base:Nat} (hv:Value.okWide Tryd.prog W .any base 23 v) (h:DataW.Trod enc Tryd.prog W 0 (fun _=>true) true 23 v d p) :
  ∃A n c l,v=.slice A n c∧rdInts W (lt_ W.heap.size) l [.slice A n c]∧(∀x ∈ l,(Lit.int .i64 x).wf=true):=by
 obtain ⟨a0,len,cap,rfl⟩:=okWide_slice Tryd.underlying23 hv
 obtain ⟨fuel,hf⟩:=h
 obtain ⟨A,n,c,l,hcs,h1,h2⟩:=open12_ints_trod hf
 simp [Value.cells] at hcs
 obtain ⟨rfl,rfl,rfl⟩:=hcs
 exact ⟨a0,len,cap,l,rfl,h1,h2⟩
theorem open12_iss_arg {v:Value} {d:DataW H} {p:List MemPlace} {base:Nat} (hv:Value.okWide Tryd.prog W .any base 22 v) (h:DataW.Trod enc Tryd.prog W 0 (fun _=>true) true 22 v d p) :
  ∃A n c L,v=.slice A n c∧rdIss W (lt_ W.heap.size) L [.slice A n c]∧(∀g ∈ L,∀x ∈ g,(Lit.int .i64 x).wf=true):=by
 obtain ⟨a0,len0,cap0,rfl⟩:=okWide_slice Tryd.underlying22 hv
 obtain ⟨fuel,hf⟩:=h
 rcases open_slice Tryd.underlying22 hf with ⟨hcs,_⟩|⟨a,len,cap,m,k,D,Pl,hcs,hb,hl,hm,hmm,_,hx⟩
 ·simp [Value.cells] at hcs
  obtain ⟨rfl,rfl,rfl⟩:=hcs
  exact ⟨none,0,0,[],rfl,rdRow_nil _ _,by simp⟩
 ·simp [Value.cells] at hcs
  obtain ⟨rfl,rfl,rfl⟩:=hcs
  have hlm:len0≤m:=by rw [hmm];split<;>omega
  have hat:∀i,i < len0→∃(g:List Int) (u:Value),(∀x ∈ g,(Lit.int .i64 x).wf=true)∧a.block < W.heap.size∧rdInts W (lt_ W.heap.size) g [u]∧W.cell? (a.add (i*1+0))=some u:=by
   intro i hi
   obtain ⟨cs',hc,ht'⟩:=hx i (by omega)
   rw [cells12_ints] at hc
   obtain ⟨A,n,c,l,rfl,h1,h2⟩:=open12_ints_trod ht'
   obtain ⟨_,hcl,hcell⟩:=World.cells?_some hc
   have h0:=hcell 0 (by omega)
   have hadd:((a.add (i*1)).add 0)=a.add (i*1+0):=by unfold Addr.add;simp
   rw [hadd] at h0
   have hb':=World.block_lt_of_cell? W (a.add (i*1+0)) h0
   rw [blk_add] at hb'
   exact ⟨l,_,h2,hb',h1,h0⟩
  refine ⟨some a,len0,cap0,List.ofFn fun i:Fin len0=>Classical.choose (hat i.1 i.2),rfl,⟨some a,cap0,by simp,by simpa using hl,hm,fun i hi=>?_⟩,fun g hg=>?_⟩
  ·simp only [List.length_ofFn] at hi
   have hs:=Classical.choose_spec (Classical.choose_spec (hat i hi))
   refine ⟨a,[Classical.choose (Classical.choose_spec (hat i hi))],rfl,hs.2.1,?_,rfl,fun j u hu=>?_⟩
   ·rw [List.getElem_ofFn];exact hs.2.2.1
   ·have hj:j=0:=by have:=(List.getElem?_eq_some_iff.1 hu).1;simpa using this
    subst hj
    simp only [List.getElem?_cons_zero,Option.some.injEq] at hu
    rw [←hu];exact hs.2.2.2
  ·obtain ⟨i,hi⟩:=List.mem_ofFn.1 hg
   rw [←hi];exact (Classical.choose_spec (Classical.choose_spec (hat i.1 i.2))).1
end
end Go.Proofs.YtgjlgdpbmhdnbaaDoor
namespace Go.Proofs.YtgjlgdpbmhdnbaaDoor
open Go.RowKit Go.WideShapes Go.ChangeShapes Go.ChangeAt
section
variable {H:Type} {enc:TypeId × Value→H} {P:Program}
end
theorem laid_out:laidOutB Tryd.prog=true:=by kernel_rfl
section
variable {H:Type} {enc:TypeId × Value→H} {P:Program}
theorem trodAll_below {W W':World} (hl:laidOutB P=true) (hb:Below W.heap.size W W'):∀{ts:List TypeId} {vs:List Value} {ds:List (DataW H)} {ps:List MemPlace},(∀t ∈ ts,P.readableRec t=true∧t < P.types.size)→
  DataW.TrodAll enc P W 0 (fun _=>true) true ts vs ds ps→(∀x ∈ ps,x.block < W.heap.size)→DataW.TrodAll enc P W' 0 (fun b=>decide (b < W.heap.size)) true ts vs ds ps
 | [],[],[],_,_,h,_=>h
 | t::ts,v::vs,d::ds,ps,hts,h,hlt=>by
  obtain ⟨p,q,h1,h2,rfl⟩:=h
  refine ⟨p,q,Below.trod hl (hts t (by simp)).1 (hts t (by simp)).2 h1 hb (fun x hx=>hlt x (by simp [hx])),trodAll_below hl hb (fun t ht=>hts t (by simp [ht])) h2 (fun x hx=>hlt x (by simp [hx])),rfl⟩
 | [],[],_::_,_,_,h,_=>h.elim
 | [],_::_,_,_,_,h,_=>h.elim
 | _::_,[],_,_,_,h,_=>h.elim
 | _::_,_::_,[],_,_,h,_=>h.elim
theorem law_post {f:Func} {s:ChangeSpec} {W W':World} {args:Array Value} {ds gs:List (DataW H)} {before:List MemPlace} {b:TypeId} {apart:Bool}
  (hW:DataW.Whole enc P f.params.toList s.vars apart W args.toList ds gs before) (hv:s.vars=[])
  (h1:(s.fn H ds).results=[.lit (.bool true)]) (h2:(s.fn H ds).args=ds) (h3:(s.fn H ds).vars=[])
  (hrt:f.resultTypes=#[b]) (hbool:P.underlying b=some .bool) (hl:laidOutB P=true) (hts:∀t ∈ f.params.toList,P.readableRec t=true∧t < P.types.size)
  (hb:Below W.heap.size W W'):s.post enc P f apart true false false W args (.bool true) W':=by
 have hW':=hW
 have hlt0:=hW.lt
 obtain ⟨p,q,hA,hV,rfl,hz,hn⟩:=hW
 rw [hv] at hV
 obtain ⟨rfl,rfl⟩:=trodVars_none hV
 refine ⟨ds,[],p++[],[],p,[],hW',?_,?_,?_,hb.frame _,fun h=>by cases h⟩
 ·rw [List.append_nil,h1,hrt]
  exact trodAll_cons_mk (shut_bool hbool _) trodAll_mk0
 ·rw [List.append_nil,h2]
  exact trodAll_below hl hb hts hA (fun x hx=>hlt0 x (by simp [hx]))
 ·rw [hv,List.append_nil,h3];rfl
end
end Go.Proofs.YtgjlgdpbmhdnbaaDoor
