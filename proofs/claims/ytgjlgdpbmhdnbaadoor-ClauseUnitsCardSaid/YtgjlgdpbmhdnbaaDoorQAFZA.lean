/- What the laws rest on: N12k, E12f, E12g. -/
import Derived.Deep.LoopGhost
import Derived.Shelf.SlSortCmp.Kit1
import Derived.Test.YtgjlgdpbmhdnbaaDoorQAEZA
set_option maxRecDepth 100000
set_option linter.unusedVariables false
set_option linter.unusedSimpArgs false
namespace Go.Proofs.YtgjlgdpbmhdnbaaDoor
open Go.RowKit
def swL (d:List Int) (i j:Nat):List Int:=(d.set i d[j]!).set j d[i]!
theorem swL_len (d:List Int) (i j:Nat):(swL d i j).length=d.length:=by unfold swL;rw [List.length_set,List.length_set]
def insI (a:Nat):Nat→List Int × Bool→List Int × Bool
 | 0,s=>s
 | j+1,s=>if a < j+1 then (if cfT s.1[j+1]! s.1[j]! < 0 then insI a j (swL s.1 (j+1) j,s.2||bfT s.1[j+1]! s.1[j]!) else (s.1,s.2||bfT s.1[j+1]! s.1[j]!)) else s
def insO (a:Nat):Nat→Nat→List Int × Bool→List Int × Bool
 | 0,_,s=>s
 | k+1,i,s=>insO a k (i+1) (insI a i s)
theorem insI_len (a:Nat):∀(j:Nat) (s:List Int × Bool),(insI a j s).1.length=s.1.length
 | 0,s=>rfl
 | j+1,s=>by
  unfold insI
  split
  ·split
   ·rw [insI_len a j];exact swL_len _ _ _
   ·rfl
  ·rfl
theorem insI_stop {a j:Nat} {s:List Int × Bool} (h:¬a < j):insI a j s=s:=by
 cases j with
 | zero=>rfl
 | succ j=>unfold insI;rw [if_neg h]
theorem insI_go {a j:Nat} {s:List Int × Bool} (h:a < j+1):insI a (j+1) s=if cfT s.1[j+1]! s.1[j]! < 0 then insI a j (swL s.1 (j+1) j,s.2||bfT s.1[j+1]! s.1[j]!) else (s.1,s.2||bfT s.1[j+1]! s.1[j]!):=by
 rw [insI,if_pos h]
theorem insO_go {a b i:Nat} {s:List Int × Bool} (h:i < b):insO a (b - i) i s=insO a (b - (i+1)) (i+1) (insI a i s):=by
 rw [show b - i=(b - (i+1))+1 by omega,insO]
section
variable {w0 w:World} {N0 blk fb:Nat} {tail:List Value} {d:List Int} {f:Bool}
theorem SrtW.swap (h:SrtW w0 N0 blk fb tail d f w) {i j:Nat} (hi:i < d.length) (hj:j < d.length):SrtW w0 N0 blk fb tail (swL d i j) f ((w.setCell ⟨blk,i,none⟩ (.int .i64 d[j]!)).setCell ⟨blk,j,none⟩ (.int .i64 d[i]!)).drew:=((h.put hi _).put (by rw [List.length_set];exact hj) _).drew
theorem SrtW.swcell (h:SrtW w0 N0 blk fb tail d f w) {i j:Nat} (hi:i < d.length) (hj:j < d.length) (x:Int):∃u,(w.setCell ⟨blk,i,none⟩ (.int .i64 x)).cell? ⟨blk,j,none⟩=some u:=⟨_,(h.put hi x).cell (by rw [List.length_set];exact hj)⟩
theorem SrtW.swSup (h:SrtW w0 N0 blk fb tail d f w) {w1:World} (k:Sup N0 w1 w) (i j:Nat) (u v:Value):Sup N0 w1 ((w.setCell ⟨blk,i,none⟩ u).setCell ⟨blk,j,none⟩ v).drew:=Sup.drew ((k.trans (Sup.set h.bn)).trans (Sup.set h.bn))
end
set_option maxHeartbeats 16000000 in
theorem ins12_any {w0 w:World} {N0 blk fb:Nat} {tail:List Value} {d:List Int} {f:Bool} (h:SrtW w0 N0 blk fb tail d f w) {n cap a b:Nat} (hn:d.length=n) (hn2:n≤1000000) (hc:n≤cap) (hcm:cap≤maxLen) (hb:b≤n) (ha:a≤b) :
  Calls Tryd.prog 53 #[.slice (some ⟨blk,0,none⟩) n cap,.int .i64 a,.int .i64 b,.func (.func 32) #[] #[.pointer (some ⟨fb,0,none⟩)]] w fun e w'=>
   e=.returned (.tuple #[])∧SrtW w0 N0 blk fb tail (insO a (b - (a+1)) (a+1) (d,f)).1 (insO a (b - (a+1)) (a+1) (d,f)).2 w'∧Sup N0 w w':=by
 have hcm':cap≤9223372036854775807:=hcm
 have mixed:Tryd.prog.follows .mixedOrders=true:=by kernel_rfl
 have eg:∀(args:Array Value) (w:World),(callFunc 32 args).run Tryd.prog w=.ok (.enter 32 args) w:=fun _ _=>by kernel_rfl
 have START:=Lib.hid (show ∃s:List Int × Bool,SrtW w0 N0 blk fb tail s.1 s.2 w∧Sup N0 w w∧s.1.length=n∧insO a (b - (a+1)) (a+1) s=insO a (b - (a+1)) (a+1) (d,f) from ⟨(d,f),h,Sup.refl _ _,hn,rfl⟩)
 generalize insO a (b - (a+1)) (a+1) (d,f)=RES at *
 clear h hn
 go_enter Tryd.func53,Tryd.ntmps53
 go_wp2
 go_loopg [8] (b+1) (fun gm v wr=>∃i:Nat,v=.int .i64 i∧a < i∧i≤b+1∧b+1 - i≤gm∧Hid (∃s:List Int × Bool,SrtW w0 N0 blk fb tail s.1 s.2 wr∧Sup N0 w wr∧s.1.length=n∧insO a (b - i) i s=RES))
 case atStart=>exact ⟨a+1,by go_num,by omega,by omega,by omega,START⟩
 case round=>
  clear START
  obtain ⟨i,rfl,hai,hib,hgm,H1⟩:=hrel
  by_cases hlt:i < b
  ·have hltz:(i:Int) < (b:Int):=by omega
   have START:=Lib.hid (show ∃s:List Int × Bool,SrtW w0 N0 blk fb tail s.1 s.2 wr∧Sup N0 w wr∧s.1.length=n∧insO a (b - (i+1)) (i+1) (insI a i s)=RES from by
    obtain ⟨s,a1,a2,a3,a4⟩:=H1.out
    exact ⟨s,a1,a2,a3,by rw [←a4,insO_go hlt]⟩)
   clear H1
   go_wp2
   go_loopg [9] i (fun g2 v wr2=>∃j:Nat,v=.int .i64 j∧a≤j∧j≤i∧j≤g2∧Hid (∃s:List Int × Bool,SrtW w0 N0 blk fb tail s.1 s.2 wr2∧Sup N0 w wr2∧s.1.length=n∧insO a (b - (i+1)) (i+1) (insI a j s)=RES))
   case atStart=>exact ⟨i,rfl,by omega,Nat.le_refl _,Nat.le_refl _,START⟩
   case round=>
    clear START
    obtain ⟨j,rfl,haj,hji,hg2,H2⟩:=hrel
    by_cases hja:a < j
    ·have hjaz:(a:Int) < (j:Int):=by omega
     have hjd:decide ((a:Int) < (j:Int))=true:=decide_eq_true hjaz
     obtain ⟨q,hq⟩:∃q,j=q+1:=⟨j - 1,by omega⟩
     have ej:(j:Int) - 1=(q:Int):=by omega
     have ew:IntKind.i64.wrap ((j:Int) - 1)=(q:Int):=by rw [IntKind.wrap_i64];omega
     have ew2:IntKind.i64.wrap (q:Int)=(q:Int):=by rw [IntKind.wrap_i64];omega
     have q0:(0:Int)≤(q:Int):=by omega
     have q1:(q:Int) < (n:Int):=by omega
     have j0:(0:Int)≤(j:Int):=by omega
     have j1:(j:Int) < (n:Int):=by omega
     obtain ⟨s,S1,P1,L1,R1⟩:=H2.out
     have hjl:j < s.1.length:=by omega
     have hql:q < s.1.length:=by omega
     have cj:=S1.cell hjl
     have cq:=S1.cell hql
     have KC:=Lib.hid (tidyC_any S1.drew s.1[j]! s.1[q]!)
     have GO:=Lib.hid (show insI a j s=if cfT s.1[j]! s.1[q]! < 0 then insI a q (swL s.1 j q,s.2||bfT s.1[j]! s.1[q]!) else (s.1,s.2||bfT s.1[j]! s.1[q]!) by rw [hq];exact insI_go (by omega))
     have SW:=Lib.hid (fun (w2:World) (f2:Bool) (hs:SrtW w0 N0 blk fb tail s.1 f2 w2)=>(show SrtW w0 N0 blk fb tail (swL s.1 j q) f2 ((w2.setCell ⟨blk,j,none⟩ (.int .i64 s.1[q]!)).setCell ⟨blk,q,none⟩ (.int .i64 s.1[j]!)).drew∧(w2.cell? ⟨blk,j,none⟩=some (.int .i64 s.1[j]!)∧w2.cell? ⟨blk,q,none⟩=some (.int .i64 s.1[q]!)∧w2.frozen? ⟨blk,j,none⟩=false∧w2.frozen? ⟨blk,q,none⟩=false∧∃u,(w2.setCell ⟨blk,j,none⟩ (.int .i64 s.1[q]!)).cell? ⟨blk,q,none⟩=some u) from ⟨hs.swap hjl hql,hs.cell hjl,hs.cell hql,hs.fz j,hs.fz q,hs.swcell hjl hql _⟩))
     have P1':=Lib.hid (Sup.drew P1)
     have LL:=Lib.hid L1
     have RR:=Lib.hid R1
     have SL:=Lib.hid (swL_len s.1 j q)
     have hqj:q < j:=by omega
     have hqa:a≤q:=by omega
     clear H2 S1 P1 L1 R1 hjl hql hq
     generalize hx:s.1[j]! = x at *
     generalize hy:s.1[q]! = y at *
     generalize hcv:cfT x y=cv at *
     clear hx hy hcv
     go_wp2_with fail
     refine wp_region_noPanic ?_
     refine wp_region_L (fun W=>W.cell? ⟨blk,j,none⟩=some (.int .i64 x)∧W.cell? ⟨blk,q,none⟩=some (.int .i64 y)) 16 (by kernel_rfl) ⟨cj,cq⟩ (fun hHeld=>?_)
     refine wpAnyL_take (i:=0) (v:=?_) [3,2] rfl (by kernel_rfl) (by kernel_rfl) (by kernel_rfl) (fun _ _ _ h=>h) (by kernel_rfl) (by kernel_rfl) (by kernel_rfl) (Or.inl ⟨by rfl,?_⟩) (by assumption) ?_
     rotate_left
     ·intro w hSw
      try dsimp only at hSw
      go_simp
      first|done|with_reducible rfl
     try simp only [Act.put,List.getElem_toArray,List.getElem_cons_zero,List.getElem_cons_succ,List.setIfInBounds_toArray,List.set_cons_zero,List.set_cons_succ]
     refine wpAnyL_take (i:=1) (v:=?_) [3,2] rfl (by kernel_rfl) (by kernel_rfl) (by kernel_rfl) (fun _ _ _ h=>h) (by kernel_rfl) (by kernel_rfl) (by kernel_rfl) (Or.inl ⟨by rfl,?_⟩) (by assumption) ?_
     rotate_left
     ·intro w hSw
      try dsimp only at hSw
      go_simp
      first|done|with_reducible rfl
     try simp only [Act.put,List.getElem_toArray,List.getElem_cons_zero,List.getElem_cons_succ,List.setIfInBounds_toArray,List.set_cons_zero,List.set_cons_succ]
     refine wpAnyL_take (i:=2) (v:=?_) [3] rfl (by kernel_rfl) (by kernel_rfl) (by kernel_rfl) (fun _ _ _ h=>h) (by kernel_rfl) (by kernel_rfl) (by kernel_rfl) (Or.inl ⟨by rfl,?_⟩) (by assumption) ?_
     rotate_left
     ·intro w hSw
      try dsimp only at hSw
      go_simp
      first|done|with_reducible rfl
     try simp only [Act.put,List.getElem_toArray,List.getElem_cons_zero,List.getElem_cons_succ,List.setIfInBounds_toArray,List.set_cons_zero,List.set_cons_succ]
     refine wpAnyL_take (i:=3) (v:=?_) [] rfl (by kernel_rfl) (by kernel_rfl) (by kernel_rfl) (fun _ _ _ h=>h) (by kernel_rfl) (by kernel_rfl) (by kernel_rfl) (Or.inl ⟨by rfl,?_⟩) (by assumption) ?_
     rotate_left
     ·intro w hSw
      try dsimp only at hSw
      go_simp
      first|done|with_reducible rfl
     try simp only [Act.put,List.getElem_toArray,List.getElem_cons_zero,List.getElem_cons_succ,List.setIfInBounds_toArray,List.set_cons_zero,List.set_cons_succ]
     refine wpAnyL_take (i:=4) (v:=?_) [15,14] rfl (by kernel_rfl) (by kernel_rfl) (by kernel_rfl) (fun _ _ _ h=>h) (by kernel_rfl) (by kernel_rfl) (by kernel_rfl) (Or.inl ⟨by rfl,?_⟩) (by assumption) ?_
     rotate_left
     ·intro w hSw
      try dsimp only at hSw
      go_simp
      first|done|with_reducible rfl
     try simp only [Act.put,List.getElem_toArray,List.getElem_cons_zero,List.getElem_cons_succ,List.setIfInBounds_toArray,List.set_cons_zero,List.set_cons_succ]
     refine wpAnyL_take (i:=5) (v:=?_) [15,14,8,7] rfl (by kernel_rfl) (by kernel_rfl) (by kernel_rfl) (fun _ _ _ h=>h) (by kernel_rfl) (by kernel_rfl) (by kernel_rfl) (Or.inl ⟨by rfl,?_⟩) (by assumption) ?_
     rotate_left
     ·intro w hSw
      try dsimp only at hSw
      go_simp
      first|done|with_reducible rfl
     try simp only [Act.put,List.getElem_toArray,List.getElem_cons_zero,List.getElem_cons_succ,List.setIfInBounds_toArray,List.set_cons_zero,List.set_cons_succ]
     refine wpAnyL_take (i:=6) (v:=?_) [15,14,8,7] rfl (by kernel_rfl) (by kernel_rfl) (by kernel_rfl) (fun _ _ _ h=>h) (by kernel_rfl) (by kernel_rfl) (by kernel_rfl) (Or.inl ⟨by rfl,?_⟩) (by assumption) ?_
     rotate_left
     ·intro w hSw
      try dsimp only at hSw
      go_simp
      first|done|with_reducible rfl
     try simp only [Act.put,List.getElem_toArray,List.getElem_cons_zero,List.getElem_cons_succ,List.setIfInBounds_toArray,List.set_cons_zero,List.set_cons_succ]
     refine wpAnyL_take (i:=7) (v:=?_) [15,14,8] rfl (by kernel_rfl) (by kernel_rfl) (by kernel_rfl) (fun _ _ _ h=>h) (by kernel_rfl) (by kernel_rfl) (by kernel_rfl) (Or.inl ⟨by rfl,?_⟩) (by assumption) ?_
     rotate_left
     ·intro w hSw
      try dsimp only at hSw
      go_simp
      first|done|with_reducible rfl
     try simp only [Act.put,List.getElem_toArray,List.getElem_cons_zero,List.getElem_cons_succ,List.setIfInBounds_toArray,List.set_cons_zero,List.set_cons_succ]
     refine wpAnyL_take (i:=8) (v:=?_) [15,14] rfl (by kernel_rfl) (by kernel_rfl) (by kernel_rfl) (fun _ _ _ h=>h) (by kernel_rfl) (by kernel_rfl) (by kernel_rfl) (Or.inl ⟨by rfl,?_⟩) (by assumption) ?_
     rotate_left
     ·intro w hSw
      try dsimp only at hSw
      go_simp
      first|done|with_reducible rfl
     try simp only [Act.put,List.getElem_toArray,List.getElem_cons_zero,List.getElem_cons_succ,List.setIfInBounds_toArray,List.set_cons_zero,List.set_cons_succ]
     refine wpAnyL_take (i:=9) (v:=?_) [15,14,13,12] rfl (by kernel_rfl) (by kernel_rfl) (by kernel_rfl) (fun _ _ _ h=>h) (by kernel_rfl) (by kernel_rfl) (by kernel_rfl) (Or.inl ⟨by rfl,?_⟩) (by assumption) ?_
     rotate_left
     ·intro w hSw
      try dsimp only at hSw
      go_simp
      first|done|with_reducible rfl
     try simp only [Act.put,List.getElem_toArray,List.getElem_cons_zero,List.getElem_cons_succ,List.setIfInBounds_toArray,List.set_cons_zero,List.set_cons_succ]
     refine wpAnyL_take (i:=10) (v:=?_) [15,14,13,12,11] rfl (by kernel_rfl) (by kernel_rfl) (by kernel_rfl) (fun _ _ _ h=>h) (by kernel_rfl) (by kernel_rfl) (by kernel_rfl) (Or.inl ⟨by rfl,?_⟩) (by assumption) ?_
     rotate_left
     ·intro w hSw
      try dsimp only at hSw
      go_simp
      first|done|with_reducible rfl
     try simp only [Act.put,List.getElem_toArray,List.getElem_cons_zero,List.getElem_cons_succ,List.setIfInBounds_toArray,List.set_cons_zero,List.set_cons_succ]
     refine wpAnyL_take (i:=11) (v:=?_) [15,14,13,12] rfl (by kernel_rfl) (by kernel_rfl) (by kernel_rfl) (fun _ _ _ h=>h) (by kernel_rfl) (by kernel_rfl) (by kernel_rfl) (Or.inl ⟨by rfl,?_⟩) (by assumption) ?_
     rotate_left
     ·intro w hSw
      try dsimp only at hSw
      go_simp
      first|done|with_reducible rfl
     try simp only [Act.put,List.getElem_toArray,List.getElem_cons_zero,List.getElem_cons_succ,List.setIfInBounds_toArray,List.set_cons_zero,List.set_cons_succ]
     refine wpAnyL_take (i:=12) (v:=?_) [15,14,13] rfl (by kernel_rfl) (by kernel_rfl) (by kernel_rfl) (fun _ _ _ h=>h) (by kernel_rfl) (by kernel_rfl) (by kernel_rfl) (Or.inl ⟨by rfl,?_⟩) (by assumption) ?_
     rotate_left
     ·intro w hSw
      try dsimp only at hSw
      go_simp
      first|done|with_reducible rfl
     try simp only [Act.put,List.getElem_toArray,List.getElem_cons_zero,List.getElem_cons_succ,List.setIfInBounds_toArray,List.set_cons_zero,List.set_cons_succ]
     refine wpAnyL_take (i:=13) (v:=?_) [15,14] rfl (by kernel_rfl) (by kernel_rfl) (by kernel_rfl) (fun _ _ _ h=>h) (by kernel_rfl) (by kernel_rfl) (by kernel_rfl) (Or.inl ⟨by rfl,?_⟩) (by assumption) ?_
     rotate_left
     ·intro w hSw
      try dsimp only at hSw
      go_simp
      first|done|with_reducible rfl
     try simp only [Act.put,List.getElem_toArray,List.getElem_cons_zero,List.getElem_cons_succ,List.setIfInBounds_toArray,List.set_cons_zero,List.set_cons_succ]
     refine wpAnyL_one (i:=14) (by kernel_rfl) rfl (fun K hK=>?_)
     go_simp
     refine KC.out.mono ?_
     rintro e w2 ⟨rfl,hs2,hp2⟩
     go_wp2_with fail
     refine hK.out _ _ ⟨(SW.out _ _ hs2).2.1,(SW.out _ _ hs2).2.2.1⟩ (fun hHeld=>?_)
     clear hK K
     try simp only [Act.put,List.getElem_toArray,List.getElem_cons_zero,List.getElem_cons_succ,List.setIfInBounds_toArray,List.set_cons_zero,List.set_cons_succ]
     refine wpAnyL_take (i:=15) (v:=?_) [] rfl (by kernel_rfl) (by kernel_rfl) (by kernel_rfl) (fun _ _ _ h=>h) (by kernel_rfl) (by kernel_rfl) (by kernel_rfl) (Or.inl ⟨by rfl,?_⟩) (by assumption) ?_
     rotate_left
     ·intro w hSw
      try dsimp only at hSw
      go_simp
      first|done|with_reducible rfl
     try simp only [Act.put,List.getElem_toArray,List.getElem_cons_zero,List.getElem_cons_succ,List.setIfInBounds_toArray,List.set_cons_zero,List.set_cons_succ]
     refine wpAnyL_last (by kernel_rfl) rfl (by kernel_rfl) (fun K hK=>?_)
     go_simp
     refine hK.out _ _ ?_
     clear hK K
     refine NoPanic.normal ?_
     clear KC cj cq
     by_cases hcv:cv < 0
     ·have d1:decide (cv < 0)=true:=decide_eq_true hcv
      obtain ⟨S3,c1,c2,f1,f2,u,c3⟩:=SW.out w2 _ hs2
      have NX:=Lib.hid (show ∃s:List Int × Bool,SrtW w0 N0 blk fb tail s.1 s.2 ((w2.setCell ⟨blk,j,none⟩ (.int .i64 y)).setCell ⟨blk,q,none⟩ (.int .i64 x)).drew∧Sup N0 w ((w2.setCell ⟨blk,j,none⟩ (.int .i64 y)).setCell ⟨blk,q,none⟩ (.int .i64 x)).drew∧s.1.length=n∧insO a (b - (i+1)) (i+1) (insI a q s)=RES from ⟨_,S3,hs2.swSup (P1'.out.trans hp2) _ _ _ _,SL.out.trans LL.out,by rw [←RR.out,GO.out,if_pos hcv]⟩)
      clear SW hs2 hp2 S3 GO RR LL SL P1'
      go_wp2_with fail
      go_big_region_o
      clear c1 c2 c3 f1 f2
      generalize ((w2.setCell ⟨blk,j,none⟩ (.int .i64 y)).setCell ⟨blk,q,none⟩ (.int .i64 x)).drew=w3 at *
      go_wp2
      go_roundg q
      case measure=>omega
      case rel=>exact ⟨q,by first|rfl|go_num,by omega,by omega,Nat.le_refl _,NX⟩
     ·have d1:decide (cv < 0)=false:=decide_eq_false hcv
      have NX:=Lib.hid (show ∃s:List Int × Bool,SrtW w0 N0 blk fb tail s.1 s.2 w2∧Sup N0 w w2∧s.1.length=n∧insO a (b - (i+1)) (i+1) s=RES from ⟨(s.1,s.2||bfT x y),hs2,P1'.out.trans hp2,LL.out,by rw [←RR.out,GO.out,if_neg hcv]⟩)
      clear SW hs2 hp2 GO RR LL SL P1'
      go_wp2
      go_roundg (b - i)
      case measure=>omega
      case rel=>exact ⟨i+1,by go_num,by omega,by omega,by omega,NX⟩
    ·have hjd:decide ((a:Int) < (j:Int))=false:=decide_eq_false (by omega)
     have hjn:¬(a:Int) < (j:Int):=by omega
     have NX:=Lib.hid (show ∃s:List Int × Bool,SrtW w0 N0 blk fb tail s.1 s.2 wr.drew∧Sup N0 w wr.drew∧s.1.length=n∧insO a (b - (i+1)) (i+1) s=RES from by
      obtain ⟨s,a1,a2,a3,a4⟩:=H2.out
      exact ⟨s,a1.drew,a2.drew,a3,by rw [insI_stop hja] at a4;exact a4⟩)
     clear H2
     go_wp2_with fail
     go_big_region_o
     generalize wr.drew=w2 at *
     go_wp2
     go_roundg (b - i)
     case measure=>omega
     case rel=>exact ⟨i+1,by go_num,by omega,by omega,by omega,NX⟩
  ·have PX:=Lib.hid (show SrtW w0 N0 blk fb tail RES.1 RES.2 wr∧Sup N0 w wr from by
    obtain ⟨s,a1,a2,a3,a4⟩:=H1.out
    rw [show b - i=0 by omega] at a4
    have a5:s=RES:=a4
    exact ⟨a5 ▸ a1,a2⟩)
   clear H1
   go_wp2
   go_end0
   exact ⟨rfl,PX.out⟩
def varI (x:Int):Int:=if x < 0∧x > -4611686018427387904 then -x else if 0 < x∧x < 4611686018427387904 then x else 0
theorem varI_lit {n:Nat} {x:Int} (h:litN n x) (hn:n≤20000):varI x=(plc x:Int)+1:=by
 obtain ⟨_,_,_⟩:=h
 unfold varI plc
 split
 ·omega
 ·split<;>omega
theorem varI_not {n:Nat} {x:Int} (h:¬litN n x) (hn:n≤20000):varI x < 1∨varI x > n:=by
 unfold litN at h
 unfold varI
 split
 ·omega
 ·split<;>omega
theorem var12_any (x:Int) (w:World):Calls Tryd.prog 42 #[.int .i64 x] w fun e w'=>e=.returned (.int .i64 (varI x))∧w=w':=by
 by_cases h1:x < 0
 ·have d1:decide (x < 0)=true:=decide_eq_true h1
  have n0:¬0 < x:=by omega
  have d0:decide (0 < x)=false:=decide_eq_false n0
  by_cases h2:x > -4611686018427387904
  ·have X:=Lib.hid (show varI x=-x by unfold varI;rw [if_pos ⟨h1,h2⟩])
   have d2:decide (-4611686018427387904 < x)=true:=decide_eq_true h2
   have hw:IntKind.i64.wrap (-x)=-x:=by rw [IntKind.wrap_i64];omega
   generalize varI x=v at *
   go_enter Tryd.func42,Tryd.ntmps42
   go_wp2
   go_ret
   exact ⟨by rw [X.out];try rfl,rfl⟩
  ·have X:=Lib.hid (show varI x=0 by unfold varI;rw [if_neg (fun q=>h2 q.2),if_neg (fun q=>n0 q.1)])
   have d2:decide (-4611686018427387904 < x)=false:=decide_eq_false h2
   generalize varI x=v at *
   go_enter Tryd.func42,Tryd.ntmps42
   go_wp2
   go_ret
   exact ⟨by rw [X.out];try rfl,rfl⟩
 ·have d1:decide (x < 0)=false:=decide_eq_false h1
  by_cases h3:0 < x
  ·have d3:decide (0 < x)=true:=decide_eq_true h3
   by_cases h2:x < 4611686018427387904
   ·have X:=Lib.hid (show varI x=x by unfold varI;rw [if_neg (fun q=>h1 q.1),if_pos ⟨h3,h2⟩])
    have d2:decide (x < 4611686018427387904)=true:=decide_eq_true h2
    generalize varI x=v at *
    go_enter Tryd.func42,Tryd.ntmps42
    go_wp2
    go_ret
    exact ⟨by rw [X.out];try rfl,rfl⟩
   ·have X:=Lib.hid (show varI x=0 by unfold varI;rw [if_neg (fun q=>h1 q.1),if_neg (fun q=>h2 q.2)])
    have d2:decide (x < 4611686018427387904)=false:=decide_eq_false h2
    generalize varI x=v at *
    go_enter Tryd.func42,Tryd.ntmps42
    go_wp2
    go_ret
    exact ⟨by rw [X.out];try rfl,rfl⟩
  ·have X:=Lib.hid (show varI x=0 by unfold varI;rw [if_neg (fun q=>h1 q.1),if_neg (fun q=>h3 q.1)])
   have d3:decide (0 < x)=false:=decide_eq_false h3
   generalize varI x=v at *
   go_enter Tryd.func42,Tryd.ntmps42
   go_wp2
   go_ret
   exact ⟨by rw [X.out];try rfl,rfl⟩
theorem lit12_any (A:Option Addr) (na ca:Nat) (a:List Int) (x:Int) (S:Nat→Prop) (w:World) (h:rdInts w S a [.slice A na ca]) (hb:a.length≤20000):Calls Tryd.prog 43 #[.int .i64 x,.slice A na ca] w fun e w'=>e=.returned (.int .i64 (tv a x))∧w=w':=by
 obtain ⟨hl,hlc,hcm,hat⟩:=rdInts_at h
 subst hl
 have hcm':ca≤9223372036854775807:=hcm
 have VA:=Lib.hid (var12_any x w)
 by_cases hx:litN a.length x
 ·have hp:=plc_lt hx
  obtain ⟨ad,rfl,-,hc⟩:=hat (plc x) hp
  have X:=Lib.hid (show tv a x=(a[plc x]).sign*x.sign by rw [tv_sgn hx,getElem!_pos a _ hp])
  rw [varI_lit hx hb] at VA
  have p0:¬(plc x:Int)+1 < 1:=by omega
  have p1:(0:Int)≤(plc x:Int):=by omega
  have p2:(plc x:Int) < (a.length:Int):=by omega
  have p3:¬(a.length:Int) < (plc x:Int)+1:=by omega
  have q0:decide ((plc x:Int)+1 < 1)=false:=decide_eq_false p0
  have q3:decide ((a.length:Int) < (plc x:Int)+1)=false:=decide_eq_false p3
  have hw:IntKind.i64.wrap ((plc x:Int)+1 - 1)=(plc x:Int):=by rw [IntKind.wrap_i64];omega
  have hw':IntKind.i64.wrap (plc x:Int)=(plc x:Int):=by rw [IntKind.wrap_i64];omega
  have h0x:=hx.1
  generalize a[plc x]=y at *
  clear h hat hx
  generalize plc x=p at *
  rcases Int.lt_trichotomy y 0 with hy|hy|hy
  ·have y0:(y==0)=false:=beq_eq_false_iff_ne.2 (by omega)
   have y1:decide (0 < y)=false:=decide_eq_false (by omega)
   have ny:¬0 < y:=by omega
   have y2:¬y=0:=by omega
   rcases Int.lt_or_gt_of_ne h0x with k|k
   ·have z1:decide (0 < x)=false:=decide_eq_false (by omega)
    have nx:¬0 < x:=by omega
    have V:=Lib.hid (show tv a x=1 by rw [X.out,Int.sign_eq_neg_one_of_neg hy,Int.sign_eq_neg_one_of_neg k];rfl)
    clear X hy k
    go_enter Tryd.func43,Tryd.ntmps43
    go_wp2_with (go_at_call 42;(with_reducible refine VA.out.mono ?_);rintro e w' ⟨rfl,rfl⟩)
    go_ret
    exact ⟨by rw [V.out];try rfl,rfl⟩
   ·have z1:decide (0 < x)=true:=decide_eq_true k
    have V:=Lib.hid (show tv a x=-1 by rw [X.out,Int.sign_eq_neg_one_of_neg hy,Int.sign_eq_one_of_pos k];rfl)
    clear X hy
    go_enter Tryd.func43,Tryd.ntmps43
    go_wp2_with (go_at_call 42;(with_reducible refine VA.out.mono ?_);rintro e w' ⟨rfl,rfl⟩)
    go_ret
    exact ⟨by rw [V.out];try rfl,rfl⟩
  ·have y0:(y==0)=true:=beq_iff_eq.2 hy
   have V:=Lib.hid (show tv a x=0 by rw [X.out,hy];exact Int.zero_mul _)
   have HY:=Lib.hid hy
   clear X hy
   go_enter Tryd.func43,Tryd.ntmps43
   go_wp2_with (go_at_call 42;(with_reducible refine VA.out.mono ?_);rintro e w' ⟨rfl,rfl⟩)
   go_ret
   exact ⟨by rw [V.out];try rfl,rfl⟩
  ·have y0:(y==0)=false:=beq_eq_false_iff_ne.2 (by omega)
   have y1:decide (0 < y)=true:=decide_eq_true hy
   have y2:¬y=0:=by omega
   rcases Int.lt_or_gt_of_ne h0x with k|k
   ·have z1:decide (0 < x)=false:=decide_eq_false (by omega)
    have nx:¬0 < x:=by omega
    have V:=Lib.hid (show tv a x=-1 by rw [X.out,Int.sign_eq_one_of_pos hy,Int.sign_eq_neg_one_of_neg k];rfl)
    clear X k
    go_enter Tryd.func43,Tryd.ntmps43
    go_wp2_with (go_at_call 42;(with_reducible refine VA.out.mono ?_);rintro e w' ⟨rfl,rfl⟩)
    go_ret
    exact ⟨by rw [V.out];try rfl,rfl⟩
   ·have z1:decide (0 < x)=true:=decide_eq_true k
    have V:=Lib.hid (show tv a x=1 by rw [X.out,Int.sign_eq_one_of_pos hy,Int.sign_eq_one_of_pos k];rfl)
    clear X
    go_enter Tryd.func43,Tryd.ntmps43
    go_wp2_with (go_at_call 42;(with_reducible refine VA.out.mono ?_);rintro e w' ⟨rfl,rfl⟩)
    go_ret
    exact ⟨by rw [V.out];try rfl,rfl⟩
 ·have V:=Lib.hid (tv_none hx)
  have hv:=varI_not hx hb
  clear hat h hx
  generalize varI x=v at *
  by_cases h1:v < 1
  ·have d1:decide (v < 1)=true:=decide_eq_true h1
   clear hv
   go_enter Tryd.func43,Tryd.ntmps43
   go_wp2_with (go_at_call 42;(with_reducible refine VA.out.mono ?_);rintro e w' ⟨rfl,rfl⟩)
   go_ret
   exact ⟨by rw [V.out];try rfl,rfl⟩
  ·have d1:decide (v < 1)=false:=decide_eq_false h1
   have h2:(a.length:Int) < v:=by omega
   have d2:decide ((a.length:Int) < v)=true:=decide_eq_true h2
   clear hv
   go_enter Tryd.func43,Tryd.ntmps43
   go_wp2_with (go_at_call 42;(with_reducible refine VA.out.mono ?_);rintro e w' ⟨rfl,rfl⟩)
   go_ret
   exact ⟨by rw [V.out];try rfl,rfl⟩
def vaI (a:List Int):List Int→Bool→Int
 | [],o=>if o=true then 0 else -1
 | x::r,o=>if 0 < tv a x then 1 else vaI a r (o||tv a x==0)
theorem vaI_neg {a:List Int}:∀{c:List Int} {o:Bool},vaI a c o < 0↔o=false∧∀y ∈ c,tv a y=-1
 | [],o=>by unfold vaI;cases o<;>simp
 | x::r,o=>by
  unfold vaI
  have h3:=tv_three a x
  by_cases h:0 < tv a x
  ·rw [if_pos h]
   constructor
   ·intro q;omega
   ·intro q;have:=q.2 x List.mem_cons_self;omega
  ·rw [if_neg h,vaI_neg (c:=r)]
   rcases h3 with k|k|k
   ·omega
   ·simp [k]
   ·simp [k]
theorem vaI_at {a l:List Int} {k:Nat} (hk:k < l.length) (o:Bool):(0 < tv a l[k]→vaI a (l.drop k) o=1)∧(¬0 < tv a l[k]→vaI a (l.drop k) o=vaI a (l.drop (k+1)) (o||tv a l[k]==0)):=by
 rw [List.drop_eq_getElem_cons hk]
 exact ⟨fun h=>by rw [vaI,if_pos h],fun h=>by rw [vaI,if_neg h]⟩
def laI (a:List Int):List Int→Int→Int
 | [],x=>x
 | y::r,x=>if 0 < tv a y∨(tv a y=0∧x≠0∧x≠y) then 0 else laI a r (if tv a y=0 then y else x)
theorem laI_at {a l:List Int} {k:Nat} (hk:k < l.length) (x:Int):((0 < tv a l[k]∨(tv a l[k]=0∧x≠0∧x≠l[k]))→laI a (l.drop k) x=0)∧(¬(0 < tv a l[k]∨(tv a l[k]=0∧x≠0∧x≠l[k]))→laI a (l.drop k) x=laI a (l.drop (k+1)) (if tv a l[k]=0 then l[k] else x)):=by
 rw [List.drop_eq_getElem_cons hk]
 exact ⟨fun h=>by rw [laI,if_pos h],fun h=>by rw [laI,if_neg h]⟩
theorem laI_some {a:List Int}:∀{c:List Int} {x:Int},laI a c x≠0→(∀y ∈ c,y≠0)→(x=0∨tv a x=0)→(tv a (laI a c x)=0∧(laI a c x=x∨laI a c x ∈ c))∧(x≠0→laI a c x=x)∧∀y ∈ c,y=laI a c x∨tv a y=-1
 | [],x,h,_,hx=>by
  rw [laI] at h ⊢
  exact ⟨⟨hx.resolve_left h,Or.inl rfl⟩,fun _=>rfl,fun y hy=>absurd hy List.not_mem_nil⟩
 | z::r,x,h,hc,hx=>by
  rw [laI] at h ⊢
  split at h
  ·exact absurd rfl h
  ·rename_i hn
   rw [if_neg hn]
   have h3:=tv_three a z
   by_cases hz:tv a z=0
   ·rw [if_pos hz] at h ⊢
    have hz0:=hc z List.mem_cons_self
    obtain ⟨⟨p1,p2⟩,p3,p4⟩:=laI_some (c:=r) (x:=z) h (fun y hy=>hc y (List.mem_cons_of_mem _ hy)) (Or.inr hz)
    have e:=p3 hz0
    refine ⟨⟨p1,Or.inr (by rw [e];exact List.mem_cons_self)⟩,fun hx0=>?_,fun y hy=>?_⟩
    ·rw [e]
     by_cases q:x=z
     ·exact q.symm
     ·exact absurd (Or.inr ⟨hz,hx0,q⟩) hn
    ·rcases List.mem_cons.1 hy with q|q
     ·exact Or.inl (q.trans e.symm)
     ·exact p4 y q
   ·rw [if_neg hz] at h ⊢
    obtain ⟨⟨p1,p2⟩,p3,p4⟩:=laI_some (c:=r) (x:=x) h (fun y hy=>hc y (List.mem_cons_of_mem _ hy)) hx
    refine ⟨⟨p1,p2.imp id (List.mem_cons_of_mem _)⟩,p3,fun y hy=>?_⟩
    rcases List.mem_cons.1 hy with q|q
    ·subst q
     exact Or.inr (by omega)
    ·exact p4 y q
theorem laI_none {a:List Int}:∀{c:List Int} {x:Int},laI a c x=0→(∀y ∈ c,y≠0)→(∃y ∈ c,tv a y=1)∨(x≠0∧∃y ∈ c,y≠x∧tv a y=0)∨(∃y ∈ c,∃z ∈ c,y≠z∧tv a y=0∧tv a z=0)∨(x=0∧∀y ∈ c,tv a y=-1)
 | [],x,h,_=>Or.inr (Or.inr (Or.inr ⟨h,fun y hy=>absurd hy List.not_mem_nil⟩))
 | z::r,x,h,hc=>by
  rw [laI] at h
  have h3:=tv_three a z
  have hz0:=hc z List.mem_cons_self
  split at h
  ·rename_i hn
   rcases hn with hn|⟨q1,q2,q3⟩
   ·exact Or.inl ⟨z,List.mem_cons_self,by omega⟩
   ·exact Or.inr (Or.inl ⟨q2,z,List.mem_cons_self,fun e=>q3 e.symm,q1⟩)
  ·rename_i hn
   have IH:=laI_none (c:=r) h (fun y hy=>hc y (List.mem_cons_of_mem _ hy))
   by_cases hz:tv a z=0
   ·rw [if_pos hz] at IH
    rcases IH with ⟨y,k1,k2⟩|⟨k0,y,k1,k2,k3⟩|⟨y,k1,y',k2,k3⟩|⟨k1,_⟩
    ·exact Or.inl ⟨y,List.mem_cons_of_mem _ k1,k2⟩
    ·exact Or.inr (Or.inr (Or.inl ⟨y,List.mem_cons_of_mem _ k1,z,List.mem_cons_self,k2,k3,hz⟩))
    ·exact Or.inr (Or.inr (Or.inl ⟨y,List.mem_cons_of_mem _ k1,y',List.mem_cons_of_mem _ k2,k3⟩))
    ·exact absurd k1 hz0
   ·rw [if_neg hz] at IH
    rcases IH with ⟨y,k1,k2⟩|⟨k0,y,k1,k2,k3⟩|⟨y,k1,y',k2,k3⟩|⟨k1,k2⟩
    ·exact Or.inl ⟨y,List.mem_cons_of_mem _ k1,k2⟩
    ·exact Or.inr (Or.inl ⟨k0,y,List.mem_cons_of_mem _ k1,k2,k3⟩)
    ·exact Or.inr (Or.inr (Or.inl ⟨y,List.mem_cons_of_mem _ k1,y',List.mem_cons_of_mem _ k2,k3⟩))
    ·by_cases ht:tv a z=1
     ·exact Or.inl ⟨z,List.mem_cons_self,ht⟩
     ·refine Or.inr (Or.inr (Or.inr ⟨k1,fun y hy=>?_⟩))
      rcases List.mem_cons.1 hy with q|q
      ·subst q;omega
      ·exact k2 y q
set_option maxHeartbeats 4000000 in
theorem val12_any (A:Option Addr) (nc cc:Nat) (c:List Int) (B:Option Addr) (na ca:Nat) (a:List Int) (S S':Nat→Prop) (w:World) (hc:rdInts w S' c [.slice A nc cc]) (h:rdInts w S a [.slice B na ca]) (hb:a.length≤20000):Calls Tryd.prog 22 #[.slice A nc cc,.slice B na ca] w fun e w'=>e=.returned (.int .i64 (vaI a c false))∧w=w':=by
 obtain ⟨rfl,hnc,hcm,ha⟩:=rdInts_at hc
 have hcm':cc≤9223372036854775807:=hcm
 have HA:=Lib.hid ha
 have LI:=Lib.hid (fun (x:Int)=>lit12_any B na ca a x S w h hb)
 obtain ⟨R,hR⟩:∃R,R=vaI a c false:=⟨_,rfl⟩
 rw [←hR]
 have HR:=Lib.hid hR
 clear h hcm ha hR hc
 go_enter Tryd.func22,Tryd.ntmps22
 go_wp2
 go_loopw [5,6] (fun o i wr=>∃(k:Nat) (b:Bool),k≤c.length∧i=.int .i64 k∧o=.bool b∧Hid (R=vaI a (c.drop k) b)∧w=wr) (fun o i _=>c.length - (intOf i).toNat)
 case atStart=>exact ⟨0,false,Nat.zero_le _,rfl,rfl,HR,rfl⟩
 case round=>
  obtain ⟨k,b,hk,rfl,rfl,H1,rfl⟩:=hrel
  by_cases hlt:k < c.length
  ·obtain ⟨ad,rfl,had,g0⟩:=HA.out k hlt
   have PA:=Lib.hid (vaI_at (a:=a) hlt b)
   have T0:=Lib.hid (LI.out c[k])
   have i0:(0:Int)≤(k:Int):=by omega
   have i1:(k:Int) < (c.length:Int):=by omega
   clear had
   generalize c[k]=x at *
   generalize tv a x=t at *
   by_cases h1:0 < t
   ·have X:=Lib.hid (PA.out.1 h1)
    have d1:decide (0 < t)=true:=decide_eq_true h1
    go_wp2_with (go_at_call 43;(with_reducible refine T0.out.mono ?_);rintro e w' ⟨rfl,rfl⟩)
    go_ret
    exact ⟨by rw [H1.out,X.out];try rfl,rfl⟩
   ·have X:=Lib.hid (PA.out.2 h1)
    have d1:decide (0 < t)=false:=decide_eq_false h1
    cases b
    ·go_wp2_with (go_at_call 43;(with_reducible refine T0.out.mono ?_);rintro e w' ⟨rfl,rfl⟩)
     go_roundw
     case rel=>exact ⟨k+1,_,by omega,by go_num,rfl,Lib.hid (H1.out.trans X.out),by first|rfl|trivial⟩
     case measure=>simp [intOf];omega
    ·go_wp2_with (go_at_call 43;(with_reducible refine T0.out.mono ?_);rintro e w' ⟨rfl,rfl⟩)
     go_roundw
     case rel=>exact ⟨k+1,_,by omega,by go_num,rfl,Lib.hid (H1.out.trans X.out),by first|rfl|trivial⟩
     case measure=>simp [intOf];omega
  ·have X:=Lib.hid (show R=if b=true then 0 else -1 by rw [H1.out,List.drop_eq_nil_of_le (by omega)];rfl)
   cases b
   ·go_wp2
    go_ret
    exact ⟨by rw [X.out];try rfl,rfl⟩
   ·go_wp2
    go_ret
    exact ⟨by rw [X.out];try rfl,rfl⟩
set_option maxHeartbeats 4000000 in
theorem last12_any (A:Option Addr) (nc cc:Nat) (c:List Int) (B:Option Addr) (na ca:Nat) (a:List Int) (S S':Nat→Prop) (w:World) (hc:rdInts w S' c [.slice A nc cc]) (h:rdInts w S a [.slice B na ca]) (hb:a.length≤20000):Calls Tryd.prog 23 #[.slice A nc cc,.slice B na ca] w fun e w'=>e=.returned (.int .i64 (laI a c 0))∧w=w':=by
 obtain ⟨rfl,hnc,hcm,ha⟩:=rdInts_at hc
 have hcm':cc≤9223372036854775807:=hcm
 have HA:=Lib.hid ha
 have LI:=Lib.hid (fun (x:Int)=>lit12_any B na ca a x S w h hb)
 obtain ⟨R,hR⟩:∃R,R=laI a c 0:=⟨_,rfl⟩
 rw [←hR]
 have HR:=Lib.hid hR
 clear h hcm ha hR hc
 go_enter Tryd.func23,Tryd.ntmps23
 go_wp2
 go_loopw [5,6] (fun o i wr=>∃(k:Nat) (z:Int),k≤c.length∧i=.int .i64 k∧o=.int .i64 z∧Hid (R=laI a (c.drop k) z)∧w=wr) (fun o i _=>c.length - (intOf i).toNat)
 case atStart=>exact ⟨0,0,Nat.zero_le _,rfl,rfl,HR,rfl⟩
 case round=>
  obtain ⟨k,z,hk,rfl,rfl,H1,rfl⟩:=hrel
  by_cases hlt:k < c.length
  ·obtain ⟨ad,rfl,had,g0⟩:=HA.out k hlt
   have PA:=Lib.hid (laI_at (a:=a) hlt z)
   have T0:=Lib.hid (LI.out c[k])
   have i0:(0:Int)≤(k:Int):=by omega
   have i1:(k:Int) < (c.length:Int):=by omega
   clear had
   generalize c[k]=x at *
   generalize tv a x=t at *
   by_cases h1:0 < t
   ·have X:=Lib.hid (PA.out.1 (Or.inl h1))
    have d1:decide (0 < t)=true:=decide_eq_true h1
    go_wp2_with (go_at_call 43;(with_reducible refine T0.out.mono ?_);rintro e w' ⟨rfl,rfl⟩)
    go_ret
    exact ⟨by rw [H1.out,X.out];try rfl,rfl⟩
   ·have d1:decide (0 < t)=false:=decide_eq_false h1
    by_cases h2:t=0
    ·have b2:(t==0)=true:=beq_iff_eq.2 h2
     by_cases h3:z=0
     ·have b3:(z != 0)=false:=by simp [h3]
      have X:=Lib.hid (PA.out.2 (by rintro (q|⟨-,q,-⟩);exact h1 q;exact q h3))
      rw [if_pos h2] at X
      have H2:=Lib.hid h2
      have H3:=Lib.hid h3
      clear h2 h3
      go_wp2_with (go_at_call 43;(with_reducible refine T0.out.mono ?_);rintro e w' ⟨rfl,rfl⟩)
      go_roundw
      case rel=>exact ⟨k+1,_,by omega,by go_num,rfl,Lib.hid (H1.out.trans X.out),by first|rfl|trivial⟩
      case measure=>simp [intOf];omega
     ·have b3:(z != 0)=true:=by simp [h3]
      by_cases h4:z=x
      ·have b4:(z != x)=false:=by simp [h4]
       have X:=Lib.hid (PA.out.2 (by rintro (q|⟨-,-,q⟩);exact h1 q;exact q h4))
       rw [if_pos h2] at X
       have H2:=Lib.hid h2
       have H4:=Lib.hid h4
       clear h2 h4
       go_wp2_with (go_at_call 43;(with_reducible refine T0.out.mono ?_);rintro e w' ⟨rfl,rfl⟩)
       go_roundw
       case rel=>exact ⟨k+1,_,by omega,by go_num,rfl,Lib.hid (H1.out.trans X.out),by first|rfl|trivial⟩
       case measure=>simp [intOf];omega
      ·have b4:(z != x)=true:=by simp [h4]
       have X:=Lib.hid (PA.out.1 (Or.inr ⟨h2,h3,h4⟩))
       have H2:=Lib.hid h2
       clear h2
       go_wp2_with (go_at_call 43;(with_reducible refine T0.out.mono ?_);rintro e w' ⟨rfl,rfl⟩)
       go_ret
       exact ⟨by rw [H1.out,X.out];try rfl,rfl⟩
    ·have b2:(t==0)=false:=beq_eq_false_iff_ne.2 h2
     have X:=Lib.hid (PA.out.2 (by rintro (q|⟨q,-,-⟩);exact h1 q;exact h2 q))
     rw [if_neg h2] at X
     go_wp2_with (go_at_call 43;(with_reducible refine T0.out.mono ?_);rintro e w' ⟨rfl,rfl⟩)
     go_roundw
     case rel=>exact ⟨k+1,_,by omega,by go_num,rfl,Lib.hid (H1.out.trans X.out),by first|rfl|trivial⟩
     case measure=>simp [intOf];omega
  ·have X:=Lib.hid (show R=z by rw [H1.out,List.drop_eq_nil_of_le (by omega)];rfl)
   go_wp2
   go_ret
   exact ⟨by rw [X.out];try rfl,rfl⟩
def badI (n x:Int):Bool:=decide (varI x < 1)||decide (n < varI x)
theorem badI_is {n:Int} {x:Int} (h0:0≤n) (h1:n≤20000):badI n x=noL n.toNat x:=by
 rw [noL_is]
 unfold badI
 by_cases h:litN n.toNat x
 ·rw [varI_lit h (by omega)]
  have:=plc_lt h
  rw [decide_eq_false (by omega),decide_eq_false (by omega),decide_eq_false (fun c=>c h)];rfl
 ·rw [decide_eq_true h]
  rcases varI_not h (by omega) with q|q
  ·rw [decide_eq_true q];rfl
  ·rw [decide_eq_true (p:=n < varI x) (by omega),Bool.or_true]
def okD (n:Int) (c:List Int):Bool:=!c.any (badI n)&&decide (c.length≤20000)
theorem okF_of {n:Int} {l:List (List Int)}:okF n l=(l.all (okD n)&&decide (0≤n∧n≤20000∧l.length≤400000)):=by
 unfold okF
 rw [Bool.and_comm]
 by_cases h:0≤n∧n≤20000
 ·congr 2
  funext c
  unfold okC okD
  rw [Bool.and_comm]
  congr 2
  congr 1
  funext x
  exact (badI_is h.1 h.2).symm
 ·rw [decide_eq_false (by omega),Bool.and_false,Bool.and_false]
set_option maxHeartbeats 8000000 in
theorem q12right_any (n:Int) (A:Option Addr) (nl cl:Nat) (l:List (List Int)) (S:Nat→Prop) (w:World) (h:rdIss w S l [.slice A nl cl]) :
  Calls Tryd.prog 20 #[.int .i64 n,.slice A nl cl] w fun e w'=>e=.returned (.bool (okF n l))∧w=w':=by
 obtain ⟨rfl,hnc,hcm,ha⟩:=rdIss_at h
 have hcm':cl≤9223372036854775807:=hcm
 have HA:=Lib.hid ha
 have VA:=Lib.hid (fun (x:Int)=>var12_any x w)
 have X:=Lib.hid (okF_of (n:=n) (l:=l))
 have hml:l.length≤9223372036854775807:=by omega
 generalize okF n l=bb at *
 clear h hcm ha
 go_enter Tryd.func20,Tryd.ntmps20
 go_wp2
 go_loopw [5] (fun i wr=>∃k:Nat,k≤l.length∧i=.int .i64 k∧Hid ((l.take k).all (okD n)=true)∧w=wr) (fun i _=>l.length - (intOf i).toNat)
 case atStart=>exact ⟨0,Nat.zero_le _,rfl,Lib.hid rfl,rfl⟩
 case round=>
  obtain ⟨k,hk,rfl,H1,rfl⟩:=hrel
  by_cases hlt:k < l.length
  ·obtain ⟨ad,rfl,had,A2,c2,g0,g1⟩:=HA.out k hlt
   obtain ⟨-,hk2,hm2,hb⟩:=rdInts_at g1
   have hm2':c2≤9223372036854775807:=hm2
   have HB:=Lib.hid hb
   have i0:(0:Int)≤(k:Int):=by omega
   have i1:(k:Int) < (l.length:Int):=by omega
   have TK:=Lib.hid (show (l.take (k+1)).all (okD n)=okD n l[k] by rw [List.take_succ_eq_append_getElem hlt,List.all_append,H1.out,Bool.true_and,List.all_cons,List.all_nil,Bool.and_true])
   have AL:=Lib.hid (show okD n l[k]=false→l.all (okD n)=false from fun q=>by rw [List.all_eq_false];exact ⟨_,List.getElem_mem hlt,by rw [q];decide⟩)
   have OK:=Lib.hid (show okD n l[k]=(!l[k].any (badI n)&&decide (l[k].length≤20000)) from rfl)
   clear had g1 hb hm2
   generalize okD n l[k]=oo at *
   generalize l[k]=c at *
   go_wp2
   go_loopw [6] (fun i wr=>∃j:Nat,j≤c.length∧i=.int .i64 j∧Hid ((c.take j).any (badI n)=false)∧w=wr) (fun i _=>c.length - (intOf i).toNat)
   case atStart=>exact ⟨0,Nat.zero_le _,rfl,Lib.hid rfl,rfl⟩
   case round=>
    obtain ⟨j,hj,rfl,H2,rfl⟩:=hrel
    by_cases hlt2:j < c.length
    ·obtain ⟨ad2,rfl,had2,g2⟩:=HB.out j hlt2
     have j0:(0:Int)≤(j:Int):=by omega
     have j1:(j:Int) < (c.length:Int):=by omega
     have T2:=Lib.hid (show (c.take (j+1)).any (badI n)=badI n c[j] by rw [List.take_succ_eq_append_getElem hlt2,List.any_append,H2.out,Bool.false_or,List.any_cons,List.any_nil,Bool.or_false])
     have A2':=Lib.hid (show badI n c[j]=true→c.any (badI n)=true from fun q=>List.any_eq_true.2 ⟨_,List.getElem_mem hlt2,q⟩)
     have BD:=Lib.hid (show badI n c[j]=(decide (varI c[j] < 1)||decide (n < varI c[j])) from rfl)
     have V0:=Lib.hid (VA.out c[j])
     clear had2
     generalize badI n c[j]=bd at *
     generalize varI c[j]=v at *
     generalize c[j]=x at *
     by_cases h1:v < 1
     ·have d1:decide (v < 1)=true:=decide_eq_true h1
      have Z:=Lib.hid (show bb=false by rw [X.out,AL.out (by rw [OK.out,A2'.out (by rw [BD.out,d1];rfl)];rfl)];rfl)
      clear T2 A2' BD TK AL OK X
      go_wp2_with (go_at_call 42;(with_reducible refine V0.out.mono ?_);rintro e w' ⟨rfl,rfl⟩)
      go_ret
      exact ⟨by rw [Z.out];try rfl,rfl⟩
     ·have d1:decide (v < 1)=false:=decide_eq_false h1
      by_cases h2:n < v
      ·have d2:decide (n < v)=true:=decide_eq_true h2
       have Z:=Lib.hid (show bb=false by rw [X.out,AL.out (by rw [OK.out,A2'.out (by rw [BD.out,d2,Bool.or_true])];rfl)];rfl)
       clear T2 A2' BD TK AL OK X
       go_wp2_with (go_at_call 42;(with_reducible refine V0.out.mono ?_);rintro e w' ⟨rfl,rfl⟩)
       go_ret
       exact ⟨by rw [Z.out];try rfl,rfl⟩
      ·have d2:decide (n < v)=false:=decide_eq_false h2
       have Z:=Lib.hid (show (c.take (j+1)).any (badI n)=false by rw [T2.out,BD.out,d1,d2];rfl)
       clear T2 A2' BD
       go_wp2_with (go_at_call 42;(with_reducible refine V0.out.mono ?_);rintro e w' ⟨rfl,rfl⟩)
       go_roundw
       case rel=>exact ⟨j+1,by omega,by go_num,Z,by first|rfl|trivial⟩
       case measure=>simp [intOf];omega
    ·have NA:=Lib.hid (show c.any (badI n)=false by have:=H2.out;rwa [List.take_of_length_le (by omega)] at this)
     by_cases h1:c.length > 20000
     ·have d1:decide (20000 < (c.length:Int))=true:=decide_eq_true (by omega)
      have hz:(20000:Int) < (c.length:Int):=by omega
      have Z:=Lib.hid (show bb=false by rw [X.out,AL.out (by rw [OK.out,decide_eq_false (by omega),Bool.and_false])];rfl)
      clear TK AL OK X
      go_wp2
      go_ret
      exact ⟨by rw [Z.out];try rfl,rfl⟩
     ·have d1:decide (20000 < (c.length:Int))=false:=decide_eq_false (by omega)
      have hz:¬(20000:Int) < (c.length:Int):=by omega
      have Z:=Lib.hid (show (l.take (k+1)).all (okD n)=true by rw [TK.out,OK.out,NA.out,decide_eq_true (by omega)];rfl)
      clear TK AL OK
      go_wp2
      go_roundw
      case rel=>exact ⟨k+1,by omega,by go_num,Z,by first|rfl|trivial⟩
      case measure=>simp [intOf];omega
  ·have Z:=Lib.hid (show bb=decide (0≤n∧n≤20000∧l.length≤400000) by rw [X.out,show l.all (okD n)=true by have:=H1.out;rwa [List.take_of_length_le (by omega)] at this,Bool.true_and])
   clear X
   by_cases h1:0≤n
   ·have d1:decide (0≤n)=true:=decide_eq_true h1
    by_cases h2:n≤20000
    ·have d2:decide (n≤20000)=true:=decide_eq_true h2
     by_cases h3:l.length≤400000
     ·have d3:decide ((l.length:Int)≤400000)=true:=decide_eq_true (by omega)
      have d3':decide (l.length≤400000)=true:=decide_eq_true h3
      have Y:=Lib.hid (show bb=true by rw [Z.out,decide_eq_true (by omega)])
      clear Z
      go_wp2
      go_ret
      exact ⟨by rw [Y.out];try rfl,rfl⟩
     ·have d3:decide ((l.length:Int)≤400000)=false:=decide_eq_false (by omega)
      have d3':decide (l.length≤400000)=false:=decide_eq_false h3
      have Y:=Lib.hid (show bb=false by rw [Z.out,decide_eq_false (by omega)])
      clear Z
      go_wp2
      go_ret
      exact ⟨by rw [Y.out];try rfl,rfl⟩
    ·have d2:decide (n≤20000)=false:=decide_eq_false h2
     have Y:=Lib.hid (show bb=false by rw [Z.out,decide_eq_false (by omega)])
     clear Z
     go_wp2
     go_ret
     exact ⟨by rw [Y.out];try rfl,rfl⟩
   ·have d1:decide (0≤n)=false:=decide_eq_false h1
    have Y:=Lib.hid (show bb=false by rw [Z.out,decide_eq_false (by omega)])
    clear Z
    go_wp2
    go_ret
    exact ⟨by rw [Y.out];try rfl,rfl⟩
structure AsM (W:World) (N tb:Nat) (a:List Int):Prop where
 b:W.heap[tb]?=some (.cells (a.map (Value.int .i64)).toArray 3 (0,0))
 n:N≤tb
theorem AsM.read {W:World} {N tb:Nat} {a:List Int} (h:AsM W N tb a) (hl:a.length≤20000):rdInts W (lt_ W.heap.size) a [.slice (some ⟨tb,0,none⟩) a.length a.length]:=blk_ints h.b rfl (by unfold maxLen;omega)
theorem AsM.cell {W:World} {N tb:Nat} {a:List Int} (h:AsM W N tb a) {i:Nat} (hi:i < a.length):W.cell? ⟨tb,i,none⟩=some (.int .i64 a[i]):=by rw [cb_cell h.b];simp [hi]
theorem AsM.put {W:World} {N tb:Nat} {a:List Int} (h:AsM W N tb a) (i:Nat) (x:Int):AsM (W.setCell ⟨tb,i,none⟩ (.int .i64 x)) N tb (a.set i x):=⟨by rw [cb_set h.b,map_set_i],h.n⟩
def SeP (N tb:Nat) (a:List Int) (x:Int) (w:World) (e:Ending) (w':World):Prop:=
 ((¬litN a.length x∨tv a x < 0)∧e=.returned (.bool false)∧w=w')∨(litN a.length x∧¬tv a x < 0∧e=.returned (.bool true)∧AsM w' N tb (putT a x)∧Below N w w')
set_option maxHeartbeats 4000000 in
theorem set12_any (N tb:Nat) (a:List Int) (x:Int) (w:World) (h:AsM w N tb a) (hb:a.length≤20000):Calls Tryd.prog 21 #[.slice (some ⟨tb,0,none⟩) a.length a.length,.int .i64 x] w fun e w'=>SeP N tb a x w e w'∧True:=by
 have VA:=Lib.hid (var12_any x w)
 have LI:=Lib.hid (lit12_any _ _ _ a x _ w (h.read hb) hb)
 have BX:=Lib.hid (show ∀(W:World) (u:Value),Below N w W→Below N w (W.setCell ⟨tb,plc x,none⟩ u) from fun W u q=>q.setCell (p:=⟨tb,plc x,none⟩) h.n u)
 by_cases hx:litN a.length x
 ·rw [varI_lit hx hb] at VA
  have hp:=plc_lt hx
  have q0:decide ((plc x:Int)+1 < 1)=false:=decide_eq_false (by omega)
  have p0:¬(plc x:Int)+1 < 1:=by omega
  have p3:¬(a.length:Int) < (plc x:Int)+1:=by omega
  have q3:decide ((a.length:Int) < (plc x:Int)+1)=false:=decide_eq_false p3
  by_cases ht:tv a x < 0
  ·have PX:=Lib.hid (show SeP N tb a x w (.returned (.bool false)) w from Or.inl ⟨Or.inr ht,rfl,rfl⟩)
   have t0:decide (tv a x < 0)=true:=decide_eq_true ht
   clear BX h hx
   generalize tv a x=t at *
   generalize plc x=p at *
   go_enter Tryd.func21,Tryd.ntmps21
   go_wp2_with (first|(go_at_call 42;(with_reducible refine VA.out.mono ?_);rintro e w' ⟨rfl,rfl⟩)|(go_at_call 43;(with_reducible refine LI.out.mono ?_);rintro e w' ⟨rfl,rfl⟩))
   go_ret
   first|exact PX.out|exact ⟨PX.out,trivial⟩
  ·have t0:decide (tv a x < 0)=false:=decide_eq_false ht
   have c0:=h.cell hp
   have f0:=cb_froz h.b (plc x)
   have p1:(0:Int)≤(plc x:Int):=by omega
   have p2:(plc x:Int) < (a.length:Int):=by omega
   have hw:IntKind.i64.wrap ((plc x:Int)+1 - 1)=(plc x:Int):=by rw [IntKind.wrap_i64];omega
   have hw':IntKind.i64.wrap (plc x:Int)=(plc x:Int):=by rw [IntKind.wrap_i64];omega
   have k1:=h.put (plc x) 1
   have k2:=k1.put (plc x) (-1)
   rw [List.set_set] at k2
   have c1:=k1.cell (i:=plc x) (by rw [List.length_set];exact hp)
   rw [List.getElem_set_self] at c1
   have f1:=cb_froz k1.b (plc x)
   by_cases hn:x < 0
   ·have n0:decide (x < 0)=true:=decide_eq_true hn
    have PX:=Lib.hid (show SeP N tb a x w (.returned (.bool true)) ((w.setCell ⟨tb,plc x,none⟩ (.int .i64 1)).setCell ⟨tb,plc x,none⟩ (.int .i64 (-1))) from Or.inr ⟨hx,ht,rfl,by unfold putT;rw [Int.sign_eq_neg_one_of_neg hn];exact k2,BX.out _ _ (BX.out _ _ (Below.refl _ _))⟩)
    clear BX h hx k1 k2
    generalize tv a x=t at *
    generalize a[plc x]=y at *
    generalize plc x=p at *
    go_enter Tryd.func21,Tryd.ntmps21
    go_wp2_with (first|(go_at_call 42;(with_reducible refine VA.out.mono ?_);rintro e w' ⟨rfl,rfl⟩)|(go_at_call 43;(with_reducible refine LI.out.mono ?_);rintro e w' ⟨rfl,rfl⟩))
    go_ret
    first|exact PX.out|exact ⟨PX.out,trivial⟩
   ·have n0:decide (x < 0)=false:=decide_eq_false hn
    have h0:=hx.1
    have PX:=Lib.hid (show SeP N tb a x w (.returned (.bool true)) (w.setCell ⟨tb,plc x,none⟩ (.int .i64 1)) from Or.inr ⟨hx,ht,rfl,by unfold putT;rw [Int.sign_eq_one_of_pos (by omega)];exact k1,BX.out _ _ (Below.refl _ _)⟩)
    clear BX h hx k1 k2 c1 f1
    generalize tv a x=t at *
    generalize a[plc x]=y at *
    generalize plc x=p at *
    go_enter Tryd.func21,Tryd.ntmps21
    go_wp2_with (first|(go_at_call 42;(with_reducible refine VA.out.mono ?_);rintro e w' ⟨rfl,rfl⟩)|(go_at_call 43;(with_reducible refine LI.out.mono ?_);rintro e w' ⟨rfl,rfl⟩))
    go_ret
    first|exact PX.out|exact ⟨PX.out,trivial⟩
 ·have hv:=varI_not hx hb
  have PX:=Lib.hid (show SeP N tb a x w (.returned (.bool false)) w from Or.inl ⟨Or.inl hx,rfl,rfl⟩)
  clear BX h hx LI
  generalize varI x=v at *
  by_cases h1:v < 1
  ·have d1:decide (v < 1)=true:=decide_eq_true h1
   clear hv
   go_enter Tryd.func21,Tryd.ntmps21
   go_wp2_with (go_at_call 42;(with_reducible refine VA.out.mono ?_);rintro e w' ⟨rfl,rfl⟩)
   go_ret
   first|exact PX.out|exact ⟨PX.out,trivial⟩
  ·have d1:decide (v < 1)=false:=decide_eq_false h1
   have h2:(a.length:Int) < v:=by omega
   have d2:decide ((a.length:Int) < v)=true:=decide_eq_true h2
   clear hv
   go_enter Tryd.func21,Tryd.ntmps21
   go_wp2_with (go_at_call 42;(with_reducible refine VA.out.mono ?_);rintro e w' ⟨rfl,rfl⟩)
   go_ret
   first|exact PX.out|exact ⟨PX.out,trivial⟩
end Go.Proofs.YtgjlgdpbmhdnbaaDoor
