/- What the laws rest on: E10b, E10o. -/
import Derived.Test.YthchfkhpmgkghaaGreatDoorQAGZA
import Derived.Test.YthchfkhpmgkghaaGreatDoorQAIZA
import Derived.Test.YthchfkhpmgkghaaGreatDoorQAJZA
import Derived.Test.YthchfkhpmgkghaaGreatDoorQAKZA
import Derived.Test.YthchfkhpmgkghaaGreatDoorQALZA
import Derived.Test.YthchfkhpmgkghaaGreatDoorQAQZA
import Derived.Test.YthchfkhpmgkghaaGreatDoorQCCZA
import Derived.Test.YthchfkhpmgkghaaGreatDoorQCDZA
set_option maxRecDepth 100000
set_option linter.unusedVariables false
set_option linter.unusedSimpArgs false
namespace Go.Proofs.YthchfkhpmgkghaaGreatDoor
open Go.RowKit
theorem fltS_up {U:List Ent} {held:List Int} {ri rm:List Atm} {s t:List Int} (hs:s.Pairwise (· < ·)) (ht:t.Pairwise (· < ·)) (h:∀p ∈ s,p ∈ t) {x:Ft} (hx:x ∈ fltS U held ri rm s) (hk:x.k=1∨x.k=2∨x.k=6):x ∈ fltS U held ri rm t:=by
 rw [mem_fltS] at hx ⊢
 rcases hx with q|q|q|q|q|q
 ·rw [mem_pairP hs] at q
  obtain ⟨a,ha,b,hb,r⟩:=q
  exact .inl ((mem_pairP ht).2 ⟨a,h a ha,b,h b hb,r⟩)
 ·rw [mem_pairP hs] at q
  obtain ⟨a,ha,b,hb,r⟩:=q
  exact .inr (.inl ((mem_pairP ht).2 ⟨a,h a ha,b,h b hb,r⟩))
 ·obtain ⟨p,hp,j,hj,e,rfl⟩:=mem_opnS.1 q;simp at hk
 ·obtain ⟨j,_,_,_,_,rfl⟩:=mem_awyS.1 q;simp at hk
 ·obtain ⟨j,hj,e,rfl⟩:=mem_misS.1 q;simp at hk
 ·obtain ⟨j,hj,p,hp,r⟩:=mem_preS.1 q
  exact .inr (.inr (.inr (.inr (.inr (mem_preS.2 ⟨j,hj,p,h p hp,r⟩)))))
theorem fltS_dn {U:List Ent} {held:List Int} {ri rm:List Atm} {s t:List Int} (hs:s.Pairwise (· < ·)) (ht:t.Pairwise (· < ·)) (h:∀p ∈ s,p ∈ t) {x:Ft} (hx:x ∈ fltS U held ri rm t) (hk:x.k=4∨x.k=5):x ∈ fltS U held ri rm s:=by
 rw [mem_fltS] at hx ⊢
 rcases hx with q|q|q|q|q|q
 ·obtain ⟨a,ha,b,hb,_,_,rfl⟩:=(mem_pairP ht).1 q;simp at hk
 ·obtain ⟨a,ha,b,hb,_,_,rfl⟩:=(mem_pairP ht).1 q;simp at hk
 ·obtain ⟨p,hp,j,hj,e,rfl⟩:=mem_opnS.1 q;simp at hk
 ·obtain ⟨j,h1,h2,h3,h4,r⟩:=mem_awyS.1 q
  exact .inr (.inr (.inr (.inl (mem_awyS.2 ⟨j,h1,h2,h3,fun z=>h4 (h _ z),r⟩))))
 ·obtain ⟨j,hj,e,r⟩:=mem_misS.1 q
  refine .inr (.inr (.inr (.inr (.inl (mem_misS.2 ⟨j,hj,Bool.eq_false_iff.2 fun z=>?_,r⟩)))))
  rw [givS_up h z] at e;cases e
 ·obtain ⟨j,hj,p,hp,_,rfl⟩:=mem_preS.1 q;simp at hk
end Go.Proofs.YthchfkhpmgkghaaGreatDoor
namespace Go.Proofs.YthchfkhpmgkghaaGreatDoor
open Go.RowKit Go.Sort
theorem ft_beq (x y:Ft):(x.k==y.k&&(x.a==y.a&&x.b==y.b))=decide (x=y):=by
 obtain ⟨a,b,c⟩:=x
 obtain ⟨a',b',c'⟩:=y
 rw [Bool.eq_iff_iff,decide_eq_true_iff,Bool.and_eq_true,Bool.and_eq_true,beq_iff_eq,beq_iff_eq,beq_iff_eq,Ft.mk.injEq]
set_option maxHeartbeats 16000000 in
theorem has10_any (A:Option Addr) (n0 c:Nat) (l:List Ft) (f:Ft) (w:World) (h:rdFts w (lt_ w.heap.size) l [.slice A n0 c]) :
  Calls Tryz.prog 27 #[.slice A n0 c,.agg #[.int .i64 f.k,.int .i64 f.a,.int .i64 f.b]] w fun e w'=>e=.returned (.bool (decide (f ∈ l)))∧Below w.heap.size w w':=by
 have mixed:Tryz.prog.follows .mixedOrders=true:=by kernel_rfl
 obtain ⟨rfl,hnc,hcm,-⟩:=rdFts_at h
 have hcm':c≤9223372036854775807:=hcm
 obtain ⟨w1,hw1⟩:∃W,W=w.alloc (.cells #[.int .i64 f.k,.int .i64 f.a,.int .i64 f.b] 55):=⟨_,rfl⟩
 have b1:Below w.heap.size w w1:=by rw [hw1];exact (Below.refl _ w).alloc (Nat.le_refl _) _
 have B1:=Lib.hid b1
 have KX:=Lib.hid (fun (W:World) (hb:Below w1.heap.size w1 W)=>(show W.cell? ⟨w.heap.size,0,none⟩=some (.int .i64 f.k)∧W.cell? ⟨w.heap.size,1,none⟩=some (.int .i64 f.a)∧W.cell? ⟨w.heap.size,2,none⟩=some (.int .i64 f.b) from by
  refine ⟨?_,?_,?_⟩<;>exact keep6 hb (by rw [hw1];simp [go_sem])))
 have HA:=Lib.hid (fun (W:World) (hb:Below w.heap.size w W)=>(rdFts_at (rdFts_good.below h hb)).2.2.2)
 have X1:=Lib.hid (fun (k:Nat) (hk:k < l.length) (e:decide (l[k]=f)=true)=>show decide (f ∈ l)=true from decide_eq_true (by rw [←of_decide_eq_true e];exact List.getElem_mem hk))
 have X2:=Lib.hid (fun (e:l.any (fun x=>decide (x=f))=false)=>show decide (f ∈ l)=false from decide_eq_false fun q=>by
  have:l.any (fun x=>decide (x=f))=true:=List.any_eq_true.2 ⟨f,q,decide_eq_true rfl⟩
  rw [e] at this;cases this)
 have heq:=eq_vft
 have FB:=Lib.hid (fun x=>ft_beq x f)
 clear h hcm b1
 generalize decide (f ∈ l)=bb at *
 generalize hpf:(fun x=>decide (x=f))=pf at *
 have HPF:=Lib.hid (fun x=>(congrFun hpf x:decide (x=f)=pf x))
 simp only [HPF.out] at X1 FB
 clear hpf HPF
 obtain ⟨fk,fa,fb⟩:=f
 simp only at KX FB
 go_enter Tryz.func27,Tryz.ntmps27
 go_wp2_with fail
 rw [←hw1]
 clear hw1
 go_wp2
 go_loopw [5] (fun i wr=>∃k:Nat,k≤l.length∧i=.int .i64 k∧Hid ((l.take k).any pf=false)∧Below w1.heap.size w1 wr) (fun i _=>l.length - (intOf i).toNat)
 case atStart=>exact ⟨0,Nat.zero_le _,rfl,Lib.hid rfl,Below.refl _ _⟩
 case round=>
  obtain ⟨k,hk,rfl,HT,hbel⟩:=hrel
  have HB:=Lib.hid hbel
  clear hbel
  by_cases hlt:k < l.length
  ·have ST:=Lib.hid (fun hf=>none_step6 (f:=pf) hlt HT.out hf)
   have SP:=Lib.hid (X1.out k hlt)
   obtain ⟨ad,rfl,-,g0,g1,g2⟩:=HA.out wr (bel_in B1.out HB.out) k hlt
   obtain ⟨x0,x1,x2⟩:=KX.out wr HB.out
   have i0:(0:Int)≤(k:Int):=by omega
   have i1:(k:Int) < (l.length:Int):=by omega
   have FK:=Lib.hid (FB.out l[k])
   generalize l[k]=x at *
   obtain ⟨xk,xa,xb⟩:=x
   simp only at g0 g1 g2 FK
   have hq:=fun W=>(eq_vft xk xa xb fk fa fb W).trans (congrArg (fun b=>Result.ok b W) FK.out)
   generalize pf ⟨xk,xa,xb⟩=q at *
   have z0:=fun dd os=>cell_regrown (w:=wr) g0 dd os
   have z1:=fun dd os=>cell_regrown (w:=wr) g1 dd os
   have z2:=fun dd os=>cell_regrown (w:=wr) g2 dd os
   have v0:=fun dd os=>cell_regrown (w:=wr) x0 dd os
   have v1:=fun dd os=>cell_regrown (w:=wr) x1 dd os
   have v2:=fun dd os=>cell_regrown (w:=wr) x2 dd os
   have BD:=Lib.hid (fun dd os=>below_regrown wr dd os)
   clear g0 g1 g2 x0 x1 x2 HT heq
   go_wp2_with fail
   refine wp_region_quiet_below mixed (by kernel_rfl) ?_
   repeat (go_big_quiet_step (fail))
   refine wpQuiet_nil ?_
   intro W3 hw3
   have BX:=Lib.hid (bel_in HB.out (show Below wr.heap.size wr W3 from by obtain ⟨pp,e⟩:=hw3;rw [e];exact BD.out pp.d pp.os))
   clear hw3 BD z0 z1 z2 v0 v1 v2 hq
   cases q
   ·have NX:=Lib.hid (ST.out rfl)
    go_wp2
    go_roundw
    case rel=>exact ⟨k+1,by omega,by go_num,NX,BX.out⟩
    case measure=>simp [intOf];omega
   ·have XX:=Lib.hid (show bb=true from SP.out rfl)
    go_wp2
    go_ret
    exact ⟨by rw [XX.out];try rfl,bel_in B1.out BX.out⟩
  ·obtain rfl:k=l.length:=by omega
   have i0:¬(l.length:Int) < (l.length:Int):=by omega
   have XX:=Lib.hid (show bb=false from X2.out (by have:=HT.out;rwa [List.take_length] at this))
   go_wp2
   go_ret
   exact ⟨by rw [XX.out];try rfl,bel_in B1.out HB.out⟩
end Go.Proofs.YthchfkhpmgkghaaGreatDoor
