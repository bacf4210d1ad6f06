/- What the laws rest on: E10b, E10h. -/
import Derived.Test.YthchfkhpmgkghaaGreatDoorQACZA
import Derived.Test.YthchfkhpmgkghaaGreatDoorQAMZA
set_option maxRecDepth 100000
set_option linter.unusedVariables false
set_option linter.unusedSimpArgs false
namespace Go.Proofs.YthchfkhpmgkghaaGreatDoor
open Go.RowKit
def bothL (a b:List Int):List Int:=a.flatMap fun x=>(b.filter fun y=>decide (x=y)).map fun _=>x
theorem mem_bothL {a b:List Int} {x:Int}:x ∈ bothL a b↔x ∈ a∧x ∈ b:=by
 unfold bothL
 rw [List.mem_flatMap]
 constructor
 ·rintro ⟨y,hy,h⟩
  obtain ⟨z,hz,rfl⟩:=List.mem_map.1 h
  obtain ⟨h1,h2⟩:=List.mem_filter.1 hz
  have:y=z:=of_decide_eq_true h2
  subst this
  exact ⟨hy,h1⟩
 ·rintro ⟨h1,h2⟩
  exact ⟨x,h1,List.mem_map.2 ⟨x,List.mem_filter.2 ⟨h2,decide_eq_true rfl⟩,rfl⟩⟩
theorem both_pos {a b:List Int}:0 < (bothL a b).length↔∃x ∈ a,x ∈ b:=by
 rw [List.length_pos_iff_exists_mem]
 exact ⟨fun ⟨x,h⟩=>⟨x,(mem_bothL.1 h).1,(mem_bothL.1 h).2⟩,fun ⟨x,h1,h2⟩=>⟨x,mem_bothL.2 ⟨h1,h2⟩⟩⟩
end Go.Proofs.YthchfkhpmgkghaaGreatDoor
namespace Go.Proofs.YthchfkhpmgkghaaGreatDoor
open Go.RowKit Go.Sort
theorem both_take {a b:List Int} {i:Nat} (h:i < a.length):bothL (a.take (i+1)) b=bothL (a.take i) b++(b.filter fun y=>decide (a[i]=y)).map fun _=>a[i]:=by
 unfold bothL
 rw [List.take_succ_eq_append_getElem h,List.flatMap_append,List.flatMap_singleton]
theorem row_take {b:List Int} {x:Int} {k:Nat} (h:k < b.length):((b.take (k+1)).filter fun y=>decide (x=y)).map (fun _=>x)=((b.take k).filter fun y=>decide (x=y)).map (fun _=>x)++(if x=b[k] then [x] else []):=by
 rw [List.take_succ_eq_append_getElem h,List.filter_append,List.map_append]
 congr 1
 by_cases e:x=b[k]
 ·rw [if_pos e,List.filter_cons,if_pos (decide_eq_true e)];rfl
 ·rw [if_neg e,List.filter_cons,if_neg (by rw [decide_eq_false e];decide)];rfl
theorem both_len (a b:List Int):(bothL a b).length≤a.length*b.length:=by
 unfold bothL
 induction a with
 | nil=>exact Nat.zero_le _
 | cons x r ih=>
  rw [List.flatMap_cons,List.length_append,List.length_cons,List.length_map,Nat.succ_mul]
  have:=List.length_filter_le (fun y=>decide (x=y)) b
  omega
set_option maxHeartbeats 16000000 in
theorem both10_any (A A':Option Addr) (n0 c n1 c':Nat) (a b:List Int) (w:World) (h:rdInts w (lt_ w.heap.size) a [.slice A n0 c]) (h':rdInts w (lt_ w.heap.size) b [.slice A' n1 c']) (hab:a.length*b.length≤1000000) :
  Calls Tryz.prog 29 #[.slice A n0 c,.slice A' n1 c'] w fun e w'=>(∃A2 c2,e=.returned (.slice A2 (bothL a b).length c2)∧rdInts w' (lt_ w'.heap.size) (bothL a b) [.slice A2 (bothL a b).length c2])∧Below w.heap.size w w':=by
 have mixed:Tryz.prog.follows .mixedOrders=true:=by kernel_rfl
 obtain ⟨fi,hi,hz0,hz1,hz2⟩:=info_parts int10_info
 obtain ⟨rfl,hnc,hcm,-⟩:=rdInts_at h
 obtain ⟨rfl,hnc',hcm',-⟩:=rdInts_at h'
 have hc1:c≤9223372036854775807:=hcm
 have hc2:c'≤9223372036854775807:=hcm'
 have HA:=Lib.hid (fun (W:World) (hb:Below w.heap.size w W)=>(rdInts_at (rdInts_good.up (rdInts_good.below h hb) hb.size)).2.2.2)
 have HB2:=Lib.hid (fun (W:World) (hb:Below w.heap.size w W)=>(rdInts_at (rdInts_good.up (rdInts_good.below h' hb) hb.size)).2.2.2)
 clear h h' hcm hcm'
 have TL:=Lib.hid (Nat.le_trans (both_len a b) hab)
 have LEN:=Lib.hid (fun (i:Nat) (hi:i < a.length) (k:Nat)=>show (bothL (a.take i) b++((b.take k).filter fun y=>decide (a[i]=y)).map fun _=>a[i]).length≤1000000 from by
  rw [List.length_append,List.length_map]
  have h1:=both_len (a.take i) b
  have h2:=List.length_filter_le (fun y=>decide (a[i]=y)) (b.take k)
  rw [List.length_take] at h1 h2
  have h3:(min i a.length+1)*b.length≤a.length*b.length:=Nat.mul_le_mul_right _ (by omega)
  rw [Nat.succ_mul] at h3
  omega)
 clear hab
 go_enter Tryz.func29,Tryz.ntmps29
 go_wp2
 go_loopw [5,6] (fun v i wr=>∃k:Nat,k≤a.length∧i=.int .i64 k∧Grow rdInt 1 (fun _=>True) wr w.heap.size 3 v (bothL (a.take k) b)∧Below w.heap.size w wr) (fun _ i _=>a.length - (intOf i).toNat)
 case atStart=>exact ⟨0,Nat.zero_le _,rfl,Grow.nil _ _ _ _,Below.refl _ _⟩
 case round=>
  obtain ⟨k,hk,rfl,hG,hbel⟩:=hrel
  have HB:=Lib.hid hbel
  have HG:=Lib.hid hG
  clear hbel hG
  by_cases hlt:k < a.length
  ·have i0:(0:Int)≤(k:Int):=by omega
   have i1:(k:Int) < (a.length:Int):=by omega
   have ST:=Lib.hid (both_take (b:=b) hlt)
   have LN:=Lib.hid (LEN.out k hlt)
   have RK:=Lib.hid (fun j (hj:j < b.length)=>row_take (x:=a[k]) hj)
   have AK:=Lib.hid (fun (W:World) (hb:Below w.heap.size w W)=>HA.out W hb k hlt)
   generalize hbk:bothL (a.take k) b=gl at *
   generalize hgn:bothL (a.take (k+1)) b=gn at *
   have HGN:=Lib.hid hgn
   generalize a[k]=x at *
   clear hgn hbk
   obtain ⟨wo,hwo⟩:∃W,W=wr:=⟨_,rfl⟩
   rw [←hwo] at HB HG ⊢
   clear hwo
   go_wp2
   go_loopw [5,7] (fun v i wr=>∃j:Nat,j≤b.length∧i=.int .i64 j∧Grow rdInt 1 (fun _=>True) wr w.heap.size 3 v (gl++((b.take j).filter fun y=>decide (x=y)).map fun _=>x)∧Below w.heap.size w wr) (fun _ i _=>b.length - (intOf i).toNat)
   case atStart=>exact ⟨0,Nat.zero_le _,rfl,by rw [List.take_zero,List.filter_nil,List.map_nil,List.append_nil];exact HG.out,HB.out⟩
   case round=>
    obtain ⟨j,hj,rfl,hG,hbel⟩:=hrel
    have HBI:=Lib.hid hbel
    have HGI:=Lib.hid hG
    clear hbel hG
    by_cases hjl:j < b.length
    ·obtain ⟨ada,rfl,-,a0⟩:=AK.out wr HBI.out
     obtain ⟨adb,rfl,-,b0⟩:=HB2.out wr HBI.out j hjl
     have j0:(0:Int)≤(j:Int):=by omega
     have j1:(j:Int) < (b.length:Int):=by omega
     have RJ:=Lib.hid (RK.out j hjl)
     have LJ:=Lib.hid (LN.out j)
     generalize b[j]=y at *
     generalize hrn:((b.take (j+1)).filter fun y=>decide (x=y)).map (fun _=>x)=rn at *
     have HRN:=Lib.hid hrn
     generalize ((b.take j).filter fun y=>decide (x=y)).map (fun _=>x)=ro at *
     obtain ⟨go,hgo⟩:∃g,g=gl++ro:=⟨_,rfl⟩
     rw [←hgo] at HGI LJ
     have HGO:=Lib.hid hgo
     clear hrn hgo
     have GW:=Lib.hid (fun (W:World) (hb:Below wr.heap.size wr W)=>HGI.out.below rdInt_good hb)
     have AW:=Lib.hid (fun (W:World) (hb:Below wr.heap.size wr W)=>keep6 hb a0)
     have za:=fun dd os=>cell_regrown (w:=wr) a0 dd os
     have zb:=fun dd os=>cell_regrown (w:=wr) b0 dd os
     have BD:=Lib.hid (fun dd os=>below_regrown wr dd os)
     by_cases he:x=y
     ·have hd:(x==y)=true:=by rw [beq_iff_eq];exact he
      have NX:=Lib.hid (show gl++rn=go++[x] by rw [RJ.out,if_pos he,←List.append_assoc,←HGO.out])
      clear he
      go_wp2_with fail
      refine wp_region_quiet_below mixed (by kernel_rfl) ?_
      repeat (go_big_quiet_step (fail))
      refine wpQuiet_nil ?_
      intro W3 hw3
      have BX:=Lib.hid (show Below wr.heap.size wr W3 from by obtain ⟨pp,e⟩:=hw3;rw [e];exact BD.out pp.d pp.os)
      have B3:=Lib.hid (bel_in HBI.out BX.out)
      have G3:=Lib.hid (GW.out W3 BX.out)
      have a3:=AW.out W3 BX.out
      clear hw3 BD za zb a0 b0 HGI
      have hE:=(show rdInt W3 (fun b=>True∧b < W3.heap.size∧u5.ownBlock≠some b) x (#[Value.int .i64 x]:Array Value).toList from rfl)
      have hn1:go.length+1≤maxLen:=by have:=LJ.out;unfold maxLen;omega
      have hn2:(go.length+1)*8≤140737488355328:=by have:=LJ.out;omega
      have hbs3:w.heap.size≤W3.heap.size:=B3.out.size
      have hG3:=G3.out
      go_wp2_with (at_builtin;refine wpList_grow1 W3 rfl _ _ 27 rfl rdInt_good (by decide) (fun _=>True) w.heap.size 3 fi _ 8 Tryz.underlying27 hi hz0 hz1 hz2 rfl u5 go rfl hG3 x _ 3 hE _ rfl rfl hn1 hn2 hbs3 ?_)
      intro v' w' hG' hgr
      have G4:=Lib.hid hG'
      have B4:=Lib.hid (grow_below hG3 hgr B3.out (Nat.le_refl _) hbs3)
      clear hG3 hgr hE hG' G3
      go_wp2
      go_roundw
      case rel=>exact ⟨j+1,by omega,by go_num,by rw [HRN.out,NX.out];exact G4.out,B4.out⟩
      case measure=>simp [intOf];omega
     ·have hd:(x==y)=false:=by rw [beq_eq_false_iff_ne];exact he
      have NX:=Lib.hid (show gl++rn=go by rw [RJ.out,if_neg he,List.append_nil,←HGO.out])
      clear he
      go_wp2_with fail
      refine wp_region_quiet_below mixed (by kernel_rfl) ?_
      repeat (go_big_quiet_step (fail))
      refine wpQuiet_nil ?_
      intro W3 hw3
      have BX:=Lib.hid (show Below wr.heap.size wr W3 from by obtain ⟨pp,e⟩:=hw3;rw [e];exact BD.out pp.d pp.os)
      have B3:=Lib.hid (bel_in HBI.out BX.out)
      have G3:=Lib.hid (GW.out W3 BX.out)
      clear hw3 BD za zb a0 b0 HGI
      go_wp2
      go_roundw
      case rel=>exact ⟨j+1,by omega,by go_num,by rw [HRN.out,NX.out];exact G3.out,B3.out⟩
      case measure=>simp [intOf];omega
    ·obtain rfl:j=b.length:=by omega
     have j0:¬(b.length:Int) < (b.length:Int):=by omega
     have NX:=Lib.hid (show gn=gl++((b.take b.length).filter fun y=>decide (x=y)).map (fun _=>x) from by rw [List.take_length];exact ST.out)
     go_wp2
     go_roundw
     case rel=>exact ⟨k+1,by omega,by go_num,by rw [HGN.out,NX.out];exact HGI.out,HBI.out⟩
     case measure=>simp [intOf];omega
  ·obtain rfl:k=a.length:=by omega
   have i0:¬(a.length:Int) < (a.length:Int):=by omega
   have RD:=Lib.hid (show rdInts wr (lt_ wr.heap.size) (bothL a b) [u5] from by have:=HG.out.read rdInt_good;rwa [List.take_length] at this)
   obtain ⟨Av,cv,hv6,-,-⟩:=id RD.out
   simp only [List.cons.injEq,and_true] at hv6
   subst hv6
   clear HG
   go_wp2
   go_ret
   exact ⟨⟨Av,cv,rfl,RD.out⟩,HB.out⟩
end Go.Proofs.YthchfkhpmgkghaaGreatDoor
