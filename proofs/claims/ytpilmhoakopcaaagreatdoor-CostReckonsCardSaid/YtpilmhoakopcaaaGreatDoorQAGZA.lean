/- What the laws rest on: E10b, E10g, E10h, E11e, E10y. -/
import Derived.ProofKit
import Derived.OpenShut
import Derived.ChangeMaps5
import Derived.SliceStrings
import Derived.Lib.SmallJoins
import Derived.Deep.Slices
import Derived.Deep.Strs
import Derived.Test.YtpilmhoakopcaaaGreatDoorQAIZA
set_option maxRecDepth 100000
set_option linter.unusedVariables false
set_option linter.unusedSimpArgs false
namespace Go.Proofs.YtpilmhoakopcaaaGreatDoor
open Go.RowKit
def setL (l:List Int) (n:Nat):List Int:=((List.range n).filter fun i:Nat=>l.contains (i:Int)).map fun i:Nat=>(i:Int)
end Go.Proofs.YtpilmhoakopcaaaGreatDoor
namespace Go.Proofs.YtpilmhoakopcaaaGreatDoor
open Go.RowKit Go.Sort
theorem contains_any10 (l:List Int) (n:Int):l.contains n=l.any fun x=>x==n:=by
 induction l with
 | nil=>rfl
 | cons a r ih=>
  rw [List.contains_cons,List.any_cons,ih]
  congr 1
  rw [Bool.eq_iff_iff,beq_iff_eq,beq_iff_eq]
  exact eq_comm
theorem setL_step (l:List Int) (k:Nat):setL l (k+1)=setL l k++(if l.contains (k:Int)=true then [(k:Int)] else []):=by
 unfold setL
 rw [List.range_succ,List.filter_append,List.map_append]
 congr 1
 by_cases h:l.contains (k:Int)=true
 ·rw [if_pos h,List.filter_cons,if_pos h];rfl
 ·rw [if_neg h,List.filter_cons,if_neg h];rfl
theorem setL_len (l:List Int) (n:Nat):(setL l n).length≤n:=by
 unfold setL
 rw [List.length_map]
 exact Nat.le_trans (List.length_filter_le _ _) (by rw [List.length_range];exact Nat.le_refl _)
theorem any_take10 {p:Int→Bool} {l:List Int} {k:Nat} (h:k < l.length):(l.take (k+1)).any p=((l.take k).any p||p l[k]):=by
 rw [List.take_succ_eq_append_getElem h,List.any_append];simp
set_option maxHeartbeats 16000000 in
theorem set11_any (A:Option Addr) (n0 c:Nat) (l:List Int) (N:Nat) (w:World) (h:rdInts w (lt_ w.heap.size) l [.slice A n0 c]) (hN:N≤1000) :
  Calls Tryz.prog 13 #[.slice A n0 c,.int .i64 (N:Int)] w fun e w'=>(∃A' c',e=.returned (.slice A' (setL l N).length c')∧rdInts w' (lt_ w'.heap.size) (setL l N) [.slice A' (setL l N).length c'])∧Below w.heap.size w w':=by
 obtain ⟨fi,hi,hz0,hz1,hz2⟩:=info_parts int9_info
 obtain ⟨rfl,hnc,hcm,-⟩:=rdInts_at h
 have hcm':c≤9223372036854775807:=hcm
 have HAT:=Lib.hid (fun (W:World) (hb:Below w.heap.size w W)=>(rdInts_at (rdInts_good.up (rdInts_good.below h hb) hb.size)).2.2.2)
 clear h hcm
 go_enter Tryz.func13,Tryz.ntmps13
 go_wp2
 go_loopw [5,6] (fun v i wr=>∃k:Nat,k≤N∧i=.int .i64 k∧Grow rdInt 1 (fun _=>True) wr w.heap.size 3 v (setL l k)∧Below w.heap.size w wr) (fun _ i _=>N - (intOf i).toNat)
 case atStart=>exact ⟨0,Nat.zero_le _,rfl,Grow.nil _ _ _ _,Below.refl _ _⟩
 case round=>
  obtain ⟨k,hk,rfl,hG,hbel⟩:=hrel
  have HB:=Lib.hid hbel
  have HG:=Lib.hid hG
  clear hbel hG
  by_cases hlt:k < N
  ·have i0:(0:Int)≤(k:Int):=by omega
   have i1:(k:Int) < (N:Int):=by omega
   have ST:=Lib.hid (setL_step l k)
   have SCx:=Lib.hid (contains_any10 l (k:Int))
   have LN:=Lib.hid (Nat.le_trans (setL_len l k) (show k≤1000 by omega))
   generalize setL l k=gl at *
   generalize hgn:setL l (k+1)=gn at *
   have HGN:=Lib.hid hgn
   clear hgn
   obtain ⟨wo,hwo⟩:∃W,W=wr:=⟨_,rfl⟩
   rw [←hwo] at HB HG ⊢
   clear hwo
   go_wp2
   go_loop [7,8] (fun f i=>∃j:Nat,j≤l.length∧i=.int .i64 j∧f=.bool ((l.take j).any fun x=>x==(k:Int))) (fun _ i=>l.length - (intOf i).toNat)
   case atStart=>exact ⟨0,Nat.zero_le _,rfl,rfl⟩
   case round=>
    obtain ⟨j,hj,rfl,rfl⟩:=hrel
    by_cases hjl:j < l.length
    ·obtain ⟨ad,rfl,-,g0⟩:=HAT.out wo HB.out j hjl
     have j0:(0:Int)≤(j:Int):=by omega
     have j1:(j:Int) < (l.length:Int):=by omega
     have TK:=Lib.hid (any_take10 (p:=fun x=>x==(k:Int)) hjl)
     generalize hq:(l.take j).any (fun x=>x==(k:Int))=q at *
     generalize hq2:(l.take (j+1)).any (fun x=>x==(k:Int))=q2 at *
     generalize hx:l[j]=x at *
     clear hq hx
     cases q
     ·go_wp2
      go_round
      case rel=>exact ⟨j+1,by omega,by go_num,by rw [hq2,TK.out];rfl⟩
      case measure=>simp [intOf];omega
     ·go_wp2
      go_round
      case rel=>exact ⟨j+1,by omega,by go_num,by rw [hq2,TK.out];rfl⟩
      case measure=>simp [intOf];omega
    ·obtain rfl:j=l.length:=by omega
     have j0:¬(l.length:Int) < (l.length:Int):=by omega
     have CC:=Lib.hid (show (l.take l.length).any (fun x=>x==(k:Int))=l.contains (k:Int) from by rw [List.take_length,SCx.out])
     generalize (l.take l.length).any (fun x=>x==(k:Int))=q at *
     cases q
     ·have NX:=Lib.hid (show gn=gl by rw [ST.out,if_neg (by rw [←CC.out];decide),List.append_nil])
      go_wp2
      go_roundw
      case rel=>exact ⟨k+1,by omega,by go_num,by rw [HGN.out,NX.out];exact HG.out,HB.out⟩
      case measure=>simp [intOf];omega
     ·have NX:=Lib.hid (show gn=gl++[(k:Int)] by rw [ST.out,if_pos CC.out.symm])
      have hE:=(show rdInt wo (fun b=>True∧b < wo.heap.size∧u5.ownBlock≠some b) (k:Int) (#[Value.int .i64 (k:Int)]:Array Value).toList from rfl)
      have hn1:gl.length+1≤maxLen:=by have:=LN.out;unfold maxLen;omega
      have hn2:(gl.length+1)*8≤140737488355328:=by have:=LN.out;omega
      have hbs3:w.heap.size≤wo.heap.size:=HB.out.size
      have hG3:=HG.out
      go_wp2_with (at_builtin;refine wpList_grow1 wo rfl _ _ 25 rfl rdInt_good (by decide) (fun _=>True) w.heap.size 3 fi _ 8 Tryz.underlying25 hi hz0 hz1 hz2 rfl u5 gl rfl hG3 (k:Int) _ 3 hE _ rfl rfl hn1 hn2 hbs3 ?_)
      intro v' w' hG' hgr
      have G4:=Lib.hid hG'
      have B4:=Lib.hid (grow_below hG3 hgr HB.out (Nat.le_refl _) hbs3)
      clear hG3 hgr hE hG'
      go_wp2
      go_roundw
      case rel=>exact ⟨k+1,by omega,by go_num,by rw [HGN.out,NX.out];exact G4.out,B4.out⟩
      case measure=>simp [intOf];omega
  ·obtain rfl:k=N:=by omega
   have i0:¬(k:Int) < (k:Int):=by omega
   have RD:=Lib.hid (HG.out.read rdInt_good)
   obtain ⟨Av,cv,hv6,-,-⟩:=HG.out.own
   subst hv6
   clear HG
   go_wp2
   go_ret
   exact ⟨⟨Av,cv,rfl,RD.out⟩,HB.out⟩
end Go.Proofs.YtpilmhoakopcaaaGreatDoor
namespace Go.Proofs.YtpilmhoakopcaaaGreatDoor
open Go.RowKit Go.WideShapes Go.ChangeShapes Go.ChangeAt Go.WideMaps Go.WideElems Go.Joins Go.Deep
section
variable {H:Type} {enc:TypeId × Value→H} {W:World}
theorem open_ints10_arg {v:Value} {d:DataW H} {p:List MemPlace} {base:Nat} (hv:Value.okWide Tryz.prog W .any base 25 v) (h:DataW.Trod enc Tryz.prog W 0 (fun _=>true) true 25 v d p) :
  ∃A n c l,v=.slice A n c∧rdInts W (lt_ W.heap.size) l [.slice A n c]∧(∀x ∈ l,(Lit.int .i64 x).wf=true):=by
 obtain ⟨a0,len,cap,rfl⟩:=okWide_slice Tryz.underlying25 hv
 obtain ⟨fuel,hf⟩:=h
 rcases open_ints Tryz.underlying25 Tryz.underlying3 (by kernel_rfl) hf with ⟨hcs,hx⟩|⟨a,len',cap',zs,hcs,_,hl,hm,hz,hx,hcell,hwz⟩
 ·simp [Value.cells] at hcs
  obtain ⟨rfl,rfl,rfl⟩:=hcs
  exact ⟨none,0,0,[],rfl,rdRow_nil _ _,by simp⟩
 ·simp [Value.cells] at hcs
  obtain ⟨rfl,rfl,rfl⟩:=hcs
  have hlz:len≤zs.length:=by rw [hz];split<;>omega
  refine ⟨some a,len,cap,zs.take len,rfl,⟨some a,cap,by rw [List.length_take,Nat.min_eq_left hlz],by rw [List.length_take];omega,hm,fun k hk=>?_⟩,fun x hx=>hwz x (List.mem_of_mem_take hx)⟩
  rw [List.length_take,Nat.min_eq_left hlz] at hk
  have hc:=hcell k (by omega)
  have hb:=World.block_lt_of_cell? W (a.add k) hc
  rw [blk_add] at hb
  refine ⟨a,[.int .i64 (zs.take len)[k]],rfl,hb,rfl,rfl,fun j u hu=>?_⟩
  have hj:j=0:=by have:=(List.getElem?_eq_some_iff.1 hu).1;simpa using this
  subst hj
  simp only [List.getElem?_cons_zero,Option.some.injEq] at hu
  rw [←hu,List.getElem_take,Nat.mul_one,Nat.add_zero,hc]
  simp [List.getElem?_eq_getElem (show k < zs.length by omega)]
end
end Go.Proofs.YtpilmhoakopcaaaGreatDoor
