/- What the laws rest on: S5e2. -/
import Derived.Test.YtbljkpbaceiaiaaGreatDoorQACZA
import Derived.Test.YtbljkpbaceiaiaaGreatDoorQAOZA
set_option maxRecDepth 100000
set_option linter.unusedVariables false
set_option linter.unusedSimpArgs false
namespace Go.Proofs.YtbljkpbaceiaiaaGreatDoor
open Go.RowKit
def begSR (s:RS) (l:List Nat):RS:=if s.o=true then ⟨setLast s.l (lastD s.l++[fdOf l]),true⟩ else ⟨s.l++[[fdOf l]],true⟩
theorem fd_of (s:ByteArray):fdOf (B s)=⟨s.extract 0 (nmOf (B s)).length,mk (vlOf (B s))⟩:=by
 unfold fdOf
 congr 1
 apply B_inj
 rw [B_mk (fun c hc=>B_lt s c (by rw [←nm_take] at hc;exact List.mem_of_mem_take hc)),B_extract,List.drop_zero,Nat.sub_zero,nm_take]
theorem RdR.two {w:World} {N r:Nat} {v x y:Value} {l:List (List Fd)} (hG:Grow rdFds 1 (fun b=>N≤b) w N 47 v l) (c0:w.cell? ⟨r,0,none⟩=some x) (f0:w.frozen? ⟨r,0,none⟩=false) (c1:w.cell? ⟨r,1,none⟩=some y) (f1:w.frozen? ⟨r,1,none⟩=false) (hr:r < N) (b:Bool) :
  RdR ((w.setCell ⟨r,0,none⟩ v).setCell ⟨r,1,none⟩ (.bool b)) N r ⟨l,b⟩:=
 ⟨by simp [f0],by simp [f1],World.cell?_setCell_same' _ _ _ (by rw [World.cell?_setCell_other _ _ _ _ (by simp),c1];rfl),v,by rw [World.cell?_setCell_other _ _ _ _ (by simp)];exact World.cell?_setCell_same' _ _ _ (by rw [c0];rfl),
  (hG.setCell rdFds_good (p:=⟨r,0,none⟩) hr (by simp only;omega) v).setCell rdFds_good (p:=⟨r,1,none⟩) hr (by simp only;omega) (.bool b)⟩
theorem one_one {S:Nat→Prop} (W:World) (n v:ByteArray) (T T':TypeId) (hS:S W.heap.size∧S (W.heap.size+1)) :
  rdStzs ((W.alloc (Obj.cells #[Value.string n,Value.string v] T)).alloc (Obj.cells #[Value.slice (some { block:=W.heap.size,off:=0 }) 1 1] T')).drew S [[⟨n,v⟩]] [.slice (some ⟨W.heap.size+1,0,none⟩) 1 1]:=by
 have h1:=old_heap (Obj.cells #[Value.slice (some { block:=W.heap.size,off:=0 }) 1 1] T') (new_heap W (Obj.cells #[Value.string n,Value.string v] T))
 have h2:=new_heap (W.alloc (Obj.cells #[Value.string n,Value.string v] T)) (Obj.cells #[Value.slice (some { block:=W.heap.size,off:=0 }) 1 1] T')
 rw [World.size_alloc] at h2
 have q1:=rd_block rdFd_good (w:=((W.alloc (Obj.cells #[Value.string n,Value.string v] T)).alloc (Obj.cells #[Value.slice (some { block:=W.heap.size,off:=0 }) 1 1] T')).drew) (S:=S) (l:=[⟨n,v⟩]) (css:=[[.string n,.string v]]) h1 hS.1 rfl rfl (fun k hk=>by
  simp only [List.length_singleton] at hk
  obtain rfl:k=0:=by omega
  exact ⟨_,rfl,rfl⟩) (by simp)
 exact rd_block rdFds_good (S:=S) (l:=[[⟨n,v⟩]]) (css:=[[.slice (some ⟨W.heap.size,0,none⟩) 1 1]]) h2 hS.2 rfl rfl (fun k hk=>by
  simp only [List.length_singleton] at hk
  obtain rfl:k=0:=by omega
  exact ⟨_,rfl,q1⟩) (by simp)
set_option maxHeartbeats 4000000 in
theorem q5begins_any (s:ByteArray) (t:RS) (N r:Nat) (w:World) (hs:s.size≤65536) (hR:RdR w N r t) (hr:r < N) (hN:N≤w.heap.size) (hne:t.o=true→t.l≠[]) (hl:t.l.length≤200) (hll:(lastD t.l).length≤40) :
  Calls Tryz.prog 72 #[.pointer (some ⟨r,0,none⟩),.string s] w fun e w'=>e=.returned (.int .i64 (begER t (B s)))∧(begER t (B s)=0→RdR w' N r (begSR t (B s)))∧Fr N r w w':=by
 obtain ⟨i0',hi',hz0',hz1',hz2'⟩:=info_parts fds_info
 obtain ⟨fi,hi,hz0,hz1,hz2⟩:=info_parts fd_info
 have hlen:=B_len s
 have hnl:=nm_le (B s)
 rw [hlen] at hnl
 have HNE:=Lib.hid hne
 have HR:=Lib.hid hR
 clear hne hR
 go_enter Tryz.func72,Tryz.ntmps72
 go_wp2
 go_loop [5] (fun i=>∃k:Nat,k≤(nmOf (B s)).length∧i=.int .i64 k) (fun i=>s.size - (intOf i).toNat)
 case atStart=>exact ⟨0,Nat.zero_le _,rfl⟩
 case round=>
  obtain ⟨k,hk,rfl⟩:=hrel
  by_cases hlt:k < s.size
  ·have NA:=Lib.hid (nm_at hk (by rw [hlen];exact hlt))
   rw [B_el] at NA
   have hb:=byte_le s k hlt
   by_cases h58:s[k].toNat=58
   ·have p1:((s[k].toNat:Int) != 58)=false:=by rw [h58];rfl
    have hk2:k=(nmOf (B s)).length:=by
     have:=NA.out
     omega
    have hB0:B (s.extract 0 k)=nmOf (B s):=by rw [B_extract,List.drop_zero,Nat.sub_zero,hk2,nm_take]
    have hsz:(s.extract 0 k).size≤maxLen:=by have:=congrArg List.length hB0;rw [B_len,←hk2] at this;unfold maxLen;omega
    have KN:=Lib.hid (fun w=>q5name_any (s.extract 0 k) w hsz)
    rw [hB0] at KN
    have p2:((k:Int)==(s.size:Int))=false:=by rw [beq_eq_false_iff_ne];omega
    have EB:=Lib.hid (show begER t (B s)=if fnB (nmOf (B s))=true then (if t.o=true then (if getV (lastD t.l) (mk (nmOf (B s)))=true then 7 else if 40≤(lastD t.l).length then 8 else 0) else if 200≤t.l.length then 8 else 0) else 5 by
     unfold begER;rw [decide_eq_true ((nm_has (B s)).2 (by rw [hlen];omega)),Bool.true_and])
    have FD:=Lib.hid (show fdOf (B s)=⟨s.extract 0 k,mk ((B s).drop (k+1)|>.dropWhile fun c=>c==32)⟩ by rw [fd_of,hk2];rfl)
    have hmn:mk (nmOf (B s))=s.extract 0 k:=by rw [←hB0,mk_B]
    rw [hmn] at EB
    clear h58 hB0 hsz hmn hk2 NA hk
    cases hf:fnB (nmOf (B s))
    ·rw [hf] at KN EB
     have X:=Lib.hid (show begER t (B s)=5 by rw [EB.out];rfl)
     clear hf
     go_wp2_with (go_at_call 95;(with_reducible refine (KN.out _).mono ?_);rintro e w' ⟨rfl,rfl⟩)
     go_ret
     exact ⟨by rw [X.out];try rfl,fun h=>absurd h (by rw [X.out];decide),Fr.refl _ _ _⟩
    ·rw [hf] at KN EB
     have X:=Lib.hid (show begER t (B s)=(if t.o=true then (if getV (lastD t.l) (s.extract 0 k)=true then 7 else if 40≤(lastD t.l).length then 8 else 0) else if 200≤t.l.length then 8 else 0) by rw [EB.out];rfl)
     clear hf EB
     go_wp2_with (go_at_call 95;(with_reducible refine (KN.out _).mono ?_);rintro e w' ⟨rfl,rfl⟩)
     go_loop [7] (fun i=>∃q:Nat,k+1≤q∧q≤s.size∧i=.int .i64 q∧BlI (B s) (k+1) q) (fun i=>s.size - (intOf i).toNat)
     case atStart=>exact ⟨k+1,Nat.le_refl _,by omega,by go_num,rfl⟩
     case round=>
      obtain ⟨q,hq1,hq2,rfl,hbl⟩:=hrel
      have HBL:=Lib.hid hbl
      clear hbl
      by_cases hg:∃h:q < s.size,s[q].toNat=32
      ·obtain ⟨hlq,h32⟩:=hg
       have hb2:=byte_le s q hlq
       have p3:((s[q].toNat:Int)==32)=true:=by rw [h32];rfl
       have Y:=Lib.hid (bl_on HBL.out (by rw [hlen];exact hlq) (by rw [B_el];exact h32))
       clear h32
       go_wp2
       go_round
       case rel=>exact ⟨q+1,by omega,by omega,by go_num,Y.out⟩
       case measure=>simp [intOf];omega
      ·have Y:=Lib.hid (show fdOf (B s)=⟨s.extract 0 k,s.extract q s.size⟩ by
        rw [FD.out,bl_off HBL.out (fun hk=>by rw [B_el];intro h;exact hg ⟨by rw [hlen] at hk;exact hk,h⟩)]
        congr 1
        apply B_inj
        rw [B_mk (fun c hc=>B_lt s c (List.mem_of_mem_drop hc)),B_extract,List.take_of_length_le (by rw [List.length_drop,hlen];omega)])
       clear HBL FD
       rcases (by
        by_cases hlq:q < s.size
        ·exact Or.inl ⟨hlq,by rw [beq_eq_false_iff_ne];intro h;exact hg ⟨hlq,by omega⟩⟩
        ·exact Or.inr (show q=s.size by omega):(∃h:q < s.size,((s[q].toNat:Int)==32)=false)∨q=s.size) with ⟨hlq,p3⟩|hqe
       all_goals clear hg
       ·have hb2:=byte_le s q hlq
        have i0:(0:Int)≤(k:Int):=by omega
        have i1:(k:Int)≤(s.size:Int):=by omega
        go_wp2
        first|(go_region_held3 (fun _=>True) (trivial) (fail))|fail
        obtain ⟨W1,hW1⟩:∃W1,W1=(w.alloc (Obj.cells #[Value.string (s.extract 0 k),Value.string (s.extract q s.size)] 58)).drew:=⟨_,rfl⟩
        have z1:W1.heap.size=w.heap.size+1:=by rw [hW1];simp
        have b0:W1.cell? ⟨w.heap.size,0,none⟩=some (.string (s.extract 0 k)):=by rw [hW1];simp [go_sem]
        have b1:W1.cell? ⟨w.heap.size,1,none⟩=some (.string (s.extract q s.size)):=by rw [hW1];simp [go_sem]
        have hbw:Below w.heap.size w W1:=by rw [hW1];exact belD ((Below.refl _ w).alloc (Nat.le_refl _) _) 1
        rw [←hW1]
        clear hW1
        obtain ⟨f0',f1',c1',v,c0',hG'⟩:=HR.out
        have hltw:=hG'.lt
        obtain ⟨x0,y0⟩:=blk_of (hbw.block r (by omega)) 0
        obtain ⟨x1,y1⟩:=blk_of (hbw.block r (by omega)) 1
        have f0:=y0.trans f0'
        have f1:=y1.trans f1'
        have c0:=x0.trans c0'
        have c1:=x1.trans c1'
        have hG:=hG'.below rdFds_good hbw
        clear x0 y0 x1 y1 f0' f1' c0' c1' hG'
        have HF:=Lib.hid (Fr.of (N:=N) (r:=r) (hbw.mono hN) (Nat.le_of_lt hr))
        clear hbw
        obtain ⟨A,cp,rfl,hnc,hcm⟩:=hG.own
        have hcm':cp≤9223372036854775807:=hcm
        clear hcm
        have HLT:=Lib.hid hltw
        clear hltw
        generalize (s.extract q s.size)=val at *
        generalize s.extract 0 k=nam at *
        have GG:=Lib.hid hG
        clear hG
        have Z1:=Lib.hid z1
        clear z1
        have SO:=Lib.hid (rfl:t.o=t.o)
        cases ho:t.o
        ·rw [ho] at c1 X
         have SR:=Lib.hid (show begSR t (B s)=⟨t.l++[[⟨nam,val⟩]],true⟩ by unfold begSR;rw [if_neg (by rw [ho];decide),Y.out])
         clear ho
         by_cases h200:200≤t.l.length
         ·have X2:=Lib.hid (show begER t (B s)=8 by rw [X.out,if_pos h200];rfl)
          have p9:(200:Int)≤(t.l.length:Int):=by omega
          clear h200
          go_wp2
          go_ret
          exact ⟨by rw [X2.out];try rfl,fun h=>absurd h (by rw [X2.out];decide),HF.out⟩
         ·have X2:=Lib.hid (show begER t (B s)=0 by rw [X.out,if_neg h200];rfl)
          have p9:¬(200:Int)≤(t.l.length:Int):=by omega
          have hB3:Below W1.heap.size W1 ((W1.alloc (Obj.cells #[Value.string nam,Value.string val] 58)).alloc (Obj.cells #[Value.slice (some { block:=W1.heap.size,off:=0 }) 1 1] 47)).drew:=belD (((Below.refl _ _).alloc (Nat.le_refl _) _).alloc (by simp) _) 1
          have hG3:=GG.out.below rdFds_good hB3
          have hX3:=one_one (S:=fun b=>W1.heap.size≤b∧b < ((W1.alloc (Obj.cells #[Value.string nam,Value.string val] 58)).alloc (Obj.cells #[Value.slice (some { block:=W1.heap.size,off:=0 }) 1 1] 47)).drew.heap.size) W1 nam val 58 47 (by simp;omega)
          have hn1:t.l.length+1≤maxLen:=by unfold maxLen;omega
          have hn2:(t.l.length+1)*24≤140737488355328:=by omega
          have hS3:∀b,(W1.heap.size≤b∧b < ((W1.alloc (Obj.cells #[Value.string nam,Value.string val] 58)).alloc (Obj.cells #[Value.slice (some { block:=W1.heap.size,off:=0 }) 1 1] 47)).drew.heap.size)→N≤b∧b < ((W1.alloc (Obj.cells #[Value.string nam,Value.string val] 58)).alloc (Obj.cells #[Value.slice (some { block:=W1.heap.size,off:=0 }) 1 1] 47)).drew.heap.size∧(Value.slice A t.l.length cp).ownBlock≠some b:=fun b hb=>⟨by have:=Z1.out;omega,hb.2,fun hh=>by have:=(GG.out.lt b hh).2;omega⟩
          have hbs3:N≤((W1.alloc (Obj.cells #[Value.string nam,Value.string val] 58)).alloc (Obj.cells #[Value.slice (some { block:=W1.heap.size,off:=0 }) 1 1] 47)).drew.heap.size:=by have:=Z1.out;simp;omega
          have HF3:=Lib.hid (HF.out.trans (Fr.of (N:=N) (r:=r) (hB3.mono (by have:=Z1.out;omega)) (Nat.le_of_lt hr)))
          obtain ⟨a0,a1⟩:=blk_of (hB3.block r (by have:=Z1.out;omega)) 0
          obtain ⟨a2,a3⟩:=blk_of (hB3.block r (by have:=Z1.out;omega)) 1
          have C3:=Lib.hid (And.intro (a0.trans c0) (And.intro (a1.trans f0) (And.intro (a2.trans c1) (a3.trans f1))))
          have KP:=Lib.hid (fun w2 (hg:((W1.alloc (Obj.cells #[Value.string nam,Value.string val] 58)).alloc (Obj.cells #[Value.slice (some { block:=W1.heap.size,off:=0 }) 1 1] 47)).drew.grownBy w2 (Value.slice A t.l.length cp).ownBlock)=>
           (show w2.heap.size≠W1.heap.size∧w2.cell? ⟨r,0,none⟩=some (.slice A t.l.length cp)∧w2.frozen? ⟨r,0,none⟩=false∧w2.cell? ⟨r,1,none⟩=some (.bool false)∧w2.frozen? ⟨r,1,none⟩=false∧w2.cell? ⟨w.heap.size,0,none⟩=some (.string nam)∧w2.cell? ⟨w.heap.size,1,none⟩=some (.string val) from by
            have e1:=hg.block r (by have:=Z1.out;simp;omega) (fun hh=>by have:=(HLT.out r hh.symm).1;omega)
            have e2:=hg.size
            simp at e2
            have e4:=hg.block w.heap.size (by have:=Z1.out;simp;omega) (fun hh=>by have:=(HLT.out _ hh.symm).2;omega)
            have e3:=hB3.block w.heap.size (by have:=Z1.out;omega)
            exact ⟨by omega,((blk_of e1 0).1.trans a0).trans c0,((blk_of e1 0).2.trans a1).trans f0,((blk_of e1 1).1.trans a2).trans c1,((blk_of e1 1).2.trans a3).trans f1,((blk_of e4 0).1.trans (blk_of e3 0).1).trans b0,((blk_of e4 1).1.trans (blk_of e3 1).1).trans b1⟩))
          have KA:=Lib.hid (fun (W:World) (hb:Below W1.heap.size W1 W)=>(show W.cell? ⟨r,0,none⟩=some (.slice A t.l.length cp)∧W.cell? ⟨w.heap.size,0,none⟩=some (.string nam)∧W.cell? ⟨w.heap.size,1,none⟩=some (.string val) from
           ⟨(blk_of (hb.block r (by have:=Z1.out;omega)) 0).1.trans c0,(blk_of (hb.block w.heap.size (by have:=Z1.out;omega)) 0).1.trans b0,(blk_of (hb.block w.heap.size (by have:=Z1.out;omega)) 1).1.trans b1⟩))
          have BA:=Lib.hid (show Below W1.heap.size W1 (W1.alloc (Obj.cells #[Value.string nam,Value.string val] 58)).drew from belD ((Below.refl _ _).alloc (Nat.le_refl _) _) 1)
          have BB:=Lib.hid hB3
          clear a0 a1 a2 a3 hB3
          clear h200
          go_wp2
          refine wp_region_noPanic ?_
          refine wp_region_L (fun W=>W.cell? ⟨r,0,none⟩=some (.slice A t.l.length cp)∧W.cell? ⟨w.heap.size,0,none⟩=some (.string nam)∧W.cell? ⟨w.heap.size,1,none⟩=some (.string val)) 11 (by kernel_rfl) ⟨c0,b0,b1⟩ (fun hHeld=>?_)
          refine wpAnyL_take (i:=0) (v:=?_) [10,9] rfl (by kernel_rfl) (by kernel_rfl) (by kernel_rfl) (fun _ _ _ h=>h) (by kernel_rfl) (by kernel_rfl) (by kernel_rfl) (Or.inl ⟨by rfl,?_⟩) (by assumption) ?_
          rotate_left
          ·intro w hSw
           try dsimp only at hSw
           go_simp
           first|done|with_reducible rfl
          try simp only [Act.put,List.setIfInBounds_toArray,List.set_cons_zero,List.set_cons_succ]
          refine wpAnyL_take (i:=1) (v:=?_) [8,4,3,2] rfl (by kernel_rfl) (by kernel_rfl) (by kernel_rfl) (fun _ _ _ h=>h) (by kernel_rfl) (by kernel_rfl) (by kernel_rfl) (Or.inl ⟨by rfl,?_⟩) (by assumption) ?_
          rotate_left
          ·intro w hSw
           try dsimp only at hSw
           go_simp
           first|done|with_reducible rfl
          try simp only [Act.put,List.setIfInBounds_toArray,List.set_cons_zero,List.set_cons_succ]
          refine wpAnyL_take (i:=2) (v:=?_) [8,4,3] rfl (by kernel_rfl) (by kernel_rfl) (by kernel_rfl) (fun _ _ _ h=>h) (by kernel_rfl) (by kernel_rfl) (by kernel_rfl) (Or.inl ⟨by rfl,?_⟩) (by assumption) ?_
          rotate_left
          ·intro w hSw
           try dsimp only at hSw
           go_simp
           first|done|with_reducible rfl
          try simp only [Act.put,List.setIfInBounds_toArray,List.set_cons_zero,List.set_cons_succ]
          refine wpAnyL_take (i:=3) (v:=?_) [8,4] rfl (by kernel_rfl) (by kernel_rfl) (by kernel_rfl) (fun _ _ _ h=>h) (by kernel_rfl) (by kernel_rfl) (by kernel_rfl) (Or.inl ⟨by rfl,?_⟩) (by assumption) ?_
          rotate_left
          ·intro w hSw
           try dsimp only at hSw
           go_simp
           first|done|with_reducible rfl
          try simp only [Act.put,List.setIfInBounds_toArray,List.set_cons_zero,List.set_cons_succ]
          refine wpAnyL_take (i:=4) (v:=?_) [8] rfl (by kernel_rfl) (by kernel_rfl) (by kernel_rfl) (fun _ _ _ h=>h) (by kernel_rfl) (by kernel_rfl) (by kernel_rfl) (Or.inl ⟨by rfl,?_⟩) (by assumption) ?_
          rotate_left
          ·intro w hSw
           try dsimp only at hSw
           go_simp
           first|done|with_reducible rfl
          try simp only [Act.put,List.setIfInBounds_toArray,List.set_cons_zero,List.set_cons_succ]
          refine wpAnyL_take (i:=5) (v:=?_) [8,7,6] rfl (by kernel_rfl) (by kernel_rfl) (by kernel_rfl) (fun _ _ _ h=>h) (by kernel_rfl) (by kernel_rfl) (by kernel_rfl) (Or.inl ⟨by rfl,?_⟩) (by assumption) ?_
          rotate_left
          ·intro w hSw
           try dsimp only at hSw
           go_simp
           first|done|with_reducible rfl
          try simp only [Act.put,List.setIfInBounds_toArray,List.set_cons_zero,List.set_cons_succ]
          refine wpAnyL_one (i:=6) (by kernel_rfl) rfl (fun K hK=>?_)
          go_simp
          refine hK.out _ _ (KA.out _ BA.out) (fun hHeld=>?_)
          clear hK K
          try simp only [Act.put,List.setIfInBounds_toArray,List.set_cons_zero,List.set_cons_succ]
          refine wpAnyL_one (i:=7) (by kernel_rfl) rfl (fun K hK=>?_)
          go_simp
          refine hK.out _ _ (KA.out _ BB.out) (fun hHeld=>?_)
          clear hK K
          try simp only [Act.put,List.setIfInBounds_toArray,List.set_cons_zero,List.set_cons_succ]
          refine wpAnyL_one (i:=8) (by kernel_rfl) rfl (fun K hK=>?_)
          refine step_growN _ rfl _ _ 51 51 rfl rdFds_good (by decide) (fun b=>N≤b) N 47 47 i0' _ 24 Tryz.underlying51 Tryz.underlying51 hi' hz0' hz1' hz2' rfl _ t.l rfl hG3 _ _ _ _ _ rfl hX3 hS3 hn1 hn2 hbs3 ?_
          intro v' w2 hG4 hg4 _
          have HF4:=Lib.hid (HF3.out.trans (Fr.of (N:=N) (r:=r) (grow_below hG3 hg4 (Below.refl N _) (Nat.le_refl _) hbs3) (Nat.le_of_lt hr)))
          obtain ⟨A2,cp2,rfl,_,_⟩:=hG4.own
          rw [show (t.l++[[(⟨nam,val⟩:Fd)]]).length=t.l.length+1 by simp] at hG4
          obtain ⟨hne2,c2,f2,c3,f3,d2,d3⟩:=KP.out _ hg4
          refine hK.out _ _ ⟨c2,d2,d3⟩ (fun hHeld=>?_)
          clear hK K
          try simp only [Act.put,List.setIfInBounds_toArray,List.set_cons_zero,List.set_cons_succ]
          refine wpAnyL_take (i:=9) (v:=?_) [10] rfl (by kernel_rfl) (by kernel_rfl) (by kernel_rfl) (fun _ _ _ h=>h) (by kernel_rfl) (by kernel_rfl) (by kernel_rfl) (Or.inl ⟨by rfl,?_⟩) (by assumption) ?_
          rotate_left
          ·intro w hSw
           try dsimp only at hSw
           go_simp
           first|done|with_reducible rfl
          try simp only [Act.put,List.setIfInBounds_toArray,List.set_cons_zero,List.set_cons_succ]
          refine wpAnyL_take (i:=10) (v:=?_) [] rfl (by kernel_rfl) (by kernel_rfl) (by kernel_rfl) (fun _ _ _ h=>h) (by kernel_rfl) (by kernel_rfl) (by kernel_rfl) (Or.inl ⟨by rfl,?_⟩) (by assumption) ?_
          rotate_left
          ·intro w hSw
           try dsimp only at hSw
           go_simp
           first|done|with_reducible rfl
          try simp only [Act.put,List.setIfInBounds_toArray,List.set_cons_zero,List.set_cons_succ]
          refine wpAnyL_last (by kernel_rfl) rfl (by kernel_rfl) (fun K hK=>?_)
          go_simp
          refine hK.out _ _ ?_
          clear hK K
          refine NoPanic.normal ?_
          have hbr:=(Nat.le_of_lt hr)
          have RR:=Lib.hid (RdR.two hG4 c2 f2 c3 f3 hr true)
          have FF:=Lib.hid ((HF4.out.set (p:=⟨r,0,none⟩) (.inl rfl) hbr (.slice A2 (t.l.length+1) cp2)).set (p:=⟨r,1,none⟩) (.inl rfl) hbr (.bool true))
          clear hG4 hg4 hG3 hX3 hS3
          go_wp2
          go_ret
          exact ⟨by rw [X2.out];try rfl,fun _=>by rw [SR.out];exact RR.out,FF.out⟩
        ·have hne:=HNE.out ho
         rw [ho] at c1 X
         have SR:=Lib.hid (show begSR t (B s)=⟨setLast t.l (lastD t.l++[⟨nam,val⟩]),t.o⟩ by unfold begSR;rw [if_pos ho,Y.out,ho])
         have HO:=Lib.hid ho
         clear ho
         obtain ⟨m,hmt⟩:∃m,t.l.length=m+1:=⟨t.l.length - 1,by have:=List.length_pos_iff.2 hne;omega⟩
         have hml:m < t.l.length:=by omega
         obtain ⟨ad,A',c',hA,had,cm,hrl⟩:=(rdStzs_at (GG.out.read rdFds_good)).2.2.2 m hml
         subst hA
         have hla:=lastD_at hmt
         rw [←hla] at cm hrl
         clear hla hne
         have HMT:=Lib.hid hmt
         have w1m:IntKind.i64.wrap ((t.l.length:Int) - 1)=(m:Int):=by rw [hmt];rw [IntWalk.i64_in _ (by omega)];omega
         have i2:(0:Int)≤(m:Int):=by omega
         have i3:(m:Int) < (t.l.length:Int):=by omega
         have hcl:=(rdFds_at hrl).2.1
         have hcm2:c'≤9223372036854775807:=(rdFds_at hrl).2.2.1
         have RR1:=Lib.hid (show RdR W1 N r t from ⟨f0,f1,by rw [c1,HO.out],_,c0,GG.out⟩)
         have KG:=Lib.hid (fun nq=>q5get_any _ _ _ (lastD t.l) nam (W1.drewN nq) (rdFds_good.below hrl (belD (Below.refl _ W1) nq)))
         have HRL:=Lib.hid hrl
         clear hrl hmt
         generalize hlast:lastD t.l=last at *
         have HLAST:=Lib.hid hlast
         clear hlast
         cases hgv:getV last nam
         ·rw [hgv] at KG X
          clear hgv
          by_cases h40:40≤last.length
          ·have X2:=Lib.hid (show begER t (B s)=8 by rw [X.out,if_pos rfl,if_neg (by decide),if_pos h40])
           have p9:(40:Int)≤(last.length:Int):=by omega
           clear h40
           go_wp2
           go_quiet (fail)
           go_wp2_with (go_at_call 50;(with_reducible refine (KG.out _).mono ?_);rintro e w' ⟨rfl,rfl⟩)
           go_ret
           exact ⟨by rw [X2.out];try rfl,fun h=>absurd h (by rw [X2.out];decide),HF.out.drewN _⟩
          ·have X2:=Lib.hid (show begER t (B s)=0 by rw [X.out,if_pos rfl,if_neg (by decide),if_neg h40])
           have p9:¬(40:Int)≤(last.length:Int):=by omega
           have hm1:([]:List Fd).length+last.length≤maxLen:=by simp only [List.length_nil];unfold maxLen;omega
           have hm2:(([]:List Fd).length+last.length)*32≤140737488355328:=by simp only [List.length_nil];omega
           have hm3':last.length+([(⟨nam,val⟩:Fd)]).length≤maxLen:=by simp only [List.length_singleton];unfold maxLen;omega
           have hm4:(last.length+([(⟨nam,val⟩:Fd)]).length)*32≤140737488355328:=by simp only [List.length_singleton];omega
           go_wp2
           go_quiet (fail)
           go_wp2_with (go_at_call 50;(with_reducible refine (KG.out _).mono ?_);rintro e W2 ⟨rfl,hW2⟩)
           have hb12:Below W1.heap.size W1 W2:=by rw [←hW2];exact belD (Below.refl _ W1) _
           have hz12:W2.heap.size=W1.heap.size:=by rw [←hW2];rfl
           have d0:W2.cell? ⟨r,0,none⟩=some (.slice (some ad) t.l.length cp):=by rw [←hW2];exact c0
           have e0:W2.cell? ⟨w.heap.size,0,none⟩=some (.string nam):=by rw [←hW2];exact b0
           have e1:W2.cell? ⟨w.heap.size,1,none⟩=some (.string val):=by rw [←hW2];exact b1
           have CM:=Lib.hid (show W2.cell? (ad.add m)=some (.slice A' last.length c')∧W2.frozen? (ad.add m)=false∧ad.block < W2.heap.size from ⟨by rw [←hW2];exact cm,by rw [←hW2];exact GG.out.frz m,by rw [hz12];exact (GG.out.spot).2.2.1⟩)
           clear hW2
           have RR2:=Lib.hid (RR1.out.below hb12 (by have:=Z1.out;omega))
           have HF2:=Lib.hid (HF.out.trans (Fr.of (N:=N) (r:=r) (hb12.mono (by have:=Z1.out;omega)) (Nat.le_of_lt hr)))
           have hx2:=(show rdFds W2 (lt_ W2.heap.size) last [.slice A' last.length c'] from by rw [hz12];exact rdFds_good.below HRL.out hb12)
           have hN2:N≤W2.heap.size:=by have:=Z1.out;omega
           have hmt:=HMT.out
           have KS:=Lib.hid (fun (W:World) (hb:Below W2.heap.size W2 W)=>(show W.cell? ⟨r,0,none⟩=some (.slice (some ad) t.l.length cp)∧W.cell? ⟨w.heap.size,0,none⟩=some (.string nam)∧W.cell? ⟨w.heap.size,1,none⟩=some (.string val) from
            ⟨(blk_of (hb.block r (by omega)) 0).1.trans d0,(blk_of (hb.block w.heap.size (by have:=Z1.out;omega)) 0).1.trans e0,(blk_of (hb.block w.heap.size (by have:=Z1.out;omega)) 1).1.trans e1⟩))
           have AA:=Lib.hid (apA hx2)
           have AB:=Lib.hid (apB nam val hx2)
           have AC:=Lib.hid (apC nam val hx2)
           have BC:=Lib.hid (show Below W2.heap.size W2 (W2.alloc (Obj.cells #[Value.string nam,Value.string val] 58)).drew from belD ((Below.refl _ _).alloc (Nat.le_refl _) _) 1)
           clear hx2 hb12 hz12 b0 b1 c0 c1 f0 f1 cm
           have HM:=Lib.hid hmt
           clear hmt
           go_wp2
           refine wp_region_noPanic ?_
           refine wp_region_L (fun W=>W.cell? ⟨r,0,none⟩=some (.slice (some ad) t.l.length cp)∧W.cell? ⟨w.heap.size,0,none⟩=some (.string nam)∧W.cell? ⟨w.heap.size,1,none⟩=some (.string val)) 17 (by kernel_rfl) (KS.out _ (belD (Below.refl _ _) 1)) (fun hHeld=>?_)
           refine wpAnyL_take (i:=0) (v:=?_) [16,3,2,1] rfl (by kernel_rfl) (by kernel_rfl) (by kernel_rfl) (fun _ _ _ h=>h) (by kernel_rfl) (by kernel_rfl) (by kernel_rfl) (Or.inl ⟨by rfl,?_⟩) (by assumption) ?_
           rotate_left
           ·intro w hSw
            try dsimp only at hSw
            go_simp
            first|done|with_reducible rfl
           try simp only [Act.put,List.setIfInBounds_toArray,List.set_cons_zero,List.set_cons_succ]
           refine wpAnyL_take (i:=1) (v:=?_) [16,3,2] rfl (by kernel_rfl) (by kernel_rfl) (by kernel_rfl) (fun _ _ _ h=>h) (by kernel_rfl) (by kernel_rfl) (by kernel_rfl) (Or.inl ⟨by rfl,?_⟩) (by assumption) ?_
           rotate_left
           ·intro w hSw
            try dsimp only at hSw
            go_simp
            first|done|with_reducible rfl
           try simp only [Act.put,List.setIfInBounds_toArray,List.set_cons_zero,List.set_cons_succ]
           refine wpAnyL_take (i:=2) (v:=?_) [16,3] rfl (by kernel_rfl) (by kernel_rfl) (by kernel_rfl) (fun _ _ _ h=>h) (by kernel_rfl) (by kernel_rfl) (by kernel_rfl) (Or.inl ⟨by rfl,?_⟩) (by assumption) ?_
           rotate_left
           ·intro w hSw
            try dsimp only at hSw
            go_simp
            first|done|with_reducible rfl
           try simp only [Act.put,List.setIfInBounds_toArray,List.set_cons_zero,List.set_cons_succ]
           refine wpAnyL_take (i:=3) (v:=?_) [16] rfl (by kernel_rfl) (by kernel_rfl) (by kernel_rfl) (fun _ _ _ h=>h) (by kernel_rfl) (by kernel_rfl) (by kernel_rfl) (Or.inl ⟨by rfl,?_⟩) (by assumption) ?_
           rotate_left
           ·intro w hSw
            try dsimp only at hSw
            go_simp
            first|done|with_reducible rfl
           try simp only [Act.put,List.setIfInBounds_toArray,List.set_cons_zero,List.set_cons_succ]
           refine wpAnyL_take (i:=4) (v:=?_) [16,9,8,7,6,5] rfl (by kernel_rfl) (by kernel_rfl) (by kernel_rfl) (fun _ _ _ h=>h) (by kernel_rfl) (by kernel_rfl) (by kernel_rfl) (Or.inl ⟨by rfl,?_⟩) (by assumption) ?_
           rotate_left
           ·intro w hSw
            try dsimp only at hSw
            go_simp
            first|done|with_reducible rfl
           try simp only [Act.put,List.setIfInBounds_toArray,List.set_cons_zero,List.set_cons_succ]
           refine wpAnyL_take (i:=5) (v:=?_) [16,9,8,7,6] rfl (by kernel_rfl) (by kernel_rfl) (by kernel_rfl) (fun _ _ _ h=>h) (by kernel_rfl) (by kernel_rfl) (by kernel_rfl) (Or.inl ⟨by rfl,?_⟩) (by assumption) ?_
           rotate_left
           ·intro w hSw
            try dsimp only at hSw
            go_simp
            first|done|with_reducible rfl
           try simp only [Act.put,List.setIfInBounds_toArray,List.set_cons_zero,List.set_cons_succ]
           refine wpAnyL_take (i:=6) (v:=?_) [16,9,8,7] rfl (by kernel_rfl) (by kernel_rfl) (by kernel_rfl) (fun _ _ _ h=>h) (by kernel_rfl) (by kernel_rfl) (by kernel_rfl) (Or.inl ⟨by rfl,?_⟩) (by assumption) ?_
           rotate_left
           ·intro w hSw
            try dsimp only at hSw
            go_simp
            first|done|with_reducible rfl
           try simp only [Act.put,List.setIfInBounds_toArray,List.set_cons_zero,List.set_cons_succ]
           refine wpAnyL_take (i:=7) (v:=?_) [16,9,8] rfl (by kernel_rfl) (by kernel_rfl) (by kernel_rfl) (fun _ _ _ h=>h) (by kernel_rfl) (by kernel_rfl) (by kernel_rfl) (Or.inl ⟨by rfl,?_⟩) (by assumption) ?_
           rotate_left
           ·intro w hSw
            try dsimp only at hSw
            go_simp
            first|done|with_reducible rfl
           try simp only [Act.put,List.setIfInBounds_toArray,List.set_cons_zero,List.set_cons_succ]
           refine wpAnyL_take (i:=8) (v:=?_) [16,9] rfl (by kernel_rfl) (by kernel_rfl) (by kernel_rfl) (fun _ _ _ h=>h) (by kernel_rfl) (by kernel_rfl) (by kernel_rfl) (Or.inl ⟨by rfl,?_⟩) (by assumption) ?_
           rotate_left
           ·intro w hSw
            try dsimp only at hSw
            go_simp
            first|done|with_reducible rfl
           try simp only [Act.put,List.setIfInBounds_toArray,List.set_cons_zero,List.set_cons_succ]
           refine wpAnyL_take (i:=9) (v:=?_) [16] rfl (by kernel_rfl) (by kernel_rfl) (by kernel_rfl) (fun _ _ _ h=>h) (by kernel_rfl) (by kernel_rfl) (by kernel_rfl) (Or.inl ⟨by rfl,?_⟩) (by assumption) ?_
           rotate_left
           ·intro w hSw
            try dsimp only at hSw
            go_simp
            first|done|with_reducible rfl
           try simp only [Act.put,List.setIfInBounds_toArray,List.set_cons_zero,List.set_cons_succ]
           refine wpAnyL_take (i:=11) (v:=?_) [15,12] rfl (by kernel_rfl) (by kernel_rfl) (by kernel_rfl) (fun _ _ _ h=>h) (by kernel_rfl) (by kernel_rfl) (by kernel_rfl) (Or.inl ⟨by rfl,?_⟩) (by assumption) ?_
           rotate_left
           ·intro w hSw
            try dsimp only at hSw
            go_simp
            first|done|with_reducible rfl
           try simp only [Act.put,List.setIfInBounds_toArray,List.set_cons_zero,List.set_cons_succ]
           refine wpAnyL_take (i:=13) (v:=?_) [15,14] rfl (by kernel_rfl) (by kernel_rfl) (by kernel_rfl) (fun _ _ _ h=>h) (by kernel_rfl) (by kernel_rfl) (by kernel_rfl) (Or.inl ⟨by rfl,?_⟩) (by assumption) ?_
           rotate_left
           ·intro w hSw
            try dsimp only at hSw
            go_simp
            first|done|with_reducible rfl
           try simp only [Act.put,List.setIfInBounds_toArray,List.set_cons_zero,List.set_cons_succ]
           refine wpAnyL_two (i:=10) (k:=14) (by kernel_rfl) rfl rfl (fun K hK=>?_) (fun K hK=>?_)
           ·go_simp
            refine hK.out _ _ (KS.out _ AA.out.bel) (fun hHeld=>?_)
            clear hK K
            try simp only [Act.put,List.setIfInBounds_toArray,List.set_cons_zero,List.set_cons_succ]
            refine wpAnyL_two (i:=12) (k:=14) (by kernel_rfl) rfl rfl (fun K hK=>?_) (fun K hK=>?_)
            ·refine step_growN _ rfl _ _ 47 47 rfl rdFd_good (by decide) (fun _=>True) W2.heap.size 58 58 fi (.agg #[.string { data:=#[] },.string { data:=#[] }]) 32 Tryz.underlying47 Tryz.underlying47 hi hz0 hz1 hz2 rfl _ _ rfl AA.out.g _ _ _ _ _ rfl AA.out.x AA.out.s hm1 hm2 AA.out.bs ?_
             intro v3 w3 hG3 hg3 hm3
             have B3:=Lib.hid (ap_next AA.out hG3 hg3).2
             have A2:=Lib.hid (ap2A nam val AA.out hG3 hg3)
             obtain ⟨A3,c3',rfl,_,_⟩:=hG3.own
             clear hG3 hg3 hm3
             refine hK.out _ _ (KS.out _ B3.out) (fun hHeld=>?_)
             clear hK K
             try simp only [Act.put,List.setIfInBounds_toArray,List.set_cons_zero,List.set_cons_succ]
             refine wpAnyL_one (i:=14) (by kernel_rfl) rfl (fun K hK=>?_)
             go_simp
             refine hK.out _ _ (KS.out _ A2.out.bel) (fun hHeld=>?_)
             clear hK K
             try simp only [Act.put,List.setIfInBounds_toArray,List.set_cons_zero,List.set_cons_succ]
             refine wpAnyL_one (i:=15) (by kernel_rfl) rfl (fun K hK=>?_)
             refine step_growN _ rfl _ _ 47 47 rfl rdFd_good (by decide) (fun _=>True) W2.heap.size 58 58 fi (.agg #[.string { data:=#[] },.string { data:=#[] }]) 32 Tryz.underlying47 Tryz.underlying47 hi hz0 hz1 hz2 rfl _ _ rfl A2.out.g _ _ _ _ _ rfl A2.out.x A2.out.s hm3' hm4 A2.out.bs ?_
             intro v5 w5 hG5 hg5 _
             have EN:=Lib.hid (ap_end A2.out hG5 hg5)
             clear hG5 hg5
             obtain ⟨A5,c5,hv5,_⟩:=id EN.out.2
             simp only [List.cons.injEq,and_true] at hv5
             subst hv5
             refine hK.out _ _ (KS.out _ EN.out.1) (fun hHeld=>?_)
             clear hK K
             try simp only [Act.put,List.setIfInBounds_toArray,List.set_cons_zero,List.set_cons_succ]
             refine wpAnyL_take (i:=16) (v:=?_) [] rfl (by kernel_rfl) (by kernel_rfl) (by kernel_rfl) (fun _ _ _ h=>h) (by kernel_rfl) (by kernel_rfl) (by kernel_rfl) (Or.inl ⟨by rfl,?_⟩) (by assumption) ?_
             rotate_left
             ·intro w hSw
              try dsimp only at hSw
              go_simp
              first|done|with_reducible rfl
             try simp only [Act.put,List.setIfInBounds_toArray,List.set_cons_zero,List.set_cons_succ]
             have cm5:=(World.cell?_of_block (w:=W2) (w':=w5) (a:=ad.add m) (by rw [blk_add];exact EN.out.1.block _ CM.out.2.2)).trans CM.out.1
             have fm5:=(World.frozen?_of_block (w:=W2) (w':=w5) (a:=ad.add m) (by rw [blk_add];exact EN.out.1.block _ CM.out.2.2)).trans CM.out.2.1
             refine wpAnyL_last (by kernel_rfl) rfl (by kernel_rfl) (fun K hK=>?_)
             go_simp
             refine hK.out _ _ ?_
             clear hK K
             refine NoPanic.normal ?_
             have FIN:=Lib.hid (RdR.setlast RR2.out hr hN2 d0 HM.out EN.out.1 EN.out.2)
             rw [show (last++[(⟨nam,val⟩:Fd)]).length=last.length+1 by simp] at FIN
             go_wp2
             go_ret
             exact ⟨by rw [X2.out];try rfl,fun _=>by rw [SR.out];exact FIN.out.1,HF2.out.trans FIN.out.2⟩
            ·go_simp
             refine hK.out _ _ (KS.out _ AB.out.bel) (fun hHeld=>?_)
             clear hK K
             try simp only [Act.put,List.setIfInBounds_toArray,List.set_cons_zero,List.set_cons_succ]
             refine wpAnyL_one (i:=12) (by kernel_rfl) rfl (fun K hK=>?_)
             refine step_growN _ rfl _ _ 47 47 rfl rdFd_good (by decide) (fun _=>True) W2.heap.size 58 58 fi (.agg #[.string { data:=#[] },.string { data:=#[] }]) 32 Tryz.underlying47 Tryz.underlying47 hi hz0 hz1 hz2 rfl _ _ rfl AB.out.g _ _ _ _ _ rfl AB.out.x AB.out.s hm1 hm2 AB.out.bs ?_
             intro v3 w3 hG3 hg3 hm3
             have B3:=Lib.hid (ap_next AB.out hG3 hg3).2
             have A2:=Lib.hid (ap2B AB.out hG3 hg3 hm3)
             obtain ⟨A3,c3',rfl,_,_⟩:=hG3.own
             clear hG3 hg3 hm3
             refine hK.out _ _ (KS.out _ B3.out) (fun hHeld=>?_)
             clear hK K
             try simp only [Act.put,List.setIfInBounds_toArray,List.set_cons_zero,List.set_cons_succ]
             refine wpAnyL_one (i:=15) (by kernel_rfl) rfl (fun K hK=>?_)
             refine step_growN _ rfl _ _ 47 47 rfl rdFd_good (by decide) (fun _=>True) W2.heap.size 58 58 fi (.agg #[.string { data:=#[] },.string { data:=#[] }]) 32 Tryz.underlying47 Tryz.underlying47 hi hz0 hz1 hz2 rfl _ _ rfl A2.out.g _ _ _ _ _ rfl A2.out.x A2.out.s hm3' hm4 A2.out.bs ?_
             intro v5 w5 hG5 hg5 _
             have EN:=Lib.hid (ap_end A2.out hG5 hg5)
             clear hG5 hg5
             obtain ⟨A5,c5,hv5,_⟩:=id EN.out.2
             simp only [List.cons.injEq,and_true] at hv5
             subst hv5
             refine hK.out _ _ (KS.out _ EN.out.1) (fun hHeld=>?_)
             clear hK K
             try simp only [Act.put,List.setIfInBounds_toArray,List.set_cons_zero,List.set_cons_succ]
             refine wpAnyL_take (i:=16) (v:=?_) [] rfl (by kernel_rfl) (by kernel_rfl) (by kernel_rfl) (fun _ _ _ h=>h) (by kernel_rfl) (by kernel_rfl) (by kernel_rfl) (Or.inl ⟨by rfl,?_⟩) (by assumption) ?_
             rotate_left
             ·intro w hSw
              try dsimp only at hSw
              go_simp
              first|done|with_reducible rfl
             try simp only [Act.put,List.setIfInBounds_toArray,List.set_cons_zero,List.set_cons_succ]
             have cm5:=(World.cell?_of_block (w:=W2) (w':=w5) (a:=ad.add m) (by rw [blk_add];exact EN.out.1.block _ CM.out.2.2)).trans CM.out.1
             have fm5:=(World.frozen?_of_block (w:=W2) (w':=w5) (a:=ad.add m) (by rw [blk_add];exact EN.out.1.block _ CM.out.2.2)).trans CM.out.2.1
             refine wpAnyL_last (by kernel_rfl) rfl (by kernel_rfl) (fun K hK=>?_)
             go_simp
             refine hK.out _ _ ?_
             clear hK K
             refine NoPanic.normal ?_
             have FIN:=Lib.hid (RdR.setlast RR2.out hr hN2 d0 HM.out EN.out.1 EN.out.2)
             rw [show (last++[(⟨nam,val⟩:Fd)]).length=last.length+1 by simp] at FIN
             go_wp2
             go_ret
             exact ⟨by rw [X2.out];try rfl,fun _=>by rw [SR.out];exact FIN.out.1,HF2.out.trans FIN.out.2⟩
           ·go_simp
            refine hK.out _ _ (KS.out _ BC.out) (fun hHeld=>?_)
            clear hK K
            try simp only [Act.put,List.setIfInBounds_toArray,List.set_cons_zero,List.set_cons_succ]
            refine wpAnyL_one (i:=10) (by kernel_rfl) rfl (fun K hK=>?_)
            go_simp
            refine hK.out _ _ (KS.out _ AC.out.bel) (fun hHeld=>?_)
            clear hK K
            try simp only [Act.put,List.setIfInBounds_toArray,List.set_cons_zero,List.set_cons_succ]
            refine wpAnyL_one (i:=12) (by kernel_rfl) rfl (fun K hK=>?_)
            refine step_growN _ rfl _ _ 47 47 rfl rdFd_good (by decide) (fun _=>True) W2.heap.size 58 58 fi (.agg #[.string { data:=#[] },.string { data:=#[] }]) 32 Tryz.underlying47 Tryz.underlying47 hi hz0 hz1 hz2 rfl _ _ rfl AC.out.g _ _ _ _ _ rfl AC.out.x AC.out.s hm1 hm2 AC.out.bs ?_
            intro v3 w3 hG3 hg3 hm3
            have B3:=Lib.hid (ap_next AC.out hG3 hg3).2
            have A2:=Lib.hid (ap2C AC.out hG3 hg3 hm3)
            obtain ⟨A3,c3',rfl,_,_⟩:=hG3.own
            clear hG3 hg3 hm3
            refine hK.out _ _ (KS.out _ B3.out) (fun hHeld=>?_)
            clear hK K
            try simp only [Act.put,List.setIfInBounds_toArray,List.set_cons_zero,List.set_cons_succ]
            refine wpAnyL_one (i:=15) (by kernel_rfl) rfl (fun K hK=>?_)
            refine step_growN _ rfl _ _ 47 47 rfl rdFd_good (by decide) (fun _=>True) W2.heap.size 58 58 fi (.agg #[.string { data:=#[] },.string { data:=#[] }]) 32 Tryz.underlying47 Tryz.underlying47 hi hz0 hz1 hz2 rfl _ _ rfl A2.out.g _ _ _ _ _ rfl A2.out.x A2.out.s hm3' hm4 A2.out.bs ?_
            intro v5 w5 hG5 hg5 _
            have EN:=Lib.hid (ap_end A2.out hG5 hg5)
            clear hG5 hg5
            obtain ⟨A5,c5,hv5,_⟩:=id EN.out.2
            simp only [List.cons.injEq,and_true] at hv5
            subst hv5
            refine hK.out _ _ (KS.out _ EN.out.1) (fun hHeld=>?_)
            clear hK K
            try simp only [Act.put,List.setIfInBounds_toArray,List.set_cons_zero,List.set_cons_succ]
            refine wpAnyL_take (i:=16) (v:=?_) [] rfl (by kernel_rfl) (by kernel_rfl) (by kernel_rfl) (fun _ _ _ h=>h) (by kernel_rfl) (by kernel_rfl) (by kernel_rfl) (Or.inl ⟨by rfl,?_⟩) (by assumption) ?_
            rotate_left
            ·intro w hSw
             try dsimp only at hSw
             go_simp
             first|done|with_reducible rfl
            try simp only [Act.put,List.setIfInBounds_toArray,List.set_cons_zero,List.set_cons_succ]
            have cm5:=(World.cell?_of_block (w:=W2) (w':=w5) (a:=ad.add m) (by rw [blk_add];exact EN.out.1.block _ CM.out.2.2)).trans CM.out.1
            have fm5:=(World.frozen?_of_block (w:=W2) (w':=w5) (a:=ad.add m) (by rw [blk_add];exact EN.out.1.block _ CM.out.2.2)).trans CM.out.2.1
            refine wpAnyL_last (by kernel_rfl) rfl (by kernel_rfl) (fun K hK=>?_)
            go_simp
            refine hK.out _ _ ?_
            clear hK K
            refine NoPanic.normal ?_
            have FIN:=Lib.hid (RdR.setlast RR2.out hr hN2 d0 HM.out EN.out.1 EN.out.2)
            rw [show (last++[(⟨nam,val⟩:Fd)]).length=last.length+1 by simp] at FIN
            go_wp2
            go_ret
            exact ⟨by rw [X2.out];try rfl,fun _=>by rw [SR.out];exact FIN.out.1,HF2.out.trans FIN.out.2⟩
         ·rw [hgv] at KG X
          clear hgv
          have X2:=Lib.hid (show begER t (B s)=7 by rw [X.out];rfl)
          go_wp2
          go_quiet (fail)
          go_wp2_with (go_at_call 50;(with_reducible refine (KG.out _).mono ?_);rintro e w' ⟨rfl,rfl⟩)
          go_ret
          exact ⟨by rw [X2.out];try rfl,fun h=>absurd h (by rw [X2.out];decide),HF.out.drewN _⟩
       ·obtain rfl:q=s.size:=hqe
        have e0:s.extract s.size s.size=ByteArray.empty:=B_inj (by rw [B_extract,List.drop_eq_nil_of_le (by rw [hlen];omega),List.take_nil];rfl)
        rw [e0] at Y
        clear e0
        have i0:(0:Int)≤(k:Int):=by omega
        have i1:(k:Int)≤(s.size:Int):=by omega
        go_wp2
        first|(go_region_held3 (fun _=>True) (trivial) (fail))|fail
        obtain ⟨W1,hW1⟩:∃W1,W1=(w.alloc (Obj.cells #[Value.string (s.extract 0 k),Value.string ByteArray.empty] 58)).drew:=⟨_,rfl⟩
        have z1:W1.heap.size=w.heap.size+1:=by rw [hW1];simp
        have b0:W1.cell? ⟨w.heap.size,0,none⟩=some (.string (s.extract 0 k)):=by rw [hW1];simp [go_sem]
        have b1:W1.cell? ⟨w.heap.size,1,none⟩=some (.string ByteArray.empty):=by rw [hW1];simp [go_sem]
        have hbw:Below w.heap.size w W1:=by rw [hW1];exact belD ((Below.refl _ w).alloc (Nat.le_refl _) _) 1
        rw [←hW1]
        clear hW1
        obtain ⟨f0',f1',c1',v,c0',hG'⟩:=HR.out
        have hltw:=hG'.lt
        obtain ⟨x0,y0⟩:=blk_of (hbw.block r (by omega)) 0
        obtain ⟨x1,y1⟩:=blk_of (hbw.block r (by omega)) 1
        have f0:=y0.trans f0'
        have f1:=y1.trans f1'
        have c0:=x0.trans c0'
        have c1:=x1.trans c1'
        have hG:=hG'.below rdFds_good hbw
        clear x0 y0 x1 y1 f0' f1' c0' c1' hG'
        have HF:=Lib.hid (Fr.of (N:=N) (r:=r) (hbw.mono hN) (Nat.le_of_lt hr))
        clear hbw
        obtain ⟨A,cp,rfl,hnc,hcm⟩:=hG.own
        have hcm':cp≤9223372036854775807:=hcm
        clear hcm
        have HLT:=Lib.hid hltw
        clear hltw
        generalize ByteArray.empty=val at *
        generalize s.extract 0 k=nam at *
        have GG:=Lib.hid hG
        clear hG
        have Z1:=Lib.hid z1
        clear z1
        have SO:=Lib.hid (rfl:t.o=t.o)
        cases ho:t.o
        ·rw [ho] at c1 X
         have SR:=Lib.hid (show begSR t (B s)=⟨t.l++[[⟨nam,val⟩]],true⟩ by unfold begSR;rw [if_neg (by rw [ho];decide),Y.out])
         clear ho
         by_cases h200:200≤t.l.length
         ·have X2:=Lib.hid (show begER t (B s)=8 by rw [X.out,if_pos h200];rfl)
          have p9:(200:Int)≤(t.l.length:Int):=by omega
          clear h200
          go_wp2
          go_ret
          exact ⟨by rw [X2.out];try rfl,fun h=>absurd h (by rw [X2.out];decide),HF.out⟩
         ·have X2:=Lib.hid (show begER t (B s)=0 by rw [X.out,if_neg h200];rfl)
          have p9:¬(200:Int)≤(t.l.length:Int):=by omega
          have hB3:Below W1.heap.size W1 ((W1.alloc (Obj.cells #[Value.string nam,Value.string val] 58)).alloc (Obj.cells #[Value.slice (some { block:=W1.heap.size,off:=0 }) 1 1] 47)).drew:=belD (((Below.refl _ _).alloc (Nat.le_refl _) _).alloc (by simp) _) 1
          have hG3:=GG.out.below rdFds_good hB3
          have hX3:=one_one (S:=fun b=>W1.heap.size≤b∧b < ((W1.alloc (Obj.cells #[Value.string nam,Value.string val] 58)).alloc (Obj.cells #[Value.slice (some { block:=W1.heap.size,off:=0 }) 1 1] 47)).drew.heap.size) W1 nam val 58 47 (by simp;omega)
          have hn1:t.l.length+1≤maxLen:=by unfold maxLen;omega
          have hn2:(t.l.length+1)*24≤140737488355328:=by omega
          have hS3:∀b,(W1.heap.size≤b∧b < ((W1.alloc (Obj.cells #[Value.string nam,Value.string val] 58)).alloc (Obj.cells #[Value.slice (some { block:=W1.heap.size,off:=0 }) 1 1] 47)).drew.heap.size)→N≤b∧b < ((W1.alloc (Obj.cells #[Value.string nam,Value.string val] 58)).alloc (Obj.cells #[Value.slice (some { block:=W1.heap.size,off:=0 }) 1 1] 47)).drew.heap.size∧(Value.slice A t.l.length cp).ownBlock≠some b:=fun b hb=>⟨by have:=Z1.out;omega,hb.2,fun hh=>by have:=(GG.out.lt b hh).2;omega⟩
          have hbs3:N≤((W1.alloc (Obj.cells #[Value.string nam,Value.string val] 58)).alloc (Obj.cells #[Value.slice (some { block:=W1.heap.size,off:=0 }) 1 1] 47)).drew.heap.size:=by have:=Z1.out;simp;omega
          have HF3:=Lib.hid (HF.out.trans (Fr.of (N:=N) (r:=r) (hB3.mono (by have:=Z1.out;omega)) (Nat.le_of_lt hr)))
          obtain ⟨a0,a1⟩:=blk_of (hB3.block r (by have:=Z1.out;omega)) 0
          obtain ⟨a2,a3⟩:=blk_of (hB3.block r (by have:=Z1.out;omega)) 1
          have C3:=Lib.hid (And.intro (a0.trans c0) (And.intro (a1.trans f0) (And.intro (a2.trans c1) (a3.trans f1))))
          have KP:=Lib.hid (fun w2 (hg:((W1.alloc (Obj.cells #[Value.string nam,Value.string val] 58)).alloc (Obj.cells #[Value.slice (some { block:=W1.heap.size,off:=0 }) 1 1] 47)).drew.grownBy w2 (Value.slice A t.l.length cp).ownBlock)=>
           (show w2.heap.size≠W1.heap.size∧w2.cell? ⟨r,0,none⟩=some (.slice A t.l.length cp)∧w2.frozen? ⟨r,0,none⟩=false∧w2.cell? ⟨r,1,none⟩=some (.bool false)∧w2.frozen? ⟨r,1,none⟩=false∧w2.cell? ⟨w.heap.size,0,none⟩=some (.string nam)∧w2.cell? ⟨w.heap.size,1,none⟩=some (.string val) from by
            have e1:=hg.block r (by have:=Z1.out;simp;omega) (fun hh=>by have:=(HLT.out r hh.symm).1;omega)
            have e2:=hg.size
            simp at e2
            have e4:=hg.block w.heap.size (by have:=Z1.out;simp;omega) (fun hh=>by have:=(HLT.out _ hh.symm).2;omega)
            have e3:=hB3.block w.heap.size (by have:=Z1.out;omega)
            exact ⟨by omega,((blk_of e1 0).1.trans a0).trans c0,((blk_of e1 0).2.trans a1).trans f0,((blk_of e1 1).1.trans a2).trans c1,((blk_of e1 1).2.trans a3).trans f1,((blk_of e4 0).1.trans (blk_of e3 0).1).trans b0,((blk_of e4 1).1.trans (blk_of e3 1).1).trans b1⟩))
          have KA:=Lib.hid (fun (W:World) (hb:Below W1.heap.size W1 W)=>(show W.cell? ⟨r,0,none⟩=some (.slice A t.l.length cp)∧W.cell? ⟨w.heap.size,0,none⟩=some (.string nam)∧W.cell? ⟨w.heap.size,1,none⟩=some (.string val) from
           ⟨(blk_of (hb.block r (by have:=Z1.out;omega)) 0).1.trans c0,(blk_of (hb.block w.heap.size (by have:=Z1.out;omega)) 0).1.trans b0,(blk_of (hb.block w.heap.size (by have:=Z1.out;omega)) 1).1.trans b1⟩))
          have BA:=Lib.hid (show Below W1.heap.size W1 (W1.alloc (Obj.cells #[Value.string nam,Value.string val] 58)).drew from belD ((Below.refl _ _).alloc (Nat.le_refl _) _) 1)
          have BB:=Lib.hid hB3
          clear a0 a1 a2 a3 hB3
          clear h200
          go_wp2
          refine wp_region_noPanic ?_
          refine wp_region_L (fun W=>W.cell? ⟨r,0,none⟩=some (.slice A t.l.length cp)∧W.cell? ⟨w.heap.size,0,none⟩=some (.string nam)∧W.cell? ⟨w.heap.size,1,none⟩=some (.string val)) 11 (by kernel_rfl) ⟨c0,b0,b1⟩ (fun hHeld=>?_)
          refine wpAnyL_take (i:=0) (v:=?_) [10,9] rfl (by kernel_rfl) (by kernel_rfl) (by kernel_rfl) (fun _ _ _ h=>h) (by kernel_rfl) (by kernel_rfl) (by kernel_rfl) (Or.inl ⟨by rfl,?_⟩) (by assumption) ?_
          rotate_left
          ·intro w hSw
           try dsimp only at hSw
           go_simp
           first|done|with_reducible rfl
          try simp only [Act.put,List.setIfInBounds_toArray,List.set_cons_zero,List.set_cons_succ]
          refine wpAnyL_take (i:=1) (v:=?_) [8,4,3,2] rfl (by kernel_rfl) (by kernel_rfl) (by kernel_rfl) (fun _ _ _ h=>h) (by kernel_rfl) (by kernel_rfl) (by kernel_rfl) (Or.inl ⟨by rfl,?_⟩) (by assumption) ?_
          rotate_left
          ·intro w hSw
           try dsimp only at hSw
           go_simp
           first|done|with_reducible rfl
          try simp only [Act.put,List.setIfInBounds_toArray,List.set_cons_zero,List.set_cons_succ]
          refine wpAnyL_take (i:=2) (v:=?_) [8,4,3] rfl (by kernel_rfl) (by kernel_rfl) (by kernel_rfl) (fun _ _ _ h=>h) (by kernel_rfl) (by kernel_rfl) (by kernel_rfl) (Or.inl ⟨by rfl,?_⟩) (by assumption) ?_
          rotate_left
          ·intro w hSw
           try dsimp only at hSw
           go_simp
           first|done|with_reducible rfl
          try simp only [Act.put,List.setIfInBounds_toArray,List.set_cons_zero,List.set_cons_succ]
          refine wpAnyL_take (i:=3) (v:=?_) [8,4] rfl (by kernel_rfl) (by kernel_rfl) (by kernel_rfl) (fun _ _ _ h=>h) (by kernel_rfl) (by kernel_rfl) (by kernel_rfl) (Or.inl ⟨by rfl,?_⟩) (by assumption) ?_
          rotate_left
          ·intro w hSw
           try dsimp only at hSw
           go_simp
           first|done|with_reducible rfl
          try simp only [Act.put,List.setIfInBounds_toArray,List.set_cons_zero,List.set_cons_succ]
          refine wpAnyL_take (i:=4) (v:=?_) [8] rfl (by kernel_rfl) (by kernel_rfl) (by kernel_rfl) (fun _ _ _ h=>h) (by kernel_rfl) (by kernel_rfl) (by kernel_rfl) (Or.inl ⟨by rfl,?_⟩) (by assumption) ?_
          rotate_left
          ·intro w hSw
           try dsimp only at hSw
           go_simp
           first|done|with_reducible rfl
          try simp only [Act.put,List.setIfInBounds_toArray,List.set_cons_zero,List.set_cons_succ]
          refine wpAnyL_take (i:=5) (v:=?_) [8,7,6] rfl (by kernel_rfl) (by kernel_rfl) (by kernel_rfl) (fun _ _ _ h=>h) (by kernel_rfl) (by kernel_rfl) (by kernel_rfl) (Or.inl ⟨by rfl,?_⟩) (by assumption) ?_
          rotate_left
          ·intro w hSw
           try dsimp only at hSw
           go_simp
           first|done|with_reducible rfl
          try simp only [Act.put,List.setIfInBounds_toArray,List.set_cons_zero,List.set_cons_succ]
          refine wpAnyL_one (i:=6) (by kernel_rfl) rfl (fun K hK=>?_)
          go_simp
          refine hK.out _ _ (KA.out _ BA.out) (fun hHeld=>?_)
          clear hK K
          try simp only [Act.put,List.setIfInBounds_toArray,List.set_cons_zero,List.set_cons_succ]
          refine wpAnyL_one (i:=7) (by kernel_rfl) rfl (fun K hK=>?_)
          go_simp
          refine hK.out _ _ (KA.out _ BB.out) (fun hHeld=>?_)
          clear hK K
          try simp only [Act.put,List.setIfInBounds_toArray,List.set_cons_zero,List.set_cons_succ]
          refine wpAnyL_one (i:=8) (by kernel_rfl) rfl (fun K hK=>?_)
          refine step_growN _ rfl _ _ 51 51 rfl rdFds_good (by decide) (fun b=>N≤b) N 47 47 i0' _ 24 Tryz.underlying51 Tryz.underlying51 hi' hz0' hz1' hz2' rfl _ t.l rfl hG3 _ _ _ _ _ rfl hX3 hS3 hn1 hn2 hbs3 ?_
          intro v' w2 hG4 hg4 _
          have HF4:=Lib.hid (HF3.out.trans (Fr.of (N:=N) (r:=r) (grow_below hG3 hg4 (Below.refl N _) (Nat.le_refl _) hbs3) (Nat.le_of_lt hr)))
          obtain ⟨A2,cp2,rfl,_,_⟩:=hG4.own
          rw [show (t.l++[[(⟨nam,val⟩:Fd)]]).length=t.l.length+1 by simp] at hG4
          obtain ⟨hne2,c2,f2,c3,f3,d2,d3⟩:=KP.out _ hg4
          refine hK.out _ _ ⟨c2,d2,d3⟩ (fun hHeld=>?_)
          clear hK K
          try simp only [Act.put,List.setIfInBounds_toArray,List.set_cons_zero,List.set_cons_succ]
          refine wpAnyL_take (i:=9) (v:=?_) [10] rfl (by kernel_rfl) (by kernel_rfl) (by kernel_rfl) (fun _ _ _ h=>h) (by kernel_rfl) (by kernel_rfl) (by kernel_rfl) (Or.inl ⟨by rfl,?_⟩) (by assumption) ?_
          rotate_left
          ·intro w hSw
           try dsimp only at hSw
           go_simp
           first|done|with_reducible rfl
          try simp only [Act.put,List.setIfInBounds_toArray,List.set_cons_zero,List.set_cons_succ]
          refine wpAnyL_take (i:=10) (v:=?_) [] rfl (by kernel_rfl) (by kernel_rfl) (by kernel_rfl) (fun _ _ _ h=>h) (by kernel_rfl) (by kernel_rfl) (by kernel_rfl) (Or.inl ⟨by rfl,?_⟩) (by assumption) ?_
          rotate_left
          ·intro w hSw
           try dsimp only at hSw
           go_simp
           first|done|with_reducible rfl
          try simp only [Act.put,List.setIfInBounds_toArray,List.set_cons_zero,List.set_cons_succ]
          refine wpAnyL_last (by kernel_rfl) rfl (by kernel_rfl) (fun K hK=>?_)
          go_simp
          refine hK.out _ _ ?_
          clear hK K
          refine NoPanic.normal ?_
          have hbr:=(Nat.le_of_lt hr)
          have RR:=Lib.hid (RdR.two hG4 c2 f2 c3 f3 hr true)
          have FF:=Lib.hid ((HF4.out.set (p:=⟨r,0,none⟩) (.inl rfl) hbr (.slice A2 (t.l.length+1) cp2)).set (p:=⟨r,1,none⟩) (.inl rfl) hbr (.bool true))
          clear hG4 hg4 hG3 hX3 hS3
          go_wp2
          go_ret
          exact ⟨by rw [X2.out];try rfl,fun _=>by rw [SR.out];exact RR.out,FF.out⟩
        ·have hne:=HNE.out ho
         rw [ho] at c1 X
         have SR:=Lib.hid (show begSR t (B s)=⟨setLast t.l (lastD t.l++[⟨nam,val⟩]),t.o⟩ by unfold begSR;rw [if_pos ho,Y.out,ho])
         have HO:=Lib.hid ho
         clear ho
         obtain ⟨m,hmt⟩:∃m,t.l.length=m+1:=⟨t.l.length - 1,by have:=List.length_pos_iff.2 hne;omega⟩
         have hml:m < t.l.length:=by omega
         obtain ⟨ad,A',c',hA,had,cm,hrl⟩:=(rdStzs_at (GG.out.read rdFds_good)).2.2.2 m hml
         subst hA
         have hla:=lastD_at hmt
         rw [←hla] at cm hrl
         clear hla hne
         have HMT:=Lib.hid hmt
         have w1m:IntKind.i64.wrap ((t.l.length:Int) - 1)=(m:Int):=by rw [hmt];rw [IntWalk.i64_in _ (by omega)];omega
         have i2:(0:Int)≤(m:Int):=by omega
         have i3:(m:Int) < (t.l.length:Int):=by omega
         have hcl:=(rdFds_at hrl).2.1
         have hcm2:c'≤9223372036854775807:=(rdFds_at hrl).2.2.1
         have RR1:=Lib.hid (show RdR W1 N r t from ⟨f0,f1,by rw [c1,HO.out],_,c0,GG.out⟩)
         have KG:=Lib.hid (fun nq=>q5get_any _ _ _ (lastD t.l) nam (W1.drewN nq) (rdFds_good.below hrl (belD (Below.refl _ W1) nq)))
         have HRL:=Lib.hid hrl
         clear hrl hmt
         generalize hlast:lastD t.l=last at *
         have HLAST:=Lib.hid hlast
         clear hlast
         cases hgv:getV last nam
         ·rw [hgv] at KG X
          clear hgv
          by_cases h40:40≤last.length
          ·have X2:=Lib.hid (show begER t (B s)=8 by rw [X.out,if_pos rfl,if_neg (by decide),if_pos h40])
           have p9:(40:Int)≤(last.length:Int):=by omega
           clear h40
           go_wp2
           go_quiet (fail)
           go_wp2_with (go_at_call 50;(with_reducible refine (KG.out _).mono ?_);rintro e w' ⟨rfl,rfl⟩)
           go_ret
           exact ⟨by rw [X2.out];try rfl,fun h=>absurd h (by rw [X2.out];decide),HF.out.drewN _⟩
          ·have X2:=Lib.hid (show begER t (B s)=0 by rw [X.out,if_pos rfl,if_neg (by decide),if_neg h40])
           have p9:¬(40:Int)≤(last.length:Int):=by omega
           have hm1:([]:List Fd).length+last.length≤maxLen:=by simp only [List.length_nil];unfold maxLen;omega
           have hm2:(([]:List Fd).length+last.length)*32≤140737488355328:=by simp only [List.length_nil];omega
           have hm3':last.length+([(⟨nam,val⟩:Fd)]).length≤maxLen:=by simp only [List.length_singleton];unfold maxLen;omega
           have hm4:(last.length+([(⟨nam,val⟩:Fd)]).length)*32≤140737488355328:=by simp only [List.length_singleton];omega
           go_wp2
           go_quiet (fail)
           go_wp2_with (go_at_call 50;(with_reducible refine (KG.out _).mono ?_);rintro e W2 ⟨rfl,hW2⟩)
           have hb12:Below W1.heap.size W1 W2:=by rw [←hW2];exact belD (Below.refl _ W1) _
           have hz12:W2.heap.size=W1.heap.size:=by rw [←hW2];rfl
           have d0:W2.cell? ⟨r,0,none⟩=some (.slice (some ad) t.l.length cp):=by rw [←hW2];exact c0
           have e0:W2.cell? ⟨w.heap.size,0,none⟩=some (.string nam):=by rw [←hW2];exact b0
           have e1:W2.cell? ⟨w.heap.size,1,none⟩=some (.string val):=by rw [←hW2];exact b1
           have CM:=Lib.hid (show W2.cell? (ad.add m)=some (.slice A' last.length c')∧W2.frozen? (ad.add m)=false∧ad.block < W2.heap.size from ⟨by rw [←hW2];exact cm,by rw [←hW2];exact GG.out.frz m,by rw [hz12];exact (GG.out.spot).2.2.1⟩)
           clear hW2
           have RR2:=Lib.hid (RR1.out.below hb12 (by have:=Z1.out;omega))
           have HF2:=Lib.hid (HF.out.trans (Fr.of (N:=N) (r:=r) (hb12.mono (by have:=Z1.out;omega)) (Nat.le_of_lt hr)))
           have hx2:=(show rdFds W2 (lt_ W2.heap.size) last [.slice A' last.length c'] from by rw [hz12];exact rdFds_good.below HRL.out hb12)
           have hN2:N≤W2.heap.size:=by have:=Z1.out;omega
           have hmt:=HMT.out
           have KS:=Lib.hid (fun (W:World) (hb:Below W2.heap.size W2 W)=>(show W.cell? ⟨r,0,none⟩=some (.slice (some ad) t.l.length cp)∧W.cell? ⟨w.heap.size,0,none⟩=some (.string nam)∧W.cell? ⟨w.heap.size,1,none⟩=some (.string val) from
            ⟨(blk_of (hb.block r (by omega)) 0).1.trans d0,(blk_of (hb.block w.heap.size (by have:=Z1.out;omega)) 0).1.trans e0,(blk_of (hb.block w.heap.size (by have:=Z1.out;omega)) 1).1.trans e1⟩))
           have AA:=Lib.hid (apA hx2)
           have AB:=Lib.hid (apB nam val hx2)
           have AC:=Lib.hid (apC nam val hx2)
           have BC:=Lib.hid (show Below W2.heap.size W2 (W2.alloc (Obj.cells #[Value.string nam,Value.string val] 58)).drew from belD ((Below.refl _ _).alloc (Nat.le_refl _) _) 1)
           clear hx2 hb12 hz12 b0 b1 c0 c1 f0 f1 cm
           have HM:=Lib.hid hmt
           clear hmt
           go_wp2
           refine wp_region_noPanic ?_
           refine wp_region_L (fun W=>W.cell? ⟨r,0,none⟩=some (.slice (some ad) t.l.length cp)∧W.cell? ⟨w.heap.size,0,none⟩=some (.string nam)∧W.cell? ⟨w.heap.size,1,none⟩=some (.string val)) 17 (by kernel_rfl) (KS.out _ (belD (Below.refl _ _) 1)) (fun hHeld=>?_)
           refine wpAnyL_take (i:=0) (v:=?_) [16,3,2,1] rfl (by kernel_rfl) (by kernel_rfl) (by kernel_rfl) (fun _ _ _ h=>h) (by kernel_rfl) (by kernel_rfl) (by kernel_rfl) (Or.inl ⟨by rfl,?_⟩) (by assumption) ?_
           rotate_left
           ·intro w hSw
            try dsimp only at hSw
            go_simp
            first|done|with_reducible rfl
           try simp only [Act.put,List.setIfInBounds_toArray,List.set_cons_zero,List.set_cons_succ]
           refine wpAnyL_take (i:=1) (v:=?_) [16,3,2] rfl (by kernel_rfl) (by kernel_rfl) (by kernel_rfl) (fun _ _ _ h=>h) (by kernel_rfl) (by kernel_rfl) (by kernel_rfl) (Or.inl ⟨by rfl,?_⟩) (by assumption) ?_
           rotate_left
           ·intro w hSw
            try dsimp only at hSw
            go_simp
            first|done|with_reducible rfl
           try simp only [Act.put,List.setIfInBounds_toArray,List.set_cons_zero,List.set_cons_succ]
           refine wpAnyL_take (i:=2) (v:=?_) [16,3] rfl (by kernel_rfl) (by kernel_rfl) (by kernel_rfl) (fun _ _ _ h=>h) (by kernel_rfl) (by kernel_rfl) (by kernel_rfl) (Or.inl ⟨by rfl,?_⟩) (by assumption) ?_
           rotate_left
           ·intro w hSw
            try dsimp only at hSw
            go_simp
            first|done|with_reducible rfl
           try simp only [Act.put,List.setIfInBounds_toArray,List.set_cons_zero,List.set_cons_succ]
           refine wpAnyL_take (i:=3) (v:=?_) [16] rfl (by kernel_rfl) (by kernel_rfl) (by kernel_rfl) (fun _ _ _ h=>h) (by kernel_rfl) (by kernel_rfl) (by kernel_rfl) (Or.inl ⟨by rfl,?_⟩) (by assumption) ?_
           rotate_left
           ·intro w hSw
            try dsimp only at hSw
            go_simp
            first|done|with_reducible rfl
           try simp only [Act.put,List.setIfInBounds_toArray,List.set_cons_zero,List.set_cons_succ]
           refine wpAnyL_take (i:=4) (v:=?_) [16,9,8,7,6,5] rfl (by kernel_rfl) (by kernel_rfl) (by kernel_rfl) (fun _ _ _ h=>h) (by kernel_rfl) (by kernel_rfl) (by kernel_rfl) (Or.inl ⟨by rfl,?_⟩) (by assumption) ?_
           rotate_left
           ·intro w hSw
            try dsimp only at hSw
            go_simp
            first|done|with_reducible rfl
           try simp only [Act.put,List.setIfInBounds_toArray,List.set_cons_zero,List.set_cons_succ]
           refine wpAnyL_take (i:=5) (v:=?_) [16,9,8,7,6] rfl (by kernel_rfl) (by kernel_rfl) (by kernel_rfl) (fun _ _ _ h=>h) (by kernel_rfl) (by kernel_rfl) (by kernel_rfl) (Or.inl ⟨by rfl,?_⟩) (by assumption) ?_
           rotate_left
           ·intro w hSw
            try dsimp only at hSw
            go_simp
            first|done|with_reducible rfl
           try simp only [Act.put,List.setIfInBounds_toArray,List.set_cons_zero,List.set_cons_succ]
           refine wpAnyL_take (i:=6) (v:=?_) [16,9,8,7] rfl (by kernel_rfl) (by kernel_rfl) (by kernel_rfl) (fun _ _ _ h=>h) (by kernel_rfl) (by kernel_rfl) (by kernel_rfl) (Or.inl ⟨by rfl,?_⟩) (by assumption) ?_
           rotate_left
           ·intro w hSw
            try dsimp only at hSw
            go_simp
            first|done|with_reducible rfl
           try simp only [Act.put,List.setIfInBounds_toArray,List.set_cons_zero,List.set_cons_succ]
           refine wpAnyL_take (i:=7) (v:=?_) [16,9,8] rfl (by kernel_rfl) (by kernel_rfl) (by kernel_rfl) (fun _ _ _ h=>h) (by kernel_rfl) (by kernel_rfl) (by kernel_rfl) (Or.inl ⟨by rfl,?_⟩) (by assumption) ?_
           rotate_left
           ·intro w hSw
            try dsimp only at hSw
            go_simp
            first|done|with_reducible rfl
           try simp only [Act.put,List.setIfInBounds_toArray,List.set_cons_zero,List.set_cons_succ]
           refine wpAnyL_take (i:=8) (v:=?_) [16,9] rfl (by kernel_rfl) (by kernel_rfl) (by kernel_rfl) (fun _ _ _ h=>h) (by kernel_rfl) (by kernel_rfl) (by kernel_rfl) (Or.inl ⟨by rfl,?_⟩) (by assumption) ?_
           rotate_left
           ·intro w hSw
            try dsimp only at hSw
            go_simp
            first|done|with_reducible rfl
           try simp only [Act.put,List.setIfInBounds_toArray,List.set_cons_zero,List.set_cons_succ]
           refine wpAnyL_take (i:=9) (v:=?_) [16] rfl (by kernel_rfl) (by kernel_rfl) (by kernel_rfl) (fun _ _ _ h=>h) (by kernel_rfl) (by kernel_rfl) (by kernel_rfl) (Or.inl ⟨by rfl,?_⟩) (by assumption) ?_
           rotate_left
           ·intro w hSw
            try dsimp only at hSw
            go_simp
            first|done|with_reducible rfl
           try simp only [Act.put,List.setIfInBounds_toArray,List.set_cons_zero,List.set_cons_succ]
           refine wpAnyL_take (i:=11) (v:=?_) [15,12] rfl (by kernel_rfl) (by kernel_rfl) (by kernel_rfl) (fun _ _ _ h=>h) (by kernel_rfl) (by kernel_rfl) (by kernel_rfl) (Or.inl ⟨by rfl,?_⟩) (by assumption) ?_
           rotate_left
           ·intro w hSw
            try dsimp only at hSw
            go_simp
            first|done|with_reducible rfl
           try simp only [Act.put,List.setIfInBounds_toArray,List.set_cons_zero,List.set_cons_succ]
           refine wpAnyL_take (i:=13) (v:=?_) [15,14] rfl (by kernel_rfl) (by kernel_rfl) (by kernel_rfl) (fun _ _ _ h=>h) (by kernel_rfl) (by kernel_rfl) (by kernel_rfl) (Or.inl ⟨by rfl,?_⟩) (by assumption) ?_
           rotate_left
           ·intro w hSw
            try dsimp only at hSw
            go_simp
            first|done|with_reducible rfl
           try simp only [Act.put,List.setIfInBounds_toArray,List.set_cons_zero,List.set_cons_succ]
           refine wpAnyL_two (i:=10) (k:=14) (by kernel_rfl) rfl rfl (fun K hK=>?_) (fun K hK=>?_)
           ·go_simp
            refine hK.out _ _ (KS.out _ AA.out.bel) (fun hHeld=>?_)
            clear hK K
            try simp only [Act.put,List.setIfInBounds_toArray,List.set_cons_zero,List.set_cons_succ]
            refine wpAnyL_two (i:=12) (k:=14) (by kernel_rfl) rfl rfl (fun K hK=>?_) (fun K hK=>?_)
            ·refine step_growN _ rfl _ _ 47 47 rfl rdFd_good (by decide) (fun _=>True) W2.heap.size 58 58 fi (.agg #[.string { data:=#[] },.string { data:=#[] }]) 32 Tryz.underlying47 Tryz.underlying47 hi hz0 hz1 hz2 rfl _ _ rfl AA.out.g _ _ _ _ _ rfl AA.out.x AA.out.s hm1 hm2 AA.out.bs ?_
             intro v3 w3 hG3 hg3 hm3
             have B3:=Lib.hid (ap_next AA.out hG3 hg3).2
             have A2:=Lib.hid (ap2A nam val AA.out hG3 hg3)
             obtain ⟨A3,c3',rfl,_,_⟩:=hG3.own
             clear hG3 hg3 hm3
             refine hK.out _ _ (KS.out _ B3.out) (fun hHeld=>?_)
             clear hK K
             try simp only [Act.put,List.setIfInBounds_toArray,List.set_cons_zero,List.set_cons_succ]
             refine wpAnyL_one (i:=14) (by kernel_rfl) rfl (fun K hK=>?_)
             go_simp
             refine hK.out _ _ (KS.out _ A2.out.bel) (fun hHeld=>?_)
             clear hK K
             try simp only [Act.put,List.setIfInBounds_toArray,List.set_cons_zero,List.set_cons_succ]
             refine wpAnyL_one (i:=15) (by kernel_rfl) rfl (fun K hK=>?_)
             refine step_growN _ rfl _ _ 47 47 rfl rdFd_good (by decide) (fun _=>True) W2.heap.size 58 58 fi (.agg #[.string { data:=#[] },.string { data:=#[] }]) 32 Tryz.underlying47 Tryz.underlying47 hi hz0 hz1 hz2 rfl _ _ rfl A2.out.g _ _ _ _ _ rfl A2.out.x A2.out.s hm3' hm4 A2.out.bs ?_
             intro v5 w5 hG5 hg5 _
             have EN:=Lib.hid (ap_end A2.out hG5 hg5)
             clear hG5 hg5
             obtain ⟨A5,c5,hv5,_⟩:=id EN.out.2
             simp only [List.cons.injEq,and_true] at hv5
             subst hv5
             refine hK.out _ _ (KS.out _ EN.out.1) (fun hHeld=>?_)
             clear hK K
             try simp only [Act.put,List.setIfInBounds_toArray,List.set_cons_zero,List.set_cons_succ]
             refine wpAnyL_take (i:=16) (v:=?_) [] rfl (by kernel_rfl) (by kernel_rfl) (by kernel_rfl) (fun _ _ _ h=>h) (by kernel_rfl) (by kernel_rfl) (by kernel_rfl) (Or.inl ⟨by rfl,?_⟩) (by assumption) ?_
             rotate_left
             ·intro w hSw
              try dsimp only at hSw
              go_simp
              first|done|with_reducible rfl
             try simp only [Act.put,List.setIfInBounds_toArray,List.set_cons_zero,List.set_cons_succ]
             have cm5:=(World.cell?_of_block (w:=W2) (w':=w5) (a:=ad.add m) (by rw [blk_add];exact EN.out.1.block _ CM.out.2.2)).trans CM.out.1
             have fm5:=(World.frozen?_of_block (w:=W2) (w':=w5) (a:=ad.add m) (by rw [blk_add];exact EN.out.1.block _ CM.out.2.2)).trans CM.out.2.1
             refine wpAnyL_last (by kernel_rfl) rfl (by kernel_rfl) (fun K hK=>?_)
             go_simp
             refine hK.out _ _ ?_
             clear hK K
             refine NoPanic.normal ?_
             have FIN:=Lib.hid (RdR.setlast RR2.out hr hN2 d0 HM.out EN.out.1 EN.out.2)
             rw [show (last++[(⟨nam,val⟩:Fd)]).length=last.length+1 by simp] at FIN
             go_wp2
             go_ret
             exact ⟨by rw [X2.out];try rfl,fun _=>by rw [SR.out];exact FIN.out.1,HF2.out.trans FIN.out.2⟩
            ·go_simp
             refine hK.out _ _ (KS.out _ AB.out.bel) (fun hHeld=>?_)
             clear hK K
             try simp only [Act.put,List.setIfInBounds_toArray,List.set_cons_zero,List.set_cons_succ]
             refine wpAnyL_one (i:=12) (by kernel_rfl) rfl (fun K hK=>?_)
             refine step_growN _ rfl _ _ 47 47 rfl rdFd_good (by decide) (fun _=>True) W2.heap.size 58 58 fi (.agg #[.string { data:=#[] },.string { data:=#[] }]) 32 Tryz.underlying47 Tryz.underlying47 hi hz0 hz1 hz2 rfl _ _ rfl AB.out.g _ _ _ _ _ rfl AB.out.x AB.out.s hm1 hm2 AB.out.bs ?_
             intro v3 w3 hG3 hg3 hm3
             have B3:=Lib.hid (ap_next AB.out hG3 hg3).2
             have A2:=Lib.hid (ap2B AB.out hG3 hg3 hm3)
             obtain ⟨A3,c3',rfl,_,_⟩:=hG3.own
             clear hG3 hg3 hm3
             refine hK.out _ _ (KS.out _ B3.out) (fun hHeld=>?_)
             clear hK K
             try simp only [Act.put,List.setIfInBounds_toArray,List.set_cons_zero,List.set_cons_succ]
             refine wpAnyL_one (i:=15) (by kernel_rfl) rfl (fun K hK=>?_)
             refine step_growN _ rfl _ _ 47 47 rfl rdFd_good (by decide) (fun _=>True) W2.heap.size 58 58 fi (.agg #[.string { data:=#[] },.string { data:=#[] }]) 32 Tryz.underlying47 Tryz.underlying47 hi hz0 hz1 hz2 rfl _ _ rfl A2.out.g _ _ _ _ _ rfl A2.out.x A2.out.s hm3' hm4 A2.out.bs ?_
             intro v5 w5 hG5 hg5 _
             have EN:=Lib.hid (ap_end A2.out hG5 hg5)
             clear hG5 hg5
             obtain ⟨A5,c5,hv5,_⟩:=id EN.out.2
             simp only [List.cons.injEq,and_true] at hv5
             subst hv5
             refine hK.out _ _ (KS.out _ EN.out.1) (fun hHeld=>?_)
             clear hK K
             try simp only [Act.put,List.setIfInBounds_toArray,List.set_cons_zero,List.set_cons_succ]
             refine wpAnyL_take (i:=16) (v:=?_) [] rfl (by kernel_rfl) (by kernel_rfl) (by kernel_rfl) (fun _ _ _ h=>h) (by kernel_rfl) (by kernel_rfl) (by kernel_rfl) (Or.inl ⟨by rfl,?_⟩) (by assumption) ?_
             rotate_left
             ·intro w hSw
              try dsimp only at hSw
              go_simp
              first|done|with_reducible rfl
             try simp only [Act.put,List.setIfInBounds_toArray,List.set_cons_zero,List.set_cons_succ]
             have cm5:=(World.cell?_of_block (w:=W2) (w':=w5) (a:=ad.add m) (by rw [blk_add];exact EN.out.1.block _ CM.out.2.2)).trans CM.out.1
             have fm5:=(World.frozen?_of_block (w:=W2) (w':=w5) (a:=ad.add m) (by rw [blk_add];exact EN.out.1.block _ CM.out.2.2)).trans CM.out.2.1
             refine wpAnyL_last (by kernel_rfl) rfl (by kernel_rfl) (fun K hK=>?_)
             go_simp
             refine hK.out _ _ ?_
             clear hK K
             refine NoPanic.normal ?_
             have FIN:=Lib.hid (RdR.setlast RR2.out hr hN2 d0 HM.out EN.out.1 EN.out.2)
             rw [show (last++[(⟨nam,val⟩:Fd)]).length=last.length+1 by simp] at FIN
             go_wp2
             go_ret
             exact ⟨by rw [X2.out];try rfl,fun _=>by rw [SR.out];exact FIN.out.1,HF2.out.trans FIN.out.2⟩
           ·go_simp
            refine hK.out _ _ (KS.out _ BC.out) (fun hHeld=>?_)
            clear hK K
            try simp only [Act.put,List.setIfInBounds_toArray,List.set_cons_zero,List.set_cons_succ]
            refine wpAnyL_one (i:=10) (by kernel_rfl) rfl (fun K hK=>?_)
            go_simp
            refine hK.out _ _ (KS.out _ AC.out.bel) (fun hHeld=>?_)
            clear hK K
            try simp only [Act.put,List.setIfInBounds_toArray,List.set_cons_zero,List.set_cons_succ]
            refine wpAnyL_one (i:=12) (by kernel_rfl) rfl (fun K hK=>?_)
            refine step_growN _ rfl _ _ 47 47 rfl rdFd_good (by decide) (fun _=>True) W2.heap.size 58 58 fi (.agg #[.string { data:=#[] },.string { data:=#[] }]) 32 Tryz.underlying47 Tryz.underlying47 hi hz0 hz1 hz2 rfl _ _ rfl AC.out.g _ _ _ _ _ rfl AC.out.x AC.out.s hm1 hm2 AC.out.bs ?_
            intro v3 w3 hG3 hg3 hm3
            have B3:=Lib.hid (ap_next AC.out hG3 hg3).2
            have A2:=Lib.hid (ap2C AC.out hG3 hg3 hm3)
            obtain ⟨A3,c3',rfl,_,_⟩:=hG3.own
            clear hG3 hg3 hm3
            refine hK.out _ _ (KS.out _ B3.out) (fun hHeld=>?_)
            clear hK K
            try simp only [Act.put,List.setIfInBounds_toArray,List.set_cons_zero,List.set_cons_succ]
            refine wpAnyL_one (i:=15) (by kernel_rfl) rfl (fun K hK=>?_)
            refine step_growN _ rfl _ _ 47 47 rfl rdFd_good (by decide) (fun _=>True) W2.heap.size 58 58 fi (.agg #[.string { data:=#[] },.string { data:=#[] }]) 32 Tryz.underlying47 Tryz.underlying47 hi hz0 hz1 hz2 rfl _ _ rfl A2.out.g _ _ _ _ _ rfl A2.out.x A2.out.s hm3' hm4 A2.out.bs ?_
            intro v5 w5 hG5 hg5 _
            have EN:=Lib.hid (ap_end A2.out hG5 hg5)
            clear hG5 hg5
            obtain ⟨A5,c5,hv5,_⟩:=id EN.out.2
            simp only [List.cons.injEq,and_true] at hv5
            subst hv5
            refine hK.out _ _ (KS.out _ EN.out.1) (fun hHeld=>?_)
            clear hK K
            try simp only [Act.put,List.setIfInBounds_toArray,List.set_cons_zero,List.set_cons_succ]
            refine wpAnyL_take (i:=16) (v:=?_) [] rfl (by kernel_rfl) (by kernel_rfl) (by kernel_rfl) (fun _ _ _ h=>h) (by kernel_rfl) (by kernel_rfl) (by kernel_rfl) (Or.inl ⟨by rfl,?_⟩) (by assumption) ?_
            rotate_left
            ·intro w hSw
             try dsimp only at hSw
             go_simp
             first|done|with_reducible rfl
            try simp only [Act.put,List.setIfInBounds_toArray,List.set_cons_zero,List.set_cons_succ]
            have cm5:=(World.cell?_of_block (w:=W2) (w':=w5) (a:=ad.add m) (by rw [blk_add];exact EN.out.1.block _ CM.out.2.2)).trans CM.out.1
            have fm5:=(World.frozen?_of_block (w:=W2) (w':=w5) (a:=ad.add m) (by rw [blk_add];exact EN.out.1.block _ CM.out.2.2)).trans CM.out.2.1
            refine wpAnyL_last (by kernel_rfl) rfl (by kernel_rfl) (fun K hK=>?_)
            go_simp
            refine hK.out _ _ ?_
            clear hK K
            refine NoPanic.normal ?_
            have FIN:=Lib.hid (RdR.setlast RR2.out hr hN2 d0 HM.out EN.out.1 EN.out.2)
            rw [show (last++[(⟨nam,val⟩:Fd)]).length=last.length+1 by simp] at FIN
            go_wp2
            go_ret
            exact ⟨by rw [X2.out];try rfl,fun _=>by rw [SR.out];exact FIN.out.1,HF2.out.trans FIN.out.2⟩
         ·rw [hgv] at KG X
          clear hgv
          have X2:=Lib.hid (show begER t (B s)=7 by rw [X.out];rfl)
          go_wp2
          go_quiet (fail)
          go_wp2_with (go_at_call 50;(with_reducible refine (KG.out _).mono ?_);rintro e w' ⟨rfl,rfl⟩)
          go_ret
          exact ⟨by rw [X2.out];try rfl,fun h=>absurd h (by rw [X2.out];decide),HF.out.drewN _⟩
   ·have p1:((s[k].toNat:Int) != 58)=true:=by rw [bne_iff_ne];omega
    have hk2:k < (nmOf (B s)).length:=NA.out.2 h58
    clear h58
    go_wp2
    go_round
    case rel=>exact ⟨k+1,by omega,by go_num⟩
    case measure=>simp [intOf];omega
  ·have hk2:k=s.size:=by omega
   have hk3:(nmOf (B s)).length=s.size:=by omega
   have hB0:B (s.extract 0 k)=nmOf (B s):=by rw [B_extract,List.drop_zero,Nat.sub_zero,hk2,←hk3,nm_take]
   have hsz:(s.extract 0 k).size≤maxLen:=by have:=congrArg List.length hB0;rw [B_len] at this;unfold maxLen;omega
   have KN:=Lib.hid (fun w=>q5name_any s w (by unfold maxLen;omega))
   have X:=Lib.hid (show begER t (B s)=5 by
    unfold begER
    rw [decide_eq_false (fun h=>by have:=(nm_has (B s)).1 h;rw [hlen] at this;omega)];rfl)
   clear hB0 hsz hk3 hk
   obtain rfl:k=s.size:=hk2
   generalize fnB (B s)=fb at *
   go_wp2_with (go_at_call 95;(with_reducible refine (KN.out _).mono ?_);rintro e w' ⟨rfl,rfl⟩)
   go_ret
   exact ⟨by rw [X.out];try rfl,fun h=>absurd h (by rw [X.out];decide),Fr.refl _ _ _⟩
end Go.Proofs.YtbljkpbaceiaiaaGreatDoor
