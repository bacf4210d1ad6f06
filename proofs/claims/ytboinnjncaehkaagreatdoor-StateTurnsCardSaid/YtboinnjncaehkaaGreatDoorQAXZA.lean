/- What the laws rest on: E7h. -/
import Derived.Test.YtboinnjncaehkaaGreatDoorQAVZA
import Derived.Test.YtboinnjncaehkaaGreatDoorQAWZA
set_option maxRecDepth 100000
set_option linter.unusedVariables false
set_option linter.unusedSimpArgs false
namespace Go.Proofs.YtboinnjncaehkaaGreatDoor
open Go.RowKit
set_option maxHeartbeats 16000000 in
theorem q7with_any (A:Option Addr) (n0 c:Nat) (l:List Hr) (x:Hr) (A1:Option Addr) (c1:Nat) (A2:Option Addr) (c2:Nat) (A3:Option Addr) (c3:Nat) (A4:Option Addr) (c4:Nat) (w:World) (h:rdHrs w (lt_ w.heap.size) l [.slice A n0 c]) (hx:EntV w (lt_ w.heap.size) x.e A1 c1 A2 c2 A3 c3 A4 c4) (hsm:l.length≤199) :
  Calls Tryz.prog 24 #[.slice A n0 c,x.val A1 c1 A2 c2 A3 c3 A4 c4] w fun e w'=>(∃A' c',e=.returned (.slice A' (wiH l x).length c')∧rdHrs w' (lt_ w'.heap.size) (wiH l x) [.slice A' (wiH l x).length c'])∧Below w.heap.size w w':=by
 obtain ⟨rfl,hnc,hcm,-⟩:=rdHrs_at h
 have hcm':c≤9223372036854775807:=hcm
 obtain ⟨⟨n,v,d,r,c',p⟩,a,hh⟩:=x
 have HX:=Lib.hid hx
 obtain ⟨w1,hw1⟩:∃W,W=w.alloc (.cells #[.string n,.string v,.slice A1 d.length c1,.slice A2 r.length c2,.slice A3 c'.length c3,.slice A4 p.length c4,.bool a,.bool hh] 36):=⟨_,rfl⟩
 have hb1:Below w.heap.size w w1:=by rw [hw1];exact (Below.refl _ w).alloc (Nat.le_refl _) _
 have hc1:(show World→Prop from fun W=>W.cell? ⟨w.heap.size,0,none⟩=some (.string n)∧W.cell? ⟨w.heap.size,1,none⟩=some (.string v)∧W.cell? ⟨w.heap.size,2,none⟩=some (.slice A1 d.length c1)∧W.cell? ⟨w.heap.size,3,none⟩=some (.slice A2 r.length c2)∧W.cell? ⟨w.heap.size,4,none⟩=some (.slice A3 c'.length c3)∧W.cell? ⟨w.heap.size,5,none⟩=some (.slice A4 p.length c4)∧W.cell? ⟨w.heap.size,6,none⟩=some (.bool a)∧W.cell? ⟨w.heap.size,7,none⟩=some (.bool hh)) w1:=by rw [hw1];refine ⟨?_,?_,?_,?_,?_,?_,?_,?_⟩<;>simp [go_sem]
 have B1:=Lib.hid hb1
 have KC:=Lib.hid (fun (W:World) (hb:Below w1.heap.size w1 W)=>(show W.cell? ⟨w.heap.size,0,none⟩=some (.string n)∧W.cell? ⟨w.heap.size,1,none⟩=some (.string v)∧W.cell? ⟨w.heap.size,2,none⟩=some (.slice A1 d.length c1)∧W.cell? ⟨w.heap.size,3,none⟩=some (.slice A2 r.length c2)∧W.cell? ⟨w.heap.size,4,none⟩=some (.slice A3 c'.length c3)∧W.cell? ⟨w.heap.size,5,none⟩=some (.slice A4 p.length c4)∧W.cell? ⟨w.heap.size,6,none⟩=some (.bool a)∧W.cell? ⟨w.heap.size,7,none⟩=some (.bool hh) from by
  obtain ⟨k0,k1,k2,k3,k4,k5,k6,k7⟩:=hc1
  exact ⟨keep6 hb k0,keep6 hb k1,keep6 hb k2,keep6 hb k3,keep6 hb k4,keep6 hb k5,keep6 hb k6,keep6 hb k7⟩))
 have KW:=Lib.hid (q7without_any A l.length c l n w1 (rdHrs_good.up (rdHrs_good.below h hb1) hb1.size) (by omega))
 have HM:=Lib.hid (show (woH l n).length≤199 from Nat.le_trans (List.length_filter_le _ _) hsm)
 have XM:=Lib.hid (show wiH l ⟨⟨n,v,d,r,c',p⟩,a,hh⟩=inH (woH l n) ⟨⟨n,v,d,r,c',p⟩,a,hh⟩ from rfl)
 obtain ⟨fi,hi,hz0,hz1,hz2⟩:=info_parts here_info
 clear hb1 hc1 h hx hcm hsm
 show Calls Tryz.prog 24 #[.slice A l.length c,.agg #[.string n,.string v,.slice A1 d.length c1,.slice A2 r.length c2,.slice A3 c'.length c3,.slice A4 p.length c4,.bool a,.bool hh]] w _
 generalize woH l n=m at *
 generalize hwi:wiH l ⟨⟨n,v,d,r,c',p⟩,a,hh⟩=wi at *
 clear hwi
 have SX:=Lib.hid hw1
 go_enter Tryz.func24,Tryz.ntmps24
 go_wp2_with fail
 rw [←SX.out]
 clear SX hw1
 refine KW.out.mono ?_
 rintro e w2 ⟨⟨Am,cm,rfl,hr⟩,hb⟩
 have B2:=Lib.hid (bel_in B1.out hb)
 have KC:=Lib.hid (fun (W:World) (hx:Below w2.heap.size w2 W)=>KC.out W (bel_in hb hx))
 obtain ⟨-,hmc,hmm,hat⟩:=rdHrs_at hr
 have hmm':cm≤9223372036854775807:=hmm
 have HAT:=Lib.hid hat
 have HR:=Lib.hid hr
 clear hat hr hb hmm KW
 go_wp2
 go_loopw [6] (fun i wr=>∃k:Nat,k≤m.length∧i=.int .i64 k∧m.takeWhile (leH n)=m.take k++(m.drop k).takeWhile (leH n)∧Dr w2 wr) (fun i _=>m.length - (intOf i).toNat)
 case atStart=>exact ⟨0,Nat.zero_le _,rfl,rfl,Dr.refl _⟩
 case round=>
  obtain ⟨k,hk,rfl,htw,hdr⟩:=hrel
  have HT:=Lib.hid htw
  have HD:=Lib.hid hdr
  clear htw hdr
  by_cases hlt:k < m.length
  ·obtain ⟨ad,E1,e1,E2,e2,E3,e3,E4,e4,rfl,had,hv,h0,-⟩:=HAT.out k hlt
   have i0:(0:Int)≤(k:Int):=by omega
   have i1:(k:Int) < (m.length:Int):=by omega
   have g0:=keep6 (HD.out.below _) h0
   have b0:=(KC.out wr (HD.out.below _)).1
   clear had hv h0
   have ST:=Lib.hid (tw_step (p:=leH n) hlt HT.out)
   have hle:(Op.bytesLess m[k].e.n.toList n.toList||m[k].e.n.toList==n.toList)=leH n m[k]:=le_or _ _
   generalize hq:leH n m[k]=q at *
   generalize m[k].e.n=mn at *
   cases q
   ·go_wp2_with fail
    go_quiet (fail)
    have HDD:=Lib.hid (HD.out.more nq)
    have TWS:=Lib.hid (tw_stop hk HT.out (fun _=>hq))
    go_wp2_with fail
    refine wp_region_noPanic ?_
    refine wp_region_D (fun W=>W.cell? ⟨w.heap.size,0,none⟩=some (.string n)∧W.cell? ⟨w.heap.size,1,none⟩=some (.string v)∧W.cell? ⟨w.heap.size,2,none⟩=some (.slice A1 d.length c1)∧W.cell? ⟨w.heap.size,3,none⟩=some (.slice A2 r.length c2)∧W.cell? ⟨w.heap.size,4,none⟩=some (.slice A3 c'.length c3)∧W.cell? ⟨w.heap.size,5,none⟩=some (.slice A4 p.length c4)∧W.cell? ⟨w.heap.size,6,none⟩=some (.bool a)∧W.cell? ⟨w.heap.size,7,none⟩=some (.bool hh)) 12 (by kernel_rfl) (w0:=w2) HDD.out (fun V hV=>KC.out V (hV.below _)) (fun V hV hHeld=>?_)
    have BV:=Lib.hid (hV.below w2.heap.size)
    have HRV:=Lib.hid (rdHrs_good.up (rdHrs_good.below HR.out BV.out) BV.out.size)
    have KS:=Lib.hid (fun (W:World) (hb:Below V.heap.size V W)=>KC.out W (bel_in BV.out hb))
    have XA:=Lib.hid (rdRow_take (k:=k) HRV.out hk)
    have XB:=Lib.hid (rdRow_drop (k:=k) HRV.out hk)
    have hkc:k≤cm:=Nat.le_trans hk hmc
    have EY:=Lib.hid (EntV.hr (x:=⟨⟨n,v,d,r,c',p⟩,a,hh⟩) (HX.out.on (bel_in B2.out BV.out)))
    have BW:=Lib.hid (bel_in B2.out BV.out)
    have HWI:=Lib.hid (show wi=m.take k++[⟨⟨n,v,d,r,c',p⟩,a,hh⟩]++m.drop k by
     rw [XM.out];unfold inH;rw [TWS.out.1,TWS.out.2,List.append_assoc,List.singleton_append])
    have hl1:(m.take k).length≤199:=by rw [List.length_take];have:=HM.out;omega
    have hl2:(m.drop k).length≤199:=by rw [List.length_drop];have:=HM.out;omega
    generalize m.take k=L1 at *
    generalize m.drop k=L2 at *
    have hm1:([]:List Hr).length+L1.length≤maxLen:=by simp only [List.length_nil];unfold maxLen;omega
    have hm2:(([]:List Hr).length+L1.length)*136≤140737488355328:=by simp only [List.length_nil];omega
    have hm3:L1.length+[(⟨⟨n,v,d,r,c',p⟩,a,hh⟩:Hr)].length≤maxLen:=by simp only [List.length_singleton];unfold maxLen;omega
    have hm4:(L1.length+[(⟨⟨n,v,d,r,c',p⟩,a,hh⟩:Hr)].length)*136≤140737488355328:=by simp only [List.length_singleton];omega
    have hm5:(L1++[(⟨⟨n,v,d,r,c',p⟩,a,hh⟩:Hr)]).length+L2.length≤maxLen:=by simp only [List.length_append,List.length_singleton];unfold maxLen;omega
    have hm6:((L1++[(⟨⟨n,v,d,r,c',p⟩,a,hh⟩:Hr)]).length+L2.length)*136≤140737488355328:=by simp only [List.length_append,List.length_singleton];omega
    have AA:=Lib.hid (mgA (ty:=36) rdHr_good XA.out)
    have AB:=Lib.hid (mgB (ty:=36) rdHr_good #[.string n,.string v,.slice A1 d.length c1,.slice A2 r.length c2,.slice A3 c'.length c3,.slice A4 p.length c4,.bool a,.bool hh] 36 XA.out)
    have AC:=Lib.hid (mgC (ty:=36) rdHr_good #[.string n,.string v,.slice A1 d.length c1,.slice A2 r.length c2,.slice A3 c'.length c3,.slice A4 p.length c4,.bool a,.bool hh] 36 XA.out)
    have BC:=Lib.hid (show Below V.heap.size V (V.alloc (Obj.cells #[.string n,.string v,.slice A1 d.length c1,.slice A2 r.length c2,.slice A3 c'.length c3,.slice A4 p.length c4,.bool a,.bool hh] 36)) from (Below.refl _ V).alloc (Nat.le_refl _) _)
    clear hV hl1 hl2
    refine wpAnyL_take (i:=1) (v:=?_) [11,7,4,3] rfl (by kernel_rfl) (by kernel_rfl) (by kernel_rfl) (fun _ _ _ h=>h) (by kernel_rfl) (by kernel_rfl) (by kernel_rfl) (Or.inl ⟨by rfl,?_⟩) (by assumption) ?_
    rotate_left
    ·intro w hSw
     try dsimp only at hSw
     go_simp
     first|done|with_reducible rfl
    try simp only [Act.put,List.setIfInBounds_toArray,List.set_cons_zero,List.set_cons_succ]
    refine wpAnyL_take (i:=2) (v:=?_) [11,7,4,3] rfl (by kernel_rfl) (by kernel_rfl) (by kernel_rfl) (fun _ _ _ h=>h) (by kernel_rfl) (by kernel_rfl) (by kernel_rfl) (Or.inl ⟨by rfl,?_⟩) (by assumption) ?_
    rotate_left
    ·intro w hSw
     try dsimp only at hSw
     go_simp
     first|done|with_reducible rfl
    try simp only [Act.put,List.setIfInBounds_toArray,List.set_cons_zero,List.set_cons_succ]
    refine wpAnyL_take (i:=3) (v:=?_) [11,7,4] rfl (by kernel_rfl) (by kernel_rfl) (by kernel_rfl) (fun _ _ _ h=>h) (by kernel_rfl) (by kernel_rfl) (by kernel_rfl) (Or.inl ⟨by rfl,?_⟩) (by assumption) ?_
    rotate_left
    ·intro w hSw
     try dsimp only at hSw
     go_simp
     first|done|with_reducible rfl
    try simp only [Act.put,List.setIfInBounds_toArray,List.set_cons_zero,List.set_cons_succ]
    refine wpAnyL_take (i:=5) (v:=?_) [11,7,6] rfl (by kernel_rfl) (by kernel_rfl) (by kernel_rfl) (fun _ _ _ h=>h) (by kernel_rfl) (by kernel_rfl) (by kernel_rfl) (Or.inl ⟨by rfl,?_⟩) (by assumption) ?_
    rotate_left
    ·intro w hSw
     try dsimp only at hSw
     go_simp
     first|done|with_reducible rfl
    try simp only [Act.put,List.setIfInBounds_toArray,List.set_cons_zero,List.set_cons_succ]
    refine wpAnyL_take (i:=8) (v:=?_) [11,10] rfl (by kernel_rfl) (by kernel_rfl) (by kernel_rfl) (fun _ _ _ h=>h) (by kernel_rfl) (by kernel_rfl) (by kernel_rfl) (Or.inl ⟨by rfl,?_⟩) (by assumption) ?_
    rotate_left
    ·intro w hSw
     try dsimp only at hSw
     go_simp
     first|done|with_reducible rfl
    try simp only [Act.put,List.setIfInBounds_toArray,List.set_cons_zero,List.set_cons_succ]
    refine wpAnyL_take (i:=9) (v:=?_) [11,10] rfl (by kernel_rfl) (by kernel_rfl) (by kernel_rfl) (fun _ _ _ h=>h) (by kernel_rfl) (by kernel_rfl) (by kernel_rfl) (Or.inl ⟨by rfl,?_⟩) (by assumption) ?_
    rotate_left
    ·intro w hSw
     try dsimp only at hSw
     go_simp
     first|done|with_reducible rfl
    try simp only [Act.put,List.setIfInBounds_toArray,List.set_cons_zero,List.set_cons_succ]
    refine wpAnyL_take (i:=10) (v:=?_) [11] rfl (by kernel_rfl) (by kernel_rfl) (by kernel_rfl) (fun _ _ _ h=>h) (by kernel_rfl) (by kernel_rfl) (by kernel_rfl) (Or.inl ⟨by rfl,?_⟩) (by assumption) ?_
    rotate_left
    ·intro w hSw
     try dsimp only at hSw
     go_simp
     first|done|with_reducible rfl
    try simp only [Act.put,List.setIfInBounds_toArray,List.set_cons_zero,List.set_cons_succ]
    refine wpAnyL_two (i:=0) (k:=6) (by kernel_rfl) rfl rfl (fun K hK=>?_) (fun K hK=>?_)
    ·go_simp
     refine hK.out _ _ (KS.out _ AA.out.bel) (fun hHeld=>?_)
     clear hK K
     try simp only [Act.put,List.setIfInBounds_toArray,List.set_cons_zero,List.set_cons_succ]
     refine wpAnyL_two (i:=4) (k:=6) (by kernel_rfl) rfl rfl (fun K hK=>?_) (fun K hK=>?_)
     ·refine step_growN _ (by rfl) _ _ 23 23 (by rfl) rdHr_good (by decide) (fun _=>True) V.heap.size 36 36 fi _ 136 Tryz.underlying23 Tryz.underlying23 hi hz0 hz1 hz2 rfl _ _ (by rfl) AA.out.g _ _ _ _ _ (by rfl) AA.out.x AA.out.s hm1 hm2 AA.out.bs ?_
      intro v3 w3 hG3 hg3 hm3'
      have B3:=Lib.hid (mg_next (v3:=v3) AA.out hg3).2
      have Y2:=Lib.hid (mg2A rdHr_good #[.string n,.string v,.slice A1 d.length c1,.slice A2 r.length c2,.slice A3 c'.length c3,.slice A4 p.length c4,.bool a,.bool hh] 36 EY.out AA.out hG3 hg3)
      obtain ⟨A3,c3',rfl,_,_⟩:=hG3.own
      clear hG3 hg3 hm3'
      refine hK.out _ _ (KS.out _ B3.out) (fun hHeld=>?_)
      clear hK K
      try simp only [Act.put,List.setIfInBounds_toArray,List.set_cons_zero,List.set_cons_succ]
      refine wpAnyL_one (i:=6) (by kernel_rfl) rfl (fun K hK=>?_)
      go_simp
      refine hK.out _ _ (KS.out _ Y2.out.bel) (fun hHeld=>?_)
      clear hK K
      try simp only [Act.put,List.setIfInBounds_toArray,List.set_cons_zero,List.set_cons_succ]
      refine wpAnyL_one (i:=7) (by kernel_rfl) rfl (fun K hK=>?_)
      refine step_growN _ (by rfl) _ _ 23 23 (by rfl) rdHr_good (by decide) (fun _=>True) V.heap.size 36 36 fi _ 136 Tryz.underlying23 Tryz.underlying23 hi hz0 hz1 hz2 rfl _ _ (by rfl) Y2.out.g _ _ _ _ _ (by rfl) Y2.out.x Y2.out.s hm3 hm4 Y2.out.bs ?_
      intro v5 w5 hG5 hg5 _
      have Y3:=Lib.hid (mg_3 rdHr_good Y2.out XB.out hG5 hg5)
      obtain ⟨A5,c5,rfl,_,_⟩:=hG5.own
      clear hG5 hg5
      refine hK.out _ _ (KS.out _ Y3.out.bel) (fun hHeld=>?_)
      clear hK K
      try simp only [Act.put,List.setIfInBounds_toArray,List.set_cons_zero,List.set_cons_succ]
      refine wpAnyL_one (i:=11) (by kernel_rfl) rfl (fun K hK=>?_)
      refine step_growN _ (by rfl) _ _ 23 23 (by rfl) rdHr_good (by decide) (fun _=>True) V.heap.size 36 36 fi _ 136 Tryz.underlying23 Tryz.underlying23 hi hz0 hz1 hz2 rfl _ _ (by rfl) Y3.out.g _ _ _ _ _ (by rfl) Y3.out.x Y3.out.s hm5 hm6 Y3.out.bs ?_
      intro v7 w7 hG7 hg7 _
      have EN:=Lib.hid (mg_end rdHr_good Y3.out hG7 hg7)
      obtain ⟨A7,c7,hv7,_,_⟩:=hG7.own
      rw [←HWI.out] at EN hv7
      subst hv7
      clear hG7 hg7
      refine hK.out _ _ (KS.out _ EN.out.1) (fun hHeld=>?_)
      clear hK K
      try simp only [Act.put,List.setIfInBounds_toArray,List.set_cons_zero,List.set_cons_succ]
      refine wpAnyL_last (by kernel_rfl) rfl (by kernel_rfl) (fun K hK=>?_)
      go_simp
      refine hK.out _ _ ?_
      clear hK K
      refine NoPanic.normal ?_
      go_wp2_with fail
      all_goals
       go_ret
       exact ⟨⟨A7,c7,rfl,EN.out.2⟩,bel_in BW.out EN.out.1⟩
     ·go_simp
      refine hK.out _ _ (KS.out _ AB.out.bel) (fun hHeld=>?_)
      clear hK K
      try simp only [Act.put,List.setIfInBounds_toArray,List.set_cons_zero,List.set_cons_succ]
      refine wpAnyL_one (i:=4) (by kernel_rfl) rfl (fun K hK=>?_)
      refine step_growN _ (by rfl) _ _ 23 23 (by rfl) rdHr_good (by decide) (fun _=>True) V.heap.size 36 36 fi _ 136 Tryz.underlying23 Tryz.underlying23 hi hz0 hz1 hz2 rfl _ _ (by rfl) AB.out.g _ _ _ _ _ (by rfl) AB.out.x AB.out.s hm1 hm2 AB.out.bs ?_
      intro v3 w3 hG3 hg3 hm3'
      have B3:=Lib.hid (mg_next (v3:=v3) AB.out hg3).2
      have Y2:=Lib.hid (mg2B rdHr_good EY.out AB.out hG3 hg3 hm3')
      obtain ⟨A3,c3',rfl,_,_⟩:=hG3.own
      clear hG3 hg3 hm3'
      refine hK.out _ _ (KS.out _ B3.out) (fun hHeld=>?_)
      clear hK K
      try simp only [Act.put,List.setIfInBounds_toArray,List.set_cons_zero,List.set_cons_succ]
      refine wpAnyL_one (i:=7) (by kernel_rfl) rfl (fun K hK=>?_)
      refine step_growN _ (by rfl) _ _ 23 23 (by rfl) rdHr_good (by decide) (fun _=>True) V.heap.size 36 36 fi _ 136 Tryz.underlying23 Tryz.underlying23 hi hz0 hz1 hz2 rfl _ _ (by rfl) Y2.out.g _ _ _ _ _ (by rfl) Y2.out.x Y2.out.s hm3 hm4 Y2.out.bs ?_
      intro v5 w5 hG5 hg5 _
      have Y3:=Lib.hid (mg_3 rdHr_good Y2.out XB.out hG5 hg5)
      obtain ⟨A5,c5,rfl,_,_⟩:=hG5.own
      clear hG5 hg5
      refine hK.out _ _ (KS.out _ Y3.out.bel) (fun hHeld=>?_)
      clear hK K
      try simp only [Act.put,List.setIfInBounds_toArray,List.set_cons_zero,List.set_cons_succ]
      refine wpAnyL_one (i:=11) (by kernel_rfl) rfl (fun K hK=>?_)
      refine step_growN _ (by rfl) _ _ 23 23 (by rfl) rdHr_good (by decide) (fun _=>True) V.heap.size 36 36 fi _ 136 Tryz.underlying23 Tryz.underlying23 hi hz0 hz1 hz2 rfl _ _ (by rfl) Y3.out.g _ _ _ _ _ (by rfl) Y3.out.x Y3.out.s hm5 hm6 Y3.out.bs ?_
      intro v7 w7 hG7 hg7 _
      have EN:=Lib.hid (mg_end rdHr_good Y3.out hG7 hg7)
      obtain ⟨A7,c7,hv7,_,_⟩:=hG7.own
      rw [←HWI.out] at EN hv7
      subst hv7
      clear hG7 hg7
      refine hK.out _ _ (KS.out _ EN.out.1) (fun hHeld=>?_)
      clear hK K
      try simp only [Act.put,List.setIfInBounds_toArray,List.set_cons_zero,List.set_cons_succ]
      refine wpAnyL_last (by kernel_rfl) rfl (by kernel_rfl) (fun K hK=>?_)
      go_simp
      refine hK.out _ _ ?_
      clear hK K
      refine NoPanic.normal ?_
      go_wp2_with fail
      all_goals
       go_ret
       exact ⟨⟨A7,c7,rfl,EN.out.2⟩,bel_in BW.out EN.out.1⟩
    ·go_simp
     refine hK.out _ _ (KS.out _ BC.out) (fun hHeld=>?_)
     clear hK K
     try simp only [Act.put,List.setIfInBounds_toArray,List.set_cons_zero,List.set_cons_succ]
     refine wpAnyL_one (i:=0) (by kernel_rfl) rfl (fun K hK=>?_)
     go_simp
     refine hK.out _ _ (KS.out _ AC.out.bel) (fun hHeld=>?_)
     clear hK K
     try simp only [Act.put,List.setIfInBounds_toArray,List.set_cons_zero,List.set_cons_succ]
     refine wpAnyL_one (i:=4) (by kernel_rfl) rfl (fun K hK=>?_)
     refine step_growN _ (by rfl) _ _ 23 23 (by rfl) rdHr_good (by decide) (fun _=>True) V.heap.size 36 36 fi _ 136 Tryz.underlying23 Tryz.underlying23 hi hz0 hz1 hz2 rfl _ _ (by rfl) AC.out.g _ _ _ _ _ (by rfl) AC.out.x AC.out.s hm1 hm2 AC.out.bs ?_
     intro v3 w3 hG3 hg3 hm3'
     have B3:=Lib.hid (mg_next (v3:=v3) AC.out hg3).2
     have Y2:=Lib.hid (mg2C rdHr_good EY.out AC.out hG3 hg3 hm3')
     obtain ⟨A3,c3',rfl,_,_⟩:=hG3.own
     clear hG3 hg3 hm3'
     refine hK.out _ _ (KS.out _ B3.out) (fun hHeld=>?_)
     clear hK K
     try simp only [Act.put,List.setIfInBounds_toArray,List.set_cons_zero,List.set_cons_succ]
     refine wpAnyL_one (i:=7) (by kernel_rfl) rfl (fun K hK=>?_)
     refine step_growN _ (by rfl) _ _ 23 23 (by rfl) rdHr_good (by decide) (fun _=>True) V.heap.size 36 36 fi _ 136 Tryz.underlying23 Tryz.underlying23 hi hz0 hz1 hz2 rfl _ _ (by rfl) Y2.out.g _ _ _ _ _ (by rfl) Y2.out.x Y2.out.s hm3 hm4 Y2.out.bs ?_
     intro v5 w5 hG5 hg5 _
     have Y3:=Lib.hid (mg_3 rdHr_good Y2.out XB.out hG5 hg5)
     obtain ⟨A5,c5,rfl,_,_⟩:=hG5.own
     clear hG5 hg5
     refine hK.out _ _ (KS.out _ Y3.out.bel) (fun hHeld=>?_)
     clear hK K
     try simp only [Act.put,List.setIfInBounds_toArray,List.set_cons_zero,List.set_cons_succ]
     refine wpAnyL_one (i:=11) (by kernel_rfl) rfl (fun K hK=>?_)
     refine step_growN _ (by rfl) _ _ 23 23 (by rfl) rdHr_good (by decide) (fun _=>True) V.heap.size 36 36 fi _ 136 Tryz.underlying23 Tryz.underlying23 hi hz0 hz1 hz2 rfl _ _ (by rfl) Y3.out.g _ _ _ _ _ (by rfl) Y3.out.x Y3.out.s hm5 hm6 Y3.out.bs ?_
     intro v7 w7 hG7 hg7 _
     have EN:=Lib.hid (mg_end rdHr_good Y3.out hG7 hg7)
     obtain ⟨A7,c7,hv7,_,_⟩:=hG7.own
     rw [←HWI.out] at EN hv7
     subst hv7
     clear hG7 hg7
     refine hK.out _ _ (KS.out _ EN.out.1) (fun hHeld=>?_)
     clear hK K
     try simp only [Act.put,List.setIfInBounds_toArray,List.set_cons_zero,List.set_cons_succ]
     refine wpAnyL_last (by kernel_rfl) rfl (by kernel_rfl) (fun K hK=>?_)
     go_simp
     refine hK.out _ _ ?_
     clear hK K
     refine NoPanic.normal ?_
     go_wp2_with fail
     all_goals
      go_ret
      exact ⟨⟨A7,c7,rfl,EN.out.2⟩,bel_in BW.out EN.out.1⟩
   ·go_wp2_with fail
    go_quiet (fail)
    go_wp2
    go_roundw
    case rel=>exact ⟨k+1,by omega,by go_num,ST.out (by trivial),HD.out.more _⟩
    case measure=>simp [intOf];omega
  ·have i0:¬(k:Int) < (m.length:Int):=by omega
   rcases Am with _|ad
   ·have hm0:m=[]:=by
     by_cases hz:0 < m.length
     ·obtain ⟨ad,_,_,_,_,_,_,_,_,e,-⟩:=HAT.out 0 hz
      cases e
     ·exact List.eq_nil_of_length_eq_zero (by omega)
    subst hm0
    obtain rfl:k=0:=by simpa using hk
    go_wp2_with fail
    go_quiet (fail)
    have HDD:=Lib.hid (HD.out.more nq)
    go_wp2_with fail
    refine wp_region_noPanic ?_
    refine wp_region_D (fun W=>W.cell? ⟨w.heap.size,0,none⟩=some (.string n)∧W.cell? ⟨w.heap.size,1,none⟩=some (.string v)∧W.cell? ⟨w.heap.size,2,none⟩=some (.slice A1 d.length c1)∧W.cell? ⟨w.heap.size,3,none⟩=some (.slice A2 r.length c2)∧W.cell? ⟨w.heap.size,4,none⟩=some (.slice A3 c'.length c3)∧W.cell? ⟨w.heap.size,5,none⟩=some (.slice A4 p.length c4)∧W.cell? ⟨w.heap.size,6,none⟩=some (.bool a)∧W.cell? ⟨w.heap.size,7,none⟩=some (.bool hh)) 12 (by kernel_rfl) (w0:=w2) HDD.out (fun V hV=>KC.out V (hV.below _)) (fun V hV hHeld=>?_)
    have BV:=Lib.hid (hV.below w2.heap.size)
    have HRV:=Lib.hid (rdHrs_good.up (rdHrs_good.below HR.out BV.out) BV.out.size)
    have KS:=Lib.hid (fun (W:World) (hb:Below V.heap.size V W)=>KC.out W (bel_in BV.out hb))
    obtain ⟨L1,hL1⟩:∃L:List Hr,L=[]:=⟨_,rfl⟩
    obtain ⟨L2,hL2⟩:∃L:List Hr,L=[]:=⟨_,rfl⟩
    have XA:=Lib.hid (show rdHrs V (lt_ V.heap.size) L1 [.slice none 0 cm] by rw [hL1];exact HRV.out)
    have XB:=Lib.hid (show rdHrs V (lt_ V.heap.size) L2 [.slice none 0 cm] by rw [hL2];exact HRV.out)
    have EY:=Lib.hid (EntV.hr (x:=⟨⟨n,v,d,r,c',p⟩,a,hh⟩) (HX.out.on (bel_in B2.out BV.out)))
    have BW:=Lib.hid (bel_in B2.out BV.out)
    have HWI:=Lib.hid (show wi=L1++[⟨⟨n,v,d,r,c',p⟩,a,hh⟩]++L2 by
     rw [XM.out];rw [hL1,hL2];rfl)
    have hl1:L1.length≤199:=by rw [hL1];decide
    have hl2:L2.length≤199:=by rw [hL2];decide
    have hm1:([]:List Hr).length+L1.length≤maxLen:=by simp only [List.length_nil];unfold maxLen;omega
    have hm2:(([]:List Hr).length+L1.length)*136≤140737488355328:=by simp only [List.length_nil];omega
    have hm3:L1.length+[(⟨⟨n,v,d,r,c',p⟩,a,hh⟩:Hr)].length≤maxLen:=by simp only [List.length_singleton];unfold maxLen;omega
    have hm4:(L1.length+[(⟨⟨n,v,d,r,c',p⟩,a,hh⟩:Hr)].length)*136≤140737488355328:=by simp only [List.length_singleton];omega
    have hm5:(L1++[(⟨⟨n,v,d,r,c',p⟩,a,hh⟩:Hr)]).length+L2.length≤maxLen:=by simp only [List.length_append,List.length_singleton];unfold maxLen;omega
    have hm6:((L1++[(⟨⟨n,v,d,r,c',p⟩,a,hh⟩:Hr)]).length+L2.length)*136≤140737488355328:=by simp only [List.length_append,List.length_singleton];omega
    have AA:=Lib.hid (mgA (ty:=36) rdHr_good XA.out)
    have AB:=Lib.hid (mgB (ty:=36) rdHr_good #[.string n,.string v,.slice A1 d.length c1,.slice A2 r.length c2,.slice A3 c'.length c3,.slice A4 p.length c4,.bool a,.bool hh] 36 XA.out)
    have AC:=Lib.hid (mgC (ty:=36) rdHr_good #[.string n,.string v,.slice A1 d.length c1,.slice A2 r.length c2,.slice A3 c'.length c3,.slice A4 p.length c4,.bool a,.bool hh] 36 XA.out)
    have BC:=Lib.hid (show Below V.heap.size V (V.alloc (Obj.cells #[.string n,.string v,.slice A1 d.length c1,.slice A2 r.length c2,.slice A3 c'.length c3,.slice A4 p.length c4,.bool a,.bool hh] 36)) from (Below.refl _ V).alloc (Nat.le_refl _) _)
    clear hV hl1 hl2 hL1 hL2
    refine wpAnyL_take (i:=1) (v:=?_) [11,7,4,3] rfl (by kernel_rfl) (by kernel_rfl) (by kernel_rfl) (fun _ _ _ h=>h) (by kernel_rfl) (by kernel_rfl) (by kernel_rfl) (Or.inl ⟨by rfl,?_⟩) (by assumption) ?_
    rotate_left
    ·intro w hSw
     try dsimp only at hSw
     go_simp
     first|done|with_reducible rfl
    try simp only [Act.put,List.setIfInBounds_toArray,List.set_cons_zero,List.set_cons_succ]
    refine wpAnyL_take (i:=2) (v:=?_) [11,7,4,3] rfl (by kernel_rfl) (by kernel_rfl) (by kernel_rfl) (fun _ _ _ h=>h) (by kernel_rfl) (by kernel_rfl) (by kernel_rfl) (Or.inl ⟨by rfl,?_⟩) (by assumption) ?_
    rotate_left
    ·intro w hSw
     try dsimp only at hSw
     go_simp
     first|done|with_reducible rfl
    try simp only [Act.put,List.setIfInBounds_toArray,List.set_cons_zero,List.set_cons_succ]
    refine wpAnyL_take (i:=3) (v:=?_) [11,7,4] rfl (by kernel_rfl) (by kernel_rfl) (by kernel_rfl) (fun _ _ _ h=>h) (by kernel_rfl) (by kernel_rfl) (by kernel_rfl) (Or.inl ⟨by rfl,?_⟩) (by assumption) ?_
    rotate_left
    ·intro w hSw
     try dsimp only at hSw
     go_simp
     first|done|with_reducible rfl
    try simp only [Act.put,List.setIfInBounds_toArray,List.set_cons_zero,List.set_cons_succ]
    refine wpAnyL_take (i:=5) (v:=?_) [11,7,6] rfl (by kernel_rfl) (by kernel_rfl) (by kernel_rfl) (fun _ _ _ h=>h) (by kernel_rfl) (by kernel_rfl) (by kernel_rfl) (Or.inl ⟨by rfl,?_⟩) (by assumption) ?_
    rotate_left
    ·intro w hSw
     try dsimp only at hSw
     go_simp
     first|done|with_reducible rfl
    try simp only [Act.put,List.setIfInBounds_toArray,List.set_cons_zero,List.set_cons_succ]
    refine wpAnyL_take (i:=8) (v:=?_) [11,10] rfl (by kernel_rfl) (by kernel_rfl) (by kernel_rfl) (fun _ _ _ h=>h) (by kernel_rfl) (by kernel_rfl) (by kernel_rfl) (Or.inl ⟨by rfl,?_⟩) (by assumption) ?_
    rotate_left
    ·intro w hSw
     try dsimp only at hSw
     go_simp
     first|done|with_reducible rfl
    try simp only [Act.put,List.setIfInBounds_toArray,List.set_cons_zero,List.set_cons_succ]
    refine wpAnyL_take (i:=9) (v:=?_) [11,10] rfl (by kernel_rfl) (by kernel_rfl) (by kernel_rfl) (fun _ _ _ h=>h) (by kernel_rfl) (by kernel_rfl) (by kernel_rfl) (Or.inl ⟨by rfl,?_⟩) (by assumption) ?_
    rotate_left
    ·intro w hSw
     try dsimp only at hSw
     go_simp
     first|done|with_reducible rfl
    try simp only [Act.put,List.setIfInBounds_toArray,List.set_cons_zero,List.set_cons_succ]
    refine wpAnyL_take (i:=10) (v:=?_) [11] rfl (by kernel_rfl) (by kernel_rfl) (by kernel_rfl) (fun _ _ _ h=>h) (by kernel_rfl) (by kernel_rfl) (by kernel_rfl) (Or.inl ⟨by rfl,?_⟩) (by assumption) ?_
    rotate_left
    ·intro w hSw
     try dsimp only at hSw
     go_simp
     first|done|with_reducible rfl
    try simp only [Act.put,List.setIfInBounds_toArray,List.set_cons_zero,List.set_cons_succ]
    refine wpAnyL_two (i:=0) (k:=6) (by kernel_rfl) rfl rfl (fun K hK=>?_) (fun K hK=>?_)
    ·go_simp
     refine hK.out _ _ (KS.out _ AA.out.bel) (fun hHeld=>?_)
     clear hK K
     try simp only [Act.put,List.setIfInBounds_toArray,List.set_cons_zero,List.set_cons_succ]
     refine wpAnyL_two (i:=4) (k:=6) (by kernel_rfl) rfl rfl (fun K hK=>?_) (fun K hK=>?_)
     ·refine step_growN _ (by rfl) _ _ 23 23 (by rfl) rdHr_good (by decide) (fun _=>True) V.heap.size 36 36 fi _ 136 Tryz.underlying23 Tryz.underlying23 hi hz0 hz1 hz2 rfl _ _ (by rfl) AA.out.g _ _ _ _ _ (by rfl) AA.out.x AA.out.s hm1 hm2 AA.out.bs ?_
      intro v3 w3 hG3 hg3 hm3'
      have B3:=Lib.hid (mg_next (v3:=v3) AA.out hg3).2
      have Y2:=Lib.hid (mg2A rdHr_good #[.string n,.string v,.slice A1 d.length c1,.slice A2 r.length c2,.slice A3 c'.length c3,.slice A4 p.length c4,.bool a,.bool hh] 36 EY.out AA.out hG3 hg3)
      obtain ⟨A3,c3',rfl,_,_⟩:=hG3.own
      clear hG3 hg3 hm3'
      refine hK.out _ _ (KS.out _ B3.out) (fun hHeld=>?_)
      clear hK K
      try simp only [Act.put,List.setIfInBounds_toArray,List.set_cons_zero,List.set_cons_succ]
      refine wpAnyL_one (i:=6) (by kernel_rfl) rfl (fun K hK=>?_)
      go_simp
      refine hK.out _ _ (KS.out _ Y2.out.bel) (fun hHeld=>?_)
      clear hK K
      try simp only [Act.put,List.setIfInBounds_toArray,List.set_cons_zero,List.set_cons_succ]
      refine wpAnyL_one (i:=7) (by kernel_rfl) rfl (fun K hK=>?_)
      refine step_growN _ (by rfl) _ _ 23 23 (by rfl) rdHr_good (by decide) (fun _=>True) V.heap.size 36 36 fi _ 136 Tryz.underlying23 Tryz.underlying23 hi hz0 hz1 hz2 rfl _ _ (by rfl) Y2.out.g _ _ _ _ _ (by rfl) Y2.out.x Y2.out.s hm3 hm4 Y2.out.bs ?_
      intro v5 w5 hG5 hg5 _
      have Y3:=Lib.hid (mg_3 rdHr_good Y2.out XB.out hG5 hg5)
      obtain ⟨A5,c5,rfl,_,_⟩:=hG5.own
      clear hG5 hg5
      refine hK.out _ _ (KS.out _ Y3.out.bel) (fun hHeld=>?_)
      clear hK K
      try simp only [Act.put,List.setIfInBounds_toArray,List.set_cons_zero,List.set_cons_succ]
      refine wpAnyL_one (i:=11) (by kernel_rfl) rfl (fun K hK=>?_)
      refine step_growN _ (by rfl) _ _ 23 23 (by rfl) rdHr_good (by decide) (fun _=>True) V.heap.size 36 36 fi _ 136 Tryz.underlying23 Tryz.underlying23 hi hz0 hz1 hz2 rfl _ _ (by rfl) Y3.out.g _ _ _ _ _ (by rfl) Y3.out.x Y3.out.s hm5 hm6 Y3.out.bs ?_
      intro v7 w7 hG7 hg7 _
      have EN:=Lib.hid (mg_end rdHr_good Y3.out hG7 hg7)
      obtain ⟨A7,c7,hv7,_,_⟩:=hG7.own
      rw [←HWI.out] at EN hv7
      subst hv7
      clear hG7 hg7
      refine hK.out _ _ (KS.out _ EN.out.1) (fun hHeld=>?_)
      clear hK K
      try simp only [Act.put,List.setIfInBounds_toArray,List.set_cons_zero,List.set_cons_succ]
      refine wpAnyL_last (by kernel_rfl) rfl (by kernel_rfl) (fun K hK=>?_)
      go_simp
      refine hK.out _ _ ?_
      clear hK K
      refine NoPanic.normal ?_
      go_wp2_with fail
      all_goals
       go_ret
       exact ⟨⟨A7,c7,rfl,EN.out.2⟩,bel_in BW.out EN.out.1⟩
     ·go_simp
      refine hK.out _ _ (KS.out _ AB.out.bel) (fun hHeld=>?_)
      clear hK K
      try simp only [Act.put,List.setIfInBounds_toArray,List.set_cons_zero,List.set_cons_succ]
      refine wpAnyL_one (i:=4) (by kernel_rfl) rfl (fun K hK=>?_)
      refine step_growN _ (by rfl) _ _ 23 23 (by rfl) rdHr_good (by decide) (fun _=>True) V.heap.size 36 36 fi _ 136 Tryz.underlying23 Tryz.underlying23 hi hz0 hz1 hz2 rfl _ _ (by rfl) AB.out.g _ _ _ _ _ (by rfl) AB.out.x AB.out.s hm1 hm2 AB.out.bs ?_
      intro v3 w3 hG3 hg3 hm3'
      have B3:=Lib.hid (mg_next (v3:=v3) AB.out hg3).2
      have Y2:=Lib.hid (mg2B rdHr_good EY.out AB.out hG3 hg3 hm3')
      obtain ⟨A3,c3',rfl,_,_⟩:=hG3.own
      clear hG3 hg3 hm3'
      refine hK.out _ _ (KS.out _ B3.out) (fun hHeld=>?_)
      clear hK K
      try simp only [Act.put,List.setIfInBounds_toArray,List.set_cons_zero,List.set_cons_succ]
      refine wpAnyL_one (i:=7) (by kernel_rfl) rfl (fun K hK=>?_)
      refine step_growN _ (by rfl) _ _ 23 23 (by rfl) rdHr_good (by decide) (fun _=>True) V.heap.size 36 36 fi _ 136 Tryz.underlying23 Tryz.underlying23 hi hz0 hz1 hz2 rfl _ _ (by rfl) Y2.out.g _ _ _ _ _ (by rfl) Y2.out.x Y2.out.s hm3 hm4 Y2.out.bs ?_
      intro v5 w5 hG5 hg5 _
      have Y3:=Lib.hid (mg_3 rdHr_good Y2.out XB.out hG5 hg5)
      obtain ⟨A5,c5,rfl,_,_⟩:=hG5.own
      clear hG5 hg5
      refine hK.out _ _ (KS.out _ Y3.out.bel) (fun hHeld=>?_)
      clear hK K
      try simp only [Act.put,List.setIfInBounds_toArray,List.set_cons_zero,List.set_cons_succ]
      refine wpAnyL_one (i:=11) (by kernel_rfl) rfl (fun K hK=>?_)
      refine step_growN _ (by rfl) _ _ 23 23 (by rfl) rdHr_good (by decide) (fun _=>True) V.heap.size 36 36 fi _ 136 Tryz.underlying23 Tryz.underlying23 hi hz0 hz1 hz2 rfl _ _ (by rfl) Y3.out.g _ _ _ _ _ (by rfl) Y3.out.x Y3.out.s hm5 hm6 Y3.out.bs ?_
      intro v7 w7 hG7 hg7 _
      have EN:=Lib.hid (mg_end rdHr_good Y3.out hG7 hg7)
      obtain ⟨A7,c7,hv7,_,_⟩:=hG7.own
      rw [←HWI.out] at EN hv7
      subst hv7
      clear hG7 hg7
      refine hK.out _ _ (KS.out _ EN.out.1) (fun hHeld=>?_)
      clear hK K
      try simp only [Act.put,List.setIfInBounds_toArray,List.set_cons_zero,List.set_cons_succ]
      refine wpAnyL_last (by kernel_rfl) rfl (by kernel_rfl) (fun K hK=>?_)
      go_simp
      refine hK.out _ _ ?_
      clear hK K
      refine NoPanic.normal ?_
      go_wp2_with fail
      all_goals
       go_ret
       exact ⟨⟨A7,c7,rfl,EN.out.2⟩,bel_in BW.out EN.out.1⟩
    ·go_simp
     refine hK.out _ _ (KS.out _ BC.out) (fun hHeld=>?_)
     clear hK K
     try simp only [Act.put,List.setIfInBounds_toArray,List.set_cons_zero,List.set_cons_succ]
     refine wpAnyL_one (i:=0) (by kernel_rfl) rfl (fun K hK=>?_)
     go_simp
     refine hK.out _ _ (KS.out _ AC.out.bel) (fun hHeld=>?_)
     clear hK K
     try simp only [Act.put,List.setIfInBounds_toArray,List.set_cons_zero,List.set_cons_succ]
     refine wpAnyL_one (i:=4) (by kernel_rfl) rfl (fun K hK=>?_)
     refine step_growN _ (by rfl) _ _ 23 23 (by rfl) rdHr_good (by decide) (fun _=>True) V.heap.size 36 36 fi _ 136 Tryz.underlying23 Tryz.underlying23 hi hz0 hz1 hz2 rfl _ _ (by rfl) AC.out.g _ _ _ _ _ (by rfl) AC.out.x AC.out.s hm1 hm2 AC.out.bs ?_
     intro v3 w3 hG3 hg3 hm3'
     have B3:=Lib.hid (mg_next (v3:=v3) AC.out hg3).2
     have Y2:=Lib.hid (mg2C rdHr_good EY.out AC.out hG3 hg3 hm3')
     obtain ⟨A3,c3',rfl,_,_⟩:=hG3.own
     clear hG3 hg3 hm3'
     refine hK.out _ _ (KS.out _ B3.out) (fun hHeld=>?_)
     clear hK K
     try simp only [Act.put,List.setIfInBounds_toArray,List.set_cons_zero,List.set_cons_succ]
     refine wpAnyL_one (i:=7) (by kernel_rfl) rfl (fun K hK=>?_)
     refine step_growN _ (by rfl) _ _ 23 23 (by rfl) rdHr_good (by decide) (fun _=>True) V.heap.size 36 36 fi _ 136 Tryz.underlying23 Tryz.underlying23 hi hz0 hz1 hz2 rfl _ _ (by rfl) Y2.out.g _ _ _ _ _ (by rfl) Y2.out.x Y2.out.s hm3 hm4 Y2.out.bs ?_
     intro v5 w5 hG5 hg5 _
     have Y3:=Lib.hid (mg_3 rdHr_good Y2.out XB.out hG5 hg5)
     obtain ⟨A5,c5,rfl,_,_⟩:=hG5.own
     clear hG5 hg5
     refine hK.out _ _ (KS.out _ Y3.out.bel) (fun hHeld=>?_)
     clear hK K
     try simp only [Act.put,List.setIfInBounds_toArray,List.set_cons_zero,List.set_cons_succ]
     refine wpAnyL_one (i:=11) (by kernel_rfl) rfl (fun K hK=>?_)
     refine step_growN _ (by rfl) _ _ 23 23 (by rfl) rdHr_good (by decide) (fun _=>True) V.heap.size 36 36 fi _ 136 Tryz.underlying23 Tryz.underlying23 hi hz0 hz1 hz2 rfl _ _ (by rfl) Y3.out.g _ _ _ _ _ (by rfl) Y3.out.x Y3.out.s hm5 hm6 Y3.out.bs ?_
     intro v7 w7 hG7 hg7 _
     have EN:=Lib.hid (mg_end rdHr_good Y3.out hG7 hg7)
     obtain ⟨A7,c7,hv7,_,_⟩:=hG7.own
     rw [←HWI.out] at EN hv7
     subst hv7
     clear hG7 hg7
     refine hK.out _ _ (KS.out _ EN.out.1) (fun hHeld=>?_)
     clear hK K
     try simp only [Act.put,List.setIfInBounds_toArray,List.set_cons_zero,List.set_cons_succ]
     refine wpAnyL_last (by kernel_rfl) rfl (by kernel_rfl) (fun K hK=>?_)
     go_simp
     refine hK.out _ _ ?_
     clear hK K
     refine NoPanic.normal ?_
     go_wp2_with fail
     all_goals
      go_ret
      exact ⟨⟨A7,c7,rfl,EN.out.2⟩,bel_in BW.out EN.out.1⟩
   ·go_wp2_with fail
    go_quiet (fail)
    have HDD:=Lib.hid (HD.out.more nq)
    have TWS:=Lib.hid (tw_stop hk HT.out (fun h=>absurd h hlt))
    go_wp2_with fail
    refine wp_region_noPanic ?_
    refine wp_region_D (fun W=>W.cell? ⟨w.heap.size,0,none⟩=some (.string n)∧W.cell? ⟨w.heap.size,1,none⟩=some (.string v)∧W.cell? ⟨w.heap.size,2,none⟩=some (.slice A1 d.length c1)∧W.cell? ⟨w.heap.size,3,none⟩=some (.slice A2 r.length c2)∧W.cell? ⟨w.heap.size,4,none⟩=some (.slice A3 c'.length c3)∧W.cell? ⟨w.heap.size,5,none⟩=some (.slice A4 p.length c4)∧W.cell? ⟨w.heap.size,6,none⟩=some (.bool a)∧W.cell? ⟨w.heap.size,7,none⟩=some (.bool hh)) 12 (by kernel_rfl) (w0:=w2) HDD.out (fun V hV=>KC.out V (hV.below _)) (fun V hV hHeld=>?_)
    have BV:=Lib.hid (hV.below w2.heap.size)
    have HRV:=Lib.hid (rdHrs_good.up (rdHrs_good.below HR.out BV.out) BV.out.size)
    have KS:=Lib.hid (fun (W:World) (hb:Below V.heap.size V W)=>KC.out W (bel_in BV.out hb))
    have XA:=Lib.hid (rdRow_take (k:=k) HRV.out hk)
    have XB:=Lib.hid (rdRow_drop (k:=k) HRV.out hk)
    have hkc:k≤cm:=Nat.le_trans hk hmc
    have EY:=Lib.hid (EntV.hr (x:=⟨⟨n,v,d,r,c',p⟩,a,hh⟩) (HX.out.on (bel_in B2.out BV.out)))
    have BW:=Lib.hid (bel_in B2.out BV.out)
    have HWI:=Lib.hid (show wi=m.take k++[⟨⟨n,v,d,r,c',p⟩,a,hh⟩]++m.drop k by
     rw [XM.out];unfold inH;rw [TWS.out.1,TWS.out.2,List.append_assoc,List.singleton_append])
    have hl1:(m.take k).length≤199:=by rw [List.length_take];have:=HM.out;omega
    have hl2:(m.drop k).length≤199:=by rw [List.length_drop];have:=HM.out;omega
    generalize m.take k=L1 at *
    generalize m.drop k=L2 at *
    have hm1:([]:List Hr).length+L1.length≤maxLen:=by simp only [List.length_nil];unfold maxLen;omega
    have hm2:(([]:List Hr).length+L1.length)*136≤140737488355328:=by simp only [List.length_nil];omega
    have hm3:L1.length+[(⟨⟨n,v,d,r,c',p⟩,a,hh⟩:Hr)].length≤maxLen:=by simp only [List.length_singleton];unfold maxLen;omega
    have hm4:(L1.length+[(⟨⟨n,v,d,r,c',p⟩,a,hh⟩:Hr)].length)*136≤140737488355328:=by simp only [List.length_singleton];omega
    have hm5:(L1++[(⟨⟨n,v,d,r,c',p⟩,a,hh⟩:Hr)]).length+L2.length≤maxLen:=by simp only [List.length_append,List.length_singleton];unfold maxLen;omega
    have hm6:((L1++[(⟨⟨n,v,d,r,c',p⟩,a,hh⟩:Hr)]).length+L2.length)*136≤140737488355328:=by simp only [List.length_append,List.length_singleton];omega
    have AA:=Lib.hid (mgA (ty:=36) rdHr_good XA.out)
    have AB:=Lib.hid (mgB (ty:=36) rdHr_good #[.string n,.string v,.slice A1 d.length c1,.slice A2 r.length c2,.slice A3 c'.length c3,.slice A4 p.length c4,.bool a,.bool hh] 36 XA.out)
    have AC:=Lib.hid (mgC (ty:=36) rdHr_good #[.string n,.string v,.slice A1 d.length c1,.slice A2 r.length c2,.slice A3 c'.length c3,.slice A4 p.length c4,.bool a,.bool hh] 36 XA.out)
    have BC:=Lib.hid (show Below V.heap.size V (V.alloc (Obj.cells #[.string n,.string v,.slice A1 d.length c1,.slice A2 r.length c2,.slice A3 c'.length c3,.slice A4 p.length c4,.bool a,.bool hh] 36)) from (Below.refl _ V).alloc (Nat.le_refl _) _)
    clear hV hl1 hl2
    refine wpAnyL_take (i:=1) (v:=?_) [11,7,4,3] rfl (by kernel_rfl) (by kernel_rfl) (by kernel_rfl) (fun _ _ _ h=>h) (by kernel_rfl) (by kernel_rfl) (by kernel_rfl) (Or.inl ⟨by rfl,?_⟩) (by assumption) ?_
    rotate_left
    ·intro w hSw
     try dsimp only at hSw
     go_simp
     first|done|with_reducible rfl
    try simp only [Act.put,List.setIfInBounds_toArray,List.set_cons_zero,List.set_cons_succ]
    refine wpAnyL_take (i:=2) (v:=?_) [11,7,4,3] rfl (by kernel_rfl) (by kernel_rfl) (by kernel_rfl) (fun _ _ _ h=>h) (by kernel_rfl) (by kernel_rfl) (by kernel_rfl) (Or.inl ⟨by rfl,?_⟩) (by assumption) ?_
    rotate_left
    ·intro w hSw
     try dsimp only at hSw
     go_simp
     first|done|with_reducible rfl
    try simp only [Act.put,List.setIfInBounds_toArray,List.set_cons_zero,List.set_cons_succ]
    refine wpAnyL_take (i:=3) (v:=?_) [11,7,4] rfl (by kernel_rfl) (by kernel_rfl) (by kernel_rfl) (fun _ _ _ h=>h) (by kernel_rfl) (by kernel_rfl) (by kernel_rfl) (Or.inl ⟨by rfl,?_⟩) (by assumption) ?_
    rotate_left
    ·intro w hSw
     try dsimp only at hSw
     go_simp
     first|done|with_reducible rfl
    try simp only [Act.put,List.setIfInBounds_toArray,List.set_cons_zero,List.set_cons_succ]
    refine wpAnyL_take (i:=5) (v:=?_) [11,7,6] rfl (by kernel_rfl) (by kernel_rfl) (by kernel_rfl) (fun _ _ _ h=>h) (by kernel_rfl) (by kernel_rfl) (by kernel_rfl) (Or.inl ⟨by rfl,?_⟩) (by assumption) ?_
    rotate_left
    ·intro w hSw
     try dsimp only at hSw
     go_simp
     first|done|with_reducible rfl
    try simp only [Act.put,List.setIfInBounds_toArray,List.set_cons_zero,List.set_cons_succ]
    refine wpAnyL_take (i:=8) (v:=?_) [11,10] rfl (by kernel_rfl) (by kernel_rfl) (by kernel_rfl) (fun _ _ _ h=>h) (by kernel_rfl) (by kernel_rfl) (by kernel_rfl) (Or.inl ⟨by rfl,?_⟩) (by assumption) ?_
    rotate_left
    ·intro w hSw
     try dsimp only at hSw
     go_simp
     first|done|with_reducible rfl
    try simp only [Act.put,List.setIfInBounds_toArray,List.set_cons_zero,List.set_cons_succ]
    refine wpAnyL_take (i:=9) (v:=?_) [11,10] rfl (by kernel_rfl) (by kernel_rfl) (by kernel_rfl) (fun _ _ _ h=>h) (by kernel_rfl) (by kernel_rfl) (by kernel_rfl) (Or.inl ⟨by rfl,?_⟩) (by assumption) ?_
    rotate_left
    ·intro w hSw
     try dsimp only at hSw
     go_simp
     first|done|with_reducible rfl
    try simp only [Act.put,List.setIfInBounds_toArray,List.set_cons_zero,List.set_cons_succ]
    refine wpAnyL_take (i:=10) (v:=?_) [11] rfl (by kernel_rfl) (by kernel_rfl) (by kernel_rfl) (fun _ _ _ h=>h) (by kernel_rfl) (by kernel_rfl) (by kernel_rfl) (Or.inl ⟨by rfl,?_⟩) (by assumption) ?_
    rotate_left
    ·intro w hSw
     try dsimp only at hSw
     go_simp
     first|done|with_reducible rfl
    try simp only [Act.put,List.setIfInBounds_toArray,List.set_cons_zero,List.set_cons_succ]
    refine wpAnyL_two (i:=0) (k:=6) (by kernel_rfl) rfl rfl (fun K hK=>?_) (fun K hK=>?_)
    ·go_simp
     refine hK.out _ _ (KS.out _ AA.out.bel) (fun hHeld=>?_)
     clear hK K
     try simp only [Act.put,List.setIfInBounds_toArray,List.set_cons_zero,List.set_cons_succ]
     refine wpAnyL_two (i:=4) (k:=6) (by kernel_rfl) rfl rfl (fun K hK=>?_) (fun K hK=>?_)
     ·refine step_growN _ (by rfl) _ _ 23 23 (by rfl) rdHr_good (by decide) (fun _=>True) V.heap.size 36 36 fi _ 136 Tryz.underlying23 Tryz.underlying23 hi hz0 hz1 hz2 rfl _ _ (by rfl) AA.out.g _ _ _ _ _ (by rfl) AA.out.x AA.out.s hm1 hm2 AA.out.bs ?_
      intro v3 w3 hG3 hg3 hm3'
      have B3:=Lib.hid (mg_next (v3:=v3) AA.out hg3).2
      have Y2:=Lib.hid (mg2A rdHr_good #[.string n,.string v,.slice A1 d.length c1,.slice A2 r.length c2,.slice A3 c'.length c3,.slice A4 p.length c4,.bool a,.bool hh] 36 EY.out AA.out hG3 hg3)
      obtain ⟨A3,c3',rfl,_,_⟩:=hG3.own
      clear hG3 hg3 hm3'
      refine hK.out _ _ (KS.out _ B3.out) (fun hHeld=>?_)
      clear hK K
      try simp only [Act.put,List.setIfInBounds_toArray,List.set_cons_zero,List.set_cons_succ]
      refine wpAnyL_one (i:=6) (by kernel_rfl) rfl (fun K hK=>?_)
      go_simp
      refine hK.out _ _ (KS.out _ Y2.out.bel) (fun hHeld=>?_)
      clear hK K
      try simp only [Act.put,List.setIfInBounds_toArray,List.set_cons_zero,List.set_cons_succ]
      refine wpAnyL_one (i:=7) (by kernel_rfl) rfl (fun K hK=>?_)
      refine step_growN _ (by rfl) _ _ 23 23 (by rfl) rdHr_good (by decide) (fun _=>True) V.heap.size 36 36 fi _ 136 Tryz.underlying23 Tryz.underlying23 hi hz0 hz1 hz2 rfl _ _ (by rfl) Y2.out.g _ _ _ _ _ (by rfl) Y2.out.x Y2.out.s hm3 hm4 Y2.out.bs ?_
      intro v5 w5 hG5 hg5 _
      have Y3:=Lib.hid (mg_3 rdHr_good Y2.out XB.out hG5 hg5)
      obtain ⟨A5,c5,rfl,_,_⟩:=hG5.own
      clear hG5 hg5
      refine hK.out _ _ (KS.out _ Y3.out.bel) (fun hHeld=>?_)
      clear hK K
      try simp only [Act.put,List.setIfInBounds_toArray,List.set_cons_zero,List.set_cons_succ]
      refine wpAnyL_one (i:=11) (by kernel_rfl) rfl (fun K hK=>?_)
      refine step_growN _ (by rfl) _ _ 23 23 (by rfl) rdHr_good (by decide) (fun _=>True) V.heap.size 36 36 fi _ 136 Tryz.underlying23 Tryz.underlying23 hi hz0 hz1 hz2 rfl _ _ (by rfl) Y3.out.g _ _ _ _ _ (by rfl) Y3.out.x Y3.out.s hm5 hm6 Y3.out.bs ?_
      intro v7 w7 hG7 hg7 _
      have EN:=Lib.hid (mg_end rdHr_good Y3.out hG7 hg7)
      obtain ⟨A7,c7,hv7,_,_⟩:=hG7.own
      rw [←HWI.out] at EN hv7
      subst hv7
      clear hG7 hg7
      refine hK.out _ _ (KS.out _ EN.out.1) (fun hHeld=>?_)
      clear hK K
      try simp only [Act.put,List.setIfInBounds_toArray,List.set_cons_zero,List.set_cons_succ]
      refine wpAnyL_last (by kernel_rfl) rfl (by kernel_rfl) (fun K hK=>?_)
      go_simp
      refine hK.out _ _ ?_
      clear hK K
      refine NoPanic.normal ?_
      go_wp2_with fail
      all_goals
       go_ret
       exact ⟨⟨A7,c7,rfl,EN.out.2⟩,bel_in BW.out EN.out.1⟩
     ·go_simp
      refine hK.out _ _ (KS.out _ AB.out.bel) (fun hHeld=>?_)
      clear hK K
      try simp only [Act.put,List.setIfInBounds_toArray,List.set_cons_zero,List.set_cons_succ]
      refine wpAnyL_one (i:=4) (by kernel_rfl) rfl (fun K hK=>?_)
      refine step_growN _ (by rfl) _ _ 23 23 (by rfl) rdHr_good (by decide) (fun _=>True) V.heap.size 36 36 fi _ 136 Tryz.underlying23 Tryz.underlying23 hi hz0 hz1 hz2 rfl _ _ (by rfl) AB.out.g _ _ _ _ _ (by rfl) AB.out.x AB.out.s hm1 hm2 AB.out.bs ?_
      intro v3 w3 hG3 hg3 hm3'
      have B3:=Lib.hid (mg_next (v3:=v3) AB.out hg3).2
      have Y2:=Lib.hid (mg2B rdHr_good EY.out AB.out hG3 hg3 hm3')
      obtain ⟨A3,c3',rfl,_,_⟩:=hG3.own
      clear hG3 hg3 hm3'
      refine hK.out _ _ (KS.out _ B3.out) (fun hHeld=>?_)
      clear hK K
      try simp only [Act.put,List.setIfInBounds_toArray,List.set_cons_zero,List.set_cons_succ]
      refine wpAnyL_one (i:=7) (by kernel_rfl) rfl (fun K hK=>?_)
      refine step_growN _ (by rfl) _ _ 23 23 (by rfl) rdHr_good (by decide) (fun _=>True) V.heap.size 36 36 fi _ 136 Tryz.underlying23 Tryz.underlying23 hi hz0 hz1 hz2 rfl _ _ (by rfl) Y2.out.g _ _ _ _ _ (by rfl) Y2.out.x Y2.out.s hm3 hm4 Y2.out.bs ?_
      intro v5 w5 hG5 hg5 _
      have Y3:=Lib.hid (mg_3 rdHr_good Y2.out XB.out hG5 hg5)
      obtain ⟨A5,c5,rfl,_,_⟩:=hG5.own
      clear hG5 hg5
      refine hK.out _ _ (KS.out _ Y3.out.bel) (fun hHeld=>?_)
      clear hK K
      try simp only [Act.put,List.setIfInBounds_toArray,List.set_cons_zero,List.set_cons_succ]
      refine wpAnyL_one (i:=11) (by kernel_rfl) rfl (fun K hK=>?_)
      refine step_growN _ (by rfl) _ _ 23 23 (by rfl) rdHr_good (by decide) (fun _=>True) V.heap.size 36 36 fi _ 136 Tryz.underlying23 Tryz.underlying23 hi hz0 hz1 hz2 rfl _ _ (by rfl) Y3.out.g _ _ _ _ _ (by rfl) Y3.out.x Y3.out.s hm5 hm6 Y3.out.bs ?_
      intro v7 w7 hG7 hg7 _
      have EN:=Lib.hid (mg_end rdHr_good Y3.out hG7 hg7)
      obtain ⟨A7,c7,hv7,_,_⟩:=hG7.own
      rw [←HWI.out] at EN hv7
      subst hv7
      clear hG7 hg7
      refine hK.out _ _ (KS.out _ EN.out.1) (fun hHeld=>?_)
      clear hK K
      try simp only [Act.put,List.setIfInBounds_toArray,List.set_cons_zero,List.set_cons_succ]
      refine wpAnyL_last (by kernel_rfl) rfl (by kernel_rfl) (fun K hK=>?_)
      go_simp
      refine hK.out _ _ ?_
      clear hK K
      refine NoPanic.normal ?_
      go_wp2_with fail
      all_goals
       go_ret
       exact ⟨⟨A7,c7,rfl,EN.out.2⟩,bel_in BW.out EN.out.1⟩
    ·go_simp
     refine hK.out _ _ (KS.out _ BC.out) (fun hHeld=>?_)
     clear hK K
     try simp only [Act.put,List.setIfInBounds_toArray,List.set_cons_zero,List.set_cons_succ]
     refine wpAnyL_one (i:=0) (by kernel_rfl) rfl (fun K hK=>?_)
     go_simp
     refine hK.out _ _ (KS.out _ AC.out.bel) (fun hHeld=>?_)
     clear hK K
     try simp only [Act.put,List.setIfInBounds_toArray,List.set_cons_zero,List.set_cons_succ]
     refine wpAnyL_one (i:=4) (by kernel_rfl) rfl (fun K hK=>?_)
     refine step_growN _ (by rfl) _ _ 23 23 (by rfl) rdHr_good (by decide) (fun _=>True) V.heap.size 36 36 fi _ 136 Tryz.underlying23 Tryz.underlying23 hi hz0 hz1 hz2 rfl _ _ (by rfl) AC.out.g _ _ _ _ _ (by rfl) AC.out.x AC.out.s hm1 hm2 AC.out.bs ?_
     intro v3 w3 hG3 hg3 hm3'
     have B3:=Lib.hid (mg_next (v3:=v3) AC.out hg3).2
     have Y2:=Lib.hid (mg2C rdHr_good EY.out AC.out hG3 hg3 hm3')
     obtain ⟨A3,c3',rfl,_,_⟩:=hG3.own
     clear hG3 hg3 hm3'
     refine hK.out _ _ (KS.out _ B3.out) (fun hHeld=>?_)
     clear hK K
     try simp only [Act.put,List.setIfInBounds_toArray,List.set_cons_zero,List.set_cons_succ]
     refine wpAnyL_one (i:=7) (by kernel_rfl) rfl (fun K hK=>?_)
     refine step_growN _ (by rfl) _ _ 23 23 (by rfl) rdHr_good (by decide) (fun _=>True) V.heap.size 36 36 fi _ 136 Tryz.underlying23 Tryz.underlying23 hi hz0 hz1 hz2 rfl _ _ (by rfl) Y2.out.g _ _ _ _ _ (by rfl) Y2.out.x Y2.out.s hm3 hm4 Y2.out.bs ?_
     intro v5 w5 hG5 hg5 _
     have Y3:=Lib.hid (mg_3 rdHr_good Y2.out XB.out hG5 hg5)
     obtain ⟨A5,c5,rfl,_,_⟩:=hG5.own
     clear hG5 hg5
     refine hK.out _ _ (KS.out _ Y3.out.bel) (fun hHeld=>?_)
     clear hK K
     try simp only [Act.put,List.setIfInBounds_toArray,List.set_cons_zero,List.set_cons_succ]
     refine wpAnyL_one (i:=11) (by kernel_rfl) rfl (fun K hK=>?_)
     refine step_growN _ (by rfl) _ _ 23 23 (by rfl) rdHr_good (by decide) (fun _=>True) V.heap.size 36 36 fi _ 136 Tryz.underlying23 Tryz.underlying23 hi hz0 hz1 hz2 rfl _ _ (by rfl) Y3.out.g _ _ _ _ _ (by rfl) Y3.out.x Y3.out.s hm5 hm6 Y3.out.bs ?_
     intro v7 w7 hG7 hg7 _
     have EN:=Lib.hid (mg_end rdHr_good Y3.out hG7 hg7)
     obtain ⟨A7,c7,hv7,_,_⟩:=hG7.own
     rw [←HWI.out] at EN hv7
     subst hv7
     clear hG7 hg7
     refine hK.out _ _ (KS.out _ EN.out.1) (fun hHeld=>?_)
     clear hK K
     try simp only [Act.put,List.setIfInBounds_toArray,List.set_cons_zero,List.set_cons_succ]
     refine wpAnyL_last (by kernel_rfl) rfl (by kernel_rfl) (fun K hK=>?_)
     go_simp
     refine hK.out _ _ ?_
     clear hK K
     refine NoPanic.normal ?_
     go_wp2_with fail
     all_goals
      go_ret
      exact ⟨⟨A7,c7,rfl,EN.out.2⟩,bel_in BW.out EN.out.1⟩
end Go.Proofs.YtboinnjncaehkaaGreatDoor
