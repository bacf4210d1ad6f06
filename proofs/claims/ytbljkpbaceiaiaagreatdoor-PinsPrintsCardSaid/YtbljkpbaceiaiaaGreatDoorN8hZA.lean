/- What the laws rest on: N8h. -/
import Derived.Test.YtbljkpbaceiaiaaGreatDoorQAOZA
import Derived.Test.YtbljkpbaceiaiaaGreatDoorQAYZA
import Derived.Test.YtbljkpbaceiaiaaGreatDoorQAZZA
import Derived.Test.YtbljkpbaceiaiaaGreatDoorQBCZA
set_option maxRecDepth 100000
set_option linter.unusedVariables false
set_option linter.unusedSimpArgs false
namespace Go.Proofs.YtbljkpbaceiaiaaGreatDoor
open Go.RowKit
set_option maxHeartbeats 8000000 in
theorem prints8 (x:Pn) (A:Option Addr) (n c:Nat) (l:List Pn) (w:World) (h:rdPns w (lt_ w.heap.size) l [.slice A n c]) (hz:n*40≤140737488351232) (E:Env w) :
  Calls Tryz.prog 4 #[x.val,.slice A n c] w fun e w'=>e=.returned (.bool true)∧Below w.heap.size w w':=by
 obtain ⟨rfl,hnc,hcm,-⟩:=rdPns_at h
 have hcm':c≤9223372036854775807:=hcm
 obtain ⟨fi,hi,hz0,hz1,hz2⟩:=info_parts pn_info
 obtain ⟨xn,xx,xp⟩:=x
 have HE:=Lib.hid E
 have H:=Lib.hid h
 have KH:=Lib.hid (fun W E=>shown8_any W E)
 have KL:=Lib.hid (fun A' c' W hr=>small8_any A' (l.length+1) c' (l++[⟨xn,xx,xp⟩]) W hr)
 have KR1:=Lib.hid (fun W=>pright_any ⟨xn,xx,xp⟩ W)
 have KR2:=Lib.hid (fun (hF:Fw8 (l++[⟨xn,xx,xp⟩])) W=>q8right_any ⟨xn,xx,xp⟩ W (by have:=(hF.2 ⟨xn,xx,xp⟩ (by simp)).1;simp only at this ⊢;omega) (by have:=(hF.2 ⟨xn,xx,xp⟩ (by simp)).2;simp only at this ⊢;unfold maxLen;omega))
 have KP1:=Lib.hid (fun W hr E=>pprint_any A l.length c l W hr E)
 have KP2:=Lib.hid (fun (hF:Fw8 (l++[⟨xn,xx,xp⟩])) W hr=>q8print_any A l.length c l W hr ⟨by have:=hF.1;rw [List.length_append] at this;omega,fun y hy=>hF.2 y (List.mem_append_left _ hy)⟩)
 simp only [Pn.val] at KR1 KR2
 generalize rgtN ⟨xn,xx,xp⟩=rg at *
 generalize prN prP l=pr at *
 have hm1:([]:List Pn).length+l.length≤maxLen:=by simp only [List.length_nil];unfold maxLen;omega
 have hm2:(([]:List Pn).length+l.length)*40≤140737488355328:=by simp only [List.length_nil];omega
 have hm3':l.length+([(⟨xn,xx,xp⟩:Pn)]).length≤maxLen:=by simp only [List.length_singleton];unfold maxLen;omega
 have hm4:(l.length+([(⟨xn,xx,xp⟩:Pn)]).length)*40≤140737488355328:=by simp only [List.length_singleton];omega
 clear E h hcm hz hnc
 go_enter Tryz.func4,Tryz.ntmps4
 have B0:=Lib.hid (bel_box w (.cells #[.string xn,.string xx,.int .i64 xp] 30))
 go_wp2_with fail
 refine (KH.out _ (HE.out.below B0.out)).mono ?_
 rintro e w1 ⟨rfl,hb⟩
 have B1:=Lib.hid (bel_2 B0.out hb)
 obtain ⟨q0,q1,q2,hlt⟩:=box_cells hb
 clear hb
 have hx1:=(rdPns_good.up (rdPns_good.below H.out B1.out) B1.out.size)
 have KS:=Lib.hid (fun (W:World) (hb:Below w1.heap.size w1 W)=>(show W.cell? ⟨w.heap.size,0,none⟩=some (.string xn)∧W.cell? ⟨w.heap.size,1,none⟩=some (.string xx)∧W.cell? ⟨w.heap.size,2,none⟩=some (.int .i64 xp) from ⟨keep_cell hb q0,keep_cell hb q1,keep_cell hb q2⟩))
 have AA:=Lib.hid (mqA (T:=30) rdPn_good hx1)
 have AB:=Lib.hid (mqB (T:=30) rdPn_good #[.string xn,.string xx,.int .i64 xp] hx1)
 have AC:=Lib.hid (mqC (T:=30) rdPn_good #[.string xn,.string xx,.int .i64 xp] hx1)
 have BC:=Lib.hid (show Below w1.heap.size w1 (w1.alloc (.cells #[.string xn,.string xx,.int .i64 xp] 30)).drew from belD ((Below.refl _ _).alloc (Nat.le_refl _) _) 1)
 clear hx1
 go_upto_region 2 with fail
 go_cut [6] from 8 to 14 (fun s6 wx=>∃b,s6=.bool b∧Hid (b=true→Fw8 (l++[⟨xn,xx,xp⟩]))∧Below w1.heap.size w1 wx)
 case first=>
  refine wp_region_noPanic ?_
  refine wp_region_L (fun W=>W.cell? ⟨w.heap.size,0,none⟩=some (.string xn)∧W.cell? ⟨w.heap.size,1,none⟩=some (.string xx)∧W.cell? ⟨w.heap.size,2,none⟩=some (.int .i64 xp)) 7 (by kernel_rfl) (KS.out _ (belD (Below.refl _ _) 1)) (fun hHeld=>?_)
  refine wpAnyL_take (i:=1) (v:=?_) [6,5,2] rfl (by kernel_rfl) (by kernel_rfl) (by kernel_rfl) (fun _ _ _ h=>h) (by kernel_rfl) (by kernel_rfl) (by kernel_rfl) (Or.inl ⟨by rfl,?_⟩) (by assumption) ?_
  rotate_left
  ·intro w hSw
   try dsimp only at hSw
   go_simp
   first|done|with_reducible rfl
  try simp only [Act.put,List.setIfInBounds_toArray,List.set_cons_zero,List.set_cons_succ]
  refine wpAnyL_take (i:=3) (v:=?_) [6,5,4] rfl (by kernel_rfl) (by kernel_rfl) (by kernel_rfl) (fun _ _ _ h=>h) (by kernel_rfl) (by kernel_rfl) (by kernel_rfl) (Or.inl ⟨by rfl,?_⟩) (by assumption) ?_
  rotate_left
  ·intro w hSw
   try dsimp only at hSw
   go_simp
   first|done|with_reducible rfl
  try simp only [Act.put,List.setIfInBounds_toArray,List.set_cons_zero,List.set_cons_succ]
  refine wpAnyL_two (i:=0) (k:=4) (by kernel_rfl) rfl rfl (fun K hK=>?_) (fun K hK=>?_)
  ·go_simp
   refine hK.out _ _ (KS.out _ AA.out.bel) (fun hHeld=>?_)
   clear hK K
   try simp only [Act.put,List.setIfInBounds_toArray,List.set_cons_zero,List.set_cons_succ]
   refine wpAnyL_two (i:=2) (k:=4) (by kernel_rfl) rfl rfl (fun K hK=>?_) (fun K hK=>?_)
   ·refine step_growN _ (by rfl) _ _ 23 23 (by rfl) rdPn_good (by decide) (fun _=>True) w1.heap.size 30 30 fi (.agg #[.string { data:=#[] },.string { data:=#[] },.int .i64 0]) 40 Tryz.underlying23 Tryz.underlying23 hi hz0 hz1 hz2 rfl _ _ (by rfl) AA.out.g _ _ _ _ _ (by rfl) AA.out.x AA.out.s hm1 hm2 AA.out.bs ?_
    intro v3 w3 hG3 hg3 hm3
    have B3:=Lib.hid (mq_next AA.out hG3 hg3).2
    have Y2:=Lib.hid (mq2A (y:=(⟨xn,xx,xp⟩:Pn)) (blk:=#[.string xn,.string xx,.int .i64 xp]) rdPn_good (fun _ _=>rfl) AA.out hG3 hg3)
    obtain ⟨A3,c3',rfl,_,_⟩:=hG3.own
    clear hG3 hg3 hm3
    refine hK.out _ _ (KS.out _ B3.out) (fun hHeld=>?_)
    clear hK K
    try simp only [Act.put,List.setIfInBounds_toArray,List.set_cons_zero,List.set_cons_succ]
    refine wpAnyL_one (i:=4) (by kernel_rfl) rfl (fun K hK=>?_)
    go_simp
    refine hK.out _ _ (KS.out _ Y2.out.bel) (fun hHeld=>?_)
    clear hK K
    try simp only [Act.put,List.setIfInBounds_toArray,List.set_cons_zero,List.set_cons_succ]
    refine wpAnyL_one (i:=5) (by kernel_rfl) rfl (fun K hK=>?_)
    refine step_growN _ (by rfl) _ _ 23 23 (by rfl) rdPn_good (by decide) (fun _=>True) w1.heap.size 30 30 fi (.agg #[.string { data:=#[] },.string { data:=#[] },.int .i64 0]) 40 Tryz.underlying23 Tryz.underlying23 hi hz0 hz1 hz2 rfl _ _ (by rfl) Y2.out.g _ _ _ _ _ (by rfl) Y2.out.x Y2.out.s hm3' hm4 Y2.out.bs ?_
    intro v5 w5 hG5 hg5 _
    have EN:=Lib.hid (mq_end rdPn_good (fun _ _ _ _ _ h=>h) Y2.out hG5 hg5)
    clear hG5 hg5
    obtain ⟨A5,c5,hv5,_⟩:=id EN.out.2
    simp only [List.cons.injEq,and_true] at hv5
    rw [List.length_append,List.length_singleton] at hv5
    subst hv5
    refine hK.out _ _ (KS.out _ EN.out.1) (fun hHeld=>?_)
    clear hK K
    try simp only [Act.put,List.setIfInBounds_toArray,List.set_cons_zero,List.set_cons_succ]
    refine wpAnyL_one (i:=6) (by kernel_rfl) rfl (fun K hK=>?_)
    go_simp
    refine (KL.out _ _ w5 (rdPns_good.more EN.out.2 fun b hb=>hb.2)).mono ?_
    rintro e w4 ⟨⟨b,rfl,hbt⟩,rfl⟩
    have HBT:=Lib.hid hbt
    clear hbt
    go_wp2_with fail
    refine hK.out _ _ (KS.out _ EN.out.1) (fun hHeld=>?_)
    clear hK K
    try simp only [Act.put,List.setIfInBounds_toArray,List.set_cons_zero,List.set_cons_succ]
    refine wpAnyL_last (by kernel_rfl) rfl (by kernel_rfl) (fun K hK=>?_)
    go_simp
    refine hK.out _ _ ?_
    clear hK K
    refine NoPanic.normal ?_
    go_wp2_with fail
    go_meet
    exact ⟨b,rfl,HBT,EN.out.1⟩
   ·go_simp
    refine hK.out _ _ (KS.out _ AB.out.bel) (fun hHeld=>?_)
    clear hK K
    try simp only [Act.put,List.setIfInBounds_toArray,List.set_cons_zero,List.set_cons_succ]
    refine wpAnyL_one (i:=2) (by kernel_rfl) rfl (fun K hK=>?_)
    refine step_growN _ (by rfl) _ _ 23 23 (by rfl) rdPn_good (by decide) (fun _=>True) w1.heap.size 30 30 fi (.agg #[.string { data:=#[] },.string { data:=#[] },.int .i64 0]) 40 Tryz.underlying23 Tryz.underlying23 hi hz0 hz1 hz2 rfl _ _ (by rfl) AB.out.g _ _ _ _ _ (by rfl) AB.out.x AB.out.s hm1 hm2 AB.out.bs ?_
    intro v3 w3 hG3 hg3 hm3
    have B3:=Lib.hid (mq_next AB.out hG3 hg3).2
    have Y2:=Lib.hid (mq2B (y:=(⟨xn,xx,xp⟩:Pn)) (blk:=#[.string xn,.string xx,.int .i64 xp]) rdPn_good (fun _ _=>rfl) AB.out hG3 hg3 hm3)
    obtain ⟨A3,c3',rfl,_,_⟩:=hG3.own
    clear hG3 hg3 hm3
    refine hK.out _ _ (KS.out _ B3.out) (fun hHeld=>?_)
    clear hK K
    try simp only [Act.put,List.setIfInBounds_toArray,List.set_cons_zero,List.set_cons_succ]
    refine wpAnyL_one (i:=5) (by kernel_rfl) rfl (fun K hK=>?_)
    refine step_growN _ (by rfl) _ _ 23 23 (by rfl) rdPn_good (by decide) (fun _=>True) w1.heap.size 30 30 fi (.agg #[.string { data:=#[] },.string { data:=#[] },.int .i64 0]) 40 Tryz.underlying23 Tryz.underlying23 hi hz0 hz1 hz2 rfl _ _ (by rfl) Y2.out.g _ _ _ _ _ (by rfl) Y2.out.x Y2.out.s hm3' hm4 Y2.out.bs ?_
    intro v5 w5 hG5 hg5 _
    have EN:=Lib.hid (mq_end rdPn_good (fun _ _ _ _ _ h=>h) Y2.out hG5 hg5)
    clear hG5 hg5
    obtain ⟨A5,c5,hv5,_⟩:=id EN.out.2
    simp only [List.cons.injEq,and_true] at hv5
    rw [List.length_append,List.length_singleton] at hv5
    subst hv5
    refine hK.out _ _ (KS.out _ EN.out.1) (fun hHeld=>?_)
    clear hK K
    try simp only [Act.put,List.setIfInBounds_toArray,List.set_cons_zero,List.set_cons_succ]
    refine wpAnyL_one (i:=6) (by kernel_rfl) rfl (fun K hK=>?_)
    go_simp
    refine (KL.out _ _ w5 (rdPns_good.more EN.out.2 fun b hb=>hb.2)).mono ?_
    rintro e w4 ⟨⟨b,rfl,hbt⟩,rfl⟩
    have HBT:=Lib.hid hbt
    clear hbt
    go_wp2_with fail
    refine hK.out _ _ (KS.out _ EN.out.1) (fun hHeld=>?_)
    clear hK K
    try simp only [Act.put,List.setIfInBounds_toArray,List.set_cons_zero,List.set_cons_succ]
    refine wpAnyL_last (by kernel_rfl) rfl (by kernel_rfl) (fun K hK=>?_)
    go_simp
    refine hK.out _ _ ?_
    clear hK K
    refine NoPanic.normal ?_
    go_wp2_with fail
    go_meet
    exact ⟨b,rfl,HBT,EN.out.1⟩
  ·go_simp
   refine hK.out _ _ (KS.out _ BC.out) (fun hHeld=>?_)
   clear hK K
   try simp only [Act.put,List.setIfInBounds_toArray,List.set_cons_zero,List.set_cons_succ]
   refine wpAnyL_one (i:=0) (by kernel_rfl) rfl (fun K hK=>?_)
   go_simp
   refine hK.out _ _ (KS.out _ AC.out.bel) (fun hHeld=>?_)
   clear hK K
   try simp only [Act.put,List.setIfInBounds_toArray,List.set_cons_zero,List.set_cons_succ]
   refine wpAnyL_one (i:=2) (by kernel_rfl) rfl (fun K hK=>?_)
   refine step_growN _ (by rfl) _ _ 23 23 (by rfl) rdPn_good (by decide) (fun _=>True) w1.heap.size 30 30 fi (.agg #[.string { data:=#[] },.string { data:=#[] },.int .i64 0]) 40 Tryz.underlying23 Tryz.underlying23 hi hz0 hz1 hz2 rfl _ _ (by rfl) AC.out.g _ _ _ _ _ (by rfl) AC.out.x AC.out.s hm1 hm2 AC.out.bs ?_
   intro v3 w3 hG3 hg3 hm3
   have B3:=Lib.hid (mq_next AC.out hG3 hg3).2
   have Y2:=Lib.hid (mq2C (y:=(⟨xn,xx,xp⟩:Pn)) (blk:=#[.string xn,.string xx,.int .i64 xp]) rdPn_good (fun _ _=>rfl) AC.out hG3 hg3 hm3)
   obtain ⟨A3,c3',rfl,_,_⟩:=hG3.own
   clear hG3 hg3 hm3
   refine hK.out _ _ (KS.out _ B3.out) (fun hHeld=>?_)
   clear hK K
   try simp only [Act.put,List.setIfInBounds_toArray,List.set_cons_zero,List.set_cons_succ]
   refine wpAnyL_one (i:=5) (by kernel_rfl) rfl (fun K hK=>?_)
   refine step_growN _ (by rfl) _ _ 23 23 (by rfl) rdPn_good (by decide) (fun _=>True) w1.heap.size 30 30 fi (.agg #[.string { data:=#[] },.string { data:=#[] },.int .i64 0]) 40 Tryz.underlying23 Tryz.underlying23 hi hz0 hz1 hz2 rfl _ _ (by rfl) Y2.out.g _ _ _ _ _ (by rfl) Y2.out.x Y2.out.s hm3' hm4 Y2.out.bs ?_
   intro v5 w5 hG5 hg5 _
   have EN:=Lib.hid (mq_end rdPn_good (fun _ _ _ _ _ h=>h) Y2.out hG5 hg5)
   clear hG5 hg5
   obtain ⟨A5,c5,hv5,_⟩:=id EN.out.2
   simp only [List.cons.injEq,and_true] at hv5
   rw [List.length_append,List.length_singleton] at hv5
   subst hv5
   refine hK.out _ _ (KS.out _ EN.out.1) (fun hHeld=>?_)
   clear hK K
   try simp only [Act.put,List.setIfInBounds_toArray,List.set_cons_zero,List.set_cons_succ]
   refine wpAnyL_one (i:=6) (by kernel_rfl) rfl (fun K hK=>?_)
   go_simp
   refine (KL.out _ _ w5 (rdPns_good.more EN.out.2 fun b hb=>hb.2)).mono ?_
   rintro e w4 ⟨⟨b,rfl,hbt⟩,rfl⟩
   have HBT:=Lib.hid hbt
   clear hbt
   go_wp2_with fail
   refine hK.out _ _ (KS.out _ EN.out.1) (fun hHeld=>?_)
   clear hK K
   try simp only [Act.put,List.setIfInBounds_toArray,List.set_cons_zero,List.set_cons_succ]
   refine wpAnyL_last (by kernel_rfl) rfl (by kernel_rfl) (fun K hK=>?_)
   go_simp
   refine hK.out _ _ ?_
   clear hK K
   refine NoPanic.normal ?_
   go_wp2_with fail
   go_meet
   exact ⟨b,rfl,HBT,EN.out.1⟩
 case rest=>
  obtain ⟨b,rfl,HF,hbx⟩:=hcut
  obtain ⟨w2,rfl⟩:∃w2:World,w2=wc:=⟨_,rfl⟩
  have BW:=Lib.hid (bel_2 B1.out hbx)
  obtain ⟨p0,p1,p2⟩:=KS.out _ hbx
  clear hbx KS AA AB AC BC q0 q1 q2 hm1 hm2 hm3' hm4
  cases b
  ·clear p0 p1 p2
   go_wp2
   go_ret
   exact ⟨rfl,BW.out⟩
  have KR2:=Lib.hid (KR2.out (HF.out rfl))
  have KP2:=Lib.hid (KP2.out (HF.out rfl))
  have HR2:=Lib.hid (fun W (hb:Below w2.heap.size w2 W)=>(rdPns_good.up (rdPns_good.below H.out (bel_2 BW.out hb)) (bel_2 BW.out hb).size))
  have HE2:=Lib.hid (fun W (hb:Below w2.heap.size w2 W)=>HE.out.below (bel_2 BW.out hb))
  have bb:=(Below.refl w2.heap.size w2).drew
  have t0:(rg==rg)=true:=beq_self_eq_true rg
  have t1:(pr.toList==pr.toList)=true:=beq_self_eq_true _
  clear HF hlt
  go_wp2
  go_region_held3 (fun W=>W.cell? ⟨w.heap.size,0,none⟩=some (.string xn)∧W.cell? ⟨w.heap.size,1,none⟩=some (.string xx)∧W.cell? ⟨w.heap.size,2,none⟩=some (.int .i64 xp)∧Below w2.heap.size w2 W)
   (first|(go_split_ands;refine ⟨?_,?_,?_,?_⟩<;>first|assumption|exact keep_cell hbx (by assumption)|exact bel_2 (by assumption) hbx)|go_keep)
   ((first|(go_at_call 14;(with_reducible refine (KR1.out _).mono ?_);rintro e wx ⟨rfl,hbx⟩)|(go_at_call 15;(with_reducible refine (KR2.out _).mono ?_);rintro e wx ⟨rfl,hbx⟩)|(go_at_call 16;(with_reducible refine (KP1.out _ (HR2.out _ (by go_split_ands;assumption)) (HE2.out _ (by go_split_ands;assumption))).mono ?_);rintro e wx ⟨rfl,hbx⟩)|(go_at_call 17;(with_reducible refine (KP2.out _ (HR2.out _ (by go_split_ands;assumption))).mono ?_);rintro e wx ⟨rfl,hbx⟩)))
  all_goals
   go_split_ands
   have B9:=Lib.hid (show Below w.heap.size w wx from bel_2 BW.out (by assumption))
   go_wp2
   go_ret
   exact ⟨rfl,B9.out⟩
end Go.Proofs.YtbljkpbaceiaiaaGreatDoor
