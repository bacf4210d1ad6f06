/- What the laws rest on: N8k. -/
import Derived.Test.YtbljkpbaceiaiaaGreatDoorQAKZA
import Derived.Test.YtbljkpbaceiaiaaGreatDoorQAOZA
import Derived.Test.YtbljkpbaceiaiaaGreatDoorQBCZA
import Derived.Test.YtbljkpbaceiaiaaGreatDoorQBFZA
set_option maxRecDepth 100000
set_option linter.unusedVariables false
set_option linter.unusedSimpArgs false
namespace Go.Proofs.YtbljkpbaceiaiaaGreatDoor
open Go.RowKit
set_option maxHeartbeats 8000000 in
theorem first8 (A:Option Addr) (n c:Nat) (l:List Pn) (nm v:ByteArray) (x:Pn) (w:World) (h:rdPns w (lt_ w.heap.size) l [.slice A n c]) (hz:n*40≤140737488351232) (E:Env w) :
  Calls Tryz.prog 7 #[.slice A n c,.string nm,.string v,x.val] w fun e w'=>e=.returned (.bool true)∧Below w.heap.size w w':=by
 obtain ⟨rfl,hnc,hcm,-⟩:=rdPns_at h
 have hcm':c≤9223372036854775807:=hcm
 obtain ⟨fi,hi,hz0,hz1,hz2⟩:=info_parts pn_info
 obtain ⟨xn,xx,xp⟩:=x
 have HR:=Lib.hid (fun (W:World) (hb:Below w.heap.size w W)=>rdPns_good.up (rdPns_good.below h hb) hb.size)
 have HE:=Lib.hid E
 have KH:=Lib.hid (fun W E=>shown8_any W E)
 have KL:=Lib.hid (fun A' c' W hr=>small8_any A' (l.length+1) c' (l++[⟨xn,xx,xp⟩]) W hr)
 have KP:=Lib.hid (fun (W:World) (hb:Below w.heap.size w W)=>pprio_any A l.length c l nm v W (HR.out W hb))
 have KQ:=Lib.hid (fun A' n' c' W hr=>pprio_any A' n' c' (⟨nm,xx,xp⟩::l) nm v W hr)
 have KW:=Lib.hid (fun A' c' W hr=>pprio_any A' (l.length+1) c' (l++[⟨nm,xx,xp⟩]) nm v W hr)
 have KM:=Lib.hid (fun W=>pmatch_any ⟨nm,xx,xp⟩ nm v W)
 have KMx:=Lib.hid (fun (y:Pn) W=>pmatch_any y nm v W)
 have XF:=Lib.hid (fun (hs:nm≠star8)=>prio_first (l:=l) (p:=⟨nm,xx,xp⟩) (v:=v) hs)
 have XL:=Lib.hid (fun (hh:(l.any fun y=>hitN y nm v)=true)=>prio_last (p:=⟨nm,xx,xp⟩) hh)
 have hx0:=Lib.hid h
 have hm1:([]:List Pn).length+l.length≤maxLen:=by simp only [List.length_nil];unfold maxLen;omega
 have hm2:(([]:List Pn).length+l.length)*40≤140737488355328:=by simp only [List.length_nil];omega
 have hm3':l.length+([(⟨xn,xx,xp⟩:Pn)]).length≤maxLen:=by simp only [List.length_singleton];unfold maxLen;omega
 have hm4:(l.length+([(⟨xn,xx,xp⟩:Pn)]).length)*40≤140737488355328:=by simp only [List.length_singleton];omega
 have hm5:([(⟨nm,xx,xp⟩:Pn)]).length+l.length≤maxLen:=by simp only [List.length_singleton];unfold maxLen;omega
 have hm6:(([(⟨nm,xx,xp⟩:Pn)]).length+l.length)*40≤140737488355328:=by simp only [List.length_singleton];omega
 simp only [Pn.val] at KM
 generalize prioN l nm v=was at *
 generalize hnw:prioN (⟨nm,xx,xp⟩::l) nm v=now at *
 generalize prioN (l++[⟨nm,xx,xp⟩]) nm v=bhd at *
 generalize matN ⟨nm,xx,xp⟩ nm v=m at *
 clear E h hcm hz hnc hnw
 go_enter Tryz.func7,Tryz.ntmps7
 have q0:(w.alloc (.cells #[.string xn,.string xx,.int .i64 xp] 30)).frozen? ⟨w.heap.size,0,none⟩=false:=by simp [go_sem]
 have B0:=Lib.hid (bel_box w (.cells #[.string xn,.string xx,.int .i64 xp] 30))
 have fz:=Lib.hid q0
 clear q0
 go_wp2_with fail
 refine (KH.out _ (HE.out.below B0.out)).mono ?_
 rintro e w1 ⟨rfl,hb⟩
 have B1:=Lib.hid (bel_2 B0.out hb)
 obtain ⟨q0,q1,q2,hlt⟩:=box_cells hb
 have fz:=Lib.hid (keep_fr hb (by rw [World.size_alloc];omega) fz.out)
 clear hb
 have hx1:=HR.out _ B1.out
 have KS:=Lib.hid (fun (W:World) (hb:Below w1.heap.size w1 W)=>(show W.cell? ⟨w.heap.size,0,none⟩=some (.string xn)∧W.cell? ⟨w.heap.size,1,none⟩=some (.string xx)∧W.cell? ⟨w.heap.size,2,none⟩=some (.int .i64 xp) from ⟨keep_cell hb q0,keep_cell hb q1,keep_cell hb q2⟩))
 have AA:=Lib.hid (mqA (T:=30) rdPn_good hx1)
 have AB:=Lib.hid (mqB (T:=30) rdPn_good #[.string xn,.string xx,.int .i64 xp] hx1)
 have AC:=Lib.hid (mqC (T:=30) rdPn_good #[.string xn,.string xx,.int .i64 xp] hx1)
 have BC:=Lib.hid (show Below w1.heap.size w1 (w1.alloc (.cells #[.string xn,.string xx,.int .i64 xp] 30)).drew from belD ((Below.refl _ _).alloc (Nat.le_refl _) _) 1)
 clear hx1
 go_upto_region 2 with fail
 go_cut [10] from 18 to 24 (fun s6 wx=>∃b,s6=.bool b∧Hid (b=true→Fw8 (l++[⟨xn,xx,xp⟩]))∧Below w1.heap.size w1 wx)
 case first=>
  clear hm5 hm6
  refine wp_region_noPanic ?_
  refine wp_region_L (fun W=>W.cell? ⟨w.heap.size,0,none⟩=some (.string xn)∧W.cell? ⟨w.heap.size,1,none⟩=some (.string xx)∧W.cell? ⟨w.heap.size,2,none⟩=some (.int .i64 xp)) 7 (by kernel_rfl) (KS.out _ (belD (Below.refl _ _) 1)) (fun hHeld=>?_)
  refine wpAnyL_take (i:=1) (v:=?_) [6,5,2] rfl (by kernel_rfl) (by kernel_rfl) (by kernel_rfl) (fun _ _ _ h=>h) (by kernel_rfl) (by kernel_rfl) (by kernel_rfl) (Or.inl ⟨by rfl,?_⟩) (by assumption) ?_
  rotate_left
  ·intro w hSw
   try dsimp only at hSw
   go_simp
   first|done|with_reducible rfl
  try simp only [Act.put,List.setIfInBounds_toArray,List.set_cons_zero,List.set_cons_succ]
  refine wpAnyL_take (i:=3) (v:=?_) [6,5,4] rfl (by kernel_rfl) (by kernel_rfl) (by kernel_rfl) (fun _ _ _ h=>h) (by kernel_rfl) (by kernel_rfl) (by kernel_rfl) (Or.inl ⟨by rfl,?_⟩) (by assumption) ?_
  rotate_left
  ·intro w hSw
   try dsimp only at hSw
   go_simp
   first|done|with_reducible rfl
  try simp only [Act.put,List.setIfInBounds_toArray,List.set_cons_zero,List.set_cons_succ]
  refine wpAnyL_two (i:=0) (k:=4) (by kernel_rfl) rfl rfl (fun K hK=>?_) (fun K hK=>?_)
  ·go_simp
   refine hK.out _ _ (KS.out _ AA.out.bel) (fun hHeld=>?_)
   clear hK K
   try simp only [Act.put,List.setIfInBounds_toArray,List.set_cons_zero,List.set_cons_succ]
   refine wpAnyL_two (i:=2) (k:=4) (by kernel_rfl) rfl rfl (fun K hK=>?_) (fun K hK=>?_)
   ·refine step_growN _ (by rfl) _ _ 23 23 (by rfl) rdPn_good (by decide) (fun _=>True) w1.heap.size 30 30 fi (.agg #[.string { data:=#[] },.string { data:=#[] },.int .i64 0]) 40 Tryz.underlying23 Tryz.underlying23 hi hz0 hz1 hz2 rfl _ _ (by rfl) AA.out.g _ _ _ _ _ (by rfl) AA.out.x AA.out.s hm1 hm2 AA.out.bs ?_
    intro v3 w3 hG3 hg3 hm3
    have B3:=Lib.hid (mq_next AA.out hG3 hg3).2
    have Y2:=Lib.hid (mq2A (y:=(⟨xn,xx,xp⟩:Pn)) (blk:=#[.string xn,.string xx,.int .i64 xp]) rdPn_good (fun _ _=>rfl) AA.out hG3 hg3)
    obtain ⟨A3,c3',rfl,_,_⟩:=hG3.own
    clear hG3 hg3 hm3
    refine hK.out _ _ (KS.out _ B3.out) (fun hHeld=>?_)
    clear hK K
    try simp only [Act.put,List.setIfInBounds_toArray,List.set_cons_zero,List.set_cons_succ]
    refine wpAnyL_one (i:=4) (by kernel_rfl) rfl (fun K hK=>?_)
    go_simp
    refine hK.out _ _ (KS.out _ Y2.out.bel) (fun hHeld=>?_)
    clear hK K
    try simp only [Act.put,List.setIfInBounds_toArray,List.set_cons_zero,List.set_cons_succ]
    refine wpAnyL_one (i:=5) (by kernel_rfl) rfl (fun K hK=>?_)
    refine step_growN _ (by rfl) _ _ 23 23 (by rfl) rdPn_good (by decide) (fun _=>True) w1.heap.size 30 30 fi (.agg #[.string { data:=#[] },.string { data:=#[] },.int .i64 0]) 40 Tryz.underlying23 Tryz.underlying23 hi hz0 hz1 hz2 rfl _ _ (by rfl) Y2.out.g _ _ _ _ _ (by rfl) Y2.out.x Y2.out.s hm3' hm4 Y2.out.bs ?_
    intro v5 w5 hG5 hg5 _
    have EN:=Lib.hid (mq_end rdPn_good (fun _ _ _ _ _ h=>h) Y2.out hG5 hg5)
    clear hG5 hg5
    obtain ⟨A5,c5,hv5,_⟩:=id EN.out.2
    simp only [List.cons.injEq,and_true] at hv5
    rw [List.length_append,List.length_singleton] at hv5
    subst hv5
    refine hK.out _ _ (KS.out _ EN.out.1) (fun hHeld=>?_)
    clear hK K
    try simp only [Act.put,List.setIfInBounds_toArray,List.set_cons_zero,List.set_cons_succ]
    refine wpAnyL_one (i:=6) (by kernel_rfl) rfl (fun K hK=>?_)
    go_simp
    refine (KL.out _ _ w5 (rdPns_good.more EN.out.2 fun b hb=>hb.2)).mono ?_
    rintro e w4 ⟨⟨b,rfl,hbt⟩,rfl⟩
    have HBT:=Lib.hid hbt
    clear hbt
    go_wp2_with fail
    refine hK.out _ _ (KS.out _ EN.out.1) (fun hHeld=>?_)
    clear hK K
    try simp only [Act.put,List.setIfInBounds_toArray,List.set_cons_zero,List.set_cons_succ]
    refine wpAnyL_last (by kernel_rfl) rfl (by kernel_rfl) (fun K hK=>?_)
    go_simp
    refine hK.out _ _ ?_
    clear hK K
    refine NoPanic.normal ?_
    go_wp2_with fail
    go_meet
    exact ⟨b,rfl,HBT,EN.out.1⟩
   ·go_simp
    refine hK.out _ _ (KS.out _ AB.out.bel) (fun hHeld=>?_)
    clear hK K
    try simp only [Act.put,List.setIfInBounds_toArray,List.set_cons_zero,List.set_cons_succ]
    refine wpAnyL_one (i:=2) (by kernel_rfl) rfl (fun K hK=>?_)
    refine step_growN _ (by rfl) _ _ 23 23 (by rfl) rdPn_good (by decide) (fun _=>True) w1.heap.size 30 30 fi (.agg #[.string { data:=#[] },.string { data:=#[] },.int .i64 0]) 40 Tryz.underlying23 Tryz.underlying23 hi hz0 hz1 hz2 rfl _ _ (by rfl) AB.out.g _ _ _ _ _ (by rfl) AB.out.x AB.out.s hm1 hm2 AB.out.bs ?_
    intro v3 w3 hG3 hg3 hm3
    have B3:=Lib.hid (mq_next AB.out hG3 hg3).2
    have Y2:=Lib.hid (mq2B (y:=(⟨xn,xx,xp⟩:Pn)) (blk:=#[.string xn,.string xx,.int .i64 xp]) rdPn_good (fun _ _=>rfl) AB.out hG3 hg3 hm3)
    obtain ⟨A3,c3',rfl,_,_⟩:=hG3.own
    clear hG3 hg3 hm3
    refine hK.out _ _ (KS.out _ B3.out) (fun hHeld=>?_)
    clear hK K
    try simp only [Act.put,List.setIfInBounds_toArray,List.set_cons_zero,List.set_cons_succ]
    refine wpAnyL_one (i:=5) (by kernel_rfl) rfl (fun K hK=>?_)
    refine step_growN _ (by rfl) _ _ 23 23 (by rfl) rdPn_good (by decide) (fun _=>True) w1.heap.size 30 30 fi (.agg #[.string { data:=#[] },.string { data:=#[] },.int .i64 0]) 40 Tryz.underlying23 Tryz.underlying23 hi hz0 hz1 hz2 rfl _ _ (by rfl) Y2.out.g _ _ _ _ _ (by rfl) Y2.out.x Y2.out.s hm3' hm4 Y2.out.bs ?_
    intro v5 w5 hG5 hg5 _
    have EN:=Lib.hid (mq_end rdPn_good (fun _ _ _ _ _ h=>h) Y2.out hG5 hg5)
    clear hG5 hg5
    obtain ⟨A5,c5,hv5,_⟩:=id EN.out.2
    simp only [List.cons.injEq,and_true] at hv5
    rw [List.length_append,List.length_singleton] at hv5
    subst hv5
    refine hK.out _ _ (KS.out _ EN.out.1) (fun hHeld=>?_)
    clear hK K
    try simp only [Act.put,List.setIfInBounds_toArray,List.set_cons_zero,List.set_cons_succ]
    refine wpAnyL_one (i:=6) (by kernel_rfl) rfl (fun K hK=>?_)
    go_simp
    refine (KL.out _ _ w5 (rdPns_good.more EN.out.2 fun b hb=>hb.2)).mono ?_
    rintro e w4 ⟨⟨b,rfl,hbt⟩,rfl⟩
    have HBT:=Lib.hid hbt
    clear hbt
    go_wp2_with fail
    refine hK.out _ _ (KS.out _ EN.out.1) (fun hHeld=>?_)
    clear hK K
    try simp only [Act.put,List.setIfInBounds_toArray,List.set_cons_zero,List.set_cons_succ]
    refine wpAnyL_last (by kernel_rfl) rfl (by kernel_rfl) (fun K hK=>?_)
    go_simp
    refine hK.out _ _ ?_
    clear hK K
    refine NoPanic.normal ?_
    go_wp2_with fail
    go_meet
    exact ⟨b,rfl,HBT,EN.out.1⟩
  ·go_simp
   refine hK.out _ _ (KS.out _ BC.out) (fun hHeld=>?_)
   clear hK K
   try simp only [Act.put,List.setIfInBounds_toArray,List.set_cons_zero,List.set_cons_succ]
   refine wpAnyL_one (i:=0) (by kernel_rfl) rfl (fun K hK=>?_)
   go_simp
   refine hK.out _ _ (KS.out _ AC.out.bel) (fun hHeld=>?_)
   clear hK K
   try simp only [Act.put,List.setIfInBounds_toArray,List.set_cons_zero,List.set_cons_succ]
   refine wpAnyL_one (i:=2) (by kernel_rfl) rfl (fun K hK=>?_)
   refine step_growN _ (by rfl) _ _ 23 23 (by rfl) rdPn_good (by decide) (fun _=>True) w1.heap.size 30 30 fi (.agg #[.string { data:=#[] },.string { data:=#[] },.int .i64 0]) 40 Tryz.underlying23 Tryz.underlying23 hi hz0 hz1 hz2 rfl _ _ (by rfl) AC.out.g _ _ _ _ _ (by rfl) AC.out.x AC.out.s hm1 hm2 AC.out.bs ?_
   intro v3 w3 hG3 hg3 hm3
   have B3:=Lib.hid (mq_next AC.out hG3 hg3).2
   have Y2:=Lib.hid (mq2C (y:=(⟨xn,xx,xp⟩:Pn)) (blk:=#[.string xn,.string xx,.int .i64 xp]) rdPn_good (fun _ _=>rfl) AC.out hG3 hg3 hm3)
   obtain ⟨A3,c3',rfl,_,_⟩:=hG3.own
   clear hG3 hg3 hm3
   refine hK.out _ _ (KS.out _ B3.out) (fun hHeld=>?_)
   clear hK K
   try simp only [Act.put,List.setIfInBounds_toArray,List.set_cons_zero,List.set_cons_succ]
   refine wpAnyL_one (i:=5) (by kernel_rfl) rfl (fun K hK=>?_)
   refine step_growN _ (by rfl) _ _ 23 23 (by rfl) rdPn_good (by decide) (fun _=>True) w1.heap.size 30 30 fi (.agg #[.string { data:=#[] },.string { data:=#[] },.int .i64 0]) 40 Tryz.underlying23 Tryz.underlying23 hi hz0 hz1 hz2 rfl _ _ (by rfl) Y2.out.g _ _ _ _ _ (by rfl) Y2.out.x Y2.out.s hm3' hm4 Y2.out.bs ?_
   intro v5 w5 hG5 hg5 _
   have EN:=Lib.hid (mq_end rdPn_good (fun _ _ _ _ _ h=>h) Y2.out hG5 hg5)
   clear hG5 hg5
   obtain ⟨A5,c5,hv5,_⟩:=id EN.out.2
   simp only [List.cons.injEq,and_true] at hv5
   rw [List.length_append,List.length_singleton] at hv5
   subst hv5
   refine hK.out _ _ (KS.out _ EN.out.1) (fun hHeld=>?_)
   clear hK K
   try simp only [Act.put,List.setIfInBounds_toArray,List.set_cons_zero,List.set_cons_succ]
   refine wpAnyL_one (i:=6) (by kernel_rfl) rfl (fun K hK=>?_)
   go_simp
   refine (KL.out _ _ w5 (rdPns_good.more EN.out.2 fun b hb=>hb.2)).mono ?_
   rintro e w4 ⟨⟨b,rfl,hbt⟩,rfl⟩
   have HBT:=Lib.hid hbt
   clear hbt
   go_wp2_with fail
   refine hK.out _ _ (KS.out _ EN.out.1) (fun hHeld=>?_)
   clear hK K
   try simp only [Act.put,List.setIfInBounds_toArray,List.set_cons_zero,List.set_cons_succ]
   refine wpAnyL_last (by kernel_rfl) rfl (by kernel_rfl) (fun K hK=>?_)
   go_simp
   refine hK.out _ _ ?_
   clear hK K
   refine NoPanic.normal ?_
   go_wp2_with fail
   go_meet
   exact ⟨b,rfl,HBT,EN.out.1⟩
 case rest=>
  obtain ⟨b,rfl,HF,hb⟩:=hcut
  obtain ⟨w2,rfl⟩:∃w2:World,w2=wc:=⟨_,rfl⟩
  have BW:=Lib.hid (bel_2 B1.out hb)
  obtain ⟨p0,p1,p2⟩:=KS.out _ hb
  have s2:w.heap.size+1≤w2.heap.size:=Nat.le_trans hlt hb.size
  have fz:w2.frozen? ⟨w.heap.size,0,none⟩=false:=keep_fr hb (by omega) fz.out
  clear hb KS AA AB AC BC q0 q1 q2 hlt
  have hst:=star_eq nm
  cases b
  ·clear p0 p1 p2 fz
   go_wp2
   go_ret
   exact ⟨rfl,BW.out⟩
  by_cases g1:(100:Int) < (nm.size:Int)
  ·clear p0 p1 p2 fz
   go_wp2
   go_ret
   exact ⟨rfl,BW.out⟩
  by_cases g2:(100:Int) < (v.size:Int)
  ·clear p0 p1 p2 fz
   go_wp2
   go_ret
   exact ⟨rfl,BW.out⟩
  by_cases g3:nm=star8
  ·rw [decide_eq_true g3] at hst
   clear p0 p1 p2 fz g3
   go_wp2
   go_ret
   exact ⟨rfl,BW.out⟩
  rw [decide_eq_false g3] at hst
  have XF:=Lib.hid (show now=if m=true then xp else was from XF.out g3)
  clear g3 HF
  go_upto_region 6 with fail
  obtain ⟨U,hU⟩:∃U,U=w2.setCell ⟨w.heap.size,0,none⟩ (.string nm):=⟨_,rfl⟩
  rw [←hU]
  have hb:Below w.heap.size w2 U:=by rw [hU];exact (Below.refl w.heap.size w2).setCell (p:=⟨w.heap.size,0,none⟩) (Nat.le_refl _) _
  have e0:U.cell? ⟨w.heap.size,0,none⟩=some (.string nm):=by rw [hU];simp [go_sem,p0]
  have e1:U.cell? ⟨w.heap.size,1,none⟩=some (.string xx):=by rw [hU];simp [go_sem,p1]
  have e2:U.cell? ⟨w.heap.size,2,none⟩=some (.int .i64 xp):=by rw [hU];simp [go_sem,p2]
  have BU:=Lib.hid (BW.out.trans hb)
  clear hb hU p0 p1 p2 fz s2 hst
  go_wp2_with fail
  refine (KP.out _ BU.out).mono ?_
  rintro e w3 ⟨rfl,hb⟩
  have B3:=Lib.hid (bel_2 BU.out hb)
  have p0:=keep_cell hb e0
  have p1:=keep_cell hb e1
  have p2:=keep_cell hb e2
  clear hb e0 e1 e2
  have BE:=Lib.hid (bel_box w3 (.cells #[.string nm,.string xx,.int .i64 xp] 30))
  have GE:=Lib.hid (show Grow rdPn 3 (fun _=>True) (w3.alloc (.cells #[.string nm,.string xx,.int .i64 xp] 30)) w3.heap.size 30 (.slice (some ⟨w3.heap.size,0,none⟩) 1 1) [⟨nm,xx,xp⟩] from
   Grow.blk rdPn_good (l:=[(⟨nm,xx,xp⟩:Pn)]) (css:=[Pn.cells ⟨nm,xx,xp⟩]) (heap_alloc_new w3 _) (Nat.le_refl _) rfl rfl (by simp) (fun k hk=>by
    simp only [List.length_singleton] at hk
    obtain rfl:k=0:=by omega
    exact ⟨_,rfl,rfl⟩))
  have XE:=Lib.hid (rdPns_good.below (HR.out w3 B3.out) BE.out)
  have SE:=Lib.hid (show ∀b,lt_ w3.heap.size b→True∧b < (w3.alloc (.cells #[.string nm,.string xx,.int .i64 xp] 30)).heap.size∧(Value.slice (some ⟨w3.heap.size,0,none⟩) 1 1).ownBlock≠some b from fun b hb=>⟨trivial,by rw [World.size_alloc];unfold lt_ at hb;omega,fun hh=>by simp only [Value.ownBlock,Option.some.injEq] at hh;unfold lt_ at hb;omega⟩)
  have hs1:w3.heap.size≤(w3.alloc (.cells #[.string nm,.string xx,.int .i64 xp] 30)).heap.size:=BE.out.size
  go_wp2_with (at_builtin;refine wpList_growN _ rfl _ _ 23 23 rfl rdPn_good (by decide) (fun _=>True) w3.heap.size 30 30 fi (.agg #[.string { data:=#[] },.string { data:=#[] },.int .i64 0]) 40 Tryz.underlying23 Tryz.underlying23 hi hz0 hz1 hz2 rfl _ _ rfl GE.out l _ A l.length c rfl XE.out SE.out hm5 hm6 hs1 ?_)
  intro v5 w5 hG5 hg5
  have hb:=grow_below GE.out hg5 BE.out (Nat.le_refl _) hs1
  have B5:=Lib.hid (bel_2 B3.out hb)
  obtain ⟨A5,c5,hv5,-,-⟩:=hG5.own
  have hv5:v5=.slice A5 (l.length+1) c5:=hv5
  have KQ:=Lib.hid (KQ.out A5 (l.length+1) c5 w5 (by have:=hG5.read rdPn_good;rw [hv5] at this;exact this))
  replace p0:=keep_cell hb p0
  replace p1:=keep_cell hb p1
  replace p2:=keep_cell hb p2
  clear hG5 hg5 hs1 XE SE GE BE hb
  subst hv5
  go_wp2_with fail
  refine KQ.out.mono ?_
  rintro e w6 ⟨rfl,hb⟩
  have B6:=Lib.hid (bel_2 B5.out hb)
  replace p0:=keep_cell hb p0
  replace p1:=keep_cell hb p1
  replace p2:=keep_cell hb p2
  clear hb KQ hm5 hm6
  go_wp2_with fail
  refine (KM.out _).mono ?_
  rintro e w6b ⟨rfl,hb⟩
  have B6:=Lib.hid (bel_2 B6.out hb)
  replace p0:=keep_cell hb p0
  replace p1:=keep_cell hb p1
  replace p2:=keep_cell hb p2
  clear hb KM
  go_upto_if 63 with fail
  go_cut [13] from 64 to 65 (fun s wx=>s=.int .i64 now∧Below w6b.heap.size w6b wx)
  case first=>
   cases m
   ·have X:=Lib.hid (show now=was from XF.out)
    go_wp2_with fail
    go_meet
    exact ⟨by rw [X.out],Below.refl _ _⟩
   ·have X:=Lib.hid (show now=xp from XF.out)
    go_wp2_with fail
    go_meet
    exact ⟨by rw [X.out],Below.refl _ _⟩
  case rest=>
   obtain ⟨rfl,hb⟩:=hcut
   obtain ⟨w7,rfl⟩:∃w7:World,w7=wc:=⟨_,rfl⟩
   have B7:=Lib.hid (bel_2 B6.out hb)
   have P3:=Lib.hid (show w7.cell? ⟨w.heap.size,0,none⟩=some (.string nm)∧w7.cell? ⟨w.heap.size,1,none⟩=some (.string xx)∧w7.cell? ⟨w.heap.size,2,none⟩=some (.int .i64 xp) from ⟨keep_cell hb p0,keep_cell hb p1,keep_cell hb p2⟩)
   clear hb p0 p1 p2 XF
   have tn:(now==now)=true:=beq_self_eq_true now
   have AS:=Lib.hid (fun k hk=>any_step (fun y=>hitN y nm v) l (k:=k) hk)
   have XL:=Lib.hid (show (l.take l.length).any (fun y=>hitN y nm v)=true→bhd=was from fun hh=>XL.out (by rw [List.take_length] at hh;exact hh))
   have C0:=Lib.hid (Below.refl w7.heap.size w7)
   go_wp2
   go_loopw [14,15] (fun q i wr=>∃k:Nat,k≤l.length∧i=.int .i64 k∧q=.bool ((l.take k).any fun y=>hitN y nm v)∧Below w7.heap.size w7 wr) (fun _ i _=>l.length - (intOf i).toNat)
   case atStart=>exact ⟨0,Nat.zero_le _,rfl,rfl,C0.out⟩
   case round=>
    obtain ⟨k,hk,rfl,rfl,hbel⟩:=hrel
    have HB:=Lib.hid hbel
    by_cases hlt:k < l.length
    ·obtain ⟨_,_,_,hat⟩:=rdPns_at (HR.out wr (bel_2 B7.out hbel))
     obtain ⟨ad,rfl,had,c0,c1,c2⟩:=hat k hlt
     have SX:=Lib.hid (AS.out k hlt)
     have i0:(0:Int)≤(k:Int):=by omega
     have i1:(k:Int) < (l.length:Int):=by omega
     have M:=Lib.hid (KMx.out l[k])
     have HM:=Lib.hid (hit_mat (x:=l[k]) (nm:=nm) (v:=v))
     clear hat hbel had
     generalize l[k]=y at *
     obtain ⟨yn,yx,yp⟩:=y
     simp only [Pn.val] at M c0 c1 c2 HM
     have hnm:=str_eq yn nm
     generalize hitN ⟨yn,yx,yp⟩ nm v=hit at *
     generalize matN ⟨yn,yx,yp⟩ nm v=mt at *
     generalize (l.take k).any (fun y=>hitN y nm v)=q at *
     cases q
     ·by_cases hy:yn=nm
      ·have SX:=Lib.hid (SX.out.trans (show (false||hit)=mt by rw [←HM.out,decide_eq_true hy];rfl))
       rw [decide_eq_true hy] at hnm
       clear hy HM
       go_wp2_with fail
       refine (M.out _).mono ?_
       rintro e w8 ⟨rfl,hb⟩
       have HB2:=Lib.hid (bel_2 HB.out hb)
       clear hb c0 c1 c2
       go_wp2
       go_roundw
       case rel=>exact ⟨k+1,by omega,by go_num,by rw [SX.out];try rfl,HB2.out⟩
       case measure=>simp [intOf];omega
      ·have SX:=Lib.hid (SX.out.trans (show (false||hit)=false by rw [←HM.out,decide_eq_false hy];rfl))
       rw [decide_eq_false hy] at hnm
       clear hy HM
       go_wp2
       go_roundw
       case rel=>exact ⟨k+1,by omega,by go_num,by rw [SX.out];try rfl,HB.out⟩
       case measure=>simp [intOf];omega
     ·have SX:=Lib.hid (SX.out.trans (Bool.true_or _))
      clear HM
      go_wp2
      go_roundw
      case rel=>exact ⟨k+1,by omega,by go_num,by rw [SX.out];try rfl,HB.out⟩
      case measure=>simp [intOf];omega
    ·obtain rfl:k=l.length:=by omega
     obtain ⟨q0,q1,q2⟩:=P3.out
     replace q0:=keep_cell hbel q0
     replace q1:=keep_cell hbel q1
     replace q2:=keep_cell hbel q2
     have B8:=Lib.hid (bel_2 B7.out hbel)
     have hx1:=HR.out _ B8.out
     clear hbel P3
     generalize (l.take l.length).any (fun y=>hitN y nm v)=q at *
     have KS:=Lib.hid (fun (W:World) (hb:Below wr.heap.size wr W)=>(show W.cell? ⟨w.heap.size,0,none⟩=some (.string nm)∧W.cell? ⟨w.heap.size,1,none⟩=some (.string xx)∧W.cell? ⟨w.heap.size,2,none⟩=some (.int .i64 xp) from ⟨keep_cell hb q0,keep_cell hb q1,keep_cell hb q2⟩))
     have AA:=Lib.hid (mqA (T:=30) rdPn_good hx1)
     have AB:=Lib.hid (mqB (T:=30) rdPn_good #[.string nm,.string xx,.int .i64 xp] hx1)
     have AC:=Lib.hid (mqC (T:=30) rdPn_good #[.string nm,.string xx,.int .i64 xp] hx1)
     have BC:=Lib.hid (show Below wr.heap.size wr (wr.alloc (.cells #[.string nm,.string xx,.int .i64 xp] 30)).drew from belD ((Below.refl _ _).alloc (Nat.le_refl _) _) 1)
     clear hx1
     go_upto_region 16 with fail
     go_cut [16] from 91 to 99 (fun s wx=>s=.int .i64 bhd∧Below wr.heap.size wr wx)
     case first=>
      refine wp_region_noPanic ?_
      refine wp_region_L (fun W=>W.cell? ⟨w.heap.size,0,none⟩=some (.string nm)∧W.cell? ⟨w.heap.size,1,none⟩=some (.string xx)∧W.cell? ⟨w.heap.size,2,none⟩=some (.int .i64 xp)) 9 (by kernel_rfl) (KS.out _ (belD (Below.refl _ _) 1)) (fun hHeld=>?_)
      refine wpAnyL_take (i:=1) (v:=?_) [8,5,2] rfl (by kernel_rfl) (by kernel_rfl) (by kernel_rfl) (fun _ _ _ h=>h) (by kernel_rfl) (by kernel_rfl) (by kernel_rfl) (Or.inl ⟨by rfl,?_⟩) (by assumption) ?_
      rotate_left
      ·intro w hSw
       try dsimp only at hSw
       go_simp
       first|done|with_reducible rfl
      try simp only [Act.put,List.setIfInBounds_toArray,List.set_cons_zero,List.set_cons_succ]
      refine wpAnyL_take (i:=3) (v:=?_) [8,5,4] rfl (by kernel_rfl) (by kernel_rfl) (by kernel_rfl) (fun _ _ _ h=>h) (by kernel_rfl) (by kernel_rfl) (by kernel_rfl) (Or.inl ⟨by rfl,?_⟩) (by assumption) ?_
      rotate_left
      ·intro w hSw
       try dsimp only at hSw
       go_simp
       first|done|with_reducible rfl
      try simp only [Act.put,List.setIfInBounds_toArray,List.set_cons_zero,List.set_cons_succ]
      refine wpAnyL_take (i:=6) (v:=?_) [8] rfl (by kernel_rfl) (by kernel_rfl) (by kernel_rfl) (fun _ _ _ h=>h) (by kernel_rfl) (by kernel_rfl) (by kernel_rfl) (Or.inl ⟨by rfl,?_⟩) (by assumption) ?_
      rotate_left
      ·intro w hSw
       try dsimp only at hSw
       go_simp
       first|done|with_reducible rfl
      try simp only [Act.put,List.setIfInBounds_toArray,List.set_cons_zero,List.set_cons_succ]
      refine wpAnyL_take (i:=7) (v:=?_) [8] rfl (by kernel_rfl) (by kernel_rfl) (by kernel_rfl) (fun _ _ _ h=>h) (by kernel_rfl) (by kernel_rfl) (by kernel_rfl) (Or.inl ⟨by rfl,?_⟩) (by assumption) ?_
      rotate_left
      ·intro w hSw
       try dsimp only at hSw
       go_simp
       first|done|with_reducible rfl
      try simp only [Act.put,List.setIfInBounds_toArray,List.set_cons_zero,List.set_cons_succ]
      refine wpAnyL_two (i:=0) (k:=4) (by kernel_rfl) rfl rfl (fun K hK=>?_) (fun K hK=>?_)
      ·go_simp
       refine hK.out _ _ (KS.out _ AA.out.bel) (fun hHeld=>?_)
       clear hK K
       try simp only [Act.put,List.setIfInBounds_toArray,List.set_cons_zero,List.set_cons_succ]
       refine wpAnyL_two (i:=2) (k:=4) (by kernel_rfl) rfl rfl (fun K hK=>?_) (fun K hK=>?_)
       ·refine step_growN _ (by rfl) _ _ 23 23 (by rfl) rdPn_good (by decide) (fun _=>True) wr.heap.size 30 30 fi (.agg #[.string { data:=#[] },.string { data:=#[] },.int .i64 0]) 40 Tryz.underlying23 Tryz.underlying23 hi hz0 hz1 hz2 rfl _ _ (by rfl) AA.out.g _ _ _ _ _ (by rfl) AA.out.x AA.out.s hm1 hm2 AA.out.bs ?_
        intro v3 w3 hG3 hg3 hm3
        have B3:=Lib.hid (mq_next AA.out hG3 hg3).2
        have Y2:=Lib.hid (mq2A (y:=(⟨nm,xx,xp⟩:Pn)) (blk:=#[.string nm,.string xx,.int .i64 xp]) rdPn_good (fun _ _=>rfl) AA.out hG3 hg3)
        obtain ⟨A3,c3',rfl,_,_⟩:=hG3.own
        clear hG3 hg3 hm3
        refine hK.out _ _ (KS.out _ B3.out) (fun hHeld=>?_)
        clear hK K
        try simp only [Act.put,List.setIfInBounds_toArray,List.set_cons_zero,List.set_cons_succ]
        refine wpAnyL_one (i:=4) (by kernel_rfl) rfl (fun K hK=>?_)
        go_simp
        refine hK.out _ _ (KS.out _ Y2.out.bel) (fun hHeld=>?_)
        clear hK K
        try simp only [Act.put,List.setIfInBounds_toArray,List.set_cons_zero,List.set_cons_succ]
        refine wpAnyL_one (i:=5) (by kernel_rfl) rfl (fun K hK=>?_)
        refine step_growN _ (by rfl) _ _ 23 23 (by rfl) rdPn_good (by decide) (fun _=>True) wr.heap.size 30 30 fi (.agg #[.string { data:=#[] },.string { data:=#[] },.int .i64 0]) 40 Tryz.underlying23 Tryz.underlying23 hi hz0 hz1 hz2 rfl _ _ (by rfl) Y2.out.g _ _ _ _ _ (by rfl) Y2.out.x Y2.out.s hm3' hm4 Y2.out.bs ?_
        intro v5 w5 hG5 hg5 _
        have EN:=Lib.hid (mq_end rdPn_good (fun _ _ _ _ _ h=>h) Y2.out hG5 hg5)
        clear hG5 hg5
        obtain ⟨A5,c5,hv5,_⟩:=id EN.out.2
        simp only [List.cons.injEq,and_true] at hv5
        rw [List.length_append,List.length_singleton] at hv5
        subst hv5
        refine hK.out _ _ (KS.out _ EN.out.1) (fun hHeld=>?_)
        clear hK K
        try simp only [Act.put,List.setIfInBounds_toArray,List.set_cons_zero,List.set_cons_succ]
        refine wpAnyL_one (i:=8) (by kernel_rfl) rfl (fun K hK=>?_)
        go_simp
        refine (KW.out _ _ w5 (rdPns_good.more EN.out.2 fun b hb=>hb.2)).mono ?_
        rintro e w4 ⟨rfl,hb4⟩
        have BP:=Lib.hid (bel_2 EN.out.1 hb4)
        clear hb4
        go_wp2_with fail
        refine hK.out _ _ (KS.out _ BP.out) (fun hHeld=>?_)
        clear hK K
        try simp only [Act.put,List.setIfInBounds_toArray,List.set_cons_zero,List.set_cons_succ]
        refine wpAnyL_last (by kernel_rfl) rfl (by kernel_rfl) (fun K hK=>?_)
        go_simp
        refine hK.out _ _ ?_
        clear hK K
        refine NoPanic.normal ?_
        go_wp2_with fail
        go_meet
        exact ⟨rfl,BP.out⟩
       ·go_simp
        refine hK.out _ _ (KS.out _ AB.out.bel) (fun hHeld=>?_)
        clear hK K
        try simp only [Act.put,List.setIfInBounds_toArray,List.set_cons_zero,List.set_cons_succ]
        refine wpAnyL_one (i:=2) (by kernel_rfl) rfl (fun K hK=>?_)
        refine step_growN _ (by rfl) _ _ 23 23 (by rfl) rdPn_good (by decide) (fun _=>True) wr.heap.size 30 30 fi (.agg #[.string { data:=#[] },.string { data:=#[] },.int .i64 0]) 40 Tryz.underlying23 Tryz.underlying23 hi hz0 hz1 hz2 rfl _ _ (by rfl) AB.out.g _ _ _ _ _ (by rfl) AB.out.x AB.out.s hm1 hm2 AB.out.bs ?_
        intro v3 w3 hG3 hg3 hm3
        have B3:=Lib.hid (mq_next AB.out hG3 hg3).2
        have Y2:=Lib.hid (mq2B (y:=(⟨nm,xx,xp⟩:Pn)) (blk:=#[.string nm,.string xx,.int .i64 xp]) rdPn_good (fun _ _=>rfl) AB.out hG3 hg3 hm3)
        obtain ⟨A3,c3',rfl,_,_⟩:=hG3.own
        clear hG3 hg3 hm3
        refine hK.out _ _ (KS.out _ B3.out) (fun hHeld=>?_)
        clear hK K
        try simp only [Act.put,List.setIfInBounds_toArray,List.set_cons_zero,List.set_cons_succ]
        refine wpAnyL_one (i:=5) (by kernel_rfl) rfl (fun K hK=>?_)
        refine step_growN _ (by rfl) _ _ 23 23 (by rfl) rdPn_good (by decide) (fun _=>True) wr.heap.size 30 30 fi (.agg #[.string { data:=#[] },.string { data:=#[] },.int .i64 0]) 40 Tryz.underlying23 Tryz.underlying23 hi hz0 hz1 hz2 rfl _ _ (by rfl) Y2.out.g _ _ _ _ _ (by rfl) Y2.out.x Y2.out.s hm3' hm4 Y2.out.bs ?_
        intro v5 w5 hG5 hg5 _
        have EN:=Lib.hid (mq_end rdPn_good (fun _ _ _ _ _ h=>h) Y2.out hG5 hg5)
        clear hG5 hg5
        obtain ⟨A5,c5,hv5,_⟩:=id EN.out.2
        simp only [List.cons.injEq,and_true] at hv5
        rw [List.length_append,List.length_singleton] at hv5
        subst hv5
        refine hK.out _ _ (KS.out _ EN.out.1) (fun hHeld=>?_)
        clear hK K
        try simp only [Act.put,List.setIfInBounds_toArray,List.set_cons_zero,List.set_cons_succ]
        refine wpAnyL_one (i:=8) (by kernel_rfl) rfl (fun K hK=>?_)
        go_simp
        refine (KW.out _ _ w5 (rdPns_good.more EN.out.2 fun b hb=>hb.2)).mono ?_
        rintro e w4 ⟨rfl,hb4⟩
        have BP:=Lib.hid (bel_2 EN.out.1 hb4)
        clear hb4
        go_wp2_with fail
        refine hK.out _ _ (KS.out _ BP.out) (fun hHeld=>?_)
        clear hK K
        try simp only [Act.put,List.setIfInBounds_toArray,List.set_cons_zero,List.set_cons_succ]
        refine wpAnyL_last (by kernel_rfl) rfl (by kernel_rfl) (fun K hK=>?_)
        go_simp
        refine hK.out _ _ ?_
        clear hK K
        refine NoPanic.normal ?_
        go_wp2_with fail
        go_meet
        exact ⟨rfl,BP.out⟩
      ·go_simp
       refine hK.out _ _ (KS.out _ BC.out) (fun hHeld=>?_)
       clear hK K
       try simp only [Act.put,List.setIfInBounds_toArray,List.set_cons_zero,List.set_cons_succ]
       refine wpAnyL_one (i:=0) (by kernel_rfl) rfl (fun K hK=>?_)
       go_simp
       refine hK.out _ _ (KS.out _ AC.out.bel) (fun hHeld=>?_)
       clear hK K
       try simp only [Act.put,List.setIfInBounds_toArray,List.set_cons_zero,List.set_cons_succ]
       refine wpAnyL_one (i:=2) (by kernel_rfl) rfl (fun K hK=>?_)
       refine step_growN _ (by rfl) _ _ 23 23 (by rfl) rdPn_good (by decide) (fun _=>True) wr.heap.size 30 30 fi (.agg #[.string { data:=#[] },.string { data:=#[] },.int .i64 0]) 40 Tryz.underlying23 Tryz.underlying23 hi hz0 hz1 hz2 rfl _ _ (by rfl) AC.out.g _ _ _ _ _ (by rfl) AC.out.x AC.out.s hm1 hm2 AC.out.bs ?_
       intro v3 w3 hG3 hg3 hm3
       have B3:=Lib.hid (mq_next AC.out hG3 hg3).2
       have Y2:=Lib.hid (mq2C (y:=(⟨nm,xx,xp⟩:Pn)) (blk:=#[.string nm,.string xx,.int .i64 xp]) rdPn_good (fun _ _=>rfl) AC.out hG3 hg3 hm3)
       obtain ⟨A3,c3',rfl,_,_⟩:=hG3.own
       clear hG3 hg3 hm3
       refine hK.out _ _ (KS.out _ B3.out) (fun hHeld=>?_)
       clear hK K
       try simp only [Act.put,List.setIfInBounds_toArray,List.set_cons_zero,List.set_cons_succ]
       refine wpAnyL_one (i:=5) (by kernel_rfl) rfl (fun K hK=>?_)
       refine step_growN _ (by rfl) _ _ 23 23 (by rfl) rdPn_good (by decide) (fun _=>True) wr.heap.size 30 30 fi (.agg #[.string { data:=#[] },.string { data:=#[] },.int .i64 0]) 40 Tryz.underlying23 Tryz.underlying23 hi hz0 hz1 hz2 rfl _ _ (by rfl) Y2.out.g _ _ _ _ _ (by rfl) Y2.out.x Y2.out.s hm3' hm4 Y2.out.bs ?_
       intro v5 w5 hG5 hg5 _
       have EN:=Lib.hid (mq_end rdPn_good (fun _ _ _ _ _ h=>h) Y2.out hG5 hg5)
       clear hG5 hg5
       obtain ⟨A5,c5,hv5,_⟩:=id EN.out.2
       simp only [List.cons.injEq,and_true] at hv5
       rw [List.length_append,List.length_singleton] at hv5
       subst hv5
       refine hK.out _ _ (KS.out _ EN.out.1) (fun hHeld=>?_)
       clear hK K
       try simp only [Act.put,List.setIfInBounds_toArray,List.set_cons_zero,List.set_cons_succ]
       refine wpAnyL_one (i:=8) (by kernel_rfl) rfl (fun K hK=>?_)
       go_simp
       refine (KW.out _ _ w5 (rdPns_good.more EN.out.2 fun b hb=>hb.2)).mono ?_
       rintro e w4 ⟨rfl,hb4⟩
       have BP:=Lib.hid (bel_2 EN.out.1 hb4)
       clear hb4
       go_wp2_with fail
       refine hK.out _ _ (KS.out _ BP.out) (fun hHeld=>?_)
       clear hK K
       try simp only [Act.put,List.setIfInBounds_toArray,List.set_cons_zero,List.set_cons_succ]
       refine wpAnyL_last (by kernel_rfl) rfl (by kernel_rfl) (fun K hK=>?_)
       go_simp
       refine hK.out _ _ ?_
       clear hK K
       refine NoPanic.normal ?_
       go_wp2_with fail
       go_meet
       exact ⟨rfl,BP.out⟩
     case rest=>
      obtain ⟨rfl,hb⟩:=hcut
      obtain ⟨w9,rfl⟩:∃w9:World,w9=wc:=⟨_,rfl⟩
      have B9:=Lib.hid (bel_2 B8.out hb)
      clear hb KS AA AB AC BC q0 q1 q2
      cases q
      ·go_wp2
       go_ret
       exact ⟨rfl,B9.out⟩
      ·have X:bhd=was:=XL.out rfl
       have tb:(bhd==was)=true:=by rw [X];exact beq_self_eq_true _
       clear X
       go_wp2
       go_ret
       exact ⟨rfl,B9.out⟩
end Go.Proofs.YtbljkpbaceiaiaaGreatDoor
