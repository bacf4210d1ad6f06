/- What the laws rest on: E10k, E10l, E10m, E10f, HeldT. -/
import Derived.Test.YthchfkhpmgkghaaGreatDoorQBZZA
import Derived.Test.YthchfkhpmgkghaaGreatDoorQCAZA
import Derived.Test.YthchfkhpmgkghaaGreatDoorQCCZA
set_option maxRecDepth 100000
set_option linter.unusedVariables false
set_option linter.unusedSimpArgs false
namespace Go.Proofs.YthchfkhpmgkghaaGreatDoor
open Go.RowKit Go.Sort
set_option maxHeartbeats 8000000 in
theorem q10closed_any (b:Nat) (U:List Ent) (m:List Hr) (Al:Option Addr) (nl cl:Nat) (l:List Int) (w:World) (h:UR w b U m) (hl:rdInts w (lt_ w.heap.size) l [.slice Al nl cl]) (hp:∀x ∈ U,x.p.length≤1000) (hT:(insS U l).length≤1000000) :
  Calls Tryz.prog 25 #[.pointer (some ⟨b,0,none⟩),.slice Al nl cl] w fun e w'=>e=.returned (.bool (clB U l))∧Below w.heap.size w w':=by
 have KS:=Lib.hid (q10set_any b U m Al nl cl l w h hl)
 have KI:=Lib.hid (fun (hs:setB U.length l=true) (W:World) (hb:Below w.heap.size w W)=>q10inside_any b U m Al nl cl l W (h.below hb) (rdInts_good.up (rdInts_good.below hl hb) hb.size) (setB_true.1 hs).1 hp hT)
 have X0:=Lib.hid (fun (e:setB U.length l=false)=>show clB U l=false by unfold clB;rw [e];rfl)
 have X1:=Lib.hid (fun (e:setB U.length l=true) (e2:insS U l=[])=>show clB U l=true by unfold clB;rw [e,e2];rfl)
 have X2:=Lib.hid (fun (e:setB U.length l=true) (e2:insS U l≠[])=>show clB U l=false by
  unfold clB;rw [e,Bool.true_and]
  cases hh:insS U l with
  | nil=>exact absurd hh e2
  | cons a r=>rfl)
 clear h hl hp hT
 obtain ⟨R,hR⟩:∃R,R=clB U l:=⟨_,rfl⟩
 rw [←hR] at X0 X1 X2 ⊢
 clear hR
 go_enter Tryz.func25,Tryz.ntmps25
 go_wp2_with fail
 refine KS.out.mono ?_
 rintro e w2 ⟨rfl,hb⟩
 have B2:=Lib.hid hb
 clear hb KS
 cases hs:setB U.length l
 ·have XX:=Lib.hid (X0.out hs)
  clear hs
  go_wp2
  go_ret
  exact ⟨by rw [XX.out];try rfl,B2.out⟩
 have K2:=Lib.hid (KI.out hs w2 B2.out)
 have X1:=Lib.hid (X1.out hs)
 have X2:=Lib.hid (X2.out hs)
 clear hs KI X0
 generalize insS U l=I at *
 go_wp2_with fail
 refine K2.out.mono ?_
 rintro e w3 ⟨⟨Ai,ci,rfl,hri⟩,hb⟩
 have B3:=Lib.hid (bel_in B2.out hb)
 clear hb hri K2
 by_cases he:I=[]
 ·have XX:=Lib.hid (X1.out he)
  have hn:((I.length:Int)==0)=true:=by rw [he];rfl
  clear he X1 X2
  go_wp2
  go_ret
  exact ⟨by rw [XX.out];try rfl,B3.out⟩
 ·have XX:=Lib.hid (X2.out he)
  have hn:((I.length:Int)==0)=false:=by
   rw [beq_eq_false_iff_ne]
   intro q
   exact he (List.eq_nil_of_length_eq_zero (by omega))
  clear he X1 X2
  go_wp2
  go_ret
  exact ⟨by rw [XX.out];try rfl,B3.out⟩
set_option maxHeartbeats 16000000 in
theorem q10faults_any (b:Nat) (U:List Ent) (m:List Hr) (Al:Option Addr) (nl cl:Nat) (l:List Int) (A1:Option Addr) (c1:Nat) (i:List Atm) (A2:Option Addr) (c2:Nat) (r:List Atm) (up:Bool) (w:World) (rq:Bool) (KR:∀W:World,Below w.heap.size w W→Calls Tryz.prog 19 #[.agg #[.slice A1 i.length c1,.slice A2 r.length c2,.bool up]] W fun e w'=>e=.returned (.bool rq)∧Below W.heap.size W w') (h:UR w b U m) (hl:rdInts w (lt_ w.heap.size) l [.slice Al nl cl]) (hp:∀x ∈ U,x.p.length≤1000) (hi:rdAtms w (lt_ w.heap.size) i [.slice A1 i.length c1]) (hr:rdAtms w (lt_ w.heap.size) r [.slice A2 r.length c2]) (hm:m.length≤200) (hT:(fltS U (heldU U m) i r l).length≤1000000) :
  Calls Tryz.prog 16 #[.pointer (some ⟨b,0,none⟩),.agg #[.slice A1 i.length c1,.slice A2 r.length c2,.bool up],.slice Al nl cl] w fun e w'=>FltR w w' (rq&&setB U.length l) (fltS U (heldU U m) i r l) e∧Below w.heap.size w w':=by
 have KR:=Lib.hid KR
 have KS:=Lib.hid (fun (W:World) (hb:Below w.heap.size w W)=>q10set_any b U m Al nl cl l W (h.below hb) (rdInts_good.up (rdInts_good.below hl hb) hb.size))
 have LI:=Lib.hid (show (insS U l).length≤1000000∧(outS U (heldU U m) i r l).length≤1000000∧(insS U l).length+(outS U (heldU U m) i r l).length≤1000000 from by
  unfold fltS at hT
  rw [List.length_append] at hT
  omega)
 have KI:=Lib.hid (fun (hs:setB U.length l=true) (W:World) (hb:Below w.heap.size w W)=>q10inside_any b U m Al nl cl l W (h.below hb) (rdInts_good.up (rdInts_good.below hl hb) hb.size) (setB_true.1 hs).1 hp LI.out.1)
 have KO:=Lib.hid (fun (hs:setB U.length l=true) (W:World) (hb:Below w.heap.size w W)=>q10outside_any b U m Al nl cl l A1 c1 i A2 c2 r up W (h.below hb) (rdInts_good.up (rdInts_good.below hl hb) hb.size) (setB_true.1 hs).1 hp (rdAtms_good.up (rdAtms_good.below hi hb) hb.size) (rdAtms_good.up (rdAtms_good.below hr hb) hb.size) hm LI.out.2.1)
 have TE:=Lib.hid (show fltS U (heldU U m) i r l=insS U l++outS U (heldU U m) i r l from rfl)
 obtain ⟨fi,hi0,hz0,hz1,hz2⟩:=info_parts ft10_info
 obtain ⟨rfl,-,-,-⟩:=rdInts_at hl
 obtain ⟨w1,hw1⟩:∃W,W=w.alloc (.cells #[.slice A1 i.length c1,.slice A2 r.length c2,.bool up] 26):=⟨_,rfl⟩
 have b1:Below w.heap.size w w1:=by rw [hw1];exact (Below.refl _ w).alloc (Nat.le_refl _) _
 have B1:=Lib.hid b1
 have KX:=Lib.hid (fun (W:World) (hb:Below w1.heap.size w1 W)=>(show W.cell? ⟨w.heap.size,0,none⟩=some (.slice A1 i.length c1)∧W.cell? ⟨w.heap.size,1,none⟩=some (.slice A2 r.length c2)∧W.cell? ⟨w.heap.size,2,none⟩=some (.bool up) from by
  refine ⟨?_,?_,?_⟩<;>exact keep6 hb (by rw [hw1];simp [go_sem])))
 clear h hl hp hi hr hT b1
 generalize insS U l=I at *
 generalize outS U (heldU U m) i r l=O at *
 generalize fltS U (heldU U m) i r l=T at *
 generalize hsb:setB U.length l=sb at *
 clear hsb
 obtain ⟨x0,x1,x2⟩:=KX.out w1 (Below.refl _ _)
 go_enter Tryz.func16,Tryz.ntmps16
 go_wp2_with fail
 rw [←hw1]
 clear hw1
 go_wp2_with fail
 refine (KR.out _ B1.out).mono ?_
 rintro e w2 ⟨rfl,hb⟩
 have B12:=Lib.hid hb
 have B2:=Lib.hid (bel_in B1.out hb)
 clear hb x0 x1 x2
 go_wp2_with fail
 refine (KS.out _ B2.out).mono ?_
 rintro e w3 ⟨rfl,hb⟩
 have B13:=Lib.hid (bel_in B12.out hb)
 have B3:=Lib.hid (bel_in B2.out hb)
 clear hb KR KS
 cases rq
 ·go_wp2
  go_ret2
  exact ⟨⟨fun _=>rfl,fun e=>by cases e⟩,B3.out⟩
 cases sb
 ·go_wp2
  go_ret2
  exact ⟨⟨fun _=>rfl,fun e=>by cases e⟩,B3.out⟩
 have KI2:=Lib.hid (KI.out (by first|trivial|rfl))
 have KO2:=Lib.hid (KO.out (by first|trivial|rfl))
 clear KI KO
 go_wp2_with fail
 refine wp_region_noPanic ?_
 refine wp_region_D (fun W=>W.cell? ⟨w.heap.size,0,none⟩=some (.slice A1 i.length c1)∧W.cell? ⟨w.heap.size,1,none⟩=some (.slice A2 r.length c2)∧W.cell? ⟨w.heap.size,2,none⟩=some (.bool up)) 11 (by kernel_rfl) (w0:=w3) (Dr.refl _) (fun V hV=>KX.out V (bel_in B13.out (hV.below w3.heap.size))) (fun V hV hHeld=>?_)
 have BV3:=Lib.hid (hV.below w3.heap.size)
 have BV:=Lib.hid (bel_in B3.out BV3.out)
 have SK:=Lib.hid (fun (W:World) (hb:Below V.heap.size V W)=>KX.out W (bel_in (bel_in B13.out BV3.out) hb))
 clear hV
 refine wpAnyL_take (i:=1) (v:=?_) [] rfl (by kernel_rfl) (by kernel_rfl) (by kernel_rfl) (fun _ _ _ h=>h) (by kernel_rfl) (by kernel_rfl) (by kernel_rfl) (Or.inl ⟨by rfl,?_⟩) (by assumption) ?_
 rotate_left
 ·intro w hSw
  try dsimp only at hSw
  go_simp
  first|done|with_reducible rfl
 try simp only [Act.put,List.setIfInBounds_toArray,List.set_cons_zero,List.set_cons_succ]
 refine wpAnyL_take (i:=2) (v:=?_) [] rfl (by kernel_rfl) (by kernel_rfl) (by kernel_rfl) (fun _ _ _ h=>h) (by kernel_rfl) (by kernel_rfl) (by kernel_rfl) (Or.inl ⟨by rfl,?_⟩) (by assumption) ?_
 rotate_left
 ·intro w hSw
  try dsimp only at hSw
  go_simp
  first|done|with_reducible rfl
 try simp only [Act.put,List.setIfInBounds_toArray,List.set_cons_zero,List.set_cons_succ]
 refine wpAnyL_take (i:=5) (v:=?_) [] rfl (by kernel_rfl) (by kernel_rfl) (by kernel_rfl) (fun _ _ _ h=>h) (by kernel_rfl) (by kernel_rfl) (by kernel_rfl) (Or.inl ⟨by rfl,?_⟩) (by assumption) ?_
 rotate_left
 ·intro w hSw
  try dsimp only at hSw
  go_simp
  first|done|with_reducible rfl
 try simp only [Act.put,List.setIfInBounds_toArray,List.set_cons_zero,List.set_cons_succ]
 refine wpAnyL_take (i:=6) (v:=?_) [] rfl (by kernel_rfl) (by kernel_rfl) (by kernel_rfl) (fun _ _ _ h=>h) (by kernel_rfl) (by kernel_rfl) (by kernel_rfl) (Or.inl ⟨by rfl,?_⟩) (by assumption) ?_
 rotate_left
 ·intro w hSw
  try dsimp only at hSw
  go_simp
  first|done|with_reducible rfl
 try simp only [Act.put,List.setIfInBounds_toArray,List.set_cons_zero,List.set_cons_succ]
 refine wpAnyL_take (i:=7) (v:=?_) [] rfl (by kernel_rfl) (by kernel_rfl) (by kernel_rfl) (fun _ _ _ h=>h) (by kernel_rfl) (by kernel_rfl) (by kernel_rfl) (Or.inl ⟨by rfl,?_⟩) (by assumption) ?_
 rotate_left
 ·intro w hSw
  try dsimp only at hSw
  go_simp
  first|done|with_reducible rfl
 try simp only [Act.put,List.setIfInBounds_toArray,List.set_cons_zero,List.set_cons_succ]
 refine wpAnyL_two (i:=0) (k:=3) (by kernel_rfl) rfl rfl (fun K hK=>?_) (fun K hK=>?_)
 ·go_simp
  obtain ⟨Wa,hWa⟩:∃W,W=V.alloc (.cells #[] 75):=⟨_,rfl⟩
  have BA:=Lib.hid (show Below V.heap.size V Wa from by rw [hWa];exact (Below.refl _ V).alloc (Nat.le_refl _) _)
  have NA:=Lib.hid (show Wa.heap[V.heap.size]?=some (.cells #[] 75 (0,0))∧Wa.heap.size=V.heap.size+1 from by rw [hWa];exact ⟨heap_alloc_new V _,by rw [World.size_alloc]⟩)
  rw [←hWa]
  clear hWa
  refine hK.out _ _ (SK.out _ (BA.out)) (fun hHeld=>?_)
  clear hK K
  try simp only [Act.put,List.setIfInBounds_toArray,List.set_cons_zero,List.set_cons_succ]
  refine wpAnyL_one (i:=3) (by kernel_rfl) rfl (fun K hK=>?_)
  go_simp
  refine (KI2.out Wa (bel_in BV.out BA.out)).mono ?_
  rintro e Wc ⟨⟨Ai,ci,rfl,hri⟩,hb⟩
  have BC:=Lib.hid (bel_in BA.out hb)
  have GC:=Lib.hid (show Grow rdFt 3 (fun _=>True) Wc V.heap.size 75 (.slice (some ⟨V.heap.size,0,none⟩) 0 0) [] from Grow.empty _ ((hb.block _ (by have:=NA.out.2;omega)).trans NA.out.1) (Nat.le_refl _))
  have XC:=Lib.hid hri
  have SCx:=Lib.hid (show ∀c,own10 Wa Wc c→True∧c < Wc.heap.size∧(Value.slice (some ⟨V.heap.size,0,none⟩) 0 0).ownBlock≠some c from fun c hc=>⟨trivial,hc.2,fun e=>by simp only [Value.ownBlock,Option.some.injEq] at e;have:=hc.1;have:=NA.out.2;omega⟩)
  clear hb hri
  go_wp2_with fail
  refine hK.out _ _ (SK.out _ (BC.out)) (fun hHeld=>?_)
  clear hK K
  try simp only [Act.put,List.setIfInBounds_toArray,List.set_cons_zero,List.set_cons_succ]
  refine wpAnyL_one (i:=4) (by kernel_rfl) rfl (fun K hK=>?_)
  have hbs:V.heap.size≤Wc.heap.size:=BC.out.size
  refine step_growN _ (by rfl) _ _ 44 44 (by rfl) rdFt_good (by decide) (fun _=>True) V.heap.size 75 75 fi _ 24 Tryz.underlying44 Tryz.underlying44 hi0 hz0 hz1 hz2 rfl _ _ (by rfl) GC.out _ _ _ _ _ (by rfl) XC.out SCx.out (by have:=LI.out;simp only [List.length_nil];unfold maxLen;omega) (by have:=LI.out;simp only [List.length_nil];omega) (by omega) ?_
  intro v4 V4 hG4 hg4 _
  have B4:=Lib.hid (grow_below GC.out hg4 BC.out (Nat.le_refl _) hbs)
  have G4:=Lib.hid (show Grow rdFt 3 (fun _=>True) V4 V.heap.size 75 v4 I from hG4)
  clear hG4 hg4 hbs
  refine hK.out _ _ (SK.out _ (B4.out)) (fun hHeld=>?_)
  clear hK K
  try simp only [Act.put,List.setIfInBounds_toArray,List.set_cons_zero,List.set_cons_succ]
  refine wpAnyL_one (i:=8) (by kernel_rfl) rfl (fun K hK=>?_)
  go_simp
  refine (KO2.out V4 (bel_in BV.out B4.out)).mono ?_
  rintro e w8 ⟨⟨Ao,co,rfl,hro⟩,hb⟩
  have B8:=Lib.hid (bel_in B4.out hb)
  have G8:=Lib.hid (G4.out.below rdFt_good hb)
  have X8:=Lib.hid hro
  have S8:=Lib.hid (show ∀c,own10 V4 w8 c→True∧c < w8.heap.size∧v4.ownBlock≠some c from fun c hc=>⟨trivial,hc.2,fun e=>by have:=(G4.out.lt c e).2;have:=hc.1;omega⟩)
  clear hb hro
  go_wp2_with fail
  refine hK.out _ _ (SK.out _ (B8.out)) (fun hHeld=>?_)
  clear hK K
  try simp only [Act.put,List.setIfInBounds_toArray,List.set_cons_zero,List.set_cons_succ]
  refine wpAnyL_one (i:=9) (by kernel_rfl) rfl (fun K hK=>?_)
  have hbs:V.heap.size≤w8.heap.size:=B8.out.size
  refine step_growN _ (by rfl) _ _ 44 44 (by rfl) rdFt_good (by decide) (fun _=>True) V.heap.size 75 75 fi _ 24 Tryz.underlying44 Tryz.underlying44 hi0 hz0 hz1 hz2 rfl _ _ (by rfl) G8.out _ _ _ _ _ (by rfl) X8.out S8.out (by have:=LI.out;skip;unfold maxLen;omega) (by have:=LI.out;skip;omega) (by omega) ?_
  intro v9 V9 hG9 hg9 _
  have B9:=Lib.hid (grow_below G8.out hg9 B8.out (Nat.le_refl _) hbs)
  have G9:=Lib.hid hG9
  clear hG9 hg9 hbs
  refine hK.out _ _ (SK.out _ (B9.out)) (fun hHeld=>?_)
  clear hK K
  try simp only [Act.put,List.setIfInBounds_toArray,List.set_cons_zero,List.set_cons_succ]
  refine wpAnyL_one (i:=10) (by kernel_rfl) rfl (fun K hK=>?_)
  go_simp
  refine hK.out _ _ (SK.out _ (B9.out)) (fun hHeld=>?_)
  clear hK K
  try simp only [Act.put,List.setIfInBounds_toArray,List.set_cons_zero,List.set_cons_succ]
  refine wpAnyL_last (by kernel_rfl) rfl (by kernel_rfl) (fun K hK=>?_)
  go_simp
  refine hK.out _ _ ?_
  clear hK K
  refine NoPanic.normal ?_
  have RD:=Lib.hid (show rdFts V9 (own10 w V9) T [v9] from by rw [TE.out];exact own10_of G9.out BV.out.size)
  obtain ⟨Ar,cr,hv9,-,-⟩:=id RD.out
  simp only [List.cons.injEq,and_true] at hv9
  subst hv9
  go_wp2_with fail
  all_goals
   go_ret2
   exact ⟨⟨fun e=>by (cases e),fun _=>⟨Ar,cr,rfl,RD.out⟩⟩,bel_in BV.out B9.out⟩
 ·go_simp
  refine (KI2.out V BV.out).mono ?_
  rintro e Wa ⟨⟨Ai,ci,rfl,hri⟩,hb⟩
  have BA:=Lib.hid hb
  have RA:=Lib.hid hri
  clear hb hri
  go_wp2_with fail
  refine hK.out _ _ (SK.out _ (BA.out)) (fun hHeld=>?_)
  clear hK K
  try simp only [Act.put,List.setIfInBounds_toArray,List.set_cons_zero,List.set_cons_succ]
  refine wpAnyL_one (i:=0) (by kernel_rfl) rfl (fun K hK=>?_)
  go_simp
  obtain ⟨Wc,hWc⟩:∃W,W=Wa.alloc (.cells #[] 75):=⟨_,rfl⟩
  have hbx:Below Wa.heap.size Wa Wc:=by rw [hWc];exact (Below.refl _ Wa).alloc (Nat.le_refl _) _
  have BC:=Lib.hid (bel_in BA.out hbx)
  have GC:=Lib.hid (show Grow rdFt 3 (fun _=>True) Wc V.heap.size 75 (.slice (some ⟨Wa.heap.size,0,none⟩) 0 0) [] from Grow.empty _ (by rw [hWc];exact heap_alloc_new Wa _) BA.out.size)
  have XC:=Lib.hid (show rdFts Wc (own10 V Wa) I [.slice Ai I.length ci] from rdFts_good.keep RA.out (fun c hc=>hbx.block c hc.2))
  have SCx:=Lib.hid (show ∀c,own10 V Wa c→True∧c < Wc.heap.size∧(Value.slice (some ⟨Wa.heap.size,0,none⟩) 0 0).ownBlock≠some c from fun c hc=>⟨trivial,Nat.lt_of_lt_of_le hc.2 hbx.size,fun e=>by simp only [Value.ownBlock,Option.some.injEq] at e;have:=hc.2;omega⟩)
  rw [←hWc]
  clear hWc hbx
  refine hK.out _ _ (SK.out _ (BC.out)) (fun hHeld=>?_)
  clear hK K
  try simp only [Act.put,List.setIfInBounds_toArray,List.set_cons_zero,List.set_cons_succ]
  refine wpAnyL_one (i:=4) (by kernel_rfl) rfl (fun K hK=>?_)
  have hbs:V.heap.size≤Wc.heap.size:=BC.out.size
  refine step_growN _ (by rfl) _ _ 44 44 (by rfl) rdFt_good (by decide) (fun _=>True) V.heap.size 75 75 fi _ 24 Tryz.underlying44 Tryz.underlying44 hi0 hz0 hz1 hz2 rfl _ _ (by rfl) GC.out _ _ _ _ _ (by rfl) XC.out SCx.out (by have:=LI.out;simp only [List.length_nil];unfold maxLen;omega) (by have:=LI.out;simp only [List.length_nil];omega) (by omega) ?_
  intro v4 V4 hG4 hg4 _
  have B4:=Lib.hid (grow_below GC.out hg4 BC.out (Nat.le_refl _) hbs)
  have G4:=Lib.hid (show Grow rdFt 3 (fun _=>True) V4 V.heap.size 75 v4 I from hG4)
  clear hG4 hg4 hbs
  refine hK.out _ _ (SK.out _ (B4.out)) (fun hHeld=>?_)
  clear hK K
  try simp only [Act.put,List.setIfInBounds_toArray,List.set_cons_zero,List.set_cons_succ]
  refine wpAnyL_one (i:=8) (by kernel_rfl) rfl (fun K hK=>?_)
  go_simp
  refine (KO2.out V4 (bel_in BV.out B4.out)).mono ?_
  rintro e w8 ⟨⟨Ao,co,rfl,hro⟩,hb⟩
  have B8:=Lib.hid (bel_in B4.out hb)
  have G8:=Lib.hid (G4.out.below rdFt_good hb)
  have X8:=Lib.hid hro
  have S8:=Lib.hid (show ∀c,own10 V4 w8 c→True∧c < w8.heap.size∧v4.ownBlock≠some c from fun c hc=>⟨trivial,hc.2,fun e=>by have:=(G4.out.lt c e).2;have:=hc.1;omega⟩)
  clear hb hro
  go_wp2_with fail
  refine hK.out _ _ (SK.out _ (B8.out)) (fun hHeld=>?_)
  clear hK K
  try simp only [Act.put,List.setIfInBounds_toArray,List.set_cons_zero,List.set_cons_succ]
  refine wpAnyL_one (i:=9) (by kernel_rfl) rfl (fun K hK=>?_)
  have hbs:V.heap.size≤w8.heap.size:=B8.out.size
  refine step_growN _ (by rfl) _ _ 44 44 (by rfl) rdFt_good (by decide) (fun _=>True) V.heap.size 75 75 fi _ 24 Tryz.underlying44 Tryz.underlying44 hi0 hz0 hz1 hz2 rfl _ _ (by rfl) G8.out _ _ _ _ _ (by rfl) X8.out S8.out (by have:=LI.out;skip;unfold maxLen;omega) (by have:=LI.out;skip;omega) (by omega) ?_
  intro v9 V9 hG9 hg9 _
  have B9:=Lib.hid (grow_below G8.out hg9 B8.out (Nat.le_refl _) hbs)
  have G9:=Lib.hid hG9
  clear hG9 hg9 hbs
  refine hK.out _ _ (SK.out _ (B9.out)) (fun hHeld=>?_)
  clear hK K
  try simp only [Act.put,List.setIfInBounds_toArray,List.set_cons_zero,List.set_cons_succ]
  refine wpAnyL_one (i:=10) (by kernel_rfl) rfl (fun K hK=>?_)
  go_simp
  refine hK.out _ _ (SK.out _ (B9.out)) (fun hHeld=>?_)
  clear hK K
  try simp only [Act.put,List.setIfInBounds_toArray,List.set_cons_zero,List.set_cons_succ]
  refine wpAnyL_last (by kernel_rfl) rfl (by kernel_rfl) (fun K hK=>?_)
  go_simp
  refine hK.out _ _ ?_
  clear hK K
  refine NoPanic.normal ?_
  have RD:=Lib.hid (show rdFts V9 (own10 w V9) T [v9] from by rw [TE.out];exact own10_of G9.out BV.out.size)
  obtain ⟨Ar,cr,hv9,-,-⟩:=id RD.out
  simp only [List.cons.injEq,and_true] at hv9
  subst hv9
  go_wp2_with fail
  all_goals
   go_ret2
   exact ⟨⟨fun e=>by (cases e),fun _=>⟨Ar,cr,rfl,RD.out⟩⟩,bel_in BV.out B9.out⟩
set_option maxHeartbeats 16000000 in
theorem q10meets_any (b:Nat) (U:List Ent) (m:List Hr) (Al:Option Addr) (nl cl:Nat) (l:List Int) (A1:Option Addr) (c1:Nat) (i:List Atm) (A2:Option Addr) (c2:Nat) (r:List Atm) (up:Bool) (w:World) (rq:Bool) (KR:∀W:World,Below w.heap.size w W→Calls Tryz.prog 19 #[.agg #[.slice A1 i.length c1,.slice A2 r.length c2,.bool up]] W fun e w'=>e=.returned (.bool rq)∧Below W.heap.size W w') (h:UR w b U m) (hl:rdInts w (lt_ w.heap.size) l [.slice Al nl cl]) (hp:∀x ∈ U,x.p.length≤1000) (hi:rdAtms w (lt_ w.heap.size) i [.slice A1 i.length c1]) (hr:rdAtms w (lt_ w.heap.size) r [.slice A2 r.length c2]) (hm:m.length≤200) (hT:(fltS U (heldU U m) i r l).length≤1000000) :
  Calls Tryz.prog 23 #[.pointer (some ⟨b,0,none⟩),.agg #[.slice A1 i.length c1,.slice A2 r.length c2,.bool up],.slice Al nl cl] w fun e w'=>e=.returned (.bool ((rq&&setB U.length l)&&(fltS U (heldU U m) i r l).isEmpty))∧Below w.heap.size w w':=by
 obtain ⟨w1,hw1⟩:∃W,W=w.alloc (.cells #[.slice A1 i.length c1,.slice A2 r.length c2,.bool up] 26):=⟨_,rfl⟩
 have b1:Below w.heap.size w w1:=by rw [hw1];exact (Below.refl _ w).alloc (Nat.le_refl _) _
 have B1:=Lib.hid b1
 obtain ⟨x0,x1,x2⟩:w1.cell? ⟨w.heap.size,0,none⟩=some (.slice A1 i.length c1)∧w1.cell? ⟨w.heap.size,1,none⟩=some (.slice A2 r.length c2)∧w1.cell? ⟨w.heap.size,2,none⟩=some (.bool up):=by
  refine ⟨?_,?_,?_⟩<;>rw [hw1]<;>simp [go_sem]
 have KF:=Lib.hid (q10faults_any b U m Al nl cl l A1 c1 i A2 c2 r up w1 rq (fun W hb=>KR W (bel_in b1 hb)) (h.below b1) (rdInts_good.up (rdInts_good.below hl b1) b1.size) hp (rdAtms_good.up (rdAtms_good.below hi b1) b1.size) (rdAtms_good.up (rdAtms_good.below hr b1) b1.size) hm hT)
 clear KR h hl hp hi hr hm hT b1
 generalize fltS U (heldU U m) i r l=T at *
 generalize (rq&&setB U.length l)=ok at *
 go_enter Tryz.func23,Tryz.ntmps23
 go_wp2_with fail
 rw [←hw1]
 clear hw1
 go_wp2_with fail
 refine KF.out.mono ?_
 rintro e w2 ⟨hf,hb⟩
 have B2:=Lib.hid (bel_in B1.out hb)
 clear hb KF x0 x1 x2
 cases ok
 ·obtain rfl:=hf.1 rfl
  clear hf
  go_wp2
  go_ret
  exact ⟨rfl,B2.out⟩
 ·obtain ⟨A,c,rfl,hr⟩:=hf.2 rfl
  clear hf hr
  by_cases he:T=[]
  ·have hn:((T.length:Int)==0)=true:=by rw [he];rfl
   have XX:=Lib.hid (show T.isEmpty=true by rw [he];rfl)
   clear he
   go_wp2
   go_ret
   exact ⟨by rw [XX.out];try rfl,B2.out⟩
  ·have hn:((T.length:Int)==0)=false:=by
    rw [beq_eq_false_iff_ne]
    intro q
    exact he (List.eq_nil_of_length_eq_zero (by omega))
   have XX:=Lib.hid (show T.isEmpty=false by
    cases hh:T with
    | nil=>exact absurd hh he
    | cons a r=>rfl)
   clear he
   go_wp2
   go_ret
   exact ⟨by rw [XX.out];try rfl,B2.out⟩
set_option maxHeartbeats 4000000 in
theorem q10atoms_any (KA:∀(x:Atm) (w:World),x.n.size≤65536→Calls Tryz.prog 90 #[.agg #[.string x.n,.int .i64 x.o,.string x.v]] w fun e' w'=>e'=.returned (.bool (rgt x))∧Below w.heap.size w w') (A:Option Addr) (n c:Nat) (l:List Atm) (w:World) (h:rdAtms w (lt_ w.heap.size) l [.slice A n c]) (hz:∀x ∈ l,x.n.size≤65536) :
  Calls Tryz.prog 54 #[.slice A n c] w fun e w'=>e=.returned (.bool (atB l))∧Below w.heap.size w w':=by
 obtain ⟨rfl,hnc,hcm,_⟩:=rdAtms_at h
 have hcm':c≤9223372036854775807:=hcm
 have HZ:=Lib.hid hz
 have KA:=Lib.hid KA
 clear hz hcm
 have S1:=Lib.hid (fun (k:Nat) (hk:k < l.length) (hf:rgt l[k]=false)=>show atB l=false by unfold atB;rw [all_stop6 hk hf];rfl)
 have S2:=Lib.hid (fun (h:l.all rgt=true)=>show atB l=decide (l.length≤12) by unfold atB;rw [h];rfl)
 obtain ⟨R,hR⟩:∃R,R=atB l:=⟨_,rfl⟩
 rw [←hR] at S1 S2 ⊢
 clear hR
 go_enter Tryz.func54,Tryz.ntmps54
 go_wp2
 go_loopw [3] (fun i wr=>∃k:Nat,k≤l.length∧i=.int .i64 k∧(l.take k).all rgt=true∧Below w.heap.size w wr) (fun i _=>l.length - (intOf i).toNat)
 case atStart=>exact ⟨0,Nat.zero_le _,rfl,rfl,Below.refl _ _⟩
 case round=>
  obtain ⟨k,hk,rfl,hall,hbel⟩:=hrel
  have HA:=Lib.hid hall
  have HB:=Lib.hid hbel
  clear hall
  by_cases hlt:k < l.length
  ·obtain ⟨_,_,_,hat⟩:=rdAtms_at (rdAtms_good.below h hbel)
   obtain ⟨ad,rfl,had,h0,h1,h2⟩:=hat k hlt
   have i0:(0:Int)≤(k:Int):=by omega
   have i1:(k:Int) < (l.length:Int):=by omega
   have ST:=Lib.hid (fun hf=>all_step6 (f:=rgt) hlt HA.out hf)
   have SP:=Lib.hid (S1.out k hlt)
   have K:=Lib.hid (fun W=>KA.out l[k] W (HZ.out _ (List.getElem_mem hlt)))
   clear had hat hbel h
   generalize l[k]=x at *
   generalize rgt x=b at *
   go_wp2_with fail
   refine (K.out _).mono ?_
   rintro e w' ⟨rfl,hb⟩
   have HB2:=Lib.hid (HB.out.trans (hb.mono HB.out.size))
   clear hb h0 h1 h2
   cases b
   ·have XX:=Lib.hid (SP.out rfl)
    go_wp2
    go_ret
    exact ⟨by rw [XX.out];try rfl,HB2.out⟩
   have NX:=Lib.hid (ST.out rfl)
   go_wp2
   go_roundw
   case rel=>exact ⟨k+1,by omega,by go_num,NX.out,HB2.out⟩
   case measure=>simp [intOf];omega
  ·obtain rfl:k=l.length:=by omega
   have FIN:=Lib.hid (S2.out (by have:=HA.out;rw [List.take_length] at this;exact this))
   clear h hbel
   by_cases h12:l.length≤12
   ·have hi:(l.length:Int)≤12:=by omega
    have XX:=Lib.hid (FIN.out.trans (decide_eq_true h12))
    clear FIN h12
    go_wp2
    go_ret
    exact ⟨by rw [XX.out];try rfl,HB.out⟩
   ·have hi:¬(l.length:Int)≤12:=by omega
    have XX:=Lib.hid (FIN.out.trans (decide_eq_false h12))
    clear FIN h12
    go_wp2
    go_ret
    exact ⟨by rw [XX.out];try rfl,HB.out⟩
set_option maxHeartbeats 4000000 in
theorem q10right_any (KA:∀(x:Atm) (w:World),x.n.size≤65536→Calls Tryz.prog 90 #[.agg #[.string x.n,.int .i64 x.o,.string x.v]] w fun e' w'=>e'=.returned (.bool (rgt x))∧Below w.heap.size w w') (A1:Option Addr) (c1:Nat) (A2:Option Addr) (c2:Nat) (i r:List Atm) (up:Bool) (w:World) (hi:rdAtms w (lt_ w.heap.size) i [.slice A1 i.length c1]) (hr:rdAtms w (lt_ w.heap.size) r [.slice A2 r.length c2]) (hz:∀x ∈ i,x.n.size≤65536) (hz':∀x ∈ r,x.n.size≤65536) :
  Calls Tryz.prog 19 #[.agg #[.slice A1 i.length c1,.slice A2 r.length c2,.bool up]] w fun e w'=>e=.returned (.bool (rqB i r))∧Below w.heap.size w w':=by
 have KX:=Lib.hid (fun (W:World) (hb:Below w.heap.size w W)=>q10atoms_any KA A1 i.length c1 i W (rdAtms_good.up (rdAtms_good.below hi hb) hb.size) hz)
 have KB:=Lib.hid (fun (W:World) (hb:Below w.heap.size w W)=>q10atoms_any KA A2 r.length c2 r W (rdAtms_good.up (rdAtms_good.below hr hb) hb.size) hz')
 have X:=Lib.hid (show rqB i r=(atB i&&atB r) from rfl)
 generalize atB i=a at *
 generalize atB r=b at *
 generalize rqB i r=R at *
 obtain ⟨W1,hW1⟩:∃W,W=w.alloc (.cells #[.slice A1 i.length c1,.slice A2 r.length c2,.bool up] 26):=⟨_,rfl⟩
 have b1:Below w.heap.size w W1:=by rw [hW1];exact (Below.refl _ w).alloc (Nat.le_refl _) _
 have x0:W1.cell? ⟨w.heap.size,0,none⟩=some (.slice A1 i.length c1):=by rw [hW1];simp [go_sem]
 have x1:W1.cell? ⟨w.heap.size,1,none⟩=some (.slice A2 r.length c2):=by rw [hW1];simp [go_sem]
 have B1:=Lib.hid b1
 clear hi hr hz hz' b1 KA
 go_enter Tryz.func19,Tryz.ntmps19
 go_wp2_with fail
 rw [←hW1]
 clear hW1
 go_wp2_with fail
 refine (KX.out _ B1.out).mono ?_
 rintro e w2 ⟨rfl,hb⟩
 have B2:=Lib.hid (bel_in B1.out hb)
 have y1:=keep6 hb x1
 clear hb x0 x1
 go_wp2_with fail
 refine (KB.out _ B2.out).mono ?_
 rintro e w3 ⟨rfl,hb⟩
 have B3:=Lib.hid (bel_in B2.out hb)
 clear hb y1
 cases a
 ·go_wp2
  go_ret
  exact ⟨by rw [X.out];try rfl,B3.out⟩
 ·go_wp2
  go_ret
  exact ⟨by rw [X.out];try rfl,B3.out⟩
end Go.Proofs.YthchfkhpmgkghaaGreatDoor
namespace Go.Proofs.YthchfkhpmgkghaaGreatDoor
open Go.RowKit
abbrev lT (W:World) (T:Nat→Prop):Nat→Prop:=fun c=>c < W.heap.size∧T c
section
variable {α:Type} {E:Rd α} {sz:Nat} {ty:TypeId} {T:Nat→Prop}
structure MgT (E:Rd α) (sz:Nat) (ty:TypeId) (T:Nat→Prop) (W WX:World) (b:Nat) (l:List α) (x:Value):Prop where
 g:Grow E sz T WX W.heap.size ty (.slice (some ⟨b,0,none⟩) 0 0) []
 x:rdRow sz E WX (lT W T) l [x]
 s:∀c,lT W T c→T c∧c < WX.heap.size∧(Value.slice (some ⟨b,0,none⟩) 0 0).ownBlock≠some c
 bs:W.heap.size≤WX.heap.size
 bel:Below W.heap.size W WX
theorem mgT_of (g:Good E sz) {W WX:World} {b:Nat} {l:List α} {x:Value} (hx:rdRow sz E W (lT W T) l [x]) (hb:WX.heap[b]?=some (.cells #[] ty (0,0))) (hge:W.heap.size≤b) (bel:Below W.heap.size W WX):MgT E sz ty T W WX b l x:=
 ⟨Grow.empty _ hb hge,(rdRow_good g).keep hx (fun c hc=>bel.block c hc.1),fun c hc=>⟨hc.2,Nat.lt_of_lt_of_le hc.1 bel.size,fun hh=>by simp only [Value.ownBlock,Option.some.injEq] at hh;have:=hc.1;omega⟩,bel.size,bel⟩
theorem mgTA (g:Good E sz) {W:World} {l:List α} {x:Value} (hx:rdRow sz E W (lT W T) l [x]):MgT E sz ty T W (W.alloc (Obj.cells #[] ty)) W.heap.size l x:=
 mgT_of g hx (heap_alloc_new W _) (Nat.le_refl _) ((Below.refl _ W).alloc (Nat.le_refl _) _)
theorem mgTB (g:Good E sz) {W:World} {l:List α} {x:Value} (blk:Array Value) (te:TypeId) (hx:rdRow sz E W (lT W T) l [x]):MgT E sz ty T W ((W.alloc (Obj.cells #[] ty)).alloc (Obj.cells blk te)) W.heap.size l x:=
 mgT_of g hx (old_heap _ (heap_alloc_new W _)) (Nat.le_refl _) (((Below.refl _ W).alloc (Nat.le_refl _) _).alloc (by simp) _)
theorem mgTC (g:Good E sz) {W:World} {l:List α} {x:Value} (blk:Array Value) (te:TypeId) (hx:rdRow sz E W (lT W T) l [x]):MgT E sz ty T W ((W.alloc (Obj.cells blk te)).alloc (Obj.cells #[] ty)) (W.heap.size+1) l x:=
 mgT_of g hx (by have:=heap_alloc_new (W.alloc (Obj.cells blk te)) (Obj.cells #[] ty);rw [World.size_alloc] at this;exact this) (Nat.le_succ _) (((Below.refl _ W).alloc (Nat.le_refl _) _).alloc (by simp) _)
structure Mg2T (E:Rd α) (sz:Nat) (ty:TypeId) (T:Nat→Prop) (W WY:World) (b:Nat) (l:List α) (v3:Value) (y:α):Prop where
 g:Grow E sz T WY W.heap.size ty v3 l
 x:rdRow sz E WY (fun c=>c=b∨lT W T c) [y] [.slice (some ⟨b,0,none⟩) 1 1]
 s:∀c,(c=b∨lT W T c)→T c∧c < WY.heap.size∧v3.ownBlock≠some c
 bs:W.heap.size≤WY.heap.size
 bel:Below W.heap.size W WY
theorem mgT_next {W WX w3:World} {b:Nat} {l:List α} {x v3:Value} (a:MgT E sz ty T W WX b l x) (hg:WX.grownBy w3 (Value.slice (some ⟨b,0,none⟩) 0 0).ownBlock):W.heap.size≤w3.heap.size∧Below W.heap.size W w3:=
 ⟨Nat.le_trans a.bs hg.size,grow_below a.g hg a.bel (Nat.le_refl _) a.bs⟩
theorem mgT2A (g:Good E sz) {W WX w3:World} {b:Nat} {l:List α} {x v3:Value} {y:α} (hT:∀c,W.heap.size≤c→T c) (blk:Array Value) (te:TypeId) (hE:E W (lT W T) y blk.toList) (a:MgT E sz ty T W WX b l x) (hG:Grow E sz T w3 W.heap.size ty v3 l) (hg:WX.grownBy w3 (Value.slice (some ⟨b,0,none⟩) 0 0).ownBlock) :
  Mg2T E sz ty T W (w3.alloc (Obj.cells blk te)) w3.heap.size l v3 y:=by
 obtain ⟨h1,h2⟩:=mgT_next (v3:=v3) a hg
 have h3:=h2.alloc h1 (Obj.cells blk te)
 refine ⟨hG.alloc g _,one_rd (ty:=te) g (heap_alloc_new w3 _) (g.more (g.keep hE fun c hc=>h3.block c hc.1) fun c hc=>.inr hc) (.inl rfl),fun c hc=>⟨?_,?_,fun hh=>?_⟩,by rw [World.size_alloc];omega,h3⟩
 ·rcases hc with rfl|hc
  ·exact hT _ h1
  ·exact hc.2
 ·rw [World.size_alloc]
  rcases hc with rfl|hc
  ·omega
  ·have:=hc.1;omega
 ·have:=hG.lt c hh
  rcases hc with rfl|hc
  ·omega
  ·have:=hc.1;omega
theorem mgT2BC (g:Good E sz) {W WX w3:World} {b q:Nat} {l:List α} {x v3:Value} {y:α} {blk:Array Value} {te:TypeId} (hT:∀c,W.heap.size≤c→T c) (hE:E W (lT W T) y blk.toList) (a:MgT E sz ty T W WX b l x) (hq:WX.heap[q]?=some (.cells blk te (0,0))) (hqb:q≠b) (hqW:W.heap.size≤q) (hG:Grow E sz T w3 W.heap.size ty v3 l)
  (hg:WX.grownBy w3 (Value.slice (some ⟨b,0,none⟩) 0 0).ownBlock) (hm:v3.ownBlock=(Value.slice (some ⟨b,0,none⟩) 0 0).ownBlock∨∃c,v3.ownBlock=some c∧WX.heap.size≤c):Mg2T E sz ty T W w3 q l v3 y:=by
 obtain ⟨h1,h2⟩:=mgT_next (v3:=v3) a hg
 have hlt:q < WX.heap.size:=(Array.getElem?_eq_some_iff.1 hq).1
 have hne:∀c,(c=q∨lT W T c)→v3.ownBlock≠some c:=fun c hc hh=>by
  have hl:=(hG.lt c hh).1
  rcases hc with hc|hc
  ·rcases hm with h|⟨d,h,hd⟩
   ·rw [h] at hh;simp only [Value.ownBlock,Option.some.injEq] at hh;omega
   ·rw [h] at hh;injection hh with hh;omega
  ·have:=hc.1;omega
 refine ⟨hG,one_rd (ty:=te) g ((hg.block q hlt (fun hh=>by simp only [Value.ownBlock,Option.some.injEq] at hh;omega)).trans hq) (g.more (g.keep hE fun c hc=>h2.block c hc.1) fun c hc=>.inr hc) (.inl rfl),fun c hc=>⟨?_,?_,hne c hc⟩,h1,h2⟩
 ·rcases hc with rfl|hc
  ·exact hT _ hqW
  ·exact hc.2
 ·have:=hg.size
  rcases hc with rfl|hc
  ·omega
  ·have:=hc.1;omega
theorem mgT2B (g:Good E sz) {W w3:World} {l:List α} {x v3:Value} {y:α} {blk:Array Value} {te:TypeId} (hT:∀c,W.heap.size≤c→T c) (hE:E W (lT W T) y blk.toList) (a:MgT E sz ty T W ((W.alloc (Obj.cells #[] ty)).alloc (Obj.cells blk te)) W.heap.size l x) (hG:Grow E sz T w3 W.heap.size ty v3 l)
  (hg:((W.alloc (Obj.cells #[] ty)).alloc (Obj.cells blk te)).grownBy w3 (Value.slice (some ⟨W.heap.size,0,none⟩) 0 0).ownBlock) (hm:v3.ownBlock=(Value.slice (some ⟨W.heap.size,0,none⟩) 0 0).ownBlock∨∃c,v3.ownBlock=some c∧((W.alloc (Obj.cells #[] ty)).alloc (Obj.cells blk te)).heap.size≤c):Mg2T E sz ty T W w3 (W.heap.size+1) l v3 y:=
 mgT2BC g hT hE a (by have:=heap_alloc_new (W.alloc (Obj.cells #[] ty)) (Obj.cells blk te);rw [World.size_alloc] at this;exact this) (by omega) (by omega) hG hg hm
theorem mgT2C (g:Good E sz) {W w3:World} {l:List α} {x v3:Value} {y:α} {blk:Array Value} {te:TypeId} (hT:∀c,W.heap.size≤c→T c) (hE:E W (lT W T) y blk.toList) (a:MgT E sz ty T W ((W.alloc (Obj.cells blk te)).alloc (Obj.cells #[] ty)) (W.heap.size+1) l x) (hG:Grow E sz T w3 W.heap.size ty v3 l)
  (hg:((W.alloc (Obj.cells blk te)).alloc (Obj.cells #[] ty)).grownBy w3 (Value.slice (some ⟨W.heap.size+1,0,none⟩) 0 0).ownBlock) (hm:v3.ownBlock=(Value.slice (some ⟨W.heap.size+1,0,none⟩) 0 0).ownBlock∨∃c,v3.ownBlock=some c∧((W.alloc (Obj.cells blk te)).alloc (Obj.cells #[] ty)).heap.size≤c):Mg2T E sz ty T W w3 W.heap.size l v3 y:=
 mgT2BC g hT hE a (old_heap _ (heap_alloc_new W _)) (by omega) (Nat.le_refl _) hG hg hm
structure Mg3T (E:Rd α) (sz:Nat) (ty:TypeId) (T:Nat→Prop) (W w5:World) (l:List α) (v5:Value) (m:List α) (x:Value):Prop where
 g:Grow E sz T w5 W.heap.size ty v5 l
 x:rdRow sz E w5 (lT W T) m [x]
 s:∀c,lT W T c→T c∧c < w5.heap.size∧v5.ownBlock≠some c
 bs:W.heap.size≤w5.heap.size
 bel:Below W.heap.size W w5
theorem mgT_3 (g:Good E sz) {W WY w5:World} {b:Nat} {l l' m:List α} {v3 v5 x:Value} {y:α} (a:Mg2T E sz ty T W WY b l v3 y) (hx:rdRow sz E W (lT W T) m [x]) (hG:Grow E sz T w5 W.heap.size ty v5 l') (hg:WY.grownBy w5 v3.ownBlock):Mg3T E sz ty T W w5 l' v5 m x:=by
 have hb:=grow_below a.g hg a.bel (Nat.le_refl _) a.bs
 exact ⟨hG,(rdRow_good g).keep hx (fun c hc=>hb.block c hc.1),fun c hc=>⟨hc.2,Nat.lt_of_lt_of_le hc.1 hb.size,fun hh=>by have:=(hG.lt c hh).1;have:=hc.1;omega⟩,hb.size,hb⟩
theorem mgT_end (g:Good E sz) {W w5 w7:World} {l l' m:List α} {v5 v7 x:Value} (hT:∀c,W.heap.size≤c→T c) (a:Mg3T E sz ty T W w5 l v5 m x) (hG:Grow E sz T w7 W.heap.size ty v7 l') (hg:w5.grownBy w7 v5.ownBlock):Below W.heap.size W w7∧rdRow sz E w7 (fun c=>c < w7.heap.size∧T c) l' [v7]:=
 ⟨grow_below a.g hg a.bel (Nat.le_refl _) a.bs,(rdRow_good g).more (hG.reads g) fun c hc=>⟨hc.1,hc.2.elim (hT c) id⟩⟩
end
end Go.Proofs.YthchfkhpmgkghaaGreatDoor
