/- What the laws rest on: N12e, N12f, N12g, N12h. -/
import Derived.Test.YtgjlgdpbmhdnbaaDoorQACZC
set_option maxRecDepth 100000
set_option linter.unusedVariables false
set_option linter.unusedSimpArgs false
section
namespace Go.Proofs.YtgjlgdpbmhdnbaaDoor
open Go.RowKit
set_option maxHeartbeats 16000000 in
theorem watch12_any {w:World} {N sb tb hb n:Nat} {pb:Nat→Nat} {mv:Value} {hd rv:Nat→Value} {s:Sp} (h:SpM w N sb tb hb n pb mv hd rv s) (hn:n≤20000) {j:Nat} (hj:j < s.ws.length) {x:Int} (hx:litN n x) (hl:(s.wl (atP n x)).length≤1000000) :
  Calls Tryd.prog 40 #[.pointer (some ⟨sb,0,none⟩),.pointer (some ⟨pb j,0,none⟩),.int .i64 x] w fun e w'=>e=.returned (.tuple #[])∧Below N w w'∧∃v',SpM w' N sb tb hb n pb mv (fun q=>if q=atP n x then v' else hd q) rv (watchS s j x):=by
 obtain ⟨fi,hi,hz0,hz1,hz2⟩:=info_parts ptr12_info
 have KA:=Lib.hid (fun (W:World) (hc:W.cell? ⟨sb,0,none⟩=some (.slice (some ⟨tb,0,none⟩) n n))=>at12_cell sb tb n x W hx hn hc)
 have hk:=(atP_is hx).2
 have WS:=Lib.hid (show watchS s j x={ s with wl:=upW s.wl (atP n x) (s.wl (atP n x)++[j]) } by unfold watchS;rw [h.nl])
 rw [WS.out]
 clear WS
 generalize atP n x=k at *
 obtain ⟨Ak,ck,hdk,hlc,hcm,-⟩:=own_is (h.rows k hk)
 have hcm':ck≤9223372036854775807:=hcm
 have SA:=Lib.hid (h.drew.below ((Below.refl _ w.drew).alloc (Nat.le_refl _) (.cells #[.pointer (some ⟨pb j,0,none⟩)] 53)))
 have hR2:=SA.out.rows k hk
 have hG:=SA.out.hcell hk
 have hG1:=h.drew.hcell hk
 rw [hdk] at hR2 hG hG1
 have KS1:=Lib.hid (show w.drew.cell? ⟨sb,0,none⟩=some (.slice (some ⟨tb,0,none⟩) n n)∧w.drew.cell? ⟨sb,2,none⟩=some (.slice (some ⟨hb,0,none⟩) (2*n+1) (2*n+1))∧w.drew.cell? ⟨hb,k,none⟩=some (.slice Ak (s.wl k).length ck) from ⟨h.drew.s0,h.drew.s2,hG1⟩)
 have KS2:=Lib.hid (show (w.drew.alloc (.cells #[.pointer (some ⟨pb j,0,none⟩)] 53)).cell? ⟨sb,0,none⟩=some (.slice (some ⟨tb,0,none⟩) n n)∧(w.drew.alloc (.cells #[.pointer (some ⟨pb j,0,none⟩)] 53)).cell? ⟨sb,2,none⟩=some (.slice (some ⟨hb,0,none⟩) (2*n+1) (2*n+1))∧(w.drew.alloc (.cells #[.pointer (some ⟨pb j,0,none⟩)] 53)).cell? ⟨hb,k,none⟩=some (.slice Ak (s.wl k).length ck) from ⟨SA.out.s0,SA.out.s2,hG⟩)
 have hq:(w.drew.alloc (.cells #[.pointer (some ⟨pb j,0,none⟩)] 53)).cell? ⟨w.drew.heap.size,0,none⟩=some (.pointer (some ⟨pb j,0,none⟩)):=by simp [go_sem]
 have hbs:N≤(w.drew.alloc (.cells #[.pointer (some ⟨pb j,0,none⟩)] 53)).heap.size:=SA.out.nw
 have hn1:(s.wl k).length+1≤maxLen:=by unfold maxLen;omega
 have hn2:((s.wl k).length+1)*8≤140737488355328:=by omega
 have k0:(0:Int)≤(k:Int):=by omega
 have k1:(k:Int) < 2*(n:Int)+1:=by omega
 have k2:(k:Int) < ((2*n+1:Nat):Int):=by omega
 have B0:=Lib.hid (show Below N w (w.drew.alloc (.cells #[.pointer (some ⟨pb j,0,none⟩)] 53)) from (belD (Below.refl N w) 1).alloc h.nw _)
 have KT:=Lib.hid (show ∀(v':Value) (w2:World),w2.ownsRow N 53 1 v' ((s.wl k).length+1) ((s.wl k).map (ptW pb)++[.pointer (some ⟨pb j,0,none⟩)])→(w.drew.alloc (.cells #[.pointer (some ⟨pb j,0,none⟩)] 53)).grownBy w2 (Value.slice Ak (s.wl k).length ck).ownBlock→(v'.ownBlock=(Value.slice Ak (s.wl k).length ck).ownBlock∨∃b,v'.ownBlock=some b∧(w.drew.alloc (.cells #[.pointer (some ⟨pb j,0,none⟩)] 53)).heap.size≤b)→
   w2.cell? ⟨sb,0,none⟩=some (.slice (some ⟨tb,0,none⟩) n n)∧w2.cell? ⟨sb,2,none⟩=some (.slice (some ⟨hb,0,none⟩) (2*n+1) (2*n+1))∧w2.cell? ⟨hb,k,none⟩=some (.slice Ak (s.wl k).length ck)∧w2.frozen? ⟨hb,k,none⟩=false∧True∧SpM (w2.setCell ⟨hb,k,none⟩ v') N sb tb hb n pb mv (fun q=>if q=k then v' else hd q) rv { s with wl:=upW s.wl k (s.wl k++[j]) }∧Below N w (w2.setCell ⟨hb,k,none⟩ v') from by
  intro v' w2 hr hg hm2
  have a1:w2.heap[sb]?=(w.drew.alloc (.cells #[.pointer (some ⟨pb j,0,none⟩)] 53)).heap[sb]?:=hg.block sb (cb_lt SA.out.sbx) (fun q=>(SA.out.rne hk (hdk ▸ q.symm)).1 rfl)
  have a2:w2.heap[hb]?=(w.drew.alloc (.cells #[.pointer (some ⟨pb j,0,none⟩)] 53)).heap[hb]?:=hg.block hb (cb_lt SA.out.hbx) (fun q=>(SA.out.rne hk (hdk ▸ q.symm)).2.2.1 rfl)
  refine ⟨(World.cell?_of_block (a:=⟨sb,0,none⟩) a1).trans SA.out.s0,(World.cell?_of_block (a:=⟨sb,2,none⟩) a1).trans SA.out.s2,(World.cell?_of_block (a:=⟨hb,k,none⟩) a2).trans hG,(World.frozen?_of_block (a:=⟨hb,k,none⟩) a2).trans (SA.out.hf k),trivial,?_,?_⟩
  ·exact SA.out.watch (j:=j) hk hj (by rw [List.length_append,List.map_append];exact hr) (hdk ▸ hg) (hdk ▸ hm2)
  ·exact (B0.out.grown hg hbs fun g hg'=>(hR2.lt g hg').1).setCell (p:=⟨hb,k,none⟩) h.nh _)
 clear hG hG1 B0 SA h hx hl
 go_enter Tryd.func40,Tryd.ntmps40
 refine wp_region_noPanic ?_
 refine wp_region_L (fun W=>W.cell? ⟨sb,0,none⟩=some (.slice (some ⟨tb,0,none⟩) n n)∧W.cell? ⟨sb,2,none⟩=some (.slice (some ⟨hb,0,none⟩) (2*n+1) (2*n+1))∧W.cell? ⟨hb,k,none⟩=some (.slice Ak (s.wl k).length ck)) 20 (by kernel_rfl) KS1.out (fun hHeld=>?_)
 obtain ⟨g0,g2,gk⟩:=id hHeld
 refine wpAnyL_take (i:=0) (v:=?_) [19,3,2,1] rfl (by kernel_rfl) (by kernel_rfl) (by kernel_rfl) (fun _ _ _ h=>h) (by kernel_rfl) (by kernel_rfl) (by kernel_rfl) (Or.inl ⟨by rfl,?_⟩) (by assumption) ?_
 rotate_left
 ·intro w hSw
  try dsimp only at hSw
  go_simp
  first|done|with_reducible rfl
 try simp only [Act.put,List.setIfInBounds_toArray,List.set_cons_zero,List.set_cons_succ]
 refine wpAnyL_take (i:=1) (v:=?_) [19,3,2] rfl (by kernel_rfl) (by kernel_rfl) (by kernel_rfl) (fun _ _ _ h=>h) (by kernel_rfl) (by kernel_rfl) (by kernel_rfl) (Or.inl ⟨by rfl,?_⟩) (by assumption) ?_
 rotate_left
 ·intro w hSw
  try dsimp only at hSw
  go_simp
  first|done|with_reducible rfl
 try simp only [Act.put,List.setIfInBounds_toArray,List.set_cons_zero,List.set_cons_succ]
 refine wpAnyL_take (i:=2) (v:=?_) [19,3] rfl (by kernel_rfl) (by kernel_rfl) (by kernel_rfl) (fun _ _ _ h=>h) (by kernel_rfl) (by kernel_rfl) (by kernel_rfl) (Or.inl ⟨by rfl,?_⟩) (by assumption) ?_
 rotate_left
 ·intro w hSw
  try dsimp only at hSw
  go_simp
  first|done|with_reducible rfl
 try simp only [Act.put,List.setIfInBounds_toArray,List.set_cons_zero,List.set_cons_succ]
 refine wpAnyL_take (i:=3) (v:=?_) [19] rfl (by kernel_rfl) (by kernel_rfl) (by kernel_rfl) (fun _ _ _ h=>h) (by kernel_rfl) (by kernel_rfl) (by kernel_rfl) (Or.inl ⟨by rfl,?_⟩) (by assumption) ?_
 rotate_left
 ·intro w hSw
  try dsimp only at hSw
  go_simp
  first|done|with_reducible rfl
 try simp only [Act.put,List.setIfInBounds_toArray,List.set_cons_zero,List.set_cons_succ]
 refine wpAnyL_take (i:=4) (v:=?_) [19,6] rfl (by kernel_rfl) (by kernel_rfl) (by kernel_rfl) (fun _ _ _ h=>h) (by kernel_rfl) (by kernel_rfl) (by kernel_rfl) (Or.inl ⟨by rfl,?_⟩) (by assumption) ?_
 rotate_left
 ·intro w hSw
  try dsimp only at hSw
  go_simp
  first|done|with_reducible rfl
 try simp only [Act.put,List.setIfInBounds_toArray,List.set_cons_zero,List.set_cons_succ]
 refine wpAnyL_take (i:=5) (v:=?_) [19,6] rfl (by kernel_rfl) (by kernel_rfl) (by kernel_rfl) (fun _ _ _ h=>h) (by kernel_rfl) (by kernel_rfl) (by kernel_rfl) (Or.inl ⟨by rfl,?_⟩) (by assumption) ?_
 rotate_left
 ·intro w hSw
  try dsimp only at hSw
  go_simp
  first|done|with_reducible rfl
 try simp only [Act.put,List.setIfInBounds_toArray,List.set_cons_zero,List.set_cons_succ]
 refine wpAnyL_take (i:=7) (v:=?_) [18,15,14,10,9,8] rfl (by kernel_rfl) (by kernel_rfl) (by kernel_rfl) (fun _ _ _ h=>h) (by kernel_rfl) (by kernel_rfl) (by kernel_rfl) (Or.inl ⟨by rfl,?_⟩) (by assumption) ?_
 rotate_left
 ·intro w hSw
  try dsimp only at hSw
  go_simp
  first|done|with_reducible rfl
 try simp only [Act.put,List.setIfInBounds_toArray,List.set_cons_zero,List.set_cons_succ]
 refine wpAnyL_take (i:=8) (v:=?_) [18,15,14,10,9] rfl (by kernel_rfl) (by kernel_rfl) (by kernel_rfl) (fun _ _ _ h=>h) (by kernel_rfl) (by kernel_rfl) (by kernel_rfl) (Or.inl ⟨by rfl,?_⟩) (by assumption) ?_
 rotate_left
 ·intro w hSw
  try dsimp only at hSw
  go_simp
  first|done|with_reducible rfl
 try simp only [Act.put,List.setIfInBounds_toArray,List.set_cons_zero,List.set_cons_succ]
 refine wpAnyL_take (i:=9) (v:=?_) [18,15,14,10] rfl (by kernel_rfl) (by kernel_rfl) (by kernel_rfl) (fun _ _ _ h=>h) (by kernel_rfl) (by kernel_rfl) (by kernel_rfl) (Or.inl ⟨by rfl,?_⟩) (by assumption) ?_
 rotate_left
 ·intro w hSw
  try dsimp only at hSw
  go_simp
  first|done|with_reducible rfl
 try simp only [Act.put,List.setIfInBounds_toArray,List.set_cons_zero,List.set_cons_succ]
 refine wpAnyL_take (i:=10) (v:=?_) [18,15,14] rfl (by kernel_rfl) (by kernel_rfl) (by kernel_rfl) (fun _ _ _ h=>h) (by kernel_rfl) (by kernel_rfl) (by kernel_rfl) (Or.inl ⟨by rfl,?_⟩) (by assumption) ?_
 rotate_left
 ·intro w hSw
  try dsimp only at hSw
  go_simp
  first|done|with_reducible rfl
 try simp only [Act.put,List.setIfInBounds_toArray,List.set_cons_zero,List.set_cons_succ]
 refine wpAnyL_take (i:=11) (v:=?_) [18,15,14,13] rfl (by kernel_rfl) (by kernel_rfl) (by kernel_rfl) (fun _ _ _ h=>h) (by kernel_rfl) (by kernel_rfl) (by kernel_rfl) (Or.inl ⟨by rfl,?_⟩) (by assumption) ?_
 rotate_left
 ·intro w hSw
  try dsimp only at hSw
  go_simp
  first|done|with_reducible rfl
 try simp only [Act.put,List.setIfInBounds_toArray,List.set_cons_zero,List.set_cons_succ]
 refine wpAnyL_take (i:=12) (v:=?_) [18,15,14,13] rfl (by kernel_rfl) (by kernel_rfl) (by kernel_rfl) (fun _ _ _ h=>h) (by kernel_rfl) (by kernel_rfl) (by kernel_rfl) (Or.inl ⟨by rfl,?_⟩) (by assumption) ?_
 rotate_left
 ·intro w hSw
  try dsimp only at hSw
  go_simp
  first|done|with_reducible rfl
 try simp only [Act.put,List.setIfInBounds_toArray,List.set_cons_zero,List.set_cons_succ]
 refine wpAnyL_take (i:=16) (v:=?_) [18,17] rfl (by kernel_rfl) (by kernel_rfl) (by kernel_rfl) (fun _ _ _ h=>h) (by kernel_rfl) (by kernel_rfl) (by kernel_rfl) (Or.inl ⟨by rfl,?_⟩) (by assumption) ?_
 rotate_left
 ·intro w hSw
  try dsimp only at hSw
  go_simp
  first|done|with_reducible rfl
 try simp only [Act.put,List.setIfInBounds_toArray,List.set_cons_zero,List.set_cons_succ]
 refine wpAnyL_two (i:=6) (k:=17) (by kernel_rfl) rfl rfl (fun K hK=>?_) (fun K hK=>?_)
 ·go_simp
  refine (KA.out _ hHeld.1).mono ?_
  rintro e wq ⟨rfl,rfl⟩
  go_wp2_with fail
  refine hK.out _ _ hHeld (fun hHeld=>?_)
  clear hK K
  try simp only [Act.put,List.setIfInBounds_toArray,List.set_cons_zero,List.set_cons_succ]
  refine wpAnyL_two (i:=13) (k:=17) (by kernel_rfl) rfl rfl (fun K hK=>?_) (fun K hK=>?_)
  ·go_simp
   refine (KA.out _ hHeld.1).mono ?_
   rintro e wq ⟨rfl,rfl⟩
   go_wp2_with fail
   refine hK.out _ _ hHeld (fun hHeld=>?_)
   clear hK K
   try simp only [Act.put,List.setIfInBounds_toArray,List.set_cons_zero,List.set_cons_succ]
   refine wpAnyL_take (i:=14) (v:=?_) [18,15] rfl (by kernel_rfl) (by kernel_rfl) (by kernel_rfl) (fun _ _ _ h=>h) (by kernel_rfl) (by kernel_rfl) (by kernel_rfl) (Or.inl ⟨by rfl,?_⟩) (by assumption) ?_
   rotate_left
   ·intro w hSw
    try dsimp only at hSw
    go_simp
    first|done|with_reducible rfl
   try simp only [Act.put,List.setIfInBounds_toArray,List.set_cons_zero,List.set_cons_succ]
   refine wpAnyL_take (i:=15) (v:=?_) [18] rfl (by kernel_rfl) (by kernel_rfl) (by kernel_rfl) (fun _ _ _ h=>h) (by kernel_rfl) (by kernel_rfl) (by kernel_rfl) (Or.inl ⟨by rfl,?_⟩) (by assumption) ?_
   rotate_left
   ·intro w hSw
    try dsimp only at hSw
    go_simp
    first|done|with_reducible rfl
   try simp only [Act.put,List.setIfInBounds_toArray,List.set_cons_zero,List.set_cons_succ]
   refine wpAnyL_one (i:=17) (by kernel_rfl) rfl (fun K hK=>?_)
   go_simp
   refine hK.out _ _ KS2.out (fun hHeld=>?_)
   clear hK K
   try simp only [Act.put,List.setIfInBounds_toArray,List.set_cons_zero,List.set_cons_succ]
   refine wpAnyL_one (i:=18) (by kernel_rfl) rfl (fun K hK=>?_)
   refine step_push _ (by rfl) _ _ 59 (by rfl) N 53 fi _ 8 Tryd.underlying59 hi hz0 hz1 hz2 rfl (.slice Ak (s.wl k).length ck) _ _ (by rfl) hR2 _ (.pointer (some ⟨pb j,0,none⟩)) (by rfl) hq rfl hn1 hn2 hbs ?_
   intro v' w2 hr hg hm2
   obtain ⟨A',c',rfl,-,-,-⟩:=own_is hr
   obtain ⟨e1,e2,e3,e4,e5,SP,BP⟩:=KT.out _ _ hr hg hm2
   refine hK.out _ _ ⟨e1,e2,e3⟩ (fun hHeld=>?_)
   clear hK K
   try simp only [Act.put,List.setIfInBounds_toArray,List.set_cons_zero,List.set_cons_succ]
   clear hr hg hm2
   refine wpAnyL_one (i:=19) (by kernel_rfl) rfl (fun K hK=>?_)
   go_simp
   refine hK.out _ _ ⟨e1,e2,e3⟩ (fun hHeld=>?_)
   clear hK K
   try simp only [Act.put,List.setIfInBounds_toArray,List.set_cons_zero,List.set_cons_succ]
   refine wpAnyL_last (by kernel_rfl) rfl (by kernel_rfl) (fun K hK=>?_)
   go_simp
   refine hK.out _ _ ?_
   clear hK K
   refine NoPanic.normal ?_
   go_wp2
   go_end0
   exact ⟨rfl,BP,_,SP⟩
  ·go_simp
   refine hK.out _ _ KS2.out (fun hHeld=>?_)
   clear hK K
   try simp only [Act.put,List.setIfInBounds_toArray,List.set_cons_zero,List.set_cons_succ]
   refine wpAnyL_one (i:=13) (by kernel_rfl) rfl (fun K hK=>?_)
   go_simp
   refine (KA.out _ hHeld.1).mono ?_
   rintro e wq ⟨rfl,rfl⟩
   go_wp2_with fail
   refine hK.out _ _ hHeld (fun hHeld=>?_)
   clear hK K
   try simp only [Act.put,List.setIfInBounds_toArray,List.set_cons_zero,List.set_cons_succ]
   refine wpAnyL_take (i:=14) (v:=?_) [18,15] rfl (by kernel_rfl) (by kernel_rfl) (by kernel_rfl) (fun _ _ _ h=>h) (by kernel_rfl) (by kernel_rfl) (by kernel_rfl) (Or.inl ⟨by rfl,?_⟩) (by assumption) ?_
   rotate_left
   ·intro w hSw
    try dsimp only at hSw
    go_simp
    first|done|with_reducible rfl
   try simp only [Act.put,List.setIfInBounds_toArray,List.set_cons_zero,List.set_cons_succ]
   refine wpAnyL_take (i:=15) (v:=?_) [18] rfl (by kernel_rfl) (by kernel_rfl) (by kernel_rfl) (fun _ _ _ h=>h) (by kernel_rfl) (by kernel_rfl) (by kernel_rfl) (Or.inl ⟨by rfl,?_⟩) (by assumption) ?_
   rotate_left
   ·intro w hSw
    try dsimp only at hSw
    go_simp
    first|done|with_reducible rfl
   try simp only [Act.put,List.setIfInBounds_toArray,List.set_cons_zero,List.set_cons_succ]
   refine wpAnyL_one (i:=18) (by kernel_rfl) rfl (fun K hK=>?_)
   refine step_push _ (by rfl) _ _ 59 (by rfl) N 53 fi _ 8 Tryd.underlying59 hi hz0 hz1 hz2 rfl (.slice Ak (s.wl k).length ck) _ _ (by rfl) hR2 _ (.pointer (some ⟨pb j,0,none⟩)) (by rfl) hq rfl hn1 hn2 hbs ?_
   intro v' w2 hr hg hm2
   obtain ⟨A',c',rfl,-,-,-⟩:=own_is hr
   obtain ⟨e1,e2,e3,e4,e5,SP,BP⟩:=KT.out _ _ hr hg hm2
   refine hK.out _ _ ⟨e1,e2,e3⟩ (fun hHeld=>?_)
   clear hK K
   try simp only [Act.put,List.setIfInBounds_toArray,List.set_cons_zero,List.set_cons_succ]
   clear hr hg hm2
   refine wpAnyL_one (i:=19) (by kernel_rfl) rfl (fun K hK=>?_)
   go_simp
   refine hK.out _ _ ⟨e1,e2,e3⟩ (fun hHeld=>?_)
   clear hK K
   try simp only [Act.put,List.setIfInBounds_toArray,List.set_cons_zero,List.set_cons_succ]
   refine wpAnyL_last (by kernel_rfl) rfl (by kernel_rfl) (fun K hK=>?_)
   go_simp
   refine hK.out _ _ ?_
   clear hK K
   refine NoPanic.normal ?_
   go_wp2
   go_end0
   exact ⟨rfl,BP,_,SP⟩
 ·go_simp
  refine hK.out _ _ KS2.out (fun hHeld=>?_)
  clear hK K
  try simp only [Act.put,List.setIfInBounds_toArray,List.set_cons_zero,List.set_cons_succ]
  refine wpAnyL_one (i:=6) (by kernel_rfl) rfl (fun K hK=>?_)
  go_simp
  refine (KA.out _ hHeld.1).mono ?_
  rintro e wq ⟨rfl,rfl⟩
  go_wp2_with fail
  refine hK.out _ _ hHeld (fun hHeld=>?_)
  clear hK K
  try simp only [Act.put,List.setIfInBounds_toArray,List.set_cons_zero,List.set_cons_succ]
  refine wpAnyL_one (i:=13) (by kernel_rfl) rfl (fun K hK=>?_)
  go_simp
  refine (KA.out _ hHeld.1).mono ?_
  rintro e wq ⟨rfl,rfl⟩
  go_wp2_with fail
  refine hK.out _ _ hHeld (fun hHeld=>?_)
  clear hK K
  try simp only [Act.put,List.setIfInBounds_toArray,List.set_cons_zero,List.set_cons_succ]
  refine wpAnyL_take (i:=14) (v:=?_) [18,15] rfl (by kernel_rfl) (by kernel_rfl) (by kernel_rfl) (fun _ _ _ h=>h) (by kernel_rfl) (by kernel_rfl) (by kernel_rfl) (Or.inl ⟨by rfl,?_⟩) (by assumption) ?_
  rotate_left
  ·intro w hSw
   try dsimp only at hSw
   go_simp
   first|done|with_reducible rfl
  try simp only [Act.put,List.setIfInBounds_toArray,List.set_cons_zero,List.set_cons_succ]
  refine wpAnyL_take (i:=15) (v:=?_) [18] rfl (by kernel_rfl) (by kernel_rfl) (by kernel_rfl) (fun _ _ _ h=>h) (by kernel_rfl) (by kernel_rfl) (by kernel_rfl) (Or.inl ⟨by rfl,?_⟩) (by assumption) ?_
  rotate_left
  ·intro w hSw
   try dsimp only at hSw
   go_simp
   first|done|with_reducible rfl
  try simp only [Act.put,List.setIfInBounds_toArray,List.set_cons_zero,List.set_cons_succ]
  refine wpAnyL_one (i:=18) (by kernel_rfl) rfl (fun K hK=>?_)
  refine step_push _ (by rfl) _ _ 59 (by rfl) N 53 fi _ 8 Tryd.underlying59 hi hz0 hz1 hz2 rfl (.slice Ak (s.wl k).length ck) _ _ (by rfl) hR2 _ (.pointer (some ⟨pb j,0,none⟩)) (by rfl) hq rfl hn1 hn2 hbs ?_
  intro v' w2 hr hg hm2
  obtain ⟨A',c',rfl,-,-,-⟩:=own_is hr
  obtain ⟨e1,e2,e3,e4,e5,SP,BP⟩:=KT.out _ _ hr hg hm2
  refine hK.out _ _ ⟨e1,e2,e3⟩ (fun hHeld=>?_)
  clear hK K
  try simp only [Act.put,List.setIfInBounds_toArray,List.set_cons_zero,List.set_cons_succ]
  clear hr hg hm2
  refine wpAnyL_one (i:=19) (by kernel_rfl) rfl (fun K hK=>?_)
  go_simp
  refine hK.out _ _ ⟨e1,e2,e3⟩ (fun hHeld=>?_)
  clear hK K
  try simp only [Act.put,List.setIfInBounds_toArray,List.set_cons_zero,List.set_cons_succ]
  refine wpAnyL_last (by kernel_rfl) rfl (by kernel_rfl) (fun K hK=>?_)
  go_simp
  refine hK.out _ _ ?_
  clear hK K
  refine NoPanic.normal ?_
  go_wp2
  go_end0
  exact ⟨rfl,BP,_,SP⟩end Go.Proofs.YtgjlgdpbmhdnbaaDoor
end
namespace Go.Proofs.YtgjlgdpbmhdnbaaDoor
open Go.RowKit
def PaP (N sb tb hb n:Nat) (pb:Nat→Nat) (hd:Nat→Value) (s:Sp) (w:World) (R:Option Sp) (e:Ending) (w':World):Prop:=
 (R=none∧e=.returned (.bool false)∧Below N w w')∨∃s' mv' hd' rv',R=some s'∧e=.returned (.bool true)∧Below N w w'∧SpM w' N sb tb hb n pb mv' hd' rv' s'∧∀q,s'.wl q=s.wl q→hd' q=hd q
theorem SpM.two {w:World} {N sb tb hb n:Nat} {pb:Nat→Nat} {mv:Value} {hd rv:Nat→Value} {s:Sp} {j:Nat} {a0 b0:Int} {r:List Int} (h:SpM w N sb tb hb n pb mv hd rv { s with ws:=s.ws.set j ⟨a0,b0,r⟩ }) (hj:j < s.ws.length) (kept x:Int) :
  ∃rv',SpM ((w.setCell ⟨pb j,0,none⟩ (.int .i64 kept)).setCell ⟨pb j,1,none⟩ (.int .i64 x)) N sb tb hb n pb mv hd rv' { s with ws:=s.ws.set j ⟨kept,x,r⟩ }:=by
 have l1:(s.ws.set j ⟨a0,b0,r⟩).length=s.ws.length:=List.length_set ..
 have g1:(s.ws.set j (⟨a0,b0,r⟩:Wt))[j]! = ⟨a0,b0,r⟩:=(get_set hj).trans (if_pos rfl)
 have r1:=h.rest j (by rw [l1];exact hj)
 rw [show ({ s with ws:=s.ws.set j ⟨a0,b0,r⟩ }:Sp).ws[j]! = ⟨a0,b0,r⟩ from g1] at r1
 have k1:=h.boxed (j:=j) (i:=0) (u:=.int .i64 kept) (x:=⟨kept,b0,r⟩) (rv':=rv j) (by rw [l1];exact hj) (by rw [show ({ s with ws:=s.ws.set j ⟨a0,b0,r⟩ }:Sp).ws[j]! = ⟨a0,b0,r⟩ from g1];rfl) r1
 have e1:({ s with ws:=(s.ws.set j ⟨a0,b0,r⟩).set j ⟨kept,b0,r⟩ }:Sp)={ s with ws:=s.ws.set j ⟨kept,b0,r⟩ }:=by rw [List.set_set]
 have k1':SpM (w.setCell ⟨pb j,0,none⟩ (.int .i64 kept)) N sb tb hb n pb mv hd (fun q=>if q=j then rv j else rv q) { s with ws:=s.ws.set j ⟨kept,b0,r⟩ }:=e1 ▸ k1
 have l2:(s.ws.set j ⟨kept,b0,r⟩).length=s.ws.length:=List.length_set ..
 have g2:(s.ws.set j (⟨kept,b0,r⟩:Wt))[j]! = ⟨kept,b0,r⟩:=(get_set hj).trans (if_pos rfl)
 have r2:=k1'.rest j (by rw [l2];exact hj)
 rw [show ({ s with ws:=s.ws.set j ⟨kept,b0,r⟩ }:Sp).ws[j]! = ⟨kept,b0,r⟩ from g2] at r2
 have k2:=k1'.boxed (j:=j) (i:=1) (u:=.int .i64 x) (x:=⟨kept,x,r⟩) (rv':=(fun q=>if q=j then rv j else rv q) j) (by rw [l2];exact hj) (by rw [show ({ s with ws:=s.ws.set j ⟨kept,b0,r⟩ }:Sp).ws[j]! = ⟨kept,b0,r⟩ from g2];rfl) r2
 have e2:({ s with ws:=(s.ws.set j ⟨kept,b0,r⟩).set j ⟨kept,x,r⟩ }:Sp)={ s with ws:=s.ws.set j ⟨kept,x,r⟩ }:=by rw [List.set_set]
 exact ⟨_,e2 ▸ k2⟩
set_option maxHeartbeats 8000000 in
theorem pair12_any {w:World} {N sb tb hb n:Nat} {pb:Nat→Nat} {mv:Value} {hd rv:Nat→Value} {s:Sp} (h:SpM w N sb tb hb n pb mv hd rv s) (hn:n≤20000) (hm:s.made.length≤20000) {j:Nat} (hj:j < s.ws.length) (hL:∀y ∈ (s.ws[j]!).r,litN n y) (hl:∀q,(s.wl q).length≤1000000) (kept:Int) :
  Calls Tryd.prog 39 #[.pointer (some ⟨sb,0,none⟩),.pointer (some ⟨pb j,0,none⟩),.int .i64 kept] w fun e w'=>PaP N sb tb hb n pb hd s w (pairS s j kept) e w'∧True:=by
 have NX:=Lib.hid (next12_any h hn hj kept)
 have PU:=Lib.hid (put12_any h hn hm kept)
 obtain ⟨R,hR⟩:∃R,R=pairS s j kept:=⟨_,rfl⟩
 rw [←hR]
 cases hx:nx s.t kept (s.ws[j]!).r with
 | none=>
  rw [hx] at NX
  have RS:=Lib.hid (show R=putS s kept by rw [hR];unfold pairS;rw [hx])
  clear hR hx
  go_enter Tryd.func39,Tryd.ntmps39
  go_wp2_with fail
  refine NX.out.mono ?_
  rintro e w1 ⟨hq,-⟩
  obtain ⟨-,rfl,rfl⟩:none=none∧e=.returned (.int .i64 0)∧w=w1:=by
   rcases hq with q|⟨x,r,rv',q,-⟩
   ·exact q
   ·cases q
  clear hq
  go_wp2_with fail
  refine PU.out.mono ?_
  rintro e w2 ⟨hq,-⟩
  rcases hq with ⟨q1,rfl,rfl⟩|⟨s',mv',q1,rfl,q3,q4⟩
  ·have PX:=Lib.hid (show PaP N sb tb hb n pb hd s w R (.returned (.bool false)) w from Or.inl ⟨RS.out.trans q1,rfl,Below.refl _ _⟩)
   clear q1
   go_wp2
   go_ret
   first|exact PX.out|exact ⟨PX.out,trivial⟩
  ·have PX:=Lib.hid (show PaP N sb tb hb n pb hd s w R (.returned (.bool true)) w2 from Or.inr ⟨s',mv',hd,rv,RS.out.trans q1,rfl,q3,q4,fun _ _=>rfl⟩)
   clear q1 q3 q4
   go_wp2
   go_ret
   first|exact PX.out|exact ⟨PX.out,trivial⟩
 | some p=>
  obtain ⟨x,r⟩:=p
  rw [hx] at NX
  have RS:=Lib.hid (show R=some (watchS { s with ws:=s.ws.set j ⟨kept,x,r⟩ } j x) by rw [hR];unfold pairS;rw [hx])
  have hxl:=hL x (nx_some hx).1
  have x0:(x==0)=false:=beq_eq_false_iff_ne.2 hxl.1
  have hnl:=h.nl
  clear hR
  go_enter Tryd.func39,Tryd.ntmps39
  go_wp2_with fail
  refine NX.out.mono ?_
  rintro e w1 ⟨hq,-⟩
  obtain ⟨rv1,rfl,q3,q4⟩:∃rv',e=.returned (.int .i64 x)∧Below N w w1∧SpM w1 N sb tb hb n pb mv hd rv' { s with ws:=s.ws.set j ⟨(s.ws[j]!).a,(s.ws[j]!).b,r⟩ }:=by
   rcases hq with ⟨q,-⟩|⟨x',r',rv',q,a,b,c⟩
   ·cases q
   ·cases q;exact ⟨rv',a,b,c⟩
  clear hq
  have hj2:j < (s.ws.set j ⟨(s.ws[j]!).a,(s.ws[j]!).b,r⟩).length:=by rw [List.length_set];exact hj
  obtain ⟨rv2,q5⟩:=q4.two hj kept x
  have B2:=Lib.hid (show Below N w ((w1.setCell ⟨pb j,0,none⟩ (.int .i64 kept)).setCell ⟨pb j,1,none⟩ (.int .i64 x)) from (q3.setCell (p:=⟨pb j,0,none⟩) (h.pbn j hj) _).setCell (p:=⟨pb j,1,none⟩) (h.pbn j hj) _)
  have d0:=q4.b0 hj2
  have d1:=q4.b1 hj2
  have f0:=q4.bf hj2 0
  have f1:=q4.bf hj2 1
  have Q5:=Lib.hid q5
  have WT:=Lib.hid (watch12_any q5 hn (j:=j) (by show j < (s.ws.set j _).length;rw [List.length_set];exact hj) hxl (hl _))
  clear q3 q4 q5 hj2 hx
  obtain ⟨W2,hW2⟩:∃W,W=(w1.setCell ⟨pb j,0,none⟩ (.int .i64 kept)).setCell ⟨pb j,1,none⟩ (.int .i64 x):=⟨_,rfl⟩
  rw [←hW2] at WT Q5 B2
  go_upto_region 5 with fail
  rw [←hW2]
  clear hW2 d0 d1 f0 f1
  go_wp2_with fail
  refine WT.out.mono ?_
  rintro e w3 ⟨rfl,q6,v',q7⟩
  have PX:PaP N sb tb hb n pb hd s w R (.returned (.bool true)) w3:=by
   refine Or.inr ⟨_,mv,_,rv2,RS.out,rfl,B2.out.trans q6,q7,fun q hq=>?_⟩
   show (if q=atP n x then v' else hd q)=hd q
   by_cases e:q=atP n x
   ·subst e
    exfalso
    have:upW s.wl (atP s.t.length x) (s.wl (atP s.t.length x)++[j]) (atP n x)=s.wl (atP n x):=hq
    rw [hnl,upW_same] at this
    have:=congrArg List.length this
    rw [List.length_append,List.length_singleton] at this
    omega
   ·rw [if_neg e]
  have PY:=Lib.hid PX
  clear PX q6 q7
  go_wp2
  go_ret
  first|exact PY.out|exact ⟨PY.out,trivial⟩
theorem nodup_len:∀(m:Nat) (l:List Nat),l.Nodup→(∀j ∈ l,j < m)→l.length≤m
 | 0,l,_,h=>by
  cases l with
  | nil=>exact Nat.le_refl _
  | cons a t=>exact absurd (h a List.mem_cons_self) (Nat.not_lt_zero _)
 | m+1,l,hn,h=>by
  have h1:=nodup_len m (l.erase m) (hn.erase m) (fun j hj=>by
   have:=(List.Nodup.mem_erase_iff hn).1 hj
   have:=h j this.2
   omega)
  by_cases e:m ∈ l
  ·rw [List.length_erase_of_mem e] at h1;omega
  ·rw [List.erase_of_not_mem e] at h1;omega
theorem Iv.wl_le {n:Nat} {l:List (List Int)} {g:List Int} {cs:List (List Int)} {s:Sp} {i:Nat} (I:Iv n l g cs s i) (q:Nat):(s.wl q).length≤cs.length:=nodup_len _ _ (I.nd q) (I.wlb q)
theorem Iv.made_le {n:Nat} {l:List (List Int)} {g:List Int} {cs:List (List Int)} {s:Sp} {i:Nat} (I:Iv n l g cs s i):s.made.length≤n:=by
 have:=nz_le s.t
 rw [I.len] at this
 rw [←I.nzl];exact this
theorem set_last (l:List Wt) (x y:Wt):(l++[x]).set l.length y=l++[y]:=by
 rw [List.set_append_right _ _ (Nat.le_refl _),Nat.sub_self];rfl
def BgP (N sb tb hb n:Nat) (l:List (List Int)) (g:List Int) (w:World) (e:Ending) (w':World):Prop:=
 (e=.returned (.bool false)∧Bad n l g∧Below N w w')∨(e=.returned (.bool true)∧Below N w w'∧∃pb mv hd rv s,SpM w' N sb tb hb n pb mv hd rv s∧Iv n l g l s 0∧∀x ∈ g,x ∈ s.made)
set_option maxHeartbeats 16000000 in
theorem begin12_any {w:World} {N sb tb hb n:Nat} {pb:Nat→Nat} {mv:Value} {hd rv:Nat→Value} {s:Sp} (h:SpM w N sb tb hb n pb mv hd rv s) (hn:n≤20000) {l:List (List Int)} {g:List Int} (I:Iv n l g [] s 0) (R:∀c ∈ l,∀y ∈ c,litN n y) (hlen:l.length≤400000)
  {Al Ag:Option Addr} {nl cl ng cg:Nat} (hrl:rdIss w (lt_ N) l [.slice Al nl cl]) (hrg:rdInts w (lt_ N) g [.slice Ag ng cg]) :
  Calls Tryd.prog 18 #[.pointer (some ⟨sb,0,none⟩),.slice Al nl cl,.slice Ag ng cg] w fun e w'=>BgP N sb tb hb n l g w e w'∧True:=by
 obtain ⟨rfl,hgc,hgm,_⟩:=rdInts_at hrg
 obtain ⟨rfl,hlc,hlm,_⟩:=rdIss_at hrl
 have hgm':cg≤9223372036854775807:=hgm
 have hlm':cl≤9223372036854775807:=hlm
 have HG:=Lib.hid (fun (W:World) (hb:Below N w W)=>(rdInts_at (rdInts_good.below hrg hb)).2.2.2)
 have HL:=Lib.hid (fun (W:World) (hb:Below N w W)=>(rdIss_at (rdIss_good.below hrl hb)).2.2.2)
 have PB:=Lib.hid (show Bad n l g→∀W,Below N w W→BgP N sb tb hb n l g w (.returned (.bool false)) W from fun hb W hB=>Or.inl ⟨rfl,hb,hB⟩)
 have PO:=Lib.hid (show ∀W,Below N w W→(∃pb mv hd rv s,SpM W N sb tb hb n pb mv hd rv s∧Iv n l g l s 0∧∀x ∈ g,x ∈ s.made)→BgP N sb tb hb n l g w (.returned (.bool true)) W from fun W hB k=>Or.inr ⟨rfl,hB,k⟩)
 have START:=Lib.hid (show ∃mv s,SpM w N sb tb hb n pb mv hd rv s∧Iv n l g [] s 0∧∀x ∈ g.take 0,x ∈ s.made from ⟨mv,s,h,I,fun x hx=>by rw [List.take_zero] at hx;exact absurd hx List.not_mem_nil⟩)
 clear hrl hrg hgm hlm h I
 go_enter Tryd.func18,Tryd.ntmps18
 go_wp2
 go_loopw [15] (fun i wr=>∃k:Nat,k≤g.length∧i=.int .i64 k∧Below N w wr∧Hid (∃mv s,SpM wr N sb tb hb n pb mv hd rv s∧Iv n l g [] s 0∧∀x ∈ g.take k,x ∈ s.made)) (fun i _=>g.length - (intOf i).toNat)
 case atStart=>exact ⟨0,Nat.zero_le _,rfl,Below.refl _ _,START⟩
 case round=>
  clear START
  obtain ⟨k,hk,rfl,hbel,H1⟩:=hrel
  have HB:=Lib.hid hbel
  clear hbel
  by_cases hlt:k < g.length
  ·obtain ⟨ad,rfl,had,g0⟩:=HG.out wr HB.out k hlt
   have i0:(0:Int)≤(k:Int):=by omega
   have i1:(k:Int) < (g.length:Int):=by omega
   obtain ⟨mv,s,S1,I1,M1⟩:=H1.out
   have PU:=Lib.hid (put12_any S1 hn (Nat.le_trans I1.made_le hn) g[k])
   have GI:=Lib.hid (given_iv I1 (List.getElem_mem hlt))
   have TK:=Lib.hid (show ∀s':Sp,Iv n l g [] s' 0→tv s'.t g[k]=1→(∀y,tv s.t y=1→tv s'.t y=1)→∀x ∈ g.take (k+1),x ∈ s'.made from fun s' hI h1 h2 x hx=>by
    rw [List.take_succ_eq_append_getElem hlt] at hx
    rcases List.mem_append.1 hx with q|q
    ·exact hI.tm _ (h2 _ (I1.mt _ (M1 x q)))
    ·rw [List.mem_singleton.1 q];exact hI.tm _ h1)
   clear had H1 S1 I1 M1
   generalize g[k]=x at *
   go_wp2_with fail
   refine PU.out.mono ?_
   rintro e w1 ⟨hq,-⟩
   rcases hq with ⟨q1,rfl,rfl⟩|⟨s',mv',q1,rfl,q3,q4⟩
   ·have PX:=Lib.hid (PB.out (by
     rcases GI.out with z|⟨s',z,-⟩
     ·exact z.2
     ·rw [q1] at z;cases z) wr HB.out)
    clear q1
    go_wp2
    go_ret
    first|exact PX.out|exact ⟨PX.out,trivial⟩
   ·have NX:=Lib.hid (show ∃mv s,SpM w1 N sb tb hb n pb mv hd rv s∧Iv n l g [] s 0∧∀x ∈ g.take (k+1),x ∈ s.made from by
     rcases GI.out with z|⟨s2,z,z2,z3,z4,-⟩
     ·rw [q1] at z;cases z.1
     ·rw [q1] at z;cases z;exact ⟨mv',s',q4,z2,TK.out s' z2 z3 z4⟩)
    have HB2:=Lib.hid (HB.out.trans q3)
    clear q1 q3 q4
    go_wp2
    go_roundw
    case rel=>exact ⟨k+1,by omega,by go_num,HB2.out,NX⟩
    case measure=>simp [intOf];omega
  ·have S2:=Lib.hid (show ∃pb mv hd rv s,SpM wr N sb tb hb n pb mv hd rv s∧Iv n l g (l.take 0) s 0∧∀x ∈ g,x ∈ s.made from by
    obtain ⟨mv,s,a,b,c⟩:=H1.out
    rw [List.take_of_length_le (by omega)] at c
    exact ⟨pb,mv,hd,rv,s,a,b,c⟩)
   clear H1 HG
   obtain ⟨wo,rfl⟩:∃W,W=wr:=⟨_,rfl⟩
   go_wp2
   go_loopw [26] (fun i wr=>∃k:Nat,k≤l.length∧i=.int .i64 k∧Below N w wr∧Hid (∃pb mv hd rv s,SpM wr N sb tb hb n pb mv hd rv s∧Iv n l g (l.take k) s 0∧∀x ∈ g,x ∈ s.made)) (fun i _=>l.length - (intOf i).toNat)
   case atStart=>exact ⟨0,Nat.zero_le _,rfl,HB.out,S2⟩
   case round=>
    clear S2 HB
    obtain ⟨k,hk,rfl,hbel,H1⟩:=hrel
    have HB:=Lib.hid hbel
    clear hbel
    by_cases hlt2:k < l.length
    ·obtain ⟨ad,rfl,had,A2,c2,g0,g1⟩:=HL.out wr HB.out k hlt2
     have i0:(0:Int)≤(k:Int):=by omega
     have i1:(k:Int) < (l.length:Int):=by omega
     obtain ⟨pb,mv,hd,rv,s,S1,I1,M1⟩:=H1.out
     have hkl:(l.take k).length=k:=by rw [List.length_take];omega
     have hws:s.ws.length=k:=by rw [I1.wsl,hkl]
     have RC:=Lib.hid (R l[k] (List.getElem_mem hlt2))
     have BV:=Lib.hid (begin_iv RC.out (List.getElem_mem hlt2) I1)
     have TK:=Lib.hid (show l.take k++[l[k]]=l.take (k+1) from (List.take_succ_eq_append_getElem hlt2).symm)
     have S2:=S1.more g1
     have M2:=Lib.hid M1
     have WL:=Lib.hid (fun q=>Nat.le_trans (I1.wl_le q) (show (l.take k).length≤1000000 by omega))
     have ML:=Lib.hid (Nat.le_trans I1.made_le hn)
     have MT:=Lib.hid (show ∀x ∈ g,tv s.t x=1 from fun x hx=>I1.mt x (M1 x hx))
     have hB1:=Lib.hid (HB.out.alloc S1.nw (.cells #[.int .i64 0,.int .i64 0,.slice A2 l[k].length c2] 55))
     clear H1 I1 M1 had g1
     generalize hcd:l[k]=c at *
     clear hcd
     have hk1:k < (s.ws++[(⟨0,0,c⟩:Wt)]).length:=by rw [List.length_append,hws];exact Nat.lt_succ_self k
     have ge:∀r:List Int,(s.ws++[(⟨0,0,r⟩:Wt)])[k]! = ⟨0,0,r⟩:=fun r=>by
      rw [getElem!_pos (s.ws++[(⟨0,0,r⟩:Wt)]) k (by rw [List.length_append,hws];exact Nat.lt_succ_self k),List.getElem_append_right (by omega)];simp [hws]
     have hsl:∀x y:Wt,(s.ws++[x]).set k y=s.ws++[y]:=fun x y=>hws ▸ set_last s.ws x y
     obtain ⟨W1,hW1⟩:∃W,W=wr.alloc (.cells #[.int .i64 0,.int .i64 0,.slice A2 c.length c2] 55):=⟨_,rfl⟩
     rw [←hW1] at S2 hB1
     obtain ⟨pb1,hpb⟩:∃p,p=fun q=>if q=s.ws.length then wr.heap.size else pb q:=⟨_,rfl⟩
     rw [←hpb] at S2
     have p1:pb1 k=wr.heap.size:=by rw [hpb];simp [hws]
     have NX:=Lib.hid (next12_any S2 hn (j:=k) hk1 0)
     rw [show ({ s with ws:=s.ws++[⟨0,0,c⟩] }:Sp).ws[k]! = ⟨0,0,c⟩ from ge c,p1] at NX
     have SA:=Lib.hid S2
     have nl:=S2.nl
     clear S2 hpb
     rw [hkl] at BV
     cases hx:nx s.t 0 c with
     | none=>
      have PA:=Lib.hid (pair12_any SA.out hn ML.out (j:=k) hk1 (by rw [show ({ s with ws:=s.ws++[⟨0,0,c⟩] }:Sp).ws[k]! = ⟨0,0,c⟩ from ge c];exact RC.out) WL.out 0)
      have PE:=Lib.hid (show pairS { s with ws:=s.ws++[⟨0,0,c⟩] } k 0=none from by
       unfold pairS
       rw [show ({ s with ws:=s.ws++[⟨0,0,c⟩] }:Sp).ws[k]! = ⟨0,0,c⟩ from ge c]
       show (match nx s.t 0 c with|some (x,r)=>_|none=>_)=none
       rw [hx]
       show putS _ 0=none
       unfold putS
       rw [if_pos (Or.inl (fun q=>q.1 rfl))])
      rw [p1] at PA
      have PX:=Lib.hid (fun W hW=>PB.out (BV.out.1 hx) W (hB1.out.trans hW))
      clear BV SA
      go_upto_region 11 with fail
      rw [←hW1]
      clear hW1
      go_wp2_with fail
      refine NX.out.mono ?_
      rintro e w2 ⟨hq,-⟩
      obtain ⟨rfl,rfl⟩:e=.returned (.int .i64 0)∧W1=w2:=by
       rcases hq with q|⟨x,r,rv',q,-⟩
       ·exact q.2
       ·rw [show nx s.t 0 c=none from hx] at q;cases q
      clear hq
      go_wp2_with fail
      refine PA.out.mono ?_
      rintro e w3 ⟨hq,-⟩
      obtain ⟨rfl,hb3⟩:e=.returned (.bool false)∧Below N W1 w3:=by
       rcases hq with q|⟨s',mv',hd',rv',q,-⟩
       ·exact q.2
       ·rw [PE.out] at q;cases q
      have PY:=Lib.hid (PX.out w3 hb3)
      clear hb3 PX PA hq
      go_wp2
      go_ret
      first|exact PY.out|exact ⟨PY.out,trivial⟩
     | some p=>
      obtain ⟨kept,r⟩:=p
      obtain ⟨hkl2,hk0,BW⟩:=BV.out.2 kept r hx
      have HBW:=Lib.hid BW
      have HRR:=Lib.hid (nx_some hx).2.2.2.1
      clear BW BV SA
      go_upto_region 11 with fail
      rw [←hW1]
      clear hW1
      go_wp2_with fail
      refine NX.out.mono ?_
      rintro e w2 ⟨hq,-⟩
      obtain ⟨rv2,rfl,hb2,S3⟩:∃rv2,e=.returned (.int .i64 kept)∧Below N W1 w2∧SpM w2 N sb tb hb n pb1 mv hd rv2 { s with ws:=s.ws++[⟨0,0,r⟩] }:=by
       rcases hq with q|⟨x',r',rv',q,a,b,d⟩
       ·rw [show nx s.t 0 c=some (kept,r) from hx] at q;cases q.1
       ·rw [show nx s.t 0 c=some (kept,r) from hx] at q
        cases q
        refine ⟨rv',a,b,?_⟩
        have d':=d
        rw [show ({ s with ws:=s.ws++[⟨0,0,c⟩] }:Sp).ws[k]! = ⟨0,0,c⟩ from ge c] at d'
        rw [show ({ s with ws:=s.ws++[⟨0,0,c⟩] }:Sp).ws.set k ⟨(⟨0,0,c⟩:Wt).a,(⟨0,0,c⟩:Wt).b,r⟩=s.ws++[⟨0,0,r⟩] from hsl _ _] at d'
        exact d'
      have hk2:k < (s.ws++[(⟨0,0,r⟩:Wt)]).length:=by rw [List.length_append,hws];exact Nat.lt_succ_self k
      have PA:=Lib.hid (pair12_any S3 hn ML.out (j:=k) hk2 (by rw [show ({ s with ws:=s.ws++[⟨0,0,r⟩] }:Sp).ws[k]! = ⟨0,0,r⟩ from ge r];exact fun y hy=>RC.out y (HRR.out y hy)) WL.out kept)
      rw [p1] at PA
      have hB2:=Lib.hid (hB1.out.trans hb2)
      clear hq hb2 S3 NX hB1
      go_wp2_with fail
      refine PA.out.mono ?_
      rintro e w3 ⟨hq,-⟩
      rcases hq with ⟨q1,rfl,q3⟩|⟨s',mv',hd',rv',q1,rfl,q3,S4,-⟩
      ·have PX:=Lib.hid (PB.out (by
        rcases HBW.out with z|⟨s',z,-⟩
        ·exact z.2
        ·rw [q1] at z;cases z) w3 (hB2.out.trans q3))
       clear q1 q3 PA HBW
       go_wp2
       go_ret
       first|exact PX.out|exact ⟨PX.out,trivial⟩
      ·obtain ⟨I5,G5⟩:Iv n l g (l.take k++[c]) (watchS s' k kept) 0∧∀y,tv s.t y=1→tv s'.t y=1:=by
        rcases HBW.out with z|⟨s2,z,z2,z3⟩
        ·rw [q1] at z;cases z.1
        ·rw [q1] at z;cases z;exact ⟨z2,z3⟩
       have hlc2:(l.take k++[c]).length=k+1:=by rw [List.length_append,hkl];rfl
       have hj5:k < s'.ws.length:=by have:=I5.wsl;rw [hlc2] at this;show k < s'.ws.length;rw [show s'.ws.length=k+1 from this];omega
       have hw5:(s'.wl (atP n kept)).length≤1000000:=by
        have:=I5.wl_le (atP n kept)
        rw [hlc2,show (watchS s' k kept).wl (atP n kept)=s'.wl (atP n kept)++[k] from by show upW _ _ _ _=_;rw [S4.nl,upW_same],List.length_append] at this
        omega
       have WT:=Lib.hid (watch12_any S4 hn (j:=k) hj5 hkl2 hw5)
       rw [p1] at WT
       have hB3:=Lib.hid (hB2.out.trans q3)
       have I6:=Lib.hid (TK.out ▸ I5)
       have M6:=Lib.hid (show ∀x ∈ g,x ∈ (watchS s' k kept).made from fun x hx=>I5.tm x (G5 x (MT.out x hx)))
       clear q1 q3 PA HBW S4 I5 G5 hj5 hw5
       go_wp2_with fail
       refine WT.out.mono ?_
       rintro e w4 ⟨rfl,q6,v',q7⟩
       have H7:=Lib.hid (show ∃pb mv hd rv s,SpM w4 N sb tb hb n pb mv hd rv s∧Iv n l g (l.take (k+1)) s 0∧∀x ∈ g,x ∈ s.made from ⟨_,_,_,_,_,q7,I6.out,M6.out⟩)
       have hB4:=Lib.hid (hB3.out.trans q6)
       clear q6 q7 WT
       go_wp2
       go_roundw
       case rel=>exact ⟨k+1,by omega,by go_num,hB4.out,H7⟩
       case measure=>simp [intOf];omega
    ·have PX:=Lib.hid (PO.out wr HB.out (by have:=H1.out;rwa [List.take_of_length_le (by omega)] at this))
     go_wp2
     go_ret
     first|exact PX.out|exact ⟨PX.out,trivial⟩
def GoP (N sb tb hb n:Nat) (l:List (List Int)) (g:List Int) (w:World) (e:Ending) (w':World):Prop:=
 (e=.returned (.bool false)∧Bad n l g∧Below N w w')∨(e=.returned (.bool true)∧Below N w w'∧∃pb mv hd rv s,SpM w' N sb tb hb n pb mv hd rv s∧IsU n l g s.t true)
theorem SpM.drewN {w:World} {N sb tb hb n:Nat} {pb:Nat→Nat} {mv:Value} {hd rv:Nat→Value} {s:Sp} (h:SpM w N sb tb hb n pb mv hd rv s) (q:Nat):SpM (w.drewN q) N sb tb hb n pb mv hd rv s:=h.same (Nat.le_refl _) (fun _ _=>rfl)
def InM (N sb tb hb n:Nat) (pb:Nat→Nat) (l:List (List Int)) (g:List Int) (i:Nat) (x:Int) (p:Nat) (lst:List Nat) (hv:Value) (kk:Nat) (W:World):Prop:=
 ∃mv hd rv s,SpM W N sb tb hb n pb mv hd rv s∧Iv n l g l (cutW s p (lst.drop kk)) i∧s.wl p=lst∧hd p=hv∧tv s.t (-x)=-1∧s.made[i]?=some x∧∀y ∈ g,y ∈ s.made
def OutM (N sb tb hb n:Nat) (l:List (List Int)) (g:List Int) (i:Nat) (W:World):Prop:=
 ∃pb mv hd rv s,SpM W N sb tb hb n pb mv hd rv s∧Iv n l g l s i∧∀y ∈ g,y ∈ s.made
set_option maxHeartbeats 32000000 in
theorem goOn12_any {w:World} {N sb tb hb n:Nat} (hn:n≤20000) {l:List (List Int)} {g:List Int} (R0:∀c ∈ l,∀y ∈ c,litN n y) (hlen:l.length≤400000) (H0:OutM N sb tb hb n l g 0 w) :
  Calls Tryd.prog 19 #[.pointer (some ⟨sb,0,none⟩)] w fun e w'=>GoP N sb tb hb n l g w e w'∧True:=by
 have PB:=Lib.hid (show Bad n l g→∀W,Below N w W→GoP N sb tb hb n l g w (.returned (.bool false)) W from fun hb W hB=>Or.inl ⟨rfl,hb,hB⟩)
 have PO:=Lib.hid (show ∀W,Below N w W→(∃pb mv hd rv s,SpM W N sb tb hb n pb mv hd rv s∧IsU n l g s.t true)→GoP N sb tb hb n l g w (.returned (.bool true)) W from fun W hB k=>Or.inr ⟨rfl,hB,k⟩)
 have START:=Lib.hid H0
 have R:=Lib.hid R0
 clear H0 R0
 go_enter Tryd.func19,Tryd.ntmps19
 go_wp2
 go_loopw [3] (fun v wr=>∃i:Nat,i≤n∧v=.int .i64 i∧Below N w wr∧Hid (OutM N sb tb hb n l g i wr)) (fun v _=>n - (intOf v).toNat)
 case atStart=>exact ⟨0,Nat.zero_le _,rfl,Below.refl _ _,START⟩
 case round=>
  clear START
  obtain ⟨i,hin,rfl,hbel,H1⟩:=hrel
  have HB:=Lib.hid hbel
  clear hbel
  obtain ⟨pb,mv,hd,rv,s,S1,I1,M1⟩:=H1.out
  obtain ⟨Am,cm,hmv,hmc,hmm,hAm⟩:=own_is S1.mrow
  have hmm':cm≤9223372036854775807:=hmm
  have d1:=S1.s1
  rw [hmv] at d1
  have ml:=I1.made_le
  by_cases hlt:i < s.made.length
  ·have i0:(0:Int)≤(i:Int):=by omega
   have i1:(i:Int) < (s.made.length:Int):=by omega
   obtain ⟨gm,rfl⟩:∃gm,Am=some ⟨gm,0,none⟩:=by
    rcases hAm with q|q
    ·omega
    ·exact q
   have hx:w=w:=rfl
   have g1:wr.cell? ⟨gm,i,none⟩=some (.int .i64 s.made[i]):=by
    rw [own_cell (hmv ▸ S1.mrow) hlt];simp [hlt]
   have TX:=Lib.hid (I1.mt s.made[i] (List.getElem_mem hlt))
   have LX:litN n s.made[i]:=by rw [←I1.len];exact tv_lit (by rw [TX.out];decide)
   have hw:IntKind.i64.wrap (-s.made[i])=-s.made[i]:=by obtain ⟨_,_,_⟩:=LX;rw [IntKind.wrap_i64];omega
   have MX:=Lib.hid (show s.made[i]?=some s.made[i] from List.getElem?_eq_getElem hlt)
   generalize s.made[i]=x at *
   have LL:=Lib.hid (litN_neg LX)
   have hk:=(atP_is LL.out).2
   have KA:=Lib.hid (fun (W:World) (hc:W.cell? ⟨sb,0,none⟩=some (.slice (some ⟨tb,0,none⟩) n n))=>at12_cell sb tb n (-x) W LL.out hn hc)
   have KQ:=Lib.hid (show ∀m,Calls Tryd.prog 41 #[.pointer (some ⟨sb,0,none⟩),.int .i64 (-x)] (wr.drewN m) fun e w'=>e=.returned (.int .i64 (atP n (-x)))∧Dr (wr.drewN m) w' from fun m=>(KA.out (wr.drewN m) S1.s0).mono fun e w' h=>⟨h.1,h.2 ▸ Dr.refl _⟩)
   obtain ⟨Ak,ck,hdk,hkc,hkm,hAk⟩:=own_is (S1.rows _ hk)
   have hkm':ck≤9223372036854775807:=hkm
   have e2:=S1.s2
   have e3:=S1.hcell hk
   rw [hdk] at e3
   have k0:(0:Int)≤((atP n (-x):Nat):Int):=by omega
   have k1:((atP n (-x):Nat):Int) < ((2*n+1:Nat):Int):=by omega
   have k2:((atP n (-x):Nat):Int) < 2*(n:Int)+1:=by omega
   have tl:tv s.t (-x)=-1:=by rw [tv_neg,TX.out]
   have IN0:=Lib.hid (show ∀q,InM N sb tb hb n pb l g i x (atP n (-x)) (s.wl (atP n (-x))) (.slice Ak (s.wl (atP n (-x))).length ck) 0 (wr.drewN q) from fun q=>⟨mv,hd,rv,s,S1.drewN q,by rw [List.drop_zero,cutW_self];exact I1,rfl,hdk,tl,MX.out,M1⟩)
   have HBD:=Lib.hid (fun q=>belD HB.out q)
   have HLS:=Lib.hid (I1.wl_le (atP n (-x)))
   clear H1 I1 M1 S1 hx TX MX tl hdk LX
   generalize s.wl (atP n (-x))=lst at *
   go_upto_region 5 with fail
   go_quiet (first|(go_at_call 41;refine Calls.quiet_of (KQ.out _)))
   have IN1:=Lib.hid (IN0.out nq)
   have HB1:=Lib.hid (HBD.out nq)
   clear IN0 HBD HB d1 g1 e2 e3 KQ
   generalize wr.drewN nq=wo at *
   go_wp2
   go_loopw [35] (fun v wr=>∃kk:Nat,kk≤lst.length∧v=.int .i64 kk∧Below N w wr∧Hid (InM N sb tb hb n pb l g i x (atP n (-x)) lst (.slice Ak lst.length ck) kk wr)) (fun v _=>lst.length - (intOf v).toNat)
   case atStart=>exact ⟨0,Nat.zero_le _,rfl,HB1.out,IN1⟩
   case round=>
    clear IN1 HB1
    obtain ⟨kk,hkk,rfl,hbel2,H2⟩:=hrel
    have HB2:=Lib.hid hbel2
    clear hbel2
    obtain ⟨mv2,hd2,rv2,s2,S2,I2,L2,D2,T2,X2,M2⟩:=H2.out
    by_cases hlt2:kk < lst.length
    ·have q0:(0:Int)≤(kk:Int):=by omega
     have q1:(kk:Int) < (lst.length:Int):=by omega
     obtain ⟨gk,rfl⟩:∃gk,Ak=some ⟨gk,0,none⟩:=by
      rcases hAk with q|q
      ·omega
      ·exact q
     have hrow:=S2.rows _ hk
     rw [L2,D2] at hrow
     have g2:wr.cell? ⟨gk,kk,none⟩=some (.pointer (some ⟨pb lst[kk],0,none⟩)):=by
      rw [own_cell hrow hlt2];simp [hlt2,ptW]
     rw [List.drop_eq_getElem_cons hlt2] at I2
     have PI:=pair_iv R.out LL.out T2 I2
     have hwsl:s2.ws.length=l.length:=I2.wsl
     generalize lst[kk]=j at *
     obtain ⟨hj,hkl,PI⟩:=PI
     have hjw:j < s2.ws.length:=by omega
     have b0:=S2.b0 hjw
     have b1:=S2.b1 hjw
     have hLr:∀y ∈ (s2.ws[j]!).r,litN n y:=fun y hy=>R.out l[j]! (by rw [getElem!_pos l j hj];exact List.getElem_mem hj) y ((I2.cl j hj).1 y hy)
     have hwl:∀q,(s2.wl q).length≤1000000:=fun q=>by
      by_cases e:q=atP n (-x)
      ·rw [e,L2]
       exact Nat.le_trans HLS.out (by omega)
      ·have:=I2.wl_le q
       rw [show (cutW s2 (atP n (-x)) (j::lst.drop (kk+1))).wl q=s2.wl q from upW_ne e] at this
       omega
     have PA:=Lib.hid (fun kept=>pair12_any S2 hn (Nat.le_trans I2.made_le hn) hjw hLr hwl kept)
     have PIH:=Lib.hid PI
     have NEXT:=Lib.hid (show ∀(s':Sp) mv' hd' rv' W,pairS s2 j (if (s2.ws[j]!).a=-x then (s2.ws[j]!).b else (s2.ws[j]!).a)=some s'→SpM W N sb tb hb n pb mv' hd' rv' s'→(∀q,s'.wl q=s2.wl q→hd' q=hd2 q)→InM N sb tb hb n pb l g i x (atP n (-x)) lst (.slice (some ⟨gk,0,none⟩) lst.length ck) (kk+1) W from fun s' mv' hd' rv' W hs hS hq=>by
      rcases PI with z|⟨s3,z,z2,z3,z4,e,z5⟩
      ·rw [hs] at z;cases z.1
      ·rw [hs] at z
       cases z
       refine ⟨mv',hd',rv',s',hS,z2,z3.trans L2,(hq _ z3).trans D2,z4,?_,fun y hy=>?_⟩
       ·rw [z5,List.getElem?_append_left (List.getElem?_eq_some_iff.1 X2).1];exact X2
       ·rw [z5];exact List.mem_append.2 (Or.inl (M2 y hy)))
     have NOT:=Lib.hid (show pairS s2 j (if (s2.ws[j]!).a=-x then (s2.ws[j]!).b else (s2.ws[j]!).a)=none→Bad n l g from fun hs=>by
      rcases PI with z|⟨s3,z,-⟩
      ·exact z.2
      ·rw [hs] at z;cases z)
     clear PI PIH hLr hwl hrow H2 S2 I2 L2 D2 T2 X2 M2
     generalize (s2.ws[j]!).a=wa at *
     generalize (s2.ws[j]!).b=wb at *
     by_cases ea:wa=-x
     ·have eb:(wa==-x)=true:=beq_iff_eq.2 ea
      have KP:=Lib.hid (PA.out wb)
      rw [if_pos ea] at NEXT NOT
      have EA:=Lib.hid ea
      clear ea PA
      go_wp2_with fail
      refine KP.out.mono ?_
      rintro e w3 ⟨hq,-⟩
      rcases hq with ⟨a1,rfl,a3⟩|⟨s',mv',hd',rv',a1,rfl,a3,a4,a5⟩
      ·have PX:=Lib.hid (PB.out (NOT.out a1) w3 (HB2.out.trans a3))
       clear a1 a3 NEXT NOT KP
       go_wp2
       go_ret
       first|exact PX.out|exact ⟨PX.out,trivial⟩
      ·have NX:=Lib.hid (NEXT.out s' mv' hd' rv' w3 a1 a4 a5)
       have HB3:=Lib.hid (HB2.out.trans a3)
       clear a1 a3 a4 a5 NEXT NOT KP
       go_wp2
       go_roundw
       case rel=>exact ⟨kk+1,by omega,by go_num,HB3.out,NX⟩
       case measure=>simp [intOf];omega
     ·have eb:(wa==-x)=false:=beq_eq_false_iff_ne.2 ea
      have KP:=Lib.hid (PA.out wa)
      rw [if_neg ea] at NEXT NOT
      clear PA
      go_wp2_with fail
      refine KP.out.mono ?_
      rintro e w3 ⟨hq,-⟩
      rcases hq with ⟨a1,rfl,a3⟩|⟨s',mv',hd',rv',a1,rfl,a3,a4,a5⟩
      ·have PX:=Lib.hid (PB.out (NOT.out a1) w3 (HB2.out.trans a3))
       clear a1 a3 NEXT NOT KP
       go_wp2
       go_ret
       first|exact PX.out|exact ⟨PX.out,trivial⟩
      ·have NX:=Lib.hid (NEXT.out s' mv' hd' rv' w3 a1 a4 a5)
       have HB3:=Lib.hid (HB2.out.trans a3)
       clear a1 a3 a4 a5 NEXT NOT KP
       go_wp2
       go_roundw
       case rel=>exact ⟨kk+1,by omega,by go_num,HB3.out,NX⟩
       case measure=>simp [intOf];omega
    ·rw [List.drop_eq_nil_of_le (by omega)] at I2
     have hmi:i < s2.made.length:=(List.getElem?_eq_some_iff.1 X2).1
     have hme:s2.made[i]! = -(-x):=by rw [getElem!_pos s2.made i hmi,(List.getElem?_eq_some_iff.1 X2).2];omega
     have I3:=outer_iv R.out LL.out hmi hme I2
     have S3:=S2.empty hk
     have mle:=I2.made_le
     have OUT:=Lib.hid (show OutM N sb tb hb n l g (i+1) (wr.setCell ⟨hb,atP n (-x),none⟩ (.slice none 0 0)).drew from ⟨pb,_,_,_,_,S3.drew,I3,M2⟩)
     have HB3:=Lib.hid (show Below N w (wr.setCell ⟨hb,atP n (-x),none⟩ (.slice none 0 0)).drew from belD (HB2.out.setCell (p:=⟨hb,atP n (-x),none⟩) S2.nh _) 1)
     have c0:=S2.s0
     have c2:=S2.s2
     have c3:=S2.hcell hk
     have f3:=S2.hf (atP n (-x))
     have hin1:i+1≤n:=by have:(cutW s2 (atP n (-x)) []).made.length=s2.made.length:=rfl;omega
     clear H2 S2 I2 L2 T2 X2 M2 I3 S3 hme
     go_upto_region 14 with fail
     go_region_with (go_at_call 41;(with_reducible refine (KA.out _ ?_).mono ?_);(first|exact c0|(simp only [World.cell?_drew];exact c0));rintro e w' ⟨rfl,rfl⟩)
     all_goals
      clear c0 c2 c3 f3
      generalize (wr.setCell ⟨hb,atP n (-x),none⟩ (.slice none 0 0)).drew=W9 at *
      go_wp2
      go_roundw
      case rel=>exact ⟨i+1,hin1,by go_num,HB3.out,OUT⟩
      case measure=>simp [intOf];omega
  ·have PX:=Lib.hid (PO.out wr HB.out ⟨_,_,_,_,s,S1,end_iv (by rw [show s.made.length=i by have:=I1.il;omega];exact I1) (fun y hy=>I1.mt y (M1 y hy))⟩)
   clear H1 I1 M1 S1
   go_wp2
   go_ret
   first|exact PX.out|exact ⟨PX.out,trivial⟩
end Go.Proofs.YtgjlgdpbmhdnbaaDoor
