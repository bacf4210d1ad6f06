/- What the laws rest on: E8f. -/
import Derived.Test.YtbljkpbaceiaiaaGreatDoorQAGZA
import Derived.Test.YtbljkpbaceiaiaaGreatDoorQAHZA
import Derived.Test.YtbljkpbaceiaiaaGreatDoorQALZA
set_option maxRecDepth 100000
set_option linter.unusedVariables false
set_option linter.unusedSimpArgs false
namespace Go.Proofs.YtbljkpbaceiaiaaGreatDoor
open Go.RowKit
theorem prP_pins {l:List Pn} (h:∀x ∈ l,rgtN x=true):prP (l.map stN8)=if okR (l.map stN8)=true then mk (txL (l.map stN8)) else { data:=#[] }:=by
 unfold prP
 rw [okP_eq fun st hst f hf=>by
  obtain ⟨x,hx,rfl⟩:=List.mem_map.1 hst
  exact (stN8_small (h x hx) f hf).2]
theorem sml_pins {l:List Pn} (h:∀x ∈ l,rgtN x=true) (hl:l.length≤200):Sml (l.map stN8):=by
 refine ⟨by rw [List.length_map];omega,fun st hst=>?_⟩
 obtain ⟨x,hx,rfl⟩:=List.mem_map.1 hst
 exact ⟨by simp [stN8],stN8_small (h x hx)⟩
theorem st8_two {T1 T2:TypeId} (V:World) (x:Pn) (y d:ByteArray) (u:Value) (hy:y=mk (ver8L++(B x.x++[42]))) (hd:d=mk (decI x.p)) (hu:∀b,u.ownBlock=some b→b < V.heap.size) :
  rdRow 1 rdFds ((V.alloc (.cells #[.string { data:=#[80,97,99,107,97,103,101] },.string x.n,.string { data:=#[80,105,110] },.string y,.string { data:=#[80,105,110,45,80,114,105,111,114,105,116,121] },.string d] T1)).alloc (.cells #[.slice (some ⟨V.heap.size,0,none⟩) 3 3] T2)) (fun b=>V.heap.size≤b∧b < V.heap.size+2) [stN8 x] [.slice (some ⟨V.heap.size+1,0,none⟩) 1 1]
  ∧∀b,(V.heap.size≤b∧b < V.heap.size+2)→True∧b < ((V.alloc (.cells #[.string { data:=#[80,97,99,107,97,103,101] },.string x.n,.string { data:=#[80,105,110] },.string y,.string { data:=#[80,105,110,45,80,114,105,111,114,105,116,121] },.string d] T1)).alloc (.cells #[.slice (some ⟨V.heap.size,0,none⟩) 3 3] T2)).heap.size∧u.ownBlock≠some b:=by
 refine ⟨?_,fun b hb=>⟨trivial,by rw [World.size_alloc,World.size_alloc];omega,fun e=>by have:=hu b e;omega⟩⟩
 have h1:=new_heap V (.cells #[.string { data:=#[80,97,99,107,97,103,101] },.string x.n,.string { data:=#[80,105,110] },.string y,.string { data:=#[80,105,110,45,80,114,105,111,114,105,116,121] },.string d] T1)
 have h2:=new_heap (V.alloc (.cells #[.string { data:=#[80,97,99,107,97,103,101] },.string x.n,.string { data:=#[80,105,110] },.string y,.string { data:=#[80,105,110,45,80,114,105,111,114,105,116,121] },.string d] T1)) (.cells #[.slice (some ⟨V.heap.size,0,none⟩) 3 3] T2)
 rw [World.size_alloc] at h2
 refine rd_block rdFds_good (l:=[stN8 x]) (css:=[[.slice (some ⟨V.heap.size,0,none⟩) 3 3]]) h2 ⟨by omega,by omega⟩ rfl rfl (fun k hk=>?_) (by simp)
 simp only [List.length_singleton] at hk
 obtain rfl:k=0:=by omega
 exact ⟨_,rfl,st8_block x y d hy hd (old_heap _ h1) ⟨by omega,by omega⟩⟩
set_option maxHeartbeats 8000000 in
theorem q8print_any (A:Option Addr) (n c:Nat) (l:List Pn) (w:World) (h:rdPns w (lt_ w.heap.size) l [.slice A n c]) (hF:Fw8 l) :
  Calls Tryz.prog 17 #[.slice A n c] w fun e w'=>e=.returned (.string (prN prP l))∧Below w.heap.size w w':=by
 obtain ⟨rfl,hnc,hcm,-⟩:=rdPns_at h
 have hcm':c≤9223372036854775807:=hcm
 obtain ⟨fi,hi,hz0,hz1,hz2⟩:=info_parts fds_info
 have H:=Lib.hid h
 have H70:=Lib.hid hF.1
 have KR:=Lib.hid (fun k (hk:k < l.length) W=>q8right_any l[k] W (by have:=(hF.2 _ (List.getElem_mem hk)).1;omega) (by have:=(hF.2 _ (List.getElem_mem hk)).2;unfold maxLen;omega))
 have HXS:=Lib.hid (fun k (hk:k < l.length)=>(hF.2 _ (List.getElem_mem hk)).2)
 clear h hF hcm
 go_enter Tryz.func17,Tryz.ntmps17
 go_wp2
 go_loopw [3,4] (fun v i wr=>∃k:Nat,k≤l.length∧i=.int .i64 k∧(∀x ∈ l.take k,rgtN x=true)∧Grow rdFds 1 (fun _=>True) wr w.heap.size 47 v ((l.take k).map stN8)∧Below w.heap.size w wr) (fun _ i _=>l.length - (intOf i).toNat)
 case atStart=>exact ⟨0,Nat.zero_le _,rfl,fun x hx=>by simp at hx,Grow.nil _ _ _ _,Below.refl _ _⟩
 case round=>
  obtain ⟨k,hk,rfl,hok,hG,hbel⟩:=hrel
  have HB:=Lib.hid hbel
  have HG:=Lib.hid hG
  have HO:=Lib.hid hok
  clear hok hG
  by_cases hlt:k < l.length
  ·obtain ⟨_,_,_,hat⟩:=rdPns_at (rdPns_good.below H.out hbel)
   obtain ⟨ad,rfl,had,c0,c1,c2⟩:=hat k hlt
   have HAD:=Lib.hid (show ad.block < w.heap.size from had)
   have K:=Lib.hid (KR.out k hlt wr)
   have TS:=Lib.hid (take_snoc stN8 l k hlt)
   have XB:=Lib.hid (prN_bad (PR:=prP) hlt)
   have hxs:=HXS.out k hlt
   have NO:=Lib.hid (fun hr:rgtN l[k]=true=>show ∀x ∈ l.take (k+1),rgtN x=true from fun x hx=>by
    rw [List.take_succ_eq_append_getElem hlt] at hx
    rcases List.mem_append.1 hx with hx|hx
    ·exact HO.out x hx
    ·rw [List.mem_singleton.1 hx];exact hr)
   have i0:(0:Int)≤(k:Int):=by omega
   have i1:(k:Int) < (l.length:Int):=by omega
   have H70':=H70.out
   have i2:(k:Int) < 70:=by omega
   clear hat hbel had
   generalize l[k]=x at *
   cases hr:rgtN x
   ·have X:=Lib.hid (XB.out hr)
    rw [hr] at K
    clear hr
    go_wp2_with fail
    refine K.out.mono ?_
    rintro e w2 ⟨rfl,hb⟩
    have HB2:=Lib.hid (bel2 HB.out hb (Nat.le_refl _))
    clear hb
    go_wp2
    go_ret
    exact ⟨by rw [X.out];try rfl,HB2.out⟩
   ·have NX:=Lib.hid (NO.out hr)
    obtain ⟨-,-,-,p1,p2⟩:=rgtN_parts hr
    rw [hr] at K
    clear hr XB NO
    obtain ⟨xn,xx,xp⟩:=x
    simp only [Pn.val] at c0 c1 c2 K hxs p1 p2
    obtain ⟨y1,a1,q1,z1⟩:=add_out { data:=#[118,101,114,115,105,111,110,32] } xx 8 100 (by decide) hxs
    obtain ⟨y2,a2,q2,z2⟩:=add_out y1 { data:=#[42] } 108 1 z1 (by decide)
    have HY:=Lib.hid (show y2=mk (ver8L++(B xx++[42])) by rw [q2,q1];exact ver_star xx)
    clear q1 q2
    go_wp2_with fail
    refine K.out.mono ?_
    rintro e w2 ⟨rfl,hb⟩
    have V2:=Lib.hid hb
    have d0:=keep6 hb c0
    have d1:=keep6 hb c1
    have d2:=keep6 hb c2
    clear hb c0 c1 c2 K
    go_upto_region 8 with (fail)
    have BV:=Lib.hid (show Below w.heap.size w2 w2.drew from (Below.refl _ _).drew)
    have BR:=Lib.hid (show Below wr.heap.size wr w2.drew from V2.out.drew)
    have SV:=Lib.hid (show w.heap.size≤w2.drew.heap.size from Nat.le_trans HB.out.size V2.out.size)
    have KS:=Lib.hid (fun (W:World) (hb:Below w.heap.size w2 W)=>(show W.cell? (ad.add (k*3))=some (.string xn)∧W.cell? ⟨(ad.add (k*3)).block,(ad.add (k*3)).off+1,none⟩=some (.string xx)∧W.cell? ⟨(ad.add (k*3)).block,(ad.add (k*3)).off+2,none⟩=some (.int .i64 xp) from ⟨(hb.cell (by rw [blk_add];exact HAD.out)).trans d0,(hb.cell (by show (ad.add (k*3)).block < _;rw [blk_add];exact HAD.out)).trans d1,(hb.cell (by show (ad.add (k*3)).block < _;rw [blk_add];exact HAD.out)).trans d2⟩))
    have KD:=Lib.hid (fun W=>q8dec_any xp W p1 p2)
    obtain ⟨d,hdd⟩:∃d,d=mk (decI xp):=⟨_,rfl⟩
    rw [←hdd] at KD
    have HD:=Lib.hid hdd
    clear hdd
    refine wp_region_noPanic ?_
    refine wp_region_L (fun W=>W.cell? (ad.add (k*3))=some (.string xn)∧W.cell? ⟨(ad.add (k*3)).block,(ad.add (k*3)).off+1,none⟩=some (.string xx)∧W.cell? ⟨(ad.add (k*3)).block,(ad.add (k*3)).off+2,none⟩=some (.int .i64 xp)) 25 (by kernel_rfl) ⟨d0,d1,d2⟩ (fun hHeld=>?_)
    clear d0 d1 d2
    generalize w2.drew=V at *
    have GW:=Lib.hid (HG.out.below rdFds_good (((BR.out.alloc BR.out.size (.cells #[.string { data:=#[80,97,99,107,97,103,101] },.string xn,.string { data:=#[80,105,110] },.string y2,.string { data:=#[80,105,110,45,80,114,105,111,114,105,116,121] },.string d] 58)).alloc (by rw [World.size_alloc];have:=BR.out.size;omega) (.cells #[.slice (some ⟨V.heap.size,0,none⟩) 3 3] 47))))
    have BW:=Lib.hid ((BV.out.alloc SV.out (.cells #[.string { data:=#[80,97,99,107,97,103,101] },.string xn,.string { data:=#[80,105,110] },.string y2,.string { data:=#[80,105,110,45,80,114,105,111,114,105,116,121] },.string d] 58)).alloc (by rw [World.size_alloc];have:=SV.out;omega) (.cells #[.slice (some ⟨V.heap.size,0,none⟩) 3 3] 47))
    have OW:=Lib.hid (st8_two (T1:=58) (T2:=47) V ⟨xn,xx,xp⟩ y2 d u3 HY.out HD.out (fun b hb=>Nat.lt_of_lt_of_le (HG.out.lt b hb).2 BR.out.size))
    have hlm:((l.take k).map stN8).length=k:=by rw [List.length_map,List.length_take];omega
    have hn1:((l.take k).map stN8).length+[stN8 ⟨xn,xx,xp⟩].length≤maxLen:=by rw [hlm,List.length_singleton];unfold maxLen;omega
    have hn2:(((l.take k).map stN8).length+[stN8 ⟨xn,xx,xp⟩].length)*24≤140737488355328:=by rw [hlm,List.length_singleton];omega
    have hs4:w.heap.size≤((V.alloc (.cells #[.string { data:=#[80,97,99,107,97,103,101] },.string xn,.string { data:=#[80,105,110] },.string y2,.string { data:=#[80,105,110,45,80,114,105,111,114,105,116,121] },.string d] 58)).alloc (.cells #[.slice (some ⟨V.heap.size,0,none⟩) 3 3] 47)).heap.size:=by rw [World.size_alloc,World.size_alloc];have:=SV.out;omega
    clear hlm
    refine wpAnyL_take (i:=0) (v:=?_) [24] rfl (by kernel_rfl) (by kernel_rfl) (by kernel_rfl) (fun _ _ _ h=>h) (by kernel_rfl) (by kernel_rfl) (by kernel_rfl) (Or.inl ⟨by rfl,?_⟩) (by assumption) ?_
    rotate_left
    ·intro w hSw
     try dsimp only at hSw
     go_simp
     first|done|with_reducible rfl
    try simp only [Act.put,List.setIfInBounds_toArray,List.set_cons_zero,List.set_cons_succ]
    refine wpAnyL_take (i:=1) (v:=?_) [24,23,22,6,5,4,3] rfl (by kernel_rfl) (by kernel_rfl) (by kernel_rfl) (fun _ _ _ h=>h) (by kernel_rfl) (by kernel_rfl) (by kernel_rfl) (Or.inl ⟨by rfl,?_⟩) (by assumption) ?_
    rotate_left
    ·intro w hSw
     try dsimp only at hSw
     go_simp
     first|done|with_reducible rfl
    try simp only [Act.put,List.setIfInBounds_toArray,List.set_cons_zero,List.set_cons_succ]
    refine wpAnyL_take (i:=2) (v:=?_) [24,23,22,6,5,4,3] rfl (by kernel_rfl) (by kernel_rfl) (by kernel_rfl) (fun _ _ _ h=>h) (by kernel_rfl) (by kernel_rfl) (by kernel_rfl) (Or.inl ⟨by rfl,?_⟩) (by assumption) ?_
    rotate_left
    ·intro w hSw
     try dsimp only at hSw
     go_simp
     first|done|with_reducible rfl
    try simp only [Act.put,List.setIfInBounds_toArray,List.set_cons_zero,List.set_cons_succ]
    refine wpAnyL_take (i:=3) (v:=?_) [24,23,22,6,5,4] rfl (by kernel_rfl) (by kernel_rfl) (by kernel_rfl) (fun _ _ _ h=>h) (by kernel_rfl) (by kernel_rfl) (by kernel_rfl) (Or.inl ⟨by rfl,?_⟩) (by assumption) ?_
    rotate_left
    ·intro w hSw
     try dsimp only at hSw
     go_simp
     first|done|with_reducible rfl
    try simp only [Act.put,List.setIfInBounds_toArray,List.set_cons_zero,List.set_cons_succ]
    refine wpAnyL_take (i:=4) (v:=?_) [24,23,22,6,5] rfl (by kernel_rfl) (by kernel_rfl) (by kernel_rfl) (fun _ _ _ h=>h) (by kernel_rfl) (by kernel_rfl) (by kernel_rfl) (Or.inl ⟨by rfl,?_⟩) (by assumption) ?_
    rotate_left
    ·intro w hSw
     try dsimp only at hSw
     go_simp
     first|done|with_reducible rfl
    try simp only [Act.put,List.setIfInBounds_toArray,List.set_cons_zero,List.set_cons_succ]
    refine wpAnyL_take (i:=5) (v:=?_) [24,23,22,6] rfl (by kernel_rfl) (by kernel_rfl) (by kernel_rfl) (fun _ _ _ h=>h) (by kernel_rfl) (by kernel_rfl) (by kernel_rfl) (Or.inl ⟨by rfl,?_⟩) (by assumption) ?_
    rotate_left
    ·intro w hSw
     try dsimp only at hSw
     go_simp
     first|done|with_reducible rfl
    try simp only [Act.put,List.setIfInBounds_toArray,List.set_cons_zero,List.set_cons_succ]
    refine wpAnyL_take (i:=6) (v:=?_) [24,23,22] rfl (by kernel_rfl) (by kernel_rfl) (by kernel_rfl) (fun _ _ _ h=>h) (by kernel_rfl) (by kernel_rfl) (by kernel_rfl) (Or.inl ⟨by rfl,?_⟩) (by assumption) ?_
    rotate_left
    ·intro w hSw
     try dsimp only at hSw
     go_simp
     first|done|with_reducible rfl
    try simp only [Act.put,List.setIfInBounds_toArray,List.set_cons_zero,List.set_cons_succ]
    refine wpAnyL_take (i:=7) (v:=?_) [24,23,22,14,13,12,11,10,9] rfl (by kernel_rfl) (by kernel_rfl) (by kernel_rfl) (fun _ _ _ h=>h) (by kernel_rfl) (by kernel_rfl) (by kernel_rfl) (Or.inl ⟨by rfl,?_⟩) (by assumption) ?_
    rotate_left
    ·intro w hSw
     try dsimp only at hSw
     go_simp
     first|done|with_reducible rfl
    try simp only [Act.put,List.setIfInBounds_toArray,List.set_cons_zero,List.set_cons_succ]
    refine wpAnyL_take (i:=8) (v:=?_) [24,23,22,14,13,12,11,10,9] rfl (by kernel_rfl) (by kernel_rfl) (by kernel_rfl) (fun _ _ _ h=>h) (by kernel_rfl) (by kernel_rfl) (by kernel_rfl) (Or.inl ⟨by rfl,?_⟩) (by assumption) ?_
    rotate_left
    ·intro w hSw
     try dsimp only at hSw
     go_simp
     first|done|with_reducible rfl
    try simp only [Act.put,List.setIfInBounds_toArray,List.set_cons_zero,List.set_cons_succ]
    refine wpAnyL_take (i:=9) (v:=?_) [24,23,22,14,13,12,11,10] rfl (by kernel_rfl) (by kernel_rfl) (by kernel_rfl) (fun _ _ _ h=>h) (by kernel_rfl) (by kernel_rfl) (by kernel_rfl) (Or.inl ⟨by rfl,?_⟩) (by assumption) ?_
    rotate_left
    ·intro w hSw
     try dsimp only at hSw
     go_simp
     first|done|with_reducible rfl
    try simp only [Act.put,List.setIfInBounds_toArray,List.set_cons_zero,List.set_cons_succ]
    refine wpAnyL_take (i:=10) (v:=?_) [24,23,22,14,13,12,11] rfl (by kernel_rfl) (by kernel_rfl) (by kernel_rfl) (fun _ _ _ h=>h) (by kernel_rfl) (by kernel_rfl) (by kernel_rfl) (Or.inl ⟨by rfl,?_⟩) (by assumption) ?_
    rotate_left
    ·intro w hSw
     try dsimp only at hSw
     go_simp
     first|done|with_reducible rfl
    try simp only [Act.put,List.setIfInBounds_toArray,List.set_cons_zero,List.set_cons_succ]
    refine wpAnyL_take (i:=11) (v:=?_) [24,23,22,14,13,12] rfl (by kernel_rfl) (by kernel_rfl) (by kernel_rfl) (fun _ _ _ h=>h) (by kernel_rfl) (by kernel_rfl) (by kernel_rfl) (Or.inl ⟨by rfl,?_⟩) (by assumption) ?_
    rotate_left
    ·intro w hSw
     try dsimp only at hSw
     go_simp
     first|done|with_reducible rfl
    try simp only [Act.put,List.setIfInBounds_toArray,List.set_cons_zero,List.set_cons_succ]
    refine wpAnyL_take (i:=12) (v:=?_) [24,23,22,14,13] rfl (by kernel_rfl) (by kernel_rfl) (by kernel_rfl) (fun _ _ _ h=>h) (by kernel_rfl) (by kernel_rfl) (by kernel_rfl) (Or.inl ⟨by rfl,?_⟩) (by assumption) ?_
    rotate_left
    ·intro w hSw
     try dsimp only at hSw
     go_simp
     first|done|with_reducible rfl
    try simp only [Act.put,List.setIfInBounds_toArray,List.set_cons_zero,List.set_cons_succ]
    refine wpAnyL_take (i:=13) (v:=?_) [24,23,22,14] rfl (by kernel_rfl) (by kernel_rfl) (by kernel_rfl) (fun _ _ _ h=>h) (by kernel_rfl) (by kernel_rfl) (by kernel_rfl) (Or.inl ⟨by rfl,?_⟩) (by assumption) ?_
    rotate_left
    ·intro w hSw
     try dsimp only at hSw
     go_simp
     first|done|with_reducible rfl
    try simp only [Act.put,List.setIfInBounds_toArray,List.set_cons_zero,List.set_cons_succ]
    refine wpAnyL_take (i:=14) (v:=?_) [24,23,22] rfl (by kernel_rfl) (by kernel_rfl) (by kernel_rfl) (fun _ _ _ h=>h) (by kernel_rfl) (by kernel_rfl) (by kernel_rfl) (Or.inl ⟨by rfl,?_⟩) (by assumption) ?_
    rotate_left
    ·intro w hSw
     try dsimp only at hSw
     go_simp
     first|done|with_reducible rfl
    try simp only [Act.put,List.setIfInBounds_toArray,List.set_cons_zero,List.set_cons_succ]
    refine wpAnyL_take (i:=15) (v:=?_) [24,23,22,21,20,19,18,17] rfl (by kernel_rfl) (by kernel_rfl) (by kernel_rfl) (fun _ _ _ h=>h) (by kernel_rfl) (by kernel_rfl) (by kernel_rfl) (Or.inl ⟨by rfl,?_⟩) (by assumption) ?_
    rotate_left
    ·intro w hSw
     try dsimp only at hSw
     go_simp
     first|done|with_reducible rfl
    try simp only [Act.put,List.setIfInBounds_toArray,List.set_cons_zero,List.set_cons_succ]
    refine wpAnyL_take (i:=16) (v:=?_) [24,23,22,21,20,19,18,17] rfl (by kernel_rfl) (by kernel_rfl) (by kernel_rfl) (fun _ _ _ h=>h) (by kernel_rfl) (by kernel_rfl) (by kernel_rfl) (Or.inl ⟨by rfl,?_⟩) (by assumption) ?_
    rotate_left
    ·intro w hSw
     try dsimp only at hSw
     go_simp
     first|done|with_reducible rfl
    try simp only [Act.put,List.setIfInBounds_toArray,List.set_cons_zero,List.set_cons_succ]
    refine wpAnyL_take (i:=17) (v:=?_) [24,23,22,21,20,19,18] rfl (by kernel_rfl) (by kernel_rfl) (by kernel_rfl) (fun _ _ _ h=>h) (by kernel_rfl) (by kernel_rfl) (by kernel_rfl) (Or.inl ⟨by rfl,?_⟩) (by assumption) ?_
    rotate_left
    ·intro w hSw
     try dsimp only at hSw
     go_simp
     first|done|with_reducible rfl
    try simp only [Act.put,List.setIfInBounds_toArray,List.set_cons_zero,List.set_cons_succ]
    refine wpAnyL_take (i:=18) (v:=?_) [24,23,22,21,20,19] rfl (by kernel_rfl) (by kernel_rfl) (by kernel_rfl) (fun _ _ _ h=>h) (by kernel_rfl) (by kernel_rfl) (by kernel_rfl) (Or.inl ⟨by rfl,?_⟩) (by assumption) ?_
    rotate_left
    ·intro w hSw
     try dsimp only at hSw
     go_simp
     first|done|with_reducible rfl
    try simp only [Act.put,List.setIfInBounds_toArray,List.set_cons_zero,List.set_cons_succ]
    refine wpAnyL_take (i:=19) (v:=?_) [24,23,22,21,20] rfl (by kernel_rfl) (by kernel_rfl) (by kernel_rfl) (fun _ _ _ h=>h) (by kernel_rfl) (by kernel_rfl) (by kernel_rfl) (Or.inl ⟨by rfl,?_⟩) (by assumption) ?_
    rotate_left
    ·intro w hSw
     try dsimp only at hSw
     go_simp
     first|done|with_reducible rfl
    try simp only [Act.put,List.setIfInBounds_toArray,List.set_cons_zero,List.set_cons_succ]
    refine wpAnyL_one (i:=20) (by kernel_rfl) rfl (fun K hK=>?_)
    go_simp
    refine (KD.out _).mono ?_
    rintro e w4 ⟨rfl,rfl⟩
    go_wp2_with fail
    refine hK.out _ _ hHeld (fun hHeld=>?_)
    clear hK K
    try simp only [Act.put,List.setIfInBounds_toArray,List.set_cons_zero,List.set_cons_succ]
    refine wpAnyL_one (i:=21) (by kernel_rfl) rfl (fun K hK=>?_)
    go_simp
    refine hK.out _ _ hHeld (fun hHeld=>?_)
    clear hK K
    try simp only [Act.put,List.setIfInBounds_toArray,List.set_cons_zero,List.set_cons_succ]
    refine wpAnyL_one (i:=22) (by kernel_rfl) rfl (fun K hK=>?_)
    go_simp
    refine hK.out _ _ (KS.out _ (BV.out.alloc SV.out _)) (fun hHeld=>?_)
    clear hK K
    try simp only [Act.put,List.setIfInBounds_toArray,List.set_cons_zero,List.set_cons_succ]
    refine wpAnyL_one (i:=23) (by kernel_rfl) rfl (fun K hK=>?_)
    go_simp
    refine hK.out _ _ (KS.out _ ((BV.out.alloc SV.out _).alloc (by rw [World.size_alloc];have:=SV.out;omega) _)) (fun hHeld=>?_)
    clear hK K
    try simp only [Act.put,List.setIfInBounds_toArray,List.set_cons_zero,List.set_cons_succ]
    refine wpAnyL_one (i:=24) (by kernel_rfl) rfl (fun K hK=>?_)
    refine step_growN _ (by rfl) _ _ 51 51 (by rfl) rdFds_good (by decide) (fun _=>True) w.heap.size 47 47 fi _ 24 Tryz.underlying51 Tryz.underlying51 hi hz0 hz1 hz2 rfl _ _ (by rfl) GW.out _ _ _ _ _ (by rfl) OW.out.1 OW.out.2 hn1 hn2 hs4 ?_
    intro v5 w5 hG5 hg5 _
    have B5:=Lib.hid (grow_below GW.out hg5 BW.out (Nat.le_refl _) hs4)
    have G5:=Lib.hid hG5
    clear hG5 hg5
    refine hK.out _ _ (KS.out _ B5.out) (fun hHeld=>?_)
    clear hK K
    try simp only [Act.put,List.setIfInBounds_toArray,List.set_cons_zero,List.set_cons_succ]
    refine wpAnyL_last (by kernel_rfl) rfl (by kernel_rfl) (fun K hK=>?_)
    go_simp
    refine hK.out _ _ ?_
    clear hK K
    refine NoPanic.normal ?_
    have HB5:=Lib.hid (show Below w.heap.size w w5 from (HB.out.trans (V2.out.mono HB.out.size)).trans B5.out)
    clear hHeld hn1 hn2 hs4 a1 a2
    go_wp2
    go_roundw
    case rel=>exact ⟨k+1,by omega,by go_num,NX.out,by rw [TS.out];first|exact G5.out|(rw [List.map_take];exact G5.out),HB5.out⟩
    case measure=>simp [intOf];omega
  ·obtain rfl:k=l.length:=by omega
   have HG2:=HG.out
   rw [List.take_length] at HG2 HO
   by_cases g64:(64:Int) < (l.length:Int)
   ·have X:=Lib.hid (prN_many (PR:=prP) (show 64 < l.length by omega))
    clear HG2 hbel
    go_wp2
    go_ret
    exact ⟨by rw [X.out];try rfl,HB.out⟩
   ·have X:=Lib.hid (show prN prP l=if okR (l.map stN8)=true then mk (txL (l.map stN8)) else { data:=#[] } by rw [←prP_pins HO.out];exact if_pos ((rightN_iff l).2 ⟨HO.out,by omega⟩))
    have hrd:=HG2.read rdFds_good
    obtain ⟨A',cp',hv',_,_⟩:=HG2.own
    rw [hv'] at hrd
    have K:=Lib.hid (by have:=q5print_any _ _ _ _ wr hrd (sml_pins HO.out (by omega));rw [←X.out] at this;exact this)
    rw [List.length_map] at hv' K
    obtain ⟨RR,hRR⟩:∃r,r=prN prP l:=⟨_,rfl⟩
    rw [←hRR] at K
    have XX:=Lib.hid hRR
    clear X hRR
    subst hv'
    clear HG2 HG hbel hrd
    go_wp2_with fail
    refine K.out.mono ?_
    rintro e w3 ⟨rfl,hb3⟩
    go_wp2
    go_ret
    exact ⟨by rw [←XX.out];try rfl,bel2 HB.out hb3 (Nat.le_refl _)⟩
end Go.Proofs.YtbljkpbaceiaiaaGreatDoor
