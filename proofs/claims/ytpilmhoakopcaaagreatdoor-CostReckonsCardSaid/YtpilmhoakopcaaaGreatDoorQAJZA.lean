/- What the laws rest on: E9e, E10g, E11k, E11g. -/
import Derived.Test.YtpilmhoakopcaaaGreatDoorQAFZA
import Derived.Test.YtpilmhoakopcaaaGreatDoorQAGZA
import Derived.Test.YtpilmhoakopcaaaGreatDoorQBCZA
set_option maxRecDepth 100000
set_option linter.unusedVariables false
set_option linter.unusedSimpArgs false
namespace Go.Proofs.YtpilmhoakopcaaaGreatDoor
open Go.RowKit
structure Ap9 (w V V3:World) (v:Value) (g:List Int) (y:Int):Prop where
 b:Below w.heap.size w V3
 g:Grow rdInt 1 (fun _=>True) V3 w.heap.size 3 v g
 x:rdInts V3 (fun c=>c=V.heap.size) [y] [.slice (some ⟨V.heap.size,0,none⟩) 1 1]
 s:∀c,c=V.heap.size→True∧c < V3.heap.size∧v.ownBlock≠some c
 bs:w.heap.size≤V3.heap.size
theorem app9 {w V:World} {v:Value} {g:List Int} (hb:Below w.heap.size w V) (hG:Grow rdInt 1 (fun _=>True) V w.heap.size 3 v g) (y:Int):Ap9 w V (V.alloc (.cells #[.int .i64 y] 3)) v g y:=
 ⟨hb.alloc hb.size _,hG.alloc rdInt_good _,one_rd (ty:=3) rdInt_good (heap_alloc_new V _) rfl rfl,fun c hc=>⟨trivial,by rw [hc,World.size_alloc];exact Nat.lt_succ_self _,fun hh=>by have:=(hG.lt c hh).2;omega⟩,by rw [World.size_alloc];have:=hb.size;omega⟩
set_option maxHeartbeats 8000000 in
theorem q9inst_any (b:Nat) (l:List Ent) (m:List Hr) (w:World) (h:UR w b l m) (hm:m.length≤200) :
  Calls Tryz.prog 46 #[.pointer (some ⟨b,0,none⟩)] w fun e w'=>(∃A c,e=.returned (.slice A (insU l m).length c)∧rdInts w' (lt_ w'.heap.size) (insU l m) [.slice A (insU l m).length c])∧Below w.heap.size w w':=by
 have HU:=Lib.hid (fun (W:World) (hb:Below w.heap.size w W)=>h.below hb)
 obtain ⟨fi,hi,hz0,hz1,hz2⟩:=info_parts int9_info
 obtain ⟨A,c,A',c',-,h1,-,h4⟩:=id h
 obtain ⟨-,hnc,hcm,-⟩:=rdHrs_at h4
 have hcm':c'≤9223372036854775807:=hcm
 have H4:=Lib.hid (fun (W:World) (hb:Below w.heap.size w W)=>rdHrs_good.keep (w':=W) h4 (fun k hk=>hb.block k hk.1))
 clear hcm h h4
 go_enter Tryz.func46,Tryz.ntmps46
 go_wp2
 go_loopw [3,4] (fun v i wr=>∃k:Nat,k≤m.length∧i=.int .i64 k∧Grow rdInt 1 (fun _=>True) wr w.heap.size 3 v (insU l (m.take k))∧Below w.heap.size w wr) (fun _ i _=>m.length - (intOf i).toNat)
 case atStart=>exact ⟨0,Nat.zero_le _,rfl,Grow.nil _ _ _ _,Below.refl _ _⟩
 case round=>
  obtain ⟨k,hk,rfl,hG,hbel⟩:=hrel
  have HB:=Lib.hid hbel
  have HG:=Lib.hid hG
  have b0:wr.cell? ⟨b,1,none⟩=some (.slice A' m.length c'):=keep6 hbel h1
  clear hG
  by_cases hlt:k < m.length
  ·obtain ⟨-,-,-,hat⟩:=rdHrs_at (H4.out wr hbel)
   obtain ⟨ad,D1,e1,D2,e2,D3,e3,D4,e4,rfl,had,-,h0,h1',-,-,-,-,-,h7⟩:=hat k hlt
   have hadl:ad.block < w.heap.size:=had.1
   have i0:(0:Int)≤(k:Int):=by omega
   have i1:(k:Int) < (m.length:Int):=by omega
   have KP:=Lib.hid (fun (W:World) (hb:Below w.heap.size w W)=>q9place_any b l m m[k].e.n m[k].e.v W (HU.out W hb))
   have ST:=Lib.hid (insU_step (l:=l) hlt)
   have hln:(insU l (m.take k)).length≤200:=by unfold insU;rw [List.length_map,List.length_take];omega
   have KS:=Lib.hid (fun (W:World) (hb:Below w.heap.size w W)=>(show W.cell? ⟨b,1,none⟩=some (.slice (some ad) m.length c')∧W.cell? (ad.add (k*8))=some (.string m[k].e.n)∧W.cell? ⟨(ad.add (k*8)).block,(ad.add (k*8)).off+1,none⟩=some (.string m[k].e.v) from
    ⟨keep6 hb h1,by
     obtain ⟨-,-,-,hat⟩:=rdHrs_at (H4.out W hb)
     obtain ⟨ad',_,_,_,_,_,_,_,_,e,_,_,h0,h1',_⟩:=hat k hlt
     obtain rfl:ad=ad':=Option.some.inj e
     exact h0,by
     obtain ⟨-,-,-,hat⟩:=rdHrs_at (H4.out W hb)
     obtain ⟨ad',_,_,_,_,_,_,_,_,e,_,_,h0,h1',_⟩:=hat k hlt
     obtain rfl:ad=ad':=Option.some.inj e
     exact h1'⟩))
   clear had hat h0 h1' hbel
   generalize m[k].e.n=n at *
   generalize m[k].e.v=v at *
   generalize plU n v l 0=pl at *
   generalize hgg:insU l (m.take k)=gl at *
   generalize hgn:insU l (m.take (k+1))=gn at *
   have HGN:=Lib.hid hgn
   clear hgg hgn
   clear h7
   go_wp2_with fail
   refine wp_region_noPanic ?_
   refine wp_region_D (fun W=>W.cell? ⟨b,1,none⟩=some (.slice (some ad) m.length c')∧W.cell? (ad.add (k*8))=some (.string n)∧W.cell? ⟨(ad.add (k*8)).block,(ad.add (k*8)).off+1,none⟩=some (.string v)) 23 (by kernel_rfl) (w0:=wr) (Dr.refl _) (fun V hV=>KS.out V (HB.out.trans ((hV.below wr.heap.size).mono HB.out.size))) (fun V hV hHeld=>?_)
   have BV:=Lib.hid (HB.out.trans ((hV.below wr.heap.size).mono HB.out.size))
   have GV:=Lib.hid (HG.out.below rdInt_good (hV.below wr.heap.size))
   clear hV
   refine wpAnyL_take (i:=0) (v:=?_) [22] rfl (by kernel_rfl) (by kernel_rfl) (by kernel_rfl) (fun _ _ _ h=>h) (by kernel_rfl) (by kernel_rfl) (by kernel_rfl) (Or.inl ⟨by rfl,?_⟩) (by assumption) ?_
   rotate_left
   ·intro w hSw
    try dsimp only at hSw
    go_simp
    first|done|with_reducible rfl
   try simp only [Act.put,List.setIfInBounds_toArray,List.set_cons_zero,List.set_cons_succ]
   refine wpAnyL_take (i:=1) (v:=?_) [22,21,20] rfl (by kernel_rfl) (by kernel_rfl) (by kernel_rfl) (fun _ _ _ h=>h) (by kernel_rfl) (by kernel_rfl) (by kernel_rfl) (Or.inl ⟨by rfl,?_⟩) (by assumption) ?_
   rotate_left
   ·intro w hSw
    try dsimp only at hSw
    go_simp
    first|done|with_reducible rfl
   try simp only [Act.put,List.setIfInBounds_toArray,List.set_cons_zero,List.set_cons_succ]
   refine wpAnyL_take (i:=2) (v:=?_) [22,21,20,10,9,8,7,5,4,3] rfl (by kernel_rfl) (by kernel_rfl) (by kernel_rfl) (fun _ _ _ h=>h) (by kernel_rfl) (by kernel_rfl) (by kernel_rfl) (Or.inl ⟨by rfl,?_⟩) (by assumption) ?_
   rotate_left
   ·intro w hSw
    try dsimp only at hSw
    go_simp
    first|done|with_reducible rfl
   try simp only [Act.put,List.setIfInBounds_toArray,List.set_cons_zero,List.set_cons_succ]
   refine wpAnyL_take (i:=3) (v:=?_) [22,21,20,10,9,8,7,5,4] rfl (by kernel_rfl) (by kernel_rfl) (by kernel_rfl) (fun _ _ _ h=>h) (by kernel_rfl) (by kernel_rfl) (by kernel_rfl) (Or.inl ⟨by rfl,?_⟩) (by assumption) ?_
   rotate_left
   ·intro w hSw
    try dsimp only at hSw
    go_simp
    first|done|with_reducible rfl
   try simp only [Act.put,List.setIfInBounds_toArray,List.set_cons_zero,List.set_cons_succ]
   refine wpAnyL_take (i:=4) (v:=?_) [22,21,20,10,9,8,7,5] rfl (by kernel_rfl) (by kernel_rfl) (by kernel_rfl) (fun _ _ _ h=>h) (by kernel_rfl) (by kernel_rfl) (by kernel_rfl) (Or.inl ⟨by rfl,?_⟩) (by assumption) ?_
   rotate_left
   ·intro w hSw
    try dsimp only at hSw
    go_simp
    first|done|with_reducible rfl
   try simp only [Act.put,List.setIfInBounds_toArray,List.set_cons_zero,List.set_cons_succ]
   refine wpAnyL_take (i:=5) (v:=?_) [22,21,20,10,9,8,7] rfl (by kernel_rfl) (by kernel_rfl) (by kernel_rfl) (fun _ _ _ h=>h) (by kernel_rfl) (by kernel_rfl) (by kernel_rfl) (Or.inl ⟨by rfl,?_⟩) (by assumption) ?_
   rotate_left
   ·intro w hSw
    try dsimp only at hSw
    go_simp
    first|done|with_reducible rfl
   try simp only [Act.put,List.setIfInBounds_toArray,List.set_cons_zero,List.set_cons_succ]
   refine wpAnyL_take (i:=6) (v:=?_) [22,21,20,10,9,8,7] rfl (by kernel_rfl) (by kernel_rfl) (by kernel_rfl) (fun _ _ _ h=>h) (by kernel_rfl) (by kernel_rfl) (by kernel_rfl) (Or.inl ⟨by rfl,?_⟩) (by assumption) ?_
   rotate_left
   ·intro w hSw
    try dsimp only at hSw
    go_simp
    first|done|with_reducible rfl
   try simp only [Act.put,List.setIfInBounds_toArray,List.set_cons_zero,List.set_cons_succ]
   refine wpAnyL_take (i:=7) (v:=?_) [22,21,20,10,9,8] rfl (by kernel_rfl) (by kernel_rfl) (by kernel_rfl) (fun _ _ _ h=>h) (by kernel_rfl) (by kernel_rfl) (by kernel_rfl) (Or.inl ⟨by rfl,?_⟩) (by assumption) ?_
   rotate_left
   ·intro w hSw
    try dsimp only at hSw
    go_simp
    first|done|with_reducible rfl
   try simp only [Act.put,List.setIfInBounds_toArray,List.set_cons_zero,List.set_cons_succ]
   refine wpAnyL_take (i:=8) (v:=?_) [22,21,20,10,9] rfl (by kernel_rfl) (by kernel_rfl) (by kernel_rfl) (fun _ _ _ h=>h) (by kernel_rfl) (by kernel_rfl) (by kernel_rfl) (Or.inl ⟨by rfl,?_⟩) (by assumption) ?_
   rotate_left
   ·intro w hSw
    try dsimp only at hSw
    go_simp
    first|done|with_reducible rfl
   try simp only [Act.put,List.setIfInBounds_toArray,List.set_cons_zero,List.set_cons_succ]
   refine wpAnyL_take (i:=9) (v:=?_) [22,21,20,10] rfl (by kernel_rfl) (by kernel_rfl) (by kernel_rfl) (fun _ _ _ h=>h) (by kernel_rfl) (by kernel_rfl) (by kernel_rfl) (Or.inl ⟨by rfl,?_⟩) (by assumption) ?_
   rotate_left
   ·intro w hSw
    try dsimp only at hSw
    go_simp
    first|done|with_reducible rfl
   try simp only [Act.put,List.setIfInBounds_toArray,List.set_cons_zero,List.set_cons_succ]
   refine wpAnyL_take (i:=10) (v:=?_) [22,21,20] rfl (by kernel_rfl) (by kernel_rfl) (by kernel_rfl) (fun _ _ _ h=>h) (by kernel_rfl) (by kernel_rfl) (by kernel_rfl) (Or.inl ⟨by rfl,?_⟩) (by assumption) ?_
   rotate_left
   ·intro w hSw
    try dsimp only at hSw
    go_simp
    first|done|with_reducible rfl
   try simp only [Act.put,List.setIfInBounds_toArray,List.set_cons_zero,List.set_cons_succ]
   refine wpAnyL_take (i:=11) (v:=?_) [22,21,20,19,18,17,16,14,13,12] rfl (by kernel_rfl) (by kernel_rfl) (by kernel_rfl) (fun _ _ _ h=>h) (by kernel_rfl) (by kernel_rfl) (by kernel_rfl) (Or.inl ⟨by rfl,?_⟩) (by assumption) ?_
   rotate_left
   ·intro w hSw
    try dsimp only at hSw
    go_simp
    first|done|with_reducible rfl
   try simp only [Act.put,List.setIfInBounds_toArray,List.set_cons_zero,List.set_cons_succ]
   refine wpAnyL_take (i:=12) (v:=?_) [22,21,20,19,18,17,16,14,13] rfl (by kernel_rfl) (by kernel_rfl) (by kernel_rfl) (fun _ _ _ h=>h) (by kernel_rfl) (by kernel_rfl) (by kernel_rfl) (Or.inl ⟨by rfl,?_⟩) (by assumption) ?_
   rotate_left
   ·intro w hSw
    try dsimp only at hSw
    go_simp
    first|done|with_reducible rfl
   try simp only [Act.put,List.setIfInBounds_toArray,List.set_cons_zero,List.set_cons_succ]
   refine wpAnyL_take (i:=13) (v:=?_) [22,21,20,19,18,17,16,14] rfl (by kernel_rfl) (by kernel_rfl) (by kernel_rfl) (fun _ _ _ h=>h) (by kernel_rfl) (by kernel_rfl) (by kernel_rfl) (Or.inl ⟨by rfl,?_⟩) (by assumption) ?_
   rotate_left
   ·intro w hSw
    try dsimp only at hSw
    go_simp
    first|done|with_reducible rfl
   try simp only [Act.put,List.setIfInBounds_toArray,List.set_cons_zero,List.set_cons_succ]
   refine wpAnyL_take (i:=14) (v:=?_) [22,21,20,19,18,17,16] rfl (by kernel_rfl) (by kernel_rfl) (by kernel_rfl) (fun _ _ _ h=>h) (by kernel_rfl) (by kernel_rfl) (by kernel_rfl) (Or.inl ⟨by rfl,?_⟩) (by assumption) ?_
   rotate_left
   ·intro w hSw
    try dsimp only at hSw
    go_simp
    first|done|with_reducible rfl
   try simp only [Act.put,List.setIfInBounds_toArray,List.set_cons_zero,List.set_cons_succ]
   refine wpAnyL_take (i:=15) (v:=?_) [22,21,20,19,18,17,16] rfl (by kernel_rfl) (by kernel_rfl) (by kernel_rfl) (fun _ _ _ h=>h) (by kernel_rfl) (by kernel_rfl) (by kernel_rfl) (Or.inl ⟨by rfl,?_⟩) (by assumption) ?_
   rotate_left
   ·intro w hSw
    try dsimp only at hSw
    go_simp
    first|done|with_reducible rfl
   try simp only [Act.put,List.setIfInBounds_toArray,List.set_cons_zero,List.set_cons_succ]
   refine wpAnyL_take (i:=16) (v:=?_) [22,21,20,19,18,17] rfl (by kernel_rfl) (by kernel_rfl) (by kernel_rfl) (fun _ _ _ h=>h) (by kernel_rfl) (by kernel_rfl) (by kernel_rfl) (Or.inl ⟨by rfl,?_⟩) (by assumption) ?_
   rotate_left
   ·intro w hSw
    try dsimp only at hSw
    go_simp
    first|done|with_reducible rfl
   try simp only [Act.put,List.setIfInBounds_toArray,List.set_cons_zero,List.set_cons_succ]
   refine wpAnyL_take (i:=17) (v:=?_) [22,21,20,19,18] rfl (by kernel_rfl) (by kernel_rfl) (by kernel_rfl) (fun _ _ _ h=>h) (by kernel_rfl) (by kernel_rfl) (by kernel_rfl) (Or.inl ⟨by rfl,?_⟩) (by assumption) ?_
   rotate_left
   ·intro w hSw
    try dsimp only at hSw
    go_simp
    first|done|with_reducible rfl
   try simp only [Act.put,List.setIfInBounds_toArray,List.set_cons_zero,List.set_cons_succ]
   refine wpAnyL_take (i:=18) (v:=?_) [22,21,20,19] rfl (by kernel_rfl) (by kernel_rfl) (by kernel_rfl) (fun _ _ _ h=>h) (by kernel_rfl) (by kernel_rfl) (by kernel_rfl) (Or.inl ⟨by rfl,?_⟩) (by assumption) ?_
   rotate_left
   ·intro w hSw
    try dsimp only at hSw
    go_simp
    first|done|with_reducible rfl
   try simp only [Act.put,List.setIfInBounds_toArray,List.set_cons_zero,List.set_cons_succ]
   refine wpAnyL_take (i:=19) (v:=?_) [22,21,20] rfl (by kernel_rfl) (by kernel_rfl) (by kernel_rfl) (fun _ _ _ h=>h) (by kernel_rfl) (by kernel_rfl) (by kernel_rfl) (Or.inl ⟨by rfl,?_⟩) (by assumption) ?_
   rotate_left
   ·intro w hSw
    try dsimp only at hSw
    go_simp
    first|done|with_reducible rfl
   try simp only [Act.put,List.setIfInBounds_toArray,List.set_cons_zero,List.set_cons_succ]
   refine wpAnyL_one (i:=20) (by kernel_rfl) rfl (fun K hK=>?_)
   go_simp
   refine (KP.out V BV.out).mono ?_
   rintro e V2 ⟨rfl,hb⟩
   have BV2:=Lib.hid (BV.out.trans ((hb.below V.heap.size).mono BV.out.size))
   have GV2:=Lib.hid (GV.out.below rdInt_good (hb.below V.heap.size))
   have AP:=Lib.hid (app9 BV2.out GV2.out pl)
   clear hb
   go_wp2_with fail
   refine hK.out _ _ (KS.out _ BV2.out) (fun hHeld=>?_)
   clear hK K
   try simp only [Act.put,List.setIfInBounds_toArray,List.set_cons_zero,List.set_cons_succ]
   refine wpAnyL_one (i:=21) (by kernel_rfl) rfl (fun K hK=>?_)
   go_simp
   refine hK.out _ _ (KS.out _ AP.out.b) (fun hHeld=>?_)
   clear hK K
   try simp only [Act.put,List.setIfInBounds_toArray,List.set_cons_zero,List.set_cons_succ]
   refine wpAnyL_one (i:=22) (by kernel_rfl) rfl (fun K hK=>?_)
   refine step_growN _ (by rfl) _ _ 25 25 (by rfl) rdInt_good (by decide) (fun _=>True) w.heap.size 3 3 fi _ 8 Tryz.underlying25 Tryz.underlying25 hi hz0 hz1 hz2 rfl _ _ (by rfl) AP.out.g [pl] _ _ _ _ (by rfl) AP.out.x AP.out.s (by simp only [List.length_singleton];unfold maxLen;omega) (by simp only [List.length_singleton];omega) AP.out.bs ?_
   intro v' V4 hG4 hg4 _
   have BV4:=Lib.hid (grow_below AP.out.g hg4 AP.out.b (Nat.le_refl _) AP.out.bs)
   have GV4:=Lib.hid hG4
   clear hG4 hg4
   refine hK.out _ _ (KS.out _ BV4.out) (fun hHeld=>?_)
   clear hK K
   try simp only [Act.put,List.setIfInBounds_toArray,List.set_cons_zero,List.set_cons_succ]
   refine wpAnyL_last (by kernel_rfl) rfl (by kernel_rfl) (fun K hK=>?_)
   go_simp
   refine hK.out _ _ ?_
   clear hK K
   refine NoPanic.normal ?_
   go_wp2_with fail
   all_goals
    go_wp2
    go_roundw
    case rel=>exact ⟨k+1,by omega,by go_num,by rw [HGN.out,ST.out];exact GV4.out,BV4.out⟩
    case measure=>simp [intOf];omega
  ·obtain rfl:k=m.length:=by omega
   have FIN:=Lib.hid (show rdInts wr (lt_ wr.heap.size) (insU l m) [u3] from by
    have:=HG.out.read rdInt_good
    rwa [List.take_length] at this)
   obtain ⟨Av,cv,hv,_⟩:=id FIN.out
   simp only [List.cons.injEq,and_true] at hv
   subst hv
   clear hbel HG
   go_wp2
   go_ret
   exact ⟨⟨Av,cv,rfl,FIN.out⟩,HB.out⟩
end Go.Proofs.YtpilmhoakopcaaaGreatDoor
namespace Go.Proofs.YtpilmhoakopcaaaGreatDoor
open Go.RowKit Go.Sort
set_option maxHeartbeats 16000000 in
theorem q9gives_any (x:Ent) (a:Atm) (A1:Option Addr) (c1:Nat) (A2:Option Addr) (c2:Nat) (A3:Option Addr) (c3:Nat) (A4:Option Addr) (c4:Nat) (w:World) (hx:EntV w (lt_ w.heap.size) x A1 c1 A2 c2 A3 c3 A4 c4) (hp:x.p.length≤1000) :
  Calls Tryz.prog 130 #[x.val A1 c1 A2 c2 A3 c3 A4 c4,.agg #[.string a.n,.int .i64 a.o,.string a.v]] w fun e w'=>e=.returned (.bool (gvA a x))∧Below w.heap.size w w':=by
 have mixed:Tryz.prog.follows .mixedOrders=true:=by kernel_rfl
 have KG:=Lib.hid (fun (W:World) (hb:Below w.heap.size w W)=>q6gives_any x A1 c1 A2 c2 A3 c3 A4 c4 W (hx.on hb) hp)
 have X:=Lib.hid (show gvA a x=(gvs x).any (pvB a) from rfl)
 obtain ⟨n,v,d,r,c,p⟩:=x
 generalize gvs (⟨n,v,d,r,c,p⟩:Ent)=g at *
 generalize gvA a ⟨n,v,d,r,c,p⟩=bb at *
 have KP:=Lib.hid (fun (gj:Atm) (W:World)=>q3prov_any a.n a.o a.v gj.n gj.o gj.v W)
 have KPV:=Lib.hid (fun (gj:Atm)=>show provB (B a.n) a.o (B a.v) (B gj.n) gj.o (B gj.v)=pvB a gj from rfl)
 generalize hpa:pvB a=pa at *
 obtain ⟨an,ao,av⟩:=a
 simp only at KP KPV
 clear hpa
 show Calls Tryz.prog 130 #[.agg #[.string n,.string v,.slice A1 d.length c1,.slice A2 r.length c2,.slice A3 c.length c3,.slice A4 p.length c4],.agg #[.string an,.int .i64 ao,.string av]] w _
 obtain ⟨W1,hW1⟩:∃W,W=((w.alloc (.cells #[.string n,.string v,.slice A1 d.length c1,.slice A2 r.length c2,.slice A3 c.length c3,.slice A4 p.length c4] 60)).alloc (.cells #[.string an,.int .i64 ao,.string av] 100)):=⟨_,rfl⟩
 have B1:=Lib.hid (show Below w.heap.size w W1 by rw [hW1];exact ((Below.refl _ w).alloc (Nat.le_refl _) _).alloc (by simp) _)
 have KX:=Lib.hid (fun (W:World) (hb:Below W1.heap.size W1 W)=>(show W.cell? ⟨w.heap.size,0,none⟩=some (.string n)∧W.cell? ⟨w.heap.size,1,none⟩=some (.string v)∧W.cell? ⟨w.heap.size,2,none⟩=some (.slice A1 d.length c1)∧W.cell? ⟨w.heap.size,3,none⟩=some (.slice A2 r.length c2)∧W.cell? ⟨w.heap.size,4,none⟩=some (.slice A3 c.length c3)∧W.cell? ⟨w.heap.size,5,none⟩=some (.slice A4 p.length c4)∧W.cell? ⟨w.heap.size+1,0,none⟩=some (.string an)∧W.cell? ⟨w.heap.size+1,1,none⟩=some (.int .i64 ao)∧W.cell? ⟨w.heap.size+1,2,none⟩=some (.string av) from by
  refine ⟨?_,?_,?_,?_,?_,?_,?_,?_,?_⟩<;>exact keep6 hb (by rw [hW1];simp [go_sem])))
 clear hx hp
 obtain ⟨x0,x1,x2,x3,x4,x5,y0,y1,y2⟩:=KX.out _ (Below.refl _ _)
 go_enter Tryz.func130,Tryz.ntmps130
 go_wp2_with fail
 rw [←hW1]
 clear hW1
 go_wp2_with fail
 refine (KG.out _ B1.out).mono ?_
 rintro e w2 ⟨⟨Ag,cg,rfl,hg⟩,hb⟩
 clear x0 x1 x2 x3 x4 x5 y0 y1 y2
 obtain ⟨-,hgc,hgm,-⟩:=rdAtms_at hg
 have hgm':cg≤9223372036854775807:=hgm
 have HG:=Lib.hid (fun (W:World) (hB:Below w2.heap.size w2 W)=>(rdAtms_at (rdAtms_good.both hg (fun k hk=>hB.block k hk.2) (fun k hk=>hk))).2.2.2)
 have B2:=Lib.hid (B1.out.trans (hb.mono B1.out.size))
 have HX:=Lib.hid (fun (W:World) (hB:Below w2.heap.size w2 W)=>(KX.out W (hb.trans (hB.mono hb.size))).2.2.2.2.2.2)
 clear hb hg hgm KX KG
 go_wp2
 go_loopw [6] (fun i wr=>∃j:Nat,j≤g.length∧i=.int .i64 j∧Hid ((g.take j).any pa=false)∧Below w2.heap.size w2 wr) (fun i _=>g.length - (intOf i).toNat)
 case atStart=>exact ⟨0,Nat.zero_le _,rfl,Lib.hid rfl,Below.refl _ _⟩
 case round=>
  obtain ⟨j,hj,rfl,HA,hbel⟩:=hrel
  have HBI:=Lib.hid hbel
  clear hbel
  by_cases hjl:j < g.length
  ·have ST2:=Lib.hid (fun hf=>none_step6 (f:=pa) hjl HA.out hf)
   have SP2:=Lib.hid (fun hf=>any_stop6 (f:=pa) hjl hf)
   obtain ⟨y0,y1,y2⟩:=HX.out wr HBI.out
   obtain ⟨adg,rfl,-,g0,g1,g2⟩:=HG.out wr HBI.out j hjl
   have j0:(0:Int)≤(j:Int):=by omega
   have j1:(j:Int) < (g.length:Int):=by omega
   have z0:=fun dd os=>cell_regrown (w:=wr) y0 dd os
   have z1:=fun dd os=>cell_regrown (w:=wr) y1 dd os
   have z2:=fun dd os=>cell_regrown (w:=wr) y2 dd os
   have xg0:=fun dd os=>cell_regrown (w:=wr) g0 dd os
   have xg1:=fun dd os=>cell_regrown (w:=wr) g1 dd os
   have xg2:=fun dd os=>cell_regrown (w:=wr) g2 dd os
   have BD:=Lib.hid (fun dd os=>below_regrown wr dd os)
   have K1:=Lib.hid (fun dd os=>KP.out g[j] (grow (redrawn wr dd) os))
   have PV:=Lib.hid (KPV.out g[j])
   generalize provB (B an) ao (B av) (B g[j].n) g[j].o (B g[j].v)=q at *
   generalize g[j]=gj at *
   obtain ⟨bn,bo,bv⟩:=gj
   simp only at g0 g1 g2 xg0 xg1 xg2 K1
   clear g0 g1 g2 y0 y1 y2 HA
   go_wp2_with fail
   refine wp_region_quiet_below mixed (by kernel_rfl) ?_
   repeat (go_big_quiet_step (first|(go_at_call 154;refine Calls.regrown_of (K1.out _ _))))
   refine wpQuiet_nil ?_
   intro W3 hw3
   have BW3:=Lib.hid (show Below wr.heap.size wr W3 from by obtain ⟨pp,e⟩:=hw3;rw [e];exact BD.out pp.d pp.os)
   have BX:=Lib.hid (bel_in HBI.out BW3.out)
   clear hw3 BD z0 z1 z2 xg0 xg1 xg2 K1
   cases q
   ·have NX:=Lib.hid (ST2.out PV.out.symm)
    go_wp2
    go_roundw
    case rel=>exact ⟨j+1,by omega,by go_num,NX,BX.out⟩
    case measure=>simp [intOf];omega
   ·have XX:=Lib.hid (show bb=true by rw [X.out];exact SP2.out PV.out.symm)
    go_wp2
    go_ret
    exact ⟨by rw [XX.out];try rfl,bel_in B2.out BX.out⟩
  ·obtain rfl:j=g.length:=by omega
   have j0:¬(g.length:Int) < (g.length:Int):=by omega
   have XX:=Lib.hid (show bb=false by rw [X.out];have:=HA.out;rwa [List.take_length] at this)
   go_wp2
   go_ret
   exact ⟨by rw [XX.out];try rfl,bel_in B2.out HBI.out⟩
set_option maxHeartbeats 16000000 in
theorem q10gives_any (b:Nat) (U:List Ent) (m:List Hr) (Al:Option Addr) (nl cl:Nat) (l:List Int) (a:Atm) (w:World) (h:UR w b U m) (hl:rdInts w (lt_ w.heap.size) l [.slice Al nl cl]) (hs:∀p ∈ l,0≤p∧p < (U.length:Int)) (hp:∀x ∈ U,x.p.length≤1000) :
  Calls Tryz.prog 94 #[.pointer (some ⟨b,0,none⟩),.slice Al nl cl,.agg #[.string a.n,.int .i64 a.o,.string a.v]] w fun e w'=>e=.returned (.bool (givS U l a))∧Below w.heap.size w w':=by
 have mixed:Tryz.prog.follows .mixedOrders=true:=by kernel_rfl
 obtain ⟨rfl,hlc,hlm,-⟩:=rdInts_at hl
 have hlm':cl≤9223372036854775807:=hlm
 have HL:=Lib.hid (fun (W:World) (hb:Below w.heap.size w W)=>(rdInts_at (rdInts_good.up (rdInts_good.below hl hb) hb.size)).2.2.2)
 obtain ⟨Au,cu,Av,cv,h1,-,h3,-⟩:=h
 obtain ⟨-,huc,hum,-⟩:=rdEnts_at h3
 have hum':cu≤9223372036854775807:=hum
 have HU1:=Lib.hid h1
 have HU:=Lib.hid (fun (W:World) (hb:Below w.heap.size w W)=>(rdEnts_at (rdEnts_good.both (w':=W) (S':=lt_ W.heap.size) h3 (fun k hk=>hb.block k hk.1) (fun k hk=>Nat.lt_of_lt_of_le hk.1 hb.size))).2.2.2)
 have HS:=Lib.hid hs
 have HP:=Lib.hid hp
 have X:=Lib.hid (show givS U l a=l.any (fun p=>gvA a (entA U p)) from rfl)
 clear hl hlm h1 h3 hum hs hp
 generalize givS U l a=bb at *
 have KG:=Lib.hid (fun (x:Ent) (A1:Option Addr) (c1:Nat) (A2:Option Addr) (c2:Nat) (A3:Option Addr) (c3:Nat) (A4:Option Addr) (c4:Nat) (W:World) hx hp=>q9gives_any x a A1 c1 A2 c2 A3 c3 A4 c4 W hx hp)
 generalize hga:(fun x=>gvA a x)=ga at *
 have HGA:=Lib.hid (fun x=>(congrFun hga x:gvA a x=ga x))
 simp only [HGA.out] at X KG
 clear hga HGA
 obtain ⟨an,ao,av⟩:=a
 obtain ⟨W1,hW1⟩:∃W,W=w.alloc (.cells #[.string an,.int .i64 ao,.string av] 100):=⟨_,rfl⟩
 have B1:=Lib.hid (show Below w.heap.size w W1 by rw [hW1];exact (Below.refl _ w).alloc (Nat.le_refl _) _)
 have KX:=Lib.hid (fun (W:World) (hb:Below W1.heap.size W1 W)=>(show W.cell? ⟨w.heap.size,0,none⟩=some (.string an)∧W.cell? ⟨w.heap.size,1,none⟩=some (.int .i64 ao)∧W.cell? ⟨w.heap.size,2,none⟩=some (.string av) from by
  refine ⟨?_,?_,?_⟩<;>exact keep6 hb (by rw [hW1];simp [go_sem])))
 go_enter Tryz.func94,Tryz.ntmps94
 go_wp2_with fail
 rw [←hW1]
 clear hW1
 go_wp2
 go_loopw [7] (fun i wr=>∃k:Nat,k≤l.length∧i=.int .i64 k∧Hid ((l.take k).any (fun p=>ga (entA U p))=false)∧Below W1.heap.size W1 wr) (fun i _=>l.length - (intOf i).toNat)
 case atStart=>exact ⟨0,Nat.zero_le _,rfl,Lib.hid rfl,Below.refl _ _⟩
 case round=>
  obtain ⟨k,hk,rfl,HA,hbel⟩:=hrel
  have HBI:=Lib.hid hbel
  have HBW:=Lib.hid (bel_in B1.out hbel)
  clear hbel
  by_cases hlt:k < l.length
  ·have ST:=Lib.hid (fun hf=>none_step6 (f:=fun p=>ga (entA U p)) hlt HA.out hf)
   have SP:=Lib.hid (fun hf=>any_stop6 (f:=fun p=>ga (entA U p)) hlt hf)
   obtain ⟨y0,y1,y2⟩:=KX.out wr HBI.out
   obtain ⟨adl,rfl,-,l0⟩:=HL.out wr HBW.out k hlt
   obtain ⟨s0,s1⟩:=HS.out _ (List.getElem_mem hlt)
   obtain ⟨j,hj⟩:=Int.eq_ofNat_of_zero_le s0
   rw [hj] at l0 s1 ST SP
   have hjl:j < U.length:=by omega
   obtain ⟨adu,A1,c1,A2,c2,A3,c3,A4,c4,rfl,-,hv,u0,u1,u2,u3,u4,u5⟩:=HU.out wr HBW.out j hjl
   have b0:=keep6 HBW.out HU1.out
   simp only [entA_at hjl] at ST SP
   have i0:(0:Int)≤(k:Int):=by omega
   have i1:(k:Int) < (l.length:Int):=by omega
   have j0:(0:Int)≤(j:Int):=by omega
   have j1:(j:Int) < (U.length:Int):=by omega
   have z0:=fun dd os=>cell_regrown (w:=wr) y0 dd os
   have z1:=fun dd os=>cell_regrown (w:=wr) y1 dd os
   have z2:=fun dd os=>cell_regrown (w:=wr) y2 dd os
   have zl:=fun dd os=>cell_regrown (w:=wr) l0 dd os
   have zb:=fun dd os=>cell_regrown (w:=wr) b0 dd os
   have v0:=fun dd os=>cell_regrown (w:=wr) u0 dd os
   have v1:=fun dd os=>cell_regrown (w:=wr) u1 dd os
   have v2:=fun dd os=>cell_regrown (w:=wr) u2 dd os
   have v3:=fun dd os=>cell_regrown (w:=wr) u3 dd os
   have v4:=fun dd os=>cell_regrown (w:=wr) u4 dd os
   have v5:=fun dd os=>cell_regrown (w:=wr) u5 dd os
   have BD:=Lib.hid (fun dd os=>below_regrown wr dd os)
   have K1:=Lib.hid (fun dd os=>KG.out U[j] A1 c1 A2 c2 A3 c3 A4 c4 (grow (redrawn wr dd) os) (hv.on (below_regrown wr dd os)) (HP.out _ (List.getElem_mem hjl)))
   generalize hq:ga U[j]=q at *
   generalize U[j]=xj at *
   obtain ⟨n,v,d,r,c',p⟩:=xj
   simp only at v0 v1 v2 v3 v4 v5 K1
   clear y0 y1 y2 u0 u1 u2 u3 u4 u5 l0 hv HA hj s0 s1 hq
   go_wp2_with fail
   refine wp_region_quiet_below mixed (by kernel_rfl) ?_
   repeat (go_big_quiet_step (first|(go_at_call 130;refine Calls.regrown_of (K1.out _ _))))
   refine wpQuiet_nil ?_
   intro W3 hw3
   have BW3:=Lib.hid (show Below wr.heap.size wr W3 from by obtain ⟨pp,e⟩:=hw3;rw [e];exact BD.out pp.d pp.os)
   have BX:=Lib.hid (bel_in HBI.out BW3.out)
   clear hw3 BD z0 z1 z2 zl zb v0 v1 v2 v3 v4 v5 K1 b0
   cases q
   ·have NX:=Lib.hid (ST.out rfl)
    go_wp2
    go_roundw
    case rel=>exact ⟨k+1,by omega,by go_num,NX,BX.out⟩
    case measure=>simp [intOf];omega
   ·have XX:=Lib.hid (show bb=true by rw [X.out];exact SP.out rfl)
    go_wp2
    go_ret
    exact ⟨by rw [XX.out];try rfl,bel_in B1.out BX.out⟩
  ·obtain rfl:k=l.length:=by omega
   have j0:¬(l.length:Int) < (l.length:Int):=by omega
   have XX:=Lib.hid (show bb=false by rw [X.out];have:=HA.out;rwa [List.take_length] at this)
   go_wp2
   go_ret
   exact ⟨by rw [XX.out];try rfl,HBW.out⟩
set_option maxHeartbeats 16000000 in
theorem q10group_any (b:Nat) (U:List Ent) (m:List Hr) (Al:Option Addr) (nl cl:Nat) (l:List Int) (Ag:Option Addr) (ng cg:Nat) (g:List Atm) (w:World) (h:UR w b U m) (hl:rdInts w (lt_ w.heap.size) l [.slice Al nl cl]) (hs:∀p ∈ l,0≤p∧p < (U.length:Int)) (hp:∀x ∈ U,x.p.length≤1000) (hg:rdAtms w (lt_ w.heap.size) g [.slice Ag ng cg]) :
  Calls Tryz.prog 61 #[.pointer (some ⟨b,0,none⟩),.slice Al nl cl,.slice Ag ng cg] w fun e w'=>e=.returned (.bool (metS U l g))∧Below w.heap.size w w':=by
 have K:=Lib.hid (fun (a:Atm) (W:World) (hb:Below w.heap.size w W)=>q10gives_any b U m Al nl cl l a W (h.below hb) (rdInts_good.up (rdInts_good.below hl hb) hb.size) hs hp)
 obtain ⟨rfl,hgc,hgm,-⟩:=rdAtms_at hg
 have hgm':cg≤9223372036854775807:=hgm
 have HG:=Lib.hid (fun (W:World) (hb:Below w.heap.size w W)=>(rdAtms_at (rdAtms_good.up (rdAtms_good.below hg hb) hb.size)).2.2.2)
 have X:=Lib.hid (show metS U l g=g.any (givS U l) from rfl)
 clear h hl hs hp hg hgm
 generalize metS U l g=bb at *
 generalize givS U l=f at *
 go_enter Tryz.func61,Tryz.ntmps61
 go_wp2
 go_loopw [7] (fun i wr=>∃k:Nat,k≤g.length∧i=.int .i64 k∧Hid ((g.take k).any f=false)∧Below w.heap.size w wr) (fun i _=>g.length - (intOf i).toNat)
 case atStart=>exact ⟨0,Nat.zero_le _,rfl,Lib.hid rfl,Below.refl _ _⟩
 case round=>
  obtain ⟨k,hk,rfl,HA,hbel⟩:=hrel
  have HB:=Lib.hid hbel
  clear hbel
  by_cases hlt:k < g.length
  ·have ST:=Lib.hid (fun hf=>none_step6 (f:=f) hlt HA.out hf)
   have SP:=Lib.hid (fun hf=>any_stop6 (f:=f) hlt hf)
   obtain ⟨adg,rfl,-,g0,g1,g2⟩:=HG.out wr HB.out k hlt
   have i0:(0:Int)≤(k:Int):=by omega
   have i1:(k:Int) < (g.length:Int):=by omega
   have K1:=Lib.hid (K.out g[k] wr HB.out)
   generalize hq:f g[k]=q at *
   generalize g[k]=x at *
   obtain ⟨an,ao,av⟩:=x
   simp only at g0 g1 g2 K1
   clear HA hq
   go_wp2_with fail
   refine K1.out.mono ?_
   rintro e w3 ⟨rfl,hb⟩
   have B3:=Lib.hid (bel_in HB.out hb)
   clear hb K1 g0 g1 g2
   cases q
   ·have NX:=Lib.hid (ST.out rfl)
    go_wp2
    go_roundw
    case rel=>exact ⟨k+1,by omega,by go_num,NX,B3.out⟩
    case measure=>simp [intOf];omega
   ·have XX:=Lib.hid (show bb=true by rw [X.out];exact SP.out rfl)
    go_wp2
    go_ret
    exact ⟨by rw [XX.out];try rfl,B3.out⟩
  ·obtain rfl:k=g.length:=by omega
   have j0:¬(g.length:Int) < (g.length:Int):=by omega
   have XX:=Lib.hid (show bb=false by rw [X.out];have:=HA.out;rwa [List.take_length] at this)
   go_wp2
   go_ret
   exact ⟨by rw [XX.out];try rfl,HB.out⟩
set_option maxHeartbeats 16000000 in
theorem q10set_any (b:Nat) (U:List Ent) (m:List Hr) (Al:Option Addr) (nl cl:Nat) (l:List Int) (w:World) (h:UR w b U m) (hl:rdInts w (lt_ w.heap.size) l [.slice Al nl cl]) :
  Calls Tryz.prog 44 #[.pointer (some ⟨b,0,none⟩),.slice Al nl cl] w fun e w'=>e=.returned (.bool (setB U.length l))∧Below w.heap.size w w':=by
 have mixed:Tryz.prog.follows .mixedOrders=true:=by kernel_rfl
 obtain ⟨rfl,hlc,hlm,-⟩:=rdInts_at hl
 have hlm':cl≤9223372036854775807:=hlm
 have HL:=Lib.hid (fun (W:World) (hb:Below w.heap.size w W)=>(rdInts_at (rdInts_good.up (rdInts_good.below hl hb) hb.size)).2.2.2)
 obtain ⟨Au,cu,Av,cv,h1,-,h3,-⟩:=h
 obtain ⟨-,huc,hum,-⟩:=rdEnts_at h3
 have hum':cu≤9223372036854775807:=hum
 have HU1:=Lib.hid h1
 have HU:=Lib.hid (fun (W:World) (hb:Below w.heap.size w W)=>(rdEnts_at (rdEnts_good.both (w':=W) (S':=lt_ W.heap.size) h3 (fun k hk=>hb.block k hk.1) (fun k hk=>Nat.lt_of_lt_of_le hk.1 hb.size))).2.2.2)
 have X1:=Lib.hid (fun (k:Nat) (hk:k < l.length) (h:l[k] < 0)=>setB_lo (n:=U.length) hk h)
 have X2:=Lib.hid (fun (k:Nat) (hk:k < l.length) (h:(U.length:Int)≤l[k])=>setB_hi (n:=U.length) hk h)
 have X3:=Lib.hid (fun (k:Nat) (hk:k+1 < l.length) (h:l[k+1]≤l[k])=>setB_dn (n:=U.length) hk h)
 have X4:=Lib.hid (fun (h:AdjP U.length l l.length)=>adj_set h)
 clear hl hlm h1 h3 hum
 generalize setB U.length l=bb at *
 go_enter Tryz.func44,Tryz.ntmps44
 go_wp2
 go_loopw [5] (fun i wr=>∃k:Nat,k≤l.length∧i=.int .i64 k∧Hid (AdjP U.length l k)∧Below w.heap.size w wr) (fun i _=>l.length - (intOf i).toNat)
 case atStart=>exact ⟨0,Nat.zero_le _,rfl,Lib.hid (AdjP.zero _ _),Below.refl _ _⟩
 case round=>
  obtain ⟨k,hk,rfl,HA,hbel⟩:=hrel
  have HB:=Lib.hid hbel
  clear hbel
  by_cases hlt:k < l.length
  ·obtain ⟨adl,rfl,-,l0⟩:=HL.out wr HB.out k hlt
   have b0:=keep6 HB.out HU1.out
   have HC:=Lib.hid (fun (W:World) (hb:Below wr.heap.size wr W)=>HL.out W (bel_in HB.out hb))
   have i0:(0:Int)≤(k:Int):=by omega
   have i1:(k:Int) < (l.length:Int):=by omega
   have zl:=fun dd os=>cell_regrown (w:=wr) l0 dd os
   have zb:=fun dd os=>cell_regrown (w:=wr) b0 dd os
   have BD:=Lib.hid (fun dd os=>below_regrown wr dd os)
   have Y1:=Lib.hid (X1.out k hlt)
   have Y2:=Lib.hid (X2.out k hlt)
   have NS:=Lib.hid (fun h0 h1 h2=>AdjP.step HA.out hlt h0 h1 h2)
   rcases k with _|k
   ·have NS0:=Lib.hid (fun h0 h1=>NS.out h0 h1 (fun i _ e=>by omega))
    have zl:=fun dd os=>cell_regrown (w:=wr) (show wr.cell? adl=some (.int .i64 l[0]) from l0) dd os
    generalize l[0]=x at *
    clear NS
    by_cases h0:x < 0
    ·have XX:=Lib.hid (show bb=false from Y1.out h0)
     clear HC
     go_wp2_with fail
     refine wp_region_quiet_below mixed (by kernel_rfl) ?_
     repeat (go_big_quiet_step (fail))
     refine wpQuiet_nil ?_
     intro W3 hw3
     have BW3:=Lib.hid (show Below wr.heap.size wr W3 from by obtain ⟨pp,e⟩:=hw3;rw [e];exact BD.out pp.d pp.os)
     have BX:=Lib.hid (bel_in HB.out BW3.out)
     clear hw3 BD zl zb
     go_wp2
     go_ret
     exact ⟨by rw [XX.out];try rfl,BX.out⟩
    have hd0:decide (x < 0)=false:=decide_eq_false h0
    by_cases h1:(U.length:Int)≤x
    ·have XX:=Lib.hid (show bb=false from Y2.out h1)
     clear HC
     go_wp2_with fail
     refine wp_region_quiet_below mixed (by kernel_rfl) ?_
     repeat (go_big_quiet_step (fail))
     refine wpQuiet_nil ?_
     intro W3 hw3
     have BW3:=Lib.hid (show Below wr.heap.size wr W3 from by obtain ⟨pp,e⟩:=hw3;rw [e];exact BD.out pp.d pp.os)
     have BX:=Lib.hid (bel_in HB.out BW3.out)
     clear hw3 BD zl zb
     go_wp2
     go_ret
     exact ⟨by rw [XX.out];try rfl,BX.out⟩
    have hd1:decide ((U.length:Int)≤x)=false:=decide_eq_false h1
    have NX:=Lib.hid (NS0.out (by omega) (by omega))
    clear NS0 HC
    go_wp2_with fail
    refine wp_region_quiet_below mixed (by kernel_rfl) ?_
    repeat (go_big_quiet_step (fail))
    refine wpQuiet_nil ?_
    intro W3 hw3
    have BW3:=Lib.hid (show Below wr.heap.size wr W3 from by obtain ⟨pp,e⟩:=hw3;rw [e];exact BD.out pp.d pp.os)
    have BX:=Lib.hid (bel_in HB.out BW3.out)
    clear hw3 BD zl zb
    go_wp2
    go_roundw
    case rel=>exact ⟨1,by omega,rfl,NX,BX.out⟩
    case measure=>simp [intOf];omega
   ·obtain ⟨ad',ea,-,p0⟩:=HL.out wr HB.out k (by omega)
    obtain rfl:adl=ad':=Option.some.inj ea
    have zl:=fun dd os=>cell_regrown (w:=wr) (show wr.cell? ⟨adl.block,adl.off+(k+1),none⟩=some (.int .i64 l[k+1]) from l0) dd os
    have zp:=fun dd os=>cell_regrown (w:=wr) p0 dd os
    have i2:(0:Int)≤(k:Int):=by omega
    have i3:(k:Int) < (l.length:Int):=by omega
    have i4:(0:Int) < (k:Int)+1:=by omega
    have i5:IntKind.i64.wrap (k:Int)=(k:Int):=IntWalk.i64_in _ (by omega)
    have i6:(0:Int)≤(k:Int)+1:=by omega
    have i7:(k:Int)+1 < (l.length:Int):=by omega
    have Y3:=Lib.hid (X3.out k hlt)
    have NS0:=Lib.hid (fun h0 h1 (h2:l[k] < l[k+1])=>NS.out h0 h1 (fun i hi e=>by
     obtain rfl:i=k:=by omega
     exact h2))
    clear NS ea
    generalize l[k+1]=x at *
    generalize l[k]=y at *
    by_cases h0:x < 0
    ·have XX:=Lib.hid (show bb=false from Y1.out h0)
     clear HC
     go_wp2_with fail
     refine wp_region_quiet_below mixed (by kernel_rfl) ?_
     repeat (go_big_quiet_step (fail))
     refine wpQuiet_nil ?_
     intro W3 hw3
     have BW3:=Lib.hid (show Below wr.heap.size wr W3 from by obtain ⟨pp,e⟩:=hw3;rw [e];exact BD.out pp.d pp.os)
     have BX:=Lib.hid (bel_in HB.out BW3.out)
     clear hw3 BD zl zb zp
     go_wp2
     go_ret
     exact ⟨by rw [XX.out];try rfl,BX.out⟩
    have hd0:decide (x < 0)=false:=decide_eq_false h0
    by_cases h1:(U.length:Int)≤x
    ·have XX:=Lib.hid (show bb=false from Y2.out h1)
     clear HC
     go_wp2_with fail
     refine wp_region_quiet_below mixed (by kernel_rfl) ?_
     repeat (go_big_quiet_step (fail))
     refine wpQuiet_nil ?_
     intro W3 hw3
     have BW3:=Lib.hid (show Below wr.heap.size wr W3 from by obtain ⟨pp,e⟩:=hw3;rw [e];exact BD.out pp.d pp.os)
     have BX:=Lib.hid (bel_in HB.out BW3.out)
     clear hw3 BD zl zb zp
     go_wp2
     go_ret
     exact ⟨by rw [XX.out];try rfl,BX.out⟩
    have hd1:decide ((U.length:Int)≤x)=false:=decide_eq_false h1
    by_cases h2:x≤y
    ·have XX:=Lib.hid (show bb=false from Y3.out h2)
     clear HC
     go_wp2_with fail
     refine wp_region_quiet_below mixed (by kernel_rfl) ?_
     repeat (go_big_quiet_step (fail))
     refine wpQuiet_nil ?_
     intro W3 hw3
     have BW3:=Lib.hid (show Below wr.heap.size wr W3 from by obtain ⟨pp,e⟩:=hw3;rw [e];exact BD.out pp.d pp.os)
     have BX:=Lib.hid (bel_in HB.out BW3.out)
     clear hw3 BD zl zb zp
     go_wp2
     go_ret
     exact ⟨by rw [XX.out];try rfl,BX.out⟩
    have hd2:decide (x≤y)=false:=decide_eq_false h2
    have NX:=Lib.hid (NS0.out (by omega) (by omega) (by omega))
    clear NS0 HC
    go_wp2_with fail
    refine wp_region_quiet_below mixed (by kernel_rfl) ?_
    repeat (go_big_quiet_step (fail))
    refine wpQuiet_nil ?_
    intro W3 hw3
    have BW3:=Lib.hid (show Below wr.heap.size wr W3 from by obtain ⟨pp,e⟩:=hw3;rw [e];exact BD.out pp.d pp.os)
    have BX:=Lib.hid (bel_in HB.out BW3.out)
    clear hw3 BD zl zb zp
    go_wp2
    go_roundw
    case rel=>exact ⟨k+1+1,by omega,by go_num,NX,BX.out⟩
    case measure=>simp [intOf];omega
  ·obtain rfl:k=l.length:=by omega
   have j0:¬(l.length:Int) < (l.length:Int):=by omega
   have XX:=Lib.hid (show bb=true from X4.out HA.out)
   go_wp2
   go_ret
   exact ⟨by rw [XX.out];try rfl,HB.out⟩
end Go.Proofs.YtpilmhoakopcaaaGreatDoor
namespace Go.Proofs.YtpilmhoakopcaaaGreatDoor
open Go.RowKit
set_option maxHeartbeats 8000000 in
theorem q9instO_any (b:Nat) (l:List Ent) (m:List Hr) (w:World) (h:UR w b l m) (hm:m.length≤200) :
  Calls Tryz.prog 46 #[.pointer (some ⟨b,0,none⟩)] w fun e w'=>(∃A c,e=.returned (.slice A (insU l m).length c)∧rdInts w' (fun k=>w.heap.size≤k∧k < w'.heap.size) (insU l m) [.slice A (insU l m).length c])∧Below w.heap.size w w':=by
 have HU:=Lib.hid (fun (W:World) (hb:Below w.heap.size w W)=>h.below hb)
 obtain ⟨fi,hi,hz0,hz1,hz2⟩:=info_parts int9_info
 obtain ⟨A,c,A',c',-,h1,-,h4⟩:=id h
 obtain ⟨-,hnc,hcm,-⟩:=rdHrs_at h4
 have hcm':c'≤9223372036854775807:=hcm
 have H4:=Lib.hid (fun (W:World) (hb:Below w.heap.size w W)=>rdHrs_good.keep (w':=W) h4 (fun k hk=>hb.block k hk.1))
 clear hcm h h4
 go_enter Tryz.func46,Tryz.ntmps46
 go_wp2
 go_loopw [3,4] (fun v i wr=>∃k:Nat,k≤m.length∧i=.int .i64 k∧Grow rdInt 1 (fun _=>True) wr w.heap.size 3 v (insU l (m.take k))∧Below w.heap.size w wr) (fun _ i _=>m.length - (intOf i).toNat)
 case atStart=>exact ⟨0,Nat.zero_le _,rfl,Grow.nil _ _ _ _,Below.refl _ _⟩
 case round=>
  obtain ⟨k,hk,rfl,hG,hbel⟩:=hrel
  have HB:=Lib.hid hbel
  have HG:=Lib.hid hG
  have b0:wr.cell? ⟨b,1,none⟩=some (.slice A' m.length c'):=keep6 hbel h1
  clear hG
  by_cases hlt:k < m.length
  ·obtain ⟨-,-,-,hat⟩:=rdHrs_at (H4.out wr hbel)
   obtain ⟨ad,D1,e1,D2,e2,D3,e3,D4,e4,rfl,had,-,h0,h1',-,-,-,-,-,h7⟩:=hat k hlt
   have hadl:ad.block < w.heap.size:=had.1
   have i0:(0:Int)≤(k:Int):=by omega
   have i1:(k:Int) < (m.length:Int):=by omega
   have KP:=Lib.hid (fun (W:World) (hb:Below w.heap.size w W)=>q9place_any b l m m[k].e.n m[k].e.v W (HU.out W hb))
   have ST:=Lib.hid (insU_step (l:=l) hlt)
   have hln:(insU l (m.take k)).length≤200:=by unfold insU;rw [List.length_map,List.length_take];omega
   have KS:=Lib.hid (fun (W:World) (hb:Below w.heap.size w W)=>(show W.cell? ⟨b,1,none⟩=some (.slice (some ad) m.length c')∧W.cell? (ad.add (k*8))=some (.string m[k].e.n)∧W.cell? ⟨(ad.add (k*8)).block,(ad.add (k*8)).off+1,none⟩=some (.string m[k].e.v) from
    ⟨keep6 hb h1,by
     obtain ⟨-,-,-,hat⟩:=rdHrs_at (H4.out W hb)
     obtain ⟨ad',_,_,_,_,_,_,_,_,e,_,_,h0,h1',_⟩:=hat k hlt
     obtain rfl:ad=ad':=Option.some.inj e
     exact h0,by
     obtain ⟨-,-,-,hat⟩:=rdHrs_at (H4.out W hb)
     obtain ⟨ad',_,_,_,_,_,_,_,_,e,_,_,h0,h1',_⟩:=hat k hlt
     obtain rfl:ad=ad':=Option.some.inj e
     exact h1'⟩))
   clear had hat h0 h1' hbel
   generalize m[k].e.n=n at *
   generalize m[k].e.v=v at *
   generalize plU n v l 0=pl at *
   generalize hgg:insU l (m.take k)=gl at *
   generalize hgn:insU l (m.take (k+1))=gn at *
   have HGN:=Lib.hid hgn
   clear hgg hgn
   clear h7
   go_wp2_with fail
   refine wp_region_noPanic ?_
   refine wp_region_D (fun W=>W.cell? ⟨b,1,none⟩=some (.slice (some ad) m.length c')∧W.cell? (ad.add (k*8))=some (.string n)∧W.cell? ⟨(ad.add (k*8)).block,(ad.add (k*8)).off+1,none⟩=some (.string v)) 23 (by kernel_rfl) (w0:=wr) (Dr.refl _) (fun V hV=>KS.out V (HB.out.trans ((hV.below wr.heap.size).mono HB.out.size))) (fun V hV hHeld=>?_)
   have BV:=Lib.hid (HB.out.trans ((hV.below wr.heap.size).mono HB.out.size))
   have GV:=Lib.hid (HG.out.below rdInt_good (hV.below wr.heap.size))
   clear hV
   refine wpAnyL_take (i:=0) (v:=?_) [22] rfl (by kernel_rfl) (by kernel_rfl) (by kernel_rfl) (fun _ _ _ h=>h) (by kernel_rfl) (by kernel_rfl) (by kernel_rfl) (Or.inl ⟨by rfl,?_⟩) (by assumption) ?_
   rotate_left
   ·intro w hSw
    try dsimp only at hSw
    go_simp
    first|done|with_reducible rfl
   try simp only [Act.put,List.setIfInBounds_toArray,List.set_cons_zero,List.set_cons_succ]
   refine wpAnyL_take (i:=1) (v:=?_) [22,21,20] rfl (by kernel_rfl) (by kernel_rfl) (by kernel_rfl) (fun _ _ _ h=>h) (by kernel_rfl) (by kernel_rfl) (by kernel_rfl) (Or.inl ⟨by rfl,?_⟩) (by assumption) ?_
   rotate_left
   ·intro w hSw
    try dsimp only at hSw
    go_simp
    first|done|with_reducible rfl
   try simp only [Act.put,List.setIfInBounds_toArray,List.set_cons_zero,List.set_cons_succ]
   refine wpAnyL_take (i:=2) (v:=?_) [22,21,20,10,9,8,7,5,4,3] rfl (by kernel_rfl) (by kernel_rfl) (by kernel_rfl) (fun _ _ _ h=>h) (by kernel_rfl) (by kernel_rfl) (by kernel_rfl) (Or.inl ⟨by rfl,?_⟩) (by assumption) ?_
   rotate_left
   ·intro w hSw
    try dsimp only at hSw
    go_simp
    first|done|with_reducible rfl
   try simp only [Act.put,List.setIfInBounds_toArray,List.set_cons_zero,List.set_cons_succ]
   refine wpAnyL_take (i:=3) (v:=?_) [22,21,20,10,9,8,7,5,4] rfl (by kernel_rfl) (by kernel_rfl) (by kernel_rfl) (fun _ _ _ h=>h) (by kernel_rfl) (by kernel_rfl) (by kernel_rfl) (Or.inl ⟨by rfl,?_⟩) (by assumption) ?_
   rotate_left
   ·intro w hSw
    try dsimp only at hSw
    go_simp
    first|done|with_reducible rfl
   try simp only [Act.put,List.setIfInBounds_toArray,List.set_cons_zero,List.set_cons_succ]
   refine wpAnyL_take (i:=4) (v:=?_) [22,21,20,10,9,8,7,5] rfl (by kernel_rfl) (by kernel_rfl) (by kernel_rfl) (fun _ _ _ h=>h) (by kernel_rfl) (by kernel_rfl) (by kernel_rfl) (Or.inl ⟨by rfl,?_⟩) (by assumption) ?_
   rotate_left
   ·intro w hSw
    try dsimp only at hSw
    go_simp
    first|done|with_reducible rfl
   try simp only [Act.put,List.setIfInBounds_toArray,List.set_cons_zero,List.set_cons_succ]
   refine wpAnyL_take (i:=5) (v:=?_) [22,21,20,10,9,8,7] rfl (by kernel_rfl) (by kernel_rfl) (by kernel_rfl) (fun _ _ _ h=>h) (by kernel_rfl) (by kernel_rfl) (by kernel_rfl) (Or.inl ⟨by rfl,?_⟩) (by assumption) ?_
   rotate_left
   ·intro w hSw
    try dsimp only at hSw
    go_simp
    first|done|with_reducible rfl
   try simp only [Act.put,List.setIfInBounds_toArray,List.set_cons_zero,List.set_cons_succ]
   refine wpAnyL_take (i:=6) (v:=?_) [22,21,20,10,9,8,7] rfl (by kernel_rfl) (by kernel_rfl) (by kernel_rfl) (fun _ _ _ h=>h) (by kernel_rfl) (by kernel_rfl) (by kernel_rfl) (Or.inl ⟨by rfl,?_⟩) (by assumption) ?_
   rotate_left
   ·intro w hSw
    try dsimp only at hSw
    go_simp
    first|done|with_reducible rfl
   try simp only [Act.put,List.setIfInBounds_toArray,List.set_cons_zero,List.set_cons_succ]
   refine wpAnyL_take (i:=7) (v:=?_) [22,21,20,10,9,8] rfl (by kernel_rfl) (by kernel_rfl) (by kernel_rfl) (fun _ _ _ h=>h) (by kernel_rfl) (by kernel_rfl) (by kernel_rfl) (Or.inl ⟨by rfl,?_⟩) (by assumption) ?_
   rotate_left
   ·intro w hSw
    try dsimp only at hSw
    go_simp
    first|done|with_reducible rfl
   try simp only [Act.put,List.setIfInBounds_toArray,List.set_cons_zero,List.set_cons_succ]
   refine wpAnyL_take (i:=8) (v:=?_) [22,21,20,10,9] rfl (by kernel_rfl) (by kernel_rfl) (by kernel_rfl) (fun _ _ _ h=>h) (by kernel_rfl) (by kernel_rfl) (by kernel_rfl) (Or.inl ⟨by rfl,?_⟩) (by assumption) ?_
   rotate_left
   ·intro w hSw
    try dsimp only at hSw
    go_simp
    first|done|with_reducible rfl
   try simp only [Act.put,List.setIfInBounds_toArray,List.set_cons_zero,List.set_cons_succ]
   refine wpAnyL_take (i:=9) (v:=?_) [22,21,20,10] rfl (by kernel_rfl) (by kernel_rfl) (by kernel_rfl) (fun _ _ _ h=>h) (by kernel_rfl) (by kernel_rfl) (by kernel_rfl) (Or.inl ⟨by rfl,?_⟩) (by assumption) ?_
   rotate_left
   ·intro w hSw
    try dsimp only at hSw
    go_simp
    first|done|with_reducible rfl
   try simp only [Act.put,List.setIfInBounds_toArray,List.set_cons_zero,List.set_cons_succ]
   refine wpAnyL_take (i:=10) (v:=?_) [22,21,20] rfl (by kernel_rfl) (by kernel_rfl) (by kernel_rfl) (fun _ _ _ h=>h) (by kernel_rfl) (by kernel_rfl) (by kernel_rfl) (Or.inl ⟨by rfl,?_⟩) (by assumption) ?_
   rotate_left
   ·intro w hSw
    try dsimp only at hSw
    go_simp
    first|done|with_reducible rfl
   try simp only [Act.put,List.setIfInBounds_toArray,List.set_cons_zero,List.set_cons_succ]
   refine wpAnyL_take (i:=11) (v:=?_) [22,21,20,19,18,17,16,14,13,12] rfl (by kernel_rfl) (by kernel_rfl) (by kernel_rfl) (fun _ _ _ h=>h) (by kernel_rfl) (by kernel_rfl) (by kernel_rfl) (Or.inl ⟨by rfl,?_⟩) (by assumption) ?_
   rotate_left
   ·intro w hSw
    try dsimp only at hSw
    go_simp
    first|done|with_reducible rfl
   try simp only [Act.put,List.setIfInBounds_toArray,List.set_cons_zero,List.set_cons_succ]
   refine wpAnyL_take (i:=12) (v:=?_) [22,21,20,19,18,17,16,14,13] rfl (by kernel_rfl) (by kernel_rfl) (by kernel_rfl) (fun _ _ _ h=>h) (by kernel_rfl) (by kernel_rfl) (by kernel_rfl) (Or.inl ⟨by rfl,?_⟩) (by assumption) ?_
   rotate_left
   ·intro w hSw
    try dsimp only at hSw
    go_simp
    first|done|with_reducible rfl
   try simp only [Act.put,List.setIfInBounds_toArray,List.set_cons_zero,List.set_cons_succ]
   refine wpAnyL_take (i:=13) (v:=?_) [22,21,20,19,18,17,16,14] rfl (by kernel_rfl) (by kernel_rfl) (by kernel_rfl) (fun _ _ _ h=>h) (by kernel_rfl) (by kernel_rfl) (by kernel_rfl) (Or.inl ⟨by rfl,?_⟩) (by assumption) ?_
   rotate_left
   ·intro w hSw
    try dsimp only at hSw
    go_simp
    first|done|with_reducible rfl
   try simp only [Act.put,List.setIfInBounds_toArray,List.set_cons_zero,List.set_cons_succ]
   refine wpAnyL_take (i:=14) (v:=?_) [22,21,20,19,18,17,16] rfl (by kernel_rfl) (by kernel_rfl) (by kernel_rfl) (fun _ _ _ h=>h) (by kernel_rfl) (by kernel_rfl) (by kernel_rfl) (Or.inl ⟨by rfl,?_⟩) (by assumption) ?_
   rotate_left
   ·intro w hSw
    try dsimp only at hSw
    go_simp
    first|done|with_reducible rfl
   try simp only [Act.put,List.setIfInBounds_toArray,List.set_cons_zero,List.set_cons_succ]
   refine wpAnyL_take (i:=15) (v:=?_) [22,21,20,19,18,17,16] rfl (by kernel_rfl) (by kernel_rfl) (by kernel_rfl) (fun _ _ _ h=>h) (by kernel_rfl) (by kernel_rfl) (by kernel_rfl) (Or.inl ⟨by rfl,?_⟩) (by assumption) ?_
   rotate_left
   ·intro w hSw
    try dsimp only at hSw
    go_simp
    first|done|with_reducible rfl
   try simp only [Act.put,List.setIfInBounds_toArray,List.set_cons_zero,List.set_cons_succ]
   refine wpAnyL_take (i:=16) (v:=?_) [22,21,20,19,18,17] rfl (by kernel_rfl) (by kernel_rfl) (by kernel_rfl) (fun _ _ _ h=>h) (by kernel_rfl) (by kernel_rfl) (by kernel_rfl) (Or.inl ⟨by rfl,?_⟩) (by assumption) ?_
   rotate_left
   ·intro w hSw
    try dsimp only at hSw
    go_simp
    first|done|with_reducible rfl
   try simp only [Act.put,List.setIfInBounds_toArray,List.set_cons_zero,List.set_cons_succ]
   refine wpAnyL_take (i:=17) (v:=?_) [22,21,20,19,18] rfl (by kernel_rfl) (by kernel_rfl) (by kernel_rfl) (fun _ _ _ h=>h) (by kernel_rfl) (by kernel_rfl) (by kernel_rfl) (Or.inl ⟨by rfl,?_⟩) (by assumption) ?_
   rotate_left
   ·intro w hSw
    try dsimp only at hSw
    go_simp
    first|done|with_reducible rfl
   try simp only [Act.put,List.setIfInBounds_toArray,List.set_cons_zero,List.set_cons_succ]
   refine wpAnyL_take (i:=18) (v:=?_) [22,21,20,19] rfl (by kernel_rfl) (by kernel_rfl) (by kernel_rfl) (fun _ _ _ h=>h) (by kernel_rfl) (by kernel_rfl) (by kernel_rfl) (Or.inl ⟨by rfl,?_⟩) (by assumption) ?_
   rotate_left
   ·intro w hSw
    try dsimp only at hSw
    go_simp
    first|done|with_reducible rfl
   try simp only [Act.put,List.setIfInBounds_toArray,List.set_cons_zero,List.set_cons_succ]
   refine wpAnyL_take (i:=19) (v:=?_) [22,21,20] rfl (by kernel_rfl) (by kernel_rfl) (by kernel_rfl) (fun _ _ _ h=>h) (by kernel_rfl) (by kernel_rfl) (by kernel_rfl) (Or.inl ⟨by rfl,?_⟩) (by assumption) ?_
   rotate_left
   ·intro w hSw
    try dsimp only at hSw
    go_simp
    first|done|with_reducible rfl
   try simp only [Act.put,List.setIfInBounds_toArray,List.set_cons_zero,List.set_cons_succ]
   refine wpAnyL_one (i:=20) (by kernel_rfl) rfl (fun K hK=>?_)
   go_simp
   refine (KP.out V BV.out).mono ?_
   rintro e V2 ⟨rfl,hb⟩
   have BV2:=Lib.hid (BV.out.trans ((hb.below V.heap.size).mono BV.out.size))
   have GV2:=Lib.hid (GV.out.below rdInt_good (hb.below V.heap.size))
   have AP:=Lib.hid (app9 BV2.out GV2.out pl)
   clear hb
   go_wp2_with fail
   refine hK.out _ _ (KS.out _ BV2.out) (fun hHeld=>?_)
   clear hK K
   try simp only [Act.put,List.setIfInBounds_toArray,List.set_cons_zero,List.set_cons_succ]
   refine wpAnyL_one (i:=21) (by kernel_rfl) rfl (fun K hK=>?_)
   go_simp
   refine hK.out _ _ (KS.out _ AP.out.b) (fun hHeld=>?_)
   clear hK K
   try simp only [Act.put,List.setIfInBounds_toArray,List.set_cons_zero,List.set_cons_succ]
   refine wpAnyL_one (i:=22) (by kernel_rfl) rfl (fun K hK=>?_)
   refine step_growN _ (by rfl) _ _ 25 25 (by rfl) rdInt_good (by decide) (fun _=>True) w.heap.size 3 3 fi _ 8 Tryz.underlying25 Tryz.underlying25 hi hz0 hz1 hz2 rfl _ _ (by rfl) AP.out.g [pl] _ _ _ _ (by rfl) AP.out.x AP.out.s (by simp only [List.length_singleton];unfold maxLen;omega) (by simp only [List.length_singleton];omega) AP.out.bs ?_
   intro v' V4 hG4 hg4 _
   have BV4:=Lib.hid (grow_below AP.out.g hg4 AP.out.b (Nat.le_refl _) AP.out.bs)
   have GV4:=Lib.hid hG4
   clear hG4 hg4
   refine hK.out _ _ (KS.out _ BV4.out) (fun hHeld=>?_)
   clear hK K
   try simp only [Act.put,List.setIfInBounds_toArray,List.set_cons_zero,List.set_cons_succ]
   refine wpAnyL_last (by kernel_rfl) rfl (by kernel_rfl) (fun K hK=>?_)
   go_simp
   refine hK.out _ _ ?_
   clear hK K
   refine NoPanic.normal ?_
   go_wp2_with fail
   all_goals
    go_wp2
    go_roundw
    case rel=>exact ⟨k+1,by omega,by go_num,by rw [HGN.out,ST.out];exact GV4.out,BV4.out⟩
    case measure=>simp [intOf];omega
  ·obtain rfl:k=m.length:=by omega
   have FIN:=Lib.hid (show rdInts wr (fun k=>w.heap.size≤k∧k < wr.heap.size) (insU l m) [u3] from by
    have:=rdInts_good.more (S':=fun k=>w.heap.size≤k∧k < wr.heap.size) ((Grow.flat (T':=fun _=>False) int_flat11 HG.out).reads rdInt_good) fun b hh=>⟨hh.2.resolve_right id,hh.1⟩
    rwa [List.take_length] at this)
   obtain ⟨Av,cv,hv,_⟩:=id FIN.out
   simp only [List.cons.injEq,and_true] at hv
   subst hv
   clear hbel HG
   go_wp2
   go_ret
   exact ⟨⟨Av,cv,rfl,FIN.out⟩,HB.out⟩
end Go.Proofs.YtpilmhoakopcaaaGreatDoor
namespace Go.Proofs.YtpilmhoakopcaaaGreatDoor
open Go.RowKit Go.Sort
set_option maxHeartbeats 16000000 in
theorem q11has_any (A:Option Addr) (n0 c:Nat) (l:List Int) (n:Int) (w:World) (h:rdInts w (lt_ w.heap.size) l [.slice A n0 c]) :
  Calls Tryz.prog 47 #[.slice A n0 c,.int .i64 n] w fun e w'=>e=.returned (.bool (l.contains n))∧w=w':=by
 obtain ⟨rfl,hnc,hcm,hat⟩:=rdInts_at h
 have hcm':c≤9223372036854775807:=hcm
 have HAT:=Lib.hid hat
 have X:=Lib.hid (contains_any10 l n)
 clear h hcm hat
 generalize l.contains n=bb at *
 go_enter Tryz.func47,Tryz.ntmps47
 go_wp2
 go_loop [5] (fun i=>∃k:Nat,k≤l.length∧i=.int .i64 k∧Hid ((l.take k).any (fun x=>x==n)=false)) (fun i=>l.length - (intOf i).toNat)
 case atStart=>exact ⟨0,Nat.zero_le _,rfl,Lib.hid rfl⟩
 case round=>
  obtain ⟨k,hk,rfl,HA⟩:=hrel
  by_cases hlt:k < l.length
  ·have ST:=Lib.hid (fun hf=>none_step6 (f:=fun x=>x==n) hlt HA.out hf)
   have SP:=Lib.hid (fun hf=>any_stop6 (f:=fun x=>x==n) hlt hf)
   obtain ⟨ad,rfl,-,g0⟩:=HAT.out k hlt
   have i0:(0:Int)≤(k:Int):=by omega
   have i1:(k:Int) < (l.length:Int):=by omega
   generalize hq:(l[k]==n)=q at *
   generalize l[k]=x at *
   clear HA
   cases q
   ·have NX:=Lib.hid (ST.out rfl)
    go_wp2
    go_round
    case rel=>exact ⟨k+1,by omega,by go_num,NX⟩
    case measure=>simp [intOf];omega
   ·have XX:=Lib.hid (show bb=true by rw [X.out];exact SP.out rfl)
    go_wp2
    go_ret
    exact ⟨by rw [XX.out];try rfl,rfl⟩
  ·obtain rfl:k=l.length:=by omega
   have j0:¬(l.length:Int) < (l.length:Int):=by omega
   have XX:=Lib.hid (show bb=false by rw [X.out];have:=HA.out;rwa [List.take_length] at this)
   go_wp2
   go_ret
   exact ⟨by rw [XX.out];try rfl,rfl⟩
end Go.Proofs.YtpilmhoakopcaaaGreatDoor
