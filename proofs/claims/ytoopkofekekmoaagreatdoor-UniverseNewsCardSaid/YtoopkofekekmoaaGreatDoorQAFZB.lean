/- What the laws rest on: E7a, E7d, E9e, E9a, E9g, E9l. -/
import Derived.Lib.QuietBelow
import Derived.Test.YtoopkofekekmoaaGreatDoorQAMZB
set_option maxRecDepth 100000
set_option linter.unusedVariables false
set_option linter.unusedSimpArgs false
namespace Go.Proofs.YtoopkofekekmoaaGreatDoor
open Go.RowKit
abbrev Hr.val (x:Hr) (A1:Option Addr) (c1:Nat) (A2:Option Addr) (c2:Nat) (A3:Option Addr) (c3:Nat) (A4:Option Addr) (c4:Nat):Value:=
 .agg #[.string x.e.n,.string x.e.v,.slice A1 x.e.d.length c1,.slice A2 x.e.r.length c2,.slice A3 x.e.c.length c3,.slice A4 x.e.p.length c4,.bool x.a,.bool x.h]
set_option maxHeartbeats 8000000 in
theorem same7_any (x y:Hr) (A1:Option Addr) (c1:Nat) (A2:Option Addr) (c2:Nat) (A3:Option Addr) (c3:Nat) (A4:Option Addr) (c4:Nat) (B1:Option Addr) (d1:Nat) (B2v:Option Addr) (d2:Nat) (B3:Option Addr) (d3:Nat) (B4:Option Addr) (d4:Nat) (w:World) (hx:EntV w (lt_ w.heap.size) x.e A1 c1 A2 c2 A3 c3 A4 c4) (hy:EntV w (lt_ w.heap.size) y.e B1 d1 B2v d2 B3 d3 B4 d4) :
  Calls Tryz.prog 46 #[x.val A1 c1 A2 c2 A3 c3 A4 c4,y.val B1 d1 B2v d2 B3 d3 B4 d4] w fun e w'=>e=.returned (.bool (decide (x=y)))∧Below w.heap.size w w':=by
 obtain ⟨⟨n,v,d,r,c,p⟩,a,h⟩:=x
 obtain ⟨⟨n',v',d',r',c',p'⟩,a',h'⟩:=y
 have B2:=Lib.hid (show Below w.heap.size w ((w.alloc (.cells #[.string n,.string v,.slice A1 d.length c1,.slice A2 r.length c2,.slice A3 c.length c3,.slice A4 p.length c4,.bool a,.bool h] 56)).alloc (.cells #[.string n',.string v',.slice B1 d'.length d1,.slice B2v r'.length d2,.slice B3 c'.length d3,.slice B4 p'.length d4,.bool a',.bool h'] 56)) from ((Below.refl _ w).alloc (Nat.le_refl _) _).alloc (by simp) _)
 have KX:=Lib.hid (fun (W:World) (hb:Below ((w.alloc (.cells #[.string n,.string v,.slice A1 d.length c1,.slice A2 r.length c2,.slice A3 c.length c3,.slice A4 p.length c4,.bool a,.bool h] 56)).alloc (.cells #[.string n',.string v',.slice B1 d'.length d1,.slice B2v r'.length d2,.slice B3 c'.length d3,.slice B4 p'.length d4,.bool a',.bool h'] 56)).heap.size ((w.alloc (.cells #[.string n,.string v,.slice A1 d.length c1,.slice A2 r.length c2,.slice A3 c.length c3,.slice A4 p.length c4,.bool a,.bool h] 56)).alloc (.cells #[.string n',.string v',.slice B1 d'.length d1,.slice B2v r'.length d2,.slice B3 c'.length d3,.slice B4 p'.length d4,.bool a',.bool h'] 56)) W)=>(show W.cell? ⟨w.heap.size,6,none⟩=some (.bool a)∧W.cell? ⟨w.heap.size,7,none⟩=some (.bool h)∧W.cell? ⟨w.heap.size+1,6,none⟩=some (.bool a')∧W.cell? ⟨w.heap.size+1,7,none⟩=some (.bool h') from by
  have z:((w.alloc (.cells #[.string n,.string v,.slice A1 d.length c1,.slice A2 r.length c2,.slice A3 c.length c3,.slice A4 p.length c4,.bool a,.bool h] 56)).alloc (.cells #[.string n',.string v',.slice B1 d'.length d1,.slice B2v r'.length d2,.slice B3 c'.length d3,.slice B4 p'.length d4,.bool a',.bool h'] 56)).heap.size=w.heap.size+2:=by rw [World.size_alloc,World.size_alloc]
  refine ⟨(hb.cell (show (⟨w.heap.size,6,none⟩:Addr).block < _ by rw [z];show w.heap.size < _;omega)).trans (by simp [go_sem]),(hb.cell (show (⟨w.heap.size,7,none⟩:Addr).block < _ by rw [z];show w.heap.size < _;omega)).trans (by simp [go_sem]),(hb.cell (show (⟨w.heap.size+1,6,none⟩:Addr).block < _ by rw [z];show w.heap.size+1 < _;omega)).trans (by simp [go_sem]),(hb.cell (show (⟨w.heap.size+1,7,none⟩:Addr).block < _ by rw [z];show w.heap.size+1 < _;omega)).trans (by simp [go_sem])⟩))
 have KE:=Lib.hid (sameEnt7_any ⟨n,v,d,r,c,p⟩ ⟨n',v',d',r',c',p'⟩ A1 c1 A2 c2 A3 c3 A4 c4 B1 d1 B2v d2 B3 d3 B4 d4 _ (hx.on B2.out) (hy.on B2.out))
 have HE:∀q,decide ((⟨n,v,d,r,c,p⟩:Ent)=⟨n',v',d',r',c',p'⟩)=q→decide ((⟨⟨n,v,d,r,c,p⟩,a,h⟩:Hr)=⟨⟨n',v',d',r',c',p'⟩,a',h'⟩)=(q&&(a==a'&&h==h')):=fun q hq=>by
  rw [←hq,Bool.eq_iff_iff]
  simp only [decide_eq_true_iff,Bool.and_eq_true,beq_iff_eq,Hr.mk.injEq]
 have HE:=Lib.hid HE
 show Calls Tryz.prog 46 #[.agg #[.string n,.string v,.slice A1 d.length c1,.slice A2 r.length c2,.slice A3 c.length c3,.slice A4 p.length c4,.bool a,.bool h],.agg #[.string n',.string v',.slice B1 d'.length d1,.slice B2v r'.length d2,.slice B3 c'.length d3,.slice B4 p'.length d4,.bool a',.bool h']] w _
 clear hx hy
 generalize decide ((⟨n,v,d,r,c,p⟩:Ent)=⟨n',v',d',r',c',p'⟩)=q at KE HE
 have HQ:=Lib.hid (HE.out q rfl)
 clear HE
 go_enter Tryz.func46,Tryz.ntmps46
 go_wp2_with fail
 refine KE.out.mono ?_
 rintro e w3 ⟨rfl,hb⟩
 have C0:=Lib.hid (bel_in B2.out hb)
 obtain ⟨e1,e2,e3,e4⟩:=KX.out w3 hb
 clear hb
 cases q<;>cases a<;>cases h<;>cases a'<;>cases h'
 all_goals
  go_wp2
  go_ret
  exact ⟨by rw [HQ.out];try rfl,C0.out⟩
def heldU (l:List Ent) (m:List Hr):List Int:=insU l (m.filter fun y=>y.h)
structure Ap9 (w V V3:World) (v:Value) (g:List Int) (y:Int):Prop where
 b:Below w.heap.size w V3
 g:Grow rdInt 1 (fun _=>True) V3 w.heap.size 3 v g
 x:rdInts V3 (fun c=>c=V.heap.size) [y] [.slice (some ⟨V.heap.size,0,none⟩) 1 1]
 s:∀c,c=V.heap.size→True∧c < V3.heap.size∧v.ownBlock≠some c
 bs:w.heap.size≤V3.heap.size
theorem app9 {w V:World} {v:Value} {g:List Int} (hb:Below w.heap.size w V) (hG:Grow rdInt 1 (fun _=>True) V w.heap.size 3 v g) (y:Int):Ap9 w V (V.alloc (.cells #[.int .i64 y] 3)) v g y:=
 ⟨hb.alloc hb.size _,hG.alloc rdInt_good _,one_rd (ty:=3) rdInt_good (heap_alloc_new V _) rfl rfl,fun c hc=>⟨trivial,by rw [hc,World.size_alloc];exact Nat.lt_succ_self _,fun hh=>by have:=(hG.lt c hh).2;omega⟩,by rw [World.size_alloc];have:=hb.size;omega⟩
theorem heldU_step {l:List Ent} {m:List Hr} {k:Nat} (hk:k < m.length):heldU l (m.take (k+1))=if m[k].h=true then heldU l (m.take k)++[plU m[k].e.n m[k].e.v l 0] else heldU l (m.take k):=by
 unfold heldU insU
 rw [List.take_succ_eq_append_getElem hk,List.filter_append]
 cases h:m[k].h
 ·rw [if_neg (by decide),List.filter_cons_of_neg (by rw [h];decide),List.filter_nil,List.append_nil]
 ·rw [if_pos rfl,List.filter_cons_of_pos (by rw [h]),List.filter_nil,List.map_append];rfl
set_option maxHeartbeats 8000000 in
theorem q9inst_any (b:Nat) (l:List Ent) (m:List Hr) (w:World) (h:UR w b l m) (hm:m.length≤200) :
  Calls Tryz.prog 22 #[.pointer (some ⟨b,0,none⟩)] w fun e w'=>(∃A c,e=.returned (.slice A (insU l m).length c)∧rdInts w' (lt_ w'.heap.size) (insU l m) [.slice A (insU l m).length c])∧Below w.heap.size w w':=by
 have HU:=Lib.hid (fun (W:World) (hb:Below w.heap.size w W)=>h.below hb)
 obtain ⟨fi,hi,hz0,hz1,hz2⟩:=info_parts int9_info
 obtain ⟨A,c,A',c',-,h1,-,h4⟩:=id h
 obtain ⟨-,hnc,hcm,-⟩:=rdHrs_at h4
 have hcm':c'≤9223372036854775807:=hcm
 have H4:=Lib.hid (fun (W:World) (hb:Below w.heap.size w W)=>rdHrs_good.keep (w':=W) h4 (fun k hk=>hb.block k hk.1))
 clear hcm h h4
 go_enter Tryz.func22,Tryz.ntmps22
 go_wp2
 go_loopw [3,4] (fun v i wr=>∃k:Nat,k≤m.length∧i=.int .i64 k∧Grow rdInt 1 (fun _=>True) wr w.heap.size 3 v (insU l (m.take k))∧Below w.heap.size w wr) (fun _ i _=>m.length - (intOf i).toNat)
 case atStart=>exact ⟨0,Nat.zero_le _,rfl,Grow.nil _ _ _ _,Below.refl _ _⟩
 case round=>
  obtain ⟨k,hk,rfl,hG,hbel⟩:=hrel
  have HB:=Lib.hid hbel
  have HG:=Lib.hid hG
  have b0:wr.cell? ⟨b,1,none⟩=some (.slice A' m.length c'):=keep6 hbel h1
  clear hG
  by_cases hlt:k < m.length
  ·obtain ⟨-,-,-,hat⟩:=rdHrs_at (H4.out wr hbel)
   obtain ⟨ad,D1,e1,D2,e2,D3,e3,D4,e4,rfl,had,-,h0,h1',-,-,-,-,-,h7⟩:=hat k hlt
   have hadl:ad.block < w.heap.size:=had.1
   have i0:(0:Int)≤(k:Int):=by omega
   have i1:(k:Int) < (m.length:Int):=by omega
   have KP:=Lib.hid (fun (W:World) (hb:Below w.heap.size w W)=>q9place_any b l m m[k].e.n m[k].e.v W (HU.out W hb))
   have ST:=Lib.hid (insU_step (l:=l) hlt)
   have hln:(insU l (m.take k)).length≤200:=by unfold insU;rw [List.length_map,List.length_take];omega
   have KS:=Lib.hid (fun (W:World) (hb:Below w.heap.size w W)=>(show W.cell? ⟨b,1,none⟩=some (.slice (some ad) m.length c')∧W.cell? (ad.add (k*8))=some (.string m[k].e.n)∧W.cell? ⟨(ad.add (k*8)).block,(ad.add (k*8)).off+1,none⟩=some (.string m[k].e.v) from
    ⟨keep6 hb h1,by
     obtain ⟨-,-,-,hat⟩:=rdHrs_at (H4.out W hb)
     obtain ⟨ad',_,_,_,_,_,_,_,_,e,_,_,h0,h1',_⟩:=hat k hlt
     obtain rfl:ad=ad':=Option.some.inj e
     exact h0,by
     obtain ⟨-,-,-,hat⟩:=rdHrs_at (H4.out W hb)
     obtain ⟨ad',_,_,_,_,_,_,_,_,e,_,_,h0,h1',_⟩:=hat k hlt
     obtain rfl:ad=ad':=Option.some.inj e
     exact h1'⟩))
   clear had hat h0 h1' hbel
   generalize m[k].e.n=n at *
   generalize m[k].e.v=v at *
   generalize plU n v l 0=pl at *
   generalize hgg:insU l (m.take k)=gl at *
   generalize hgn:insU l (m.take (k+1))=gn at *
   have HGN:=Lib.hid hgn
   clear hgg hgn
   clear h7
   go_wp2_with fail
   refine wp_region_noPanic ?_
   refine wp_region_D (fun W=>W.cell? ⟨b,1,none⟩=some (.slice (some ad) m.length c')∧W.cell? (ad.add (k*8))=some (.string n)∧W.cell? ⟨(ad.add (k*8)).block,(ad.add (k*8)).off+1,none⟩=some (.string v)) 23 (by kernel_rfl) (w0:=wr) (Dr.refl _) (fun V hV=>KS.out V (HB.out.trans ((hV.below wr.heap.size).mono HB.out.size))) (fun V hV hHeld=>?_)
   have BV:=Lib.hid (HB.out.trans ((hV.below wr.heap.size).mono HB.out.size))
   have GV:=Lib.hid (HG.out.below rdInt_good (hV.below wr.heap.size))
   clear hV
   refine wpAnyL_take (i:=0) (v:=?_) [22] rfl (by kernel_rfl) (by kernel_rfl) (by kernel_rfl) (fun _ _ _ h=>h) (by kernel_rfl) (by kernel_rfl) (by kernel_rfl) (Or.inl ⟨by rfl,?_⟩) (by assumption) ?_
   rotate_left
   ·intro w hSw
    try dsimp only at hSw
    go_simp
    first|done|with_reducible rfl
   try simp only [Act.put,List.setIfInBounds_toArray,List.set_cons_zero,List.set_cons_succ]
   refine wpAnyL_take (i:=1) (v:=?_) [22,21,20] rfl (by kernel_rfl) (by kernel_rfl) (by kernel_rfl) (fun _ _ _ h=>h) (by kernel_rfl) (by kernel_rfl) (by kernel_rfl) (Or.inl ⟨by rfl,?_⟩) (by assumption) ?_
   rotate_left
   ·intro w hSw
    try dsimp only at hSw
    go_simp
    first|done|with_reducible rfl
   try simp only [Act.put,List.setIfInBounds_toArray,List.set_cons_zero,List.set_cons_succ]
   refine wpAnyL_take (i:=2) (v:=?_) [22,21,20,10,9,8,7,5,4,3] rfl (by kernel_rfl) (by kernel_rfl) (by kernel_rfl) (fun _ _ _ h=>h) (by kernel_rfl) (by kernel_rfl) (by kernel_rfl) (Or.inl ⟨by rfl,?_⟩) (by assumption) ?_
   rotate_left
   ·intro w hSw
    try dsimp only at hSw
    go_simp
    first|done|with_reducible rfl
   try simp only [Act.put,List.setIfInBounds_toArray,List.set_cons_zero,List.set_cons_succ]
   refine wpAnyL_take (i:=3) (v:=?_) [22,21,20,10,9,8,7,5,4] rfl (by kernel_rfl) (by kernel_rfl) (by kernel_rfl) (fun _ _ _ h=>h) (by kernel_rfl) (by kernel_rfl) (by kernel_rfl) (Or.inl ⟨by rfl,?_⟩) (by assumption) ?_
   rotate_left
   ·intro w hSw
    try dsimp only at hSw
    go_simp
    first|done|with_reducible rfl
   try simp only [Act.put,List.setIfInBounds_toArray,List.set_cons_zero,List.set_cons_succ]
   refine wpAnyL_take (i:=4) (v:=?_) [22,21,20,10,9,8,7,5] rfl (by kernel_rfl) (by kernel_rfl) (by kernel_rfl) (fun _ _ _ h=>h) (by kernel_rfl) (by kernel_rfl) (by kernel_rfl) (Or.inl ⟨by rfl,?_⟩) (by assumption) ?_
   rotate_left
   ·intro w hSw
    try dsimp only at hSw
    go_simp
    first|done|with_reducible rfl
   try simp only [Act.put,List.setIfInBounds_toArray,List.set_cons_zero,List.set_cons_succ]
   refine wpAnyL_take (i:=5) (v:=?_) [22,21,20,10,9,8,7] rfl (by kernel_rfl) (by kernel_rfl) (by kernel_rfl) (fun _ _ _ h=>h) (by kernel_rfl) (by kernel_rfl) (by kernel_rfl) (Or.inl ⟨by rfl,?_⟩) (by assumption) ?_
   rotate_left
   ·intro w hSw
    try dsimp only at hSw
    go_simp
    first|done|with_reducible rfl
   try simp only [Act.put,List.setIfInBounds_toArray,List.set_cons_zero,List.set_cons_succ]
   refine wpAnyL_take (i:=6) (v:=?_) [22,21,20,10,9,8,7] rfl (by kernel_rfl) (by kernel_rfl) (by kernel_rfl) (fun _ _ _ h=>h) (by kernel_rfl) (by kernel_rfl) (by kernel_rfl) (Or.inl ⟨by rfl,?_⟩) (by assumption) ?_
   rotate_left
   ·intro w hSw
    try dsimp only at hSw
    go_simp
    first|done|with_reducible rfl
   try simp only [Act.put,List.setIfInBounds_toArray,List.set_cons_zero,List.set_cons_succ]
   refine wpAnyL_take (i:=7) (v:=?_) [22,21,20,10,9,8] rfl (by kernel_rfl) (by kernel_rfl) (by kernel_rfl) (fun _ _ _ h=>h) (by kernel_rfl) (by kernel_rfl) (by kernel_rfl) (Or.inl ⟨by rfl,?_⟩) (by assumption) ?_
   rotate_left
   ·intro w hSw
    try dsimp only at hSw
    go_simp
    first|done|with_reducible rfl
   try simp only [Act.put,List.setIfInBounds_toArray,List.set_cons_zero,List.set_cons_succ]
   refine wpAnyL_take (i:=8) (v:=?_) [22,21,20,10,9] rfl (by kernel_rfl) (by kernel_rfl) (by kernel_rfl) (fun _ _ _ h=>h) (by kernel_rfl) (by kernel_rfl) (by kernel_rfl) (Or.inl ⟨by rfl,?_⟩) (by assumption) ?_
   rotate_left
   ·intro w hSw
    try dsimp only at hSw
    go_simp
    first|done|with_reducible rfl
   try simp only [Act.put,List.setIfInBounds_toArray,List.set_cons_zero,List.set_cons_succ]
   refine wpAnyL_take (i:=9) (v:=?_) [22,21,20,10] rfl (by kernel_rfl) (by kernel_rfl) (by kernel_rfl) (fun _ _ _ h=>h) (by kernel_rfl) (by kernel_rfl) (by kernel_rfl) (Or.inl ⟨by rfl,?_⟩) (by assumption) ?_
   rotate_left
   ·intro w hSw
    try dsimp only at hSw
    go_simp
    first|done|with_reducible rfl
   try simp only [Act.put,List.setIfInBounds_toArray,List.set_cons_zero,List.set_cons_succ]
   refine wpAnyL_take (i:=10) (v:=?_) [22,21,20] rfl (by kernel_rfl) (by kernel_rfl) (by kernel_rfl) (fun _ _ _ h=>h) (by kernel_rfl) (by kernel_rfl) (by kernel_rfl) (Or.inl ⟨by rfl,?_⟩) (by assumption) ?_
   rotate_left
   ·intro w hSw
    try dsimp only at hSw
    go_simp
    first|done|with_reducible rfl
   try simp only [Act.put,List.setIfInBounds_toArray,List.set_cons_zero,List.set_cons_succ]
   refine wpAnyL_take (i:=11) (v:=?_) [22,21,20,19,18,17,16,14,13,12] rfl (by kernel_rfl) (by kernel_rfl) (by kernel_rfl) (fun _ _ _ h=>h) (by kernel_rfl) (by kernel_rfl) (by kernel_rfl) (Or.inl ⟨by rfl,?_⟩) (by assumption) ?_
   rotate_left
   ·intro w hSw
    try dsimp only at hSw
    go_simp
    first|done|with_reducible rfl
   try simp only [Act.put,List.setIfInBounds_toArray,List.set_cons_zero,List.set_cons_succ]
   refine wpAnyL_take (i:=12) (v:=?_) [22,21,20,19,18,17,16,14,13] rfl (by kernel_rfl) (by kernel_rfl) (by kernel_rfl) (fun _ _ _ h=>h) (by kernel_rfl) (by kernel_rfl) (by kernel_rfl) (Or.inl ⟨by rfl,?_⟩) (by assumption) ?_
   rotate_left
   ·intro w hSw
    try dsimp only at hSw
    go_simp
    first|done|with_reducible rfl
   try simp only [Act.put,List.setIfInBounds_toArray,List.set_cons_zero,List.set_cons_succ]
   refine wpAnyL_take (i:=13) (v:=?_) [22,21,20,19,18,17,16,14] rfl (by kernel_rfl) (by kernel_rfl) (by kernel_rfl) (fun _ _ _ h=>h) (by kernel_rfl) (by kernel_rfl) (by kernel_rfl) (Or.inl ⟨by rfl,?_⟩) (by assumption) ?_
   rotate_left
   ·intro w hSw
    try dsimp only at hSw
    go_simp
    first|done|with_reducible rfl
   try simp only [Act.put,List.setIfInBounds_toArray,List.set_cons_zero,List.set_cons_succ]
   refine wpAnyL_take (i:=14) (v:=?_) [22,21,20,19,18,17,16] rfl (by kernel_rfl) (by kernel_rfl) (by kernel_rfl) (fun _ _ _ h=>h) (by kernel_rfl) (by kernel_rfl) (by kernel_rfl) (Or.inl ⟨by rfl,?_⟩) (by assumption) ?_
   rotate_left
   ·intro w hSw
    try dsimp only at hSw
    go_simp
    first|done|with_reducible rfl
   try simp only [Act.put,List.setIfInBounds_toArray,List.set_cons_zero,List.set_cons_succ]
   refine wpAnyL_take (i:=15) (v:=?_) [22,21,20,19,18,17,16] rfl (by kernel_rfl) (by kernel_rfl) (by kernel_rfl) (fun _ _ _ h=>h) (by kernel_rfl) (by kernel_rfl) (by kernel_rfl) (Or.inl ⟨by rfl,?_⟩) (by assumption) ?_
   rotate_left
   ·intro w hSw
    try dsimp only at hSw
    go_simp
    first|done|with_reducible rfl
   try simp only [Act.put,List.setIfInBounds_toArray,List.set_cons_zero,List.set_cons_succ]
   refine wpAnyL_take (i:=16) (v:=?_) [22,21,20,19,18,17] rfl (by kernel_rfl) (by kernel_rfl) (by kernel_rfl) (fun _ _ _ h=>h) (by kernel_rfl) (by kernel_rfl) (by kernel_rfl) (Or.inl ⟨by rfl,?_⟩) (by assumption) ?_
   rotate_left
   ·intro w hSw
    try dsimp only at hSw
    go_simp
    first|done|with_reducible rfl
   try simp only [Act.put,List.setIfInBounds_toArray,List.set_cons_zero,List.set_cons_succ]
   refine wpAnyL_take (i:=17) (v:=?_) [22,21,20,19,18] rfl (by kernel_rfl) (by kernel_rfl) (by kernel_rfl) (fun _ _ _ h=>h) (by kernel_rfl) (by kernel_rfl) (by kernel_rfl) (Or.inl ⟨by rfl,?_⟩) (by assumption) ?_
   rotate_left
   ·intro w hSw
    try dsimp only at hSw
    go_simp
    first|done|with_reducible rfl
   try simp only [Act.put,List.setIfInBounds_toArray,List.set_cons_zero,List.set_cons_succ]
   refine wpAnyL_take (i:=18) (v:=?_) [22,21,20,19] rfl (by kernel_rfl) (by kernel_rfl) (by kernel_rfl) (fun _ _ _ h=>h) (by kernel_rfl) (by kernel_rfl) (by kernel_rfl) (Or.inl ⟨by rfl,?_⟩) (by assumption) ?_
   rotate_left
   ·intro w hSw
    try dsimp only at hSw
    go_simp
    first|done|with_reducible rfl
   try simp only [Act.put,List.setIfInBounds_toArray,List.set_cons_zero,List.set_cons_succ]
   refine wpAnyL_take (i:=19) (v:=?_) [22,21,20] rfl (by kernel_rfl) (by kernel_rfl) (by kernel_rfl) (fun _ _ _ h=>h) (by kernel_rfl) (by kernel_rfl) (by kernel_rfl) (Or.inl ⟨by rfl,?_⟩) (by assumption) ?_
   rotate_left
   ·intro w hSw
    try dsimp only at hSw
    go_simp
    first|done|with_reducible rfl
   try simp only [Act.put,List.setIfInBounds_toArray,List.set_cons_zero,List.set_cons_succ]
   refine wpAnyL_one (i:=20) (by kernel_rfl) rfl (fun K hK=>?_)
   go_simp
   refine (KP.out V BV.out).mono ?_
   rintro e V2 ⟨rfl,hb⟩
   have BV2:=Lib.hid (BV.out.trans ((hb.below V.heap.size).mono BV.out.size))
   have GV2:=Lib.hid (GV.out.below rdInt_good (hb.below V.heap.size))
   have AP:=Lib.hid (app9 BV2.out GV2.out pl)
   clear hb
   go_wp2_with fail
   refine hK.out _ _ (KS.out _ BV2.out) (fun hHeld=>?_)
   clear hK K
   try simp only [Act.put,List.setIfInBounds_toArray,List.set_cons_zero,List.set_cons_succ]
   refine wpAnyL_one (i:=21) (by kernel_rfl) rfl (fun K hK=>?_)
   go_simp
   refine hK.out _ _ (KS.out _ AP.out.b) (fun hHeld=>?_)
   clear hK K
   try simp only [Act.put,List.setIfInBounds_toArray,List.set_cons_zero,List.set_cons_succ]
   refine wpAnyL_one (i:=22) (by kernel_rfl) rfl (fun K hK=>?_)
   refine step_growN _ (by rfl) _ _ 44 44 (by rfl) rdInt_good (by decide) (fun _=>True) w.heap.size 3 3 fi _ 8 Tryz.underlying44 Tryz.underlying44 hi hz0 hz1 hz2 rfl _ _ (by rfl) AP.out.g [pl] _ _ _ _ (by rfl) AP.out.x AP.out.s (by simp only [List.length_singleton];unfold maxLen;omega) (by simp only [List.length_singleton];omega) AP.out.bs ?_
   intro v' V4 hG4 hg4 _
   have BV4:=Lib.hid (grow_below AP.out.g hg4 AP.out.b (Nat.le_refl _) AP.out.bs)
   have GV4:=Lib.hid hG4
   clear hG4 hg4
   refine hK.out _ _ (KS.out _ BV4.out) (fun hHeld=>?_)
   clear hK K
   try simp only [Act.put,List.setIfInBounds_toArray,List.set_cons_zero,List.set_cons_succ]
   refine wpAnyL_last (by kernel_rfl) rfl (by kernel_rfl) (fun K hK=>?_)
   go_simp
   refine hK.out _ _ ?_
   clear hK K
   refine NoPanic.normal ?_
   go_wp2_with fail
   all_goals
    go_wp2
    go_roundw
    case rel=>exact ⟨k+1,by omega,by go_num,by rw [HGN.out,ST.out];exact GV4.out,BV4.out⟩
    case measure=>simp [intOf];omega
  ·obtain rfl:k=m.length:=by omega
   have FIN:=Lib.hid (show rdInts wr (lt_ wr.heap.size) (insU l m) [u3] from by
    have:=HG.out.read rdInt_good
    rwa [List.take_length] at this)
   obtain ⟨Av,cv,hv,_⟩:=id FIN.out
   simp only [List.cons.injEq,and_true] at hv
   subst hv
   clear hbel HG
   go_wp2
   go_ret
   exact ⟨⟨Av,cv,rfl,FIN.out⟩,HB.out⟩
set_option maxHeartbeats 8000000 in
theorem q9held_any (b:Nat) (l:List Ent) (m:List Hr) (w:World) (h:UR w b l m) (hm:m.length≤200) :
  Calls Tryz.prog 24 #[.pointer (some ⟨b,0,none⟩)] w fun e w'=>(∃A c,e=.returned (.slice A (heldU l m).length c)∧rdInts w' (lt_ w'.heap.size) (heldU l m) [.slice A (heldU l m).length c])∧Below w.heap.size w w':=by
 have HU:=Lib.hid (fun (W:World) (hb:Below w.heap.size w W)=>h.below hb)
 obtain ⟨fi,hi,hz0,hz1,hz2⟩:=info_parts int9_info
 obtain ⟨A,c,A',c',-,h1,-,h4⟩:=id h
 obtain ⟨-,hnc,hcm,-⟩:=rdHrs_at h4
 have hcm':c'≤9223372036854775807:=hcm
 have H4:=Lib.hid (fun (W:World) (hb:Below w.heap.size w W)=>rdHrs_good.keep (w':=W) h4 (fun k hk=>hb.block k hk.1))
 clear hcm h h4
 go_enter Tryz.func24,Tryz.ntmps24
 go_wp2
 go_loopw [3,4] (fun v i wr=>∃k:Nat,k≤m.length∧i=.int .i64 k∧Grow rdInt 1 (fun _=>True) wr w.heap.size 3 v (heldU l (m.take k))∧Below w.heap.size w wr) (fun _ i _=>m.length - (intOf i).toNat)
 case atStart=>exact ⟨0,Nat.zero_le _,rfl,Grow.nil _ _ _ _,Below.refl _ _⟩
 case round=>
  obtain ⟨k,hk,rfl,hG,hbel⟩:=hrel
  have HB:=Lib.hid hbel
  have HG:=Lib.hid hG
  have b0:wr.cell? ⟨b,1,none⟩=some (.slice A' m.length c'):=keep6 hbel h1
  clear hG
  by_cases hlt:k < m.length
  ·obtain ⟨-,-,-,hat⟩:=rdHrs_at (H4.out wr hbel)
   obtain ⟨ad,D1,e1,D2,e2,D3,e3,D4,e4,rfl,had,-,h0,h1',-,-,-,-,-,h7⟩:=hat k hlt
   have hadl:ad.block < w.heap.size:=had.1
   have i0:(0:Int)≤(k:Int):=by omega
   have i1:(k:Int) < (m.length:Int):=by omega
   have KP:=Lib.hid (fun (W:World) (hb:Below w.heap.size w W)=>q9place_any b l m m[k].e.n m[k].e.v W (HU.out W hb))
   have ST:=Lib.hid (heldU_step (l:=l) hlt)
   have hln:(heldU l (m.take k)).length≤200:=by unfold heldU insU;rw [List.length_map];have:=List.length_filter_le (fun y:Hr=>y.h) (m.take k);rw [List.length_take] at this;omega
   have KS:=Lib.hid (fun (W:World) (hb:Below w.heap.size w W)=>(show W.cell? ⟨b,1,none⟩=some (.slice (some ad) m.length c')∧W.cell? (ad.add (k*8))=some (.string m[k].e.n)∧W.cell? ⟨(ad.add (k*8)).block,(ad.add (k*8)).off+1,none⟩=some (.string m[k].e.v) from
    ⟨keep6 hb h1,by
     obtain ⟨-,-,-,hat⟩:=rdHrs_at (H4.out W hb)
     obtain ⟨ad',_,_,_,_,_,_,_,_,e,_,_,h0,h1',_⟩:=hat k hlt
     obtain rfl:ad=ad':=Option.some.inj e
     exact h0,by
     obtain ⟨-,-,-,hat⟩:=rdHrs_at (H4.out W hb)
     obtain ⟨ad',_,_,_,_,_,_,_,_,e,_,_,h0,h1',_⟩:=hat k hlt
     obtain rfl:ad=ad':=Option.some.inj e
     exact h1'⟩))
   clear had hat h0 h1' hbel
   generalize m[k].h=hh at *
   generalize m[k].e.n=n at *
   generalize m[k].e.v=v at *
   generalize plU n v l 0=pl at *
   generalize hgg:heldU l (m.take k)=gl at *
   generalize hgn:heldU l (m.take (k+1))=gn at *
   have HGN:=Lib.hid hgn
   clear hgg hgn
   cases hh
   ·go_wp2
    go_roundw
    case rel=>exact ⟨k+1,by omega,by go_num,by rw [HGN.out,ST.out,if_neg (by decide)];exact HG.out,HB.out⟩
    case measure=>simp [intOf];omega
   ·
    go_wp2_with fail
    refine wp_region_noPanic ?_
    refine wp_region_D (fun W=>W.cell? ⟨b,1,none⟩=some (.slice (some ad) m.length c')∧W.cell? (ad.add (k*8))=some (.string n)∧W.cell? ⟨(ad.add (k*8)).block,(ad.add (k*8)).off+1,none⟩=some (.string v)) 23 (by kernel_rfl) (w0:=wr) (Dr.refl _) (fun V hV=>KS.out V (HB.out.trans ((hV.below wr.heap.size).mono HB.out.size))) (fun V hV hHeld=>?_)
    have BV:=Lib.hid (HB.out.trans ((hV.below wr.heap.size).mono HB.out.size))
    have GV:=Lib.hid (HG.out.below rdInt_good (hV.below wr.heap.size))
    clear hV
    refine wpAnyL_take (i:=0) (v:=?_) [22] rfl (by kernel_rfl) (by kernel_rfl) (by kernel_rfl) (fun _ _ _ h=>h) (by kernel_rfl) (by kernel_rfl) (by kernel_rfl) (Or.inl ⟨by rfl,?_⟩) (by assumption) ?_
    rotate_left
    ·intro w hSw
     try dsimp only at hSw
     go_simp
     first|done|with_reducible rfl
    try simp only [Act.put,List.setIfInBounds_toArray,List.set_cons_zero,List.set_cons_succ]
    refine wpAnyL_take (i:=1) (v:=?_) [22,21,20] rfl (by kernel_rfl) (by kernel_rfl) (by kernel_rfl) (fun _ _ _ h=>h) (by kernel_rfl) (by kernel_rfl) (by kernel_rfl) (Or.inl ⟨by rfl,?_⟩) (by assumption) ?_
    rotate_left
    ·intro w hSw
     try dsimp only at hSw
     go_simp
     first|done|with_reducible rfl
    try simp only [Act.put,List.setIfInBounds_toArray,List.set_cons_zero,List.set_cons_succ]
    refine wpAnyL_take (i:=2) (v:=?_) [22,21,20,10,9,8,7,5,4,3] rfl (by kernel_rfl) (by kernel_rfl) (by kernel_rfl) (fun _ _ _ h=>h) (by kernel_rfl) (by kernel_rfl) (by kernel_rfl) (Or.inl ⟨by rfl,?_⟩) (by assumption) ?_
    rotate_left
    ·intro w hSw
     try dsimp only at hSw
     go_simp
     first|done|with_reducible rfl
    try simp only [Act.put,List.setIfInBounds_toArray,List.set_cons_zero,List.set_cons_succ]
    refine wpAnyL_take (i:=3) (v:=?_) [22,21,20,10,9,8,7,5,4] rfl (by kernel_rfl) (by kernel_rfl) (by kernel_rfl) (fun _ _ _ h=>h) (by kernel_rfl) (by kernel_rfl) (by kernel_rfl) (Or.inl ⟨by rfl,?_⟩) (by assumption) ?_
    rotate_left
    ·intro w hSw
     try dsimp only at hSw
     go_simp
     first|done|with_reducible rfl
    try simp only [Act.put,List.setIfInBounds_toArray,List.set_cons_zero,List.set_cons_succ]
    refine wpAnyL_take (i:=4) (v:=?_) [22,21,20,10,9,8,7,5] rfl (by kernel_rfl) (by kernel_rfl) (by kernel_rfl) (fun _ _ _ h=>h) (by kernel_rfl) (by kernel_rfl) (by kernel_rfl) (Or.inl ⟨by rfl,?_⟩) (by assumption) ?_
    rotate_left
    ·intro w hSw
     try dsimp only at hSw
     go_simp
     first|done|with_reducible rfl
    try simp only [Act.put,List.setIfInBounds_toArray,List.set_cons_zero,List.set_cons_succ]
    refine wpAnyL_take (i:=5) (v:=?_) [22,21,20,10,9,8,7] rfl (by kernel_rfl) (by kernel_rfl) (by kernel_rfl) (fun _ _ _ h=>h) (by kernel_rfl) (by kernel_rfl) (by kernel_rfl) (Or.inl ⟨by rfl,?_⟩) (by assumption) ?_
    rotate_left
    ·intro w hSw
     try dsimp only at hSw
     go_simp
     first|done|with_reducible rfl
    try simp only [Act.put,List.setIfInBounds_toArray,List.set_cons_zero,List.set_cons_succ]
    refine wpAnyL_take (i:=6) (v:=?_) [22,21,20,10,9,8,7] rfl (by kernel_rfl) (by kernel_rfl) (by kernel_rfl) (fun _ _ _ h=>h) (by kernel_rfl) (by kernel_rfl) (by kernel_rfl) (Or.inl ⟨by rfl,?_⟩) (by assumption) ?_
    rotate_left
    ·intro w hSw
     try dsimp only at hSw
     go_simp
     first|done|with_reducible rfl
    try simp only [Act.put,List.setIfInBounds_toArray,List.set_cons_zero,List.set_cons_succ]
    refine wpAnyL_take (i:=7) (v:=?_) [22,21,20,10,9,8] rfl (by kernel_rfl) (by kernel_rfl) (by kernel_rfl) (fun _ _ _ h=>h) (by kernel_rfl) (by kernel_rfl) (by kernel_rfl) (Or.inl ⟨by rfl,?_⟩) (by assumption) ?_
    rotate_left
    ·intro w hSw
     try dsimp only at hSw
     go_simp
     first|done|with_reducible rfl
    try simp only [Act.put,List.setIfInBounds_toArray,List.set_cons_zero,List.set_cons_succ]
    refine wpAnyL_take (i:=8) (v:=?_) [22,21,20,10,9] rfl (by kernel_rfl) (by kernel_rfl) (by kernel_rfl) (fun _ _ _ h=>h) (by kernel_rfl) (by kernel_rfl) (by kernel_rfl) (Or.inl ⟨by rfl,?_⟩) (by assumption) ?_
    rotate_left
    ·intro w hSw
     try dsimp only at hSw
     go_simp
     first|done|with_reducible rfl
    try simp only [Act.put,List.setIfInBounds_toArray,List.set_cons_zero,List.set_cons_succ]
    refine wpAnyL_take (i:=9) (v:=?_) [22,21,20,10] rfl (by kernel_rfl) (by kernel_rfl) (by kernel_rfl) (fun _ _ _ h=>h) (by kernel_rfl) (by kernel_rfl) (by kernel_rfl) (Or.inl ⟨by rfl,?_⟩) (by assumption) ?_
    rotate_left
    ·intro w hSw
     try dsimp only at hSw
     go_simp
     first|done|with_reducible rfl
    try simp only [Act.put,List.setIfInBounds_toArray,List.set_cons_zero,List.set_cons_succ]
    refine wpAnyL_take (i:=10) (v:=?_) [22,21,20] rfl (by kernel_rfl) (by kernel_rfl) (by kernel_rfl) (fun _ _ _ h=>h) (by kernel_rfl) (by kernel_rfl) (by kernel_rfl) (Or.inl ⟨by rfl,?_⟩) (by assumption) ?_
    rotate_left
    ·intro w hSw
     try dsimp only at hSw
     go_simp
     first|done|with_reducible rfl
    try simp only [Act.put,List.setIfInBounds_toArray,List.set_cons_zero,List.set_cons_succ]
    refine wpAnyL_take (i:=11) (v:=?_) [22,21,20,19,18,17,16,14,13,12] rfl (by kernel_rfl) (by kernel_rfl) (by kernel_rfl) (fun _ _ _ h=>h) (by kernel_rfl) (by kernel_rfl) (by kernel_rfl) (Or.inl ⟨by rfl,?_⟩) (by assumption) ?_
    rotate_left
    ·intro w hSw
     try dsimp only at hSw
     go_simp
     first|done|with_reducible rfl
    try simp only [Act.put,List.setIfInBounds_toArray,List.set_cons_zero,List.set_cons_succ]
    refine wpAnyL_take (i:=12) (v:=?_) [22,21,20,19,18,17,16,14,13] rfl (by kernel_rfl) (by kernel_rfl) (by kernel_rfl) (fun _ _ _ h=>h) (by kernel_rfl) (by kernel_rfl) (by kernel_rfl) (Or.inl ⟨by rfl,?_⟩) (by assumption) ?_
    rotate_left
    ·intro w hSw
     try dsimp only at hSw
     go_simp
     first|done|with_reducible rfl
    try simp only [Act.put,List.setIfInBounds_toArray,List.set_cons_zero,List.set_cons_succ]
    refine wpAnyL_take (i:=13) (v:=?_) [22,21,20,19,18,17,16,14] rfl (by kernel_rfl) (by kernel_rfl) (by kernel_rfl) (fun _ _ _ h=>h) (by kernel_rfl) (by kernel_rfl) (by kernel_rfl) (Or.inl ⟨by rfl,?_⟩) (by assumption) ?_
    rotate_left
    ·intro w hSw
     try dsimp only at hSw
     go_simp
     first|done|with_reducible rfl
    try simp only [Act.put,List.setIfInBounds_toArray,List.set_cons_zero,List.set_cons_succ]
    refine wpAnyL_take (i:=14) (v:=?_) [22,21,20,19,18,17,16] rfl (by kernel_rfl) (by kernel_rfl) (by kernel_rfl) (fun _ _ _ h=>h) (by kernel_rfl) (by kernel_rfl) (by kernel_rfl) (Or.inl ⟨by rfl,?_⟩) (by assumption) ?_
    rotate_left
    ·intro w hSw
     try dsimp only at hSw
     go_simp
     first|done|with_reducible rfl
    try simp only [Act.put,List.setIfInBounds_toArray,List.set_cons_zero,List.set_cons_succ]
    refine wpAnyL_take (i:=15) (v:=?_) [22,21,20,19,18,17,16] rfl (by kernel_rfl) (by kernel_rfl) (by kernel_rfl) (fun _ _ _ h=>h) (by kernel_rfl) (by kernel_rfl) (by kernel_rfl) (Or.inl ⟨by rfl,?_⟩) (by assumption) ?_
    rotate_left
    ·intro w hSw
     try dsimp only at hSw
     go_simp
     first|done|with_reducible rfl
    try simp only [Act.put,List.setIfInBounds_toArray,List.set_cons_zero,List.set_cons_succ]
    refine wpAnyL_take (i:=16) (v:=?_) [22,21,20,19,18,17] rfl (by kernel_rfl) (by kernel_rfl) (by kernel_rfl) (fun _ _ _ h=>h) (by kernel_rfl) (by kernel_rfl) (by kernel_rfl) (Or.inl ⟨by rfl,?_⟩) (by assumption) ?_
    rotate_left
    ·intro w hSw
     try dsimp only at hSw
     go_simp
     first|done|with_reducible rfl
    try simp only [Act.put,List.setIfInBounds_toArray,List.set_cons_zero,List.set_cons_succ]
    refine wpAnyL_take (i:=17) (v:=?_) [22,21,20,19,18] rfl (by kernel_rfl) (by kernel_rfl) (by kernel_rfl) (fun _ _ _ h=>h) (by kernel_rfl) (by kernel_rfl) (by kernel_rfl) (Or.inl ⟨by rfl,?_⟩) (by assumption) ?_
    rotate_left
    ·intro w hSw
     try dsimp only at hSw
     go_simp
     first|done|with_reducible rfl
    try simp only [Act.put,List.setIfInBounds_toArray,List.set_cons_zero,List.set_cons_succ]
    refine wpAnyL_take (i:=18) (v:=?_) [22,21,20,19] rfl (by kernel_rfl) (by kernel_rfl) (by kernel_rfl) (fun _ _ _ h=>h) (by kernel_rfl) (by kernel_rfl) (by kernel_rfl) (Or.inl ⟨by rfl,?_⟩) (by assumption) ?_
    rotate_left
    ·intro w hSw
     try dsimp only at hSw
     go_simp
     first|done|with_reducible rfl
    try simp only [Act.put,List.setIfInBounds_toArray,List.set_cons_zero,List.set_cons_succ]
    refine wpAnyL_take (i:=19) (v:=?_) [22,21,20] rfl (by kernel_rfl) (by kernel_rfl) (by kernel_rfl) (fun _ _ _ h=>h) (by kernel_rfl) (by kernel_rfl) (by kernel_rfl) (Or.inl ⟨by rfl,?_⟩) (by assumption) ?_
    rotate_left
    ·intro w hSw
     try dsimp only at hSw
     go_simp
     first|done|with_reducible rfl
    try simp only [Act.put,List.setIfInBounds_toArray,List.set_cons_zero,List.set_cons_succ]
    refine wpAnyL_one (i:=20) (by kernel_rfl) rfl (fun K hK=>?_)
    go_simp
    refine (KP.out V BV.out).mono ?_
    rintro e V2 ⟨rfl,hb⟩
    have BV2:=Lib.hid (BV.out.trans ((hb.below V.heap.size).mono BV.out.size))
    have GV2:=Lib.hid (GV.out.below rdInt_good (hb.below V.heap.size))
    have AP:=Lib.hid (app9 BV2.out GV2.out pl)
    clear hb
    go_wp2_with fail
    refine hK.out _ _ (KS.out _ BV2.out) (fun hHeld=>?_)
    clear hK K
    try simp only [Act.put,List.setIfInBounds_toArray,List.set_cons_zero,List.set_cons_succ]
    refine wpAnyL_one (i:=21) (by kernel_rfl) rfl (fun K hK=>?_)
    go_simp
    refine hK.out _ _ (KS.out _ AP.out.b) (fun hHeld=>?_)
    clear hK K
    try simp only [Act.put,List.setIfInBounds_toArray,List.set_cons_zero,List.set_cons_succ]
    refine wpAnyL_one (i:=22) (by kernel_rfl) rfl (fun K hK=>?_)
    refine step_growN _ (by rfl) _ _ 44 44 (by rfl) rdInt_good (by decide) (fun _=>True) w.heap.size 3 3 fi _ 8 Tryz.underlying44 Tryz.underlying44 hi hz0 hz1 hz2 rfl _ _ (by rfl) AP.out.g [pl] _ _ _ _ (by rfl) AP.out.x AP.out.s (by simp only [List.length_singleton];unfold maxLen;omega) (by simp only [List.length_singleton];omega) AP.out.bs ?_
    intro v' V4 hG4 hg4 _
    have BV4:=Lib.hid (grow_below AP.out.g hg4 AP.out.b (Nat.le_refl _) AP.out.bs)
    have GV4:=Lib.hid hG4
    clear hG4 hg4
    refine hK.out _ _ (KS.out _ BV4.out) (fun hHeld=>?_)
    clear hK K
    try simp only [Act.put,List.setIfInBounds_toArray,List.set_cons_zero,List.set_cons_succ]
    refine wpAnyL_last (by kernel_rfl) rfl (by kernel_rfl) (fun K hK=>?_)
    go_simp
    refine hK.out _ _ ?_
    clear hK K
    refine NoPanic.normal ?_
    go_wp2_with fail
    all_goals
     go_wp2
     go_roundw
     case rel=>exact ⟨k+1,by omega,by go_num,by rw [HGN.out,ST.out];simpa using GV4.out,BV4.out⟩
     case measure=>simp [intOf];omega
  ·obtain rfl:k=m.length:=by omega
   have FIN:=Lib.hid (show rdInts wr (lt_ wr.heap.size) (heldU l m) [u3] from by
    have:=HG.out.read rdInt_good
    rwa [List.take_length] at this)
   obtain ⟨Av,cv,hv,_⟩:=id FIN.out
   simp only [List.cons.injEq,and_true] at hv
   subst hv
   clear hbel HG
   go_wp2
   go_ret
   exact ⟨⟨Av,cv,rfl,FIN.out⟩,HB.out⟩
set_option maxHeartbeats 16000000 in
theorem sameHere9_any (A A':Option Addr) (n c n' c':Nat) (l m:List Hr) (w:World) (h:rdHrs w (lt_ w.heap.size) l [.slice A n c]) (h':rdHrs w (lt_ w.heap.size) m [.slice A' n' c']) :
  Calls Tryz.prog 14 #[.slice A n c,.slice A' n' c'] w fun e w'=>e=.returned (.bool (decide (l=m)))∧Below w.heap.size w w':=by
 obtain ⟨rfl,hnc,hcm,_⟩:=rdHrs_at h
 obtain ⟨rfl,hnc',hcm',_⟩:=rdHrs_at h'
 have hcm1:c≤9223372036854775807:=hcm
 have hcm2:c'≤9223372036854775807:=hcm'
 by_cases hlen:l.length=m.length
 ·have hd:((l.length:Int) != (m.length:Int))=false:=by rw [hlen];simp
  have HL:=Lib.hid hlen
  clear hlen
  go_enter Tryz.func14,Tryz.ntmps14
  go_wp2
  go_loopw [5] (fun i wr=>∃k:Nat,k≤l.length∧i=.int .i64 k∧l.take k=m.take k∧Below w.heap.size w wr) (fun i _=>l.length - (intOf i).toNat)
  case atStart=>exact ⟨0,Nat.zero_le _,rfl,rfl,Below.refl _ _⟩
  case round=>
   obtain ⟨k,hk,rfl,htk,hbel⟩:=hrel
   by_cases hlt:k < l.length
   ·obtain ⟨_,_,_,ha⟩:=rdHrs_at (rdHrs_good.up (rdHrs_good.below h hbel) hbel.size)
    obtain ⟨_,_,_,hb⟩:=rdHrs_at (rdHrs_good.up (rdHrs_good.below h' hbel) hbel.size)
    have hltm:k < m.length:=by rw [←HL.out];exact hlt
    obtain ⟨ad,A1,c1,A2,c2,A3,c3,A4,c4,rfl,had,hv,h0,h1,h2,h3,h4,h5,h6,h7⟩:=ha k hlt
    obtain ⟨ad',B1,d1,B2v,d2,B3,d3,B4,d4,rfl,had',hv',g0,g1,g2,g3,g4,g5,g6,g7⟩:=hb k hltm
    have T:=Lib.hid (same_take (l:=l) (m:=m) HL.out hlt hltm htk)
    have Z:=Lib.hid (show l[k]≠m[k]→l≠m from fun hn e=>hn (by subst e;rfl))
    have HB:=Lib.hid hbel
    have i0:(0:Int)≤(k:Int):=by omega
    have i1:(k:Int) < (l.length:Int):=by omega
    have hki:(k:Int) < (m.length:Int):=by omega
    have K:=Lib.hid (fun W (hb:Below wr.heap.size wr W)=>same7_any l[k] m[k] A1 c1 A2 c2 A3 c3 A4 c4 B1 d1 B2v d2 B3 d3 B4 d4 W (hv.on hb) (hv'.on hb))
    have bb:=(Below.refl wr.heap.size wr).drew
    clear htk ha hb hbel h h' hv hv' had had'
    generalize l[k]=x at *
    generalize m[k]=y at *
    by_cases he:x=y
    ·rw [decide_eq_true he] at K
     have HE:=Lib.hid he
     clear he
     go_wp2_with fail
     go_region_held3 (fun W=>W.cell? (ad.add (k*8))=some (.string x.e.n)∧W.cell? ⟨(ad.add (k*8)).block,(ad.add (k*8)).off+1,none⟩=some (.string x.e.v)∧W.cell? ⟨(ad.add (k*8)).block,(ad.add (k*8)).off+2,none⟩=some (.slice A1 x.e.d.length c1)∧W.cell? ⟨(ad.add (k*8)).block,(ad.add (k*8)).off+3,none⟩=some (.slice A2 x.e.r.length c2)∧W.cell? ⟨(ad.add (k*8)).block,(ad.add (k*8)).off+4,none⟩=some (.slice A3 x.e.c.length c3)∧W.cell? ⟨(ad.add (k*8)).block,(ad.add (k*8)).off+5,none⟩=some (.slice A4 x.e.p.length c4)∧W.cell? ⟨(ad.add (k*8)).block,(ad.add (k*8)).off+6,none⟩=some (.bool x.a)∧W.cell? ⟨(ad.add (k*8)).block,(ad.add (k*8)).off+7,none⟩=some (.bool x.h)∧W.cell? (ad'.add (k*8))=some (.string y.e.n)∧W.cell? ⟨(ad'.add (k*8)).block,(ad'.add (k*8)).off+1,none⟩=some (.string y.e.v)∧W.cell? ⟨(ad'.add (k*8)).block,(ad'.add (k*8)).off+2,none⟩=some (.slice B1 y.e.d.length d1)∧W.cell? ⟨(ad'.add (k*8)).block,(ad'.add (k*8)).off+3,none⟩=some (.slice B2v y.e.r.length d2)∧W.cell? ⟨(ad'.add (k*8)).block,(ad'.add (k*8)).off+4,none⟩=some (.slice B3 y.e.c.length d3)∧W.cell? ⟨(ad'.add (k*8)).block,(ad'.add (k*8)).off+5,none⟩=some (.slice B4 y.e.p.length d4)∧W.cell? ⟨(ad'.add (k*8)).block,(ad'.add (k*8)).off+6,none⟩=some (.bool y.a)∧W.cell? ⟨(ad'.add (k*8)).block,(ad'.add (k*8)).off+7,none⟩=some (.bool y.h)∧Below wr.heap.size wr W)
      (first|(go_split_ands;refine ⟨?_,?_,?_,?_,?_,?_,?_,?_,?_,?_,?_,?_,?_,?_,?_,?_,?_⟩<;>first|assumption|exact keep6 hbx (by assumption)|exact Below.trans (by assumption) (hbx.mono (Below.size (by assumption))))|go_keep)
      ((go_at_call 46;(with_reducible refine (K.out _ (by go_split_ands;assumption)).mono ?_);rintro e wx ⟨rfl,hbx⟩))
     all_goals
      go_split_ands
      have HB2:=Lib.hid (show Below w.heap.size w _ from HB.out.trans (Below.mono (show Below wr.heap.size wr _ by assumption) HB.out.size))
      go_wp2
      go_roundw
      case rel=>exact ⟨k+1,by omega,by go_num,T.out HE.out,HB2.out⟩
      case measure=>simp [intOf];omega
    ·rw [decide_eq_false he] at K
     have HE:=Lib.hid he
     clear he
     go_wp2_with fail
     go_region_held3 (fun W=>W.cell? (ad.add (k*8))=some (.string x.e.n)∧W.cell? ⟨(ad.add (k*8)).block,(ad.add (k*8)).off+1,none⟩=some (.string x.e.v)∧W.cell? ⟨(ad.add (k*8)).block,(ad.add (k*8)).off+2,none⟩=some (.slice A1 x.e.d.length c1)∧W.cell? ⟨(ad.add (k*8)).block,(ad.add (k*8)).off+3,none⟩=some (.slice A2 x.e.r.length c2)∧W.cell? ⟨(ad.add (k*8)).block,(ad.add (k*8)).off+4,none⟩=some (.slice A3 x.e.c.length c3)∧W.cell? ⟨(ad.add (k*8)).block,(ad.add (k*8)).off+5,none⟩=some (.slice A4 x.e.p.length c4)∧W.cell? ⟨(ad.add (k*8)).block,(ad.add (k*8)).off+6,none⟩=some (.bool x.a)∧W.cell? ⟨(ad.add (k*8)).block,(ad.add (k*8)).off+7,none⟩=some (.bool x.h)∧W.cell? (ad'.add (k*8))=some (.string y.e.n)∧W.cell? ⟨(ad'.add (k*8)).block,(ad'.add (k*8)).off+1,none⟩=some (.string y.e.v)∧W.cell? ⟨(ad'.add (k*8)).block,(ad'.add (k*8)).off+2,none⟩=some (.slice B1 y.e.d.length d1)∧W.cell? ⟨(ad'.add (k*8)).block,(ad'.add (k*8)).off+3,none⟩=some (.slice B2v y.e.r.length d2)∧W.cell? ⟨(ad'.add (k*8)).block,(ad'.add (k*8)).off+4,none⟩=some (.slice B3 y.e.c.length d3)∧W.cell? ⟨(ad'.add (k*8)).block,(ad'.add (k*8)).off+5,none⟩=some (.slice B4 y.e.p.length d4)∧W.cell? ⟨(ad'.add (k*8)).block,(ad'.add (k*8)).off+6,none⟩=some (.bool y.a)∧W.cell? ⟨(ad'.add (k*8)).block,(ad'.add (k*8)).off+7,none⟩=some (.bool y.h)∧Below wr.heap.size wr W)
      (first|(go_split_ands;refine ⟨?_,?_,?_,?_,?_,?_,?_,?_,?_,?_,?_,?_,?_,?_,?_,?_,?_⟩<;>first|assumption|exact keep6 hbx (by assumption)|exact Below.trans (by assumption) (hbx.mono (Below.size (by assumption))))|go_keep)
      ((go_at_call 46;(with_reducible refine (K.out _ (by go_split_ands;assumption)).mono ?_);rintro e wx ⟨rfl,hbx⟩))
     all_goals
      go_split_ands
      have HB2:=Lib.hid (show Below w.heap.size w _ from HB.out.trans (Below.mono (show Below wr.heap.size wr _ by assumption) HB.out.size))
      go_wp2
      go_ret
      exact ⟨by rw [decide_eq_false (Z.out HE.out)];try rfl,HB2.out⟩
   ·obtain rfl:k=l.length:=by omega
    have X:=Lib.hid (show l=m by rw [List.take_length] at htk;rw [htk,HL.out,List.take_length])
    clear htk h h'
    go_wp2
    go_ret
    exact ⟨by rw [decide_eq_true X.out];try rfl,hbel⟩
 ·have hd:((l.length:Int) != (m.length:Int))=true:=by rw [bne_iff_ne];omega
  have X:=Lib.hid (show l≠m by rintro rfl;exact hlen rfl)
  clear hlen
  go_enter Tryz.func14,Tryz.ntmps14
  go_wp2
  go_ret
  exact ⟨by rw [decide_eq_false X.out];try rfl,Below.refl _ _⟩
def lastN9:Option ByteArray→List Ent→Option ByteArray
 | p,[]=>p
 | _,x::r=>lastN9 (some x.n) r
theorem lastN9_app:∀(A:List Ent) (p:Option ByteArray) (x:Ent),lastN9 p (A++[x])=some x.n
 | [],_,_=>rfl
 | a::r,p,x=>lastN9_app r (some a.n) x
theorem nmU_snoc:∀(A:List Ent) (p:Option ByteArray) (x:Ent),nmU p (A++[x])=nmU p A++(if lastN9 p A=some x.n then [] else [x.n])
 | [],p,x=>by
  show nmU p [x]=[]++_
  rw [nmU_cons,List.nil_append];rfl
 | a::r,p,x=>by
  rw [List.cons_append,nmU_cons,nmU_cons]
  show _=_++(if lastN9 (some a.n) r=some x.n then [] else [x.n])
  split
  ·rename_i h
   rw [nmU_snoc r p x,h]
  ·rw [nmU_snoc r (some a.n) x];rfl
theorem nmU_first {L:List Ent} (h:0 < L.length):nmU none (L.take (0+1))=nmU none (L.take 0)++[L[0].n]:=by
 rw [List.take_succ_eq_append_getElem h,nmU_snoc,List.take_zero,if_neg (by intro q;cases q)]
theorem nmU_next {L:List Ent} {k:Nat} (h:k+1 < L.length):(L[k+1].n=L[k].n→nmU none (L.take (k+1+1))=nmU none (L.take (k+1)))∧(L[k+1].n≠L[k].n→nmU none (L.take (k+1+1))=nmU none (L.take (k+1))++[L[k+1].n]):=by
 have e:lastN9 none (L.take (k+1))=some L[k].n:=by
  rw [List.take_succ_eq_append_getElem (by omega),lastN9_app]
 have s:nmU none (L.take (k+1+1))=nmU none (L.take (k+1))++(if some L[k].n=some L[k+1].n then [] else [L[k+1].n]):=by
  rw [List.take_succ_eq_append_getElem h,nmU_snoc,e]
 exact ⟨fun q=>by rw [s,if_pos (by rw [q]),List.append_nil],fun q=>by rw [s,if_neg fun z=>q (Option.some.inj z).symm]⟩
theorem nmU_le:∀(p:Option ByteArray) (L:List Ent),(nmU p L).length≤L.length
 | _,[]=>Nat.le_refl _
 | p,x::r=>by
  rw [nmU_cons]
  split
  ·exact Nat.le_succ_of_le (nmU_le p r)
  ·exact Nat.succ_le_succ (nmU_le (some x.n) r)
end Go.Proofs.YtoopkofekekmoaaGreatDoor
namespace Go.Proofs.YtoopkofekekmoaaGreatDoor
open Go.RowKit Go.Sort
theorem str9l_info:(Tryz.prog.info? 9).map (fun i=>(i.zero,i.size,i.bytes))=some (some (.string { data:=#[] }),1,16):=by kernel_rfl
set_option maxHeartbeats 16000000 in
theorem q9names_any (b:Nat) (L:List Ent) (m:List Hr) (w:World) (h:UR w b L m) (hl:L.length≤200) :
  Calls Tryz.prog 19 #[.pointer (some ⟨b,0,none⟩)] w fun e w'=>(∃A c,e=.returned (.slice A (nmU none L).length c)∧rdNms w' (lt_ w'.heap.size) (nmU none L) [.slice A (nmU none L).length c])∧Below w.heap.size w w':=by
 have mixed:Tryz.prog.follows .mixedOrders=true:=by kernel_rfl
 obtain ⟨fi,hi,hz0,hz1,hz2⟩:=info_parts str9l_info
 obtain ⟨A,c,A',c',h1,-,h3,-⟩:=h
 obtain ⟨-,hnc,hcm,-⟩:=rdEnts_at h3
 have hcm':c≤9223372036854775807:=hcm
 have b0:=h1
 have H1:=Lib.hid h1
 have HH:=Lib.hid (fun (W:World) (hb:Below w.heap.size w W)=>(rdEnts_at (rdEnts_good.both (w':=W) (S':=lt_ W.heap.size) h3 (fun k hk=>hb.block k hk.1) (fun k hk=>Nat.lt_of_lt_of_le hk.1 hb.size))).2.2.2)
 clear h1 h3 hcm
 go_enter Tryz.func19,Tryz.ntmps19
 go_wp2
 go_loopw [3,4] (fun v i wr=>∃k:Nat,k≤L.length∧i=.int .i64 k∧Grow rdNm 1 (fun _=>True) wr w.heap.size 9 v (nmU none (L.take k))∧Below w.heap.size w wr) (fun _ i _=>L.length - (intOf i).toNat)
 case atStart=>exact ⟨0,Nat.zero_le _,rfl,Grow.nil _ _ _ _,Below.refl _ _⟩
 case round=>
  obtain ⟨k,hk,rfl,hG,hbel⟩:=hrel
  have HB:=Lib.hid hbel
  have HG:=Lib.hid hG
  clear hG b0
  have b0:=(show wr.cell? ⟨b,0,none⟩=some (.slice A L.length c) from keep6 hbel H1.out)
  clear hbel
  by_cases hlt:k < L.length
  ·have LN:=Lib.hid (show (nmU none (L.take k)).length≤200 from Nat.le_trans (nmU_le _ _) (by rw [List.length_take];omega))
   obtain ⟨ad,A1,c1,A2,c2,A3,c3,A4,c4,rfl,-,-,g0,-⟩:=HH.out wr HB.out k hlt
   have GK:=Lib.hid (fun (W:World) (hb:Below wr.heap.size wr W)=>HG.out.below rdNm_good hb)
   have GC:=Lib.hid (fun (W:World) (hb:Below wr.heap.size wr W)=>And.intro (keep6 hb b0) (keep6 hb g0))
   have BW:=Lib.hid (fun dd os=>below_regrown wr dd os)
   have xb:=fun dd os=>cell_regrown (w:=wr) b0 dd os
   have x0:=fun dd os=>cell_regrown (w:=wr) g0 dd os
   rcases k with _|k
   ·have ST:=Lib.hid (nmU_first hlt)
    have i0:(0:Int) < (L.length:Int):=by omega
    generalize nmU none (L.take 0)=gl at *
    generalize hgn:nmU none (L.take (0+1))=gn at *
    have HGN:=Lib.hid hgn
    clear hgn
    generalize L[0]=x at *
    clear g0 HG
    go_wp2_with fail
    refine wp_region_quiet_below mixed (by kernel_rfl) ?_
    repeat (go_big_quiet_step (fail))
    refine wpQuiet_nil ?_
    intro W3 hw3
    have BX:=Lib.hid (show Below wr.heap.size wr W3 from by obtain ⟨pp,e⟩:=hw3;rw [e];exact BW.out pp.d pp.os)
    have B3:=Lib.hid (bel_in HB.out BX.out)
    have G3:=Lib.hid (GK.out W3 BX.out)
    clear b0
    obtain ⟨b0,g0⟩:=GC.out W3 BX.out
    clear hw3 BW xb x0
    have g00:W3.cell? ad=some (.string x.n):=g0
    have hE:=(show rdNm W3 (fun b=>True∧b < W3.heap.size∧u3.ownBlock≠some b) x.n (#[Value.string x.n]:Array Value).toList from rfl)
    have hn1:gl.length+1≤maxLen:=by have:=LN.out;unfold maxLen;omega
    have hn2:(gl.length+1)*16≤140737488355328:=by have:=LN.out;omega
    have hbs3:w.heap.size≤W3.heap.size:=B3.out.size
    have hG3:=G3.out
    go_wp2_with (at_builtin;refine wpList_grow1 W3 rfl _ _ 41 rfl rdNm_good (by decide) (fun _=>True) w.heap.size 9 fi _ 16 Tryz.underlying41 hi hz0 hz1 hz2 rfl u3 gl rfl hG3 x.n _ 9 hE _ rfl rfl hn1 hn2 hbs3 ?_)
    intro v' w' hG' hgr
    have G4:=Lib.hid hG'
    have B4:=Lib.hid (grow_below hG3 hgr B3.out (Nat.le_refl _) hbs3)
    clear hG3 hgr hE hG' G3
    go_wp2
    go_roundw
    case rel=>exact ⟨1,by omega,rfl,by rw [HGN.out,ST.out];exact G4.out,B4.out⟩
    case measure=>simp [intOf];omega
   ·have ST:=Lib.hid (nmU_next hlt)
    obtain ⟨ad',D1,d1,D2,d2,D3,d3,D4,d4,ea,-,-,q0,-⟩:=HH.out wr HB.out k (by omega)
    obtain rfl:ad=ad':=Option.some.inj ea
    have y0:=fun dd os=>cell_regrown (w:=wr) q0 dd os
    have i0:(0:Int)≤(k:Int):=by omega
    have i2:(0:Int)≤(k:Int)+1:=by omega
    have i1:(k:Int)+1 < (L.length:Int):=by omega
    have i3:(k:Int) < (L.length:Int):=by omega
    have i4:((k:Int)+1==0)=false:=by rw [beq_eq_false_iff_ne];omega
    have i5:IntKind.i64.wrap (k:Int)=(k:Int):=IntWalk.i64_in _ (by omega)
    have en:=str_eq L[k+1].n L[k].n
    generalize nmU none (L.take (k+1))=gl at *
    generalize hgn:nmU none (L.take (k+1+1))=gn at *
    have HGN:=Lib.hid hgn
    clear hgn
    generalize L[k+1]=x at *
    generalize L[k]=y at *
    clear g0 HG ea q0
    by_cases he:x.n=y.n
    ·rw [decide_eq_true he] at en
     have NX:=Lib.hid (ST.out.1 he)
     clear he
     go_wp2_with fail
     refine wp_region_quiet_below mixed (by kernel_rfl) ?_
     repeat (go_big_quiet_step (fail))
     refine wpQuiet_nil ?_
     intro W3 hw3
     have BX:=Lib.hid (show Below wr.heap.size wr W3 from by obtain ⟨pp,e⟩:=hw3;rw [e];exact BW.out pp.d pp.os)
     have B3:=Lib.hid (bel_in HB.out BX.out)
     have G3:=Lib.hid (GK.out W3 BX.out)
     clear hw3 BW xb x0 y0
     go_wp2
     go_roundw
     case rel=>exact ⟨k+1+1,by omega,by go_num,by rw [HGN.out,NX.out];exact G3.out,B3.out⟩
     case measure=>simp [intOf];omega
    ·rw [decide_eq_false he] at en
     have NX:=Lib.hid (ST.out.2 he)
     clear he
     go_wp2_with fail
     refine wp_region_quiet_below mixed (by kernel_rfl) ?_
     repeat (go_big_quiet_step (fail))
     refine wpQuiet_nil ?_
     intro W3 hw3
     have BX:=Lib.hid (show Below wr.heap.size wr W3 from by obtain ⟨pp,e⟩:=hw3;rw [e];exact BW.out pp.d pp.os)
     have B3:=Lib.hid (bel_in HB.out BX.out)
     have G3:=Lib.hid (GK.out W3 BX.out)
     clear b0
     obtain ⟨b0,g0⟩:=GC.out W3 BX.out
     clear hw3 BW xb x0 y0
     have hE:=(show rdNm W3 (fun b=>True∧b < W3.heap.size∧u3.ownBlock≠some b) x.n (#[Value.string x.n]:Array Value).toList from rfl)
     have hn1:gl.length+1≤maxLen:=by have:=LN.out;unfold maxLen;omega
     have hn2:(gl.length+1)*16≤140737488355328:=by have:=LN.out;omega
     have hbs3:w.heap.size≤W3.heap.size:=B3.out.size
     have hG3:=G3.out
     go_wp2_with (at_builtin;refine wpList_grow1 W3 rfl _ _ 41 rfl rdNm_good (by decide) (fun _=>True) w.heap.size 9 fi _ 16 Tryz.underlying41 hi hz0 hz1 hz2 rfl u3 gl rfl hG3 x.n _ 9 hE _ rfl rfl hn1 hn2 hbs3 ?_)
     intro v' w' hG' hgr
     have G4:=Lib.hid hG'
     have B4:=Lib.hid (grow_below hG3 hgr B3.out (Nat.le_refl _) hbs3)
     clear hG3 hgr hE hG' G3
     go_wp2
     go_roundw
     case rel=>exact ⟨k+1+1,by omega,by go_num,by rw [HGN.out,NX.out];exact G4.out,B4.out⟩
     case measure=>simp [intOf];omega
  ·obtain rfl:k=L.length:=by omega
   have i0:¬(L.length:Int) < (L.length:Int):=by omega
   have RD:=Lib.hid (show rdNms wr (lt_ wr.heap.size) (nmU none L) [u3] from by
    have:=HG.out.read rdNm_good
    rwa [List.take_length] at this)
   obtain ⟨Av,cv,hv6,-,-⟩:=id RD.out
   simp only [List.cons.injEq,and_true] at hv6
   subst hv6
   clear HG
   go_wp2
   go_ret
   exact ⟨⟨Av,cv,rfl,RD.out⟩,HB.out⟩
end Go.Proofs.YtoopkofekekmoaaGreatDoor
