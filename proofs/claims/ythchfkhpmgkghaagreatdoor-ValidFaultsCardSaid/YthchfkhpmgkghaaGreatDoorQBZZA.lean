/- What the laws rest on: E10j. -/
import Derived.Test.YthchfkhpmgkghaaGreatDoorQBXZA
set_option maxRecDepth 100000
set_option linter.unusedVariables false
set_option linter.unusedSimpArgs false
namespace Go.Proofs.YthchfkhpmgkghaaGreatDoor
open Go.RowKit Go.Sort
structure Tri10 (base:Nat) (W:World) (u v x:Value) (l m n:List Ft):Prop where
 gu:Grow rdFt 3 (fun _=>True) W base 75 u l
 gv:Grow rdFt 3 (fun _=>True) W base 75 v m
 gx:Grow rdFt 3 (fun _=>True) W base 75 x n
 uv:Off u v
 ux:Off u x
 vx:Off v x
section
variable {base:Nat} {W w':World} {u v x u' v' x':Value} {l m n l':List Ft}
theorem Tri10.nil (base:Nat) (W:World):Tri10 base W (.slice none 0 0) (.slice none 0 0) (.slice none 0 0) [] [] []:=⟨Grow.nil _ _ _ _,Grow.nil _ _ _ _,Grow.nil _ _ _ _,Off.nil _,Off.nil _,Off.nil _⟩
theorem Tri10.below (h:Tri10 base W u v x l m n) (hb:Below W.heap.size W w'):Tri10 base w' u v x l m n:=⟨h.gu.below rdFt_good hb,h.gv.below rdFt_good hb,h.gx.below rdFt_good hb,h.uv,h.ux,h.vx⟩
theorem Tri10.atU (h:Tri10 base W u v x l m n) (hG:Grow rdFt 3 (fun _=>True) w' base 75 u' l') (hg:W.grownBy w' u.ownBlock) (hm:Moved W u u'):Tri10 base w' u' v x l' m n:=by
 obtain ⟨b1,o1⟩:=Grow.beside rdFt_good (T:=fun _=>True) (h.gv.flat ft_flat) h.uv.symm hg hm
 obtain ⟨b2,o2⟩:=Grow.beside rdFt_good (T:=fun _=>True) (h.gx.flat ft_flat) h.ux.symm hg hm
 exact ⟨hG,b1.flat ft_flat,b2.flat ft_flat,o1.symm,o2.symm,h.vx⟩
theorem Tri10.atV (h:Tri10 base W u v x l m n) (hG:Grow rdFt 3 (fun _=>True) w' base 75 v' l') (hg:W.grownBy w' v.ownBlock) (hm:Moved W v v'):Tri10 base w' u v' x l l' n:=by
 obtain ⟨b1,o1⟩:=Grow.beside rdFt_good (T:=fun _=>True) (h.gu.flat ft_flat) h.uv hg hm
 obtain ⟨b2,o2⟩:=Grow.beside rdFt_good (T:=fun _=>True) (h.gx.flat ft_flat) h.vx.symm hg hm
 exact ⟨b1.flat ft_flat,hG,b2.flat ft_flat,o1,h.ux,o2.symm⟩
theorem Tri10.atX (h:Tri10 base W u v x l m n) (hG:Grow rdFt 3 (fun _=>True) w' base 75 x' l') (hg:W.grownBy w' x.ownBlock) (hm:Moved W x x'):Tri10 base w' u v x' l m l':=by
 obtain ⟨b1,o1⟩:=Grow.beside rdFt_good (T:=fun _=>True) (h.gu.flat ft_flat) h.ux hg hm
 obtain ⟨b2,o2⟩:=Grow.beside rdFt_good (T:=fun _=>True) (h.gv.flat ft_flat) h.vx hg hm
 exact ⟨b1.flat ft_flat,b2.flat ft_flat,hG,h.uv,o1,o2⟩
end
structure TriQ (base:Nat) (W:World) (u v x:Value) (l m n:List Ft) (q:Nat) (o:Obj):Prop where
 t:Tri10 base W u v x l m n
 hq:W.heap[q]?=some o
 nu:u.ownBlock≠some q
 nv:v.ownBlock≠some q
 nx:x.ownBlock≠some q
section
variable {base q:Nat} {o:Obj} {W w':World} {u v x u' v' x':Value} {l m n l':List Ft}
theorem TriQ.lt (h:TriQ base W u v x l m n q o):q < W.heap.size:=(Array.getElem?_eq_some_iff.1 h.hq).1
theorem TriQ.below (h:TriQ base W u v x l m n q o) (hb:Below W.heap.size W w'):TriQ base w' u v x l m n q o:=⟨h.t.below hb,(hb.block q h.lt).trans h.hq,h.nu,h.nv,h.nx⟩
theorem moved_ne (hq:q < W.heap.size) (hu:u.ownBlock≠some q) (hm:Moved W u u'):u'.ownBlock≠some q:=by
 intro e
 rcases hm with h|⟨c,h,hc⟩
 ·exact hu (h ▸ e)
 ·rw [h] at e;injection e with e;omega
theorem TriQ.atU (h:TriQ base W u v x l m n q o) (hG:Grow rdFt 3 (fun _=>True) w' base 75 u' l') (hg:W.grownBy w' u.ownBlock) (hm:Moved W u u'):TriQ base w' u' v x l' m n q o:=
 ⟨h.t.atU hG hg hm,(hg.block q h.lt (fun e=>h.nu e.symm)).trans h.hq,moved_ne h.lt h.nu hm,h.nv,h.nx⟩
theorem TriQ.atV (h:TriQ base W u v x l m n q o) (hG:Grow rdFt 3 (fun _=>True) w' base 75 v' l') (hg:W.grownBy w' v.ownBlock) (hm:Moved W v v'):TriQ base w' u v' x l l' n q o:=
 ⟨h.t.atV hG hg hm,(hg.block q h.lt (fun e=>h.nv e.symm)).trans h.hq,h.nu,moved_ne h.lt h.nv hm,h.nx⟩
theorem TriQ.atX (h:TriQ base W u v x l m n q o) (hG:Grow rdFt 3 (fun _=>True) w' base 75 x' l') (hg:W.grownBy w' x.ownBlock) (hm:Moved W x x'):TriQ base w' u v x' l m l' q o:=
 ⟨h.t.atX hG hg hm,(hg.block q h.lt (fun e=>h.nx e.symm)).trans h.hq,h.nu,h.nv,moved_ne h.lt h.nx hm⟩
theorem Tri10.box (h:Tri10 base W u v x l m n) (o:Array Value) (t:TypeId):TriQ base (W.alloc (.cells o t)) u v x l m n W.heap.size (.cells o t (0,0)):=
 ⟨h.below ((Below.refl _ _).alloc (Nat.le_refl _) _),heap_alloc_new W _,fun e=>absurd (h.gu.lt _ e).2 (by omega),fun e=>absurd (h.gv.lt _ e).2 (by omega),fun e=>absurd (h.gx.lt _ e).2 (by omega)⟩
end
structure Ap10 (w V V3:World) (v:Value) (g:List Ft) (y:Ft):Prop where
 b:Below w.heap.size w V3
 g:Grow rdFt 3 (fun _=>True) V3 w.heap.size 75 v g
 x:rdFts V3 (fun c=>c=V.heap.size) [y] [.slice (some ⟨V.heap.size,0,none⟩) 1 1]
 s:∀c,c=V.heap.size→True∧c < V3.heap.size∧v.ownBlock≠some c
 bs:w.heap.size≤V3.heap.size
theorem app10 {w V:World} {v:Value} {g:List Ft} (hb:Below w.heap.size w V) (hG:Grow rdFt 3 (fun _=>True) V w.heap.size 75 v g) (y:Ft):Ap10 w V (V.alloc (.cells #[.int .i64 y.k,.int .i64 y.a,.int .i64 y.b] 75)) v g y:=
 ⟨hb.alloc hb.size _,hG.alloc rdFt_good _,one_rd (ty:=75) rdFt_good (heap_alloc_new V _) rfl rfl,fun c hc=>⟨trivial,by rw [hc,World.size_alloc];exact Nat.lt_succ_self _,fun hh=>by have:=(hG.lt c hh).2;omega⟩,by rw [World.size_alloc];have:=hb.size;omega⟩
theorem six_cells {W:World} {q:Nat} {t:TypeId} {x0 x1 x2 x3 x4 x5:Value} (h:W.heap[q]?=some (.cells #[x0,x1,x2,x3,x4,x5] t (0,0))) :
  W.cell? ⟨q,0,none⟩=some x0∧W.cell? ⟨q,1,none⟩=some x1∧W.cell? ⟨q,2,none⟩=some x2∧W.cell? ⟨q,3,none⟩=some x3∧W.cell? ⟨q,4,none⟩=some x4∧W.cell? ⟨q,5,none⟩=some x5:=
 ⟨(cell_of_row _ _ 0 _ _ (0,0) h).trans rfl,(cell_of_row _ _ 1 _ _ (0,0) h).trans rfl,(cell_of_row _ _ 2 _ _ (0,0) h).trans rfl,(cell_of_row _ _ 3 _ _ (0,0) h).trans rfl,(cell_of_row _ _ 4 _ _ (0,0) h).trans rfl,(cell_of_row _ _ 5 _ _ (0,0) h).trans rfl⟩
set_option maxHeartbeats 32000000 in
theorem q10inside_any (b:Nat) (U:List Ent) (m:List Hr) (Al:Option Addr) (nl cl:Nat) (l:List Int) (w:World) (h:UR w b U m) (hl:rdInts w (lt_ w.heap.size) l [.slice Al nl cl]) (hs:∀p ∈ l,0≤p∧p < (U.length:Int)) (hp:∀x ∈ U,x.p.length≤1000) (hT:(insS U l).length≤1000000) :
  Calls Tryz.prog 51 #[.pointer (some ⟨b,0,none⟩),.slice Al nl cl] w fun e w'=>(∃A c,e=.returned (.slice A (insS U l).length c)∧rdFts w' (own10 w w') (insS U l) [.slice A (insS U l).length c])∧Below w.heap.size w w':=by
 have mixed:Tryz.prog.follows .mixedOrders=true:=by kernel_rfl
 obtain ⟨fi,hi0,hz0,hz1,hz2⟩:=info_parts ft10_info
 obtain ⟨rfl,hlc,hlm,-⟩:=rdInts_at hl
 have hlm':cl≤9223372036854775807:=hlm
 have HL:=Lib.hid (fun (W:World) (hb:Below w.heap.size w W)=>(rdInts_at (rdInts_good.up (rdInts_good.below hl hb) hb.size)).2.2.2)
 have KM:=Lib.hid (fun (Ag:Option Addr) (cg:Nat) (g:List Atm) (W:World) (hb:Below w.heap.size w W) hg=>q10group_any b U m Al l.length cl l Ag g.length cg g W (h.below hb) (rdInts_good.up (rdInts_good.below hl hb) hb.size) hs hp hg)
 obtain ⟨Au,cu,Av,cv,h1,-,h3,-⟩:=h
 obtain ⟨-,huc,hum,-⟩:=rdEnts_at h3
 have hum':cu≤9223372036854775807:=hum
 have HU1:=Lib.hid h1
 have HU:=Lib.hid (fun (W:World) (hb:Below w.heap.size w W)=>(rdEnts_at (rdEnts_good.both (w':=W) (S':=lt_ W.heap.size) h3 (fun k hk=>hb.block k hk.1) (fun k hk=>Nat.lt_of_lt_of_le hk.1 hb.size))).2.2.2)
 have HS:=Lib.hid hs
 have HP:=Lib.hid hp
 clear hl hlm h1 h3 hum hs hp
 obtain ⟨T,hT0⟩:∃T,T=insS U l:=⟨_,rfl⟩
 obtain ⟨T1,hT1⟩:∃T,T=pairP smN 1 U l:=⟨_,rfl⟩
 obtain ⟨T2,hT2⟩:∃T,T=pairP fgt 2 U l:=⟨_,rfl⟩
 obtain ⟨T3,hT3⟩:∃T,T=opnS U l l:=⟨_,rfl⟩
 rw [←hT0] at hT ⊢
 have ET:=Lib.hid (show T1++T2++T3=T by rw [hT0,hT1,hT2,hT3];rfl)
 have LT:=Lib.hid (show T1.length≤1000000∧T2.length≤1000000∧T3.length≤1000000 from by
  have:=congrArg List.length ET.out
  rw [List.length_append,List.length_append] at this
  omega)
 have L0:=Lib.hid hT
 have E1:=Lib.hid hT1
 have E2:=Lib.hid hT2
 have E3:=Lib.hid hT3
 clear hT hT0 hT1 hT2 hT3
 go_enter Tryz.func51,Tryz.ntmps51
 go_wp2
 go_loopw [5,6,7,8] (fun v5 v6 v7 i wr=>∃k:Nat,k≤l.length∧i=.int .i64 k∧(∃g1 g2 g3,Tri10 w.heap.size wr v5 v6 v7 g1 g2 g3∧Hid (g1++pairP smN 1 U (l.drop k)=T1)∧Hid (g2++pairP fgt 2 U (l.drop k)=T2)∧Hid (g3++opnS U l (l.drop k)=T3))∧Below w.heap.size w wr) (fun _ _ _ i _=>l.length - (intOf i).toNat)
 case atStart=>exact ⟨0,Nat.zero_le _,rfl,⟨[],[],[],Tri10.nil _ _,Lib.hid E1.out.symm,Lib.hid E2.out.symm,Lib.hid E3.out.symm⟩,Below.refl _ _⟩
 case round=>
  obtain ⟨k,hk,rfl,⟨g1,g2,g3,hTr,H1,H2,H3⟩,hbel⟩:=hrel
  have HB:=Lib.hid hbel
  have TR:=Lib.hid hTr
  clear hbel hTr
  by_cases hlt:k < l.length
  ·have i0:(0:Int)≤(k:Int):=by omega
   have i1:(k:Int) < (l.length:Int):=by omega
   have P1:=Lib.hid (pairP_step (f:=smN) (k:=1) (U:=U) hlt)
   have P2:=Lib.hid (pairP_step (f:=fgt) (k:=2) (U:=U) hlt)
   have P3:=Lib.hid (opnS_step (U:=U) (l:=l) hlt)
   obtain ⟨s0,s1⟩:=HS.out _ (List.getElem_mem hlt)
   obtain ⟨adl,rfl,-,l0⟩:=HL.out w (Below.refl _ _) k hlt
   obtain ⟨p,hpp⟩:∃p,p=l[k]:=⟨_,rfl⟩
   rw [←hpp] at P1 P2 P3 s0 s1 l0
   have HPK:=Lib.hid hpp
   clear hpp
   obtain ⟨jp,rfl⟩:=Int.eq_ofNat_of_zero_le s0
   have hjp:jp < U.length:=by omega
   obtain ⟨adu,D1,d1,D2,d2,D3,d3,D4,d4,rfl,-,hv,u0,u1,u2,u3,u4,u5⟩:=HU.out w (Below.refl _ _) jp hjp
   have b0:=HU1.out
   have jp0:(0:Int)≤(jp:Int):=by omega
   have jp1:(jp:Int) < (U.length:Int):=by omega
   have EJ:=Lib.hid (entA_at hjp)
   have HPX:=Lib.hid (HP.out _ (List.getElem_mem hjp))
   have HV:=Lib.hid hv
   generalize hxj:U[jp]=xj at *
   clear hxj hv s0 s1
   have SK:=Lib.hid (fun (W:World) (hb:Below w.heap.size w W)=>And.intro (keep6 hb b0) (And.intro (keep6 hb l0) (And.intro (keep6 hb u0) (And.intro (keep6 hb u1) (And.intro (keep6 hb u2) (And.intro (keep6 hb u3) (And.intro (keep6 hb u4) (keep6 hb u5))))))))
   obtain ⟨n,v,d,r,c',p'⟩:=xj
   simp only at u0 u1 u2 u3 u4 u5 SK
   clear u0 u1 u2 u3 u4 u5 l0 b0
   go_wp2_with fail
   refine wp_region_noPanic ?_
   refine wp_region_D (fun W=>W.cell? ⟨b,0,none⟩=some (.slice (some adu) U.length cu)∧W.cell? (adl.add k)=some (.int .i64 (jp:Int))∧W.cell? (adu.add (jp*6))=some (.string n)∧W.cell? ⟨(adu.add (jp*6)).block,(adu.add (jp*6)).off+1,none⟩=some (.string v)∧W.cell? ⟨(adu.add (jp*6)).block,(adu.add (jp*6)).off+2,none⟩=some (.slice D1 d.length d1)∧W.cell? ⟨(adu.add (jp*6)).block,(adu.add (jp*6)).off+3,none⟩=some (.slice D2 r.length d2)∧W.cell? ⟨(adu.add (jp*6)).block,(adu.add (jp*6)).off+4,none⟩=some (.slice D3 c'.length d3)∧W.cell? ⟨(adu.add (jp*6)).block,(adu.add (jp*6)).off+5,none⟩=some (.slice D4 p'.length d4)) 11 (by kernel_rfl) (w0:=wr) (Dr.refl _) (fun V hV=>SK.out V (bel_in HB.out (hV.below wr.heap.size))) (fun V hV hHeld=>?_)
   have BV0:=Lib.hid (hV.below wr.heap.size)
   have BV:=Lib.hid (bel_in HB.out BV0.out)
   clear hV
   refine wpAnyL_take (i:=0) (v:=?_) [9,8,3,2,1] rfl (by kernel_rfl) (by kernel_rfl) (by kernel_rfl) (fun _ _ _ h=>h) (by kernel_rfl) (by kernel_rfl) (by kernel_rfl) (Or.inl ⟨by rfl,?_⟩) (by assumption) ?_
   rotate_left
   ·intro w hSw
    try dsimp only at hSw
    go_simp
    first|done|with_reducible rfl
   try simp only [Act.put,List.setIfInBounds_toArray,List.set_cons_zero,List.set_cons_succ]
   refine wpAnyL_take (i:=1) (v:=?_) [9,8,3,2] rfl (by kernel_rfl) (by kernel_rfl) (by kernel_rfl) (fun _ _ _ h=>h) (by kernel_rfl) (by kernel_rfl) (by kernel_rfl) (Or.inl ⟨by rfl,?_⟩) (by assumption) ?_
   rotate_left
   ·intro w hSw
    try dsimp only at hSw
    go_simp
    first|done|with_reducible rfl
   try simp only [Act.put,List.setIfInBounds_toArray,List.set_cons_zero,List.set_cons_succ]
   refine wpAnyL_take (i:=2) (v:=?_) [9,8,3] rfl (by kernel_rfl) (by kernel_rfl) (by kernel_rfl) (fun _ _ _ h=>h) (by kernel_rfl) (by kernel_rfl) (by kernel_rfl) (Or.inl ⟨by rfl,?_⟩) (by assumption) ?_
   rotate_left
   ·intro w hSw
    try dsimp only at hSw
    go_simp
    first|done|with_reducible rfl
   try simp only [Act.put,List.setIfInBounds_toArray,List.set_cons_zero,List.set_cons_succ]
   refine wpAnyL_take (i:=3) (v:=?_) [9,8] rfl (by kernel_rfl) (by kernel_rfl) (by kernel_rfl) (fun _ _ _ h=>h) (by kernel_rfl) (by kernel_rfl) (by kernel_rfl) (Or.inl ⟨by rfl,?_⟩) (by assumption) ?_
   rotate_left
   ·intro w hSw
    try dsimp only at hSw
    go_simp
    first|done|with_reducible rfl
   try simp only [Act.put,List.setIfInBounds_toArray,List.set_cons_zero,List.set_cons_succ]
   refine wpAnyL_take (i:=4) (v:=?_) [9,8,7,6] rfl (by kernel_rfl) (by kernel_rfl) (by kernel_rfl) (fun _ _ _ h=>h) (by kernel_rfl) (by kernel_rfl) (by kernel_rfl) (Or.inl ⟨by rfl,?_⟩) (by assumption) ?_
   rotate_left
   ·intro w hSw
    try dsimp only at hSw
    go_simp
    first|done|with_reducible rfl
   try simp only [Act.put,List.setIfInBounds_toArray,List.set_cons_zero,List.set_cons_succ]
   refine wpAnyL_take (i:=5) (v:=?_) [9,8,7,6] rfl (by kernel_rfl) (by kernel_rfl) (by kernel_rfl) (fun _ _ _ h=>h) (by kernel_rfl) (by kernel_rfl) (by kernel_rfl) (Or.inl ⟨by rfl,?_⟩) (by assumption) ?_
   rotate_left
   ·intro w hSw
    try dsimp only at hSw
    go_simp
    first|done|with_reducible rfl
   try simp only [Act.put,List.setIfInBounds_toArray,List.set_cons_zero,List.set_cons_succ]
   refine wpAnyL_take (i:=6) (v:=?_) [9,8,7] rfl (by kernel_rfl) (by kernel_rfl) (by kernel_rfl) (fun _ _ _ h=>h) (by kernel_rfl) (by kernel_rfl) (by kernel_rfl) (Or.inl ⟨by rfl,?_⟩) (by assumption) ?_
   rotate_left
   ·intro w hSw
    try dsimp only at hSw
    go_simp
    first|done|with_reducible rfl
   try simp only [Act.put,List.setIfInBounds_toArray,List.set_cons_zero,List.set_cons_succ]
   refine wpAnyL_take (i:=7) (v:=?_) [9,8] rfl (by kernel_rfl) (by kernel_rfl) (by kernel_rfl) (fun _ _ _ h=>h) (by kernel_rfl) (by kernel_rfl) (by kernel_rfl) (Or.inl ⟨by rfl,?_⟩) (by assumption) ?_
   rotate_left
   ·intro w hSw
    try dsimp only at hSw
    go_simp
    first|done|with_reducible rfl
   try simp only [Act.put,List.setIfInBounds_toArray,List.set_cons_zero,List.set_cons_succ]
   refine wpAnyL_take (i:=8) (v:=?_) [9] rfl (by kernel_rfl) (by kernel_rfl) (by kernel_rfl) (fun _ _ _ h=>h) (by kernel_rfl) (by kernel_rfl) (by kernel_rfl) (Or.inl ⟨by rfl,?_⟩) (by assumption) ?_
   rotate_left
   ·intro w hSw
    try dsimp only at hSw
    go_simp
    first|done|with_reducible rfl
   try simp only [Act.put,List.setIfInBounds_toArray,List.set_cons_zero,List.set_cons_succ]
   refine wpAnyL_take (i:=9) (v:=?_) [] rfl (by kernel_rfl) (by kernel_rfl) (by kernel_rfl) (fun _ _ _ h=>h) (by kernel_rfl) (by kernel_rfl) (by kernel_rfl) (Or.inl ⟨by rfl,?_⟩) (by assumption) ?_
   rotate_left
   ·intro w hSw
    try dsimp only at hSw
    go_simp
    first|done|with_reducible rfl
   try simp only [Act.put,List.setIfInBounds_toArray,List.set_cons_zero,List.set_cons_succ]
   refine wpAnyL_one (i:=10) (by kernel_rfl) rfl (fun K hK=>?_)
   go_simp
   refine hK.out _ _ (SK.out _ (BV.out.alloc BV.out.size _)) (fun hHeld=>?_)
   clear hK K
   try simp only [Act.put,List.setIfInBounds_toArray,List.set_cons_zero,List.set_cons_succ]
   refine wpAnyL_last (by kernel_rfl) rfl (by kernel_rfl) (fun K hK=>?_)
   go_simp
   refine hK.out _ _ ?_
   clear hK K
   refine NoPanic.normal ?_
   obtain ⟨wa,hwa⟩:∃W,W=V.alloc (.cells #[.string n,.string v,.slice D1 d.length d1,.slice D2 r.length d2,.slice D3 c'.length d3,.slice D4 p'.length d4] 67):=⟨_,rfl⟩
   obtain ⟨qa,hqa⟩:∃q,q=V.heap.size:=⟨_,rfl⟩
   have QA:=Lib.hid (show TriQ w.heap.size wa u5 u6 u7 g1 g2 g3 qa (.cells #[.string n,.string v,.slice D1 d.length d1,.slice D2 r.length d2,.slice D3 c'.length d3,.slice D4 p'.length d4] 67 (0,0)) from by rw [hwa,hqa];exact (TR.out.below BV0.out).box _ _)
   have HBa:=Lib.hid (show Below w.heap.size w wa from by rw [hwa];exact BV.out.alloc BV.out.size _)
   rw [←hqa,←hwa]
   clear hwa hqa BV BV0 hHeld TR SK
   have IV1:=Lib.hid (show Hid (g1++(rowP smN 1 U (jp:Int) (l.drop (k+1))++pairP smN 1 U (l.drop (k+1)))=T1) from by rw [←P1.out];exact H1)
   have IV2:=Lib.hid (show Hid (g2++(rowP fgt 2 U (jp:Int) (l.drop (k+1))++pairP fgt 2 U (l.drop (k+1)))=T2) from by rw [←P2.out];exact H2)
   have IV3:=Lib.hid (show Hid (g3++(opnP U l (jp:Int) d 0++opnS U l (l.drop (k+1)))=T3) from by
    have:=H3.out
    rw [P3.out,EJ.out] at this
    exact this)
   clear P1 P2 P3 H1 H2 H3 HB
   have k1:IntKind.i64.wrap ((k:Int)+1)=(k:Int)+1:=IntWalk.i64_in _ (by omega)
   go_wp2
   go_loopw [5,6,10] (fun v5 v6 i wr=>∃j:Nat,j≤l.length∧i=.int .i64 j∧(∃g1 g2,TriQ w.heap.size wr v5 v6 u7 g1 g2 g3 qa (.cells #[.string n,.string v,.slice D1 d.length d1,.slice D2 r.length d2,.slice D3 c'.length d3,.slice D4 p'.length d4] 67 (0,0))∧Hid (g1++(rowP smN 1 U (jp:Int) (l.drop j)++pairP smN 1 U (l.drop (k+1)))=T1)∧Hid (g2++(rowP fgt 2 U (jp:Int) (l.drop j)++pairP fgt 2 U (l.drop (k+1)))=T2))∧Below w.heap.size w wr) (fun _ _ i _=>l.length - (intOf i).toNat)
   case atStart=>exact ⟨k+1,by omega,by first|rfl|go_num,⟨g1,g2,QA.out,IV1.out,IV2.out⟩,HBa.out⟩
   case round=>
    obtain ⟨j,hj,rfl,⟨g1,g2,hQ,H1,H2⟩,hbel⟩:=hrel
    have HB:=Lib.hid hbel
    have QT:=Lib.hid hQ
    clear hbel hQ
    by_cases hjl:j < l.length
    ·have j0:(0:Int)≤(j:Int):=by omega
     have j1:(j:Int) < (l.length:Int):=by omega
     have R1:=Lib.hid (rowP_step (f:=smN) (k:=1) (U:=U) (p:=(jp:Int)) hjl)
     have R2:=Lib.hid (rowP_step (f:=fgt) (k:=2) (U:=U) (p:=(jp:Int)) hjl)
     obtain ⟨s0,s1⟩:=HS.out _ (List.getElem_mem hjl)
     obtain ⟨adl',el,-,l0⟩:=HL.out w (Below.refl _ _) j hjl
     obtain rfl:adl=adl':=Option.some.inj el
     obtain ⟨_,el',-,lk⟩:=HL.out w (Below.refl _ _) k hlt
     obtain rfl:=Option.some.inj el'
     rw [←HPK.out] at lk
     obtain ⟨p,hpp⟩:∃p,p=l[j]:=⟨_,rfl⟩
     rw [←hpp] at R1 R2 s0 s1 l0
     clear hpp
     obtain ⟨jq,rfl⟩:=Int.eq_ofNat_of_zero_le s0
     have hjq:jq < U.length:=by omega
     rw [EJ.out,entA_at hjq] at R1 R2
     obtain ⟨adu',F1,f1,F2,f2,F3,f3,F4,f4,eu,-,hv',u0,u1,u2,u3,u4,u5⟩:=HU.out w (Below.refl _ _) jq hjq
     obtain rfl:adu=adu':=Option.some.inj eu
     have jq0:(0:Int)≤(jq:Int):=by omega
     have jq1:(jq:Int) < (U.length:Int):=by omega
     have HPY:=Lib.hid (HP.out _ (List.getElem_mem hjq))
     have HVY:=Lib.hid hv'
     have GL:=Lib.hid (And.intro (pre_len H1.out LT.out.1) (pre_len H2.out LT.out.2.1))
     generalize hyj:U[jq]=yj at *
     clear hyj hv' s0 s1 el el' eu
     have b0:=HU1.out
     have SJ:=Lib.hid (fun (W:World) (hb:Below w.heap.size w W)=>And.intro (keep6 hb b0) (And.intro (keep6 hb l0) (And.intro (keep6 hb u0) (And.intro (keep6 hb u1) (And.intro (keep6 hb u2) (And.intro (keep6 hb u3) (And.intro (keep6 hb u4) (keep6 hb u5))))))))
     have SL:=Lib.hid (fun (W:World) (hb:Below w.heap.size w W)=>And.intro (keep6 hb lk) (keep6 hb l0))
     obtain ⟨ny,vy,dy,ry,cy,py⟩:=yj
     simp only at u0 u1 u2 u3 u4 u5 SJ
     clear u0 u1 u2 u3 u4 u5 l0 b0 lk
     go_wp2_with fail
     refine wp_region_noPanic ?_
     refine wp_region_D (fun W=>W.cell? ⟨b,0,none⟩=some (.slice (some adu) U.length cu)∧W.cell? (adl.add j)=some (.int .i64 (jq:Int))∧W.cell? (adu.add (jq*6))=some (.string ny)∧W.cell? ⟨(adu.add (jq*6)).block,(adu.add (jq*6)).off+1,none⟩=some (.string vy)∧W.cell? ⟨(adu.add (jq*6)).block,(adu.add (jq*6)).off+2,none⟩=some (.slice F1 dy.length f1)∧W.cell? ⟨(adu.add (jq*6)).block,(adu.add (jq*6)).off+3,none⟩=some (.slice F2 ry.length f2)∧W.cell? ⟨(adu.add (jq*6)).block,(adu.add (jq*6)).off+4,none⟩=some (.slice F3 cy.length f3)∧W.cell? ⟨(adu.add (jq*6)).block,(adu.add (jq*6)).off+5,none⟩=some (.slice F4 py.length f4)) 11 (by kernel_rfl) (w0:=wr) (Dr.refl _) (fun V hV=>SJ.out V (bel_in HB.out (hV.below wr.heap.size))) (fun V hV hHeld=>?_)
     have BV0:=Lib.hid (hV.below wr.heap.size)
     have BV:=Lib.hid (bel_in HB.out BV0.out)
     clear hV
     refine wpAnyL_take (i:=0) (v:=?_) [9,8,3,2,1] rfl (by kernel_rfl) (by kernel_rfl) (by kernel_rfl) (fun _ _ _ h=>h) (by kernel_rfl) (by kernel_rfl) (by kernel_rfl) (Or.inl ⟨by rfl,?_⟩) (by assumption) ?_
     rotate_left
     ·intro w hSw
      try dsimp only at hSw
      go_simp
      first|done|with_reducible rfl
     try simp only [Act.put,List.setIfInBounds_toArray,List.set_cons_zero,List.set_cons_succ]
     refine wpAnyL_take (i:=1) (v:=?_) [9,8,3,2] rfl (by kernel_rfl) (by kernel_rfl) (by kernel_rfl) (fun _ _ _ h=>h) (by kernel_rfl) (by kernel_rfl) (by kernel_rfl) (Or.inl ⟨by rfl,?_⟩) (by assumption) ?_
     rotate_left
     ·intro w hSw
      try dsimp only at hSw
      go_simp
      first|done|with_reducible rfl
     try simp only [Act.put,List.setIfInBounds_toArray,List.set_cons_zero,List.set_cons_succ]
     refine wpAnyL_take (i:=2) (v:=?_) [9,8,3] rfl (by kernel_rfl) (by kernel_rfl) (by kernel_rfl) (fun _ _ _ h=>h) (by kernel_rfl) (by kernel_rfl) (by kernel_rfl) (Or.inl ⟨by rfl,?_⟩) (by assumption) ?_
     rotate_left
     ·intro w hSw
      try dsimp only at hSw
      go_simp
      first|done|with_reducible rfl
     try simp only [Act.put,List.setIfInBounds_toArray,List.set_cons_zero,List.set_cons_succ]
     refine wpAnyL_take (i:=3) (v:=?_) [9,8] rfl (by kernel_rfl) (by kernel_rfl) (by kernel_rfl) (fun _ _ _ h=>h) (by kernel_rfl) (by kernel_rfl) (by kernel_rfl) (Or.inl ⟨by rfl,?_⟩) (by assumption) ?_
     rotate_left
     ·intro w hSw
      try dsimp only at hSw
      go_simp
      first|done|with_reducible rfl
     try simp only [Act.put,List.setIfInBounds_toArray,List.set_cons_zero,List.set_cons_succ]
     refine wpAnyL_take (i:=4) (v:=?_) [9,8,7,6] rfl (by kernel_rfl) (by kernel_rfl) (by kernel_rfl) (fun _ _ _ h=>h) (by kernel_rfl) (by kernel_rfl) (by kernel_rfl) (Or.inl ⟨by rfl,?_⟩) (by assumption) ?_
     rotate_left
     ·intro w hSw
      try dsimp only at hSw
      go_simp
      first|done|with_reducible rfl
     try simp only [Act.put,List.setIfInBounds_toArray,List.set_cons_zero,List.set_cons_succ]
     refine wpAnyL_take (i:=5) (v:=?_) [9,8,7,6] rfl (by kernel_rfl) (by kernel_rfl) (by kernel_rfl) (fun _ _ _ h=>h) (by kernel_rfl) (by kernel_rfl) (by kernel_rfl) (Or.inl ⟨by rfl,?_⟩) (by assumption) ?_
     rotate_left
     ·intro w hSw
      try dsimp only at hSw
      go_simp
      first|done|with_reducible rfl
     try simp only [Act.put,List.setIfInBounds_toArray,List.set_cons_zero,List.set_cons_succ]
     refine wpAnyL_take (i:=6) (v:=?_) [9,8,7] rfl (by kernel_rfl) (by kernel_rfl) (by kernel_rfl) (fun _ _ _ h=>h) (by kernel_rfl) (by kernel_rfl) (by kernel_rfl) (Or.inl ⟨by rfl,?_⟩) (by assumption) ?_
     rotate_left
     ·intro w hSw
      try dsimp only at hSw
      go_simp
      first|done|with_reducible rfl
     try simp only [Act.put,List.setIfInBounds_toArray,List.set_cons_zero,List.set_cons_succ]
     refine wpAnyL_take (i:=7) (v:=?_) [9,8] rfl (by kernel_rfl) (by kernel_rfl) (by kernel_rfl) (fun _ _ _ h=>h) (by kernel_rfl) (by kernel_rfl) (by kernel_rfl) (Or.inl ⟨by rfl,?_⟩) (by assumption) ?_
     rotate_left
     ·intro w hSw
      try dsimp only at hSw
      go_simp
      first|done|with_reducible rfl
     try simp only [Act.put,List.setIfInBounds_toArray,List.set_cons_zero,List.set_cons_succ]
     refine wpAnyL_take (i:=8) (v:=?_) [9] rfl (by kernel_rfl) (by kernel_rfl) (by kernel_rfl) (fun _ _ _ h=>h) (by kernel_rfl) (by kernel_rfl) (by kernel_rfl) (Or.inl ⟨by rfl,?_⟩) (by assumption) ?_
     rotate_left
     ·intro w hSw
      try dsimp only at hSw
      go_simp
      first|done|with_reducible rfl
     try simp only [Act.put,List.setIfInBounds_toArray,List.set_cons_zero,List.set_cons_succ]
     refine wpAnyL_take (i:=9) (v:=?_) [] rfl (by kernel_rfl) (by kernel_rfl) (by kernel_rfl) (fun _ _ _ h=>h) (by kernel_rfl) (by kernel_rfl) (by kernel_rfl) (Or.inl ⟨by rfl,?_⟩) (by assumption) ?_
     rotate_left
     ·intro w hSw
      try dsimp only at hSw
      go_simp
      first|done|with_reducible rfl
     try simp only [Act.put,List.setIfInBounds_toArray,List.set_cons_zero,List.set_cons_succ]
     refine wpAnyL_one (i:=10) (by kernel_rfl) rfl (fun K hK=>?_)
     go_simp
     refine hK.out _ _ (SJ.out _ (BV.out.alloc BV.out.size _)) (fun hHeld=>?_)
     clear hK K
     try simp only [Act.put,List.setIfInBounds_toArray,List.set_cons_zero,List.set_cons_succ]
     refine wpAnyL_last (by kernel_rfl) rfl (by kernel_rfl) (fun K hK=>?_)
     go_simp
     refine hK.out _ _ ?_
     clear hK K
     refine NoPanic.normal ?_
     obtain ⟨wb,hwb⟩:∃W,W=V.alloc (.cells #[.string ny,.string vy,.slice F1 dy.length f1,.slice F2 ry.length f2,.slice F3 cy.length f3,.slice F4 py.length f4] 67):=⟨_,rfl⟩
     obtain ⟨qb,hqb⟩:∃q,q=V.heap.size:=⟨_,rfl⟩
     have QB:=Lib.hid (show TriQ w.heap.size wb _ _ u7 g1 g2 g3 qa (.cells #[.string n,.string v,.slice D1 d.length d1,.slice D2 r.length d2,.slice D3 c'.length d3,.slice D4 p'.length d4] 67 (0,0)) from by rw [hwb];exact (QT.out.below BV0.out).below ((Below.refl _ _).alloc (Nat.le_refl _) _))
     have HBb:=Lib.hid (show Below w.heap.size w wb from by rw [hwb];exact BV.out.alloc BV.out.size _)
     have NB:=Lib.hid (show wb.heap[qb]?=some (.cells #[.string ny,.string vy,.slice F1 dy.length f1,.slice F2 ry.length f2,.slice F3 cy.length f3,.slice F4 py.length f4] 67 (0,0)) from by rw [hwb,hqb];exact heap_alloc_new _ _)
     rw [←hqb,←hwb]
     clear hwb hqb BV BV0 hHeld SJ QT HB
     have KF:=Lib.hid (q6fights_any ⟨n,v,d,r,c',p'⟩ ⟨ny,vy,dy,ry,cy,py⟩ D1 d1 D2 d2 D3 d3 D4 d4 F1 f1 F2 f2 F3 f3 F4 f4 wb (HV.out.on HBb.out) (HVY.out.on HBb.out) HPX.out HPY.out)
     obtain ⟨x0,x1,x2,x3,x4,x5⟩:=six_cells QB.out.hq
     obtain ⟨y0,y1,y2,y3,y4,y5⟩:=six_cells NB.out
     go_wp2_with fail
     refine KF.out.mono ?_
     rintro e w4 ⟨rfl,hb⟩
     have z0:=keep6 hb x0
     have z1:=keep6 hb y0
     have Q4a:=Lib.hid (QB.out.below hb)
     have HB4:=Lib.hid (HBb.out.trans (hb.mono HBb.out.size))
     clear hb KF x0 x1 x2 x3 x4 x5 y0 y1 y2 y3 y4 y5 QB HBb NB
     have en:=str_eq n ny
     have SN:=Lib.hid (show smN ⟨n,v,d,r,c',p'⟩ ⟨ny,vy,dy,ry,cy,py⟩=decide (n=ny) from rfl)
     rw [SN.out] at R1
     generalize decide (n=ny)=same at *
     generalize fgt ⟨n,v,d,r,c',p'⟩ ⟨ny,vy,dy,ry,cy,py⟩=F at *
     have N1:=Lib.hid (fun (e:same=false)=>show Hid (g1++(rowP smN 1 U (jp:Int) (l.drop (j+1))++pairP smN 1 U (l.drop (k+1)))=T1) from by rw [←R1.out.2 e];exact H1)
     have Y1:=Lib.hid (fun (e:same=true)=>show Hid (g1++[⟨1,(jp:Int),(jq:Int)⟩]++(rowP smN 1 U (jp:Int) (l.drop (j+1))++pairP smN 1 U (l.drop (k+1)))=T1) from by
      have:=H1.out
      rw [R1.out.1 e] at this
      rw [List.append_assoc,List.singleton_append];exact this)
     have N2:=Lib.hid (fun (e:F=false)=>show Hid (g2++(rowP fgt 2 U (jp:Int) (l.drop (j+1))++pairP fgt 2 U (l.drop (k+1)))=T2) from by rw [←R2.out.2 e];exact H2)
     have Y2:=Lib.hid (fun (e:F=true)=>show Hid (g2++[⟨2,(jp:Int),(jq:Int)⟩]++(rowP fgt 2 U (jp:Int) (l.drop (j+1))++pairP fgt 2 U (l.drop (k+1)))=T2) from by
      have:=H2.out
      rw [R2.out.1 e] at this
      rw [List.append_assoc,List.singleton_append];exact this)
     clear R1 R2 H1 H2 SN
     cases same
     ·have NX1:=Lib.hid (N1.out rfl)
      clear N1 Y1
      cases F
      ·have NX2:=Lib.hid (N2.out rfl)
       clear N2 Y2
       go_wp2
       go_roundw
       case rel=>exact ⟨j+1,by omega,by go_num,⟨g1,g2,Q4a.out,NX1.out,NX2.out⟩,HB4.out⟩
       case measure=>simp [intOf];omega
      ·have NX2:=Lib.hid (Y2.out rfl)
       clear N2 Y2
       go_wp2_with fail
       refine wp_region_noPanic ?_
       refine wp_region_D (fun W=>W.cell? (adl.add k)=some (.int .i64 (jp:Int))∧W.cell? (adl.add j)=some (.int .i64 (jq:Int))) 12 (by kernel_rfl) (w0:=w4) (Dr.refl _) (fun V hV=>SL.out V (bel_in HB4.out (hV.below w4.heap.size))) (fun V hV hHeld=>?_)
       have BV:=Lib.hid (bel_in HB4.out (hV.below w4.heap.size))
       have QV:=Lib.hid (Q4a.out.below (hV.below w4.heap.size))
       have AP:=Lib.hid (app10 BV.out QV.out.t.gv ⟨2,(jp:Int),(jq:Int)⟩)
       clear hV
       refine wpAnyL_take (i:=0) (v:=?_) [11] rfl (by kernel_rfl) (by kernel_rfl) (by kernel_rfl) (fun _ _ _ h=>h) (by kernel_rfl) (by kernel_rfl) (by kernel_rfl) (Or.inl ⟨by rfl,?_⟩) (by assumption) ?_
       rotate_left
       ·intro w hSw
        try dsimp only at hSw
        go_simp
        first|done|with_reducible rfl
       try simp only [Act.put,List.setIfInBounds_toArray,List.set_cons_zero,List.set_cons_succ]
       refine wpAnyL_take (i:=1) (v:=?_) [11,10,9,4,3] rfl (by kernel_rfl) (by kernel_rfl) (by kernel_rfl) (fun _ _ _ h=>h) (by kernel_rfl) (by kernel_rfl) (by kernel_rfl) (Or.inl ⟨by rfl,?_⟩) (by assumption) ?_
       rotate_left
       ·intro w hSw
        try dsimp only at hSw
        go_simp
        first|done|with_reducible rfl
       try simp only [Act.put,List.setIfInBounds_toArray,List.set_cons_zero,List.set_cons_succ]
       refine wpAnyL_take (i:=2) (v:=?_) [11,10,9,4,3] rfl (by kernel_rfl) (by kernel_rfl) (by kernel_rfl) (fun _ _ _ h=>h) (by kernel_rfl) (by kernel_rfl) (by kernel_rfl) (Or.inl ⟨by rfl,?_⟩) (by assumption) ?_
       rotate_left
       ·intro w hSw
        try dsimp only at hSw
        go_simp
        first|done|with_reducible rfl
       try simp only [Act.put,List.setIfInBounds_toArray,List.set_cons_zero,List.set_cons_succ]
       refine wpAnyL_take (i:=3) (v:=?_) [11,10,9,4] rfl (by kernel_rfl) (by kernel_rfl) (by kernel_rfl) (fun _ _ _ h=>h) (by kernel_rfl) (by kernel_rfl) (by kernel_rfl) (Or.inl ⟨by rfl,?_⟩) (by assumption) ?_
       rotate_left
       ·intro w hSw
        try dsimp only at hSw
        go_simp
        first|done|with_reducible rfl
       try simp only [Act.put,List.setIfInBounds_toArray,List.set_cons_zero,List.set_cons_succ]
       refine wpAnyL_take (i:=4) (v:=?_) [11,10,9] rfl (by kernel_rfl) (by kernel_rfl) (by kernel_rfl) (fun _ _ _ h=>h) (by kernel_rfl) (by kernel_rfl) (by kernel_rfl) (Or.inl ⟨by rfl,?_⟩) (by assumption) ?_
       rotate_left
       ·intro w hSw
        try dsimp only at hSw
        go_simp
        first|done|with_reducible rfl
       try simp only [Act.put,List.setIfInBounds_toArray,List.set_cons_zero,List.set_cons_succ]
       refine wpAnyL_take (i:=5) (v:=?_) [11,10,9,8,7] rfl (by kernel_rfl) (by kernel_rfl) (by kernel_rfl) (fun _ _ _ h=>h) (by kernel_rfl) (by kernel_rfl) (by kernel_rfl) (Or.inl ⟨by rfl,?_⟩) (by assumption) ?_
       rotate_left
       ·intro w hSw
        try dsimp only at hSw
        go_simp
        first|done|with_reducible rfl
       try simp only [Act.put,List.setIfInBounds_toArray,List.set_cons_zero,List.set_cons_succ]
       refine wpAnyL_take (i:=6) (v:=?_) [11,10,9,8,7] rfl (by kernel_rfl) (by kernel_rfl) (by kernel_rfl) (fun _ _ _ h=>h) (by kernel_rfl) (by kernel_rfl) (by kernel_rfl) (Or.inl ⟨by rfl,?_⟩) (by assumption) ?_
       rotate_left
       ·intro w hSw
        try dsimp only at hSw
        go_simp
        first|done|with_reducible rfl
       try simp only [Act.put,List.setIfInBounds_toArray,List.set_cons_zero,List.set_cons_succ]
       refine wpAnyL_take (i:=7) (v:=?_) [11,10,9,8] rfl (by kernel_rfl) (by kernel_rfl) (by kernel_rfl) (fun _ _ _ h=>h) (by kernel_rfl) (by kernel_rfl) (by kernel_rfl) (Or.inl ⟨by rfl,?_⟩) (by assumption) ?_
       rotate_left
       ·intro w hSw
        try dsimp only at hSw
        go_simp
        first|done|with_reducible rfl
       try simp only [Act.put,List.setIfInBounds_toArray,List.set_cons_zero,List.set_cons_succ]
       refine wpAnyL_take (i:=8) (v:=?_) [11,10,9] rfl (by kernel_rfl) (by kernel_rfl) (by kernel_rfl) (fun _ _ _ h=>h) (by kernel_rfl) (by kernel_rfl) (by kernel_rfl) (Or.inl ⟨by rfl,?_⟩) (by assumption) ?_
       rotate_left
       ·intro w hSw
        try dsimp only at hSw
        go_simp
        first|done|with_reducible rfl
       try simp only [Act.put,List.setIfInBounds_toArray,List.set_cons_zero,List.set_cons_succ]
       refine wpAnyL_take (i:=9) (v:=?_) [11,10] rfl (by kernel_rfl) (by kernel_rfl) (by kernel_rfl) (fun _ _ _ h=>h) (by kernel_rfl) (by kernel_rfl) (by kernel_rfl) (Or.inl ⟨by rfl,?_⟩) (by assumption) ?_
       rotate_left
       ·intro w hSw
        try dsimp only at hSw
        go_simp
        first|done|with_reducible rfl
       try simp only [Act.put,List.setIfInBounds_toArray,List.set_cons_zero,List.set_cons_succ]
       refine wpAnyL_one (i:=10) (by kernel_rfl) rfl (fun K hK=>?_)
       go_simp
       refine hK.out _ _ (SL.out _ AP.out.b) (fun hHeld=>?_)
       clear hK K
       try simp only [Act.put,List.setIfInBounds_toArray,List.set_cons_zero,List.set_cons_succ]
       refine wpAnyL_one (i:=11) (by kernel_rfl) rfl (fun K hK=>?_)
       refine step_growN _ (by rfl) _ _ 44 44 (by rfl) rdFt_good (by decide) (fun _=>True) w.heap.size 75 75 fi _ 24 Tryz.underlying44 Tryz.underlying44 hi0 hz0 hz1 hz2 rfl _ _ (by rfl) AP.out.g [⟨2,(jp:Int),(jq:Int)⟩] _ _ _ _ (by rfl) AP.out.x AP.out.s (by have:=GL.out;simp only [List.length_singleton];unfold maxLen;omega) (by have:=GL.out;simp only [List.length_singleton];omega) AP.out.bs ?_
       intro v' V4 hG4 hg4 hM4
       have BV4:=Lib.hid (grow_below AP.out.g hg4 AP.out.b (Nat.le_refl _) AP.out.bs)
       have Q4:=Lib.hid ((QV.out.below ((Below.refl _ V).alloc (Nat.le_refl _) _)).atV hG4 hg4 hM4)
       clear hG4 hg4 hM4
       refine hK.out _ _ (SL.out _ BV4.out) (fun hHeld=>?_)
       clear hK K
       try simp only [Act.put,List.setIfInBounds_toArray,List.set_cons_zero,List.set_cons_succ]
       refine wpAnyL_last (by kernel_rfl) rfl (by kernel_rfl) (fun K hK=>?_)
       go_simp
       refine hK.out _ _ ?_
       clear hK K
       refine NoPanic.normal ?_
       obtain ⟨w5,hw5⟩:∃W,W=V4:=⟨_,rfl⟩
       rw [←hw5] at BV4 Q4 ⊢
       clear hw5 hHeld BV QV AP
       go_wp2
       go_roundw
       case rel=>exact ⟨j+1,by omega,by go_num,⟨g1,_,Q4.out,NX1.out,NX2.out⟩,BV4.out⟩
       case measure=>simp [intOf];omega
     ·have NX1:=Lib.hid (Y1.out rfl)
      clear N1 Y1
      cases F
      ·have NX2:=Lib.hid (N2.out rfl)
       clear N2 Y2
       go_wp2_with fail
       refine wp_region_noPanic ?_
       refine wp_region_D (fun W=>W.cell? (adl.add k)=some (.int .i64 (jp:Int))∧W.cell? (adl.add j)=some (.int .i64 (jq:Int))) 12 (by kernel_rfl) (w0:=w4) (Dr.refl _) (fun V hV=>SL.out V (bel_in HB4.out (hV.below w4.heap.size))) (fun V hV hHeld=>?_)
       have BV:=Lib.hid (bel_in HB4.out (hV.below w4.heap.size))
       have QV:=Lib.hid (Q4a.out.below (hV.below w4.heap.size))
       have AP:=Lib.hid (app10 BV.out QV.out.t.gu ⟨1,(jp:Int),(jq:Int)⟩)
       clear hV
       refine wpAnyL_take (i:=0) (v:=?_) [11] rfl (by kernel_rfl) (by kernel_rfl) (by kernel_rfl) (fun _ _ _ h=>h) (by kernel_rfl) (by kernel_rfl) (by kernel_rfl) (Or.inl ⟨by rfl,?_⟩) (by assumption) ?_
       rotate_left
       ·intro w hSw
        try dsimp only at hSw
        go_simp
        first|done|with_reducible rfl
       try simp only [Act.put,List.setIfInBounds_toArray,List.set_cons_zero,List.set_cons_succ]
       refine wpAnyL_take (i:=1) (v:=?_) [11,10,9,4,3] rfl (by kernel_rfl) (by kernel_rfl) (by kernel_rfl) (fun _ _ _ h=>h) (by kernel_rfl) (by kernel_rfl) (by kernel_rfl) (Or.inl ⟨by rfl,?_⟩) (by assumption) ?_
       rotate_left
       ·intro w hSw
        try dsimp only at hSw
        go_simp
        first|done|with_reducible rfl
       try simp only [Act.put,List.setIfInBounds_toArray,List.set_cons_zero,List.set_cons_succ]
       refine wpAnyL_take (i:=2) (v:=?_) [11,10,9,4,3] rfl (by kernel_rfl) (by kernel_rfl) (by kernel_rfl) (fun _ _ _ h=>h) (by kernel_rfl) (by kernel_rfl) (by kernel_rfl) (Or.inl ⟨by rfl,?_⟩) (by assumption) ?_
       rotate_left
       ·intro w hSw
        try dsimp only at hSw
        go_simp
        first|done|with_reducible rfl
       try simp only [Act.put,List.setIfInBounds_toArray,List.set_cons_zero,List.set_cons_succ]
       refine wpAnyL_take (i:=3) (v:=?_) [11,10,9,4] rfl (by kernel_rfl) (by kernel_rfl) (by kernel_rfl) (fun _ _ _ h=>h) (by kernel_rfl) (by kernel_rfl) (by kernel_rfl) (Or.inl ⟨by rfl,?_⟩) (by assumption) ?_
       rotate_left
       ·intro w hSw
        try dsimp only at hSw
        go_simp
        first|done|with_reducible rfl
       try simp only [Act.put,List.setIfInBounds_toArray,List.set_cons_zero,List.set_cons_succ]
       refine wpAnyL_take (i:=4) (v:=?_) [11,10,9] rfl (by kernel_rfl) (by kernel_rfl) (by kernel_rfl) (fun _ _ _ h=>h) (by kernel_rfl) (by kernel_rfl) (by kernel_rfl) (Or.inl ⟨by rfl,?_⟩) (by assumption) ?_
       rotate_left
       ·intro w hSw
        try dsimp only at hSw
        go_simp
        first|done|with_reducible rfl
       try simp only [Act.put,List.setIfInBounds_toArray,List.set_cons_zero,List.set_cons_succ]
       refine wpAnyL_take (i:=5) (v:=?_) [11,10,9,8,7] rfl (by kernel_rfl) (by kernel_rfl) (by kernel_rfl) (fun _ _ _ h=>h) (by kernel_rfl) (by kernel_rfl) (by kernel_rfl) (Or.inl ⟨by rfl,?_⟩) (by assumption) ?_
       rotate_left
       ·intro w hSw
        try dsimp only at hSw
        go_simp
        first|done|with_reducible rfl
       try simp only [Act.put,List.setIfInBounds_toArray,List.set_cons_zero,List.set_cons_succ]
       refine wpAnyL_take (i:=6) (v:=?_) [11,10,9,8,7] rfl (by kernel_rfl) (by kernel_rfl) (by kernel_rfl) (fun _ _ _ h=>h) (by kernel_rfl) (by kernel_rfl) (by kernel_rfl) (Or.inl ⟨by rfl,?_⟩) (by assumption) ?_
       rotate_left
       ·intro w hSw
        try dsimp only at hSw
        go_simp
        first|done|with_reducible rfl
       try simp only [Act.put,List.setIfInBounds_toArray,List.set_cons_zero,List.set_cons_succ]
       refine wpAnyL_take (i:=7) (v:=?_) [11,10,9,8] rfl (by kernel_rfl) (by kernel_rfl) (by kernel_rfl) (fun _ _ _ h=>h) (by kernel_rfl) (by kernel_rfl) (by kernel_rfl) (Or.inl ⟨by rfl,?_⟩) (by assumption) ?_
       rotate_left
       ·intro w hSw
        try dsimp only at hSw
        go_simp
        first|done|with_reducible rfl
       try simp only [Act.put,List.setIfInBounds_toArray,List.set_cons_zero,List.set_cons_succ]
       refine wpAnyL_take (i:=8) (v:=?_) [11,10,9] rfl (by kernel_rfl) (by kernel_rfl) (by kernel_rfl) (fun _ _ _ h=>h) (by kernel_rfl) (by kernel_rfl) (by kernel_rfl) (Or.inl ⟨by rfl,?_⟩) (by assumption) ?_
       rotate_left
       ·intro w hSw
        try dsimp only at hSw
        go_simp
        first|done|with_reducible rfl
       try simp only [Act.put,List.setIfInBounds_toArray,List.set_cons_zero,List.set_cons_succ]
       refine wpAnyL_take (i:=9) (v:=?_) [11,10] rfl (by kernel_rfl) (by kernel_rfl) (by kernel_rfl) (fun _ _ _ h=>h) (by kernel_rfl) (by kernel_rfl) (by kernel_rfl) (Or.inl ⟨by rfl,?_⟩) (by assumption) ?_
       rotate_left
       ·intro w hSw
        try dsimp only at hSw
        go_simp
        first|done|with_reducible rfl
       try simp only [Act.put,List.setIfInBounds_toArray,List.set_cons_zero,List.set_cons_succ]
       refine wpAnyL_one (i:=10) (by kernel_rfl) rfl (fun K hK=>?_)
       go_simp
       refine hK.out _ _ (SL.out _ AP.out.b) (fun hHeld=>?_)
       clear hK K
       try simp only [Act.put,List.setIfInBounds_toArray,List.set_cons_zero,List.set_cons_succ]
       refine wpAnyL_one (i:=11) (by kernel_rfl) rfl (fun K hK=>?_)
       refine step_growN _ (by rfl) _ _ 44 44 (by rfl) rdFt_good (by decide) (fun _=>True) w.heap.size 75 75 fi _ 24 Tryz.underlying44 Tryz.underlying44 hi0 hz0 hz1 hz2 rfl _ _ (by rfl) AP.out.g [⟨1,(jp:Int),(jq:Int)⟩] _ _ _ _ (by rfl) AP.out.x AP.out.s (by have:=GL.out;simp only [List.length_singleton];unfold maxLen;omega) (by have:=GL.out;simp only [List.length_singleton];omega) AP.out.bs ?_
       intro v' V4 hG4 hg4 hM4
       have BV4:=Lib.hid (grow_below AP.out.g hg4 AP.out.b (Nat.le_refl _) AP.out.bs)
       have Q4:=Lib.hid ((QV.out.below ((Below.refl _ V).alloc (Nat.le_refl _) _)).atU hG4 hg4 hM4)
       clear hG4 hg4 hM4
       refine hK.out _ _ (SL.out _ BV4.out) (fun hHeld=>?_)
       clear hK K
       try simp only [Act.put,List.setIfInBounds_toArray,List.set_cons_zero,List.set_cons_succ]
       refine wpAnyL_last (by kernel_rfl) rfl (by kernel_rfl) (fun K hK=>?_)
       go_simp
       refine hK.out _ _ ?_
       clear hK K
       refine NoPanic.normal ?_
       obtain ⟨w5,hw5⟩:∃W,W=V4:=⟨_,rfl⟩
       rw [←hw5] at BV4 Q4 ⊢
       clear hw5 hHeld BV QV AP
       go_wp2
       go_roundw
       case rel=>exact ⟨j+1,by omega,by go_num,⟨_,g2,Q4.out,NX1.out,NX2.out⟩,BV4.out⟩
       case measure=>simp [intOf];omega
      ·have NX2:=Lib.hid (Y2.out rfl)
       clear N2 Y2
       go_wp2_with fail
       refine wp_region_noPanic ?_
       refine wp_region_D (fun W=>W.cell? (adl.add k)=some (.int .i64 (jp:Int))∧W.cell? (adl.add j)=some (.int .i64 (jq:Int))) 12 (by kernel_rfl) (w0:=w4) (Dr.refl _) (fun V hV=>SL.out V (bel_in HB4.out (hV.below w4.heap.size))) (fun V hV hHeld=>?_)
       have BV:=Lib.hid (bel_in HB4.out (hV.below w4.heap.size))
       have QV:=Lib.hid (Q4a.out.below (hV.below w4.heap.size))
       have AP:=Lib.hid (app10 BV.out QV.out.t.gu ⟨1,(jp:Int),(jq:Int)⟩)
       clear hV
       refine wpAnyL_take (i:=0) (v:=?_) [11] rfl (by kernel_rfl) (by kernel_rfl) (by kernel_rfl) (fun _ _ _ h=>h) (by kernel_rfl) (by kernel_rfl) (by kernel_rfl) (Or.inl ⟨by rfl,?_⟩) (by assumption) ?_
       rotate_left
       ·intro w hSw
        try dsimp only at hSw
        go_simp
        first|done|with_reducible rfl
       try simp only [Act.put,List.setIfInBounds_toArray,List.set_cons_zero,List.set_cons_succ]
       refine wpAnyL_take (i:=1) (v:=?_) [11,10,9,4,3] rfl (by kernel_rfl) (by kernel_rfl) (by kernel_rfl) (fun _ _ _ h=>h) (by kernel_rfl) (by kernel_rfl) (by kernel_rfl) (Or.inl ⟨by rfl,?_⟩) (by assumption) ?_
       rotate_left
       ·intro w hSw
        try dsimp only at hSw
        go_simp
        first|done|with_reducible rfl
       try simp only [Act.put,List.setIfInBounds_toArray,List.set_cons_zero,List.set_cons_succ]
       refine wpAnyL_take (i:=2) (v:=?_) [11,10,9,4,3] rfl (by kernel_rfl) (by kernel_rfl) (by kernel_rfl) (fun _ _ _ h=>h) (by kernel_rfl) (by kernel_rfl) (by kernel_rfl) (Or.inl ⟨by rfl,?_⟩) (by assumption) ?_
       rotate_left
       ·intro w hSw
        try dsimp only at hSw
        go_simp
        first|done|with_reducible rfl
       try simp only [Act.put,List.setIfInBounds_toArray,List.set_cons_zero,List.set_cons_succ]
       refine wpAnyL_take (i:=3) (v:=?_) [11,10,9,4] rfl (by kernel_rfl) (by kernel_rfl) (by kernel_rfl) (fun _ _ _ h=>h) (by kernel_rfl) (by kernel_rfl) (by kernel_rfl) (Or.inl ⟨by rfl,?_⟩) (by assumption) ?_
       rotate_left
       ·intro w hSw
        try dsimp only at hSw
        go_simp
        first|done|with_reducible rfl
       try simp only [Act.put,List.setIfInBounds_toArray,List.set_cons_zero,List.set_cons_succ]
       refine wpAnyL_take (i:=4) (v:=?_) [11,10,9] rfl (by kernel_rfl) (by kernel_rfl) (by kernel_rfl) (fun _ _ _ h=>h) (by kernel_rfl) (by kernel_rfl) (by kernel_rfl) (Or.inl ⟨by rfl,?_⟩) (by assumption) ?_
       rotate_left
       ·intro w hSw
        try dsimp only at hSw
        go_simp
        first|done|with_reducible rfl
       try simp only [Act.put,List.setIfInBounds_toArray,List.set_cons_zero,List.set_cons_succ]
       refine wpAnyL_take (i:=5) (v:=?_) [11,10,9,8,7] rfl (by kernel_rfl) (by kernel_rfl) (by kernel_rfl) (fun _ _ _ h=>h) (by kernel_rfl) (by kernel_rfl) (by kernel_rfl) (Or.inl ⟨by rfl,?_⟩) (by assumption) ?_
       rotate_left
       ·intro w hSw
        try dsimp only at hSw
        go_simp
        first|done|with_reducible rfl
       try simp only [Act.put,List.setIfInBounds_toArray,List.set_cons_zero,List.set_cons_succ]
       refine wpAnyL_take (i:=6) (v:=?_) [11,10,9,8,7] rfl (by kernel_rfl) (by kernel_rfl) (by kernel_rfl) (fun _ _ _ h=>h) (by kernel_rfl) (by kernel_rfl) (by kernel_rfl) (Or.inl ⟨by rfl,?_⟩) (by assumption) ?_
       rotate_left
       ·intro w hSw
        try dsimp only at hSw
        go_simp
        first|done|with_reducible rfl
       try simp only [Act.put,List.setIfInBounds_toArray,List.set_cons_zero,List.set_cons_succ]
       refine wpAnyL_take (i:=7) (v:=?_) [11,10,9,8] rfl (by kernel_rfl) (by kernel_rfl) (by kernel_rfl) (fun _ _ _ h=>h) (by kernel_rfl) (by kernel_rfl) (by kernel_rfl) (Or.inl ⟨by rfl,?_⟩) (by assumption) ?_
       rotate_left
       ·intro w hSw
        try dsimp only at hSw
        go_simp
        first|done|with_reducible rfl
       try simp only [Act.put,List.setIfInBounds_toArray,List.set_cons_zero,List.set_cons_succ]
       refine wpAnyL_take (i:=8) (v:=?_) [11,10,9] rfl (by kernel_rfl) (by kernel_rfl) (by kernel_rfl) (fun _ _ _ h=>h) (by kernel_rfl) (by kernel_rfl) (by kernel_rfl) (Or.inl ⟨by rfl,?_⟩) (by assumption) ?_
       rotate_left
       ·intro w hSw
        try dsimp only at hSw
        go_simp
        first|done|with_reducible rfl
       try simp only [Act.put,List.setIfInBounds_toArray,List.set_cons_zero,List.set_cons_succ]
       refine wpAnyL_take (i:=9) (v:=?_) [11,10] rfl (by kernel_rfl) (by kernel_rfl) (by kernel_rfl) (fun _ _ _ h=>h) (by kernel_rfl) (by kernel_rfl) (by kernel_rfl) (Or.inl ⟨by rfl,?_⟩) (by assumption) ?_
       rotate_left
       ·intro w hSw
        try dsimp only at hSw
        go_simp
        first|done|with_reducible rfl
       try simp only [Act.put,List.setIfInBounds_toArray,List.set_cons_zero,List.set_cons_succ]
       refine wpAnyL_one (i:=10) (by kernel_rfl) rfl (fun K hK=>?_)
       go_simp
       refine hK.out _ _ (SL.out _ AP.out.b) (fun hHeld=>?_)
       clear hK K
       try simp only [Act.put,List.setIfInBounds_toArray,List.set_cons_zero,List.set_cons_succ]
       refine wpAnyL_one (i:=11) (by kernel_rfl) rfl (fun K hK=>?_)
       refine step_growN _ (by rfl) _ _ 44 44 (by rfl) rdFt_good (by decide) (fun _=>True) w.heap.size 75 75 fi _ 24 Tryz.underlying44 Tryz.underlying44 hi0 hz0 hz1 hz2 rfl _ _ (by rfl) AP.out.g [⟨1,(jp:Int),(jq:Int)⟩] _ _ _ _ (by rfl) AP.out.x AP.out.s (by have:=GL.out;simp only [List.length_singleton];unfold maxLen;omega) (by have:=GL.out;simp only [List.length_singleton];omega) AP.out.bs ?_
       intro v' V4 hG4 hg4 hM4
       have BV4:=Lib.hid (grow_below AP.out.g hg4 AP.out.b (Nat.le_refl _) AP.out.bs)
       have Q4:=Lib.hid ((QV.out.below ((Below.refl _ V).alloc (Nat.le_refl _) _)).atU hG4 hg4 hM4)
       clear hG4 hg4 hM4
       refine hK.out _ _ (SL.out _ BV4.out) (fun hHeld=>?_)
       clear hK K
       try simp only [Act.put,List.setIfInBounds_toArray,List.set_cons_zero,List.set_cons_succ]
       refine wpAnyL_last (by kernel_rfl) rfl (by kernel_rfl) (fun K hK=>?_)
       go_simp
       refine hK.out _ _ ?_
       clear hK K
       refine NoPanic.normal ?_
       obtain ⟨w5,hw5⟩:∃W,W=V4:=⟨_,rfl⟩
       rw [←hw5] at BV4 Q4 ⊢
       clear hw5 hHeld BV QV AP
       have HBx:=BV4
       have Qx:=Q4
       clear BV4 Q4
       go_wp2_with fail
       refine wp_region_noPanic ?_
       refine wp_region_D (fun W=>W.cell? (adl.add k)=some (.int .i64 (jp:Int))∧W.cell? (adl.add j)=some (.int .i64 (jq:Int))) 12 (by kernel_rfl) (w0:=w5) (Dr.refl _) (fun V hV=>SL.out V (bel_in HBx.out (hV.below w5.heap.size))) (fun V hV hHeld=>?_)
       have BV:=Lib.hid (bel_in HBx.out (hV.below w5.heap.size))
       have QV:=Lib.hid (Qx.out.below (hV.below w5.heap.size))
       have AP:=Lib.hid (app10 BV.out QV.out.t.gv ⟨2,(jp:Int),(jq:Int)⟩)
       clear hV
       refine wpAnyL_take (i:=0) (v:=?_) [11] rfl (by kernel_rfl) (by kernel_rfl) (by kernel_rfl) (fun _ _ _ h=>h) (by kernel_rfl) (by kernel_rfl) (by kernel_rfl) (Or.inl ⟨by rfl,?_⟩) (by assumption) ?_
       rotate_left
       ·intro w hSw
        try dsimp only at hSw
        go_simp
        first|done|with_reducible rfl
       try simp only [Act.put,List.setIfInBounds_toArray,List.set_cons_zero,List.set_cons_succ]
       refine wpAnyL_take (i:=1) (v:=?_) [11,10,9,4,3] rfl (by kernel_rfl) (by kernel_rfl) (by kernel_rfl) (fun _ _ _ h=>h) (by kernel_rfl) (by kernel_rfl) (by kernel_rfl) (Or.inl ⟨by rfl,?_⟩) (by assumption) ?_
       rotate_left
       ·intro w hSw
        try dsimp only at hSw
        go_simp
        first|done|with_reducible rfl
       try simp only [Act.put,List.setIfInBounds_toArray,List.set_cons_zero,List.set_cons_succ]
       refine wpAnyL_take (i:=2) (v:=?_) [11,10,9,4,3] rfl (by kernel_rfl) (by kernel_rfl) (by kernel_rfl) (fun _ _ _ h=>h) (by kernel_rfl) (by kernel_rfl) (by kernel_rfl) (Or.inl ⟨by rfl,?_⟩) (by assumption) ?_
       rotate_left
       ·intro w hSw
        try dsimp only at hSw
        go_simp
        first|done|with_reducible rfl
       try simp only [Act.put,List.setIfInBounds_toArray,List.set_cons_zero,List.set_cons_succ]
       refine wpAnyL_take (i:=3) (v:=?_) [11,10,9,4] rfl (by kernel_rfl) (by kernel_rfl) (by kernel_rfl) (fun _ _ _ h=>h) (by kernel_rfl) (by kernel_rfl) (by kernel_rfl) (Or.inl ⟨by rfl,?_⟩) (by assumption) ?_
       rotate_left
       ·intro w hSw
        try dsimp only at hSw
        go_simp
        first|done|with_reducible rfl
       try simp only [Act.put,List.setIfInBounds_toArray,List.set_cons_zero,List.set_cons_succ]
       refine wpAnyL_take (i:=4) (v:=?_) [11,10,9] rfl (by kernel_rfl) (by kernel_rfl) (by kernel_rfl) (fun _ _ _ h=>h) (by kernel_rfl) (by kernel_rfl) (by kernel_rfl) (Or.inl ⟨by rfl,?_⟩) (by assumption) ?_
       rotate_left
       ·intro w hSw
        try dsimp only at hSw
        go_simp
        first|done|with_reducible rfl
       try simp only [Act.put,List.setIfInBounds_toArray,List.set_cons_zero,List.set_cons_succ]
       refine wpAnyL_take (i:=5) (v:=?_) [11,10,9,8,7] rfl (by kernel_rfl) (by kernel_rfl) (by kernel_rfl) (fun _ _ _ h=>h) (by kernel_rfl) (by kernel_rfl) (by kernel_rfl) (Or.inl ⟨by rfl,?_⟩) (by assumption) ?_
       rotate_left
       ·intro w hSw
        try dsimp only at hSw
        go_simp
        first|done|with_reducible rfl
       try simp only [Act.put,List.setIfInBounds_toArray,List.set_cons_zero,List.set_cons_succ]
       refine wpAnyL_take (i:=6) (v:=?_) [11,10,9,8,7] rfl (by kernel_rfl) (by kernel_rfl) (by kernel_rfl) (fun _ _ _ h=>h) (by kernel_rfl) (by kernel_rfl) (by kernel_rfl) (Or.inl ⟨by rfl,?_⟩) (by assumption) ?_
       rotate_left
       ·intro w hSw
        try dsimp only at hSw
        go_simp
        first|done|with_reducible rfl
       try simp only [Act.put,List.setIfInBounds_toArray,List.set_cons_zero,List.set_cons_succ]
       refine wpAnyL_take (i:=7) (v:=?_) [11,10,9,8] rfl (by kernel_rfl) (by kernel_rfl) (by kernel_rfl) (fun _ _ _ h=>h) (by kernel_rfl) (by kernel_rfl) (by kernel_rfl) (Or.inl ⟨by rfl,?_⟩) (by assumption) ?_
       rotate_left
       ·intro w hSw
        try dsimp only at hSw
        go_simp
        first|done|with_reducible rfl
       try simp only [Act.put,List.setIfInBounds_toArray,List.set_cons_zero,List.set_cons_succ]
       refine wpAnyL_take (i:=8) (v:=?_) [11,10,9] rfl (by kernel_rfl) (by kernel_rfl) (by kernel_rfl) (fun _ _ _ h=>h) (by kernel_rfl) (by kernel_rfl) (by kernel_rfl) (Or.inl ⟨by rfl,?_⟩) (by assumption) ?_
       rotate_left
       ·intro w hSw
        try dsimp only at hSw
        go_simp
        first|done|with_reducible rfl
       try simp only [Act.put,List.setIfInBounds_toArray,List.set_cons_zero,List.set_cons_succ]
       refine wpAnyL_take (i:=9) (v:=?_) [11,10] rfl (by kernel_rfl) (by kernel_rfl) (by kernel_rfl) (fun _ _ _ h=>h) (by kernel_rfl) (by kernel_rfl) (by kernel_rfl) (Or.inl ⟨by rfl,?_⟩) (by assumption) ?_
       rotate_left
       ·intro w hSw
        try dsimp only at hSw
        go_simp
        first|done|with_reducible rfl
       try simp only [Act.put,List.setIfInBounds_toArray,List.set_cons_zero,List.set_cons_succ]
       refine wpAnyL_one (i:=10) (by kernel_rfl) rfl (fun K hK=>?_)
       go_simp
       refine hK.out _ _ (SL.out _ AP.out.b) (fun hHeld=>?_)
       clear hK K
       try simp only [Act.put,List.setIfInBounds_toArray,List.set_cons_zero,List.set_cons_succ]
       refine wpAnyL_one (i:=11) (by kernel_rfl) rfl (fun K hK=>?_)
       refine step_growN _ (by rfl) _ _ 44 44 (by rfl) rdFt_good (by decide) (fun _=>True) w.heap.size 75 75 fi _ 24 Tryz.underlying44 Tryz.underlying44 hi0 hz0 hz1 hz2 rfl _ _ (by rfl) AP.out.g [⟨2,(jp:Int),(jq:Int)⟩] _ _ _ _ (by rfl) AP.out.x AP.out.s (by have:=GL.out;simp only [List.length_singleton];unfold maxLen;omega) (by have:=GL.out;simp only [List.length_singleton];omega) AP.out.bs ?_
       intro v' V4 hG4 hg4 hM4
       have BV4:=Lib.hid (grow_below AP.out.g hg4 AP.out.b (Nat.le_refl _) AP.out.bs)
       have Q4:=Lib.hid ((QV.out.below ((Below.refl _ V).alloc (Nat.le_refl _) _)).atV hG4 hg4 hM4)
       clear hG4 hg4 hM4
       refine hK.out _ _ (SL.out _ BV4.out) (fun hHeld=>?_)
       clear hK K
       try simp only [Act.put,List.setIfInBounds_toArray,List.set_cons_zero,List.set_cons_succ]
       refine wpAnyL_last (by kernel_rfl) rfl (by kernel_rfl) (fun K hK=>?_)
       go_simp
       refine hK.out _ _ ?_
       clear hK K
       refine NoPanic.normal ?_
       obtain ⟨w5,hw5⟩:∃W,W=V4:=⟨_,rfl⟩
       rw [←hw5] at BV4 Q4 ⊢
       clear hw5 hHeld BV QV AP
       go_wp2
       go_roundw
       case rel=>exact ⟨j+1,by omega,by go_num,⟨_,_,Q4.out,NX1.out,NX2.out⟩,BV4.out⟩
       case measure=>simp [intOf];omega
    ·obtain rfl:j=l.length:=by omega
     have j0:¬(l.length:Int) < (l.length:Int):=by omega
     have NX1:=Lib.hid (show Hid (g1++pairP smN 1 U (l.drop (k+1))=T1) from by have:=H1.out;rw [List.drop_length] at this;exact this)
     have NX2:=Lib.hid (show Hid (g2++pairP fgt 2 U (l.drop (k+1))=T2) from by have:=H2.out;rw [List.drop_length] at this;exact this)
     obtain ⟨_,hdc,hdm,-⟩:=rdGrps_at HV.out.d
     have hdm':d1≤9223372036854775807:=hdm
     have HD:=Lib.hid (fun (W:World) (hb:Below w.heap.size w W)=>(rdGrps_at (rdGrps_good.below HV.out.d hb)).2.2.2)
     have IV0:=Lib.hid (show Hid (g3++(opnP U l (jp:Int) (d.drop 0) 0++opnS U l (l.drop (k+1)))=T3) from by rw [List.drop_zero];exact IV3.out)
     clear H1 H2 hdm
     obtain ⟨wd,hwd⟩:∃W,W=wr:=⟨_,rfl⟩
     rw [←hwd] at HB QT ⊢
     clear hwd
     go_wp2
     go_loopw [7,13] (fun v7 i wr=>∃q:Nat,q≤d.length∧i=.int .i64 q∧(∃g3,TriQ w.heap.size wr u5 u6 v7 g1 g2 g3 qa (.cells #[.string n,.string v,.slice D1 d.length d1,.slice D2 r.length d2,.slice D3 c'.length d3,.slice D4 p'.length d4] 67 (0,0))∧Hid (g3++(opnP U l (jp:Int) (d.drop q) q++opnS U l (l.drop (k+1)))=T3))∧Below w.heap.size w wr) (fun _ i _=>d.length - (intOf i).toNat)
     case atStart=>exact ⟨0,Nat.zero_le _,rfl,⟨g3,QT.out,IV0.out⟩,HB.out⟩
     case round=>
      obtain ⟨q,hq,rfl,⟨g3,hQ,H3⟩,hbel⟩:=hrel
      have HB:=Lib.hid hbel
      have QT:=Lib.hid hQ
      clear hbel hQ
      obtain ⟨-,-,x2,-,-,-⟩:=six_cells QT.out.hq
      by_cases hql:q < d.length
      ·have q0:(0:Int)≤(q:Int):=by omega
       have q1:(q:Int) < (d.length:Int):=by omega
       obtain ⟨adg,gA,gc,rfl,-,e0,e1⟩:=HD.out wr HB.out q hql
       have K1:=Lib.hid (KM.out gA gc d[q] wr HB.out (rdAtms_good.up e1 HB.out.size))
       have ST:=Lib.hid (opnP_step (U:=U) (l:=l) (p:=(jp:Int)) hql)
       obtain ⟨adl',el,-,lk⟩:=HL.out w (Below.refl _ _) k hlt
       obtain rfl:adl=adl':=Option.some.inj el
       rw [←HPK.out] at lk
       have LK:=Lib.hid (fun (W:World) (hb:Below w.heap.size w W)=>keep6 hb lk)
       have GL:=Lib.hid (pre_len H3.out LT.out.2.2)
       generalize hmq:metS U l d[q]=F at *
       generalize hlg:d[q].length=lg at *
       clear hmq el lk e1
       have N3:=Lib.hid (fun (e:F=true)=>show Hid (g3++(opnP U l (jp:Int) (d.drop (q+1)) (q+1)++opnS U l (l.drop (k+1)))=T3) from by rw [←ST.out.1 e];exact H3)
       have Y3:=Lib.hid (fun (e:F=false)=>show Hid (g3++[⟨3,(jp:Int),(q:Int)⟩]++(opnP U l (jp:Int) (d.drop (q+1)) (q+1)++opnS U l (l.drop (k+1)))=T3) from by
        have:=H3.out
        rw [ST.out.2 e] at this
        rw [List.append_assoc,List.singleton_append];exact this)
       clear ST H3
       go_wp2_with fail
       refine K1.out.mono ?_
       rintro e w3 ⟨rfl,hb⟩
       have B3:=Lib.hid (HB.out.trans (hb.mono HB.out.size))
       have Q3:=Lib.hid (QT.out.below hb)
       clear hb K1 x2 e0 QT
       have l3:=LK.out w3 B3.out
       cases F
       ·have NX:=Lib.hid (Y3.out rfl)
        clear N3 Y3
        have hE:=(show rdFt w3 (fun b=>True∧b < w3.heap.size∧u7.ownBlock≠some b) ⟨3,(jp:Int),(q:Int)⟩ (#[Value.int .i64 3,Value.int .i64 (jp:Int),Value.int .i64 (q:Int)]:Array Value).toList from rfl)
        have hn1:g3.length+1≤maxLen:=by have:=GL.out;unfold maxLen;omega
        have hn2:(g3.length+1)*24≤140737488355328:=by have:=GL.out;omega
        have hbs3:w.heap.size≤w3.heap.size:=B3.out.size
        have hG3:=Q3.out.t.gx
        go_wp2_with (at_builtin;refine wpList_grow1_at w3 rfl _ _ 44 rfl rdFt_good (by decide) (fun _=>True) w.heap.size 75 fi _ 24 Tryz.underlying44 hi0 hz0 hz1 hz2 rfl u7 g3 rfl hG3 ⟨3,(jp:Int),(q:Int)⟩ _ 75 hE _ rfl rfl hn1 hn2 hbs3 ?_)
        intro v' w' hG' hgr hM'
        have Q4:=Lib.hid (Q3.out.atX hG' hgr hM')
        have B4:=Lib.hid (grow_below hG3 hgr B3.out (Nat.le_refl _) hbs3)
        clear hG3 hgr hE hG' hM' Q3 l3
        go_wp2
        go_roundw
        case rel=>exact ⟨q+1,by omega,by go_num,⟨_,Q4.out,NX.out⟩,B4.out⟩
        case measure=>simp [intOf];omega
       ·have NX:=Lib.hid (N3.out rfl)
        clear N3 Y3
        go_wp2
        go_roundw
        case rel=>exact ⟨q+1,by omega,by go_num,⟨g3,Q3.out,NX.out⟩,B3.out⟩
        case measure=>simp [intOf];omega
      ·obtain rfl:q=d.length:=by omega
       have q0:¬(d.length:Int) < (d.length:Int):=by omega
       have NX3:=Lib.hid (show Hid (g3++opnS U l (l.drop (k+1))=T3) from by have:=H3.out;rw [List.drop_length] at this;exact this)
       clear H3
       go_wp2
       go_roundw
       case rel=>exact ⟨k+1,by omega,by go_num,⟨g1,g2,g3,QT.out.t,NX1.out,NX2.out,NX3.out⟩,HB.out⟩
       case measure=>simp [intOf];omega
  ·obtain rfl:k=l.length:=by omega
   have i0:¬(l.length:Int) < (l.length:Int):=by omega
   have e1:g1=T1:=by have:=H1.out;rw [List.drop_length] at this;simpa [pairP] using this
   have e2:g2=T2:=by have:=H2.out;rw [List.drop_length] at this;simpa [pairP] using this
   have e3:g3=T3:=by have:=H3.out;rw [List.drop_length] at this;simpa [opnS] using this
   rw [e1,e2,e3] at TR
   clear H1 H2 H3 e1 e2 e3
   have RU:=Lib.hid (TR.out.gu.read rdFt_good)
   have RV:=Lib.hid (TR.out.gv.read rdFt_good)
   have RX:=Lib.hid (TR.out.gx.read rdFt_good)
   obtain ⟨A5,k5,h5,-,hk5⟩:=TR.out.gu.own
   obtain ⟨A6,k6,h6,-,hk6⟩:=TR.out.gv.own
   obtain ⟨A7,k7,h7,-,hk7⟩:=TR.out.gx.own
   subst h5 h6 h7
   clear TR
   have hk5':k5≤9223372036854775807:=hk5
   have hk6':k6≤9223372036854775807:=hk6
   have hk7':k7≤9223372036854775807:=hk7
   have hm1:([]:List Ft).length+T1.length≤maxLen:=by have:=LT.out.1;simp only [List.length_nil];unfold maxLen;omega
   have hm2:(([]:List Ft).length+T1.length)*24≤140737488355328:=by have:=LT.out.1;simp only [List.length_nil];omega
   have hm3:T1.length+T2.length≤maxLen:=by have:=LT.out;unfold maxLen;omega
   have hm4:(T1.length+T2.length)*24≤140737488355328:=by have:=LT.out;omega
   have hm5:(T1++T2).length+T3.length≤maxLen:=by have:=LT.out;rw [List.length_append];unfold maxLen;omega
   have hm6:((T1++T2).length+T3.length)*24≤140737488355328:=by have:=LT.out;rw [List.length_append];omega
   have BE:=Lib.hid ((Below.refl wr.heap.size wr).alloc (Nat.le_refl _) (.cells #[] 75))
   have GE:=Lib.hid (Grow.empty (E:=rdFt) (sz:=3) (fun _=>True) (W:=wr.alloc (.cells #[] 75)) (base:=wr.heap.size) (heap_alloc_new wr _) (Nat.le_refl _))
   have XE:=Lib.hid (rdFts_good.below RU.out BE.out)
   have SE:=Lib.hid (show ∀b,lt_ wr.heap.size b→True∧b < (wr.alloc (.cells #[] 75)).heap.size∧(Value.slice (some ⟨wr.heap.size,0,none⟩) 0 0).ownBlock≠some b from fun b hb=>⟨trivial,by rw [World.size_alloc];unfold lt_ at hb;omega,fun hh=>by simp only [Value.ownBlock,Option.some.injEq] at hh;unfold lt_ at hb;omega⟩)
   have hs1:wr.heap.size≤(wr.alloc (.cells #[] 75)).heap.size:=BE.out.size
   go_wp2_with (at_builtin;refine wpList_growN _ rfl _ _ 44 44 rfl rdFt_good (by decide) (fun _=>True) wr.heap.size 75 75 fi (.agg #[.int .i64 0,.int .i64 0,.int .i64 0]) 24 Tryz.underlying44 Tryz.underlying44 hi0 hz0 hz1 hz2 rfl _ _ rfl GE.out T1 _ A5 T1.length k5 rfl XE.out SE.out hm1 hm2 hs1 ?_)
   intro v4 w4 hG4 hg4
   have B4:=Lib.hid (grow_below GE.out hg4 BE.out (Nat.le_refl _) hs1)
   have G4:=Lib.hid (show Grow rdFt 3 (fun _=>True) w4 wr.heap.size 75 v4 T1 from hG4)
   have X4:=Lib.hid (rdFts_good.below RV.out B4.out)
   have S4:=Lib.hid (show ∀b,lt_ wr.heap.size b→True∧b < w4.heap.size∧v4.ownBlock≠some b from fun b hb=>⟨trivial,by have:=B4.out.size;unfold lt_ at hb;omega,fun hh=>by have:=(G4.out.lt b hh).1;unfold lt_ at hb;omega⟩)
   have hs4:wr.heap.size≤w4.heap.size:=B4.out.size
   clear hG4 hg4 hs1 XE SE GE BE
   go_wp2_with (at_builtin;refine wpList_growN _ rfl _ _ 44 44 rfl rdFt_good (by decide) (fun _=>True) wr.heap.size 75 75 fi (.agg #[.int .i64 0,.int .i64 0,.int .i64 0]) 24 Tryz.underlying44 Tryz.underlying44 hi0 hz0 hz1 hz2 rfl _ _ rfl G4.out T2 _ A6 T2.length k6 rfl X4.out S4.out hm3 hm4 hs4 ?_)
   intro v5 w5 hG5 hg5
   have B5:=Lib.hid (grow_below G4.out hg5 B4.out (Nat.le_refl _) hs4)
   have G5:=Lib.hid hG5
   have X5:=Lib.hid (rdFts_good.below RX.out B5.out)
   have S5:=Lib.hid (show ∀b,lt_ wr.heap.size b→True∧b < w5.heap.size∧v5.ownBlock≠some b from fun b hb=>⟨trivial,by have:=B5.out.size;unfold lt_ at hb;omega,fun hh=>by have:=(G5.out.lt b hh).1;unfold lt_ at hb;omega⟩)
   have hs5:wr.heap.size≤w5.heap.size:=B5.out.size
   clear hG5 hg5 hs4 X4 S4 G4 B4
   go_wp2_with (at_builtin;refine wpList_growN _ rfl _ _ 44 44 rfl rdFt_good (by decide) (fun _=>True) wr.heap.size 75 75 fi (.agg #[.int .i64 0,.int .i64 0,.int .i64 0]) 24 Tryz.underlying44 Tryz.underlying44 hi0 hz0 hz1 hz2 rfl _ _ rfl G5.out T3 _ A7 T3.length k7 rfl X5.out S5.out hm5 hm6 hs5 ?_)
   intro v6 w6 hG6 hg6
   have B6:=Lib.hid (grow_below G5.out hg6 B5.out (Nat.le_refl _) hs5)
   have RD:=Lib.hid (show rdFts w6 (own10 w w6) T [v6] from by rw [←ET.out,List.append_assoc];exact own10_of hG6 HB.out.size)
   obtain ⟨Ar,cr,hv6,-,-⟩:=id RD.out
   simp only [List.cons.injEq,and_true] at hv6
   subst hv6
   clear hG6 hg6 hs5 X5 S5 G5 B5 hm1 hm2 hm3 hm4 hm5 hm6
   go_wp2
   go_ret
   exact ⟨⟨Ar,cr,rfl,RD.out⟩,bel_in HB.out B6.out⟩
end Go.Proofs.YthchfkhpmgkghaaGreatDoor
