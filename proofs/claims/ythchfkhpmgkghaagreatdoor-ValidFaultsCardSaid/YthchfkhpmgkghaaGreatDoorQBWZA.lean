/- What the laws rest on: N9m, N10e, N10i, N10j. -/
import Derived.Test.YthchfkhpmgkghaaGreatDoorQBRZA
import Derived.Test.YthchfkhpmgkghaaGreatDoorQBVZA
set_option maxRecDepth 100000
set_option linter.unusedVariables false
set_option linter.unusedSimpArgs false
namespace Go.Proofs.YthchfkhpmgkghaaGreatDoor
open Go.RowKit
theorem pvB_name {a g:Atm} (h:pvB a g=true):g.n=a.n:=by
 unfold pvB provB at h
 rw [Bool.and_eq_true] at h
 exact (B_inj (of_decide_eq_true h.1)).symm
def gvL (a:Atm) (gs:List Gf):List Int:=(gs.filter fun g=>pvB a g.a).map (·.k)
theorem gvL_app (a:Atm) (x y:List Gf):gvL a (x++y)=gvL a x++gvL a y:=by unfold gvL;rw [List.filter_append,List.map_append]
theorem gvL_take {a:Atm} {gs:List Gf} {k:Nat} (hk:k < gs.length):gvL a (gs.take (k+1))=if pvB a gs[k].a=true then gvL a (gs.take k)++[gs[k].k] else gvL a (gs.take k):=by
 rw [List.take_succ_eq_append_getElem hk,gvL_app]
 unfold gvL
 cases h:pvB a gs[k].a
 ·rw [if_neg (by decide),List.filter_cons_of_neg (by rw [h];decide),List.filter_nil,List.map_nil,List.append_nil]
 ·rw [if_pos rfl,List.filter_cons_of_pos (by rw [h]),List.filter_nil];rfl
theorem gvL_len (a:Atm) (gs:List Gf):(gvL a gs).length≤gs.length:=by unfold gvL;rw [List.length_map];exact List.length_filter_le _ _
theorem cpL_same {p:Option Int} {i:Int}:∀{bl r:List Int},(∀x ∈ bl,x=i)→cpL (some i) (bl++r)=cpL (some i) r
 | [],r,_=>rfl
 | x::bl,r,h=>by
  obtain rfl:=h x (List.mem_cons_self ..)
  show (if some x=some x then cpL (some x) (bl++r) else _)=_
  rw [if_pos rfl]
  exact cpL_same (p:=p) fun y hy=>h y (List.mem_cons_of_mem _ hy)
theorem cpL_blk {p:Option Int} {i:Int} {bl r:List Int} (h:∀x ∈ bl,x=i) (hp:p≠some i):cpL p (bl++r)=if bl=[] then cpL p r else i::cpL (some i) r:=by
 cases bl with
 | nil=>rw [if_pos rfl];rfl
 | cons x bl=>
  obtain rfl:=h x (List.mem_cons_self ..)
  rw [if_neg (by simp)]
  show (if p=some x then _ else x::cpL (some x) (bl++r))=_
  rw [if_neg hp,cpL_same (p:=p) fun y hy=>h y (List.mem_cons_of_mem _ hy)]
theorem gv_blk (a:Atm) (i:Nat) (g:List Atm):(∀x ∈ gvL a (gfs1 a.n i g),x=(i:Int))∧(gvL a (gfs1 a.n i g)=[]↔g.any (pvB a)=false):=by
 refine ⟨fun x hx=>?_,?_⟩
 ·unfold gvL gfs1 at hx
  obtain ⟨y,hy,rfl⟩:=List.mem_map.1 hx
  obtain ⟨z,hz,rfl⟩:=List.mem_map.1 (List.mem_filter.1 hy).1
  rfl
 ·rw [Bool.eq_false_iff]
  constructor
  ·intro h q
   obtain ⟨x,hx,k⟩:=List.any_eq_true.1 q
   have:(i:Int) ∈ gvL a (gfs1 a.n i g):=by
    unfold gvL gfs1
    exact List.mem_map.2 ⟨⟨i,x⟩,List.mem_filter.2 ⟨List.mem_map.2 ⟨x,List.mem_filter.2 ⟨hx,decide_eq_true (pvB_name k)⟩,rfl⟩,k⟩,rfl⟩
   rw [h] at this;cases this
  ·intro h
   rcases hg:gvL a (gfs1 a.n i g) with _|⟨x,r⟩
   ·rfl
   ·exfalso
    have hx:x ∈ gvL a (gfs1 a.n i g):=by rw [hg];exact List.mem_cons_self ..
    unfold gvL gfs1 at hx
    obtain ⟨y,hy,_⟩:=List.mem_map.1 hx
    obtain ⟨hy1,hy2⟩:=List.mem_filter.1 hy
    obtain ⟨z,hz,rfl⟩:=List.mem_map.1 hy1
    exact h (List.any_eq_true.2 ⟨z,(List.mem_filter.1 hz).1,hy2⟩)
theorem gv_run (a:Atm):∀(L:List Ent) (i:Nat) (p:Option Int),(∀j,p=some j→j < (i:Int))→cpL p (gvL a (gfU a.n L i))=ixU (gvA a) L i
 | [],_,_,_=>rfl
 | x::r,i,p,hp=>by
  obtain ⟨h1,h2⟩:=gv_blk a i (gvs x)
  show cpL p (gvL a (gfs1 a.n i (gvs x)++gfU a.n r (i+1)))=_
  rw [gvL_app,cpL_blk h1 (fun q=>by have:=hp _ q;omega),ixU_cons]
  by_cases h:gvL a (gfs1 a.n i (gvs x))=[]
  ·have hn:gvA a x=false:=h2.1 h
   rw [if_pos h,if_neg (by rw [hn];decide)]
   exact gv_run a r (i+1) p (fun j hj=>by have:=hp j hj;omega)
  ·have hn:gvA a x=true:=by
    cases q:gvA a x
    ·exact absurd (h2.2 q) h
    ·rfl
   rw [if_neg h,if_pos hn]
   exact congrArg _ (gv_run a r (i+1) (some (i:Int)) (fun j hj=>by injection hj with hj;omega))
theorem gv_is (a:Atm) (L:List Ent):cpL none (gvL a (gfU a.n L 0))=ixU (gvA a) L 0:=gv_run a L 0 none (fun j h=>by cases h)
set_option maxHeartbeats 16000000 in
theorem givers9_any (b:Nat) (L:List Ent) (m:List Hr) (a:Atm) (w:World) (h:UP w b L m) (hl:(gfU a.n L 0).length≤200000) (hs:a.n.size≤1000000) (E:EnvR w) :
  Calls Tryz.prog 30 #[.pointer (some ⟨b,0,none⟩),.agg #[.string a.n,.int .i64 a.o,.string a.v]] w fun e w'=>(∃A c,e=.returned (.slice A (ixU (gvA a) L 0).length c)∧rdInts w' (lt_ w'.heap.size) (ixU (gvA a) L 0) [.slice A (ixU (gvA a) L 0).length c])∧Below w.heap.size w w':=by
 obtain ⟨fi,hi,hz0,hz1,hz2⟩:=info_parts int9_info
 obtain ⟨A,c,A',c',bm,-,-,h3,-,-,h6⟩:=h
 obtain ⟨Px,cp,Gx,cg,hlk,-,hg⟩:=h6.look a.n hs
 obtain ⟨-,hnc,hcm,-⟩:=rdGfs_at hg
 have hcm':cg≤9223372036854775807:=hcm
 have X:=Lib.hid (gv_is a L)
 have KP:=Lib.hid (fun (g:Atm) (W:World) (hb:Below w.heap.size w W)=>rprov_any a.n a.o a.v g.n g.o g.v W (E.below hb))
 have HX:=Lib.hid (show ∀g:Atm,provB (B a.n) a.o (B a.v) (B g.n) g.o (B g.v)=pvB a g from fun g=>rfl)
 have hf:=fld9_1
 have H:=Lib.hid hg
 clear h6 hg hcm E hs
 generalize ixU (gvA a) L 0=res at *
 generalize (ixU (isN a.n) L 0).length=npx at *
 generalize gfU a.n L 0=gs at *
 have hlq:∀q,(Instr.lookup 87 (.map (some bm)) (.string a.n) false).run Tryz.prog ((w.alloc (.cells #[.string a.n,.int .i64 a.o,.string a.v] 62)).drewN q)=.ok (.agg #[.slice Px npx cp,.slice Gx gs.length cg]) ((w.alloc (.cells #[.string a.n,.int .i64 a.o,.string a.v] 62)).drewN q):=fun q=>hlk _ (belD ((Below.refl _ w).alloc (Nat.le_refl _) _) q)
 clear hlk
 have HLQ:=Lib.hid hlq
 obtain ⟨W1,hW1⟩:∃W,W=w.alloc (.cells #[.string a.n,.int .i64 a.o,.string a.v] 62):=⟨_,rfl⟩
 have b1:Below w.heap.size w W1:=by rw [hW1];exact (Below.refl _ w).alloc (Nat.le_refl _) _
 have s1:W1.heap.size=w.heap.size+1:=by rw [hW1];simp
 have x0:W1.cell? ⟨w.heap.size,0,none⟩=some (.string a.n):=by rw [hW1];simp [go_sem]
 have x1:W1.cell? ⟨w.heap.size,1,none⟩=some (.int .i64 a.o):=by rw [hW1];simp [go_sem]
 have x2:W1.cell? ⟨w.heap.size,2,none⟩=some (.string a.v):=by rw [hW1];simp [go_sem]
 have x3:W1.cell? ⟨b,2,none⟩=some (.map (some bm)):=keep6 b1 h3
 rw [←hW1] at hlq HLQ
 have B1:=Lib.hid b1
 have S1:=Lib.hid s1
 clear b1 s1 h3
 go_enter Tryz.func30,Tryz.ntmps30
 go_wp2_with fail
 rw [←hW1]
 clear hW1
 go_quiet (fail)
 obtain ⟨V,hV⟩:∃V,V=W1.drewN nq:=⟨_,rfl⟩
 rw [←hV]
 have hVd:Dr W1 V:=⟨nq,hV⟩
 have BV:=Lib.hid (B1.out.trans ((hVd.below W1.heap.size).mono B1.out.size))
 have SV:=Lib.hid (hVd.size)
 have z0:=keep6 (hVd.below W1.heap.size) x0
 have z1:=keep6 (hVd.below W1.heap.size) x1
 have z2:=keep6 (hVd.below W1.heap.size) x2
 clear hV hVd hlq HLQ x0 x1 x2 x3
 go_wp2
 go_loopw [5,17] (fun v i wr=>∃k:Nat,k≤gs.length∧i=.int .i64 k∧Grow rdInt 1 (fun _=>True) wr V.heap.size 3 v (gvL a (gs.take k))∧Below V.heap.size V wr) (fun _ i _=>gs.length - (intOf i).toNat)
 case atStart=>exact ⟨0,Nat.zero_le _,rfl,Grow.nil _ _ _ _,Below.refl _ _⟩
 case round=>
  obtain ⟨k,hk,rfl,hG,hbel⟩:=hrel
  have HB:=Lib.hid hbel
  have HBW:=Lib.hid (BV.out.trans (hbel.mono BV.out.size))
  have HG:=Lib.hid hG
  have y0:=keep6 hbel z0
  have y1:=keep6 hbel z1
  have y2:=keep6 hbel z2
  have S0:=Lib.hid (show w.heap.size < wr.heap.size by have:=hbel.size;have:=SV.out;have:=S1.out;omega)
  clear hG z0 z1 z2
  by_cases hlt:k < gs.length
  ·obtain ⟨-,-,-,hat⟩:=rdGfs_at (rdGfs_good.below H.out HBW.out)
   obtain ⟨ad,rfl,-,g0,g1,g2,g3⟩:=hat k hlt
   have i0:(0:Int)≤(k:Int):=by omega
   have i1:(k:Int) < (gs.length:Int):=by omega
   have ST:=Lib.hid (gvL_take (a:=a) hlt)
   have hln:(gvL a (gs.take k)).length≤200000:=by have:=gvL_len a (gs.take k);rw [List.length_take] at this;omega
   have KQ:=Lib.hid (fun (W:World) (hb:Below w.heap.size w W)=>KP.out gs[k].a W hb)
   rw [HX.out gs[k].a] at KQ
   clear hat hbel
   generalize hgl:gvL a (gs.take k)=gl at HG ST hln
   clear hgl
   generalize gs[k]=y at *
   obtain ⟨gk,gn,go,gv⟩:=y
   simp only at g0 g1 g2 g3 KQ ST
   obtain ⟨Av,cv,hv6,-,-⟩:=HG.out.own
   have GG:=Lib.hid HG.out
   rw [hv6] at GG
   obtain ⟨nv,hnv⟩:∃q,q=gl.length:=⟨_,rfl⟩
   rw [←hnv] at hv6 GG
   subst hv6
   have b2:Below wr.heap.size wr (wr.alloc (.cells #[.int .i64 gk,.string gn,.int .i64 go,.string gv] 103)):=(Below.refl _ wr).alloc (Nat.le_refl _) _
   have B2:=Lib.hid (HB.out.trans (b2.mono HB.out.size))
   have BW2:=Lib.hid (HBW.out.trans (b2.mono HBW.out.size))
   have G2:=Lib.hid (GG.out.below rdInt_good b2)
   have q0:(wr.alloc (.cells #[.int .i64 gk,.string gn,.int .i64 go,.string gv] 103)).cell? ⟨w.heap.size,0,none⟩=some (.string a.n):=keep6 b2 y0
   have q1:(wr.alloc (.cells #[.int .i64 gk,.string gn,.int .i64 go,.string gv] 103)).cell? ⟨w.heap.size,1,none⟩=some (.int .i64 a.o):=keep6 b2 y1
   have q2:(wr.alloc (.cells #[.int .i64 gk,.string gn,.int .i64 go,.string gv] 103)).cell? ⟨w.heap.size,2,none⟩=some (.string a.v):=keep6 b2 y2
   have r0:(wr.alloc (.cells #[.int .i64 gk,.string gn,.int .i64 go,.string gv] 103)).cell? ⟨wr.heap.size,0,none⟩=some (.int .i64 gk):=by simp [go_sem]
   clear b2 hnv GG HG y0 y1 y2
   go_wp2_with fail
   refine (KQ.out _ BW2.out).mono ?_
   rintro e w3 ⟨rfl,hb⟩
   have B3:=Lib.hid (B2.out.trans (hb.mono B2.out.size))
   have G3:=Lib.hid (G2.out.below rdInt_good hb)
   have t0:=keep6 hb r0
   have z0:=keep6 hb q0
   have z1:=keep6 hb q1
   have z2:=keep6 hb q2
   have hn1:gl.length+1≤maxLen:=by unfold maxLen;omega
   have hn2:(gl.length+1)*8≤140737488355328:=by omega
   have hbs:V.heap.size≤w3.heap.size:=B3.out.size
   clear hb r0 q0 q1 q2 g0 g1 g2 g3
   cases hq:pvB a ⟨gn,go,gv⟩
   ·have GN:=Lib.hid (show Grow rdInt 1 (fun _=>True) w3 V.heap.size 3 (.slice Av nv cv) (gvL a (gs.take (k+1))) by have q:=ST.out;rw [hq,if_neg (by decide)] at q;rw [q];exact G3.out)
    clear hq
    go_wp2
    go_roundw
    case rel=>exact ⟨k+1,by omega,by go_num,GN.out,B3.out⟩
    case measure=>simp [intOf];omega
   ·have SN:=Lib.hid (show gvL a (gs.take (k+1))=gl++[gk] by have q:=ST.out;rw [hq,if_pos rfl] at q;exact q)
    clear hq
    go_wp2_with (at_builtin;refine wpList_grow1_at w3 rfl _ _ 27 rfl rdInt_good (by decide) (fun _=>True) V.heap.size 3 fi _ 8 Tryz.underlying27 hi hz0 hz1 hz2 rfl (.slice Av nv cv) gl rfl G3.out gk _ 3 rfl w3.heap.size rfl rfl hn1 hn2 hbs ?_)
    intro v1 w4 hG4 hg4 _
    have B4:=Lib.hid (grow_below G3.out hg4 B3.out (Nat.le_refl _) hbs)
    have G4:=Lib.hid hG4
    clear hG4 hg4 t0
    go_wp2
    go_roundw
    case rel=>exact ⟨k+1,by omega,by go_num,by rw [SN.out];exact G4.out,B4.out⟩
    case measure=>simp [intOf];omega
  ·obtain rfl:k=gs.length:=by omega
   have HG1:=Lib.hid (show Grow rdInt 1 (fun _=>True) wr V.heap.size 3 u5 (gvL a gs) by have:=HG.out;rwa [List.take_length] at this)
   have K:=Lib.hid (cpI9_any u5 (gvL a gs) wr HG1.out (by have:=gvL_len a gs;omega))
   rw [X.out] at K
   clear hbel HG HG1 y0 y1 y2
   go_wp2_with fail
   refine K.out.mono ?_
   rintro e w1 ⟨⟨Ax,cx,rfl,hr⟩,hb⟩
   have R:=Lib.hid hr
   have BX:=Lib.hid (HBW.out.trans (hb.mono (by have:=BV.out.size;omega)))
   clear hr hb
   go_wp2
   go_ret
   exact ⟨⟨Ax,cx,rfl,R.out⟩,BX.out⟩
theorem int_flat10:∀(w:World) (S S':Nat→Prop) (a:Int) (cs:List Value),rdInt w S a cs→rdInt w S' a cs:=fun _ _ _ _ _ h=>h
set_option maxHeartbeats 8000000 in
theorem vgivers_any (b:Nat) (L:List Ent) (m:List Hr) (a:Atm) (Al:Option Addr) (nl cl:Nat) (l:List Int) (w:World) (h:UP w b L m) (hr:rdInts w (lt_ w.heap.size) l [.slice Al nl cl]) (hs:l.Pairwise (· < ·)) (hn:l.length≤1000000) (hg:(gfU a.n L 0).length≤200000) (hz:a.n.size≤1000000) (hL:L.length≤64) (E:EnvR w) :
  Calls Tryz.prog 82 #[.pointer (some ⟨b,0,none⟩),.slice Al nl cl,.agg #[.string a.n,.int .i64 a.o,.string a.v]] w fun e w'=>(∃A c,e=.returned (.slice A (gvS L l a).length c)∧rdInts w' (fun k=>w.heap.size≤k∧k < w'.heap.size) (gvS L l a) [.slice A (gvS L l a).length c])∧Below w.heap.size w w':=by
 obtain ⟨fi,hi,hz0,hz1,hz2⟩:=info_parts int9_info
 have KG:=Lib.hid (fun (W:World) (hb:Below w.heap.size w W)=>givers9_any b L m a W (h.below hb) hg hz (E.below hb))
 have KH:=Lib.hid (fun (x:Int) (W:World) (hb:Below w.heap.size w W)=>vhas_any Al nl cl l x W (rdInts_good.up (rdInts_good.below hr hb) hb.size) hs hn)
 have X:=Lib.hid (show gvS L l a=(ixU (gvA a) L 0).filter fun p=>l.contains p from rfl)
 have LG:=Lib.hid (Nat.le_trans (ixU_len10 (gvA a) L 0) hL)
 generalize ixU (gvA a) L 0=G at *
 obtain ⟨W1,hW1⟩:∃W,W=w.alloc (.cells #[.string a.n,.int .i64 a.o,.string a.v] 62):=⟨_,rfl⟩
 have b1:Below w.heap.size w W1:=by rw [hW1];exact (Below.refl _ w).alloc (Nat.le_refl _) _
 have B1:=Lib.hid b1
 have x0:W1.cell? ⟨w.heap.size,0,none⟩=some (.string a.n):=by rw [hW1];simp [go_sem]
 have x1:W1.cell? ⟨w.heap.size,1,none⟩=some (.int .i64 a.o):=by rw [hW1];simp [go_sem]
 have x2:W1.cell? ⟨w.heap.size,2,none⟩=some (.string a.v):=by rw [hW1];simp [go_sem]
 clear h hr hs E b1 hg hz
 go_enter Tryz.func82,Tryz.ntmps82
 go_wp2_with fail
 rw [←hW1]
 clear hW1
 go_wp2_with fail
 refine (KG.out _ B1.out).mono ?_
 rintro e w2 ⟨⟨Ag,cg,rfl,hrg⟩,hb⟩
 obtain ⟨-,hgc,hgm,-⟩:=rdInts_at hrg
 have hgm':cg≤9223372036854775807:=hgm
 have HG:=Lib.hid (fun (W:World) (hx:Below w2.heap.size w2 W)=>(rdInts_at (rdInts_good.up (rdInts_good.below hrg hx) hx.size)).2.2.2)
 have B2:=Lib.hid (bel_in B1.out hb)
 clear hb hrg hgm x0 x1 x2 KG
 go_wp2
 go_loopw [7,14] (fun v i wr=>∃k:Nat,k≤G.length∧i=.int .i64 k∧Grow rdInt 1 (fun _=>True) wr w2.heap.size 3 v ((G.take k).filter fun p=>l.contains p)∧Below w2.heap.size w2 wr) (fun _ i _=>G.length - (intOf i).toNat)
 case atStart=>exact ⟨0,Nat.zero_le _,rfl,Grow.nil _ _ _ _,Below.refl _ _⟩
 case round=>
  obtain ⟨k,hk,rfl,hG,hbel⟩:=hrel
  have HB:=Lib.hid hbel
  have HBW:=Lib.hid (bel_in B2.out hbel)
  have HH:=Lib.hid hG
  clear hG hbel
  by_cases hlt:k < G.length
  ·obtain ⟨ad,rfl,-,g0⟩:=HG.out wr HB.out k hlt
   have i0:(0:Int)≤(k:Int):=by omega
   have i1:(k:Int) < (G.length:Int):=by omega
   have ST:=Lib.hid (fil_take10 (p:=fun p=>l.contains p) hlt)
   have hln:((G.take k).filter fun p=>l.contains p).length≤64:=by have:=List.length_filter_le (fun p=>l.contains p) (G.take k);rw [List.length_take] at this;have:=LG.out;omega
   have KX:=Lib.hid (KH.out G[k] wr HBW.out)
   have SN:=Lib.hid (ST.out.1)
   have SO:=Lib.hid (ST.out.2)
   generalize hgl:(G.take k).filter (fun p=>l.contains p)=gl at HH SN SO hln
   generalize hgn:(G.take (k+1)).filter (fun p=>l.contains p)=gn at SN SO
   clear ST hgl
   generalize G[k]=y at *
   generalize hc:l.contains y=cc at *
   clear hc
   go_wp2_with fail
   refine KX.out.mono ?_
   rintro e w3 ⟨rfl,rfl⟩
   clear KX g0
   cases cc
   ·have GN:=Lib.hid (show Grow rdInt 1 (fun _=>True) wr w2.heap.size 3 u7 gn by rw [SO.out rfl];exact HH.out)
    clear SN SO HH
    go_wp2
    go_roundw
    case rel=>exact ⟨k+1,by omega,by go_num,by rw [hgn];exact GN.out,HB.out⟩
    case measure=>simp [intOf];omega
   ·have SX:=Lib.hid (SN.out rfl)
    have hn1:gl.length+1≤maxLen:=by unfold maxLen;omega
    have hn2:(gl.length+1)*8≤140737488355328:=by omega
    have hbs:w2.heap.size≤wr.heap.size:=HB.out.size
    have hG3:=HH.out
    go_wp2_with (at_builtin;refine wpList_grow1 wr rfl _ _ 27 rfl rdInt_good (by decide) (fun _=>True) w2.heap.size 3 fi _ 8 Tryz.underlying27 hi hz0 hz1 hz2 rfl u7 gl rfl hG3 y _ 3 rfl _ rfl rfl hn1 hn2 hbs ?_)
    intro v1 w4 hG4 hg4
    have B4:=Lib.hid (grow_below hG3 hg4 HB.out (Nat.le_refl _) hbs)
    have G4:=Lib.hid hG4
    clear hG4 hg4 hG3 SO HH SN
    go_wp2
    go_roundw
    case rel=>exact ⟨k+1,by omega,by go_num,by rw [hgn,SX.out];exact G4.out,B4.out⟩
    case measure=>simp [intOf];omega
  ·obtain rfl:k=G.length:=by omega
   have FIN:=Lib.hid (show rdInts wr (fun k=>w.heap.size≤k∧k < wr.heap.size) (gvS L l a) [u7] from by
    have:=rdInts_good.more (S':=fun k=>w.heap.size≤k∧k < wr.heap.size) ((Grow.flat (T':=fun _=>False) int_flat10 HH.out).reads rdInt_good) fun b hh=>⟨Nat.le_trans B2.out.size (hh.2.resolve_right id),hh.1⟩
    rw [List.take_length] at this
    rw [X.out];exact this)
   obtain ⟨Av,cv,hv,_⟩:=id FIN.out
   simp only [List.cons.injEq,and_true] at hv
   subst hv
   clear HH
   go_wp2
   go_ret
   exact ⟨⟨Av,cv,rfl,FIN.out⟩,HBW.out⟩
set_option maxHeartbeats 2000000 in
theorem vmeets_any (b:Nat) (L:List Ent) (m:List Hr) (a:Atm) (Al:Option Addr) (nl cl:Nat) (l:List Int) (w:World) (h:UP w b L m) (hr:rdInts w (lt_ w.heap.size) l [.slice Al nl cl]) (hs:SetP L.length l) (hn:l.length≤1000000) (hg:(gfU a.n L 0).length≤200000) (hz:a.n.size≤1000000) (hL:L.length≤64) (E:EnvR w) :
  Calls Tryz.prog 80 #[.pointer (some ⟨b,0,none⟩),.slice Al nl cl,.agg #[.string a.n,.int .i64 a.o,.string a.v]] w fun e w'=>e=.returned (.bool (givS L l a))∧Below w.heap.size w w':=by
 have KG:=Lib.hid (fun (W:World) (hb:Below w.heap.size w W)=>vgivers_any b L m a Al nl cl l W (h.below hb) (rdInts_good.up (rdInts_good.below hr hb) hb.size) hs.2 hn hg hz hL (E.below hb))
 have X:=Lib.hid (gvS_givS hs a)
 generalize gvS L l a=G at *
 generalize givS L l a=bb at *
 obtain ⟨W1,hW1⟩:∃W,W=w.alloc (.cells #[.string a.n,.int .i64 a.o,.string a.v] 62):=⟨_,rfl⟩
 have b1:Below w.heap.size w W1:=by rw [hW1];exact (Below.refl _ w).alloc (Nat.le_refl _) _
 have B1:=Lib.hid b1
 have x0:W1.cell? ⟨w.heap.size,0,none⟩=some (.string a.n):=by rw [hW1];simp [go_sem]
 have x1:W1.cell? ⟨w.heap.size,1,none⟩=some (.int .i64 a.o):=by rw [hW1];simp [go_sem]
 have x2:W1.cell? ⟨w.heap.size,2,none⟩=some (.string a.v):=by rw [hW1];simp [go_sem]
 clear h hr hs E b1 hg hz hn hL
 go_enter Tryz.func80,Tryz.ntmps80
 go_wp2_with fail
 rw [←hW1]
 clear hW1
 go_wp2_with fail
 refine (KG.out _ B1.out).mono ?_
 rintro e w2 ⟨⟨Ag,cg,rfl,hrg⟩,hb⟩
 have B2:=Lib.hid (bel_in B1.out hb)
 clear hb hrg x0 x1 x2
 by_cases h0:0 < G.length
 ·have X2:=Lib.hid (show bb=true from X.out.symm.trans (decide_eq_true h0))
  have h1:(0:Int) < (G.length:Int):=by omega
  clear X
  go_wp2
  go_ret
  exact ⟨by rw [X2.out];try rfl,B2.out⟩
 ·have X2:=Lib.hid (show bb=false from X.out.symm.trans (decide_eq_false h0))
  have h1:¬(0:Int) < (G.length:Int):=by omega
  have h2:G.length=0:=by omega
  clear X
  go_wp2
  go_ret
  exact ⟨by rw [X2.out];try rfl,B2.out⟩
structure UQ (w:World) (b:Nat) (L:List Ent) (m:List Hr):Prop where
 up:UP w b L m
 big:∀s,(gfU s L 0).length≤200000
 len:L.length≤64
 sz:∀x ∈ L,∀g ∈ x.d,∀a ∈ g,a.n.size≤1000000
 pr:∀x ∈ L,x.p.length≤1000
 hm:m.length≤200
 hz:∀y ∈ m,y.e.n.size≤1000000
 held:SetP L.length (heldU L m)
theorem UQ.below {w w':World} {b:Nat} {L:List Ent} {m:List Hr} (h:UQ w b L m) (hB:Below w.heap.size w w'):UQ w' b L m:=⟨h.up.below hB,h.big,h.len,h.sz,h.pr,h.hm,h.hz,h.held⟩
theorem Pst.row {α:Type} {E:Rd α} {sz:Nat} (g:Good E sz) {W W':World} {O O':Nat→Prop} {a:α} {cs:List Value} (h:Pst W O W' O') (hr:E W (fun b=>b < W.heap.size∧¬O b) a cs):E W' (fun b=>b < W'.heap.size∧¬O' b) a cs:=
 g.both hr (fun b hb=>h.block b hb.1 hb.2) fun b hb=>⟨Nat.lt_of_lt_of_le hb.1 h.size,fun q=>(h.own b q).elim hb.2 fun r=>by omega⟩
theorem Pst.not {W W':World} {O O':Nat→Prop} (h:Pst W O W' O') {b:Nat} (hb:b < W.heap.size) (hn:¬O b):¬O' b:=fun q=>(h.own b q).elim hn fun r=>by omega
set_option maxHeartbeats 2000000 in
theorem vin3_any (b:Nat) (L:List Ent) (m:List Hr) (a:Atm) (Al:Option Addr) (nl cl:Nat) (l:List Int) (bu bl:Nat) (w:World) (h:UQ w b L m) (hr:rdInts w (lt_ w.heap.size) l [.slice Al nl cl]) (hs:SetP L.length l) (hn:l.length≤1000000) (hz:a.n.size≤1000000) (E:EnvR w) (cu:w.cell? ⟨bu,0,none⟩=some (.pointer (some ⟨b,0,none⟩))) (cb:w.cell? ⟨bl,0,none⟩=some (.slice Al nl cl)) :
  Calls Tryz.prog 79 #[.agg #[.string a.n,.int .i64 a.o,.string a.v],.pointer (some ⟨bu,0,none⟩),.pointer (some ⟨bl,0,none⟩)] w fun e w'=>e=.returned (.bool (givS L l a))∧Below w.heap.size w w':=by
 have KM:=Lib.hid (fun (W:World) (hb:Below w.heap.size w W)=>vmeets_any b L m a Al nl cl l W (h.up.below hb) (rdInts_good.up (rdInts_good.below hr hb) hb.size) hs hn (h.big _) hz h.len (E.below hb))
 generalize givS L l a=bb at *
 obtain ⟨W1,hW1⟩:∃W,W=w.alloc (.cells #[.string a.n,.int .i64 a.o,.string a.v] 62):=⟨_,rfl⟩
 have b1:Below w.heap.size w W1:=by rw [hW1];exact (Below.refl _ w).alloc (Nat.le_refl _) _
 have B1:=Lib.hid b1
 have x0:W1.cell? ⟨w.heap.size,0,none⟩=some (.string a.n):=by rw [hW1];simp [go_sem]
 have x1:W1.cell? ⟨w.heap.size,1,none⟩=some (.int .i64 a.o):=by rw [hW1];simp [go_sem]
 have x2:W1.cell? ⟨w.heap.size,2,none⟩=some (.string a.v):=by rw [hW1];simp [go_sem]
 have y0:=keep6 b1 cu
 have y1:=keep6 b1 cb
 clear h hr hs E b1 hz hn cu cb
 go_enter Tryz.func79,Tryz.ntmps79
 go_upto_region 1 with fail
 rw [←hW1]
 clear hW1
 go_wp2_with fail
 refine (KM.out _ B1.out).mono ?_
 rintro e w2 ⟨rfl,hb⟩
 have B2:=Lib.hid (bel_in B1.out hb)
 clear hb
 go_wp2
 go_ret
 exact ⟨rfl,B2.out⟩
def ixG (f:Atm→Bool):List Atm→Nat→Int
 | [],_=>-1
 | a::r,i=>if f a=true then i else ixG f r (i+1)
theorem ixG_at {f:Atm→Bool} {l:List Atm} {k:Nat} (hk:k < l.length):(f l[k]=true→ixG f (l.drop k) k=k)∧(f l[k]=false→ixG f (l.drop k) k=ixG f (l.drop (k+1)) (k+1)):=by
 rw [List.drop_eq_getElem_cons hk]
 exact ⟨fun h=>if_pos h,fun h=>if_neg (by rw [h];decide)⟩
theorem ixG_has {f:Atm→Bool}:∀{l:List Atm} {i:Nat},decide (0≤ixG f l i)=l.any f
 | [],_=>rfl
 | a::r,i=>by
  unfold ixG
  rw [List.any_cons]
  cases h:f a
  ·rw [if_neg (by decide),Bool.false_or];exact ixG_has
  ·rw [if_pos rfl,Bool.true_or,decide_eq_true_iff];omega
set_option maxHeartbeats 4000000 in
theorem vix_any (b:Nat) (L:List Ent) (m:List Hr) (Al:Option Addr) (nl cl:Nat) (l:List Int) (bu bl:Nat) (Ag:Option Addr) (ng cg:Nat) (g:List Atm) (w:World) (h:UQ w b L m) (hr:rdInts w (lt_ w.heap.size) l [.slice Al nl cl]) (hs:SetP L.length l) (hn:l.length≤1000000) (hg:rdAtms w (lt_ w.heap.size) g [.slice Ag ng cg]) (hz:∀a ∈ g,a.n.size≤1000000) (E:EnvR w) (cu:w.cell? ⟨bu,0,none⟩=some (.pointer (some ⟨b,0,none⟩))) (cb:w.cell? ⟨bl,0,none⟩=some (.slice Al nl cl)) :
  Calls Tryz.prog 118 #[.slice Ag ng cg,.func (.func 79) #[] #[.pointer (some ⟨bu,0,none⟩),.pointer (some ⟨bl,0,none⟩)]] w fun e w'=>e=.returned (.int .i64 (ixG (givS L l) g 0))∧Below w.heap.size w w':=by
 have hcf:∀(args:Array Value) (w:World),(callFunc 79 args).run Tryz.prog w=.ok (.enter 79 args) w:=fun _ _=>by kernel_rfl
 obtain ⟨rfl,hnc,hcm,_⟩:=rdAtms_at hg
 have hcm':cg≤9223372036854775807:=hcm
 have KM:=Lib.hid (fun (a:Atm) (ha:a.n.size≤1000000) (W:World) (hb:Below w.heap.size w W)=>vin3_any b L m a Al nl cl l bu bl W (h.below hb) (rdInts_good.up (rdInts_good.below hr hb) hb.size) hs hn ha (E.below hb) (keep6 hb cu) (keep6 hb cb))
 have HA:=Lib.hid (fun (W:World) (hb:Below w.heap.size w W)=>(rdAtms_at (rdAtms_good.up (rdAtms_good.below hg hb) hb.size)).2.2.2)
 have HZ:=Lib.hid hz
 clear h hr hs hn hg hz E cu cb hcm
 generalize givS L l=f at *
 obtain ⟨R,hR⟩:∃R,R=ixG f g 0:=⟨_,rfl⟩
 rw [←hR]
 have HR:=Lib.hid hR
 clear hR
 go_enter Tryz.func118,Tryz.ntmps118
 go_wp2
 go_loopw [8] (fun i wr=>∃k:Nat,k≤g.length∧i=.int .i64 k∧Hid (R=ixG f (g.drop k) k)∧Below w.heap.size w wr) (fun i _=>g.length - (intOf i).toNat)
 case atStart=>exact ⟨0,Nat.zero_le _,rfl,HR,Below.refl _ _⟩
 case round=>
  obtain ⟨k,hk,rfl,H1,hbel⟩:=hrel
  have HB:=Lib.hid hbel
  clear hbel
  by_cases hlt:k < g.length
  ·obtain ⟨ad,rfl,had,c0,c1,c2⟩:=HA.out wr HB.out k hlt
   have i0:(0:Int)≤(k:Int):=by omega
   have i1:(k:Int) < (g.length:Int):=by omega
   have CL:=Lib.hid (KM.out g[k] (HZ.out _ (List.getElem_mem hlt)) wr HB.out)
   have PA:=Lib.hid (ixG_at (f:=f) hlt)
   clear had
   generalize hx:g[k]=x at c0 c1 c2 CL PA
   generalize hfx:f x=bb at CL PA
   clear hx hfx
   go_wp2_with fail
   refine CL.out.mono ?_
   rintro e w' ⟨rfl,hb2⟩
   have HB2:=Lib.hid (bel_in HB.out hb2)
   clear hb2
   cases bb
   ·have X:=Lib.hid (PA.out.2 rfl)
    clear PA CL c0 c1 c2
    go_wp2
    go_roundw
    case rel=>exact ⟨k+1,by omega,by go_num,Lib.hid (H1.out.trans X.out),HB2.out⟩
    case measure=>simp [intOf];omega
   ·have X:=Lib.hid (PA.out.1 rfl)
    clear PA CL c0 c1 c2
    go_wp2
    go_ret
    exact ⟨by rw [H1.out,X.out];try rfl,HB2.out⟩
  ·have X:=Lib.hid (show R=-1 by rw [H1.out,List.drop_eq_nil_of_le (by omega)];rfl)
   go_wp2
   go_ret
   exact ⟨by rw [X.out];try rfl,HB.out⟩
set_option maxHeartbeats 2000000 in
theorem vcont_any (b:Nat) (L:List Ent) (m:List Hr) (Al:Option Addr) (nl cl:Nat) (l:List Int) (bu bl:Nat) (Ag:Option Addr) (ng cg:Nat) (g:List Atm) (w:World) (h:UQ w b L m) (hr:rdInts w (lt_ w.heap.size) l [.slice Al nl cl]) (hs:SetP L.length l) (hn:l.length≤1000000) (hg:rdAtms w (lt_ w.heap.size) g [.slice Ag ng cg]) (hz:∀a ∈ g,a.n.size≤1000000) (E:EnvR w) (cu:w.cell? ⟨bu,0,none⟩=some (.pointer (some ⟨b,0,none⟩))) (cb:w.cell? ⟨bl,0,none⟩=some (.slice Al nl cl)) :
  Calls Tryz.prog 78 #[.slice Ag ng cg,.func (.func 79) #[] #[.pointer (some ⟨bu,0,none⟩),.pointer (some ⟨bl,0,none⟩)]] w fun e w'=>e=.returned (.bool (metS L l g))∧Below w.heap.size w w':=by
 have C:=Lib.hid (vix_any b L m Al nl cl l bu bl Ag ng cg g w h hr hs hn hg hz E cu cb)
 have X:=Lib.hid (show decide (0≤ixG (givS L l) g 0)=metS L l g from ixG_has)
 generalize metS L l g=bb at *
 generalize ixG (givS L l) g 0=R at *
 clear h hr hs hn hg hz E cu cb
 go_enter Tryz.func78,Tryz.ntmps78
 go_wp2_with fail
 refine C.out.mono ?_
 rintro e w' ⟨rfl,hb2⟩
 have HB2:=Lib.hid hb2
 clear hb2
 go_wp2
 go_ret
 exact ⟨by rw [←X.out];try rfl,HB2.out⟩
theorem add_blk10 (ad:Addr) (k:Nat):(ad.add k).block=ad.block:=by unfold Addr.add;split<;>rfl
set_option maxHeartbeats 16000000 in
theorem vinside_any (w0 w:World) (St:World→List Ft→(Nat→Prop)→Prop) (fn q:Nat) (HS:Sink w0.heap.size St fn q) (b:Nat) (L:List Ent) (m:List Hr) (Al:Option Addr) (nl cl:Nat) (l:List Int) (g0:List Ft) (O:Nat→Prop) (HU:UQ w0 b L m) (hl:rdInts w0 (lt_ w0.heap.size) l [.slice Al nl cl]) (E:EnvR w0) (HB:Below w0.heap.size w0 w) (hSt:St w g0 O) (hs:SetP L.length l) (hT:(g0++insS L l).length≤1000000) :
  Calls Tryz.prog 49 #[.pointer (some ⟨b,0,none⟩),.slice Al nl cl,.func (.func fn) #[] #[.pointer (some ⟨q,0,none⟩)]] w fun e W'=>e=.returned (.tuple #[])∧∃O',St W' (g0++insS L l) O'∧Pst w O W' O':=by
 have hcf1:∀(args:Array Value) (w:World),(callFunc 76 args).run Tryz.prog w=.ok (.enter 76 args) w:=fun _ _=>by kernel_rfl
 have hcf2:∀(args:Array Value) (w:World),(callFunc 77 args).run Tryz.prog w=.ok (.enter 77 args) w:=fun _ _=>by kernel_rfl
 have hcf3:∀(args:Array Value) (w:World),(callFunc 61 args).run Tryz.prog w=.ok (.enter 61 args) w:=fun _ _=>by kernel_rfl
 have hcf:=HS.enter
 obtain ⟨rfl,hlc,hlm,-⟩:=rdInts_at hl
 have hlm':cl≤9223372036854775807:=hlm
 have hO:∀k,O k→w0.heap.size≤k∧k < w.heap.size:=fun k hk=>HS.own hSt k hk
 have hle:l.length≤1000000:=by
  have:l.length≤L.length:=by
   have h1:=(List.pairwise_iff_getElem.1 hs.2)
   rcases Nat.lt_or_ge L.length l.length with h|h
   ·have key:∀j (hj:j < l.length),(j:Int)≤l[j]:=by
     intro j
     induction j with
     | zero=>intro hj;exact (hs.1 _ (List.getElem_mem hj)).1
     | succ j ih=>intro hj;have:=ih (by omega);have:=h1 j (j+1) (by omega) hj (by omega);omega
    have a:=key L.length h
    have b:=(hs.1 _ (List.getElem_mem h)).2
    omega
   ·exact h
  have:=HU.len
  omega
 obtain ⟨Wb,hWb⟩:∃W,W=(((w.alloc (.cells #[.pointer (some ⟨b,0,none⟩)] 31)).alloc (.cells #[.slice Al l.length cl] 27)).alloc (.cells #[.func (.func fn) #[] #[.pointer (some ⟨q,0,none⟩)]] 93)):=⟨_,rfl⟩
 have bb:Below w.heap.size w Wb:=by rw [hWb];exact (((Below.refl _ w).alloc (Nat.le_refl _) _).alloc (by simp) _).alloc (by simp;omega) _
 have sb:Wb.heap.size=w.heap.size+3:=by rw [hWb];simp
 have z0:Wb.cell? ⟨w.heap.size,0,none⟩=some (.pointer (some ⟨b,0,none⟩)):=by rw [hWb];simp [go_sem]
 have z1:Wb.cell? ⟨w.heap.size+1,0,none⟩=some (.slice Al l.length cl):=by rw [hWb];simp [go_sem]
 have z2:Wb.cell? ⟨w.heap.size+2,0,none⟩=some (.func (.func fn) #[] #[.pointer (some ⟨q,0,none⟩)]):=by rw [hWb];simp [go_sem]
 have KE:=Lib.hid (entries10_any b L m w0 Wb HU.up (HB.trans (bb.mono HB.size)) (by have:=HU.len;omega))
 have BB:=Lib.hid bb
 have SB:=Lib.hid sb
 have HBB:=Lib.hid HB
 have HUU:=Lib.hid HU
 have HSS:=Lib.hid HS
 have HST:=Lib.hid hSt
 have HLL:=Lib.hid hl
 have HEE:=Lib.hid E
 have HP:=Lib.hid hs
 have HO:=Lib.hid hO
 have HLE:=Lib.hid hle
 have TL:=Lib.hid hT
 obtain ⟨T,hTT⟩:∃T,T=g0++insS L l:=⟨_,rfl⟩
 rw [←hTT] at TL ⊢
 have HTT:=Lib.hid hTT
 clear hTT hT hs HS hSt hl hlm HB HU E bb sb hO hle
 go_enter Tryz.func49,Tryz.ntmps49
 go_wp2_with fail
 rw [←hWb]
 clear hWb
 go_wp2_with fail
 refine KE.out.mono ?_
 rintro e w2 ⟨⟨Ae,ce,rfl,hre⟩,hb⟩
 obtain ⟨W3,hW3⟩:∃W,W=w2.alloc (.cells #[.slice Ae L.length ce] 22):=⟨_,rfl⟩
 have b3:Below Wb.heap.size Wb W3:=by rw [hW3];exact hb.alloc hb.size _
 have e3:Below w2.heap.size w2 W3:=by rw [hW3];exact (Below.refl _ w2).alloc (Nat.le_refl _) _
 have s3:W3.heap.size=w2.heap.size+1:=by rw [hW3];simp
 have y0:=keep6 b3 z0
 have y1:=keep6 b3 z1
 have y2:=keep6 b3 z2
 have y3:W3.cell? ⟨w2.heap.size,0,none⟩=some (.slice Ae L.length ce):=by rw [hW3];simp [go_sem]
 have BW3:=Lib.hid (bel_in BB.out b3)
 have S23:=Lib.hid (show w.heap.size+3≤w2.heap.size by have:=hb.size;have:=SB.out;omega)
 have HB3:=Lib.hid (HBB.out.trans (BW3.out.mono HBB.out.size))
 have ST3:=Lib.hid (HSS.out.up HST.out BW3.out)
 have HL3:=Lib.hid (show rdInts W3 (fun k=>k < W3.heap.size∧¬O k) l [.slice Al l.length cl] from rdInts_good.both HLL.out (fun k hk=>HB3.out.block k hk) (fun k hk=>⟨Nat.lt_of_lt_of_le hk HB3.out.size,fun q=>by have:=(HO.out k q).1;have:k < w0.heap.size:=hk;omega⟩))
 have HE3:=Lib.hid (show rdEnts W3 (fun k=>k < W3.heap.size∧¬O k) L [.slice Ae L.length ce] from rdEnts_good.both hre (fun k hk=>e3.block k (by
   rcases hk with hk|hk
   ·have:=HBB.out.size;have:=S23.out;omega
   ·exact hk.2)) (fun k hk=>by
   rcases hk with hk|hk
   ·exact ⟨by have:=HBB.out.size;have:=S23.out;have:=s3;omega,fun q=>by have:=(HO.out k q).1;omega⟩
   ·exact ⟨by have:=s3;omega,fun q=>by have:=(HO.out k q).2;have:=SB.out;omega⟩))
 have N0:=Lib.hid (show ¬O w.heap.size∧¬O (w.heap.size+1)∧¬O (w.heap.size+2)∧¬O w2.heap.size from ⟨fun q=>by have:=(HO.out _ q).2;omega,fun q=>by have:=(HO.out _ q).2;omega,fun q=>by have:=(HO.out _ q).2;omega,fun q=>by have:=(HO.out _ q).2;have:=S23.out;omega⟩)
 have TI:=Lib.hid (show T=g0++pairP smN 1 L l++pairP fgt 2 L l++opnS L l l from by rw [HTT.out];unfold insS;simp only [List.append_assoc])
 have T1:=Lib.hid (show (g0++pairP smN 1 L l).length≤1000000∧(g0++pairP smN 1 L l++pairP fgt 2 L l).length≤1000000 from by
  have:=TL.out
  rw [TI.out] at this
  simp only [List.length_append] at *
  omega)
 have KP1:=Lib.hid (vpairs_any w0 W3 St fn q 77 HSS.out smN 1 L l g0 O HB3.out ST3.out hcf2 (fun x y A1 c1 A2 c2 A3 c3 A4 c4 D1 d1 D2 d2 D3 d3 D4 d4 W _ _ _ _ _=>vsame_any x y A1 c1 A2 c2 A3 c3 A4 c4 D1 d1 D2 d2 D3 d3 D4 d4 W)
  (w.heap.size+1) w2.heap.size (w.heap.size+2) Al cl Ae ce y1 y3 y2 N0.out.2.1 N0.out.2.2.2 N0.out.2.2.1 HL3.out HE3.out HP.out T1.out.1)
 clear hre b3 hb z0 z1 z2 KE
 go_wp2_with fail
 rw [←hW3]
 clear hW3
 go_wp2_with fail
 refine KP1.out.mono ?_
 rintro e w4 ⟨rfl,O4,hst4,hp4⟩
 have ST4:=Lib.hid hst4
 have P4:=Lib.hid hp4
 have S4:=Lib.hid (show w2.heap.size+1≤w4.heap.size by have:=hp4.size;omega)
 have HB4:=Lib.hid (HB3.out.trans (hp4.base (fun k hk=>(HO.out k hk).1) HB3.out.size))
 have x0:=hp4.cell y0 N0.out.1
 have x1:=hp4.cell y1 N0.out.2.1
 have x2:=hp4.cell y2 N0.out.2.2.1
 have x3:=hp4.cell y3 N0.out.2.2.2
 have HL4:=Lib.hid (hp4.row rdInts_good HL3.out)
 have HE4:=Lib.hid (hp4.row rdEnts_good HE3.out)
 have N4:=Lib.hid (show ¬O4 w.heap.size∧¬O4 (w.heap.size+1)∧¬O4 (w.heap.size+2)∧¬O4 w2.heap.size from ⟨hp4.not (by have:=S23.out;omega) N0.out.1,hp4.not (by have:=S23.out;omega) N0.out.2.1,hp4.not (by have:=S23.out;omega) N0.out.2.2.1,hp4.not (by omega) N0.out.2.2.2⟩)
 have KP2:=Lib.hid (vpairs_any w0 w4 St fn q 61 HSS.out fgt 2 L l (g0++pairP smN 1 L l) O4 HB4.out ST4.out hcf3 (fun x y A1 c1 A2 c2 A3 c3 A4 c4 D1 d1 D2 d2 D3 d3 D4 d4 W hW hx hy ex ey=>fights6_any x y A1 c1 A2 c2 A3 c3 A4 c4 D1 d1 D2 d2 D3 d3 D4 d4 W ex ey (HUU.out.pr x hx) (HUU.out.pr y hy) (HEE.out.below hW))
  (w.heap.size+1) w2.heap.size (w.heap.size+2) Al cl Ae ce x1 x3 x2 N4.out.2.1 N4.out.2.2.2 N4.out.2.2.1 HL4.out HE4.out HP.out T1.out.2)
 clear hst4 hp4 y0 y1 y2 y3 KP1
 go_wp2_with fail
 refine KP2.out.mono ?_
 rintro e w5 ⟨rfl,O5,hst5,hp5⟩
 have ST5:=Lib.hid hst5
 have S5:=Lib.hid (show w2.heap.size+1≤w5.heap.size by have:=hp5.size;have:=S4.out;omega)
 have P5:=Lib.hid (show Pst w O w5 O5 from (Pst.of_below BW3.out).trans (P4.out.trans hp5))
 have HB5:=Lib.hid (HB4.out.trans (hp5.base (fun k hk=>(HSS.out.own ST4.out k hk).1) HB4.out.size))
 have v0:=hp5.cell x0 N4.out.1
 have v1:=hp5.cell x1 N4.out.2.1
 have v2:=hp5.cell x2 N4.out.2.2.1
 have v3:=hp5.cell x3 N4.out.2.2.2
 have HL5:=Lib.hid (hp5.row rdInts_good HL4.out)
 have HE5:=Lib.hid (hp5.row rdEnts_good HE4.out)
 have N5:=Lib.hid (show ¬O5 w.heap.size∧¬O5 (w.heap.size+1)∧¬O5 (w.heap.size+2)∧¬O5 w2.heap.size from ⟨hp5.not (by have:=S23.out;have:=S4.out;omega) N4.out.1,hp5.not (by have:=S23.out;have:=S4.out;omega) N4.out.2.1,hp5.not (by have:=S23.out;have:=S4.out;omega) N4.out.2.2.1,hp5.not (by have:=S4.out;omega) N4.out.2.2.2⟩)
 have KC:=Lib.hid (fun (W:World) (O':Nat→Prop) (hp:Pst w5 O5 W O')=>(show W.cell? ⟨w.heap.size,0,none⟩=some (.pointer (some ⟨b,0,none⟩))∧W.cell? ⟨w.heap.size+1,0,none⟩=some (.slice Al l.length cl)∧W.cell? ⟨w.heap.size+2,0,none⟩=some (.func (.func fn) #[] #[.pointer (some ⟨q,0,none⟩)])∧W.cell? ⟨w2.heap.size,0,none⟩=some (.slice Ae L.length ce) from ⟨hp.cell v0 N5.out.1,hp.cell v1 N5.out.2.1,hp.cell v2 N5.out.2.2.1,hp.cell v3 N5.out.2.2.2⟩))
 have KL:=Lib.hid (fun (W:World) (O':Nat→Prop) (hp:Pst w5 O5 W O')=>hp.keep rdInts_good HL5.out fun _ h=>h)
 have KE:=Lib.hid (rdEnts_at HE5.out).2.2.2
 have KB:=Lib.hid (fun (W:World) (O':Nat→Prop) (hp:Pst w5 O5 W O')=>HB5.out.trans (hp.base (fun k hk=>(HSS.out.own ST5.out k hk).1) HB5.out.size))
 obtain ⟨-,hec,hem,-⟩:=rdEnts_at HE5.out
 have hem':ce≤9223372036854775807:=hem
 obtain ⟨g5,hg5⟩:∃g,g=g0++pairP smN 1 L l++pairP fgt 2 L l:=⟨_,rfl⟩
 rw [←hg5] at ST5
 have IN:=Lib.hid (show g5++opnS L l l=T from by rw [hg5];exact TI.out.symm)
 clear hst5 hp5 x0 x1 x2 x3 KP2 hem hg5 HL4 HE4 HL3 HE3 TI T1 HTT ST4 ST3 P4 N4 N0 HB4 HB3
 go_wp2
 go_loopw [21] (fun i wr=>∃k:Nat,k≤l.length∧i=.int .i64 k∧∃g O',St wr g O'∧Hid (g++opnS L l (l.drop k)=T)∧Pst w5 O5 wr O') (fun i _=>l.length - (intOf i).toNat)
 case atStart=>exact ⟨0,Nat.zero_le _,rfl,g5,O5,ST5.out,IN,Pst.refl _ _⟩
 case round=>
  obtain ⟨k,hk,rfl,g,O1,hst,HI,hps⟩:=hrel
  have ST:=Lib.hid hst
  have PS:=Lib.hid hps
  clear hst hps v0 v1 v2 v3
  by_cases hlt:k < l.length
  ·obtain ⟨d0,d1,d2,d3⟩:=KC.out wr O1 PS.out
   obtain ⟨-,-,-,hat⟩:=rdInts_at (KL.out wr O1 PS.out)
   obtain ⟨ad,rfl,-,e0⟩:=hat k hlt
   have i0:(0:Int)≤(k:Int):=by omega
   have i1:(k:Int) < (l.length:Int):=by omega
   have PK:=Lib.hid (HP.out.1 _ (List.getElem_mem hlt))
   obtain ⟨ja,hja,epa,ea⟩:=ent_at10 PK.out.1 PK.out.2
   have IV:=Lib.hid (show Hid (g++(opnP L l (ja:Int) L[ja].d 0++opnS L l (l.drop (k+1)))=T) from by
    have:=HI.out
    rw [opnS_step hlt,ea,epa] at this
    exact Lib.hid this)
   obtain ⟨R,hR⟩:∃R,R=opnS L l (l.drop (k+1)):=⟨_,rfl⟩
   rw [←hR] at IV
   have HR:=Lib.hid hR
   rw [epa] at e0
   obtain ⟨adE,A1,c1,A2,c2,A3,c3,A4,c4,eE,hSE,hv,-,-,f2,-⟩:=KE.out ja hja
   subst eE
   have a0:(0:Int)≤(ja:Int):=by omega
   have a1:(ja:Int) < (L.length:Int):=by omega
   have q2:=PS.out.cell f2 (by rw [add_blk10];exact hSE.2)
   have HG:=Lib.hid (fun (W:World) (O':Nat→Prop) (hp:Pst w5 O5 W O')=>(rdGrps_at (hp.keep rdGrps_good hv.d fun _ h=>h)).2.2.2)
   have DZ:=Lib.hid (HUU.out.sz _ (List.getElem_mem hja))
   obtain ⟨-,hdc,hdm,-⟩:=rdGrps_at hv.d
   have hdm':c1≤9223372036854775807:=hdm
   clear hat HI hR epa ea hv f2 hSE hdm
   generalize hdd:L[ja].d=D at *
   clear hdd
   go_wp2_with fail
   go_loopw [31] (fun i wr=>∃n:Nat,n≤D.length∧i=.int .i64 n∧∃g O',St wr g O'∧Hid (g++(opnP L l (ja:Int) (D.drop n) n++R)=T)∧Pst w5 O5 wr O') (fun i _=>D.length - (intOf i).toNat)
   case atStart=>exact ⟨0,Nat.zero_le _,rfl,g,O1,ST.out,IV.out,PS.out⟩
   case round=>
    obtain ⟨n,hn,rfl,g,O1,hst,HI,hps⟩:=hrel
    have ST:=Lib.hid hst
    have PS:=Lib.hid hps
    clear hst hps d0 d1 d2 d3 q2 e0
    by_cases hnl:n < D.length
    ·obtain ⟨d0,d1,d2,-⟩:=KC.out wr O1 PS.out
     obtain ⟨adG,Ag,cg,rfl,-,h0,hg⟩:=HG.out wr O1 PS.out n hnl
     have n0:(0:Int)≤(n:Int):=by omega
     have n1:(n:Int) < (D.length:Int):=by omega
     have HB1:=Lib.hid (KB.out wr O1 PS.out)
     have KK:=Lib.hid (vcont_any b L m (some ad) l.length cl l w.heap.size (w.heap.size+1) Ag _ cg D[n] wr (HUU.out.below HB1.out) (KL.out wr O1 PS.out) HP.out HLE.out hg (DZ.out _ (List.getElem_mem hnl)) (HEE.out.below HB1.out) d0 d1)
     have SR:=Lib.hid (opnP_step (U:=L) (l:=l) (p:=(ja:Int)) hnl)
     have SRT:=Lib.hid (fun (e:metS L l D[n]=false)=>show g++[⟨3,(ja:Int),(n:Int)⟩]++(opnP L l (ja:Int) (D.drop (n+1)) (n+1)++R)=T from by
      have:=HI.out
      rw [SR.out.2 e] at this
      rw [List.append_assoc,List.singleton_append];exact this)
     have SRF:=Lib.hid (fun (e:metS L l D[n]=true)=>show g++(opnP L l (ja:Int) (D.drop (n+1)) (n+1)++R)=T from by
      have:=HI.out
      rw [SR.out.1 e] at this
      exact this)
     generalize metS L l D[n]=bm at KK SRT SRF
     generalize D[n].length=ng at *
     clear SR HI hg
     go_wp2_with fail
     refine KK.out.mono ?_
     rintro e w6 ⟨rfl,hb⟩
     have PS6:=Lib.hid (PS.out.below hb)
     have ST6:=Lib.hid (HSS.out.up ST.out hb)
     clear hb KK d0 d1 d2 h0
     cases bm
     ·have NX:=Lib.hid (Lib.hid (SRT.out rfl))
      have GL:=Lib.hid (show g.length+1≤1000000 from by
       have:=congrArg List.length NX.out.out
       have:=TL.out
       simp only [List.length_append,List.length_singleton] at *
       omega)
      obtain ⟨-,-,d2,-⟩:=KC.out w6 O1 PS6.out
      have KF:=Lib.hid (HSS.out.call w6 g O1 ⟨3,(ja:Int),(n:Int)⟩ ST6.out GL.out)
      clear SRT SRF
      go_wp2_with fail
      refine KF.out.mono ?_
      rintro e w7 ⟨rfl,O4,hst4,hp4⟩
      have ST4:=Lib.hid hst4
      have PS4:=Lib.hid (PS6.out.trans hp4)
      clear hst4 hp4 d2 KF
      go_wp2
      go_roundw
      case rel=>exact ⟨n+1,by omega,by go_num,_,O4,ST4.out,NX.out,PS4.out⟩
      case measure=>simp [intOf];omega
     ·have NX:=Lib.hid (Lib.hid (SRF.out rfl))
      clear SRT SRF
      go_wp2
      go_roundw
      case rel=>exact ⟨n+1,by omega,by go_num,g,O1,ST6.out,NX.out,PS6.out⟩
      case measure=>simp [intOf];omega
    ·have NX:=Lib.hid (show Hid (g++opnS L l (l.drop (k+1))=T) from by
      have:=HI.out
      rw [List.drop_eq_nil_of_le (by omega)] at this
      have e:=HR.out
      rw [←e]
      exact Lib.hid this)
     go_wp2
     go_roundw
     case rel=>exact ⟨k+1,by omega,by go_num,g,O1,ST.out,NX.out,PS.out⟩
     case measure=>simp [intOf];omega
  ·obtain rfl:k=l.length:=by omega
   have FIN:=Lib.hid (show g=T from by have:=HI.out;rw [List.drop_eq_nil_of_le (Nat.le_refl _)] at this;exact (List.append_nil g).symm.trans this)
   go_wp2
   go_end0
   exact ⟨rfl,O1,by rw [←FIN.out];exact ST.out,P5.out.trans PS.out⟩
end Go.Proofs.YthchfkhpmgkghaaGreatDoor
