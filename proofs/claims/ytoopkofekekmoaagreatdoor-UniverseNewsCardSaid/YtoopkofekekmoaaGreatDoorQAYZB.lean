/- What the laws rest on: N9m, N9n. -/
import Derived.Stop.BytesEq
import Derived.Test.YtoopkofekekmoaaGreatDoorQAUZB
import Derived.Test.YtoopkofekekmoaaGreatDoorQAXZB
set_option maxRecDepth 100000
set_option linter.unusedVariables false
set_option linter.unusedSimpArgs false
namespace Go.Proofs.YtoopkofekekmoaaGreatDoor
open Go.RowKit
theorem str9_info:(Tryz.prog.info? 9).map (fun i=>(i.zero,i.size,i.bytes))=some (some (.string { data:=#[] }),1,16):=by kernel_rfl
set_option maxHeartbeats 8000000 in
theorem names9_any (b:Nat) (L:List Ent) (m:List Hr) (w:World) (h:UP w b L m) (hl:L.length≤64) :
  Calls Tryz.prog 18 #[.pointer (some ⟨b,0,none⟩)] w fun e w'=>(∃A c,e=.returned (.slice A (nmU none L).length c)∧rdNms w' (lt_ w'.heap.size) (nmU none L) [.slice A (nmU none L).length c])∧Below w.heap.size w w':=by
 obtain ⟨A,c,A',c',bm,b0,-,-,h4,-,-⟩:=h
 obtain ⟨fi,hi,hz0,hz1,hz2⟩:=info_parts str9_info
 obtain ⟨-,hnc,hcm,-⟩:=rdEnts_at h4
 have hcm':c≤9223372036854775807:=hcm
 have H:=Lib.hid h4
 clear h4 hcm
 go_enter Tryz.func18,Tryz.ntmps18
 go_wp2
 go_loopw [3,11] (fun v i wr=>∃k:Nat,k≤L.length∧i=.int .i64 k∧Grow rdNm 1 (fun _=>True) wr w.heap.size 9 v ((L.take k).map fun x=>x.n)∧Below w.heap.size w wr) (fun _ i _=>L.length - (intOf i).toNat)
 case atStart=>exact ⟨0,Nat.zero_le _,rfl,Grow.nil _ _ _ _,Below.refl _ _⟩
 case round=>
  clear b0
  obtain ⟨k,hk,rfl,hG,hbel⟩:=hrel
  have HB:=Lib.hid hbel
  have HG:=Lib.hid hG
  clear hG
  by_cases hlt:k < L.length
  ·obtain ⟨-,-,-,hat⟩:=rdEnts_at (rdEnts_good.below H.out hbel)
   obtain ⟨ad,A1,c1,A2,c2,A3,c3,A4,c4,rfl,had,-,h0,h1,h2,h3,h4,h5⟩:=hat k hlt
   have i0:(0:Int)≤(k:Int):=by omega
   have i1:(k:Int) < (L.length:Int):=by omega
   have ST:=Lib.hid (show (L.take (k+1)).map (fun x=>x.n)=(L.take k).map (fun x=>x.n)++[L[k].n] by rw [List.take_succ_eq_append_getElem hlt,List.map_append];rfl)
   have hln:((L.take k).map fun x:Ent=>x.n).length≤64:=by rw [List.length_map,List.length_take];omega
   clear had hat hbel
   generalize hgl:(L.take k).map (fun x=>x.n)=gl at HG ST hln
   clear hgl
   generalize L[k]=y at *
   obtain ⟨n,v,d,r,c',p⟩:=y
   simp only at h0 h1 h2 h3 h4 h5
   obtain ⟨Av,cv,hv6,-,-⟩:=HG.out.own
   have GG:=Lib.hid HG.out
   rw [hv6] at GG
   obtain ⟨nv,hnv⟩:∃q,q=gl.length:=⟨_,rfl⟩
   rw [←hnv] at hv6 GG
   subst hv6
   obtain ⟨W2,hW2⟩:∃W,W=wr.alloc (.cells #[.string n,.string v,.slice A1 d.length c1,.slice A2 r.length c2,.slice A3 c'.length c3,.slice A4 p.length c4] 53):=⟨_,rfl⟩
   have b2:Below wr.heap.size wr W2:=by rw [hW2];exact (Below.refl _ wr).alloc (Nat.le_refl _) _
   have B2:=Lib.hid (HB.out.trans (b2.mono HB.out.size))
   have G2:=Lib.hid (GG.out.below rdNm_good b2)
   have S2:=Lib.hid (show W2.heap.size=wr.heap.size+1 by rw [hW2];simp)
   have hn1:gl.length+1≤maxLen:=by unfold maxLen;omega
   have hn2:(gl.length+1)*16≤140737488355328:=by omega
   have hbs:w.heap.size≤W2.heap.size:=B2.out.size
   clear b2 hnv GG HG
   go_wp2_with (at_builtin;rw [←hW2];refine wpList_grow1_at W2 rfl _ _ 41 rfl rdNm_good (by decide) (fun _=>True) w.heap.size 9 fi _ 16 Tryz.underlying41 hi hz0 hz1 hz2 rfl (.slice Av nv cv) gl rfl G2.out n _ 9 rfl (wr.heap.size+1) S2.out.symm rfl hn1 hn2 hbs ?_)
   intro v1 w4 hG4 hg4 _
   rw [←hW2] at hg4
   have B4:=Lib.hid (grow_below G2.out hg4 B2.out (Nat.le_refl _) hbs)
   have G4:=Lib.hid hG4
   clear hG4 hg4 hW2 h0 h1 h2 h3 h4 h5
   go_wp2
   go_roundw
   case rel=>exact ⟨k+1,by omega,by go_num,by rw [ST.out];exact G4.out,B4.out⟩
   case measure=>simp [intOf];omega
  ·obtain rfl:k=L.length:=by omega
   have HG1:=Lib.hid (show Grow rdNm 1 (fun _=>True) wr w.heap.size 9 u3 (L.map fun x=>x.n) by have:=HG.out;rwa [List.take_length] at this)
   have K:=Lib.hid (cpN9_any u3 (L.map fun x=>x.n) wr HG1.out (by rw [List.length_map];omega))
   rw [cp_names none L] at K
   clear hbel HG HG1
   go_wp2_with fail
   refine K.out.mono ?_
   rintro e w1 ⟨⟨Ax,cx,rfl,hr⟩,hb⟩
   have R:=Lib.hid hr
   have BX:=Lib.hid (HB.out.trans hb)
   clear hr hb
   go_wp2
   go_ret
   exact ⟨⟨Ax,cx,rfl,R.out⟩,BX.out⟩
theorem pvB_name {a g:Atm} (h:pvB a g=true):g.n=a.n:=by
 unfold pvB provB at h
 rw [Bool.and_eq_true] at h
 exact (B_inj (of_decide_eq_true h.1)).symm
def gvL (a:Atm) (gs:List Gf):List Int:=(gs.filter fun g=>pvB a g.a).map (·.k)
theorem gvL_app (a:Atm) (x y:List Gf):gvL a (x++y)=gvL a x++gvL a y:=by unfold gvL;rw [List.filter_append,List.map_append]
theorem gvL_take {a:Atm} {gs:List Gf} {k:Nat} (hk:k < gs.length):gvL a (gs.take (k+1))=if pvB a gs[k].a=true then gvL a (gs.take k)++[gs[k].k] else gvL a (gs.take k):=by
 rw [List.take_succ_eq_append_getElem hk,gvL_app]
 unfold gvL
 cases h:pvB a gs[k].a
 ·rw [if_neg (by decide),List.filter_cons_of_neg (by rw [h];decide),List.filter_nil,List.map_nil,List.append_nil]
 ·rw [if_pos rfl,List.filter_cons_of_pos (by rw [h]),List.filter_nil];rfl
theorem gvL_len (a:Atm) (gs:List Gf):(gvL a gs).length≤gs.length:=by unfold gvL;rw [List.length_map];exact List.length_filter_le _ _
theorem cpL_same {p:Option Int} {i:Int}:∀{bl r:List Int},(∀x ∈ bl,x=i)→cpL (some i) (bl++r)=cpL (some i) r
 | [],r,_=>rfl
 | x::bl,r,h=>by
  obtain rfl:=h x (List.mem_cons_self ..)
  show (if some x=some x then cpL (some x) (bl++r) else _)=_
  rw [if_pos rfl]
  exact cpL_same (p:=p) fun y hy=>h y (List.mem_cons_of_mem _ hy)
theorem cpL_blk {p:Option Int} {i:Int} {bl r:List Int} (h:∀x ∈ bl,x=i) (hp:p≠some i):cpL p (bl++r)=if bl=[] then cpL p r else i::cpL (some i) r:=by
 cases bl with
 | nil=>rw [if_pos rfl];rfl
 | cons x bl=>
  obtain rfl:=h x (List.mem_cons_self ..)
  rw [if_neg (by simp)]
  show (if p=some x then _ else x::cpL (some x) (bl++r))=_
  rw [if_neg hp,cpL_same (p:=p) fun y hy=>h y (List.mem_cons_of_mem _ hy)]
theorem gv_blk (a:Atm) (i:Nat) (g:List Atm):(∀x ∈ gvL a (gfs1 a.n i g),x=(i:Int))∧(gvL a (gfs1 a.n i g)=[]↔g.any (pvB a)=false):=by
 refine ⟨fun x hx=>?_,?_⟩
 ·unfold gvL gfs1 at hx
  obtain ⟨y,hy,rfl⟩:=List.mem_map.1 hx
  obtain ⟨z,hz,rfl⟩:=List.mem_map.1 (List.mem_filter.1 hy).1
  rfl
 ·rw [Bool.eq_false_iff]
  constructor
  ·intro h q
   obtain ⟨x,hx,k⟩:=List.any_eq_true.1 q
   have:(i:Int) ∈ gvL a (gfs1 a.n i g):=by
    unfold gvL gfs1
    exact List.mem_map.2 ⟨⟨i,x⟩,List.mem_filter.2 ⟨List.mem_map.2 ⟨x,List.mem_filter.2 ⟨hx,decide_eq_true (pvB_name k)⟩,rfl⟩,k⟩,rfl⟩
   rw [h] at this;cases this
  ·intro h
   rcases hg:gvL a (gfs1 a.n i g) with _|⟨x,r⟩
   ·rfl
   ·exfalso
    have hx:x ∈ gvL a (gfs1 a.n i g):=by rw [hg];exact List.mem_cons_self ..
    unfold gvL gfs1 at hx
    obtain ⟨y,hy,_⟩:=List.mem_map.1 hx
    obtain ⟨hy1,hy2⟩:=List.mem_filter.1 hy
    obtain ⟨z,hz,rfl⟩:=List.mem_map.1 hy1
    exact h (List.any_eq_true.2 ⟨z,(List.mem_filter.1 hz).1,hy2⟩)
theorem gv_run (a:Atm):∀(L:List Ent) (i:Nat) (p:Option Int),(∀j,p=some j→j < (i:Int))→cpL p (gvL a (gfU a.n L i))=ixU (gvA a) L i
 | [],_,_,_=>rfl
 | x::r,i,p,hp=>by
  obtain ⟨h1,h2⟩:=gv_blk a i (gvs x)
  show cpL p (gvL a (gfs1 a.n i (gvs x)++gfU a.n r (i+1)))=_
  rw [gvL_app,cpL_blk h1 (fun q=>by have:=hp _ q;omega),ixU_cons]
  by_cases h:gvL a (gfs1 a.n i (gvs x))=[]
  ·have hn:gvA a x=false:=h2.1 h
   rw [if_pos h,if_neg (by rw [hn];decide)]
   exact gv_run a r (i+1) p (fun j hj=>by have:=hp j hj;omega)
  ·have hn:gvA a x=true:=by
    cases q:gvA a x
    ·exact absurd (h2.2 q) h
    ·rfl
   rw [if_neg h,if_pos hn]
   exact congrArg _ (gv_run a r (i+1) (some (i:Int)) (fun j hj=>by injection hj with hj;omega))
theorem gv_is (a:Atm) (L:List Ent):cpL none (gvL a (gfU a.n L 0))=ixU (gvA a) L 0:=gv_run a L 0 none (fun j h=>by cases h)
set_option maxHeartbeats 16000000 in
theorem givers9_any (b:Nat) (L:List Ent) (m:List Hr) (a:Atm) (w:World) (h:UP w b L m) (hl:(gfU a.n L 0).length≤200000) (hs:a.n.size≤1000000) (E:EnvR w) :
  Calls Tryz.prog 31 #[.pointer (some ⟨b,0,none⟩),.agg #[.string a.n,.int .i64 a.o,.string a.v]] w fun e w'=>(∃A c,e=.returned (.slice A (ixU (gvA a) L 0).length c)∧rdInts w' (lt_ w'.heap.size) (ixU (gvA a) L 0) [.slice A (ixU (gvA a) L 0).length c])∧Below w.heap.size w w':=by
 obtain ⟨fi,hi,hz0,hz1,hz2⟩:=info_parts int9_info
 obtain ⟨A,c,A',c',bm,-,-,h3,-,-,h6⟩:=h
 obtain ⟨Px,cp,Gx,cg,hlk,-,hg⟩:=h6.look a.n hs
 obtain ⟨-,hnc,hcm,-⟩:=rdGfs_at hg
 have hcm':cg≤9223372036854775807:=hcm
 have X:=Lib.hid (gv_is a L)
 have KP:=Lib.hid (fun (g:Atm) (W:World) (hb:Below w.heap.size w W)=>rprov_any a.n a.o a.v g.n g.o g.v W (E.below hb))
 have HX:=Lib.hid (show ∀g:Atm,provB (B a.n) a.o (B a.v) (B g.n) g.o (B g.v)=pvB a g from fun g=>rfl)
 have hf:=fld9_1
 have H:=Lib.hid hg
 clear h6 hg hcm E hs
 generalize ixU (gvA a) L 0=res at *
 generalize (ixU (isN a.n) L 0).length=npx at *
 generalize gfU a.n L 0=gs at *
 have hlq:∀q,(Instr.lookup 71 (.map (some bm)) (.string a.n) false).run Tryz.prog ((w.alloc (.cells #[.string a.n,.int .i64 a.o,.string a.v] 59)).drewN q)=.ok (.agg #[.slice Px npx cp,.slice Gx gs.length cg]) ((w.alloc (.cells #[.string a.n,.int .i64 a.o,.string a.v] 59)).drewN q):=fun q=>hlk _ (belD ((Below.refl _ w).alloc (Nat.le_refl _) _) q)
 clear hlk
 have HLQ:=Lib.hid hlq
 obtain ⟨W1,hW1⟩:∃W,W=w.alloc (.cells #[.string a.n,.int .i64 a.o,.string a.v] 59):=⟨_,rfl⟩
 have b1:Below w.heap.size w W1:=by rw [hW1];exact (Below.refl _ w).alloc (Nat.le_refl _) _
 have s1:W1.heap.size=w.heap.size+1:=by rw [hW1];simp
 have x0:W1.cell? ⟨w.heap.size,0,none⟩=some (.string a.n):=by rw [hW1];simp [go_sem]
 have x1:W1.cell? ⟨w.heap.size,1,none⟩=some (.int .i64 a.o):=by rw [hW1];simp [go_sem]
 have x2:W1.cell? ⟨w.heap.size,2,none⟩=some (.string a.v):=by rw [hW1];simp [go_sem]
 have x3:W1.cell? ⟨b,2,none⟩=some (.map (some bm)):=keep6 b1 h3
 rw [←hW1] at hlq HLQ
 have B1:=Lib.hid b1
 have S1:=Lib.hid s1
 clear b1 s1 h3
 go_enter Tryz.func31,Tryz.ntmps31
 go_wp2_with fail
 rw [←hW1]
 clear hW1
 go_quiet (fail)
 obtain ⟨V,hV⟩:∃V,V=W1.drewN nq:=⟨_,rfl⟩
 rw [←hV]
 have hVd:Dr W1 V:=⟨nq,hV⟩
 have BV:=Lib.hid (B1.out.trans ((hVd.below W1.heap.size).mono B1.out.size))
 have SV:=Lib.hid (hVd.size)
 have z0:=keep6 (hVd.below W1.heap.size) x0
 have z1:=keep6 (hVd.below W1.heap.size) x1
 have z2:=keep6 (hVd.below W1.heap.size) x2
 clear hV hVd hlq HLQ x0 x1 x2 x3
 go_wp2
 go_loopw [5,17] (fun v i wr=>∃k:Nat,k≤gs.length∧i=.int .i64 k∧Grow rdInt 1 (fun _=>True) wr V.heap.size 3 v (gvL a (gs.take k))∧Below V.heap.size V wr) (fun _ i _=>gs.length - (intOf i).toNat)
 case atStart=>exact ⟨0,Nat.zero_le _,rfl,Grow.nil _ _ _ _,Below.refl _ _⟩
 case round=>
  obtain ⟨k,hk,rfl,hG,hbel⟩:=hrel
  have HB:=Lib.hid hbel
  have HBW:=Lib.hid (BV.out.trans (hbel.mono BV.out.size))
  have HG:=Lib.hid hG
  have y0:=keep6 hbel z0
  have y1:=keep6 hbel z1
  have y2:=keep6 hbel z2
  have S0:=Lib.hid (show w.heap.size < wr.heap.size by have:=hbel.size;have:=SV.out;have:=S1.out;omega)
  clear hG z0 z1 z2
  by_cases hlt:k < gs.length
  ·obtain ⟨-,-,-,hat⟩:=rdGfs_at (rdGfs_good.below H.out HBW.out)
   obtain ⟨ad,rfl,-,g0,g1,g2,g3⟩:=hat k hlt
   have i0:(0:Int)≤(k:Int):=by omega
   have i1:(k:Int) < (gs.length:Int):=by omega
   have ST:=Lib.hid (gvL_take (a:=a) hlt)
   have hln:(gvL a (gs.take k)).length≤200000:=by have:=gvL_len a (gs.take k);rw [List.length_take] at this;omega
   have KQ:=Lib.hid (fun (W:World) (hb:Below w.heap.size w W)=>KP.out gs[k].a W hb)
   rw [HX.out gs[k].a] at KQ
   clear hat hbel
   generalize hgl:gvL a (gs.take k)=gl at HG ST hln
   clear hgl
   generalize gs[k]=y at *
   obtain ⟨gk,gn,go,gv⟩:=y
   simp only at g0 g1 g2 g3 KQ ST
   obtain ⟨Av,cv,hv6,-,-⟩:=HG.out.own
   have GG:=Lib.hid HG.out
   rw [hv6] at GG
   obtain ⟨nv,hnv⟩:∃q,q=gl.length:=⟨_,rfl⟩
   rw [←hnv] at hv6 GG
   subst hv6
   have b2:Below wr.heap.size wr (wr.alloc (.cells #[.int .i64 gk,.string gn,.int .i64 go,.string gv] 87)):=(Below.refl _ wr).alloc (Nat.le_refl _) _
   have B2:=Lib.hid (HB.out.trans (b2.mono HB.out.size))
   have BW2:=Lib.hid (HBW.out.trans (b2.mono HBW.out.size))
   have G2:=Lib.hid (GG.out.below rdInt_good b2)
   have q0:(wr.alloc (.cells #[.int .i64 gk,.string gn,.int .i64 go,.string gv] 87)).cell? ⟨w.heap.size,0,none⟩=some (.string a.n):=keep6 b2 y0
   have q1:(wr.alloc (.cells #[.int .i64 gk,.string gn,.int .i64 go,.string gv] 87)).cell? ⟨w.heap.size,1,none⟩=some (.int .i64 a.o):=keep6 b2 y1
   have q2:(wr.alloc (.cells #[.int .i64 gk,.string gn,.int .i64 go,.string gv] 87)).cell? ⟨w.heap.size,2,none⟩=some (.string a.v):=keep6 b2 y2
   have r0:(wr.alloc (.cells #[.int .i64 gk,.string gn,.int .i64 go,.string gv] 87)).cell? ⟨wr.heap.size,0,none⟩=some (.int .i64 gk):=by simp [go_sem]
   clear b2 hnv GG HG y0 y1 y2
   go_wp2_with fail
   refine (KQ.out _ BW2.out).mono ?_
   rintro e w3 ⟨rfl,hb⟩
   have B3:=Lib.hid (B2.out.trans (hb.mono B2.out.size))
   have G3:=Lib.hid (G2.out.below rdInt_good hb)
   have t0:=keep6 hb r0
   have z0:=keep6 hb q0
   have z1:=keep6 hb q1
   have z2:=keep6 hb q2
   have hn1:gl.length+1≤maxLen:=by unfold maxLen;omega
   have hn2:(gl.length+1)*8≤140737488355328:=by omega
   have hbs:V.heap.size≤w3.heap.size:=B3.out.size
   clear hb r0 q0 q1 q2 g0 g1 g2 g3
   cases hq:pvB a ⟨gn,go,gv⟩
   ·have GN:=Lib.hid (show Grow rdInt 1 (fun _=>True) w3 V.heap.size 3 (.slice Av nv cv) (gvL a (gs.take (k+1))) by have q:=ST.out;rw [hq,if_neg (by decide)] at q;rw [q];exact G3.out)
    clear hq
    go_wp2
    go_roundw
    case rel=>exact ⟨k+1,by omega,by go_num,GN.out,B3.out⟩
    case measure=>simp [intOf];omega
   ·have SN:=Lib.hid (show gvL a (gs.take (k+1))=gl++[gk] by have q:=ST.out;rw [hq,if_pos rfl] at q;exact q)
    clear hq
    go_wp2_with (at_builtin;refine wpList_grow1_at w3 rfl _ _ 44 rfl rdInt_good (by decide) (fun _=>True) V.heap.size 3 fi _ 8 Tryz.underlying44 hi hz0 hz1 hz2 rfl (.slice Av nv cv) gl rfl G3.out gk _ 3 rfl w3.heap.size rfl rfl hn1 hn2 hbs ?_)
    intro v1 w4 hG4 hg4 _
    have B4:=Lib.hid (grow_below G3.out hg4 B3.out (Nat.le_refl _) hbs)
    have G4:=Lib.hid hG4
    clear hG4 hg4 t0
    go_wp2
    go_roundw
    case rel=>exact ⟨k+1,by omega,by go_num,by rw [SN.out];exact G4.out,B4.out⟩
    case measure=>simp [intOf];omega
  ·obtain rfl:k=gs.length:=by omega
   have HG1:=Lib.hid (show Grow rdInt 1 (fun _=>True) wr V.heap.size 3 u5 (gvL a gs) by have:=HG.out;rwa [List.take_length] at this)
   have K:=Lib.hid (cpI9_any u5 (gvL a gs) wr HG1.out (by have:=gvL_len a gs;omega))
   rw [X.out] at K
   clear hbel HG HG1 y0 y1 y2
   go_wp2_with fail
   refine K.out.mono ?_
   rintro e w1 ⟨⟨Ax,cx,rfl,hr⟩,hb⟩
   have R:=Lib.hid hr
   have BX:=Lib.hid (HBW.out.trans (hb.mono (by have:=BV.out.size;omega)))
   clear hr hb
   go_wp2
   go_ret
   exact ⟨⟨Ax,cx,rfl,R.out⟩,BX.out⟩
abbrev s1:ByteArray:={ data:=#[49] }
abbrev s2:ByteArray:={ data:=#[50] }
abbrev s0:ByteArray:={ data:=#[] }
def exAb:Ent:=⟨{ data:=#[97,98] },{ data:=#[49] },[],[],[],[]⟩
def exTwo:Ent:=⟨{ data:=#[97,98] },{ data:=#[50] },[],[],[],[]⟩
def exCd:Ent:=⟨{ data:=#[99,100] },{ data:=#[49] },[],[],[],[⟨{ data:=#[118,118] },0,{ data:=#[] }⟩]⟩
def exHr:Hr:=⟨exAb,false,false⟩
theorem ex9_all:[exTwo,exAb,exCd].all rgtE=true:=by kernel_rfl
theorem ex9_right:rightH [exHr]=true:=by kernel_rfl
theorem ex9_ent:entU [exTwo,exAb,exCd] ([exHr].map fun y=>y.e)=[exAb,exTwo,exCd]:=by
 have h:decide (entU [exTwo,exAb,exCd] ([exHr].map fun y=>y.e)=[exAb,exTwo,exCd])=true:=by kernel_rfl
 exact of_decide_eq_true h
theorem ex9_names:nmU none [exAb,exTwo,exCd]=[{ data:=#[97,98] },{ data:=#[99,100] }]:=by
 have h:decide (nmU none [exAb,exTwo,exCd]=[{ data:=#[97,98] },{ data:=#[99,100] }])=true:=by kernel_rfl
 exact of_decide_eq_true h
theorem ex9_of:ixU (isN { data:=#[97,98] }) [exAb,exTwo,exCd] 0=[0,1]:=by
 have h:decide (ixU (isN { data:=#[97,98] }) [exAb,exTwo,exCd] 0=[0,1])=true:=by kernel_rfl
 exact of_decide_eq_true h
theorem ex9_pl1:plU { data:=#[99,100] } { data:=#[49] } [exAb,exTwo,exCd] 0=2:=by
 have h:decide (plU { data:=#[99,100] } { data:=#[49] } [exAb,exTwo,exCd] 0=2)=true:=by kernel_rfl
 exact of_decide_eq_true h
theorem ex9_pl2:plU { data:=#[99,100] } { data:=#[50] } [exAb,exTwo,exCd] 0=-1:=by
 have h:decide (plU { data:=#[99,100] } { data:=#[50] } [exAb,exTwo,exCd] 0=-1)=true:=by kernel_rfl
 exact of_decide_eq_true h
theorem ex9_gv1:ixU (gvA ⟨{ data:=#[118,118] },0,{ data:=#[] }⟩) [exAb,exTwo,exCd] 0=[2]:=by
 have h:decide (ixU (gvA ⟨{ data:=#[118,118] },0,{ data:=#[] }⟩) [exAb,exTwo,exCd] 0=[2])=true:=by kernel_rfl
 exact of_decide_eq_true h
theorem ex9_gv2:ixU (gvA ⟨{ data:=#[97,98] },4,{ data:=#[50] }⟩) [exAb,exTwo,exCd] 0=[1]:=by
 have h:decide (ixU (gvA ⟨{ data:=#[97,98] },4,{ data:=#[50] }⟩) [exAb,exTwo,exCd] 0=[1])=true:=by kernel_rfl
 exact of_decide_eq_true h
theorem ex9_ins:insU [exAb,exTwo,exCd] [exHr]=[0]:=by
 have h:decide (insU [exAb,exTwo,exCd] [exHr]=[0])=true:=by kernel_rfl
 exact of_decide_eq_true h
theorem ex9_sz:∀x ∈ [exTwo,exAb,exCd],Sz x:=by
 intro x hx
 simp only [List.mem_cons,List.not_mem_nil,or_false] at hx
 rcases hx with rfl|rfl|rfl
 ·exact ⟨by decide,fun g hg=>absurd hg List.not_mem_nil,fun g hg=>absurd hg List.not_mem_nil,fun g hg=>absurd hg List.not_mem_nil,fun g hg=>absurd hg List.not_mem_nil⟩
 ·exact ⟨by decide,fun g hg=>absurd hg List.not_mem_nil,fun g hg=>absurd hg List.not_mem_nil,fun g hg=>absurd hg List.not_mem_nil,fun g hg=>absurd hg List.not_mem_nil⟩
 ·refine ⟨by decide,fun g hg=>absurd hg List.not_mem_nil,fun g hg=>absurd hg List.not_mem_nil,fun g hg=>absurd hg List.not_mem_nil,fun g hg=>?_⟩
  rw [List.mem_singleton.1 hg];decide
theorem ex9_sz':∀y ∈ [exHr],Sz y.e:=by
 intro y hy
 rw [List.mem_singleton.1 hy]
 exact ex9_sz exAb (by simp)
theorem rd_plain9 (w:World) (S:Nat→Prop) (n v:ByteArray):rdEnt w S ⟨n,v,[],[],[],[]⟩ [.string n,.string v,.slice none 0 0,.slice none 0 0,.slice none 0 0,.slice none 0 0]:=
 ⟨_,_,_,_,rfl,rdRow_nil _ _,rdRow_nil _ _,rdRow_nil _ _,rdRow_nil _ _⟩
theorem rd_prov9 {w:World} {S:Nat→Prop} {p:Nat} (hb:w.heap[p]?=some (.cells #[.string { data:=#[118,118] },.int .i64 0,.string { data:=#[] }] 59 (0,0))) (hS:S p):rdEnt w S exCd [.string { data:=#[99,100] },.string { data:=#[49] },.slice none 0 0,.slice none 0 0,.slice none 0 0,.slice (some ⟨p,0,none⟩) 1 1]:=
 ⟨_,_,_,_,rfl,rdRow_nil _ _,rdRow_nil _ _,rdRow_nil _ _,one_rd (ty:=59) rdAtm_good hb rfl hS⟩
theorem rd_three9 {w:World} {S:Nat→Prop} {g:Nat} {T:TypeId} {x y z:Ent} {cx cy cz:List Value} {blk:Array Value} (hb:w.heap[g]?=some (.cells blk T (0,0))) (hk:blk.toList=cx++(cy++(cz++[]))) (hS:S g) (hx:rdEnt w S x cx) (hy:rdEnt w S y cy) (hz:rdEnt w S z cz):rdEnts w S [x,y,z] [.slice (some ⟨g,0,none⟩) 3 3]:=
 rd_block rdEnt_good (l:=[x,y,z]) (css:=[cx,cy,cz]) hb hS rfl hk (fun k hk=>by
  match k,hk with
  | 0,_=>exact ⟨_,rfl,hx⟩
  | 1,_=>exact ⟨_,rfl,hy⟩
  | 2,_=>exact ⟨_,rfl,hz⟩
  | k+3,hk=>exact absurd (show k+3 < 3 from hk) (by omega)) (by simp)
theorem rd_ints9 {w:World} {S:Nat→Prop} {g:Nat} {T:TypeId} {l:List Int} {blk:Array Value} (hb:w.heap[g]?=some (.cells blk T (0,0))) (hk:blk.toList=l.map (Value.int .i64)) (hS:S g) (hl:l.length≤1000):rdInts w S l [.slice (some ⟨g,0,none⟩) l.length l.length]:=
 rd_block rdInt_good (l:=l) (css:=l.map fun i=>[Value.int .i64 i]) hb hS (List.length_map _) (by rw [hk];clear hk hl;induction l with|nil=>rfl|cons a r ih=>simp [ih]) (fun k hk=>⟨[.int .i64 l[k]],by simp [hk],rfl⟩) hl
theorem rd_nms9 {w:World} {S:Nat→Prop} {g:Nat} {T:TypeId} {l:List ByteArray} {blk:Array Value} (hb:w.heap[g]?=some (.cells blk T (0,0))) (hk:blk.toList=l.map Value.string) (hS:S g) (hl:l.length≤1000):rdNms w S l [.slice (some ⟨g,0,none⟩) l.length l.length]:=
 rd_block rdNm_good (l:=l) (css:=l.map fun i=>[Value.string i]) hb hS (List.length_map _) (by rw [hk];clear hk hl;induction l with|nil=>rfl|cons a r ih=>simp [ih]) (fun k hk=>⟨[.string l[k]],by simp [hk],rfl⟩) hl
end Go.Proofs.YtoopkofekekmoaaGreatDoor
