/- What the laws rest on: N9m, N10i, N10m, E11h, E11i, N11b, N11a. -/
import Derived.Test.YtpilmhoakopcaaaGreatDoorQANZC
import Derived.Test.YtpilmhoakopcaaaGreatDoorQAPZC
import Derived.Test.YtpilmhoakopcaaaGreatDoorQARZC
set_option maxRecDepth 100000
set_option linter.unusedVariables false
set_option linter.unusedSimpArgs false
namespace Go.Proofs.YtpilmhoakopcaaaGreatDoor
open Go.RowKit
theorem str9_info:(Tryz.prog.info? 9).map (fun i=>(i.zero,i.size,i.bytes))=some (some (.string { data:=#[] }),1,16):=by kernel_rfl
theorem pvB_name {a g:Atm} (h:pvB a g=true):g.n=a.n:=by
 unfold pvB provB at h
 rw [Bool.and_eq_true] at h
 exact (B_inj (of_decide_eq_true h.1)).symm
def gvL (a:Atm) (gs:List Gf):List Int:=(gs.filter fun g=>pvB a g.a).map (·.k)
theorem gvL_app (a:Atm) (x y:List Gf):gvL a (x++y)=gvL a x++gvL a y:=by unfold gvL;rw [List.filter_append,List.map_append]
theorem gvL_take {a:Atm} {gs:List Gf} {k:Nat} (hk:k < gs.length):gvL a (gs.take (k+1))=if pvB a gs[k].a=true then gvL a (gs.take k)++[gs[k].k] else gvL a (gs.take k):=by
 rw [List.take_succ_eq_append_getElem hk,gvL_app]
 unfold gvL
 cases h:pvB a gs[k].a
 ·rw [if_neg (by decide),List.filter_cons_of_neg (by rw [h];decide),List.filter_nil,List.map_nil,List.append_nil]
 ·rw [if_pos rfl,List.filter_cons_of_pos (by rw [h]),List.filter_nil];rfl
theorem gvL_len (a:Atm) (gs:List Gf):(gvL a gs).length≤gs.length:=by unfold gvL;rw [List.length_map];exact List.length_filter_le _ _
theorem cpL_same {p:Option Int} {i:Int}:∀{bl r:List Int},(∀x ∈ bl,x=i)→cpL (some i) (bl++r)=cpL (some i) r
 | [],r,_=>rfl
 | x::bl,r,h=>by
  obtain rfl:=h x (List.mem_cons_self ..)
  show (if some x=some x then cpL (some x) (bl++r) else _)=_
  rw [if_pos rfl]
  exact cpL_same (p:=p) fun y hy=>h y (List.mem_cons_of_mem _ hy)
theorem cpL_blk {p:Option Int} {i:Int} {bl r:List Int} (h:∀x ∈ bl,x=i) (hp:p≠some i):cpL p (bl++r)=if bl=[] then cpL p r else i::cpL (some i) r:=by
 cases bl with
 | nil=>rw [if_pos rfl];rfl
 | cons x bl=>
  obtain rfl:=h x (List.mem_cons_self ..)
  rw [if_neg (by simp)]
  show (if p=some x then _ else x::cpL (some x) (bl++r))=_
  rw [if_neg hp,cpL_same (p:=p) fun y hy=>h y (List.mem_cons_of_mem _ hy)]
theorem gv_blk (a:Atm) (i:Nat) (g:List Atm):(∀x ∈ gvL a (gfs1 a.n i g),x=(i:Int))∧(gvL a (gfs1 a.n i g)=[]↔g.any (pvB a)=false):=by
 refine ⟨fun x hx=>?_,?_⟩
 ·unfold gvL gfs1 at hx
  obtain ⟨y,hy,rfl⟩:=List.mem_map.1 hx
  obtain ⟨z,hz,rfl⟩:=List.mem_map.1 (List.mem_filter.1 hy).1
  rfl
 ·rw [Bool.eq_false_iff]
  constructor
  ·intro h q
   obtain ⟨x,hx,k⟩:=List.any_eq_true.1 q
   have:(i:Int) ∈ gvL a (gfs1 a.n i g):=by
    unfold gvL gfs1
    exact List.mem_map.2 ⟨⟨i,x⟩,List.mem_filter.2 ⟨List.mem_map.2 ⟨x,List.mem_filter.2 ⟨hx,decide_eq_true (pvB_name k)⟩,rfl⟩,k⟩,rfl⟩
   rw [h] at this;cases this
  ·intro h
   rcases hg:gvL a (gfs1 a.n i g) with _|⟨x,r⟩
   ·rfl
   ·exfalso
    have hx:x ∈ gvL a (gfs1 a.n i g):=by rw [hg];exact List.mem_cons_self ..
    unfold gvL gfs1 at hx
    obtain ⟨y,hy,_⟩:=List.mem_map.1 hx
    obtain ⟨hy1,hy2⟩:=List.mem_filter.1 hy
    obtain ⟨z,hz,rfl⟩:=List.mem_map.1 hy1
    exact h (List.any_eq_true.2 ⟨z,(List.mem_filter.1 hz).1,hy2⟩)
theorem gv_run (a:Atm):∀(L:List Ent) (i:Nat) (p:Option Int),(∀j,p=some j→j < (i:Int))→cpL p (gvL a (gfU a.n L i))=ixU (gvA a) L i
 | [],_,_,_=>rfl
 | x::r,i,p,hp=>by
  obtain ⟨h1,h2⟩:=gv_blk a i (gvs x)
  show cpL p (gvL a (gfs1 a.n i (gvs x)++gfU a.n r (i+1)))=_
  rw [gvL_app,cpL_blk h1 (fun q=>by have:=hp _ q;omega),ixU_cons]
  by_cases h:gvL a (gfs1 a.n i (gvs x))=[]
  ·have hn:gvA a x=false:=h2.1 h
   rw [if_pos h,if_neg (by rw [hn];decide)]
   exact gv_run a r (i+1) p (fun j hj=>by have:=hp j hj;omega)
  ·have hn:gvA a x=true:=by
    cases q:gvA a x
    ·exact absurd (h2.2 q) h
    ·rfl
   rw [if_neg h,if_pos hn]
   exact congrArg _ (gv_run a r (i+1) (some (i:Int)) (fun j hj=>by injection hj with hj;omega))
theorem gv_is (a:Atm) (L:List Ent):cpL none (gvL a (gfU a.n L 0))=ixU (gvA a) L 0:=gv_run a L 0 none (fun j h=>by cases h)
set_option maxHeartbeats 16000000 in
theorem givers9_any (b:Nat) (L:List Ent) (m:List Hr) (a:Atm) (w:World) (h:UP w b L m) (hl:(gfU a.n L 0).length≤200000) (hs:a.n.size≤1000000) (E:EnvR w) :
  Calls Tryz.prog 59 #[.pointer (some ⟨b,0,none⟩),.agg #[.string a.n,.int .i64 a.o,.string a.v]] w fun e w'=>(∃A c,e=.returned (.slice A (ixU (gvA a) L 0).length c)∧rdInts w' (lt_ w'.heap.size) (ixU (gvA a) L 0) [.slice A (ixU (gvA a) L 0).length c])∧Below w.heap.size w w':=by
 obtain ⟨fi,hi,hz0,hz1,hz2⟩:=info_parts int9_info
 obtain ⟨A,c,A',c',bm,-,-,h3,-,-,h6⟩:=h
 obtain ⟨Px,cp,Gx,cg,hlk,-,hg⟩:=h6.look a.n hs
 obtain ⟨-,hnc,hcm,-⟩:=rdGfs_at hg
 have hcm':cg≤9223372036854775807:=hcm
 have X:=Lib.hid (gv_is a L)
 have KP:=Lib.hid (fun (g:Atm) (W:World) (hb:Below w.heap.size w W)=>rprov_any a.n a.o a.v g.n g.o g.v W (E.below hb))
 have HX:=Lib.hid (show ∀g:Atm,provB (B a.n) a.o (B a.v) (B g.n) g.o (B g.v)=pvB a g from fun g=>rfl)
 have hf:=fld9_1
 have H:=Lib.hid hg
 clear h6 hg hcm E hs
 generalize ixU (gvA a) L 0=res at *
 generalize (ixU (isN a.n) L 0).length=npx at *
 generalize gfU a.n L 0=gs at *
 have hlq:∀q,(Instr.lookup 78 (.map (some bm)) (.string a.n) false).run Tryz.prog ((w.alloc (.cells #[.string a.n,.int .i64 a.o,.string a.v] 100)).drewN q)=.ok (.agg #[.slice Px npx cp,.slice Gx gs.length cg]) ((w.alloc (.cells #[.string a.n,.int .i64 a.o,.string a.v] 100)).drewN q):=fun q=>hlk _ (belD ((Below.refl _ w).alloc (Nat.le_refl _) _) q)
 clear hlk
 have HLQ:=Lib.hid hlq
 obtain ⟨W1,hW1⟩:∃W,W=w.alloc (.cells #[.string a.n,.int .i64 a.o,.string a.v] 100):=⟨_,rfl⟩
 have b1:Below w.heap.size w W1:=by rw [hW1];exact (Below.refl _ w).alloc (Nat.le_refl _) _
 have s1:W1.heap.size=w.heap.size+1:=by rw [hW1];simp
 have x0:W1.cell? ⟨w.heap.size,0,none⟩=some (.string a.n):=by rw [hW1];simp [go_sem]
 have x1:W1.cell? ⟨w.heap.size,1,none⟩=some (.int .i64 a.o):=by rw [hW1];simp [go_sem]
 have x2:W1.cell? ⟨w.heap.size,2,none⟩=some (.string a.v):=by rw [hW1];simp [go_sem]
 have x3:W1.cell? ⟨b,2,none⟩=some (.map (some bm)):=keep6 b1 h3
 rw [←hW1] at hlq HLQ
 have B1:=Lib.hid b1
 have S1:=Lib.hid s1
 clear b1 s1 h3
 go_enter Tryz.func59,Tryz.ntmps59
 go_wp2_with fail
 rw [←hW1]
 clear hW1
 go_quiet (fail)
 obtain ⟨V,hV⟩:∃V,V=W1.drewN nq:=⟨_,rfl⟩
 rw [←hV]
 have hVd:Dr W1 V:=⟨nq,hV⟩
 have BV:=Lib.hid (B1.out.trans ((hVd.below W1.heap.size).mono B1.out.size))
 have SV:=Lib.hid (hVd.size)
 have z0:=keep6 (hVd.below W1.heap.size) x0
 have z1:=keep6 (hVd.below W1.heap.size) x1
 have z2:=keep6 (hVd.below W1.heap.size) x2
 clear hV hVd hlq HLQ x0 x1 x2 x3
 go_wp2
 go_loopw [5,17] (fun v i wr=>∃k:Nat,k≤gs.length∧i=.int .i64 k∧Grow rdInt 1 (fun _=>True) wr V.heap.size 3 v (gvL a (gs.take k))∧Below V.heap.size V wr) (fun _ i _=>gs.length - (intOf i).toNat)
 case atStart=>exact ⟨0,Nat.zero_le _,rfl,Grow.nil _ _ _ _,Below.refl _ _⟩
 case round=>
  obtain ⟨k,hk,rfl,hG,hbel⟩:=hrel
  have HB:=Lib.hid hbel
  have HBW:=Lib.hid (BV.out.trans (hbel.mono BV.out.size))
  have HG:=Lib.hid hG
  have y0:=keep6 hbel z0
  have y1:=keep6 hbel z1
  have y2:=keep6 hbel z2
  have S0:=Lib.hid (show w.heap.size < wr.heap.size by have:=hbel.size;have:=SV.out;have:=S1.out;omega)
  clear hG z0 z1 z2
  by_cases hlt:k < gs.length
  ·obtain ⟨-,-,-,hat⟩:=rdGfs_at (rdGfs_good.below H.out HBW.out)
   obtain ⟨ad,rfl,-,g0,g1,g2,g3⟩:=hat k hlt
   have i0:(0:Int)≤(k:Int):=by omega
   have i1:(k:Int) < (gs.length:Int):=by omega
   have ST:=Lib.hid (gvL_take (a:=a) hlt)
   have hln:(gvL a (gs.take k)).length≤200000:=by have:=gvL_len a (gs.take k);rw [List.length_take] at this;omega
   have KQ:=Lib.hid (fun (W:World) (hb:Below w.heap.size w W)=>KP.out gs[k].a W hb)
   rw [HX.out gs[k].a] at KQ
   clear hat hbel
   generalize hgl:gvL a (gs.take k)=gl at HG ST hln
   clear hgl
   generalize gs[k]=y at *
   obtain ⟨gk,gn,go,gv⟩:=y
   simp only at g0 g1 g2 g3 KQ ST
   obtain ⟨Av,cv,hv6,-,-⟩:=HG.out.own
   have GG:=Lib.hid HG.out
   rw [hv6] at GG
   obtain ⟨nv,hnv⟩:∃q,q=gl.length:=⟨_,rfl⟩
   rw [←hnv] at hv6 GG
   subst hv6
   have b2:Below wr.heap.size wr (wr.alloc (.cells #[.int .i64 gk,.string gn,.int .i64 go,.string gv] 124)):=(Below.refl _ wr).alloc (Nat.le_refl _) _
   have B2:=Lib.hid (HB.out.trans (b2.mono HB.out.size))
   have BW2:=Lib.hid (HBW.out.trans (b2.mono HBW.out.size))
   have G2:=Lib.hid (GG.out.below rdInt_good b2)
   have q0:(wr.alloc (.cells #[.int .i64 gk,.string gn,.int .i64 go,.string gv] 124)).cell? ⟨w.heap.size,0,none⟩=some (.string a.n):=keep6 b2 y0
   have q1:(wr.alloc (.cells #[.int .i64 gk,.string gn,.int .i64 go,.string gv] 124)).cell? ⟨w.heap.size,1,none⟩=some (.int .i64 a.o):=keep6 b2 y1
   have q2:(wr.alloc (.cells #[.int .i64 gk,.string gn,.int .i64 go,.string gv] 124)).cell? ⟨w.heap.size,2,none⟩=some (.string a.v):=keep6 b2 y2
   have r0:(wr.alloc (.cells #[.int .i64 gk,.string gn,.int .i64 go,.string gv] 124)).cell? ⟨wr.heap.size,0,none⟩=some (.int .i64 gk):=by simp [go_sem]
   clear b2 hnv GG HG y0 y1 y2
   go_wp2_with fail
   refine (KQ.out _ BW2.out).mono ?_
   rintro e w3 ⟨rfl,hb⟩
   have B3:=Lib.hid (B2.out.trans (hb.mono B2.out.size))
   have G3:=Lib.hid (G2.out.below rdInt_good hb)
   have t0:=keep6 hb r0
   have z0:=keep6 hb q0
   have z1:=keep6 hb q1
   have z2:=keep6 hb q2
   have hn1:gl.length+1≤maxLen:=by unfold maxLen;omega
   have hn2:(gl.length+1)*8≤140737488355328:=by omega
   have hbs:V.heap.size≤w3.heap.size:=B3.out.size
   clear hb r0 q0 q1 q2 g0 g1 g2 g3
   cases hq:pvB a ⟨gn,go,gv⟩
   ·have GN:=Lib.hid (show Grow rdInt 1 (fun _=>True) w3 V.heap.size 3 (.slice Av nv cv) (gvL a (gs.take (k+1))) by have q:=ST.out;rw [hq,if_neg (by decide)] at q;rw [q];exact G3.out)
    clear hq
    go_wp2
    go_roundw
    case rel=>exact ⟨k+1,by omega,by go_num,GN.out,B3.out⟩
    case measure=>simp [intOf];omega
   ·have SN:=Lib.hid (show gvL a (gs.take (k+1))=gl++[gk] by have q:=ST.out;rw [hq,if_pos rfl] at q;exact q)
    clear hq
    go_wp2_with (at_builtin;refine wpList_grow1_at w3 rfl _ _ 25 rfl rdInt_good (by decide) (fun _=>True) V.heap.size 3 fi _ 8 Tryz.underlying25 hi hz0 hz1 hz2 rfl (.slice Av nv cv) gl rfl G3.out gk _ 3 rfl w3.heap.size rfl rfl hn1 hn2 hbs ?_)
    intro v1 w4 hG4 hg4 _
    have B4:=Lib.hid (grow_below G3.out hg4 B3.out (Nat.le_refl _) hbs)
    have G4:=Lib.hid hG4
    clear hG4 hg4 t0
    go_wp2
    go_roundw
    case rel=>exact ⟨k+1,by omega,by go_num,by rw [SN.out];exact G4.out,B4.out⟩
    case measure=>simp [intOf];omega
  ·obtain rfl:k=gs.length:=by omega
   have HG1:=Lib.hid (show Grow rdInt 1 (fun _=>True) wr V.heap.size 3 u5 (gvL a gs) by have:=HG.out;rwa [List.take_length] at this)
   have K:=Lib.hid (cpI9_any u5 (gvL a gs) wr HG1.out (by have:=gvL_len a gs;omega))
   rw [X.out] at K
   clear hbel HG HG1 y0 y1 y2
   go_wp2_with fail
   refine K.out.mono ?_
   rintro e w1 ⟨⟨Ax,cx,rfl,hr⟩,hb⟩
   have R:=Lib.hid hr
   have BX:=Lib.hid (HBW.out.trans (hb.mono (by have:=BV.out.size;omega)))
   clear hr hb
   go_wp2
   go_ret
   exact ⟨⟨Ax,cx,rfl,R.out⟩,BX.out⟩
structure UQ (w:World) (b:Nat) (L:List Ent) (m:List Hr):Prop where
 up:UP w b L m
 big:∀s,(gfU s L 0).length≤200000
 len:L.length≤64
 sz:∀x ∈ L,∀g ∈ x.d,∀a ∈ g,a.n.size≤1000000
 pr:∀x ∈ L,x.p.length≤1000
 hm:m.length≤200
 hz:∀y ∈ m,y.e.n.size≤1000000
 held:SetP L.length (heldU L m)
theorem UQ.below {w w':World} {b:Nat} {L:List Ent} {m:List Hr} (h:UQ w b L m) (hB:Below w.heap.size w w'):UQ w' b L m:=⟨h.up.below hB,h.big,h.len,h.sz,h.pr,h.hm,h.hz,h.held⟩
def ixG (f:Atm→Bool):List Atm→Nat→Int
 | [],_=>-1
 | a::r,i=>if f a=true then i else ixG f r (i+1)
theorem ixG_at {f:Atm→Bool} {l:List Atm} {k:Nat} (hk:k < l.length):(f l[k]=true→ixG f (l.drop k) k=k)∧(f l[k]=false→ixG f (l.drop k) k=ixG f (l.drop (k+1)) (k+1)):=by
 rw [List.drop_eq_getElem_cons hk]
 exact ⟨fun h=>if_pos h,fun h=>if_neg (by rw [h];decide)⟩
theorem ixG_has {f:Atm→Bool}:∀{l:List Atm} {i:Nat},decide (0≤ixG f l i)=l.any f
 | [],_=>rfl
 | a::r,i=>by
  unfold ixG
  rw [List.any_cons]
  cases h:f a
  ·rw [if_neg (by decide),Bool.false_or];exact ixG_has
  ·rw [if_pos rfl,Bool.true_or,decide_eq_true_iff];omega
theorem ent_all10 {P:Ent→Prop} {L he:List Ent} (h:∀x ∈ L,P x) (h':∀x ∈ he,P x) (ho:Once9 he):∀x ∈ entU L he,P x:=by
 intro x hx
 have key:∀(ix M:List Ent),(∀x ∈ M,P x)→(∀x ∈ ix,P x)→∀x ∈ ix.foldl addU M,P x:=by
  intro ix
  induction ix with
  | nil=>intro M h1 _ x hx;exact h1 x hx
  | cons a r ih=>
   intro M h1 h2 x hx
   refine ih (addU M a) (fun y hy=>?_) (fun y hy=>h2 y (List.mem_cons_of_mem _ hy)) x hx
   unfold addU at hy
   split at hy
   ·exact h1 y hy
   ·rcases put9_mem.1 hy with rfl|hy
    ·exact h2 y (List.mem_cons_self ..)
    ·exact h1 y hy
 refine key L (he.foldl putU []) (fun y hy=>?_) h x hx
 rcases ((fold_put he [] List.Pairwise.nil ho (fun x hx=>by cases hx)).2 y).1 hy with q|q
 ·cases q
 ·exact h' y q
structure UF (U:List Ent) (m:List Hr):Prop where
 len:U.length≤64
 dep:∀x ∈ U,x.d.length≤15
 pr:∀x ∈ U,x.p.length≤1000
 sz:∀x ∈ U,∀g ∈ x.d,∀a ∈ g,a.n.size≤1000000
 nm:∀x ∈ U,x.n.size≤1000000
 srt:Srt9 U
 hm:m.length≤200
 hz:∀y ∈ m,y.e.n.size≤1000000
 held:SetP U.length (heldU U m)
 big:∀s,(gfU s U 0).length≤200000
theorem UF.uq {w:World} {b:Nat} {U:List Ent} {m:List Hr} (h:UF U m) (hu:UP w b U m):UQ w b U m:=⟨hu,h.big,h.len,h.sz,h.pr,h.hm,h.hz,h.held⟩
theorem uf_of {L:List Ent} {m:List Hr} (hb:L.all rgtE=true∧rightH m=true) (hf:Fw10 L m) (hl:¬64 < (entU L (m.map fun y=>y.e)).length):UF (entU L (m.map fun y=>y.e)) m:=by
 obtain ⟨h1,h2,h3⟩:=(rightH_iff m).1 hb.2
 have ho:=once_right h2
 have hs:Srt9 (entU L (m.map fun y=>y.e)):=entU_srt ho
 have all:∀x ∈ entU L (m.map fun y=>y.e),Sm x∧rgtE x=true:=ent_all10 (fun x hx=>⟨hf.1.2 x hx,List.all_eq_true.1 hb.1 x hx⟩) (fun x hx=>by
  obtain ⟨y,hy,rfl⟩:=List.mem_map.1 hx
  exact ⟨hf.2.2 y hy,h1 y hy⟩) ho
 have pr:∀x ∈ entU L (m.map fun y=>y.e),x.p.length≤8:=fun x hx=>(rgt_v (all x hx).2).2
 refine ⟨by omega,fun x hx=>(all x hx).1.2.2.2.2.1,fun x hx=>by have:=pr x hx;omega,fun x hx g hg a ha=>?_,fun x hx=>?_,hs,by have:=hf.2.1;omega,fun y hy=>?_,held_ris hs h2 fun y hy=>here_in ho _ (List.mem_map.2 ⟨y,hy,rfl⟩),fun s=>?_⟩
 ·have:=(all x hx).1.sz.2.1 g hg a ha;omega
 ·have:=(all x hx).1.sz.1;omega
 ·have:=(hf.2.2 y hy).sz.1;omega
 ·refine Nat.le_trans (gfU_len (m:=8) pr) ?_
  have:(entU L (m.map fun y=>y.e)).length*9≤64*9:=Nat.mul_le_mul_right _ (by omega)
  omega
theorem setL_len10 (l:List Int) (n:Nat):(setL l n).length≤n:=by
 unfold setL
 rw [List.length_map]
 exact Nat.le_trans (List.length_filter_le _ _) (by simp)
def shr (a b:List Int):Bool:=a.any fun p=>b.contains p
theorem shr_iff {a b:List Int}:shr a b=true↔∃p ∈ a,p ∈ b:=by
 unfold shr
 rw [List.any_eq_true]
 constructor<;>rintro ⟨p,h1,h2⟩<;>exact ⟨p,h1,by simpa using h2⟩
theorem own_mem {U:List Ent} {n:ByteArray} {p:Int} (h0:0≤p) (h1:p < (U.length:Int)):p ∈ ixU (isN n) U 0↔(entA U p).n=n:=by
 rw [ixU_nat h0 h1];unfold isN;exact decide_eq_true_iff
theorem own_set (U:List Ent) (p:Ent→Bool):SetP U.length (ixU p U 0):=⟨fun k hk=>by
 obtain ⟨j,h,rfl,-⟩:=ixU_mem.1 hk
 exact ⟨by omega,by omega⟩,(ixU_ris U 0).1⟩
theorem shr_giv {U:List Ent} {l:List Int} (hs:SetP U.length l) (a:Atm):shr (ixU (gvA a) U 0) l=givS U l a:=by
 rw [Bool.eq_iff_iff,shr_iff]
 unfold givS
 rw [List.any_eq_true]
 constructor
 ·rintro ⟨p,h1,h2⟩
  exact ⟨p,h2,(ixU_nat (hs.1 p h2).1 (hs.1 p h2).2).1 h1⟩
 ·rintro ⟨p,h1,h2⟩
  exact ⟨p,(ixU_nat (hs.1 p h1).1 (hs.1 p h1).2).2 h2,h1⟩
theorem shr_sm {U:List Ent} {l:List Int} (hs:SetP U.length l) (p:Int):shr (ixU (isN (entA U p).n) U 0) l=smU U l p:=by
 rw [Bool.eq_iff_iff,shr_iff]
 unfold smU
 rw [List.any_eq_true]
 constructor
 ·rintro ⟨q,h1,h2⟩
  exact ⟨q,h2,decide_eq_true ((own_mem (hs.1 q h2).1 (hs.1 q h2).2).1 h1)⟩
 ·rintro ⟨q,h1,h2⟩
  exact ⟨q,(own_mem (hs.1 q h1).1 (hs.1 q h1).2).2 (of_decide_eq_true h2),h1⟩
theorem shr_known {U:List Ent} {here:List Int} (hs:SetP U.length here) (n:ByteArray):shr (ixU (isN n) U 0) here=decide (0≤inP U here n):=by
 rw [Bool.eq_iff_iff,shr_iff,decide_eq_true_iff,(inP_some fun q hq=>(hs.1 q hq).1).1]
 constructor
 ·rintro ⟨q,h1,h2⟩
  exact ⟨q,h2,(own_mem (hs.1 q h2).1 (hs.1 q h2).2).1 h1⟩
 ·rintro ⟨q,h1,h2⟩
  exact ⟨q,(own_mem (hs.1 q h1).1 (hs.1 q h1).2).2 h2,h1⟩
def abv (own may:List Int) (p:Int):Nat:=(own.filter fun q=>decide (p < q)&&may.contains q).length
theorem abv_bhd {U:List Ent} {here:List Int} {pn:List Pn} {p:Int} (h0:0≤p) (h1:p < (U.length:Int)):((abv (ixU (isN (entA U p).n) U 0) (alw U here pn) p:Nat):Int)=bhd U here pn p:=by
 unfold abv bhd bhdL
 rw [if_pos ⟨h0,h1⟩]
 congr 2
 refine ris_ext10 (List.Pairwise.filter _ (ixU_ris U 0).1) (List.Pairwise.filter _ (alw_set U here pn).2) fun x=>?_
 rw [List.mem_filter,List.mem_filter]
 simp only [Bool.and_eq_true,decide_eq_true_eq,List.contains_iff_mem]
 constructor
 ·rintro ⟨a,b,c⟩
  have:=(alw_set U here pn).1 x c
  exact ⟨c,b,(own_mem this.1 this.2).1 a⟩
 ·rintro ⟨c,b,a⟩
  have:=(alw_set U here pn).1 x c
  exact ⟨(own_mem this.1 this.2).2 a,b,c⟩
theorem abv_le (own may:List Int) (p:Int):abv own may p≤own.length:=List.length_filter_le _ _
theorem ver_at:∀{U R:List Ent} {n:ByteArray} {i:Nat},U.drop i=R→((ixU (isN n) R i).map fun p=>(entA U p).v)=verU R n:=by
 intro U R n
 induction R with
 | nil=>intro i _;rfl
 | cons x r ih=>
  intro i h
  have hi:i < U.length:=by
   rcases Nat.lt_or_ge i U.length with q|q
   ·exact q
   ·rw [List.drop_eq_nil_of_le q] at h;cases h
  have hx:entA U (i:Int)=x:=by
   rw [entA_at hi]
   have:=List.drop_eq_getElem_cons hi
   rw [h] at this
   exact (List.cons.inj this).1.symm
  have hr:U.drop (i+1)=r:=by
   have:=List.drop_eq_getElem_cons hi
   rw [h] at this
   exact (List.cons.inj this).2.symm
  have ih':=ih hr
  rw [ixU_cons]
  unfold verU at ih' ⊢
  rw [show isN n x=decide (x.n=n) from rfl]
  by_cases e:x.n=n
  ·rw [if_pos (decide_eq_true e),List.map_cons,hx,ih',List.filter_cons_of_pos (by simpa using e),List.map_cons]
  ·rw [if_neg (by simpa using e),ih',List.filter_cons_of_neg (by simpa using e)]
theorem ver_own (U:List Ent) (n:ByteArray):((ixU (isN n) U 0).map fun p=>(entA U p).v)=verU U n:=ver_at rfl
theorem w2_prog {U:List Ent} {here:List Int} {pn:List Pn} (hh:SetP U.length here) (hn:NmB U here) (p:Int):w2P U here pn false p=if 0≤inP U here (entA U p).n∧p ∉ here then 1 else 0:=by
 unfold w2P
 rw [if_neg (by decide)]
 have hp:=inP_some (U:=U) (here:=here) (n:=(entA U p).n) fun q hq=>(hh.1 q hq).1
 by_cases h:0≤inP U here (entA U p).n
 ·by_cases q:p ∈ here
  ·have e:inP U here (entA U p).n=p:=nm_inj hn (hp.2 h).1 q (hp.2 h).2
   rw [if_neg fun c=>c.2 e,if_neg fun c=>c.2 q]
  ·rw [if_pos ⟨h,fun e=>q (e ▸ (hp.2 h).1)⟩,if_pos ⟨h,q⟩]
 ·rw [if_neg fun c=>h c.1,if_neg fun c=>h c.1]
theorem smU_own {U:List Ent} {l:List Int} {p:Int} (h:p ∈ l):smU U l p=true:=List.any_eq_true.2 ⟨p,h,decide_eq_true rfl⟩
theorem w2_le (U:List Ent) (here:List Int) (pn:List Pn) (up:Bool) (p:Int):0≤w2P U here pn up p∧w2P U here pn up p≤(U.length:Int)+1:=by
 unfold w2P
 have h1:=bhd_ge U here pn p
 have h2:=bhd_le (U:=U) (here:=here) (pn:=pn) p
 split
 ·omega
 ·split<;>omega
theorem w4_le (U:List Ent) (here:List Int) (p:Int):0≤w4P U here p∧w4P U here p≤1:=by
 unfold w4P;split<;>omega
structure UK (U:List Ent) (m:List Hr):Prop where
 uf:UF U m
 rc:∀x ∈ U,x.r.length≤15
 rz:∀x ∈ U,∀g ∈ x.r,∀a ∈ g,a.n.size≤1000000
 vz:∀x ∈ U,x.v.size≤1000000
 ins:SetP U.length (insU U m)
 one:NmB U (insU U m)
structure C5 where
 a:Int
 b:Int
 c:Int
 d:Int
 e:Int
 deriving DecidableEq
abbrev C5.val (x:C5):Value:=.agg #[.int .i64 x.a,.int .i64 x.b,.int .i64 x.c,.int .i64 x.d,.int .i64 x.e]
def C5.cells (x:C5):List Value:=[.int .i64 x.a,.int .i64 x.b,.int .i64 x.c,.int .i64 x.d,.int .i64 x.e]
def zC:C5:=⟨0,0,0,0,0⟩
def rdC:Rd C5:=fun _ _ x cs=>cs=x.cells
theorem rdC_good:Good rdC 5:=⟨fun h _=>h,fun h _=>h,fun h _ _=>h,fun h=>by rw [h];rfl,fun h u hu=>by rw [h] at hu;simp [C5.cells] at hu;rcases hu with rfl|rfl|rfl|rfl|rfl<;>rfl⟩
abbrev rdCs:Rd (List C5):=rdRow 5 rdC
theorem rdCs_good:Good rdCs 1:=rdRow_good rdC_good
theorem rdCs_at {w:World} {S:Nat→Prop} {l:List C5} {A:Option Addr} {n c:Nat} (h:rdCs w S l [.slice A n c]):n=l.length∧n≤c∧c≤maxLen∧∀k (hk:k < l.length),∃ad,A=some ad∧S ad.block∧
  w.cell? (ad.add (k*5))=some (.int .i64 l[k].a)∧w.cell? ⟨(ad.add (k*5)).block,(ad.add (k*5)).off+1,none⟩=some (.int .i64 l[k].b)∧w.cell? ⟨(ad.add (k*5)).block,(ad.add (k*5)).off+2,none⟩=some (.int .i64 l[k].c)∧w.cell? ⟨(ad.add (k*5)).block,(ad.add (k*5)).off+3,none⟩=some (.int .i64 l[k].d)∧w.cell? ⟨(ad.add (k*5)).block,(ad.add (k*5)).off+4,none⟩=some (.int .i64 l[k].e):=by
 obtain ⟨A',c',e,h1,h2,h⟩:=h
 simp only [List.cons.injEq,Value.slice.injEq,and_true] at e
 obtain ⟨rfl,rfl,rfl⟩:=e
 refine ⟨rfl,h1,h2,fun k hk=>?_⟩
 obtain ⟨ad,es,e,hS,hE,hl,hc⟩:=h k hk
 rw [show es=l[k].cells from hE] at hc
 exact ⟨ad,e,hS,hc 0 _ rfl,by rw [off_add ad (k*5) 1 (by omega)];exact hc 1 _ rfl,by rw [off_add ad (k*5) 2 (by omega)];exact hc 2 _ rfl,by rw [off_add ad (k*5) 3 (by omega)];exact hc 3 _ rfl,by rw [off_add ad (k*5) 4 (by omega)];exact hc 4 _ rfl⟩
theorem eqC_any (x y:C5) (w:World):(Op.equalIn 10000 39 x.val y.val).run Tryz.prog w=.ok (decide (x=y)) w:=by
 refine (eq_five x.a x.b x.c x.d x.e y.a y.b y.c y.d y.e w).trans ?_
 congr 1
 rw [Bool.eq_iff_iff,beq_iff_eq,decide_eq_true_iff]
 obtain ⟨a,b,c,d,e⟩:=x
 obtain ⟨a',b',c',d',e'⟩:=y
 simp
def ofC (U:List Ent) (here:List Int) (pn:List Pn) (up:Bool) (l:List Int):C5:=⟨c0S U here l,c1S U pn l,c2S U here pn up l,(wnS U l l:Int),c4S U here l⟩
def wgC (U:List Ent) (here:List Int) (pn:List Pn) (up:Bool) (p:Int):C5:=⟨0,los U pn p,w2P U here pn up p,0,w4P U here p⟩
def wgCs (U:List Ent) (here:List Int) (pn:List Pn) (up:Bool):List C5:=(rangU 0 U.length).map (wgC U here pn up)
theorem wgCs_len (U:List Ent) (here:List Int) (pn:List Pn) (up:Bool):(wgCs U here pn up).length=U.length:=by unfold wgCs;rw [List.length_map,rangU_len]
theorem wgCs_at {U:List Ent} {here:List Int} {pn:List Pn} {up:Bool} {j:Nat} (h:j < (wgCs U here pn up).length):(wgCs U here pn up)[j]=wgC U here pn up (j:Int):=by
 have h':j < ((rangU 0 U.length).map (wgC U here pn up)).length:=h
 show ((rangU 0 U.length).map (wgC U here pn up))[j]'h'=_
 rw [List.getElem_map,rangU_at,Nat.zero_add]
def ofA (U:List Ent) (here:List Int) (pn:List Pn) (up:Bool) (l:List Int):C5:=if setB U.length l=true∧pn.all rgtN=true then ofC U here pn up l else zC
def ofE (U:List Ent) (pn:List Pn) (l:List Int):Int:=if setB U.length l=true∧pn.all rgtN=true then 0 else 1
theorem rgt_bd {pn:List Pn} (h:pn.all rgtN=true):(∀x ∈ pn,-1000≤x.p∧x.p≤1000)∧Bd8 pn:=by
 have k:∀x ∈ pn,-1000≤x.p∧x.p≤1000:=fun x hx=>by
  have:=List.all_eq_true.1 h x hx
  unfold rgtN at this
  simp only [Bool.and_eq_true,decide_eq_true_eq] at this
  omega
 exact ⟨k,fun x hx=>by have:=k x hx;omega⟩
theorem uk_of {L:List Ent} {m:List Hr} (hb:L.all rgtE=true∧rightH m=true) (hf:Fw11 L m) (hl:¬64 < (entU L (m.map fun y=>y.e)).length):UK (entU L (m.map fun y=>y.e)) m:=by
 obtain ⟨h1,h2,h3⟩:=(rightH_iff m).1 hb.2
 have ho:=once_right h2
 have hs:Srt9 (entU L (m.map fun y=>y.e)):=entU_srt ho
 have all:∀x ∈ entU L (m.map fun y=>y.e),Sm x:=ent_all10 (fun x hx=>hf.1.2 x hx) (fun x hx=>by
  obtain ⟨y,hy,rfl⟩:=List.mem_map.1 hx
  exact hf.2.2 y hy) ho
 have hin:∀y ∈ m,y.e ∈ entU L (m.map fun y=>y.e):=fun y hy=>here_in ho _ (List.mem_map.2 ⟨y,hy,rfl⟩)
 exact ⟨uf_of hb hf hl,fun x hx=>(all x hx).2.2.2.2.2.1,fun x hx g hg a ha=>by have:=(all x hx).sz.2.2.1 g hg a ha;omega,fun x hx=>by have:=(all x hx).2.2.2.1;omega,ins_ris hs h2 hin,ins_nm hs h2 hin⟩
theorem inR_small {x:Int} (h0:0≤x) (h1:x≤1000000000):InR x:=by unfold InR;omega
set_option maxHeartbeats 4000000 in
theorem cidx_any (A:Option Addr) (n0 c:Nat) (l:List Int) (x:Int) (w:World) (h:rdInts w (lt_ w.heap.size) l [.slice A n0 c]) :
  Calls Tryz.prog 90 #[.slice A n0 c,.int .i64 x] w fun e w'=>(∃i:Int,e=.returned (.int .i64 i)∧decide (0≤i)=l.contains x)∧w=w':=by
 obtain ⟨rfl,hnc,hcm,hat⟩:=rdInts_at h
 have hcm':c≤9223372036854775807:=hcm
 have HAT:=Lib.hid hat
 have X:=Lib.hid (show l.contains x=l.any (fun y=>x==y) from List.contains_eq_any_beq)
 clear h hcm hat
 generalize l.contains x=bb at *
 go_enter Tryz.func90,Tryz.ntmps90
 go_wp2
 go_loop [8] (fun i=>∃k:Nat,k≤l.length∧i=.int .i64 k∧Hid ((l.take k).any (fun y=>x==y)=false)) (fun i=>l.length - (intOf i).toNat)
 case atStart=>exact ⟨0,Nat.zero_le _,rfl,Lib.hid rfl⟩
 case round=>
  obtain ⟨k,hk,rfl,HA⟩:=hrel
  by_cases hlt:k < l.length
  ·have ST:=Lib.hid (fun hf=>none_step6 (f:=fun y=>x==y) hlt HA.out hf)
   have SP:=Lib.hid (fun hf=>any_stop6 (f:=fun y=>x==y) hlt hf)
   obtain ⟨ad,rfl,-,g0⟩:=HAT.out k hlt
   have i0:(0:Int)≤(k:Int):=by omega
   have i1:(k:Int) < (l.length:Int):=by omega
   generalize hq:(x==l[k])=q at *
   generalize l[k]=y at *
   clear HA
   cases q
   ·have NX:=Lib.hid (ST.out rfl)
    go_wp2
    go_round
    case rel=>exact ⟨k+1,by omega,by go_num,NX⟩
    case measure=>simp [intOf];omega
   ·have XX:=Lib.hid (show bb=true by rw [X.out];exact SP.out rfl)
    go_wp2
    go_ret
    exact ⟨⟨(k:Int),rfl,by rw [XX.out];exact decide_eq_true (by omega)⟩,rfl⟩
  ·obtain rfl:k=l.length:=by omega
   have j0:¬(l.length:Int) < (l.length:Int):=by omega
   have XX:=Lib.hid (show bb=false by rw [X.out];have:=HA.out;rwa [List.take_length] at this)
   go_wp2
   go_ret
   exact ⟨⟨-1,rfl,by rw [XX.out];rfl⟩,rfl⟩
set_option maxHeartbeats 2000000 in
theorem ccont_any (A:Option Addr) (n0 c:Nat) (l:List Int) (x:Int) (w:World) (h:rdInts w (lt_ w.heap.size) l [.slice A n0 c]) :
  Calls Tryz.prog 57 #[.slice A n0 c,.int .i64 x] w fun e w'=>e=.returned (.bool (l.contains x))∧w=w':=by
 have K:=Lib.hid (cidx_any A n0 c l x w h)
 generalize l.contains x=bb at *
 clear h
 go_enter Tryz.func57,Tryz.ntmps57
 go_wp2_with fail
 refine K.out.mono ?_
 rintro e w' ⟨⟨i,rfl,hi⟩,rfl⟩
 have HI:=Lib.hid hi
 clear hi K
 go_wp2
 go_ret
 exact ⟨by rw [←HI.out];try rfl,rfl⟩
set_option maxHeartbeats 2000000 in
theorem cshare1_any (B:Option Addr) (nb cb:Nat) (b:List Int) (p:Int) (bx:Nat) (w:World) (h:rdInts w (lt_ w.heap.size) b [.slice B nb cb]) (cx:w.cell? ⟨bx,0,none⟩=some (.slice B nb cb)) :
  Calls Tryz.prog 89 #[.int .i64 p,.pointer (some ⟨bx,0,none⟩)] w fun e w'=>e=.returned (.bool (b.contains p))∧w=w':=by
 have K:=Lib.hid (ccont_any B nb cb b p w h)
 generalize b.contains p=bb at *
 clear h
 go_enter Tryz.func89,Tryz.ntmps89
 go_wp2_with fail
 refine K.out.mono ?_
 rintro e w' ⟨rfl,rfl⟩
 go_wp2
 go_ret
 exact ⟨rfl,rfl⟩
set_option maxHeartbeats 4000000 in
theorem cshix_any (A:Option Addr) (n0 c:Nat) (l:List Int) (B:Option Addr) (nb cb:Nat) (b:List Int) (bx:Nat) (w:World) (h:rdInts w (lt_ w.heap.size) l [.slice A n0 c]) (hb:rdInts w (lt_ w.heap.size) b [.slice B nb cb]) (cx:w.cell? ⟨bx,0,none⟩=some (.slice B nb cb)) :
  Calls Tryz.prog 128 #[.slice A n0 c,.func (.func 89) #[] #[.pointer (some ⟨bx,0,none⟩)]] w fun e w'=>(∃i:Int,e=.returned (.int .i64 i)∧decide (0≤i)=shr l b)∧w=w':=by
 have hcf:∀(args:Array Value) (w:World),(callFunc 89 args).run Tryz.prog w=.ok (.enter 89 args) w:=fun _ _=>by kernel_rfl
 obtain ⟨rfl,hnc,hcm,hat⟩:=rdInts_at h
 have hcm':c≤9223372036854775807:=hcm
 have HAT:=Lib.hid hat
 have KM:=Lib.hid (fun (p:Int)=>cshare1_any B nb cb b p bx w hb cx)
 have X:=Lib.hid (show shr l b=l.any (fun p=>b.contains p) from rfl)
 clear h hcm hat hb cx
 generalize shr l b=bb at *
 go_enter Tryz.func128,Tryz.ntmps128
 go_wp2
 go_loop [8] (fun i=>∃k:Nat,k≤l.length∧i=.int .i64 k∧Hid ((l.take k).any (fun p=>b.contains p)=false)) (fun i=>l.length - (intOf i).toNat)
 case atStart=>exact ⟨0,Nat.zero_le _,rfl,Lib.hid rfl⟩
 case round=>
  obtain ⟨k,hk,rfl,HA⟩:=hrel
  by_cases hlt:k < l.length
  ·have ST:=Lib.hid (fun hf=>none_step6 (f:=fun p=>b.contains p) hlt HA.out hf)
   have SP:=Lib.hid (fun hf=>any_stop6 (f:=fun p=>b.contains p) hlt hf)
   obtain ⟨ad,rfl,-,g0⟩:=HAT.out k hlt
   have i0:(0:Int)≤(k:Int):=by omega
   have i1:(k:Int) < (l.length:Int):=by omega
   have CL:=Lib.hid (KM.out l[k])
   generalize hq:b.contains l[k]=q at *
   generalize l[k]=y at *
   clear HA hq
   go_wp2_with fail
   refine CL.out.mono ?_
   rintro e w' ⟨rfl,rfl⟩
   cases q
   ·have NX:=Lib.hid (ST.out rfl)
    go_wp2
    go_round
    case rel=>exact ⟨k+1,by omega,by go_num,NX⟩
    case measure=>simp [intOf];omega
   ·have XX:=Lib.hid (show bb=true by rw [X.out];exact SP.out rfl)
    go_wp2
    go_ret
    exact ⟨⟨(k:Int),rfl,by rw [XX.out];exact decide_eq_true (by omega)⟩,rfl⟩
  ·obtain rfl:k=l.length:=by omega
   have j0:¬(l.length:Int) < (l.length:Int):=by omega
   have XX:=Lib.hid (show bb=false by rw [X.out];have:=HA.out;rwa [List.take_length] at this)
   go_wp2
   go_ret
   exact ⟨⟨-1,rfl,by rw [XX.out];rfl⟩,rfl⟩
set_option maxHeartbeats 2000000 in
theorem cshcf_any (A:Option Addr) (n0 c:Nat) (l:List Int) (B:Option Addr) (nb cb:Nat) (b:List Int) (bx:Nat) (w:World) (h:rdInts w (lt_ w.heap.size) l [.slice A n0 c]) (hb:rdInts w (lt_ w.heap.size) b [.slice B nb cb]) (cx:w.cell? ⟨bx,0,none⟩=some (.slice B nb cb)) :
  Calls Tryz.prog 88 #[.slice A n0 c,.func (.func 89) #[] #[.pointer (some ⟨bx,0,none⟩)]] w fun e w'=>e=.returned (.bool (shr l b))∧w=w':=by
 have K:=Lib.hid (cshix_any A n0 c l B nb cb b bx w h hb cx)
 generalize shr l b=bb at *
 clear h hb cx
 go_enter Tryz.func88,Tryz.ntmps88
 go_wp2_with fail
 refine K.out.mono ?_
 rintro e w' ⟨⟨i,rfl,hi⟩,rfl⟩
 have HI:=Lib.hid hi
 clear hi K
 go_wp2
 go_ret
 exact ⟨by rw [←HI.out];try rfl,rfl⟩
set_option maxHeartbeats 2000000 in
theorem cshare_any (A:Option Addr) (n0 c:Nat) (l:List Int) (B:Option Addr) (nb cb:Nat) (b:List Int) (w:World) (h:rdInts w (lt_ w.heap.size) l [.slice A n0 c]) (hb:rdInts w (lt_ w.heap.size) b [.slice B nb cb]) :
  Calls Tryz.prog 54 #[.slice A n0 c,.slice B nb cb] w fun e w'=>e=.returned (.bool (shr l b))∧Below w.heap.size w w':=by
 obtain ⟨W1,hW1⟩:∃W,W=w.alloc (.cells #[.slice B nb cb] 25):=⟨_,rfl⟩
 have b1:Below w.heap.size w W1:=by rw [hW1];exact (Below.refl _ w).alloc (Nat.le_refl _) _
 have B1:=Lib.hid b1
 have x0:W1.cell? ⟨w.heap.size,0,none⟩=some (.slice B nb cb):=by rw [hW1];simp [go_sem]
 have K:=Lib.hid (cshcf_any A n0 c l B nb cb b w.heap.size W1 (rdInts_good.up (rdInts_good.below h b1) b1.size) (rdInts_good.up (rdInts_good.below hb b1) b1.size) x0)
 generalize shr l b=bb at *
 clear h hb b1
 go_enter Tryz.func54,Tryz.ntmps54
 go_upto_region 1 with fail
 rw [←hW1]
 clear hW1
 go_wp2_with fail
 refine K.out.mono ?_
 rintro e w' ⟨rfl,rfl⟩
 go_wp2
 go_ret
 exact ⟨rfl,B1.out⟩
theorem abv_step {own may:List Int} {p:Int} {k:Nat} (h:k < own.length):abv (own.take (k+1)) may p=abv (own.take k) may p+(if (decide (p < own[k])&&may.contains own[k])=true then 1 else 0):=filN_take h
set_option maxHeartbeats 4000000 in
theorem cabove_any (A:Option Addr) (n0 c:Nat) (own:List Int) (B:Option Addr) (nb cb:Nat) (may:List Int) (p:Int) (w:World) (h:rdInts w (lt_ w.heap.size) own [.slice A n0 c]) (hb:rdInts w (lt_ w.heap.size) may [.slice B nb cb]) (hn:own.length≤1000000) :
  Calls Tryz.prog 56 #[.slice A n0 c,.slice B nb cb,.int .i64 p] w fun e w'=>e=.returned (.int .i64 ((abv own may p:Nat):Int))∧w=w':=by
 obtain ⟨rfl,hnc,hcm,hat⟩:=rdInts_at h
 have hcm':c≤9223372036854775807:=hcm
 have HAT:=Lib.hid hat
 have KC:=Lib.hid (fun (x:Int)=>ccont_any B nb cb may x w hb)
 have LE:=Lib.hid (fun (k:Nat)=>show abv (own.take k) may p≤1000000 from by
  have h1:=abv_le (own.take k) may p
  have h2:(own.take k).length≤own.length:=by rw [List.length_take];omega
  omega)
 have ST:=Lib.hid (fun (k:Nat) (hk:k < own.length)=>abv_step (may:=may) (p:=p) hk)
 have X:=Lib.hid (show abv own may p=abv (own.take own.length) may p by rw [List.take_length])
 have Z:=Lib.hid (show abv (own.take 0) may p=0 from rfl)
 clear h hb hcm hat hn
 generalize abv own may p=R at *
 go_enter Tryz.func56,Tryz.ntmps56
 go_wp2
 go_loop [7,12] (fun v i=>∃k:Nat,k≤own.length∧i=.int .i64 k∧v=.int .i64 ((abv (own.take k) may p:Nat):Int)) (fun _ i=>own.length - (intOf i).toNat)
 case atStart=>exact ⟨0,Nat.zero_le _,rfl,by rw [Z.out];rfl⟩
 case round=>
  obtain ⟨k,hk,rfl,rfl⟩:=hrel
  have hle:=LE.out k
  by_cases hlt:k < own.length
  ·obtain ⟨ad,rfl,-,g0⟩:=HAT.out k hlt
   have i0:(0:Int)≤(k:Int):=by omega
   have i1:(k:Int) < (own.length:Int):=by omega
   have S1:=Lib.hid (ST.out k hlt)
   have CL:=Lib.hid (KC.out own[k])
   generalize hg2:abv (own.take (k+1)) may p=r2 at *
   have G2:=Lib.hid hg2
   clear hg2
   generalize abv (own.take k) may p=r1 at *
   generalize own[k]=x at *
   by_cases g:p < x
   ·generalize may.contains x=q at *
    go_wp2_with fail
    refine CL.out.mono ?_
    rintro e w' ⟨rfl,rfl⟩
    cases q
    ·have NX:=Lib.hid (show r2=r1 by rw [S1.out,decide_eq_true g];rfl)
     clear S1
     go_wp2
     go_round
     case rel=>exact ⟨k+1,by omega,by go_num,by rw [G2.out,NX.out]⟩
     case measure=>simp [intOf];omega
    ·have NX:=Lib.hid (show r2=r1+1 by rw [S1.out,decide_eq_true g];rfl)
     clear S1
     go_wp2
     go_round
     case rel=>exact ⟨k+1,by omega,by go_num,by rw [G2.out,NX.out];first|rfl|go_num|(congr 1)⟩
     case measure=>simp [intOf];omega
   ·have NX:=Lib.hid (show r2=r1 by rw [S1.out,decide_eq_false g];rfl)
    clear S1 CL
    go_wp2
    go_round
    case rel=>exact ⟨k+1,by omega,by go_num,by rw [G2.out,NX.out]⟩
    case measure=>simp [intOf];omega
  ·obtain rfl:k=own.length:=by omega
   have j0:¬(own.length:Int) < (own.length:Int):=by omega
   have XX:=Lib.hid X.out
   generalize abv (own.take own.length) may p=r1 at *
   go_wp2
   go_ret
   exact ⟨by rw [XX.out];try rfl,rfl⟩
set_option maxHeartbeats 4000000 in
theorem crightp_any (A:Option Addr) (n c:Nat) (l:List Pn) (w:World) (h:rdPns w (lt_ w.heap.size) l [.slice A n c]) :
  Calls Tryz.prog 50 #[.slice A n c] w fun e w'=>e=.returned (.bool (l.all rgtN))∧Below w.heap.size w w':=by
 obtain ⟨rfl,hnc,hcm,-⟩:=rdPns_at h
 have hcm':c≤9223372036854775807:=hcm
 have HA:=Lib.hid (fun (W:World) (hb:Below w.heap.size w W)=>(rdPns_at (rdPns_good.up (rdPns_good.below h hb) hb.size)).2.2.2)
 have KR:=Lib.hid (fun (k:Nat) (hk:k < l.length) (W:World)=>pright_any l[k] W)
 have ST:=Lib.hid (fun (k:Nat) (hk:k < l.length) h1 h2=>all_step6 (f:=rgtN) hk h1 h2)
 have SP:=Lib.hid (fun (k:Nat) (hk:k < l.length) h2=>all_stop6 (f:=rgtN) hk h2)
 have X:=Lib.hid (show l.all rgtN=(l.take l.length).all rgtN by rw [List.take_length])
 clear h hcm
 generalize l.all rgtN=bb at *
 go_enter Tryz.func50,Tryz.ntmps50
 go_wp2
 go_loopw [7] (fun i wr=>∃k:Nat,k≤l.length∧i=.int .i64 k∧Hid ((l.take k).all rgtN=true)∧Below w.heap.size w wr) (fun i _=>l.length - (intOf i).toNat)
 case atStart=>exact ⟨0,Nat.zero_le _,rfl,Lib.hid rfl,Below.refl _ _⟩
 case round=>
  obtain ⟨k,hk,rfl,HP,hbel⟩:=hrel
  have HB:=Lib.hid hbel
  clear hbel
  by_cases hlt:k < l.length
  ·obtain ⟨ad,rfl,-,c0,c1,c2⟩:=HA.out wr HB.out k hlt
   have i0:(0:Int)≤(k:Int):=by omega
   have i1:(k:Int) < (l.length:Int):=by omega
   have K1:=Lib.hid (KR.out k hlt)
   have S1:=Lib.hid (ST.out k hlt HP.out)
   have S2:=Lib.hid (SP.out k hlt)
   generalize l[k]=y at *
   obtain ⟨yn,yx,yp⟩:=y
   simp only [Pn.val] at c0 c1 c2 K1
   generalize rgtN ⟨yn,yx,yp⟩=q at *
   go_wp2_with fail
   refine (K1.out _).mono ?_
   rintro e w2 ⟨rfl,hb⟩
   have HB2:=Lib.hid (bel_2 HB.out (bel_boxed hb))
   clear hb c0 c1 c2
   cases q
   ·have XX:=Lib.hid (S2.out rfl)
    go_wp2
    go_ret
    exact ⟨by rw [XX.out];try rfl,HB2.out⟩
   ·have NX:=Lib.hid (S1.out rfl)
    go_wp2
    go_roundw
    case rel=>exact ⟨k+1,by omega,by go_num,NX,HB2.out⟩
    case measure=>simp [intOf];omega
  ·obtain rfl:k=l.length:=by omega
   have j0:¬(l.length:Int) < (l.length:Int):=by omega
   have XX:=Lib.hid (X.out.trans HP.out)
   go_wp2
   go_ret
   exact ⟨by rw [XX.out];try rfl,HB.out⟩
theorem str11_info:(Tryz.prog.info? 9).map (fun i=>(i.zero,i.size,i.bytes))=some (some (.string { data:=#[] }),1,16):=by kernel_rfl
set_option maxHeartbeats 8000000 in
theorem cver_any (A:Option Addr) (n0 c:Nat) (U:List Ent) (B:Option Addr) (nb cb:Nat) (l:List Int) (w:World) (h:rdEnts w (lt_ w.heap.size) U [.slice A n0 c]) (h':rdInts w (lt_ w.heap.size) l [.slice B nb cb]) (hs:∀p ∈ l,0≤p∧p < (U.length:Int)) (hl:l.length≤200) :
  Calls Tryz.prog 53 #[.slice A n0 c,.slice B nb cb] w fun e w'=>(∃A c,e=.returned (.slice A (l.map fun p=>(entA U p).v).length c)∧rdBas w' (fun k=>w.heap.size≤k∧k < w'.heap.size) (l.map fun p=>(entA U p).v) [.slice A (l.map fun p=>(entA U p).v).length c])∧Below w.heap.size w w':=by
 obtain ⟨fi,hi,hz0,hz1,hz2⟩:=info_parts str11_info
 obtain ⟨rfl,hnc,hcm,-⟩:=rdEnts_at h
 obtain ⟨rfl,hnc',hcm',-⟩:=rdInts_at h'
 have hcx:c≤9223372036854775807:=hcm
 have hcy:cb≤9223372036854775807:=hcm'
 have HE:=Lib.hid (fun (W:World) (hb:Below w.heap.size w W)=>(rdEnts_at (rdEnts_good.up (rdEnts_good.below h hb) hb.size)).2.2.2)
 have HI:=Lib.hid (fun (W:World) (hb:Below w.heap.size w W)=>(rdInts_at (rdInts_good.up (rdInts_good.below h' hb) hb.size)).2.2.2)
 have HS:=Lib.hid hs
 clear h h' hcm hcm' hs
 generalize hR:(l.map fun p=>(entA U p).v)=R at *
 have HR:=Lib.hid hR
 clear hR
 go_enter Tryz.func53,Tryz.ntmps53
 go_wp2
 go_loopw [5,10] (fun v i wr=>∃k:Nat,k≤l.length∧i=.int .i64 k∧Grow rdBa 1 (fun _=>False) wr w.heap.size 9 v ((l.take k).map fun p=>(entA U p).v)∧Below w.heap.size w wr) (fun _ i _=>l.length - (intOf i).toNat)
 case atStart=>exact ⟨0,Nat.zero_le _,rfl,Grow.nil _ _ _ _,Below.refl _ _⟩
 case round=>
  obtain ⟨k,hk,rfl,hG,hbel⟩:=hrel
  have HB:=Lib.hid hbel
  have HG:=Lib.hid hG
  clear hG hbel
  by_cases hlt:k < l.length
  ·obtain ⟨ad,rfl,-,g0⟩:=HI.out wr HB.out k hlt
   obtain ⟨s0,s1⟩:=HS.out _ (List.getElem_mem hlt)
   have ST:=Lib.hid (show (l.take (k+1)).map (fun p=>(entA U p).v)=(l.take k).map (fun p=>(entA U p).v)++[(entA U l[k]).v] by rw [List.take_succ_eq_append_getElem hlt,List.map_append];rfl)
   obtain ⟨j,hj⟩:=Int.eq_ofNat_of_zero_le s0
   rw [hj] at g0 s1 ST
   have hjl:j < U.length:=by omega
   rw [entA_at hjl] at ST
   obtain ⟨adu,A1,c1,A2,c2,A3,c3,A4,c4,rfl,-,hv,u0,u1,-,-,-,-⟩:=HE.out wr HB.out j hjl
   have i0:(0:Int)≤(k:Int):=by omega
   have i1:(k:Int) < (l.length:Int):=by omega
   have j0:(0:Int)≤(j:Int):=by omega
   have j1:(j:Int) < (U.length:Int):=by omega
   have hln:((l.take k).map fun p=>(entA U p).v).length≤200:=by rw [List.length_map,List.length_take];omega
   generalize hgl:(l.take k).map (fun p=>(entA U p).v)=gl at HG ST hln
   generalize U[j].v=v at *
   clear hgl hv hj s0
   obtain ⟨Av,cv,hv6,-,-⟩:=HG.out.own
   have GG:=Lib.hid HG.out
   rw [hv6] at GG
   obtain ⟨nv,hnv⟩:∃q,q=gl.length:=⟨_,rfl⟩
   rw [←hnv] at hv6 GG
   subst hv6
   have hn1:gl.length+1≤maxLen:=by unfold maxLen;omega
   have hn2:(gl.length+1)*16≤140737488355328:=by omega
   have hbs:w.heap.size≤wr.heap.size:=HB.out.size
   clear hnv HG u0
   go_wp2_with (at_builtin;refine wpList_grow1_at wr rfl _ _ 92 rfl rdBa_good (by decide) (fun _=>False) w.heap.size 9 fi _ 16 Tryz.underlying92 hi hz0 hz1 hz2 rfl (.slice Av nv cv) gl rfl GG.out v _ 9 rfl wr.heap.size rfl rfl hn1 hn2 hbs ?_)
   intro v1 w4 hG4 hg4 _
   have B4:=Lib.hid (grow_below GG.out hg4 HB.out (Nat.le_refl _) hbs)
   have G4:=Lib.hid hG4
   clear hG4 hg4
   go_wp2
   go_roundw
   case rel=>exact ⟨k+1,by omega,by go_num,by rw [ST.out];exact G4.out,B4.out⟩
   case measure=>simp [intOf];omega
  ·obtain rfl:k=l.length:=by omega
   have FIN:=Lib.hid (show rdBas wr (fun k=>w.heap.size≤k∧k < wr.heap.size) R [u5] from by
    have:=rdBas_good.more (S':=fun k=>w.heap.size≤k∧k < wr.heap.size) (HG.out.reads rdBa_good) fun b hh=>⟨hh.2.resolve_right id,hh.1⟩
    rwa [List.take_length,HR.out] at this)
   obtain ⟨Av,cv,hv,_⟩:=id FIN.out
   simp only [List.cons.injEq,and_true] at hv
   subst hv
   clear HG
   go_wp2
   go_ret
   exact ⟨⟨Av,cv,rfl,FIN.out⟩,HB.out⟩
end Go.Proofs.YtpilmhoakopcaaaGreatDoor
namespace Go.Proofs.YtpilmhoakopcaaaGreatDoor
open Go.RowKit Go.Sort
set_option maxHeartbeats 2000000 in
theorem of9O_any (b:Nat) (L:List Ent) (m:List Hr) (s:ByteArray) (w:World) (h:UP w b L m) (hl:L.length≤64) (hs:s.size≤1000000) :
  Calls Tryz.prog 52 #[.pointer (some ⟨b,0,none⟩),.string s] w fun e w'=>(∃A c,e=.returned (.slice A (ixU (isN s) L 0).length c)∧rdInts w' (fun k=>w.heap.size≤k∧k < w'.heap.size) (ixU (isN s) L 0) [.slice A (ixU (isN s) L 0).length c])∧Below w.heap.size w w':=by
 obtain ⟨A,c,A',c',bm,-,-,h3,-,-,h6⟩:=h
 obtain ⟨Px,cp,Gx,cg,hlk,hp,-⟩:=h6.look s hs
 have K:=Lib.hid (cloneI9_any Px _ cp (ixU (isN s) L 0) w hp (by have:=ixU_len (p:=isN s) (L:=L) (i:=0);omega))
 have hlw:=hlk w (Below.refl _ _)
 have hf:=fld9_0
 clear h6 hlk hp
 generalize ixU (isN s) L 0=lp at *
 go_enter Tryz.func52,Tryz.ntmps52
 go_wp2_with fail
 refine K.out.mono ?_
 rintro e w1 ⟨⟨v,rfl,hG⟩,hb⟩
 obtain ⟨Av,cv,hv,-,-⟩:=hG.own
 have R:=Lib.hid (rdInts_good.more (S':=fun k=>w.heap.size≤k∧k < w1.heap.size) ((Grow.flat (T':=fun _=>False) int_flat11 hG).reads rdInt_good) fun b hh=>⟨hh.2.resolve_right id,hh.1⟩)
 rw [hv] at R
 subst hv
 clear hG h3 hlw
 go_wp2
 go_ret
 exact ⟨⟨Av,cv,rfl,R.out⟩,hb⟩
theorem cpN9O_any {T:Nat→Prop} {base:Nat} {e:TypeId} (v:Value) (l:List ByteArray) (w:World) (hG:Grow rdNm 1 T w base e v l) (hl:l.length≤1000000) :
  Calls Tryz.prog 86 #[v] w fun e' w'=>(∃A c,e'=.returned (.slice A (cpL none l).length c)∧rdNms w' (fun k=>base≤k∧k < w'.heap.size) (cpL none l) [.slice A (cpL none l).length c])∧Below base w w':=by
 by_cases hne:l=[]
 ·subst hne
  obtain ⟨Av,cv,rfl,-,-⟩:=hG.own
  refine (Tryz.slices_Compact_string_empty Av cv w).mono ?_
  rintro e w' ⟨rfl,rfl⟩
  obtain ⟨A2,c2,e2,h1,h2,_⟩:=hG.read rdNm_good
  exact ⟨⟨Av,cv,rfl,⟨A2,c2,e2,h1,h2,fun k hk=>absurd hk (Nat.not_lt_zero k)⟩⟩,Below.refl _ _⟩
 ·obtain ⟨gb,cap,rfl,g1,g2,g3,g3',g4⟩:=own1_row (enc:=fun s:ByteArray=>Value.string s) (fun _ _ _ _ h=>h) hG hne
  have hml:(l.map (·.data.toList)).length=l.length:=List.length_map _
  have hH:Holds encStr w gb 0 (l.map (·.data.toList)).toArray:=fun j hj=>by
   have hj':j < l.length:=by simpa using hj
   refine ⟨?_,(g4 j hj').2⟩
   rw [(g4 j hj').1,getElem!_pos (l.map (·.data.toList)).toArray j hj]
   simp [encStr_data]
  have hC:=Tryz.slices_Compact_string gb 0 cap (l.map (·.data.toList)) w hH (by rw [hml];omega) (by rw [hml];exact g3)
  rw [hml,cp_is] at hC
  rw [show cpL none (l.map (·.data.toList))=(cpL none l).map (·.data.toList) from cpL_map (fun s:ByteArray=>s.data.toList) data_inj none l,List.length_map] at hC
  refine hC.mono ?_
  rintro e' w' ⟨rfl,q,rfl⟩
  have hlen:=cpL_len none l
  have hs:((cpL none l).map (·.data.toList)++List.replicate (l.length - (cpL none l).length) ([]:List UInt8)).toArray.size=(l.map (·.data.toList)).toArray.size:=by simp;omega
  have hH2:=holds_putRow encStr (Sort.ahead w q) gb 0 (l.map (·.data.toList)).toArray _ (holds_ahead _ w q gb 0 _ hH) hs
  refine ⟨⟨_,cap,rfl,⟨_,cap,rfl,by omega,g3',fun k hk=>⟨_,[.string (cpL none l)[k]],rfl,?_,rfl,rfl,fun j u hu=>?_⟩⟩⟩,putRow_below g1⟩
  ·show base≤gb∧gb < _
   rw [putRow_size];exact ⟨g1,g2⟩
  ·have hj:j=0:=by have:=(List.getElem?_eq_some_iff.1 hu).1;simpa using this
   subst hj
   obtain rfl:Value.string (cpL none l)[k]=u:=by simpa using hu
   have hk':k < ((cpL none l).map (·.data.toList)++List.replicate (l.length - (cpL none l).length) ([]:List UInt8)).toArray.size:=by rw [hs];simp;omega
   have:=(hH2 k hk').1
   rw [getElem!_pos ((cpL none l).map (·.data.toList)++List.replicate (l.length - (cpL none l).length) ([]:List UInt8)).toArray k hk'] at this
   have hadd:(⟨gb,0,none⟩:Addr).add (k*1+0)=⟨gb,0+k,none⟩:=by unfold Addr.add;split<;>simp_all
   rw [hadd,this]
   simp [List.getElem_append_left,hk,encStr_data]
set_option maxHeartbeats 8000000 in
theorem names9O_any (b:Nat) (L:List Ent) (m:List Hr) (w:World) (h:UP w b L m) (hl:L.length≤64) :
  Calls Tryz.prog 51 #[.pointer (some ⟨b,0,none⟩)] w fun e w'=>(∃A c,e=.returned (.slice A (nmU none L).length c)∧rdNms w' (fun k=>w.heap.size≤k∧k < w'.heap.size) (nmU none L) [.slice A (nmU none L).length c])∧Below w.heap.size w w':=by
 obtain ⟨A,c,A',c',bm,b0,-,-,h4,-,-⟩:=h
 obtain ⟨fi,hi,hz0,hz1,hz2⟩:=info_parts str9_info
 obtain ⟨-,hnc,hcm,-⟩:=rdEnts_at h4
 have hcm':c≤9223372036854775807:=hcm
 have H:=Lib.hid h4
 clear h4 hcm
 go_enter Tryz.func51,Tryz.ntmps51
 go_wp2
 go_loopw [3,11] (fun v i wr=>∃k:Nat,k≤L.length∧i=.int .i64 k∧Grow rdNm 1 (fun _=>True) wr w.heap.size 9 v ((L.take k).map fun x=>x.n)∧Below w.heap.size w wr) (fun _ i _=>L.length - (intOf i).toNat)
 case atStart=>exact ⟨0,Nat.zero_le _,rfl,Grow.nil _ _ _ _,Below.refl _ _⟩
 case round=>
  clear b0
  obtain ⟨k,hk,rfl,hG,hbel⟩:=hrel
  have HB:=Lib.hid hbel
  have HG:=Lib.hid hG
  clear hG
  by_cases hlt:k < L.length
  ·obtain ⟨-,-,-,hat⟩:=rdEnts_at (rdEnts_good.below H.out hbel)
   obtain ⟨ad,A1,c1,A2,c2,A3,c3,A4,c4,rfl,had,-,h0,h1,h2,h3,h4,h5⟩:=hat k hlt
   have i0:(0:Int)≤(k:Int):=by omega
   have i1:(k:Int) < (L.length:Int):=by omega
   have ST:=Lib.hid (show (L.take (k+1)).map (fun x=>x.n)=(L.take k).map (fun x=>x.n)++[L[k].n] by rw [List.take_succ_eq_append_getElem hlt,List.map_append];rfl)
   have hln:((L.take k).map fun x:Ent=>x.n).length≤64:=by rw [List.length_map,List.length_take];omega
   clear had hat hbel
   generalize hgl:(L.take k).map (fun x=>x.n)=gl at HG ST hln
   clear hgl
   generalize L[k]=y at *
   obtain ⟨n,v,d,r,c',p⟩:=y
   simp only at h0 h1 h2 h3 h4 h5
   obtain ⟨Av,cv,hv6,-,-⟩:=HG.out.own
   have GG:=Lib.hid HG.out
   rw [hv6] at GG
   obtain ⟨nv,hnv⟩:∃q,q=gl.length:=⟨_,rfl⟩
   rw [←hnv] at hv6 GG
   subst hv6
   obtain ⟨W2,hW2⟩:∃W,W=wr.alloc (.cells #[.string n,.string v,.slice A1 d.length c1,.slice A2 r.length c2,.slice A3 c'.length c3,.slice A4 p.length c4] 60):=⟨_,rfl⟩
   have b2:Below wr.heap.size wr W2:=by rw [hW2];exact (Below.refl _ wr).alloc (Nat.le_refl _) _
   have B2:=Lib.hid (HB.out.trans (b2.mono HB.out.size))
   have G2:=Lib.hid (GG.out.below rdNm_good b2)
   have S2:=Lib.hid (show W2.heap.size=wr.heap.size+1 by rw [hW2];simp)
   have hn1:gl.length+1≤maxLen:=by unfold maxLen;omega
   have hn2:(gl.length+1)*16≤140737488355328:=by omega
   have hbs:w.heap.size≤W2.heap.size:=B2.out.size
   clear b2 hnv GG HG
   go_wp2_with (at_builtin;rw [←hW2];refine wpList_grow1_at W2 rfl _ _ 92 rfl rdNm_good (by decide) (fun _=>True) w.heap.size 9 fi _ 16 Tryz.underlying92 hi hz0 hz1 hz2 rfl (.slice Av nv cv) gl rfl G2.out n _ 9 rfl (wr.heap.size+1) S2.out.symm rfl hn1 hn2 hbs ?_)
   intro v1 w4 hG4 hg4 _
   rw [←hW2] at hg4
   have B4:=Lib.hid (grow_below G2.out hg4 B2.out (Nat.le_refl _) hbs)
   have G4:=Lib.hid hG4
   clear hG4 hg4 hW2 h0 h1 h2 h3 h4 h5
   go_wp2
   go_roundw
   case rel=>exact ⟨k+1,by omega,by go_num,by rw [ST.out];exact G4.out,B4.out⟩
   case measure=>simp [intOf];omega
  ·obtain rfl:k=L.length:=by omega
   have HG1:=Lib.hid (show Grow rdNm 1 (fun _=>True) wr w.heap.size 9 u3 (L.map fun x=>x.n) by have:=HG.out;rwa [List.take_length] at this)
   have K:=Lib.hid (cpN9O_any u3 (L.map fun x=>x.n) wr HG1.out (by rw [List.length_map];omega))
   rw [cp_names none L] at K
   clear hbel HG HG1
   go_wp2_with fail
   refine K.out.mono ?_
   rintro e w1 ⟨⟨Ax,cx,rfl,hr⟩,hb⟩
   have R:=Lib.hid hr
   have BX:=Lib.hid (HB.out.trans hb)
   clear hr hb
   go_wp2
   go_ret
   exact ⟨⟨Ax,cx,rfl,R.out⟩,BX.out⟩
end Go.Proofs.YtpilmhoakopcaaaGreatDoor
