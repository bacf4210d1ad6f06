/- What the laws rest on: P6d, S5y, Bld, S5k2, S5k3. -/
import Derived.Test.YtboinnjncaehkaaGreatDoorQBLZA
import Derived.Test.YtboinnjncaehkaaGreatDoorQBTZA
set_option maxRecDepth 100000
set_option linter.unusedVariables false
set_option linter.unusedSimpArgs false
namespace Go.Proofs.YtboinnjncaehkaaGreatDoor
open Go.RowKit
def wthL (l FL:List Fd):List Fd:=FL.foldl (fun l f=>wth l f.n f.v) l
theorem wthL_step (l FL:List Fd) {k:Nat} (hk:k < FL.length):wthL l (FL.take (k+1))=wth (wthL l (FL.take k)) FL[k].n FL[k].v:=by
 unfold wthL
 rw [List.take_succ_eq_append_getElem hk,List.foldl_append];rfl
theorem wthL_len (l:List Fd):∀FL:List Fd,(wthL l FL).length≤l.length+FL.length
 | []=>Nat.le_refl _
 | f::r=>by
  have h1:=wthL_len (wth l f.n f.v) r
  have h2:=wth_len l f.n f.v
  show (wthL (wth l f.n f.v) r).length≤_
  rw [List.length_cons];omega
theorem size_emp {s:ByteArray}:(s.toList.isEmpty)=decide (s.size=0):=by
 rw [emp_eq,decide_eq_decide,←List.length_eq_zero_iff,B_len]
def fd4 (T1 T2 T3 T4:ByteArray):List Fd:=[⟨{ data:=#[68,101,112,101,110,100,115] },T1⟩,⟨{ data:=#[82,101,99,111,109,109,101,110,100,115] },T2⟩,⟨{ data:=#[67,111,110,102,108,105,99,116,115] },T3⟩,⟨{ data:=#[80,114,111,118,105,100,101,115] },T4⟩]
theorem rd_fd4 (W:World) (T1 T2 T3 T4:ByteArray):rdFds (W.alloc (.cells #[.string { data:=#[68,101,112,101,110,100,115] },.string T1,.string { data:=#[82,101,99,111,109,109,101,110,100,115] },.string T2,.string { data:=#[67,111,110,102,108,105,99,116,115] },.string T3,.string { data:=#[80,114,111,118,105,100,101,115] },.string T4] 78)) (fun b=>b=W.heap.size) (fd4 T1 T2 T3 T4) [.slice (some ⟨W.heap.size,0,none⟩) 4 4]:=
 rd_block rdFd_good (b:=W.heap.size) (l:=fd4 T1 T2 T3 T4) (css:=[[.string { data:=#[68,101,112,101,110,100,115] },.string T1],[.string { data:=#[82,101,99,111,109,109,101,110,100,115] },.string T2],[.string { data:=#[67,111,110,102,108,105,99,116,115] },.string T3],[.string { data:=#[80,114,111,118,105,100,101,115] },.string T4]]) (heap_alloc_new W _) rfl rfl rfl (fun k hk=>by
  rcases k with _|_|_|_|k
  ·exact ⟨_,rfl,rfl⟩
  ·exact ⟨_,rfl,rfl⟩
  ·exact ⟨_,rfl,rfl⟩
  ·exact ⟨_,rfl,rfl⟩
  ·simp [fd4] at hk;omega) (by simp [fd4])
theorem gr_wr0 (W:World) (base:Nat) (hN:base≤W.heap.size) (n v:ByteArray):Grow rdFd 2 (fun _=>True) (W.alloc (.cells #[.string { data:=#[80,97,99,107,97,103,101] },.string n,.string { data:=#[86,101,114,115,105,111,110] },.string v] 78)) base 78 (.slice (some ⟨W.heap.size,0,none⟩) 2 2) [⟨{ data:=#[80,97,99,107,97,103,101] },n⟩,⟨{ data:=#[86,101,114,115,105,111,110] },v⟩]:=
 Grow.blk rdFd_good (b:=W.heap.size) (l:=[⟨{ data:=#[80,97,99,107,97,103,101] },n⟩,⟨{ data:=#[86,101,114,115,105,111,110] },v⟩]) (css:=[[.string { data:=#[80,97,99,107,97,103,101] },.string n],[.string { data:=#[86,101,114,115,105,111,110] },.string v]]) (heap_alloc_new W _) hN rfl rfl (by simp) (fun k hk=>by
  rcases k with _|_|k
  ·exact ⟨_,rfl,rfl⟩
  ·exact ⟨_,rfl,rfl⟩
  ·simp at hk;omega)
theorem moved_ne {W:World} {v v':Value} {b:Nat} (hm:Moved W v v') (h1:v.ownBlock≠some b) (h2:b < W.heap.size) (h:v'.ownBlock=some b):False:=by
 rcases hm with e|⟨c,e,hc⟩
 ·rw [e] at h;exact h1 h
 ·rw [e] at h;injection h with h;omega
theorem no_short {V wx w2:World} {o o':Obj} (hV:V.heap[w2.heap.size]?=some o) (hs:V.heap.size=w2.heap.size+1) (hb:Below V.heap.size V (wx.alloc o')) (hne:o≠o'):V.heap.size≤wx.heap.size:=by
 have h1:=hb.size
 rw [World.size_alloc] at h1
 rcases Nat.lt_or_ge wx.heap.size V.heap.size with h|h
 ·have e:w2.heap.size=wx.heap.size:=by omega
  have h2:=hb.block w2.heap.size (by omega)
  rw [hV,e,heap_alloc_new] at h2
  injection h2 with h2
  exact absurd h2.symm hne
 ·exact h
set_option maxHeartbeats 8000000 in
theorem ewrite_any (x:Ent) (A1:Option Addr) (c1:Nat) (A2:Option Addr) (c2:Nat) (A3:Option Addr) (c3:Nat) (A4:Option Addr) (c4:Nat) (w:World) (hx:EntV w (lt_ w.heap.size) x A1 c1 A2 c2 A3 c3 A4 c4) (E:EnvR w) :
  Calls Tryz.prog 43 #[x.val A1 c1 A2 c2 A3 c3 A4 c4] w fun e w'=>(∃A c,e=.returned (.slice A (wrE x).length c)∧rdFds w' (fun b=>w.heap.size≤b∧b < w'.heap.size) (wrE x) [.slice A (wrE x).length c])∧Below w.heap.size w w':=by
 have HX:=Lib.hid hx
 have HE:=Lib.hid E
 have XL:=Lib.hid (fun h=>rgtE_lens (x:=x) h)
 have XE:=Lib.hid (show wrE x=if rgtE x=true then wthL [⟨{ data:=#[80,97,99,107,97,103,101] },x.n⟩,⟨{ data:=#[86,101,114,115,105,111,110] },x.v⟩] (fd4 (mk (prtG x.d)) (mk (prtG x.r)) (mk (prtG (x.c.map fun a=>[a]))) (mk (prtG (x.p.map fun a=>[a])))) else [] from rfl)
 have KRt:=Lib.hid (fun (W:World) (hb:Below w.heap.size w W)=>eright_any x A1 c1 A2 c2 A3 c3 A4 c4 W (HX.out.on hb) (HE.out.below hb))
 have KD:=Lib.hid (fun (W:World) (hb:Below w.heap.size w W)=>print4_any A1 x.d.length c1 x.d W (HX.out.on hb).d (HE.out.below hb))
 have KR:=Lib.hid (fun (W:World) (hb:Below w.heap.size w W)=>print4_any A2 x.r.length c2 x.r W (HX.out.on hb).r (HE.out.below hb))
 have KC:=Lib.hid (fun (h:x.c.length≤1000) (W:World) (hb:Below w.heap.size w W)=>join4_any A3 x.c.length c3 x.c W (HX.out.on hb).c h (HE.out.below hb))
 have KP:=Lib.hid (fun (h:x.p.length≤1000) (W:World) (hb:Below w.heap.size w W)=>join4_any A4 x.p.length c4 x.p W (HX.out.on hb).p h (HE.out.below hb))
 generalize wrE x=LE at *
 generalize rgtE x=b at *
 generalize mk (prtG (x.p.map fun a=>[a]))=T4 at *
 generalize mk (prtG (x.c.map fun a=>[a]))=T3 at *
 generalize mk (prtG x.r)=T2 at *
 generalize mk (prtG x.d)=T1 at *
 obtain ⟨n,v,d,r,c,p⟩:=x
 have B1:=Lib.hid (show Below w.heap.size w (w.alloc (.cells #[.string n,.string v,.slice A1 d.length c1,.slice A2 r.length c2,.slice A3 c.length c3,.slice A4 p.length c4] 34)) from (Below.refl _ w).alloc (Nat.le_refl _) _)
 have KX:=Lib.hid (fun (W:World) (hb:Below (w.alloc (.cells #[.string n,.string v,.slice A1 d.length c1,.slice A2 r.length c2,.slice A3 c.length c3,.slice A4 p.length c4] 34)).heap.size (w.alloc (.cells #[.string n,.string v,.slice A1 d.length c1,.slice A2 r.length c2,.slice A3 c.length c3,.slice A4 p.length c4] 34)) W)=>box6 hb)
 show Calls Tryz.prog 43 #[.agg #[.string n,.string v,.slice A1 d.length c1,.slice A2 r.length c2,.slice A3 c.length c3,.slice A4 p.length c4]] w _
 obtain ⟨fi,hi,hz0,hz1,hz2⟩:=info_parts fd_info
 clear hx E
 obtain ⟨W1,hW1⟩:∃W,W=(w.alloc (.cells #[.string n,.string v,.slice A1 d.length c1,.slice A2 r.length c2,.slice A3 c.length c3,.slice A4 p.length c4] 34)):=⟨_,rfl⟩
 rw [←hW1] at B1 KX
 have V0:=Lib.hid (Below.refl W1.heap.size W1)
 go_enter Tryz.func43,Tryz.ntmps43
 go_wp2_with fail
 rw [←hW1]
 refine (KRt.out _ B1.out).mono ?_
 clear hW1
 rintro e w2 ⟨rfl,hb⟩
 have V1:=Lib.hid (V0.out.trans (hb.mono V0.out.size))
 have C1:=Lib.hid (B1.out.trans (hb.mono B1.out.size))
 clear hb
 obtain ⟨a0,a1,a2,a3,a4,a5⟩:=KX.out _ V1.out
 cases b
 ·have XX:=Lib.hid (show LE=[] from XE.out)
  go_wp2
  go_ret
  exact ⟨⟨none,0,by rw [XX.out];try rfl,by rw [XX.out];exact rdRow_nil _ _⟩,C1.out⟩
 have XX:=Lib.hid (show LE=wthL [⟨{ data:=#[80,97,99,107,97,103,101] },n⟩,⟨{ data:=#[86,101,114,115,105,111,110] },v⟩] (fd4 T1 T2 T3 T4) from XE.out)
 obtain ⟨l12,l8⟩:=XL.out rfl
 have KC:=Lib.hid (KC.out (Nat.le_trans l12 (by omega)))
 have KP:=Lib.hid (KP.out (Nat.le_trans l8 (by omega)))
 clear l12 l8 XL XE KRt
 have G0:=Lib.hid (gr_wr0 w2 w.heap.size C1.out.size n v)
 obtain ⟨V,hV⟩:∃W,W=w2.alloc (.cells #[.string { data:=#[80,97,99,107,97,103,101] },.string n,.string { data:=#[86,101,114,115,105,111,110] },.string v] 78):=⟨_,rfl⟩
 have V2:=Lib.hid (show Below W1.heap.size W1 V by rw [hV];exact V1.out.alloc V1.out.size _)
 have C2:=Lib.hid (show Below w.heap.size w V by rw [hV];exact C1.out.alloc C1.out.size _)
 rw [←hV] at G0
 have HS:=Lib.hid (show V.heap[w2.heap.size]?=some (.cells #[.string { data:=#[80,97,99,107,97,103,101] },.string n,.string { data:=#[86,101,114,115,105,111,110] },.string v] 78)∧V.heap.size=w2.heap.size+1 by rw [hV];exact ⟨heap_alloc_new w2 _,World.size_alloc _ _⟩)
 have KD:=Lib.hid (fun (W:World) (hb:Below V.heap.size V W)=>KD.out W (C2.out.trans (hb.mono C2.out.size)))
 have KR:=Lib.hid (fun (W:World) (hb:Below V.heap.size V W)=>KR.out W (C2.out.trans (hb.mono C2.out.size)))
 have KC:=Lib.hid (fun (W:World) (hb:Below V.heap.size V W)=>KC.out W (C2.out.trans (hb.mono C2.out.size)))
 have KP:=Lib.hid (fun (W:World) (hb:Below V.heap.size V W)=>KP.out W (C2.out.trans (hb.mono C2.out.size)))
 go_upto_region 4 with fail
 go_cut [32,33,34] from 16 to 34 (fun s32 s33 s34 wx=>s33=.int .i64 4∧s34=.int .i64 0∧∃q:Addr,s32=.slice (some q) 4 4∧rdFds wx (fun b=>V.heap.size≤b∧b < wx.heap.size) (fd4 T1 T2 T3 T4) [.slice (some q) 4 4]∧Below V.heap.size V wx)
 case first=>
  rw [←hV]
  clear hV a0 a1 a2 a3 a4 a5
  obtain ⟨a0,a1,a2,a3,a4,a5⟩:=KX.out _ V2.out
  have bb:=(Below.refl V.heap.size V).drew
  clear a0 a1
  go_region_held3 (fun W=>W.cell? ⟨w.heap.size,2,none⟩=some (.slice A1 d.length c1)∧W.cell? ⟨w.heap.size,3,none⟩=some (.slice A2 r.length c2)∧W.cell? ⟨w.heap.size,4,none⟩=some (.slice A3 c.length c3)∧W.cell? ⟨w.heap.size,5,none⟩=some (.slice A4 p.length c4)∧Below V.heap.size V W)
   (first|(go_split_ands;refine ⟨?_,?_,?_,?_,?_⟩<;>first|assumption|exact keep6 hbx (by assumption)|exact Below.trans (by assumption) (hbx.mono (Below.size (by assumption)))|exact cell_al _ (by assumption)|exact Below.alloc (by assumption) (Below.size (by assumption)) _)|go_keep)
   (first|(go_at_call 80;(with_reducible refine (KD.out _ (by go_split_ands;assumption)).mono ?_);rintro e wx ⟨rfl,hbx⟩)|(go_at_call 80;(with_reducible refine (KR.out _ (by go_split_ands;assumption)).mono ?_);rintro e wx ⟨rfl,hbx⟩)|(go_at_call 81;(with_reducible refine (KC.out _ (by go_split_ands;assumption)).mono ?_);rintro e wx ⟨rfl,hbx⟩)|(go_at_call 81;(with_reducible refine (KP.out _ (by go_split_ands;assumption)).mono ?_);rintro e wx ⟨rfl,hbx⟩))
  all_goals
   go_split_ands
   go_wp2_with fail
   go_meet
   exact ⟨rfl,rfl,_,rfl,rdFds_good.more (rd_fd4 _ T1 T2 T3 T4) (fun b hb=>by subst hb;rw [World.size_alloc];exact ⟨no_short HS.out.1 HS.out.2 (by assumption) (fun h=>by injection h with h1;exact absurd (congrArg Array.size h1) (by simp)),Nat.lt_succ_self _⟩),by assumption⟩
 case rest=>
  obtain ⟨rfl,rfl,q,rfl,hfl,hbx⟩:=hcut
  obtain ⟨w3,rfl⟩:∃w3:World,w3=wc:=⟨_,rfl⟩
  have F3:=Lib.hid (show rdFds w3 (fun b=>b < w3.heap.size∧(Value.slice (some ⟨w2.heap.size,0,none⟩) 2 2).ownBlock≠some b) (fd4 T1 T2 T3 T4) [.slice (some q) 4 4] from rdFds_good.more hfl fun b hb=>⟨hb.2,fun hh=>by simp only [Value.ownBlock,Option.some.injEq] at hh;have:=hb.1;rw [hV,World.size_alloc] at this;omega⟩)
  have G3:=Lib.hid (G0.out.below rdFd_good hbx)
  have C3:=Lib.hid (C2.out.trans (hbx.mono C2.out.size))
  obtain ⟨FL,hFL⟩:∃FL,FL=fd4 T1 T2 T3 T4:=⟨_,rfl⟩
  have HL:=Lib.hid (show FL.length=4 by rw [hFL];rfl)
  rw [←hFL] at F3 XX
  obtain ⟨L0,hL0⟩:∃L0,L0=([⟨{ data:=#[80,97,99,107,97,103,101] },n⟩,⟨{ data:=#[86,101,114,115,105,111,110] },v⟩]:List Fd):=⟨_,rfl⟩
  have HL0:=Lib.hid (show L0.length=2 by rw [hL0];rfl)
  have G3:=Lib.hid (show Grow rdFd 2 (fun _=>True) w3 w.heap.size 78 (.slice (some ⟨w2.heap.size,0,none⟩) 2 2) L0 by rw [hL0];exact G3.out)
  rw [←hL0] at XX
  clear hfl hbx hFL hL0 hV KX KD KR KC KP a0 a1 a2 a3 a4 a5 V0 V1 V2 C2 G0
  go_wp2
  go_loopw [3,5,34] (fun u _ i wr=>∃k:Nat,k≤4∧i=.int .i64 k∧Grow rdFd 2 (fun _=>True) wr w.heap.size 78 u (wthL L0 (FL.take k))∧rdFds wr (fun b=>b < wr.heap.size∧u.ownBlock≠some b) FL [.slice (some q) 4 4]∧Below w.heap.size w wr) (fun _ _ i _=>4 - (intOf i).toNat)
  case atStart=>exact ⟨0,Nat.zero_le _,rfl,G3.out,F3.out,C3.out⟩
  case round=>
   obtain ⟨k,hk,rfl,hG,hF,hbel⟩:=hrel
   have HF:=Lib.hid hF
   clear hF
   have HB:=Lib.hid hbel
   have HG:=Lib.hid hG
   clear hG
   by_cases hlt:k < 4
   ·have hltF:k < FL.length:=by rw [HL.out];exact hlt
    obtain ⟨-,-,-,ha⟩:=rdFds_at HF.out
    obtain ⟨ad,had0,had,h0,h1⟩:=ha k hltF
    injection had0 with had0
    subst had0
    have ST:=Lib.hid (wthL_step L0 FL hltF)
    have LN:=Lib.hid (show (wthL L0 (FL.take k)).length≤6 by have:=wthL_len L0 (FL.take k);rw [HL0.out,List.length_take] at this;omega)
    have i0:(0:Int)≤(k:Int):=by omega
    have i1:(k:Int) < (4:Int):=by omega
    clear ha had hbel
    generalize FL[k]=f at *
    obtain ⟨fn,fv⟩:=f
    simp only at ST h0 h1
    obtain ⟨Lk,hLk⟩:∃L,L=wthL L0 (FL.take k):=⟨_,rfl⟩
    rw [←hLk] at HG ST LN
    have BX:=Lib.hid (show Below wr.heap.size wr (wr.alloc (.cells #[.string fn,.string fv] 78)) from (Below.refl _ _).alloc (Nat.le_refl _) _)
    have HBX:=Lib.hid (HB.out.trans (BX.out.mono HB.out.size))
    have GX:=Lib.hid (HG.out.below rdFd_good BX.out)
    have FX:=Lib.hid (show rdFds (wr.alloc (.cells #[.string fn,.string fv] 78)) (fun b=>b < (wr.alloc (.cells #[.string fn,.string fv] 78)).heap.size∧u3.ownBlock≠some b) FL [.slice (some q) 4 4] from rdFds_good.both HF.out (fun b hb=>BX.out.block b hb.1) fun b hb=>⟨Nat.lt_of_lt_of_le hb.1 BX.out.size,hb.2⟩)
    by_cases hv:fv.size=0
    ·have ev:fv.toList.isEmpty=true:=by rw [size_emp];exact decide_eq_true hv
     have SX:=Lib.hid (show wthL L0 (FL.take (k+1))=Lk from ST.out.trans (if_pos hv))
     clear hv hLk
     go_wp2
     go_roundw
     case rel=>exact ⟨k+1,by omega,by go_num,by rw [SX.out];exact GX.out,FX.out,HBX.out⟩
     case measure=>simp [intOf];omega
    ·have ev:fv.toList.isEmpty=false:=by rw [size_emp];exact decide_eq_false hv
     have SX:=Lib.hid (show wthL L0 (FL.take (k+1))=Lk++[⟨fn,fv⟩] from ST.out.trans (if_neg hv))
     have hE:=(show rdFd (wr.alloc (.cells #[.string fn,.string fv] 78)) (fun b=>True∧b < (wr.alloc (.cells #[.string fn,.string fv] 78)).heap.size∧u3.ownBlock≠some b) ⟨fn,fv⟩ (#[.string fn,.string fv]:Array Value).toList from rfl)
     have hq3:Lk.length+1≤maxLen:=by have:=LN.out;unfold maxLen;omega
     have hq4:(Lk.length+1)*32≤140737488355328:=by have:=LN.out;omega
     have hs4:w.heap.size≤(wr.alloc (.cells #[.string fn,.string fv] 78)).heap.size:=HBX.out.size
     clear hv hLk
     go_wp2_with (at_builtin;refine wpList_grow1_at (wr.alloc (.cells #[.string fn,.string fv] 78)) rfl _ _ 55 rfl rdFd_good (by decide) (fun _=>True) w.heap.size 78 fi _ 32 Tryz.underlying55 hi hz0 hz1 hz2 rfl u3 _ rfl GX.out ⟨fn,fv⟩ _ 78 hE (wr.heap.size+1) (by rw [World.size_alloc]) rfl hq3 hq4 hs4 ?_)
     intro v5 w5 hG5 hg5 hm5
     have HB5:=Lib.hid (show Below w.heap.size w w5 from grow_below GX.out hg5 HBX.out (Nat.le_refl _) HBX.out.size)
     have F5:=Lib.hid (show rdFds w5 (fun b=>b < w5.heap.size∧v5.ownBlock≠some b) FL [.slice (some q) 4 4] from rdFds_good.both FX.out (fun b hb=>hg5.block b hb.1 fun hh=>hb.2 hh.symm) fun b hb=>⟨Nat.lt_of_lt_of_le hb.1 hg5.size,fun hh=>moved_ne hm5 hb.2 hb.1 hh⟩)
     have G5:=Lib.hid hG5
     clear hG5 hg5 hm5 hE
     go_wp2
     go_roundw
     case rel=>exact ⟨k+1,by omega,by go_num,by rw [SX.out];exact G5.out,F5.out,HB5.out⟩
     case measure=>simp [intOf];omega
   ·obtain rfl:k=4:=by omega
    have X4:=Lib.hid (show wthL L0 (FL.take 4)=LE by rw [XX.out,List.take_of_length_le (by rw [HL.out];exact Nat.le_refl _)])
    have hrd:rdFds wr (fun b=>w.heap.size≤b∧b < wr.heap.size) LE [u3]:=by
     have h2:Grow rdFd 2 (fun _=>False) wr w.heap.size 78 u3 LE:=Grow.flat (fun _ _ _ _ _ h=>h) (by have:=HG.out;rw [X4.out] at this;exact this)
     exact rdFds_good.more (h2.reads rdFd_good) fun b hb=>⟨hb.2.resolve_right id,hb.1⟩
    obtain ⟨A5,c5,hv5,_⟩:=id hrd
    simp only [List.cons.injEq,and_true] at hv5
    have HRD:=Lib.hid hrd
    clear hrd hbel HG
    subst hv5
    go_wp2
    go_ret
    exact ⟨⟨A5,c5,rfl,HRD.out⟩,HB.out⟩
theorem Env5.below {w w':World} {N:Nat} (h:Env5 w) (hb:Below N w w') (hN:1 < N):Env5 w':=by
 obtain ⟨m,h⟩:=h
 exact ⟨m,(hb.cell (show (⟨1,0,none⟩:Addr).block < N from hN)).trans h⟩
theorem bldSize:(Tryz.prog.info? 170).map (·.size)=some 2:=by kernel_rfl
theorem bldLies:liesAt Tryz.prog Tryz.prog.depth 170 (2 / Tryz.prog.cellsOf 170) 0 170 1=true:=by kernel_rfl
theorem byteInfo:(Tryz.prog.info? 5).map (fun i=>(i.zero,i.size,i.bytes))=some (some (.int .u8 0),1,1):=by kernel_rfl
theorem bldNe:170≠5:=by decide
abbrev BldAt (B b:Nat) (p:Value) (bs:List Value) (w:World):Prop:=Lib.BuilderAt 170 5 B b p bs w
abbrev IsBld (B b:Nat) (bs:List Value) (w:World):Prop:=Lib.IsBuilder 170 5 B b bs w
set_option maxHeartbeats 1000000 in
theorem copy5_used (b:Nat) (w:World) (h0:w.cell? ⟨b,0,none⟩=some (.pointer (some ⟨b,0,none⟩))) :
  Calls Tryz.prog 187 #[.pointer (some ⟨b,0,none⟩)] w fun e w'=>e=.returned (.tuple #[])∧w'=w:=by
 obtain ⟨j,hj,_⟩:=Option.map_eq_some_iff.1 bldSize
 go_enter Tryz.func187,Tryz.ntmps187
 go_wp2
 rw [Lib.run_neq_ptr_same w _ Tryz.underlying168 hj]
 go_wp2
 go_end0
 exact ⟨rfl,rfl⟩
set_option maxHeartbeats 1000000 in
theorem copy5_fresh (b:Nat) (w:World) (h0:w.cell? ⟨b,0,none⟩=some (.pointer none)) (hsh:w.shape? b=some (170,2)) (hfz:w.frozen? ⟨b,0,none⟩=false) :
  Calls Tryz.prog 187 #[.pointer (some ⟨b,0,none⟩)] w fun e w'=>e=.returned (.tuple #[])∧w'=w.setCell ⟨b,0,none⟩ (.pointer (some ⟨b,0,none⟩)):=by
 obtain ⟨j,hj,hjs⟩:=Option.map_eq_some_iff.1 bldSize
 go_enter Tryz.func187,Tryz.ntmps187
 go_wp2
 rw [Lib.run_to_unsafe w ⟨b,0,none⟩ Tryz.underlying168 Tryz.underlying225 hj (by rw [hjs];decide) hsh (Nat.zero_lt_succ 1)]
 simp only [Result.andThen]
 rw [Oper.upon_value]
 go_wp2
 rw [run_callFunc_extern Tryz.func218 (by kernel_rfl) (by kernel_rfl) (by kernel_rfl) (e:=Extern.AbiNoEscape.same) (by kernel_rfl)]
 rw [Lib.run_noEscape]
 simp only [Result.andThen]
 rw [Oper.upon_value]
 go_wp2
 rw [Lib.run_from_unsafe w ⟨b,0,none⟩ Tryz.underlying225 Tryz.underlying168 hj hsh bldLies]
 simp only [Result.andThen]
 rw [Oper.upon_value]
 go_wp2
 go_end0
 exact ⟨rfl,rfl⟩
theorem copy5_any (B b:Nat) (bs:List Value) (w:World) (h:IsBld B b bs w) :
  Calls Tryz.prog 187 #[.pointer (some ⟨b,0,none⟩)] w fun e w'=>e=.returned (.tuple #[])∧(BldAt B b (.pointer (some ⟨b,0,none⟩)) bs w'∧Below B w w'):=by
 rcases h with h|h
 ·refine (copy5_fresh b w h.cell0 h.shape h.frozen0).mono ?_
  rintro e w' ⟨rfl,rfl⟩
  exact ⟨rfl,h.used _,(Below.refl B w).setCell (p:=⟨b,0,none⟩) h.1 _⟩
 ·refine (copy5_used b w h.cell0).mono ?_
  rintro e w' ⟨rfl,rfl⟩
  exact ⟨rfl,h,Below.refl B _⟩
set_option maxHeartbeats 2000000 in
theorem wbyte5_any (B b:Nat) (bs:List Value) (c:Int) (w:World) (h:IsBld B b bs w) (hlen:bs.length+1≤140737488355328) (hBw:B≤w.heap.size) :
  Calls Tryz.prog 142 #[.pointer (some ⟨b,0,none⟩),.int .u8 c] w fun e w'=>e=.returned .nilIface∧(BldAt B b (.pointer (some ⟨b,0,none⟩)) (bs++[.int .u8 c]) w'∧Below B w w'):=by
 obtain ⟨i0,hi,hz0,hz1,hz2⟩:=info_parts byteInfo
 have CC:=Lib.hid (copy5_any B b bs w h)
 clear h
 go_enter Tryz.func142,Tryz.ntmps142
 go_wp2_with fail
 refine CC.out.mono ?_
 rintro e w1 ⟨rfl,h1,hb1⟩
 obtain ⟨hB,v,hbk,hown,hne⟩:=h1
 have c0:w1.cell? ⟨b,0,none⟩=some (.pointer (some ⟨b,0,none⟩)):=by rw [Lib.cell_of_heap hbk];rfl
 have c1:w1.cell? ⟨b,1,none⟩=some v:=by rw [Lib.cell_of_heap hbk];rfl
 go_wp2_with (at_builtin;refine wpList_append_own _ rfl _ _ 159 rfl B 5 i0 (.int .u8 0) 1 1 Tryz.underlying159 hi hz0 hz1 hz2 rfl (by decide) _ _ _ rfl (hown.alloc _) ⟨w1.heap.size,0,none⟩ 1 1 [.int .u8 c] rfl rfl ?c1 ?c2 ?c3 ?c4 ?c5 ?_)
 case c1=>
  intro j u hj
  match j,hj with
  | 0,hj=>simp at hj;subst hj;simp [Addr.add]
 case c2=>intro u hu;simp at hu;subst hu;rfl
 case c3=>unfold maxLen;omega
 case c4=>omega
 case c5=>have:=hb1.size;simp;omega
 intro v' w2 hown' hgrow _
 have hlt:b < w1.heap.size:=by
  rcases Nat.lt_or_ge b w1.heap.size with h'|h'
  ·exact h'
  ·simp [Array.getElem?_eq_none h'] at hbk
 have hb2:w2.heap[b]?=some (.cells #[.pointer (some ⟨b,0,none⟩),v] 170 (0,0)):=by
  rw [hgrow.block b (by simp;omega) (fun e=>hne e.symm),Lib.alloc_old w1 _ b hlt]
  exact hbk
 have d0:w2.cell? ⟨b,0,none⟩=some (.pointer (some ⟨b,0,none⟩)):=by rw [Lib.cell_of_heap hb2];rfl
 have d1:w2.cell? ⟨b,1,none⟩=some v:=by rw [Lib.cell_of_heap hb2];rfl
 have f1:w2.frozen? ⟨b,1,none⟩=false:=Lib.frozen_of_heap hb2 1
 obtain ⟨g,cap,rfl⟩:∃g cap,v'=.slice (some ⟨g,0,none⟩) (bs.length+1) cap:=by
  rcases hown'.2 with ⟨_,h0⟩|⟨g,cap,cur,hv,_⟩
  ·omega
  ·exact ⟨g,cap,hv⟩
 go_wp2
 go_ret
 refine ⟨rfl,?_,?_⟩
 ·exact Lib.BuilderAt.put (T:=170) (e:=5) hB hb2 (bs':=bs++[.int .u8 c]) (by simpa using hown') bldNe
 ·exact ((hb1.alloc (by have:=hb1.size;omega) _).grown hgrow (by have:=hb1.size;simp;omega) (fun k hk=>(hown.lt k hk).1)).setCell (p:=⟨b,1,none⟩) hB _
set_option maxHeartbeats 2000000 in
theorem wstr5_any (B b:Nat) (bs:List Value) (s:ByteArray) (w:World) (h:IsBld B b bs w) (hlen:bs.length+s.size≤140737488355328) (hBw:B≤w.heap.size) :
  Calls Tryz.prog 143 #[.pointer (some ⟨b,0,none⟩),.string s] w fun e w'=>e=.returned (.tuple #[.int .i64 s.size,.nilIface])∧(BldAt B b (.pointer (some ⟨b,0,none⟩)) (bs++Lib.strCells s) w'∧Below B w w'):=by
 obtain ⟨i0,hi,hz0,hz1,hz2⟩:=info_parts byteInfo
 have CC:=Lib.hid (copy5_any B b bs w h)
 clear h
 go_enter Tryz.func143,Tryz.ntmps143
 go_wp2_with fail
 refine CC.out.mono ?_
 rintro e w1 ⟨rfl,h1,hb1⟩
 obtain ⟨hB,v,hbk,hown,hne⟩:=h1
 have c0:w1.cell? ⟨b,0,none⟩=some (.pointer (some ⟨b,0,none⟩)):=by rw [Lib.cell_of_heap hbk];rfl
 have c1:w1.cell? ⟨b,1,none⟩=some v:=by rw [Lib.cell_of_heap hbk];rfl
 go_wp2_with (at_builtin;refine Lib.wpList_append_own_string _ rfl _ _ 159 9 rfl B 5 i0 Tryz.underlying159 Tryz.underlying9 hi hz0 hz1 hz2 _ _ _ rfl hown s rfl ?c3 ?c4 ?c5 ?_)
 case c3=>unfold maxLen;omega
 case c4=>omega
 case c5=>have:=hb1.size;omega
 intro v' w2 hown' hgrow _
 have hlt:b < w1.heap.size:=by
  rcases Nat.lt_or_ge b w1.heap.size with h'|h'
  ·exact h'
  ·simp [Array.getElem?_eq_none h'] at hbk
 have hb2:w2.heap[b]?=some (.cells #[.pointer (some ⟨b,0,none⟩),v] 170 (0,0)):=by
  rw [hgrow.block b hlt (fun e=>hne e.symm)]
  exact hbk
 have d0:w2.cell? ⟨b,0,none⟩=some (.pointer (some ⟨b,0,none⟩)):=by rw [Lib.cell_of_heap hb2];rfl
 have d1:w2.cell? ⟨b,1,none⟩=some v:=by rw [Lib.cell_of_heap hb2];rfl
 have f1:w2.frozen? ⟨b,1,none⟩=false:=Lib.frozen_of_heap hb2 1
 obtain ⟨ao,n',cap,rfl⟩:∃ao n' cap,v'=.slice ao n' cap:=by
  rcases hown'.2 with ⟨hv,_⟩|⟨g,cap,cur,hv,_⟩
  ·exact ⟨_,_,_,hv⟩
  ·exact ⟨_,_,_,hv⟩
 go_wp2
 go_ret2
 refine ⟨rfl,?_,?_⟩
 ·exact Lib.BuilderAt.put (T:=170) (e:=5) hB hb2 (bs':=bs++Lib.strCells s) (by simpa [Lib.strCells_length] using hown') bldNe
 ·exact (hb1.grown hgrow (by have:=hb1.size;omega) (fun k hk=>(hown.lt k hk).1)).setCell (p:=⟨b,1,none⟩) hB _
theorem ahead_self {c:Nat}:∀{l:List Nat},c ∉ l→ahead c l=l
 | [],_=>rfl
 | x::l,h=>by
  have hx:x≠c:=fun e=>h (by rw [e];simp)
  unfold ahead
  rw [List.takeWhile_cons,if_pos (by rw [bne_iff_ne];exact hx)]
  congr 1
  exact ahead_self fun e=>h (by simp [e])
theorem cut_head {c:Nat} (l:List Nat):∃r,cutBy c l=ahead c l::r∧(c ∈ l→r=cutBy c (l.drop ((ahead c l).length+1)))∧(c ∉ l→r=[]∧ahead c l=l):=by
 by_cases h:c ∈ l
 ·refine ⟨cutBy c (l.drop ((ahead c l).length+1)),?_,fun _=>rfl,fun hh=>absurd h hh⟩
  conv=>lhs;rw [ahead_at h]
  exact cutBy_at ahead_ne _
 ·have e:ahead c l=l:=ahead_self h
  refine ⟨[],?_,fun hh=>absurd hh h,fun _=>⟨rfl,e⟩⟩
  rw [e]
  exact cutBy_none fun x hx hxc=>h (hxc ▸ hx)
theorem joinL_two (sep x:List Nat) {L:List (List Nat)} (h:L≠[]):joinL sep (x::L)=x++(sep++joinL sep L):=by
 cases L with
 | nil=>exact absurd rfl h
 | cons y r=>rfl
theorem repl5_is:∀(k:Nat) (s:List UInt8),Lib.count s [10]=k→(Lib.replaceK [10] [10,32] k s).map UInt8.toNat=joinL [10,32] (cutBy 10 (s.map UInt8.toNat)):=by
 intro k
 induction k with
 | zero=>
  intro s h
  have h':=index_nm 10 s
  rcases h' with ⟨_,hi⟩|⟨hn,_,_⟩
  ·have:=Lib.count_hit (s:=s) (sub:=[10]) (by simp) ((Lib.index_one _ _).trans hi)
   omega
  ·obtain ⟨r,e1,_,e2⟩:=cut_head (c:=10) (s.map UInt8.toNat)
   obtain ⟨rfl,e3⟩:=e2 hn
   rw [e1,e3];rfl
 | succ k ih=>
  intro s h
  rcases index_nm 10 s with ⟨hm,hi⟩|⟨_,hi,_⟩
  ·have hi':Lib.index s [10]=((ahead 10 (s.map UInt8.toNat)).length:Nat):=(Lib.index_one _ _).trans hi
   have hc:=Lib.count_hit (s:=s) (sub:=[10]) (by simp) hi'
   rw [Lib.replaceK_hit _ _ _ _ _ hi',List.map_append,List.map_append,List.map_take]
   have hd:Lib.count (s.drop ((ahead 10 (s.map UInt8.toNat)).length+1)) [10]=k:=by
    have:([10]:List UInt8).length=1:=rfl
    rw [this] at hc;omega
   have hih:=ih _ hd
   rw [List.map_drop] at hih
   obtain ⟨r,e1,e2,_⟩:=cut_head (c:=10) (s.map UInt8.toNat)
   have er:=e2 hm
   rw [e1,joinL_two _ _ (by rw [er];exact cutBy_ne _ _),er,←hih]
   rw [show (UInt8.toNat 10)=10 from rfl] at *
   rw [ahead_take,List.append_assoc]
   rfl
  ·have:=Lib.count_miss ((Lib.index_one s 10).trans hi)
   omega
theorem lines5_any (s:ByteArray) (w:World) (E:Env5 w) (hs:s.size≤65536) :
  Calls Tryz.prog 188 #[.string s,.string { data:=#[10] }] w fun e w'=>e=.returned (.tuple #[.string (mk (ahead 10 (B s))),.string (mk ((B s).drop ((ahead 10 (B s)).length+1))),.bool (decide (10 ∈ B s))])∧Below w.heap.size w w':=by
 obtain ⟨m,hm⟩:=E
 refine (Tryz.strings_Cut s { data:=#[10] } m w (by omega) hm).mono ?_
 rintro e w' ⟨rfl,n,rfl⟩
 refine ⟨?_,belD (Below.refl _ _) n⟩
 obtain ⟨a,b,c⟩:=cut5_is s 10
 show Ending.returned (.tuple #[.string ⟨(Lib.cut s.data.toList [10]).1.toArray⟩,.string ⟨(Lib.cut s.data.toList [10]).2.1.toArray⟩,.bool (Lib.cut s.data.toList [10]).2.2])=_
 rw [a,b,c]
 rfl
theorem repl5_any (s:ByteArray) (w:World) (E:Env5 w) (hs:s.size≤65536) :
  Calls Tryz.prog 189 #[.string s,.string { data:=#[10] },.string { data:=#[10,32] }] w fun e w'=>e=.returned (.string (mk (joinL [10,32] (cutBy 10 (B s)))))∧Below w.heap.size w w':=by
 obtain ⟨m,hm⟩:=E
 refine (Tryz.strings_ReplaceAll s { data:=#[10] } { data:=#[10,32] } m w (by omega) hm (by decide) ?_).mono ?_
 ·have h:=Lib.countB_le { data:=#[10] } (by decide) s.size s (Nat.le_refl _)
  have e:({ data:=#[10,32] }:ByteArray).size=2:=rfl
  rw [e];omega
 ·rintro e w' ⟨rfl,hb⟩
  refine ⟨?_,hb⟩
  congr 2
  apply eq_mk
  have h:=repl5_is _ s.data.toList rfl
  rw [←show (s.data.toList.map UInt8.toNat)=B s from rfl,←h]
  unfold B
  rw [List.toList_toArray]
  rfl
theorem fld_is (f:Fd):fldT f=B f.n++([58]++((if ahead 10 (B f.v)=[] then [] else [32])++(joinL [10,32] (cutBy 10 (B f.v))++[10]))):=by
 obtain ⟨r,e,_⟩:=cut_head (c:=10) (B f.v)
 unfold fldT
 rw [e,body_join];rfl
theorem join_len5 (v:List Nat) (h:v.length≤65536):(joinL [10,32] (cutBy 10 v)).length≤4295163906:=by
 have h1:∀t ∈ cutBy 10 v,t.length≤65536:=fun t ht=>Nat.le_trans (cutBy_mem_len ht) h
 have h2:=joinL_len (sep:=[10,32]) h1
 have h3:(cutBy 10 v).length≤65537:=by rw [cutBy_len];have:=List.count_le_length (a:=10) (l:=v);omega
 have h4:(cutBy 10 v).length*(65536+[10,32].length)≤65537*65538:=by rw [show [10,32].length=2 from rfl];exact Nat.mul_le_mul_right _ h3
 omega
set_option maxHeartbeats 4000000 in
theorem ftext5_any (f:Fd) (w:World) (E:Env5 w) (hn:f.n.size≤65536) (hv:f.v.size≤65536) :
  Calls Tryz.prog 144 #[f.val] w fun e w'=>e=.returned (.string (mk (fldT f)))∧Below w.heap.size w w':=by
 obtain ⟨fn,fv⟩:=f
 have B1:=(Below.refl w.heap.size w).alloc (Nat.le_refl _) (.cells #[.string fn,.string fv] 78)
 have E1:Env5 (w.alloc (.cells #[.string fn,.string fv] 78)):=E.below B1 E.pos
 have CT:=Lib.hid (lines5_any fv _ E1 hv)
 have HB1:=Lib.hid B1
 have HE:=Lib.hid E
 have hq:(w.alloc (.cells #[.string fn,.string fv] 78)).heap.size=w.heap.size+1:=by rw [World.size_alloc]
 have q0:(w.alloc (.cells #[.string fn,.string fv] 78)).cell? ⟨w.heap.size,0,none⟩=some (.string fn):=by simp [go_sem]
 have q1:(w.alloc (.cells #[.string fn,.string fv] 78)).cell? ⟨w.heap.size,1,none⟩=some (.string fv):=by simp [go_sem]
 have Q:=Lib.hid (And.intro q0 (And.intro q1 hq))
 have RP:=Lib.hid (fun w E=>repl5_any fv w E hv)
 have hj:=join_len5 (B fv) (by rw [B_len];exact hv)
 have FI:=Lib.hid (fld_is ⟨fn,fv⟩)
 have HN:=Lib.hid hn
 have HJ:=Lib.hid hj
 show Calls Tryz.prog 144 #[.agg #[.string fn,.string fv]] w _
 clear B1 E1 hq q0 q1 hv hn hj E
 obtain ⟨jt,hjt⟩:∃jt,mk (joinL [10,32] (cutBy 10 (B fv)))=jt:=⟨_,rfl⟩
 have JT:=Lib.hid (show B jt=joinL [10,32] (cutBy 10 (B fv))∧jt.size≤4295163906 from by
  have hB:B jt=joinL [10,32] (cutBy 10 (B fv)):=by
   rw [←hjt]
   refine B_mk ?_
   have key:∀(L:List (List Nat)),(∀t ∈ L,∀c ∈ t,c < 256)→∀c ∈ joinL [10,32] L,c < 256:=by
    intro L
    induction L with
    | nil=>intro _ c hc;cases hc
    | cons x r ih=>
     intro h c hc
     cases r with
     | nil=>exact h x (by simp) c hc
     | cons y r=>
      rw [joinL_two _ _ (by simp)] at hc
      simp only [List.mem_append,List.mem_cons,List.not_mem_nil,or_false] at hc
      rcases hc with hc|(hc|hc)|hc
      ·exact h x (by simp) c hc
      ·omega
      ·omega
      ·exact ih (fun t ht=>h t (by simp [ht])) c hc
   exact key _ fun t ht c hc=>B_lt fv c (cutBy_mem ht c hc).1
  exact ⟨hB,by rw [←B_len,hB];exact HJ.out⟩)
 rw [hjt] at RP
 clear hjt
 obtain ⟨af,haf⟩:∃af,ahead 10 (B fv)=af:=⟨_,rfl⟩
 rw [haf] at CT FI
 have em:=emp_eq (mk af)
 have hmk:B (mk af)=af:=by
  rw [←haf];exact B_mk fun c hc=>B_lt fv c ((List.takeWhile_sublist _).subset hc)
 rw [hmk] at em
 clear hmk haf
 by_cases h0:af=[]
 ·rw [if_pos h0] at FI
  rw [decide_eq_true h0] at em
  obtain ⟨y1,a1,p1,z1⟩:=add_out fn { data:=#[58] } 65536 1 HN.out (by decide)
  obtain ⟨y2,a2,p2,z2⟩:=add_out y1 { data:=#[] } 65537 0 z1 (by decide)
  obtain ⟨y3,a3,p3,z3⟩:=add_out y2 jt 65537 4295163906 z2 JT.out.2
  obtain ⟨y4,a4,p4,z4⟩:=add_out y3 { data:=#[10] } 4295229443 1 z3 (by decide)
  have OUT:=Lib.hid (show mk (fldT ⟨fn,fv⟩)=y4 by
   refine (eq_mk ?_).symm
   rw [FI.out,p4,p3,p2,p1,B_append,B_append,B_append,B_append,JT.out.1]
   show B fn++[58]++[]++_++[10]=B fn++([58]++([]++(_++[10])))
   simp)
  clear p1 p2 p3 p4 z1 z2 z3 z4 h0 FI
  go_enter Tryz.func144,Tryz.ntmps144
  go_wp2_with fail
  refine CT.out.mono ?_
  rintro e w1 ⟨rfl,hb1⟩
  have HBW:=Lib.hid (HB1.out.trans (hb1.mono HB1.out.size))
  have k0:w1.drew.cell? ⟨w.heap.size,0,none⟩=some (.string fn):=(hb1.cell (show (⟨w.heap.size,0,none⟩:Addr).block < _ by rw [Q.out.2.2];exact Nat.lt_succ_self _)).trans Q.out.1
  have k1:w1.drew.cell? ⟨w.heap.size,1,none⟩=some (.string fv):=(hb1.cell (show (⟨w.heap.size,1,none⟩:Addr).block < _ by rw [Q.out.2.2];exact Nat.lt_succ_self _)).trans Q.out.2.1
  have QL:=Lib.hid (show w.heap.size < w1.drew.heap.size from Nat.lt_of_lt_of_le (by rw [Q.out.2.2];exact Nat.lt_succ_self _) hb1.size)
  have HBV:=Lib.hid (show Below w.heap.size w w1.drew from belD HBW.out 1)
  have EV:=Lib.hid (show Env5 w1.drew from HE.out.below HBV.out HE.out.pos)
  have KS:=Lib.hid (fun (W:World) (hb:Below w1.drew.heap.size w1.drew W)=>(show W.cell? ⟨w.heap.size,0,none⟩=some (.string fn)∧W.cell? ⟨w.heap.size,1,none⟩=some (.string fv) from ⟨(hb.cell (show (⟨w.heap.size,0,none⟩:Addr).block < w1.drew.heap.size from QL.out)).trans k0,(hb.cell (show (⟨w.heap.size,1,none⟩:Addr).block < w1.drew.heap.size from QL.out)).trans k1⟩))
  clear hb1
  go_wp2_with fail
  refine wp_region_noPanic ?_
  refine wp_region_L (fun W=>W.cell? ⟨w.heap.size,0,none⟩=some (.string fn)∧W.cell? ⟨w.heap.size,1,none⟩=some (.string fv)) 10 (by kernel_rfl) ⟨k0,k1⟩ (fun hHeld=>?_)
  refine wpAnyL_take (i:=0) (v:=?_) [9,8,4,2,1] rfl (by kernel_rfl) (by kernel_rfl) (by kernel_rfl) (fun _ _ _ h=>h) (by kernel_rfl) (by kernel_rfl) (by kernel_rfl) (Or.inl ⟨by rfl,?_⟩) (by assumption) ?_
  rotate_left
  ·intro w hSw
   try dsimp only at hSw
   go_simp
   first|done|with_reducible rfl
  try simp only [Act.put,List.setIfInBounds_toArray,List.set_cons_zero,List.set_cons_succ]
  refine wpAnyL_take (i:=1) (v:=?_) [9,8,4,2] rfl (by kernel_rfl) (by kernel_rfl) (by kernel_rfl) (fun _ _ _ h=>h) (by kernel_rfl) (by kernel_rfl) (by kernel_rfl) (Or.inl ⟨by rfl,?_⟩) (by assumption) ?_
  rotate_left
  ·intro w hSw
   try dsimp only at hSw
   go_simp
   first|done|with_reducible rfl
  try simp only [Act.put,List.setIfInBounds_toArray,List.set_cons_zero,List.set_cons_succ]
  refine wpAnyL_take (i:=2) (v:=?_) [9,8,4] rfl (by kernel_rfl) (by kernel_rfl) (by kernel_rfl) (fun _ _ _ h=>h) (by kernel_rfl) (by kernel_rfl) (by kernel_rfl) (Or.inl ⟨by rfl,?_⟩) (by assumption) ?_
  rotate_left
  ·intro w hSw
   try dsimp only at hSw
   go_simp
   first|done|with_reducible rfl
  try simp only [Act.put,List.setIfInBounds_toArray,List.set_cons_zero,List.set_cons_succ]
  refine wpAnyL_take (i:=3) (v:=?_) [9,8,4] rfl (by kernel_rfl) (by kernel_rfl) (by kernel_rfl) (fun _ _ _ h=>h) (by kernel_rfl) (by kernel_rfl) (by kernel_rfl) (Or.inl ⟨by rfl,?_⟩) (by assumption) ?_
  rotate_left
  ·intro w hSw
   try dsimp only at hSw
   go_simp
   first|done|with_reducible rfl
  try simp only [Act.put,List.setIfInBounds_toArray,List.set_cons_zero,List.set_cons_succ]
  refine wpAnyL_take (i:=4) (v:=?_) [9,8] rfl (by kernel_rfl) (by kernel_rfl) (by kernel_rfl) (fun _ _ _ h=>h) (by kernel_rfl) (by kernel_rfl) (by kernel_rfl) (Or.inl ⟨by rfl,?_⟩) (by assumption) ?_
  rotate_left
  ·intro w hSw
   try dsimp only at hSw
   go_simp
   first|done|with_reducible rfl
  try simp only [Act.put,List.setIfInBounds_toArray,List.set_cons_zero,List.set_cons_succ]
  refine wpAnyL_take (i:=5) (v:=?_) [9,8,7,6] rfl (by kernel_rfl) (by kernel_rfl) (by kernel_rfl) (fun _ _ _ h=>h) (by kernel_rfl) (by kernel_rfl) (by kernel_rfl) (Or.inl ⟨by rfl,?_⟩) (by assumption) ?_
  rotate_left
  ·intro w hSw
   try dsimp only at hSw
   go_simp
   first|done|with_reducible rfl
  try simp only [Act.put,List.setIfInBounds_toArray,List.set_cons_zero,List.set_cons_succ]
  refine wpAnyL_take (i:=6) (v:=?_) [9,8,7] rfl (by kernel_rfl) (by kernel_rfl) (by kernel_rfl) (fun _ _ _ h=>h) (by kernel_rfl) (by kernel_rfl) (by kernel_rfl) (Or.inl ⟨by rfl,?_⟩) (by assumption) ?_
  rotate_left
  ·intro w hSw
   try dsimp only at hSw
   go_simp
   first|done|with_reducible rfl
  try simp only [Act.put,List.setIfInBounds_toArray,List.set_cons_zero,List.set_cons_succ]
  refine wpAnyL_one (i:=7) (by kernel_rfl) rfl (fun K hK=>?_)
  go_simp
  refine (RP.out _ EV.out).mono ?_
  rintro e w4 ⟨rfl,hb4⟩
  have HB4:=Lib.hid hb4
  clear hb4
  go_wp2_with fail
  refine hK.out _ _ (KS.out _ HB4.out) (fun hHeld=>?_)
  clear hK K
  try simp only [Act.put,List.setIfInBounds_toArray,List.set_cons_zero,List.set_cons_succ]
  refine wpAnyL_one (i:=8) (by kernel_rfl) rfl (fun K hK=>?_)
  go_simp
  refine hK.out _ _ (KS.out _ HB4.out) (fun hHeld=>?_)
  clear hK K
  try simp only [Act.put,List.setIfInBounds_toArray,List.set_cons_zero,List.set_cons_succ]
  refine wpAnyL_one (i:=9) (by kernel_rfl) rfl (fun K hK=>?_)
  go_simp
  refine hK.out _ _ (KS.out _ HB4.out) (fun hHeld=>?_)
  clear hK K
  try simp only [Act.put,List.setIfInBounds_toArray,List.set_cons_zero,List.set_cons_succ]
  refine wpAnyL_last (by kernel_rfl) rfl (by kernel_rfl) (fun K hK=>?_)
  go_simp
  refine hK.out _ _ ?_
  clear hK K
  refine NoPanic.normal ?_
  go_wp2
  go_ret
  exact ⟨by rw [OUT.out];try rfl,HBV.out.trans (HB4.out.mono HBV.out.size)⟩
 ·rw [if_neg h0] at FI
  rw [decide_eq_false h0] at em
  obtain ⟨y1,a1,p1,z1⟩:=add_out fn { data:=#[58] } 65536 1 HN.out (by decide)
  obtain ⟨y2,a2,p2,z2⟩:=add_out y1 { data:=#[32] } 65537 1 z1 (by decide)
  obtain ⟨y3,a3,p3,z3⟩:=add_out y2 jt 65538 4295163906 z2 JT.out.2
  obtain ⟨y4,a4,p4,z4⟩:=add_out y3 { data:=#[10] } 4295229444 1 z3 (by decide)
  have OUT:=Lib.hid (show mk (fldT ⟨fn,fv⟩)=y4 by
   refine (eq_mk ?_).symm
   rw [FI.out,p4,p3,p2,p1,B_append,B_append,B_append,B_append,JT.out.1]
   show B fn++[58]++[32]++_++[10]=B fn++([58]++([32]++(_++[10])))
   simp)
  clear p1 p2 p3 p4 z1 z2 z3 z4 h0 FI
  go_enter Tryz.func144,Tryz.ntmps144
  go_wp2_with fail
  refine CT.out.mono ?_
  rintro e w1 ⟨rfl,hb1⟩
  have HBW:=Lib.hid (HB1.out.trans (hb1.mono HB1.out.size))
  have k0:w1.drew.cell? ⟨w.heap.size,0,none⟩=some (.string fn):=(hb1.cell (show (⟨w.heap.size,0,none⟩:Addr).block < _ by rw [Q.out.2.2];exact Nat.lt_succ_self _)).trans Q.out.1
  have k1:w1.drew.cell? ⟨w.heap.size,1,none⟩=some (.string fv):=(hb1.cell (show (⟨w.heap.size,1,none⟩:Addr).block < _ by rw [Q.out.2.2];exact Nat.lt_succ_self _)).trans Q.out.2.1
  have QL:=Lib.hid (show w.heap.size < w1.drew.heap.size from Nat.lt_of_lt_of_le (by rw [Q.out.2.2];exact Nat.lt_succ_self _) hb1.size)
  have HBV:=Lib.hid (show Below w.heap.size w w1.drew from belD HBW.out 1)
  have EV:=Lib.hid (show Env5 w1.drew from HE.out.below HBV.out HE.out.pos)
  have KS:=Lib.hid (fun (W:World) (hb:Below w1.drew.heap.size w1.drew W)=>(show W.cell? ⟨w.heap.size,0,none⟩=some (.string fn)∧W.cell? ⟨w.heap.size,1,none⟩=some (.string fv) from ⟨(hb.cell (show (⟨w.heap.size,0,none⟩:Addr).block < w1.drew.heap.size from QL.out)).trans k0,(hb.cell (show (⟨w.heap.size,1,none⟩:Addr).block < w1.drew.heap.size from QL.out)).trans k1⟩))
  clear hb1
  go_wp2_with fail
  refine wp_region_noPanic ?_
  refine wp_region_L (fun W=>W.cell? ⟨w.heap.size,0,none⟩=some (.string fn)∧W.cell? ⟨w.heap.size,1,none⟩=some (.string fv)) 10 (by kernel_rfl) ⟨k0,k1⟩ (fun hHeld=>?_)
  refine wpAnyL_take (i:=0) (v:=?_) [9,8,4,2,1] rfl (by kernel_rfl) (by kernel_rfl) (by kernel_rfl) (fun _ _ _ h=>h) (by kernel_rfl) (by kernel_rfl) (by kernel_rfl) (Or.inl ⟨by rfl,?_⟩) (by assumption) ?_
  rotate_left
  ·intro w hSw
   try dsimp only at hSw
   go_simp
   first|done|with_reducible rfl
  try simp only [Act.put,List.setIfInBounds_toArray,List.set_cons_zero,List.set_cons_succ]
  refine wpAnyL_take (i:=1) (v:=?_) [9,8,4,2] rfl (by kernel_rfl) (by kernel_rfl) (by kernel_rfl) (fun _ _ _ h=>h) (by kernel_rfl) (by kernel_rfl) (by kernel_rfl) (Or.inl ⟨by rfl,?_⟩) (by assumption) ?_
  rotate_left
  ·intro w hSw
   try dsimp only at hSw
   go_simp
   first|done|with_reducible rfl
  try simp only [Act.put,List.setIfInBounds_toArray,List.set_cons_zero,List.set_cons_succ]
  refine wpAnyL_take (i:=2) (v:=?_) [9,8,4] rfl (by kernel_rfl) (by kernel_rfl) (by kernel_rfl) (fun _ _ _ h=>h) (by kernel_rfl) (by kernel_rfl) (by kernel_rfl) (Or.inl ⟨by rfl,?_⟩) (by assumption) ?_
  rotate_left
  ·intro w hSw
   try dsimp only at hSw
   go_simp
   first|done|with_reducible rfl
  try simp only [Act.put,List.setIfInBounds_toArray,List.set_cons_zero,List.set_cons_succ]
  refine wpAnyL_take (i:=3) (v:=?_) [9,8,4] rfl (by kernel_rfl) (by kernel_rfl) (by kernel_rfl) (fun _ _ _ h=>h) (by kernel_rfl) (by kernel_rfl) (by kernel_rfl) (Or.inl ⟨by rfl,?_⟩) (by assumption) ?_
  rotate_left
  ·intro w hSw
   try dsimp only at hSw
   go_simp
   first|done|with_reducible rfl
  try simp only [Act.put,List.setIfInBounds_toArray,List.set_cons_zero,List.set_cons_succ]
  refine wpAnyL_take (i:=4) (v:=?_) [9,8] rfl (by kernel_rfl) (by kernel_rfl) (by kernel_rfl) (fun _ _ _ h=>h) (by kernel_rfl) (by kernel_rfl) (by kernel_rfl) (Or.inl ⟨by rfl,?_⟩) (by assumption) ?_
  rotate_left
  ·intro w hSw
   try dsimp only at hSw
   go_simp
   first|done|with_reducible rfl
  try simp only [Act.put,List.setIfInBounds_toArray,List.set_cons_zero,List.set_cons_succ]
  refine wpAnyL_take (i:=5) (v:=?_) [9,8,7,6] rfl (by kernel_rfl) (by kernel_rfl) (by kernel_rfl) (fun _ _ _ h=>h) (by kernel_rfl) (by kernel_rfl) (by kernel_rfl) (Or.inl ⟨by rfl,?_⟩) (by assumption) ?_
  rotate_left
  ·intro w hSw
   try dsimp only at hSw
   go_simp
   first|done|with_reducible rfl
  try simp only [Act.put,List.setIfInBounds_toArray,List.set_cons_zero,List.set_cons_succ]
  refine wpAnyL_take (i:=6) (v:=?_) [9,8,7] rfl (by kernel_rfl) (by kernel_rfl) (by kernel_rfl) (fun _ _ _ h=>h) (by kernel_rfl) (by kernel_rfl) (by kernel_rfl) (Or.inl ⟨by rfl,?_⟩) (by assumption) ?_
  rotate_left
  ·intro w hSw
   try dsimp only at hSw
   go_simp
   first|done|with_reducible rfl
  try simp only [Act.put,List.setIfInBounds_toArray,List.set_cons_zero,List.set_cons_succ]
  refine wpAnyL_one (i:=7) (by kernel_rfl) rfl (fun K hK=>?_)
  go_simp
  refine (RP.out _ EV.out).mono ?_
  rintro e w4 ⟨rfl,hb4⟩
  have HB4:=Lib.hid hb4
  clear hb4
  go_wp2_with fail
  refine hK.out _ _ (KS.out _ HB4.out) (fun hHeld=>?_)
  clear hK K
  try simp only [Act.put,List.setIfInBounds_toArray,List.set_cons_zero,List.set_cons_succ]
  refine wpAnyL_one (i:=8) (by kernel_rfl) rfl (fun K hK=>?_)
  go_simp
  refine hK.out _ _ (KS.out _ HB4.out) (fun hHeld=>?_)
  clear hK K
  try simp only [Act.put,List.setIfInBounds_toArray,List.set_cons_zero,List.set_cons_succ]
  refine wpAnyL_one (i:=9) (by kernel_rfl) rfl (fun K hK=>?_)
  go_simp
  refine hK.out _ _ (KS.out _ HB4.out) (fun hHeld=>?_)
  clear hK K
  try simp only [Act.put,List.setIfInBounds_toArray,List.set_cons_zero,List.set_cons_succ]
  refine wpAnyL_last (by kernel_rfl) rfl (by kernel_rfl) (fun K hK=>?_)
  go_simp
  refine hK.out _ _ ?_
  clear hK K
  refine NoPanic.normal ?_
  go_wp2
  go_ret
  exact ⟨by rw [OUT.out];try rfl,HBV.out.trans (HB4.out.mono HBV.out.size)⟩
theorem hp5_is (l:List UInt8):Lib.hasPrefix l [32]=hd32 (l.map UInt8.toNat):=by
 cases l with
 | nil=>rfl
 | cons c l=>
  show (((32:UInt8)==c)&&List.isPrefixOf [] l)=decide (c.toNat=32)
  rw [show List.isPrefixOf ([]:List UInt8) l=true by cases l<;>rfl,Bool.and_true]
  by_cases h:(32:UInt8)=c
  ·subst h;rfl
  ·have h2:¬c.toNat=32:=fun e=>h (UInt8.toNat_inj.1 (by rw [e];rfl))
   rw [decide_eq_false h2,beq_eq_false_iff_ne];exact h
theorem hp5_any (s:ByteArray) (w:World):Calls Tryz.prog 217 #[.string s,.string { data:=#[32] }] w fun e w'=>e=.returned (.bool (hd32 (B s)))∧w'=w:=by
 refine (Tryz.strings_HasPrefix s { data:=#[32] } w).mono ?_
 rintro e w' ⟨rfl,rfl⟩
 refine ⟨?_,rfl⟩
 show Ending.returned (.bool (Lib.hasPrefix s.data.toList [32]))=_
 rw [hp5_is];rfl
set_option maxHeartbeats 4000000 in
theorem rvalue5_any (v:ByteArray) (w:World) (E:Env5 w) :
  Calls Tryz.prog 186 #[.string v] w fun e w'=>e=.returned (.bool (decide (v.size≤60000)&&valB (B v)))∧Below w.heap.size w w':=by
 by_cases hl:60000 < v.size
 ·have q0:(60000:Int) < (v.size:Int):=by omega
  rw [decide_eq_false (show ¬v.size≤60000 by omega),Bool.false_and]
  clear hl E
  go_enter Tryz.func186,Tryz.ntmps186
  go_wp2
  go_ret
  exact ⟨rfl,Below.refl _ _⟩
 ·have q0:¬(60000:Int) < (v.size:Int):=by omega
  rw [decide_eq_true (show v.size≤60000 by omega),Bool.true_and]
  obtain ⟨m,hm⟩:=E
  have SP:=Lib.hid (split5_any v m w (by omega) hm)
  have VB:=Lib.hid (show valB (B v)=valL (cutBy 10 (B v)) from rfl)
  have HLL:=Lib.hid (show (cutBy 10 (B v)).length≤60001 by rw [cutBy_len];have:=List.count_le_length (a:=10) (l:=B v);rw [B_len] at this;omega)
  have HLB:=Lib.hid (fun l (hl:l ∈ cutBy 10 (B v))=>(show l.length≤60000∧B (mk l)=l from ⟨by have:=cutBy_mem_len hl;rw [B_len] at this;omega,B_mk fun c hc=>B_lt v c (cutBy_mem hl c hc).1⟩))
  have HL0:=Lib.hid (show 0 < (cutBy 10 (B v)).length by rw [cutBy_len];omega)
  rw [VB.out]
  clear VB
  generalize cutBy 10 (B v)=L at *
  clear hl hm
  go_enter Tryz.func186,Tryz.ntmps186
  go_wp2_with fail
  refine SP.out.mono ?_
  rintro e w1 ⟨rfl,rfl⟩
  obtain ⟨W1,hW1⟩:∃W1,W1=w.alloc (.cells ((L.map mk).map Value.string).toArray 9):=⟨_,rfl⟩
  have B1:=Lib.hid (show Below w.heap.size w W1 by rw [hW1];exact (Below.refl _ w).alloc (Nat.le_refl _) _)
  have Z1:=Lib.hid (show W1.heap.size=w.heap.size+1 by rw [hW1,World.size_alloc])
  have LC:=Lib.hid (fun (k:Nat) (hk:k < L.length)=>(show W1.cell? ⟨w.heap.size,k,none⟩=some (.string (mk L[k])) by
   rw [hW1]
   have h:=cells_new w ((L.map mk).map Value.string).toArray 9 k (.string (mk L[k])) (by simp [hk])
   have ea:(⟨w.heap.size,0,none⟩:Addr).add k=⟨w.heap.size,k,none⟩:=by unfold Addr.add;split<;>simp_all
   rw [ea] at h;exact h))
  rw [←hW1]
  clear hW1 SP
  go_wp2
  go_loopw [11] (fun i wr=>∃k:Nat,k≤L.length∧i=.int .i64 k∧(∀j (hj:j < L.length),j < k→lowB L[j]=false∧(0 < j→L[j]≠[]))∧(∀h0:0 < L.length,0 < k→hd32 L[0]=false)∧Below W1.heap.size W1 wr) (fun i _=>L.length - (intOf i).toNat)
  case atStart=>exact ⟨0,Nat.zero_le _,rfl,fun j _ hj=>absurd hj (Nat.not_lt_zero _),fun _ h=>absurd h (Nat.lt_irrefl _),Below.refl _ _⟩
  case round=>
   obtain ⟨k,hk,rfl,hall,hhd,hbel⟩:=hrel
   have HA:=Lib.hid hall
   have HH:=Lib.hid hhd
   have HB:=Lib.hid hbel
   clear hall hhd
   by_cases hlt:k < L.length
   ·have lcell:wr.cell? ⟨w.heap.size,k,none⟩=some (.string (mk L[k])):=(hbel.cell (show (⟨w.heap.size,k,none⟩:Addr).block < W1.heap.size by rw [Z1.out];exact Nat.lt_succ_self _)).trans (LC.out k hlt)
    have hlb:=HLB.out L[k] (List.getElem_mem hlt)
    have LW:=Lib.hid (low5_any (mk L[k]) wr (by rw [←B_len,hlb.2];unfold maxLen;omega))
    rw [hlb.2] at LW
    have HPA:=Lib.hid (fun w=>hp5_any (mk L[k]) w)
    rw [hlb.2] at HPA
    have em:=emp_eq (mk L[k])
    rw [hlb.2] at em
    have NO:=Lib.hid (fun h=>valL_no (L:=L) (k:=k) hlt h)
    have SZ:=Lib.hid HB.out.size
    have FB:=Lib.hid (fun (w2:World) (hb2:Below wr.heap.size wr w2)=>(show Below w.heap.size w w2 from (B1.out.trans (HB.out.mono B1.out.size)).trans (hb2.mono (Nat.le_trans B1.out.size HB.out.size))))
    clear hlb hbel
    by_cases hlow:lowB L[k]=true
    ·have X:=Lib.hid (NO.out (.inl hlow))
     rw [hlow] at LW
     clear hlow
     go_wp2_with fail
     refine LW.out.mono ?_
     rintro e w2 ⟨rfl,hb2⟩
     have HB2:=Lib.hid (FB.out _ hb2)
     clear hb2
     go_wp2
     go_ret
     exact ⟨by rw [X.out];try rfl,HB2.out⟩
    ·have hlow:=Bool.eq_false_iff.2 hlow
     rw [hlow] at LW
     have HLOW:=Lib.hid hlow
     clear hlow
     by_cases hk0:k=0
     ·subst hk0
      cases hh:hd32 L[0]
      ·rw [hh] at HPA
       have HHD:=Lib.hid hh
       clear hh em
       go_wp2_with fail
       refine LW.out.mono ?_
       rintro e w2 ⟨rfl,hb2⟩
       have HB2:=Lib.hid (HB.out.trans (hb2.mono SZ.out))
       clear hb2
       go_wp2_with fail
       refine (HPA.out _).mono ?_
       rintro e w3 ⟨rfl,rfl⟩
       go_wp2
       go_roundw
       case rel=>exact ⟨1,by omega,by go_num,fun j hj h=>by
        obtain rfl:j=0:=by omega
        exact ⟨HLOW.out,fun h=>absurd h (Nat.lt_irrefl _)⟩,fun _ _=>HHD.out,HB2.out⟩
       case measure=>simp [intOf];omega
      ·have X:=Lib.hid (valL_hd hlt hh)
       rw [hh] at HPA
       clear hh em
       go_wp2_with fail
       refine LW.out.mono ?_
       rintro e w2 ⟨rfl,hb2⟩
       have HB2:=Lib.hid (FB.out _ hb2)
       clear hb2
       go_wp2_with fail
       refine (HPA.out _).mono ?_
       rintro e w3 ⟨rfl,rfl⟩
       go_wp2
       go_ret
       exact ⟨by rw [X.out];try rfl,HB2.out⟩
     ·have p0:((k:Int)==0)=false:=by rw [beq_eq_false_iff_ne];omega
      have p1:(0:Int) < (k:Int):=by omega
      by_cases he:L[k]=[]
      ·have X:=Lib.hid (NO.out (.inr ⟨by omega,he⟩))
       rw [decide_eq_true he] at em
       clear he
       go_wp2_with fail
       refine LW.out.mono ?_
       rintro e w2 ⟨rfl,hb2⟩
       have HB2:=Lib.hid (FB.out _ hb2)
       clear hb2
       go_wp2
       go_ret
       exact ⟨by rw [X.out];try rfl,HB2.out⟩
      ·have HNE:=Lib.hid he
       rw [decide_eq_false he] at em
       have HK0:=Lib.hid hk0
       have hbd:=HLL.out
       clear he hk0
       go_wp2_with fail
       refine LW.out.mono ?_
       rintro e w2 ⟨rfl,hb2⟩
       have HB2:=Lib.hid (HB.out.trans (hb2.mono SZ.out))
       clear hb2
       go_wp2
       go_roundw
       case rel=>exact ⟨k+1,by omega,by go_num,fun j hj h=>by
        by_cases hjk:j=k
        ·subst hjk;exact ⟨HLOW.out,fun _=>HNE.out⟩
        ·exact HA.out j hj (by omega),fun h0 _=>HH.out h0 (by have:=HK0.out;omega),HB2.out⟩
       case measure=>simp [intOf];omega
   ·obtain rfl:k=L.length:=by omega
    have X:=Lib.hid (show valL L=true by
     rw [valL_yes HL0.out (fun k hk=>HA.out k hk hk),HH.out HL0.out HL0.out];rfl)
    have FB:=Lib.hid (B1.out.trans (HB.out.mono B1.out.size))
    clear hbel
    go_wp2
    go_ret
    exact ⟨by rw [X.out];try rfl,FB.out⟩
end Go.Proofs.YtboinnjncaehkaaGreatDoor
