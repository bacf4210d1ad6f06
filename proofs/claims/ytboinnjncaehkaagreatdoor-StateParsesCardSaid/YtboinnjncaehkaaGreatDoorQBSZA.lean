/- What the laws rest on: HeldA, D4e, D4f. -/
import Derived.Test.YtboinnjncaehkaaGreatDoorQBGZA
import Derived.Test.YtboinnjncaehkaaGreatDoorQBRZA
set_option maxRecDepth 100000
set_option linter.unusedVariables false
set_option linter.unusedSimpArgs false
namespace Go.Proofs.YtboinnjncaehkaaGreatDoor
open Go.RowKit
theorem setLast_at {α:Type} {l:List α} {m:Nat} (hm:l.length=m+1) (y:α):l.set m y=setLast l y:=by
 rcases List.eq_nil_or_concat l with rfl|⟨i,z,rfl⟩
 ·simp at hm
 ·rw [List.concat_eq_append] at hm ⊢
  rw [setLast_snoc]
  simp only [List.length_append,List.length_singleton] at hm
  obtain rfl:m=i.length:=by omega
  rw [List.set_append_right _ _ (Nat.le_refl _),Nat.sub_self];rfl
theorem lastD_at {l:List (List Fd)} {m:Nat} (hm:l.length=m+1):lastD l=l[m]'(by omega):=by
 unfold lastD
 rw [List.getLastD_eq_getLast?,List.getLast?_eq_getElem?,show l.length - 1=m by omega,List.getElem?_eq_getElem (by omega)];rfl
theorem RdR.setlast {W w4:World} {N r m cp n:Nat} {t:RS} {ad:Addr} {v5:Value} {y:List Fd} (hR:RdR W N r t) (hr:r < N) (hN:N≤W.heap.size) (hc0:W.cell? ⟨r,0,none⟩=some (.slice (some ad) n cp)) (hm:t.l.length=m+1)
  (hb:Below W.heap.size W w4) (hrd:rdFds w4 (fun b=>W.heap.size≤b∧b < w4.heap.size) y [v5]) :
  RdR (w4.setCell (ad.add m) v5) N r ⟨setLast t.l y,t.o⟩∧Fr N r W (w4.setCell (ad.add m) v5):=by
 obtain ⟨f0,f1,c1,v,c0,hG⟩:=hR
 rw [hc0] at c0
 injection c0 with c0
 subst c0
 have hG4:=hG.below rdFds_good hb
 obtain ⟨a0,a1⟩:=blk_of (hb.block r (by omega)) 0
 obtain ⟨a2,a3⟩:=blk_of (hb.block r (by omega)) 1
 obtain ⟨e0,hba,hbb,_,hfz⟩:=hG.spot
 have hlt:=hG.lt ad.block rfl
 obtain ⟨S1,S2⟩:=hG4.set rdFds_good (k:=m) (by omega) (j:=0) (by decide) v5 y (fun cs hcs=>by
  have hl:=rdFds_good.len hcs
  match cs,hl with
  | [c],_=>exact rdFds_good.more hrd fun b hb'=>⟨by omega,hb'.2,fun hh=>by injection hh with hh;omega⟩)
 rw [Nat.mul_one,Nat.add_zero,setLast_at hm] at S1
 have hbk:(ad.add m).block=ad.block:=blk_add _ _
 have hne:∀o,(⟨r,o,none⟩:Addr)≠ad.add m:=fun o e=>by have:=congrArg Addr.block e;rw [hbk] at this;simp only at this;omega
 refine ⟨⟨?_,?_,?_,.slice (some ad) n cp,?_,S1⟩,(Fr.of (hb.mono hN) (Nat.le_of_lt hr)).set (.inr (by rw [hbk];exact hba)) (Nat.le_of_lt hr) _⟩
 ·rw [World.frozen?_setCell,a1,f0]
 ·rw [World.frozen?_setCell,a3,f1]
 ·rw [World.cell?_setCell_other _ _ _ _ (fun e=>hne 1 e.symm),a2,c1]
 ·rw [World.cell?_setCell_other _ _ _ _ (fun e=>hne 0 e.symm),a0,hc0]
structure Ap (W WX:World) (b:Nat) (l:List Fd) (x:Value):Prop where
 g:Grow rdFd 2 (fun _=>True) WX W.heap.size 78 (.slice (some ⟨b,0,none⟩) 0 0) []
 x:rdFds WX (lt_ W.heap.size) l [x]
 s:∀c,lt_ W.heap.size c→True∧c < WX.heap.size∧(Value.slice (some ⟨b,0,none⟩) 0 0).ownBlock≠some c
 bs:W.heap.size≤WX.heap.size
 bel:Below W.heap.size W WX
theorem ap_of {W WX:World} {b:Nat} {l:List Fd} {x:Value} (hx:rdFds W (lt_ W.heap.size) l [x]) (hb:WX.heap[b]?=some (.cells #[] 78 (0,0))) (hge:W.heap.size≤b) (bel:Below W.heap.size W WX):Ap W WX b l x:=
 ⟨Grow.empty _ hb hge,rdFds_good.below hx bel,fun c hc=>⟨trivial,Nat.lt_of_lt_of_le hc bel.size,fun hh=>by simp only [Value.ownBlock,Option.some.injEq] at hh;unfold lt_ at hc;omega⟩,bel.size,bel⟩
theorem apA {W:World} {l:List Fd} {x:Value} (hx:rdFds W (lt_ W.heap.size) l [x]):Ap W (W.alloc (Obj.cells #[] 78)).drew W.heap.size l x:=
 ap_of hx (heap_alloc_new W _) (Nat.le_refl _) (belD ((Below.refl _ W).alloc (Nat.le_refl _) _) 1)
theorem apB {W:World} {l:List Fd} {x:Value} (n v:ByteArray) (hx:rdFds W (lt_ W.heap.size) l [x]):Ap W ((W.alloc (Obj.cells #[] 78)).alloc (Obj.cells #[Value.string n,Value.string v] 78)).drew W.heap.size l x:=
 ap_of hx (old_heap _ (heap_alloc_new W _)) (Nat.le_refl _) (belD (((Below.refl _ W).alloc (Nat.le_refl _) _).alloc (by simp) _) 1)
theorem apC {W:World} {l:List Fd} {x:Value} (n v:ByteArray) (hx:rdFds W (lt_ W.heap.size) l [x]):Ap W ((W.alloc (Obj.cells #[Value.string n,Value.string v] 78)).alloc (Obj.cells #[] 78)).drew (W.heap.size+1) l x:=
 ap_of hx (by have:=heap_alloc_new (W.alloc (Obj.cells #[Value.string n,Value.string v] 78)) (Obj.cells #[] 78);rw [World.size_alloc] at this;exact this) (Nat.le_succ _) (belD (((Below.refl _ W).alloc (Nat.le_refl _) _).alloc (by simp) _) 1)
structure Ap2 (W WY:World) (b:Nat) (l:List Fd) (v3:Value) (n v:ByteArray):Prop where
 g:Grow rdFd 2 (fun _=>True) WY W.heap.size 78 v3 l
 x:rdFds WY (fun c=>c=b) [⟨n,v⟩] [.slice (some ⟨b,0,none⟩) 1 1]
 s:∀c,c=b→True∧c < WY.heap.size∧v3.ownBlock≠some c
 bs:W.heap.size≤WY.heap.size
 bel:Below W.heap.size W WY
theorem ap_next {W WX w3:World} {b:Nat} {l:List Fd} {x v3:Value} (a:Ap W WX b l x) (hG:Grow rdFd 2 (fun _=>True) w3 W.heap.size 78 v3 l) (hg:WX.grownBy w3 (Value.slice (some ⟨b,0,none⟩) 0 0).ownBlock):W.heap.size≤w3.heap.size∧Below W.heap.size W w3:=
 ⟨Nat.le_trans a.bs hg.size,grow_below a.g hg a.bel (Nat.le_refl _) a.bs⟩
theorem ap2A {W WX w3:World} {b:Nat} {l:List Fd} {x v3:Value} (n v:ByteArray) (a:Ap W WX b l x) (hG:Grow rdFd 2 (fun _=>True) w3 W.heap.size 78 v3 l) (hg:WX.grownBy w3 (Value.slice (some ⟨b,0,none⟩) 0 0).ownBlock) :
  Ap2 W (w3.alloc (Obj.cells #[Value.string n,Value.string v] 78)) w3.heap.size l v3 n v:=by
 obtain ⟨h1,h2⟩:=ap_next a hG hg
 exact ⟨hG.alloc rdFd_good _,one_fd (heap_alloc_new w3 _) rfl,fun c hc=>⟨trivial,by rw [World.size_alloc];omega,fun hh=>by have:=(hG.lt c hh).2;omega⟩,by rw [World.size_alloc];omega,h2.alloc h1 _⟩
theorem ap2BC {W WX w3:World} {b q:Nat} {l:List Fd} {x v3:Value} {n v:ByteArray} (a:Ap W WX b l x) (hq:WX.heap[q]?=some (.cells #[Value.string n,Value.string v] 78 (0,0))) (hqb:q≠b) (hG:Grow rdFd 2 (fun _=>True) w3 W.heap.size 78 v3 l)
  (hg:WX.grownBy w3 (Value.slice (some ⟨b,0,none⟩) 0 0).ownBlock) (hm:v3.ownBlock=(Value.slice (some ⟨b,0,none⟩) 0 0).ownBlock∨∃c,v3.ownBlock=some c∧WX.heap.size≤c):Ap2 W w3 q l v3 n v:=by
 obtain ⟨h1,h2⟩:=ap_next a hG hg
 have hlt:q < WX.heap.size:=(Array.getElem?_eq_some_iff.1 hq).1
 have hne:∀c,c=q→v3.ownBlock≠some c:=fun c hc hh=>by
  rcases hm with h|⟨d,h,hd⟩
  ·rw [h] at hh;simp only [Value.ownBlock,Option.some.injEq] at hh;omega
  ·rw [h] at hh;injection hh with hh;omega
 exact ⟨hG,one_fd ((hg.block q hlt (fun hh=>by simp only [Value.ownBlock,Option.some.injEq] at hh;omega)).trans hq) rfl,fun c hc=>⟨trivial,by have:=hg.size;omega,hne c hc⟩,h1,h2⟩
theorem ap2B {W w3:World} {l:List Fd} {x v3:Value} {n v:ByteArray} (a:Ap W ((W.alloc (Obj.cells #[] 78)).alloc (Obj.cells #[Value.string n,Value.string v] 78)).drew W.heap.size l x) (hG:Grow rdFd 2 (fun _=>True) w3 W.heap.size 78 v3 l)
  (hg:((W.alloc (Obj.cells #[] 78)).alloc (Obj.cells #[Value.string n,Value.string v] 78)).drew.grownBy w3 (Value.slice (some ⟨W.heap.size,0,none⟩) 0 0).ownBlock) (hm:v3.ownBlock=(Value.slice (some ⟨W.heap.size,0,none⟩) 0 0).ownBlock∨∃c,v3.ownBlock=some c∧((W.alloc (Obj.cells #[] 78)).alloc (Obj.cells #[Value.string n,Value.string v] 78)).drew.heap.size≤c):Ap2 W w3 (W.heap.size+1) l v3 n v:=
 ap2BC a (by have:=heap_alloc_new (W.alloc (Obj.cells #[] 78)) (Obj.cells #[Value.string n,Value.string v] 78);rw [World.size_alloc] at this;exact this) (by omega) hG hg hm
theorem ap2C {W w3:World} {l:List Fd} {x v3:Value} {n v:ByteArray} (a:Ap W ((W.alloc (Obj.cells #[Value.string n,Value.string v] 78)).alloc (Obj.cells #[] 78)).drew (W.heap.size+1) l x) (hG:Grow rdFd 2 (fun _=>True) w3 W.heap.size 78 v3 l)
  (hg:((W.alloc (Obj.cells #[Value.string n,Value.string v] 78)).alloc (Obj.cells #[] 78)).drew.grownBy w3 (Value.slice (some ⟨W.heap.size+1,0,none⟩) 0 0).ownBlock) (hm:v3.ownBlock=(Value.slice (some ⟨W.heap.size+1,0,none⟩) 0 0).ownBlock∨∃c,v3.ownBlock=some c∧((W.alloc (Obj.cells #[Value.string n,Value.string v] 78)).alloc (Obj.cells #[] 78)).drew.heap.size≤c):Ap2 W w3 W.heap.size l v3 n v:=
 ap2BC a (old_heap _ (heap_alloc_new W _)) (by omega) hG hg hm
theorem ap_end {W WY w5:World} {b:Nat} {l:List Fd} {v3 v5:Value} {n v:ByteArray} (a:Ap2 W WY b l v3 n v) (hG:Grow rdFd 2 (fun _=>True) w5 W.heap.size 78 v5 (l++[⟨n,v⟩])) (hg:WY.grownBy w5 v3.ownBlock) :
  Below W.heap.size W w5∧rdFds w5 (fun b=>W.heap.size≤b∧b < w5.heap.size) (l++[⟨n,v⟩]) [v5]:=by
 refine ⟨grow_below a.g hg a.bel (Nat.le_refl _) a.bs,?_⟩
 have h2:Grow rdFd 2 (fun _=>False) w5 W.heap.size 78 v5 (l++[⟨n,v⟩]):=hG.flat fun _ _ _ _ _ h=>h
 exact rdFds_good.more (h2.reads rdFd_good) fun b hb=>⟨hb.2.resolve_right id,hb.1⟩
theorem q3parse_atm (s:ByteArray) (w:World) (hs:s.size≤65536):Calls Tryz.prog 126 #[.string s] w fun e w'=>e=.returned (.tuple #[.agg #[.string (atmOf (B s)).n,.int .i64 (atmOf (B s)).o,.string (atmOf (B s)).v],.int .i64 (relE (B s))])∧Below w.heap.size w w':=q3parse_any s w hs
def bigB (p:List Nat):Bool:=decide (6 < (cutBy 124 p).length)
theorem grp_big (p:List Nat):decide (6 < (grpT p).length)=bigB p:=by unfold bigB grpT;rw [List.length_map]
theorem many_fld (s:List Nat):manyF (fld s)=(decide (12 < (cutBy 44 s).length)||(cutBy 44 s).any bigB):=by
 unfold manyF fld
 rw [List.length_map,List.any_map]
 congr 1
 congr 1
 funext p
 exact grp_big p
theorem any_takeB {α:Type} (p:α→Bool) (l:List α) (k:Nat) (hk:k < l.length):(l.take (k+1)).any p=((l.take k).any p||p l[k]):=by
 rw [List.take_succ_eq_append_getElem hk,List.any_append];simp
theorem any_hitB {α:Type} {p:α→Bool} {l:List α} {k:Nat} (hk:k < l.length) (h:p l[k]=true):l.any p=true:=by
 rw [List.any_eq_true];exact ⟨l[k],List.getElem_mem hk,h⟩
theorem gF_take (l:List (List Nat)) (k:Nat) (hk:k < l.length):gF (l.take (k+1))=gF (l.take k)++grpT l[k]:=by
 rw [List.take_succ_eq_append_getElem hk,gF_snoc]
theorem fld_gF (s:List Nat):(fld s).flatten=gF (cutBy 44 s):=rfl
def grpA (p:List Nat):List Atm:=(grpT p).map atmOf
theorem depL_grpA {s:List Nat} (h0:s≠[]) (h:depE s=0):depL s=(cutBy 44 s).map grpA:=by
 unfold depL
 rw [if_neg h0,if_pos h]
 unfold fld
 rw [List.map_map];rfl
theorem take_pref {α:Type} (l:List α) (k:Nat):l.take k <+: l:=List.take_prefix k l
set_option maxHeartbeats 8000000 in
theorem q4parse_new (s:ByteArray) (w:World) (hs:s.size≤65536) :
  Calls Tryz.prog 69 #[.string s] w fun e w'=>(∃v,e=.returned (.tuple #[v,.int .i64 (depE (B s))])∧rdGrps w' (fun b=>w.heap.size≤b∧b < w'.heap.size) (depL (B s)) [v])∧Below w.heap.size w w':=by
 obtain ⟨i0,hi,hz0,hz1,hz2⟩:=info_parts grp_info
 obtain ⟨i1,hj,hy0,hy1,hy2⟩:=info_parts atm_info
 by_cases hnil:B s=[]
 ·have X:=Lib.hid (show depE (B s)=0 by unfold depE;rw [if_pos hnil])
  have X2:=Lib.hid (show depL (B s)=[] by unfold depL;rw [if_pos hnil])
  obtain rfl:s={ data:=#[] }:=by rw [eq_mk hnil];rfl
  go_enter Tryz.func69,Tryz.ntmps69
  go_wp2
  go_ret2
  exact ⟨⟨.slice none 0 0,by rw [X.out];rfl,by rw [X2.out];exact rdRow_nil _ _⟩,Below.refl _ _⟩
 have hne:s.toList.isEmpty=false:=by
  rw [toList_data,List.isEmpty_eq_false_iff]
  intro h
  exact hnil (by unfold B;rw [h];rfl)
 have KP:=Lib.hid (q4pieces_any s 44 (by decide) w hs)
 have hsz:∀p ∈ cutBy 44 (B s),p.length≤65536:=fun p hp=>by have:=cutBy_mem_len hp;rw [B_len] at this;omega
 have hpl:(cutBy 44 (B s)).length≤65537:=by
  rw [cutBy_len];have:=List.count_le_length (a:=44) (l:=B s);rw [B_len] at this;omega
 have HE0:=Lib.hid (show manyF (fld (B s))=true→depE (B s)=8∧depL (B s)=[] from fun h=>by
  have:depE (B s)=8:=by unfold depE;rw [if_neg hnil,if_pos h]
  exact ⟨this,depL_bad (by rw [this];decide)⟩)
 have HE1:=Lib.hid (show manyF (fld (B s))=false→depE (B s)=errF (gF (cutBy 44 (B s))) from fun h=>by
  unfold depE;rw [if_neg hnil,h,fld_gF];rfl)
 have HL:=Lib.hid (show depE (B s)=0→depL (B s)=(cutBy 44 (B s)).map grpA from fun h=>depL_grpA hnil h)
 have HL2:=Lib.hid (show depE (B s)≠0→depL (B s)=[] from depL_bad)
 have HM:=Lib.hid (many_fld (B s))
 clear hnil
 generalize manyF (fld (B s))=mm at *
 generalize depE (B s)=ee at *
 generalize depL (B s)=LL at *
 generalize cutBy 44 (B s)=P at *
 go_enter Tryz.func69,Tryz.ntmps69
 go_wp2_with fail
 refine KP.out.mono ?_
 rintro e w1 ⟨⟨A,n,cp,rfl,hrd⟩,hb1⟩
 obtain ⟨rfl,hnc,hcm,_⟩:=rdStrs_at hrd
 have hcm':cp≤9223372036854775807:=hcm
 have HR:=Lib.hid hrd
 have HB1:=Lib.hid hb1
 clear hrd hb1 KP
 by_cases h12:12 < P.length
 ·have h12':(12:Int) < P.length:=by omega
  have X:=Lib.hid (HE0.out (by rw [HM.out,decide_eq_true h12];rfl))
  go_wp2
  go_ret2
  exact ⟨⟨.slice none 0 0,by rw [X.out.1];rfl,by rw [X.out.2];exact rdRow_nil _ _⟩,HB1.out⟩
 have h12':¬(12:Int) < P.length:=by omega
 have HM2:=Lib.hid (show mm=P.any bigB by rw [HM.out,decide_eq_false h12];rfl)
 clear HM
 go_wp2
 go_loopw [6] (fun i wr=>∃k:Nat,k≤P.length∧i=.int .i64 k∧(P.take k).any bigB=false∧Below w1.heap.size w1 wr) (fun i _=>P.length - (intOf i).toNat)
 case atStart=>exact ⟨0,Nat.zero_le _,rfl,rfl,Below.refl _ _⟩
 case round=>
  obtain ⟨k,hk,rfl,hany,hbel⟩:=hrel
  by_cases hlt:k < P.length
  ·obtain ⟨ad,sk,rfl,had,e0,hBk⟩:=(rdStrs_at (rdStrs_good.below HR.out hbel)).2.2.2 k hlt
   have TK:=Lib.hid (any_takeB bigB P k hlt)
   have ZK:=Lib.hid (any_hitB (p:=bigB) (l:=P) (k:=k) hlt)
   have AK:=Lib.hid hany
   have HB:=Lib.hid hbel
   have hszk:sk.size≤65536:=by rw [←B_len,hBk];exact hsz _ (List.getElem_mem hlt)
   have K:=Lib.hid (q4pieces_any sk 124 (by decide) wr hszk)
   have hbig:bigB P[k]=decide (6 < (cutBy 124 (B sk)).length):=by rw [hBk];rfl
   clear hany hbel hBk
   generalize P[k]=p at *
   go_wp2_with fail
   refine K.out.mono ?_
   rintro e w2 ⟨⟨A2,n2,c2,rfl,hrd2⟩,hb2⟩
   obtain ⟨rfl,-,hcm2,-⟩:=rdStrs_at hrd2
   have HB2:=Lib.hid (bel2 HB.out hb2 (Nat.le_refl _))
   clear hrd2 hb2
   generalize (cutBy 124 (B sk)).length=m at *
   by_cases h6:6 < m
   ·have h6':(6:Int) < m:=by omega
    have X:=Lib.hid (HE0.out (by rw [HM2.out,ZK.out (by rw [hbig,decide_eq_true h6])]))
    go_wp2
    go_ret2
    exact ⟨⟨.slice none 0 0,by rw [X.out.1];rfl,by rw [X.out.2];exact rdRow_nil _ _⟩,bel2 HB1.out HB2.out (Nat.le_refl _)⟩
   ·have h6':¬(6:Int) < m:=by omega
    have Y:=Lib.hid (show (P.take (k+1)).any bigB=false by rw [TK.out,AK.out,hbig,decide_eq_false h6];rfl)
    go_wp2
    go_roundw
    case rel=>exact ⟨k+1,by omega,by go_num,Y.out,HB2.out⟩
    case measure=>simp [intOf];omega
  ·obtain rfl:k=P.length:=by omega
   rw [List.take_length] at hany
   have XE:=Lib.hid (HE1.out (by rw [HM2.out,hany]))
   have HB:=Lib.hid hbel
   clear hany hbel HM2 HE0 HE1
   go_wp2
   go_loopw [5,7,8,9,10,11,12] (fun v i lv gv j bx er wr=>∃k:Nat,k≤P.length∧i=.int .i64 k∧errF (gF (P.take k))=0∧Grow rdAtms 1 (fun b=>w1.heap.size≤b) wr w1.heap.size 71 v ((P.take k).map grpA)∧Below w1.heap.size w1 wr) (fun _ i _ _ _ _ _ _=>P.length - (intOf i).toNat)
   case atStart=>exact ⟨0,Nat.zero_le _,rfl,rfl,Grow.nil _ _ _ _,HB.out⟩
   case round=>
    obtain ⟨k,hk,rfl,herr,hG,hbel⟩:=hrel
    by_cases hlt:k < P.length
    ·obtain ⟨ad,sk,rfl,had,e0,hBk⟩:=(rdStrs_at (rdStrs_good.below HR.out hbel)).2.2.2 k hlt
     have TG:=Lib.hid (gF_take P k hlt)
     have TM:=Lib.hid (take_snoc grpA P k hlt)
     have EK:=Lib.hid herr
     have HB:=Lib.hid hbel
     have PF:=Lib.hid (gF_prefix (take_pref P (k+1)))
     have hszk:sk.size≤65536:=by rw [←B_len,hBk];exact hsz _ (List.getElem_mem hlt)
     have hqs:∀p ∈ cutBy 124 (B sk),p.length≤65536:=fun p hp=>by have:=cutBy_mem_len hp;rw [B_len] at this;omega
     have hql:(cutBy 124 (B sk)).length≤65537:=by rw [cutBy_len];have:=List.count_le_length (a:=124) (l:=B sk);rw [B_len] at this;omega
     have K:=Lib.hid (q4pieces_any sk 124 (by decide) wr hszk)
     have hgt:grpT P[k]=(cutBy 124 (B sk)).map trm:=by rw [hBk];rfl
     have hga:grpA P[k]=((cutBy 124 (B sk)).map trm).map atmOf:=by unfold grpA;rw [hgt]
     have h256:∀p ∈ cutBy 124 (B sk),∀c ∈ p,c < 256:=fun p hp c hc=>B_lt sk c (cutBy_mem hp c hc).1
     rw [hgt] at TG
     rw [hga] at TM
     have hlm:((P.take k).map grpA).length=k:=by rw [List.length_map,List.length_take];omega
     clear herr hbel hBk hgt hga
     generalize cutBy 124 (B sk)=Q at *
     go_wp2_with fail
     refine K.out.mono ?_
     rintro e w2 ⟨⟨A2,n2,c2,rfl,hrd2⟩,hb2⟩
     obtain ⟨rfl,-,hcm2,-⟩:=rdStrs_at hrd2
     have hcm2':c2≤9223372036854775807:=hcm2
     have HR2:=Lib.hid hrd2
     have hG2:=Lib.hid (hG.below rdAtms_good hb2)
     have HB2:=Lib.hid (bel2 HB.out hb2 (Nat.le_refl _))
     have hz2s:=hb2.size
     clear hrd2 hb2 hG
     go_wp2
     go_loopw [9,10,11,12] (fun gv j bx er wr3=>∃q:Nat,q≤Q.length∧j=.int .i64 q∧errF ((Q.take q).map trm)=0∧Grow rdAtm 3 (fun b=>w2.heap.size≤b) wr3 w2.heap.size 109 gv (((Q.take q).map trm).map atmOf)∧Below w2.heap.size w2 wr3) (fun _ j _ _ _=>Q.length - (intOf j).toNat)
     case atStart=>exact ⟨0,Nat.zero_le _,rfl,rfl,Grow.nil _ _ _ _,Below.refl _ _⟩
     case round=>
      obtain ⟨q,hq,rfl,herr,hG,hbel⟩:=hrel
      by_cases hlt2:q < Q.length
      ·obtain ⟨ad2,sq,rfl,had2,m0,hBq⟩:=(rdStrs_at (rdStrs_good.below HR2.out hbel)).2.2.2 q hlt2
       have TQ:=Lib.hid (take_snoc trm Q q hlt2)
       have HQ:=Lib.hid hbel
       have hszq:sq.size≤65536:=by rw [←B_len,hBq];exact hqs _ (List.getElem_mem hlt2)
       have KT:=Lib.hid (fun w=>q4trim_any sq w hszq)
       have h2:∀c ∈ trm (B sq),c < 256:=fun c hc=>B_lt sq c (trm_mem hc)
       have hzt:(mk (trm (B sq))).size≤65536:=by rw [size_mk];have:=trm_len (B sq);rw [B_len] at this;omega
       have KA:=Lib.hid (fun w=>q3parse_atm (mk (trm (B sq))) w hzt)
       rw [B_mk h2] at KA
       rw [hBq] at KT KA
       have hsn:=grp_snoc ((Q.take q).map trm) (trm Q[q])
       rw [if_pos herr] at hsn
       have HSN:=Lib.hid hsn
       have hlq:(((Q.take q).map trm).map atmOf).length=q:=by rw [List.length_map,List.length_map,List.length_take];omega
       clear herr hbel hBq hzt h2 hszq hsn
       obtain ⟨tt,ht⟩:∃tt,tt=trm Q[q]:=⟨_,rfl⟩
       rw [←ht] at KT KA HSN TQ
       clear ht
       obtain ⟨a,ha⟩:∃a,a=atmOf tt:=⟨_,rfl⟩
       have HA:=Lib.hid ha
       rw [←ha] at KA
       clear ha
       obtain ⟨ev,hev⟩:∃ev,ev=relE tt:=⟨_,rfl⟩
       have HEV:=Lib.hid hev
       rw [←hev] at KA
       clear hev
       generalize mk tt=stt at *
       by_cases h0:ev=0
       ·have t0:(ev != 0)=false:=by rw [h0];rfl
        have H0:=Lib.hid h0
        clear h0
        go_wp2_with fail
        refine (KT.out _).mono ?_
        rintro e w3 ⟨rfl,rfl⟩
        go_wp2_with fail
        refine (KA.out _).mono ?_
        rintro e w4 ⟨rfl,hb4⟩
        have hG4:=(hG.below rdAtm_good hb4).alloc rdAtm_good (.cells #[.string a.n,.int .i64 a.o,.string a.v] 109)
        have HB4:=Lib.hid ((bel2 HQ.out hb4 (Nat.le_refl _)).alloc (bel2 HQ.out hb4 (Nat.le_refl _)).size (.cells #[.string a.n,.int .i64 a.o,.string a.v] 109))
        have hN:=Lib.hid (World.size_alloc w4 (.cells #[.string a.n,.int .i64 a.o,.string a.v] 109)).symm
        have hE:=(show rdAtm (w4.alloc (.cells #[.string a.n,.int .i64 a.o,.string a.v] 109)) (fun b=>w2.heap.size≤b∧b < (w4.alloc (.cells #[.string a.n,.int .i64 a.o,.string a.v] 109)).heap.size∧u9.ownBlock≠some b) a (#[.string a.n,.int .i64 a.o,.string a.v]:Array Value).toList from rfl)
        have hn1:(((Q.take q).map trm).map atmOf).length+1≤maxLen:=by rw [hlq];unfold maxLen;omega
        have hn2:((((Q.take q).map trm).map atmOf).length+1)*40≤140737488355328:=by rw [hlq];omega
        have hbs4:w2.heap.size≤(w4.alloc (.cells #[.string a.n,.int .i64 a.o,.string a.v] 109)).heap.size:=HB4.out.size
        clear hG hb4 hlq
        go_wp2_with (at_builtin;refine wpList_grow1 (w4.alloc (.cells #[.string a.n,.int .i64 a.o,.string a.v] 109)) rfl _ _ 71 rfl rdAtm_good (by decide) (fun b=>w2.heap.size≤b) w2.heap.size 109 i1 _ 40 Tryz.underlying71 hj hy0 hy1 hy2 rfl u9 _ rfl hG4 a _ 109 hE _ hN.out rfl hn1 hn2 hbs4 ?_)
        intro v' w' hG' hgr
        have HB':=Lib.hid (grow_below hG4 hgr HB4.out (Nat.le_refl _) hbs4)
        clear hG4 hgr hE
        go_wp2
        go_roundw
        case rel=>exact ⟨q+1,by omega,by go_num,by rw [TQ.out,HSN.out,←HEV.out,H0.out],by rw [TQ.out,List.map_append,List.map_singleton,←HA.out];simpa using hG',HB'.out⟩
        case measure=>simp [intOf];omega
       ·have t0:(ev != 0)=true:=by rw [bne_iff_ne];exact h0
        have X:=Lib.hid (show ee=ev from by
         have h1:errF ((Q.take (q+1)).map trm)=ev:=by rw [TQ.out,HSN.out,HEV.out]
         have h2:errF (Q.map trm)=ev:=by
          rw [errF_prefix (p:=(Q.take (q+1)).map trm) (by obtain ⟨r,hr⟩:=take_pref Q (q+1);exact ⟨r.map trm,by rw [←List.map_append,hr]⟩) (by rw [h1];exact h0),h1]
         have h3:errF (gF (P.take (k+1)))=ev:=by rw [TG.out,errF_app,if_pos EK.out,h2]
         rw [XE.out,errF_prefix PF.out (by rw [h3];exact h0),h3])
        have XL:=Lib.hid (show LL=[] from HL2.out (by rw [X.out];exact h0))
        clear h0
        go_wp2_with fail
        refine (KT.out _).mono ?_
        rintro e w3 ⟨rfl,rfl⟩
        go_wp2_with fail
        refine (KA.out _).mono ?_
        rintro e w4 ⟨rfl,hb4⟩
        have HB4:=Lib.hid ((bel2 HQ.out hb4 (Nat.le_refl _)).alloc (bel2 HQ.out hb4 (Nat.le_refl _)).size (.cells #[.string a.n,.int .i64 a.o,.string a.v] 109))
        clear hb4 hG
        go_wp2
        go_ret2
        exact ⟨⟨.slice none 0 0,by rw [X.out];rfl,by rw [XL.out];exact rdRow_nil _ _⟩,bel2 HB1.out (bel2 HB2.out HB4.out (Nat.le_refl _)) (Nat.le_refl _)⟩
      ·obtain rfl:q=Q.length:=by omega
       rw [List.take_length] at herr hG
       have Y:=Lib.hid (show errF (gF (P.take (k+1)))=0 by rw [TG.out,errF_app,if_pos EK.out,herr])
       have hrg:=hG.reads rdAtm_good
       obtain ⟨gA,gc,hgv,_,_⟩:=hG.own
       rw [hgv] at hrg
       subst hgv
       have hG5:=hG2.out.below rdAtms_good hbel
       have HB5:=Lib.hid (bel2 HB2.out hbel (Nat.le_refl _))
       have hE:=(show rdAtms wr (fun b=>w1.heap.size≤b∧b < wr.heap.size∧u5.ownBlock≠some b) ((Q.map trm).map atmOf) (#[.slice gA ((Q.map trm).map atmOf).length gc]:Array Value).toList from
        rdAtms_good.more hrg fun b hb=>⟨by have:=HB2.out.size;rcases hb.2 with h|h<;>omega,hb.1,fun hh=>by have:=(hG2.out.lt b hh).2;rcases hb.2 with h|h<;>omega⟩)
       have hn1:((P.take k).map grpA).length+1≤maxLen:=by rw [hlm];unfold maxLen;omega
       have hn2:(((P.take k).map grpA).length+1)*24≤140737488355328:=by rw [hlm];omega
       have hbs5:w1.heap.size≤wr.heap.size:=HB5.out.size
       rw [List.length_map,List.length_map] at hE
       clear hG hrg herr hbel
       go_wp2_with (at_builtin;refine wpList_grow1 wr rfl _ _ 31 rfl rdAtms_good (by decide) (fun b=>w1.heap.size≤b) w1.heap.size 71 i0 _ 24 Tryz.underlying31 hi hz0 hz1 hz2 rfl u5 _ rfl hG5 ((Q.map trm).map atmOf) _ 71 hE _ rfl rfl hn1 hn2 hbs5 ?_)
       intro v' w' hG' hgr
       have HB':=Lib.hid (grow_below hG5 hgr HB5.out (Nat.le_refl _) hbs5)
       clear hG5 hgr hE hlm
       go_wp2
       go_roundw
       case rel=>exact ⟨k+1,by omega,by go_num,Y.out,by rw [TM.out];simpa using hG',HB'.out⟩
       case measure=>simp [intOf];omega
    ·obtain rfl:k=P.length:=by omega
     rw [List.take_length] at herr hG
     have X0:=Lib.hid (show ee=0 by rw [XE.out,herr])
     have XL:=Lib.hid (HL.out X0.out)
     have GG:=Lib.hid (rdGrps_good.more (hG.reads rdAtms_good) (S':=fun b=>w.heap.size≤b∧b < wr.heap.size) fun b hb=>⟨by have:=HB1.out.size;rcases hb.2 with h|h<;>omega,hb.1⟩)
     clear hG herr
     go_wp2
     go_ret2
     exact ⟨⟨u5,by rw [X0.out];rfl,by rw [XL.out];exact GG.out⟩,bel2 HB1.out hbel (Nat.le_refl _)⟩
theorem q4parse_any (s:ByteArray) (w:World) (hs:s.size≤65536) :
  Calls Tryz.prog 69 #[.string s] w fun e w'=>(∃v,e=.returned (.tuple #[v,.int .i64 (depE (B s))])∧rdGrps w' (lt_ w'.heap.size) (depL (B s)) [v])∧Below w.heap.size w w':=by
 refine (q4parse_new s w hs).mono ?_
 rintro e' w' ⟨⟨v,rfl,hrd⟩,hb⟩
 exact ⟨⟨v,rfl,rdGrps_good.more hrd fun b hb=>hb.2⟩,hb⟩
theorem one_is {s:List Nat} (h:depE s=0):∀g ∈ depL s,1≤g.length:=by
 intro g hg
 by_cases h0:s=[]
 ·subst h0;simp [depL] at hg
 ·rw [depL_grpA h0 h] at hg
  obtain ⟨p,_,rfl⟩:=List.mem_map.1 hg
  unfold grpA grpT
  rw [List.length_map,List.length_map,cutBy_len];omega
set_option maxHeartbeats 2000000 in
theorem q4atoms_new (s:ByteArray) (w:World) (hs:s.size≤65536) :
  Calls Tryz.prog 70 #[.string s] w fun e w'=>(∃v,e=.returned (.tuple #[v,.int .i64 (atE (B s))])∧rdAtms w' (fun b=>w.heap.size≤b∧b < w'.heap.size) (atL (B s)) [v])∧Below w.heap.size w w':=by
 obtain ⟨i0,hi,hz0,hz1,hz2⟩:=info_parts atm_info
 have K:=Lib.hid (q4parse_any s w hs)
 by_cases h0:depE (B s)=0
 ·have hR:=(right_parts (right_of_parse (B_lt s) h0)).2
  have hone:=one_is h0
  have XY:=Lib.hid (fun h=>atE_ok (s:=B s) h0 h)
  have XN:=Lib.hid (fun h=>atE_many (s:=B s) h0 h)
  rw [h0] at K
  clear h0
  generalize depL (B s)=L at *
  go_enter Tryz.func70,Tryz.ntmps70
  go_wp2_with fail
  refine K.out.mono ?_
  rintro e w1 ⟨⟨v,rfl,hrd⟩,hb1⟩
  obtain ⟨A,c,hv,_⟩:=id hrd
  simp only [List.cons.injEq,and_true] at hv
  subst hv
  obtain ⟨_,hnc,hcm,_⟩:=rdGrps_at hrd
  have hcm':c≤9223372036854775807:=hcm
  have HR:=Lib.hid hrd
  have HB1:=Lib.hid hb1
  clear hrd hb1
  go_wp2
  go_loopw [6,7] (fun v i wr=>∃k:Nat,k≤L.length∧i=.int .i64 k∧(L.take k).all oneB=true∧Grow rdAtm 3 (fun _=>True) wr w1.heap.size 109 v (L.take k).flatten∧Below w1.heap.size w1 wr) (fun _ i _=>L.length - (intOf i).toNat)
  case atStart=>exact ⟨0,Nat.zero_le _,rfl,rfl,by rw [List.take_zero];exact Grow.nil _ _ _ _,Below.refl _ _⟩
  case round=>
   obtain ⟨k,hk,rfl,hall,hG,hbel⟩:=hrel
   by_cases hlt:k < L.length
   ·obtain ⟨ad,gA,gc,rfl,had,e0,e1⟩:=(rdGrps_at (rdGrps_good.below HR.out hbel)).2.2.2 k hlt
    have T2:=Lib.hid (all_takeL oneB L k hlt)
    have Z2:=Lib.hid (one_stop (L:=L) (k:=k) hlt)
    have TF:=Lib.hid (take_flat L k hlt)
    have A2:=Lib.hid hall
    have HB:=Lib.hid hbel
    have hfl:=flat_len hall
    rw [List.length_take] at hfl
    have hbs:=hbel.size
    have h1g:=hone _ (List.getElem_mem hlt)
    clear hall hbel
    generalize L[k]=g at *
    generalize (L.take k).flatten=fl at *
    by_cases h1:g.length≤1
    ·obtain ⟨x,rfl⟩:=List.length_eq_one_iff.1 (show g.length=1 by omega)
     have hat:=(rdAtms_at e1).2.2.2 0 (by simp)
     obtain ⟨ga,rfl,_,m0,m1,m2⟩:=hat
     simp only [Nat.zero_mul,List.getElem_cons_zero] at m0 m1 m2
     have hadd:ga.add 0=ga:=by unfold Addr.add;simp
     rw [hadd] at m0 m1 m2
     have t1:(((1:Nat):Int) != 1)=false:=by decide
     have hn1:fl.length+1≤maxLen:=by unfold maxLen;omega
     have hn2:(fl.length+1)*40≤140737488355328:=by omega
     have hE:=(show rdAtm wr (fun b=>True∧b < wr.heap.size∧u6.ownBlock≠some b) x (#[.string x.n,.int .i64 x.o,.string x.v]:Array Value).toList from rfl)
     clear e1 h1g h1
     simp only [List.length_singleton] at e0
     go_wp2_with (at_builtin;refine wpList_grow1 wr rfl _ _ 32 rfl rdAtm_good (by decide) (fun _=>True) w1.heap.size 109 i0 _ 40 Tryz.underlying32 hi hz0 hz1 hz2 rfl u6 fl rfl hG x _ 109 hE _ rfl rfl hn1 hn2 hbs ?_)
     intro v' w' hG' hgr
     have HB':=Lib.hid (grow_below hG hgr HB.out (Nat.le_refl _) hbs)
     clear hG hgr hE
     go_wp2
     go_roundw
     case rel=>exact ⟨k+1,by omega,by go_num,by rw [T2.out,A2.out];rfl,by rw [TF.out];exact hG',HB'.out⟩
     case measure=>simp [intOf];omega
    ·have t1:((g.length:Int) != 1)=true:=by rw [bne_iff_ne];omega
     have X:=Lib.hid (XN.out (Z2.out (show oneB g=false by unfold oneB;rw [decide_eq_false h1])))
     go_wp2
     go_ret2
     exact ⟨⟨.slice none 0 0,by rw [X.out.1];rfl,by rw [X.out.2];exact rdRow_nil _ _⟩,bel2 HB1.out HB.out (Nat.le_refl _)⟩
   ·obtain rfl:k=L.length:=by omega
    rw [List.take_length] at hG hall
    have X:=Lib.hid (XY.out hall)
    have GG:=Lib.hid (rdAtms_good.more (Grow.reads rdAtm_good (Grow.flat (T':=fun _=>False) (fun _ _ _ _ _ h=>h) hG)) (S':=fun b=>w.heap.size≤b∧b < wr.heap.size) fun b hb=>⟨by have:=HB1.out.size;rcases hb.2 with h|h;exact Nat.le_trans this h;exact h.elim,hb.1⟩)
    clear hall hG
    go_wp2
    go_ret2
    exact ⟨⟨u6,by rw [X.out.1];rfl,by rw [X.out.2];exact GG.out⟩,bel2 HB1.out hbel (Nat.le_refl _)⟩
 ·have X:=Lib.hid (atE_bad (s:=B s) h0)
  have t0:(depE (B s) != 0)=true:=by rw [bne_iff_ne];exact h0
  clear h0
  generalize depE (B s)=ee at *
  go_enter Tryz.func70,Tryz.ntmps70
  go_wp2_with fail
  refine K.out.mono ?_
  rintro e w1 ⟨⟨v,rfl,hrd⟩,hb1⟩
  clear hrd
  go_wp2
  go_ret2
  exact ⟨⟨.slice none 0 0,by rw [X.out.1];rfl,by rw [X.out.2];exact rdRow_nil _ _⟩,hb1⟩
end Go.Proofs.YtboinnjncaehkaaGreatDoor
