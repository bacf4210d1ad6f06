/- What the laws rest on: E7f, E7g, HeldL, HeldG. -/
import Derived.Test.YtboinnjncaehkaaGreatDoorQAPZA
set_option maxRecDepth 100000
set_option linter.unusedVariables false
set_option linter.unusedSimpArgs false
namespace Go.Proofs.YtboinnjncaehkaaGreatDoor
open Go.RowKit
def FdR (w:World) (o:Option Hr) (e:Ending) (w':World):Prop:=(∃A1 c1 A2 c2 A3 c3 A4 c4,e=.returned (.tuple #[(o.getD nil7).val A1 c1 A2 c2 A3 c3 A4 c4,.bool o.isSome])∧EntV w' (lt_ w.heap.size) (o.getD nil7).e A1 c1 A2 c2 A3 c3 A4 c4)∧Below w.heap.size w w'
theorem fdR_none {w w':World} (h:Below w.heap.size w w'):FdR w none (.returned (.tuple #[.agg #[.string { data:=#[] },.string { data:=#[] },.slice none 0 0,.slice none 0 0,.slice none 0 0,.slice none 0 0,.bool false,.bool false],.bool false])) w':=
 ⟨⟨none,0,none,0,none,0,none,0,rfl,⟨rdRow_nil _ _,rdRow_nil _ _,rdRow_nil _ _,rdRow_nil _ _⟩⟩,h⟩
theorem fd_step {l:List Hr} {n:ByteArray} {k:Nat} (hk:k < l.length) (h:fdH (l.take k) n=none) (hn:l[k].e.n≠n):fdH (l.take (k+1)) n=none:=by
 rw [fd_none] at h ⊢
 intro x hx
 rw [List.take_succ_eq_append_getElem hk] at hx
 rcases List.mem_append.1 hx with hx|hx
 ·exact h x hx
 ·rw [List.mem_singleton.1 hx];exact hn
set_option maxHeartbeats 8000000 in
theorem q7find_any (A:Option Addr) (n c:Nat) (l:List Hr) (nm:ByteArray) (w:World) (h:rdHrs w (lt_ w.heap.size) l [.slice A n c]) :
  Calls Tryz.prog 19 #[.slice A n c,.string nm] w (FdR w (fdH l nm)):=by
 obtain ⟨rfl,hnc,hcm,hat⟩:=rdHrs_at h
 have hcm':c≤9223372036854775807:=hcm
 have HAT:=Lib.hid hat
 have HH:=Lib.hid h
 clear hcm hat h
 have B1:=Lib.hid (show Below w.heap.size w (w.alloc (.cells #[.string { data:=#[] },.string { data:=#[] },.slice none 0 0,.slice none 0 0,.slice none 0 0,.slice none 0 0,.bool false,.bool false] 36)) from (Below.refl _ w).alloc (Nat.le_refl _) _)
 go_enter Tryz.func19,Tryz.ntmps19
 go_wp2
 go_loop [6] (fun i=>∃k:Nat,k≤l.length∧i=.int .i64 k∧fdH (l.take k) nm=none) (fun i=>l.length - (intOf i).toNat)
 case atStart=>exact ⟨0,Nat.zero_le _,rfl,rfl⟩
 case round=>
  obtain ⟨k,hk,rfl,hno⟩:=hrel
  have HN:=Lib.hid hno
  clear hno
  by_cases hlt:k < l.length
  ·obtain ⟨ad,A1,c1,A2,c2,A3,c3,A4,c4,rfl,had,hv,g0,g1,g2,g3,g4,g5,g6,g7⟩:=HAT.out k hlt
   have HV:=Lib.hid hv
   have i0:(0:Int)≤(k:Int):=by omega
   have i1:(k:Int) < (l.length:Int):=by omega
   have h0:=keep6 B1.out g0
   have h1:=keep6 B1.out g1
   have h2:=keep6 B1.out g2
   have h3:=keep6 B1.out g3
   have h4:=keep6 B1.out g4
   have h5:=keep6 B1.out g5
   have h6:=keep6 B1.out g6
   have h7:=keep6 B1.out g7
   clear had hv g0 g1 g2 g3 g4 g5 g6 g7
   have hq:=str_eq l[k].e.n nm
   by_cases he:l[k].e.n=nm
   ·have FIN:=Lib.hid (fd_at hlt HN.out he)
    rw [decide_eq_true he] at hq
    clear he
    generalize l[k]=x at *
    obtain ⟨⟨n,v,d,r,c',p⟩,a,hh⟩:=x
    simp only at h0 h1 h2 h3 h4 h5 h6 h7 hq
    go_wp2
    have BB:=Lib.hid (show Below w.heap.size w (w.alloc (.cells #[.string n,.string v,.slice A1 d.length c1,.slice A2 r.length c2,.slice A3 c'.length c3,.slice A4 p.length c4,.bool a,.bool hh] 36)) from (Below.refl _ w).alloc (Nat.le_refl _) _)
    exact bodyPost_ret (v:=.tuple #[.agg #[.string n,.string v,.slice A1 d.length c1,.slice A2 r.length c2,.slice A3 c'.length c3,.slice A4 p.length c4,.bool a,.bool hh],.bool true]) (by simp [results,Tryz.results19,go_sem]) rfl ⟨⟨A1,c1,A2,c2,A3,c3,A4,c4,by rw [FIN.out];rfl,by rw [FIN.out];exact HV.out.below BB.out⟩,BB.out⟩
   ·have NX:=Lib.hid (fd_step hlt HN.out he)
    rw [decide_eq_false he] at hq
    clear he h1 h2 h3 h4 h5 h6 h7
    go_wp2
    go_round
    case rel=>exact ⟨k+1,by omega,by go_num,NX.out⟩
    case measure=>simp [intOf];omega
  ·obtain rfl:k=l.length:=by omega
   have FIN:=Lib.hid (show fdH l nm=none by have:=HN.out;rwa [List.take_length] at this)
   go_wp2
   exact bodyPost_ret (v:=.tuple #[.agg #[.string { data:=#[] },.string { data:=#[] },.slice none 0 0,.slice none 0 0,.slice none 0 0,.slice none 0 0,.bool false,.bool false],.bool false]) (by simp [results,Tryz.results19,go_sem]) rfl (by rw [FIN.out];exact fdR_none B1.out)
set_option maxHeartbeats 8000000 in
theorem q7without_any (A:Option Addr) (n c:Nat) (l:List Hr) (nm:ByteArray) (w:World) (h:rdHrs w (lt_ w.heap.size) l [.slice A n c]) (hsm:l.length≤200) :
  Calls Tryz.prog 26 #[.slice A n c,.string nm] w fun e w'=>(∃A' c',e=.returned (.slice A' (woH l nm).length c')∧rdHrs w' (lt_ w'.heap.size) (woH l nm) [.slice A' (woH l nm).length c'])∧Below w.heap.size w w':=by
 obtain ⟨rfl,hnc,hcm,hat⟩:=rdHrs_at h
 have hcm':c≤9223372036854775807:=hcm
 have HAT:=Lib.hid hat
 have HS:=Lib.hid hsm
 obtain ⟨fi,hi,hz0,hz1,hz2⟩:=info_parts here_info
 clear hcm hat h hsm
 go_enter Tryz.func26,Tryz.ntmps26
 go_wp2
 go_loopw [5,6] (fun u i wr=>∃(k:Nat) (out:List Hr),k≤l.length∧i=.int .i64 k∧out=woH (l.take k) nm∧out.length≤k∧Grow rdHr 8 (fun _=>True) wr w.heap.size 36 u out∧Below w.heap.size w wr) (fun _ i _=>l.length - (intOf i).toNat)
 case atStart=>exact ⟨0,[],Nat.zero_le _,rfl,rfl,Nat.le_refl _,Grow.nil _ _ _ _,Below.refl _ _⟩
 case round=>
  obtain ⟨k,out,hk,rfl,hout,hol,hG,hb1⟩:=hrel
  have HB:=Lib.hid hb1
  have HG:=Lib.hid hG
  have HO:=Lib.hid hout
  have HOL:=Lib.hid hol
  clear hG hb1 hout hol
  by_cases hlt:k < l.length
  ·obtain ⟨ad,A1,c1,A2,c2,A3,c3,A4,c4,rfl,had,hv,g0,g1,g2,g3,g4,g5,g6,g7⟩:=HAT.out k hlt
   have HV:=Lib.hid hv
   have i0:(0:Int)≤(k:Int):=by omega
   have i1:(k:Int) < (l.length:Int):=by omega
   have h0:=keep6 HB.out g0
   have h1:=keep6 HB.out g1
   have h2:=keep6 HB.out g2
   have h3:=keep6 HB.out g3
   have h4:=keep6 HB.out g4
   have h5:=keep6 HB.out g5
   have h6:=keep6 HB.out g6
   have h7:=keep6 HB.out g7
   clear had hv g0 g1 g2 g3 g4 g5 g6 g7
   have hq:=str_eq l[k].e.n nm
   have ST:=Lib.hid (wo_step (n:=nm) hlt)
   by_cases he:l[k].e.n=nm
   ·have NX:=Lib.hid (ST.out.trans (if_pos he))
    rw [decide_eq_true he] at hq
    clear he h1 h2 h3 h4 h5 h6 h7
    go_wp2
    go_roundw
    case rel=>exact ⟨k+1,out,by omega,by go_num,HO.out.trans NX.out.symm,by have:=HOL.out;omega,HG.out,HB.out⟩
    case measure=>simp [intOf];omega
   ·have NX:=Lib.hid (ST.out.trans (if_neg he))
    rw [decide_eq_false he] at hq
    have hE:=HV.out.to (wr:=wr) (S':=fun b=>True∧b < wr.heap.size∧u5.ownBlock≠some b) (fun b hb=>HB.out.block b hb) (fun b hb=>⟨trivial,by have hb:b < w.heap.size:=hb;have:=HB.out.size;omega,fun hh=>by have hb:b < w.heap.size:=hb;have:=(HG.out.lt b hh).1;omega⟩)
    have HE:=Lib.hid hE.hr
    clear he hE
    generalize l[k]=x at *
    have hn1:out.length+1≤maxLen:=by have:=HOL.out;have:=HS.out;unfold maxLen;omega
    have hn2:(out.length+1)*136≤140737488355328:=by have:=HOL.out;have:=HS.out;omega
    have hs4:w.heap.size≤wr.heap.size:=HB.out.size
    go_wp2_with (at_builtin;refine wpList_grow1 wr rfl _ _ 23 rfl rdHr_good (by decide) (fun _=>True) w.heap.size 36 fi _ 136 Tryz.underlying23 hi hz0 hz1 hz2 rfl u5 _ rfl HG.out x _ 36 HE.out _ rfl rfl hn1 hn2 hs4 ?_)
    intro v7 w7 hG7 hg7
    have HB7:=Lib.hid (grow_below HG.out hg7 HB.out (Nat.le_refl _) hs4)
    have G7:=Lib.hid hG7
    clear hG7 hg7 h0 h1 h2 h3 h4 h5 h6 h7
    go_wp2
    go_roundw
    case rel=>exact ⟨k+1,_,by omega,by go_num,by rw [HO.out];exact NX.out.symm,by rw [List.length_append,List.length_singleton];have:=HOL.out;omega,G7.out,HB7.out⟩
    case measure=>simp [intOf];omega
  ·obtain rfl:k=l.length:=by omega
   have X1:=Lib.hid (show out=woH l nm by rw [HO.out,List.take_length])
   have hrd:=HG.out.read rdHr_good
   obtain ⟨Au,cu,hu,_,_⟩:=HG.out.own
   rw [hu] at hrd
   have HRD:=Lib.hid hrd
   subst hu
   clear hrd HG
   go_wp2
   go_ret
   exact ⟨⟨Au,cu,by rw [←X1.out];try rfl,by rw [←X1.out];exact HRD.out⟩,HB.out⟩
end Go.Proofs.YtboinnjncaehkaaGreatDoor
namespace Go.Proofs.YtboinnjncaehkaaGreatDoor
open Go
section
variable {P:Program} {ops:Array Oper} {Q:Exit→Act→World→Prop} {md:Region.Mode} {S:World→Prop} {z:Nat}
theorem wpAnyL_two {i k:Nat} {o p:Oper} {fuel:Nat} {listed:Array Bool} {a:Act} {w:World} (hr:Region.ready md ops listed=[i,k]) (ho:ops[i]?=some o) (hp:ops[k]?=some p)
  (h:∀K':Act→World→Prop,Shut (∀a w,S w→(S w→wpAnyL P md ops Q S z fuel (listed.setIfInBounds i true) a w)→K' a w)→if Region.wanted o (yielded ops a.tmps)=true then Oper.wp P o a w K' Q else K' (a.put o.dst undef) w)
  (h2:∀K':Act→World→Prop,Shut (∀a w,S w→(S w→wpAnyL P md ops Q S z fuel (listed.setIfInBounds k true) a w)→K' a w)→if Region.wanted p (yielded ops a.tmps)=true then Oper.wp P p a w K' Q else K' (a.put p.dst undef) w) :
  wpAnyL P md ops Q S z (fuel+1) listed a w:=by
 refine ⟨fun h0=>(by rw [hr] at h0;cases h0),fun j hj=>?_⟩
 rw [hr] at hj
 rcases List.mem_cons.1 hj with rfl|hj
 ·exact wpOp_step ho fun K' hK=>h K' (fun a w hS hW=>hK a w ⟨fun _=>hS,hW hS⟩)
 ·rw [List.mem_singleton] at hj
  subst hj
  exact wpOp_step hp fun K' hK=>h2 K' (fun a w hS hW=>hK a w ⟨fun _=>hS,hW hS⟩)
end
end Go.Proofs.YtboinnjncaehkaaGreatDoor
namespace Go.Proofs.YtboinnjncaehkaaGreatDoor
open Go.RowKit
section
variable {α:Type} {E:Rd α} {sz:Nat} {ty:TypeId}
structure Mg (E:Rd α) (sz:Nat) (ty:TypeId) (W WX:World) (b:Nat) (l:List α) (x:Value):Prop where
 g:Grow E sz (fun _=>True) WX W.heap.size ty (.slice (some ⟨b,0,none⟩) 0 0) []
 x:rdRow sz E WX (lt_ W.heap.size) l [x]
 s:∀c,lt_ W.heap.size c→True∧c < WX.heap.size∧(Value.slice (some ⟨b,0,none⟩) 0 0).ownBlock≠some c
 bs:W.heap.size≤WX.heap.size
 bel:Below W.heap.size W WX
theorem mg_of (g:Good E sz) {W WX:World} {b:Nat} {l:List α} {x:Value} (hx:rdRow sz E W (lt_ W.heap.size) l [x]) (hb:WX.heap[b]?=some (.cells #[] ty (0,0))) (hge:W.heap.size≤b) (bel:Below W.heap.size W WX):Mg E sz ty W WX b l x:=
 ⟨Grow.empty _ hb hge,(rdRow_good g).below hx bel,fun c hc=>⟨trivial,Nat.lt_of_lt_of_le hc bel.size,fun hh=>by simp only [Value.ownBlock,Option.some.injEq] at hh;unfold lt_ at hc;omega⟩,bel.size,bel⟩
theorem mgA (g:Good E sz) {W:World} {l:List α} {x:Value} (hx:rdRow sz E W (lt_ W.heap.size) l [x]):Mg E sz ty W (W.alloc (Obj.cells #[] ty)) W.heap.size l x:=
 mg_of g hx (heap_alloc_new W _) (Nat.le_refl _) ((Below.refl _ W).alloc (Nat.le_refl _) _)
theorem mgB (g:Good E sz) {W:World} {l:List α} {x:Value} (blk:Array Value) (te:TypeId) (hx:rdRow sz E W (lt_ W.heap.size) l [x]):Mg E sz ty W ((W.alloc (Obj.cells #[] ty)).alloc (Obj.cells blk te)) W.heap.size l x:=
 mg_of g hx (old_heap _ (heap_alloc_new W _)) (Nat.le_refl _) (((Below.refl _ W).alloc (Nat.le_refl _) _).alloc (by simp) _)
theorem mgC (g:Good E sz) {W:World} {l:List α} {x:Value} (blk:Array Value) (te:TypeId) (hx:rdRow sz E W (lt_ W.heap.size) l [x]):Mg E sz ty W ((W.alloc (Obj.cells blk te)).alloc (Obj.cells #[] ty)) (W.heap.size+1) l x:=
 mg_of g hx (by have:=heap_alloc_new (W.alloc (Obj.cells blk te)) (Obj.cells #[] ty);rw [World.size_alloc] at this;exact this) (Nat.le_succ _) (((Below.refl _ W).alloc (Nat.le_refl _) _).alloc (by simp) _)
structure Mg2 (E:Rd α) (sz:Nat) (ty:TypeId) (W WY:World) (b:Nat) (l:List α) (v3:Value) (y:α):Prop where
 g:Grow E sz (fun _=>True) WY W.heap.size ty v3 l
 x:rdRow sz E WY (fun c=>c=b∨c < W.heap.size) [y] [.slice (some ⟨b,0,none⟩) 1 1]
 s:∀c,(c=b∨c < W.heap.size)→True∧c < WY.heap.size∧v3.ownBlock≠some c
 bs:W.heap.size≤WY.heap.size
 bel:Below W.heap.size W WY
theorem mg_next {W WX w3:World} {b:Nat} {l:List α} {x v3:Value} (a:Mg E sz ty W WX b l x) (hg:WX.grownBy w3 (Value.slice (some ⟨b,0,none⟩) 0 0).ownBlock):W.heap.size≤w3.heap.size∧Below W.heap.size W w3:=
 ⟨Nat.le_trans a.bs hg.size,grow_below a.g hg a.bel (Nat.le_refl _) a.bs⟩
theorem mg2A (g:Good E sz) {W WX w3:World} {b:Nat} {l:List α} {x v3:Value} {y:α} (blk:Array Value) (te:TypeId) (hE:E W (lt_ W.heap.size) y blk.toList) (a:Mg E sz ty W WX b l x) (hG:Grow E sz (fun _=>True) w3 W.heap.size ty v3 l) (hg:WX.grownBy w3 (Value.slice (some ⟨b,0,none⟩) 0 0).ownBlock) :
  Mg2 E sz ty W (w3.alloc (Obj.cells blk te)) w3.heap.size l v3 y:=by
 obtain ⟨h1,h2⟩:=mg_next (v3:=v3) a hg
 have h3:=h2.alloc h1 (Obj.cells blk te)
 exact ⟨hG.alloc g _,one_rd (ty:=te) g (heap_alloc_new w3 _) (g.more (g.below hE h3) fun c hc=>.inr hc) (.inl rfl),fun c hc=>⟨trivial,by rw [World.size_alloc];omega,fun hh=>by have:=hG.lt c hh;omega⟩,by rw [World.size_alloc];omega,h3⟩
theorem mg2BC (g:Good E sz) {W WX w3:World} {b q:Nat} {l:List α} {x v3:Value} {y:α} {blk:Array Value} {te:TypeId} (hE:E W (lt_ W.heap.size) y blk.toList) (a:Mg E sz ty W WX b l x) (hq:WX.heap[q]?=some (.cells blk te (0,0))) (hqb:q≠b) (hqW:W.heap.size≤q) (hG:Grow E sz (fun _=>True) w3 W.heap.size ty v3 l)
  (hg:WX.grownBy w3 (Value.slice (some ⟨b,0,none⟩) 0 0).ownBlock) (hm:v3.ownBlock=(Value.slice (some ⟨b,0,none⟩) 0 0).ownBlock∨∃c,v3.ownBlock=some c∧WX.heap.size≤c):Mg2 E sz ty W w3 q l v3 y:=by
 obtain ⟨h1,h2⟩:=mg_next (v3:=v3) a hg
 have hlt:q < WX.heap.size:=(Array.getElem?_eq_some_iff.1 hq).1
 have hne:∀c,(c=q∨c < W.heap.size)→v3.ownBlock≠some c:=fun c hc hh=>by
  have hl:=(hG.lt c hh).1
  rcases hc with hc|hc
  ·rcases hm with h|⟨d,h,hd⟩
   ·rw [h] at hh;simp only [Value.ownBlock,Option.some.injEq] at hh;omega
   ·rw [h] at hh;injection hh with hh;omega
  ·omega
 exact ⟨hG,one_rd (ty:=te) g ((hg.block q hlt (fun hh=>by simp only [Value.ownBlock,Option.some.injEq] at hh;omega)).trans hq) (g.more (g.below hE h2) fun c hc=>.inr hc) (.inl rfl),fun c hc=>⟨trivial,by have:=hg.size;omega,hne c hc⟩,h1,h2⟩
theorem mg2B (g:Good E sz) {W w3:World} {l:List α} {x v3:Value} {y:α} {blk:Array Value} {te:TypeId} (hE:E W (lt_ W.heap.size) y blk.toList) (a:Mg E sz ty W ((W.alloc (Obj.cells #[] ty)).alloc (Obj.cells blk te)) W.heap.size l x) (hG:Grow E sz (fun _=>True) w3 W.heap.size ty v3 l)
  (hg:((W.alloc (Obj.cells #[] ty)).alloc (Obj.cells blk te)).grownBy w3 (Value.slice (some ⟨W.heap.size,0,none⟩) 0 0).ownBlock) (hm:v3.ownBlock=(Value.slice (some ⟨W.heap.size,0,none⟩) 0 0).ownBlock∨∃c,v3.ownBlock=some c∧((W.alloc (Obj.cells #[] ty)).alloc (Obj.cells blk te)).heap.size≤c):Mg2 E sz ty W w3 (W.heap.size+1) l v3 y:=
 mg2BC g hE a (by have:=heap_alloc_new (W.alloc (Obj.cells #[] ty)) (Obj.cells blk te);rw [World.size_alloc] at this;exact this) (by omega) (by omega) hG hg hm
theorem mg2C (g:Good E sz) {W w3:World} {l:List α} {x v3:Value} {y:α} {blk:Array Value} {te:TypeId} (hE:E W (lt_ W.heap.size) y blk.toList) (a:Mg E sz ty W ((W.alloc (Obj.cells blk te)).alloc (Obj.cells #[] ty)) (W.heap.size+1) l x) (hG:Grow E sz (fun _=>True) w3 W.heap.size ty v3 l)
  (hg:((W.alloc (Obj.cells blk te)).alloc (Obj.cells #[] ty)).grownBy w3 (Value.slice (some ⟨W.heap.size+1,0,none⟩) 0 0).ownBlock) (hm:v3.ownBlock=(Value.slice (some ⟨W.heap.size+1,0,none⟩) 0 0).ownBlock∨∃c,v3.ownBlock=some c∧((W.alloc (Obj.cells blk te)).alloc (Obj.cells #[] ty)).heap.size≤c):Mg2 E sz ty W w3 W.heap.size l v3 y:=
 mg2BC g hE a (old_heap _ (heap_alloc_new W _)) (by omega) (Nat.le_refl _) hG hg hm
structure Mg3 (E:Rd α) (sz:Nat) (ty:TypeId) (W w5:World) (l:List α) (v5:Value) (m:List α) (x:Value):Prop where
 g:Grow E sz (fun _=>True) w5 W.heap.size ty v5 l
 x:rdRow sz E w5 (lt_ W.heap.size) m [x]
 s:∀c,lt_ W.heap.size c→True∧c < w5.heap.size∧v5.ownBlock≠some c
 bs:W.heap.size≤w5.heap.size
 bel:Below W.heap.size W w5
theorem mg_3 (g:Good E sz) {W WY w5:World} {b:Nat} {l l' m:List α} {v3 v5 x:Value} {y:α} (a:Mg2 E sz ty W WY b l v3 y) (hx:rdRow sz E W (lt_ W.heap.size) m [x]) (hG:Grow E sz (fun _=>True) w5 W.heap.size ty v5 l') (hg:WY.grownBy w5 v3.ownBlock):Mg3 E sz ty W w5 l' v5 m x:=by
 have hb:=grow_below a.g hg a.bel (Nat.le_refl _) a.bs
 exact ⟨hG,(rdRow_good g).below hx hb,fun c hc=>⟨trivial,Nat.lt_of_lt_of_le hc hb.size,fun hh=>by have:=(hG.lt c hh).1;have hc:c < W.heap.size:=hc;omega⟩,hb.size,hb⟩
theorem mg_end (g:Good E sz) {W w5 w7:World} {l l' m:List α} {v5 v7 x:Value} (a:Mg3 E sz ty W w5 l v5 m x) (hG:Grow E sz (fun _=>True) w7 W.heap.size ty v7 l') (hg:w5.grownBy w7 v5.ownBlock):Below W.heap.size W w7∧rdRow sz E w7 (lt_ w7.heap.size) l' [v7]:=
 ⟨grow_below a.g hg a.bel (Nat.le_refl _) a.bs,hG.read g⟩
theorem rdRow_take {w:World} {S:Nat→Prop} {l:List α} {A:Option Addr} {n c k:Nat} (h:rdRow sz E w S l [.slice A n c]) (hk:k≤l.length):rdRow sz E w S (l.take k) [.slice A k c]:=by
 obtain ⟨A',c',e,h1,h2,h⟩:=h
 simp only [List.cons.injEq,Value.slice.injEq,and_true] at e
 obtain ⟨rfl,rfl,rfl⟩:=e
 have hlen:(l.take k).length=k:=by rw [List.length_take];omega
 refine ⟨A,c,by rw [hlen],by omega,h2,fun j hj=>?_⟩
 obtain ⟨ad,es,a1,a2,a3,a4,a5⟩:=h j (by omega)
 exact ⟨ad,es,a1,a2,by rw [List.getElem_take];exact a3,a4,a5⟩
theorem wp_region_D {P:Program} {ops:Array Oper} {Q:Exit→Act→World→Prop} {id:Nat} {a:Act} {w w0:World} (S:World→Prop) (z:Nat) (hm:P.follows .mixedOrders=true) (hd:Dr w0 w) (hS:∀V,Dr w0 V→S V)
  (h:∀V,Dr w0 V→S V→wpAnyL P .any ops Q S z ops.size (Array.replicate ops.size false) a V):(Code.region id ops true).wp P Q a w:=
 wp_region_L S z hm (hS _ (hd.more 1)) (fun hs=>h _ (hd.more 1) hs)
end
end Go.Proofs.YtboinnjncaehkaaGreatDoor
