/- What the laws rest on: N10f, E11m, E11p, E11o, N11c, N11d, E11q. -/
import Derived.Test.YtpilmhoakopcaaaGreatDoorQAQZC
set_option maxRecDepth 100000
set_option linter.unusedVariables false
set_option linter.unusedSimpArgs false
namespace Go.Proofs.YtpilmhoakopcaaaGreatDoor
open Go.RowKit
def LstP (l:List Int) (k:Nat) (t:Int):Prop:=(k=0→t=0)∧∀j (hj:j < l.length),k=j+1→t=l[j]+1
theorem lst_ok {n k:Nat} {l:List Int} {t:Int} (hk:k < l.length) (hA:AdjP n l k) (hT:LstP l k t) (h0:¬l[k] < t) (h1:l[k] < (n:Int)):AdjP n l (k+1):=by
 refine AdjP.step hA hk ?_ h1 fun i hi e=>?_
 ·rcases k with _|k
  ·have:=hT.1 rfl;omega
  ·have a:=hT.2 k (by omega) rfl
   have b:=(hA k (by omega) (by omega)).1.1
   omega
 ·have:=hT.2 i hi e;omega
theorem lst_no {n k:Nat} {l:List Int} {t:Int} (hk:k < l.length) (hT:LstP l k t) (h0:l[k] < t):setB n l=false:=by
 rcases k with _|k
 ·exact setB_lo hk (by have:=hT.1 rfl;omega)
 ·exact setB_dn hk (by have:=hT.2 k (by omega) rfl;omega)
theorem lst_next {l:List Int} {k:Nat} (hk:k < l.length):LstP l (k+1) (l[k]+1):=⟨fun e=>absurd e (Nat.succ_ne_zero k),fun j hj e=>by
 have:j=k:=by omega
 subst this;rfl⟩
set_option maxHeartbeats 4000000 in
theorem vset_any (b:Nat) (L:List Ent) (m:List Hr) (Al:Option Addr) (nl cl:Nat) (l:List Int) (w:World) (h:UP w b L m) (hl:rdInts w (lt_ w.heap.size) l [.slice Al nl cl]) :
  Calls Tryz.prog 42 #[.pointer (some ⟨b,0,none⟩),.slice Al nl cl] w fun e w'=>e=.returned (.bool (setB L.length l))∧w=w':=by
 obtain ⟨rfl,hlc,hlm,hat⟩:=rdInts_at hl
 have hlm':cl≤9223372036854775807:=hlm
 have HL:=Lib.hid hat
 have KL:=Lib.hid (len9_any b L m w h)
 have hnb:L.length≤9223372036854775807:=by
  obtain ⟨A,c,A',c',bm,-,-,-,h4,-⟩:=h
  obtain ⟨-,a1,a2,-⟩:=rdEnts_at h4
  exact Nat.le_trans a1 a2
 have X1:=Lib.hid (fun (k:Nat) (t:Int) (hk:k < l.length) (hT:LstP l k t) (h:l[k] < t)=>lst_no (n:=L.length) hk hT h)
 have X2:=Lib.hid (fun (k:Nat) (hk:k < l.length) (h:(L.length:Int)≤l[k])=>setB_hi (n:=L.length) hk h)
 have X3:=Lib.hid (fun (k:Nat) (t:Int) (hk:k < l.length) (hA:AdjP L.length l k) (hT:LstP l k t) h0 h1=>lst_ok hk hA hT h0 h1)
 have X4:=Lib.hid (fun (h:AdjP L.length l l.length)=>adj_set h)
 generalize setB L.length l=bb at *
 generalize L.length=N at *
 clear hl hat hlm h
 go_enter Tryz.func42,Tryz.ntmps42
 go_wp2_with fail
 refine KL.out.mono ?_
 rintro e w1 ⟨rfl,rfl⟩
 clear KL
 go_wp2
 go_loopw [5,13] (fun s i wr=>∃k:Nat,k≤l.length∧i=.int .i64 k∧(∃t:Int,s=.int .i64 t∧Hid (LstP l k t))∧Hid (AdjP N l k)∧w=wr) (fun _ i _=>l.length - (intOf i).toNat)
 case atStart=>exact ⟨0,Nat.zero_le _,rfl,⟨0,rfl,Lib.hid ⟨fun _=>rfl,fun j hj e=>by omega⟩⟩,Lib.hid (AdjP.zero _ _),rfl⟩
 case round=>
  obtain ⟨k,hk,rfl,⟨t,rfl,HT⟩,HA,rfl⟩:=hrel
  by_cases hlt:k < l.length
  ·obtain ⟨adl,rfl,-,l0⟩:=HL.out k hlt
   have i0:(0:Int)≤(k:Int):=by omega
   have i1:(k:Int) < (l.length:Int):=by omega
   have Y1:=Lib.hid (X1.out k t hlt HT.out)
   have Y2:=Lib.hid (X2.out k hlt)
   have Y3:=Lib.hid (X3.out k t hlt HA.out HT.out)
   have NT:=Lib.hid (lst_next hlt)
   generalize hx:l[k]=x at l0 Y1 Y2 Y3 NT
   clear hx
   by_cases h0:x < t
   ·have XX:=Lib.hid (show bb=false from Y1.out h0)
    clear Y1 Y2 Y3 NT
    go_wp2
    go_ret
    exact ⟨by rw [XX.out];try rfl,rfl⟩
   by_cases h1:(N:Int)≤x
   ·have XX:=Lib.hid (show bb=false from Y2.out h1)
    clear Y1 Y2 Y3 NT
    go_wp2
    go_ret
    exact ⟨by rw [XX.out];try rfl,rfl⟩
   have NX:=Lib.hid (Y3.out (by omega) (by omega))
   have x0:0≤x:=by
    have:=(NX.out k hlt (Nat.lt_succ_self _)).1.1
    have e:=NT.out.2 k hlt rfl
    omega
   have k1:IntKind.i64.wrap (x+1)=x+1:=IntWalk.i64_in _ (by omega)
   clear Y1 Y2 Y3
   go_wp2
   go_roundw
   case rel=>exact ⟨k+1,by omega,by go_num,⟨x+1,rfl,NT⟩,NX,by first|trivial|rfl⟩
   case measure=>simp [intOf];omega
  ·obtain rfl:k=l.length:=by omega
   have XX:=Lib.hid (X4.out HA.out)
   go_wp2
   go_ret
   exact ⟨by rw [XX.out];try rfl,rfl⟩
end Go.Proofs.YtpilmhoakopcaaaGreatDoor
namespace Go.Proofs.YtpilmhoakopcaaaGreatDoor
open Go.RowKit Go.Sort
theorem rangU_snoc (k:Nat):rangU 0 (k+1)=rangU 0 k++[(k:Int)]:=by
 rw [←rangU_app 0 k 1]
 congr 1
 unfold rangU
 simp
theorem ran_step (f:Int→Bool) (k:Nat):(rangU 0 (k+1)).filter f=if f (k:Int)=true then (rangU 0 k).filter f++[(k:Int)] else (rangU 0 k).filter f:=by
 rw [rangU_snoc,List.filter_append]
 cases h:f (k:Int)
 ·rw [if_neg (by decide),List.filter_cons_of_neg (by rw [h];decide),List.filter_nil,List.append_nil]
 ·rw [if_pos rfl,List.filter_cons_of_pos h,List.filter_nil]
theorem ran_len (f:Int→Bool) (k:Nat):((rangU 0 k).filter f).length≤k:=Nat.le_trans (List.length_filter_le _ _) (by rw [rangU_len];exact Nat.le_refl _)
def alB (U:List Ent) (here:List Int) (pn:List Pn) (p:Int):Bool:=decide (0≤prioN pn (entA U p).n (entA U p).v)||here.contains p
theorem alw_is (U:List Ent) (here:List Int) (pn:List Pn):alw U here pn=(rangU 0 U.length).filter (alB U here pn):=rfl
end Go.Proofs.YtpilmhoakopcaaaGreatDoor
namespace Go.Proofs.YtpilmhoakopcaaaGreatDoor
open Go.RowKit
theorem lt_of_heap {W:World} {b:Nat} {o:Obj} (h:W.heap[b]?=some o):b < W.heap.size:=by
 rcases Nat.lt_or_ge b W.heap.size with q|q
 ·exact q
 ·rw [Array.getElem?_eq_none q] at h;cases h
structure Bx (w1:World) (cb:Nat) (W:World) (x:C5):Prop where
 p:Pst w1 (fun k=>k=cb) W (fun k=>k=cb)
 c:W.heap[cb]?=some (.cells #[.int .i64 x.a,.int .i64 x.b,.int .i64 x.c,.int .i64 x.d,.int .i64 x.e] 39 (0,0))
theorem Bx.lt {w1 W:World} {cb:Nat} {x:C5} (h:Bx w1 cb W x):cb < W.heap.size:=by
 rcases Nat.lt_or_ge cb W.heap.size with q|q
 ·exact q
 ·have:=h.c;rw [Array.getElem?_eq_none q] at this;cases this
theorem Bx.call {w1 W W':World} {cb:Nat} {x:C5} (h:Bx w1 cb W x) (hb:Below W.heap.size W W'):Bx w1 cb W' x:=⟨h.p.below hb,(hb.block cb h.lt).trans h.c⟩
theorem blk5_cell {w:World} {g:Nat} {t:TypeId} {cs:Array Value} (h:w.heap[g]?=some (.cells cs t (0,0))) (i:Nat):w.cell? ⟨g,i,none⟩=cs[i]?:=cell_of_row w g i cs t (0,0) h
theorem blk5_frozen {w:World} {g:Nat} {t:TypeId} {cs:Array Value} (h:w.heap[g]?=some (.cells cs t (0,0))) (i:Nat):w.frozen? ⟨g,i,none⟩=false:=by simp [World.frozen?,h]
theorem blk5_set {w:World} {g:Nat} {t:TypeId} {cs:Array Value} (h:w.heap[g]?=some (.cells cs t (0,0))) (i:Nat) (u:Value):(w.setCell ⟨g,i,none⟩ u).heap[g]?=some (.cells (cs.setIfInBounds i u) t (0,0)):=by
 simp [World.setCell,Array.getElem?_modify,h]
theorem Bx.cells {w1 W:World} {cb:Nat} {x:C5} (h:Bx w1 cb W x):W.cell? ⟨cb,0,none⟩=some (.int .i64 x.a)∧W.cell? ⟨cb,1,none⟩=some (.int .i64 x.b)∧W.cell? ⟨cb,2,none⟩=some (.int .i64 x.c)∧W.cell? ⟨cb,3,none⟩=some (.int .i64 x.d)∧W.cell? ⟨cb,4,none⟩=some (.int .i64 x.e):=by
 refine ⟨?_,?_,?_,?_,?_⟩<;>(rw [blk5_cell h.c];rfl)
theorem Bx.free {w1 W:World} {cb:Nat} {x:C5} (h:Bx w1 cb W x) (i:Nat):W.frozen? ⟨cb,i,none⟩=false:=blk5_frozen h.c i
theorem Pst.set {w1 W:World} {cb:Nat} (h:Pst w1 (fun k=>k=cb) W (fun k=>k=cb)) (i:Nat) (u:Value):Pst w1 (fun k=>k=cb) (W.setCell ⟨cb,i,none⟩ u) (fun k=>k=cb):=
 ⟨h.os,h.tape,h.output,by rw [World.size_setCell];exact h.size,fun b hb ho=>by rw [Below.heap_setCell _ _ _ _ ho];exact h.block b hb ho,h.own⟩
theorem Bx.set0 {w1 W:World} {cb:Nat} {x:C5} (h:Bx w1 cb W x) (v:Int):Bx w1 cb (W.setCell ⟨cb,0,none⟩ (.int .i64 v)) ⟨v,x.b,x.c,x.d,x.e⟩:=⟨h.p.set 0 _,by rw [blk5_set h.c];rfl⟩
theorem Bx.set1 {w1 W:World} {cb:Nat} {x:C5} (h:Bx w1 cb W x) (v:Int):Bx w1 cb (W.setCell ⟨cb,1,none⟩ (.int .i64 v)) ⟨x.a,v,x.c,x.d,x.e⟩:=⟨h.p.set 1 _,by rw [blk5_set h.c];rfl⟩
theorem Bx.set2 {w1 W:World} {cb:Nat} {x:C5} (h:Bx w1 cb W x) (v:Int):Bx w1 cb (W.setCell ⟨cb,2,none⟩ (.int .i64 v)) ⟨x.a,x.b,v,x.d,x.e⟩:=⟨h.p.set 2 _,by rw [blk5_set h.c];rfl⟩
theorem Bx.set3 {w1 W:World} {cb:Nat} {x:C5} (h:Bx w1 cb W x) (v:Int):Bx w1 cb (W.setCell ⟨cb,3,none⟩ (.int .i64 v)) ⟨x.a,x.b,x.c,v,x.e⟩:=⟨h.p.set 3 _,by rw [blk5_set h.c];rfl⟩
theorem Bx.set4 {w1 W:World} {cb:Nat} {x:C5} (h:Bx w1 cb W x) (v:Int):Bx w1 cb (W.setCell ⟨cb,4,none⟩ (.int .i64 v)) ⟨x.a,x.b,x.c,x.d,v⟩:=⟨h.p.set 4 _,by rw [blk5_set h.c];rfl⟩
theorem Bx.set5 {w1 W:World} {cb:Nat} {x:C5} (h:Bx w1 cb W x) (y:C5):Bx w1 cb (((((W.setCell ⟨cb,0,none⟩ (.int .i64 y.a)).setCell ⟨cb,1,none⟩ (.int .i64 y.b)).setCell ⟨cb,2,none⟩ (.int .i64 y.c)).setCell ⟨cb,3,none⟩ (.int .i64 y.d)).setCell ⟨cb,4,none⟩ (.int .i64 y.e)) y:=((((h.set0 y.a).set1 y.b).set2 y.c).set3 y.d).set4 y.e
theorem Bx.base {w w1 W:World} {cb:Nat} {x:C5} (h:Bx w1 cb W x) (hb:Below w.heap.size w w1) (hn:w.heap.size≤cb):Below w.heap.size w W:=hb.trans (h.p.base (fun b hb=>by rw [hb];exact hn) hb.size)
theorem Bx.old {w1 W:World} {cb:Nat} {x:C5} (h:Bx w1 cb W x) {b:Nat} {o:Obj} (hc:w1.heap[b]?=some o) (hb:b≠cb):W.heap[b]?=some o:=by
 have:b < w1.heap.size:=by
  rcases Nat.lt_or_ge b w1.heap.size with q|q
  ·exact q
  ·rw [Array.getElem?_eq_none q] at hc;cases hc
 exact (h.p.block b this hb).trans hc
theorem fin5 {w W:World} {rb:Nat} {T:TypeId} {y:C5} (hb:Below w.heap.size w W) (hn:w.heap.size≤rb) (h:W.heap[rb]?=some (.cells #[.int .i64 0,.int .i64 0,.int .i64 0,.int .i64 0,.int .i64 0] T (0,0))) :
  ∃V,V=(((((W.setCell ⟨rb,0,none⟩ (.int .i64 y.a)).setCell ⟨rb,1,none⟩ (.int .i64 y.b)).setCell ⟨rb,2,none⟩ (.int .i64 y.c)).setCell ⟨rb,3,none⟩ (.int .i64 y.d)).setCell ⟨rb,4,none⟩ (.int .i64 y.e))∧
  V.cell? ⟨rb,0,none⟩=some (.int .i64 y.a)∧V.cell? ⟨rb,1,none⟩=some (.int .i64 y.b)∧V.cell? ⟨rb,2,none⟩=some (.int .i64 y.c)∧V.cell? ⟨rb,3,none⟩=some (.int .i64 y.d)∧V.cell? ⟨rb,4,none⟩=some (.int .i64 y.e)∧Below w.heap.size w V:=by
 have k0:=blk5_set h 0 (.int .i64 y.a)
 have k1:=blk5_set k0 1 (.int .i64 y.b)
 have k2:=blk5_set k1 2 (.int .i64 y.c)
 have k3:=blk5_set k2 3 (.int .i64 y.d)
 have k4:=blk5_set k3 4 (.int .i64 y.e)
 refine ⟨_,rfl,?_,?_,?_,?_,?_,((((hb.setCell hn _).setCell hn _).setCell hn _).setCell hn _).setCell hn _⟩<;>(rw [blk5_cell k4];rfl)
end Go.Proofs.YtpilmhoakopcaaaGreatDoor
namespace Go.Proofs.YtpilmhoakopcaaaGreatDoor
open Go.RowKit Go.Sort
def a0K (U:List Ent) (here l:List Int) (k:Nat):Nat:=((here.take k).filter fun p=>!smU U l p).length
def a2K (U:List Ent) (here l:List Int) (up:Bool) (k:Nat):Nat:=if up=true then 0 else ((here.take k).filter fun p=>smU U l p&&!l.contains p).length
def b1K (U:List Ent) (pn:List Pn) (l:List Int) (k:Nat):Int:=((l.take k).map (los U pn)).sum
theorem a0K_step {U:List Ent} {here l:List Int} {k:Nat} (h:k < here.length):a0K U here l (k+1)=a0K U here l k+(if smU U l here[k]=true then 0 else 1):=by
 unfold a0K
 rw [filN_take h]
 cases smU U l here[k]<;>rfl
theorem a2K_step {U:List Ent} {here l:List Int} {up:Bool} {k:Nat} (h:k < here.length):a2K U here l up (k+1)=a2K U here l up k+(if (smU U l here[k]&&(!l.contains here[k]&&!up))=true then 1 else 0):=by
 unfold a2K
 cases up
 ·rw [if_neg (by decide),if_neg (by decide),filN_take h]
  simp
 ·simp
theorem a0K_le (U:List Ent) (here l:List Int) (k:Nat):a0K U here l k≤here.length:=by
 unfold a0K
 refine Nat.le_trans (List.length_filter_le _ _) ?_
 rw [List.length_take];omega
theorem a2K_le (U:List Ent) (here l:List Int) (up:Bool) (k:Nat):a2K U here l up k≤here.length:=by
 unfold a2K
 split
 ·omega
 ·refine Nat.le_trans (List.length_filter_le _ _) ?_
  rw [List.length_take];omega
theorem b1K_step {U:List Ent} {pn:List Pn} {l:List Int} {k:Nat} (h:k < l.length):b1K U pn l (k+1)=b1K U pn l k+los U pn l[k]:=sum_take h
theorem b1K_le {U:List Ent} {pn:List Pn} (h:∀x ∈ pn,-1000≤x.p∧x.p≤1000) {l:List Int} (hl:l.length≤1000) (k:Nat):0≤b1K U pn l k∧b1K U pn l k≤2000000:=by
 have:=sum_up (f:=los U pn) (M:=2000) (l:=l.take k) fun x _=>⟨los_ge U pn x,los_le h x⟩
 have h2:(l.take k).length≤l.length:=by rw [List.length_take];omega
 have h3:(l.take k).length*2000≤1000*2000:=Nat.mul_le_mul_right _ (by omega)
 unfold b1K;omega
theorem wnt_set {U:List Ent} {l:List Int} (h:setB U.length l=true):wnt U l=(wnS U l l:Int):=by unfold wnt;rw [if_pos h]
end Go.Proofs.YtpilmhoakopcaaaGreatDoor
namespace Go.Proofs.YtpilmhoakopcaaaGreatDoor
open Go.RowKit
set_option maxHeartbeats 8000000 in
theorem cturned_any (b:Nat) (U:List Ent) (m:List Hr) (Al:Option Addr) (nl cl:Nat) (l:List Int) (w:World) (h:UQ w b U m) (hl:rdInts w (lt_ w.heap.size) l [.slice Al nl cl]) (hs:SetP U.length l) (hins:SetP U.length (insU U m)) (hnm:∀x ∈ U,x.n.size≤1000000) :
  Calls Tryz.prog 43 #[.pointer (some ⟨b,0,none⟩),.slice Al nl cl] w fun e w'=>e=.returned (.tuple #[.int .i64 ((a0K U (insU U m) l (insU U m).length:Nat):Int),.int .i64 ((a2K U (insU U m) l false (insU U m).length:Nat):Int)])∧Below w.heap.size w w':=by
 have hln:(insU U m).length≤200:=by unfold insU;rw [List.length_map];exact h.hm
 have KE:=Lib.hid (entries9_any b U m w h.up (by have:=h.len;omega))
 have KI:=Lib.hid (fun (W:World) (hb:Below w.heap.size w W)=>inst9_any b U m W (h.up.below hb) h.hm h.hz)
 have KO:=Lib.hid (fun (j:Nat) (hj:j < U.length) (W:World) (hb:Below w.heap.size w W)=>of9_any b U m U[j].n W (h.up.below hb) h.len (hnm _ (List.getElem_mem hj)))
 have KC:=Lib.hid (fun (x:Int) (W:World) (hb:Below w.heap.size w W)=>ccont_any Al nl cl l x W (rdInts_good.up (rdInts_good.below hl hb) hb.size))
 have KS:=Lib.hid (fun (A:Option Addr) (c:Nat) (a:List Int) (W:World) (hb:Below w.heap.size w W) hra=>cshare_any A a.length c a Al nl cl l W hra (rdInts_good.up (rdInts_good.below hl hb) hb.size))
 have SHR:=Lib.hid (fun (j:Nat) (hj:j < U.length)=>show shr (ixU (isN U[j].n) U 0) l=smU U l (j:Int) from by have:=shr_sm hs (j:Int);rwa [entA_at hj] at this)
 have OWN:=Lib.hid (fun (p:Int) (hp:l.contains p=true)=>smU_own (U:=U) (show p ∈ l by simpa using hp))
 have HS:=Lib.hid hins.1
 generalize insU U m=here at *
 have S0:=Lib.hid (fun (k:Nat) (hk:k < here.length)=>a0K_step (U:=U) (l:=l) hk)
 have S2:=Lib.hid (fun (k:Nat) (hk:k < here.length)=>a2K_step (U:=U) (l:=l) (up:=false) hk)
 have L0:=Lib.hid (fun k=>a0K_le U here l k)
 have L2:=Lib.hid (fun k=>a2K_le U here l false k)
 have Z0:=Lib.hid (show a0K U here l 0=0 from rfl)
 have Z2:=Lib.hid (show a2K U here l false 0=0 from rfl)
 clear h hl hs hins hnm
 go_enter Tryz.func43,Tryz.ntmps43
 go_wp2_with fail
 refine KE.out.mono ?_
 rintro e w1 ⟨⟨Ae,ce,rfl,hre⟩,hb⟩
 have B1:=Lib.hid hb
 obtain ⟨-,hec,hem,-⟩:=rdEnts_at hre
 have hem':ce≤9223372036854775807:=hem
 have HE:=Lib.hid (fun (W:World) (hx:Below w1.heap.size w1 W)=>(rdEnts_at (rdEnts_good.up (rdEnts_good.below hre hx) hx.size)).2.2.2)
 clear hb hre hem KE
 go_wp2_with fail
 refine (KI.out w1 B1.out).mono ?_
 rintro e w2 ⟨⟨Ai,ci,rfl,hri⟩,hb⟩
 have B2:=Lib.hid (bel_in B1.out hb)
 have Q2:=Lib.hid hb
 obtain ⟨-,hic,him,-⟩:=rdInts_at hri
 have him':ci≤9223372036854775807:=him
 have HI:=Lib.hid (fun (W:World) (hx:Below w2.heap.size w2 W)=>(rdInts_at (rdInts_good.up (rdInts_good.below hri hx) hx.size)).2.2.2)
 clear hb hri him KI
 go_wp2
 go_loopw [4,5,14] (fun r c i wr=>∃k:Nat,k≤here.length∧i=.int .i64 k∧r=.int .i64 ((a0K U here l k:Nat):Int)∧c=.int .i64 ((a2K U here l false k:Nat):Int)∧Below w2.heap.size w2 wr) (fun _ _ i _=>here.length - (intOf i).toNat)
 case atStart=>exact ⟨0,Nat.zero_le _,rfl,by rw [Z0.out];rfl,by rw [Z2.out];rfl,Below.refl _ _⟩
 case round=>
  obtain ⟨k,hk,rfl,rfl,rfl,hbel⟩:=hrel
  have HBI:=Lib.hid hbel
  have HBW:=Lib.hid (bel_in B2.out hbel)
  clear hbel
  have l0:=L0.out k
  have l2:=L2.out k
  by_cases hlt:k < here.length
  ·obtain ⟨adi,rfl,-,c0⟩:=HI.out wr HBI.out k hlt
   obtain ⟨s0,s1⟩:=HS.out _ (List.getElem_mem hlt)
   have T0:=Lib.hid (S0.out k hlt)
   have T2:=Lib.hid (S2.out k hlt)
   obtain ⟨j,hj⟩:=Int.eq_ofNat_of_zero_le s0
   rw [hj] at c0 s1 T0 T2
   have hjl:j < U.length:=by omega
   have i0:(0:Int)≤(k:Int):=by omega
   have i1:(k:Int) < (here.length:Int):=by omega
   have j0:(0:Int)≤(j:Int):=by omega
   have j1:(j:Int) < (U.length:Int):=by omega
   have OW:=Lib.hid (OWN.out (j:Int))
   have KCj:=Lib.hid (KC.out (j:Int))
   have KOj:=Lib.hid (KO.out j hjl)
   have SHJ:=Lib.hid (SHR.out j hjl)
   generalize hg0:a0K U here l (k+1)=n0 at *
   have G0:=Lib.hid hg0
   clear hg0
   generalize hg2:a2K U here l false (k+1)=n2 at *
   have G2:=Lib.hid hg2
   clear hg2
   generalize a0K U here l k=m0 at *
   generalize a2K U here l false k=m2 at *
   clear hj s0
   go_wp2_with fail
   refine (KCj.out wr HBW.out).mono ?_
   rintro e w3 ⟨rfl,rfl⟩
   generalize l.contains (j:Int)=ct at *
   cases ct
   ·obtain ⟨ade,A1,c1,A2,c2,A3,c3,A4,c4,rfl,-,-,u0,-⟩:=HE.out wr (bel_in Q2.out HBI.out) j hjl
    generalize ixU (isN U[j].n) U 0=own at *
    generalize U[j].n=yn at *
    go_wp2_with fail
    refine (KOj.out wr HBW.out).mono ?_
    rintro e w4 ⟨⟨Ao,co,rfl,hro⟩,hb⟩
    have H4:=Lib.hid (bel_in HBI.out hb)
    have KSj:=Lib.hid (KS.out Ao co own w4 (bel_in HBW.out hb) hro)
    clear hb hro u0 c0
    go_wp2_with fail
    refine KSj.out.mono ?_
    rintro e w5 ⟨rfl,hb⟩
    have H5:=Lib.hid (bel_in H4.out hb)
    rw [SHJ.out]
    clear hb KSj SHJ
    generalize smU U l (j:Int)=sv at *
    cases sv
    ·have N0:=Lib.hid (show n0=m0+1 by rw [T0.out];rfl)
     have N2:=Lib.hid (show n2=m2 by rw [T2.out];rfl)
     clear T0 T2
     go_wp2
     go_roundw
     case rel=>exact ⟨k+1,by omega,by go_num,by rw [G0.out,N0.out];first|rfl|go_num|simp,by rw [G2.out,N2.out],H5.out⟩
     case measure=>simp [intOf];omega
    ·have N0:=Lib.hid (show n0=m0 by rw [T0.out];rfl)
     have N2:=Lib.hid (show n2=m2+1 by rw [T2.out];rfl)
     clear T0 T2
     go_wp2
     go_roundw
     case rel=>exact ⟨k+1,by omega,by go_num,by rw [G0.out,N0.out],by rw [G2.out,N2.out];first|rfl|go_num|simp,H5.out⟩
     case measure=>simp [intOf];omega
   ·have sm:=OW.out rfl
    have N0:=Lib.hid (show n0=m0 by rw [T0.out,sm];rfl)
    have N2:=Lib.hid (show n2=m2 by rw [T2.out,sm];rfl)
    clear T0 T2 sm c0
    go_wp2
    go_roundw
    case rel=>exact ⟨k+1,by omega,by go_num,by rw [G0.out,N0.out],by rw [G2.out,N2.out],HBI.out⟩
    case measure=>simp [intOf];omega
  ·obtain rfl:k=here.length:=by omega
   have j1:¬(here.length:Int) < (here.length:Int):=by omega
   generalize hm0:a0K U here l here.length=m0 at *
   generalize hm2:a2K U here l false here.length=m2 at *
   have M0:=Lib.hid hm0
   have M2:=Lib.hid hm2
   clear hm0 hm2
   go_wp2
   go_ret2
   exact ⟨by rw [M0.out,M2.out];try rfl,HBW.out⟩
set_option maxHeartbeats 8000000 in
theorem callow_any (b:Nat) (U:List Ent) (m:List Hr) (A:Option Addr) (np c:Nat) (pn:List Pn) (w:World) (h:UQ w b U m) (hp:rdPns w (lt_ w.heap.size) pn [.slice A np c]) :
  Calls Tryz.prog 25 #[.pointer (some ⟨b,0,none⟩),.slice A np c] w fun e w'=>(∃A c,e=.returned (.slice A (alw U (insU U m) pn).length c)∧rdInts w' (lt_ w'.heap.size) (alw U (insU U m) pn) [.slice A (alw U (insU U m) pn).length c])∧Below w.heap.size w w':=by
 obtain ⟨fi,hi,hz0,hz1,hz2⟩:=info_parts int9_info
 have KE:=Lib.hid (fun (W:World) (hb:Below w.heap.size w W)=>entries9_any b U m W (h.up.below hb) (by have:=h.len;omega))
 have KI:=Lib.hid (inst9_any b U m w h.up h.hm h.hz)
 have KP:=Lib.hid (fun (k:Nat) (hk:k < U.length) (W:World) (hb:Below w.heap.size w W)=>pprio_any A np c pn U[k].n U[k].v W (rdPns_good.up (rdPns_good.below hp hb) hb.size))
 have UL:=Lib.hid h.len
 generalize insU U m=here at *
 have X:=Lib.hid (alw_is U here pn)
 have ST:=Lib.hid (fun (k:Nat) (hk:k < U.length)=>ran_step (alB U here pn) k)
 have FB:=Lib.hid (fun (k:Nat) (hk:k < U.length)=>show alB U here pn (k:Int)=(decide (0≤prioN pn U[k].n U[k].v)||here.contains (k:Int)) from by unfold alB;rw [entA_at hk])
 have LN:=Lib.hid (ran_len (alB U here pn))
 generalize alw U here pn=out at *
 generalize alB U here pn=f at *
 clear h hp
 go_enter Tryz.func25,Tryz.ntmps25
 go_wp2_with fail
 refine KI.out.mono ?_
 rintro e w1 ⟨⟨Ai,ci,rfl,hri⟩,hb⟩
 have B1:=Lib.hid hb
 have KC:=Lib.hid (fun (x:Int) (W:World) (hx:Below w1.heap.size w1 W)=>ccont_any Ai here.length ci here x W (rdInts_good.up (rdInts_good.below hri hx) hx.size))
 clear hb hri KI
 go_wp2_with fail
 refine (KE.out w1 B1.out).mono ?_
 rintro e w2 ⟨⟨Ae,ce,rfl,hre⟩,hb⟩
 have B2:=Lib.hid (bel_in B1.out hb)
 have Q2:=Lib.hid hb
 obtain ⟨-,hec,hem,-⟩:=rdEnts_at hre
 have hem':ce≤9223372036854775807:=hem
 have HE:=Lib.hid (fun (W:World) (hx:Below w2.heap.size w2 W)=>(rdEnts_at (rdEnts_good.up (rdEnts_good.below hre hx) hx.size)).2.2.2)
 clear hb hre hem KE
 go_wp2
 go_loopw [6,14] (fun v i wr=>∃k:Nat,k≤U.length∧i=.int .i64 k∧Grow rdInt 1 (fun _=>True) wr w2.heap.size 3 v ((rangU 0 k).filter f)∧Below w2.heap.size w2 wr) (fun _ i _=>U.length - (intOf i).toNat)
 case atStart=>exact ⟨0,Nat.zero_le _,rfl,Grow.nil _ _ _ _,Below.refl _ _⟩
 case round=>
  obtain ⟨k,hk,rfl,hG,hbel⟩:=hrel
  have HBI:=Lib.hid hbel
  have HBW:=Lib.hid (bel_in B2.out hbel)
  have HG:=Lib.hid hG
  clear hbel hG
  by_cases hlt:k < U.length
  ·obtain ⟨ade,A1,c1,A2,c2,A3,c3,A4,c4,rfl,-,-,u0,u1,u2,u3,u4,u5⟩:=HE.out wr HBI.out k hlt
   have i0:(0:Int)≤(k:Int):=by omega
   have i1:(k:Int) < (U.length:Int):=by omega
   have S1:=Lib.hid (ST.out k hlt)
   have F1:=Lib.hid (FB.out k hlt)
   have ln:=LN.out k
   have ul:=UL.out
   have KPk:=Lib.hid (KP.out k hlt)
   have KCk:=Lib.hid (KC.out (k:Int))
   generalize prioN pn U[k].n U[k].v=pr at *
   generalize U[k]=y at *
   obtain ⟨n,v,d,r,c',p⟩:=y
   simp only at u0 u1 u2 u3 u4 u5 KPk
   generalize hgl:(rangU 0 k).filter f=gl at *
   generalize hgn:(rangU 0 (k+1)).filter f=gn at *
   generalize f (k:Int)=fk at *
   have HGN:=Lib.hid hgn
   clear hgl hgn
   obtain ⟨W2,hW2⟩:∃W,W=wr.alloc (.cells #[.string n,.string v,.slice A1 d.length c1,.slice A2 r.length c2,.slice A3 c'.length c3,.slice A4 p.length c4] 60):=⟨_,rfl⟩
   have b2:Below wr.heap.size wr W2:=by rw [hW2];exact (Below.refl _ wr).alloc (Nat.le_refl _) _
   have HB2:=Lib.hid (bel_in HBI.out b2)
   have HW2':=Lib.hid (bel_in HBW.out b2)
   have G2:=Lib.hid (HG.out.below rdInt_good b2)
   have x0:W2.cell? ⟨wr.heap.size,0,none⟩=some (.string n):=by rw [hW2];simp [go_sem]
   have x1:W2.cell? ⟨wr.heap.size,1,none⟩=some (.string v):=by rw [hW2];simp [go_sem]
   clear b2 HG
   go_wp2_with fail
   rw [←hW2]
   clear hW2 u0 u1 u2 u3 u4 u5
   refine (KCk.out W2 (bel_in Q2.out HB2.out)).mono ?_
   rintro e w3 ⟨rfl,rfl⟩
   generalize here.contains (k:Int)=hc at *
   cases hc
   ·go_wp2_with fail
    refine (KPk.out W2 HW2'.out).mono ?_
    rintro e w4 ⟨rfl,hb⟩
    have HB4:=Lib.hid (bel_in HB2.out hb)
    have G4:=Lib.hid (G2.out.below rdInt_good hb)
    clear hb x0 x1
    by_cases g:0≤pr
    ·have NX:=Lib.hid (show gn=gl++[(k:Int)] by rw [S1.out,F1.out,decide_eq_true g];rfl)
     have hE:=(show rdInt w4 (fun b=>True∧b < w4.heap.size∧u6.ownBlock≠some b) (k:Int) (#[Value.int .i64 (k:Int)]:Array Value).toList from rfl)
     have hn1:gl.length+1≤maxLen:=by unfold maxLen;omega
     have hn2:(gl.length+1)*8≤140737488355328:=by omega
     have hbs3:w2.heap.size≤w4.heap.size:=HB4.out.size
     have hG3:=G4.out
     clear S1 F1
     go_wp2_with (at_builtin;refine wpList_grow1 w4 rfl _ _ 25 rfl rdInt_good (by decide) (fun _=>True) w2.heap.size 3 fi _ 8 Tryz.underlying25 hi hz0 hz1 hz2 rfl u6 gl rfl hG3 (k:Int) _ 3 hE _ rfl rfl hn1 hn2 hbs3 ?_)
     intro v' w' hG' hgr
     have G5:=Lib.hid hG'
     have B5:=Lib.hid (grow_below hG3 hgr HB4.out (Nat.le_refl _) hbs3)
     clear hG3 hgr hE hG'
     go_wp2
     go_roundw
     case rel=>exact ⟨k+1,by omega,by go_num,by rw [HGN.out,NX.out];exact G5.out,B5.out⟩
     case measure=>simp [intOf];omega
    ·have NX:=Lib.hid (show gn=gl by rw [S1.out,F1.out,decide_eq_false g];rfl)
     clear S1 F1
     go_wp2
     go_roundw
     case rel=>exact ⟨k+1,by omega,by go_num,by rw [HGN.out,NX.out];exact G4.out,HB4.out⟩
     case measure=>simp [intOf];omega
   ·have NX:=Lib.hid (show gn=gl++[(k:Int)] by rw [S1.out,F1.out,Bool.or_true];rfl)
    have hE:=(show rdInt W2 (fun b=>True∧b < W2.heap.size∧u6.ownBlock≠some b) (k:Int) (#[Value.int .i64 (k:Int)]:Array Value).toList from rfl)
    have hn1:gl.length+1≤maxLen:=by unfold maxLen;omega
    have hn2:(gl.length+1)*8≤140737488355328:=by omega
    have hbs3:w2.heap.size≤W2.heap.size:=HB2.out.size
    have hG3:=G2.out
    clear S1 F1
    go_wp2_with (at_builtin;refine wpList_grow1 W2 rfl _ _ 25 rfl rdInt_good (by decide) (fun _=>True) w2.heap.size 3 fi _ 8 Tryz.underlying25 hi hz0 hz1 hz2 rfl u6 gl rfl hG3 (k:Int) _ 3 hE _ rfl rfl hn1 hn2 hbs3 ?_)
    intro v' w' hG' hgr
    have G5:=Lib.hid hG'
    have B5:=Lib.hid (grow_below hG3 hgr HB2.out (Nat.le_refl _) hbs3)
    clear hG3 hgr hE hG'
    go_wp2
    go_roundw
    case rel=>exact ⟨k+1,by omega,by go_num,by rw [HGN.out,NX.out];exact G5.out,B5.out⟩
    case measure=>simp [intOf];omega
  ·obtain rfl:k=U.length:=by omega
   have i0:¬(U.length:Int) < (U.length:Int):=by omega
   have RD:=Lib.hid (show rdInts wr (lt_ wr.heap.size) out [u6] from by
    rw [X.out];exact HG.out.read rdInt_good)
   obtain ⟨Aq,cq,hv6,-,-⟩:=id RD.out
   simp only [List.cons.injEq,and_true] at hv6
   subst hv6
   clear HG
   go_wp2
   go_ret
   exact ⟨⟨Aq,cq,rfl,RD.out⟩,HBW.out⟩
theorem setB_one (n:Nat) (p:Int):setB n [p]=decide (0≤p∧p < (n:Int)):=by
 unfold setB
 rw [decide_eq_decide]
 constructor
 ·intro h;exact h.1 p (List.mem_singleton.2 rfl)
 ·intro h;exact ⟨fun q hq=>by rw [List.mem_singleton.1 hq];exact h,List.pairwise_singleton _ _⟩
set_option maxHeartbeats 8000000 in
theorem cbehind_any (b:Nat) (U:List Ent) (m:List Hr) (A:Option Addr) (np c:Nat) (pn:List Pn) (p:Int) (w:World) (h:UQ w b U m) (hp:rdPns w (lt_ w.heap.size) pn [.slice A np c]) (hnm:∀x ∈ U,x.n.size≤1000000) :
  Calls Tryz.prog 22 #[.pointer (some ⟨b,0,none⟩),.slice A np c,.int .i64 p] w fun e w'=>e=.returned (.int .i64 (bhd U (insU U m) pn p))∧Below w.heap.size w w':=by
 obtain ⟨W1,hW1⟩:∃W,W=w.alloc (.cells #[.int .i64 p] 3):=⟨_,rfl⟩
 have b1:Below w.heap.size w W1:=by rw [hW1];exact (Below.refl _ w).alloc (Nat.le_refl _) _
 have r1:rdInts W1 (lt_ W1.heap.size) [p] [.slice (some ⟨w.heap.size,0,none⟩) 1 1]:=one_rd (ty:=3) rdInt_good (by rw [hW1];exact heap_alloc_new w _) rfl (by rw [hW1];unfold lt_;simp)
 have KV:=Lib.hid (vset_any b U m (some ⟨w.heap.size,0,none⟩) 1 1 [p] W1 (h.up.below b1) r1)
 have KE:=Lib.hid (fun (W:World) (hb:Below w.heap.size w W)=>entries9_any b U m W (h.up.below hb) (by have:=h.len;omega))
 have KO:=Lib.hid (fun (j:Nat) (hj:j < U.length) (W:World) (hb:Below w.heap.size w W)=>of9_any b U m U[j].n W (h.up.below hb) h.len (hnm _ (List.getElem_mem hj)))
 have KA:=Lib.hid (fun (W:World) (hb:Below w.heap.size w W)=>callow_any b U m A np c pn W (h.below hb) (rdPns_good.up (rdPns_good.below hp hb) hb.size))
 have B1:=Lib.hid b1
 have UL:=Lib.hid h.len
 rw [setB_one] at KV
 by_cases hin:0≤p∧p < (U.length:Int)
 rotate_left
 ·have X:=Lib.hid (show bhd U (insU U m) pn p=0 from bhd_out hin)
  rw [decide_eq_false hin] at KV
  generalize bhd U (insU U m) pn p=R at *
  clear h hp hnm b1 r1 hin KE KO KA UL
  go_enter Tryz.func22,Tryz.ntmps22
  go_wp2_with fail
  rw [←hW1]
  clear hW1
  refine KV.out.mono ?_
  rintro e w2 ⟨rfl,rfl⟩
  go_wp2
  go_ret
  exact ⟨by rw [X.out];try rfl,B1.out⟩
 rw [decide_eq_true hin] at KV
 have X:=Lib.hid (abv_bhd (U:=U) (here:=insU U m) (pn:=pn) hin.1 hin.2)
 obtain ⟨hp0,hp1⟩:=hin
 obtain ⟨j,rfl⟩:=Int.eq_ofNat_of_zero_le hp0
 have hjl:j < U.length:=by omega
 rw [entA_at hjl] at X
 have KOj:=Lib.hid (KO.out j hjl)
 have OL:=Lib.hid (show (ixU (isN U[j].n) U 0).length≤1000000 from by have:=ixU_len10 (isN U[j].n) U 0;have:=UL.out;omega)
 generalize bhd U (insU U m) pn (j:Int)=R at *
 generalize alw U (insU U m) pn=may at *
 clear h hp hnm b1 r1 KO
 go_enter Tryz.func22,Tryz.ntmps22
 go_wp2_with fail
 rw [←hW1]
 clear hW1
 refine KV.out.mono ?_
 rintro e w2 ⟨rfl,rfl⟩
 clear KV
 go_wp2_with fail
 refine (KE.out W1 B1.out).mono ?_
 rintro e w3 ⟨⟨Ae,ce,rfl,hre⟩,hb⟩
 have B3:=Lib.hid (bel_in B1.out hb)
 obtain ⟨-,hec,hem,hat⟩:=rdEnts_at hre
 have hem':ce≤9223372036854775807:=hem
 obtain ⟨ade,A1,c1,A2,c2,A3,c3,A4,c4,rfl,-,-,u0,-⟩:=hat j hjl
 generalize ixU (isN U[j].n) U 0=own at *
 generalize U[j].n=yn at *
 clear hb hre hem hat KE
 go_wp2_with fail
 refine (KOj.out w3 B3.out).mono ?_
 rintro e w4 ⟨⟨Ao,co,rfl,hro⟩,hb⟩
 have B4:=Lib.hid (bel_in B3.out hb)
 have HO:=Lib.hid (fun (W:World) (hx:Below w4.heap.size w4 W)=>(rdInts_good.up (rdInts_good.below hro hx) hx.size:rdInts W (lt_ W.heap.size) own [.slice Ao own.length co]))
 clear hb hro u0
 go_wp2_with fail
 refine (KA.out w4 B4.out).mono ?_
 rintro e w5 ⟨⟨Am,cm,rfl,hrm⟩,hb⟩
 have B5:=Lib.hid (bel_in B4.out hb)
 have K5:=Lib.hid (cabove_any Ao own.length co own Am may.length cm may (j:Int) w5 (HO.out w5 hb) hrm OL.out)
 clear hb hrm
 go_wp2_with fail
 refine K5.out.mono ?_
 rintro e w6 ⟨rfl,rfl⟩
 rw [X.out]
 clear K5
 go_wp2
 go_ret
 exact ⟨rfl,B5.out⟩
set_option maxHeartbeats 4000000 in
theorem cmet_any (b:Nat) (L:List Ent) (m:List Hr) (a:Atm) (Al:Option Addr) (nl cl:Nat) (l:List Int) (bu bl:Nat) (w:World) (h:UQ w b L m) (hr:rdInts w (lt_ w.heap.size) l [.slice Al nl cl]) (hs:SetP L.length l) (hz:a.n.size≤1000000) (E:EnvR w) (cu:w.cell? ⟨bu,0,none⟩=some (.pointer (some ⟨b,0,none⟩))) (cb:w.cell? ⟨bl,0,none⟩=some (.slice Al nl cl)) :
  Calls Tryz.prog 58 #[.agg #[.string a.n,.int .i64 a.o,.string a.v],.pointer (some ⟨bu,0,none⟩),.pointer (some ⟨bl,0,none⟩)] w fun e w'=>e=.returned (.bool (givS L l a))∧Below w.heap.size w w':=by
 have KG:=Lib.hid (fun (W:World) (hb:Below w.heap.size w W)=>givers9_any b L m a W (h.up.below hb) (h.big _) hz (E.below hb))
 have KS:=Lib.hid (fun (A:Option Addr) (c:Nat) (g:List Int) (W:World) (hb:Below w.heap.size w W) hra=>cshare_any A g.length c g Al nl cl l W hra (rdInts_good.up (rdInts_good.below hr hb) hb.size))
 have X:=Lib.hid (shr_giv hs a)
 obtain ⟨W1,hW1⟩:∃W,W=w.alloc (.cells #[.string a.n,.int .i64 a.o,.string a.v] 100):=⟨_,rfl⟩
 have b1:Below w.heap.size w W1:=by rw [hW1];exact (Below.refl _ w).alloc (Nat.le_refl _) _
 have B1:=Lib.hid b1
 have x0:W1.cell? ⟨w.heap.size,0,none⟩=some (.string a.n):=by rw [hW1];simp [go_sem]
 have x1:W1.cell? ⟨w.heap.size,1,none⟩=some (.int .i64 a.o):=by rw [hW1];simp [go_sem]
 have x2:W1.cell? ⟨w.heap.size,2,none⟩=some (.string a.v):=by rw [hW1];simp [go_sem]
 have y0:=keep6 b1 cu
 have y1:=keep6 b1 cb
 have HK:=Lib.hid (fun (V:World) (hb:Below W1.heap.size W1 V)=>(show V.cell? ⟨bu,0,none⟩=some (.pointer (some ⟨b,0,none⟩))∧V.cell? ⟨bl,0,none⟩=some (.slice Al nl cl)∧V.cell? ⟨w.heap.size,0,none⟩=some (.string a.n)∧V.cell? ⟨w.heap.size,1,none⟩=some (.int .i64 a.o)∧V.cell? ⟨w.heap.size,2,none⟩=some (.string a.v) from ⟨keep6 hb y0,keep6 hb y1,keep6 hb x0,keep6 hb x1,keep6 hb x2⟩))
 clear h hr hs E b1 hz cu cb x0 x1 x2 y0 y1
 generalize hG:ixU (gvA a) L 0=G at *
 generalize givS L l a=bb at *
 clear hG
 go_enter Tryz.func58,Tryz.ntmps58
 go_upto_region 1 with fail
 rw [←hW1]
 clear hW1
 refine wp_region_noPanic ?_
 refine wp_region_D (fun V=>V.cell? ⟨bu,0,none⟩=some (.pointer (some ⟨b,0,none⟩))∧V.cell? ⟨bl,0,none⟩=some (.slice Al nl cl)∧V.cell? ⟨w.heap.size,0,none⟩=some (.string a.n)∧V.cell? ⟨w.heap.size,1,none⟩=some (.int .i64 a.o)∧V.cell? ⟨w.heap.size,2,none⟩=some (.string a.v)) 5 (by kernel_rfl) (w0:=W1) (Dr.refl _) (fun V hV=>HK.out V (hV.below _)) (fun V hV hHeld=>?_)
 have BV:=Lib.hid (hV.below W1.heap.size)
 clear hV
 refine wpAnyL_take (i:=0) (v:=?_) [4,2] rfl (by kernel_rfl) (by kernel_rfl) (by kernel_rfl) (fun _ _ _ h=>h) (by kernel_rfl) (by kernel_rfl) (by kernel_rfl) (Or.inl ⟨by rfl,?_⟩) (by assumption) ?_
 rotate_left
 ·intro w hSw
  try dsimp only at hSw
  go_simp
  first|done|with_reducible rfl
 try simp only [Act.put,List.setIfInBounds_toArray,List.set_cons_zero,List.set_cons_succ]
 refine wpAnyL_take (i:=1) (v:=?_) [4,2] rfl (by kernel_rfl) (by kernel_rfl) (by kernel_rfl) (fun _ _ _ h=>h) (by kernel_rfl) (by kernel_rfl) (by kernel_rfl) (Or.inl ⟨by rfl,?_⟩) (by assumption) ?_
 rotate_left
 ·intro w hSw
  try dsimp only at hSw
  go_simp
  first|done|with_reducible rfl
 try simp only [Act.put,List.setIfInBounds_toArray,List.set_cons_zero,List.set_cons_succ]
 refine wpAnyL_take (i:=3) (v:=?_) [4] rfl (by kernel_rfl) (by kernel_rfl) (by kernel_rfl) (fun _ _ _ h=>h) (by kernel_rfl) (by kernel_rfl) (by kernel_rfl) (Or.inl ⟨by rfl,?_⟩) (by assumption) ?_
 rotate_left
 ·intro w hSw
  try dsimp only at hSw
  go_simp
  first|done|with_reducible rfl
 try simp only [Act.put,List.setIfInBounds_toArray,List.set_cons_zero,List.set_cons_succ]
 refine wpAnyL_one (i:=2) (by kernel_rfl) rfl (fun K hK=>?_)
 go_simp
 refine (KG.out V (bel_in B1.out BV.out)).mono ?_
 rintro e V2 ⟨⟨Ag,cg,rfl,hrg⟩,hb⟩
 have BV2:=Lib.hid (bel_in BV.out hb)
 have K2:=Lib.hid (KS.out Ag cg G V2 (bel_in B1.out BV2.out) hrg)
 clear hb hrg
 go_wp2_with fail
 refine hK.out _ _ (HK.out _ BV2.out) (fun hHeld=>?_)
 clear hK K
 try simp only [Act.put,List.setIfInBounds_toArray,List.set_cons_zero,List.set_cons_succ]
 refine wpAnyL_one (i:=4) (by kernel_rfl) rfl (fun K hK=>?_)
 go_simp
 refine K2.out.mono ?_
 rintro e V3 ⟨rfl,hb⟩
 have BV3:=Lib.hid (bel_in BV2.out hb)
 clear hb
 go_wp2_with fail
 refine hK.out _ _ (HK.out _ BV3.out) (fun hHeld=>?_)
 clear hK K
 try simp only [Act.put,List.setIfInBounds_toArray,List.set_cons_zero,List.set_cons_succ]
 refine wpAnyL_last (by kernel_rfl) rfl (by kernel_rfl) (fun K hK=>?_)
 go_simp
 refine hK.out _ _ ?_
 clear hK K
 refine NoPanic.normal ?_
 rw [X.out]
 go_wp2
 go_ret
 exact ⟨rfl,bel_in B1.out BV3.out⟩
set_option maxHeartbeats 4000000 in
theorem cwix_any (b:Nat) (L:List Ent) (m:List Hr) (Al:Option Addr) (nl cl:Nat) (l:List Int) (bu bl:Nat) (Ag:Option Addr) (ng cg:Nat) (g:List Atm) (w:World) (h:UQ w b L m) (hr:rdInts w (lt_ w.heap.size) l [.slice Al nl cl]) (hs:SetP L.length l) (hg:rdAtms w (lt_ w.heap.size) g [.slice Ag ng cg]) (hz:∀a ∈ g,a.n.size≤1000000) (E:EnvR w) (cu:w.cell? ⟨bu,0,none⟩=some (.pointer (some ⟨b,0,none⟩))) (cb:w.cell? ⟨bl,0,none⟩=some (.slice Al nl cl)) :
  Calls Tryz.prog 93 #[.slice Ag ng cg,.func (.func 58) #[] #[.pointer (some ⟨bu,0,none⟩),.pointer (some ⟨bl,0,none⟩)]] w fun e w'=>e=.returned (.int .i64 (ixG (givS L l) g 0))∧Below w.heap.size w w':=by
 have hcf:∀(args:Array Value) (w:World),(callFunc 58 args).run Tryz.prog w=.ok (.enter 58 args) w:=fun _ _=>by kernel_rfl
 obtain ⟨rfl,hnc,hcm,_⟩:=rdAtms_at hg
 have hcm':cg≤9223372036854775807:=hcm
 have KM:=Lib.hid (fun (a:Atm) (ha:a.n.size≤1000000) (W:World) (hb:Below w.heap.size w W)=>cmet_any b L m a Al nl cl l bu bl W (h.below hb) (rdInts_good.up (rdInts_good.below hr hb) hb.size) hs ha (E.below hb) (keep6 hb cu) (keep6 hb cb))
 have HA:=Lib.hid (fun (W:World) (hb:Below w.heap.size w W)=>(rdAtms_at (rdAtms_good.up (rdAtms_good.below hg hb) hb.size)).2.2.2)
 have HZ:=Lib.hid hz
 clear h hr hs hg hz E cu cb hcm
 generalize givS L l=f at *
 obtain ⟨R,hR⟩:∃R,R=ixG f g 0:=⟨_,rfl⟩
 rw [←hR]
 have HR:=Lib.hid hR
 clear hR
 go_enter Tryz.func93,Tryz.ntmps93
 go_wp2
 go_loopw [8] (fun i wr=>∃k:Nat,k≤g.length∧i=.int .i64 k∧Hid (R=ixG f (g.drop k) k)∧Below w.heap.size w wr) (fun i _=>g.length - (intOf i).toNat)
 case atStart=>exact ⟨0,Nat.zero_le _,rfl,HR,Below.refl _ _⟩
 case round=>
  obtain ⟨k,hk,rfl,H1,hbel⟩:=hrel
  have HB:=Lib.hid hbel
  clear hbel
  by_cases hlt:k < g.length
  ·obtain ⟨ad,rfl,had,c0,c1,c2⟩:=HA.out wr HB.out k hlt
   have i0:(0:Int)≤(k:Int):=by omega
   have i1:(k:Int) < (g.length:Int):=by omega
   have CL:=Lib.hid (KM.out g[k] (HZ.out _ (List.getElem_mem hlt)) wr HB.out)
   have PA:=Lib.hid (ixG_at (f:=f) hlt)
   clear had
   generalize hx:g[k]=x at c0 c1 c2 CL PA
   generalize hfx:f x=bb at CL PA
   clear hx hfx
   go_wp2_with fail
   refine CL.out.mono ?_
   rintro e w' ⟨rfl,hb2⟩
   have HB2:=Lib.hid (bel_in HB.out hb2)
   clear hb2
   cases bb
   ·have X:=Lib.hid (PA.out.2 rfl)
    clear PA CL c0 c1 c2
    go_wp2
    go_roundw
    case rel=>exact ⟨k+1,by omega,by go_num,Lib.hid (H1.out.trans X.out),HB2.out⟩
    case measure=>simp [intOf];omega
   ·have X:=Lib.hid (PA.out.1 rfl)
    clear PA CL c0 c1 c2
    go_wp2
    go_ret
    exact ⟨by rw [H1.out,X.out];try rfl,HB2.out⟩
  ·have X:=Lib.hid (show R=-1 by rw [H1.out,List.drop_eq_nil_of_le (by omega)];rfl)
   go_wp2
   go_ret
   exact ⟨by rw [X.out];try rfl,HB.out⟩
set_option maxHeartbeats 2000000 in
theorem cwcf_any (b:Nat) (L:List Ent) (m:List Hr) (Al:Option Addr) (nl cl:Nat) (l:List Int) (bu bl:Nat) (Ag:Option Addr) (ng cg:Nat) (g:List Atm) (w:World) (h:UQ w b L m) (hr:rdInts w (lt_ w.heap.size) l [.slice Al nl cl]) (hs:SetP L.length l) (hg:rdAtms w (lt_ w.heap.size) g [.slice Ag ng cg]) (hz:∀a ∈ g,a.n.size≤1000000) (E:EnvR w) (cu:w.cell? ⟨bu,0,none⟩=some (.pointer (some ⟨b,0,none⟩))) (cb:w.cell? ⟨bl,0,none⟩=some (.slice Al nl cl)) :
  Calls Tryz.prog 60 #[.slice Ag ng cg,.func (.func 58) #[] #[.pointer (some ⟨bu,0,none⟩),.pointer (some ⟨bl,0,none⟩)]] w fun e w'=>e=.returned (.bool (metS L l g))∧Below w.heap.size w w':=by
 have C:=Lib.hid (cwix_any b L m Al nl cl l bu bl Ag ng cg g w h hr hs hg hz E cu cb)
 have X:=Lib.hid (show decide (0≤ixG (givS L l) g 0)=metS L l g from ixG_has)
 generalize metS L l g=bb at *
 generalize ixG (givS L l) g 0=R at *
 clear h hr hs hg hz E cu cb
 go_enter Tryz.func60,Tryz.ntmps60
 go_wp2_with fail
 refine C.out.mono ?_
 rintro e w' ⟨rfl,hb2⟩
 have HB2:=Lib.hid hb2
 clear hb2
 go_wp2
 go_ret
 exact ⟨by rw [←X.out];try rfl,HB2.out⟩
set_option maxHeartbeats 16000000 in
theorem cwant_any (b:Nat) (U:List Ent) (m:List Hr) (Al:Option Addr) (nl cl:Nat) (l:List Int) (w:World) (h:UQ w b U m) (hl:rdInts w (lt_ w.heap.size) l [.slice Al nl cl]) (hn:l.length≤1000) (hr:∀x ∈ U,x.r.length≤15) (hz:∀x ∈ U,∀g ∈ x.r,∀a ∈ g,a.n.size≤1000000) (E:EnvR w) :
  Calls Tryz.prog 20 #[.pointer (some ⟨b,0,none⟩),.slice Al nl cl] w fun e w'=>e=.returned (.int .i64 (wnt U l))∧Below w.heap.size w w':=by
 obtain ⟨rfl,hlc,hlm,-⟩:=rdInts_at hl
 have hlm':cl≤9223372036854775807:=hlm
 obtain ⟨Wb,hWb⟩:∃W,W=((w.alloc (.cells #[.pointer (some ⟨b,0,none⟩)] 29)).alloc (.cells #[.slice Al l.length cl] 25)):=⟨_,rfl⟩
 have bb:Below w.heap.size w Wb:=by rw [hWb];exact ((Below.refl _ w).alloc (Nat.le_refl _) _).alloc (by simp) _
 have z0:Wb.cell? ⟨w.heap.size,0,none⟩=some (.pointer (some ⟨b,0,none⟩)):=by rw [hWb];simp [go_sem]
 have z1:Wb.cell? ⟨w.heap.size+1,0,none⟩=some (.slice Al l.length cl):=by rw [hWb];simp [go_sem]
 have BB:=Lib.hid bb
 have K0:=Lib.hid (vset_any b U m Al l.length cl l Wb (h.up.below bb) (rdInts_good.up (rdInts_good.below hl bb) bb.size))
 have KE:=Lib.hid (fun (W:World) (hb:Below w.heap.size w W)=>entries9_any b U m W (h.up.below hb) (by have:=h.len;omega))
 have KF:=Lib.hid (fun (hs:SetP U.length l) (Ag:Option Addr) (cg:Nat) (g:List Atm) (W:World) (hb:Below Wb.heap.size Wb W) hg hgz=>cwcf_any b U m Al l.length cl l w.heap.size (w.heap.size+1) Ag g.length cg g W (h.below (bel_in bb hb)) (rdInts_good.up (rdInts_good.below hl (bel_in bb hb)) (bel_in bb hb).size) hs hg hgz (E.below (bel_in bb hb)) (keep6 hb z0) (keep6 hb z1))
 have HL:=Lib.hid (fun (W:World) (hb:Below w.heap.size w W)=>(rdInts_at (rdInts_good.up (rdInts_good.below hl hb) hb.size)).2.2.2)
 have UL:=Lib.hid h.len
 clear h hl hlm E bb
 cases hset:setB U.length l
 ·have X:=Lib.hid (show wnt U l=0 by unfold wnt;rw [hset];rfl)
  rw [hset] at K0
  generalize wnt U l=R at *
  clear hset KF KE HL
  go_enter Tryz.func20,Tryz.ntmps20
  go_upto_region 1 with fail
  rw [←hWb]
  clear hWb
  go_wp2_with fail
  refine K0.out.mono ?_
  rintro e w1 ⟨rfl,rfl⟩
  go_wp2
  go_ret
  exact ⟨by rw [X.out];try rfl,BB.out⟩
 have SP:SetP U.length l:=of_decide_eq_true hset
 have X:=Lib.hid (show wnt U l=((wnS U l (l.take l.length):Nat):Int) by unfold wnt;rw [if_pos hset,List.take_length])
 have HS:=Lib.hid SP.1
 have KF:=Lib.hid (KF.out SP)
 have WL:=Lib.hid (fun (k:Nat)=>show wnS U l (l.take k)≤15000 from by
  have h1:=wnS_le (U:=U) (l:=l) hr (l.take k)
  have h2:(l.take k).length≤l.length:=by rw [List.length_take];omega
  have h3:(l.take k).length*15≤1000*15:=Nat.mul_le_mul_right _ (by omega)
  omega)
 have ST:=Lib.hid (fun (k:Nat) (hk:k < l.length)=>show wnS U l (l.take (k+1))=wnS U l (l.take k)+wnP U l l[k] from sumN_take (f:=wnP U l) hk)
 have HRR:=Lib.hid hr
 have HZZ:=Lib.hid hz
 rw [hset] at K0
 clear hr hz hset SP
 generalize wnt U l=R at *
 go_enter Tryz.func20,Tryz.ntmps20
 go_upto_region 1 with fail
 rw [←hWb]
 clear hWb
 go_wp2_with fail
 refine K0.out.mono ?_
 rintro e w1 ⟨rfl,rfl⟩
 clear K0
 go_wp2_with fail
 refine (KE.out Wb BB.out).mono ?_
 rintro e w2 ⟨⟨Ae,ce,rfl,hre⟩,hb⟩
 have z1':=keep6 hb z1
 have Q2:=Lib.hid hb
 obtain ⟨-,hec,hem,-⟩:=rdEnts_at hre
 have hem':ce≤9223372036854775807:=hem
 have HE:=Lib.hid (fun (W:World) (hx:Below w2.heap.size w2 W)=>(rdEnts_at (rdEnts_good.up (rdEnts_good.below hre hx) hx.size)).2.2.2)
 clear hb hre hem KE
 go_wp2
 go_loopw [7,21] (fun v i wr=>∃k:Nat,k≤l.length∧i=.int .i64 k∧v=.int .i64 ((wnS U l (l.take k):Nat):Int)∧Below w2.heap.size w2 wr) (fun _ i _=>l.length - (intOf i).toNat)
 case atStart=>exact ⟨0,Nat.zero_le _,rfl,rfl,Below.refl _ _⟩
 case round=>
  obtain ⟨k,hk,rfl,rfl,hbel⟩:=hrel
  have HB2:=Lib.hid hbel
  have HB:=Lib.hid (bel_in BB.out (bel_in Q2.out hbel))
  clear hbel
  have wl:=WL.out k
  by_cases hlt:k < l.length
  ·obtain ⟨adl,rfl,-,l0⟩:=HL.out wr HB.out k hlt
   obtain ⟨s0,s1⟩:=HS.out _ (List.getElem_mem hlt)
   have S1:=Lib.hid (ST.out k hlt)
   obtain ⟨j,hj⟩:=Int.eq_ofNat_of_zero_le s0
   rw [hj] at l0 s1 S1
   have hjl:j < U.length:=by omega
   obtain ⟨ade,A1,c1,A2,c2,A3,c3,A4,c4,rfl,-,hv,u0,u1,u2,u3,-⟩:=HE.out wr HB2.out j hjl
   unfold wnP at S1
   rw [entA_at hjl] at S1
   have rl:=HRR.out _ (List.getElem_mem hjl)
   have rz:=Lib.hid (HZZ.out _ (List.getElem_mem hjl))
   have HVR:=Lib.hid (fun (W:World) (hx:Below wr.heap.size wr W)=>(rdGrps_at (hv.on hx).r))
   have i0:(0:Int)≤(k:Int):=by omega
   have i1:(k:Int) < (l.length:Int):=by omega
   have j0:(0:Int)≤(j:Int):=by omega
   have j1:(j:Int) < (U.length:Int):=by omega
   generalize U[j].r=r at *
   generalize hg2:wnS U l (l.take (k+1))=r2 at *
   have G2:=Lib.hid hg2
   clear hg2
   generalize wnS U l (l.take k)=r1 at *
   have S2:=Lib.hid (show r2=r1+((r.take r.length).filter fun g=>!metS U l g).length by rw [List.take_length];exact S1.out)
   have TS:=Lib.hid (fun (i:Nat) (hi:i < r.length)=>filN_take (p:=fun g=>!metS U l g) hi)
   have TL:=Lib.hid (fun (i:Nat)=>show ((r.take i).filter fun g=>!metS U l g).length≤15 from by
    have h1:=List.length_filter_le (fun g=>!metS U l g) (r.take i)
    have h2:(r.take i).length≤r.length:=by rw [List.length_take];omega
    omega)
   obtain ⟨-,hrc,hrm,-⟩:=HVR.out wr (Below.refl _ _)
   have hrm':c2≤9223372036854775807:=hrm
   clear hj s0 u0 u1 u2 hv S1 hrm
   obtain ⟨wo,hwo⟩:∃wo:World,wo=wr:=⟨_,rfl⟩
   rw [←hwo] at HVR HB2 HB
   go_wp2
   go_loopw [7,31] (fun v i wq=>∃q:Nat,q≤r.length∧i=.int .i64 q∧v=.int .i64 ((r1+((r.take q).filter fun g=>!metS U l g).length:Nat):Int)∧Below wo.heap.size wo wq) (fun _ i _=>r.length - (intOf i).toNat)
   case atStart=>exact ⟨0,Nat.zero_le _,rfl,rfl,by rw [hwo];exact Below.refl _ _⟩
   case round=>
    obtain ⟨q,hq,rfl,rfl,hbel⟩:=hrel
    have HQ:=Lib.hid hbel
    have HQ2:=Lib.hid (bel_in HB2.out hbel)
    clear hbel
    have tl:=TL.out q
    by_cases hqlt:q < r.length
    ·obtain ⟨adr,Ag,cg,rfl,-,g0,hg⟩:=(HVR.out _ HQ.out).2.2.2 q hqlt
     have K1:=Lib.hid (KF.out Ag cg r[q] _ (bel_in Q2.out HQ2.out) hg (rz.out _ (List.getElem_mem hqlt)))
     have T1:=Lib.hid (TS.out q hqlt)
     have q0:(0:Int)≤(q:Int):=by omega
     have q1:(q:Int) < (r.length:Int):=by omega
     generalize hgt:((r.take (q+1)).filter fun g=>!metS U l g).length=t2 at *
     have GT:=Lib.hid hgt
     clear hgt
     generalize ((r.take q).filter fun g=>!metS U l g).length=t1 at *
     generalize r[q]=g at *
     generalize metS U l g=mb at *
     clear hg
     go_wp2_with fail
     refine K1.out.mono ?_
     rintro e w5 ⟨rfl,hb⟩
     have H5:=Lib.hid (bel_in HQ.out hb)
     clear hb g0 K1
     cases mb
     ·have NX:=Lib.hid (show t2=t1+1 by rw [T1.out];rfl)
      go_wp2
      go_roundw
      case rel=>exact ⟨q+1,by omega,by go_num,by rw [GT.out,NX.out];first|rfl|go_num|simp|(congr 1),H5.out⟩
      case measure=>simp [intOf];omega
     ·have NX:=Lib.hid (show t2=t1 by rw [T1.out];rfl)
      go_wp2
      go_roundw
      case rel=>exact ⟨q+1,by omega,by go_num,by rw [GT.out,NX.out];first|rfl|go_num|simp,H5.out⟩
      case measure=>simp [intOf];omega
    ·obtain rfl:q=r.length:=by omega
     have q0:¬(r.length:Int) < (r.length:Int):=by omega
     go_wp2
     go_roundw
     case rel=>exact ⟨k+1,by omega,by go_num,by rw [G2.out,S2.out],HQ2.out⟩
     case measure=>simp [intOf];omega
  ·obtain rfl:k=l.length:=by omega
   have j0:¬(l.length:Int) < (l.length:Int):=by omega
   have XX:=Lib.hid X.out
   generalize wnS U l (l.take l.length)=r1 at *
   go_wp2
   go_ret
   exact ⟨by rw [XX.out];try rfl,HB.out⟩
end Go.Proofs.YtpilmhoakopcaaaGreatDoor
namespace Go.Proofs.YtpilmhoakopcaaaGreatDoor
open Go.RowKit Go.Sort
theorem cost11_info:(Tryz.prog.info? 39).map (fun i=>(i.zero,i.size,i.bytes))=some (some (.agg #[.int .i64 0,.int .i64 0,.int .i64 0,.int .i64 0,.int .i64 0]),5,40):=by kernel_rfl
def wgA (U:List Ent) (here:List Int) (pn:List Pn) (up:Bool):List C5:=if pn.all rgtN=true then wgCs U here pn up else []
def wgE (pn:List Pn):Int:=if pn.all rgtN=true then 0 else 1
end Go.Proofs.YtpilmhoakopcaaaGreatDoor
