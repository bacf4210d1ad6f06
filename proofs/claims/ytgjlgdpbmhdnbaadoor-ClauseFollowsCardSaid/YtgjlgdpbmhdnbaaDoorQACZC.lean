/- What the laws rest on: N12b, E12d, N12p, N12c, N12d. -/
import Derived.Deep.Cut
import Derived.Deep.CutRange
import Derived.Deep.RegionWith
import Derived.Test.YtgjlgdpbmhdnbaaDoorQABZC
set_option maxRecDepth 100000
set_option linter.unusedVariables false
set_option linter.unusedSimpArgs false
namespace Go.Proofs.YtgjlgdpbmhdnbaaDoor
open Go.RowKit
abbrev rdIss:Rd (List (List Int)):=rdRow 1 rdInts
theorem rdIss_good:Good rdIss 1:=rdRow_good rdInts_good
theorem rdIss_at {w:World} {S:Nat→Prop} {l:List (List Int)} {A:Option Addr} {n c:Nat} (h:rdIss w S l [.slice A n c]):n=l.length∧n≤c∧c≤maxLen∧∀k (hk:k < l.length),∃ad,A=some ad∧S ad.block∧
  ∃A' c',w.cell? (ad.add k)=some (.slice A' l[k].length c')∧rdInts w S l[k] [.slice A' l[k].length c']:=by
 obtain ⟨A',c',e,h1,h2,h⟩:=h
 simp only [List.cons.injEq,Value.slice.injEq,and_true] at e
 obtain ⟨rfl,rfl,rfl⟩:=e
 refine ⟨rfl,h1,h2,fun k hk=>?_⟩
 obtain ⟨ad,es,e,hS,hE,hl,hc⟩:=h k hk
 obtain ⟨A2,c2,rfl,q⟩:=id hE
 refine ⟨ad,e,hS,A2,c2,?_,hE⟩
 have:=hc 0 _ rfl
 simpa using this
theorem bel12 {w w1 w2:World} (h:Below w.heap.size w w1) (k:Below w1.heap.size w1 w2):Below w.heap.size w w2:=h.trans (k.mono h.size)
def ixF (p:Int→Bool):List Int→Nat→Int
 | [],_=>-1
 | x::r,i=>if p x=true then (i:Int) else ixF p r (i+1)
theorem ixF_at {p:Int→Bool} {l:List Int} {k:Nat} (hk:k < l.length):(p l[k]=true→ixF p (l.drop k) k=(k:Int))∧(p l[k]=false→ixF p (l.drop k) k=ixF p (l.drop (k+1)) (k+1)):=by
 rw [List.drop_eq_getElem_cons hk]
 unfold ixF
 exact ⟨fun h=>if_pos h,fun h=>by rw [if_neg (by rw [h];decide)];cases l.drop (k+1)<;>rfl⟩
theorem ixF_has {p:Int→Bool}:∀{l:List Int} {i:Nat},decide (0≤ixF p l i)=l.any p
 | [],i=>by rw [List.any_nil];exact decide_eq_false (by unfold ixF;omega)
 | x::r,i=>by
  unfold ixF
  rw [List.any_cons]
  cases h:p x
  ·rw [if_neg (by decide),Bool.false_or];exact ixF_has
  ·rw [if_pos rfl,Bool.true_or,decide_eq_true_iff];omega
set_option maxHeartbeats 4000000 in
theorem ixF_any (g:Nat) (cap:Array Value) (p:Int→Bool) (A:Option Addr) (n c:Nat) (l:List Int) (S:Nat→Prop) (w:World) (hcf:∀(args:Array Value) (w:World),(callFunc g args).run Tryd.prog w=.ok (.enter g args) w) (h:rdInts w S l [.slice A n c])
  (KP:∀(x:Int),Calls Tryd.prog g (#[.int .i64 x]++cap) w fun e w'=>e=.returned (.bool (p x))∧w=w') :
  Calls Tryd.prog 44 #[.slice A n c,.func (.func g) #[] cap] w fun e w'=>e=.returned (.int .i64 (ixF p l 0))∧w=w':=by
 obtain ⟨rfl,hnc,hcm,ha⟩:=rdInts_at h
 have hcm':c≤9223372036854775807:=hcm
 have HA:=Lib.hid ha
 have HK:=Lib.hid KP
 obtain ⟨R,hR⟩:∃R,R=ixF p l 0:=⟨_,rfl⟩
 rw [←hR]
 have HR:=Lib.hid hR
 clear h hcm KP ha hR
 go_enter Tryd.func44,Tryd.ntmps44
 go_wp2
 go_loopw [8] (fun i wr=>∃k:Nat,k≤l.length∧i=.int .i64 k∧Hid (R=ixF p (l.drop k) k)∧w=wr) (fun i _=>l.length - (intOf i).toNat)
 case atStart=>exact ⟨0,Nat.zero_le _,rfl,HR,rfl⟩
 case round=>
  obtain ⟨k,hk,rfl,H1,rfl⟩:=hrel
  by_cases hlt:k < l.length
  ·obtain ⟨ad,rfl,had,g0⟩:=HA.out k hlt
   have CL:=Lib.hid (HK.out l[k])
   have PA:=Lib.hid (ixF_at (p:=p) hlt)
   have i0:(0:Int)≤(k:Int):=by omega
   have i1:(k:Int) < (l.length:Int):=by omega
   clear had
   generalize l[k]=x at *
   cases he:p x
   ·have X:=Lib.hid (PA.out.2 he)
    rw [he] at CL
    clear he
    go_wp2_with fail
    refine CL.out.mono ?_
    rintro e w' ⟨rfl,rfl⟩
    go_wp2
    go_roundw
    case rel=>exact ⟨k+1,by omega,by go_num,Lib.hid (H1.out.trans X.out),by first|rfl|trivial⟩
    case measure=>simp [intOf];omega
   ·have X:=Lib.hid (PA.out.1 he)
    rw [he] at CL
    clear he
    go_wp2_with fail
    refine CL.out.mono ?_
    rintro e w' ⟨rfl,rfl⟩
    go_wp2
    go_ret
    exact ⟨by rw [H1.out,X.out];try rfl,rfl⟩
  ·have X:=Lib.hid (show R=-1 by rw [H1.out,List.drop_eq_nil_of_le (by omega)];rfl)
   go_wp2
   go_ret
   exact ⟨by rw [X.out];try rfl,rfl⟩
set_option maxHeartbeats 2000000 in
theorem contF_any (g:Nat) (cap:Array Value) (p:Int→Bool) (A:Option Addr) (n c:Nat) (l:List Int) (S:Nat→Prop) (w:World) (hcf:∀(args:Array Value) (w:World),(callFunc g args).run Tryd.prog w=.ok (.enter g args) w) (h:rdInts w S l [.slice A n c])
  (KP:∀(x:Int),Calls Tryd.prog g (#[.int .i64 x]++cap) w fun e w'=>e=.returned (.bool (p x))∧w=w') :
  Calls Tryd.prog 26 #[.slice A n c,.func (.func g) #[] cap] w fun e w'=>e=.returned (.bool (l.any p))∧w=w':=by
 have C:=Lib.hid (ixF_any g cap p A n c l S w hcf h KP)
 have X:=Lib.hid (ixF_has (p:=p) (l:=l) (i:=0))
 generalize l.any p=bb at *
 generalize ixF p l 0=R at *
 clear h KP
 go_enter Tryd.func26,Tryd.ntmps26
 go_wp2_with fail
 refine C.out.mono ?_
 rintro e w' ⟨rfl,rfl⟩
 go_wp2
 go_ret
 exact ⟨by rw [←X.out];try rfl,rfl⟩
def noL (n:Nat) (x:Int):Bool:=decide (plI x n < 0)
theorem noL_is {n:Nat} {x:Int}:noL n x=decide (¬litN n x):=by
 unfold noL
 by_cases h:litN n x
 ·rw [plI_lit h,decide_eq_false (by omega),decide_eq_false (fun c=>c h)]
 ·rw [plI_not h,decide_eq_true (by omega),decide_eq_true h]
theorem rgc12_any (b n:Nat) (x:Int) (w:World) (hn:n≤20000) (hc:w.cell? ⟨b,0,none⟩=some (.int .i64 n)) :
  Calls Tryd.prog 24 #[.int .i64 x,.pointer (some ⟨b,0,none⟩)] w fun e w'=>e=.returned (.bool (noL n x))∧w=w':=by
 have PL:=Lib.hid (pla12_any x n w (by omega))
 have X:=Lib.hid (show noL n x=decide (plI x n < 0) from rfl)
 generalize noL n x=bb at *
 generalize plI x n=p at *
 go_enter Tryd.func24,Tryd.ntmps24
 go_wp2_with fail
 refine PL.out.mono ?_
 rintro e w' ⟨rfl,rfl⟩
 go_wp2
 go_ret
 exact ⟨by rw [X.out];try rfl,rfl⟩
def okC (n:Nat) (c:List Int):Bool:=decide (c.length≤20000)&&!c.any (noL n)
def okF (n:Int) (l:List (List Int)):Bool:=decide (0≤n∧n≤20000∧l.length≤400000)&&l.all (okC n.toNat)
theorem okF_spec {n:Int} {l:List (List Int)} (h:okF n l=true):0≤n∧n≤20000∧l.length≤400000∧∀c ∈ l,c.length≤20000∧∀y ∈ c,litN n.toNat y:=by
 unfold okF at h
 rw [Bool.and_eq_true,decide_eq_true_iff,List.all_eq_true] at h
 refine ⟨h.1.1,h.1.2.1,h.1.2.2,fun c hc=>?_⟩
 have:=h.2 c hc
 unfold okC at this
 rw [Bool.and_eq_true,decide_eq_true_iff,Bool.not_eq_true',List.any_eq_false] at this
 refine ⟨this.1,fun y hy=>?_⟩
 have q:=this.2 y hy
 rw [noL_is,decide_eq_true_iff] at q
 exact Decidable.not_not.1 q
set_option maxHeartbeats 4000000 in
theorem right12_any (n:Int) (A:Option Addr) (nl cl:Nat) (l:List (List Int)) (w:World) (h:rdIss w (lt_ w.heap.size) l [.slice A nl cl]) :
  Calls Tryd.prog 12 #[.int .i64 n,.slice A nl cl] w fun e w'=>e=.returned (.bool (okF n l))∧Below w.heap.size w w':=by
 obtain ⟨V,hV⟩:∃V,V=w.alloc (.cells #[.int .i64 n] 3):=⟨_,rfl⟩
 have b1:Below w.heap.size w V:=by rw [hV];exact (Below.refl _ w).alloc (Nat.le_refl _) _
 have d1:V.cell? ⟨w.heap.size,0,none⟩=some (.int .i64 n):=by rw [hV];simp [go_sem]
 obtain ⟨rfl,hnc,hcm,_⟩:=rdIss_at h
 have hcm':cl≤9223372036854775807:=hcm
 have HB:=Lib.hid b1
 have HA:=Lib.hid (rdIss_at (rdIss_good.below h b1)).2.2.2
 clear h hcm b1
 by_cases h1:n < 0
 ·have X:=Lib.hid (show okF n l=false by unfold okF;rw [decide_eq_false (by omega)];rfl)
  have e1:decide (n < 0)=true:=decide_eq_true h1
  generalize okF n l=bb at *
  go_enter Tryd.func12,Tryd.ntmps12
  go_upto_region 1 with fail
  rw [←hV]
  clear hV
  go_wp2
  go_ret
  exact ⟨by rw [X.out];try rfl,HB.out⟩
 have e1:decide (n < 0)=false:=decide_eq_false h1
 by_cases h2:n > 20000
 ·have X:=Lib.hid (show okF n l=false by unfold okF;rw [decide_eq_false (by omega)];rfl)
  have e2:decide (n > 20000)=true:=decide_eq_true h2
  have e2':decide (20000 < n)=true:=decide_eq_true h2
  generalize okF n l=bb at *
  go_enter Tryd.func12,Tryd.ntmps12
  go_upto_region 1 with fail
  rw [←hV]
  clear hV
  go_wp2
  go_ret
  exact ⟨by rw [X.out];try rfl,HB.out⟩
 have e2:decide (n > 20000)=false:=decide_eq_false h2
 have e2':decide (20000 < n)=false:=decide_eq_false h2
 by_cases h3:l.length > 400000
 ·have X:=Lib.hid (show okF n l=false by unfold okF;rw [decide_eq_false (by omega)];rfl)
  have e3:decide ((l.length:Int) > 400000)=true:=decide_eq_true (by omega)
  have e3':decide (400000 < (l.length:Int))=true:=decide_eq_true (by omega)
  generalize okF n l=bb at *
  go_enter Tryd.func12,Tryd.ntmps12
  go_upto_region 1 with fail
  rw [←hV]
  clear hV
  go_wp2
  go_ret
  exact ⟨by rw [X.out];try rfl,HB.out⟩
 have e3:decide ((l.length:Int) > 400000)=false:=decide_eq_false (by omega)
 have e3':decide (400000 < (l.length:Int))=false:=decide_eq_false (by omega)
 obtain ⟨m,rfl⟩:∃m:Nat,n=(m:Int):=⟨n.toNat,by omega⟩
 have X:=Lib.hid (show okF m l=l.all (okC m) by unfold okF;rw [decide_eq_true (by omega),Bool.true_and];rfl)
 have KC:=Lib.hid (fun (x:Int)=>rgc12_any w.heap.size m x V (by omega) d1)
 have KF:=Lib.hid (fun (A:Option Addr) (k c:Nat) (q:List Int) (hq:rdInts V (lt_ w.heap.size) q [.slice A k c])=>contF_any 24 #[.pointer (some ⟨w.heap.size,0,none⟩)] (noL m) A k c q _ V (fun _ _=>by kernel_rfl) hq (fun x=>KC.out x))
 generalize okF m l=bb at *
 go_enter Tryd.func12,Tryd.ntmps12
 go_upto_region 1 with fail
 rw [←hV]
 clear hV
 go_wp2
 go_loopw [22] (fun i wr=>∃k:Nat,k≤l.length∧i=.int .i64 k∧Hid ((l.take k).all (okC m)=true)∧V=wr) (fun i _=>l.length - (intOf i).toNat)
 case atStart=>exact ⟨0,Nat.zero_le _,rfl,Lib.hid rfl,rfl⟩
 case round=>
  obtain ⟨k,hk,rfl,H1,rfl⟩:=hrel
  by_cases hlt:k < l.length
  ·obtain ⟨ad,rfl,had,A2,c2,g0,g1⟩:=HA.out k hlt
   have CL:=Lib.hid (KF.out _ _ _ _ g1)
   have i0:(0:Int)≤(k:Int):=by omega
   have i1:(k:Int) < (l.length:Int):=by omega
   have TK:=Lib.hid (show (l.take (k+1)).all (okC m)=okC m l[k] by rw [List.take_succ_eq_append_getElem hlt,List.all_append,H1.out,Bool.true_and,List.all_cons,List.all_nil,Bool.and_true])
   have AL:=Lib.hid (show okC m l[k]=false→l.all (okC m)=false from fun q=>by rw [List.all_eq_false];exact ⟨_,List.getElem_mem hlt,by rw [q];decide⟩)
   have OK:=Lib.hid (show okC m l[k]=(decide (l[k].length≤20000)&&!l[k].any (noL m)) from rfl)
   clear had g1
   generalize l[k].any (noL m)=aa at *
   generalize okC m l[k]=oo at *
   generalize l[k].length=ln at *
   by_cases hl:ln > 20000
   ·have f1:decide ((ln:Int) > 20000)=true:=decide_eq_true (by omega)
    have f2:decide (20000 < (ln:Int))=true:=decide_eq_true (by omega)
    have O2:=Lib.hid (AL.out (by rw [OK.out,decide_eq_false (by omega)];rfl))
    clear AL OK TK
    go_wp2
    go_ret
    exact ⟨by rw [X.out,O2.out];try rfl,HB.out⟩
   ·have f1:decide ((ln:Int) > 20000)=false:=decide_eq_false (by omega)
    have f2:decide (20000 < (ln:Int))=false:=decide_eq_false (by omega)
    have O1:=Lib.hid (show oo=!aa by rw [OK.out,decide_eq_true (by omega),Bool.true_and])
    cases aa
    ·have T2:=Lib.hid (show (l.take (k+1)).all (okC m)=true by rw [TK.out,O1.out];rfl)
     clear AL OK TK
     go_wp2_with fail
     refine CL.out.mono ?_
     rintro e w' ⟨rfl,rfl⟩
     go_wp2
     go_roundw
     case rel=>exact ⟨k+1,by omega,by go_num,T2,by first|rfl|trivial⟩
     case measure=>simp [intOf];omega
    ·have O2:=Lib.hid (AL.out (by rw [O1.out];rfl))
     clear AL OK TK
     go_wp2_with fail
     refine CL.out.mono ?_
     rintro e w' ⟨rfl,rfl⟩
     go_wp2
     go_ret
     exact ⟨by rw [X.out,O2.out];try rfl,HB.out⟩
  ·have O2:=Lib.hid (show l.all (okC m)=true by have:=H1.out;rwa [List.take_of_length_le (by omega)] at this)
   go_wp2
   go_ret
   exact ⟨by rw [X.out,O2.out];try rfl,HB.out⟩
theorem int12_info:(Tryd.prog.info? 3).map (fun i=>(i.zero,i.size,i.bytes))=some (some (.int .i64 0),1,8):=by kernel_rfl
theorem ptr12_info:(Tryd.prog.info? 53).map (fun i=>(i.zero,i.size,i.bytes))=some (some (.pointer none),1,8):=by kernel_rfl
theorem add12_0 (b k:Nat):(⟨b,0,none⟩:Addr).add k=⟨b,k,none⟩:=by unfold Addr.add;split<;>simp_all
theorem news12 {w:World} {N:Nat} {u:Value} (h:w.cell? ⟨N,0,none⟩=some u):∀(j:Nat) (v:Value),[u][j]?=some v→w.cell? ((⟨N,0,none⟩:Addr).add j)=some v:=by
 intro j v hj
 match j,hj with
 | 0,hj=>rw [add12_0];injection hj with hj;rw [←hj];exact h
 | j+1,hj=>cases hj
theorem wpList_push {P:Program} {ops:Array Oper} {rest:List Oper} {o:Oper} {a:Act} {Q:Exit→Act→World→Prop} (w:World) (hgd:o.guard=none) (s x:Operand) (t:TypeId)
  (ho:o.op=.call { callee:=.builtin .append,args:=#[s,x],argTypes:=#[t,t] })
  (base:Nat) (e:TypeId) (i:TypeInfo) (z:Value) (bytes:Nat) (ht:P.underlying t=some (.slice e)) (hi:P.info? e=some i) (hz:i.zero=some z)
  (hsize:i.size=1) (hby:i.bytes=bytes) (hzs:z.cells.size=1)
  (v:Value) (n:Nat) (xs:List Value) (hs:a.eval s=v) (hown:w.ownsRow base e 1 v n xs)
  (N:Nat) (u:Value) (hx:a.eval x=.slice (some ⟨N,0,none⟩) 1 1) (hc:w.cell? ⟨N,0,none⟩=some u) (hu:u.oneCell'=true)
  (h63:n+1≤maxLen) (hbytes:(n+1)*bytes≤140737488355328) (hbase:base≤w.heap.size)
  (h:∀v' w',w'.ownsRow base e 1 v' (n+1) (xs++[u])→w.grownBy w' v.ownBlock→(v'.ownBlock=v.ownBlock∨∃b,v'.ownBlock=some b∧w.heap.size≤b)→wpList P ops Q rest (a.put o.dst v') w') :
  wpList P ops Q (o::rest) a w:=
 wpList_append_own_at w hgd s x t ho base e i z 1 bytes ht hi hz hsize hby hzs (by decide) v n xs hs hown ⟨N,0,none⟩ 1 1 [u] hx rfl (news12 hc) (fun y hy=>by rw [List.mem_singleton.1 hy];exact hu) h63 hbytes hbase
  fun v' w' h1 h2 _ h3=>h v' w' h1 h2 (h3.imp id fun e=>⟨_,e,Nat.le_refl _⟩)
theorem step_push {P:Program} {ops:Array Oper} {o:Oper} {a:Act} {K:Act→World→Prop} {Q:Exit→Act→World→Prop} {F:Prop} (w:World) (hgd:o.guard=none) (s x:Operand) (t:TypeId)
  (ho:o.op=.call { callee:=.builtin .append,args:=#[s,x],argTypes:=#[t,t] })
  (base:Nat) (e:TypeId) (i:TypeInfo) (z:Value) (bytes:Nat) (ht:P.underlying t=some (.slice e)) (hi:P.info? e=some i) (hz:i.zero=some z)
  (hsize:i.size=1) (hby:i.bytes=bytes) (hzs:z.cells.size=1)
  (v:Value) (n:Nat) (xs:List Value) (hs:a.eval s=v) (hown:w.ownsRow base e 1 v n xs)
  (N:Nat) (u:Value) (hx:a.eval x=.slice (some ⟨N,0,none⟩) 1 1) (hc:w.cell? ⟨N,0,none⟩=some u) (hu:u.oneCell'=true)
  (h63:n+1≤maxLen) (hbytes:(n+1)*bytes≤140737488355328) (hbase:base≤w.heap.size)
  (h:∀v' w',w'.ownsRow base e 1 v' (n+1) (xs++[u])→w.grownBy w' v.ownBlock→(v'.ownBlock=v.ownBlock∨∃b,v'.ownBlock=some b∧w.heap.size≤b)→K (a.put o.dst v') w') :
  if Region.wanted o (yielded ops a.tmps)=true then Oper.wp P o a w K Q else F:=by
 have hw:Region.wanted o (yielded ops a.tmps)=true:=by simp [Region.wanted,hgd]
 rw [if_pos hw]
 obtain ⟨v',w',hr,h1,h2,_,h3⟩:=run_append_own_at (P:=P) w base t o.type e i z 1 bytes ht hi hz hsize hby hzs (by decide) v n xs hown ⟨N,0,none⟩ 1 1 [u] rfl (news12 hc) (fun y hy=>by rw [List.mem_singleton.1 hy];exact hu) h63 hbytes hbase
 unfold Oper.wp execOp
 simp only [ho,resolve,invoke,builtin,Sem.run_bind,Sem.run_pure,Result.andThen_ok,List.map_toArray,List.map_cons,List.map_nil,hs,hx,hr]
 exact h v' w' h1 h2 (h3.imp id fun e=>⟨_,e,Nat.le_refl _⟩)
section
variable {w w':World} {N sb tb hb n:Nat} {pb:Nat→Nat} {mv:Value} {hd rv:Nat→Value} {s:Sp}
theorem blk_ints {w:World} {b n:Nat} {l:List Int} (h:w.heap[b]?=some (.cells (l.map (Value.int .i64)).toArray 3 (0,0))) (hl:l.length=n) (hn:n≤maxLen):rdInts w (lt_ w.heap.size) l [.slice (some ⟨b,0,none⟩) n n]:=by
 refine ⟨some ⟨b,0,none⟩,n,by rw [hl],by omega,hn,fun k hk=>⟨⟨b,0,none⟩,[.int .i64 l[k]],rfl,cb_lt h,rfl,rfl,fun j u hj=>?_⟩⟩
 match j,hj with
 | 0,hj=>
  rw [add12_0,cb_cell h]
  injection hj with hj
  rw [←hj]
  simp [hk]
 | j+1,hj=>cases hj
theorem SpM.tread (h:SpM w N sb tb hb n pb mv hd rv s) (hn:n≤maxLen):rdInts w (lt_ w.heap.size) s.t [.slice (some ⟨tb,0,none⟩) n n]:=blk_ints h.tbx h.nl hn
theorem SpM.tcell (h:SpM w N sb tb hb n pb mv hd rv s) {i:Nat} (hi:i < n):w.cell? ⟨tb,i,none⟩=some (.int .i64 (s.t[i]!)):=by
 rw [cb_cell h.tbx,getElem!_pos s.t i (by rw [h.nl];exact hi)]
 simp [h.nl,hi]
theorem SpM.s0 (h:SpM w N sb tb hb n pb mv hd rv s):w.cell? ⟨sb,0,none⟩=some (.slice (some ⟨tb,0,none⟩) n n):=by rw [cb_cell h.sbx];rfl
theorem SpM.s1 (h:SpM w N sb tb hb n pb mv hd rv s):w.cell? ⟨sb,1,none⟩=some mv:=by rw [cb_cell h.sbx];rfl
theorem SpM.s2 (h:SpM w N sb tb hb n pb mv hd rv s):w.cell? ⟨sb,2,none⟩=some (.slice (some ⟨hb,0,none⟩) (2*n+1) (2*n+1)):=by rw [cb_cell h.sbx];rfl
theorem SpM.sf (h:SpM w N sb tb hb n pb mv hd rv s) (i:Nat):w.frozen? ⟨sb,i,none⟩=false:=cb_froz h.sbx i
theorem SpM.tf (h:SpM w N sb tb hb n pb mv hd rv s) (i:Nat):w.frozen? ⟨tb,i,none⟩=false:=cb_froz h.tbx i
theorem SpM.hf (h:SpM w N sb tb hb n pb mv hd rv s) (i:Nat):w.frozen? ⟨hb,i,none⟩=false:=cb_froz h.hbx i
theorem SpM.hcell (h:SpM w N sb tb hb n pb mv hd rv s) {i:Nat} (hi:i < 2*n+1):w.cell? ⟨hb,i,none⟩=some (hd i):=by rw [cb_cell h.hbx];simp [hi]
theorem SpM.b0 (h:SpM w N sb tb hb n pb mv hd rv s) {j:Nat} (hj:j < s.ws.length):w.cell? ⟨pb j,0,none⟩=some (.int .i64 (s.ws[j]!).a):=by rw [cb_cell (h.box j hj)];rfl
theorem SpM.b1 (h:SpM w N sb tb hb n pb mv hd rv s) {j:Nat} (hj:j < s.ws.length):w.cell? ⟨pb j,1,none⟩=some (.int .i64 (s.ws[j]!).b):=by rw [cb_cell (h.box j hj)];rfl
theorem SpM.b2 (h:SpM w N sb tb hb n pb mv hd rv s) {j:Nat} (hj:j < s.ws.length):w.cell? ⟨pb j,2,none⟩=some (rv j):=by rw [cb_cell (h.box j hj)];rfl
theorem SpM.bf (h:SpM w N sb tb hb n pb mv hd rv s) {j:Nat} (hj:j < s.ws.length) (i:Nat):w.frozen? ⟨pb j,i,none⟩=false:=cb_froz (h.box j hj) i
end
theorem own_is {w:World} {base:Nat} {e:TypeId} {n:Nat} {v:Value} {xs:List Value} (h:w.ownsRow base e 1 v n xs):∃A c,v=.slice A n c∧n≤c∧c≤maxLen∧(n=0∨∃g,A=some ⟨g,0,none⟩):=by
 rcases h.2 with ⟨rfl,rfl⟩|⟨g,cap,cur,rfl,_,_,hnc,hcm,_⟩
 ·exact ⟨none,0,rfl,Nat.le_refl _,Nat.zero_le _,Or.inl rfl⟩
 ·exact ⟨_,_,rfl,hnc,hcm,Or.inr ⟨g,rfl⟩⟩
theorem own_cell {w:World} {base:Nat} {e:TypeId} {n c g:Nat} {xs:List Value} (h:w.ownsRow base e 1 (.slice (some ⟨g,0,none⟩) n c) n xs) {j:Nat} (hj:j < n):w.cell? ⟨g,j,none⟩=xs[j]?:=h.cellAt j (by omega)
theorem atP_is {n:Nat} {x:Int} (h:litN n x):((atP n x:Nat):Int)=x+n∧atP n x < 2*n+1:=by
 obtain ⟨_,_,_⟩:=h;unfold atP;omega
set_option maxHeartbeats 1000000 in
theorem sints12_any (A A':Option Addr) (n c n' c':Nat) (l m:List Int) (w:World) (h:rdInts w (lt_ w.heap.size) l [.slice A n c]) (h':rdInts w (lt_ w.heap.size) m [.slice A' n' c']) :
  Calls Tryd.prog 11 #[.slice A n c,.slice A' n' c'] w fun e w'=>e=.returned (.bool (decide (l=m)))∧Dr w w':=by
 obtain ⟨rfl,hnc,hcm,_⟩:=rdInts_at h
 obtain ⟨rfl,hnc',hcm',_⟩:=rdInts_at h'
 have hcm1:c≤9223372036854775807:=hcm
 have hcm2:c'≤9223372036854775807:=hcm'
 by_cases hlen:l.length=m.length
 ·have hd:((l.length:Int) != (m.length:Int))=false:=by rw [hlen];simp
  have HL:=Lib.hid hlen
  clear hlen
  go_enter Tryd.func11,Tryd.ntmps11
  go_wp2
  go_loopw [5] (fun i wr=>∃k:Nat,k≤l.length∧i=.int .i64 k∧l.take k=m.take k∧Dr w wr) (fun i _=>l.length - (intOf i).toNat)
  case atStart=>exact ⟨0,Nat.zero_le _,rfl,rfl,Dr.refl _⟩
  case round=>
   obtain ⟨k,hk,rfl,htk,hbel⟩:=hrel
   by_cases hlt:k < l.length
   ·obtain ⟨_,_,_,ha⟩:=rdInts_at (rdInts_good.below h (hbel.below _))
    obtain ⟨_,_,_,hb⟩:=rdInts_at (rdInts_good.below h' (hbel.below _))
    have hltm:k < m.length:=by rw [←HL.out];exact hlt
    obtain ⟨ad,rfl,had,h0⟩:=ha k hlt
    obtain ⟨ad',rfl,had',g0⟩:=hb k hltm
    have T:=Lib.hid (same_take (l:=l) (m:=m) HL.out hlt hltm htk)
    have Z:=Lib.hid (show l[k]≠m[k]→l≠m from fun hn e=>hn (by subst e;rfl))
    have HB:=Lib.hid hbel
    have hki:(k:Int) < (m.length:Int):=by omega
    clear htk ha hb hbel h h'
    generalize l[k]=x at *
    generalize m[k]=y at *
    by_cases he:x=y
    ·have hq:(x != y)=false:=by rw [he];simp
     have HE:=Lib.hid he
     clear he
     go_wp2_with fail
     go_quiet (fail)
     go_wp2
     go_roundw
     case rel=>exact ⟨k+1,by omega,by go_num,T.out HE.out,HB.out.more _⟩
     case measure=>simp [intOf];omega
    ·have hq:(x != y)=true:=by rw [bne_iff_ne];exact he
     have HE:=Lib.hid he
     clear he
     go_wp2_with fail
     go_quiet (fail)
     go_wp2
     go_ret
     exact ⟨by rw [decide_eq_false (Z.out HE.out)];try rfl,HB.out.more _⟩
   ·obtain rfl:k=l.length:=by omega
    have X:=Lib.hid (show l=m by rw [List.take_length] at htk;rw [htk,HL.out,List.take_length])
    clear htk h h'
    go_wp2
    go_ret
    exact ⟨by rw [decide_eq_true X.out];try rfl,hbel⟩
 ·have hd:((l.length:Int) != (m.length:Int))=true:=by rw [bne_iff_ne];omega
  have X:=Lib.hid (show l≠m by rintro rfl;exact hlen rfl)
  clear hlen
  go_enter Tryd.func11,Tryd.ntmps11
  go_wp2
  go_ret
  exact ⟨by rw [decide_eq_false X.out];try rfl,Dr.refl _⟩
def sm12 (l:List (List Int)):Bool:=decide (l.length≤100)&&l.all fun c=>decide (c.length≤310)
set_option maxHeartbeats 2000000 in
theorem small12_any (A:Option Addr) (nl cl:Nat) (l:List (List Int)) (S:Nat→Prop) (w:World) (h:rdIss w S l [.slice A nl cl]) :
  Calls Tryd.prog 8 #[.slice A nl cl] w fun e w'=>e=.returned (.bool (sm12 l))∧w=w':=by
 obtain ⟨rfl,hnc,hcm,ha⟩:=rdIss_at h
 have hcm':cl≤9223372036854775807:=hcm
 have HA:=Lib.hid ha
 have X:=Lib.hid (show sm12 l=(decide (l.length≤100)&&l.all fun c=>decide (c.length≤310)) from rfl)
 generalize sm12 l=bb at *
 clear h hcm ha
 by_cases h1:l.length > 100
 ·have d1:decide (100 < (l.length:Int))=true:=decide_eq_true (by omega)
  have hz:(100:Int) < (l.length:Int):=by omega
  have Z:=Lib.hid (show bb=false by rw [X.out,decide_eq_false (by omega)];rfl)
  clear X
  go_enter Tryd.func8,Tryd.ntmps8
  go_wp2
  go_ret
  exact ⟨by rw [Z.out];try rfl,rfl⟩
 have d1:decide (100 < (l.length:Int))=false:=decide_eq_false (by omega)
 have hz:¬(100:Int) < (l.length:Int):=by omega
 have X2:=Lib.hid (show bb=l.all fun c=>decide (c.length≤310) by rw [X.out,decide_eq_true (by omega),Bool.true_and])
 clear X
 go_enter Tryd.func8,Tryd.ntmps8
 go_wp2
 go_loopw [3] (fun i wr=>∃k:Nat,k≤l.length∧i=.int .i64 k∧Hid ((l.take k).all (fun c=>decide (c.length≤310))=true)∧w=wr) (fun i _=>l.length - (intOf i).toNat)
 case atStart=>exact ⟨0,Nat.zero_le _,rfl,Lib.hid rfl,rfl⟩
 case round=>
  obtain ⟨k,hk,rfl,H1,rfl⟩:=hrel
  by_cases hlt:k < l.length
  ·obtain ⟨ad,rfl,had,A2,c2,g0,g1⟩:=HA.out k hlt
   have i0:(0:Int)≤(k:Int):=by omega
   have i1:(k:Int) < (l.length:Int):=by omega
   have TK:=Lib.hid (show (l.take (k+1)).all (fun c=>decide (c.length≤310))=decide (l[k].length≤310) by rw [List.take_succ_eq_append_getElem hlt,List.all_append,H1.out,Bool.true_and,List.all_cons,List.all_nil,Bool.and_true])
   have AL:=Lib.hid (show decide (l[k].length≤310)=false→l.all (fun c=>decide (c.length≤310))=false from fun q=>by rw [List.all_eq_false];exact ⟨_,List.getElem_mem hlt,by rw [q];decide⟩)
   clear had g1
   generalize l[k].length=ln at *
   by_cases hl:ln > 310
   ·have f1:decide (310 < (ln:Int))=true:=decide_eq_true (by omega)
    have fz:(310:Int) < (ln:Int):=by omega
    have Z:=Lib.hid (show bb=false by rw [X2.out,AL.out (decide_eq_false (by omega))])
    clear AL TK X2
    go_wp2
    go_ret
    exact ⟨by rw [Z.out];try rfl,rfl⟩
   ·have f1:decide (310 < (ln:Int))=false:=decide_eq_false (by omega)
    have fz:¬(310:Int) < (ln:Int):=by omega
    have T2:=Lib.hid (show (l.take (k+1)).all (fun c=>decide (c.length≤310))=true by rw [TK.out,decide_eq_true (by omega)])
    clear AL TK
    go_wp2
    go_roundw
    case rel=>exact ⟨k+1,by omega,by go_num,T2,by first|rfl|trivial⟩
    case measure=>simp [intOf];omega
  ·have Z:=Lib.hid (show bb=true by rw [X2.out];have:=H1.out;rwa [List.take_of_length_le (by omega)] at this)
   go_wp2
   go_ret
   exact ⟨by rw [Z.out];try rfl,rfl⟩
theorem sm12_le {l:List (List Int)} (h:sm12 l=true):l.length≤100∧∀c ∈ l,c.length≤310:=by
 unfold sm12 at h
 rw [Bool.and_eq_true,decide_eq_true_iff,List.all_eq_true] at h
 exact ⟨h.1,fun c hc=>of_decide_eq_true (h.2 c hc)⟩
theorem at12_cell (sb tb n:Nat) (x:Int) (w:World) (hx:litN n x) (hn:n≤20000) (hc:w.cell? ⟨sb,0,none⟩=some (.slice (some ⟨tb,0,none⟩) n n)) :
  Calls Tryd.prog 41 #[.pointer (some ⟨sb,0,none⟩),.int .i64 x] w fun e w'=>e=.returned (.int .i64 (atP n x))∧w=w':=by
 have X:=Lib.hid (atP_is hx).1
 have hw:IntKind.i64.wrap (x+(n:Int))=x+(n:Int):=by obtain ⟨_,_,_⟩:=hx;rw [IntKind.wrap_i64];omega
 clear hx
 generalize (atP n x:Int)=y at *
 go_enter Tryd.func41,Tryd.ntmps41
 go_wp2
 go_ret
 exact ⟨by rw [X.out];try rfl,rfl⟩
def NxP (N sb tb hb n:Nat) (pb:Nat→Nat) (mv:Value) (hd:Nat→Value) (s:Sp) (j:Nat) (w:World) (R:Option (Int × List Int)) (e:Ending) (w':World):Prop:=
 (R=none∧e=.returned (.int .i64 0)∧w=w')∨∃x r rv',R=some (x,r)∧e=.returned (.int .i64 x)∧Below N w w'∧SpM w' N sb tb hb n pb mv hd rv' { s with ws:=s.ws.set j ⟨(s.ws[j]!).a,(s.ws[j]!).b,r⟩ }
theorem nx_at {a:List Int} {kept:Int} {l:List Int} {k:Nat} (hk:k < l.length):((l[k]≠kept∧¬tv a l[k] < 0)→nx a kept (l.drop k)=some (l[k],l.drop (k+1)))∧(¬(l[k]≠kept∧¬tv a l[k] < 0)→nx a kept (l.drop k)=nx a kept (l.drop (k+1))):=by
 rw [List.drop_eq_getElem_cons hk]
 exact ⟨fun h=>by rw [nx,if_pos h],fun h=>by rw [nx,if_neg h]⟩
set_option maxHeartbeats 8000000 in
theorem next12_any {w:World} {N sb tb hb n:Nat} {pb:Nat→Nat} {mv:Value} {hd rv:Nat→Value} {s:Sp} (h:SpM w N sb tb hb n pb mv hd rv s) (hn:n≤20000) {j:Nat} (hj:j < s.ws.length) (kept:Int) :
  Calls Tryd.prog 38 #[.pointer (some ⟨sb,0,none⟩),.pointer (some ⟨pb j,0,none⟩),.int .i64 kept] w fun e w'=>NxP N sb tb hb n pb mv hd s j w (nx s.t kept (s.ws[j]!).r) e w'∧True:=by
 have hr:=h.rest j hj
 obtain ⟨A,c,hv,hlc,hcm,-⟩:=id hr
 simp only [List.cons.injEq,and_true] at hv
 rw [hv] at hr
 have HW:=Lib.hid h
 have HR:=Lib.hid hr
 obtain ⟨-,-,-,ha⟩:=rdInts_at hr
 have HA:=Lib.hid ha
 have TR:=Lib.hid (fun (x:Int)=>tru12_any _ n n s.t x _ w (h.tread (by unfold maxLen;omega)) (by rw [h.nl];omega))
 have c0:=h.s0
 have c2:=h.b2 hj
 have f2:=h.bf hj 2
 have HBx:=Lib.hid (show ∀(r:List Int) (v:Value),rdInts w (lt_ N) r [v]→SpM (w.setCell ⟨pb j,2,none⟩ v) N sb tb hb n pb mv hd (fun q=>if q=j then v else rv q) { s with ws:=s.ws.set j ⟨(s.ws[j]!).a,(s.ws[j]!).b,r⟩ } from fun r v hv=>h.boxed hj rfl hv)
 have BL:=Lib.hid (fun (v:Value)=>(Below.refl N w).setCell (p:=⟨pb j,2,none⟩) (h.pbn j hj) v)
 have hcm':c≤9223372036854775807:=hcm
 rw [hv] at c2
 obtain ⟨R,hR⟩:∃R,R=nx s.t kept (s.ws[j]!).r:=⟨_,rfl⟩
 rw [←hR]
 have PX:=Lib.hid (show ∀x r v,R=some (x,r)→rdInts w (lt_ N) r [v]→NxP N sb tb hb n pb mv hd s j w R (.returned (.int .i64 x)) (w.setCell ⟨pb j,2,none⟩ v) from fun x r v h1 h2=>Or.inr ⟨x,r,_,h1,rfl,BL.out v,HBx.out r v h2⟩)
 have PN:=Lib.hid (show R=none→NxP N sb tb hb n pb mv hd s j w R (.returned (.int .i64 0)) w from fun h=>Or.inl ⟨h,rfl,rfl⟩)
 generalize (s.ws[j]!).r=l at *
 have HR0:=Lib.hid (show R=nx s.t kept (l.drop 0) from hR)
 clear hR h hr hv ha HBx BL HW hcm
 generalize NxP N sb tb hb n pb mv hd s j w R=POST at *
 generalize pb j=pj at *
 go_enter Tryd.func38,Tryd.ntmps38
 go_wp2
 go_loopw [14] (fun i wr=>∃k:Nat,k≤l.length∧i=.int .i64 k∧Hid (R=nx s.t kept (l.drop k))∧w=wr) (fun i _=>l.length - (intOf i).toNat)
 case atStart=>exact ⟨0,Nat.zero_le _,rfl,HR0,rfl⟩
 case round=>
  clear HR0
  obtain ⟨k,hk,rfl,H1,rfl⟩:=hrel
  by_cases hlt:k < l.length
  ·obtain ⟨ad,rfl,had,g0⟩:=HA.out k hlt
   have i0:(0:Int)≤(k:Int):=by omega
   have i1:(k:Int) < (l.length:Int):=by omega
   have PA:=Lib.hid (nx_at (a:=s.t) (kept:=kept) hlt)
   have DR:=Lib.hid (rdRow_drop HR.out (k:=k+1) (by omega))
   have T0:=Lib.hid (TR.out l[k])
   clear had
   generalize l[k]=x at *
   generalize tv s.t x=tx at *
   by_cases e1:x=kept
   ·have b1:(x != kept)=false:=by simp [e1]
    have X:=Lib.hid (PA.out.2 (fun q=>q.1 e1))
    have E1:=Lib.hid e1
    clear e1
    go_wp2
    go_roundw
    case rel=>exact ⟨k+1,by omega,by go_num,Lib.hid (H1.out.trans X.out),by first|rfl|trivial⟩
    case measure=>simp [intOf];omega
   ·have b1:(x != kept)=true:=by simp [e1]
    by_cases e2:tx < 0
    ·have X:=Lib.hid (PA.out.2 (fun q=>q.2 e2))
     have b2:decide (tx≥0)=false:=decide_eq_false (by omega)
     have b2':decide (0≤tx)=false:=decide_eq_false (by omega)
     go_wp2_with (go_at_call 52;(with_reducible refine T0.out.mono ?_);rintro e w' ⟨rfl,rfl⟩)
     go_roundw
     case rel=>exact ⟨k+1,by omega,by go_num,Lib.hid (H1.out.trans X.out),by first|rfl|trivial⟩
     case measure=>simp [intOf];omega
    ·have X:=Lib.hid (PA.out.1 ⟨e1,e2⟩)
     have b2:decide (tx≥0)=true:=decide_eq_true (by omega)
     have b2':decide (0≤tx)=true:=decide_eq_true (by omega)
     have hw1:IntKind.i64.wrap ((k:Int)+1)=(k:Int)+1:=by rw [IntKind.wrap_i64];unfold maxLen at *;omega
     have j0:(0:Int)≤(k:Int)+1:=by omega
     have j1:(k:Int)+1≤(l.length:Int):=by omega
     have j2:k+1≤c:=by omega
     have j3:((k:Int)+1).toNat=k+1:=by omega
     have POK:=Lib.hid (fun v hv=>PX.out x (l.drop (k+1)) v (H1.out.trans X.out) hv)
     by_cases hck:c=k+1
     ·rw [if_pos hck] at DR
      clear PA PX PN X TR HA HR
      go_wp2_with (go_at_call 52;(with_reducible refine T0.out.mono ?_);rintro e w' ⟨rfl,rfl⟩)
      go_ret
      exact ⟨POK.out _ (by have q:=DR.out;rwa [show c - (k+1)=0 by omega] at q),trivial⟩
     ·rw [if_neg hck] at DR
      clear PA PX PN X TR HA HR
      go_wp2_with (go_at_call 52;(with_reducible refine T0.out.mono ?_);rintro e w' ⟨rfl,rfl⟩)
      go_ret
      exact ⟨POK.out _ (by have q:=DR.out;rw [Nat.mul_one] at q;exact q),trivial⟩
  ·have X:=Lib.hid (PN.out (by rw [H1.out,List.drop_eq_nil_of_le (by omega)];rfl))
   go_wp2
   go_ret
   exact ⟨X.out,trivial⟩
def PuP (N sb tb hb n:Nat) (pb:Nat→Nat) (hd rv:Nat→Value) (w:World) (R:Option Sp) (e:Ending) (w':World):Prop:=
 (R=none∧e=.returned (.bool false)∧w=w')∨∃s' mv',R=some s'∧e=.returned (.bool true)∧Below N w w'∧SpM w' N sb tb hb n pb mv' hd rv s'
theorem tv_zero2 {a:List Int} {x:Int} (h:litN a.length x):tv a x=0↔a[plc x]! = 0:=by
 have h0:=h.1
 rw [tv_sgn h,Int.mul_eq_zero,Int.sign_eq_zero_iff_zero,Int.sign_eq_zero_iff_zero]
 exact ⟨fun q=>q.resolve_right h0,Or.inl⟩
theorem SpM.drew {w:World} {N sb tb hb n:Nat} {pb:Nat→Nat} {mv:Value} {hd rv:Nat→Value} {s:Sp} (h:SpM w N sb tb hb n pb mv hd rv s):SpM w.drew N sb tb hb n pb mv hd rv s:=h.same (Nat.le_refl _) (fun _ _=>rfl)
set_option maxHeartbeats 8000000 in
theorem put12_any {w:World} {N sb tb hb n:Nat} {pb:Nat→Nat} {mv:Value} {hd rv:Nat→Value} {s:Sp} (h:SpM w N sb tb hb n pb mv hd rv s) (hn:n≤20000) (hm:s.made.length≤20000) (x:Int) :
  Calls Tryd.prog 37 #[.pointer (some ⟨sb,0,none⟩),.int .i64 x] w fun e w'=>PuP N sb tb hb n pb hd rv w (putS s x) e w'∧True:=by
 obtain ⟨fi,hi,hz0,hz1,hz2⟩:=info_parts int12_info
 obtain ⟨R,hR⟩:∃R,R=putS s x:=⟨_,rfl⟩
 rw [←hR]
 have PL:=Lib.hid (pla12_any x n w (by omega))
 have TR:=Lib.hid (tru12_any _ n n s.t x _ w (h.tread (by unfold maxLen;omega)) (by rw [h.nl];omega))
 have CM:=Lib.hid cmpInt_any
 have HW:=Lib.hid h
 have c0:=h.s0
 have nl:=h.nl
 by_cases hx:litN n x
 ·rw [plI_lit hx] at PL
  have hp:=plc_lt hx
  have p0:¬(plc x:Int) < 0:=by omega
  have p0':decide ((plc x:Int) < 0)=false:=decide_eq_false p0
  have p1:(0:Int)≤(plc x:Int):=by omega
  have p2:(plc x:Int) < (n:Int):=by omega
  by_cases ht:tv s.t x < 0
  ·have PX:=Lib.hid (show PuP N sb tb hb n pb hd rv w R (.returned (.bool false)) w from Or.inl ⟨by rw [hR];unfold putS;rw [if_pos (Or.inr ht)],rfl,rfl⟩)
   have t0:decide (tv s.t x < 0)=true:=decide_eq_true ht
   clear hR h HW
   generalize tv s.t x=tx at *
   generalize plc x=p at *
   go_enter Tryd.func37,Tryd.ntmps37
   go_wp2_with (first|(go_at_call 25;(with_reducible refine PL.out.mono ?_);rintro e w' ⟨rfl,rfl⟩)|(go_at_call 52;(with_reducible refine TR.out.mono ?_);rintro e w' ⟨rfl,rfl⟩))
   go_ret
   exact ⟨PX.out,trivial⟩
  ·have t0:decide (tv s.t x < 0)=false:=decide_eq_false ht
   have hc:=h.tcell hp
   have hz:=tv_zero2 (a:=s.t) (x:=x) (by rw [nl];exact hx)
   by_cases h0:tv s.t x=0
   ·have z0:=hz.1 h0
    rw [z0] at hc
    have f0:=h.tf (plc x)
    have RS:=Lib.hid (show R=some { s with t:=putT s.t x,made:=s.made++[x] } by rw [hR];unfold putS;rw [if_neg (by rintro (q|q);exact q (nl ▸ hx);exact ht q),if_pos h0])
    have SX:=Lib.hid (sgn_sign x)
    have S1:=Lib.hid (show SpM (w.setCell ⟨tb,plc x,none⟩ (.int .i64 x.sign)).drew N sb tb hb n pb mv hd rv { s with t:=putT s.t x } from (h.truth (plc x) x.sign).drew)
    have B1:=Lib.hid (show Below N w (w.setCell ⟨tb,plc x,none⟩ (.int .i64 x.sign)).drew from belD ((Below.refl N w).setCell (p:=⟨tb,plc x,none⟩) h.nt _) 1)
    rw [←sgn_sign x] at S1 B1
    have HN:N≤(w.setCell ⟨tb,plc x,none⟩ (.int .i64 (sgn x))).drew.heap.size:=S1.out.nw
    have hn1:s.made.length+1≤maxLen:=by unfold maxLen;omega
    have hn2:(s.made.length+1)*8≤140737488355328:=by omega
    clear hR hz
    generalize tv s.t x=tx at *
    generalize plc x=p at *
    go_enter Tryd.func37,Tryd.ntmps37
    go_upto_region 5 with (first|(go_at_call 25;(with_reducible refine PL.out.mono ?_);rintro e w' ⟨rfl,rfl⟩)|(go_at_call 52;(with_reducible refine TR.out.mono ?_);rintro e w' ⟨rfl,rfl⟩))
    go_region_with (go_at_call 33;(with_reducible refine (CM.out _ _ _).mono ?_);rintro e w' ⟨rfl,rfl⟩)
    all_goals
     clear hc c0 f0 PL TR CM HW h
     generalize (w.setCell ⟨tb,p,none⟩ (.int .i64 (sgn x))).drew=W1 at *
     have SA:=Lib.hid (S1.out.below ((Below.refl _ W1).alloc (Nat.le_refl _) (.cells #[.int .i64 x] 3)))
     have d1:=S1.out.s1
     have hR2:=SA.out.mrow
     have hq:(W1.alloc (.cells #[.int .i64 x] 3)).cell? ⟨W1.heap.size,0,none⟩=some (.int .i64 x):=by simp [go_sem]
     have hbs:N≤(W1.alloc (.cells #[.int .i64 x] 3)).heap.size:=SA.out.nw
     go_wp2_with (at_builtin;refine wpList_push _ rfl _ _ 23 rfl N 3 fi _ 8 Tryd.underlying23 hi hz0 hz1 hz2 rfl mv _ _ rfl hR2 _ (.int .i64 x) rfl hq rfl hn1 hn2 hbs ?_)
     intro v' w2 hr hg hm2
     obtain ⟨A',c',rfl,-,-,-⟩:=own_is hr
     have e1:w2.cell? ⟨sb,1,none⟩=some mv:=by
      rw [World.cell?_of_block (w:=W1.alloc (.cells #[.int .i64 x] 3)) (hg.block sb (cb_lt SA.out.sbx) (fun q=>SA.out.sne.2.2.2.1 q.symm))];exact SA.out.s1
     have e2:w2.frozen? ⟨sb,1,none⟩=false:=by
      rw [World.frozen?_of_block (w:=W1.alloc (.cells #[.int .i64 x] 3)) (hg.block sb (cb_lt SA.out.sbx) (fun q=>SA.out.sne.2.2.2.1 q.symm))];exact SA.out.sf 1
     have SP:=Lib.hid (SA.out.push (x:=x) (by rw [List.length_append,List.map_append];exact hr) hg (by rw [World.size_alloc];exact hm2))
     have BP:=Lib.hid (show Below N w (w2.setCell ⟨sb,1,none⟩ (.slice A' (s.made.length+1) c')) from ((B1.out.alloc S1.out.nw _).grown hg hbs fun g hg'=>(SA.out.mrow.lt g hg').1).setCell (p:=⟨sb,1,none⟩) SA.out.ns _)
     clear hr hg hm2 hq hR2 hbs d1
     go_wp2
     go_ret
     exact Or.inr ⟨_,_,RS.out,rfl,BP.out,SP.out⟩
   ·have nz:=fun q=>h0 (hz.2 q)
    have nb:(s.t[plc x]! ==0)=false:=beq_eq_false_iff_ne.2 nz
    have PX:=Lib.hid (show PuP N sb tb hb n pb hd rv w R (.returned (.bool true)) w from Or.inr ⟨s,mv,by rw [hR];unfold putS;rw [if_neg (by rintro (q|q);exact q (nl ▸ hx);exact ht q),if_neg h0],rfl,Below.refl _ _,HW.out⟩)
    clear hR h HW hz
    generalize s.t[plc x]! = tp at *
    generalize tv s.t x=tx at *
    generalize plc x=p at *
    go_enter Tryd.func37,Tryd.ntmps37
    go_wp2_with (first|(go_at_call 25;(with_reducible refine PL.out.mono ?_);rintro e w' ⟨rfl,rfl⟩)|(go_at_call 52;(with_reducible refine TR.out.mono ?_);rintro e w' ⟨rfl,rfl⟩))
    go_ret
    exact ⟨PX.out,trivial⟩
 ·rw [plI_not hx] at PL
  have PX:=Lib.hid (show PuP N sb tb hb n pb hd rv w R (.returned (.bool false)) w from Or.inl ⟨by rw [hR];unfold putS;rw [if_pos (Or.inl (nl.symm ▸ hx))],rfl,rfl⟩)
  clear hR h HW
  go_enter Tryd.func37,Tryd.ntmps37
  go_wp2_with (first|(go_at_call 25;(with_reducible refine PL.out.mono ?_);rintro e w' ⟨rfl,rfl⟩))
  go_ret
  exact ⟨PX.out,trivial⟩
end Go.Proofs.YtgjlgdpbmhdnbaaDoor
