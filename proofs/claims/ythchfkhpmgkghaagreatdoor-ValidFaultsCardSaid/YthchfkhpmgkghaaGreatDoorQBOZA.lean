/- What the laws rest on: P6e, N9e, N9e2. -/
import Derived.Test.YthchfkhpmgkghaaGreatDoorQBHZA
set_option maxRecDepth 100000
set_option linter.unusedVariables false
set_option linter.unusedSimpArgs false
namespace Go.Proofs.YthchfkhpmgkghaaGreatDoor
open Go.RowKit
set_option maxHeartbeats 4000000 in
theorem gives6_any (x:Ent) (A1:Option Addr) (c1:Nat) (A2:Option Addr) (c2:Nat) (A3:Option Addr) (c3:Nat) (A4:Option Addr) (c4:Nat) (w:World) (hx:EntV w (lt_ w.heap.size) x A1 c1 A2 c2 A3 c3 A4 c4) (hp:x.p.length≤1000) :
  Calls Tryz.prog 69 #[x.val A1 c1 A2 c2 A3 c3 A4 c4] w fun e w'=>(∃A c,e=.returned (.slice A (gvs x).length c)∧rdAtms w' (fun b=>w.heap.size≤b∧b < w'.heap.size) (gvs x) [.slice A (gvs x).length c])∧Below w.heap.size w w':=by
 obtain ⟨n,v,d,r,c,p⟩:=x
 obtain ⟨fi,hi,hz0,hz1,hz2⟩:=info_parts atm_info
 have HP:=Lib.hid hx.p
 obtain ⟨_,hc4,hm4,_⟩:=rdAtms_at hx.p
 have hm4':c4≤9223372036854775807:=hm4
 simp only at hp hc4
 have hq1:1+p.length≤maxLen:=by unfold maxLen;omega
 have hq2:(1+p.length)*40≤140737488355328:=by omega
 obtain ⟨W3,hW3⟩:∃W,W=(((w.alloc (.cells #[.string n,.string v,.slice A1 d.length c1,.slice A2 r.length c2,.slice A3 c.length c3,.slice A4 p.length c4] 67)).alloc (.cells #[.string n,.int .i64 3,.string v] 62)).alloc (.cells #[.string n,.int .i64 3,.string v] 62)):=⟨_,rfl⟩
 have GE:=Lib.hid (show Grow rdAtm 3 (fun _=>True) W3 w.heap.size 62 (.slice (some ⟨w.heap.size+2,0,none⟩) 1 1) [⟨n,3,v⟩] from gr_self (by rw [hW3];exact heap_alloc_new ((w.alloc (.cells #[.string n,.string v,.slice A1 d.length c1,.slice A2 r.length c2,.slice A3 c.length c3,.slice A4 p.length c4] 67)).alloc (.cells #[.string n,.int .i64 3,.string v] 62)) _|>fun h=>by rw [World.size_alloc,World.size_alloc] at h;exact h) (by omega))
 have B3:=Lib.hid (show Below w.heap.size w W3 by rw [hW3];exact (((Below.refl _ w).alloc (Nat.le_refl _) _).alloc (by simp) _).alloc (by simp;omega) _)
 have XE:=Lib.hid (rdAtms_good.below HP.out B3.out)
 have SE:=Lib.hid (show ∀b,lt_ w.heap.size b→True∧b < W3.heap.size∧(Value.slice (some ⟨w.heap.size+2,0,none⟩) 1 1).ownBlock≠some b from fun b hb=>⟨trivial,Nat.lt_of_lt_of_le hb B3.out.size,fun hh=>by simp only [Value.ownBlock,Option.some.injEq] at hh;unfold lt_ at hb;omega⟩)
 have hs3:=Lib.hid B3.out.size
 show Calls Tryz.prog 69 #[.agg #[.string n,.string v,.slice A1 d.length c1,.slice A2 r.length c2,.slice A3 c.length c3,.slice A4 p.length c4]] w _
 clear hx hp hm4
 go_enter Tryz.func69,Tryz.ntmps69
 go_wp2_with (at_builtin;rw [←hW3];refine wpList_growN W3 rfl _ _ 24 24 rfl rdAtm_good (by decide) (fun _=>True) w.heap.size 62 62 fi (.agg #[.string { data:=#[] },.int .i64 0,.string { data:=#[] }]) 40 Tryz.underlying24 Tryz.underlying24 hi hz0 hz1 hz2 rfl _ _ rfl GE.out p _ A4 p.length c4 rfl XE.out SE.out hq1 hq2 hs3.out ?_)
 intro v5 w5 hG5 hg5
 have B5:=Lib.hid (grow_below GE.out (by rw [hW3];exact hg5) B3.out (Nat.le_refl _) hs3.out)
 have R5:=Lib.hid (show rdAtms w5 (fun b=>w.heap.size≤b∧b < w5.heap.size) (gvs ⟨n,v,d,r,c,p⟩) [v5] from by
  have h2:Grow rdAtm 3 (fun _=>False) w5 w.heap.size 62 v5 (gvs ⟨n,v,d,r,c,p⟩):=Grow.flat (fun _ _ _ _ _ h=>h) (show Grow rdAtm 3 (fun _=>True) w5 w.heap.size 62 v5 (gvs ⟨n,v,d,r,c,p⟩) from hG5)
  exact rdAtms_good.more (h2.reads rdAtm_good) fun b hb=>⟨hb.2.resolve_right id,hb.1⟩)
 obtain ⟨A5,c5,hv5,_⟩:=id R5.out
 simp only [List.cons.injEq,and_true] at hv5
 subst hv5
 clear hG5 hg5 GE XE SE hW3
 go_wp2
 go_ret
 exact ⟨⟨A5,c5,rfl,R5.out⟩,B5.out⟩
set_option maxHeartbeats 4000000 in
theorem ixAtm_any (f:Nat) (cv:Value) (p:Atm→Bool) (I:World→Prop) (hcf:∀(args:Array Value) (w:World),(callFunc f args).run Tryz.prog w=.ok (.enter f args) w) (hI:∀W W':World,I W→Below W.heap.size W W'→I W')
  (hf:∀(x:Atm) (W:World),I W→Calls Tryz.prog f #[.agg #[.string x.n,.int .i64 x.o,.string x.v],cv] W fun e W'=>e=.returned (.bool (p x))∧Below W.heap.size W W')
  (A:Option Addr) (n c:Nat) (l:List Atm) (w:World) (h:rdAtms w (lt_ w.heap.size) l [.slice A n c]) (hi:I w) :
  Calls Tryz.prog 154 #[.slice A n c,.func (.func f) #[] #[cv]] w fun e w'=>e=.returned (.int .i64 (ixP p l 0))∧Below w.heap.size w w':=by
 obtain ⟨rfl,hnc,hcm,_⟩:=rdAtms_at h
 have hcm':c≤9223372036854775807:=hcm
 have H:=Lib.hid h
 have HI:=Lib.hid (fun (W:World) (hb:Below w.heap.size w W)=>hI w W hi hb)
 have KF:=Lib.hid hf
 clear h hcm hi hI hf
 go_enter Tryz.func154,Tryz.ntmps154
 go_wp2
 go_loopw [8] (fun i wr=>∃k:Nat,k≤l.length∧i=.int .i64 k∧ixP p l 0=ixP p (l.drop k) k∧Below w.heap.size w wr) (fun i _=>l.length - (intOf i).toNat)
 case atStart=>exact ⟨0,Nat.zero_le _,rfl,rfl,Below.refl _ _⟩
 case round=>
  obtain ⟨k,hk,rfl,hx,hbel⟩:=hrel
  have HX:=Lib.hid hx
  have HB:=Lib.hid hbel
  clear hx
  by_cases hlt:k < l.length
  ·obtain ⟨_,_,_,ha⟩:=rdAtms_at (rdAtms_good.below H.out hbel)
   obtain ⟨ad,rfl,had,g0,g1,g2⟩:=ha k hlt
   have i0:(0:Int)≤(k:Int):=by omega
   have i1:(k:Int) < (l.length:Int):=by omega
   have CL:=Lib.hid (KF.out l[k] wr (HI.out wr hbel))
   have PA:=Lib.hid (ixP_at (p:=p) hlt)
   clear ha hbel had
   have SZ:=Lib.hid HB.out.size
   generalize l[k]=x at *
   cases he:p x
   ·have X:=Lib.hid (PA.out.2 he)
    rw [he] at CL
    clear he
    go_wp2_with fail
    refine CL.out.mono ?_
    rintro e w' ⟨rfl,hb2⟩
    have HB2:=Lib.hid hb2
    clear hb2
    go_wp2
    go_roundw
    case rel=>exact ⟨k+1,by omega,by go_num,by rw [HX.out,X.out],HB.out.trans (HB2.out.mono SZ.out)⟩
    case measure=>simp [intOf];omega
   ·have X:=Lib.hid (PA.out.1 he)
    rw [he] at CL
    clear he
    go_wp2_with fail
    refine CL.out.mono ?_
    rintro e w' ⟨rfl,hb2⟩
    have HB2:=Lib.hid hb2
    clear hb2
    go_wp2
    go_ret
    exact ⟨by rw [HX.out,X.out];try rfl,HB.out.trans (HB2.out.mono SZ.out)⟩
  ·have X:=Lib.hid (show ixP p l 0=-1 by rw [HX.out,List.drop_eq_nil_of_le (by omega)];rfl)
   go_wp2
   go_ret
   exact ⟨by rw [X.out];try rfl,HB.out⟩
set_option maxHeartbeats 2000000 in
theorem hasAtm_any (f:Nat) (cv:Value) (p:Atm→Bool) (I:World→Prop) (hcf:∀(args:Array Value) (w:World),(callFunc f args).run Tryz.prog w=.ok (.enter f args) w) (hI:∀W W':World,I W→Below W.heap.size W W'→I W')
  (hf:∀(x:Atm) (W:World),I W→Calls Tryz.prog f #[.agg #[.string x.n,.int .i64 x.o,.string x.v],cv] W fun e W'=>e=.returned (.bool (p x))∧Below W.heap.size W W')
  (A:Option Addr) (n c:Nat) (l:List Atm) (w:World) (h:rdAtms w (lt_ w.heap.size) l [.slice A n c]) (hi:I w) :
  Calls Tryz.prog 128 #[.slice A n c,.func (.func f) #[] #[cv]] w fun e w'=>e=.returned (.bool (l.any p))∧Below w.heap.size w w':=by
 have C:=Lib.hid (ixAtm_any f cv p I hcf hI hf A n c l w h hi)
 have X:=Lib.hid (ixP_any (p:=p) (l:=l) (i:=0))
 clear h hcf hI hf hi
 go_enter Tryz.func128,Tryz.ntmps128
 go_wp2_with (go_at_call 154;(with_reducible refine C.out.mono ?_);rintro e w' ⟨rfl,hb2⟩)
 go_ret
 exact ⟨by rw [←X.out];rfl,hb2⟩
def Bx3 (q:Nat) (x:Atm) (w:World):Prop:=w.cell? ⟨q,0,none⟩=some (.string x.n)∧w.cell? ⟨q,1,none⟩=some (.int .i64 x.o)∧w.cell? ⟨q,2,none⟩=some (.string x.v)
theorem Bx3.on {q:Nat} {x:Atm} {w w':World} (h:Bx3 q x w) (hb:Below w.heap.size w w'):Bx3 q x w':=⟨keep6 hb h.1,keep6 hb h.2.1,keep6 hb h.2.2⟩
set_option maxHeartbeats 2000000 in
theorem bars11_any (x y:Atm) (q:Nat) (w:World) (E:EnvR w) (h:Bx3 q x w) :
  Calls Tryz.prog 130 #[.agg #[.string y.n,.int .i64 y.o,.string y.v],.pointer (some ⟨q,0,none⟩)] w fun e w'=>e=.returned (.bool (pvB x y))∧Below w.heap.size w w':=by
 have B1:=Lib.hid (show Below w.heap.size w (w.alloc (.cells #[.string y.n,.int .i64 y.o,.string y.v] 62)) from (Below.refl _ w).alloc (Nat.le_refl _) _)
 have K:=Lib.hid (rprov_any x.n x.o x.v y.n y.o y.v (w.alloc (.cells #[.string y.n,.int .i64 y.o,.string y.v] 62)) (E.below B1.out))
 obtain ⟨g0,g1,g2⟩:=h.on B1.out
 have X:=Lib.hid (show pvB x y=provB (B x.n) x.o (B x.v) (B y.n) y.o (B y.v) from rfl)
 clear E h
 generalize provB (B x.n) x.o (B x.v) (B y.n) y.o (B y.v)=b at *
 generalize pvB x y=b' at *
 go_enter Tryz.func130,Tryz.ntmps130
 go_wp2_with fail
 refine K.out.mono ?_
 rintro e w' ⟨rfl,hb2⟩
 have HB2:=Lib.hid hb2
 clear hb2
 go_wp2
 go_ret
 exact ⟨by rw [X.out];try rfl,B1.out.trans (HB2.out.mono B1.out.size)⟩
set_option maxHeartbeats 2000000 in
theorem bars1_any (x:Atm) (A:Option Addr) (n c:Nat) (g:List Atm) (q:Nat) (w:World) (E:EnvR w) (h:rdAtms w (lt_ w.heap.size) g [.slice A n c]) (hc:w.cell? ⟨q,0,none⟩=some (.slice A n c)) :
  Calls Tryz.prog 129 #[.agg #[.string x.n,.int .i64 x.o,.string x.v],.pointer (some ⟨q,0,none⟩)] w fun e w'=>e=.returned (.bool (g.any (pvB x)))∧Below w.heap.size w w':=by
 have B1:=Lib.hid (show Below w.heap.size w (w.alloc (.cells #[.string x.n,.int .i64 x.o,.string x.v] 62)) from (Below.refl _ w).alloc (Nat.le_refl _) _)
 have K:=Lib.hid (hasAtm_any 130 (.pointer (some ⟨w.heap.size,0,none⟩)) (pvB x) (fun W=>EnvR W∧Bx3 w.heap.size x W) (fun _ _=>by kernel_rfl) (fun W W' h hb=>⟨h.1.below hb,h.2.on hb⟩) (fun y W h=>bars11_any x y w.heap.size W h.1 h.2)
  A n c g (w.alloc (.cells #[.string x.n,.int .i64 x.o,.string x.v] 62)) (rdAtms_good.up (rdAtms_good.below h B1.out) B1.out.size) ⟨E.below B1.out,by unfold Bx3;exact ⟨by simp [go_sem],by simp [go_sem],by simp [go_sem]⟩⟩)
 have g0:=keep6 B1.out hc
 have hmf:∀(fn:Fn) (first cap:Array Value) (w:World),(Instr.makeFunc fn first cap).run Tryz.prog w=.ok (.func fn first cap) w:=fun _ _ _ _=>rfl
 clear E h hc
 generalize g.any (pvB x)=b at *
 go_enter Tryz.func129,Tryz.ntmps129
 go_wp2_with fail
 refine K.out.mono ?_
 rintro e w' ⟨rfl,hb2⟩
 have HB2:=Lib.hid hb2
 clear hb2
 go_wp2
 go_ret
 exact ⟨rfl,B1.out.trans (HB2.out.mono B1.out.size)⟩
set_option maxHeartbeats 8000000 in
theorem bars6_any (x y:Ent) (A1:Option Addr) (c1:Nat) (A2:Option Addr) (c2:Nat) (A3:Option Addr) (c3:Nat) (A4:Option Addr) (c4:Nat) (A1y:Option Addr) (c1y:Nat) (A2y:Option Addr) (c2y:Nat) (A3y:Option Addr) (c3y:Nat) (A4y:Option Addr) (c4y:Nat) (w:World)
  (hx:EntV w (lt_ w.heap.size) x A1 c1 A2 c2 A3 c3 A4 c4) (hy:EntV w (lt_ w.heap.size) y A1y c1y A2y c2y A3y c3y A4y c4y) (hp:y.p.length≤1000) (E:EnvR w) :
  Calls Tryz.prog 93 #[x.val A1 c1 A2 c2 A3 c3 A4 c4,y.val A1y c1y A2y c2y A3y c3y A4y c4y] w fun e w'=>e=.returned (.bool (brs x y))∧Below w.heap.size w w':=by
 have HX:=Lib.hid hx
 have HE:=Lib.hid E
 have KG:=Lib.hid (fun (W:World) (hb:Below w.heap.size w W)=>gives6_any y A1y c1y A2y c2y A3y c3y A4y c4y W (hy.on hb) hp)
 have X:=Lib.hid (show brs x y=x.c.any fun k=>(gvs y).any (pvB k) from rfl)
 generalize gvs y=g at *
 generalize brs x y=b at *
 obtain ⟨n,v,d,r,c,p⟩:=x
 obtain ⟨ny,vy,dy,ry,cy,py⟩:=y
 show Calls Tryz.prog 93 #[.agg #[.string n,.string v,.slice A1 d.length c1,.slice A2 r.length c2,.slice A3 c.length c3,.slice A4 p.length c4],.agg #[.string ny,.string vy,.slice A1y dy.length c1y,.slice A2y ry.length c2y,.slice A3y cy.length c3y,.slice A4y py.length c4y]] w _
 have hmf:∀(fn:Fn) (first cap:Array Value) (w:World),(Instr.makeFunc fn first cap).run Tryz.prog w=.ok (.func fn first cap) w:=fun _ _ _ _=>rfl
 obtain ⟨W1,hW1⟩:∃W,W=((w.alloc (.cells #[.string n,.string v,.slice A1 d.length c1,.slice A2 r.length c2,.slice A3 c.length c3,.slice A4 p.length c4] 67)).alloc (.cells #[.string ny,.string vy,.slice A1y dy.length c1y,.slice A2y ry.length c2y,.slice A3y cy.length c3y,.slice A4y py.length c4y] 67)):=⟨_,rfl⟩
 have B1:=Lib.hid (show Below w.heap.size w W1 by rw [hW1];exact ((Below.refl _ w).alloc (Nat.le_refl _) _).alloc (by simp) _)
 have q4:W1.cell? ⟨w.heap.size,4,none⟩=some (.slice A3 c.length c3):=by rw [hW1];simp [go_sem]
 clear hx hy E hp
 go_enter Tryz.func93,Tryz.ntmps93
 go_wp2_with fail
 rw [←hW1]
 refine (KG.out _ B1.out).mono ?_
 rintro e w2 ⟨⟨Ag,cg,rfl,hg⟩,hb⟩
 have C2:=Lib.hid (B1.out.trans (hb.mono B1.out.size))
 have B3:=Lib.hid (show Below w2.heap.size w2 (w2.alloc (.cells #[.slice Ag g.length cg] 24)) from (Below.refl _ _).alloc (Nat.le_refl _) _)
 have C3:=Lib.hid (C2.out.trans (B3.out.mono C2.out.size))
 have K:=Lib.hid (hasAtm_any 129 (.pointer (some ⟨w2.heap.size,0,none⟩)) (fun k=>g.any (pvB k)) (fun W=>EnvR W∧W.cell? ⟨w2.heap.size,0,none⟩=some (.slice Ag g.length cg)∧rdAtms W (lt_ W.heap.size) g [.slice Ag g.length cg]) (fun _ _=>by kernel_rfl)
  (fun W W' h hb=>⟨h.1.below hb,keep6 hb h.2.1,rdAtms_good.up (rdAtms_good.below h.2.2 hb) hb.size⟩) (fun k W h=>bars1_any k Ag g.length cg g w2.heap.size W h.1 h.2.2 h.2.1)
  A3 c.length c3 c (w2.alloc (.cells #[.slice Ag g.length cg] 24)) (HX.out.on C3.out).c
  ⟨HE.out.below C3.out,by simp [go_sem],rdAtms_good.up (rdAtms_good.below (rdAtms_good.more hg fun b hb'=>hb'.2) B3.out) B3.out.size⟩)
 have g4:=keep6 hb q4
 have g4':=keep6 B3.out g4
 clear hg hb q4 hW1
 generalize (c.any fun k=>g.any (pvB k))=b2 at *
 go_wp2_with fail
 refine K.out.mono ?_
 rintro e w' ⟨rfl,hb2⟩
 have HB2:=Lib.hid hb2
 clear hb2
 go_wp2
 go_ret
 exact ⟨by rw [X.out];try rfl,C3.out.trans (HB2.out.mono C3.out.size)⟩
set_option maxHeartbeats 8000000 in
theorem fights6_any (x y:Ent) (A1:Option Addr) (c1:Nat) (A2:Option Addr) (c2:Nat) (A3:Option Addr) (c3:Nat) (A4:Option Addr) (c4:Nat) (A1y:Option Addr) (c1y:Nat) (A2y:Option Addr) (c2y:Nat) (A3y:Option Addr) (c3y:Nat) (A4y:Option Addr) (c4y:Nat) (w:World)
  (hx:EntV w (lt_ w.heap.size) x A1 c1 A2 c2 A3 c3 A4 c4) (hy:EntV w (lt_ w.heap.size) y A1y c1y A2y c2y A3y c3y A4y c4y) (hpx:x.p.length≤1000) (hpy:y.p.length≤1000) (E:EnvR w) :
  Calls Tryz.prog 61 #[x.val A1 c1 A2 c2 A3 c3 A4 c4,y.val A1y c1y A2y c2y A3y c3y A4y c4y] w fun e w'=>e=.returned (.bool (fgt x y))∧Below w.heap.size w w':=by
 have KA:=Lib.hid (fun (W:World) (hb:Below w.heap.size w W)=>bars6_any x y A1 c1 A2 c2 A3 c3 A4 c4 A1y c1y A2y c2y A3y c3y A4y c4y W (hx.on hb) (hy.on hb) hpy (E.below hb))
 have KB:=Lib.hid (fun (W:World) (hb:Below w.heap.size w W)=>bars6_any y x A1y c1y A2y c2y A3y c3y A4y c4y A1 c1 A2 c2 A3 c3 A4 c4 W (hy.on hb) (hx.on hb) hpx (E.below hb))
 have X:=Lib.hid (show fgt x y=(!decide (x.n=y.n)&&(brs x y||brs y x)) from rfl)
 have he:(x.n.toList==y.n.toList)=decide (x.n=y.n):=str_eq _ _
 generalize brs x y=b1 at *
 generalize brs y x=b2 at *
 generalize decide (x.n=y.n)=b0 at *
 generalize fgt x y=b at *
 obtain ⟨n,v,d,r,c,p⟩:=x
 obtain ⟨ny,vy,dy,ry,cy,py⟩:=y
 show Calls Tryz.prog 61 #[.agg #[.string n,.string v,.slice A1 d.length c1,.slice A2 r.length c2,.slice A3 c.length c3,.slice A4 p.length c4],.agg #[.string ny,.string vy,.slice A1y dy.length c1y,.slice A2y ry.length c2y,.slice A3y cy.length c3y,.slice A4y py.length c4y]] w _
 simp only at he
 obtain ⟨W1,hW1⟩:∃W,W=((w.alloc (.cells #[.string n,.string v,.slice A1 d.length c1,.slice A2 r.length c2,.slice A3 c.length c3,.slice A4 p.length c4] 67)).alloc (.cells #[.string ny,.string vy,.slice A1y dy.length c1y,.slice A2y ry.length c2y,.slice A3y cy.length c3y,.slice A4y py.length c4y] 67)):=⟨_,rfl⟩
 have B1:=Lib.hid (show Below w.heap.size w W1 by rw [hW1];exact ((Below.refl _ w).alloc (Nat.le_refl _) _).alloc (by simp) _)
 have KX:=Lib.hid (fun (W:World) (hb:Below W1.heap.size W1 W)=>(show W.cell? ⟨w.heap.size,0,none⟩=some (.string n)∧W.cell? ⟨w.heap.size,1,none⟩=some (.string v)∧W.cell? ⟨w.heap.size,2,none⟩=some (.slice A1 d.length c1)∧W.cell? ⟨w.heap.size,3,none⟩=some (.slice A2 r.length c2)∧W.cell? ⟨w.heap.size,4,none⟩=some (.slice A3 c.length c3)∧W.cell? ⟨w.heap.size,5,none⟩=some (.slice A4 p.length c4)∧
   W.cell? ⟨w.heap.size+1,0,none⟩=some (.string ny)∧W.cell? ⟨w.heap.size+1,1,none⟩=some (.string vy)∧W.cell? ⟨w.heap.size+1,2,none⟩=some (.slice A1y dy.length c1y)∧W.cell? ⟨w.heap.size+1,3,none⟩=some (.slice A2y ry.length c2y)∧W.cell? ⟨w.heap.size+1,4,none⟩=some (.slice A3y cy.length c3y)∧W.cell? ⟨w.heap.size+1,5,none⟩=some (.slice A4y py.length c4y) from by
  refine ⟨?_,?_,?_,?_,?_,?_,?_,?_,?_,?_,?_,?_⟩<;>exact keep6 hb (by rw [hW1];simp [go_sem])))
 clear hx hy E hpx hpy
 cases b0
 ·go_enter Tryz.func61,Tryz.ntmps61
  go_wp2_with fail
  rw [←hW1]
  refine (KA.out _ B1.out).mono ?_
  clear hW1
  rintro e w2 ⟨rfl,hb⟩
  have C2:=Lib.hid (B1.out.trans (hb.mono B1.out.size))
  obtain ⟨x0,x1,x2,x3,x4,x5,y0,y1,y2,y3,y4,y5⟩:=KX.out _ hb
  clear hb
  cases b1
  ·go_wp2_with fail
   refine (KB.out _ C2.out).mono ?_
   rintro e w3 ⟨rfl,hb⟩
   have C3:=Lib.hid (C2.out.trans (hb.mono C2.out.size))
   clear hb x0 x1 x2 x3 x4 x5 y0 y1 y2 y3 y4 y5
   go_wp2
   go_ret
   exact ⟨by rw [X.out];try rfl,C3.out⟩
  ·clear x0 x1 x2 x3 x4 x5 y0 y1 y2 y3 y4 y5
   go_wp2
   go_ret
   exact ⟨by rw [X.out];try rfl,C2.out⟩
 ·go_enter Tryz.func61,Tryz.ntmps61
  go_wp2
  go_ret
  exact ⟨by rw [X.out];try rfl,by rw [←hW1];exact B1.out⟩
structure Gf where
 k:Int
 a:Atm
def rdGf:Rd Gf:=fun _ _ g cs=>cs=[.int .i64 g.k,.string g.a.n,.int .i64 g.a.o,.string g.a.v]
theorem rdGf_good:Good rdGf 4:=⟨fun h _=>h,fun h _=>h,fun h _ _=>h,fun h=>by rw [h];rfl,fun h u hu=>by rw [h] at hu;simp at hu;rcases hu with rfl|rfl|rfl|rfl<;>rfl⟩
abbrev rdGfs:Rd (List Gf):=rdRow 4 rdGf
theorem rdGfs_good:Good rdGfs 1:=rdRow_good rdGf_good
theorem rdGfs_at {w:World} {S:Nat→Prop} {l:List Gf} {A:Option Addr} {n c:Nat} (h:rdGfs w S l [.slice A n c]):n=l.length∧n≤c∧c≤maxLen∧∀k (hk:k < l.length),∃ad,A=some ad∧S ad.block∧
  w.cell? (ad.add (k*4))=some (.int .i64 l[k].k)∧w.cell? ⟨(ad.add (k*4)).block,(ad.add (k*4)).off+1,none⟩=some (.string l[k].a.n)∧w.cell? ⟨(ad.add (k*4)).block,(ad.add (k*4)).off+2,none⟩=some (.int .i64 l[k].a.o)∧w.cell? ⟨(ad.add (k*4)).block,(ad.add (k*4)).off+3,none⟩=some (.string l[k].a.v):=by
 obtain ⟨A',c',e,h1,h2,h⟩:=h
 simp only [List.cons.injEq,Value.slice.injEq,and_true] at e
 obtain ⟨rfl,rfl,rfl⟩:=e
 refine ⟨rfl,h1,h2,fun k hk=>?_⟩
 obtain ⟨ad,es,e,hS,hE,hl,hc⟩:=h k hk
 rw [show es=[.int .i64 l[k].k,.string l[k].a.n,.int .i64 l[k].a.o,.string l[k].a.v] from hE] at hc
 exact ⟨ad,e,hS,hc 0 _ rfl,by rw [off_add ad (k*4) 1 (by omega)];exact hc 1 _ rfl,by rw [off_add ad (k*4) 2 (by omega)];exact hc 2 _ rfl,by rw [off_add ad (k*4) 3 (by omega)];exact hc 3 _ rfl⟩
def gfs1 (n:ByteArray) (i:Nat) (g:List Atm):List Gf:=(g.filter fun a=>decide (a.n=n)).map (Gf.mk (i:Int))
def gfU (n:ByteArray):List Ent→Nat→List Gf
 | [],_=>[]
 | x::r,i=>gfs1 n i (gvs x)++gfU n r (i+1)
theorem gfU_app {n:ByteArray}:∀(a b:List Ent) (i:Nat),gfU n (a++b) i=gfU n a i++gfU n b (i+a.length)
 | [],b,i=>rfl
 | x::r,b,i=>by
  have ih:=gfU_app (n:=n) r b (i+1)
  rw [List.cons_append,List.length_cons,show i+(r.length+1)=i+1+r.length by omega]
  show gfs1 n i (gvs x)++gfU n (r++b) (i+1)=(gfs1 n i (gvs x)++gfU n r (i+1))++gfU n b (i+1+r.length)
  rw [ih,List.append_assoc]
theorem gfU_take {n:ByteArray} {L:List Ent} {k:Nat} (hk:k < L.length):gfU n (L.take (k+1)) 0=gfU n (L.take k) 0++gfs1 n k (gvs L[k]):=by
 rw [List.take_succ_eq_append_getElem hk,gfU_app]
 show _++(gfs1 n _ (gvs L[k])++[])=_
 rw [List.append_nil,List.length_take,Nat.zero_add,Nat.min_eq_left (by omega)]
theorem gfs1_take {n:ByteArray} {i:Nat} {g:List Atm} {j:Nat} (hj:j < g.length):gfs1 n i (g.take (j+1))=if g[j].n=n then gfs1 n i (g.take j)++[⟨(i:Int),g[j]⟩] else gfs1 n i (g.take j):=by
 unfold gfs1
 rw [List.take_succ_eq_append_getElem hj,List.filter_append]
 by_cases h:g[j].n=n
 ·rw [if_pos h,List.filter_cons_of_pos (by rw [decide_eq_true h]),List.filter_nil,List.map_append];rfl
 ·rw [if_neg h,List.filter_cons_of_neg (by rw [decide_eq_false h];decide),List.filter_nil,List.append_nil]
theorem ixU_take {n:ByteArray} {L:List Ent} {k:Nat} (hk:k < L.length):ixU (isN n) (L.take (k+1)) 0=if L[k].n=n then ixU (isN n) (L.take k) 0++[(k:Int)] else ixU (isN n) (L.take k) 0:=by
 rw [List.take_succ_eq_append_getElem hk,ixU_app,List.length_take,Nat.zero_add,Nat.min_eq_left (by omega),ixU_cons]
 unfold isN
 by_cases h:L[k].n=n
 ·rw [if_pos h,if_pos (decide_eq_true h)];rfl
 ·rw [if_neg h,if_neg (by rw [decide_eq_false h];decide)]
  show _++[]=_
  rw [List.append_nil]
theorem gfU_len {n:ByteArray}:∀{L:List Ent} {i:Nat} {m:Nat},(∀x ∈ L,x.p.length≤m)→(gfU n L i).length≤L.length*(m+1)
 | [],i,m,h=>by simp [gfU]
 | x::r,i,m,h=>by
  have ih:=gfU_len (n:=n) (L:=r) (i:=i+1) (m:=m) (fun y hy=>h y (List.mem_cons_of_mem _ hy))
  have hx:=h x (List.mem_cons_self ..)
  have h1:(gfs1 n i (gvs x)).length≤m+1:=by
   unfold gfs1
   rw [List.length_map]
   refine Nat.le_trans (List.length_filter_le _ _) ?_
   show x.p.length+1≤m+1
   omega
  show (gfs1 n i (gvs x)++gfU n r (i+1)).length≤(r.length+1)*(m+1)
  rw [List.length_append,Nat.add_mul]
  omega
theorem ixU_len {p:Ent→Bool}:∀{L:List Ent} {i:Nat},(ixU p L i).length≤L.length
 | [],i=>Nat.le_refl _
 | x::r,i=>by
  rw [ixU_cons,List.length_cons]
  have:=ixU_len (p:=p) (L:=r) (i:=i+1)
  split
  ·rw [List.length_cons];omega
  ·omega
section
variable {α:Type} {E:Rd α} {sz:Nat}
theorem Grow.flatKept {T:Nat→Prop} {W w':World} {base:Nat} {e:TypeId} {v:Value} {l:List α} {row:Option Nat} (hf:∀(w w':World) (S S':Nat→Prop) a cs,E w S a cs→E w' S' a cs) (h:Grow E sz T W base e v l) (hg:W.grownBy w' row) (hne:∀b,v.ownBlock=some b→row≠some b):Grow E sz T w' base e v l:=by
 obtain ⟨css,hl,hown,hE⟩:=h
 refine ⟨css,hl,hown.kept hg ?_,fun k hk=>?_⟩
 ·cases hb:v.ownBlock with
  | none=>exact .inl rfl
  | some b=>exact .inr fun hh=>hne b hb hh.symm
 ·obtain ⟨cs,h1,h2⟩:=hE k hk
  exact ⟨cs,h1,hf _ _ _ _ _ _ h2⟩
end
structure NmS (W:World) (base:Nat) (F:ByteArray→Value × Value) (pl:ByteArray→List Int) (gl:ByteArray→List Gf):Prop where
 p:∀s,Grow rdInt 1 (fun _=>True) W base 3 (F s).1 (pl s)
 g:∀s,Grow rdGf 4 (fun _=>True) W base 103 (F s).2 (gl s)
 pg:∀s s',Off (F s).1 (F s').2
 pp:∀s s',s≠s'→Off (F s).1 (F s').1
 gg:∀s s',s≠s'→Off (F s).2 (F s').2
def nmv (F:ByteArray→Value × Value):ByteArray→Value:=fun s=>.agg #[(F s).1,(F s).2]
theorem nmv_upd (F:ByteArray→Value × Value) (s:ByteArray) (p:Value × Value):nmv (upd9 F s p)=upd9 (nmv F) s (.agg #[p.1,p.2]):=by
 funext x
 unfold nmv upd9
 by_cases h:x=s
 ·simp [h]
 ·simp [h]
section
variable {W w':World} {base:Nat} {F:ByteArray→Value × Value} {pl:ByteArray→List Int} {gl:ByteArray→List Gf}
theorem NmS.nil (W:World) (base:Nat):NmS W base (fun _=>(.slice none 0 0,.slice none 0 0)) (fun _=>[]) (fun _=>[]):=
 ⟨fun _=>Grow.nil _ _ _ _,fun _=>Grow.nil _ _ _ _,fun _ _=>Off.nil _,fun _ _ _=>Off.nil _,fun _ _ _=>Off.nil _⟩
theorem NmS.below (h:NmS W base F pl gl) (hb:Below W.heap.size W w'):NmS w' base F pl gl:=
 ⟨fun s=>(h.p s).below rdInt_good hb,fun s=>(h.g s).below rdGf_good hb,h.pg,h.pp,h.gg⟩
theorem NmS.row (h : NmS W base F pl gl) {b : Nat} (hg : W.grownBy w' (some b)) (hb : b < base) : NmS w' base F pl gl :=
  ⟨fun s => (h.p s).flatKept (fun _ _ _ _ _ _ h => h) hg (fun q hq e => by have := ((h.p s).lt q hq).1; injection e with e; omega),
   fun s => (h.g s).flatKept (fun _ _ _ _ _ _ h => h) hg (fun q hq e => by have := ((h.g s).lt q hq).1; injection e with e; omega), h.pg, h.pp, h.gg⟩
theorem NmS.cast {pl':ByteArray→List Int} {gl':ByteArray→List Gf} (h:NmS W base F pl gl) (h1:∀s,pl s=pl' s) (h2:∀s,gl s=gl' s):NmS W base F pl' gl':=by
 obtain rfl:pl=pl':=funext h1
 obtain rfl:gl=gl':=funext h2
 exact h
theorem NmS.addP (h:NmS W base F pl gl) (s:ByteArray) {v':Value} {l':List Int} (hG:Grow rdInt 1 (fun _=>True) w' base 3 v' l') (hg:W.grownBy w' (F s).1.ownBlock) (hm:Moved W (F s).1 v'):NmS w' base (upd9 F s (v',(F s).2)) (upd9 pl s l') gl:=by
 have lp:∀x b,(F x).1.ownBlock=some b→b < W.heap.size:=fun x b hb=>((h.p x).lt b hb).2
 have lg:∀x b,(F x).2.ownBlock=some b→b < W.heap.size:=fun x b hb=>((h.g x).lt b hb).2
 have f2:∀x,(upd9 F s (v',(F s).2) x).2=(F x).2:=fun x=>by
  by_cases e:x=s
  ·rw [e,upd9_same]
  ·rw [upd9_ne _ _ e]
 refine ⟨fun x=>?_,fun x=>?_,fun x y=>?_,fun x y hxy=>?_,fun x y hxy=>?_⟩
 ·by_cases e:x=s
  ·rw [e,upd9_same,upd9_same];exact hG
  ·rw [upd9_ne _ _ e,upd9_ne _ _ e]
   exact (h.p x).flatKept (fun _ _ _ _ _ _ h=>h) hg (fun b hb hr=>h.pp x s e b hb hr)
 ·rw [f2]
  exact (h.g x).flatKept (fun _ _ _ _ _ _ h=>h) hg (fun b hb hr=>h.pg s x b hr hb)
 ·rw [f2]
  by_cases e:x=s
  ·rw [e,upd9_same];exact Off.moved (h.pg s y) (lg y) hm
  ·rw [upd9_ne _ _ e];exact h.pg x y
 ·by_cases e:x=s
  ·rw [e,upd9_same,upd9_ne _ _ (fun q=>hxy (e.trans q.symm))]
   exact Off.moved (h.pp s y (fun q=>hxy (e.trans q))) (lp y) hm
  ·rw [upd9_ne _ _ e]
   by_cases e':y=s
   ·rw [e',upd9_same];exact (Off.moved (h.pp s x (fun q=>e q.symm)) (lp x) hm).symm
   ·rw [upd9_ne _ _ e'];exact h.pp x y hxy
 ·rw [f2,f2];exact h.gg x y hxy
theorem NmS.addG (h:NmS W base F pl gl) (s:ByteArray) {v':Value} {l':List Gf} (hG:Grow rdGf 4 (fun _=>True) w' base 103 v' l') (hg:W.grownBy w' (F s).2.ownBlock) (hm:Moved W (F s).2 v'):NmS w' base (upd9 F s ((F s).1,v')) pl (upd9 gl s l'):=by
 have lp:∀x b,(F x).1.ownBlock=some b→b < W.heap.size:=fun x b hb=>((h.p x).lt b hb).2
 have lg:∀x b,(F x).2.ownBlock=some b→b < W.heap.size:=fun x b hb=>((h.g x).lt b hb).2
 have f1:∀x,(upd9 F s ((F s).1,v') x).1=(F x).1:=fun x=>by
  by_cases e:x=s
  ·rw [e,upd9_same]
  ·rw [upd9_ne _ _ e]
 refine ⟨fun x=>?_,fun x=>?_,fun x y=>?_,fun x y hxy=>?_,fun x y hxy=>?_⟩
 ·rw [f1]
  exact (h.p x).flatKept (fun _ _ _ _ _ _ h=>h) hg (fun b hb hr=>h.pg x s b hb hr)
 ·by_cases e:x=s
  ·rw [e,upd9_same,upd9_same];exact hG
  ·rw [upd9_ne _ _ e,upd9_ne _ _ e]
   exact (h.g x).flatKept (fun _ _ _ _ _ _ h=>h) hg (fun b hb hr=>h.gg x s e b hb hr)
 ·rw [f1]
  by_cases e:y=s
  ·rw [e,upd9_same];exact (Off.moved (h.pg x s).symm (lp x) hm).symm
  ·rw [upd9_ne _ _ e];exact h.pg x y
 ·rw [f1,f1];exact h.pp x y hxy
 ·by_cases e:x=s
  ·rw [e,upd9_same,upd9_ne _ _ (fun q=>hxy (e.trans q.symm))]
   exact Off.moved (h.gg s y (fun q=>hxy (e.trans q))) (lg y) hm
  ·rw [upd9_ne _ _ e]
   by_cases e':y=s
   ·rw [e',upd9_same];exact (Off.moved (h.gg s x (fun q=>e q.symm)) (lg x) hm).symm
   ·rw [upd9_ne _ _ e'];exact h.gg x y hxy
end
theorem far9 {W w':World} {row:Option Nat} {b o:Nat} {v:Value} (hg:W.grownBy w' row) (hb:b < W.heap.size) (hne:row≠some b) (h:W.cell? ⟨b,o,none⟩=some v):w'.cell? ⟨b,o,none⟩=some v:=
 (World.cell?_of_block (a:=⟨b,o,none⟩) (hg.block b hb (fun e=>hne e.symm))).trans h
theorem frz9 {W w':World} {row:Option Nat} {b o:Nat} (hg:W.grownBy w' row) (hb:b < W.heap.size) (hne:row≠some b) (h:W.frozen? ⟨b,o,none⟩=false):w'.frozen? ⟨b,o,none⟩=false:=
 (World.frozen?_of_block (a:=⟨b,o,none⟩) (hg.block b hb (fun e=>hne e.symm))).trans h
theorem gift_info:(Tryz.prog.info? 103).map (fun i=>(i.zero,i.size,i.bytes))=some (some (.agg #[.int .i64 0,.string { data:=#[] },.int .i64 0,.string { data:=#[] }]),4,48):=by kernel_rfl
theorem zeroNm9 (w:World):(zeroValue 101).run Tryz.prog w=.ok (.agg #[.slice none 0 0,.slice none 0 0]) w:=by kernel_rfl
theorem lawStr9:Maps.Keyed Tryz.prog 9:=Maps.string_keyed Tryz.underlying9
def Gap9 (lo hi:Nat) (F:ByteArray→Value × Value):Prop:=∀s b,(F s).1.ownBlock=some b∨(F s).2.ownBlock=some b→b < lo∨hi≤b
section
variable {W w' wr W2 w4 w6:World} {base lo hi:Nat} {F:ByteArray→Value × Value} {pl:ByteArray→List Int} {gl:ByteArray→List Gf}
theorem NmS.gap (h:NmS W base F pl gl) (hi:Nat):Gap9 W.heap.size hi F:=fun s b hb=>by
 rcases hb with hb|hb
 ·exact .inl ((h.p s).lt b hb).2
 ·exact .inl ((h.g s).lt b hb).2
theorem Gap9.addP (h:Gap9 lo hi F) {s:ByteArray} {v':Value} (hm:Moved W (F s).1 v') (hW:hi≤W.heap.size):Gap9 lo hi (upd9 F s (v',(F s).2)):=fun x b hb=>by
 by_cases e:x=s
 ·subst e
  rw [upd9_same] at hb
  rcases hb with hb|hb
  ·rcases hm with q|⟨d,q,hd⟩
   ·exact h x b (.inl (q ▸ hb))
   ·have hb:v'.ownBlock=some b:=hb
    rw [q] at hb;injection hb with hb;exact .inr (by omega)
  ·exact h x b (.inr hb)
 ·rw [upd9_ne _ _ e] at hb;exact h x b hb
theorem Gap9.addG (h:Gap9 lo hi F) {s:ByteArray} {v':Value} (hm:Moved W (F s).2 v') (hW:hi≤W.heap.size):Gap9 lo hi (upd9 F s ((F s).1,v')):=fun x b hb=>by
 by_cases e:x=s
 ·subst e
  rw [upd9_same] at hb
  rcases hb with hb|hb
  ·exact h x b (.inl hb)
  ·rcases hm with q|⟨d,q,hd⟩
   ·exact h x b (.inr (q ▸ hb))
   ·have hb:v'.ownBlock=some b:=hb
    rw [q] at hb;injection hb with hb;exact .inr (by omega)
 ·rw [upd9_ne _ _ e] at hb;exact h x b hb
theorem NmS.gapRow (h : NmS W base F pl gl) {b : Nat} (hg : W.grownBy w' (some b)) (hG : Gap9 lo hi F) (h1 : lo ≤ b) (h2 : b < hi) : NmS w' base F pl gl :=
  ⟨fun s => (h.p s).flatKept (fun _ _ _ _ _ _ h => h) hg (fun q hq e => by have := hG s q (.inl hq); injection e with e; omega),
   fun s => (h.g s).flatKept (fun _ _ _ _ _ _ h => h) hg (fun q hq e => by have := hG s q (.inr hq); injection e with e; omega), h.pg, h.pp, h.gg⟩
theorem grown_set (w:World) (a:Addr) (u:Value):w.grownBy (w.setCell a u) (some a.block):=
 ⟨rfl,rfl,rfl,by simp [World.setCell],fun k hk hne=>Below.heap_setCell w a u k (fun e=>hne (by rw [e]))⟩
theorem NmS.stepP (h:NmS wr base F pl gl) (hb2:Below wr.heap.size wr W2) (hs2:W2.heap.size=wr.heap.size+2) (s:ByteArray) {v':Value} {l':List Int} (hG:Grow rdInt 1 (fun _=>True) w4 base 3 v' l') (hg:W2.grownBy w4 (F s).1.ownBlock) (hm:Moved W2 (F s).1 v')
  {b:Nat} (hbb:b < base) {o:Nat} {u:Value} (hg6:(w4.setCell ⟨wr.heap.size+1,o,none⟩ u).grownBy w6 (some b)):NmS w6 base (upd9 F s (v',(F s).2)) (upd9 pl s l') gl:=by
 have h1:=(h.below hb2).addP s hG hg hm
 have hgap:Gap9 wr.heap.size (wr.heap.size+2) (upd9 F s (v',(F s).2)):=(h.gap _).addP hm (by omega)
 exact (h1.gapRow (grown_set w4 ⟨wr.heap.size+1,o,none⟩ u) hgap (Nat.le_succ _) (by show wr.heap.size+1 < wr.heap.size+2;omega)).row hg6 hbb
theorem NmS.stepG (h:NmS wr base F pl gl) (hb2:Below wr.heap.size wr W2) (hs2:W2.heap.size=wr.heap.size+2) (s:ByteArray) {v':Value} {l':List Gf} (hG:Grow rdGf 4 (fun _=>True) w4 base 103 v' l') (hg:W2.grownBy w4 (F s).2.ownBlock) (hm:Moved W2 (F s).2 v')
  {b:Nat} (hbb:b < base) {o:Nat} {u:Value} (hg6:(w4.setCell ⟨wr.heap.size+1,o,none⟩ u).grownBy w6 (some b)):NmS w6 base (upd9 F s ((F s).1,v')) pl (upd9 gl s l'):=by
 have h1:=(h.below hb2).addG s hG hg hm
 have hgap:Gap9 wr.heap.size (wr.heap.size+2) (upd9 F s ((F s).1,v')):=(h.gap _).addG hm (by omega)
 exact (h1.gapRow (grown_set w4 ⟨wr.heap.size+1,o,none⟩ u) hgap (Nat.le_succ _) (by show wr.heap.size+1 < wr.heap.size+2;omega)).row hg6 hbb
theorem step_mid {q b o:Nat} {u:Value} {row:Option Nat} (hb2:Below wr.heap.size wr W2) (hg:W2.grownBy w4 row) (hg6:(w4.setCell ⟨wr.heap.size+1,o,none⟩ u).grownBy w6 (some b)) (hq:q < wr.heap.size) (hr:row≠some q) (hqb:q≠b):w6.heap[q]?=wr.heap[q]?:=by
 have h1:=hb2.size
 have h2:=hg.size
 have e1:=hb2.block q hq
 have e2:=hg.block q (by omega) (fun e=>hr e.symm)
 have e3:=Below.heap_setCell w4 ⟨wr.heap.size+1,o,none⟩ u q (by show q≠wr.heap.size+1;omega)
 have e4:=hg6.block q (by rw [World.size_setCell];omega) (fun e=>hqb (Option.some.inj e))
 rw [e4,e3,e2,e1]
theorem step_below {w:World} {b o:Nat} {u:Value} {row:Option Nat} (hb:Below w.heap.size w wr) (hb2:Below wr.heap.size wr W2) (hg:W2.grownBy w4 row) (hr:∀q,row=some q→w.heap.size≤q) (hg6:(w4.setCell ⟨wr.heap.size+1,o,none⟩ u).grownBy w6 (some b)) (hbw:w.heap.size≤b):Below w.heap.size w w6:=by
 have h1:=hb.size
 have h2:=hb2.size
 have h3:=hg.size
 have c1:Below w.heap.size w w4:=(hb.trans (hb2.mono h1)).grown hg (by omega) hr
 have c2:Below w.heap.size w (w4.setCell ⟨wr.heap.size+1,o,none⟩ u):=c1.setCell (by show w.heap.size≤wr.heap.size+1;omega) u
 exact c2.grown hg6 (by rw [World.size_setCell];omega) (fun q hq=>by injection hq with hq;omega)
end
end Go.Proofs.YthchfkhpmgkghaaGreatDoor
