/- What the laws rest on: P6e, E9j, E9k. -/
import Derived.Lib.QuietBelow
import Derived.Test.YtoopkofekekmoaaGreatDoorQAHZB
import Derived.Test.YtoopkofekekmoaaGreatDoorQANZB
set_option maxRecDepth 100000
set_option linter.unusedVariables false
set_option linter.unusedSimpArgs false
namespace Go.Proofs.YtoopkofekekmoaaGreatDoor
open Go.RowKit
def brs (x y:Ent):Bool:=x.c.any fun k=>(gvs y).any (pvB k)
def fgt (x y:Ent):Bool:=!decide (x.n=y.n)&&(brs x y||brs y x)
set_option maxHeartbeats 4000000 in
theorem ixAtm_any (f:Nat) (cv:Value) (p:Atm→Bool) (I:World→Prop) (hcf:∀(args:Array Value) (w:World),(callFunc f args).run Tryz.prog w=.ok (.enter f args) w) (hI:∀W W':World,I W→Below W.heap.size W W'→I W')
  (hf:∀(x:Atm) (W:World),I W→Calls Tryz.prog f #[.agg #[.string x.n,.int .i64 x.o,.string x.v],cv] W fun e W'=>e=.returned (.bool (p x))∧Below W.heap.size W W')
  (A:Option Addr) (n c:Nat) (l:List Atm) (w:World) (h:rdAtms w (lt_ w.heap.size) l [.slice A n c]) (hi:I w) :
  Calls Tryz.prog 122 #[.slice A n c,.func (.func f) #[] #[cv]] w fun e w'=>e=.returned (.int .i64 (ixP p l 0))∧Below w.heap.size w w':=by
 obtain ⟨rfl,hnc,hcm,_⟩:=rdAtms_at h
 have hcm':c≤9223372036854775807:=hcm
 have H:=Lib.hid h
 have HI:=Lib.hid (fun (W:World) (hb:Below w.heap.size w W)=>hI w W hi hb)
 have KF:=Lib.hid hf
 clear h hcm hi hI hf
 go_enter Tryz.func122,Tryz.ntmps122
 go_wp2
 go_loopw [8] (fun i wr=>∃k:Nat,k≤l.length∧i=.int .i64 k∧ixP p l 0=ixP p (l.drop k) k∧Below w.heap.size w wr) (fun i _=>l.length - (intOf i).toNat)
 case atStart=>exact ⟨0,Nat.zero_le _,rfl,rfl,Below.refl _ _⟩
 case round=>
  obtain ⟨k,hk,rfl,hx,hbel⟩:=hrel
  have HX:=Lib.hid hx
  have HB:=Lib.hid hbel
  clear hx
  by_cases hlt:k < l.length
  ·obtain ⟨_,_,_,ha⟩:=rdAtms_at (rdAtms_good.below H.out hbel)
   obtain ⟨ad,rfl,had,g0,g1,g2⟩:=ha k hlt
   have i0:(0:Int)≤(k:Int):=by omega
   have i1:(k:Int) < (l.length:Int):=by omega
   have CL:=Lib.hid (KF.out l[k] wr (HI.out wr hbel))
   have PA:=Lib.hid (ixP_at (p:=p) hlt)
   clear ha hbel had
   have SZ:=Lib.hid HB.out.size
   generalize l[k]=x at *
   cases he:p x
   ·have X:=Lib.hid (PA.out.2 he)
    rw [he] at CL
    clear he
    go_wp2_with fail
    refine CL.out.mono ?_
    rintro e w' ⟨rfl,hb2⟩
    have HB2:=Lib.hid hb2
    clear hb2
    go_wp2
    go_roundw
    case rel=>exact ⟨k+1,by omega,by go_num,by rw [HX.out,X.out],HB.out.trans (HB2.out.mono SZ.out)⟩
    case measure=>simp [intOf];omega
   ·have X:=Lib.hid (PA.out.1 he)
    rw [he] at CL
    clear he
    go_wp2_with fail
    refine CL.out.mono ?_
    rintro e w' ⟨rfl,hb2⟩
    have HB2:=Lib.hid hb2
    clear hb2
    go_wp2
    go_ret
    exact ⟨by rw [HX.out,X.out];try rfl,HB.out.trans (HB2.out.mono SZ.out)⟩
  ·have X:=Lib.hid (show ixP p l 0=-1 by rw [HX.out,List.drop_eq_nil_of_le (by omega)];rfl)
   go_wp2
   go_ret
   exact ⟨by rw [X.out];try rfl,HB.out⟩
set_option maxHeartbeats 2000000 in
theorem hasAtm_any (f:Nat) (cv:Value) (p:Atm→Bool) (I:World→Prop) (hcf:∀(args:Array Value) (w:World),(callFunc f args).run Tryz.prog w=.ok (.enter f args) w) (hI:∀W W':World,I W→Below W.heap.size W W'→I W')
  (hf:∀(x:Atm) (W:World),I W→Calls Tryz.prog f #[.agg #[.string x.n,.int .i64 x.o,.string x.v],cv] W fun e W'=>e=.returned (.bool (p x))∧Below W.heap.size W W')
  (A:Option Addr) (n c:Nat) (l:List Atm) (w:World) (h:rdAtms w (lt_ w.heap.size) l [.slice A n c]) (hi:I w) :
  Calls Tryz.prog 98 #[.slice A n c,.func (.func f) #[] #[cv]] w fun e w'=>e=.returned (.bool (l.any p))∧Below w.heap.size w w':=by
 have C:=Lib.hid (ixAtm_any f cv p I hcf hI hf A n c l w h hi)
 have X:=Lib.hid (ixP_any (p:=p) (l:=l) (i:=0))
 clear h hcf hI hf hi
 go_enter Tryz.func98,Tryz.ntmps98
 go_wp2_with (go_at_call 122;(with_reducible refine C.out.mono ?_);rintro e w' ⟨rfl,hb2⟩)
 go_ret
 exact ⟨by rw [←X.out];rfl,hb2⟩
def Bx3 (q:Nat) (x:Atm) (w:World):Prop:=w.cell? ⟨q,0,none⟩=some (.string x.n)∧w.cell? ⟨q,1,none⟩=some (.int .i64 x.o)∧w.cell? ⟨q,2,none⟩=some (.string x.v)
theorem Bx3.on {q:Nat} {x:Atm} {w w':World} (h:Bx3 q x w) (hb:Below w.heap.size w w'):Bx3 q x w':=⟨keep6 hb h.1,keep6 hb h.2.1,keep6 hb h.2.2⟩
set_option maxHeartbeats 2000000 in
theorem bars11_any (x y:Atm) (q:Nat) (w:World) (E:EnvR w) (h:Bx3 q x w) :
  Calls Tryz.prog 100 #[.agg #[.string y.n,.int .i64 y.o,.string y.v],.pointer (some ⟨q,0,none⟩)] w fun e w'=>e=.returned (.bool (pvB x y))∧Below w.heap.size w w':=by
 have B1:=Lib.hid (show Below w.heap.size w (w.alloc (.cells #[.string y.n,.int .i64 y.o,.string y.v] 59)) from (Below.refl _ w).alloc (Nat.le_refl _) _)
 have K:=Lib.hid (rprov_any x.n x.o x.v y.n y.o y.v (w.alloc (.cells #[.string y.n,.int .i64 y.o,.string y.v] 59)) (E.below B1.out))
 obtain ⟨g0,g1,g2⟩:=h.on B1.out
 have X:=Lib.hid (show pvB x y=provB (B x.n) x.o (B x.v) (B y.n) y.o (B y.v) from rfl)
 clear E h
 generalize provB (B x.n) x.o (B x.v) (B y.n) y.o (B y.v)=b at *
 generalize pvB x y=b' at *
 go_enter Tryz.func100,Tryz.ntmps100
 go_wp2_with fail
 refine K.out.mono ?_
 rintro e w' ⟨rfl,hb2⟩
 have HB2:=Lib.hid hb2
 clear hb2
 go_wp2
 go_ret
 exact ⟨by rw [X.out];try rfl,B1.out.trans (HB2.out.mono B1.out.size)⟩
set_option maxHeartbeats 2000000 in
theorem bars1_any (x:Atm) (A:Option Addr) (n c:Nat) (g:List Atm) (q:Nat) (w:World) (E:EnvR w) (h:rdAtms w (lt_ w.heap.size) g [.slice A n c]) (hc:w.cell? ⟨q,0,none⟩=some (.slice A n c)) :
  Calls Tryz.prog 99 #[.agg #[.string x.n,.int .i64 x.o,.string x.v],.pointer (some ⟨q,0,none⟩)] w fun e w'=>e=.returned (.bool (g.any (pvB x)))∧Below w.heap.size w w':=by
 have B1:=Lib.hid (show Below w.heap.size w (w.alloc (.cells #[.string x.n,.int .i64 x.o,.string x.v] 59)) from (Below.refl _ w).alloc (Nat.le_refl _) _)
 have K:=Lib.hid (hasAtm_any 100 (.pointer (some ⟨w.heap.size,0,none⟩)) (pvB x) (fun W=>EnvR W∧Bx3 w.heap.size x W) (fun _ _=>by kernel_rfl) (fun W W' h hb=>⟨h.1.below hb,h.2.on hb⟩) (fun y W h=>bars11_any x y w.heap.size W h.1 h.2)
  A n c g (w.alloc (.cells #[.string x.n,.int .i64 x.o,.string x.v] 59)) (rdAtms_good.up (rdAtms_good.below h B1.out) B1.out.size) ⟨E.below B1.out,by unfold Bx3;exact ⟨by simp [go_sem],by simp [go_sem],by simp [go_sem]⟩⟩)
 have g0:=keep6 B1.out hc
 have hmf:∀(fn:Fn) (first cap:Array Value) (w:World),(Instr.makeFunc fn first cap).run Tryz.prog w=.ok (.func fn first cap) w:=fun _ _ _ _=>rfl
 clear E h hc
 generalize g.any (pvB x)=b at *
 go_enter Tryz.func99,Tryz.ntmps99
 go_wp2_with fail
 refine K.out.mono ?_
 rintro e w' ⟨rfl,hb2⟩
 have HB2:=Lib.hid hb2
 clear hb2
 go_wp2
 go_ret
 exact ⟨rfl,B1.out.trans (HB2.out.mono B1.out.size)⟩
set_option maxHeartbeats 8000000 in
theorem bars6_any (x y:Ent) (A1:Option Addr) (c1:Nat) (A2:Option Addr) (c2:Nat) (A3:Option Addr) (c3:Nat) (A4:Option Addr) (c4:Nat) (A1y:Option Addr) (c1y:Nat) (A2y:Option Addr) (c2y:Nat) (A3y:Option Addr) (c3y:Nat) (A4y:Option Addr) (c4y:Nat) (w:World)
  (hx:EntV w (lt_ w.heap.size) x A1 c1 A2 c2 A3 c3 A4 c4) (hy:EntV w (lt_ w.heap.size) y A1y c1y A2y c2y A3y c3y A4y c4y) (hp:y.p.length≤1000) (E:EnvR w) :
  Calls Tryz.prog 69 #[x.val A1 c1 A2 c2 A3 c3 A4 c4,y.val A1y c1y A2y c2y A3y c3y A4y c4y] w fun e w'=>e=.returned (.bool (brs x y))∧Below w.heap.size w w':=by
 have HX:=Lib.hid hx
 have HE:=Lib.hid E
 have KG:=Lib.hid (fun (W:World) (hb:Below w.heap.size w W)=>gives6_any y A1y c1y A2y c2y A3y c3y A4y c4y W (hy.on hb) hp)
 have X:=Lib.hid (show brs x y=x.c.any fun k=>(gvs y).any (pvB k) from rfl)
 generalize gvs y=g at *
 generalize brs x y=b at *
 obtain ⟨n,v,d,r,c,p⟩:=x
 obtain ⟨ny,vy,dy,ry,cy,py⟩:=y
 show Calls Tryz.prog 69 #[.agg #[.string n,.string v,.slice A1 d.length c1,.slice A2 r.length c2,.slice A3 c.length c3,.slice A4 p.length c4],.agg #[.string ny,.string vy,.slice A1y dy.length c1y,.slice A2y ry.length c2y,.slice A3y cy.length c3y,.slice A4y py.length c4y]] w _
 have hmf:∀(fn:Fn) (first cap:Array Value) (w:World),(Instr.makeFunc fn first cap).run Tryz.prog w=.ok (.func fn first cap) w:=fun _ _ _ _=>rfl
 obtain ⟨W1,hW1⟩:∃W,W=((w.alloc (.cells #[.string n,.string v,.slice A1 d.length c1,.slice A2 r.length c2,.slice A3 c.length c3,.slice A4 p.length c4] 53)).alloc (.cells #[.string ny,.string vy,.slice A1y dy.length c1y,.slice A2y ry.length c2y,.slice A3y cy.length c3y,.slice A4y py.length c4y] 53)):=⟨_,rfl⟩
 have B1:=Lib.hid (show Below w.heap.size w W1 by rw [hW1];exact ((Below.refl _ w).alloc (Nat.le_refl _) _).alloc (by simp) _)
 have q4:W1.cell? ⟨w.heap.size,4,none⟩=some (.slice A3 c.length c3):=by rw [hW1];simp [go_sem]
 clear hx hy E hp
 go_enter Tryz.func69,Tryz.ntmps69
 go_wp2_with fail
 rw [←hW1]
 refine (KG.out _ B1.out).mono ?_
 rintro e w2 ⟨⟨Ag,cg,rfl,hg⟩,hb⟩
 have C2:=Lib.hid (B1.out.trans (hb.mono B1.out.size))
 have B3:=Lib.hid (show Below w2.heap.size w2 (w2.alloc (.cells #[.slice Ag g.length cg] 51)) from (Below.refl _ _).alloc (Nat.le_refl _) _)
 have C3:=Lib.hid (C2.out.trans (B3.out.mono C2.out.size))
 have K:=Lib.hid (hasAtm_any 99 (.pointer (some ⟨w2.heap.size,0,none⟩)) (fun k=>g.any (pvB k)) (fun W=>EnvR W∧W.cell? ⟨w2.heap.size,0,none⟩=some (.slice Ag g.length cg)∧rdAtms W (lt_ W.heap.size) g [.slice Ag g.length cg]) (fun _ _=>by kernel_rfl)
  (fun W W' h hb=>⟨h.1.below hb,keep6 hb h.2.1,rdAtms_good.up (rdAtms_good.below h.2.2 hb) hb.size⟩) (fun k W h=>bars1_any k Ag g.length cg g w2.heap.size W h.1 h.2.2 h.2.1)
  A3 c.length c3 c (w2.alloc (.cells #[.slice Ag g.length cg] 51)) (HX.out.on C3.out).c
  ⟨HE.out.below C3.out,by simp [go_sem],rdAtms_good.up (rdAtms_good.below (rdAtms_good.more hg fun b hb'=>hb'.2) B3.out) B3.out.size⟩)
 have g4:=keep6 hb q4
 have g4':=keep6 B3.out g4
 clear hg hb q4 hW1
 generalize (c.any fun k=>g.any (pvB k))=b2 at *
 go_wp2_with fail
 refine K.out.mono ?_
 rintro e w' ⟨rfl,hb2⟩
 have HB2:=Lib.hid hb2
 clear hb2
 go_wp2
 go_ret
 exact ⟨by rw [X.out];try rfl,C3.out.trans (HB2.out.mono C3.out.size)⟩
set_option maxHeartbeats 8000000 in
theorem fights6_any (x y:Ent) (A1:Option Addr) (c1:Nat) (A2:Option Addr) (c2:Nat) (A3:Option Addr) (c3:Nat) (A4:Option Addr) (c4:Nat) (A1y:Option Addr) (c1y:Nat) (A2y:Option Addr) (c2y:Nat) (A3y:Option Addr) (c3y:Nat) (A4y:Option Addr) (c4y:Nat) (w:World)
  (hx:EntV w (lt_ w.heap.size) x A1 c1 A2 c2 A3 c3 A4 c4) (hy:EntV w (lt_ w.heap.size) y A1y c1y A2y c2y A3y c3y A4y c4y) (hpx:x.p.length≤1000) (hpy:y.p.length≤1000) (E:EnvR w) :
  Calls Tryz.prog 49 #[x.val A1 c1 A2 c2 A3 c3 A4 c4,y.val A1y c1y A2y c2y A3y c3y A4y c4y] w fun e w'=>e=.returned (.bool (fgt x y))∧Below w.heap.size w w':=by
 have KA:=Lib.hid (fun (W:World) (hb:Below w.heap.size w W)=>bars6_any x y A1 c1 A2 c2 A3 c3 A4 c4 A1y c1y A2y c2y A3y c3y A4y c4y W (hx.on hb) (hy.on hb) hpy (E.below hb))
 have KB:=Lib.hid (fun (W:World) (hb:Below w.heap.size w W)=>bars6_any y x A1y c1y A2y c2y A3y c3y A4y c4y A1 c1 A2 c2 A3 c3 A4 c4 W (hy.on hb) (hx.on hb) hpx (E.below hb))
 have X:=Lib.hid (show fgt x y=(!decide (x.n=y.n)&&(brs x y||brs y x)) from rfl)
 have he:(x.n.toList==y.n.toList)=decide (x.n=y.n):=str_eq _ _
 generalize brs x y=b1 at *
 generalize brs y x=b2 at *
 generalize decide (x.n=y.n)=b0 at *
 generalize fgt x y=b at *
 obtain ⟨n,v,d,r,c,p⟩:=x
 obtain ⟨ny,vy,dy,ry,cy,py⟩:=y
 show Calls Tryz.prog 49 #[.agg #[.string n,.string v,.slice A1 d.length c1,.slice A2 r.length c2,.slice A3 c.length c3,.slice A4 p.length c4],.agg #[.string ny,.string vy,.slice A1y dy.length c1y,.slice A2y ry.length c2y,.slice A3y cy.length c3y,.slice A4y py.length c4y]] w _
 simp only at he
 obtain ⟨W1,hW1⟩:∃W,W=((w.alloc (.cells #[.string n,.string v,.slice A1 d.length c1,.slice A2 r.length c2,.slice A3 c.length c3,.slice A4 p.length c4] 53)).alloc (.cells #[.string ny,.string vy,.slice A1y dy.length c1y,.slice A2y ry.length c2y,.slice A3y cy.length c3y,.slice A4y py.length c4y] 53)):=⟨_,rfl⟩
 have B1:=Lib.hid (show Below w.heap.size w W1 by rw [hW1];exact ((Below.refl _ w).alloc (Nat.le_refl _) _).alloc (by simp) _)
 have KX:=Lib.hid (fun (W:World) (hb:Below W1.heap.size W1 W)=>(show W.cell? ⟨w.heap.size,0,none⟩=some (.string n)∧W.cell? ⟨w.heap.size,1,none⟩=some (.string v)∧W.cell? ⟨w.heap.size,2,none⟩=some (.slice A1 d.length c1)∧W.cell? ⟨w.heap.size,3,none⟩=some (.slice A2 r.length c2)∧W.cell? ⟨w.heap.size,4,none⟩=some (.slice A3 c.length c3)∧W.cell? ⟨w.heap.size,5,none⟩=some (.slice A4 p.length c4)∧
   W.cell? ⟨w.heap.size+1,0,none⟩=some (.string ny)∧W.cell? ⟨w.heap.size+1,1,none⟩=some (.string vy)∧W.cell? ⟨w.heap.size+1,2,none⟩=some (.slice A1y dy.length c1y)∧W.cell? ⟨w.heap.size+1,3,none⟩=some (.slice A2y ry.length c2y)∧W.cell? ⟨w.heap.size+1,4,none⟩=some (.slice A3y cy.length c3y)∧W.cell? ⟨w.heap.size+1,5,none⟩=some (.slice A4y py.length c4y) from by
  refine ⟨?_,?_,?_,?_,?_,?_,?_,?_,?_,?_,?_,?_⟩<;>exact keep6 hb (by rw [hW1];simp [go_sem])))
 clear hx hy E hpx hpy
 cases b0
 ·go_enter Tryz.func49,Tryz.ntmps49
  go_wp2_with fail
  rw [←hW1]
  refine (KA.out _ B1.out).mono ?_
  clear hW1
  rintro e w2 ⟨rfl,hb⟩
  have C2:=Lib.hid (B1.out.trans (hb.mono B1.out.size))
  obtain ⟨x0,x1,x2,x3,x4,x5,y0,y1,y2,y3,y4,y5⟩:=KX.out _ hb
  clear hb
  cases b1
  ·go_wp2_with fail
   refine (KB.out _ C2.out).mono ?_
   rintro e w3 ⟨rfl,hb⟩
   have C3:=Lib.hid (C2.out.trans (hb.mono C2.out.size))
   clear hb x0 x1 x2 x3 x4 x5 y0 y1 y2 y3 y4 y5
   go_wp2
   go_ret
   exact ⟨by rw [X.out];try rfl,C3.out⟩
  ·clear x0 x1 x2 x3 x4 x5 y0 y1 y2 y3 y4 y5
   go_wp2
   go_ret
   exact ⟨by rw [X.out];try rfl,C2.out⟩
 ·go_enter Tryz.func49,Tryz.ntmps49
  go_wp2
  go_ret
  exact ⟨by rw [X.out];try rfl,by rw [←hW1];exact B1.out⟩
end Go.Proofs.YtoopkofekekmoaaGreatDoor
namespace Go.Proofs.YtoopkofekekmoaaGreatDoor
open Go.RowKit Go.Sort
theorem q3prov_any (n:ByteArray) (op:Int) (v gn:ByteArray) (gop:Int) (gv:ByteArray) (w:World):Calls Tryz.prog 102 #[.agg #[.string n,.int .i64 op,.string v],.agg #[.string gn,.int .i64 gop,.string gv]] w fun e' w'=>e'=.returned (.bool (provB (B n) op (B v) (B gn) gop (B gv)))∧Below w.heap.size w w':=by
 have hs:=strings_eq n gn
 have B0:=Lib.hid (show Below w.heap.size w ((w.alloc (.cells #[.string n,.int .i64 op,.string v] 59)).alloc (.cells #[.string gn,.int .i64 gop,.string gv] 59)) from ((Below.refl _ w).alloc (Nat.le_refl _) _).alloc (by simp) _)
 by_cases hn:B n=B gn
 ·rw [decide_eq_true hn] at hs
  by_cases h0:op=0
  ·have X:=Lib.hid (show provB (B n) op (B v) (B gn) gop (B gv)=true by unfold provB;rw [decide_eq_true hn,decide_eq_true h0];rfl)
   have t0:(op==0)=true:=by rw [beq_iff_eq];exact h0
   clear hn h0
   go_enter Tryz.func102,Tryz.ntmps102
   go_wp2
   go_ret
   exact ⟨by rw [X.out];rfl,B0.out⟩
  ·have t0:(op==0)=false:=by rw [beq_eq_false_iff_ne];exact h0
   by_cases h3:gop=3
   ·have X:=Lib.hid (show provB (B n) op (B v) (B gn) gop (B gv)=holdB op (B gv) (B v) by unfold provB;rw [decide_eq_true hn,decide_eq_false h0,decide_eq_true h3];rfl)
    have t3:(gop==3)=true:=by rw [beq_iff_eq];exact h3
    have KH:=Lib.hid (fun w=>q3holds_any op gv v w)
    clear hn h0 h3
    go_enter Tryz.func102,Tryz.ntmps102
    go_wp2_with fail
    refine (KH.out _).mono ?_
    rintro e' w1 ⟨rfl,hb⟩
    have B1:=Lib.hid (bel_2 B0.out hb)
    clear hb
    go_wp2
    go_ret
    exact ⟨by rw [X.out];rfl,B1.out⟩
   ·have X:=Lib.hid (show provB (B n) op (B v) (B gn) gop (B gv)=false by unfold provB;rw [decide_eq_true hn,decide_eq_false h0,decide_eq_false h3];rfl)
    have t3:(gop==3)=false:=by rw [beq_eq_false_iff_ne];exact h3
    clear hn h0 h3
    go_enter Tryz.func102,Tryz.ntmps102
    go_wp2
    go_ret
    exact ⟨by rw [X.out];rfl,B0.out⟩
 ·have X:=Lib.hid (show provB (B n) op (B v) (B gn) gop (B gv)=false by unfold provB;rw [decide_eq_false hn];rfl)
  rw [decide_eq_false hn] at hs
  clear hn
  go_enter Tryz.func102,Tryz.ntmps102
  go_wp2
  go_ret
  exact ⟨by rw [X.out];rfl,B0.out⟩
set_option maxHeartbeats 4000000 in
theorem q6gives_any (x:Ent) (A1:Option Addr) (c1:Nat) (A2:Option Addr) (c2:Nat) (A3:Option Addr) (c3:Nat) (A4:Option Addr) (c4:Nat) (w:World) (hx:EntV w (lt_ w.heap.size) x A1 c1 A2 c2 A3 c3 A4 c4) (hp:x.p.length≤1000) :
  Calls Tryz.prog 101 #[x.val A1 c1 A2 c2 A3 c3 A4 c4] w fun e w'=>(∃A c,e=.returned (.slice A (gvs x).length c)∧rdAtms w' (fun b=>w.heap.size≤b∧b < w'.heap.size) (gvs x) [.slice A (gvs x).length c])∧Below w.heap.size w w':=by
 obtain ⟨n,v,d,r,c,p⟩:=x
 obtain ⟨fi,hi,hz0,hz1,hz2⟩:=info_parts atm_info
 have HP:=Lib.hid hx.p
 obtain ⟨_,hc4,hm4,_⟩:=rdAtms_at hx.p
 have hm4':c4≤9223372036854775807:=hm4
 simp only at hp hc4
 have hq1:1+p.length≤maxLen:=by unfold maxLen;omega
 have hq2:(1+p.length)*40≤140737488355328:=by omega
 obtain ⟨W3,hW3⟩:∃W,W=((w.alloc (.cells #[.string n,.string v,.slice A1 d.length c1,.slice A2 r.length c2,.slice A3 c.length c3,.slice A4 p.length c4] 53)).alloc (.cells #[.string n,.int .i64 3,.string v] 59)):=⟨_,rfl⟩
 have GE:=Lib.hid (show Grow rdAtm 3 (fun _=>True) W3 w.heap.size 59 (.slice (some ⟨w.heap.size+1,0,none⟩) 1 1) [⟨n,3,v⟩] from gr_self (by
  rw [hW3]
  have:=heap_alloc_new (w.alloc (.cells #[.string n,.string v,.slice A1 d.length c1,.slice A2 r.length c2,.slice A3 c.length c3,.slice A4 p.length c4] 53)) (.cells #[.string n,.int .i64 3,.string v] 59)
  rw [World.size_alloc] at this
  exact this) (by omega))
 have B3:=Lib.hid (show Below w.heap.size w W3 by rw [hW3];exact ((Below.refl _ w).alloc (Nat.le_refl _) _).alloc (by simp) _)
 have XE:=Lib.hid (rdAtms_good.below HP.out B3.out)
 have SE:=Lib.hid (show ∀b,lt_ w.heap.size b→True∧b < W3.heap.size∧(Value.slice (some ⟨w.heap.size+1,0,none⟩) 1 1).ownBlock≠some b from fun b hb=>⟨trivial,Nat.lt_of_lt_of_le hb B3.out.size,fun hh=>by simp only [Value.ownBlock,Option.some.injEq] at hh;unfold lt_ at hb;omega⟩)
 have hs3:=Lib.hid B3.out.size
 show Calls Tryz.prog 101 #[.agg #[.string n,.string v,.slice A1 d.length c1,.slice A2 r.length c2,.slice A3 c.length c3,.slice A4 p.length c4]] w _
 clear hx hp hm4
 go_enter Tryz.func101,Tryz.ntmps101
 go_wp2_with (at_builtin;rw [←hW3];refine wpList_growN W3 rfl _ _ 51 51 rfl rdAtm_good (by decide) (fun _=>True) w.heap.size 59 59 fi (.agg #[.string { data:=#[] },.int .i64 0,.string { data:=#[] }]) 40 Tryz.underlying51 Tryz.underlying51 hi hz0 hz1 hz2 rfl _ _ rfl GE.out p _ A4 p.length c4 rfl XE.out SE.out hq1 hq2 hs3.out ?_)
 intro v5 w5 hG5 hg5
 have B5:=Lib.hid (grow_below GE.out (by rw [hW3];exact hg5) B3.out (Nat.le_refl _) hs3.out)
 have R5:=Lib.hid (show rdAtms w5 (fun b=>w.heap.size≤b∧b < w5.heap.size) (gvs ⟨n,v,d,r,c,p⟩) [v5] from by
  have h2:Grow rdAtm 3 (fun _=>False) w5 w.heap.size 59 v5 (gvs ⟨n,v,d,r,c,p⟩):=Grow.flat (fun _ _ _ _ _ h=>h) (show Grow rdAtm 3 (fun _=>True) w5 w.heap.size 59 v5 (gvs ⟨n,v,d,r,c,p⟩) from hG5)
  exact rdAtms_good.more (h2.reads rdAtm_good) fun b hb=>⟨hb.2.resolve_right id,hb.1⟩)
 obtain ⟨A5,c5,hv5,_⟩:=id R5.out
 simp only [List.cons.injEq,and_true] at hv5
 subst hv5
 clear hG5 hg5 GE XE SE hW3
 go_wp2
 go_ret
 exact ⟨⟨A5,c5,rfl,R5.out⟩,B5.out⟩
set_option maxHeartbeats 16000000 in
theorem q6against_any (x y:Ent) (A1:Option Addr) (c1:Nat) (A2:Option Addr) (c2:Nat) (A3:Option Addr) (c3:Nat) (A4:Option Addr) (c4:Nat) (A1y:Option Addr) (c1y:Nat) (A2y:Option Addr) (c2y:Nat) (A3y:Option Addr) (c3y:Nat) (A4y:Option Addr) (c4y:Nat) (w:World) (hx:EntV w (lt_ w.heap.size) x A1 c1 A2 c2 A3 c3 A4 c4) (hy:EntV w (lt_ w.heap.size) y A1y c1y A2y c2y A3y c3y A4y c4y) (hpy:y.p.length≤1000) :
  Calls Tryz.prog 70 #[x.val A1 c1 A2 c2 A3 c3 A4 c4,y.val A1y c1y A2y c2y A3y c3y A4y c4y] w fun e w'=>e=.returned (.bool (brs x y))∧Below w.heap.size w w':=by
 obtain ⟨n,v,d,r,c,p⟩:=x
 have mixed:Tryz.prog.follows .mixedOrders=true:=by kernel_rfl
 have KG:=Lib.hid (fun (W:World) (hb:Below w.heap.size w W)=>q6gives_any y A1y c1y A2y c2y A3y c3y A4y c4y W (hy.on hb) hpy)
 have X:=Lib.hid (show brs ⟨n,v,d,r,c,p⟩ y=c.any (fun k=>(gvs y).any (pvB k)) from rfl)
 obtain ⟨_,hnc,hcm,_⟩:=rdAtms_at hx.c
 have hcm':c3≤9223372036854775807:=hcm
 have HC:=Lib.hid hx.c
 obtain ⟨ny,vy,dy,ry,cy,py⟩:=y
 generalize gvs (⟨ny,vy,dy,ry,cy,py⟩:Ent)=g at *
 generalize brs ⟨n,v,d,r,c,p⟩ ⟨ny,vy,dy,ry,cy,py⟩=bb at *
 show Calls Tryz.prog 70 #[.agg #[.string n,.string v,.slice A1 d.length c1,.slice A2 r.length c2,.slice A3 c.length c3,.slice A4 p.length c4],.agg #[.string ny,.string vy,.slice A1y dy.length c1y,.slice A2y ry.length c2y,.slice A3y cy.length c3y,.slice A4y py.length c4y]] w _
 obtain ⟨W1,hW1⟩:∃W,W=((w.alloc (.cells #[.string n,.string v,.slice A1 d.length c1,.slice A2 r.length c2,.slice A3 c.length c3,.slice A4 p.length c4] 53)).alloc (.cells #[.string ny,.string vy,.slice A1y dy.length c1y,.slice A2y ry.length c2y,.slice A3y cy.length c3y,.slice A4y py.length c4y] 53)):=⟨_,rfl⟩
 have B1:=Lib.hid (show Below w.heap.size w W1 by rw [hW1];exact ((Below.refl _ w).alloc (Nat.le_refl _) _).alloc (by simp) _)
 have KX:=Lib.hid (fun (W:World) (hb:Below W1.heap.size W1 W)=>(show W.cell? ⟨w.heap.size,0,none⟩=some (.string n)∧W.cell? ⟨w.heap.size,1,none⟩=some (.string v)∧W.cell? ⟨w.heap.size,2,none⟩=some (.slice A1 d.length c1)∧W.cell? ⟨w.heap.size,3,none⟩=some (.slice A2 r.length c2)∧W.cell? ⟨w.heap.size,4,none⟩=some (.slice A3 c.length c3)∧W.cell? ⟨w.heap.size,5,none⟩=some (.slice A4 p.length c4)∧W.cell? ⟨w.heap.size+1,0,none⟩=some (.string ny)∧W.cell? ⟨w.heap.size+1,1,none⟩=some (.string vy)∧W.cell? ⟨w.heap.size+1,2,none⟩=some (.slice A1y dy.length c1y)∧W.cell? ⟨w.heap.size+1,3,none⟩=some (.slice A2y ry.length c2y)∧W.cell? ⟨w.heap.size+1,4,none⟩=some (.slice A3y cy.length c3y)∧W.cell? ⟨w.heap.size+1,5,none⟩=some (.slice A4y py.length c4y) from by
  refine ⟨?_,?_,?_,?_,?_,?_,?_,?_,?_,?_,?_,?_⟩<;>exact keep6 hb (by rw [hW1];simp [go_sem])))
 clear hx hy hpy hcm
 obtain ⟨x0,x1,x2,x3,x4,x5,y0,y1,y2,y3,y4,y5⟩:=KX.out _ (Below.refl _ _)
 go_enter Tryz.func70,Tryz.ntmps70
 go_wp2_with fail
 rw [←hW1]
 clear hW1
 go_wp2_with fail
 refine (KG.out _ B1.out).mono ?_
 rintro e w2 ⟨⟨Ag,cg,rfl,hg⟩,hb⟩
 clear x0 x1 x2 x3 x4 x5 y0 y1 y2 y3 y4 y5
 obtain ⟨-,hgc,hgm,-⟩:=rdAtms_at hg
 have hgm':cg≤9223372036854775807:=hgm
 have HG:=Lib.hid (fun (W:World) (hB:Below w2.heap.size w2 W)=>(rdAtms_at (rdAtms_good.both hg (fun k hk=>hB.block k hk.2) (fun k hk=>hk))).2.2.2)
 have B2:=Lib.hid (B1.out.trans (hb.mono B1.out.size))
 have HX:=Lib.hid (fun (W:World) (hB:Below w2.heap.size w2 W)=>(KX.out W (hb.trans (hB.mono hb.size))).2.2.2.2.1)
 have HCC:=Lib.hid (fun (W:World) (hB:Below w2.heap.size w2 W)=>(rdAtms_at (rdAtms_good.below HC.out (B2.out.trans (hB.mono B2.out.size)))).2.2.2)
 clear hb hg hgm KX KG
 go_wp2
 go_loopw [6] (fun i wr=>∃k:Nat,k≤c.length∧i=.int .i64 k∧Hid ((c.take k).any (fun k=>g.any (pvB k))=false)∧Below w2.heap.size w2 wr) (fun i _=>c.length - (intOf i).toNat)
 case atStart=>exact ⟨0,Nat.zero_le _,rfl,Lib.hid rfl,Below.refl _ _⟩
 case round=>
  obtain ⟨k,hk,rfl,HA,hbel⟩:=hrel
  have HB:=Lib.hid hbel
  clear hbel
  have xc:=HX.out wr HB.out
  by_cases hlt:k < c.length
  ·have ST:=Lib.hid (fun hf=>none_step6 (f:=fun k=>g.any (pvB k)) hlt HA.out hf)
   have SP:=Lib.hid (fun hf=>any_stop6 (f:=fun k=>g.any (pvB k)) hlt hf)
   obtain ⟨adc,ec,-,-⟩:=HCC.out wr HB.out k hlt
   have i0:(0:Int)≤(k:Int):=by omega
   have i1:(k:Int) < (c.length:Int):=by omega
   obtain ⟨wo,hwo⟩:∃W,W=wr:=⟨_,rfl⟩
   rw [←hwo] at HB xc ⊢
   clear hwo
   subst ec
   generalize hak:c[k]=ak at *
   have HAK:=Lib.hid hak
   clear HA hak
   go_wp2
   go_loopw [7] (fun i wr=>∃j:Nat,j≤g.length∧i=.int .i64 j∧Hid ((g.take j).any (pvB ak)=false)∧Below w2.heap.size w2 wr) (fun i _=>g.length - (intOf i).toNat)
   case atStart=>exact ⟨0,Nat.zero_le _,rfl,Lib.hid rfl,HB.out⟩
   case round=>
    obtain ⟨j,hj,rfl,HA,hbel⟩:=hrel
    have HBI:=Lib.hid hbel
    clear hbel xc
    by_cases hjl:j < g.length
    ·have ST2:=Lib.hid (fun hf=>none_step6 (f:=pvB ak) hjl HA.out hf)
     have SP2:=Lib.hid (fun hf=>any_stop6 (f:=pvB ak) hjl hf)
     obtain ⟨adc',ec,-,c0,c1,c2⟩:=HCC.out wr HBI.out k hlt
     obtain rfl:adc=adc':=Option.some.inj ec
     obtain ⟨adg,rfl,-,g0,g1,g2⟩:=HG.out wr HBI.out j hjl
     rw [HAK.out] at c0 c1 c2
     have j0:(0:Int)≤(j:Int):=by omega
     have j1:(j:Int) < (g.length:Int):=by omega
     have xc:=fun dd os=>cell_regrown (w:=wr) (HX.out wr HBI.out) dd os
     have xc0:=fun dd os=>cell_regrown (w:=wr) c0 dd os
     have xc1:=fun dd os=>cell_regrown (w:=wr) c1 dd os
     have xc2:=fun dd os=>cell_regrown (w:=wr) c2 dd os
     have xg0:=fun dd os=>cell_regrown (w:=wr) g0 dd os
     have xg1:=fun dd os=>cell_regrown (w:=wr) g1 dd os
     have xg2:=fun dd os=>cell_regrown (w:=wr) g2 dd os
     have BD:=Lib.hid (fun dd os=>bel_in HBI.out (below_regrown wr dd os))
     have K1:=Lib.hid (fun dd os=>q3prov_any ak.n ak.o ak.v g[j].n g[j].o g[j].v (grow (redrawn wr dd) os))
     have PV:=Lib.hid (show provB (B ak.n) ak.o (B ak.v) (B g[j].n) g[j].o (B g[j].v)=pvB ak g[j] from rfl)
     generalize provB (B ak.n) ak.o (B ak.v) (B g[j].n) g[j].o (B g[j].v)=q at *
     generalize g[j]=gj at *
     obtain ⟨an,ao,av⟩:=ak
     obtain ⟨bn,bo,bv⟩:=gj
     simp only at c0 c1 c2 g0 g1 g2 xc0 xc1 xc2 xg0 xg1 xg2 K1
     clear ec c0 c1 c2 g0 g1 g2 HA
     go_wp2_with fail
     refine wp_region_quiet_below mixed (by kernel_rfl) ?_
     repeat (go_big_quiet_step (first|(go_at_call 102;refine Calls.regrown_of (K1.out _ _))))
     refine wpQuiet_nil ?_
     intro W3 hw3
     have BW3:=Lib.hid (show Below w2.heap.size w2 W3 from by obtain ⟨pp,e⟩:=hw3;rw [e];exact BD.out pp.d pp.os)
     clear hw3 BD xc xc0 xc1 xc2 xg0 xg1 xg2 K1
     cases q
     ·have NX:=Lib.hid (ST2.out PV.out.symm)
      go_wp2
      go_roundw
      case rel=>exact ⟨j+1,by omega,by go_num,NX,BW3.out⟩
      case measure=>simp [intOf];omega
     ·have XX:=Lib.hid (show bb=true by rw [X.out];exact SP.out (SP2.out PV.out.symm))
      go_wp2
      go_ret
      exact ⟨by rw [XX.out];try rfl,bel_in B2.out BW3.out⟩
    ·obtain rfl:j=g.length:=by omega
     have j0:¬(g.length:Int) < (g.length:Int):=by omega
     have NX:=Lib.hid (ST.out (by have:=HA.out;rwa [List.take_length] at this))
     go_wp2
     go_roundw
     case rel=>exact ⟨k+1,by omega,by go_num,NX,HBI.out⟩
     case measure=>simp [intOf];omega
  ·obtain rfl:k=c.length:=by omega
   have i0:¬(c.length:Int) < (c.length:Int):=by omega
   have XX:=Lib.hid (show bb=false by rw [X.out];have:=HA.out;rwa [List.take_length] at this)
   go_wp2
   go_ret
   exact ⟨by rw [XX.out];try rfl,bel_in B2.out HB.out⟩
set_option maxHeartbeats 8000000 in
theorem q6fights_any (x y:Ent) (A1:Option Addr) (c1:Nat) (A2:Option Addr) (c2:Nat) (A3:Option Addr) (c3:Nat) (A4:Option Addr) (c4:Nat) (A1y:Option Addr) (c1y:Nat) (A2y:Option Addr) (c2y:Nat) (A3y:Option Addr) (c3y:Nat) (A4y:Option Addr) (c4y:Nat) (w:World) (hx:EntV w (lt_ w.heap.size) x A1 c1 A2 c2 A3 c3 A4 c4) (hy:EntV w (lt_ w.heap.size) y A1y c1y A2y c2y A3y c3y A4y c4y) (hpx:x.p.length≤1000) (hpy:y.p.length≤1000) :
  Calls Tryz.prog 50 #[x.val A1 c1 A2 c2 A3 c3 A4 c4,y.val A1y c1y A2y c2y A3y c3y A4y c4y] w fun e w'=>e=.returned (.bool (fgt x y))∧Below w.heap.size w w':=by
 have KA:=Lib.hid (fun (W:World) (hb:Below w.heap.size w W)=>q6against_any x y A1 c1 A2 c2 A3 c3 A4 c4 A1y c1y A2y c2y A3y c3y A4y c4y W (hx.on hb) (hy.on hb) hpy)
 have KB:=Lib.hid (fun (W:World) (hb:Below w.heap.size w W)=>q6against_any y x A1y c1y A2y c2y A3y c3y A4y c4y A1 c1 A2 c2 A3 c3 A4 c4 W (hy.on hb) (hx.on hb) hpx)
 have X:=Lib.hid (show fgt x y=(!decide (x.n=y.n)&&(brs x y||brs y x)) from rfl)
 have he:(x.n.toList==y.n.toList)=decide (x.n=y.n):=str_eq _ _
 generalize brs x y=b1 at *
 generalize brs y x=b2 at *
 generalize decide (x.n=y.n)=b0 at *
 generalize fgt x y=b at *
 obtain ⟨n,v,d,r,c,p⟩:=x
 obtain ⟨ny,vy,dy,ry,cy,py⟩:=y
 show Calls Tryz.prog 50 #[.agg #[.string n,.string v,.slice A1 d.length c1,.slice A2 r.length c2,.slice A3 c.length c3,.slice A4 p.length c4],.agg #[.string ny,.string vy,.slice A1y dy.length c1y,.slice A2y ry.length c2y,.slice A3y cy.length c3y,.slice A4y py.length c4y]] w _
 simp only at he
 obtain ⟨W1,hW1⟩:∃W,W=((w.alloc (.cells #[.string n,.string v,.slice A1 d.length c1,.slice A2 r.length c2,.slice A3 c.length c3,.slice A4 p.length c4] 53)).alloc (.cells #[.string ny,.string vy,.slice A1y dy.length c1y,.slice A2y ry.length c2y,.slice A3y cy.length c3y,.slice A4y py.length c4y] 53)):=⟨_,rfl⟩
 have B1:=Lib.hid (show Below w.heap.size w W1 by rw [hW1];exact ((Below.refl _ w).alloc (Nat.le_refl _) _).alloc (by simp) _)
 have KX:=Lib.hid (fun (W:World) (hb:Below W1.heap.size W1 W)=>(show W.cell? ⟨w.heap.size,0,none⟩=some (.string n)∧W.cell? ⟨w.heap.size,1,none⟩=some (.string v)∧W.cell? ⟨w.heap.size,2,none⟩=some (.slice A1 d.length c1)∧W.cell? ⟨w.heap.size,3,none⟩=some (.slice A2 r.length c2)∧W.cell? ⟨w.heap.size,4,none⟩=some (.slice A3 c.length c3)∧W.cell? ⟨w.heap.size,5,none⟩=some (.slice A4 p.length c4)∧W.cell? ⟨w.heap.size+1,0,none⟩=some (.string ny)∧W.cell? ⟨w.heap.size+1,1,none⟩=some (.string vy)∧W.cell? ⟨w.heap.size+1,2,none⟩=some (.slice A1y dy.length c1y)∧W.cell? ⟨w.heap.size+1,3,none⟩=some (.slice A2y ry.length c2y)∧W.cell? ⟨w.heap.size+1,4,none⟩=some (.slice A3y cy.length c3y)∧W.cell? ⟨w.heap.size+1,5,none⟩=some (.slice A4y py.length c4y) from by
  refine ⟨?_,?_,?_,?_,?_,?_,?_,?_,?_,?_,?_,?_⟩<;>exact keep6 hb (by rw [hW1];simp [go_sem])))
 clear hx hy hpx hpy
 obtain ⟨x0,x1,x2,x3,x4,x5,y0,y1,y2,y3,y4,y5⟩:=KX.out _ (Below.refl _ _)
 go_enter Tryz.func50,Tryz.ntmps50
 go_wp2_with fail
 rw [←hW1]
 clear hW1
 go_wp2_with fail
 refine (KA.out _ B1.out).mono ?_
 clear x0 x1 x2 x3 x4 x5 y0 y1 y2 y3 y4 y5
 rintro e w2 ⟨rfl,hb⟩
 have C2:=Lib.hid (B1.out.trans (hb.mono B1.out.size))
 have BX2:=Lib.hid hb
 obtain ⟨x0,x1,x2,x3,x4,x5,y0,y1,y2,y3,y4,y5⟩:=KX.out _ hb
 clear hb
 go_wp2_with fail
 refine (KB.out _ C2.out).mono ?_
 clear x0 x1 x2 x3 x4 x5 y0 y1 y2 y3 y4 y5
 rintro e w3 ⟨rfl,hb⟩
 have C3:=Lib.hid (C2.out.trans (hb.mono C2.out.size))
 obtain ⟨x0,x1,x2,x3,x4,x5,y0,y1,y2,y3,y4,y5⟩:=KX.out _ (BX2.out.trans (hb.mono BX2.out.size))
 clear hb x1 x2 x3 x4 x5 y1 y2 y3 y4 y5
 cases b0
 ·cases b1
  ·go_wp2
   go_ret
   exact ⟨by rw [X.out];try rfl,C3.out⟩
  ·go_wp2
   go_ret
   exact ⟨by rw [X.out];try rfl,C3.out⟩
 ·go_wp2
  go_ret
  exact ⟨by rw [X.out];try rfl,C3.out⟩
def rwF (x:Ent) (i:Nat):List Ent→Nat→List (Int × Int)
 | [],_=>[]
 | y::r,k=>if fgt x y=true then ((i:Int),(k:Int))::rwF x i r (k+1) else rwF x i r (k+1)
def fgU:List Ent→Nat→List (Int × Int)
 | [],_=>[]
 | x::r,i=>rwF x i r (i+1)++fgU r (i+1)
theorem rwF_len (x:Ent) (i:Nat):∀(r:List Ent) (k:Nat),(rwF x i r k).length≤r.length
 | [],_=>Nat.le_refl _
 | y::r,k=>by
  have ih:=rwF_len x i r (k+1)
  unfold rwF
  split
  ·rw [List.length_cons,List.length_cons];omega
  ·rw [List.length_cons];omega
theorem fgU_len:∀(L:List Ent) (i:Nat),(fgU L i).length≤L.length*L.length
 | [],_=>Nat.le_refl _
 | x::r,i=>by
  have h1:=rwF_len x i r (i+1)
  have h2:=fgU_len r (i+1)
  unfold fgU
  rw [List.length_append,List.length_cons,Nat.succ_mul,Nat.mul_succ];omega
theorem rwF_step {x:Ent} {i:Nat} {L:List Ent} {j:Nat} (h:j < L.length):(fgt x L[j]=true→rwF x i (L.drop j) j=((i:Int),(j:Int))::rwF x i (L.drop (j+1)) (j+1))∧(fgt x L[j]=false→rwF x i (L.drop j) j=rwF x i (L.drop (j+1)) (j+1)):=by
 rw [List.drop_eq_getElem_cons h]
 exact ⟨fun q=>by rw [rwF,if_pos q],fun q=>by rw [rwF,if_neg (by rw [q];decide)]⟩
theorem fgU_step {L:List Ent} {k:Nat} (h:k < L.length):fgU (L.drop k) k=rwF L[k] k (L.drop (k+1)) (k+1)++fgU (L.drop (k+1)) (k+1):=by
 rw [List.drop_eq_getElem_cons h,fgU]
theorem pr9_info:(Tryz.prog.info? 81).map (fun i=>(i.zero,i.size,i.bytes))=some (some (.agg #[.int .i64 0,.int .i64 0]),2,16):=by kernel_rfl
set_option maxHeartbeats 16000000 in
theorem q9fights_any (b:Nat) (L:List Ent) (m:List Hr) (w:World) (h:UR w b L m) (hl:L.length≤200) (hp:∀x ∈ L,x.p.length≤1000) :
  Calls Tryz.prog 27 #[.pointer (some ⟨b,0,none⟩)] w fun e w'=>(∃A c,e=.returned (.slice A (fgU L 0).length c)∧rdPrs w' (lt_ w'.heap.size) (fgU L 0) [.slice A (fgU L 0).length c])∧Below w.heap.size w w':=by
 have mixed:Tryz.prog.follows .mixedOrders=true:=by kernel_rfl
 obtain ⟨fi,hi,hz0,hz1,hz2⟩:=info_parts pr9_info
 obtain ⟨A,c,A',c',h1,-,h3,-⟩:=h
 obtain ⟨-,hnc,hcm,-⟩:=rdEnts_at h3
 have hcm':c≤9223372036854775807:=hcm
 have b0:=h1
 have H1:=Lib.hid h1
 have HH:=Lib.hid (fun (W:World) (hb:Below w.heap.size w W)=>(rdEnts_at (rdEnts_good.both (w':=W) (S':=lt_ W.heap.size) h3 (fun k hk=>hb.block k hk.1) (fun k hk=>Nat.lt_of_lt_of_le hk.1 hb.size))).2.2.2)
 have HP:=Lib.hid hp
 clear h1 h3 hp
 have TL:=Lib.hid (show (fgU L 0).length≤100000 from Nat.le_trans (fgU_len L 0) (Nat.le_trans (Nat.mul_le_mul hl hl) (by decide)))
 obtain ⟨T,hT⟩:∃T,T=fgU L 0:=⟨_,rfl⟩
 rw [←hT] at TL ⊢
 have HT:=Lib.hid hT
 clear hT hcm
 go_enter Tryz.func27,Tryz.ntmps27
 go_wp2
 go_loopw [3,4] (fun v i wr=>∃k:Nat,k≤L.length∧i=.int .i64 k∧(∃g,Grow rdPr 2 (fun _=>True) wr w.heap.size 81 v g∧Hid (g++fgU (L.drop k) k=T))∧Below w.heap.size w wr) (fun _ i _=>L.length - (intOf i).toNat)
 case atStart=>exact ⟨0,Nat.zero_le _,rfl,⟨[],Grow.nil _ _ _ _,Lib.hid HT.out.symm⟩,Below.refl _ _⟩
 case round=>
  obtain ⟨k,hk,rfl,⟨g,hG,HI⟩,hbel⟩:=hrel
  have HB:=Lib.hid hbel
  clear b0
  have b0:=(show wr.cell? ⟨b,0,none⟩=some (.slice A L.length c) from keep6 hbel H1.out)
  clear hbel
  by_cases hlt:k < L.length
  ·have i0:(0:Int)≤(k:Int):=by omega
   have i1:(k:Int) < (L.length:Int):=by omega
   have IV:=Lib.hid (show Hid (g++(rwF L[k] k (L.drop (k+1)) (k+1)++fgU (L.drop (k+1)) (k+1))=T) from by rw [←fgU_step hlt];exact HI)
   have HGG:=Lib.hid hG
   have PX:=Lib.hid (HP.out _ (List.getElem_mem hlt))
   generalize hX0:L[k]=X0 at IV PX
   have HX0:=Lib.hid hX0
   clear hX0
   obtain ⟨wo,hwo⟩:∃W,W=wr:=⟨_,rfl⟩
   rw [←hwo] at HB b0 HGG ⊢
   clear hwo hG HI
   have k1:IntKind.i64.wrap ((k:Int)+1)=(k:Int)+1:=IntWalk.i64_in _ (by omega)
   go_wp2
   go_loopw [3,5] (fun v i wr=>∃j:Nat,j≤L.length∧i=.int .i64 j∧(∃g,Grow rdPr 2 (fun _=>True) wr w.heap.size 81 v g∧Hid (g++(rwF X0 k (L.drop j) j++fgU (L.drop (k+1)) (k+1))=T))∧Below w.heap.size w wr) (fun _ i _=>L.length - (intOf i).toNat)
   case atStart=>exact ⟨k+1,by omega,by first|rfl|go_num,⟨g,HGG.out,IV.out⟩,HB.out⟩
   case round=>
    obtain ⟨j,hj,rfl,⟨g,hG,HI⟩,hbel⟩:=hrel
    have HBI:=Lib.hid hbel
    clear b0
    have b0:=(show wr.cell? ⟨b,0,none⟩=some (.slice A L.length c) from keep6 hbel H1.out)
    clear hbel
    by_cases hjl:j < L.length
    ·obtain ⟨ad,A1,c1,A2,c2,A3,c3,A4,c4,ea,-,hv,g0,g1,g2,g3,g4,g5⟩:=HH.out wr HBI.out k hlt
     obtain ⟨ad',D1,d1,D2,d2,D3,d3,D4,d4,ea',-,hv',q0,q1,q2,q3,q4,q5⟩:=HH.out wr HBI.out j hjl
     obtain rfl:ad=ad':=Option.some.inj (ea.symm.trans ea')
     subst ea
     rw [HX0.out] at hv g0 g1 g2 g3 g4 g5
     have j0:(0:Int)≤(j:Int):=by omega
     have j1:(j:Int) < (L.length:Int):=by omega
     have ST:=Lib.hid (rwF_step (x:=X0) (i:=k) hjl)
     have GL:=Lib.hid (show g.length≤100000 from Nat.le_trans (by have:=congrArg List.length HI.out;rw [List.length_append] at this;omega) TL.out)
     have K1:=Lib.hid (fun dd os=>q6fights_any X0 L[j] A1 c1 A2 c2 A3 c3 A4 c4 D1 d1 D2 d2 D3 d3 D4 d4 (grow (redrawn wr dd) os) (hv.on (below_regrown wr dd os)) (hv'.on (below_regrown wr dd os)) PX.out (HP.out _ (List.getElem_mem hjl)))
     have BD:=Lib.hid (fun dd os=>bel_in HBI.out (below_regrown wr dd os))
     have xb:=fun dd os=>cell_regrown (w:=wr) b0 dd os
     have x0:=fun dd os=>cell_regrown (w:=wr) g0 dd os
     have y0:=fun dd os=>cell_regrown (w:=wr) q0 dd os
     have x1:=fun dd os=>cell_regrown (w:=wr) g1 dd os
     have y1:=fun dd os=>cell_regrown (w:=wr) q1 dd os
     have x2:=fun dd os=>cell_regrown (w:=wr) g2 dd os
     have y2:=fun dd os=>cell_regrown (w:=wr) q2 dd os
     have x3:=fun dd os=>cell_regrown (w:=wr) g3 dd os
     have y3:=fun dd os=>cell_regrown (w:=wr) q3 dd os
     have x4:=fun dd os=>cell_regrown (w:=wr) g4 dd os
     have y4:=fun dd os=>cell_regrown (w:=wr) q4 dd os
     have x5:=fun dd os=>cell_regrown (w:=wr) g5 dd os
     have y5:=fun dd os=>cell_regrown (w:=wr) q5 dd os
     have HGG:=Lib.hid (fun (W:World) (hb:Below wr.heap.size wr W)=>hG.below rdPr_good hb)
     have BW:=Lib.hid (fun dd os=>below_regrown wr dd os)
     generalize hF:fgt X0 L[j]=F at *
     clear ea' hv hv' g0 g1 g2 g3 g4 g5 q0 q1 q2 q3 q4 q5 hG
     generalize hy:L[j]=Y at y0 y1 y2 y3 y4 y5 K1
     obtain ⟨ny,vy,dy,ry,cy,py⟩:=Y
     simp only at y0 y1 y2 y3 y4 y5 K1
     clear hy
     go_wp2_with fail
     refine wp_region_quiet_below mixed (by kernel_rfl) ?_
     repeat (go_big_quiet_step (first|(go_at_call 50;refine Calls.regrown_of (K1.out _ _))))
     refine wpQuiet_nil ?_
     intro W3 hw3
     have B3:=Lib.hid (show Below w.heap.size w W3 from by obtain ⟨pp,e⟩:=hw3;rw [e];exact BD.out pp.d pp.os)
     have G3:=Lib.hid (show Grow rdPr 2 (fun _=>True) W3 w.heap.size 81 u3 g from HGG.out W3 (by obtain ⟨pp,e⟩:=hw3;rw [e];exact BW.out pp.d pp.os))
     clear hw3 BD BW HGG b0 xb x0 x1 x2 x3 x4 x5 y0 y1 y2 y3 y4 y5 K1
     cases F
     ·have NX:=Lib.hid (show Hid (g++(rwF X0 k (L.drop (j+1)) (j+1)++fgU (L.drop (k+1)) (k+1))=T) from by rw [←ST.out.2 rfl];exact HI)
      go_wp2
      go_roundw
      case rel=>exact ⟨j+1,by omega,by go_num,⟨g,G3.out,NX.out⟩,B3.out⟩
      case measure=>simp [intOf];omega
     ·have NX:=Lib.hid (show Hid (g++[((k:Int),(j:Int))]++(rwF X0 k (L.drop (j+1)) (j+1)++fgU (L.drop (k+1)) (k+1))=T) from by
       have:=HI.out
       rw [ST.out.1 rfl] at this
       rw [List.append_assoc,List.singleton_append];exact this)
      have hE:=(show rdPr W3 (fun b=>True∧b < W3.heap.size∧u3.ownBlock≠some b) ((k:Int),(j:Int)) (#[Value.int .i64 (k:Int),Value.int .i64 (j:Int)]:Array Value).toList from rfl)
      have hn1:g.length+1≤maxLen:=by have:=GL.out;unfold maxLen;omega
      have hn2:(g.length+1)*16≤140737488355328:=by have:=GL.out;omega
      have hbs3:w.heap.size≤W3.heap.size:=B3.out.size
      have hG3:=G3.out
      clear hF
      go_wp2_with (at_builtin;refine wpList_grow1 W3 rfl _ _ 47 rfl rdPr_good (by decide) (fun _=>True) w.heap.size 81 fi _ 16 Tryz.underlying47 hi hz0 hz1 hz2 rfl u3 g rfl hG3 ((k:Int),(j:Int)) _ 81 hE _ rfl rfl hn1 hn2 hbs3 ?_)
      intro v' w' hG' hgr
      have G4:=Lib.hid hG'
      have B4:=Lib.hid (grow_below hG3 hgr B3.out (Nat.le_refl _) hbs3)
      clear hG3 hgr hE hG' G3
      go_wp2
      go_roundw
      case rel=>exact ⟨j+1,by omega,by go_num,⟨_,G4.out,NX.out⟩,B4.out⟩
      case measure=>simp [intOf];omega
    ·obtain rfl:j=L.length:=by omega
     have j0:¬(L.length:Int) < (L.length:Int):=by omega
     have NX:=Lib.hid (show Hid (g++fgU (L.drop (k+1)) (k+1)=T) from by have:=HI.out;rw [List.drop_length] at this;exact this)
     have G4:=Lib.hid hG
     clear hG
     go_wp2
     go_roundw
     case rel=>exact ⟨k+1,by omega,by go_num,⟨g,G4.out,NX.out⟩,HBI.out⟩
     case measure=>simp [intOf];omega
  ·obtain rfl:k=L.length:=by omega
   have i0:¬(L.length:Int) < (L.length:Int):=by omega
   obtain rfl:g=T:=by have:=HI.out;rw [List.drop_length] at this;simpa [fgU] using this
   have RD:=Lib.hid (hG.read rdPr_good)
   obtain ⟨Av,cv,hv6,-,-⟩:=hG.own
   subst hv6
   clear hG
   go_wp2
   go_ret
   exact ⟨⟨Av,cv,rfl,RD.out⟩,HB.out⟩
end Go.Proofs.YtoopkofekekmoaaGreatDoor
