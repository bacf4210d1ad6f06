/- What the laws rest on: E6e, RelP, DepP, E6f, Deep4, Deep3, E6k, E7c, E9p, E9q, E7b, E7d. -/
import Derived.RegionTactic
import Derived.Laws.OwnMore
import Derived.Test.YtoopkofekekmoaaGreatDoorQAEZB
set_option maxRecDepth 100000
set_option linter.unusedVariables false
set_option linter.unusedSimpArgs false
namespace Go.Proofs.YtoopkofekekmoaaGreatDoor
open Go.RowKit
def giv6 (a:Atm):Bool:=a.o==0||a.o==3
def givs6 (l:List Atm):Bool:=l.all giv6
theorem all_step6 {α:Type} {f:α→Bool} {l:List α} {k:Nat} (h:k < l.length) (ha:(l.take k).all f=true) (hf:f l[k]=true):(l.take (k+1)).all f=true:=by
 rw [List.take_succ_eq_append_getElem h,List.all_append,ha];simp [hf]
theorem all_stop6 {α:Type} {f:α→Bool} {l:List α} {k:Nat} (h:k < l.length) (hf:f l[k]=false):l.all f=false:=by
 rw [List.all_eq_false];exact ⟨_,List.getElem_mem h,by rw [hf];simp⟩
set_option maxHeartbeats 8000000 in
theorem q6given_any (A:Option Addr) (n c:Nat) (l:List Atm) (w:World) (h:rdAtms w (lt_ w.heap.size) l [.slice A n c]) :
  Calls Tryz.prog 66 #[.slice A n c] w fun e w'=>e=.returned (.bool (givs6 l))∧w=w':=by
 obtain ⟨rfl,hnc,hcm,hat⟩:=rdAtms_at h
 have hcm':c≤9223372036854775807:=hcm
 have HAT:=Lib.hid hat
 clear h hat hcm
 go_enter Tryz.func66,Tryz.ntmps66
 go_wp2
 go_loop [3] (fun i=>∃k:Nat,k≤l.length∧i=.int .i64 k∧(l.take k).all giv6=true) (fun i=>l.length - (intOf i).toNat)
 case atStart=>exact ⟨0,Nat.zero_le _,rfl,rfl⟩
 case round=>
  obtain ⟨k,hk,rfl,hall⟩:=hrel
  have HA:=Lib.hid hall
  clear hall
  by_cases hlt:k < l.length
  ·obtain ⟨ad,rfl,had,h0,h1,h2⟩:=HAT.out k hlt
   have i0:(0:Int)≤(k:Int):=by omega
   have i1:(k:Int) < (l.length:Int):=by omega
   have ST:=Lib.hid (fun hf=>all_step6 (f:=giv6) hlt HA.out hf)
   have SP:=Lib.hid (fun hf=>all_stop6 (f:=giv6) hlt hf)
   have G:=Lib.hid (show giv6 l[k]=(l[k].o==0||l[k].o==3) from rfl)
   clear had h0 h2
   generalize l[k]=x at *
   rcases (by
    by_cases g0:x.o=0
    ·exact .inl g0
    ·by_cases g3:x.o=3
     ·exact .inr (.inl ⟨g0,g3⟩)
     ·exact .inr (.inr ⟨g0,g3⟩):x.o=0∨(x.o≠0∧x.o=3)∨(x.o≠0∧x.o≠3)) with g|⟨g,g'⟩|⟨g,g'⟩
   ·have t1:(x.o != 0)=false:=by rw [g];rfl
    have NX:=Lib.hid (ST.out (by rw [G.out,g];rfl))
    clear g
    go_wp2
    go_round
    case rel=>exact ⟨k+1,by omega,by go_num,NX.out⟩
    case measure=>simp [intOf];omega
   ·have t1:(x.o != 0)=true:=by rw [g'];rfl
    have t2:(x.o != 3)=false:=by rw [g'];rfl
    have NX:=Lib.hid (ST.out (by rw [G.out,g'];rfl))
    clear g g'
    go_wp2
    go_round
    case rel=>exact ⟨k+1,by omega,by go_num,NX.out⟩
    case measure=>simp [intOf];omega
   ·have t1:(x.o != 0)=true:=by rw [bne_iff_ne];exact g
    have t2:(x.o != 3)=true:=by rw [bne_iff_ne];exact g'
    have XX:=Lib.hid (show givs6 l=false from SP.out (by rw [G.out,beq_eq_false_iff_ne.2 g,beq_eq_false_iff_ne.2 g'];rfl))
    clear g g'
    go_wp2
    go_ret
    exact ⟨by rw [XX.out];try rfl,rfl⟩
  ·obtain rfl:k=l.length:=by omega
   have FIN:=Lib.hid (show givs6 l=true by have:=HA.out;rw [List.take_length] at this;exact this)
   go_wp2
   go_ret
   exact ⟨by rw [FIN.out];try rfl,rfl⟩
def thr (n v:ByteArray) (y:Ent):Bool:=decide (y.n=n)&&decide (y.v=v)
def thB (l:List Ent) (x:Ent):Bool:=l.any (thr x.n x.v)
def plnB (c:Nat):Bool:=decide (97≤c∧c≤122)||digB c
def nmcB (c:Nat):Bool:=plnB c||decide (c=43)||decide (c=45)||decide (c=46)
def nameB (l:List Nat):Bool:=decide (2≤l.length)&&decide (l.length≤40)&&plnB (l.getD 0 0)&&l.all nmcB
def signL (op:Int):List Nat:=if op=1 then [60,60] else if op=2 then [60,61] else if op=3 then [61] else if op=4 then [62,61] else if op=5 then [62,62] else []
def prB (l:List Nat):Bool:=decide (parseE l=0)&&decide (printL (parse1 l) (parse2 l) (parse3 l)=l)
def rightA (n:List Nat) (op:Int) (v:List Nat):Bool:=nameB n&&(if op=0 then decide (v=[]) else decide (1≤op∧op≤5)&&prB v)
def opB (op c:Int):Bool:=if op=1 then decide (c < 0) else if op=2 then decide (c≤0) else if op=3 then decide (c=0) else if op=4 then decide (0≤c) else if op=5 then decide (0 < c) else false
def holdB (op:Int) (a b:List Nat):Bool:=decide (op=0)||(decide (parseE a=0)&&decide (parseE b=0)&&opB op (orderV a b))
def rgt (a:Atm):Bool:=rightA (B a.n) a.o (B a.v)
def rgtOne (g:List Atm):Bool:=decide (1≤g.length)&&decide (g.length≤6)&&g.all rgt
def rightG (L:List (List Atm)):Bool:=decide (L.length≤12)&&L.all rgtOne
theorem printL_lt6 (e:Int) (u r:ByteArray):∀c ∈ printL e (B u) (B r),c < 256:=by
 unfold printL
 split
 ·exact textL_lt _ u r
 ·intro c hc;cases hc
set_option maxHeartbeats 2000000 in
theorem q6plain_any (s:ByteArray) (w:World):Calls Tryz.prog 63 #[.string s] w fun e' w'=>e'=.returned (.bool (prB (B s)))∧Below w.heap.size w w':=by
 obtain ⟨ep,e,U,R,h1,h2,h3,h4,z2,z3,cp⟩:=parse_opened s
 have X:prB (B s)=(decide (e=0)&&decide (printL ep (B U) (B R)=B s)):=by unfold prB;rw [h1,h2,h3,h4]
 have CP:=Lib.hid (cp)
 have CT:=Lib.hid (fun w=>print_any ep U R w (by omega) (by omega))
 have hst:=strEq (printL ep (B U) (B R)) s (printL_lt6 ep U R)
 clear cp h1 h2 h3 h4
 by_cases he:e=0
 ·have t1:(e==0)=true:=by rw [beq_iff_eq];exact he
  rw [decide_eq_true he,Bool.true_and] at X
  rw [←X] at hst
  generalize prB (B s)=b at *
  generalize mk (printL ep (B U) (B R))=T at *
  clear X
  go_enter Tryz.func63,Tryz.ntmps63
  go_wp2_with fail
  refine (CP.out _).mono ?_
  rintro e' w1 ⟨rfl,hb1⟩
  have B1:=Lib.hid (show Below w.heap.size w (w1.alloc (.cells #[.int .i64 ep,.string U,.string R] 119)) from hb1.alloc hb1.size _)
  clear hb1
  go_wp2_with fail
  refine (CT.out _).mono ?_
  rintro e' w2 ⟨rfl,hb2⟩
  have B2:=Lib.hid (B1.out.trans (hb2.mono B1.out.size))
  clear hb2
  go_wp2
  go_ret
  exact ⟨rfl,B2.out⟩
 ·have t1:(e==0)=false:=by rw [beq_eq_false_iff_ne];exact he
  rw [decide_eq_false he,Bool.false_and] at X
  have XX:=Lib.hid X
  clear X hst CT he
  go_enter Tryz.func63,Tryz.ntmps63
  go_wp2_with fail
  refine (CP.out _).mono ?_
  rintro e' w1 ⟨rfl,hb1⟩
  have B1:=Lib.hid (show Below w.heap.size w (w1.alloc (.cells #[.int .i64 ep,.string U,.string R] 119)) from hb1.alloc hb1.size _)
  clear hb1
  go_wp2
  go_ret
  exact ⟨by rw [XX.out];rfl,B1.out⟩
set_option maxHeartbeats 8000000 in
theorem q6atoms_any (KA:∀(x:Atm) (w:World),x.n.size≤65536→Calls Tryz.prog 97 #[.agg #[.string x.n,.int .i64 x.o,.string x.v]] w fun e' w'=>e'=.returned (.bool (rgt x))∧Below w.heap.size w w') (A:Option Addr) (n c:Nat) (l:List Atm) (w:World) (h:rdAtms w (lt_ w.heap.size) l [.slice A n c]) (hz:∀a ∈ l,a.n.size≤65536) :
  Calls Tryz.prog 65 #[.slice A n c] w fun e w'=>e=.returned (.bool (l.all rgt))∧Below w.heap.size w w':=by
 obtain ⟨rfl,hnc,hcm,_⟩:=rdAtms_at h
 have hcm':c≤9223372036854775807:=hcm
 have KA:=Lib.hid KA
 have HZ:=Lib.hid hz
 clear hz hcm
 go_enter Tryz.func65,Tryz.ntmps65
 go_wp2
 go_loopw [3] (fun i wr=>∃k:Nat,k≤l.length∧i=.int .i64 k∧(l.take k).all rgt=true∧Below w.heap.size w wr) (fun i _=>l.length - (intOf i).toNat)
 case atStart=>exact ⟨0,Nat.zero_le _,rfl,rfl,Below.refl _ _⟩
 case round=>
  obtain ⟨k,hk,rfl,hall,hbel⟩:=hrel
  have HA:=Lib.hid hall
  have HB:=Lib.hid hbel
  clear hall
  by_cases hlt:k < l.length
  ·obtain ⟨_,_,_,hat⟩:=rdAtms_at (rdAtms_good.below h hbel)
   obtain ⟨ad,rfl,had,h0,h1,h2⟩:=hat k hlt
   have i0:(0:Int)≤(k:Int):=by omega
   have i1:(k:Int) < (l.length:Int):=by omega
   have ST:=Lib.hid (fun hf=>all_step6 (f:=rgt) hlt HA.out hf)
   have SP:=Lib.hid (fun hf=>all_stop6 (f:=rgt) hlt hf)
   have K:=Lib.hid (fun W=>KA.out l[k] W (HZ.out _ (List.getElem_mem hlt)))
   clear had hat hbel h
   generalize l[k]=x at *
   generalize rgt x=b at *
   go_wp2_with fail
   refine (K.out _).mono ?_
   rintro e w' ⟨rfl,hb⟩
   have HB2:=Lib.hid (HB.out.trans (hb.mono HB.out.size))
   clear hb h0 h1 h2
   cases b
   ·have XX:=Lib.hid (SP.out rfl)
    go_wp2
    go_ret
    exact ⟨by rw [XX.out];try rfl,HB2.out⟩
   have NX:=Lib.hid (ST.out rfl)
   go_wp2
   go_roundw
   case rel=>exact ⟨k+1,by omega,by go_num,NX.out,HB2.out⟩
   case measure=>simp [intOf];omega
  ·obtain rfl:k=l.length:=by omega
   have FIN:=Lib.hid (show l.all rgt=true by have:=HA.out;rw [List.take_length] at this;exact this)
   clear h hbel
   go_wp2
   go_ret
   exact ⟨by rw [FIN.out];try rfl,HB.out⟩
def rgtE (x:Ent):Bool:=nameB (B x.n)&&(prB (B x.v)&&(rightG x.d&&(rightG x.r&&(x.c.all rgt&&(x.p.all rgt&&(givs6 x.p&&(decide (x.c.length≤12)&&decide (x.p.length≤8))))))))
theorem box6 {w W:World} {T:TypeId} {x0 x1 x2 x3 x4 x5:Value} (hb:Below (w.alloc (.cells #[x0,x1,x2,x3,x4,x5] T)).heap.size (w.alloc (.cells #[x0,x1,x2,x3,x4,x5] T)) W) :
  W.cell? ⟨w.heap.size,0,none⟩=some x0∧W.cell? ⟨w.heap.size,1,none⟩=some x1∧W.cell? ⟨w.heap.size,2,none⟩=some x2∧W.cell? ⟨w.heap.size,3,none⟩=some x3∧W.cell? ⟨w.heap.size,4,none⟩=some x4∧W.cell? ⟨w.heap.size,5,none⟩=some x5:=
 ⟨(hb.cell (by simp)).trans (by simp [go_sem]),(hb.cell (by simp)).trans (by simp [go_sem]),(hb.cell (by simp)).trans (by simp [go_sem]),(hb.cell (by simp)).trans (by simp [go_sem]),(hb.cell (by simp)).trans (by simp [go_sem]),(hb.cell (by simp)).trans (by simp [go_sem])⟩
def Sz (x:Ent):Prop:=x.n.size≤65536∧(∀g ∈ x.d,∀a ∈ g,a.n.size≤65536)∧(∀g ∈ x.r,∀a ∈ g,a.n.size≤65536)∧(∀a ∈ x.c,a.n.size≤65536)∧(∀a ∈ x.p,a.n.size≤65536)
theorem Sm.sz {x:Ent} (h:Sm x):Sz x:=by
 obtain ⟨hc,hp,hn,hv,_,_,hd,hr⟩:=h
 exact ⟨by omega,fun g hg a ha=>by have:=(hd g hg).2 a ha;omega,fun g hg a ha=>by have:=(hr g hg).2 a ha;omega,fun a ha=>by have:=hc.2 a ha;omega,fun a ha=>by have:=hp.2 a ha;omega⟩
set_option maxHeartbeats 8000000 in
theorem q6right_any (KN:∀(s:ByteArray) (w:World),s.size≤65536→Calls Tryz.prog 62 #[.string s] w fun e w'=>e=.returned (.bool (nameB (B s)))∧w=w') (KA:∀(x:Atm) (w:World),x.n.size≤65536→Calls Tryz.prog 97 #[.agg #[.string x.n,.int .i64 x.o,.string x.v]] w fun e' w'=>e'=.returned (.bool (rgt x))∧Below w.heap.size w w') (K4:∀(A:Option Addr) (n c:Nat) (L:List (List Atm)) (w:World),rdGrps w (lt_ w.heap.size) L [.slice A n c]→(∀g ∈ L,∀a ∈ g,a.n.size≤65536)→Calls Tryz.prog 64 #[.slice A n c] w fun e w'=>e=.returned (.bool (rightG L))∧Below w.heap.size w w')
  (x:Ent) (A1:Option Addr) (c1:Nat) (A2:Option Addr) (c2:Nat) (A3:Option Addr) (c3:Nat) (A4:Option Addr) (c4:Nat) (w:World) (hx:EntV w (lt_ w.heap.size) x A1 c1 A2 c2 A3 c3 A4 c4) (hz:Sz x) :
  Calls Tryz.prog 42 #[x.val A1 c1 A2 c2 A3 c3 A4 c4] w fun e w'=>e=.returned (.bool (rgtE x))∧Below w.heap.size w w':=by
 obtain ⟨n,v,d,r,c,p⟩:=x
 obtain ⟨z1,z2,z3,z4,z5⟩:=hz
 have B1:=Lib.hid (show Below w.heap.size w (w.alloc (.cells #[.string n,.string v,.slice A1 d.length c1,.slice A2 r.length c2,.slice A3 c.length c3,.slice A4 p.length c4] 53)) from (Below.refl _ w).alloc (Nat.le_refl _) _)
 have KX:=Lib.hid (fun (W:World) (hb:Below (w.alloc (.cells #[.string n,.string v,.slice A1 d.length c1,.slice A2 r.length c2,.slice A3 c.length c3,.slice A4 p.length c4] 53)).heap.size (w.alloc (.cells #[.string n,.string v,.slice A1 d.length c1,.slice A2 r.length c2,.slice A3 c.length c3,.slice A4 p.length c4] 53)) W)=>box6 hb)
 have HX:=Lib.hid hx
 have KN:=Lib.hid (fun W=>KN n W z1)
 have KV:=Lib.hid (fun W=>q6plain_any v W)
 have KD:=Lib.hid (fun W (hb:Below w.heap.size w W)=>K4 A1 d.length c1 d W (HX.out.on hb).d z2)
 have KR:=Lib.hid (fun W (hb:Below w.heap.size w W)=>K4 A2 r.length c2 r W (HX.out.on hb).r z3)
 have KC:=Lib.hid (fun W (hb:Below w.heap.size w W)=>q6atoms_any KA A3 c.length c3 c W (HX.out.on hb).c z4)
 have KP:=Lib.hid (fun W (hb:Below w.heap.size w W)=>q6atoms_any KA A4 p.length c4 p W (HX.out.on hb).p z5)
 have KG:=Lib.hid (fun W (hb:Below w.heap.size w W)=>q6given_any A4 p.length c4 p W (HX.out.on hb).p)
 have XE:=Lib.hid (show rgtE ⟨n,v,d,r,c,p⟩=(nameB (B n)&&(prB (B v)&&(rightG d&&(rightG r&&(c.all rgt&&(p.all rgt&&(givs6 p&&(decide (c.length≤12)&&decide (p.length≤8))))))))) from rfl)
 show Calls Tryz.prog 42 #[.agg #[.string n,.string v,.slice A1 d.length c1,.slice A2 r.length c2,.slice A3 c.length c3,.slice A4 p.length c4]] w _
 clear hx z1 z2 z3 z4 z5 K4 KA
 generalize nameB (B n)=b1 at *
 generalize prB (B v)=b2 at *
 generalize rightG d=b3 at *
 generalize rightG r=b4 at *
 generalize c.all rgt=b5 at *
 generalize p.all rgt=b6 at *
 generalize givs6 p=b7 at *
 obtain ⟨W1,hW1⟩:∃W,W=(w.alloc (.cells #[.string n,.string v,.slice A1 d.length c1,.slice A2 r.length c2,.slice A3 c.length c3,.slice A4 p.length c4] 53)):=⟨_,rfl⟩
 rw [←hW1] at B1 KX
 have V0:=Lib.hid (Below.refl W1.heap.size W1)
 go_enter Tryz.func42,Tryz.ntmps42
 go_wp2_with fail
 refine (KN.out _).mono ?_
 rintro e w' ⟨rfl,rfl⟩
 rw [←hW1]
 obtain ⟨a0,a1,a2,a3,a4,a5⟩:=KX.out W1 (Below.refl _ _)
 clear hW1
 go_wp2_with fail
 refine (KV.out _).mono ?_
 rintro e w2 ⟨rfl,hb⟩
 have V1:=Lib.hid (V0.out.trans (hb.mono V0.out.size))
 have C1:=Lib.hid (B1.out.trans (hb.mono B1.out.size))
 clear hb a0 a1 a2 a3 a4 a5
 obtain ⟨a0,a1,a2,a3,a4,a5⟩:=KX.out _ V1.out
 go_wp2_with fail
 refine (KD.out _ C1.out).mono ?_
 rintro e w3 ⟨rfl,hb⟩
 have V2:=Lib.hid (V1.out.trans (hb.mono V1.out.size))
 have C2:=Lib.hid (C1.out.trans (hb.mono C1.out.size))
 clear hb a0 a1 a2 a3 a4 a5
 obtain ⟨a0,a1,a2,a3,a4,a5⟩:=KX.out _ V2.out
 go_wp2_with fail
 refine (KR.out _ C2.out).mono ?_
 rintro e w4 ⟨rfl,hb⟩
 have V3:=Lib.hid (V2.out.trans (hb.mono V2.out.size))
 have C3:=Lib.hid (C2.out.trans (hb.mono C2.out.size))
 clear hb a0 a1 a2 a3 a4 a5
 obtain ⟨a0,a1,a2,a3,a4,a5⟩:=KX.out _ V3.out
 go_wp2_with fail
 refine (KC.out _ C3.out).mono ?_
 rintro e w5 ⟨rfl,hb⟩
 have V4:=Lib.hid (V3.out.trans (hb.mono V3.out.size))
 have C4:=Lib.hid (C3.out.trans (hb.mono C3.out.size))
 clear hb a0 a1 a2 a3 a4 a5
 obtain ⟨a0,a1,a2,a3,a4,a5⟩:=KX.out _ V4.out
 go_wp2_with fail
 refine (KP.out _ C4.out).mono ?_
 rintro e w6 ⟨rfl,hb⟩
 have V5:=Lib.hid (V4.out.trans (hb.mono V4.out.size))
 have C5:=Lib.hid (C4.out.trans (hb.mono C4.out.size))
 clear hb a0 a1 a2 a3 a4 a5
 obtain ⟨a0,a1,a2,a3,a4,a5⟩:=KX.out _ V5.out
 go_wp2_with fail
 refine (KG.out _ C5.out).mono ?_
 rintro e w' ⟨rfl,rfl⟩
 cases b1
 ·go_wp2
  go_ret
  exact ⟨by rw [XE.out];try rfl,C5.out⟩
 cases b2
 ·go_wp2
  go_ret
  exact ⟨by rw [XE.out];try rfl,C5.out⟩
 cases b3
 ·go_wp2
  go_ret
  exact ⟨by rw [XE.out];try rfl,C5.out⟩
 cases b4
 ·go_wp2
  go_ret
  exact ⟨by rw [XE.out];try rfl,C5.out⟩
 cases b5
 ·go_wp2
  go_ret
  exact ⟨by rw [XE.out];try rfl,C5.out⟩
 cases b6
 ·go_wp2
  go_ret
  exact ⟨by rw [XE.out];try rfl,C5.out⟩
 cases b7
 ·go_wp2
  go_ret
  exact ⟨by rw [XE.out];try rfl,C5.out⟩
 by_cases q0:¬(c.length:Int)≤12
 ·have Q:=Lib.hid (show decide (c.length≤12)=false from decide_eq_false (by omega))
  go_wp2
  go_ret
  exact ⟨by rw [XE.out,Q.out];try rfl,C5.out⟩
 have q0:=Decidable.not_not.1 q0
 by_cases q1:¬(p.length:Int)≤8
 ·have Q0:=Lib.hid (show decide (c.length≤12)=true from decide_eq_true (by omega))
  have Q:=Lib.hid (show decide (p.length≤8)=false from decide_eq_false (by omega))
  have QI:=Lib.hid (show decide ((p.length:Int)≤8)=false from decide_eq_false (by omega))
  go_wp2
  go_ret
  exact ⟨by rw [XE.out,Q0.out,Q.out];exact congrArg (fun b=>Ending.returned (.bool b)) QI.out,C5.out⟩
 have q1:=Decidable.not_not.1 q1
 have Q0:=Lib.hid (show decide (c.length≤12)=true from decide_eq_true (by omega))
 have Q:=Lib.hid (show decide (p.length≤8)=true from decide_eq_true (by omega))
 go_wp2
 go_ret
 exact ⟨by rw [XE.out,Q0.out,Q.out];try rfl,C5.out⟩
section
variable {α:Type} {E:Rd α} {sz:Nat}
theorem Grow.empty (T:Nat→Prop) {W:World} {base b:Nat} {e:TypeId} (hb:W.heap[b]?=some (.cells #[] e (0,0))) (hbase:base≤b):Grow E sz T W base e (.slice (some ⟨b,0,none⟩) 0 0) []:=
 ⟨[],rfl,⟨by simp,.inr ⟨b,0,#[],rfl,hbase,hb,Nat.le_refl _,Nat.zero_le _,by simp,by simp⟩⟩,fun k hk=>absurd hk (by simp)⟩
theorem wp_growN {P:Program} {o:Oper} {a:Act} {K:Act→World→Prop} {Q:Exit→Act→World→Prop} (W:World) (s x:Operand) (t t':TypeId)
  (ho:o.op=.call { callee:=.builtin .append,args:=#[s,x],argTypes:=#[t,t'] }) (g:Good E sz) (hsz:0 < sz) (T:Nat→Prop) (base:Nat) (e e':TypeId) (i:TypeInfo) (z:Value) (bytes:Nat)
  (ht:P.underlying t=some (.slice e)) (ht':P.underlying t'=some (.slice e')) (hi:P.info? e=some i) (hz:i.zero=some z) (hsize:i.size=sz) (hby:i.bytes=bytes) (hzs:z.cells.size=sz)
  (v:Value) (l:List α) (hs:a.eval s=v) (hG:Grow E sz T W base e v l) (m:List α) (S:Nat→Prop) (A:Option Addr) (n c:Nat) (hx:a.eval x=.slice A n c) (hX:rdRow sz E W S m [.slice A n c]) (hS:∀b,S b→T b∧b < W.heap.size∧v.ownBlock≠some b)
  (hn:l.length+m.length≤maxLen) (hb2:(l.length+m.length)*bytes≤140737488355328) (hbase:base≤W.heap.size)
  (h:∀v' w',Grow E sz T w' base e v' (l++m)→W.grownBy w' v.ownBlock→(v'.ownBlock=v.ownBlock∨∃b,v'.ownBlock=some b∧W.heap.size≤b)→K (a.put o.dst v') w'):Oper.wp P o a W K Q:=by
 obtain ⟨v',w',hr,h2,h3,h4⟩:=run_growN (P:=P) W t t' o.type g hsz T base e e' i z bytes ht ht' hi hz hsize hby hzs v l hG m S A n c hX hS hn hb2 hbase
 unfold Oper.wp execOp
 simp only [ho,resolve,invoke,builtin,Sem.run_bind,Sem.run_pure,Result.andThen_ok,List.map_toArray,List.map_cons,List.map_nil,hs,hx,hr]
 exact h v' w' h2 h3 h4
theorem step_growN {P:Program} {ops:Array Oper} {o:Oper} {a:Act} {K:Act→World→Prop} {Q:Exit→Act→World→Prop} {F:Prop} (W:World) (hgd:o.guard=none) (s x:Operand) (t t':TypeId)
  (ho:o.op=.call { callee:=.builtin .append,args:=#[s,x],argTypes:=#[t,t'] }) (g:Good E sz) (hsz:0 < sz) (T:Nat→Prop) (base:Nat) (e e':TypeId) (i:TypeInfo) (z:Value) (bytes:Nat)
  (ht:P.underlying t=some (.slice e)) (ht':P.underlying t'=some (.slice e')) (hi:P.info? e=some i) (hz:i.zero=some z) (hsize:i.size=sz) (hby:i.bytes=bytes) (hzs:z.cells.size=sz)
  (v:Value) (l:List α) (hs:a.eval s=v) (hG:Grow E sz T W base e v l) (m:List α) (S:Nat→Prop) (A:Option Addr) (n c:Nat) (hx:a.eval x=.slice A n c) (hX:rdRow sz E W S m [.slice A n c]) (hS:∀b,S b→T b∧b < W.heap.size∧v.ownBlock≠some b)
  (hn:l.length+m.length≤maxLen) (hb2:(l.length+m.length)*bytes≤140737488355328) (hbase:base≤W.heap.size)
  (h:∀v' w',Grow E sz T w' base e v' (l++m)→W.grownBy w' v.ownBlock→(v'.ownBlock=v.ownBlock∨∃b,v'.ownBlock=some b∧W.heap.size≤b)→K (a.put o.dst v') w') :
  if Region.wanted o (yielded ops a.tmps)=true then Oper.wp P o a W K Q else F:=by
 have hw:Region.wanted o (yielded ops a.tmps)=true:=by simp [Region.wanted,hgd]
 rw [if_pos hw]
 exact wp_growN W s x t t' ho g hsz T base e e' i z bytes ht ht' hi hz hsize hby hzs v l hs hG m S A n c hx hX hS hn hb2 hbase h
end
section
variable {α β:Type} {E:Rd α} {F:Rd β} {sz tz:Nat}
def Moved (W:World) (v v':Value):Prop:=v'.ownBlock=v.ownBlock∨∃b,v'.ownBlock=some b∧W.heap.size≤b
theorem wpList_grow1_at {P:Program} {ops:Array Oper} {rest:List Oper} {o:Oper} {a:Act} {Q:Exit→Act→World→Prop} (W:World) (hgd:o.guard=none) (s x:Operand) (t:TypeId)
  (ho:o.op=.call { callee:=.builtin .append,args:=#[s,x],argTypes:=#[t,t] })
  (g:Good E sz) (hsz:0 < sz) (T:Nat→Prop) (base:Nat) (e:TypeId) (i:TypeInfo) (z:Value) (bytes:Nat) (ht:P.underlying t=some (.slice e)) (hi:P.info? e=some i) (hz:i.zero=some z)
  (hsize:i.size=sz) (hby:i.bytes=bytes) (hzs:z.cells.size=sz)
  (v:Value) (l:List α) (hs:a.eval s=v) (hG:Grow E sz T W base e v l) (y:α) (blk:Array Value) (te:TypeId)
  (hE:E W (fun b=>T b∧b < W.heap.size∧v.ownBlock≠some b) y blk.toList) (N:Nat) (hN:N=W.heap.size) (hx:a.eval x=.slice (some ⟨N,0,none⟩) 1 1)
  (hn:l.length+1≤maxLen) (hb2:(l.length+1)*bytes≤140737488355328) (hbase:base≤W.heap.size)
  (h:∀v' w',Grow E sz T w' base e v' (l++[y])→W.grownBy w' v.ownBlock→Moved W v v'→wpList P ops Q rest (a.put o.dst v') w') :
  wpList P ops Q (o::rest) a (W.alloc (.cells blk te)):=by
 subst hN
 obtain ⟨css,hl,hown,hEs⟩:=hG
 refine wpList_append_own_at _ hgd s x t ho base e i z sz bytes ht hi hz hsize hby hzs hsz v l.length css.flatten hs (hown.alloc _) ⟨W.heap.size,0,none⟩ 1 1 blk.toList hx (by rw [g.len hE];simp) (cells_new W blk te) (g.one hE) hn hb2 (by simp;omega) ?_
 intro v' w' hown' hgrow _ hat
 have hg2:W.grownBy w' v.ownBlock:=by
  refine ⟨hgrow.os,hgrow.tape,hgrow.output,?_,fun k hk hne=>?_⟩
  ·have:=hgrow.size;simp at this;omega
  ·rw [hgrow.block k (by simp;omega) hne]
   exact Below.heap_alloc W _ k hk
 have hat':Moved W v v':=by
  rcases hat with h1|h1
  ·exact .inl h1
  ·exact .inr ⟨_,h1,by simp⟩
 refine h v' w' ?_ hg2 hat'
 refine Grow.step g hl hEs (m:=[y]) (ess:=[blk.toList]) rfl (fun k hk=>?_) (by simpa using hown') hg2 hat'
 simp only [List.length_singleton] at hk
 obtain rfl:k=0:=by omega
 exact ⟨_,rfl,hE⟩
def Off (u v:Value):Prop:=∀b,u.ownBlock=some b→v.ownBlock≠some b
theorem Off.symm {u v:Value} (h:Off u v):Off v u:=fun b hb hu=>h b hu hb
theorem Off.nil (v:Value):Off (.slice none 0 0) v:=fun b hb=>by simp [Value.ownBlock] at hb
theorem Off.moved {W:World} {v v' x:Value} (h:Off v x) (hx:∀b,x.ownBlock=some b→b < W.heap.size) (hm:Moved W v v'):Off v' x:=by
 intro b hb hxb
 rcases hm with h1|⟨b',h1,hb'⟩
 ·exact h b (h1 ▸ hb) hxb
 ·rw [h1] at hb;injection hb with hb;have:=hx b hxb;omega
end
theorem Grow.flat {T T':Nat→Prop} {W:World} {base:Nat} {e:TypeId} {v:Value} {α:Type} {E:Rd α} {sz:Nat} {l:List α} (hf:∀(w:World) (S S':Nat→Prop) a cs,E w S a cs→E w S' a cs) (h:Grow E sz T W base e v l):Grow E sz T' W base e v l:=by
 obtain ⟨css,hl,hown,hE⟩:=h
 refine ⟨css,hl,hown,fun k hk=>?_⟩
 obtain ⟨cs,h1,h2⟩:=hE k hk
 exact ⟨cs,h1,hf _ _ _ _ _ h2⟩
def emp:Ent:=⟨{ data:=#[] },{ data:=#[] },[],[],[],[]⟩
def nil7:Hr:=⟨emp,false,false⟩
def Ris (l:List ByteArray):Prop:=l.Pairwise blt
def risB:List ByteArray→Bool
 | a::b::r=>Op.bytesLess a.toList b.toList&&risB (b::r)
 | _=>true
def rightH (l:List Hr):Bool:=l.all (fun x=>rgtE x.e)&&(risB (l.map fun x=>x.e.n)&&decide (l.length≤64))
def RightP (l:List Hr):Prop:=(∀x ∈ l,rgtE x.e=true)∧Ris (l.map fun x=>x.e.n)∧l.length≤64
theorem risB_iff:∀l:List ByteArray,risB l=true↔Ris l
 | []=>⟨fun _=>List.Pairwise.nil,fun _=>rfl⟩
 | [a]=>⟨fun _=>List.pairwise_singleton _ _,fun _=>rfl⟩
 | a::b::r=>by
  have ih:=risB_iff (b::r)
  unfold risB
  rw [Bool.and_eq_true,ih]
  constructor
  ·rintro ⟨h,k⟩
   refine List.Pairwise.cons (fun c hc=>?_) k
   rcases List.mem_cons.1 hc with rfl|hc
   ·exact h
   ·exact blt_tr h ((List.pairwise_cons.1 k).1 c hc)
  ·intro h
   obtain ⟨h1,h2⟩:=List.pairwise_cons.1 h
   exact ⟨h1 b (by simp),h2⟩
theorem rightH_iff (l:List Hr):rightH l=true↔RightP l:=by
 unfold rightH RightP
 rw [Bool.and_eq_true,Bool.and_eq_true,risB_iff,decide_eq_true_iff,List.all_eq_true]
theorem mem_tw {α:Type} {p:α→Bool}:∀{l:List α} {x:α},x ∈ l.takeWhile p→p x=true∧x ∈ l
 | a::l,x,h=>by
  rw [List.takeWhile_cons] at h
  split at h
  ·rename_i hp
   rcases List.mem_cons.1 h with rfl|h
   ·exact ⟨hp,List.mem_cons_self ..⟩
   ·exact ⟨(mem_tw h).1,List.mem_cons_of_mem _ (mem_tw h).2⟩
  ·cases h
theorem mem_dw {α:Type} {p:α→Bool}:∀{l:List α} {x:α},x ∈ l.dropWhile p→x ∈ l
 | a::l,x,h=>by
  rw [List.dropWhile_cons] at h
  split at h
  ·exact List.mem_cons_of_mem _ (mem_dw h)
  ·exact h
theorem dw_head {α:Type} {p:α→Bool}:∀{l r:List α} {x:α},l.dropWhile p=x::r→p x=false
 | a::l,r,x,h=>by
  rw [List.dropWhile_cons] at h
  split at h
  ·exact dw_head h
  ·rename_i hp
   obtain ⟨rfl,-⟩:=List.cons.inj h
   simpa using hp
theorem ris_adj {l:List ByteArray} (h:Ris l) {i:Nat} (hi:i+1 < l.length):blt l[i] l[i+1]:=List.pairwise_iff_getElem.1 h i (i+1) (by omega) hi (by omega)
def one9 (x y:Ent):Prop:=x.n=y.n∧x.v=y.v
instance (x y:Ent):Decidable (one9 x y):=inferInstanceAs (Decidable (_∧_))
def in9 (L:List Ent) (e:Ent):Bool:=L.any fun x=>decide (one9 x e)
def putU (L:List Ent) (e:Ent):List Ent:=L.takeWhile (fun x=>lesB x e)++e::L.dropWhile fun x=>lesB x e
def addU (L:List Ent) (e:Ent):List Ent:=if in9 L e=true then L else putU L e
def entU (ix:List Ent) (he:List Ent):List Ent:=ix.foldl addU (he.foldl putU [])
def Srt9 (L:List Ent):Prop:=L.Pairwise Les
theorem one9.symm {x y:Ent} (h:one9 x y):one9 y x:=⟨h.1.symm,h.2.symm⟩
theorem in9_iff {L:List Ent} {e:Ent}:in9 L e=true↔∃x ∈ L,one9 x e:=by
 unfold in9
 rw [List.any_eq_true]
 exact ⟨fun ⟨x,h,k⟩=>⟨x,h,of_decide_eq_true k⟩,fun ⟨x,h,k⟩=>⟨x,h,decide_eq_true k⟩⟩
theorem in9_no {L:List Ent} {e:Ent} (h:in9 L e=false):∀x ∈ L,¬one9 x e:=fun x hx k=>by rw [in9_iff.2 ⟨x,hx,k⟩] at h;cases h
theorem put9_mem {L:List Ent} {e x:Ent}:x ∈ putU L e↔x=e∨x ∈ L:=by
 have q:=List.takeWhile_append_dropWhile (p:=fun x=>lesB x e) (l:=L)
 unfold putU
 constructor
 ·intro h
  rcases List.mem_append.1 h with h|h
  ·exact .inr (mem_tw h).2
  ·rcases List.mem_cons.1 h with rfl|h
   ·exact .inl rfl
   ·exact .inr (mem_dw h)
 ·rintro (rfl|h)
  ·simp
  ·rw [←q] at h
   rcases List.mem_append.1 h with h|h
   ·exact List.mem_append.2 (.inl h)
   ·exact List.mem_append.2 (.inr (List.mem_cons_of_mem _ h))
theorem put9_srt {L:List Ent} {e:Ent} (h:Srt9 L) (hn:∀x ∈ L,¬one9 x e):Srt9 (putU L e):=by
 have q:=List.takeWhile_append_dropWhile (p:=fun x=>lesB x e) (l:=L)
 unfold Srt9 at h
 rw [←q] at h
 obtain ⟨h1,h2,h3⟩:=List.pairwise_append.1 h
 have hA:∀x ∈ L.takeWhile (fun x=>lesB x e),Les x e:=fun x hx=>(lesB_iff x e).1 (mem_tw hx).1
 have hD:∀x ∈ L.dropWhile (fun x=>lesB x e),Les e x:=by
  cases hd:L.dropWhile (fun x=>lesB x e) with
  | nil=>intro x hx;cases hx
  | cons d r=>
   have hh:=dw_head hd
   have hm:d ∈ L:=mem_dw (p:=fun x=>lesB x e) (by rw [hd];exact List.mem_cons_self ..)
   have h0:Les e d:=by
    rcases Les.tot e d with k|k|k
    ·exact k
    ·rw [(lesB_iff d e).2 k] at hh;cases hh
    ·exact absurd ⟨k.1.symm,k.2.symm⟩ (hn d hm)
   rw [hd] at h2
   intro x hx
   rcases List.mem_cons.1 hx with rfl|hx
   ·exact h0
   ·exact Les.tr h0 ((List.pairwise_cons.1 h2).1 x hx)
 unfold Srt9 putU
 refine List.pairwise_append.2 ⟨h1,List.pairwise_cons.2 ⟨hD,h2⟩,fun a ha b hb=>?_⟩
 rcases List.mem_cons.1 hb with rfl|hb
 ·exact hA a ha
 ·exact h3 a ha b hb
theorem les_no (x:Ent):¬Les x x:=Les.alike rfl rfl
theorem srt9_ext:∀{a b:List Ent},Srt9 a→Srt9 b→(∀x,x ∈ a↔x ∈ b)→a=b
 | [],[],_,_,_=>rfl
 | [],y::b,_,_,h=>absurd ((h y).2 (List.mem_cons_self ..)) (List.not_mem_nil)
 | x::a,[],_,_,h=>absurd ((h x).1 (List.mem_cons_self ..)) (List.not_mem_nil)
 | x::a,y::b,ha,hb,h=>by
  obtain ⟨ha1,ha2⟩:=List.pairwise_cons.1 ha
  obtain ⟨hb1,hb2⟩:=List.pairwise_cons.1 hb
  have e:x=y:=by
   rcases List.mem_cons.1 ((h x).1 (List.mem_cons_self ..)) with e|hx
   ·exact e
   ·rcases List.mem_cons.1 ((h y).2 (List.mem_cons_self ..)) with e|hy
    ·exact e.symm
    ·exact (Les.asym (hb1 x hx) (ha1 y hy)).elim
  subst e
  rw [srt9_ext ha2 hb2 fun z=>?_]
  constructor
  ·intro hz
   rcases List.mem_cons.1 ((h z).1 (List.mem_cons_of_mem _ hz)) with rfl|hz'
   ·exact absurd (ha1 z hz) (les_no z)
   ·exact hz'
  ·intro hz
   rcases List.mem_cons.1 ((h z).2 (List.mem_cons_of_mem _ hz)) with rfl|hz'
   ·exact absurd (hb1 z hz) (les_no z)
   ·exact hz'
def Once9 (L:List Ent):Prop:=L.Pairwise fun x y=>¬one9 x y
theorem fold_put:∀(he L:List Ent),Srt9 L→Once9 he→(∀x ∈ L,∀y ∈ he,¬one9 x y)→Srt9 (he.foldl putU L)∧∀x,x ∈ he.foldl putU L↔x ∈ L∨x ∈ he
 | [],L,h,_,_=>⟨h,fun x=>by simp⟩
 | e::r,L,h,ho,hn=>by
  obtain ⟨o1,o2⟩:=List.pairwise_cons.1 ho
  obtain ⟨k1,k2⟩:=fold_put r (putU L e) (put9_srt h fun x hx=>hn x hx e (List.mem_cons_self ..)) o2 (fun x hx y hy=>by
   rcases put9_mem.1 hx with rfl|hx
   ·exact o1 y hy
   ·exact hn x hx y (List.mem_cons_of_mem _ hy))
  refine ⟨k1,fun x=>?_⟩
  show x ∈ r.foldl putU (putU L e)↔_
  rw [k2,put9_mem,List.mem_cons]
  constructor
  ·rintro ((h|h)|h)
   ·exact .inr (.inl h)
   ·exact .inl h
   ·exact .inr (.inr h)
  ·rintro (h|h|h)
   ·exact .inl (.inr h)
   ·exact .inl (.inl h)
   ·exact .inr h
theorem add9_srt {L:List Ent} {e:Ent} (h:Srt9 L):Srt9 (addU L e):=by
 unfold addU
 split
 ·exact h
 ·rename_i q;exact put9_srt h (in9_no (Bool.eq_false_iff.2 q))
theorem fold_add_srt:∀(ix L:List Ent),Srt9 L→Srt9 (ix.foldl addU L)
 | [],L,h=>h
 | e::r,L,h=>fold_add_srt r _ (add9_srt h)
theorem entU_srt {ix he:List Ent} (h:Once9 he):Srt9 (entU ix he):=fold_add_srt _ _ (fold_put he [] List.Pairwise.nil h (fun x hx=>by cases hx)).1
theorem once_right {l:List Hr} (h:Ris (l.map fun x=>x.e.n)):Once9 (l.map fun x=>x.e):=by
 unfold Once9 Ris at *
 rw [List.pairwise_map] at h ⊢
 refine h.imp ?_
 intro a b hab k
 have q:a.e.n=b.e.n:=k.1
 rw [q] at hab
 exact blt_self _ hab
def ixU (p:Ent→Bool):List Ent→Nat→List Int
 | [],_=>[]
 | x::r,i=>if p x=true then (i:Int)::ixU p r (i+1) else ixU p r (i+1)
def plU (n v:ByteArray):List Ent→Nat→Int
 | [],_=>-1
 | x::r,i=>if x.n=n∧x.v=v then (i:Int) else plU n v r (i+1)
def isN (n:ByteArray) (x:Ent):Bool:=decide (x.n=n)
def nmU:Option ByteArray→List Ent→List ByteArray
 | _,[]=>[]
 | p,x::r=>if p=some x.n then nmU p r else x.n::nmU (some x.n) r
theorem ixU_cons (p:Ent→Bool) (x:Ent) (r:List Ent) (i:Nat):ixU p (x::r) i=if p x=true then (i:Int)::ixU p r (i+1) else ixU p r (i+1):=rfl
theorem plU_cons (n v:ByteArray) (x:Ent) (r:List Ent) (i:Nat):plU n v (x::r) i=if x.n=n∧x.v=v then (i:Int) else plU n v r (i+1):=rfl
theorem nmU_cons (p:Option ByteArray) (x:Ent) (r:List Ent):nmU p (x::r)=if p=some x.n then nmU p r else x.n::nmU (some x.n) r:=rfl
theorem ixU_mem {p:Ent→Bool}:∀{L:List Ent} {i:Nat} {k:Int},k ∈ ixU p L i↔∃j,∃h:j < L.length,k=((i+j:Nat):Int)∧p L[j]=true
 | [],i,k=>by simp [ixU]
 | x::r,i,k=>by
  have ih:=ixU_mem (p:=p) (L:=r) (i:=i+1) (k:=k)
  have hr:(∃j,∃h:j < (x::r).length,k=((i+j:Nat):Int)∧p (x::r)[j]=true)↔(k=(i:Int)∧p x=true)∨∃j,∃h:j < r.length,k=((i+1+j:Nat):Int)∧p r[j]=true:=by
   constructor
   ·rintro ⟨j,h,e,q⟩
    cases j with
    | zero=>exact .inl ⟨e,q⟩
    | succ j=>exact .inr ⟨j,by simpa using h,by rw [e];congr 1;omega,q⟩
   ·rintro (⟨e,q⟩|⟨j,h,e,q⟩)
    ·exact ⟨0,by simp,e,q⟩
    ·exact ⟨j+1,by simpa using h,by rw [e];congr 1;omega,q⟩
  rw [hr,←ih,ixU_cons]
  split
  ·rename_i h
   rw [List.mem_cons]
   exact ⟨fun q=>q.elim (fun e=>.inl ⟨e,h⟩) .inr,fun q=>q.elim (fun e=>.inl e.1) .inr⟩
  ·rename_i h
   exact ⟨.inr,fun q=>q.elim (fun e=>absurd e.2 h) id⟩
theorem ixU_app {p:Ent→Bool}:∀(a b:List Ent) (i:Nat),ixU p (a++b) i=ixU p a i++ixU p b (i+a.length)
 | [],b,i=>rfl
 | x::r,b,i=>by
  have ih:=ixU_app (p:=p) r b (i+1)
  rw [List.cons_append,List.length_cons,show i+(r.length+1)=i+1+r.length by omega]
  rw [ixU_cons,ixU_cons]
  split
  ·rw [ih];rfl
  ·rw [ih]
abbrev al67E (w:World) (n v n' v':ByteArray) (A1:Option Addr) (l1 c1:Nat) (A2:Option Addr) (l2 c2:Nat) (A3:Option Addr) (l3 c3:Nat) (A4:Option Addr) (l4 c4:Nat) (B1:Option Addr) (m1 d1:Nat) (B2:Option Addr) (m2 d2:Nat) (B3:Option Addr) (m3 d3:Nat) (B4:Option Addr) (m4 d4:Nat):World:=
 (w.alloc (.cells #[.string n,.string v,.slice A1 l1 c1,.slice A2 l2 c2,.slice A3 l3 c3,.slice A4 l4 c4] 53)).alloc (.cells #[.string n',.string v',.slice B1 m1 d1,.slice B2 m2 d2,.slice B3 m3 d3,.slice B4 m4 d4] 53)
set_option maxHeartbeats 8000000 in
theorem sameEnt7_any (x y:Ent) (A1:Option Addr) (c1:Nat) (A2:Option Addr) (c2:Nat) (A3:Option Addr) (c3:Nat) (A4:Option Addr) (c4:Nat) (B1:Option Addr) (d1:Nat) (B2v:Option Addr) (d2:Nat) (B3:Option Addr) (d3:Nat) (B4:Option Addr) (d4:Nat) (w:World) (hx:EntV w (lt_ w.heap.size) x A1 c1 A2 c2 A3 c3 A4 c4) (hy:EntV w (lt_ w.heap.size) y B1 d1 B2v d2 B3 d3 B4 d4) :
  Calls Tryz.prog 44 #[x.val A1 c1 A2 c2 A3 c3 A4 c4,y.val B1 d1 B2v d2 B3 d3 B4 d4] w fun e w'=>e=.returned (.bool (decide (x=y)))∧Below w.heap.size w w':=by
 obtain ⟨n,v,d,r,c,p⟩:=x
 obtain ⟨n',v',d',r',c',p'⟩:=y
 have B2:=Lib.hid (show Below w.heap.size w (al67E w n v n' v' A1 d.length c1 A2 r.length c2 A3 c.length c3 A4 p.length c4 B1 d'.length d1 B2v r'.length d2 B3 c'.length d3 B4 p'.length d4) from ((Below.refl _ w).alloc (Nat.le_refl _) _).alloc (by simp) _)
 have KX:=Lib.hid (fun (W:World) (hb:Below (al67E w n v n' v' A1 d.length c1 A2 r.length c2 A3 c.length c3 A4 p.length c4 B1 d'.length d1 B2v r'.length d2 B3 c'.length d3 B4 p'.length d4).heap.size (al67E w n v n' v' A1 d.length c1 A2 r.length c2 A3 c.length c3 A4 p.length c4 B1 d'.length d1 B2v r'.length d2 B3 c'.length d3 B4 p'.length d4) W)=>(show W.cell? ⟨w.heap.size,2,none⟩=some (.slice A1 d.length c1)∧W.cell? ⟨w.heap.size,3,none⟩=some (.slice A2 r.length c2)∧W.cell? ⟨w.heap.size,4,none⟩=some (.slice A3 c.length c3)∧W.cell? ⟨w.heap.size,5,none⟩=some (.slice A4 p.length c4)∧W.cell? ⟨w.heap.size+1,2,none⟩=some (.slice B1 d'.length d1)∧W.cell? ⟨w.heap.size+1,3,none⟩=some (.slice B2v r'.length d2)∧W.cell? ⟨w.heap.size+1,4,none⟩=some (.slice B3 c'.length d3)∧W.cell? ⟨w.heap.size+1,5,none⟩=some (.slice B4 p'.length d4) from by
  have z:(al67E w n v n' v' A1 d.length c1 A2 r.length c2 A3 c.length c3 A4 p.length c4 B1 d'.length d1 B2v r'.length d2 B3 c'.length d3 B4 p'.length d4).heap.size=w.heap.size+2:=by rw [World.size_alloc,World.size_alloc]
  refine ⟨(hb.cell (show (⟨w.heap.size,2,none⟩:Addr).block < _ by rw [z];show w.heap.size < _;omega)).trans (by simp [go_sem]),(hb.cell (show (⟨w.heap.size,3,none⟩:Addr).block < _ by rw [z];show w.heap.size < _;omega)).trans (by simp [go_sem]),(hb.cell (show (⟨w.heap.size,4,none⟩:Addr).block < _ by rw [z];show w.heap.size < _;omega)).trans (by simp [go_sem]),(hb.cell (show (⟨w.heap.size,5,none⟩:Addr).block < _ by rw [z];show w.heap.size < _;omega)).trans (by simp [go_sem]),(hb.cell (show (⟨w.heap.size+1,2,none⟩:Addr).block < _ by rw [z];show w.heap.size+1 < _;omega)).trans (by simp [go_sem]),(hb.cell (show (⟨w.heap.size+1,3,none⟩:Addr).block < _ by rw [z];show w.heap.size+1 < _;omega)).trans (by simp [go_sem]),(hb.cell (show (⟨w.heap.size+1,4,none⟩:Addr).block < _ by rw [z];show w.heap.size+1 < _;omega)).trans (by simp [go_sem]),(hb.cell (show (⟨w.heap.size+1,5,none⟩:Addr).block < _ by rw [z];show w.heap.size+1 < _;omega)).trans (by simp [go_sem])⟩))
 have HX:=Lib.hid hx
 have HY:=Lib.hid hy
 have KD:=Lib.hid (fun W (hb:Below w.heap.size w W)=>sameGroups7_any A1 B1 d.length c1 d'.length d1 d d' W (HX.out.on hb).d (HY.out.on hb).d)
 have KR:=Lib.hid (fun W (hb:Below w.heap.size w W)=>sameGroups7_any A2 B2v r.length c2 r'.length d2 r r' W (HX.out.on hb).r (HY.out.on hb).r)
 have KC:=Lib.hid (fun W (hb:Below w.heap.size w W)=>sameAtoms7_any A3 B3 c.length c3 c'.length d3 c c' W (HX.out.on hb).c (HY.out.on hb).c)
 have KP:=Lib.hid (fun W (hb:Below w.heap.size w W)=>sameAtoms7_any A4 B4 p.length c4 p'.length d4 p p' W (HX.out.on hb).p (HY.out.on hb).p)
 show Calls Tryz.prog 44 #[.agg #[.string n,.string v,.slice A1 d.length c1,.slice A2 r.length c2,.slice A3 c.length c3,.slice A4 p.length c4],.agg #[.string n',.string v',.slice B1 d'.length d1,.slice B2v r'.length d2,.slice B3 c'.length d3,.slice B4 p'.length d4]] w _
 clear hx hy
 have en:=str_eq n n'
 have ev:=str_eq v v'
 by_cases q0:¬n=n'
 ·have X:=Lib.hid (show decide ((⟨n,v,d,r,c,p⟩:Ent)=⟨n',v',d',r',c',p'⟩)=false from decide_eq_false fun e=>q0 (congrArg Ent.n e))
  rw [decide_eq_false q0] at en
  clear q0 ev
  go_enter Tryz.func44,Tryz.ntmps44
  go_wp2
  go_ret
  exact ⟨by rw [X.out];try rfl,B2.out⟩
 have q0:=Decidable.not_not.1 q0
 by_cases q1:¬v=v'
 ·have X:=Lib.hid (show decide ((⟨n,v,d,r,c,p⟩:Ent)=⟨n',v',d',r',c',p'⟩)=false from decide_eq_false fun e=>q1 (congrArg Ent.v e))
  rw [decide_eq_true q0] at en
  rw [decide_eq_false q1] at ev
  clear q0 q1
  go_enter Tryz.func44,Tryz.ntmps44
  go_wp2
  go_ret
  exact ⟨by rw [X.out];try rfl,B2.out⟩
 have q1:=Decidable.not_not.1 q1
 by_cases q2:¬d=d'
 ·have X:=Lib.hid (show decide ((⟨n,v,d,r,c,p⟩:Ent)=⟨n',v',d',r',c',p'⟩)=false from decide_eq_false fun e=>q2 (congrArg Ent.d e))
  rw [decide_eq_true q0] at en
  rw [decide_eq_true q1] at ev
  rw [decide_eq_false q2] at KD
  clear q0 q1 q2
  go_enter Tryz.func44,Tryz.ntmps44
  go_wp2_with fail
  refine (KD.out _ B2.out).mono ?_
  rintro e w3 ⟨rfl,hdr⟩
  have C0:=Lib.hid (B2.out.trans ((hdr.below _).mono B2.out.size))
  have V0:=Lib.hid (show Below (al67E w n v n' v' A1 d.length c1 A2 r.length c2 A3 c.length c3 A4 p.length c4 B1 d'.length d1 B2v r'.length d2 B3 c'.length d3 B4 p'.length d4).heap.size (al67E w n v n' v' A1 d.length c1 A2 r.length c2 A3 c.length c3 A4 p.length c4 B1 d'.length d1 B2v r'.length d2 B3 c'.length d3 B4 p'.length d4) w3 from (Below.refl (al67E w n v n' v' A1 d.length c1 A2 r.length c2 A3 c.length c3 A4 p.length c4 B1 d'.length d1 B2v r'.length d2 B3 c'.length d3 B4 p'.length d4).heap.size (al67E w n v n' v' A1 d.length c1 A2 r.length c2 A3 c.length c3 A4 p.length c4 B1 d'.length d1 B2v r'.length d2 B3 c'.length d3 B4 p'.length d4)).trans ((hdr.below _).mono (Below.refl (al67E w n v n' v' A1 d.length c1 A2 r.length c2 A3 c.length c3 A4 p.length c4 B1 d'.length d1 B2v r'.length d2 B3 c'.length d3 B4 p'.length d4).heap.size (al67E w n v n' v' A1 d.length c1 A2 r.length c2 A3 c.length c3 A4 p.length c4 B1 d'.length d1 B2v r'.length d2 B3 c'.length d3 B4 p'.length d4)).size))
  clear hdr
  obtain ⟨a2,a3,a4,a5,b2,b3,b4,b5⟩:=KX.out _ V0.out
  go_wp2
  go_ret
  exact ⟨by rw [X.out];try rfl,C0.out⟩
 have q2:=Decidable.not_not.1 q2
 by_cases q3:¬r=r'
 ·have X:=Lib.hid (show decide ((⟨n,v,d,r,c,p⟩:Ent)=⟨n',v',d',r',c',p'⟩)=false from decide_eq_false fun e=>q3 (congrArg Ent.r e))
  rw [decide_eq_true q0] at en
  rw [decide_eq_true q1] at ev
  rw [decide_eq_true q2] at KD
  rw [decide_eq_false q3] at KR
  clear q0 q1 q2 q3
  go_enter Tryz.func44,Tryz.ntmps44
  go_wp2_with fail
  refine (KD.out _ B2.out).mono ?_
  rintro e w3 ⟨rfl,hdr⟩
  have C0:=Lib.hid (B2.out.trans ((hdr.below _).mono B2.out.size))
  have V0:=Lib.hid (show Below (al67E w n v n' v' A1 d.length c1 A2 r.length c2 A3 c.length c3 A4 p.length c4 B1 d'.length d1 B2v r'.length d2 B3 c'.length d3 B4 p'.length d4).heap.size (al67E w n v n' v' A1 d.length c1 A2 r.length c2 A3 c.length c3 A4 p.length c4 B1 d'.length d1 B2v r'.length d2 B3 c'.length d3 B4 p'.length d4) w3 from (Below.refl (al67E w n v n' v' A1 d.length c1 A2 r.length c2 A3 c.length c3 A4 p.length c4 B1 d'.length d1 B2v r'.length d2 B3 c'.length d3 B4 p'.length d4).heap.size (al67E w n v n' v' A1 d.length c1 A2 r.length c2 A3 c.length c3 A4 p.length c4 B1 d'.length d1 B2v r'.length d2 B3 c'.length d3 B4 p'.length d4)).trans ((hdr.below _).mono (Below.refl (al67E w n v n' v' A1 d.length c1 A2 r.length c2 A3 c.length c3 A4 p.length c4 B1 d'.length d1 B2v r'.length d2 B3 c'.length d3 B4 p'.length d4).heap.size (al67E w n v n' v' A1 d.length c1 A2 r.length c2 A3 c.length c3 A4 p.length c4 B1 d'.length d1 B2v r'.length d2 B3 c'.length d3 B4 p'.length d4)).size))
  clear hdr
  obtain ⟨a2,a3,a4,a5,b2,b3,b4,b5⟩:=KX.out _ V0.out
  go_wp2_with fail
  refine (KR.out _ C0.out).mono ?_
  rintro e w4 ⟨rfl,hdr⟩
  have C1:=Lib.hid (C0.out.trans ((hdr.below _).mono C0.out.size))
  have V1:=Lib.hid (show Below (al67E w n v n' v' A1 d.length c1 A2 r.length c2 A3 c.length c3 A4 p.length c4 B1 d'.length d1 B2v r'.length d2 B3 c'.length d3 B4 p'.length d4).heap.size (al67E w n v n' v' A1 d.length c1 A2 r.length c2 A3 c.length c3 A4 p.length c4 B1 d'.length d1 B2v r'.length d2 B3 c'.length d3 B4 p'.length d4) w4 from V0.out.trans ((hdr.below _).mono V0.out.size))
  clear hdr
  clear a2 b2 a3 b3 a4 b4 a5 b5
  obtain ⟨a2,a3,a4,a5,b2,b3,b4,b5⟩:=KX.out _ V1.out
  go_wp2
  go_ret
  exact ⟨by rw [X.out];try rfl,C1.out⟩
 have q3:=Decidable.not_not.1 q3
 by_cases q4:¬c=c'
 ·have X:=Lib.hid (show decide ((⟨n,v,d,r,c,p⟩:Ent)=⟨n',v',d',r',c',p'⟩)=false from decide_eq_false fun e=>q4 (congrArg Ent.c e))
  rw [decide_eq_true q0] at en
  rw [decide_eq_true q1] at ev
  rw [decide_eq_true q2] at KD
  rw [decide_eq_true q3] at KR
  rw [decide_eq_false q4] at KC
  clear q0 q1 q2 q3 q4
  go_enter Tryz.func44,Tryz.ntmps44
  go_wp2_with fail
  refine (KD.out _ B2.out).mono ?_
  rintro e w3 ⟨rfl,hdr⟩
  have C0:=Lib.hid (B2.out.trans ((hdr.below _).mono B2.out.size))
  have V0:=Lib.hid (show Below (al67E w n v n' v' A1 d.length c1 A2 r.length c2 A3 c.length c3 A4 p.length c4 B1 d'.length d1 B2v r'.length d2 B3 c'.length d3 B4 p'.length d4).heap.size (al67E w n v n' v' A1 d.length c1 A2 r.length c2 A3 c.length c3 A4 p.length c4 B1 d'.length d1 B2v r'.length d2 B3 c'.length d3 B4 p'.length d4) w3 from (Below.refl (al67E w n v n' v' A1 d.length c1 A2 r.length c2 A3 c.length c3 A4 p.length c4 B1 d'.length d1 B2v r'.length d2 B3 c'.length d3 B4 p'.length d4).heap.size (al67E w n v n' v' A1 d.length c1 A2 r.length c2 A3 c.length c3 A4 p.length c4 B1 d'.length d1 B2v r'.length d2 B3 c'.length d3 B4 p'.length d4)).trans ((hdr.below _).mono (Below.refl (al67E w n v n' v' A1 d.length c1 A2 r.length c2 A3 c.length c3 A4 p.length c4 B1 d'.length d1 B2v r'.length d2 B3 c'.length d3 B4 p'.length d4).heap.size (al67E w n v n' v' A1 d.length c1 A2 r.length c2 A3 c.length c3 A4 p.length c4 B1 d'.length d1 B2v r'.length d2 B3 c'.length d3 B4 p'.length d4)).size))
  clear hdr
  obtain ⟨a2,a3,a4,a5,b2,b3,b4,b5⟩:=KX.out _ V0.out
  go_wp2_with fail
  refine (KR.out _ C0.out).mono ?_
  rintro e w4 ⟨rfl,hdr⟩
  have C1:=Lib.hid (C0.out.trans ((hdr.below _).mono C0.out.size))
  have V1:=Lib.hid (show Below (al67E w n v n' v' A1 d.length c1 A2 r.length c2 A3 c.length c3 A4 p.length c4 B1 d'.length d1 B2v r'.length d2 B3 c'.length d3 B4 p'.length d4).heap.size (al67E w n v n' v' A1 d.length c1 A2 r.length c2 A3 c.length c3 A4 p.length c4 B1 d'.length d1 B2v r'.length d2 B3 c'.length d3 B4 p'.length d4) w4 from V0.out.trans ((hdr.below _).mono V0.out.size))
  clear hdr
  clear a2 b2 a3 b3 a4 b4 a5 b5
  obtain ⟨a2,a3,a4,a5,b2,b3,b4,b5⟩:=KX.out _ V1.out
  go_wp2_with fail
  refine (KC.out _ C1.out).mono ?_
  rintro e w5 ⟨rfl,hdr⟩
  have C2:=Lib.hid (C1.out.trans ((hdr.below _).mono C1.out.size))
  have V2:=Lib.hid (show Below (al67E w n v n' v' A1 d.length c1 A2 r.length c2 A3 c.length c3 A4 p.length c4 B1 d'.length d1 B2v r'.length d2 B3 c'.length d3 B4 p'.length d4).heap.size (al67E w n v n' v' A1 d.length c1 A2 r.length c2 A3 c.length c3 A4 p.length c4 B1 d'.length d1 B2v r'.length d2 B3 c'.length d3 B4 p'.length d4) w5 from V1.out.trans ((hdr.below _).mono V1.out.size))
  clear hdr
  clear a2 b2 a3 b3 a4 b4 a5 b5
  obtain ⟨a2,a3,a4,a5,b2,b3,b4,b5⟩:=KX.out _ V2.out
  go_wp2
  go_ret
  exact ⟨by rw [X.out];try rfl,C2.out⟩
 have q4:=Decidable.not_not.1 q4
 by_cases q5:¬p=p'
 ·have X:=Lib.hid (show decide ((⟨n,v,d,r,c,p⟩:Ent)=⟨n',v',d',r',c',p'⟩)=false from decide_eq_false fun e=>q5 (congrArg Ent.p e))
  rw [decide_eq_true q0] at en
  rw [decide_eq_true q1] at ev
  rw [decide_eq_true q2] at KD
  rw [decide_eq_true q3] at KR
  rw [decide_eq_true q4] at KC
  rw [decide_eq_false q5] at KP
  clear q0 q1 q2 q3 q4 q5
  go_enter Tryz.func44,Tryz.ntmps44
  go_wp2_with fail
  refine (KD.out _ B2.out).mono ?_
  rintro e w3 ⟨rfl,hdr⟩
  have C0:=Lib.hid (B2.out.trans ((hdr.below _).mono B2.out.size))
  have V0:=Lib.hid (show Below (al67E w n v n' v' A1 d.length c1 A2 r.length c2 A3 c.length c3 A4 p.length c4 B1 d'.length d1 B2v r'.length d2 B3 c'.length d3 B4 p'.length d4).heap.size (al67E w n v n' v' A1 d.length c1 A2 r.length c2 A3 c.length c3 A4 p.length c4 B1 d'.length d1 B2v r'.length d2 B3 c'.length d3 B4 p'.length d4) w3 from (Below.refl (al67E w n v n' v' A1 d.length c1 A2 r.length c2 A3 c.length c3 A4 p.length c4 B1 d'.length d1 B2v r'.length d2 B3 c'.length d3 B4 p'.length d4).heap.size (al67E w n v n' v' A1 d.length c1 A2 r.length c2 A3 c.length c3 A4 p.length c4 B1 d'.length d1 B2v r'.length d2 B3 c'.length d3 B4 p'.length d4)).trans ((hdr.below _).mono (Below.refl (al67E w n v n' v' A1 d.length c1 A2 r.length c2 A3 c.length c3 A4 p.length c4 B1 d'.length d1 B2v r'.length d2 B3 c'.length d3 B4 p'.length d4).heap.size (al67E w n v n' v' A1 d.length c1 A2 r.length c2 A3 c.length c3 A4 p.length c4 B1 d'.length d1 B2v r'.length d2 B3 c'.length d3 B4 p'.length d4)).size))
  clear hdr
  obtain ⟨a2,a3,a4,a5,b2,b3,b4,b5⟩:=KX.out _ V0.out
  go_wp2_with fail
  refine (KR.out _ C0.out).mono ?_
  rintro e w4 ⟨rfl,hdr⟩
  have C1:=Lib.hid (C0.out.trans ((hdr.below _).mono C0.out.size))
  have V1:=Lib.hid (show Below (al67E w n v n' v' A1 d.length c1 A2 r.length c2 A3 c.length c3 A4 p.length c4 B1 d'.length d1 B2v r'.length d2 B3 c'.length d3 B4 p'.length d4).heap.size (al67E w n v n' v' A1 d.length c1 A2 r.length c2 A3 c.length c3 A4 p.length c4 B1 d'.length d1 B2v r'.length d2 B3 c'.length d3 B4 p'.length d4) w4 from V0.out.trans ((hdr.below _).mono V0.out.size))
  clear hdr
  clear a2 b2 a3 b3 a4 b4 a5 b5
  obtain ⟨a2,a3,a4,a5,b2,b3,b4,b5⟩:=KX.out _ V1.out
  go_wp2_with fail
  refine (KC.out _ C1.out).mono ?_
  rintro e w5 ⟨rfl,hdr⟩
  have C2:=Lib.hid (C1.out.trans ((hdr.below _).mono C1.out.size))
  have V2:=Lib.hid (show Below (al67E w n v n' v' A1 d.length c1 A2 r.length c2 A3 c.length c3 A4 p.length c4 B1 d'.length d1 B2v r'.length d2 B3 c'.length d3 B4 p'.length d4).heap.size (al67E w n v n' v' A1 d.length c1 A2 r.length c2 A3 c.length c3 A4 p.length c4 B1 d'.length d1 B2v r'.length d2 B3 c'.length d3 B4 p'.length d4) w5 from V1.out.trans ((hdr.below _).mono V1.out.size))
  clear hdr
  clear a2 b2 a3 b3 a4 b4 a5 b5
  obtain ⟨a2,a3,a4,a5,b2,b3,b4,b5⟩:=KX.out _ V2.out
  go_wp2_with fail
  refine (KP.out _ C2.out).mono ?_
  rintro e w6 ⟨rfl,hdr⟩
  have C3:=Lib.hid (C2.out.trans ((hdr.below _).mono C2.out.size))
  have V3:=Lib.hid (show Below (al67E w n v n' v' A1 d.length c1 A2 r.length c2 A3 c.length c3 A4 p.length c4 B1 d'.length d1 B2v r'.length d2 B3 c'.length d3 B4 p'.length d4).heap.size (al67E w n v n' v' A1 d.length c1 A2 r.length c2 A3 c.length c3 A4 p.length c4 B1 d'.length d1 B2v r'.length d2 B3 c'.length d3 B4 p'.length d4) w6 from V2.out.trans ((hdr.below _).mono V2.out.size))
  clear hdr
  clear a2 b2 a3 b3 a4 b4 a5 b5
  obtain ⟨a2,a3,a4,a5,b2,b3,b4,b5⟩:=KX.out _ V3.out
  go_wp2
  go_ret
  exact ⟨by rw [X.out];try rfl,C3.out⟩
 have q5:=Decidable.not_not.1 q5
 have X:=Lib.hid (show decide ((⟨n,v,d,r,c,p⟩:Ent)=⟨n',v',d',r',c',p'⟩)=true from decide_eq_true (by rw [q0,q1,q2,q3,q4,q5]))
 rw [decide_eq_true q0] at en
 rw [decide_eq_true q1] at ev
 rw [decide_eq_true q2] at KD
 rw [decide_eq_true q3] at KR
 rw [decide_eq_true q4] at KC
 rw [decide_eq_true q5] at KP
 clear q0 q1 q2 q3 q4 q5
 go_enter Tryz.func44,Tryz.ntmps44
 go_wp2_with fail
 refine (KD.out _ B2.out).mono ?_
 rintro e w3 ⟨rfl,hdr⟩
 have C0:=Lib.hid (B2.out.trans ((hdr.below _).mono B2.out.size))
 have V0:=Lib.hid (show Below (al67E w n v n' v' A1 d.length c1 A2 r.length c2 A3 c.length c3 A4 p.length c4 B1 d'.length d1 B2v r'.length d2 B3 c'.length d3 B4 p'.length d4).heap.size (al67E w n v n' v' A1 d.length c1 A2 r.length c2 A3 c.length c3 A4 p.length c4 B1 d'.length d1 B2v r'.length d2 B3 c'.length d3 B4 p'.length d4) w3 from (Below.refl (al67E w n v n' v' A1 d.length c1 A2 r.length c2 A3 c.length c3 A4 p.length c4 B1 d'.length d1 B2v r'.length d2 B3 c'.length d3 B4 p'.length d4).heap.size (al67E w n v n' v' A1 d.length c1 A2 r.length c2 A3 c.length c3 A4 p.length c4 B1 d'.length d1 B2v r'.length d2 B3 c'.length d3 B4 p'.length d4)).trans ((hdr.below _).mono (Below.refl (al67E w n v n' v' A1 d.length c1 A2 r.length c2 A3 c.length c3 A4 p.length c4 B1 d'.length d1 B2v r'.length d2 B3 c'.length d3 B4 p'.length d4).heap.size (al67E w n v n' v' A1 d.length c1 A2 r.length c2 A3 c.length c3 A4 p.length c4 B1 d'.length d1 B2v r'.length d2 B3 c'.length d3 B4 p'.length d4)).size))
 clear hdr
 obtain ⟨a2,a3,a4,a5,b2,b3,b4,b5⟩:=KX.out _ V0.out
 go_wp2_with fail
 refine (KR.out _ C0.out).mono ?_
 rintro e w4 ⟨rfl,hdr⟩
 have C1:=Lib.hid (C0.out.trans ((hdr.below _).mono C0.out.size))
 have V1:=Lib.hid (show Below (al67E w n v n' v' A1 d.length c1 A2 r.length c2 A3 c.length c3 A4 p.length c4 B1 d'.length d1 B2v r'.length d2 B3 c'.length d3 B4 p'.length d4).heap.size (al67E w n v n' v' A1 d.length c1 A2 r.length c2 A3 c.length c3 A4 p.length c4 B1 d'.length d1 B2v r'.length d2 B3 c'.length d3 B4 p'.length d4) w4 from V0.out.trans ((hdr.below _).mono V0.out.size))
 clear hdr
 clear a2 b2 a3 b3 a4 b4 a5 b5
 obtain ⟨a2,a3,a4,a5,b2,b3,b4,b5⟩:=KX.out _ V1.out
 go_wp2_with fail
 refine (KC.out _ C1.out).mono ?_
 rintro e w5 ⟨rfl,hdr⟩
 have C2:=Lib.hid (C1.out.trans ((hdr.below _).mono C1.out.size))
 have V2:=Lib.hid (show Below (al67E w n v n' v' A1 d.length c1 A2 r.length c2 A3 c.length c3 A4 p.length c4 B1 d'.length d1 B2v r'.length d2 B3 c'.length d3 B4 p'.length d4).heap.size (al67E w n v n' v' A1 d.length c1 A2 r.length c2 A3 c.length c3 A4 p.length c4 B1 d'.length d1 B2v r'.length d2 B3 c'.length d3 B4 p'.length d4) w5 from V1.out.trans ((hdr.below _).mono V1.out.size))
 clear hdr
 clear a2 b2 a3 b3 a4 b4 a5 b5
 obtain ⟨a2,a3,a4,a5,b2,b3,b4,b5⟩:=KX.out _ V2.out
 go_wp2_with fail
 refine (KP.out _ C2.out).mono ?_
 rintro e w6 ⟨rfl,hdr⟩
 have C3:=Lib.hid (C2.out.trans ((hdr.below _).mono C2.out.size))
 have V3:=Lib.hid (show Below (al67E w n v n' v' A1 d.length c1 A2 r.length c2 A3 c.length c3 A4 p.length c4 B1 d'.length d1 B2v r'.length d2 B3 c'.length d3 B4 p'.length d4).heap.size (al67E w n v n' v' A1 d.length c1 A2 r.length c2 A3 c.length c3 A4 p.length c4 B1 d'.length d1 B2v r'.length d2 B3 c'.length d3 B4 p'.length d4) w6 from V2.out.trans ((hdr.below _).mono V2.out.size))
 clear hdr
 clear a2 b2 a3 b3 a4 b4 a5 b5
 obtain ⟨a2,a3,a4,a5,b2,b3,b4,b5⟩:=KX.out _ V3.out
 go_wp2
 go_ret
 exact ⟨by rw [X.out];try rfl,C3.out⟩
theorem bel_in {w w1 w2:World} (h:Below w.heap.size w w1) (k:Below w1.heap.size w1 w2):Below w.heap.size w w2:=h.trans (k.mono h.size)
end Go.Proofs.YtoopkofekekmoaaGreatDoor
