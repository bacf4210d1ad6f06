/- What the laws rest on: RefCmpV, RefOrder, E6e, E6f, Deep4, E9i, E7g, HeldL, HeldG, E7h, E7l, E9j, E9c, E9d. -/
import Derived.Test.YtpilmhoakopcaaaGreatDoorQAEZA
import Derived.Test.YtpilmhoakopcaaaGreatDoorQAIZA
set_option maxRecDepth 100000
set_option linter.unusedVariables false
set_option linter.unusedSimpArgs false
namespace Go.Proofs.YtpilmhoakopcaaaGreatDoor
open Go.RowKit
theorem compare_any (e1 e2:Int) (u1 r1 u2 r2:ByteArray) (w:World) (h1:u1.size≤9223372036854775807) (h2:r1.size≤9223372036854775807) (h3:u2.size≤9223372036854775807) (h4:r2.size≤9223372036854775807) :
  Calls Tryz.prog 148 #[.agg #[.int .i64 e1,.string u1,.string r1],.agg #[.int .i64 e2,.string u2,.string r2]] w fun e' w'=>e'=.returned (.int .i64 (cmpV e1 (B u1) (B r1) e2 (B u2) (B r2)))∧Below w.heap.size w w':=by
 by_cases he:e1=e2
 ·have t1:(e1 != e2)=false:=by rw [bne_eq_false_iff_eq];exact he
  have C1:=Lib.hid (fun w=>refCmp_any u1 u2 w h1 h3)
  have C2:=Lib.hid (fun w=>refCmp_any r1 r2 w h2 h4)
  by_cases hc:cmpS (B u1) (B u2)=0
  ·have t2:(cmpS (B u1) (B u2) != 0)=false:=by rw [bne_eq_false_iff_eq];exact hc
   have X:=Lib.hid (show cmpS (B r1) (B r2)=cmpV e1 (B u1) (B r1) e2 (B u2) (B r2) by unfold cmpV;rw [if_neg (by simp [he]),if_neg (by simp [hc])])
   clear he hc
   go_enter Tryz.func148,Tryz.ntmps148
   go_wp2_with (first|(go_at_call 163;(with_reducible refine (C1.out _).mono ?_);rintro e w' ⟨rfl,rfl⟩)|(go_at_call 163;(with_reducible refine (C2.out _).mono ?_);rintro e w' ⟨rfl,rfl⟩))
   go_ret
   exact ⟨by rw [←X.out];rfl,((Below.refl _ w).alloc (Nat.le_refl _) _).alloc (by simp) _⟩
  ·have t2:(cmpS (B u1) (B u2) != 0)=true:=by rw [bne_iff_ne];exact hc
   have X:=Lib.hid (show cmpS (B u1) (B u2)=cmpV e1 (B u1) (B r1) e2 (B u2) (B r2) by unfold cmpV;rw [if_neg (by simp [he]),if_pos hc])
   clear he hc
   go_enter Tryz.func148,Tryz.ntmps148
   go_wp2_with (first|(go_at_call 163;(with_reducible refine (C1.out _).mono ?_);rintro e w' ⟨rfl,rfl⟩)|(go_at_call 163;(with_reducible refine (C2.out _).mono ?_);rintro e w' ⟨rfl,rfl⟩))
   go_ret
   exact ⟨by rw [←X.out];rfl,((Below.refl _ w).alloc (Nat.le_refl _) _).alloc (by simp) _⟩
 ·have t1:(e1 != e2)=true:=by rw [bne_iff_ne];exact he
  by_cases hl:e1 < e2
  ·have X:=Lib.hid (show (-1:Int)=cmpV e1 (B u1) (B r1) e2 (B u2) (B r2) by unfold cmpV;rw [if_pos he,if_pos hl])
   clear he
   go_enter Tryz.func148,Tryz.ntmps148
   go_wp2
   go_ret
   exact ⟨by rw [←X.out];rfl,((Below.refl _ w).alloc (Nat.le_refl _) _).alloc (by simp) _⟩
  ·have X:=Lib.hid (show (1:Int)=cmpV e1 (B u1) (B r1) e2 (B u2) (B r2) by unfold cmpV;rw [if_pos he,if_neg hl])
   clear he
   go_enter Tryz.func148,Tryz.ntmps148
   go_wp2
   go_ret
   exact ⟨by rw [←X.out];rfl,((Below.refl _ w).alloc (Nat.le_refl _) _).alloc (by simp) _⟩
theorem parse_opened (s:ByteArray):∃(E e:Int) (U R:ByteArray),E=parse1 (B s)∧e=parseE (B s)∧B U=parse2 (B s)∧B R=parse3 (B s)∧U.size≤60∧R.size≤60∧
  ∀w,Calls Tryz.prog 124 #[.string s] w fun e' w'=>e'=.returned (.tuple #[.agg #[.int .i64 E,.string U,.string R],.int .i64 e])∧Below w.heap.size w w':=
 ⟨_,_,_,_,rfl,rfl,B_mk (parse2_lt s),B_mk (parse3_lt s),by rw [size_mk];exact parse2_len _,by rw [size_mk];exact parse3_len _,fun w=>parse_any s w⟩
theorem order_any (a b:ByteArray) (w:World) :
  Calls Tryz.prog 122 #[.string a,.string b] w fun e' w'=>e'=.returned (.int .i64 (orderV (B a) (B b)))∧Below w.heap.size w w':=by
 obtain ⟨E,e,U,R,hE,he,hU,hR,zU,zR,ca⟩:=parse_opened a
 obtain ⟨F,f,V,S,hF,hf,hV,hS,zV,zS,cb⟩:=parse_opened b
 have X:orderV (B a) (B b)=if e≠0 then (if f≠0 then 0 else -1) else if f≠0 then 1 else cmpV E (B U) (B R) F (B V) (B S):=by
  unfold orderV;rw [←hE,←he,←hU,←hR,←hF,←hf,←hV,←hS]
 have XO:=Lib.hid X
 have CA:=Lib.hid ca
 have CB:=Lib.hid cb
 have CV:=Lib.hid (fun w=>compare_any E F U R V S w (by omega) (by omega) (by omega) (by omega))
 clear X ca cb hE he hU hR hF hf hV hS
 generalize orderV (B a) (B b)=O at XO ⊢
 generalize cmpV E (B U) (B R) F (B V) (B S)=C at XO CV
 go_enter Tryz.func122,Tryz.ntmps122
 go_wp2_with fail
 refine (CA.out _).mono ?_
 rintro e' w1 ⟨rfl,hb1⟩
 have s1:=hb1.size
 go_wp2_with fail
 refine (CB.out _).mono ?_
 rintro e' w2 ⟨rfl,hb2⟩
 obtain ⟨c0,c1,c2,s2⟩:=box_cells hb2
 have b2:Below w.heap.size w w2:=(hb1.alloc s1 _).trans (hb2.mono (by simp;omega))
 have b3:Below w.heap.size w (w2.alloc (.cells #[.int .i64 F,.string V,.string S] 158)):=b2.alloc (by omega) _
 by_cases he:e=0
 ·have t1:(e != 0)=false:=by rw [bne_eq_false_iff_eq];exact he
  by_cases hf:f=0
  ·have t2:(f != 0)=false:=by rw [bne_eq_false_iff_eq];exact hf
   have XF:=Lib.hid (show O=C by rw [XO.out,if_neg (by simp [he]),if_neg (by simp [hf])])
   have s3:w1.heap.size < w2.heap.size:=by omega
   clear he hf
   go_wp2_with fail
   refine (CV.out _).mono ?_
   rintro e' w3 ⟨rfl,hb3⟩
   go_wp2
   go_ret
   exact ⟨by rw [XF.out];rfl,b3.trans (hb3.mono (by simp;omega))⟩
  ·have t2:(f != 0)=true:=by rw [bne_iff_ne];exact hf
   have XF:=Lib.hid (show O=1 by rw [XO.out,if_neg (by simp [he]),if_pos hf])
   clear he hf
   go_wp2
   go_ret
   exact ⟨by rw [XF.out];rfl,b3⟩
 ·have t1:(e != 0)=true:=by rw [bne_iff_ne];exact he
  by_cases hf:f=0
  ·have t2:(f != 0)=false:=by rw [bne_eq_false_iff_eq];exact hf
   have XF:=Lib.hid (show O=-1 by rw [XO.out,if_pos he,if_neg (by simp [hf])])
   clear he hf
   go_wp2
   go_ret
   exact ⟨by rw [XF.out];rfl,b3⟩
  ·have t2:(f != 0)=true:=by rw [bne_iff_ne];exact hf
   have XF:=Lib.hid (show O=0 by rw [XO.out,if_pos he,if_pos hf])
   clear he hf
   go_wp2
   go_ret
   exact ⟨by rw [XF.out];rfl,b3⟩
set_option maxHeartbeats 8000000 in
theorem q6given_any (A:Option Addr) (n c:Nat) (l:List Atm) (w:World) (h:rdAtms w (lt_ w.heap.size) l [.slice A n c]) :
  Calls Tryz.prog 82 #[.slice A n c] w fun e w'=>e=.returned (.bool (givs6 l))∧w=w':=by
 obtain ⟨rfl,hnc,hcm,hat⟩:=rdAtms_at h
 have hcm':c≤9223372036854775807:=hcm
 have HAT:=Lib.hid hat
 clear h hat hcm
 go_enter Tryz.func82,Tryz.ntmps82
 go_wp2
 go_loop [3] (fun i=>∃k:Nat,k≤l.length∧i=.int .i64 k∧(l.take k).all giv6=true) (fun i=>l.length - (intOf i).toNat)
 case atStart=>exact ⟨0,Nat.zero_le _,rfl,rfl⟩
 case round=>
  obtain ⟨k,hk,rfl,hall⟩:=hrel
  have HA:=Lib.hid hall
  clear hall
  by_cases hlt:k < l.length
  ·obtain ⟨ad,rfl,had,h0,h1,h2⟩:=HAT.out k hlt
   have i0:(0:Int)≤(k:Int):=by omega
   have i1:(k:Int) < (l.length:Int):=by omega
   have ST:=Lib.hid (fun hf=>all_step6 (f:=giv6) hlt HA.out hf)
   have SP:=Lib.hid (fun hf=>all_stop6 (f:=giv6) hlt hf)
   have G:=Lib.hid (show giv6 l[k]=(l[k].o==0||l[k].o==3) from rfl)
   clear had h0 h2
   generalize l[k]=x at *
   rcases (by
    by_cases g0:x.o=0
    ·exact .inl g0
    ·by_cases g3:x.o=3
     ·exact .inr (.inl ⟨g0,g3⟩)
     ·exact .inr (.inr ⟨g0,g3⟩):x.o=0∨(x.o≠0∧x.o=3)∨(x.o≠0∧x.o≠3)) with g|⟨g,g'⟩|⟨g,g'⟩
   ·have t1:(x.o != 0)=false:=by rw [g];rfl
    have NX:=Lib.hid (ST.out (by rw [G.out,g];rfl))
    clear g
    go_wp2
    go_round
    case rel=>exact ⟨k+1,by omega,by go_num,NX.out⟩
    case measure=>simp [intOf];omega
   ·have t1:(x.o != 0)=true:=by rw [g'];rfl
    have t2:(x.o != 3)=false:=by rw [g'];rfl
    have NX:=Lib.hid (ST.out (by rw [G.out,g'];rfl))
    clear g g'
    go_wp2
    go_round
    case rel=>exact ⟨k+1,by omega,by go_num,NX.out⟩
    case measure=>simp [intOf];omega
   ·have t1:(x.o != 0)=true:=by rw [bne_iff_ne];exact g
    have t2:(x.o != 3)=true:=by rw [bne_iff_ne];exact g'
    have XX:=Lib.hid (show givs6 l=false from SP.out (by rw [G.out,beq_eq_false_iff_ne.2 g,beq_eq_false_iff_ne.2 g'];rfl))
    clear g g'
    go_wp2
    go_ret
    exact ⟨by rw [XX.out];try rfl,rfl⟩
  ·obtain rfl:k=l.length:=by omega
   have FIN:=Lib.hid (show givs6 l=true by have:=HA.out;rw [List.take_length] at this;exact this)
   go_wp2
   go_ret
   exact ⟨by rw [FIN.out];try rfl,rfl⟩
theorem printL_lt6 (e:Int) (u r:ByteArray):∀c ∈ printL e (B u) (B r),c < 256:=by
 unfold printL
 split
 ·exact textL_lt _ u r
 ·intro c hc;cases hc
set_option maxHeartbeats 2000000 in
theorem q6plain_any (s:ByteArray) (w:World):Calls Tryz.prog 79 #[.string s] w fun e' w'=>e'=.returned (.bool (prB (B s)))∧Below w.heap.size w w':=by
 obtain ⟨ep,e,U,R,h1,h2,h3,h4,z2,z3,cp⟩:=parse_opened s
 have X:prB (B s)=(decide (e=0)&&decide (printL ep (B U) (B R)=B s)):=by unfold prB;rw [h1,h2,h3,h4]
 have CP:=Lib.hid (cp)
 have CT:=Lib.hid (fun w=>print_any ep U R w (by omega) (by omega))
 have hst:=strEq (printL ep (B U) (B R)) s (printL_lt6 ep U R)
 clear cp h1 h2 h3 h4
 by_cases he:e=0
 ·have t1:(e==0)=true:=by rw [beq_iff_eq];exact he
  rw [decide_eq_true he,Bool.true_and] at X
  rw [←X] at hst
  generalize prB (B s)=b at *
  generalize mk (printL ep (B U) (B R))=T at *
  clear X
  go_enter Tryz.func79,Tryz.ntmps79
  go_wp2_with fail
  refine (CP.out _).mono ?_
  rintro e' w1 ⟨rfl,hb1⟩
  have B1:=Lib.hid (show Below w.heap.size w (w1.alloc (.cells #[.int .i64 ep,.string U,.string R] 158)) from hb1.alloc hb1.size _)
  clear hb1
  go_wp2_with fail
  refine (CT.out _).mono ?_
  rintro e' w2 ⟨rfl,hb2⟩
  have B2:=Lib.hid (B1.out.trans (hb2.mono B1.out.size))
  clear hb2
  go_wp2
  go_ret
  exact ⟨rfl,B2.out⟩
 ·have t1:(e==0)=false:=by rw [beq_eq_false_iff_ne];exact he
  rw [decide_eq_false he,Bool.false_and] at X
  have XX:=Lib.hid X
  clear X hst CT he
  go_enter Tryz.func79,Tryz.ntmps79
  go_wp2_with fail
  refine (CP.out _).mono ?_
  rintro e' w1 ⟨rfl,hb1⟩
  have B1:=Lib.hid (show Below w.heap.size w (w1.alloc (.cells #[.int .i64 ep,.string U,.string R] 158)) from hb1.alloc hb1.size _)
  clear hb1
  go_wp2
  go_ret
  exact ⟨by rw [XX.out];rfl,B1.out⟩
set_option maxHeartbeats 8000000 in
theorem q6atoms_any (KA:∀(x:Atm) (w:World),x.n.size≤65536→Calls Tryz.prog 126 #[.agg #[.string x.n,.int .i64 x.o,.string x.v]] w fun e' w'=>e'=.returned (.bool (rgt x))∧Below w.heap.size w w') (A:Option Addr) (n c:Nat) (l:List Atm) (w:World) (h:rdAtms w (lt_ w.heap.size) l [.slice A n c]) (hz:∀a ∈ l,a.n.size≤65536) :
  Calls Tryz.prog 81 #[.slice A n c] w fun e w'=>e=.returned (.bool (l.all rgt))∧Below w.heap.size w w':=by
 obtain ⟨rfl,hnc,hcm,_⟩:=rdAtms_at h
 have hcm':c≤9223372036854775807:=hcm
 have KA:=Lib.hid KA
 have HZ:=Lib.hid hz
 clear hz hcm
 go_enter Tryz.func81,Tryz.ntmps81
 go_wp2
 go_loopw [3] (fun i wr=>∃k:Nat,k≤l.length∧i=.int .i64 k∧(l.take k).all rgt=true∧Below w.heap.size w wr) (fun i _=>l.length - (intOf i).toNat)
 case atStart=>exact ⟨0,Nat.zero_le _,rfl,rfl,Below.refl _ _⟩
 case round=>
  obtain ⟨k,hk,rfl,hall,hbel⟩:=hrel
  have HA:=Lib.hid hall
  have HB:=Lib.hid hbel
  clear hall
  by_cases hlt:k < l.length
  ·obtain ⟨_,_,_,hat⟩:=rdAtms_at (rdAtms_good.below h hbel)
   obtain ⟨ad,rfl,had,h0,h1,h2⟩:=hat k hlt
   have i0:(0:Int)≤(k:Int):=by omega
   have i1:(k:Int) < (l.length:Int):=by omega
   have ST:=Lib.hid (fun hf=>all_step6 (f:=rgt) hlt HA.out hf)
   have SP:=Lib.hid (fun hf=>all_stop6 (f:=rgt) hlt hf)
   have K:=Lib.hid (fun W=>KA.out l[k] W (HZ.out _ (List.getElem_mem hlt)))
   clear had hat hbel h
   generalize l[k]=x at *
   generalize rgt x=b at *
   go_wp2_with fail
   refine (K.out _).mono ?_
   rintro e w' ⟨rfl,hb⟩
   have HB2:=Lib.hid (HB.out.trans (hb.mono HB.out.size))
   clear hb h0 h1 h2
   cases b
   ·have XX:=Lib.hid (SP.out rfl)
    go_wp2
    go_ret
    exact ⟨by rw [XX.out];try rfl,HB2.out⟩
   have NX:=Lib.hid (ST.out rfl)
   go_wp2
   go_roundw
   case rel=>exact ⟨k+1,by omega,by go_num,NX.out,HB2.out⟩
   case measure=>simp [intOf];omega
  ·obtain rfl:k=l.length:=by omega
   have FIN:=Lib.hid (show l.all rgt=true by have:=HA.out;rw [List.take_length] at this;exact this)
   clear h hbel
   go_wp2
   go_ret
   exact ⟨by rw [FIN.out];try rfl,HB.out⟩
set_option maxHeartbeats 8000000 in
theorem q6right_any (KN:∀(s:ByteArray) (w:World),s.size≤65536→Calls Tryz.prog 78 #[.string s] w fun e w'=>e=.returned (.bool (nameB (B s)))∧w=w') (KA:∀(x:Atm) (w:World),x.n.size≤65536→Calls Tryz.prog 126 #[.agg #[.string x.n,.int .i64 x.o,.string x.v]] w fun e' w'=>e'=.returned (.bool (rgt x))∧Below w.heap.size w w') (K4:∀(A:Option Addr) (n c:Nat) (L:List (List Atm)) (w:World),rdGrps w (lt_ w.heap.size) L [.slice A n c]→(∀g ∈ L,∀a ∈ g,a.n.size≤65536)→Calls Tryz.prog 80 #[.slice A n c] w fun e w'=>e=.returned (.bool (rightG L))∧Below w.heap.size w w')
  (x:Ent) (A1:Option Addr) (c1:Nat) (A2:Option Addr) (c2:Nat) (A3:Option Addr) (c3:Nat) (A4:Option Addr) (c4:Nat) (w:World) (hx:EntV w (lt_ w.heap.size) x A1 c1 A2 c2 A3 c3 A4 c4) (hz:Sz x) :
  Calls Tryz.prog 40 #[x.val A1 c1 A2 c2 A3 c3 A4 c4] w fun e w'=>e=.returned (.bool (rgtE x))∧Below w.heap.size w w':=by
 obtain ⟨n,v,d,r,c,p⟩:=x
 obtain ⟨z1,z2,z3,z4,z5⟩:=hz
 have B1:=Lib.hid (show Below w.heap.size w (w.alloc (.cells #[.string n,.string v,.slice A1 d.length c1,.slice A2 r.length c2,.slice A3 c.length c3,.slice A4 p.length c4] 60)) from (Below.refl _ w).alloc (Nat.le_refl _) _)
 have KX:=Lib.hid (fun (W:World) (hb:Below (w.alloc (.cells #[.string n,.string v,.slice A1 d.length c1,.slice A2 r.length c2,.slice A3 c.length c3,.slice A4 p.length c4] 60)).heap.size (w.alloc (.cells #[.string n,.string v,.slice A1 d.length c1,.slice A2 r.length c2,.slice A3 c.length c3,.slice A4 p.length c4] 60)) W)=>box6 hb)
 have HX:=Lib.hid hx
 have KN:=Lib.hid (fun W=>KN n W z1)
 have KV:=Lib.hid (fun W=>q6plain_any v W)
 have KD:=Lib.hid (fun W (hb:Below w.heap.size w W)=>K4 A1 d.length c1 d W (HX.out.on hb).d z2)
 have KR:=Lib.hid (fun W (hb:Below w.heap.size w W)=>K4 A2 r.length c2 r W (HX.out.on hb).r z3)
 have KC:=Lib.hid (fun W (hb:Below w.heap.size w W)=>q6atoms_any KA A3 c.length c3 c W (HX.out.on hb).c z4)
 have KP:=Lib.hid (fun W (hb:Below w.heap.size w W)=>q6atoms_any KA A4 p.length c4 p W (HX.out.on hb).p z5)
 have KG:=Lib.hid (fun W (hb:Below w.heap.size w W)=>q6given_any A4 p.length c4 p W (HX.out.on hb).p)
 have XE:=Lib.hid (show rgtE ⟨n,v,d,r,c,p⟩=(nameB (B n)&&(prB (B v)&&(rightG d&&(rightG r&&(c.all rgt&&(p.all rgt&&(givs6 p&&(decide (c.length≤12)&&decide (p.length≤8))))))))) from rfl)
 show Calls Tryz.prog 40 #[.agg #[.string n,.string v,.slice A1 d.length c1,.slice A2 r.length c2,.slice A3 c.length c3,.slice A4 p.length c4]] w _
 clear hx z1 z2 z3 z4 z5 K4 KA
 generalize nameB (B n)=b1 at *
 generalize prB (B v)=b2 at *
 generalize rightG d=b3 at *
 generalize rightG r=b4 at *
 generalize c.all rgt=b5 at *
 generalize p.all rgt=b6 at *
 generalize givs6 p=b7 at *
 obtain ⟨W1,hW1⟩:∃W,W=(w.alloc (.cells #[.string n,.string v,.slice A1 d.length c1,.slice A2 r.length c2,.slice A3 c.length c3,.slice A4 p.length c4] 60)):=⟨_,rfl⟩
 rw [←hW1] at B1 KX
 have V0:=Lib.hid (Below.refl W1.heap.size W1)
 go_enter Tryz.func40,Tryz.ntmps40
 go_wp2_with fail
 refine (KN.out _).mono ?_
 rintro e w' ⟨rfl,rfl⟩
 rw [←hW1]
 obtain ⟨a0,a1,a2,a3,a4,a5⟩:=KX.out W1 (Below.refl _ _)
 clear hW1
 go_wp2_with fail
 refine (KV.out _).mono ?_
 rintro e w2 ⟨rfl,hb⟩
 have V1:=Lib.hid (V0.out.trans (hb.mono V0.out.size))
 have C1:=Lib.hid (B1.out.trans (hb.mono B1.out.size))
 clear hb a0 a1 a2 a3 a4 a5
 obtain ⟨a0,a1,a2,a3,a4,a5⟩:=KX.out _ V1.out
 go_wp2_with fail
 refine (KD.out _ C1.out).mono ?_
 rintro e w3 ⟨rfl,hb⟩
 have V2:=Lib.hid (V1.out.trans (hb.mono V1.out.size))
 have C2:=Lib.hid (C1.out.trans (hb.mono C1.out.size))
 clear hb a0 a1 a2 a3 a4 a5
 obtain ⟨a0,a1,a2,a3,a4,a5⟩:=KX.out _ V2.out
 go_wp2_with fail
 refine (KR.out _ C2.out).mono ?_
 rintro e w4 ⟨rfl,hb⟩
 have V3:=Lib.hid (V2.out.trans (hb.mono V2.out.size))
 have C3:=Lib.hid (C2.out.trans (hb.mono C2.out.size))
 clear hb a0 a1 a2 a3 a4 a5
 obtain ⟨a0,a1,a2,a3,a4,a5⟩:=KX.out _ V3.out
 go_wp2_with fail
 refine (KC.out _ C3.out).mono ?_
 rintro e w5 ⟨rfl,hb⟩
 have V4:=Lib.hid (V3.out.trans (hb.mono V3.out.size))
 have C4:=Lib.hid (C3.out.trans (hb.mono C3.out.size))
 clear hb a0 a1 a2 a3 a4 a5
 obtain ⟨a0,a1,a2,a3,a4,a5⟩:=KX.out _ V4.out
 go_wp2_with fail
 refine (KP.out _ C4.out).mono ?_
 rintro e w6 ⟨rfl,hb⟩
 have V5:=Lib.hid (V4.out.trans (hb.mono V4.out.size))
 have C5:=Lib.hid (C4.out.trans (hb.mono C4.out.size))
 clear hb a0 a1 a2 a3 a4 a5
 obtain ⟨a0,a1,a2,a3,a4,a5⟩:=KX.out _ V5.out
 go_wp2_with fail
 refine (KG.out _ C5.out).mono ?_
 rintro e w' ⟨rfl,rfl⟩
 cases b1
 ·go_wp2
  go_ret
  exact ⟨by rw [XE.out];try rfl,C5.out⟩
 cases b2
 ·go_wp2
  go_ret
  exact ⟨by rw [XE.out];try rfl,C5.out⟩
 cases b3
 ·go_wp2
  go_ret
  exact ⟨by rw [XE.out];try rfl,C5.out⟩
 cases b4
 ·go_wp2
  go_ret
  exact ⟨by rw [XE.out];try rfl,C5.out⟩
 cases b5
 ·go_wp2
  go_ret
  exact ⟨by rw [XE.out];try rfl,C5.out⟩
 cases b6
 ·go_wp2
  go_ret
  exact ⟨by rw [XE.out];try rfl,C5.out⟩
 cases b7
 ·go_wp2
  go_ret
  exact ⟨by rw [XE.out];try rfl,C5.out⟩
 by_cases q0:¬(c.length:Int)≤12
 ·have Q:=Lib.hid (show decide (c.length≤12)=false from decide_eq_false (by omega))
  go_wp2
  go_ret
  exact ⟨by rw [XE.out,Q.out];try rfl,C5.out⟩
 have q0:=Decidable.not_not.1 q0
 by_cases q1:¬(p.length:Int)≤8
 ·have Q0:=Lib.hid (show decide (c.length≤12)=true from decide_eq_true (by omega))
  have Q:=Lib.hid (show decide (p.length≤8)=false from decide_eq_false (by omega))
  have QI:=Lib.hid (show decide ((p.length:Int)≤8)=false from decide_eq_false (by omega))
  go_wp2
  go_ret
  exact ⟨by rw [XE.out,Q0.out,Q.out];exact congrArg (fun b=>Ending.returned (.bool b)) QI.out,C5.out⟩
 have q1:=Decidable.not_not.1 q1
 have Q0:=Lib.hid (show decide (c.length≤12)=true from decide_eq_true (by omega))
 have Q:=Lib.hid (show decide (p.length≤8)=true from decide_eq_true (by omega))
 go_wp2
 go_ret
 exact ⟨by rw [XE.out,Q0.out,Q.out];try rfl,C5.out⟩
section
variable {α:Type} {E:Rd α} {sz:Nat}
theorem wp_growN {P:Program} {o:Oper} {a:Act} {K:Act→World→Prop} {Q:Exit→Act→World→Prop} (W:World) (s x:Operand) (t t':TypeId)
  (ho:o.op=.call { callee:=.builtin .append,args:=#[s,x],argTypes:=#[t,t'] }) (g:Good E sz) (hsz:0 < sz) (T:Nat→Prop) (base:Nat) (e e':TypeId) (i:TypeInfo) (z:Value) (bytes:Nat)
  (ht:P.underlying t=some (.slice e)) (ht':P.underlying t'=some (.slice e')) (hi:P.info? e=some i) (hz:i.zero=some z) (hsize:i.size=sz) (hby:i.bytes=bytes) (hzs:z.cells.size=sz)
  (v:Value) (l:List α) (hs:a.eval s=v) (hG:Grow E sz T W base e v l) (m:List α) (S:Nat→Prop) (A:Option Addr) (n c:Nat) (hx:a.eval x=.slice A n c) (hX:rdRow sz E W S m [.slice A n c]) (hS:∀b,S b→T b∧b < W.heap.size∧v.ownBlock≠some b)
  (hn:l.length+m.length≤maxLen) (hb2:(l.length+m.length)*bytes≤140737488355328) (hbase:base≤W.heap.size)
  (h:∀v' w',Grow E sz T w' base e v' (l++m)→W.grownBy w' v.ownBlock→(v'.ownBlock=v.ownBlock∨∃b,v'.ownBlock=some b∧W.heap.size≤b)→K (a.put o.dst v') w'):Oper.wp P o a W K Q:=by
 obtain ⟨v',w',hr,h2,h3,h4⟩:=run_growN (P:=P) W t t' o.type g hsz T base e e' i z bytes ht ht' hi hz hsize hby hzs v l hG m S A n c hX hS hn hb2 hbase
 unfold Oper.wp execOp
 simp only [ho,resolve,invoke,builtin,Sem.run_bind,Sem.run_pure,Result.andThen_ok,List.map_toArray,List.map_cons,List.map_nil,hs,hx,hr]
 exact h v' w' h2 h3 h4
theorem step_growN {P:Program} {ops:Array Oper} {o:Oper} {a:Act} {K:Act→World→Prop} {Q:Exit→Act→World→Prop} {F:Prop} (W:World) (hgd:o.guard=none) (s x:Operand) (t t':TypeId)
  (ho:o.op=.call { callee:=.builtin .append,args:=#[s,x],argTypes:=#[t,t'] }) (g:Good E sz) (hsz:0 < sz) (T:Nat→Prop) (base:Nat) (e e':TypeId) (i:TypeInfo) (z:Value) (bytes:Nat)
  (ht:P.underlying t=some (.slice e)) (ht':P.underlying t'=some (.slice e')) (hi:P.info? e=some i) (hz:i.zero=some z) (hsize:i.size=sz) (hby:i.bytes=bytes) (hzs:z.cells.size=sz)
  (v:Value) (l:List α) (hs:a.eval s=v) (hG:Grow E sz T W base e v l) (m:List α) (S:Nat→Prop) (A:Option Addr) (n c:Nat) (hx:a.eval x=.slice A n c) (hX:rdRow sz E W S m [.slice A n c]) (hS:∀b,S b→T b∧b < W.heap.size∧v.ownBlock≠some b)
  (hn:l.length+m.length≤maxLen) (hb2:(l.length+m.length)*bytes≤140737488355328) (hbase:base≤W.heap.size)
  (h:∀v' w',Grow E sz T w' base e v' (l++m)→W.grownBy w' v.ownBlock→(v'.ownBlock=v.ownBlock∨∃b,v'.ownBlock=some b∧W.heap.size≤b)→K (a.put o.dst v') w') :
  if Region.wanted o (yielded ops a.tmps)=true then Oper.wp P o a W K Q else F:=by
 have hw:Region.wanted o (yielded ops a.tmps)=true:=by simp [Region.wanted,hgd]
 rw [if_pos hw]
 exact wp_growN W s x t t' ho g hsz T base e e' i z bytes ht ht' hi hz hsize hby hzs v l hs hG m S A n c hx hX hS hn hb2 hbase h
end
set_option maxHeartbeats 8000000 in
theorem q3holds_any (op:Int) (a b:ByteArray) (w:World):Calls Tryz.prog 167 #[.int .i64 op,.string a,.string b] w fun e' w'=>e'=.returned (.bool (holdB op (B a) (B b)))∧Below w.heap.size w w':=by
 by_cases h0:op=0
 ·subst h0
  have X:=Lib.hid (show holdB 0 (B a) (B b)=true from rfl)
  go_enter Tryz.func167,Tryz.ntmps167
  go_wp2
  go_ret
  exact ⟨by rw [X.out];try rfl,Below.refl _ _⟩
 obtain ⟨E,e,U,R,hE,he,hU,hR,zU,zR,ca⟩:=parse_opened a
 obtain ⟨F,f,V,S,hF,hf,hV,hS,zV,zS,cb⟩:=parse_opened b
 have XO:=Lib.hid (show holdB op (B a) (B b)=(decide (e=0)&&decide (f=0)&&opB op (orderV (B a) (B b))) from by
  unfold holdB;rw [decide_eq_false h0,Bool.false_or,←he,←hf])
 have CA:=Lib.hid ca
 have CB:=Lib.hid cb
 have CO:=Lib.hid (fun w=>order_any a b w)
 have t0:(op==0)=false:=by rw [beq_eq_false_iff_ne];exact h0
 clear ca cb hE he hU hR hF hf hV hS h0
 generalize orderV (B a) (B b)=C at *
 generalize holdB op (B a) (B b)=O at XO ⊢
 go_enter Tryz.func167,Tryz.ntmps167
 go_wp2_with fail
 refine (CA.out _).mono ?_
 rintro e' w1 ⟨rfl,hb1⟩
 have s1:=hb1.size
 go_wp2_with fail
 refine (CB.out _).mono ?_
 rintro e' w2 ⟨rfl,hb2⟩
 obtain ⟨c0,c1,c2,s2⟩:=box_cells hb2
 have b2:Below w.heap.size w w2:=(hb1.alloc s1 _).trans (hb2.mono (by simp;omega))
 have b3:=Lib.hid (show Below w.heap.size w (w2.alloc (.cells #[.int .i64 F,.string V,.string S] 158)) from b2.alloc (by omega) _)
 have s3:w1.heap.size < w2.heap.size:=by omega
 clear b2 hb1 hb2
 by_cases he:e=0
 rotate_left
 ·have t1:(e != 0)=true:=by rw [bne_iff_ne];exact he
  have XF:=Lib.hid (show O=false by rw [XO.out,decide_eq_false he];rfl)
  clear he
  go_wp2
  go_ret
  exact ⟨by rw [XF.out];try rfl,b3.out⟩
 have t1:(e != 0)=false:=by rw [bne_eq_false_iff_eq];exact he
 by_cases hf:f=0
 rotate_left
 ·have t2:(f != 0)=true:=by rw [bne_iff_ne];exact hf
  have XF:=Lib.hid (show O=false by rw [XO.out,decide_eq_false hf,Bool.and_false];rfl)
  clear hf he
  go_wp2
  go_ret
  exact ⟨by rw [XF.out];try rfl,b3.out⟩
 have t2:(f != 0)=false:=by rw [bne_eq_false_iff_eq];exact hf
 have XF:=Lib.hid (show O=opB op C by rw [XO.out,decide_eq_true he,decide_eq_true hf];rfl)
 clear hf he XO
 go_wp2_with fail
 refine (CO.out _).mono ?_
 rintro e' w3 ⟨rfl,hb3⟩
 have B3:=Lib.hid (b3.out.trans (hb3.mono (by simp;omega)))
 clear hb3
 by_cases o1:op=1
 ·subst o1
  go_wp2
  go_ret
  exact ⟨by rw [XF.out];try rfl,B3.out⟩
 have t11:(op==1)=false:=by rw [beq_eq_false_iff_ne];exact o1
 by_cases o2:op=2
 ·subst o2
  go_wp2
  go_ret
  exact ⟨by rw [XF.out];try rfl,B3.out⟩
 have t12:(op==2)=false:=by rw [beq_eq_false_iff_ne];exact o2
 by_cases o3:op=3
 ·subst o3
  go_wp2
  go_ret
  exact ⟨by rw [XF.out];try rfl,B3.out⟩
 have t13:(op==3)=false:=by rw [beq_eq_false_iff_ne];exact o3
 by_cases o4:op=4
 ·subst o4
  go_wp2
  go_ret
  exact ⟨by rw [XF.out];try rfl,B3.out⟩
 have t14:(op==4)=false:=by rw [beq_eq_false_iff_ne];exact o4
 by_cases o5:op=5
 ·subst o5
  go_wp2
  go_ret
  exact ⟨by rw [XF.out];try rfl,B3.out⟩
 have t15:(op==5)=false:=by rw [beq_eq_false_iff_ne];exact o5
 have XG:=Lib.hid (show O=false by rw [XF.out];unfold opB;rw [if_neg o1,if_neg o2,if_neg o3,if_neg o4,if_neg o5])
 clear o1 o2 o3 o4 o5
 go_wp2
 go_ret
 exact ⟨by rw [XG.out];try rfl,B3.out⟩
theorem EntV.to {w wr:World} {S S':Nat→Prop} {x:Ent} {A1 A2 A3 A4:Option Addr} {c1 c2 c3 c4:Nat} (h:EntV w S x A1 c1 A2 c2 A3 c3 A4 c4) (h1:∀b,S b→wr.heap[b]?=w.heap[b]?) (h2:∀b,S b→S' b):EntV wr S' x A1 c1 A2 c2 A3 c3 A4 c4:=
 ⟨rdGrps_good.both h.d h1 h2,rdGrps_good.both h.r h1 h2,rdAtms_good.both h.c h1 h2,rdAtms_good.both h.p h1 h2⟩
end Go.Proofs.YtpilmhoakopcaaaGreatDoor
namespace Go.Proofs.YtpilmhoakopcaaaGreatDoor
open Go
section
variable {P:Program} {ops:Array Oper} {Q:Exit→Act→World→Prop} {md:Region.Mode} {S:World→Prop} {z:Nat}
theorem wpAnyL_two {i k:Nat} {o p:Oper} {fuel:Nat} {listed:Array Bool} {a:Act} {w:World} (hr:Region.ready md ops listed=[i,k]) (ho:ops[i]?=some o) (hp:ops[k]?=some p)
  (h:∀K':Act→World→Prop,Shut (∀a w,S w→(S w→wpAnyL P md ops Q S z fuel (listed.setIfInBounds i true) a w)→K' a w)→if Region.wanted o (yielded ops a.tmps)=true then Oper.wp P o a w K' Q else K' (a.put o.dst undef) w)
  (h2:∀K':Act→World→Prop,Shut (∀a w,S w→(S w→wpAnyL P md ops Q S z fuel (listed.setIfInBounds k true) a w)→K' a w)→if Region.wanted p (yielded ops a.tmps)=true then Oper.wp P p a w K' Q else K' (a.put p.dst undef) w) :
  wpAnyL P md ops Q S z (fuel+1) listed a w:=by
 refine ⟨fun h0=>(by rw [hr] at h0;cases h0),fun j hj=>?_⟩
 rw [hr] at hj
 rcases List.mem_cons.1 hj with rfl|hj
 ·exact wpOp_step ho fun K' hK=>h K' (fun a w hS hW=>hK a w ⟨fun _=>hS,hW hS⟩)
 ·rw [List.mem_singleton] at hj
  subst hj
  exact wpOp_step hp fun K' hK=>h2 K' (fun a w hS hW=>hK a w ⟨fun _=>hS,hW hS⟩)
end
end Go.Proofs.YtpilmhoakopcaaaGreatDoor
namespace Go.Proofs.YtpilmhoakopcaaaGreatDoor
open Go.RowKit
section
variable {α:Type} {E:Rd α} {sz:Nat} {ty:TypeId}
theorem rdRow_take {w:World} {S:Nat→Prop} {l:List α} {A:Option Addr} {n c k:Nat} (h:rdRow sz E w S l [.slice A n c]) (hk:k≤l.length):rdRow sz E w S (l.take k) [.slice A k c]:=by
 obtain ⟨A',c',e,h1,h2,h⟩:=h
 simp only [List.cons.injEq,Value.slice.injEq,and_true] at e
 obtain ⟨rfl,rfl,rfl⟩:=e
 have hlen:(l.take k).length=k:=by rw [List.length_take];omega
 refine ⟨A,c,by rw [hlen],by omega,h2,fun j hj=>?_⟩
 obtain ⟨ad,es,a1,a2,a3,a4,a5⟩:=h j (by omega)
 exact ⟨ad,es,a1,a2,by rw [List.getElem_take];exact a3,a4,a5⟩
theorem rdRow_drop {w:World} {S:Nat→Prop} {l:List α} {ad:Addr} {n c k:Nat} (h:rdRow sz E w S l [.slice (some ad) n c]) (hk:k≤l.length):rdRow sz E w S (l.drop k) [.slice (if c=k then some ad else some (ad.add (k*sz))) (n - k) (c - k)]:=by
 obtain ⟨A',c',e,h1,h2,h⟩:=h
 simp only [List.cons.injEq,Value.slice.injEq,and_true] at e
 obtain ⟨rfl,rfl,rfl⟩:=e
 have hlen:(l.drop k).length=l.length - k:=List.length_drop ..
 refine ⟨_,c - k,by rw [hlen],by omega,by omega,fun j hj=>?_⟩
 obtain ⟨ad',es,a1,a2,a3,a4,a5⟩:=h (k+j) (by omega)
 obtain rfl:ad=ad':=Option.some.inj a1
 have hck:¬c=k:=by omega
 refine ⟨ad.add (k*sz),es,by rw [if_neg hck],by rw [blk_add];exact a2,by rw [List.getElem_drop];exact a3,a4,fun t u ht=>?_⟩
 have e:(ad.add (k*sz)).add (j*sz+t)=ad.add ((k+j)*sz+t):=by
  rw [Nat.add_mul]
  unfold Addr.add
  by_cases h1:k*sz=0<;>by_cases h2:j*sz+t=0<;>simp [h1,h2,Nat.add_assoc]<;>omega
 rw [e];exact a5 t u ht
end
theorem le_or (a b:ByteArray):(Op.bytesLess a.toList b.toList||a.toList==b.toList)=!Op.bytesLess b.toList a.toList:=by
 rw [str_eq,Bool.eq_iff_iff,Bool.or_eq_true,decide_eq_true_iff,Bool.not_eq_true',Bool.eq_false_iff]
 constructor
 ·rintro (h|rfl) k
  ·exact blt_asym (a:=a) (b:=b) h k
  ·exact blt_self a k
 ·intro h
  rcases blt_tot a b with q|q|q
  ·exact .inl q
  ·exact absurd q h
  ·exact .inr q
theorem tw_step {α:Type} {p:α→Bool} {m:List α} {k:Nat} (hk:k < m.length) (h:m.takeWhile p=m.take k++(m.drop k).takeWhile p) (hp:p m[k]=true):m.takeWhile p=m.take (k+1)++(m.drop (k+1)).takeWhile p:=by
 rw [h,List.drop_eq_getElem_cons hk,List.takeWhile_cons_of_pos hp,List.take_succ_eq_append_getElem hk,List.append_assoc,List.singleton_append]
theorem tw_stop {α:Type} {p:α→Bool} {m:List α} {k:Nat} (hk:k≤m.length) (h:m.takeWhile p=m.take k++(m.drop k).takeWhile p) (hp:∀h:k < m.length,p m[k]=false):m.takeWhile p=m.take k∧m.dropWhile p=m.drop k:=by
 have e:(m.drop k).takeWhile p=[]:=by
  by_cases q:k < m.length
  ·rw [List.drop_eq_getElem_cons q,List.takeWhile_cons_of_neg (by rw [hp q];decide)]
  ·rw [List.drop_eq_nil_of_le (by omega)];rfl
 rw [e,List.append_nil] at h
 refine ⟨h,?_⟩
 have q:=List.takeWhile_append_dropWhile (p:=p) (l:=m)
 rw [h] at q
 exact List.append_cancel_left (q.trans (List.take_append_drop k m).symm)
set_option maxHeartbeats 16000000 in
theorem q7right_any (KR:∀(x:Ent) (A1:Option Addr) (c1:Nat) (A2:Option Addr) (c2:Nat) (A3:Option Addr) (c3:Nat) (A4:Option Addr) (c4:Nat) (w:World),EntV w (lt_ w.heap.size) x A1 c1 A2 c2 A3 c3 A4 c4→Sz x→Calls Tryz.prog 40 #[x.val A1 c1 A2 c2 A3 c3 A4 c4] w fun e w'=>e=.returned (.bool (rgtE x))∧Below w.heap.size w w') (A:Option Addr) (n c:Nat) (l:List Hr) (w:World) (h:rdHrs w (lt_ w.heap.size) l [.slice A n c]) (hz:∀x ∈ l,Sz x.e) :
  Calls Tryz.prog 38 #[.slice A n c] w fun e w'=>e=.returned (.bool (rightH l))∧Below w.heap.size w w':=by
 obtain ⟨rfl,hnc,hcm,hat⟩:=rdHrs_at h
 have hcm':c≤9223372036854775807:=hcm
 have HAT:=Lib.hid hat
 have HZ:=Lib.hid hz
 have N1:=Lib.hid (fun k (hk:k < l.length) hn=>ri_no (l:=l) (k:=k) hk hn)
 have N2:=Lib.hid (fun k (hk:k+1 < l.length) hn=>ri_dn (l:=l) (i:=k) hk hn)
 have N3:=Lib.hid (fun hn=>ri_all (l:=l) hn)
 clear hat h hz hcm
 generalize hR:rightH l=R at *
 clear hR
 go_enter Tryz.func38,Tryz.ntmps38
 go_wp2
 go_loopw [3] (fun i wr=>∃k:Nat,k≤l.length∧i=.int .i64 k∧RI l k∧Below w.heap.size w wr) (fun i _=>l.length - (intOf i).toNat)
 case atStart=>exact ⟨0,Nat.zero_le _,rfl,fun j _ hj=>absurd hj (Nat.not_lt_zero _),Below.refl _ _⟩
 case round=>
  obtain ⟨k,hk,rfl,hri,hb⟩:=hrel
  have HB:=Lib.hid hb
  have HI:=Lib.hid hri
  clear hri hb
  by_cases hlt:k < l.length
  ·obtain ⟨ad,A1,c1,A2,c2,A3,c3,A4,c4,rfl,had,hv,g0,g1,g2,g3,g4,g5,-,-⟩:=HAT.out k hlt
   have i0:(0:Int)≤(k:Int):=by omega
   have i1:(k:Int) < (l.length:Int):=by omega
   have K:=Lib.hid (KR l[k].e A1 c1 A2 c2 A3 c3 A4 c4 wr (hv.on HB.out) (HZ.out _ (List.getElem_mem hlt)))
   have K0:=Lib.hid g0
   have h0:=keep6 HB.out g0
   have h1:=keep6 HB.out g1
   have h2:=keep6 HB.out g2
   have h3:=keep6 HB.out g3
   have h4:=keep6 HB.out g4
   have h5:=keep6 HB.out g5
   have N1:=Lib.hid (N1.out k hlt)
   have NX:=Lib.hid (fun (hr:rgtE l[k].e=true) (hs:∀i (hi:i < l.length),k=i+1→blt l[i].e.n l[k].e.n)=>show RI l (k+1) from fun j hj hjk=>by
    by_cases e:j=k
    ·subst e;exact ⟨hr,hs⟩
    ·exact HI.out j hj (by omega))
   clear had hv g0 g1 g2 g3 g4 g5
   go_wp2_with fail
   refine K.out.mono ?_
   rintro e w3 ⟨rfl,hb⟩
   have HB3:=Lib.hid (bel_in HB.out hb)
   have k0:=keep6 HB3.out K0.out
   clear hb h0 h1 h2 h3 h4 h5 K
   generalize rgtE l[k].e=rb at *
   cases rb
   ·have X:=Lib.hid (N1.out rfl)
    go_wp2_with fail
    go_quiet (fail)
    go_wp2
    go_ret
    exact ⟨by rw [X.out];try rfl,HB3.out.trans (belD (Below.refl _ _) _)⟩
   rcases k with _|k
   ·have NX1:=Lib.hid (NX.out (by trivial) (fun i _ h=>by omega))
    go_wp2_with fail
    go_quiet (fail)
    go_wp2
    go_roundw
    case rel=>exact ⟨1,by omega,rfl,NX1.out,HB3.out.trans (belD (Below.refl _ _) _)⟩
    case measure=>simp [intOf];omega
   ·obtain ⟨ad',E1,e1,E2,e2,E3,e3,E4,e4,had',-,-,j0,-⟩:=HAT.out k (by omega)
    obtain rfl:ad=ad':=Option.some.inj had'
    have m0:=keep6 HB3.out j0
    have j1:(0:Int)≤(k:Int):=by omega
    have j2:(k:Int) < (l.length:Int):=by omega
    have hle:=le_or l[k+1].e.n l[k].e.n
    have N2:=Lib.hid (N2.out k hlt)
    have NX2:=Lib.hid (fun (hs:blt l[k].e.n l[k+1].e.n)=>NX.out (by trivial) (fun i hi h=>by
     obtain rfl:i=k:=by omega
     exact hs))
    clear had' j0
    generalize l[k+1].e.n=a at *
    generalize l[k].e.n=b at *
    by_cases hq:Op.bytesLess b.toList a.toList=true
    ·have NX3:=Lib.hid (NX2.out hq)
     rw [hq] at hle
     clear hq
     go_wp2_with fail
     go_quiet (fail)
     go_wp2
     go_roundw
     case rel=>exact ⟨k+1+1,by omega,by go_num,NX3.out,HB3.out.trans (belD (Below.refl _ _) _)⟩
     case measure=>simp [intOf];omega
    ·have X:=Lib.hid (N2.out (fun h=>hq h))
     rw [Bool.eq_false_iff.2 hq] at hle
     clear hq
     go_wp2_with fail
     go_quiet (fail)
     go_wp2
     go_ret
     exact ⟨by rw [X.out];try rfl,HB3.out.trans (belD (Below.refl _ _) _)⟩
  ·obtain rfl:k=l.length:=by omega
   have X:=Lib.hid (N3.out HI.out)
   by_cases h64:(l.length:Int)≤64
   ·have X:=Lib.hid (show R=true from X.out.trans (decide_eq_true (by omega)))
    go_wp2
    go_ret
    exact ⟨by rw [X.out];try rfl,HB.out⟩
   ·have X:=Lib.hid (show R=false from X.out.trans (decide_eq_false (by omega)))
    go_wp2
    go_ret
    exact ⟨by rw [X.out];try rfl,HB.out⟩
end Go.Proofs.YtpilmhoakopcaaaGreatDoor
namespace Go.Proofs.YtpilmhoakopcaaaGreatDoor
open Go.RowKit Go.Sort
theorem atm9_info:(Tryz.prog.info? 100).map (fun i=>(i.zero,i.size,i.bytes))=some (some (.agg #[.string { data:=#[] },.int .i64 0,.string { data:=#[] }]),3,40):=by kernel_rfl
theorem q3prov_any (n:ByteArray) (op:Int) (v gn:ByteArray) (gop:Int) (gv:ByteArray) (w:World):Calls Tryz.prog 154 #[.agg #[.string n,.int .i64 op,.string v],.agg #[.string gn,.int .i64 gop,.string gv]] w fun e' w'=>e'=.returned (.bool (provB (B n) op (B v) (B gn) gop (B gv)))∧Below w.heap.size w w':=by
 have hs:=strings_eq n gn
 have B0:=Lib.hid (show Below w.heap.size w ((w.alloc (.cells #[.string n,.int .i64 op,.string v] 100)).alloc (.cells #[.string gn,.int .i64 gop,.string gv] 100)) from ((Below.refl _ w).alloc (Nat.le_refl _) _).alloc (by simp) _)
 by_cases hn:B n=B gn
 ·rw [decide_eq_true hn] at hs
  by_cases h0:op=0
  ·have X:=Lib.hid (show provB (B n) op (B v) (B gn) gop (B gv)=true by unfold provB;rw [decide_eq_true hn,decide_eq_true h0];rfl)
   have t0:(op==0)=true:=by rw [beq_iff_eq];exact h0
   clear hn h0
   go_enter Tryz.func154,Tryz.ntmps154
   go_wp2
   go_ret
   exact ⟨by rw [X.out];rfl,B0.out⟩
  ·have t0:(op==0)=false:=by rw [beq_eq_false_iff_ne];exact h0
   by_cases h3:gop=3
   ·have X:=Lib.hid (show provB (B n) op (B v) (B gn) gop (B gv)=holdB op (B gv) (B v) by unfold provB;rw [decide_eq_true hn,decide_eq_false h0,decide_eq_true h3];rfl)
    have t3:(gop==3)=true:=by rw [beq_iff_eq];exact h3
    have KH:=Lib.hid (fun w=>q3holds_any op gv v w)
    clear hn h0 h3
    go_enter Tryz.func154,Tryz.ntmps154
    go_wp2_with fail
    refine (KH.out _).mono ?_
    rintro e' w1 ⟨rfl,hb⟩
    have B1:=Lib.hid (bel_in B0.out hb)
    clear hb
    go_wp2
    go_ret
    exact ⟨by rw [X.out];rfl,B1.out⟩
   ·have X:=Lib.hid (show provB (B n) op (B v) (B gn) gop (B gv)=false by unfold provB;rw [decide_eq_true hn,decide_eq_false h0,decide_eq_false h3];rfl)
    have t3:(gop==3)=false:=by rw [beq_eq_false_iff_ne];exact h3
    clear hn h0 h3
    go_enter Tryz.func154,Tryz.ntmps154
    go_wp2
    go_ret
    exact ⟨by rw [X.out];rfl,B0.out⟩
 ·have X:=Lib.hid (show provB (B n) op (B v) (B gn) gop (B gv)=false by unfold provB;rw [decide_eq_false hn];rfl)
  rw [decide_eq_false hn] at hs
  clear hn
  go_enter Tryz.func154,Tryz.ntmps154
  go_wp2
  go_ret
  exact ⟨by rw [X.out];rfl,B0.out⟩
set_option maxHeartbeats 4000000 in
theorem q6gives_any (x:Ent) (A1:Option Addr) (c1:Nat) (A2:Option Addr) (c2:Nat) (A3:Option Addr) (c3:Nat) (A4:Option Addr) (c4:Nat) (w:World) (hx:EntV w (lt_ w.heap.size) x A1 c1 A2 c2 A3 c3 A4 c4) (hp:x.p.length≤1000) :
  Calls Tryz.prog 153 #[x.val A1 c1 A2 c2 A3 c3 A4 c4] w fun e w'=>(∃A c,e=.returned (.slice A (gvs x).length c)∧rdAtms w' (fun b=>w.heap.size≤b∧b < w'.heap.size) (gvs x) [.slice A (gvs x).length c])∧Below w.heap.size w w':=by
 obtain ⟨n,v,d,r,c,p⟩:=x
 obtain ⟨fi,hi,hz0,hz1,hz2⟩:=info_parts atm9_info
 have HP:=Lib.hid hx.p
 obtain ⟨_,hc4,hm4,_⟩:=rdAtms_at hx.p
 have hm4':c4≤9223372036854775807:=hm4
 simp only at hp hc4
 have hq1:1+p.length≤maxLen:=by unfold maxLen;omega
 have hq2:(1+p.length)*40≤140737488355328:=by omega
 obtain ⟨W3,hW3⟩:∃W,W=((w.alloc (.cells #[.string n,.string v,.slice A1 d.length c1,.slice A2 r.length c2,.slice A3 c.length c3,.slice A4 p.length c4] 60)).alloc (.cells #[.string n,.int .i64 3,.string v] 100)):=⟨_,rfl⟩
 have GE:=Lib.hid (show Grow rdAtm 3 (fun _=>True) W3 w.heap.size 100 (.slice (some ⟨w.heap.size+1,0,none⟩) 1 1) [⟨n,3,v⟩] from gr_self (by
  rw [hW3]
  have:=heap_alloc_new (w.alloc (.cells #[.string n,.string v,.slice A1 d.length c1,.slice A2 r.length c2,.slice A3 c.length c3,.slice A4 p.length c4] 60)) (.cells #[.string n,.int .i64 3,.string v] 100)
  rw [World.size_alloc] at this
  exact this) (by omega))
 have B3:=Lib.hid (show Below w.heap.size w W3 by rw [hW3];exact ((Below.refl _ w).alloc (Nat.le_refl _) _).alloc (by simp) _)
 have XE:=Lib.hid (rdAtms_good.below HP.out B3.out)
 have SE:=Lib.hid (show ∀b,lt_ w.heap.size b→True∧b < W3.heap.size∧(Value.slice (some ⟨w.heap.size+1,0,none⟩) 1 1).ownBlock≠some b from fun b hb=>⟨trivial,Nat.lt_of_lt_of_le hb B3.out.size,fun hh=>by simp only [Value.ownBlock,Option.some.injEq] at hh;unfold lt_ at hb;omega⟩)
 have hs3:=Lib.hid B3.out.size
 show Calls Tryz.prog 153 #[.agg #[.string n,.string v,.slice A1 d.length c1,.slice A2 r.length c2,.slice A3 c.length c3,.slice A4 p.length c4]] w _
 clear hx hp hm4
 go_enter Tryz.func153,Tryz.ntmps153
 go_wp2_with (at_builtin;rw [←hW3];refine wpList_growN W3 rfl _ _ 58 58 rfl rdAtm_good (by decide) (fun _=>True) w.heap.size 100 100 fi (.agg #[.string { data:=#[] },.int .i64 0,.string { data:=#[] }]) 40 Tryz.underlying58 Tryz.underlying58 hi hz0 hz1 hz2 rfl _ _ rfl GE.out p _ A4 p.length c4 rfl XE.out SE.out hq1 hq2 hs3.out ?_)
 intro v5 w5 hG5 hg5
 have B5:=Lib.hid (grow_below GE.out (by rw [hW3];exact hg5) B3.out (Nat.le_refl _) hs3.out)
 have R5:=Lib.hid (show rdAtms w5 (fun b=>w.heap.size≤b∧b < w5.heap.size) (gvs ⟨n,v,d,r,c,p⟩) [v5] from by
  have h2:Grow rdAtm 3 (fun _=>False) w5 w.heap.size 100 v5 (gvs ⟨n,v,d,r,c,p⟩):=Grow.flat (fun _ _ _ _ _ h=>h) (show Grow rdAtm 3 (fun _=>True) w5 w.heap.size 100 v5 (gvs ⟨n,v,d,r,c,p⟩) from hG5)
  exact rdAtms_good.more (h2.reads rdAtm_good) fun b hb=>⟨hb.2.resolve_right id,hb.1⟩)
 obtain ⟨A5,c5,hv5,_⟩:=id R5.out
 simp only [List.cons.injEq,and_true] at hv5
 subst hv5
 clear hG5 hg5 GE XE SE hW3
 go_wp2
 go_ret
 exact ⟨⟨A5,c5,rfl,R5.out⟩,B5.out⟩
end Go.Proofs.YtpilmhoakopcaaaGreatDoor
namespace Go.Proofs.YtpilmhoakopcaaaGreatDoor
open Go.RowKit
set_option maxHeartbeats 8000000 in
theorem q6less_any (x y:Ent) (A1:Option Addr) (c1:Nat) (A2:Option Addr) (c2:Nat) (A3:Option Addr) (c3:Nat) (A4:Option Addr) (c4:Nat) (A1y:Option Addr) (c1y:Nat) (A2y:Option Addr) (c2y:Nat) (A3y:Option Addr) (c3y:Nat) (A4y:Option Addr) (c4y:Nat) (w:World) :
  Calls Tryz.prog 77 #[x.val A1 c1 A2 c2 A3 c3 A4 c4,y.val A1y c1y A2y c2y A3y c3y A4y c4y] w fun e w'=>e=.returned (.bool (lesB x y))∧Below w.heap.size w w':=by
 have X:=Lib.hid (show lesB x y=if x.n=y.n then (decide (orderV (B x.v) (B y.v) < 0)||(orderV (B x.v) (B y.v)==0&&Op.bytesLess x.v.toList y.v.toList)) else Op.bytesLess x.n.toList y.n.toList from rfl)
 have KO:=Lib.hid (fun (W:World)=>order_any x.v y.v W)
 have en:=str_eq x.n y.n
 generalize lesB x y=b at *
 generalize orderV (B x.v) (B y.v)=iV at *
 obtain ⟨n,v,d,r,c,p⟩:=x
 obtain ⟨ny,vy,dy,ry,cy,py⟩:=y
 simp only at X KO en
 show Calls Tryz.prog 77 #[.agg #[.string n,.string v,.slice A1 d.length c1,.slice A2 r.length c2,.slice A3 c.length c3,.slice A4 p.length c4],.agg #[.string ny,.string vy,.slice A1y dy.length c1y,.slice A2y ry.length c2y,.slice A3y cy.length c3y,.slice A4y py.length c4y]] w _
 obtain ⟨W1,hW1⟩:∃W,W=((w.alloc (.cells #[.string n,.string v,.slice A1 d.length c1,.slice A2 r.length c2,.slice A3 c.length c3,.slice A4 p.length c4] 60)).alloc (.cells #[.string ny,.string vy,.slice A1y dy.length c1y,.slice A2y ry.length c2y,.slice A3y cy.length c3y,.slice A4y py.length c4y] 60)):=⟨_,rfl⟩
 have B1:=Lib.hid (show Below w.heap.size w W1 by rw [hW1];exact ((Below.refl _ w).alloc (Nat.le_refl _) _).alloc (by simp) _)
 have x0:W1.cell? ⟨w.heap.size,0,none⟩=some (.string n):=by rw [hW1];simp [go_sem]
 have x1:W1.cell? ⟨w.heap.size,1,none⟩=some (.string v):=by rw [hW1];simp [go_sem]
 have y0:W1.cell? ⟨w.heap.size+1,0,none⟩=some (.string ny):=by rw [hW1];simp [go_sem]
 have y1:W1.cell? ⟨w.heap.size+1,1,none⟩=some (.string vy):=by rw [hW1];simp [go_sem]
 by_cases hn:n=ny
 ·rw [decide_eq_true hn] at en
  have XN:=Lib.hid (X.out.trans (if_pos hn))
  clear X
  have HN:=Lib.hid hn
  clear hn
  go_enter Tryz.func77,Tryz.ntmps77
  go_wp2_with fail
  rw [←hW1]
  clear hW1
  go_wp2_with fail
  refine (KO.out _).mono ?_
  rintro e w2 ⟨rfl,hb⟩
  have k0:=keep6 hb x1
  have k1:=keep6 hb y1
  have B2:=Lib.hid (B1.out.trans (hb.mono B1.out.size))
  clear x0 x1 y0 y1 hb
  rcases Int.lt_trichotomy iV 0 with q|q|q
  ·have XX:=Lib.hid (show b=true by rw [XN.out,decide_eq_true q];rfl)
   go_wp2
   go_ret
   exact ⟨by rw [XX.out];try rfl,B2.out⟩
  ·have XX:=Lib.hid (show b=Op.bytesLess v.toList vy.toList by rw [XN.out,q];rfl)
   subst q
   go_wp2
   go_ret
   exact ⟨by rw [XX.out];try rfl,B2.out⟩
  ·have XX:=Lib.hid (show b=false by rw [XN.out,decide_eq_false (by omega),beq_eq_false_iff_ne.2 (by omega)];rfl)
   have HQ:=Lib.hid (show decide (iV < 0)=false from decide_eq_false (by omega))
   have q2:(iV==0)=false:=beq_eq_false_iff_ne.2 (by omega)
   go_wp2
   go_ret
   exact ⟨by rw [XX.out];exact congrArg (fun q=>Ending.returned (.bool q)) HQ.out,B2.out⟩
 ·rw [decide_eq_false hn] at en
  have XN:=Lib.hid (X.out.trans (if_neg hn))
  clear X hn
  go_enter Tryz.func77,Tryz.ntmps77
  go_wp2_with fail
  rw [←hW1]
  clear hW1
  go_wp2
  go_ret
  exact ⟨by rw [XN.out];try rfl,B1.out⟩
def UR (w:World) (b:Nat) (l:List Ent) (m:List Hr):Prop:=
 ∃A c A' c',w.cell? ⟨b,0,none⟩=some (.slice A l.length c)∧w.cell? ⟨b,1,none⟩=some (.slice A' m.length c')∧rdEnts w (fun k=>k < w.heap.size∧k≠b) l [.slice A l.length c]∧rdHrs w (fun k=>k < w.heap.size∧k≠b) m [.slice A' m.length c']
theorem UR.below {w w':World} {b:Nat} {l:List Ent} {m:List Hr} (h:UR w b l m) (hB:Below w.heap.size w w'):UR w' b l m:=by
 obtain ⟨A,c,A',c',h1,h2,h3,h4⟩:=h
 exact ⟨A,c,A',c',keep6 hB h1,keep6 hB h2,rdEnts_good.both h3 (fun k hk=>hB.block k hk.1) (fun k hk=>⟨Nat.lt_of_lt_of_le hk.1 hB.size,hk.2⟩),rdHrs_good.both h4 (fun k hk=>hB.block k hk.1) (fun k hk=>⟨Nat.lt_of_lt_of_le hk.1 hB.size,hk.2⟩)⟩
theorem plU_step {n v:ByteArray} {l:List Ent} {k:Nat} (hk:k < l.length):(l[k].n=n∧l[k].v=v→plU n v (l.drop k) k=(k:Int))∧(¬(l[k].n=n∧l[k].v=v)→plU n v (l.drop k) k=plU n v (l.drop (k+1)) (k+1)):=by
 rw [List.drop_eq_getElem_cons hk,plU_cons]
 exact ⟨fun h=>if_pos h,fun h=>if_neg h⟩
set_option maxHeartbeats 8000000 in
theorem q9place_any (b:Nat) (l:List Ent) (m:List Hr) (n v:ByteArray) (w:World) (h:UR w b l m) :
  Calls Tryz.prog 41 #[.pointer (some ⟨b,0,none⟩),.string n,.string v] w fun e w'=>e=.returned (.int .i64 (plU n v l 0))∧Dr w w':=by
 obtain ⟨A,c,A',c',h1,-,h3,-⟩:=h
 obtain ⟨-,hnc,hcm,-⟩:=rdEnts_at h3
 have hcm':c≤9223372036854775807:=hcm
 clear hcm
 go_enter Tryz.func41,Tryz.ntmps41
 go_wp2
 go_loopw [7] (fun i wr=>∃k:Nat,k≤l.length∧i=.int .i64 k∧plU n v l 0=plU n v (l.drop k) k∧Dr w wr) (fun i _=>l.length - (intOf i).toNat)
 case atStart=>exact ⟨0,Nat.zero_le _,rfl,rfl,Dr.refl _⟩
 case round=>
  obtain ⟨k,hk,rfl,hall,hbel⟩:=hrel
  have HA:=Lib.hid hall
  have HB:=Lib.hid hbel
  clear hall
  have b0:wr.cell? ⟨b,0,none⟩=some (.slice A l.length c):=keep6 (hbel.below _) h1
  by_cases hlt:k < l.length
  ·obtain ⟨_,_,_,hat⟩:=rdEnts_at (rdEnts_good.keep (w':=wr) h3 (fun k hk=>(hbel.below w.heap.size).block k hk.1))
   obtain ⟨ad,D1,e1,D2,e2,D3,e3,D4,e4,rfl,had,hv,h0,h1',_⟩:=hat k hlt
   have i0:(0:Int)≤(k:Int):=by omega
   have i1:(k:Int) < (l.length:Int):=by omega
   have ST:=Lib.hid (plU_step (n:=n) (v:=v) hlt)
   have en:=str_eq l[k].n n
   have ev:=str_eq l[k].v v
   clear had hat hv hbel h3 h1
   generalize l[k]=y at *
   rcases (by
    by_cases g0:y.n=n
    ·by_cases g3:y.v=v
     ·exact .inl ⟨g0,g3⟩
     ·exact .inr (.inl ⟨g0,g3⟩)
    ·exact .inr (.inr g0):(y.n=n∧y.v=v)∨(y.n=n∧y.v≠v)∨y.n≠n) with ⟨g,g'⟩|⟨g,g'⟩|g
   ·rw [decide_eq_true g] at en
    rw [decide_eq_true g'] at ev
    have XX:=Lib.hid (show plU n v l 0=(k:Int) from HA.out.trans (ST.out.1 ⟨g,g'⟩))
    clear g g'
    go_wp2
    go_ret
    exact ⟨by rw [XX.out];try rfl,HB.out⟩
   ·rw [decide_eq_true g] at en
    rw [decide_eq_false g'] at ev
    have NX:=Lib.hid (show plU n v l 0=plU n v (l.drop (k+1)) (k+1) from HA.out.trans (ST.out.2 (fun q=>g' q.2)))
    clear g g'
    go_wp2
    go_roundw
    case rel=>exact ⟨k+1,by omega,by go_num,NX.out,HB.out⟩
    case measure=>simp [intOf];omega
   ·rw [decide_eq_false g] at en
    have NX:=Lib.hid (show plU n v l 0=plU n v (l.drop (k+1)) (k+1) from HA.out.trans (ST.out.2 (fun q=>g q.1)))
    clear g
    go_wp2
    go_roundw
    case rel=>exact ⟨k+1,by omega,by go_num,NX.out,HB.out⟩
    case measure=>simp [intOf];omega
  ·obtain rfl:k=l.length:=by omega
   have XX:=Lib.hid (show plU n v l 0=-1 by rw [HA.out,List.drop_length];rfl)
   clear h3 h1 hbel
   go_wp2
   go_ret
   exact ⟨by rw [XX.out];try rfl,HB.out⟩
end Go.Proofs.YtpilmhoakopcaaaGreatDoor
