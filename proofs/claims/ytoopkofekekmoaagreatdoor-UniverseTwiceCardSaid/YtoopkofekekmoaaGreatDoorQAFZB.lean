/- What the laws rest on: E7a, E7b, E7d, OrderP, E6m, Deep4, Deep3, E6k, E7c, E7g. -/
import Derived.RegionTactic
import Derived.Laws.OwnMore
import Derived.Test.YtoopkofekekmoaaGreatDoorQABZB
set_option maxRecDepth 100000
set_option linter.unusedVariables false
set_option linter.unusedSimpArgs false
namespace Go.Proofs.YtoopkofekekmoaaGreatDoor
open Go.RowKit
structure Hr where
 e:Ent
 a:Bool
 h:Bool
deriving instance DecidableEq for Hr
def rdHr:Rd Hr:=fun w S x cs=>∃es,cs=es++[.bool x.a,.bool x.h]∧rdEnt w S x.e es
theorem rdHr_good:Good rdHr 8 where
 keep:=by
  rintro w w' S x cs ⟨es,e,h⟩ hk
  exact ⟨es,e,rdEnt_good.keep h hk⟩
 more:=by
  rintro w S S' x cs ⟨es,e,h⟩ hm
  exact ⟨es,e,rdEnt_good.more h hm⟩
 turn:=by
  rintro w w' S x cs row ⟨es,e,h⟩ hg hr
  exact ⟨es,e,rdEnt_good.turn h hg hr⟩
 len:=by
  rintro w S x cs ⟨es,rfl,h⟩
  rw [List.length_append,rdEnt_good.len h];rfl
 one:=by
  rintro w S x cs ⟨es,rfl,h⟩ u hu
  rcases List.mem_append.1 hu with hu|hu
  ·exact rdEnt_good.one h u hu
  ·simp only [List.mem_cons,List.not_mem_nil,or_false] at hu
   rcases hu with rfl|rfl<;>rfl
abbrev rdHrs:Rd (List Hr):=rdRow 8 rdHr
theorem rdHrs_good:Good rdHrs 1:=rdRow_good rdHr_good
theorem rdHrs_at {w:World} {S:Nat→Prop} {l:List Hr} {A:Option Addr} {n c:Nat} (h:rdHrs w S l [.slice A n c]):n=l.length∧n≤c∧c≤maxLen∧∀k (hk:k < l.length),∃ad A1 c1 A2 c2 A3 c3 A4 c4,A=some ad∧S ad.block∧EntV w S l[k].e A1 c1 A2 c2 A3 c3 A4 c4∧
  w.cell? (ad.add (k*8))=some (.string l[k].e.n)∧w.cell? ⟨(ad.add (k*8)).block,(ad.add (k*8)).off+1,none⟩=some (.string l[k].e.v)∧w.cell? ⟨(ad.add (k*8)).block,(ad.add (k*8)).off+2,none⟩=some (.slice A1 l[k].e.d.length c1)∧
  w.cell? ⟨(ad.add (k*8)).block,(ad.add (k*8)).off+3,none⟩=some (.slice A2 l[k].e.r.length c2)∧w.cell? ⟨(ad.add (k*8)).block,(ad.add (k*8)).off+4,none⟩=some (.slice A3 l[k].e.c.length c3)∧w.cell? ⟨(ad.add (k*8)).block,(ad.add (k*8)).off+5,none⟩=some (.slice A4 l[k].e.p.length c4)∧
  w.cell? ⟨(ad.add (k*8)).block,(ad.add (k*8)).off+6,none⟩=some (.bool l[k].a)∧w.cell? ⟨(ad.add (k*8)).block,(ad.add (k*8)).off+7,none⟩=some (.bool l[k].h):=by
 obtain ⟨A',c',e,h1,h2,h⟩:=h
 simp only [List.cons.injEq,Value.slice.injEq,and_true] at e
 obtain ⟨rfl,rfl,rfl⟩:=e
 refine ⟨rfl,h1,h2,fun k hk=>?_⟩
 obtain ⟨ad,es,e,hS,⟨es6,rfl,⟨dv,rv,cv,pv,rfl,g1,g2,g3,g4⟩⟩,hl,hc⟩:=h k hk
 obtain ⟨A1,c1,e1,_⟩:=id g1
 obtain ⟨A2,c2,e2,_⟩:=id g2
 obtain ⟨A3,c3,e3,_⟩:=id g3
 obtain ⟨A4,c4,e4,_⟩:=id g4
 simp only [List.cons.injEq,and_true] at e1 e2 e3 e4
 subst e1
 subst e2
 subst e3
 subst e4
 exact ⟨ad,A1,c1,A2,c2,A3,c3,A4,c4,e,hS,⟨g1,g2,g3,g4⟩,hc 0 _ rfl,by rw [off_add ad (k*8) 1 (by omega)];exact hc 1 _ rfl,by rw [off_add ad (k*8) 2 (by omega)];exact hc 2 _ rfl,by rw [off_add ad (k*8) 3 (by omega)];exact hc 3 _ rfl,by rw [off_add ad (k*8) 4 (by omega)];exact hc 4 _ rfl,by rw [off_add ad (k*8) 5 (by omega)];exact hc 5 _ rfl,by rw [off_add ad (k*8) 6 (by omega)];exact hc 6 _ rfl,by rw [off_add ad (k*8) 7 (by omega)];exact hc 7 _ rfl⟩
set_option maxHeartbeats 1000000 in
theorem sameAtoms7_any (A A':Option Addr) (n c n' c':Nat) (l m:List Atm) (w:World) (h:rdAtms w (lt_ w.heap.size) l [.slice A n c]) (h':rdAtms w (lt_ w.heap.size) m [.slice A' n' c']) :
  Calls Tryz.prog 68 #[.slice A n c,.slice A' n' c'] w fun e w'=>e=.returned (.bool (decide (l=m)))∧Dr w w':=by
 obtain ⟨rfl,hnc,hcm,_⟩:=rdAtms_at h
 obtain ⟨rfl,hnc',hcm',_⟩:=rdAtms_at h'
 have hcm1:c≤9223372036854775807:=hcm
 have hcm2:c'≤9223372036854775807:=hcm'
 by_cases hlen:l.length=m.length
 ·have hd:((l.length:Int) != (m.length:Int))=false:=by rw [hlen];simp
  have HL:=Lib.hid hlen
  clear hlen
  go_enter Tryz.func68,Tryz.ntmps68
  go_wp2
  go_loopw [5] (fun i wr=>∃k:Nat,k≤l.length∧i=.int .i64 k∧l.take k=m.take k∧Dr w wr) (fun i _=>l.length - (intOf i).toNat)
  case atStart=>exact ⟨0,Nat.zero_le _,rfl,rfl,Dr.refl _⟩
  case round=>
   obtain ⟨k,hk,rfl,htk,hbel⟩:=hrel
   by_cases hlt:k < l.length
   ·obtain ⟨_,_,_,ha⟩:=rdAtms_at (rdAtms_good.below h (hbel.below _))
    obtain ⟨_,_,_,hb⟩:=rdAtms_at (rdAtms_good.below h' (hbel.below _))
    have hltm:k < m.length:=by rw [←HL.out];exact hlt
    obtain ⟨ad,rfl,had,h0,h1,h2⟩:=ha k hlt
    obtain ⟨ad',rfl,had',g0,g1,g2⟩:=hb k hltm
    have T:=Lib.hid (same_take (l:=l) (m:=m) HL.out hlt hltm htk)
    have Z:=Lib.hid (show l[k]≠m[k]→l≠m from fun hn e=>hn (by subst e;rfl))
    have HB:=Lib.hid hbel
    have hki:(k:Int) < (m.length:Int):=by omega
    clear htk ha hb hbel h h'
    have hq:=neq_atm l[k] m[k]
    generalize l[k]=x at *
    generalize m[k]=y at *
    by_cases he:x=y
    ·rw [decide_eq_true he] at hq
     have HE:=Lib.hid he
     clear he
     go_wp2_with fail
     go_quiet (fail)
     go_wp2
     go_roundw
     case rel=>exact ⟨k+1,by omega,by go_num,T.out HE.out,HB.out.more _⟩
     case measure=>simp [intOf];omega
    ·rw [decide_eq_false he] at hq
     have HE:=Lib.hid he
     clear he
     go_wp2_with fail
     go_quiet (fail)
     go_wp2
     go_ret
     exact ⟨by rw [decide_eq_false (Z.out HE.out)];try rfl,HB.out.more _⟩
   ·obtain rfl:k=l.length:=by omega
    have X:=Lib.hid (show l=m by rw [List.take_length] at htk;rw [htk,HL.out,List.take_length])
    clear htk h h'
    go_wp2
    go_ret
    exact ⟨by rw [decide_eq_true X.out];try rfl,hbel⟩
 ·have hd:((l.length:Int) != (m.length:Int))=true:=by rw [bne_iff_ne];omega
  have X:=Lib.hid (show l≠m by rintro rfl;exact hlen rfl)
  clear hlen
  go_enter Tryz.func68,Tryz.ntmps68
  go_wp2
  go_ret
  exact ⟨by rw [decide_eq_false X.out];try rfl,Dr.refl _⟩
set_option maxHeartbeats 1000000 in
theorem sameGroups7_any (A A':Option Addr) (n c n' c':Nat) (l m:List (List Atm)) (w:World) (h:rdGrps w (lt_ w.heap.size) l [.slice A n c]) (h':rdGrps w (lt_ w.heap.size) m [.slice A' n' c']) :
  Calls Tryz.prog 67 #[.slice A n c,.slice A' n' c'] w fun e w'=>e=.returned (.bool (decide (l=m)))∧Dr w w':=by
 obtain ⟨rfl,hnc,hcm,_⟩:=rdGrps_at h
 obtain ⟨rfl,hnc',hcm',_⟩:=rdGrps_at h'
 have hcm1:c≤9223372036854775807:=hcm
 have hcm2:c'≤9223372036854775807:=hcm'
 by_cases hlen:l.length=m.length
 ·have hd:((l.length:Int) != (m.length:Int))=false:=by rw [hlen];simp
  have HL:=Lib.hid hlen
  clear hlen
  go_enter Tryz.func67,Tryz.ntmps67
  go_wp2
  go_loopw [5] (fun i wr=>∃k:Nat,k≤l.length∧i=.int .i64 k∧l.take k=m.take k∧Dr w wr) (fun i _=>l.length - (intOf i).toNat)
  case atStart=>exact ⟨0,Nat.zero_le _,rfl,rfl,Dr.refl _⟩
  case round=>
   obtain ⟨k,hk,rfl,htk,hbel⟩:=hrel
   by_cases hlt:k < l.length
   ·obtain ⟨_,_,_,ha⟩:=rdGrps_at (rdGrps_good.below h (hbel.below _))
    obtain ⟨_,_,_,hb⟩:=rdGrps_at (rdGrps_good.below h' (hbel.below _))
    have hltm:k < m.length:=by rw [←HL.out];exact hlt
    obtain ⟨ad,X,cx,rfl,had,h0,h1⟩:=ha k hlt
    obtain ⟨ad',Y,cy,rfl,had',g0,g1⟩:=hb k hltm
    have T:=Lib.hid (same_take (l:=l) (m:=m) HL.out hlt hltm htk)
    have Z:=Lib.hid (show l[k]≠m[k]→l≠m from fun hn e=>hn (by subst e;rfl))
    have HB:=Lib.hid hbel
    have hki:(k:Int) < (m.length:Int):=by omega
    have hsz:=hbel.size
    have K:=Lib.hid (fun nq=>sameAtoms7_any _ _ _ _ _ _ _ _ (wr.drewN nq) (rdAtms_good.below (rdAtms_good.up h1 (Nat.le_of_eq hsz.symm)) (belD (Below.refl _ _) nq)) (rdAtms_good.below (rdAtms_good.up g1 (Nat.le_of_eq hsz.symm)) (belD (Below.refl _ _) nq)))
    clear htk ha hb hbel h h' h1 g1 hsz
    generalize l[k]=x at *
    generalize m[k]=y at *
    by_cases he:x=y
    ·rw [decide_eq_true he] at K
     have HE:=Lib.hid he
     clear he
     go_wp2_with fail
     go_quiet (first|(go_at_call 68;refine Calls.quiet_of (K.out _)))
     go_wp2
     go_roundw
     case rel=>exact ⟨k+1,by omega,by go_num,T.out HE.out,HB.out.more _⟩
     case measure=>simp [intOf];omega
    ·rw [decide_eq_false he] at K
     have HE:=Lib.hid he
     clear he
     go_wp2_with fail
     go_quiet (first|(go_at_call 68;refine Calls.quiet_of (K.out _)))
     go_wp2
     go_ret
     exact ⟨by rw [decide_eq_false (Z.out HE.out)];try rfl,HB.out.more _⟩
   ·obtain rfl:k=l.length:=by omega
    have X:=Lib.hid (show l=m by rw [List.take_length] at htk;rw [htk,HL.out,List.take_length])
    clear htk h h'
    go_wp2
    go_ret
    exact ⟨by rw [decide_eq_true X.out];try rfl,hbel⟩
 ·have hd:((l.length:Int) != (m.length:Int))=true:=by rw [bne_iff_ne];omega
  have X:=Lib.hid (show l≠m by rintro rfl;exact hlen rfl)
  clear hlen
  go_enter Tryz.func67,Tryz.ntmps67
  go_wp2
  go_ret
  exact ⟨by rw [decide_eq_false X.out];try rfl,Dr.refl _⟩
abbrev al67E (w:World) (n v n' v':ByteArray) (A1:Option Addr) (l1 c1:Nat) (A2:Option Addr) (l2 c2:Nat) (A3:Option Addr) (l3 c3:Nat) (A4:Option Addr) (l4 c4:Nat) (B1:Option Addr) (m1 d1:Nat) (B2:Option Addr) (m2 d2:Nat) (B3:Option Addr) (m3 d3:Nat) (B4:Option Addr) (m4 d4:Nat):World:=
 (w.alloc (.cells #[.string n,.string v,.slice A1 l1 c1,.slice A2 l2 c2,.slice A3 l3 c3,.slice A4 l4 c4] 53)).alloc (.cells #[.string n',.string v',.slice B1 m1 d1,.slice B2 m2 d2,.slice B3 m3 d3,.slice B4 m4 d4] 53)
set_option maxHeartbeats 8000000 in
theorem sameEnt7_any (x y:Ent) (A1:Option Addr) (c1:Nat) (A2:Option Addr) (c2:Nat) (A3:Option Addr) (c3:Nat) (A4:Option Addr) (c4:Nat) (B1:Option Addr) (d1:Nat) (B2v:Option Addr) (d2:Nat) (B3:Option Addr) (d3:Nat) (B4:Option Addr) (d4:Nat) (w:World) (hx:EntV w (lt_ w.heap.size) x A1 c1 A2 c2 A3 c3 A4 c4) (hy:EntV w (lt_ w.heap.size) y B1 d1 B2v d2 B3 d3 B4 d4) :
  Calls Tryz.prog 44 #[x.val A1 c1 A2 c2 A3 c3 A4 c4,y.val B1 d1 B2v d2 B3 d3 B4 d4] w fun e w'=>e=.returned (.bool (decide (x=y)))∧Below w.heap.size w w':=by
 obtain ⟨n,v,d,r,c,p⟩:=x
 obtain ⟨n',v',d',r',c',p'⟩:=y
 have B2:=Lib.hid (show Below w.heap.size w (al67E w n v n' v' A1 d.length c1 A2 r.length c2 A3 c.length c3 A4 p.length c4 B1 d'.length d1 B2v r'.length d2 B3 c'.length d3 B4 p'.length d4) from ((Below.refl _ w).alloc (Nat.le_refl _) _).alloc (by simp) _)
 have KX:=Lib.hid (fun (W:World) (hb:Below (al67E w n v n' v' A1 d.length c1 A2 r.length c2 A3 c.length c3 A4 p.length c4 B1 d'.length d1 B2v r'.length d2 B3 c'.length d3 B4 p'.length d4).heap.size (al67E w n v n' v' A1 d.length c1 A2 r.length c2 A3 c.length c3 A4 p.length c4 B1 d'.length d1 B2v r'.length d2 B3 c'.length d3 B4 p'.length d4) W)=>(show W.cell? ⟨w.heap.size,2,none⟩=some (.slice A1 d.length c1)∧W.cell? ⟨w.heap.size,3,none⟩=some (.slice A2 r.length c2)∧W.cell? ⟨w.heap.size,4,none⟩=some (.slice A3 c.length c3)∧W.cell? ⟨w.heap.size,5,none⟩=some (.slice A4 p.length c4)∧W.cell? ⟨w.heap.size+1,2,none⟩=some (.slice B1 d'.length d1)∧W.cell? ⟨w.heap.size+1,3,none⟩=some (.slice B2v r'.length d2)∧W.cell? ⟨w.heap.size+1,4,none⟩=some (.slice B3 c'.length d3)∧W.cell? ⟨w.heap.size+1,5,none⟩=some (.slice B4 p'.length d4) from by
  have z:(al67E w n v n' v' A1 d.length c1 A2 r.length c2 A3 c.length c3 A4 p.length c4 B1 d'.length d1 B2v r'.length d2 B3 c'.length d3 B4 p'.length d4).heap.size=w.heap.size+2:=by rw [World.size_alloc,World.size_alloc]
  refine ⟨(hb.cell (show (⟨w.heap.size,2,none⟩:Addr).block < _ by rw [z];show w.heap.size < _;omega)).trans (by simp [go_sem]),(hb.cell (show (⟨w.heap.size,3,none⟩:Addr).block < _ by rw [z];show w.heap.size < _;omega)).trans (by simp [go_sem]),(hb.cell (show (⟨w.heap.size,4,none⟩:Addr).block < _ by rw [z];show w.heap.size < _;omega)).trans (by simp [go_sem]),(hb.cell (show (⟨w.heap.size,5,none⟩:Addr).block < _ by rw [z];show w.heap.size < _;omega)).trans (by simp [go_sem]),(hb.cell (show (⟨w.heap.size+1,2,none⟩:Addr).block < _ by rw [z];show w.heap.size+1 < _;omega)).trans (by simp [go_sem]),(hb.cell (show (⟨w.heap.size+1,3,none⟩:Addr).block < _ by rw [z];show w.heap.size+1 < _;omega)).trans (by simp [go_sem]),(hb.cell (show (⟨w.heap.size+1,4,none⟩:Addr).block < _ by rw [z];show w.heap.size+1 < _;omega)).trans (by simp [go_sem]),(hb.cell (show (⟨w.heap.size+1,5,none⟩:Addr).block < _ by rw [z];show w.heap.size+1 < _;omega)).trans (by simp [go_sem])⟩))
 have HX:=Lib.hid hx
 have HY:=Lib.hid hy
 have KD:=Lib.hid (fun W (hb:Below w.heap.size w W)=>sameGroups7_any A1 B1 d.length c1 d'.length d1 d d' W (HX.out.on hb).d (HY.out.on hb).d)
 have KR:=Lib.hid (fun W (hb:Below w.heap.size w W)=>sameGroups7_any A2 B2v r.length c2 r'.length d2 r r' W (HX.out.on hb).r (HY.out.on hb).r)
 have KC:=Lib.hid (fun W (hb:Below w.heap.size w W)=>sameAtoms7_any A3 B3 c.length c3 c'.length d3 c c' W (HX.out.on hb).c (HY.out.on hb).c)
 have KP:=Lib.hid (fun W (hb:Below w.heap.size w W)=>sameAtoms7_any A4 B4 p.length c4 p'.length d4 p p' W (HX.out.on hb).p (HY.out.on hb).p)
 show Calls Tryz.prog 44 #[.agg #[.string n,.string v,.slice A1 d.length c1,.slice A2 r.length c2,.slice A3 c.length c3,.slice A4 p.length c4],.agg #[.string n',.string v',.slice B1 d'.length d1,.slice B2v r'.length d2,.slice B3 c'.length d3,.slice B4 p'.length d4]] w _
 clear hx hy
 have en:=str_eq n n'
 have ev:=str_eq v v'
 by_cases q0:¬n=n'
 ·have X:=Lib.hid (show decide ((⟨n,v,d,r,c,p⟩:Ent)=⟨n',v',d',r',c',p'⟩)=false from decide_eq_false fun e=>q0 (congrArg Ent.n e))
  rw [decide_eq_false q0] at en
  clear q0 ev
  go_enter Tryz.func44,Tryz.ntmps44
  go_wp2
  go_ret
  exact ⟨by rw [X.out];try rfl,B2.out⟩
 have q0:=Decidable.not_not.1 q0
 by_cases q1:¬v=v'
 ·have X:=Lib.hid (show decide ((⟨n,v,d,r,c,p⟩:Ent)=⟨n',v',d',r',c',p'⟩)=false from decide_eq_false fun e=>q1 (congrArg Ent.v e))
  rw [decide_eq_true q0] at en
  rw [decide_eq_false q1] at ev
  clear q0 q1
  go_enter Tryz.func44,Tryz.ntmps44
  go_wp2
  go_ret
  exact ⟨by rw [X.out];try rfl,B2.out⟩
 have q1:=Decidable.not_not.1 q1
 by_cases q2:¬d=d'
 ·have X:=Lib.hid (show decide ((⟨n,v,d,r,c,p⟩:Ent)=⟨n',v',d',r',c',p'⟩)=false from decide_eq_false fun e=>q2 (congrArg Ent.d e))
  rw [decide_eq_true q0] at en
  rw [decide_eq_true q1] at ev
  rw [decide_eq_false q2] at KD
  clear q0 q1 q2
  go_enter Tryz.func44,Tryz.ntmps44
  go_wp2_with fail
  refine (KD.out _ B2.out).mono ?_
  rintro e w3 ⟨rfl,hdr⟩
  have C0:=Lib.hid (B2.out.trans ((hdr.below _).mono B2.out.size))
  have V0:=Lib.hid (show Below (al67E w n v n' v' A1 d.length c1 A2 r.length c2 A3 c.length c3 A4 p.length c4 B1 d'.length d1 B2v r'.length d2 B3 c'.length d3 B4 p'.length d4).heap.size (al67E w n v n' v' A1 d.length c1 A2 r.length c2 A3 c.length c3 A4 p.length c4 B1 d'.length d1 B2v r'.length d2 B3 c'.length d3 B4 p'.length d4) w3 from (Below.refl (al67E w n v n' v' A1 d.length c1 A2 r.length c2 A3 c.length c3 A4 p.length c4 B1 d'.length d1 B2v r'.length d2 B3 c'.length d3 B4 p'.length d4).heap.size (al67E w n v n' v' A1 d.length c1 A2 r.length c2 A3 c.length c3 A4 p.length c4 B1 d'.length d1 B2v r'.length d2 B3 c'.length d3 B4 p'.length d4)).trans ((hdr.below _).mono (Below.refl (al67E w n v n' v' A1 d.length c1 A2 r.length c2 A3 c.length c3 A4 p.length c4 B1 d'.length d1 B2v r'.length d2 B3 c'.length d3 B4 p'.length d4).heap.size (al67E w n v n' v' A1 d.length c1 A2 r.length c2 A3 c.length c3 A4 p.length c4 B1 d'.length d1 B2v r'.length d2 B3 c'.length d3 B4 p'.length d4)).size))
  clear hdr
  obtain ⟨a2,a3,a4,a5,b2,b3,b4,b5⟩:=KX.out _ V0.out
  go_wp2
  go_ret
  exact ⟨by rw [X.out];try rfl,C0.out⟩
 have q2:=Decidable.not_not.1 q2
 by_cases q3:¬r=r'
 ·have X:=Lib.hid (show decide ((⟨n,v,d,r,c,p⟩:Ent)=⟨n',v',d',r',c',p'⟩)=false from decide_eq_false fun e=>q3 (congrArg Ent.r e))
  rw [decide_eq_true q0] at en
  rw [decide_eq_true q1] at ev
  rw [decide_eq_true q2] at KD
  rw [decide_eq_false q3] at KR
  clear q0 q1 q2 q3
  go_enter Tryz.func44,Tryz.ntmps44
  go_wp2_with fail
  refine (KD.out _ B2.out).mono ?_
  rintro e w3 ⟨rfl,hdr⟩
  have C0:=Lib.hid (B2.out.trans ((hdr.below _).mono B2.out.size))
  have V0:=Lib.hid (show Below (al67E w n v n' v' A1 d.length c1 A2 r.length c2 A3 c.length c3 A4 p.length c4 B1 d'.length d1 B2v r'.length d2 B3 c'.length d3 B4 p'.length d4).heap.size (al67E w n v n' v' A1 d.length c1 A2 r.length c2 A3 c.length c3 A4 p.length c4 B1 d'.length d1 B2v r'.length d2 B3 c'.length d3 B4 p'.length d4) w3 from (Below.refl (al67E w n v n' v' A1 d.length c1 A2 r.length c2 A3 c.length c3 A4 p.length c4 B1 d'.length d1 B2v r'.length d2 B3 c'.length d3 B4 p'.length d4).heap.size (al67E w n v n' v' A1 d.length c1 A2 r.length c2 A3 c.length c3 A4 p.length c4 B1 d'.length d1 B2v r'.length d2 B3 c'.length d3 B4 p'.length d4)).trans ((hdr.below _).mono (Below.refl (al67E w n v n' v' A1 d.length c1 A2 r.length c2 A3 c.length c3 A4 p.length c4 B1 d'.length d1 B2v r'.length d2 B3 c'.length d3 B4 p'.length d4).heap.size (al67E w n v n' v' A1 d.length c1 A2 r.length c2 A3 c.length c3 A4 p.length c4 B1 d'.length d1 B2v r'.length d2 B3 c'.length d3 B4 p'.length d4)).size))
  clear hdr
  obtain ⟨a2,a3,a4,a5,b2,b3,b4,b5⟩:=KX.out _ V0.out
  go_wp2_with fail
  refine (KR.out _ C0.out).mono ?_
  rintro e w4 ⟨rfl,hdr⟩
  have C1:=Lib.hid (C0.out.trans ((hdr.below _).mono C0.out.size))
  have V1:=Lib.hid (show Below (al67E w n v n' v' A1 d.length c1 A2 r.length c2 A3 c.length c3 A4 p.length c4 B1 d'.length d1 B2v r'.length d2 B3 c'.length d3 B4 p'.length d4).heap.size (al67E w n v n' v' A1 d.length c1 A2 r.length c2 A3 c.length c3 A4 p.length c4 B1 d'.length d1 B2v r'.length d2 B3 c'.length d3 B4 p'.length d4) w4 from V0.out.trans ((hdr.below _).mono V0.out.size))
  clear hdr
  clear a2 b2 a3 b3 a4 b4 a5 b5
  obtain ⟨a2,a3,a4,a5,b2,b3,b4,b5⟩:=KX.out _ V1.out
  go_wp2
  go_ret
  exact ⟨by rw [X.out];try rfl,C1.out⟩
 have q3:=Decidable.not_not.1 q3
 by_cases q4:¬c=c'
 ·have X:=Lib.hid (show decide ((⟨n,v,d,r,c,p⟩:Ent)=⟨n',v',d',r',c',p'⟩)=false from decide_eq_false fun e=>q4 (congrArg Ent.c e))
  rw [decide_eq_true q0] at en
  rw [decide_eq_true q1] at ev
  rw [decide_eq_true q2] at KD
  rw [decide_eq_true q3] at KR
  rw [decide_eq_false q4] at KC
  clear q0 q1 q2 q3 q4
  go_enter Tryz.func44,Tryz.ntmps44
  go_wp2_with fail
  refine (KD.out _ B2.out).mono ?_
  rintro e w3 ⟨rfl,hdr⟩
  have C0:=Lib.hid (B2.out.trans ((hdr.below _).mono B2.out.size))
  have V0:=Lib.hid (show Below (al67E w n v n' v' A1 d.length c1 A2 r.length c2 A3 c.length c3 A4 p.length c4 B1 d'.length d1 B2v r'.length d2 B3 c'.length d3 B4 p'.length d4).heap.size (al67E w n v n' v' A1 d.length c1 A2 r.length c2 A3 c.length c3 A4 p.length c4 B1 d'.length d1 B2v r'.length d2 B3 c'.length d3 B4 p'.length d4) w3 from (Below.refl (al67E w n v n' v' A1 d.length c1 A2 r.length c2 A3 c.length c3 A4 p.length c4 B1 d'.length d1 B2v r'.length d2 B3 c'.length d3 B4 p'.length d4).heap.size (al67E w n v n' v' A1 d.length c1 A2 r.length c2 A3 c.length c3 A4 p.length c4 B1 d'.length d1 B2v r'.length d2 B3 c'.length d3 B4 p'.length d4)).trans ((hdr.below _).mono (Below.refl (al67E w n v n' v' A1 d.length c1 A2 r.length c2 A3 c.length c3 A4 p.length c4 B1 d'.length d1 B2v r'.length d2 B3 c'.length d3 B4 p'.length d4).heap.size (al67E w n v n' v' A1 d.length c1 A2 r.length c2 A3 c.length c3 A4 p.length c4 B1 d'.length d1 B2v r'.length d2 B3 c'.length d3 B4 p'.length d4)).size))
  clear hdr
  obtain ⟨a2,a3,a4,a5,b2,b3,b4,b5⟩:=KX.out _ V0.out
  go_wp2_with fail
  refine (KR.out _ C0.out).mono ?_
  rintro e w4 ⟨rfl,hdr⟩
  have C1:=Lib.hid (C0.out.trans ((hdr.below _).mono C0.out.size))
  have V1:=Lib.hid (show Below (al67E w n v n' v' A1 d.length c1 A2 r.length c2 A3 c.length c3 A4 p.length c4 B1 d'.length d1 B2v r'.length d2 B3 c'.length d3 B4 p'.length d4).heap.size (al67E w n v n' v' A1 d.length c1 A2 r.length c2 A3 c.length c3 A4 p.length c4 B1 d'.length d1 B2v r'.length d2 B3 c'.length d3 B4 p'.length d4) w4 from V0.out.trans ((hdr.below _).mono V0.out.size))
  clear hdr
  clear a2 b2 a3 b3 a4 b4 a5 b5
  obtain ⟨a2,a3,a4,a5,b2,b3,b4,b5⟩:=KX.out _ V1.out
  go_wp2_with fail
  refine (KC.out _ C1.out).mono ?_
  rintro e w5 ⟨rfl,hdr⟩
  have C2:=Lib.hid (C1.out.trans ((hdr.below _).mono C1.out.size))
  have V2:=Lib.hid (show Below (al67E w n v n' v' A1 d.length c1 A2 r.length c2 A3 c.length c3 A4 p.length c4 B1 d'.length d1 B2v r'.length d2 B3 c'.length d3 B4 p'.length d4).heap.size (al67E w n v n' v' A1 d.length c1 A2 r.length c2 A3 c.length c3 A4 p.length c4 B1 d'.length d1 B2v r'.length d2 B3 c'.length d3 B4 p'.length d4) w5 from V1.out.trans ((hdr.below _).mono V1.out.size))
  clear hdr
  clear a2 b2 a3 b3 a4 b4 a5 b5
  obtain ⟨a2,a3,a4,a5,b2,b3,b4,b5⟩:=KX.out _ V2.out
  go_wp2
  go_ret
  exact ⟨by rw [X.out];try rfl,C2.out⟩
 have q4:=Decidable.not_not.1 q4
 by_cases q5:¬p=p'
 ·have X:=Lib.hid (show decide ((⟨n,v,d,r,c,p⟩:Ent)=⟨n',v',d',r',c',p'⟩)=false from decide_eq_false fun e=>q5 (congrArg Ent.p e))
  rw [decide_eq_true q0] at en
  rw [decide_eq_true q1] at ev
  rw [decide_eq_true q2] at KD
  rw [decide_eq_true q3] at KR
  rw [decide_eq_true q4] at KC
  rw [decide_eq_false q5] at KP
  clear q0 q1 q2 q3 q4 q5
  go_enter Tryz.func44,Tryz.ntmps44
  go_wp2_with fail
  refine (KD.out _ B2.out).mono ?_
  rintro e w3 ⟨rfl,hdr⟩
  have C0:=Lib.hid (B2.out.trans ((hdr.below _).mono B2.out.size))
  have V0:=Lib.hid (show Below (al67E w n v n' v' A1 d.length c1 A2 r.length c2 A3 c.length c3 A4 p.length c4 B1 d'.length d1 B2v r'.length d2 B3 c'.length d3 B4 p'.length d4).heap.size (al67E w n v n' v' A1 d.length c1 A2 r.length c2 A3 c.length c3 A4 p.length c4 B1 d'.length d1 B2v r'.length d2 B3 c'.length d3 B4 p'.length d4) w3 from (Below.refl (al67E w n v n' v' A1 d.length c1 A2 r.length c2 A3 c.length c3 A4 p.length c4 B1 d'.length d1 B2v r'.length d2 B3 c'.length d3 B4 p'.length d4).heap.size (al67E w n v n' v' A1 d.length c1 A2 r.length c2 A3 c.length c3 A4 p.length c4 B1 d'.length d1 B2v r'.length d2 B3 c'.length d3 B4 p'.length d4)).trans ((hdr.below _).mono (Below.refl (al67E w n v n' v' A1 d.length c1 A2 r.length c2 A3 c.length c3 A4 p.length c4 B1 d'.length d1 B2v r'.length d2 B3 c'.length d3 B4 p'.length d4).heap.size (al67E w n v n' v' A1 d.length c1 A2 r.length c2 A3 c.length c3 A4 p.length c4 B1 d'.length d1 B2v r'.length d2 B3 c'.length d3 B4 p'.length d4)).size))
  clear hdr
  obtain ⟨a2,a3,a4,a5,b2,b3,b4,b5⟩:=KX.out _ V0.out
  go_wp2_with fail
  refine (KR.out _ C0.out).mono ?_
  rintro e w4 ⟨rfl,hdr⟩
  have C1:=Lib.hid (C0.out.trans ((hdr.below _).mono C0.out.size))
  have V1:=Lib.hid (show Below (al67E w n v n' v' A1 d.length c1 A2 r.length c2 A3 c.length c3 A4 p.length c4 B1 d'.length d1 B2v r'.length d2 B3 c'.length d3 B4 p'.length d4).heap.size (al67E w n v n' v' A1 d.length c1 A2 r.length c2 A3 c.length c3 A4 p.length c4 B1 d'.length d1 B2v r'.length d2 B3 c'.length d3 B4 p'.length d4) w4 from V0.out.trans ((hdr.below _).mono V0.out.size))
  clear hdr
  clear a2 b2 a3 b3 a4 b4 a5 b5
  obtain ⟨a2,a3,a4,a5,b2,b3,b4,b5⟩:=KX.out _ V1.out
  go_wp2_with fail
  refine (KC.out _ C1.out).mono ?_
  rintro e w5 ⟨rfl,hdr⟩
  have C2:=Lib.hid (C1.out.trans ((hdr.below _).mono C1.out.size))
  have V2:=Lib.hid (show Below (al67E w n v n' v' A1 d.length c1 A2 r.length c2 A3 c.length c3 A4 p.length c4 B1 d'.length d1 B2v r'.length d2 B3 c'.length d3 B4 p'.length d4).heap.size (al67E w n v n' v' A1 d.length c1 A2 r.length c2 A3 c.length c3 A4 p.length c4 B1 d'.length d1 B2v r'.length d2 B3 c'.length d3 B4 p'.length d4) w5 from V1.out.trans ((hdr.below _).mono V1.out.size))
  clear hdr
  clear a2 b2 a3 b3 a4 b4 a5 b5
  obtain ⟨a2,a3,a4,a5,b2,b3,b4,b5⟩:=KX.out _ V2.out
  go_wp2_with fail
  refine (KP.out _ C2.out).mono ?_
  rintro e w6 ⟨rfl,hdr⟩
  have C3:=Lib.hid (C2.out.trans ((hdr.below _).mono C2.out.size))
  have V3:=Lib.hid (show Below (al67E w n v n' v' A1 d.length c1 A2 r.length c2 A3 c.length c3 A4 p.length c4 B1 d'.length d1 B2v r'.length d2 B3 c'.length d3 B4 p'.length d4).heap.size (al67E w n v n' v' A1 d.length c1 A2 r.length c2 A3 c.length c3 A4 p.length c4 B1 d'.length d1 B2v r'.length d2 B3 c'.length d3 B4 p'.length d4) w6 from V2.out.trans ((hdr.below _).mono V2.out.size))
  clear hdr
  clear a2 b2 a3 b3 a4 b4 a5 b5
  obtain ⟨a2,a3,a4,a5,b2,b3,b4,b5⟩:=KX.out _ V3.out
  go_wp2
  go_ret
  exact ⟨by rw [X.out];try rfl,C3.out⟩
 have q5:=Decidable.not_not.1 q5
 have X:=Lib.hid (show decide ((⟨n,v,d,r,c,p⟩:Ent)=⟨n',v',d',r',c',p'⟩)=true from decide_eq_true (by rw [q0,q1,q2,q3,q4,q5]))
 rw [decide_eq_true q0] at en
 rw [decide_eq_true q1] at ev
 rw [decide_eq_true q2] at KD
 rw [decide_eq_true q3] at KR
 rw [decide_eq_true q4] at KC
 rw [decide_eq_true q5] at KP
 clear q0 q1 q2 q3 q4 q5
 go_enter Tryz.func44,Tryz.ntmps44
 go_wp2_with fail
 refine (KD.out _ B2.out).mono ?_
 rintro e w3 ⟨rfl,hdr⟩
 have C0:=Lib.hid (B2.out.trans ((hdr.below _).mono B2.out.size))
 have V0:=Lib.hid (show Below (al67E w n v n' v' A1 d.length c1 A2 r.length c2 A3 c.length c3 A4 p.length c4 B1 d'.length d1 B2v r'.length d2 B3 c'.length d3 B4 p'.length d4).heap.size (al67E w n v n' v' A1 d.length c1 A2 r.length c2 A3 c.length c3 A4 p.length c4 B1 d'.length d1 B2v r'.length d2 B3 c'.length d3 B4 p'.length d4) w3 from (Below.refl (al67E w n v n' v' A1 d.length c1 A2 r.length c2 A3 c.length c3 A4 p.length c4 B1 d'.length d1 B2v r'.length d2 B3 c'.length d3 B4 p'.length d4).heap.size (al67E w n v n' v' A1 d.length c1 A2 r.length c2 A3 c.length c3 A4 p.length c4 B1 d'.length d1 B2v r'.length d2 B3 c'.length d3 B4 p'.length d4)).trans ((hdr.below _).mono (Below.refl (al67E w n v n' v' A1 d.length c1 A2 r.length c2 A3 c.length c3 A4 p.length c4 B1 d'.length d1 B2v r'.length d2 B3 c'.length d3 B4 p'.length d4).heap.size (al67E w n v n' v' A1 d.length c1 A2 r.length c2 A3 c.length c3 A4 p.length c4 B1 d'.length d1 B2v r'.length d2 B3 c'.length d3 B4 p'.length d4)).size))
 clear hdr
 obtain ⟨a2,a3,a4,a5,b2,b3,b4,b5⟩:=KX.out _ V0.out
 go_wp2_with fail
 refine (KR.out _ C0.out).mono ?_
 rintro e w4 ⟨rfl,hdr⟩
 have C1:=Lib.hid (C0.out.trans ((hdr.below _).mono C0.out.size))
 have V1:=Lib.hid (show Below (al67E w n v n' v' A1 d.length c1 A2 r.length c2 A3 c.length c3 A4 p.length c4 B1 d'.length d1 B2v r'.length d2 B3 c'.length d3 B4 p'.length d4).heap.size (al67E w n v n' v' A1 d.length c1 A2 r.length c2 A3 c.length c3 A4 p.length c4 B1 d'.length d1 B2v r'.length d2 B3 c'.length d3 B4 p'.length d4) w4 from V0.out.trans ((hdr.below _).mono V0.out.size))
 clear hdr
 clear a2 b2 a3 b3 a4 b4 a5 b5
 obtain ⟨a2,a3,a4,a5,b2,b3,b4,b5⟩:=KX.out _ V1.out
 go_wp2_with fail
 refine (KC.out _ C1.out).mono ?_
 rintro e w5 ⟨rfl,hdr⟩
 have C2:=Lib.hid (C1.out.trans ((hdr.below _).mono C1.out.size))
 have V2:=Lib.hid (show Below (al67E w n v n' v' A1 d.length c1 A2 r.length c2 A3 c.length c3 A4 p.length c4 B1 d'.length d1 B2v r'.length d2 B3 c'.length d3 B4 p'.length d4).heap.size (al67E w n v n' v' A1 d.length c1 A2 r.length c2 A3 c.length c3 A4 p.length c4 B1 d'.length d1 B2v r'.length d2 B3 c'.length d3 B4 p'.length d4) w5 from V1.out.trans ((hdr.below _).mono V1.out.size))
 clear hdr
 clear a2 b2 a3 b3 a4 b4 a5 b5
 obtain ⟨a2,a3,a4,a5,b2,b3,b4,b5⟩:=KX.out _ V2.out
 go_wp2_with fail
 refine (KP.out _ C2.out).mono ?_
 rintro e w6 ⟨rfl,hdr⟩
 have C3:=Lib.hid (C2.out.trans ((hdr.below _).mono C2.out.size))
 have V3:=Lib.hid (show Below (al67E w n v n' v' A1 d.length c1 A2 r.length c2 A3 c.length c3 A4 p.length c4 B1 d'.length d1 B2v r'.length d2 B3 c'.length d3 B4 p'.length d4).heap.size (al67E w n v n' v' A1 d.length c1 A2 r.length c2 A3 c.length c3 A4 p.length c4 B1 d'.length d1 B2v r'.length d2 B3 c'.length d3 B4 p'.length d4) w6 from V2.out.trans ((hdr.below _).mono V2.out.size))
 clear hdr
 clear a2 b2 a3 b3 a4 b4 a5 b5
 obtain ⟨a2,a3,a4,a5,b2,b3,b4,b5⟩:=KX.out _ V3.out
 go_wp2
 go_ret
 exact ⟨by rw [X.out];try rfl,C3.out⟩
theorem bel_in {w w1 w2:World} (h:Below w.heap.size w w1) (k:Below w1.heap.size w1 w2):Below w.heap.size w w2:=h.trans (k.mono h.size)
theorem cmpV_neg (e1:Int) (u1 r1:List Nat) (e2:Int) (u2 r2:List Nat):cmpV e2 u2 r2 e1 u1 r1=-cmpV e1 u1 r1 e2 u2 r2:=by
 have h1:=cmpS_neg u1 u2
 have h2:=cmpS_neg r1 r2
 unfold cmpV
 by_cases he:e1=e2
 ·subst he
  rw [if_neg (show ¬e1≠e1 by omega),if_neg (show ¬e1≠e1 by omega)]
  by_cases hu:cmpS u1 u2=0
  ·rw [if_neg (show ¬cmpS u2 u1≠0 by omega),if_neg (show ¬cmpS u1 u2≠0 by omega)];exact h2
  ·rw [if_pos (show cmpS u2 u1≠0 by omega),if_pos (show cmpS u1 u2≠0 by omega)];exact h1
 ·rw [if_pos (show e2≠e1 by omega),if_pos (show e1≠e2 by omega)]
  by_cases hl:e1 < e2
  ·rw [if_neg (show ¬e2 < e1 by omega),if_pos hl];decide
  ·rw [if_pos (show e2 < e1 by omega),if_neg hl]
theorem cmpV_tr (e1:Int) (u1 r1:List Nat) (e2:Int) (u2 r2:List Nat) (e3:Int) (u3 r3:List Nat) :
  cmpV e1 u1 r1 e2 u2 r2≤0→cmpV e2 u2 r2 e3 u3 r3≤0→cmpV e1 u1 r1 e3 u3 r3≤0∧(cmpV e1 u1 r1 e2 u2 r2 < 0∨cmpV e2 u2 r2 e3 u3 r3 < 0→cmpV e1 u1 r1 e3 u3 r3 < 0):=by
 have hu:=cmpS_tr u1 u2 u3
 have hu':=cmpS_tr u3 u2 u1
 rw [cmpS_neg u2 u3,cmpS_neg u1 u2,cmpS_neg u1 u3] at hu'
 have hr:=cmpS_tr r1 r2 r3
 unfold cmpV
 by_cases h1:e1=e2
 ·by_cases h2:e2=e3
  ·rw [if_neg (show ¬e1≠e2 by omega),if_neg (show ¬e2≠e3 by omega),if_neg (show ¬e1≠e3 by omega)]
   by_cases q1:cmpS u1 u2=0
   ·by_cases q2:cmpS u2 u3=0
    ·have q3:cmpS u1 u3=0:=by omega
     rw [if_neg (by omega),if_neg (by omega),if_neg (by omega)];exact hr
    ·rw [if_neg (show ¬cmpS u1 u2≠0 by omega),if_pos (show cmpS u2 u3≠0 by omega)]
     intro _ p2
     rw [if_pos (by omega)];omega
   ·rw [if_pos (show cmpS u1 u2≠0 by omega)]
    intro p1
    by_cases q2:cmpS u2 u3=0
    ·rw [if_neg (show ¬cmpS u2 u3≠0 by omega)]
     intro p2
     rw [if_pos (by omega)];omega
    ·rw [if_pos (show cmpS u2 u3≠0 by omega)]
     intro p2
     rw [if_pos (by omega)];omega
  ·rw [if_neg (show ¬e1≠e2 by omega),if_pos (show e2≠e3 by omega),if_pos (show e1≠e3 by omega)]
   by_cases h3:e2 < e3
   ·rw [if_pos h3,if_pos (show e1 < e3 by omega)];intro _ _;omega
   ·rw [if_neg h3];intro _ p;omega
 ·rw [if_pos (show e1≠e2 by omega)]
  by_cases h3:e1 < e2
  ·rw [if_pos h3]
   intro _
   by_cases h2:e2=e3
   ·rw [if_neg (show ¬e2≠e3 by omega),if_pos (show e1≠e3 by omega),if_pos (show e1 < e3 by omega)];intro _;omega
   ·rw [if_pos (show e2≠e3 by omega)]
    by_cases h4:e2 < e3
    ·rw [if_pos h4,if_pos (show e1≠e3 by omega),if_pos (show e1 < e3 by omega)];intro _;omega
    ·rw [if_neg h4];intro p;omega
  ·rw [if_neg h3];intro p;omega
theorem orderV_neg (a b:List Nat):orderV b a=-orderV a b:=by
 have h:=cmpV_neg (parse1 a) (parse2 a) (parse3 a) (parse1 b) (parse2 b) (parse3 b)
 unfold orderV
 by_cases h1:parseE a=0
 ·by_cases h2:parseE b=0
  ·simp only [h1,h2,ne_eq,not_true,if_false];exact h
  ·simp only [h1,h2,ne_eq,not_true,not_false_iff,if_false,if_true]
 ·by_cases h2:parseE b=0
  ·simp only [h1,h2,ne_eq,not_true,not_false_iff,if_false,if_true];decide
  ·simp only [h1,h2,ne_eq,not_true,not_false_iff,if_false,if_true];decide
theorem orderV_self (a:List Nat):orderV a a=0:=by have:=orderV_neg a a;omega
theorem orderV_tr (a b c:List Nat):orderV a b≤0→orderV b c≤0→orderV a c≤0∧(orderV a b < 0∨orderV b c < 0→orderV a c < 0):=by
 have h:=cmpV_tr (parse1 a) (parse2 a) (parse3 a) (parse1 b) (parse2 b) (parse3 b) (parse1 c) (parse2 c) (parse3 c)
 unfold orderV
 by_cases h1:parseE a=0
 ·by_cases h2:parseE b=0
  ·by_cases h3:parseE c=0
   ·simp only [h1,h2,h3,ne_eq,not_true,if_false];exact h
   ·simp only [h1,h2,h3,ne_eq,not_true,not_false_iff,if_false,if_true];intro _ p;omega
  ·by_cases h3:parseE c=0
   ·simp only [h1,h2,h3,ne_eq,not_true,not_false_iff,if_false,if_true];intro p;omega
   ·simp only [h1,h2,h3,ne_eq,not_true,not_false_iff,if_false,if_true];intro p;omega
 ·by_cases h2:parseE b=0
  ·by_cases h3:parseE c=0
   ·simp only [h1,h2,h3,ne_eq,not_true,not_false_iff,if_false,if_true];intro _ _;omega
   ·simp only [h1,h2,h3,ne_eq,not_true,not_false_iff,if_false,if_true];intro _ p;omega
  ·by_cases h3:parseE c=0
   ·simp only [h1,h2,h3,ne_eq,not_true,not_false_iff,if_false,if_true];intro _ _;omega
   ·simp only [h1,h2,h3,ne_eq,not_true,not_false_iff,if_false,if_true];intro _ _;omega
def blt (a b:ByteArray):Prop:=Op.bytesLess a.toList b.toList=true
theorem bl_cons (a b:UInt8) (x y:List UInt8):Op.bytesLess (a::x) (b::y)=true↔a.toNat < b.toNat∨(a.toNat=b.toNat∧Op.bytesLess x y=true):=by
 simp only [Op.bytesLess,Bool.or_eq_true,Bool.and_eq_true,decide_eq_true_eq,beq_iff_eq,UInt8.lt_iff_toNat_lt,UInt8.toNat_inj]
theorem bl_asym:∀x y:List UInt8,Op.bytesLess x y=true→Op.bytesLess y x=true→False
 | _,[],h,_=>by simp [Op.bytesLess] at h
 | [],_::_,_,h=>by simp [Op.bytesLess] at h
 | a::x,b::y,h,k=>by
  rw [bl_cons] at h k
  rcases h with h|⟨h,h'⟩
  ·rcases k with k|⟨k,_⟩<;>omega
  ·rcases k with k|⟨_,k'⟩
   ·omega
   ·exact bl_asym x y h' k'
theorem bl_tot:∀x y:List UInt8,Op.bytesLess x y=true∨Op.bytesLess y x=true∨x=y
 | [],[]=>.inr (.inr rfl)
 | [],_::_=>.inl rfl
 | _::_,[]=>.inr (.inl rfl)
 | a::x,b::y=>by
  rw [bl_cons,bl_cons]
  rcases Nat.lt_trichotomy a.toNat b.toNat with h|h|h
  ·exact .inl (.inl h)
  ·rcases bl_tot x y with k|k|k
   ·exact .inl (.inr ⟨h,k⟩)
   ·exact .inr (.inl (.inr ⟨h.symm,k⟩))
   ·exact .inr (.inr (by rw [UInt8.toNat_inj.1 h,k]))
  ·exact .inr (.inl (.inl h))
theorem bl_tr:∀x y z:List UInt8,Op.bytesLess x y=true→Op.bytesLess y z=true→Op.bytesLess x z=true
 | _,[],_,h,_=>by simp [Op.bytesLess] at h
 | _,_::_,[],_,k=>by simp [Op.bytesLess] at k
 | [],_::_,_::_,_,_=>rfl
 | a::x,b::y,c::z,h,k=>by
  rw [bl_cons] at h k ⊢
  rcases h with h|⟨h,h'⟩<;>rcases k with k|⟨k,k'⟩
  ·exact .inl (by omega)
  ·exact .inl (by omega)
  ·exact .inl (by omega)
  ·exact .inr ⟨by omega,bl_tr x y z h' k'⟩
theorem toList_same {a b:ByteArray} (h:a.toList=b.toList):a=b:=by
 have:=str_eq a b
 rw [h,beq_self_eq_true] at this
 exact of_decide_eq_true this.symm
theorem blt_asym {a b:ByteArray} (h:blt a b) (k:blt b a):False:=bl_asym _ _ h k
theorem blt_tot (a b:ByteArray):blt a b∨blt b a∨a=b:=by
 rcases bl_tot a.toList b.toList with h|h|h
 ·exact .inl h
 ·exact .inr (.inl h)
 ·exact .inr (.inr (toList_same h))
theorem blt_tr {a b c:ByteArray} (h:blt a b) (k:blt b c):blt a c:=bl_tr _ _ _ h k
theorem blt_self (a:ByteArray):¬blt a a:=fun h=>blt_asym h h
def lesB (x y:Ent):Bool:=if x.n=y.n then (decide (orderV (B x.v) (B y.v) < 0)||(orderV (B x.v) (B y.v)==0&&Op.bytesLess x.v.toList y.v.toList)) else Op.bytesLess x.n.toList y.n.toList
def Les (x y:Ent):Prop:=(x.n=y.n∧(orderV (B x.v) (B y.v) < 0∨(orderV (B x.v) (B y.v)=0∧blt x.v y.v)))∨(x.n≠y.n∧blt x.n y.n)
theorem lesB_iff (x y:Ent):lesB x y=true↔Les x y:=by
 unfold lesB Les blt
 by_cases h:x.n=y.n
 ·rw [if_pos h];simp [h]
 ·rw [if_neg h];simp [h]
theorem Les.asym {x y:Ent} (h:Les x y) (k:Les y x):False:=by
 have hn:=orderV_neg (B x.v) (B y.v)
 rcases h with ⟨h1,h2⟩|⟨h1,h2⟩
 ·rcases k with ⟨k1,k2⟩|⟨k1,k2⟩
  ·rcases h2 with h2|⟨h2,h3⟩<;>rcases k2 with k2|⟨k2,k3⟩
   ·omega
   ·omega
   ·omega
   ·exact blt_asym h3 k3
  ·exact k1 h1.symm
 ·rcases k with ⟨k1,k2⟩|⟨k1,k2⟩
  ·exact h1 k1.symm
  ·exact blt_asym h2 k2
theorem Les.tot (x y:Ent):Les x y∨Les y x∨(x.n=y.n∧x.v=y.v):=by
 have hn:=orderV_neg (B x.v) (B y.v)
 by_cases h:x.n=y.n
 ·rcases Int.lt_trichotomy (orderV (B x.v) (B y.v)) 0 with k|k|k
  ·exact .inl (.inl ⟨h,.inl k⟩)
  ·rcases blt_tot x.v y.v with q|q|q
   ·exact .inl (.inl ⟨h,.inr ⟨k,q⟩⟩)
   ·exact .inr (.inl (.inl ⟨h.symm,.inr ⟨by omega,q⟩⟩))
   ·exact .inr (.inr ⟨h,q⟩)
  ·exact .inr (.inl (.inl ⟨h.symm,.inl (by omega)⟩))
 ·rcases blt_tot x.n y.n with q|q|q
  ·exact .inl (.inr ⟨h,q⟩)
  ·exact .inr (.inl (.inr ⟨fun e=>h e.symm,q⟩))
  ·exact absurd q h
theorem Les.alike {x y:Ent} (h1:x.n=y.n) (h2:x.v=y.v):¬Les x y:=by
 rintro (⟨_,h|⟨_,h⟩⟩|⟨h,_⟩)
 ·rw [h2,orderV_self] at h;exact absurd h (by decide)
 ·rw [h2] at h;exact blt_self _ h
 ·exact h h1
theorem Les.tr {x y z:Ent} (h:Les x y) (k:Les y z):Les x z:=by
 have ht:=orderV_tr (B x.v) (B y.v) (B z.v)
 rcases h with ⟨h1,h2⟩|⟨h1,h2⟩<;>rcases k with ⟨k1,k2⟩|⟨k1,k2⟩
 ·refine .inl ⟨h1.trans k1,?_⟩
  rcases h2 with h2|⟨h2,h3⟩<;>rcases k2 with k2|⟨k2,k3⟩
  ·exact .inl ((ht (by omega) (by omega)).2 (.inl h2))
  ·exact .inl ((ht (by omega) (by omega)).2 (.inl h2))
  ·exact .inl ((ht (by omega) (by omega)).2 (.inr k2))
  ·have q:=(ht (by omega) (by omega)).1
   by_cases q0:orderV (B x.v) (B z.v)=0
   ·exact .inr ⟨q0,blt_tr h3 k3⟩
   ·exact .inl (by omega)
 ·exact .inr ⟨by rw [h1];exact k1,by rw [h1];exact k2⟩
 ·exact .inr ⟨by rw [←k1];exact h1,by rw [←k1];exact h2⟩
 ·exact .inr ⟨fun e=>by rw [e] at h2;exact blt_asym h2 k2,blt_tr h2 k2⟩
section
variable {α:Type} {E:Rd α} {sz:Nat}
theorem Grow.empty (T:Nat→Prop) {W:World} {base b:Nat} {e:TypeId} (hb:W.heap[b]?=some (.cells #[] e (0,0))) (hbase:base≤b):Grow E sz T W base e (.slice (some ⟨b,0,none⟩) 0 0) []:=
 ⟨[],rfl,⟨by simp,.inr ⟨b,0,#[],rfl,hbase,hb,Nat.le_refl _,Nat.zero_le _,by simp,by simp⟩⟩,fun k hk=>absurd hk (by simp)⟩
theorem wp_growN {P:Program} {o:Oper} {a:Act} {K:Act→World→Prop} {Q:Exit→Act→World→Prop} (W:World) (s x:Operand) (t t':TypeId)
  (ho:o.op=.call { callee:=.builtin .append,args:=#[s,x],argTypes:=#[t,t'] }) (g:Good E sz) (hsz:0 < sz) (T:Nat→Prop) (base:Nat) (e e':TypeId) (i:TypeInfo) (z:Value) (bytes:Nat)
  (ht:P.underlying t=some (.slice e)) (ht':P.underlying t'=some (.slice e')) (hi:P.info? e=some i) (hz:i.zero=some z) (hsize:i.size=sz) (hby:i.bytes=bytes) (hzs:z.cells.size=sz)
  (v:Value) (l:List α) (hs:a.eval s=v) (hG:Grow E sz T W base e v l) (m:List α) (S:Nat→Prop) (A:Option Addr) (n c:Nat) (hx:a.eval x=.slice A n c) (hX:rdRow sz E W S m [.slice A n c]) (hS:∀b,S b→T b∧b < W.heap.size∧v.ownBlock≠some b)
  (hn:l.length+m.length≤maxLen) (hb2:(l.length+m.length)*bytes≤140737488355328) (hbase:base≤W.heap.size)
  (h:∀v' w',Grow E sz T w' base e v' (l++m)→W.grownBy w' v.ownBlock→(v'.ownBlock=v.ownBlock∨∃b,v'.ownBlock=some b∧W.heap.size≤b)→K (a.put o.dst v') w'):Oper.wp P o a W K Q:=by
 obtain ⟨v',w',hr,h2,h3,h4⟩:=run_growN (P:=P) W t t' o.type g hsz T base e e' i z bytes ht ht' hi hz hsize hby hzs v l hG m S A n c hX hS hn hb2 hbase
 unfold Oper.wp execOp
 simp only [ho,resolve,invoke,builtin,Sem.run_bind,Sem.run_pure,Result.andThen_ok,List.map_toArray,List.map_cons,List.map_nil,hs,hx,hr]
 exact h v' w' h2 h3 h4
theorem step_growN {P:Program} {ops:Array Oper} {o:Oper} {a:Act} {K:Act→World→Prop} {Q:Exit→Act→World→Prop} {F:Prop} (W:World) (hgd:o.guard=none) (s x:Operand) (t t':TypeId)
  (ho:o.op=.call { callee:=.builtin .append,args:=#[s,x],argTypes:=#[t,t'] }) (g:Good E sz) (hsz:0 < sz) (T:Nat→Prop) (base:Nat) (e e':TypeId) (i:TypeInfo) (z:Value) (bytes:Nat)
  (ht:P.underlying t=some (.slice e)) (ht':P.underlying t'=some (.slice e')) (hi:P.info? e=some i) (hz:i.zero=some z) (hsize:i.size=sz) (hby:i.bytes=bytes) (hzs:z.cells.size=sz)
  (v:Value) (l:List α) (hs:a.eval s=v) (hG:Grow E sz T W base e v l) (m:List α) (S:Nat→Prop) (A:Option Addr) (n c:Nat) (hx:a.eval x=.slice A n c) (hX:rdRow sz E W S m [.slice A n c]) (hS:∀b,S b→T b∧b < W.heap.size∧v.ownBlock≠some b)
  (hn:l.length+m.length≤maxLen) (hb2:(l.length+m.length)*bytes≤140737488355328) (hbase:base≤W.heap.size)
  (h:∀v' w',Grow E sz T w' base e v' (l++m)→W.grownBy w' v.ownBlock→(v'.ownBlock=v.ownBlock∨∃b,v'.ownBlock=some b∧W.heap.size≤b)→K (a.put o.dst v') w') :
  if Region.wanted o (yielded ops a.tmps)=true then Oper.wp P o a W K Q else F:=by
 have hw:Region.wanted o (yielded ops a.tmps)=true:=by simp [Region.wanted,hgd]
 rw [if_pos hw]
 exact wp_growN W s x t t' ho g hsz T base e e' i z bytes ht ht' hi hz hsize hby hzs v l hs hG m S A n c hx hX hS hn hb2 hbase h
end
section
variable {α β:Type} {E:Rd α} {F:Rd β} {sz tz:Nat}
def Moved (W:World) (v v':Value):Prop:=v'.ownBlock=v.ownBlock∨∃b,v'.ownBlock=some b∧W.heap.size≤b
theorem wpList_grow1_at {P:Program} {ops:Array Oper} {rest:List Oper} {o:Oper} {a:Act} {Q:Exit→Act→World→Prop} (W:World) (hgd:o.guard=none) (s x:Operand) (t:TypeId)
  (ho:o.op=.call { callee:=.builtin .append,args:=#[s,x],argTypes:=#[t,t] })
  (g:Good E sz) (hsz:0 < sz) (T:Nat→Prop) (base:Nat) (e:TypeId) (i:TypeInfo) (z:Value) (bytes:Nat) (ht:P.underlying t=some (.slice e)) (hi:P.info? e=some i) (hz:i.zero=some z)
  (hsize:i.size=sz) (hby:i.bytes=bytes) (hzs:z.cells.size=sz)
  (v:Value) (l:List α) (hs:a.eval s=v) (hG:Grow E sz T W base e v l) (y:α) (blk:Array Value) (te:TypeId)
  (hE:E W (fun b=>T b∧b < W.heap.size∧v.ownBlock≠some b) y blk.toList) (N:Nat) (hN:N=W.heap.size) (hx:a.eval x=.slice (some ⟨N,0,none⟩) 1 1)
  (hn:l.length+1≤maxLen) (hb2:(l.length+1)*bytes≤140737488355328) (hbase:base≤W.heap.size)
  (h:∀v' w',Grow E sz T w' base e v' (l++[y])→W.grownBy w' v.ownBlock→Moved W v v'→wpList P ops Q rest (a.put o.dst v') w') :
  wpList P ops Q (o::rest) a (W.alloc (.cells blk te)):=by
 subst hN
 obtain ⟨css,hl,hown,hEs⟩:=hG
 refine wpList_append_own_at _ hgd s x t ho base e i z sz bytes ht hi hz hsize hby hzs hsz v l.length css.flatten hs (hown.alloc _) ⟨W.heap.size,0,none⟩ 1 1 blk.toList hx (by rw [g.len hE];simp) (cells_new W blk te) (g.one hE) hn hb2 (by simp;omega) ?_
 intro v' w' hown' hgrow _ hat
 have hg2:W.grownBy w' v.ownBlock:=by
  refine ⟨hgrow.os,hgrow.tape,hgrow.output,?_,fun k hk hne=>?_⟩
  ·have:=hgrow.size;simp at this;omega
  ·rw [hgrow.block k (by simp;omega) hne]
   exact Below.heap_alloc W _ k hk
 have hat':Moved W v v':=by
  rcases hat with h1|h1
  ·exact .inl h1
  ·exact .inr ⟨_,h1,by simp⟩
 refine h v' w' ?_ hg2 hat'
 refine Grow.step g hl hEs (m:=[y]) (ess:=[blk.toList]) rfl (fun k hk=>?_) (by simpa using hown') hg2 hat'
 simp only [List.length_singleton] at hk
 obtain rfl:k=0:=by omega
 exact ⟨_,rfl,hE⟩
def Off (u v:Value):Prop:=∀b,u.ownBlock=some b→v.ownBlock≠some b
theorem Off.symm {u v:Value} (h:Off u v):Off v u:=fun b hb hu=>h b hu hb
theorem Off.nil (v:Value):Off (.slice none 0 0) v:=fun b hb=>by simp [Value.ownBlock] at hb
theorem Off.moved {W:World} {v v' x:Value} (h:Off v x) (hx:∀b,x.ownBlock=some b→b < W.heap.size) (hm:Moved W v v'):Off v' x:=by
 intro b hb hxb
 rcases hm with h1|⟨b',h1,hb'⟩
 ·exact h b (h1 ▸ hb) hxb
 ·rw [h1] at hb;injection hb with hb;have:=hx b hxb;omega
end
theorem Grow.flat {T T':Nat→Prop} {W:World} {base:Nat} {e:TypeId} {v:Value} {α:Type} {E:Rd α} {sz:Nat} {l:List α} (hf:∀(w:World) (S S':Nat→Prop) a cs,E w S a cs→E w S' a cs) (h:Grow E sz T W base e v l):Grow E sz T' W base e v l:=by
 obtain ⟨css,hl,hown,hE⟩:=h
 refine ⟨css,hl,hown,fun k hk=>?_⟩
 obtain ⟨cs,h1,h2⟩:=hE k hk
 exact ⟨cs,h1,hf _ _ _ _ _ h2⟩
def emp:Ent:=⟨{ data:=#[] },{ data:=#[] },[],[],[],[]⟩
def nil7:Hr:=⟨emp,false,false⟩
def Ris (l:List ByteArray):Prop:=l.Pairwise blt
def risB:List ByteArray→Bool
 | a::b::r=>Op.bytesLess a.toList b.toList&&risB (b::r)
 | _=>true
def rightH (l:List Hr):Bool:=l.all (fun x=>rgtE x.e)&&(risB (l.map fun x=>x.e.n)&&decide (l.length≤64))
def RightP (l:List Hr):Prop:=(∀x ∈ l,rgtE x.e=true)∧Ris (l.map fun x=>x.e.n)∧l.length≤64
theorem risB_iff:∀l:List ByteArray,risB l=true↔Ris l
 | []=>⟨fun _=>List.Pairwise.nil,fun _=>rfl⟩
 | [a]=>⟨fun _=>List.pairwise_singleton _ _,fun _=>rfl⟩
 | a::b::r=>by
  have ih:=risB_iff (b::r)
  unfold risB
  rw [Bool.and_eq_true,ih]
  constructor
  ·rintro ⟨h,k⟩
   refine List.Pairwise.cons (fun c hc=>?_) k
   rcases List.mem_cons.1 hc with rfl|hc
   ·exact h
   ·exact blt_tr h ((List.pairwise_cons.1 k).1 c hc)
  ·intro h
   obtain ⟨h1,h2⟩:=List.pairwise_cons.1 h
   exact ⟨h1 b (by simp),h2⟩
theorem rightH_iff (l:List Hr):rightH l=true↔RightP l:=by
 unfold rightH RightP
 rw [Bool.and_eq_true,Bool.and_eq_true,risB_iff,decide_eq_true_iff,List.all_eq_true]
theorem mem_tw {α:Type} {p:α→Bool}:∀{l:List α} {x:α},x ∈ l.takeWhile p→p x=true∧x ∈ l
 | a::l,x,h=>by
  rw [List.takeWhile_cons] at h
  split at h
  ·rename_i hp
   rcases List.mem_cons.1 h with rfl|h
   ·exact ⟨hp,List.mem_cons_self ..⟩
   ·exact ⟨(mem_tw h).1,List.mem_cons_of_mem _ (mem_tw h).2⟩
  ·cases h
theorem mem_dw {α:Type} {p:α→Bool}:∀{l:List α} {x:α},x ∈ l.dropWhile p→x ∈ l
 | a::l,x,h=>by
  rw [List.dropWhile_cons] at h
  split at h
  ·exact List.mem_cons_of_mem _ (mem_dw h)
  ·exact h
theorem dw_head {α:Type} {p:α→Bool}:∀{l r:List α} {x:α},l.dropWhile p=x::r→p x=false
 | a::l,r,x,h=>by
  rw [List.dropWhile_cons] at h
  split at h
  ·exact dw_head h
  ·rename_i hp
   obtain ⟨rfl,-⟩:=List.cons.inj h
   simpa using hp
theorem ris_adj {l:List ByteArray} (h:Ris l) {i:Nat} (hi:i+1 < l.length):blt l[i] l[i+1]:=List.pairwise_iff_getElem.1 h i (i+1) (by omega) hi (by omega)
theorem here_info:(Tryz.prog.info? 56).map (fun i=>(i.zero,i.size,i.bytes))=some (some (.agg #[.string { data:=#[] },.string { data:=#[] },.slice none 0 0,.slice none 0 0,.slice none 0 0,.slice none 0 0,.bool false,.bool false]),8,136):=by kernel_rfl
theorem EntV.hr {w:World} {S:Nat→Prop} {x:Hr} {A1 A2 A3 A4:Option Addr} {c1 c2 c3 c4:Nat} (h:EntV w S x.e A1 c1 A2 c2 A3 c3 A4 c4):rdHr w S x (#[.string x.e.n,.string x.e.v,.slice A1 x.e.d.length c1,.slice A2 x.e.r.length c2,.slice A3 x.e.c.length c3,.slice A4 x.e.p.length c4,.bool x.a,.bool x.h]:Array Value).toList:=
 ⟨[.string x.e.n,.string x.e.v,.slice A1 x.e.d.length c1,.slice A2 x.e.r.length c2,.slice A3 x.e.c.length c3,.slice A4 x.e.p.length c4],rfl,_,_,_,_,rfl,h.d,h.r,h.c,h.p⟩
end Go.Proofs.YtoopkofekekmoaaGreatDoor
