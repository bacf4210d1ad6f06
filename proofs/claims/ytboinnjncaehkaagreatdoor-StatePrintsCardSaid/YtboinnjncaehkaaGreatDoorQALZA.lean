/- What the laws rest on: E7d, RefRight, RefPrint, RefParse0, RefParse, RefOrder, E6m, E6e, RelP, DepP, DepP2, Deep4, Deep3, StzT, S5b, Deep5, S5c, E6k. -/
import Derived.RegionTactic
import Derived.Laws.OwnMore
import Derived.Test.YtboinnjncaehkaaGreatDoorQAJZA
set_option maxRecDepth 100000
set_option linter.unusedVariables false
set_option linter.unusedSimpArgs false
namespace Go.Proofs.YtboinnjncaehkaaGreatDoor
open Go.RowKit
theorem bel_in {w w1 w2:World} (h:Below w.heap.size w w1) (k:Below w1.heap.size w1 w2):Below w.heap.size w w2:=h.trans (k.mono h.size)
set_option maxHeartbeats 8000000 in
theorem same7_any (x y:Hr) (A1:Option Addr) (c1:Nat) (A2:Option Addr) (c2:Nat) (A3:Option Addr) (c3:Nat) (A4:Option Addr) (c4:Nat) (B1:Option Addr) (d1:Nat) (B2v:Option Addr) (d2:Nat) (B3:Option Addr) (d3:Nat) (B4:Option Addr) (d4:Nat) (w:World) (hx:EntV w (lt_ w.heap.size) x.e A1 c1 A2 c2 A3 c3 A4 c4) (hy:EntV w (lt_ w.heap.size) y.e B1 d1 B2v d2 B3 d3 B4 d4) :
  Calls Tryz.prog 22 #[x.val A1 c1 A2 c2 A3 c3 A4 c4,y.val B1 d1 B2v d2 B3 d3 B4 d4] w fun e w'=>e=.returned (.bool (decide (x=y)))∧Below w.heap.size w w':=by
 obtain ⟨⟨n,v,d,r,c,p⟩,a,h⟩:=x
 obtain ⟨⟨n',v',d',r',c',p'⟩,a',h'⟩:=y
 have B2:=Lib.hid (show Below w.heap.size w ((w.alloc (.cells #[.string n,.string v,.slice A1 d.length c1,.slice A2 r.length c2,.slice A3 c.length c3,.slice A4 p.length c4,.bool a,.bool h] 36)).alloc (.cells #[.string n',.string v',.slice B1 d'.length d1,.slice B2v r'.length d2,.slice B3 c'.length d3,.slice B4 p'.length d4,.bool a',.bool h'] 36)) from ((Below.refl _ w).alloc (Nat.le_refl _) _).alloc (by simp) _)
 have KX:=Lib.hid (fun (W:World) (hb:Below ((w.alloc (.cells #[.string n,.string v,.slice A1 d.length c1,.slice A2 r.length c2,.slice A3 c.length c3,.slice A4 p.length c4,.bool a,.bool h] 36)).alloc (.cells #[.string n',.string v',.slice B1 d'.length d1,.slice B2v r'.length d2,.slice B3 c'.length d3,.slice B4 p'.length d4,.bool a',.bool h'] 36)).heap.size ((w.alloc (.cells #[.string n,.string v,.slice A1 d.length c1,.slice A2 r.length c2,.slice A3 c.length c3,.slice A4 p.length c4,.bool a,.bool h] 36)).alloc (.cells #[.string n',.string v',.slice B1 d'.length d1,.slice B2v r'.length d2,.slice B3 c'.length d3,.slice B4 p'.length d4,.bool a',.bool h'] 36)) W)=>(show W.cell? ⟨w.heap.size,6,none⟩=some (.bool a)∧W.cell? ⟨w.heap.size,7,none⟩=some (.bool h)∧W.cell? ⟨w.heap.size+1,6,none⟩=some (.bool a')∧W.cell? ⟨w.heap.size+1,7,none⟩=some (.bool h') from by
  have z:((w.alloc (.cells #[.string n,.string v,.slice A1 d.length c1,.slice A2 r.length c2,.slice A3 c.length c3,.slice A4 p.length c4,.bool a,.bool h] 36)).alloc (.cells #[.string n',.string v',.slice B1 d'.length d1,.slice B2v r'.length d2,.slice B3 c'.length d3,.slice B4 p'.length d4,.bool a',.bool h'] 36)).heap.size=w.heap.size+2:=by rw [World.size_alloc,World.size_alloc]
  refine ⟨(hb.cell (show (⟨w.heap.size,6,none⟩:Addr).block < _ by rw [z];show w.heap.size < _;omega)).trans (by simp [go_sem]),(hb.cell (show (⟨w.heap.size,7,none⟩:Addr).block < _ by rw [z];show w.heap.size < _;omega)).trans (by simp [go_sem]),(hb.cell (show (⟨w.heap.size+1,6,none⟩:Addr).block < _ by rw [z];show w.heap.size+1 < _;omega)).trans (by simp [go_sem]),(hb.cell (show (⟨w.heap.size+1,7,none⟩:Addr).block < _ by rw [z];show w.heap.size+1 < _;omega)).trans (by simp [go_sem])⟩))
 have KE:=Lib.hid (sameEnt7_any ⟨n,v,d,r,c,p⟩ ⟨n',v',d',r',c',p'⟩ A1 c1 A2 c2 A3 c3 A4 c4 B1 d1 B2v d2 B3 d3 B4 d4 _ (hx.on B2.out) (hy.on B2.out))
 have HE:∀q,decide ((⟨n,v,d,r,c,p⟩:Ent)=⟨n',v',d',r',c',p'⟩)=q→decide ((⟨⟨n,v,d,r,c,p⟩,a,h⟩:Hr)=⟨⟨n',v',d',r',c',p'⟩,a',h'⟩)=(q&&(a==a'&&h==h')):=fun q hq=>by
  rw [←hq,Bool.eq_iff_iff]
  simp only [decide_eq_true_iff,Bool.and_eq_true,beq_iff_eq,Hr.mk.injEq]
 have HE:=Lib.hid HE
 show Calls Tryz.prog 22 #[.agg #[.string n,.string v,.slice A1 d.length c1,.slice A2 r.length c2,.slice A3 c.length c3,.slice A4 p.length c4,.bool a,.bool h],.agg #[.string n',.string v',.slice B1 d'.length d1,.slice B2v r'.length d2,.slice B3 c'.length d3,.slice B4 p'.length d4,.bool a',.bool h']] w _
 clear hx hy
 generalize decide ((⟨n,v,d,r,c,p⟩:Ent)=⟨n',v',d',r',c',p'⟩)=q at KE HE
 have HQ:=Lib.hid (HE.out q rfl)
 clear HE
 go_enter Tryz.func22,Tryz.ntmps22
 go_wp2_with fail
 refine KE.out.mono ?_
 rintro e w3 ⟨rfl,hb⟩
 have C0:=Lib.hid (bel_in B2.out hb)
 obtain ⟨e1,e2,e3,e4⟩:=KX.out w3 hb
 clear hb
 cases q<;>cases a<;>cases h<;>cases a'<;>cases h'
 all_goals
  go_wp2
  go_ret
  exact ⟨by rw [HQ.out];try rfl,C0.out⟩
set_option maxHeartbeats 16000000 in
theorem sameAll7_any (A A':Option Addr) (n c n' c':Nat) (l m:List Hr) (w:World) (h:rdHrs w (lt_ w.heap.size) l [.slice A n c]) (h':rdHrs w (lt_ w.heap.size) m [.slice A' n' c']) :
  Calls Tryz.prog 12 #[.slice A n c,.slice A' n' c'] w fun e w'=>e=.returned (.bool (decide (l=m)))∧Below w.heap.size w w':=by
 obtain ⟨rfl,hnc,hcm,_⟩:=rdHrs_at h
 obtain ⟨rfl,hnc',hcm',_⟩:=rdHrs_at h'
 have hcm1:c≤9223372036854775807:=hcm
 have hcm2:c'≤9223372036854775807:=hcm'
 by_cases hlen:l.length=m.length
 ·have hd:((l.length:Int) != (m.length:Int))=false:=by rw [hlen];simp
  have HL:=Lib.hid hlen
  clear hlen
  go_enter Tryz.func12,Tryz.ntmps12
  go_wp2
  go_loopw [5] (fun i wr=>∃k:Nat,k≤l.length∧i=.int .i64 k∧l.take k=m.take k∧Below w.heap.size w wr) (fun i _=>l.length - (intOf i).toNat)
  case atStart=>exact ⟨0,Nat.zero_le _,rfl,rfl,Below.refl _ _⟩
  case round=>
   obtain ⟨k,hk,rfl,htk,hbel⟩:=hrel
   by_cases hlt:k < l.length
   ·obtain ⟨_,_,_,ha⟩:=rdHrs_at (rdHrs_good.up (rdHrs_good.below h hbel) hbel.size)
    obtain ⟨_,_,_,hb⟩:=rdHrs_at (rdHrs_good.up (rdHrs_good.below h' hbel) hbel.size)
    have hltm:k < m.length:=by rw [←HL.out];exact hlt
    obtain ⟨ad,A1,c1,A2,c2,A3,c3,A4,c4,rfl,had,hv,h0,h1,h2,h3,h4,h5,h6,h7⟩:=ha k hlt
    obtain ⟨ad',B1,d1,B2v,d2,B3,d3,B4,d4,rfl,had',hv',g0,g1,g2,g3,g4,g5,g6,g7⟩:=hb k hltm
    have T:=Lib.hid (same_take (l:=l) (m:=m) HL.out hlt hltm htk)
    have Z:=Lib.hid (show l[k]≠m[k]→l≠m from fun hn e=>hn (by subst e;rfl))
    have HB:=Lib.hid hbel
    have i0:(0:Int)≤(k:Int):=by omega
    have i1:(k:Int) < (l.length:Int):=by omega
    have hki:(k:Int) < (m.length:Int):=by omega
    have K:=Lib.hid (fun W (hb:Below wr.heap.size wr W)=>same7_any l[k] m[k] A1 c1 A2 c2 A3 c3 A4 c4 B1 d1 B2v d2 B3 d3 B4 d4 W (hv.on hb) (hv'.on hb))
    have bb:=(Below.refl wr.heap.size wr).drew
    clear htk ha hb hbel h h' hv hv' had had'
    generalize l[k]=x at *
    generalize m[k]=y at *
    by_cases he:x=y
    ·rw [decide_eq_true he] at K
     have HE:=Lib.hid he
     clear he
     go_wp2_with fail
     go_region_held3 (fun W=>W.cell? (ad.add (k*8))=some (.string x.e.n)∧W.cell? ⟨(ad.add (k*8)).block,(ad.add (k*8)).off+1,none⟩=some (.string x.e.v)∧W.cell? ⟨(ad.add (k*8)).block,(ad.add (k*8)).off+2,none⟩=some (.slice A1 x.e.d.length c1)∧W.cell? ⟨(ad.add (k*8)).block,(ad.add (k*8)).off+3,none⟩=some (.slice A2 x.e.r.length c2)∧W.cell? ⟨(ad.add (k*8)).block,(ad.add (k*8)).off+4,none⟩=some (.slice A3 x.e.c.length c3)∧W.cell? ⟨(ad.add (k*8)).block,(ad.add (k*8)).off+5,none⟩=some (.slice A4 x.e.p.length c4)∧W.cell? ⟨(ad.add (k*8)).block,(ad.add (k*8)).off+6,none⟩=some (.bool x.a)∧W.cell? ⟨(ad.add (k*8)).block,(ad.add (k*8)).off+7,none⟩=some (.bool x.h)∧W.cell? (ad'.add (k*8))=some (.string y.e.n)∧W.cell? ⟨(ad'.add (k*8)).block,(ad'.add (k*8)).off+1,none⟩=some (.string y.e.v)∧W.cell? ⟨(ad'.add (k*8)).block,(ad'.add (k*8)).off+2,none⟩=some (.slice B1 y.e.d.length d1)∧W.cell? ⟨(ad'.add (k*8)).block,(ad'.add (k*8)).off+3,none⟩=some (.slice B2v y.e.r.length d2)∧W.cell? ⟨(ad'.add (k*8)).block,(ad'.add (k*8)).off+4,none⟩=some (.slice B3 y.e.c.length d3)∧W.cell? ⟨(ad'.add (k*8)).block,(ad'.add (k*8)).off+5,none⟩=some (.slice B4 y.e.p.length d4)∧W.cell? ⟨(ad'.add (k*8)).block,(ad'.add (k*8)).off+6,none⟩=some (.bool y.a)∧W.cell? ⟨(ad'.add (k*8)).block,(ad'.add (k*8)).off+7,none⟩=some (.bool y.h)∧Below wr.heap.size wr W)
      (first|(go_split_ands;refine ⟨?_,?_,?_,?_,?_,?_,?_,?_,?_,?_,?_,?_,?_,?_,?_,?_,?_⟩<;>first|assumption|exact keep6 hbx (by assumption)|exact Below.trans (by assumption) (hbx.mono (Below.size (by assumption))))|go_keep)
      ((go_at_call 22;(with_reducible refine (K.out _ (by go_split_ands;assumption)).mono ?_);rintro e wx ⟨rfl,hbx⟩))
     all_goals
      go_split_ands
      have HB2:=Lib.hid (show Below w.heap.size w _ from HB.out.trans (Below.mono (show Below wr.heap.size wr _ by assumption) HB.out.size))
      go_wp2
      go_roundw
      case rel=>exact ⟨k+1,by omega,by go_num,T.out HE.out,HB2.out⟩
      case measure=>simp [intOf];omega
    ·rw [decide_eq_false he] at K
     have HE:=Lib.hid he
     clear he
     go_wp2_with fail
     go_region_held3 (fun W=>W.cell? (ad.add (k*8))=some (.string x.e.n)∧W.cell? ⟨(ad.add (k*8)).block,(ad.add (k*8)).off+1,none⟩=some (.string x.e.v)∧W.cell? ⟨(ad.add (k*8)).block,(ad.add (k*8)).off+2,none⟩=some (.slice A1 x.e.d.length c1)∧W.cell? ⟨(ad.add (k*8)).block,(ad.add (k*8)).off+3,none⟩=some (.slice A2 x.e.r.length c2)∧W.cell? ⟨(ad.add (k*8)).block,(ad.add (k*8)).off+4,none⟩=some (.slice A3 x.e.c.length c3)∧W.cell? ⟨(ad.add (k*8)).block,(ad.add (k*8)).off+5,none⟩=some (.slice A4 x.e.p.length c4)∧W.cell? ⟨(ad.add (k*8)).block,(ad.add (k*8)).off+6,none⟩=some (.bool x.a)∧W.cell? ⟨(ad.add (k*8)).block,(ad.add (k*8)).off+7,none⟩=some (.bool x.h)∧W.cell? (ad'.add (k*8))=some (.string y.e.n)∧W.cell? ⟨(ad'.add (k*8)).block,(ad'.add (k*8)).off+1,none⟩=some (.string y.e.v)∧W.cell? ⟨(ad'.add (k*8)).block,(ad'.add (k*8)).off+2,none⟩=some (.slice B1 y.e.d.length d1)∧W.cell? ⟨(ad'.add (k*8)).block,(ad'.add (k*8)).off+3,none⟩=some (.slice B2v y.e.r.length d2)∧W.cell? ⟨(ad'.add (k*8)).block,(ad'.add (k*8)).off+4,none⟩=some (.slice B3 y.e.c.length d3)∧W.cell? ⟨(ad'.add (k*8)).block,(ad'.add (k*8)).off+5,none⟩=some (.slice B4 y.e.p.length d4)∧W.cell? ⟨(ad'.add (k*8)).block,(ad'.add (k*8)).off+6,none⟩=some (.bool y.a)∧W.cell? ⟨(ad'.add (k*8)).block,(ad'.add (k*8)).off+7,none⟩=some (.bool y.h)∧Below wr.heap.size wr W)
      (first|(go_split_ands;refine ⟨?_,?_,?_,?_,?_,?_,?_,?_,?_,?_,?_,?_,?_,?_,?_,?_,?_⟩<;>first|assumption|exact keep6 hbx (by assumption)|exact Below.trans (by assumption) (hbx.mono (Below.size (by assumption))))|go_keep)
      ((go_at_call 22;(with_reducible refine (K.out _ (by go_split_ands;assumption)).mono ?_);rintro e wx ⟨rfl,hbx⟩))
     all_goals
      go_split_ands
      have HB2:=Lib.hid (show Below w.heap.size w _ from HB.out.trans (Below.mono (show Below wr.heap.size wr _ by assumption) HB.out.size))
      go_wp2
      go_ret
      exact ⟨by rw [decide_eq_false (Z.out HE.out)];try rfl,HB2.out⟩
   ·obtain rfl:k=l.length:=by omega
    have X:=Lib.hid (show l=m by rw [List.take_length] at htk;rw [htk,HL.out,List.take_length])
    clear htk h h'
    go_wp2
    go_ret
    exact ⟨by rw [decide_eq_true X.out];try rfl,hbel⟩
 ·have hd:((l.length:Int) != (m.length:Int))=true:=by rw [bne_iff_ne];omega
  have X:=Lib.hid (show l≠m by rintro rfl;exact hlen rfl)
  clear hlen
  go_enter Tryz.func12,Tryz.ntmps12
  go_wp2
  go_ret
  exact ⟨by rw [decide_eq_false X.out];try rfl,Below.refl _ _⟩
def headD:List Nat→Bool|[]=>false|c::_=>digB c
def chB (x:List Nat) (c:Nat):Bool:=letB c||digB c||hasB x c
def uX:List Nat:=[46,43,126,45,58]
def rX:List Nat:=[46,43,126]
def rightB (e:Int) (u r:List Nat):Bool:=
 decide (0≤e∧e≤999999999)&&headD u&&!(hasB u 45&&decide (r=[]))&&!(hasB u 58&&decide (e=0))&&u.all (chB uX)&&r.all (chB rX)&&decide ((textL e.toNat u r).length≤60)
theorem headD_at (s:ByteArray) (h:0 < s.size):headD (B s)=digB s[0].toNat:=by
 have:=B_drop s 0 h
 rw [List.drop_zero] at this
 rw [this];rfl
def printL (e:Int) (u r:List Nat):List Nat:=if rightB e u r=true then textL e.toNat u r else []
theorem rightB_epoch {e:Int} {u r:List Nat} (h:rightB e u r=true):0≤e∧e≤999999999:=by
 unfold rightB at h
 simp only [Bool.and_eq_true] at h
 exact of_decide_eq_true h.1.1.1.1.1.1
theorem box_cells {w w1:World} {T:TypeId} {x y z:Value} (h:Below (w.alloc (.cells #[x,y,z] T)).heap.size (w.alloc (.cells #[x,y,z] T)) w1) :
  w1.cell? ⟨w.heap.size,0,none⟩=some x∧w1.cell? ⟨w.heap.size,1,none⟩=some y∧w1.cell? ⟨w.heap.size,2,none⟩=some z∧w.heap.size+1≤w1.heap.size:=by
 refine ⟨(h.cell (by simp)).trans (by simp),(h.cell (by simp)).trans (by simp),(h.cell (by simp)).trans (by simp),?_⟩
 have:=h.size
 simpa using this
def firstI:List Nat→Nat→Option Nat
 | [],_=>none
 | c::l,n=>if c=58 then some n else firstI l (n+1)
def lastI (u:List Nat):Nat→Option Nat
 | 0=>none
 | n+1=>if u.getD n 0=45 then some n else lastI u n
def colE (s:List Nat):Int:=match firstI s 0 with|none=>0|some i=>numL (s.take i)
def colU (s:List Nat):List Nat:=match firstI s 0 with|none=>s|some i=>s.drop (i+1)
def dashU (u:List Nat):List Nat:=match lastI u u.length with|none=>u|some i=>u.take i
def dashR (u:List Nat):List Nat:=match lastI u u.length with|none=>[]|some i=>u.drop (i+1)
def parseB (s:List Nat):Bool:=
 rightB (colE s) (dashU (colU s)) (dashR (colU s))&&(decide (textL (colE s).toNat (dashU (colU s)) (dashR (colU s))=s)||decide (48::58::textL (colE s).toNat (dashU (colU s)) (dashR (colU s))=s))
def parseE (s:List Nat):Int:=if s.length > 60 then 9 else if parseB s then 0 else 4
def parse1 (s:List Nat):Int:=if parseE s=0 then colE s else 0
def parse2 (s:List Nat):List Nat:=if parseE s=0 then dashU (colU s) else []
def parse3 (s:List Nat):List Nat:=if parseE s=0 then dashR (colU s) else []
theorem lastI_step {s:ByteArray} {k:Nat} (hk:k < s.size):lastI (B s) (k+1)=if s[k].toNat=45 then some k else lastI (B s) k:=by
 show (if (B s).getD k 0=45 then some k else lastI (B s) k)=_
 rw [B_getD s k hk]
theorem lastI_lt {u:List Nat}:∀{n i:Nat},lastI u n=some i→i < n
 | 0,_,h=>by cases h
 | n+1,i,h=>by
  simp only [lastI] at h
  split at h
  ·injection h with h;omega
  ·have:=lastI_lt h;omega
def parseV (s:ByteArray):Value:=.tuple #[.agg #[.int .i64 (parse1 (B s)),.string (mk (parse2 (B s))),.string (mk (parse3 (B s)))],.int .i64 (parseE (B s))]
theorem parse_bad {s:ByteArray} (h:parseE (B s)≠0):parseV s=.tuple #[.agg #[.int .i64 0,.string { data:=#[] },.string { data:=#[] }],.int .i64 (parseE (B s))]:=by
 unfold parseV parse1 parse2 parse3
 rw [if_neg h,if_neg h,if_neg h];rfl
theorem fin3 {w W:World} {a b c x y z:Value} (hb:Below w.heap.size w W) (h0:W.cell? ⟨w.heap.size,0,none⟩=some a) (h1:W.cell? ⟨w.heap.size,1,none⟩=some b) (h2:W.cell? ⟨w.heap.size,2,none⟩=some c) :
  (((W.setCell ⟨w.heap.size,0,none⟩ x).setCell ⟨w.heap.size,1,none⟩ y).setCell ⟨w.heap.size,2,none⟩ z).cell? ⟨w.heap.size,0,none⟩=some x∧
  (((W.setCell ⟨w.heap.size,0,none⟩ x).setCell ⟨w.heap.size,1,none⟩ y).setCell ⟨w.heap.size,2,none⟩ z).cell? ⟨w.heap.size,1,none⟩=some y∧
  (((W.setCell ⟨w.heap.size,0,none⟩ x).setCell ⟨w.heap.size,1,none⟩ y).setCell ⟨w.heap.size,2,none⟩ z).cell? ⟨w.heap.size,2,none⟩=some z∧
  Below w.heap.size w (((W.setCell ⟨w.heap.size,0,none⟩ x).setCell ⟨w.heap.size,1,none⟩ y).setCell ⟨w.heap.size,2,none⟩ z):=
 ⟨by simp [go_sem,h0],by simp [go_sem,h1],by simp [go_sem,h2],((hb.setCell (by simp) _).setCell (by simp) _).setCell (by simp) _⟩
theorem parseE_of {s:ByteArray} (h:s.size≤60):parseE (B s)=if parseB (B s) then 0 else 4:=by unfold parseE;rw [if_neg (by rw [B_len];omega)]
theorem textL_lt (e:Nat) (u r:ByteArray):∀c ∈ textL e (B u) (B r),c < 256:=by
 intro c hc
 unfold textL at hc
 rcases List.mem_append.1 hc with hc|hc
 ·rcases List.mem_append.1 hc with hc|hc
  ·split at hc
   ·cases hc
   ·rcases List.mem_append.1 hc with hc|hc
    ·exact decL_lt e c hc
    ·rw [List.mem_singleton.1 hc];decide
  ·exact B_lt u c hc
 ·split at hc
  ·cases hc
  ·rcases List.mem_cons.1 hc with rfl|hc
   ·decide
   ·exact B_lt r c hc
theorem parse_good {s U R:ByteArray} {E:Int} (h:s.size≤60) (hE:E=colE (B s)) (hU:B U=dashU (colU (B s))) (hR:B R=dashR (colU (B s))) (hp:parseB (B s)=true):parseV s=.tuple #[.agg #[.int .i64 E,.string U,.string R],.int .i64 0]:=by
 have h0:parseE (B s)=0:=by rw [parseE_of h,hp];rfl
 unfold parseV parse1 parse2 parse3
 rw [if_pos h0,if_pos h0,if_pos h0,←hE,←hU,←hR,mk_B,mk_B,h0]
theorem parse_wrong {s:ByteArray} (h:s.size≤60) (hp:parseB (B s)=false):parseV s=.tuple #[.agg #[.int .i64 0,.string { data:=#[] },.string { data:=#[] }],.int .i64 4]:=by
 have h0:parseE (B s)=4:=by rw [parseE_of h,hp];rfl
 rw [parse_bad (by rw [h0];decide),h0]
theorem colU_mem {s:List Nat} {c:Nat} (h:c ∈ colU s):c ∈ s:=by
 unfold colU at h
 split at h
 ·exact h
 ·exact List.mem_of_mem_drop h
theorem dashU_mem {s:List Nat} {c:Nat} (h:c ∈ dashU s):c ∈ s:=by
 unfold dashU at h
 split at h
 ·exact h
 ·exact List.mem_of_mem_take h
theorem dashR_mem {s:List Nat} {c:Nat} (h:c ∈ dashR s):c ∈ s:=by
 unfold dashR at h
 split at h
 ·cases h
 ·exact List.mem_of_mem_drop h
theorem colU_len (s:List Nat):(colU s).length≤s.length:=by
 unfold colU
 split
 ·exact Nat.le_refl _
 ·rw [List.length_drop];omega
theorem dashU_len (s:List Nat):(dashU s).length≤s.length:=by
 unfold dashU
 split
 ·exact Nat.le_refl _
 ·rw [List.length_take];omega
theorem dashR_len (s:List Nat):(dashR s).length≤s.length:=by
 unfold dashR
 split
 ·exact Nat.zero_le _
 ·rw [List.length_drop];omega
theorem parse2_lt (s:ByteArray):∀c ∈ parse2 (B s),c < 256:=by
 intro c hc
 unfold parse2 at hc
 split at hc
 ·exact B_lt s c (colU_mem (dashU_mem hc))
 ·cases hc
theorem parse3_lt (s:ByteArray):∀c ∈ parse3 (B s),c < 256:=by
 intro c hc
 unfold parse3 at hc
 split at hc
 ·exact B_lt s c (colU_mem (dashR_mem hc))
 ·cases hc
theorem parseE_len {s:List Nat} (h:parseE s=0):s.length≤60:=by
 unfold parseE at h
 split at h
 ·cases h
 ·omega
theorem parse2_len (s:List Nat):(parse2 s).length≤60:=by
 unfold parse2
 split
 ·rename_i h
  have:=parseE_len h;have:=colU_len s;have:=dashU_len (colU s);omega
 ·exact Nat.zero_le _
theorem parse3_len (s:List Nat):(parse3 s).length≤60:=by
 unfold parse3
 split
 ·rename_i h
  have:=parseE_len h;have:=colU_len s;have:=dashR_len (colU s);omega
 ·exact Nat.zero_le _
def blt (a b:ByteArray):Prop:=Op.bytesLess a.toList b.toList=true
theorem bl_cons (a b:UInt8) (x y:List UInt8):Op.bytesLess (a::x) (b::y)=true↔a.toNat < b.toNat∨(a.toNat=b.toNat∧Op.bytesLess x y=true):=by
 simp only [Op.bytesLess,Bool.or_eq_true,Bool.and_eq_true,decide_eq_true_eq,beq_iff_eq,UInt8.lt_iff_toNat_lt,UInt8.toNat_inj]
theorem bl_asym:∀x y:List UInt8,Op.bytesLess x y=true→Op.bytesLess y x=true→False
 | _,[],h,_=>by simp [Op.bytesLess] at h
 | [],_::_,_,h=>by simp [Op.bytesLess] at h
 | a::x,b::y,h,k=>by
  rw [bl_cons] at h k
  rcases h with h|⟨h,h'⟩
  ·rcases k with k|⟨k,_⟩<;>omega
  ·rcases k with k|⟨_,k'⟩
   ·omega
   ·exact bl_asym x y h' k'
theorem bl_tot:∀x y:List UInt8,Op.bytesLess x y=true∨Op.bytesLess y x=true∨x=y
 | [],[]=>.inr (.inr rfl)
 | [],_::_=>.inl rfl
 | _::_,[]=>.inr (.inl rfl)
 | a::x,b::y=>by
  rw [bl_cons,bl_cons]
  rcases Nat.lt_trichotomy a.toNat b.toNat with h|h|h
  ·exact .inl (.inl h)
  ·rcases bl_tot x y with k|k|k
   ·exact .inl (.inr ⟨h,k⟩)
   ·exact .inr (.inl (.inr ⟨h.symm,k⟩))
   ·exact .inr (.inr (by rw [UInt8.toNat_inj.1 h,k]))
  ·exact .inr (.inl (.inl h))
theorem bl_tr:∀x y z:List UInt8,Op.bytesLess x y=true→Op.bytesLess y z=true→Op.bytesLess x z=true
 | _,[],_,h,_=>by simp [Op.bytesLess] at h
 | _,_::_,[],_,k=>by simp [Op.bytesLess] at k
 | [],_::_,_::_,_,_=>rfl
 | a::x,b::y,c::z,h,k=>by
  rw [bl_cons] at h k ⊢
  rcases h with h|⟨h,h'⟩<;>rcases k with k|⟨k,k'⟩
  ·exact .inl (by omega)
  ·exact .inl (by omega)
  ·exact .inl (by omega)
  ·exact .inr ⟨by omega,bl_tr x y z h' k'⟩
theorem toList_same {a b:ByteArray} (h:a.toList=b.toList):a=b:=by
 have:=str_eq a b
 rw [h,beq_self_eq_true] at this
 exact of_decide_eq_true this.symm
theorem blt_asym {a b:ByteArray} (h:blt a b) (k:blt b a):False:=bl_asym _ _ h k
theorem blt_tot (a b:ByteArray):blt a b∨blt b a∨a=b:=by
 rcases bl_tot a.toList b.toList with h|h|h
 ·exact .inl h
 ·exact .inr (.inl h)
 ·exact .inr (.inr (toList_same h))
theorem blt_tr {a b c:ByteArray} (h:blt a b) (k:blt b c):blt a c:=bl_tr _ _ _ h k
theorem blt_self (a:ByteArray):¬blt a a:=fun h=>blt_asym h h
def giv6 (a:Atm):Bool:=a.o==0||a.o==3
def givs6 (l:List Atm):Bool:=l.all giv6
theorem all_step6 {α:Type} {f:α→Bool} {l:List α} {k:Nat} (h:k < l.length) (ha:(l.take k).all f=true) (hf:f l[k]=true):(l.take (k+1)).all f=true:=by
 rw [List.take_succ_eq_append_getElem h,List.all_append,ha];simp [hf]
theorem all_stop6 {α:Type} {f:α→Bool} {l:List α} {k:Nat} (h:k < l.length) (hf:f l[k]=false):l.all f=false:=by
 rw [List.all_eq_false];exact ⟨_,List.getElem_mem h,by rw [hf];simp⟩
def plnB (c:Nat):Bool:=decide (97≤c∧c≤122)||digB c
def nmcB (c:Nat):Bool:=plnB c||decide (c=43)||decide (c=45)||decide (c=46)
def nameB (l:List Nat):Bool:=decide (2≤l.length)&&decide (l.length≤40)&&plnB (l.getD 0 0)&&l.all nmcB
def signL (op:Int):List Nat:=if op=1 then [60,60] else if op=2 then [60,61] else if op=3 then [61] else if op=4 then [62,61] else if op=5 then [62,62] else []
def opI (l:List Nat):Int:=if l=[60,60] then 1 else if l=[60,61] then 2 else if l=[61] then 3 else if l=[62,61] then 4 else if l=[62,62] then 5 else 0
def prB (l:List Nat):Bool:=decide (parseE l=0)&&decide (printL (parse1 l) (parse2 l) (parse3 l)=l)
def rightA (n:List Nat) (op:Int) (v:List Nat):Bool:=nameB n&&(if op=0 then decide (v=[]) else decide (1≤op∧op≤5)&&prB v)
def textA (n:List Nat) (op:Int) (v:List Nat):List Nat:=if op=0 then n else n++32::40::(signL op++32::(v++[41]))
def cutN (l:List Nat):List Nat:=l.takeWhile (fun c=>c != 32)
def cutR (l:List Nat):List Nat:=(l.dropWhile (fun c=>c != 32)).drop 1
def cutH (l:List Nat):Bool:=l.any (fun c=>c==32)
def inL (r:List Nat):List Nat:=(r.drop 1).dropLast
def formB (r:List Nat):Bool:=decide (2≤r.length)&&decide (r.getD 0 0=40)&&decide (r.getD (r.length - 1) 0=41)&&(cutH (inL r)&&decide (opI (cutN (inL r))≠0))
def verL (r:List Nat):List Nat:=cutR (inL r)
def relE (s:List Nat):Int:=if nameB (cutN s)=true then (if cutH s=true then (if formB (cutR s)=true then (if prB (verL (cutR s))=true then 0 else 4) else 5) else 0) else 3
def relN (s:List Nat):List Nat:=if relE s=0 then cutN s else []
def relO (s:List Nat):Int:=if relE s=0 then (if cutH s=true then opI (cutN (inL (cutR s))) else 0) else 0
def relV (s:List Nat):List Nat:=if relE s=0 then (if cutH s=true then verL (cutR s) else []) else []
def relVal (s:ByteArray):Value:=.tuple #[.agg #[.string (mk (relN (B s))),.int .i64 (relO (B s)),.string (mk (relV (B s)))],.int .i64 (relE (B s))]
theorem cut_at {n r:List Nat} (h:∀c ∈ n,c≠32):cutN (n++32::r)=n∧cutR (n++32::r)=r∧cutH (n++32::r)=true:=by
 induction n with
 | nil=>exact ⟨by simp [cutN],by simp [cutR],by simp [cutH]⟩
 | cons c n ih=>
  obtain ⟨a,b,d⟩:=ih (fun x hx=>h x (by simp [hx]))
  have hc:(c != 32)=true:=by rw [bne_iff_ne];exact h c (by simp)
  refine ⟨?_,?_,by simp [cutH]⟩
  ·show (List.takeWhile _ (c::(n++32::r)))=_
   rw [List.takeWhile_cons,if_pos hc]
   exact congrArg (c::·) a
  ·show (List.dropWhile _ (c::(n++32::r))).drop 1=_
   rw [List.dropWhile_cons,if_pos hc]
   exact b
theorem cut_no {l:List Nat} (h:∀c ∈ l,c≠32):cutN l=l∧cutR l=[]∧cutH l=false:=by
 induction l with
 | nil=>exact ⟨rfl,rfl,rfl⟩
 | cons c l ih=>
  obtain ⟨a,b,d⟩:=ih (fun x hx=>h x (by simp [hx]))
  have hc:(c != 32)=true:=by rw [bne_iff_ne];exact h c (by simp)
  have hc2:(c==32)=false:=by rw [beq_eq_false_iff_ne];exact h c (by simp)
  refine ⟨?_,?_,?_⟩
  ·show (List.takeWhile _ (c::l))=_
   rw [List.takeWhile_cons,if_pos hc]
   exact congrArg (c::·) a
  ·show (List.dropWhile _ (c::l)).drop 1=_
   rw [List.dropWhile_cons,if_pos hc]
   exact b
  ·show (List.any (c::l) _)=_
   rw [List.any_cons,hc2,Bool.false_or]
   exact d
theorem cut_back:∀{l:List Nat},cutH l=true→l=cutN l++32::cutR l
 | [],h=>by simp [cutH] at h
 | c::l,h=>by
  by_cases hc:c=32
  ·subst hc;simp [cutN,cutR]
  ·have h1:(c==32)=false:=by rw [beq_eq_false_iff_ne];exact hc
   have h2:(c != 32)=true:=by rw [bne_iff_ne];exact hc
   have h3:cutH l=true:=by
    have:(List.any (c::l) fun c=>c==32)=true:=h
    rw [List.any_cons,h1,Bool.false_or] at this
    exact this
   have ih:=cut_back h3
   show c::l=List.takeWhile _ (c::l)++32::(List.dropWhile _ (c::l)).drop 1
   rw [List.takeWhile_cons,List.dropWhile_cons,if_pos h2,if_pos h2]
   exact congrArg (c::·) ih
theorem cutN_no (l:List Nat):∀c ∈ cutN l,c≠32:=by
 induction l with
 | nil=>intro c hc;cases hc
 | cons d l ih=>
  intro c hc
  unfold cutN at hc
  rw [List.takeWhile_cons] at hc
  split at hc
  ·rename_i h
   rcases List.mem_cons.1 hc with rfl|hc
   ·rwa [bne_iff_ne] at h
   ·exact ih c hc
  ·cases hc
theorem cutH_no {l:List Nat} (h:cutH l=false):∀c ∈ l,c≠32:=by
 intro c hc e
 subst e
 have:cutH l=true:=List.any_eq_true.2 ⟨32,hc,rfl⟩
 rw [h] at this;cases this
theorem cutR_len (l:List Nat):(cutR l).length≤l.length:=by
 unfold cutR
 rw [List.length_drop]
 have:=List.Sublist.length_le (List.dropWhile_sublist (fun c=>c != 32) (l:=l))
 omega
theorem cutN_mem {l:List Nat} {c:Nat} (h:c ∈ cutN l):c ∈ l:=(List.takeWhile_sublist _).subset h
theorem cutR_mem {l:List Nat} {c:Nat} (h:c ∈ cutR l):c ∈ l:=(List.dropWhile_sublist _).subset (List.mem_of_mem_drop h)
theorem inL_mem {l:List Nat} {c:Nat} (h:c ∈ inL l):c ∈ l:=List.mem_of_mem_drop ((List.dropLast_sublist _).subset h)
theorem inL_of (m:List Nat) (a b:Nat):inL (a::(m++[b]))=m:=by simp [inL]
theorem form_is {r:List Nat} (h:2≤r.length) (h0:r.getD 0 0=40) (h1:r.getD (r.length - 1) 0=41):r=40::(inL r++[41]):=by
 rcases r with _|⟨a,r⟩
 ·simp at h
 ·simp only [List.getD_cons_zero] at h0
  subst h0
  have hr:r≠[]:=by rintro rfl;simp at h
  have hl:r.getLast hr=41:=by
   rw [List.getLast_eq_getElem]
   have e:(40::r).length - 1=(r.length - 1)+1:=by have:=List.length_pos_iff.2 hr;simp;omega
   rw [e,List.getD_cons_succ,List.getD_eq_getElem?_getD,List.getElem?_eq_getElem (by have:=List.length_pos_iff.2 hr;omega)] at h1
   exact h1
  show 40::r=40::(r.dropLast++[41])
  congr 1
  rw [←hl]
  exact (List.dropLast_concat_getLast hr).symm
theorem sign_op {l:List Nat} (h:opI l≠0):signL (opI l)=l∧1≤opI l∧opI l≤5:=by
 unfold opI at *
 split at h
 ·rename_i e;rw [if_pos e,e];decide
 ·rename_i e1
  rw [if_neg e1]
  split at h
  ·rename_i e;rw [if_pos e,e];decide
  ·rename_i e2
   rw [if_neg e2]
   split at h
   ·rename_i e;rw [if_pos e,e];decide
   ·rename_i e3
    rw [if_neg e3]
    split at h
    ·rename_i e;rw [if_pos e,e];decide
    ·rename_i e4
     rw [if_neg e4]
     split at h
     ·rename_i e;rw [if_pos e,e];decide
     ·exact absurd rfl h
theorem text_of_rel {s:List Nat} (h:relE s=0):rightA (relN s) (relO s) (relV s)=true∧textA (relN s) (relO s) (relV s)=s:=by
 have h':=h
 have hN:relN s=cutN s:=by unfold relN;rw [if_pos h]
 have hO:relO s=if cutH s=true then opI (cutN (inL (cutR s))) else 0:=by unfold relO;rw [if_pos h]
 have hV:relV s=if cutH s=true then verL (cutR s) else []:=by unfold relV;rw [if_pos h]
 unfold relE at h'
 split at h'
 ·rename_i hn
  split at h'
  ·rename_i hc
   split at h'
   ·rename_i hf
    split at h'
    ·rename_i hp
     rw [if_pos hc] at hO hV
     unfold formB at hf
     simp only [Bool.and_eq_true,decide_eq_true_eq] at hf
     obtain ⟨⟨⟨f0,f1⟩,f2⟩,f3,f4⟩:=hf
     have hr:=form_is f0 f1 f2
     obtain ⟨g0,g1⟩:=sign_op f4
     have hi:=cut_back f3
     rw [hN,hO,hV]
     constructor
     ·unfold rightA
      rw [hn,if_neg f4,hp,decide_eq_true g1];rfl
     ·unfold textA
      rw [if_neg f4,g0]
      have e:(cutN (inL (cutR s))++32::(verL (cutR s)++[41]):List Nat)=inL (cutR s)++[41]:=by
       conv=>rhs;rw [hi]
       unfold verL
       simp
      rw [e,←hr]
      exact (cut_back hc).symm
    ·cases h'
   ·cases h'
  ·rename_i hc
   rw [if_neg hc] at hO hV
   rw [hN,hO,hV]
   obtain ⟨c0,_,_⟩:=cut_no (cutH_no (by simpa using hc))
   refine ⟨?_,?_⟩
   ·unfold rightA;rw [hn,if_pos rfl];rfl
   ·unfold textA;rw [if_pos rfl,c0]
 ·cases h'
theorem rel_none {s:List Nat} (h:relE s≠0):relN s=[]∧relO s=0∧relV s=[]:=⟨by unfold relN;rw [if_neg h],by unfold relO;rw [if_neg h],by unfold relV;rw [if_neg h]⟩
def trmR (l:List Nat):List Nat:=(l.reverse.dropWhile (fun c=>c==32)).reverse
def trm (l:List Nat):List Nat:=(trmR l).dropWhile (fun c=>c==32)
theorem trmR_snoc (l:List Nat):trmR (l++[32])=trmR l:=by unfold trmR;rw [List.reverse_append];rfl
theorem trmR_last (l:List Nat) {x:Nat} (h:x≠32):trmR (l++[x])=l++[x]:=by
 unfold trmR
 rw [List.reverse_append,List.reverse_singleton,List.singleton_append,List.dropWhile_cons,if_neg (by simpa using h)];simp
theorem trm_snoc (l:List Nat):trm (l++[32])=trm l:=by unfold trm;rw [trmR_snoc]
theorem trmR_cons (l:List Nat):trmR (32::l)=if trmR l=[] then [] else 32::trmR l:=by
 rcases List.eq_nil_or_concat l with rfl|⟨m,x,rfl⟩
 ·rfl
 ·rw [List.concat_eq_append]
  by_cases hx:x=32
  ·subst hx
   rw [←List.cons_append,trmR_snoc,trmR_snoc]
   exact trmR_cons m
  ·rw [←List.cons_append,trmR_last _ hx,trmR_last _ hx,if_neg (by simp)];rfl
termination_by l.length
decreasing_by all_goals simp_all
theorem trm_cons (l:List Nat):trm (32::l)=trm l:=by
 unfold trm
 rw [trmR_cons]
 split
 ·rename_i h;rw [h]
 ·rfl
theorem trm_parts (l:List Nat):∃a b,(∀x ∈ a,x=32)∧(∀x ∈ b,x=32)∧l=a++(trm l++b):=by
 have h1:∃b,(∀x ∈ b,x=32)∧l=trmR l++b:=by
  refine ⟨(l.reverse.takeWhile (fun c=>c==32)).reverse,fun x hx=>?_,?_⟩
  ·have:=twl_all (List.mem_reverse.1 hx);simpa using this
  ·unfold trmR
   rw [←List.reverse_append,List.takeWhile_append_dropWhile,List.reverse_reverse]
 obtain ⟨b,hb,e⟩:=h1
 refine ⟨(trmR l).takeWhile (fun c=>c==32),b,fun x hx=>?_,hb,?_⟩
 ·have:=twl_all hx;simpa using this
 ·unfold trm
  rw [←List.append_assoc,List.takeWhile_append_dropWhile];exact e
theorem trm_mem {l:List Nat} {x:Nat} (h:x ∈ trm l):x ∈ l:=by
 obtain ⟨a,b,_,_,e⟩:=trm_parts l
 rw [e];simp [h]
theorem trm_len (l:List Nat):(trm l).length≤l.length:=by
 obtain ⟨a,b,_,_,e⟩:=trm_parts l
 have:=congrArg List.length e
 simp at this;omega
def grpT (p:List Nat):List (List Nat):=(cutBy 124 p).map trm
theorem grpT_cons (l:List Nat):grpT (32::l)=grpT l:=by
 unfold grpT
 rw [show 32::l=[32]++l from rfl,cutBy_app (by simp)]
 cases hL:cutBy 124 l with
 | nil=>exact absurd hL (cutBy_ne _ _)
 | cons q r=>simp only [preH,List.map_cons];rw [show [32]++q=32::q from rfl,trm_cons]
theorem grpT_snoc (l:List Nat):grpT (l++[32])=grpT l:=by
 unfold grpT
 obtain ⟨i,z,h1,h2⟩:=cutBy_snoc (c:=124) (x:=32) (by decide) l
 rw [h1,h2,List.map_append,List.map_append,List.map_singleton,List.map_singleton,trm_snoc]
theorem grpT_blanks {a b:List Nat} (ha:∀x ∈ a,x=32) (hb:∀x ∈ b,x=32) (m:List Nat):grpT (a++(m++b))=grpT m:=by
 induction a with
 | nil=>
  rw [List.nil_append]
  induction b generalizing m with
  | nil=>rw [List.append_nil]
  | cons x b ih=>
   obtain rfl:=hb x (by simp)
   rw [show m++32::b=(m++[32])++b by simp,ih (fun y hy=>hb y (by simp [hy])),grpT_snoc]
 | cons x a ih=>
  obtain rfl:=ha x (by simp)
  rw [List.cons_append,grpT_cons,ih (fun y hy=>ha y (by simp [hy]))]
theorem grpT_trm (p:List Nat):grpT (trm p)=grpT p:=by
 obtain ⟨a,b,ha,hb,e⟩:=trm_parts p
 conv=>rhs;rw [e]
 rw [grpT_blanks ha hb]
def fld (s:List Nat):List (List (List Nat)):=(cutBy 44 s).map grpT
def errF:List (List Nat)→Int
 | []=>0
 | p::r=>if relE p=0 then errF r else relE p
theorem errF_app (a b:List (List Nat)):errF (a++b)=if errF a=0 then errF b else errF a:=by
 induction a with
 | nil=>rfl
 | cons p r ih=>
  by_cases h:relE p=0
  ·have e1:errF (p::r++b)=errF (r++b):=by rw [List.cons_append];simp only [errF,if_pos h]
   have e2:errF (p::r)=errF r:=by simp only [errF,if_pos h]
   rw [e1,e2,ih]
  ·have e1:errF (p::r++b)=relE p:=by rw [List.cons_append];simp only [errF,if_neg h]
   have e2:errF (p::r)=relE p:=by simp only [errF,if_neg h]
   rw [e1,e2,if_neg h]
def atmOf (p:List Nat):Atm:=⟨mk (relN p),relO p,mk (relV p)⟩
def manyF (F:List (List (List Nat))):Bool:=decide (12 < F.length)||F.any fun g=>decide (6 < g.length)
def depE (s:List Nat):Int:=if s=[] then 0 else if manyF (fld s)=true then 8 else errF (fld s).flatten
def depL (s:List Nat):List (List Atm):=if s=[] then [] else if depE s=0 then (fld s).map fun g=>g.map atmOf else []
def rgt (a:Atm):Bool:=rightA (B a.n) a.o (B a.v)
def rgtOne (g:List Atm):Bool:=decide (1≤g.length)&&decide (g.length≤6)&&g.all rgt
def rightG (L:List (List Atm)):Bool:=decide (L.length≤12)&&L.all rgtOne
def txC (c:Nat):Prop:=c≠44∧c≠124
theorem name_txC {n:List Nat} (h:nameB n=true):∀c ∈ n,txC c∧c≠32:=by
 intro c hc
 unfold nameB at h
 simp only [Bool.and_eq_true,List.all_eq_true] at h
 have:=h.2 c hc
 unfold nmcB plnB digB at this
 simp only [Bool.or_eq_true,decide_eq_true_eq] at this
 unfold txC
 omega
theorem rgt_of {p:List Nat} (hp:∀c ∈ p,c < 256) (h:relE p=0):rgt (atmOf p)=true:=by
 have:=(text_of_rel h).1
 unfold rgt atmOf
 have hn:∀c ∈ relN p,c < 256:=fun c hc=>by
  unfold relN at hc;rw [if_pos h] at hc;exact hp c (cutN_mem hc)
 have hv:∀c ∈ relV p,c < 256:=fun c hc=>by
  unfold relV at hc;rw [if_pos h] at hc
  split at hc
  ·exact hp c (cutR_mem (inL_mem (cutR_mem hc)))
  ·simp at hc
 simp only [B_mk hn,B_mk hv]
 exact this
theorem errF_mem:∀{l:List (List Nat)},errF l=0→∀p ∈ l,relE p=0
 | [],_,p,hp=>by simp at hp
 | q::l,h,p,hp=>by
  rw [errF] at h
  split at h
  ·rename_i hq
   rcases List.mem_cons.1 hp with rfl|hp
   ·exact hq
   ·exact errF_mem h p hp
  ·contradiction
theorem right_of_parse {s:List Nat} (hs:∀c ∈ s,c < 256) (h:depE s=0):rightG (depL s)=true:=by
 by_cases h0:s=[]
 ·subst h0;rfl
 ·unfold depL
  rw [if_neg h0,if_pos h]
  unfold depE at h
  rw [if_neg h0] at h
  split at h
  ·contradiction
  ·rename_i hm
   rw [Bool.not_eq_true] at hm
   unfold manyF at hm
   simp only [Bool.or_eq_false_iff,decide_eq_false_iff_not,List.any_eq_false,decide_eq_true_eq] at hm
   unfold rightG
   simp only [Bool.and_eq_true,decide_eq_true_eq,List.all_eq_true,List.length_map]
   refine ⟨by omega,fun g hg=>?_⟩
   obtain ⟨T,hT,rfl⟩:=List.mem_map.1 hg
   have h6:=hm.2 T hT
   unfold rgtOne
   simp only [Bool.and_eq_true,decide_eq_true_eq,List.all_eq_true,List.length_map]
   have hT':=hT
   unfold fld at hT'
   obtain ⟨p,hp,rfl⟩:=List.mem_map.1 hT'
   refine ⟨⟨?_,by omega⟩,fun a ha=>?_⟩
   ·unfold grpT
    rw [List.length_map,cutBy_len];omega
   ·obtain ⟨q,hq,rfl⟩:=List.mem_map.1 ha
    refine rgt_of (fun c hc=>?_) (errF_mem h q (List.mem_flatten.2 ⟨_,hT,hq⟩))
    unfold grpT at hq
    obtain ⟨q',hq',rfl⟩:=List.mem_map.1 hq
    exact hs c (cutBy_mem hp c (cutBy_mem hq' c (trm_mem hc)).1).1
theorem depL_bad {s:List Nat} (h:depE s≠0):depL s=[]:=by unfold depL;rw [if_neg h];split<;>rfl
section
variable {α:Type} {E:Rd α} {sz:Nat}
theorem Grow.empty (T:Nat→Prop) {W:World} {base b:Nat} {e:TypeId} (hb:W.heap[b]?=some (.cells #[] e (0,0))) (hbase:base≤b):Grow E sz T W base e (.slice (some ⟨b,0,none⟩) 0 0) []:=
 ⟨[],rfl,⟨by simp,.inr ⟨b,0,#[],rfl,hbase,hb,Nat.le_refl _,Nat.zero_le _,by simp,by simp⟩⟩,fun k hk=>absurd hk (by simp)⟩
theorem wp_growN {P:Program} {o:Oper} {a:Act} {K:Act→World→Prop} {Q:Exit→Act→World→Prop} (W:World) (s x:Operand) (t t':TypeId)
  (ho:o.op=.call { callee:=.builtin .append,args:=#[s,x],argTypes:=#[t,t'] }) (g:Good E sz) (hsz:0 < sz) (T:Nat→Prop) (base:Nat) (e e':TypeId) (i:TypeInfo) (z:Value) (bytes:Nat)
  (ht:P.underlying t=some (.slice e)) (ht':P.underlying t'=some (.slice e')) (hi:P.info? e=some i) (hz:i.zero=some z) (hsize:i.size=sz) (hby:i.bytes=bytes) (hzs:z.cells.size=sz)
  (v:Value) (l:List α) (hs:a.eval s=v) (hG:Grow E sz T W base e v l) (m:List α) (S:Nat→Prop) (A:Option Addr) (n c:Nat) (hx:a.eval x=.slice A n c) (hX:rdRow sz E W S m [.slice A n c]) (hS:∀b,S b→T b∧b < W.heap.size∧v.ownBlock≠some b)
  (hn:l.length+m.length≤maxLen) (hb2:(l.length+m.length)*bytes≤140737488355328) (hbase:base≤W.heap.size)
  (h:∀v' w',Grow E sz T w' base e v' (l++m)→W.grownBy w' v.ownBlock→(v'.ownBlock=v.ownBlock∨∃b,v'.ownBlock=some b∧W.heap.size≤b)→K (a.put o.dst v') w'):Oper.wp P o a W K Q:=by
 obtain ⟨v',w',hr,h2,h3,h4⟩:=run_growN (P:=P) W t t' o.type g hsz T base e e' i z bytes ht ht' hi hz hsize hby hzs v l hG m S A n c hX hS hn hb2 hbase
 unfold Oper.wp execOp
 simp only [ho,resolve,invoke,builtin,Sem.run_bind,Sem.run_pure,Result.andThen_ok,List.map_toArray,List.map_cons,List.map_nil,hs,hx,hr]
 exact h v' w' h2 h3 h4
theorem step_growN {P:Program} {ops:Array Oper} {o:Oper} {a:Act} {K:Act→World→Prop} {Q:Exit→Act→World→Prop} {F:Prop} (W:World) (hgd:o.guard=none) (s x:Operand) (t t':TypeId)
  (ho:o.op=.call { callee:=.builtin .append,args:=#[s,x],argTypes:=#[t,t'] }) (g:Good E sz) (hsz:0 < sz) (T:Nat→Prop) (base:Nat) (e e':TypeId) (i:TypeInfo) (z:Value) (bytes:Nat)
  (ht:P.underlying t=some (.slice e)) (ht':P.underlying t'=some (.slice e')) (hi:P.info? e=some i) (hz:i.zero=some z) (hsize:i.size=sz) (hby:i.bytes=bytes) (hzs:z.cells.size=sz)
  (v:Value) (l:List α) (hs:a.eval s=v) (hG:Grow E sz T W base e v l) (m:List α) (S:Nat→Prop) (A:Option Addr) (n c:Nat) (hx:a.eval x=.slice A n c) (hX:rdRow sz E W S m [.slice A n c]) (hS:∀b,S b→T b∧b < W.heap.size∧v.ownBlock≠some b)
  (hn:l.length+m.length≤maxLen) (hb2:(l.length+m.length)*bytes≤140737488355328) (hbase:base≤W.heap.size)
  (h:∀v' w',Grow E sz T w' base e v' (l++m)→W.grownBy w' v.ownBlock→(v'.ownBlock=v.ownBlock∨∃b,v'.ownBlock=some b∧W.heap.size≤b)→K (a.put o.dst v') w') :
  if Region.wanted o (yielded ops a.tmps)=true then Oper.wp P o a W K Q else F:=by
 have hw:Region.wanted o (yielded ops a.tmps)=true:=by simp [Region.wanted,hgd]
 rw [if_pos hw]
 exact wp_growN W s x t t' ho g hsz T base e e' i z bytes ht ht' hi hz hsize hby hzs v l hs hG m S A n c hx hX hS hn hb2 hbase h
end
section
variable {α β:Type} {E:Rd α} {F:Rd β} {sz tz:Nat}
def Moved (W:World) (v v':Value):Prop:=v'.ownBlock=v.ownBlock∨∃b,v'.ownBlock=some b∧W.heap.size≤b
theorem wpList_grow1_at {P:Program} {ops:Array Oper} {rest:List Oper} {o:Oper} {a:Act} {Q:Exit→Act→World→Prop} (W:World) (hgd:o.guard=none) (s x:Operand) (t:TypeId)
  (ho:o.op=.call { callee:=.builtin .append,args:=#[s,x],argTypes:=#[t,t] })
  (g:Good E sz) (hsz:0 < sz) (T:Nat→Prop) (base:Nat) (e:TypeId) (i:TypeInfo) (z:Value) (bytes:Nat) (ht:P.underlying t=some (.slice e)) (hi:P.info? e=some i) (hz:i.zero=some z)
  (hsize:i.size=sz) (hby:i.bytes=bytes) (hzs:z.cells.size=sz)
  (v:Value) (l:List α) (hs:a.eval s=v) (hG:Grow E sz T W base e v l) (y:α) (blk:Array Value) (te:TypeId)
  (hE:E W (fun b=>T b∧b < W.heap.size∧v.ownBlock≠some b) y blk.toList) (N:Nat) (hN:N=W.heap.size) (hx:a.eval x=.slice (some ⟨N,0,none⟩) 1 1)
  (hn:l.length+1≤maxLen) (hb2:(l.length+1)*bytes≤140737488355328) (hbase:base≤W.heap.size)
  (h:∀v' w',Grow E sz T w' base e v' (l++[y])→W.grownBy w' v.ownBlock→Moved W v v'→wpList P ops Q rest (a.put o.dst v') w') :
  wpList P ops Q (o::rest) a (W.alloc (.cells blk te)):=by
 subst hN
 obtain ⟨css,hl,hown,hEs⟩:=hG
 refine wpList_append_own_at _ hgd s x t ho base e i z sz bytes ht hi hz hsize hby hzs hsz v l.length css.flatten hs (hown.alloc _) ⟨W.heap.size,0,none⟩ 1 1 blk.toList hx (by rw [g.len hE];simp) (cells_new W blk te) (g.one hE) hn hb2 (by simp;omega) ?_
 intro v' w' hown' hgrow _ hat
 have hg2:W.grownBy w' v.ownBlock:=by
  refine ⟨hgrow.os,hgrow.tape,hgrow.output,?_,fun k hk hne=>?_⟩
  ·have:=hgrow.size;simp at this;omega
  ·rw [hgrow.block k (by simp;omega) hne]
   exact Below.heap_alloc W _ k hk
 have hat':Moved W v v':=by
  rcases hat with h1|h1
  ·exact .inl h1
  ·exact .inr ⟨_,h1,by simp⟩
 refine h v' w' ?_ hg2 hat'
 refine Grow.step g hl hEs (m:=[y]) (ess:=[blk.toList]) rfl (fun k hk=>?_) (by simpa using hown') hg2 hat'
 simp only [List.length_singleton] at hk
 obtain rfl:k=0:=by omega
 exact ⟨_,rfl,hE⟩
def Off (u v:Value):Prop:=∀b,u.ownBlock=some b→v.ownBlock≠some b
theorem Off.symm {u v:Value} (h:Off u v):Off v u:=fun b hb hu=>h b hu hb
theorem Off.nil (v:Value):Off (.slice none 0 0) v:=fun b hb=>by simp [Value.ownBlock] at hb
theorem Grow.beside (g:Good F tz) {T:Nat→Prop} {W w':World} {base:Nat} {e:TypeId} {v v' x:Value} {m:List β}
  (hx:Grow F tz (fun b=>T b∧v.ownBlock≠some b) W base e x m) (ho:Off x v) (hg:W.grownBy w' v.ownBlock) (hm:Moved W v v') :
  Grow F tz (fun b=>T b∧v'.ownBlock≠some b) w' base e x m∧Off x v':=by
 have hlt:=hx.lt
 obtain ⟨css,hl,hown,hE⟩:=hx
 refine ⟨⟨css,hl,hown.kept hg ?_,fun k hk=>?_⟩,fun b hb=>?_⟩
 ·cases hb:x.ownBlock with
  | none=>exact .inl rfl
  | some b=>exact .inr fun hh=>ho b hb hh.symm
 ·obtain ⟨cs,h1,h2⟩:=hE k hk
  refine ⟨cs,h1,g.both h2 (fun b hb=>hg.block b hb.2.1 fun hh=>hb.1.2 hh.symm) (fun b hb=>⟨⟨hb.1.1,?_⟩,Nat.lt_of_lt_of_le hb.2.1 hg.size,hb.2.2⟩)⟩
  rcases hm with h|⟨b',h,hb'⟩
  ·rw [h];exact hb.1.2
  ·rw [h];intro hh;injection hh with hh;have:=hb.2.1;omega
 ·rcases hm with h|⟨b',h,hb'⟩
  ·rw [h];exact ho b hb
  ·rw [h];intro hh;injection hh with hh;have:=(hlt b hb).2;omega
theorem Off.moved {W:World} {v v' x:Value} (h:Off v x) (hx:∀b,x.ownBlock=some b→b < W.heap.size) (hm:Moved W v v'):Off v' x:=by
 intro b hb hxb
 rcases hm with h1|⟨b',h1,hb'⟩
 ·exact h b (h1 ▸ hb) hxb
 ·rw [h1] at hb;injection hb with hb;have:=hx b hxb;omega
theorem Grow.retag (g:Good E sz) {T T':Nat→Prop} {W:World} {base:Nat} {e:TypeId} {v:Value} {l:List α} (h:Grow E sz T W base e v l) (ht:∀b,T b→b < W.heap.size→T' b):Grow E sz T' W base e v l:=by
 obtain ⟨css,hl,hown,hE⟩:=h
 refine ⟨css,hl,hown,fun k hk=>?_⟩
 obtain ⟨cs,h1,h2⟩:=hE k hk
 exact ⟨cs,h1,g.more h2 fun b hb=>⟨ht b hb.1 hb.2.1,hb.2.1,hb.2.2⟩⟩
end
theorem Grow.flat {T T':Nat→Prop} {W:World} {base:Nat} {e:TypeId} {v:Value} {α:Type} {E:Rd α} {sz:Nat} {l:List α} (hf:∀(w:World) (S S':Nat→Prop) a cs,E w S a cs→E w S' a cs) (h:Grow E sz T W base e v l):Grow E sz T' W base e v l:=by
 obtain ⟨css,hl,hown,hE⟩:=h
 refine ⟨css,hl,hown,fun k hk=>?_⟩
 obtain ⟨cs,h1,h2⟩:=hE k hk
 exact ⟨cs,h1,hf _ _ _ _ _ h2⟩
theorem low_cons (c:Nat) (r:List Nat):lowB (c::r)=(decide (c < 32)||lowB r):=by unfold lowB;rw [List.any_cons]
theorem fnB_cons (c:Nat) (r:List Nat):fnB (c::r)=(letB c&&r.all nmC&&decide (r.length < 40)):=rfl
theorem emp_eq (s:ByteArray):s.toList.isEmpty=decide (B s=[]):=by
 rw [toList_data]
 unfold B
 cases s.data.toList<;>simp
theorem flatten_set (sz:Nat):∀{css:List (List Value)},(∀cs ∈ css,cs.length=sz)→∀{k:Nat} {cs:List Value},css[k]?=some cs→∀{j:Nat},j < sz→∀u,(css.set k (cs.set j u)).flatten=css.flatten.set (k*sz+j) u
 | [],_,k,cs,hk,_,_,_=>by simp at hk
 | c::css,h,0,cs,hk,j,hj,u=>by
  simp only [List.getElem?_cons_zero,Option.some.injEq] at hk
  subst hk
  have hc:=h c (by simp)
  rw [List.set_cons_zero,List.flatten_cons,List.flatten_cons,Nat.zero_mul,Nat.zero_add,List.set_append_left _ _ (by omega)]
 | c::css,h,k+1,cs,hk,j,hj,u=>by
  rw [List.getElem?_cons_succ] at hk
  have ih:=flatten_set sz (fun cs hc=>h cs (by simp [hc])) hk hj u
  have hc:=h c (by simp)
  rw [List.set_cons_succ,List.flatten_cons,List.flatten_cons,ih,List.set_append_right _ _ (by rw [hc,Nat.add_mul];omega),hc]
  congr 2
  rw [Nat.add_mul];omega
section
variable {α:Type} {E:Rd α} {sz:Nat}
theorem Grow.spot {T:Nat→Prop} {w:World} {base:Nat} {e:TypeId} {ad:Addr} {n c:Nat} {l:List α} (h:Grow E sz T w base e (.slice (some ad) n c) l):ad=⟨ad.block,0,none⟩∧base≤ad.block∧ad.block < w.heap.size∧n=l.length∧∀o,w.frozen? ⟨ad.block,o,none⟩=false:=by
 obtain ⟨css,hl,ho,hE⟩:=h
 rcases ho.2 with ⟨h1,_⟩|⟨gb,cap,cur,h1,hb,hg,hn,hm,hs,ht⟩
 ·simp at h1
 ·simp only [Value.slice.injEq,Option.some.injEq] at h1
  obtain ⟨rfl,rfl,rfl⟩:=h1
  exact ⟨rfl,hb,(Array.getElem?_eq_some_iff.1 hg).1,rfl,fun o=>frozen_of_row w gb o cur e hg⟩
theorem Grow.set (g:Good E sz) {T:Nat→Prop} {w:World} {base:Nat} {e:TypeId} {ad:Addr} {n c:Nat} {l:List α} (h:Grow E sz T w base e (.slice (some ad) n c) l) {k:Nat} (hk:k < l.length) {j:Nat} (hj:j < sz) (u:Value) (y:α)
  (hy:∀cs,E w (fun b=>T b∧b < w.heap.size∧some ad.block≠some b) l[k] cs→E w (fun b=>T b∧b < w.heap.size∧some ad.block≠some b) y (cs.set j u)) :
  Grow E sz T (w.setCell (ad.add (k*sz+j)) u) base e (.slice (some ad) n c) (l.set k y)∧w.grownBy (w.setCell (ad.add (k*sz+j)) u) (some ad.block):=by
 obtain ⟨e0,_,_,rfl,_⟩:=h.spot
 obtain ⟨gb,rfl⟩:∃gb,ad=⟨gb,0,none⟩:=⟨_,e0⟩
 clear e0
 have hadd:(⟨gb,0,none⟩:Addr).add (k*sz+j)=⟨gb,k*sz+j,none⟩:=by unfold Addr.add;split<;>simp_all
 obtain ⟨css,hl,ho,hE⟩:=h
 have hls:=Grow.lens g hl hE
 obtain ⟨cs,h1,h2⟩:=hE k hk
 rw [hadd]
 obtain ⟨o1,o2⟩:=ho.stored (k*sz+j) u
 have hkeep:∀(a:α) (cs:List Value),E w (fun b=>T b∧b < w.heap.size∧some gb≠some b) a cs→E (w.setCell ⟨gb,k*sz+j,none⟩ u) (fun b=>T b∧b < (w.setCell ⟨gb,k*sz+j,none⟩ u).heap.size∧some gb≠some b) a cs:=
  fun a cs h=>g.both h (fun b hb=>heap_setCell_other w _ b u (fun hh=>hb.2.2 (by rw [hh]))) (fun b hb=>⟨hb.1,by simpa using hb.2.1,hb.2.2⟩)
 refine ⟨⟨css.set k (cs.set j u),by rw [List.length_set,List.length_set,hl],?_,fun i hi=>?_⟩,o2⟩
 ·rw [flatten_set sz hls h1 hj,List.length_set]
  exact o1
 ·rw [List.length_set] at hi
  by_cases hik:k=i
  ·subst hik
   refine ⟨cs.set j u,by rw [List.getElem?_set_self (by omega)],?_⟩
   rw [List.getElem_set_self]
   exact hkeep _ _ (hy cs h2)
  ·obtain ⟨ds,d1,d2⟩:=hE i hi
   refine ⟨ds,by rw [List.getElem?_set_ne hik];exact d1,?_⟩
   rw [List.getElem_set_ne hik]
   exact hkeep _ _ d2
theorem set_below {N:Nat} {w0 w:World} {a:Addr} (h:Below N w0 w) (ha:N≤a.block) (u:Value):Below N w0 (w.setCell a u):=h.setCell ha u
end
theorem Grow.frz {α:Type} {E:Rd α} {sz:Nat} {T:Nat→Prop} {w:World} {base:Nat} {e:TypeId} {ad:Addr} {n c:Nat} {l:List α} (h:Grow E sz T w base e (.slice (some ad) n c) l) (j:Nat):w.frozen? (ad.add j)=false:=by
 obtain ⟨e0,_,_,_,hfz⟩:=h.spot
 obtain ⟨gb,rfl⟩:∃gb,ad=⟨gb,0,none⟩:=⟨_,e0⟩
 have hadd:(⟨gb,0,none⟩:Addr).add j=⟨gb,j,none⟩:=by unfold Addr.add;split<;>simp_all
 rw [hadd];exact hfz j
def fstV:List Fd→ByteArray→ByteArray
 | [],_=>{ data:=#[] }
 | f::r,n=>if f.n=n then f.v else fstV r n
def putF (n v:ByteArray):List Fd→List Fd
 | []=>[⟨n,v⟩]
 | f::r=>if f.n=n then ⟨f.n,v⟩::r else f::putF n v r
theorem getV_cons (f:Fd) (r:List Fd) (n:ByteArray):getV (f::r) n=(decide (f.n=n)||getV r n):=by unfold getV;rw [List.any_cons]
def nPk:ByteArray:={ data:=#[80,97,99,107,97,103,101] }
def nVe:ByteArray:={ data:=#[86,101,114,115,105,111,110] }
def nDe:ByteArray:={ data:=#[68,101,112,101,110,100,115] }
def nRe:ByteArray:={ data:=#[82,101,99,111,109,109,101,110,100,115] }
def nCo:ByteArray:={ data:=#[67,111,110,102,108,105,99,116,115] }
def nPr:ByteArray:={ data:=#[80,114,111,118,105,100,101,115] }
def emp:Ent:=⟨{ data:=#[] },{ data:=#[] },[],[],[],[]⟩
end Go.Proofs.YtboinnjncaehkaaGreatDoor
