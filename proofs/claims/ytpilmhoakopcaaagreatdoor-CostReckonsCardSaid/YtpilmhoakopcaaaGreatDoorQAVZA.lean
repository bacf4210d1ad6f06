/- What the laws rest on: P6f, E8a, E8b, E8d, N8b, N8a, E8e, N8c, Door. -/
import Derived.Test.YtpilmhoakopcaaaGreatDoorTie
import Derived.Test.YtpilmhoakopcaaaGreatDoorCards
import Derived.LaidMore
import Derived.Lay
import Derived.Stop.Joined
import Derived.Stop.LaidErr
import Derived.Deep.DeepHandedRow
import Derived.Test.YtpilmhoakopcaaaGreatDoorQANZA
import Derived.Test.YtpilmhoakopcaaaGreatDoorQBCZA
set_option maxRecDepth 100000
set_option linter.unusedVariables false
set_option linter.unusedSimpArgs false
namespace Go.Proofs.YtpilmhoakopcaaaGreatDoor
open Go.RowKit
def cmpB6 (a b:ByteArray):Int:=if Op.bytesLess a.toList b.toList=true then -1 else if Op.bytesLess b.toList a.toList=true then 1 else 0
theorem isNaN_any (a:ByteArray) (w:World):Calls Tryz.prog 146 #[.string a] w fun e w'=>e=.returned (.bool false)∧w=w':=by
 go_enter Tryz.func146,Tryz.ntmps146
 go_wp2
 go_ret
 exact ⟨by first|rfl|simp,rfl⟩
theorem cmpB6_is (a b:ByteArray):(a=b∧cmpB6 a b=0)∨(a≠b∧Op.bytesLess a.toList b.toList=true∧cmpB6 a b=-1)∨(a≠b∧Op.bytesLess a.toList b.toList=false∧cmpB6 a b=1):=by
 rcases blt_tot a b with h|h|h
 ·refine .inr (.inl ⟨fun e=>?_,h,if_pos h⟩)
  subst e;exact blt_self _ h
 ·have h':¬Op.bytesLess a.toList b.toList=true:=fun k=>blt_asym h k
  refine .inr (.inr ⟨fun e=>?_,Bool.eq_false_iff.2 h',by unfold cmpB6;rw [if_neg h',if_pos (show Op.bytesLess b.toList a.toList=true from h)]⟩)
  subst e;exact blt_self _ h
 ·subst h
  refine .inl ⟨rfl,?_⟩
  have h':¬Op.bytesLess a.toList a.toList=true:=fun k=>blt_self a k
  unfold cmpB6;rw [if_neg h',if_neg h']
set_option maxHeartbeats 2000000 in
theorem cmpB6_any (a b:ByteArray) (w:World):Calls Tryz.prog 120 #[.string a,.string b] w fun e w'=>e=.returned (.int .i64 (cmpB6 a b))∧w=w':=by
 have he:=str_eq a b
 rcases cmpB6_is a b with ⟨h,e⟩|⟨h,h1,e⟩|⟨h,h1,e⟩<;>rw [e]
 ·have h1:Op.bytesLess a.toList b.toList=false:=by rw [h];exact Bool.eq_false_iff.2 (blt_self _)
  rw [decide_eq_true h] at he
  clear h e
  go_enter Tryz.func120,Tryz.ntmps120
  go_wp2_with (go_at_call 146;(with_reducible refine (isNaN_any _ _).mono ?_);rintro e w' ⟨rfl,rfl⟩)
  go_ret
  exact ⟨rfl,rfl⟩
 ·rw [decide_eq_false h] at he
  clear h e
  go_enter Tryz.func120,Tryz.ntmps120
  go_wp2_with (go_at_call 146;(with_reducible refine (isNaN_any _ _).mono ?_);rintro e w' ⟨rfl,rfl⟩)
  go_ret
  exact ⟨rfl,rfl⟩
 ·rw [decide_eq_false h] at he
  clear h e
  go_enter Tryz.func120,Tryz.ntmps120
  go_wp2_with (go_at_call 146;(with_reducible refine (isNaN_any _ _).mono ?_);rintro e w' ⟨rfl,rfl⟩)
  go_ret
  exact ⟨rfl,rfl⟩
theorem lesB_or (x y:Ent):decide (orL [cmpB6 x.n y.n,orderV (B x.v) (B y.v),cmpB6 x.v y.v] < 0)=lesB x y:=by
 unfold lesB
 generalize orderV (B x.v) (B y.v)=o
 rcases cmpB6_is x.n y.n with ⟨h,e⟩|⟨h,b,e⟩|⟨h,b,e⟩
 ·rw [if_pos h,e]
  rcases Int.lt_trichotomy o 0 with ho|ho|ho
  ·have:orL [0,o,cmpB6 x.v y.v]=o:=by unfold orL;rw [if_neg (by decide)];unfold orL;rw [if_pos (by omega)]
   rw [this,decide_eq_true ho];rfl
  ·subst ho
   have:orL [0,0,cmpB6 x.v y.v]=cmpB6 x.v y.v:=by
    unfold orL;rw [if_neg (by decide)];unfold orL;rw [if_neg (by decide)];unfold orL
    split
    ·rfl
    ·rename_i h;simp only [ne_eq,Decidable.not_not] at h;rw [h];rfl
   rw [this]
   rcases cmpB6_is x.v y.v with ⟨h,e⟩|⟨h,b,e⟩|⟨h,b,e⟩
   ·rw [e]
    have:Op.bytesLess x.v.toList y.v.toList=false:=by rw [h];exact Bool.eq_false_iff.2 (blt_self _)
    rw [this];rfl
   ·rw [e,b];rfl
   ·rw [e,b];rfl
  ·have:orL [0,o,cmpB6 x.v y.v]=o:=by unfold orL;rw [if_neg (by decide)];unfold orL;rw [if_pos (by omega)]
   rw [this,decide_eq_false (by omega)]
   rw [beq_eq_false_iff_ne.2 (by omega)];rfl
 ·rw [if_neg h,e,b];rfl
 ·rw [if_neg h,e,b];rfl
abbrev Pn.val (a:Pn):Value:=.agg #[.string a.n,.string a.x,.int .i64 a.p]
def Pn.cells (a:Pn):List Value:=[.string a.n,.string a.x,.int .i64 a.p]
def rdPn:Rd Pn:=fun _ _ a cs=>cs=a.cells
theorem rdPn_good:Good rdPn 3:=⟨fun h _=>h,fun h _=>h,fun h _ _=>h,fun h=>by rw [h];rfl,fun h u hu=>by rw [h] at hu;simp [Pn.cells] at hu;rcases hu with rfl|rfl|rfl<;>rfl⟩
abbrev rdPns:Rd (List Pn):=rdRow 3 rdPn
theorem rdPns_good:Good rdPns 1:=rdRow_good rdPn_good
theorem rdPns_at {w:World} {S:Nat→Prop} {l:List Pn} {A:Option Addr} {n c:Nat} (h:rdPns w S l [.slice A n c]):n=l.length∧n≤c∧c≤maxLen∧∀k (hk:k < l.length),∃ad,A=some ad∧S ad.block∧
  w.cell? (ad.add (k*3))=some (.string l[k].n)∧w.cell? ⟨(ad.add (k*3)).block,(ad.add (k*3)).off+1,none⟩=some (.string l[k].x)∧w.cell? ⟨(ad.add (k*3)).block,(ad.add (k*3)).off+2,none⟩=some (.int .i64 l[k].p):=by
 obtain ⟨A',c',e,h1,h2,h⟩:=h
 simp only [List.cons.injEq,Value.slice.injEq,and_true] at e
 obtain ⟨rfl,rfl,rfl⟩:=e
 refine ⟨rfl,h1,h2,fun k hk=>?_⟩
 obtain ⟨ad,es,e,hS,hE,hl,hc⟩:=h k hk
 rw [show es=l[k].cells from hE] at hc
 exact ⟨ad,e,hS,hc 0 _ rfl,by rw [off_add ad (k*3) 1 (by omega)];exact hc 1 _ rfl,by rw [off_add ad (k*3) 2 (by omega)];exact hc 2 _ rfl⟩
def Bd8 (l:List Pn):Prop:=∀x ∈ l,-1099511627776≤x.p∧x.p≤1099511627776
theorem byt_no {p:Nat→Bool} {s:ByteArray} {k:Nat} (hk:k < s.size) (h:p s[k].toNat=false):(B s).all p=false:=by
 rw [Bool.eq_false_iff]
 intro ha
 have:=List.all_eq_true.1 ha s[k].toNat (List.mem_of_getElem? (B_at s k hk))
 rw [h] at this;cases this
theorem byt_yes {p:Nat→Bool} {s:ByteArray} (h:∀j,j < s.size→p ((B s).getD j 0)=true):(B s).all p=true:=by
 rw [List.all_eq_true]
 intro c hc
 obtain ⟨j,hj,e⟩:=List.getElem_of_mem hc
 rw [B_len] at hj
 have:=h j hj
 rwa [List.getD_eq_getElem?_getD,List.getElem?_eq_getElem (by rw [B_len];exact hj),e] at this
theorem star_eq (n:ByteArray):(n.toList==[42])=decide (n=star8):=by
 rw [sEqL n [42] [42] rfl (by decide),Bool.eq_iff_iff,decide_eq_true_iff,decide_eq_true_iff]
 exact ⟨fun h=>by rw [eq_mk h];rfl,fun h=>by rw [h];exact star_lt⟩
theorem vis_low {c:Nat} (h:c≤32):visB c=false:=by unfold visB;rw [decide_eq_false (by omega)];rfl
theorem vis_high {c:Nat} (h:127≤c):visB c=false:=by unfold visB;rw [decide_eq_false (p:=c < 127) (by omega),Bool.false_and,Bool.and_false]
theorem vis_star {c:Nat} (h:c=42):visB c=false:=by subst h;rfl
theorem vis_ok {c:Nat} (h1:¬c≤32) (h2:¬127≤c) (h3:¬c=42):visB c=true:=by unfold visB;rw [decide_eq_true (p:=32 < c) (by omega),decide_eq_true (p:=c < 127) (by omega),decide_eq_false h3];rfl
theorem mat_no {x:Pn} {nm v:ByteArray} (h1:¬x.n=nm) (h2:¬x.n=star8):matN x nm v=false:=by unfold matN;rw [decide_eq_false h1,decide_eq_false h2];rfl
theorem mat_yes {x:Pn} {nm v:ByteArray} (h:x.n=nm∨x.n=star8):matN x nm v=pfx8 x.x v:=by
 unfold matN
 rcases h with h|h
 ·rw [decide_eq_true h];rfl
 ·rw [decide_eq_true h,Bool.or_true];rfl
theorem map_inj8 {a b:List UInt8}:a.map UInt8.toNat=b.map UInt8.toNat↔a=b:=⟨fun h=>(List.map_inj_right (fun x y e=>UInt8.toNat_inj.1 e)).1 h,fun h=>by rw [h]⟩
theorem pfx_is (x v:ByteArray):Lib.hasPrefix v.data.toList x.data.toList=pfx8 x v:=by
 unfold Lib.hasPrefix pfx8 B
 rw [Bool.eq_iff_iff,decide_eq_true_iff,List.isPrefixOf_iff_prefix,List.prefix_iff_eq_take,List.length_map,←List.map_take,map_inj8]
 exact ⟨Eq.symm,Eq.symm⟩
theorem pfx_any (x v:ByteArray) (w:World):Calls Tryz.prog 155 #[.string v,.string x] w fun e w'=>e=.returned (.bool (pfx8 x v))∧w=w':=by
 refine (Tryz.strings_HasPrefix v x w).mono ?_
 rintro e w' ⟨rfl,rfl⟩
 exact ⟨by rw [←pfx_is],rfl⟩
set_option maxHeartbeats 2000000 in
theorem pmatch_any (x:Pn) (nm v:ByteArray) (w:World):Calls Tryz.prog 133 #[x.val,.string nm,.string v] w fun e w'=>e=.returned (.bool (matN x nm v))∧Below w.heap.size w w':=by
 obtain ⟨n,y,p⟩:=x
 have B1:=Lib.hid (bel_box w (.cells #[.string n,.string y,.int .i64 p] 70))
 have hst:=star_eq n
 have hnm:=str_eq n nm
 have NO:=Lib.hid (mat_no (x:=⟨n,y,p⟩) (nm:=nm) (v:=v))
 have YES:=Lib.hid (mat_yes (x:=⟨n,y,p⟩) (nm:=nm) (v:=v))
 have KH:=Lib.hid (fun W=>pfx_any y v W)
 generalize matN ⟨n,y,p⟩ nm v=R at *
 by_cases h1:n=nm
 ·have X:=Lib.hid (YES.out (.inl h1))
  rw [decide_eq_true h1] at hnm
  clear h1 hst
  simp only at X
  generalize pfx8 y v=q at *
  go_enter Tryz.func133,Tryz.ntmps133
  go_wp2_with fail
  refine (KH.out _).mono ?_
  rintro e w' ⟨rfl,rfl⟩
  go_wp2
  go_ret
  exact ⟨by rw [X.out];try rfl,B1.out⟩
 rw [decide_eq_false h1] at hnm
 by_cases h2:n=star8
 ·have X:=Lib.hid (YES.out (.inr h2))
  rw [decide_eq_true h2] at hst
  clear h1 h2
  simp only at X
  generalize pfx8 y v=q at *
  go_enter Tryz.func133,Tryz.ntmps133
  go_wp2_with fail
  refine (KH.out _).mono ?_
  rintro e w' ⟨rfl,rfl⟩
  go_wp2
  go_ret
  exact ⟨by rw [X.out];try rfl,B1.out⟩
 ·have X:=Lib.hid (NO.out h1 h2)
  rw [decide_eq_false h2] at hst
  clear h1 h2
  go_enter Tryz.func133,Tryz.ntmps133
  go_wp2
  go_ret
  exact ⟨by rw [X.out];try rfl,B1.out⟩
theorem ofName_any (x:Pn) (nm v:ByteArray) (w:World):Calls Tryz.prog 96 #[x.val,.string nm,.string v] w fun e w'=>e=.returned (.bool (hitN x nm v))∧Below w.heap.size w w':=by
 have KM:=Lib.hid (fun W=>pmatch_any x nm v W)
 have HX:=Lib.hid (hit_mat (x:=x) (nm:=nm) (v:=v))
 obtain ⟨n,y,p⟩:=x
 have B1:=Lib.hid (bel_box w (.cells #[.string n,.string y,.int .i64 p] 139))
 have hnm:=str_eq n nm
 simp only [Pn.val] at KM HX
 generalize matN ⟨n,y,p⟩ nm v=q at *
 generalize hitN ⟨n,y,p⟩ nm v=R at *
 by_cases h1:n=nm
 ·have X:=Lib.hid (show R=q by rw [←HX.out,decide_eq_true h1,Bool.true_and])
  rw [decide_eq_true h1] at hnm
  clear h1
  go_enter Tryz.func96,Tryz.ntmps96
  go_wp2_with fail
  refine (KM.out _).mono ?_
  rintro e w2 ⟨rfl,hb⟩
  have B2:=Lib.hid (bel_boxed hb)
  clear hb
  go_wp2
  go_ret
  exact ⟨by rw [X.out];try rfl,B2.out⟩
 ·have X:=Lib.hid (show R=false by rw [←HX.out,decide_eq_false h1,Bool.false_and])
  rw [decide_eq_false h1] at hnm
  clear h1
  go_enter Tryz.func96,Tryz.ntmps96
  go_wp2
  go_ret
  exact ⟨by rw [X.out];try rfl,B1.out⟩
theorem ofEvery_any (x:Pn) (nm v:ByteArray) (w:World):Calls Tryz.prog 97 #[x.val,.string nm,.string v] w fun e w'=>e=.returned (.bool (hitN x star8 v))∧Below w.heap.size w w':=by
 have KM:=Lib.hid (fun W=>pmatch_any x nm v W)
 have HX:=Lib.hid (hit_star (x:=x) (nm:=nm) (v:=v))
 obtain ⟨n,y,p⟩:=x
 have B1:=Lib.hid (bel_box w (.cells #[.string n,.string y,.int .i64 p] 139))
 have hst:=star_eq n
 simp only [Pn.val] at KM HX
 generalize matN ⟨n,y,p⟩ nm v=q at *
 generalize hitN ⟨n,y,p⟩ star8 v=R at *
 by_cases h1:n=star8
 ·have X:=Lib.hid (show R=q by rw [←HX.out,decide_eq_true h1,Bool.true_and])
  rw [decide_eq_true h1] at hst
  clear h1
  go_enter Tryz.func97,Tryz.ntmps97
  go_wp2_with fail
  refine (KM.out _).mono ?_
  rintro e w2 ⟨rfl,hb⟩
  have B2:=Lib.hid (bel_boxed hb)
  clear hb
  go_wp2
  go_ret
  exact ⟨by rw [X.out];try rfl,B2.out⟩
 ·have X:=Lib.hid (show R=false by rw [←HX.out,decide_eq_false h1,Bool.false_and])
  rw [decide_eq_false h1] at hst
  clear h1
  go_enter Tryz.func97,Tryz.ntmps97
  go_wp2
  go_ret
  exact ⟨by rw [X.out];try rfl,B1.out⟩
theorem must_any (g:Nat) (p:Pn→Bool) (nm v:ByteArray) (hcf:∀(args:Array Value) (w:World),(callFunc g args).run Tryz.prog w=.ok (.enter g args) w) (KG:∀(x:Pn) (W:World),Calls Tryz.prog g #[x.val,.string nm,.string v] W fun e w'=>e=.returned (.bool (p x))∧Below W.heap.size W w')
  (x:Pn) (q1 q2 q3:Addr) (w:World) (b1:q1.block < w.heap.size) (b2:q2.block < w.heap.size) (b3:q3.block < w.heap.size) (c1:w.cell? q1=some (.func (.func g) #[] #[])) (c2:w.cell? q2=some (.string nm)) (c3:w.cell? q3=some (.string v)) :
  Calls Tryz.prog 132 #[x.val,.pointer (some q1),.pointer (some q2),.pointer (some q3)] w fun e w'=>e=.returned (.bool (p x))∧Below w.heap.size w w':=by
 have K:=Lib.hid (KG x)
 obtain ⟨n,y,pr⟩:=x
 have B1:=bel_box w (.cells #[.string n,.string y,.int .i64 pr] 70)
 have d1:=(B1.cell b1).trans c1
 have d2:=(B1.cell b2).trans c2
 have d3:=(B1.cell b3).trans c3
 have HB:=Lib.hid B1
 simp only [Pn.val] at K
 generalize p ⟨n,y,pr⟩=R at *
 clear KG B1 b1 b2 b3 c1 c2 c3
 go_enter Tryz.func132,Tryz.ntmps132
 go_wp2_with fail
 refine (K.out _).mono ?_
 rintro e w2 ⟨rfl,hb⟩
 have B2:=Lib.hid (bel_boxed hb)
 clear hb
 go_wp2
 go_ret
 exact ⟨rfl,B2.out⟩
def ixQ {α:Type} (p:α→Bool):List α→Nat→Int
 | [],_=>-1
 | x::r,i=>if p x=true then i else ixQ p r (i+1)
theorem ixQ_at {α:Type} {p:α→Bool} {l:List α} {k:Nat} (hk:k < l.length):(p l[k]=true→ixQ p (l.drop k) k=k)∧(p l[k]=false→ixQ p (l.drop k) k=ixQ p (l.drop (k+1)) (k+1)):=by
 rw [List.drop_eq_getElem_cons hk]
 exact ⟨fun h=>if_pos h,fun h=>if_neg (by rw [h];simp)⟩
theorem ixQ_find {α:Type} {p:α→Bool}:∀(l:List α) (i:Nat),(l.find? p=none∧ixQ p l i=-1)∨∃k,∃hk:k < l.length,l.find? p=some l[k]∧ixQ p l i=((i+k:Nat):Int)
 | [],_=>.inl ⟨rfl,rfl⟩
 | x::r,i=>by
  by_cases h:p x=true
  ·exact .inr ⟨0,by simp,List.find?_cons_of_pos h,if_pos h⟩
  ·rw [List.find?_cons_of_neg h]
   rcases ixQ_find (p:=p) r (i+1) with ⟨a,b⟩|⟨k,hk,a,b⟩
   ·exact .inl ⟨a,(if_neg h).trans b⟩
   ·exact .inr ⟨k+1,by simp only [List.length_cons];omega,a,(if_neg h).trans (by rw [b];congr 1;omega)⟩
set_option maxHeartbeats 4000000 in
theorem ixPn_any (g:Nat) (cap:Array Value) (p:Pn→Bool) (A:Option Addr) (n c:Nat) (l:List Pn) (w:World) (hcf:∀(args:Array Value) (w:World),(callFunc g args).run Tryz.prog w=.ok (.enter g args) w) (h:rdPns w (lt_ w.heap.size) l [.slice A n c])
  (KP:∀(x:Pn) (W:World),Below w.heap.size w W→Calls Tryz.prog g (#[x.val]++cap) W fun e w'=>e=.returned (.bool (p x))∧Below W.heap.size W w') :
  Calls Tryz.prog 131 #[.slice A n c,.func (.func g) #[] cap] w fun e w'=>e=.returned (.int .i64 (ixQ p l 0))∧Below w.heap.size w w':=by
 obtain ⟨rfl,hnc,hcm,_⟩:=rdPns_at h
 have hcm':c≤9223372036854775807:=hcm
 have H:=Lib.hid h
 have HK:=Lib.hid KP
 clear h hcm KP
 go_enter Tryz.func131,Tryz.ntmps131
 go_wp2
 go_loopw [8] (fun i wr=>∃k:Nat,k≤l.length∧i=.int .i64 k∧ixQ p l 0=ixQ p (l.drop k) k∧Below w.heap.size w wr) (fun i _=>l.length - (intOf i).toNat)
 case atStart=>exact ⟨0,Nat.zero_le _,rfl,rfl,Below.refl _ _⟩
 case round=>
  obtain ⟨k,hk,rfl,h1,hbel⟩:=hrel
  have H1:=Lib.hid h1
  have HB:=Lib.hid hbel
  clear h1
  by_cases hlt:k < l.length
  ·obtain ⟨_,_,_,ha⟩:=rdPns_at (rdPns_good.below H.out hbel)
   obtain ⟨ad,rfl,had,g0,g1,g2⟩:=ha k hlt
   have CL:=Lib.hid (HK.out l[k] wr hbel)
   have PA:=Lib.hid (ixQ_at (p:=p) hlt)
   have i0:(0:Int)≤(k:Int):=by omega
   have i1:(k:Int) < (l.length:Int):=by omega
   clear ha hbel had
   generalize l[k]=x at *
   obtain ⟨xn,xx,xp⟩:=x
   simp only [Pn.val] at CL g0 g1 g2
   cases he:p ⟨xn,xx,xp⟩
   ·have X:=Lib.hid (PA.out.2 he)
    rw [he] at CL
    clear he
    go_wp2_with fail
    refine CL.out.mono ?_
    rintro e w' ⟨rfl,hb2⟩
    have HB2:=Lib.hid (bel2 HB.out hb2 (Nat.le_refl _))
    clear hb2
    go_wp2
    go_roundw
    case rel=>exact ⟨k+1,by omega,by go_num,by rw [H1.out,X.out],HB2.out⟩
    case measure=>simp [intOf];omega
   ·have X:=Lib.hid (PA.out.1 he)
    rw [he] at CL
    clear he
    go_wp2_with fail
    refine CL.out.mono ?_
    rintro e w' ⟨rfl,hb2⟩
    have HB2:=Lib.hid (bel2 HB.out hb2 (Nat.le_refl _))
    clear hb2
    go_wp2
    go_ret
    exact ⟨by rw [H1.out,X.out];try rfl,HB2.out⟩
  ·have X:=Lib.hid (show ixQ p l 0=-1 by rw [H1.out,List.drop_eq_nil_of_le (by omega)];rfl)
   go_wp2
   go_ret
   exact ⟨by rw [X.out];try rfl,HB.out⟩
set_option maxHeartbeats 2000000 in
theorem pfirst_any (g:Nat) (p:Pn→Bool) (nm v:ByteArray) (hcf:∀(args:Array Value) (w:World),(callFunc g args).run Tryz.prog w=.ok (.enter g args) w) (KG:∀(x:Pn) (W:World),Calls Tryz.prog g #[x.val,.string nm,.string v] W fun e w'=>e=.returned (.bool (p x))∧Below W.heap.size W w')
  (A:Option Addr) (n c:Nat) (l:List Pn) (w:World) (h:rdPns w (lt_ w.heap.size) l [.slice A n c]) :
  Calls Tryz.prog 95 #[.slice A n c,.func (.func g) #[] #[],.string nm,.string v] w fun e w'=>e=.returned (.int .i64 (ixQ p l 0))∧Below w.heap.size w w':=by
 obtain ⟨V,hV⟩:∃V,V=((w.alloc (.cells #[.func (.func g) #[] #[]] 137)).alloc (.cells #[.string nm] 9)).alloc (.cells #[.string v] 9):=⟨_,rfl⟩
 have b1:Below w.heap.size w V:=by rw [hV];exact (((Below.refl _ w).alloc (Nat.le_refl _) _).alloc (by simp) _).alloc (by simp;omega) _
 have z1:V.heap.size=w.heap.size+3:=by rw [hV,World.size_alloc,World.size_alloc,World.size_alloc]
 have d1:V.cell? ⟨w.heap.size,0,none⟩=some (.func (.func g) #[] #[]):=by rw [hV];simp [go_sem]
 have d2:V.cell? ⟨w.heap.size+1,0,none⟩=some (.string nm):=by rw [hV];simp [go_sem]
 have d3:V.cell? ⟨w.heap.size+2,0,none⟩=some (.string v):=by rw [hV];simp [go_sem]
 have C:=Lib.hid (ixPn_any 132 #[.pointer (some ⟨w.heap.size,0,none⟩),.pointer (some ⟨w.heap.size+1,0,none⟩),.pointer (some ⟨w.heap.size+2,0,none⟩)] p A n c l V (fun _ _=>by kernel_rfl) (rdPns_good.up (rdPns_good.below h b1) b1.size)
  (fun x W hb=>must_any g p nm v hcf KG x ⟨w.heap.size,0,none⟩ ⟨w.heap.size+1,0,none⟩ ⟨w.heap.size+2,0,none⟩ W (by have:=hb.size;show w.heap.size < _;omega) (by have:=hb.size;show w.heap.size+1 < _;omega) (by have:=hb.size;show w.heap.size+2 < _;omega)
   ((hb.cell (by show w.heap.size < _;omega)).trans d1) ((hb.cell (by show w.heap.size+1 < _;omega)).trans d2) ((hb.cell (by show w.heap.size+2 < _;omega)).trans d3)))
 have HB:=Lib.hid b1
 have HV:=Lib.hid hV
 have hmf:∀(fn:Fn) (first cap:Array Value) (w:World),(Instr.makeFunc fn first cap).run Tryz.prog w=.ok (.func fn first cap) w:=fun _ _ _ _=>rfl
 clear h b1 z1 d1 d2 d3 hV hcf KG
 go_enter Tryz.func95,Tryz.ntmps95
 go_wp2_with fail
 rw [←HV.out]
 refine C.out.mono ?_
 rintro e w' ⟨rfl,hb2⟩
 have HB2:=Lib.hid (bel_2 HB.out hb2)
 clear hb2
 go_wp2
 go_ret
 exact ⟨rfl,HB2.out⟩
set_option maxHeartbeats 4000000 in
theorem pprio_any (A:Option Addr) (n c:Nat) (l:List Pn) (nm v:ByteArray) (w:World) (h:rdPns w (lt_ w.heap.size) l [.slice A n c]) :
  Calls Tryz.prog 62 #[.slice A n c,.string nm,.string v] w fun e w'=>e=.returned (.int .i64 (prioN l nm v))∧Below w.heap.size w w':=by
 obtain ⟨rfl,hnc,hcm,-⟩:=rdPns_at h
 have hcm':c≤9223372036854775807:=hcm
 have H:=Lib.hid h
 have K1:=Lib.hid (fun W hW=>pfirst_any 96 (fun x=>hitN x nm v) nm v (fun _ _=>by kernel_rfl) (fun x W=>ofName_any x nm v W) A l.length c l W hW)
 have K2:=Lib.hid (fun W hW=>pfirst_any 97 (fun x=>hitN x star8 v) nm v (fun _ _=>by kernel_rfl) (fun x W=>ofEvery_any x nm v W) A l.length c l W hW)
 clear h hcm
 rcases ixQ_find (p:=fun x=>hitN x nm v) l 0 with ⟨e1,e2⟩|⟨k,hk,e1,e2⟩
 ·rw [e2] at K1
  rcases ixQ_find (p:=fun x=>hitN x star8 v) l 0 with ⟨e3,e4⟩|⟨k,hk,e3,e4⟩
  ·have X:=Lib.hid (show prioN l nm v=500 by unfold prioN;rw [e1];simp only;rw [e3])
   rw [e4] at K2
   clear e1 e2 e3 e4
   go_enter Tryz.func62,Tryz.ntmps62
   go_wp2_with fail
   refine (K1.out _ H.out).mono ?_
   rintro e w1 ⟨rfl,hb⟩
   have B1:=Lib.hid hb
   clear hb
   go_wp2_with fail
   refine (K2.out _ (rdPns_good.up (rdPns_good.below H.out B1.out) B1.out.size)).mono ?_
   rintro e w2 ⟨rfl,hb⟩
   have B2:=Lib.hid (bel_2 B1.out hb)
   clear hb
   go_wp2
   go_ret
   exact ⟨by rw [X.out];try rfl,B2.out⟩
  ·have X:=Lib.hid (show prioN l nm v=l[k].p by unfold prioN;rw [e1];simp only;rw [e3])
   rw [e4,Nat.zero_add] at K2
   have t0:¬((k:Int) < 0):=by omega
   have i0:(0:Int)≤(k:Int):=by omega
   have i1:(k:Int) < (l.length:Int):=by omega
   clear e1 e2 e3 e4
   go_enter Tryz.func62,Tryz.ntmps62
   go_wp2_with fail
   refine (K1.out _ H.out).mono ?_
   rintro e w1 ⟨rfl,hb⟩
   have B1:=Lib.hid hb
   clear hb
   go_wp2_with fail
   refine (K2.out _ (rdPns_good.up (rdPns_good.below H.out B1.out) B1.out.size)).mono ?_
   rintro e w2 ⟨rfl,hb⟩
   have B2:=Lib.hid (bel_2 B1.out hb)
   clear hb
   obtain ⟨_,_,_,ha⟩:=rdPns_at (rdPns_good.below H.out B2.out)
   obtain ⟨ad,rfl,had,c0,c1,c2⟩:=ha k hk
   clear ha had c0 c1
   go_wp2
   go_ret
   exact ⟨by rw [X.out];try rfl,B2.out⟩
 ·have X:=Lib.hid (show prioN l nm v=l[k].p by unfold prioN;rw [e1])
  rw [e2,Nat.zero_add] at K1
  have t0:¬((k:Int) < 0):=by omega
  have i0:(0:Int)≤(k:Int):=by omega
  have i1:(k:Int) < (l.length:Int):=by omega
  clear e1 e2 K2
  go_enter Tryz.func62,Tryz.ntmps62
  go_wp2_with fail
  refine (K1.out _ H.out).mono ?_
  rintro e w1 ⟨rfl,hb⟩
  have B1:=Lib.hid hb
  clear hb
  obtain ⟨_,_,_,ha⟩:=rdPns_at (rdPns_good.below H.out B1.out)
  obtain ⟨ad,rfl,had,c0,c1,c2⟩:=ha k hk
  clear ha had c0 c1
  go_wp2
  go_ret
  exact ⟨by rw [X.out];try rfl,B1.out⟩
def rpreB (s:ByteArray):Bool:=decide (s.size≤60)&&(B s).all visB
theorem rpre_any (s:ByteArray) (w:World):Calls Tryz.prog 127 #[.string s] w fun e w'=>e=.returned (.bool (rpreB s))∧Below w.heap.size w w':=by
 by_cases h60:(60:Int) < (s.size:Int)
 ·have X:=Lib.hid (show rpreB s=false by unfold rpreB;rw [decide_eq_false (by omega),Bool.false_and])
  go_enter Tryz.func127,Tryz.ntmps127
  go_wp2
  go_ret
  exact ⟨by rw [X.out];try rfl,Below.refl _ _⟩
 ·have X:=Lib.hid (show rpreB s=(B s).all visB by unfold rpreB;rw [decide_eq_true (show s.size≤60 by omega),Bool.true_and])
  obtain ⟨cap,w1,hcv,hb,hcells⟩:=bytes_cells w s
  have HB:=Lib.hid hb
  have HC:=Lib.hid hcells
  have hlen:s.size≤60:=by omega
  clear hb hcells
  go_enter Tryz.func127,Tryz.ntmps127
  go_wp2
  clear hcv
  go_loop [11] (fun x=>∃k:Nat,k≤s.size∧x=.int .i64 k∧∀j,j < k→visB ((B s).getD j 0)=true) (fun x=>s.size - (intOf x).toNat)
  case atStart=>exact ⟨0,Nat.zero_le _,rfl,fun j hj=>absurd hj (Nat.not_lt_zero _)⟩
  case round=>
   obtain ⟨k,hk,rfl,hno⟩:=hrel
   have HN:=Lib.hid hno
   clear hno
   by_cases hlt:k < s.size
   ·have hcell:=HC.out k hlt
    have HD:=Lib.hid (B_getD s k hlt)
    have AN:=Lib.hid (byt_no (p:=visB) hlt)
    generalize s[k].toNat=c at *
    by_cases q1:(c:Int)≤32
    ·have Y:=Lib.hid (AN.out (vis_low (by omega)))
     go_wp2
     go_ret
     exact ⟨by rw [X.out,Y.out];try rfl,HB.out⟩
    by_cases q2:(127:Int)≤(c:Int)
    ·have Y:=Lib.hid (AN.out (vis_high (by omega)))
     go_wp2
     go_ret
     exact ⟨by rw [X.out,Y.out];try rfl,HB.out⟩
    by_cases q3:c=42
    ·have Y:=Lib.hid (AN.out (vis_star q3))
     have t3:((c:Int)==42)=true:=by rw [beq_iff_eq];omega
     clear q3
     go_wp2
     go_ret
     exact ⟨by rw [X.out,Y.out];try rfl,HB.out⟩
    ·have Y:=Lib.hid (show visB ((B s).getD k 0)=true by rw [HD.out];exact vis_ok (by omega) (by omega) q3)
     have t3:((c:Int)==42)=false:=by rw [beq_eq_false_iff_ne];omega
     clear q3
     go_wp2
     go_round
     case rel=>exact ⟨k+1,by omega,by go_num,fun j hj=>by rcases (by omega:j < k∨j=k) with h|rfl;exact HN.out j h;exact Y.out⟩
     case measure=>simp [intOf];omega
   ·have Y:=Lib.hid (byt_yes (p:=visB) (s:=s) (fun j hj=>HN.out j (by omega)))
    go_wp2
    go_ret
    exact ⟨by rw [X.out,Y.out];try rfl,HB.out⟩
set_option maxHeartbeats 2000000 in
theorem pright_any (x:Pn) (w:World):Calls Tryz.prog 85 #[x.val] w fun e w'=>e=.returned (.bool (rgtN x))∧Below w.heap.size w w':=by
 obtain ⟨n,v,p⟩:=x
 have B0:=Lib.hid (bel_box w (.cells #[.string n,.string v,.int .i64 p] 70))
 have KN:=Lib.hid (fun W=>rname_any n W)
 have KP:=Lib.hid (fun W=>rpre_any v W)
 have HX:=Lib.hid (show rgtN ⟨n,v,p⟩=((nameB (B n)||decide (n=star8))&&(rpreB v&&(decide (-1000≤p)&&decide (p≤1000)))) from by unfold rgtN rpreB;simp only [Bool.and_assoc])
 have hst:=star_eq n
 generalize rgtN ⟨n,v,p⟩=R at *
 by_cases hs:n=star8
 ·rw [decide_eq_true hs] at hst
  have HY:=Lib.hid (show R=(rpreB v&&(decide (-1000≤p)&&decide (p≤1000))) by rw [HX.out,decide_eq_true hs,Bool.or_true,Bool.true_and])
  clear hs HX
  cases hq:rpreB v
  ·have X:=Lib.hid (show R=false by rw [HY.out,hq,Bool.false_and])
   rw [hq] at KP
   clear hq
   go_enter Tryz.func85,Tryz.ntmps85
   go_wp2_with fail
   refine (KP.out _).mono ?_
   rintro e w5 ⟨rfl,hb⟩
   have B5:=Lib.hid (bel_boxed hb)
   obtain ⟨c0,c1,c2,-⟩:=box_cells hb
   clear hb
   go_wp2
   go_ret
   exact ⟨by rw [X.out];try rfl,B5.out⟩
  ·rw [hq] at KP HY
   clear hq
   by_cases p1:-1000≤p
   ·have X:=Lib.hid (show R=decide (p≤1000) by rw [HY.out,decide_eq_true p1];rfl)
    go_enter Tryz.func85,Tryz.ntmps85
    go_wp2_with fail
    refine (KP.out _).mono ?_
    rintro e w5 ⟨rfl,hb⟩
    have B5:=Lib.hid (bel_boxed hb)
    obtain ⟨c0,c1,c2,-⟩:=box_cells hb
    clear hb
    go_wp2
    go_ret
    exact ⟨by rw [X.out];try rfl,B5.out⟩
   ·have X:=Lib.hid (show R=false by rw [HY.out,decide_eq_false p1];rfl)
    go_enter Tryz.func85,Tryz.ntmps85
    go_wp2_with fail
    refine (KP.out _).mono ?_
    rintro e w5 ⟨rfl,hb⟩
    have B5:=Lib.hid (bel_boxed hb)
    obtain ⟨c0,c1,c2,-⟩:=box_cells hb
    clear hb
    go_wp2
    go_ret
    exact ⟨by rw [X.out];try rfl,B5.out⟩
 rw [decide_eq_false hs] at hst
 cases hn:nameB (B n)
 ·have X:=Lib.hid (show R=false by rw [HX.out,decide_eq_false hs,hn];rfl)
  rw [hn] at KN
  clear hs hn HX
  go_enter Tryz.func85,Tryz.ntmps85
  go_wp2_with fail
  refine (KN.out _).mono ?_
  rintro e w4 ⟨rfl,hb⟩
  have B1:=Lib.hid (bel_boxed hb)
  obtain ⟨c0,c1,c2,-⟩:=box_cells hb
  clear hb
  go_wp2
  go_ret
  exact ⟨by rw [X.out];try rfl,B1.out⟩
 ·have HY:=Lib.hid (show R=(rpreB v&&(decide (-1000≤p)&&decide (p≤1000))) by rw [HX.out,hn,Bool.true_or,Bool.true_and])
  rw [hn] at KN
  clear hs hn HX
  go_enter Tryz.func85,Tryz.ntmps85
  go_wp2_with fail
  refine (KN.out _).mono ?_
  rintro e w4 ⟨rfl,hb⟩
  have B1:=Lib.hid (bel_boxed hb)
  obtain ⟨c0,c1,c2,-⟩:=box_cells hb
  clear hb
  cases hq:rpreB v
  ·have X:=Lib.hid (show R=false by rw [HY.out,hq,Bool.false_and])
   rw [hq] at KP
   clear hq
   go_wp2_with fail
   refine (KP.out _).mono ?_
   rintro e w5 ⟨rfl,hb⟩
   have B5:=Lib.hid (bel_2 B1.out hb)
   replace c0:=keep_cell hb c0
   replace c1:=keep_cell hb c1
   replace c2:=keep_cell hb c2
   clear hb
   go_wp2
   go_ret
   exact ⟨by rw [X.out];try rfl,B5.out⟩
  ·rw [hq] at KP HY
   clear hq
   by_cases p1:-1000≤p
   ·have X:=Lib.hid (show R=decide (p≤1000) by rw [HY.out,decide_eq_true p1];rfl)
    go_wp2_with fail
    refine (KP.out _).mono ?_
    rintro e w5 ⟨rfl,hb⟩
    have B5:=Lib.hid (bel_2 B1.out hb)
    replace c0:=keep_cell hb c0
    replace c1:=keep_cell hb c1
    replace c2:=keep_cell hb c2
    clear hb
    go_wp2
    go_ret
    exact ⟨by rw [X.out];try rfl,B5.out⟩
   ·have X:=Lib.hid (show R=false by rw [HY.out,decide_eq_false p1];rfl)
    go_wp2_with fail
    refine (KP.out _).mono ?_
    rintro e w5 ⟨rfl,hb⟩
    have B5:=Lib.hid (bel_2 B1.out hb)
    replace c0:=keep_cell hb c0
    replace c1:=keep_cell hb c1
    replace c2:=keep_cell hb c2
    clear hb
    go_wp2
    go_ret
    exact ⟨by rw [X.out];try rfl,B5.out⟩
def rdBa:Rd ByteArray:=fun _ _ s cs=>cs=[.string s]
theorem rdBa_good:Good rdBa 1:=⟨fun h _=>h,fun h _=>h,fun h _ _=>h,fun h=>by rw [h];rfl,fun h u hu=>by rw [h] at hu;rw [List.mem_singleton.1 hu];rfl⟩
abbrev rdBas:Rd (List ByteArray):=rdRow 1 rdBa
theorem rdBas_good:Good rdBas 1:=rdRow_good rdBa_good
theorem rdBas_at {w:World} {S:Nat→Prop} {l:List ByteArray} {A:Option Addr} {n c:Nat} (h:rdBas w S l [.slice A n c]):n=l.length∧n≤c∧c≤maxLen∧∀k (hk:k < l.length),∃ad,A=some ad∧S ad.block∧w.cell? (ad.add k)=some (.string l[k]):=by
 obtain ⟨A',c',e,h1,h2,h⟩:=h
 simp only [List.cons.injEq,Value.slice.injEq,and_true] at e
 obtain ⟨rfl,rfl,rfl⟩:=e
 refine ⟨rfl,h1,h2,fun k hk=>?_⟩
 obtain ⟨ad,es,e,hS,hE,hl,hc⟩:=h k hk
 rw [show es=[.string l[k]] from hE] at hc
 have:=hc 0 _ rfl
 rw [Nat.mul_one] at this
 exact ⟨ad,e,hS,this⟩
theorem maxF_step (f:ByteArray→Int) (b:Int) (all:List ByteArray) {k:Nat} (hk:k < all.length):maxF f b (all.take (k+1))=max (maxF f b (all.take k)) (f all[k]):=by
 rw [List.take_succ_eq_append_getElem hk,maxF_snoc]
set_option maxHeartbeats 4000000 in
theorem ploss_any (A:Option Addr) (n c:Nat) (l:List Pn) (nm:ByteArray) (A':Option Addr) (n' c':Nat) (all:List ByteArray) (v:ByteArray) (w:World) (h:rdPns w (lt_ w.heap.size) l [.slice A n c]) (h':rdBas w (lt_ w.heap.size) all [.slice A' n' c'])
  (hB:Bd8 l) :
  Calls Tryz.prog 55 #[.slice A n c,.string nm,.slice A' n' c',.string v] w fun e w'=>e=.returned (.int .i64 (lossN l nm all v))∧Below w.heap.size w w':=by
 obtain ⟨rfl,hnc,hcm,-⟩:=rdBas_at h'
 have hcm':c'≤9223372036854775807:=hcm
 have H:=Lib.hid h
 have H':=Lib.hid h'
 have KP:=Lib.hid (fun u W hW=>pprio_any A n c l nm u W hW)
 have BD:=Lib.hid (fun u=>prio_in (b:=1099511627776) (by decide) hB nm u)
 have K0:=Lib.hid (KP.out v w h)
 have X:=Lib.hid (show lossN l nm all v=maxF (prioN l nm) (prioN l nm v) (all.take all.length) - prioN l nm v by rw [List.take_length];rfl)
 have MB:=Lib.hid (fun k=>maxF_in (f:=prioN l nm) (b:=prioN l nm v) (c:=1099511627776) (all:=all.take k) (BD.out v) BD.out)
 have MS:=Lib.hid (fun k hk=>maxF_step (prioN l nm) (prioN l nm v) all (k:=k) hk)
 have M0:=Lib.hid (show prioN l nm v=maxF (prioN l nm) (prioN l nm v) (all.take 0) from rfl)
 obtain ⟨o1,o2⟩:=BD.out v
 clear h h' hcm hB
 generalize lossN l nm all v=R at *
 generalize prioN l nm v=own at *
 generalize prioN l nm=f at *
 go_enter Tryz.func55,Tryz.ntmps55
 go_wp2_with fail
 refine K0.out.mono ?_
 rintro e w1 ⟨rfl,hb⟩
 have B1:=Lib.hid hb
 clear hb K0
 go_wp2
 go_loopw [10,20] (fun b i wr=>∃k:Nat,k≤all.length∧i=.int .i64 k∧b=.int .i64 (maxF f own (all.take k))∧Below w.heap.size w wr) (fun _ i _=>all.length - (intOf i).toNat)
 case atStart=>exact ⟨0,Nat.zero_le _,rfl,by rw [←M0.out],B1.out⟩
 case round=>
  obtain ⟨k,hk,rfl,rfl,hbel⟩:=hrel
  have HB:=Lib.hid hbel
  obtain ⟨m1,m2⟩:=MB.out k
  by_cases hlt:k < all.length
  ·obtain ⟨_,_,_,hat⟩:=rdBas_at (rdBas_good.up (rdBas_good.below H'.out hbel) hbel.size)
   obtain ⟨ad,rfl,had,c0⟩:=hat k hlt
   have K:=Lib.hid (KP.out all[k] wr (rdPns_good.up (rdPns_good.below H.out hbel) hbel.size))
   have SX:=Lib.hid (MS.out k hlt)
   obtain ⟨f1,f2⟩:=BD.out all[k]
   have i0:(0:Int)≤(k:Int):=by omega
   have i1:(k:Int) < (all.length:Int):=by omega
   clear hat hbel had
   generalize all[k]=u at *
   generalize f u=y at *
   generalize maxF f own (all.take k)=b at *
   go_wp2_with fail
   refine K.out.mono ?_
   rintro e w2 ⟨rfl,hb⟩
   have HB2:=Lib.hid (HB.out.trans (hb.mono HB.out.size))
   clear hb c0
   go_wp2
   go_roundw
   case rel=>exact ⟨k+1,by omega,by go_num,by rw [SX.out];try rfl,HB2.out⟩
   case measure=>simp [intOf];omega
  ·obtain rfl:k=all.length:=by omega
   clear hbel
   generalize maxF f own (all.take all.length)=b at *
   go_wp2
   go_ret
   exact ⟨by rw [X.out];try rfl,HB.out⟩
end Go.Proofs.YtpilmhoakopcaaaGreatDoor
namespace Go.Proofs.YtpilmhoakopcaaaGreatDoor
open Go.RowKit Go.ChangeShapes Go.WideShapes Go.ChangeAt
def laidL:List (String × DataW Unit):=[("math/bits.deBruijn32tab",Rows.laid_math_bits_deBruijn32tab),("math/bits.deBruijn64tab",Rows.laid_math_bits_deBruijn64tab),("internal/strconv.uint64pow10",Rows.laid_internal_strconv_uint64pow10),("unicode/utf8.acceptRanges",Rows.laid_unicode_utf8_acceptRanges),("strconv.ErrRange",Rows.laid_strconv_ErrRange),("strconv.ErrSyntax",Rows.laid_strconv_ErrSyntax),("keelson/relation.signs",Rows.laid_keelson_relation_signs),("unicode/utf8.first",Rows.laid_unicode_utf8_first)]
theorem g_pow:Tryz.prog.globalNamed "internal/strconv.uint64pow10"=some 4:=by kernel_rfl
theorem t_pow:(Tryz.prog.globals[4]?).map (·.type)=some 236:=by kernel_rfl
theorem c_pow:Tryz.prog.cellsOf 236=20:=by kernel_rfl
theorem c_u64:Tryz.prog.cellsOf 154=1:=by kernel_rfl
theorem d_pow:(Rows.laid_internal_strconv_uint64pow10:DataW Unit)=Lib.tabData .u64 Lib.pow10Tab:=by kernel_rfl
theorem g_rng:Tryz.prog.globalNamed "strconv.ErrRange"=some 3:=by kernel_rfl
theorem t_rng:(Tryz.prog.globals[3]?).map (·.type)=some 188:=by kernel_rfl
theorem g_syn:Tryz.prog.globalNamed "strconv.ErrSyntax"=some 2:=by kernel_rfl
theorem t_syn:(Tryz.prog.globals[2]?).map (·.type)=some 188:=by kernel_rfl
theorem c_es:Tryz.prog.cellsOf 234=1:=by kernel_rfl
theorem c_str:Tryz.prog.cellsOf 9=1:=by kernel_rfl
theorem g_sgn:Tryz.prog.globalNamed "keelson/relation.signs"=some 0:=by kernel_rfl
theorem t_sgn:(Tryz.prog.globals[0]?).map (·.type)=some 181:=by kernel_rfl
theorem c_sgn:Tryz.prog.cellsOf 181=5:=by kernel_rfl
theorem d_sgn:(Rows.laid_keelson_relation_signs:DataW Unit)=strTab [[60,60],[60,61],[61],[62,61],[62,62]]:=by kernel_rfl
theorem star: "*"++ "errors.errorString"= "*errors.errorString":=by decide
theorem row_es (u:TypeId) (h:Tryz.prog.typeName? 3 u=some "*errors.errorString"):u=232:=
 typeName_ptr_named (nm:= "errors.errorString") (by rw [star];kernel_rfl) (by kernel_rfl) (by decide) u (by rw [star];exact h)
theorem env_of {W:World} (h0:laidMetH Tryz.prog laidL W) (hsh:W.ShapedOpen Tryz.prog):EnvR W:=by
 rw [MakeChecks.laidMetH_plain _ _ _ (by kernel_rfl)] at h0
 have h1:=h0.tail
 have h2:=h1.tail
 have h3:=h2.tail
 have h4:=h3.tail
 have h5:=h4.tail
 have h6:=h5.tail
 obtain ⟨a0,s0,hv0,-,-,-⟩:=laid_sentinel h4 g_rng t_rng Tryz.underlying188 row_es Tryz.underlying232 Tryz.underlying234 rfl rfl Tryz.underlying9 c_es c_str
 obtain ⟨a1,s1,hv1,-,-,-⟩:=laid_sentinel h5 g_syn t_syn Tryz.underlying188 row_es Tryz.underlying232 Tryz.underlying234 rfl rfl Tryz.underlying9 c_es c_str
 have hs:=fun i z hi=>strs_of_head g_sgn t_sgn Tryz.underlying181 Tryz.underlying9 c_str c_sgn (d_sgn ▸ h6) i z hi
 have hp:=h2
 rw [d_pow] at hp
 exact ⟨⟨Go.Proofs.cell_of_shapedOpen_int (zero:=#[.int .i64 0]) (t:=3) hsh (of_decide_eq_true (by kernel_rfl)) (by kernel_rfl) rfl (by kernel_rfl) (by kernel_rfl) Tryz.underlying3,Lib.tabIs_of_head g_pow t_pow Tryz.underlying236 Tryz.underlying154 c_u64 c_pow hp,⟨_,_,hv1⟩,⟨_,_,hv0⟩⟩,⟨hs 0 _ rfl,hs 1 _ rfl,hs 2 _ rfl,hs 3 _ rfl,hs 4 _ rfl⟩⟩
theorem own':ownKnob Tryz.prog.godebug=none:=by kernel_rfl
theorem door_os (os:Os):(World.laidAll Tryz.prog os laidL).os=os:=World.laidAll_os _ _ _
theorem door_shaped (os:Os) (args:Array Value):((World.laidAll Tryz.prog os laidL).forCall (fun _ _=>0) ⟨#[],args,[]⟩).Shaped Tryz.prog:=World.shaped_of_ZipB (by kernel_rfl) (by kernel_rfl)
theorem door_met (os:Os) (args:Array Value):laidMetH Tryz.prog laidL ((World.laidAll Tryz.prog os laidL).forCall (fun _ _=>0) ⟨#[],args,[]⟩).memory:=by
 rw [MakeChecks.laidMetH_plain _ _ _ (by kernel_rfl)]
 exact laidMet_laidAll _ (by kernel_rfl) (by kernel_rfl)
end Go.Proofs.YtpilmhoakopcaaaGreatDoor
