/- What the laws rest on: N8b, N8p, N8a, E8f, N8c. -/
import Derived.Test.YtbljkpbaceiaiaaGreatDoorQAPZA
set_option maxRecDepth 100000
set_option linter.unusedVariables false
set_option linter.unusedSimpArgs false
namespace Go.Proofs.YtbljkpbaceiaiaaGreatDoor
open Go.RowKit
theorem map_inj8 {a b:List UInt8}:a.map UInt8.toNat=b.map UInt8.toNat↔a=b:=⟨fun h=>(List.map_inj_right (fun x y e=>UInt8.toNat_inj.1 e)).1 h,fun h=>by rw [h]⟩
theorem pfx_is (x v:ByteArray):Lib.hasPrefix v.data.toList x.data.toList=pfx8 x v:=by
 unfold Lib.hasPrefix pfx8 B
 rw [Bool.eq_iff_iff,decide_eq_true_iff,List.isPrefixOf_iff_prefix,List.prefix_iff_eq_take,List.length_map,←List.map_take,map_inj8]
 exact ⟨Eq.symm,Eq.symm⟩
theorem pfx_any (x v:ByteArray) (w:World):Calls Tryz.prog 37 #[.string v,.string x] w fun e w'=>e=.returned (.bool (pfx8 x v))∧w=w':=by
 refine (Tryz.strings_HasPrefix v x w).mono ?_
 rintro e w' ⟨rfl,rfl⟩
 exact ⟨by rw [←pfx_is],rfl⟩
set_option maxHeartbeats 2000000 in
theorem pmatch_any (x:Pn) (nm v:ByteArray) (w:World):Calls Tryz.prog 20 #[x.val,.string nm,.string v] w fun e w'=>e=.returned (.bool (matN x nm v))∧Below w.heap.size w w':=by
 obtain ⟨n,y,p⟩:=x
 have B1:=Lib.hid (bel_box w (.cells #[.string n,.string y,.int .i64 p] 30))
 have hst:=star_eq n
 have hnm:=str_eq n nm
 have NO:=Lib.hid (mat_no (x:=⟨n,y,p⟩) (nm:=nm) (v:=v))
 have YES:=Lib.hid (mat_yes (x:=⟨n,y,p⟩) (nm:=nm) (v:=v))
 have KH:=Lib.hid (fun W=>pfx_any y v W)
 generalize matN ⟨n,y,p⟩ nm v=R at *
 by_cases h1:n=nm
 ·have X:=Lib.hid (YES.out (.inl h1))
  rw [decide_eq_true h1] at hnm
  clear h1 hst
  simp only at X
  generalize pfx8 y v=q at *
  go_enter Tryz.func20,Tryz.ntmps20
  go_wp2_with fail
  refine (KH.out _).mono ?_
  rintro e w' ⟨rfl,rfl⟩
  go_wp2
  go_ret
  exact ⟨by rw [X.out];try rfl,B1.out⟩
 rw [decide_eq_false h1] at hnm
 by_cases h2:n=star8
 ·have X:=Lib.hid (YES.out (.inr h2))
  rw [decide_eq_true h2] at hst
  clear h1 h2
  simp only at X
  generalize pfx8 y v=q at *
  go_enter Tryz.func20,Tryz.ntmps20
  go_wp2_with fail
  refine (KH.out _).mono ?_
  rintro e w' ⟨rfl,rfl⟩
  go_wp2
  go_ret
  exact ⟨by rw [X.out];try rfl,B1.out⟩
 ·have X:=Lib.hid (NO.out h1 h2)
  rw [decide_eq_false h2] at hst
  clear h1 h2
  go_enter Tryz.func20,Tryz.ntmps20
  go_wp2
  go_ret
  exact ⟨by rw [X.out];try rfl,B1.out⟩
theorem ofName_any (x:Pn) (nm v:ByteArray) (w:World):Calls Tryz.prog 39 #[x.val,.string nm,.string v] w fun e w'=>e=.returned (.bool (hitN x nm v))∧Below w.heap.size w w':=by
 have KM:=Lib.hid (fun W=>pmatch_any x nm v W)
 have HX:=Lib.hid (hit_mat (x:=x) (nm:=nm) (v:=v))
 obtain ⟨n,y,p⟩:=x
 have B1:=Lib.hid (bel_box w (.cells #[.string n,.string y,.int .i64 p] 64))
 have hnm:=str_eq n nm
 simp only [Pn.val] at KM HX
 generalize matN ⟨n,y,p⟩ nm v=q at *
 generalize hitN ⟨n,y,p⟩ nm v=R at *
 by_cases h1:n=nm
 ·have X:=Lib.hid (show R=q by rw [←HX.out,decide_eq_true h1,Bool.true_and])
  rw [decide_eq_true h1] at hnm
  clear h1
  go_enter Tryz.func39,Tryz.ntmps39
  go_wp2_with fail
  refine (KM.out _).mono ?_
  rintro e w2 ⟨rfl,hb⟩
  have B2:=Lib.hid (bel_boxed hb)
  clear hb
  go_wp2
  go_ret
  exact ⟨by rw [X.out];try rfl,B2.out⟩
 ·have X:=Lib.hid (show R=false by rw [←HX.out,decide_eq_false h1,Bool.false_and])
  rw [decide_eq_false h1] at hnm
  clear h1
  go_enter Tryz.func39,Tryz.ntmps39
  go_wp2
  go_ret
  exact ⟨by rw [X.out];try rfl,B1.out⟩
theorem ofEvery_any (x:Pn) (nm v:ByteArray) (w:World):Calls Tryz.prog 40 #[x.val,.string nm,.string v] w fun e w'=>e=.returned (.bool (hitN x star8 v))∧Below w.heap.size w w':=by
 have KM:=Lib.hid (fun W=>pmatch_any x nm v W)
 have HX:=Lib.hid (hit_star (x:=x) (nm:=nm) (v:=v))
 obtain ⟨n,y,p⟩:=x
 have B1:=Lib.hid (bel_box w (.cells #[.string n,.string y,.int .i64 p] 64))
 have hst:=star_eq n
 simp only [Pn.val] at KM HX
 generalize matN ⟨n,y,p⟩ nm v=q at *
 generalize hitN ⟨n,y,p⟩ star8 v=R at *
 by_cases h1:n=star8
 ·have X:=Lib.hid (show R=q by rw [←HX.out,decide_eq_true h1,Bool.true_and])
  rw [decide_eq_true h1] at hst
  clear h1
  go_enter Tryz.func40,Tryz.ntmps40
  go_wp2_with fail
  refine (KM.out _).mono ?_
  rintro e w2 ⟨rfl,hb⟩
  have B2:=Lib.hid (bel_boxed hb)
  clear hb
  go_wp2
  go_ret
  exact ⟨by rw [X.out];try rfl,B2.out⟩
 ·have X:=Lib.hid (show R=false by rw [←HX.out,decide_eq_false h1,Bool.false_and])
  rw [decide_eq_false h1] at hst
  clear h1
  go_enter Tryz.func40,Tryz.ntmps40
  go_wp2
  go_ret
  exact ⟨by rw [X.out];try rfl,B1.out⟩
theorem must_any (g:Nat) (p:Pn→Bool) (nm v:ByteArray) (hcf:∀(args:Array Value) (w:World),(callFunc g args).run Tryz.prog w=.ok (.enter g args) w) (KG:∀(x:Pn) (W:World),Calls Tryz.prog g #[x.val,.string nm,.string v] W fun e w'=>e=.returned (.bool (p x))∧Below W.heap.size W w')
  (x:Pn) (q1 q2 q3:Addr) (w:World) (b1:q1.block < w.heap.size) (b2:q2.block < w.heap.size) (b3:q3.block < w.heap.size) (c1:w.cell? q1=some (.func (.func g) #[] #[])) (c2:w.cell? q2=some (.string nm)) (c3:w.cell? q3=some (.string v)) :
  Calls Tryz.prog 60 #[x.val,.pointer (some q1),.pointer (some q2),.pointer (some q3)] w fun e w'=>e=.returned (.bool (p x))∧Below w.heap.size w w':=by
 have K:=Lib.hid (KG x)
 obtain ⟨n,y,pr⟩:=x
 have B1:=bel_box w (.cells #[.string n,.string y,.int .i64 pr] 30)
 have d1:=(B1.cell b1).trans c1
 have d2:=(B1.cell b2).trans c2
 have d3:=(B1.cell b3).trans c3
 have HB:=Lib.hid B1
 simp only [Pn.val] at K
 generalize p ⟨n,y,pr⟩=R at *
 clear KG B1 b1 b2 b3 c1 c2 c3
 go_enter Tryz.func60,Tryz.ntmps60
 go_wp2_with fail
 refine (K.out _).mono ?_
 rintro e w2 ⟨rfl,hb⟩
 have B2:=Lib.hid (bel_boxed hb)
 clear hb
 go_wp2
 go_ret
 exact ⟨rfl,B2.out⟩
def ixQ {α:Type} (p:α→Bool):List α→Nat→Int
 | [],_=>-1
 | x::r,i=>if p x=true then i else ixQ p r (i+1)
theorem ixQ_at {α:Type} {p:α→Bool} {l:List α} {k:Nat} (hk:k < l.length):(p l[k]=true→ixQ p (l.drop k) k=k)∧(p l[k]=false→ixQ p (l.drop k) k=ixQ p (l.drop (k+1)) (k+1)):=by
 rw [List.drop_eq_getElem_cons hk]
 exact ⟨fun h=>if_pos h,fun h=>if_neg (by rw [h];simp)⟩
theorem ixQ_find {α:Type} {p:α→Bool}:∀(l:List α) (i:Nat),(l.find? p=none∧ixQ p l i=-1)∨∃k,∃hk:k < l.length,l.find? p=some l[k]∧ixQ p l i=((i+k:Nat):Int)
 | [],_=>.inl ⟨rfl,rfl⟩
 | x::r,i=>by
  by_cases h:p x=true
  ·exact .inr ⟨0,by simp,List.find?_cons_of_pos h,if_pos h⟩
  ·rw [List.find?_cons_of_neg h]
   rcases ixQ_find (p:=p) r (i+1) with ⟨a,b⟩|⟨k,hk,a,b⟩
   ·exact .inl ⟨a,(if_neg h).trans b⟩
   ·exact .inr ⟨k+1,by simp only [List.length_cons];omega,a,(if_neg h).trans (by rw [b];congr 1;omega)⟩
set_option maxHeartbeats 4000000 in
theorem ixPn_any (g:Nat) (cap:Array Value) (p:Pn→Bool) (A:Option Addr) (n c:Nat) (l:List Pn) (w:World) (hcf:∀(args:Array Value) (w:World),(callFunc g args).run Tryz.prog w=.ok (.enter g args) w) (h:rdPns w (lt_ w.heap.size) l [.slice A n c])
  (KP:∀(x:Pn) (W:World),Below w.heap.size w W→Calls Tryz.prog g (#[x.val]++cap) W fun e w'=>e=.returned (.bool (p x))∧Below W.heap.size W w') :
  Calls Tryz.prog 59 #[.slice A n c,.func (.func g) #[] cap] w fun e w'=>e=.returned (.int .i64 (ixQ p l 0))∧Below w.heap.size w w':=by
 obtain ⟨rfl,hnc,hcm,_⟩:=rdPns_at h
 have hcm':c≤9223372036854775807:=hcm
 have H:=Lib.hid h
 have HK:=Lib.hid KP
 clear h hcm KP
 go_enter Tryz.func59,Tryz.ntmps59
 go_wp2
 go_loopw [8] (fun i wr=>∃k:Nat,k≤l.length∧i=.int .i64 k∧ixQ p l 0=ixQ p (l.drop k) k∧Below w.heap.size w wr) (fun i _=>l.length - (intOf i).toNat)
 case atStart=>exact ⟨0,Nat.zero_le _,rfl,rfl,Below.refl _ _⟩
 case round=>
  obtain ⟨k,hk,rfl,h1,hbel⟩:=hrel
  have H1:=Lib.hid h1
  have HB:=Lib.hid hbel
  clear h1
  by_cases hlt:k < l.length
  ·obtain ⟨_,_,_,ha⟩:=rdPns_at (rdPns_good.below H.out hbel)
   obtain ⟨ad,rfl,had,g0,g1,g2⟩:=ha k hlt
   have CL:=Lib.hid (HK.out l[k] wr hbel)
   have PA:=Lib.hid (ixQ_at (p:=p) hlt)
   have i0:(0:Int)≤(k:Int):=by omega
   have i1:(k:Int) < (l.length:Int):=by omega
   clear ha hbel had
   generalize l[k]=x at *
   obtain ⟨xn,xx,xp⟩:=x
   simp only [Pn.val] at CL g0 g1 g2
   cases he:p ⟨xn,xx,xp⟩
   ·have X:=Lib.hid (PA.out.2 he)
    rw [he] at CL
    clear he
    go_wp2_with fail
    refine CL.out.mono ?_
    rintro e w' ⟨rfl,hb2⟩
    have HB2:=Lib.hid (bel2 HB.out hb2 (Nat.le_refl _))
    clear hb2
    go_wp2
    go_roundw
    case rel=>exact ⟨k+1,by omega,by go_num,by rw [H1.out,X.out],HB2.out⟩
    case measure=>simp [intOf];omega
   ·have X:=Lib.hid (PA.out.1 he)
    rw [he] at CL
    clear he
    go_wp2_with fail
    refine CL.out.mono ?_
    rintro e w' ⟨rfl,hb2⟩
    have HB2:=Lib.hid (bel2 HB.out hb2 (Nat.le_refl _))
    clear hb2
    go_wp2
    go_ret
    exact ⟨by rw [H1.out,X.out];try rfl,HB2.out⟩
  ·have X:=Lib.hid (show ixQ p l 0=-1 by rw [H1.out,List.drop_eq_nil_of_le (by omega)];rfl)
   go_wp2
   go_ret
   exact ⟨by rw [X.out];try rfl,HB.out⟩
set_option maxHeartbeats 2000000 in
theorem pfirst_any (g:Nat) (p:Pn→Bool) (nm v:ByteArray) (hcf:∀(args:Array Value) (w:World),(callFunc g args).run Tryz.prog w=.ok (.enter g args) w) (KG:∀(x:Pn) (W:World),Calls Tryz.prog g #[x.val,.string nm,.string v] W fun e w'=>e=.returned (.bool (p x))∧Below W.heap.size W w')
  (A:Option Addr) (n c:Nat) (l:List Pn) (w:World) (h:rdPns w (lt_ w.heap.size) l [.slice A n c]) :
  Calls Tryz.prog 38 #[.slice A n c,.func (.func g) #[] #[],.string nm,.string v] w fun e w'=>e=.returned (.int .i64 (ixQ p l 0))∧Below w.heap.size w w':=by
 obtain ⟨V,hV⟩:∃V,V=((w.alloc (.cells #[.func (.func g) #[] #[]] 63)).alloc (.cells #[.string nm] 9)).alloc (.cells #[.string v] 9):=⟨_,rfl⟩
 have b1:Below w.heap.size w V:=by rw [hV];exact (((Below.refl _ w).alloc (Nat.le_refl _) _).alloc (by simp) _).alloc (by simp;omega) _
 have z1:V.heap.size=w.heap.size+3:=by rw [hV,World.size_alloc,World.size_alloc,World.size_alloc]
 have d1:V.cell? ⟨w.heap.size,0,none⟩=some (.func (.func g) #[] #[]):=by rw [hV];simp [go_sem]
 have d2:V.cell? ⟨w.heap.size+1,0,none⟩=some (.string nm):=by rw [hV];simp [go_sem]
 have d3:V.cell? ⟨w.heap.size+2,0,none⟩=some (.string v):=by rw [hV];simp [go_sem]
 have C:=Lib.hid (ixPn_any 60 #[.pointer (some ⟨w.heap.size,0,none⟩),.pointer (some ⟨w.heap.size+1,0,none⟩),.pointer (some ⟨w.heap.size+2,0,none⟩)] p A n c l V (fun _ _=>by kernel_rfl) (rdPns_good.up (rdPns_good.below h b1) b1.size)
  (fun x W hb=>must_any g p nm v hcf KG x ⟨w.heap.size,0,none⟩ ⟨w.heap.size+1,0,none⟩ ⟨w.heap.size+2,0,none⟩ W (by have:=hb.size;show w.heap.size < _;omega) (by have:=hb.size;show w.heap.size+1 < _;omega) (by have:=hb.size;show w.heap.size+2 < _;omega)
   ((hb.cell (by show w.heap.size < _;omega)).trans d1) ((hb.cell (by show w.heap.size+1 < _;omega)).trans d2) ((hb.cell (by show w.heap.size+2 < _;omega)).trans d3)))
 have HB:=Lib.hid b1
 have HV:=Lib.hid hV
 have hmf:∀(fn:Fn) (first cap:Array Value) (w:World),(Instr.makeFunc fn first cap).run Tryz.prog w=.ok (.func fn first cap) w:=fun _ _ _ _=>rfl
 clear h b1 z1 d1 d2 d3 hV hcf KG
 go_enter Tryz.func38,Tryz.ntmps38
 go_wp2_with fail
 rw [←HV.out]
 refine C.out.mono ?_
 rintro e w' ⟨rfl,hb2⟩
 have HB2:=Lib.hid (bel_2 HB.out hb2)
 clear hb2
 go_wp2
 go_ret
 exact ⟨rfl,HB2.out⟩
set_option maxHeartbeats 4000000 in
theorem pprio_any (A:Option Addr) (n c:Nat) (l:List Pn) (nm v:ByteArray) (w:World) (h:rdPns w (lt_ w.heap.size) l [.slice A n c]) :
  Calls Tryz.prog 22 #[.slice A n c,.string nm,.string v] w fun e w'=>e=.returned (.int .i64 (prioN l nm v))∧Below w.heap.size w w':=by
 obtain ⟨rfl,hnc,hcm,-⟩:=rdPns_at h
 have hcm':c≤9223372036854775807:=hcm
 have H:=Lib.hid h
 have K1:=Lib.hid (fun W hW=>pfirst_any 39 (fun x=>hitN x nm v) nm v (fun _ _=>by kernel_rfl) (fun x W=>ofName_any x nm v W) A l.length c l W hW)
 have K2:=Lib.hid (fun W hW=>pfirst_any 40 (fun x=>hitN x star8 v) nm v (fun _ _=>by kernel_rfl) (fun x W=>ofEvery_any x nm v W) A l.length c l W hW)
 clear h hcm
 rcases ixQ_find (p:=fun x=>hitN x nm v) l 0 with ⟨e1,e2⟩|⟨k,hk,e1,e2⟩
 ·rw [e2] at K1
  rcases ixQ_find (p:=fun x=>hitN x star8 v) l 0 with ⟨e3,e4⟩|⟨k,hk,e3,e4⟩
  ·have X:=Lib.hid (show prioN l nm v=500 by unfold prioN;rw [e1];simp only;rw [e3])
   rw [e4] at K2
   clear e1 e2 e3 e4
   go_enter Tryz.func22,Tryz.ntmps22
   go_wp2_with fail
   refine (K1.out _ H.out).mono ?_
   rintro e w1 ⟨rfl,hb⟩
   have B1:=Lib.hid hb
   clear hb
   go_wp2_with fail
   refine (K2.out _ (rdPns_good.up (rdPns_good.below H.out B1.out) B1.out.size)).mono ?_
   rintro e w2 ⟨rfl,hb⟩
   have B2:=Lib.hid (bel_2 B1.out hb)
   clear hb
   go_wp2
   go_ret
   exact ⟨by rw [X.out];try rfl,B2.out⟩
  ·have X:=Lib.hid (show prioN l nm v=l[k].p by unfold prioN;rw [e1];simp only;rw [e3])
   rw [e4,Nat.zero_add] at K2
   have t0:¬((k:Int) < 0):=by omega
   have i0:(0:Int)≤(k:Int):=by omega
   have i1:(k:Int) < (l.length:Int):=by omega
   clear e1 e2 e3 e4
   go_enter Tryz.func22,Tryz.ntmps22
   go_wp2_with fail
   refine (K1.out _ H.out).mono ?_
   rintro e w1 ⟨rfl,hb⟩
   have B1:=Lib.hid hb
   clear hb
   go_wp2_with fail
   refine (K2.out _ (rdPns_good.up (rdPns_good.below H.out B1.out) B1.out.size)).mono ?_
   rintro e w2 ⟨rfl,hb⟩
   have B2:=Lib.hid (bel_2 B1.out hb)
   clear hb
   obtain ⟨_,_,_,ha⟩:=rdPns_at (rdPns_good.below H.out B2.out)
   obtain ⟨ad,rfl,had,c0,c1,c2⟩:=ha k hk
   clear ha had c0 c1
   go_wp2
   go_ret
   exact ⟨by rw [X.out];try rfl,B2.out⟩
 ·have X:=Lib.hid (show prioN l nm v=l[k].p by unfold prioN;rw [e1])
  rw [e2,Nat.zero_add] at K1
  have t0:¬((k:Int) < 0):=by omega
  have i0:(0:Int)≤(k:Int):=by omega
  have i1:(k:Int) < (l.length:Int):=by omega
  clear e1 e2 K2
  go_enter Tryz.func22,Tryz.ntmps22
  go_wp2_with fail
  refine (K1.out _ H.out).mono ?_
  rintro e w1 ⟨rfl,hb⟩
  have B1:=Lib.hid hb
  clear hb
  obtain ⟨_,_,_,ha⟩:=rdPns_at (rdPns_good.below H.out B1.out)
  obtain ⟨ad,rfl,had,c0,c1,c2⟩:=ha k hk
  clear ha had c0 c1
  go_wp2
  go_ret
  exact ⟨by rw [X.out];try rfl,B1.out⟩
def v8U:List UInt8:=[118,101,114,115,105,111,110,32]
def y8 (s:ByteArray):ByteArray:=⟨(Lib.trimSuffix (Lib.trimPrefix s.data.toList v8U) [42]).toArray⟩
theorem trim_both (m:List UInt8):Lib.trimSuffix (Lib.trimPrefix (v8U++(m++[42])) v8U) [42]=m:=by
 have e1:Lib.trimPrefix (v8U++(m++[42])) v8U=m++[42]:=by
  unfold Lib.trimPrefix Lib.hasPrefix
  rw [if_pos (List.isPrefixOf_iff_prefix.2 (List.prefix_append _ _)),List.drop_left]
 rw [e1]
 unfold Lib.trimSuffix Lib.hasSuffix
 rw [if_pos (List.isSuffixOf_iff_suffix.2 (List.suffix_append _ _)),List.length_append]
 simp
theorem trim_len (l:List UInt8):(Lib.trimSuffix (Lib.trimPrefix l v8U) [42]).length≤l.length:=by
 have h1:(Lib.trimPrefix l v8U).length≤l.length:=by unfold Lib.trimPrefix;split<;>simp
 refine Nat.le_trans ?_ h1
 unfold Lib.trimSuffix
 split<;>simp
theorem y8_size (s:ByteArray):(y8 s).size≤s.size:=by
 have e:(y8 s).size=(Lib.trimSuffix (Lib.trimPrefix s.data.toList v8U) [42]).length:=rfl
 rw [e,←B_len s]
 refine Nat.le_trans (trim_len _) ?_
 unfold B
 rw [List.length_map];exact Nat.le_refl _
theorem y8_of {s:ByteArray} {x:List Nat} (h:B s=ver8L++(x++[42])):B (y8 s)=x:=by
 have hx:∀c ∈ x,c < 256:=fun c hc=>B_lt s c (by rw [h];simp [hc])
 have e:s.data.toList=v8U++(x.map UInt8.ofNat++[42]):=by
  rw [←map_inj8]
  show B s=_
  rw [h,List.map_append,List.map_append,List.map_map]
  congr 2
  ·refine (List.map_id x).symm.trans (List.map_congr_left fun c hc=>?_)
   have:=hx c hc
   show c=(UInt8.ofNat c).toNat
   rw [UInt8.toNat_ofNat']
   omega
 show (Lib.trimSuffix (Lib.trimPrefix s.data.toList v8U) [42]).map UInt8.toNat=x
 rw [e,trim_both,List.map_map]
 refine (List.map_congr_left fun c hc=>?_).trans (List.map_id x)
 have:=hx c hc
 show (UInt8.ofNat c).toNat=c
 rw [UInt8.toNat_ofNat']
 omega
theorem atoi_all8:((List.range 2001).all fun k:Nat=>decide (atoiV (mk (decI ((k:Int) - 1000)))=(k:Int) - 1000))=true:=by kernel_rfl
theorem atoi_dec {n:Int} (h1:-1000≤n) (h2:n≤1000):atoiV (mk (decI n))=n:=by
 have:=of_decide_eq_true (List.all_eq_true.1 atoi_all8 (n+1000).toNat (List.mem_range.2 (by omega)))
 rwa [show (((n+1000).toNat:Nat):Int) - 1000=n by omega] at this
theorem rdX_is {nm s num:ByteArray}:(rgtN ⟨nm,y8 s,atoiV num⟩=true∧s=mk (ver8L++(B (y8 s)++[42]))∧num=mk (decI (atoiV num))→rdX true true true nm s num=(0,⟨nm,y8 s,atoiV num⟩))
  ∧(¬(rgtN ⟨nm,y8 s,atoiV num⟩=true∧s=mk (ver8L++(B (y8 s)++[42]))∧num=mk (decI (atoiV num)))→rdX true true true nm s num=(5,nil8)):=by
 constructor
 ·rintro ⟨h1,h2,h3⟩
  obtain ⟨_,_,_,p1,p2⟩:=rgtN_parts h1
  have e2:B s=ver8L++(B (y8 s)++[42]):=(congrArg B h2).trans (B_mk (pin_lt ⟨nm,y8 s,atoiV num⟩))
  have e3:B num=decI (atoiV num):=(congrArg B h3).trans (B_mk (decI_lt _))
  exact rdX_ok (by rw [e3];exact pri_dec p1 p2) (by rw [e2];exact pref_of _) h1
 ·intro h
  cases hp:priI (B num) with
  | none=>exact rdX_num hp
  | some n=>
   cases hq:prefB (B s) with
   | none=>exact rdX_pre hq
   | some x=>
    obtain ⟨d1,d2,d3⟩:=pri_some hp
    have e2:=pref_some hq
    have e1:B (y8 s)=x:=y8_of e2
    have e3:atoiV num=n:=by
     have:num=mk (decI n):=by rw [d1,mk_B]
     rw [this];exact atoi_dec d2 d3
    have hb:rgtN ⟨nm,y8 s,n⟩=false:=by
     cases hr:rgtN ⟨nm,y8 s,n⟩ with
     | false=>rfl
     | true=>
      exact absurd ⟨by rw [e3];exact hr,by rw [e1];exact eq_mk e2,by rw [e3,d1,mk_B]⟩ h
    exact rdX_bad hp (by rw [hq,e1]) hb
def rpreB (s:ByteArray):Bool:=decide (s.size≤60)&&(B s).all visB
theorem rpre_any (s:ByteArray) (w:World):Calls Tryz.prog 31 #[.string s] w fun e w'=>e=.returned (.bool (rpreB s))∧Below w.heap.size w w':=by
 by_cases h60:(60:Int) < (s.size:Int)
 ·have X:=Lib.hid (show rpreB s=false by unfold rpreB;rw [decide_eq_false (by omega),Bool.false_and])
  go_enter Tryz.func31,Tryz.ntmps31
  go_wp2
  go_ret
  exact ⟨by rw [X.out];try rfl,Below.refl _ _⟩
 ·have X:=Lib.hid (show rpreB s=(B s).all visB by unfold rpreB;rw [decide_eq_true (show s.size≤60 by omega),Bool.true_and])
  obtain ⟨cap,w1,hcv,hb,hcells⟩:=bytes_cells w s
  have HB:=Lib.hid hb
  have HC:=Lib.hid hcells
  have hlen:s.size≤60:=by omega
  clear hb hcells
  go_enter Tryz.func31,Tryz.ntmps31
  go_wp2
  clear hcv
  go_loop [11] (fun x=>∃k:Nat,k≤s.size∧x=.int .i64 k∧∀j,j < k→visB ((B s).getD j 0)=true) (fun x=>s.size - (intOf x).toNat)
  case atStart=>exact ⟨0,Nat.zero_le _,rfl,fun j hj=>absurd hj (Nat.not_lt_zero _)⟩
  case round=>
   obtain ⟨k,hk,rfl,hno⟩:=hrel
   have HN:=Lib.hid hno
   clear hno
   by_cases hlt:k < s.size
   ·have hcell:=HC.out k hlt
    have HD:=Lib.hid (B_getD s k hlt)
    have AN:=Lib.hid (byt_no (p:=visB) hlt)
    generalize s[k].toNat=c at *
    by_cases q1:(c:Int)≤32
    ·have Y:=Lib.hid (AN.out (vis_low (by omega)))
     go_wp2
     go_ret
     exact ⟨by rw [X.out,Y.out];try rfl,HB.out⟩
    by_cases q2:(127:Int)≤(c:Int)
    ·have Y:=Lib.hid (AN.out (vis_high (by omega)))
     go_wp2
     go_ret
     exact ⟨by rw [X.out,Y.out];try rfl,HB.out⟩
    by_cases q3:c=42
    ·have Y:=Lib.hid (AN.out (vis_star q3))
     have t3:((c:Int)==42)=true:=by rw [beq_iff_eq];omega
     clear q3
     go_wp2
     go_ret
     exact ⟨by rw [X.out,Y.out];try rfl,HB.out⟩
    ·have Y:=Lib.hid (show visB ((B s).getD k 0)=true by rw [HD.out];exact vis_ok (by omega) (by omega) q3)
     have t3:((c:Int)==42)=false:=by rw [beq_eq_false_iff_ne];omega
     clear q3
     go_wp2
     go_round
     case rel=>exact ⟨k+1,by omega,by go_num,fun j hj=>by rcases (by omega:j < k∨j=k) with h|rfl;exact HN.out j h;exact Y.out⟩
     case measure=>simp [intOf];omega
   ·have Y:=Lib.hid (byt_yes (p:=visB) (s:=s) (fun j hj=>HN.out j (by omega)))
    go_wp2
    go_ret
    exact ⟨by rw [X.out,Y.out];try rfl,HB.out⟩
set_option maxHeartbeats 2000000 in
theorem pright_any (x:Pn) (w:World):Calls Tryz.prog 14 #[x.val] w fun e w'=>e=.returned (.bool (rgtN x))∧Below w.heap.size w w':=by
 obtain ⟨n,v,p⟩:=x
 have B0:=Lib.hid (bel_box w (.cells #[.string n,.string v,.int .i64 p] 30))
 have KN:=Lib.hid (fun W=>rname_any n W)
 have KP:=Lib.hid (fun W=>rpre_any v W)
 have HX:=Lib.hid (show rgtN ⟨n,v,p⟩=((nameB (B n)||decide (n=star8))&&(rpreB v&&(decide (-1000≤p)&&decide (p≤1000)))) from by unfold rgtN rpreB;simp only [Bool.and_assoc])
 have hst:=star_eq n
 generalize rgtN ⟨n,v,p⟩=R at *
 by_cases hs:n=star8
 ·rw [decide_eq_true hs] at hst
  have HY:=Lib.hid (show R=(rpreB v&&(decide (-1000≤p)&&decide (p≤1000))) by rw [HX.out,decide_eq_true hs,Bool.or_true,Bool.true_and])
  clear hs HX
  cases hq:rpreB v
  ·have X:=Lib.hid (show R=false by rw [HY.out,hq,Bool.false_and])
   rw [hq] at KP
   clear hq
   go_enter Tryz.func14,Tryz.ntmps14
   go_wp2_with fail
   refine (KP.out _).mono ?_
   rintro e w5 ⟨rfl,hb⟩
   have B5:=Lib.hid (bel_boxed hb)
   obtain ⟨c0,c1,c2,-⟩:=box_cells hb
   clear hb
   go_wp2
   go_ret
   exact ⟨by rw [X.out];try rfl,B5.out⟩
  ·rw [hq] at KP HY
   clear hq
   by_cases p1:-1000≤p
   ·have X:=Lib.hid (show R=decide (p≤1000) by rw [HY.out,decide_eq_true p1];rfl)
    go_enter Tryz.func14,Tryz.ntmps14
    go_wp2_with fail
    refine (KP.out _).mono ?_
    rintro e w5 ⟨rfl,hb⟩
    have B5:=Lib.hid (bel_boxed hb)
    obtain ⟨c0,c1,c2,-⟩:=box_cells hb
    clear hb
    go_wp2
    go_ret
    exact ⟨by rw [X.out];try rfl,B5.out⟩
   ·have X:=Lib.hid (show R=false by rw [HY.out,decide_eq_false p1];rfl)
    go_enter Tryz.func14,Tryz.ntmps14
    go_wp2_with fail
    refine (KP.out _).mono ?_
    rintro e w5 ⟨rfl,hb⟩
    have B5:=Lib.hid (bel_boxed hb)
    obtain ⟨c0,c1,c2,-⟩:=box_cells hb
    clear hb
    go_wp2
    go_ret
    exact ⟨by rw [X.out];try rfl,B5.out⟩
 rw [decide_eq_false hs] at hst
 cases hn:nameB (B n)
 ·have X:=Lib.hid (show R=false by rw [HX.out,decide_eq_false hs,hn];rfl)
  rw [hn] at KN
  clear hs hn HX
  go_enter Tryz.func14,Tryz.ntmps14
  go_wp2_with fail
  refine (KN.out _).mono ?_
  rintro e w4 ⟨rfl,hb⟩
  have B1:=Lib.hid (bel_boxed hb)
  obtain ⟨c0,c1,c2,-⟩:=box_cells hb
  clear hb
  go_wp2
  go_ret
  exact ⟨by rw [X.out];try rfl,B1.out⟩
 ·have HY:=Lib.hid (show R=(rpreB v&&(decide (-1000≤p)&&decide (p≤1000))) by rw [HX.out,hn,Bool.true_or,Bool.true_and])
  rw [hn] at KN
  clear hs hn HX
  go_enter Tryz.func14,Tryz.ntmps14
  go_wp2_with fail
  refine (KN.out _).mono ?_
  rintro e w4 ⟨rfl,hb⟩
  have B1:=Lib.hid (bel_boxed hb)
  obtain ⟨c0,c1,c2,-⟩:=box_cells hb
  clear hb
  cases hq:rpreB v
  ·have X:=Lib.hid (show R=false by rw [HY.out,hq,Bool.false_and])
   rw [hq] at KP
   clear hq
   go_wp2_with fail
   refine (KP.out _).mono ?_
   rintro e w5 ⟨rfl,hb⟩
   have B5:=Lib.hid (bel_2 B1.out hb)
   replace c0:=keep_cell hb c0
   replace c1:=keep_cell hb c1
   replace c2:=keep_cell hb c2
   clear hb
   go_wp2
   go_ret
   exact ⟨by rw [X.out];try rfl,B5.out⟩
  ·rw [hq] at KP HY
   clear hq
   by_cases p1:-1000≤p
   ·have X:=Lib.hid (show R=decide (p≤1000) by rw [HY.out,decide_eq_true p1];rfl)
    go_wp2_with fail
    refine (KP.out _).mono ?_
    rintro e w5 ⟨rfl,hb⟩
    have B5:=Lib.hid (bel_2 B1.out hb)
    replace c0:=keep_cell hb c0
    replace c1:=keep_cell hb c1
    replace c2:=keep_cell hb c2
    clear hb
    go_wp2
    go_ret
    exact ⟨by rw [X.out];try rfl,B5.out⟩
   ·have X:=Lib.hid (show R=false by rw [HY.out,decide_eq_false p1];rfl)
    go_wp2_with fail
    refine (KP.out _).mono ?_
    rintro e w5 ⟨rfl,hb⟩
    have B5:=Lib.hid (bel_2 B1.out hb)
    replace c0:=keep_cell hb c0
    replace c1:=keep_cell hb c1
    replace c2:=keep_cell hb c2
    clear hb
    go_wp2
    go_ret
    exact ⟨by rw [X.out];try rfl,B5.out⟩
theorem ver_star (s:ByteArray):(({ data:=#[118,101,114,115,105,111,110,32] }:ByteArray)++s)++{ data:=#[42] }=mk (ver8L++(B s++[42])):=by
 refine eq_mk ?_
 rw [B_append,B_append,List.append_assoc];rfl
theorem dd_dec (m:Nat):(Lib.decDigits m).map UInt8.toNat=decL m:=by
 unfold decL
 rw [decF_dd m (m+1) [] (by omega),List.append_nil]
theorem itoa_dec (p:Int):(⟨(Lib.itoa p).toArray⟩:ByteArray)=mk (decI p):=by
 refine eq_mk ?_
 show (Lib.itoa p).map UInt8.toNat=decI p
 unfold Lib.itoa decI
 by_cases h:p < 0
 ·rw [if_pos h,if_pos h,List.map_cons,dd_dec,show p.natAbs=(-p).toNat by omega];rfl
 ·rw [if_neg h,if_neg h,dd_dec]
theorem itoaI_any (p:Int) (w:World) (h0:-1000≤p) (h1:p≤1000) (E:Env w):Calls Tryz.prog 70 #[.int .i64 p] w fun e w'=>e=.returned (.string (mk (decI p)))∧Below w.heap.size w w':=by
 refine (Tryz.strconv_Itoa p (by omega) (by omega) w E.pow).mono ?_
 rintro e w' ⟨rfl,k,os,rfl⟩
 exact ⟨by rw [itoa_dec],Lib.below_grow _ _ (Nat.le_refl _) _ _⟩
theorem vtxt_any (x:Pn) (w:World) (hx:x.x.size≤65536):Calls Tryz.prog 46 #[x.val] w fun e w'=>e=.returned (.string (mk (ver8L++(B x.x++[42]))))∧Below w.heap.size w w':=by
 obtain ⟨n,v,p⟩:=x
 simp only at hx
 have B1:=Lib.hid (bel_box w (.cells #[.string n,.string v,.int .i64 p] 30))
 obtain ⟨y1,a1,q1,z1⟩:=add_out { data:=#[118,101,114,115,105,111,110,32] } v 8 65536 (by decide) hx
 obtain ⟨y2,a2,q2,z2⟩:=add_out y1 { data:=#[42] } 65544 1 z1 (by decide)
 have HY:=Lib.hid (show y2=mk (ver8L++(B v++[42])) by rw [q2,q1];exact ver_star v)
 clear q1 q2
 go_enter Tryz.func46,Tryz.ntmps46
 go_wp2
 go_ret
 exact ⟨by rw [←HY.out];try rfl,B1.out⟩
theorem ptxt_any (x:Pn) (w:World) (h0:-1000≤x.p) (h1:x.p≤1000) (E:Env w):Calls Tryz.prog 47 #[x.val] w fun e w'=>e=.returned (.string (mk (decI x.p)))∧Below w.heap.size w w':=by
 obtain ⟨n,v,p⟩:=x
 simp only at h0 h1
 have K:=Lib.hid (itoaI_any p (w.alloc (.cells #[.string n,.string v,.int .i64 p] 30)) h0 h1 (E.alloc _))
 clear E h0 h1
 go_enter Tryz.func47,Tryz.ntmps47
 go_wp2_with fail
 refine K.out.mono ?_
 rintro e w2 ⟨rfl,hb⟩
 have B2:=Lib.hid (bel_boxed hb)
 clear hb
 go_wp2
 go_ret
 exact ⟨rfl,B2.out⟩
end Go.Proofs.YtbljkpbaceiaiaaGreatDoor
