/- What the laws rest on: E8q, E8d, E8e. -/
import Derived.Test.YtbljkpbaceiaiaaGreatDoorQAHZA
import Derived.Test.YtbljkpbaceiaiaaGreatDoorQASZA
set_option maxRecDepth 100000
set_option linter.unusedVariables false
set_option linter.unusedSimpArgs false
namespace Go.Proofs.YtbljkpbaceiaiaaGreatDoor
open Go.RowKit
theorem pfx8_size {x v:ByteArray} (h:pfx8 x v=true):x.size≤v.size:=by
 have:=congrArg List.length (of_decide_eq_true h)
 rw [List.length_take,B_len,B_len] at this
 omega
theorem pfx_long {x v:ByteArray} (h:¬x.size≤v.size):pfx8 x v=false:=by
 cases q:pfx8 x v with
 | false=>rfl
 | true=>exact absurd (pfx8_size q) h
theorem pfx_ext {x v:ByteArray} (h:x.size≤v.size):((v.extract 0 x.size).toList==x.toList)=pfx8 x v:=by
 rw [str_eq]
 unfold pfx8
 rw [Bool.eq_iff_iff,decide_eq_true_iff,decide_eq_true_iff]
 have e:B (v.extract 0 x.size)=(B v).take (B x).length:=by rw [B_extract,B_len,List.drop_zero,Nat.sub_zero]
 rw [←e]
 refine ⟨fun h=>by rw [h],fun h=>?_⟩
 have h2:=congrArg mk h
 rwa [mk_B,mk_B] at h2
set_option maxHeartbeats 2000000 in
theorem q8match_any (x:Pn) (nm v:ByteArray) (w:World) (hv:v.size≤maxLen) (hx:x.x.size≤maxLen):Calls Tryz.prog 21 #[x.val,.string nm,.string v] w fun e w'=>e=.returned (.bool (matN x nm v))∧Below w.heap.size w w':=by
 obtain ⟨n,y,p⟩:=x
 simp only at hx
 unfold maxLen at hv hx
 have B1:=Lib.hid (show Below w.heap.size w (w.alloc (.cells #[.string n,.string y,.int .i64 p] 30)) from (Below.refl _ w).alloc (Nat.le_refl _) _)
 have hst:=star_eq n
 have hnm:=str_eq n nm
 have NO:=Lib.hid (mat_no (x:=⟨n,y,p⟩) (nm:=nm) (v:=v))
 have YES:=Lib.hid (mat_yes (x:=⟨n,y,p⟩) (nm:=nm) (v:=v))
 have PL:=Lib.hid (pfx_long (x:=y) (v:=v))
 have PE:=Lib.hid (pfx_ext (x:=y) (v:=v))
 generalize matN ⟨n,y,p⟩ nm v=R at *
 by_cases h1:n=nm
 ·have X:=Lib.hid (YES.out (.inl h1))
  rw [decide_eq_true h1] at hnm
  clear h1 hst
  simp only at X
  by_cases hl:(y.size:Int)≤(v.size:Int)
  ·have pe:=PE.out (by omega)
   have j0:y.size≤v.size:=by omega
   generalize pfx8 y v=q at *
   go_enter Tryz.func21,Tryz.ntmps21
   go_wp2
   go_quiet (fail)
   go_wp2
   go_ret
   exact ⟨by rw [X.out];try rfl,belD B1.out _⟩
  ·have X2:=Lib.hid (PL.out (by omega))
   have j0:¬y.size≤v.size:=by omega
   have j1:decide ((y.size:Int)≤(v.size:Int))=false:=decide_eq_false hl
   go_enter Tryz.func21,Tryz.ntmps21
   go_wp2
   go_quiet (fail)
   go_wp2
   go_ret
   exact ⟨by rw [X.out,X2.out];try rfl,belD B1.out _⟩
 rw [decide_eq_false h1] at hnm
 by_cases h2:n=star8
 ·have X:=Lib.hid (YES.out (.inr h2))
  rw [decide_eq_true h2] at hst
  clear h1 h2
  simp only at X
  by_cases hl:(y.size:Int)≤(v.size:Int)
  ·have pe:=PE.out (by omega)
   have j0:y.size≤v.size:=by omega
   generalize pfx8 y v=q at *
   go_enter Tryz.func21,Tryz.ntmps21
   go_wp2
   go_quiet (fail)
   go_wp2
   go_ret
   exact ⟨by rw [X.out];try rfl,belD B1.out _⟩
  ·have X2:=Lib.hid (PL.out (by omega))
   have j0:¬y.size≤v.size:=by omega
   have j1:decide ((y.size:Int)≤(v.size:Int))=false:=decide_eq_false hl
   go_enter Tryz.func21,Tryz.ntmps21
   go_wp2
   go_quiet (fail)
   go_wp2
   go_ret
   exact ⟨by rw [X.out,X2.out];try rfl,belD B1.out _⟩
 ·have X:=Lib.hid (NO.out h1 h2)
  rw [decide_eq_false h2] at hst
  clear h1 h2
  go_enter Tryz.func21,Tryz.ntmps21
  go_wp2
  go_quiet (fail)
  go_wp2
  go_ret
  exact ⟨by rw [X.out];try rfl,belD B1.out _⟩
theorem find_not {α:Type} {p:α→Bool} {l:List α} (h:∀j (hj:j < l.length),p l[j]=false):l.find? p=none:=by
 rw [List.find?_eq_none]
 intro x hx
 obtain ⟨j,hj,rfl⟩:=List.getElem_of_mem hx
 rw [h j hj];decide
theorem find_here {α:Type} {p:α→Bool} {l:List α} {k:Nat} (hk:k < l.length) (h:∀j (hj:j < l.length),j < k→p l[j]=false) (hp:p l[k]=true):l.find? p=some l[k]:=by
 rw [List.find?_eq_some_iff_getElem]
 exact ⟨hp,k,hk,rfl,fun j hj=>by rw [h j (by omega) hj];rfl⟩
theorem prio_own {l:List Pn} {nm v:ByteArray} {k:Nat} (hk:k < l.length) (h:∀j (hj:j < l.length),j < k→hitN l[j] nm v=false) (hp:hitN l[k] nm v=true):prioN l nm v=l[k].p:=by
 unfold prioN
 rw [find_here (p:=fun x=>hitN x nm v) hk h hp]
theorem prio_star {l:List Pn} {nm v:ByteArray} {k:Nat} (h0:∀j (hj:j < l.length),hitN l[j] nm v=false) (hk:k < l.length) (h:∀j (hj:j < l.length),j < k→hitN l[j] star8 v=false) (hp:hitN l[k] star8 v=true):prioN l nm v=l[k].p:=by
 unfold prioN
 rw [find_not (p:=fun x=>hitN x nm v) h0]
 simp only
 rw [find_here (p:=fun x=>hitN x star8 v) hk h hp]
theorem prio_none {l:List Pn} {nm v:ByteArray} (h0:∀j (hj:j < l.length),hitN l[j] nm v=false) (h1:∀j (hj:j < l.length),hitN l[j] star8 v=false):prioN l nm v=500:=by
 unfold prioN
 rw [find_not (p:=fun x=>hitN x nm v) h0]
 simp only
 rw [find_not (p:=fun x=>hitN x star8 v) h1]
set_option maxHeartbeats 4000000 in
theorem q8prio_any (A:Option Addr) (n c:Nat) (l:List Pn) (nm v:ByteArray) (w:World) (h:rdPns w (lt_ w.heap.size) l [.slice A n c]) (hv:v.size≤maxLen) (hx:∀x ∈ l,x.x.size≤maxLen) :
  Calls Tryz.prog 23 #[.slice A n c,.string nm,.string v] w fun e w'=>e=.returned (.int .i64 (prioN l nm v))∧Below w.heap.size w w':=by
 obtain ⟨rfl,hnc,hcm,-⟩:=rdPns_at h
 have hcm':c≤9223372036854775807:=hcm
 have H:=Lib.hid h
 have KM:=Lib.hid (fun k (hk:k < l.length) W=>q8match_any l[k] nm v W hv (hx _ (List.getElem_mem hk)))
 have R1:=Lib.hid (fun k hk h hp=>prio_own (l:=l) (nm:=nm) (v:=v) (k:=k) hk h hp)
 have R2:=Lib.hid (fun k h0 hk h hp=>prio_star (l:=l) (nm:=nm) (v:=v) (k:=k) h0 hk h hp)
 have R3:=Lib.hid (fun h0 h1=>prio_none (l:=l) (nm:=nm) (v:=v) h0 h1)
 clear h hcm hv hx
 generalize prioN l nm v=R at *
 go_enter Tryz.func23,Tryz.ntmps23
 go_wp2
 go_loopw [7] (fun i wr=>∃k:Nat,k≤l.length∧i=.int .i64 k∧(∀j (hj:j < l.length),j < k→hitN l[j] nm v=false)∧Below w.heap.size w wr) (fun i _=>l.length - (intOf i).toNat)
 case atStart=>exact ⟨0,Nat.zero_le _,rfl,fun j _ hj=>absurd hj (Nat.not_lt_zero _),Below.refl _ _⟩
 case round=>
  obtain ⟨k,hk,rfl,hno,hbel⟩:=hrel
  have HN:=Lib.hid hno
  have HB:=Lib.hid hbel
  clear hno
  by_cases hlt:k < l.length
  ·obtain ⟨_,_,_,ha⟩:=rdPns_at (rdPns_good.up (rdPns_good.below H.out hbel) hbel.size)
   obtain ⟨ad,rfl,had,c0,c1,c2⟩:=ha k hlt
   have K:=Lib.hid (KM.out k hlt wr)
   have HM:=Lib.hid (hit_mat (x:=l[k]) (nm:=nm) (v:=v))
   have F1:=Lib.hid (R1.out k hlt HN.out)
   have NX:=Lib.hid (fun hp:hitN l[k] nm v=false=>show ∀j (hj:j < l.length),j < k+1→hitN l[j] nm v=false from fun j hj hjk=>by
    by_cases q:j=k
    ·subst q;exact hp
    ·exact HN.out j hj (by omega))
   have hq:=str_eq l[k].n nm
   have i0:(0:Int)≤(k:Int):=by omega
   have i1:(k:Int) < (l.length:Int):=by omega
   clear ha hbel had
   generalize l[k]=y at *
   obtain ⟨yn,yx,yp⟩:=y
   simp only [Pn.val] at c0 c1 c2 hq K HM F1
   by_cases he:yn=nm
   ·rw [decide_eq_true he] at hq
    cases hm:matN ⟨yn,yx,yp⟩ nm v
    ·have Z:=Lib.hid (NX.out (by rw [←HM.out,hm,Bool.and_false]))
     rw [hm] at K
     clear he hm
     go_wp2_with fail
     refine K.out.mono ?_
     rintro e w2 ⟨rfl,hb⟩
     have HB2:=Lib.hid (HB.out.trans (hb.mono HB.out.size))
     clear hb
     go_wp2
     go_roundw
     case rel=>exact ⟨k+1,by omega,by go_num,Z.out,HB2.out⟩
     case measure=>simp [intOf];omega
    ·have Z:=Lib.hid (F1.out (by rw [←HM.out,hm,decide_eq_true he];rfl))
     rw [hm] at K
     clear he hm
     go_wp2_with fail
     refine K.out.mono ?_
     rintro e w2 ⟨rfl,hb⟩
     have HB2:=Lib.hid (HB.out.trans (hb.mono HB.out.size))
     have d2:=keep6 hb c2
     clear hb c0 c1 c2
     go_wp2
     go_ret
     exact ⟨by rw [Z.out];try rfl,HB2.out⟩
   ·have Z:=Lib.hid (NX.out (by rw [←HM.out,decide_eq_false he,Bool.false_and]))
    rw [decide_eq_false he] at hq
    clear he
    go_wp2
    go_roundw
    case rel=>exact ⟨k+1,by omega,by go_num,Z.out,HB.out⟩
    case measure=>simp [intOf];omega
  ·have HA:=Lib.hid (show ∀j (hj:j < l.length),hitN l[j] nm v=false from fun j hj=>HN.out j hj (by omega))
   obtain ⟨wo,rfl⟩:∃wo:World,wo=wr:=⟨_,rfl⟩
   clear hbel
   go_wp2
   go_loopw [8] (fun i wr=>∃k:Nat,k≤l.length∧i=.int .i64 k∧(∀j (hj:j < l.length),j < k→hitN l[j] star8 v=false)∧Below w.heap.size w wr) (fun i _=>l.length - (intOf i).toNat)
   case atStart=>exact ⟨0,Nat.zero_le _,rfl,fun j _ hj=>absurd hj (Nat.not_lt_zero _),HB.out⟩
   case round=>
    obtain ⟨k,hk,rfl,hno,hbel⟩:=hrel
    have HN:=Lib.hid hno
    have HB:=Lib.hid hbel
    clear hno
    by_cases hlt:k < l.length
    ·obtain ⟨_,_,_,ha⟩:=rdPns_at (rdPns_good.up (rdPns_good.below H.out hbel) hbel.size)
     obtain ⟨ad,rfl,had,c0,c1,c2⟩:=ha k hlt
     have K:=Lib.hid (KM.out k hlt wr)
     have HM:=Lib.hid (hit_star (x:=l[k]) (nm:=nm) (v:=v))
     have F1:=Lib.hid (R2.out k HA.out hlt HN.out)
     have NX:=Lib.hid (fun hp:hitN l[k] star8 v=false=>show ∀j (hj:j < l.length),j < k+1→hitN l[j] star8 v=false from fun j hj hjk=>by
      by_cases q:j=k
      ·subst q;exact hp
      ·exact HN.out j hj (by omega))
     have hq:=star_eq l[k].n
     have i0:(0:Int)≤(k:Int):=by omega
     have i1:(k:Int) < (l.length:Int):=by omega
     clear ha hbel had
     generalize l[k]=y at *
     obtain ⟨yn,yx,yp⟩:=y
     simp only [Pn.val] at c0 c1 c2 hq K HM F1
     by_cases he:yn=star8
     ·rw [decide_eq_true he] at hq
      cases hm:matN ⟨yn,yx,yp⟩ nm v
      ·have Z:=Lib.hid (NX.out (by rw [←HM.out,hm,Bool.and_false]))
       rw [hm] at K
       clear he hm
       go_wp2_with fail
       refine K.out.mono ?_
       rintro e w2 ⟨rfl,hb⟩
       have HB2:=Lib.hid (HB.out.trans (hb.mono HB.out.size))
       clear hb
       go_wp2
       go_roundw
       case rel=>exact ⟨k+1,by omega,by go_num,Z.out,HB2.out⟩
       case measure=>simp [intOf];omega
      ·have Z:=Lib.hid (F1.out (by rw [←HM.out,hm,decide_eq_true he];rfl))
       rw [hm] at K
       clear he hm
       go_wp2_with fail
       refine K.out.mono ?_
       rintro e w2 ⟨rfl,hb⟩
       have HB2:=Lib.hid (HB.out.trans (hb.mono HB.out.size))
       have d2:=keep6 hb c2
       clear hb c0 c1 c2
       go_wp2
       go_ret
       exact ⟨by rw [Z.out];try rfl,HB2.out⟩
     ·have Z:=Lib.hid (NX.out (by rw [←HM.out,decide_eq_false he,Bool.false_and]))
      rw [decide_eq_false he] at hq
      clear he
      go_wp2
      go_roundw
      case rel=>exact ⟨k+1,by omega,by go_num,Z.out,HB.out⟩
      case measure=>simp [intOf];omega
    ·have X:=Lib.hid (R3.out HA.out (fun j hj=>HN.out j hj (by omega)))
     go_wp2
     go_ret
     exact ⟨by rw [X.out];try rfl,HB.out⟩
set_option maxHeartbeats 4000000 in
theorem q8loss_any (A:Option Addr) (n c:Nat) (l:List Pn) (nm:ByteArray) (A':Option Addr) (n' c':Nat) (all:List ByteArray) (v:ByteArray) (w:World) (h:rdPns w (lt_ w.heap.size) l [.slice A n c]) (h':rdBas w (lt_ w.heap.size) all [.slice A' n' c'])
  (hv:v.size≤maxLen) (ha:∀s ∈ all,s.size≤maxLen) (hx:∀x ∈ l,x.x.size≤maxLen) (hB:Bd8 l) :
  Calls Tryz.prog 25 #[.slice A n c,.string nm,.slice A' n' c',.string v] w fun e w'=>e=.returned (.int .i64 (lossN l nm all v))∧Below w.heap.size w w':=by
 obtain ⟨rfl,hnc,hcm,-⟩:=rdBas_at h'
 have hcm':c'≤9223372036854775807:=hcm
 have H:=Lib.hid h
 have H':=Lib.hid h'
 have KP:=Lib.hid (fun u (hu:u.size≤maxLen) W hW=>q8prio_any A n c l nm u W hW hu hx)
 have BD:=Lib.hid (fun u=>prio_in (b:=1099511627776) (by decide) hB nm u)
 have HA:=Lib.hid ha
 have K0:=Lib.hid (KP.out v hv w h)
 have X:=Lib.hid (show lossN l nm all v=maxF (prioN l nm) (prioN l nm v) (all.take all.length) - prioN l nm v by rw [List.take_length];rfl)
 have MB:=Lib.hid (fun k=>maxF_in (f:=prioN l nm) (b:=prioN l nm v) (c:=1099511627776) (all:=all.take k) (BD.out v) BD.out)
 have MS:=Lib.hid (fun k hk=>maxF_step (prioN l nm) (prioN l nm v) all (k:=k) hk)
 have M0:=Lib.hid (show prioN l nm v=maxF (prioN l nm) (prioN l nm v) (all.take 0) from rfl)
 obtain ⟨o1,o2⟩:=BD.out v
 clear h h' hcm hv ha hx hB
 generalize lossN l nm all v=R at *
 generalize prioN l nm v=own at *
 generalize prioN l nm=f at *
 go_enter Tryz.func25,Tryz.ntmps25
 go_wp2_with fail
 refine K0.out.mono ?_
 rintro e w1 ⟨rfl,hb⟩
 have B1:=Lib.hid hb
 clear hb K0
 go_wp2
 go_loopw [10,11] (fun b i wr=>∃k:Nat,k≤all.length∧i=.int .i64 k∧b=.int .i64 (maxF f own (all.take k))∧Below w.heap.size w wr) (fun _ i _=>all.length - (intOf i).toNat)
 case atStart=>exact ⟨0,Nat.zero_le _,rfl,by rw [←M0.out],B1.out⟩
 case round=>
  obtain ⟨k,hk,rfl,rfl,hbel⟩:=hrel
  have HB:=Lib.hid hbel
  obtain ⟨m1,m2⟩:=MB.out k
  by_cases hlt:k < all.length
  ·obtain ⟨_,_,_,hat⟩:=rdBas_at (rdBas_good.up (rdBas_good.below H'.out hbel) hbel.size)
   obtain ⟨ad,rfl,had,c0⟩:=hat k hlt
   have K:=Lib.hid (KP.out all[k] (HA.out _ (List.getElem_mem hlt)) wr (rdPns_good.up (rdPns_good.below H.out hbel) hbel.size))
   have SX:=Lib.hid (MS.out k hlt)
   obtain ⟨f1,f2⟩:=BD.out all[k]
   have i0:(0:Int)≤(k:Int):=by omega
   have i1:(k:Int) < (all.length:Int):=by omega
   clear hat hbel had
   generalize all[k]=u at *
   generalize f u=y at *
   generalize maxF f own (all.take k)=b at *
   go_wp2_with fail
   refine K.out.mono ?_
   rintro e w2 ⟨rfl,hb⟩
   have HB2:=Lib.hid (HB.out.trans (hb.mono HB.out.size))
   clear hb c0
   go_wp2
   go_roundw
   case rel=>exact ⟨k+1,by omega,by go_num,by rw [SX.out];try rfl,HB2.out⟩
   case measure=>simp [intOf];omega
  ·obtain rfl:k=all.length:=by omega
   clear hbel
   generalize maxF f own (all.take all.length)=b at *
   go_wp2
   go_ret
   exact ⟨by rw [X.out];try rfl,HB.out⟩
end Go.Proofs.YtbljkpbaceiaiaaGreatDoor
