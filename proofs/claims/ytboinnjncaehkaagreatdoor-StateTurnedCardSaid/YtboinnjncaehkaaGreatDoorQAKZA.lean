/- What the laws rest on: E6b, E7a, E6c, E7e, RelP, DepP, DepP2, E6f, E6g, E6h, StzT, S5c, E6k, E7c, E7l, E7s, Shelf, Rel4, Rel5, D4d, D4m. -/
import Derived.Test.YtboinnjncaehkaaGreatDoorQBJZA
set_option maxRecDepth 100000
set_option linter.unusedVariables false
set_option linter.unusedSimpArgs false
namespace Go.Proofs.YtboinnjncaehkaaGreatDoor
open Go.RowKit
def Lt (l:List Atm):Prop:=l.length≤20∧∀a ∈ l,a.n.size≤100∧a.v.size≤100
def LtR (P:Prop) (e:Ending):Prop:=∃b:Bool,e=.returned (.bool b)∧(b=true→P)
theorem ltR_no (P:Prop):LtR P (.returned (.bool false)):=⟨false,rfl,fun h=>by cases h⟩
theorem ltR_yes {P:Prop} (h:P):LtR P (.returned (.bool true)):=⟨true,rfl,fun _=>h⟩
set_option maxHeartbeats 4000000 in
theorem light7_any (A:Option Addr) (n c:Nat) (l:List Atm) (w:World) (h:rdAtms w (lt_ w.heap.size) l [.slice A n c]) :
  Calls Tryz.prog 40 #[.slice A n c] w fun e w'=>LtR (Lt l) e∧w=w':=by
 obtain ⟨rfl,hnc,hcm,hat⟩:=rdAtms_at h
 have hcm':c≤9223372036854775807:=hcm
 have HAT:=Lib.hid hat
 clear h hat hcm
 by_cases g0:(20:Int) < (l.length:Int)
 ·go_enter Tryz.func40,Tryz.ntmps40
  go_wp2
  go_ret
  exact ⟨ltR_no _,rfl⟩
 have HL:=Lib.hid (show l.length≤20 by omega)
 go_enter Tryz.func40,Tryz.ntmps40
 go_wp2
 go_loop [3] (fun i=>∃k:Nat,k≤l.length∧i=.int .i64 k∧(∀j (hj:j < l.length),j < k→l[j].n.size≤100∧l[j].v.size≤100)) (fun i=>l.length - (intOf i).toNat)
 case atStart=>exact ⟨0,Nat.zero_le _,rfl,fun j _ hj=>absurd hj (Nat.not_lt_zero _)⟩
 case round=>
  obtain ⟨k,hk,rfl,hall⟩:=hrel
  have HA:=Lib.hid hall
  clear hall
  by_cases hlt:k < l.length
  ·obtain ⟨ad,rfl,had,h0,h1,h2⟩:=HAT.out k hlt
   have i0:(0:Int)≤(k:Int):=by omega
   have i1:(k:Int) < (l.length:Int):=by omega
   clear had h1
   by_cases g1:(100:Int) < (l[k].n.size:Int)
   ·go_wp2
    go_ret
    exact ⟨ltR_no _,rfl⟩
   by_cases g2:(100:Int) < (l[k].v.size:Int)
   ·go_wp2
    go_ret
    exact ⟨ltR_no _,rfl⟩
   have NX:=Lib.hid (show l[k].n.size≤100∧l[k].v.size≤100 from ⟨by omega,by omega⟩)
   go_wp2
   go_round
   case rel=>exact ⟨k+1,by omega,by go_num,fun j hj h=>by
    by_cases hjk:j=k
    ·subst hjk;exact NX.out
    ·exact HA.out j hj (by omega)⟩
   case measure=>simp [intOf];omega
  ·obtain rfl:k=l.length:=by omega
   have FIN:=Lib.hid (show Lt l from ⟨HL.out,fun a ha=>by
    obtain ⟨j,hj,rfl⟩:=List.getElem_of_mem ha
    exact HA.out j hj hj⟩)
   go_wp2
   go_ret
   exact ⟨ltR_yes FIN.out,rfl⟩
def Sm (x:Ent):Prop:=Lt x.c∧Lt x.p∧x.n.size≤100∧x.v.size≤100∧x.d.length≤15∧x.r.length≤15∧(∀g ∈ x.d,Lt g)∧(∀g ∈ x.r,Lt g)
def Fw7 (l:List Hr):Prop:=l.length≤70∧∀x ∈ l,Sm x.e
set_option maxHeartbeats 8000000 in
theorem small7_any (A:Option Addr) (n c:Nat) (l:List Hr) (w:World) (h:rdHrs w (lt_ w.heap.size) l [.slice A n c]) :
  Calls Tryz.prog 13 #[.slice A n c] w fun e w'=>LtR (Fw7 l) e∧Below w.heap.size w w':=by
 obtain ⟨rfl,hnc,hcm,hat⟩:=rdHrs_at h
 have hcm':c≤9223372036854775807:=hcm
 clear hcm hat
 by_cases g0:(70:Int) < (l.length:Int)
 ·go_enter Tryz.func13,Tryz.ntmps13
  go_wp2
  go_ret
  exact ⟨ltR_no _,Below.refl _ _⟩
 have HL:=Lib.hid (show l.length≤70 by omega)
 go_enter Tryz.func13,Tryz.ntmps13
 go_wp2
 go_loopw [3] (fun i wr=>∃k:Nat,k≤l.length∧i=.int .i64 k∧(∀j (hj:j < l.length),j < k→Sm l[j].e)∧Below w.heap.size w wr) (fun i _=>l.length - (intOf i).toNat)
 case atStart=>exact ⟨0,Nat.zero_le _,rfl,fun j _ hj=>absurd hj (Nat.not_lt_zero _),Below.refl _ _⟩
 case round=>
  obtain ⟨k,hk,rfl,hall,hbel⟩:=hrel
  have HA:=Lib.hid hall
  have HB:=Lib.hid hbel
  clear hall
  by_cases hlt:k < l.length
  ·obtain ⟨_,_,_,hat⟩:=rdHrs_at (rdHrs_good.up (rdHrs_good.below h hbel) hbel.size)
   obtain ⟨ad,A1,c1,A2,c2,A3,c3,A4,c4,rfl,had,hv,h0,h1,h2,h3,h4,h5,h6,h7⟩:=hat k hlt
   have i0:(0:Int)≤(k:Int):=by omega
   have i1:(k:Int) < (l.length:Int):=by omega
   have HV:=Lib.hid hv
   have SX:=Lib.hid (fun hs:Sm l[k].e=>show ∀j (hj:j < l.length),j < k+1→Sm l[j].e from fun j hj h=>by
    by_cases hjk:j=k
    ·subst hjk;exact hs
    ·exact HA.out j hj (by omega))
   clear had hat hbel h hv h6 h7
   generalize l[k].e=x at *
   obtain ⟨n,v,d,r,c',p⟩:=x
   simp only at h0 h1 h2 h3 h4 h5
   have B1:=Lib.hid (show Below wr.heap.size wr (wr.alloc (.cells #[.string n,.string v,.slice A1 d.length c1,.slice A2 r.length c2,.slice A3 c'.length c3,.slice A4 p.length c4] 34)) from (Below.refl _ wr).alloc (Nat.le_refl _) _)
   have B2:=Lib.hid (bel_in HB.out B1.out)
   have hy:=HV.out.on B1.out
   obtain ⟨hd1,hd2,hd3,hd⟩:=rdGrps_at hy.d
   obtain ⟨hr1,hr2,hr3,hr⟩:=rdGrps_at hy.r
   have hcm1:c1≤9223372036854775807:=hd3
   have hcm2:c2≤9223372036854775807:=hr3
   have KC:=Lib.hid (light7_any A3 c'.length c3 c' _ hy.c)
   have KP:=Lib.hid (light7_any A4 p.length c4 p _ hy.p)
   have HD:=Lib.hid hd
   have HR:=Lib.hid hr
   clear hy hd hr hd1 hr1 hd3 hr3
   go_wp2_with fail
   refine KC.out.mono ?_
   rintro e w' ⟨⟨b1,rfl,hb1⟩,rfl⟩
   clear h0 h1 h2 h3 h4 h5
   go_wp2_with fail
   refine KP.out.mono ?_
   rintro e w' ⟨⟨b2,rfl,hb2⟩,rfl⟩
   cases b1
   ·go_wp2
    go_ret
    exact ⟨ltR_no _,B2.out⟩
   cases b2
   ·go_wp2
    go_ret
    exact ⟨ltR_no _,B2.out⟩
   have HC:=Lib.hid (hb1 rfl)
   have HP:=Lib.hid (hb2 rfl)
   clear hb1 hb2
   by_cases q0:(100:Int) < (n.size:Int)
   ·go_wp2
    go_ret
    exact ⟨ltR_no _,B2.out⟩
   by_cases q1:(100:Int) < (v.size:Int)
   ·go_wp2
    go_ret
    exact ⟨ltR_no _,B2.out⟩
   by_cases q2:(15:Int) < (d.length:Int)
   ·go_wp2
    go_ret
    exact ⟨ltR_no _,B2.out⟩
   by_cases q3:(15:Int) < (r.length:Int)
   ·go_wp2
    go_ret
    exact ⟨ltR_no _,B2.out⟩
   have HS:=Lib.hid (show n.size≤100∧v.size≤100∧d.length≤15∧r.length≤15 from ⟨by omega,by omega,by omega,by omega⟩)
   go_wp2
   go_loop [7] (fun i=>∃k:Nat,k≤d.length∧i=.int .i64 k∧(∀j (hj:j < d.length),j < k→Lt d[j])) (fun i=>d.length - (intOf i).toNat)
   case atStart=>exact ⟨0,Nat.zero_le _,rfl,fun j _ hj=>absurd hj (Nat.not_lt_zero _)⟩
   case round=>
    obtain ⟨k1,hk1,rfl,hall⟩:=hrel
    have HA:=Lib.hid hall
    clear hall
    by_cases hlt1:k1 < d.length
    ·obtain ⟨ad1,Y,cy,rfl,had,h0,h1⟩:=HD.out k1 hlt1
     have j0:(0:Int)≤(k1:Int):=by omega
     have j1:(k1:Int) < (d.length:Int):=by omega
     have K:=Lib.hid (light7_any _ _ _ _ _ h1)
     clear had h1
     go_wp2_with fail
     refine K.out.mono ?_
     rintro e w' ⟨⟨b,rfl,hb⟩,rfl⟩
     cases b
     ·go_wp2
      go_ret
      exact ⟨ltR_no _,B2.out⟩
     have NX:=Lib.hid (hb rfl)
     clear hb
     go_wp2
     go_round
     case rel=>exact ⟨k1+1,by omega,by go_num,fun j hj h=>by
      by_cases hjk:j=k1
      ·subst hjk;exact NX.out
      ·exact HA.out j hj (by omega)⟩
     case measure=>simp [intOf];omega
    ·obtain rfl:k1=d.length:=by omega
     have F7:=Lib.hid (show ∀g ∈ d,Lt g from fun g hg=>by
      obtain ⟨j,hj,rfl⟩:=List.getElem_of_mem hg
      exact HA.out j hj hj)
     clear HA
     go_wp2
     go_loop [9] (fun i=>∃k:Nat,k≤r.length∧i=.int .i64 k∧(∀j (hj:j < r.length),j < k→Lt r[j])) (fun i=>r.length - (intOf i).toNat)
     case atStart=>exact ⟨0,Nat.zero_le _,rfl,fun j _ hj=>absurd hj (Nat.not_lt_zero _)⟩
     case round=>
      obtain ⟨k1,hk1,rfl,hall⟩:=hrel
      have HA:=Lib.hid hall
      clear hall
      by_cases hlt1:k1 < r.length
      ·obtain ⟨ad1,Y,cy,rfl,had,h0,h1⟩:=HR.out k1 hlt1
       have j0:(0:Int)≤(k1:Int):=by omega
       have j1:(k1:Int) < (r.length:Int):=by omega
       have K:=Lib.hid (light7_any _ _ _ _ _ h1)
       clear had h1
       go_wp2_with fail
       refine K.out.mono ?_
       rintro e w' ⟨⟨b,rfl,hb⟩,rfl⟩
       cases b
       ·go_wp2
        go_ret
        exact ⟨ltR_no _,B2.out⟩
       have NX:=Lib.hid (hb rfl)
       clear hb
       go_wp2
       go_round
       case rel=>exact ⟨k1+1,by omega,by go_num,fun j hj h=>by
        by_cases hjk:j=k1
        ·subst hjk;exact NX.out
        ·exact HA.out j hj (by omega)⟩
       case measure=>simp [intOf];omega
      ·obtain rfl:k1=r.length:=by omega
       have F9:=Lib.hid (show ∀g ∈ r,Lt g from fun g hg=>by
        obtain ⟨j,hj,rfl⟩:=List.getElem_of_mem hg
        exact HA.out j hj hj)
       clear HA
       go_wp2
       go_roundw
       case rel=>exact ⟨k+1,by omega,by go_num,SX.out ⟨HC.out,HP.out,HS.out.1,HS.out.2.1,HS.out.2.2.1,HS.out.2.2.2,F7.out,F9.out⟩,B2.out⟩
       case measure=>simp [intOf];omega
  ·obtain rfl:k=l.length:=by omega
   have FIN:=Lib.hid (show Fw7 l from ⟨HL.out,fun a ha=>by
    obtain ⟨j,hj,rfl⟩:=List.getElem_of_mem ha
    exact HA.out j hj hj⟩)
   clear h hbel
   go_wp2
   go_ret
   exact ⟨ltR_yes FIN.out,HB.out⟩
def printA (n:List Nat) (op:Int) (v:List Nat):List Nat:=if rightA n op v=true then textA n op v else []
theorem name_len {n:List Nat} (h:nameB n=true):2≤n.length∧n.length≤40:=by
 unfold nameB at h
 simp only [Bool.and_eq_true,decide_eq_true_eq] at h
 exact h.1.1
theorem pr_len {v:List Nat} (h:prB v=true):v.length≤60:=by
 unfold prB at h
 simp only [Bool.and_eq_true,decide_eq_true_eq] at h
 exact parseE_len h.1
def txt (a:Atm):List Nat:=textA (B a.n) a.o (B a.v)
def grpS (g:List Atm):List Nat:=joinL [32,124,32] (g.map txt)
def prtG (L:List (List Atm)):List Nat:=if rightG L=true then joinL [44,32] (L.map grpS) else []
theorem joinL_mem {sep:List Nat}:∀{ts:List (List Nat)} {c:Nat},c ∈ joinL sep ts→c ∈ sep∨∃t ∈ ts,c ∈ t
 | [],c,h=>by simp [joinL] at h
 | [x],c,h=>.inr ⟨x,by simp,h⟩
 | x::y::r,c,h=>by
  rw [joinL,List.mem_append,List.mem_append] at h
  rcases h with h|h|h
  ·exact .inr ⟨x,by simp,h⟩
  ·exact .inl h
  ·rcases joinL_mem h with h|⟨t,ht,h⟩
   ·exact .inl h
   ·exact .inr ⟨t,by simp [ht],h⟩
def rgtE (x:Ent):Bool:=nameB (B x.n)&&(prB (B x.v)&&(rightG x.d&&(rightG x.r&&(x.c.all rgt&&(x.p.all rgt&&(givs6 x.p&&(decide (x.c.length≤12)&&decide (x.p.length≤8))))))))
theorem box6 {w W:World} {T:TypeId} {x0 x1 x2 x3 x4 x5:Value} (hb:Below (w.alloc (.cells #[x0,x1,x2,x3,x4,x5] T)).heap.size (w.alloc (.cells #[x0,x1,x2,x3,x4,x5] T)) W) :
  W.cell? ⟨w.heap.size,0,none⟩=some x0∧W.cell? ⟨w.heap.size,1,none⟩=some x1∧W.cell? ⟨w.heap.size,2,none⟩=some x2∧W.cell? ⟨w.heap.size,3,none⟩=some x3∧W.cell? ⟨w.heap.size,4,none⟩=some x4∧W.cell? ⟨w.heap.size,5,none⟩=some x5:=
 ⟨(hb.cell (by simp)).trans (by simp [go_sem]),(hb.cell (by simp)).trans (by simp [go_sem]),(hb.cell (by simp)).trans (by simp [go_sem]),(hb.cell (by simp)).trans (by simp [go_sem]),(hb.cell (by simp)).trans (by simp [go_sem]),(hb.cell (by simp)).trans (by simp [go_sem])⟩
def wth (l:List Fd) (n v:ByteArray):List Fd:=if v.size=0 then l else l++[⟨n,v⟩]
theorem wth_len (l:List Fd) (n v:ByteArray):(wth l n v).length≤l.length+1:=by
 unfold wth;split
 ·omega
 ·rw [List.length_append];exact Nat.le_refl _
def wr0 (x:Ent):List Fd:=[⟨{ data:=#[80,97,99,107,97,103,101] },x.n⟩,⟨{ data:=#[86,101,114,115,105,111,110] },x.v⟩]
def wr1 (x:Ent):List Fd:=wth (wr0 x) { data:=#[68,101,112,101,110,100,115] } (mk (prtG x.d))
def wr2 (x:Ent):List Fd:=wth (wr1 x) { data:=#[82,101,99,111,109,109,101,110,100,115] } (mk (prtG x.r))
def wr3 (x:Ent):List Fd:=wth (wr2 x) { data:=#[67,111,110,102,108,105,99,116,115] } (mk (prtG (x.c.map fun a=>[a])))
def wr4 (x:Ent):List Fd:=wth (wr3 x) { data:=#[80,114,111,118,105,100,101,115] } (mk (prtG (x.p.map fun a=>[a])))
def wrE (x:Ent):List Fd:=if rgtE x=true then wr4 x else []
theorem wr_len (x:Ent):(wr0 x).length=2∧(wr1 x).length≤3∧(wr2 x).length≤4∧(wr3 x).length≤5∧(wr4 x).length≤6:=by
 have h1:=wth_len (wr0 x) { data:=#[68,101,112,101,110,100,115] } (mk (prtG x.d))
 have h2:=wth_len (wr1 x) { data:=#[82,101,99,111,109,109,101,110,100,115] } (mk (prtG x.r))
 have h3:=wth_len (wr2 x) { data:=#[67,111,110,102,108,105,99,116,115] } (mk (prtG (x.c.map fun a=>[a])))
 have h4:=wth_len (wr3 x) { data:=#[80,114,111,118,105,100,101,115] } (mk (prtG (x.p.map fun a=>[a])))
 have h0:(wr0 x).length=2:=rfl
 refine ⟨h0,?_,?_,?_,?_⟩
 ·exact Nat.le_trans h1 (by omega)
 ·exact Nat.le_trans h2 (Nat.succ_le_succ (Nat.le_trans h1 (by omega)))
 ·exact Nat.le_trans h3 (Nat.succ_le_succ (Nat.le_trans h2 (Nat.succ_le_succ (Nat.le_trans h1 (by omega)))))
 ·exact Nat.le_trans h4 (Nat.succ_le_succ (Nat.le_trans h3 (Nat.succ_le_succ (Nat.le_trans h2 (Nat.succ_le_succ (Nat.le_trans h1 (by omega)))))))
theorem rgtE_lens {x:Ent} (h:rgtE x=true):x.c.length≤12∧x.p.length≤8:=by
 unfold rgtE at h
 simp only [Bool.and_eq_true,decide_eq_true_eq] at h
 exact h.2.2.2.2.2.2.2
def hd32:List Nat→Bool
 | []=>false
 | c::_=>decide (c=32)
def lnOk (l:List Nat):Bool:=!lowB l&&!decide (l=[])
def valL:List (List Nat)→Bool
 | []=>false
 | f::r=>!lowB f&&!hd32 f&&r.all lnOk
theorem valL_cons (f:List Nat) (r:List (List Nat)):valL (f::r)=(!lowB f&&!hd32 f&&r.all lnOk):=rfl
def valB (v:List Nat):Bool:=valL (cutBy 10 v)
theorem valL_no {L:List (List Nat)} {k:Nat} (hk:k < L.length) (h:lowB L[k]=true∨(0 < k∧L[k]=[])):valL L=false:=by
 cases L with
 | nil=>rfl
 | cons f r=>
  cases k with
  | zero=>
   rcases h with h|h
   ·rw [valL_cons]
    rw [show lowB f=true from h];rfl
   ·exact absurd h.1 (Nat.lt_irrefl 0)
  | succ k=>
   have hk':k < r.length:=by simpa using hk
   simp only [List.getElem_cons_succ] at h
   have:r.all lnOk=false:=by
    rw [List.all_eq_false]
    refine ⟨r[k],List.getElem_mem hk',?_⟩
    unfold lnOk
    rcases h with h|h
    ·rw [h];simp
    ·rw [h.2];simp
   rw [valL_cons]
   rw [this,Bool.and_false]
theorem valL_hd {L:List (List Nat)} (h0:0 < L.length) (h:hd32 L[0]=true):valL L=false:=by
 cases L with
 | nil=>rfl
 | cons f r=>
  rw [valL_cons]
  rw [show hd32 f=true from h];simp
theorem valL_yes {L:List (List Nat)} (h0:0 < L.length) (h:∀k (hk:k < L.length),lowB L[k]=false∧(0 < k→L[k]≠[])):valL L=!hd32 L[0]:=by
 cases L with
 | nil=>exact absurd h0 (by simp)
 | cons f r=>
  have hf:=(h 0 (by simp)).1
  simp only [List.getElem_cons_zero] at hf
  have ha:r.all lnOk=true:=by
   rw [List.all_eq_true]
   intro x hx
   obtain ⟨j,hj,rfl⟩:=List.getElem_of_mem hx
   obtain ⟨h1,h2⟩:=h (j+1) (by simpa using hj)
   simp only [List.getElem_cons_succ] at h1 h2
   unfold lnOk
   rw [h1,decide_eq_false (h2 (Nat.succ_pos _))];rfl
  rw [valL_cons]
  rw [hf,ha];simp
def bodyT:List (List Nat)→List Nat
 | []=>[]
 | f::r=>(if f=[] then [] else 32::f)++10::(r.map fun l=>32::(l++[10])).flatten
def fldT (f:Fd):List Nat:=B f.n++58::bodyT (cutBy 10 (B f.v))
theorem body_join (f:List Nat) (r:List (List Nat)):bodyT (f::r)=(if f=[] then [] else [32])++(joinL [10,32] (f::r)++[10]):=by
 have key:∀(r:List (List Nat)) (f:List Nat),f++10::(r.map fun l=>32::(l++[10])).flatten=joinL [10,32] (f::r)++[10]:=by
  intro r
  induction r with
  | nil=>intro f;simp [joinL]
  | cons x r ih=>
   intro f
   rw [show joinL [10,32] (f::x::r)=f++([10,32]++joinL [10,32] (x::r)) from rfl]
   have:=ih x
   rw [List.map_cons,List.flatten_cons,List.append_assoc,List.append_assoc,←this]
   simp
 rw [←key r f]
 show (if f=[] then [] else 32::f)++_=_
 by_cases h:f=[]
 ·rw [if_pos h,if_pos h,h];rfl
 ·rw [if_neg h,if_neg h];rfl
def stT (st:List Fd):List Nat:=(st.map fldT).flatten
def txL (L:List (List Fd)):List Nat:=joinL [10] (L.map stT)
def noDup:List Fd→List Fd→Bool
 | _,[]=>true
 | seen,f::r=>!getV seen f.n&&noDup (seen++[f]) r
def fdR (f:Fd):Bool:=fnB (B f.n)&&valB (B f.v)
def fdP (f:Fd):Bool:=fnB (B f.n)&&(decide (f.v.size≤60000)&&valB (B f.v))
def stzR (st:List Fd):Bool:=st.all fdR&&noDup [] st&&(decide (1≤st.length)&&decide (st.length≤40))
def stzP (st:List Fd):Bool:=st.all fdP&&noDup [] st&&(decide (1≤st.length)&&decide (st.length≤40))
def okR (L:List (List Fd)):Bool:=L.all stzR&&(decide (L.length≤200)&&decide ((txL L).length≤60000))
def okP (L:List (List Fd)):Bool:=L.all stzP&&(decide (L.length≤200)&&decide ((txL L).length≤60000))
def ptT (L:List (List Fd)) (i:Nat):List Nat:=if i=0 then [] else joinL [10] ((L.take i).map stT)++[10]
theorem joinL_pre (sep:List Nat):∀(a b:List (List Nat)),joinL sep a <+: joinL sep (a++b)
 | [],b=>List.nil_prefix
 | [x],[]=>List.prefix_rfl
 | [x],y::r=>List.prefix_append _ _
 | x::y::r,b=>by
  have ih:=joinL_pre sep (y::r) b
  rw [List.cons_append,List.cons_append]
  simp only [joinL]
  exact (List.prefix_append_right_inj _).2 ((List.prefix_append_right_inj _).2 ih)
theorem pt_next {L:List (List Fd)} {i:Nat} (hi:i < L.length):ptT L i++stT L[i]=joinL [10] ((L.take (i+1)).map stT):=by
 rw [List.take_succ_eq_append_getElem hi,List.map_append,List.map_singleton,joinL_snoc]
 unfold ptT
 by_cases h:i=0
 ·rw [if_pos h,if_pos (by simp [h])];rfl
 ·rw [if_neg h,if_neg (by intro e;have:=congrArg List.length e;rw [List.length_map,List.length_take] at this;simp only [List.length_nil] at this;omega)];simp
theorem pt_len {L:List (List Fd)} {i k:Nat} (hi:i < L.length):(ptT L i++stT (L[i].take k)).length≤(txL L).length:=by
 have h1:ptT L i++stT (L[i].take k) <+: ptT L i++stT L[i]:=by
  refine (List.prefix_append_right_inj _).2 ?_
  conv=>rhs;rw [←List.take_append_drop k L[i]]
  unfold stT
  rw [List.map_append,List.flatten_append];exact List.prefix_append _ _
 rw [pt_next hi] at h1
 have h2:joinL [10] ((L.take (i+1)).map stT) <+: txL L:=by
  unfold txL
  conv=>rhs;rw [←List.take_append_drop (i+1) L,List.map_append]
  exact joinL_pre _ _ _
 exact (h1.trans h2).length_le
theorem stT_snoc (st:List Fd) (k:Nat) (hk:k < st.length):stT (st.take (k+1))=stT (st.take k)++fldT st[k]:=by
 unfold stT
 rw [List.take_succ_eq_append_getElem hk,List.map_append,List.flatten_append];simp
theorem noDup_step {st:List Fd} {k:Nat} (hk:k < st.length):noDup (st.take k) (st.drop k)=(!getV (st.take k) st[k].n&&noDup (st.take (k+1)) (st.drop (k+1))):=by
 rw [List.drop_eq_getElem_cons hk,List.take_succ_eq_append_getElem hk];rfl
theorem okR_long {L:List (List Fd)} (h:200 < L.length):okR L=false:=by unfold okR;rw [decide_eq_false (by omega)];simp
theorem okP_long {L:List (List Fd)} (h:200 < L.length):okP L=false:=by unfold okP;rw [decide_eq_false (by omega)];simp
theorem okP_stz {L:List (List Fd)} {k:Nat} (hk:k < L.length) (h:stzP L[k]=false):okP L=false:=by
 have:L.all stzP=false:=by rw [List.all_eq_false];exact ⟨L[k],List.getElem_mem hk,by rw [h];decide⟩
 unfold okP;rw [this];rfl
theorem okP_big {L:List (List Fd)} (h:60000 < (txL L).length):okP L=false:=by unfold okP;rw [decide_eq_false (show ¬(txL L).length≤60000 by omega)];simp
theorem all_snoc {α:Type} (p:α→Bool) (l:List α) (k:Nat) (hk:k < l.length):(l.take (k+1)).all p=((l.take k).all p&&p l[k]):=by
 rw [List.take_succ_eq_append_getElem hk,List.all_append];simp
theorem all_not5 {α:Type} {p:α→Bool} {l:List α} {k:Nat} (hk:k < l.length) (h:p l[k]=false):l.all p=false:=by
 rw [List.all_eq_false];exact ⟨l[k],List.getElem_mem hk,by rw [h];decide⟩
def opt (n v:ByteArray):List Fd:=if v.size=0 then [] else [⟨n,v⟩]
theorem wth_opt (l:List Fd) (n v:ByteArray):wth l n v=l++opt n v:=by
 unfold wth opt;split<;>simp
theorem wr4_list (x:Ent) (y:List Fd):wr4 x++y=⟨nPk,x.n⟩::⟨nVe,x.v⟩::(opt nDe (mk (prtG x.d))++(opt nRe (mk (prtG x.r))++(opt nCo (mk (prtG (x.c.map fun a=>[a])))++(opt nPr (mk (prtG (x.p.map fun a=>[a])))++y)))):=by
 unfold wr4 wr3 wr2 wr1 wr0
 rw [wth_opt,wth_opt,wth_opt,wth_opt]
 simp [List.append_assoc,nPk,nVe,nDe,nRe,nCo,nPr]
def risB:List ByteArray→Bool
 | a::b::r=>Op.bytesLess a.toList b.toList&&risB (b::r)
 | _=>true
def rightH (l:List Hr):Bool:=l.all (fun x=>rgtE x.e)&&(risB (l.map fun x=>x.e.n)&&decide (l.length≤64))
def RightP (l:List Hr):Prop:=(∀x ∈ l,rgtE x.e=true)∧Ris (l.map fun x=>x.e.n)∧l.length≤64
theorem risB_iff:∀l:List ByteArray,risB l=true↔Ris l
 | []=>⟨fun _=>List.Pairwise.nil,fun _=>rfl⟩
 | [a]=>⟨fun _=>List.pairwise_singleton _ _,fun _=>rfl⟩
 | a::b::r=>by
  have ih:=risB_iff (b::r)
  unfold risB
  rw [Bool.and_eq_true,ih]
  constructor
  ·rintro ⟨h,k⟩
   refine List.Pairwise.cons (fun c hc=>?_) k
   rcases List.mem_cons.1 hc with rfl|hc
   ·exact h
   ·exact blt_tr h ((List.pairwise_cons.1 k).1 c hc)
  ·intro h
   obtain ⟨h1,h2⟩:=List.pairwise_cons.1 h
   exact ⟨h1 b (by simp),h2⟩
theorem rightH_iff (l:List Hr):rightH l=true↔RightP l:=by
 unfold rightH RightP
 rw [Bool.and_eq_true,Bool.and_eq_true,risB_iff,decide_eq_true_iff,List.all_eq_true]
theorem ris_adj {l:List ByteArray} (h:Ris l) {i:Nat} (hi:i+1 < l.length):blt l[i] l[i+1]:=List.pairwise_iff_getElem.1 h i (i+1) (by omega) hi (by omega)
def RI (l:List Hr) (k:Nat):Prop:=∀j (hj:j < l.length),j < k→rgtE l[j].e=true∧∀i (hi:i < l.length),j=i+1→blt l[i].e.n l[j].e.n
theorem ri_all {l:List Hr} (h:RI l l.length):rightH l=decide (l.length≤64):=by
 unfold rightH
 have h1:l.all (fun x=>rgtE x.e)=true:=by
  rw [List.all_eq_true]
  intro x hx
  obtain ⟨j,hj,rfl⟩:=List.getElem_of_mem hx
  exact (h j hj hj).1
 have key:∀(m:List ByteArray),(∀i (h:i+1 < m.length),blt m[i] m[i+1])→risB m=true:=by
  intro m
  induction m with
  | nil=>exact fun _=>rfl
  | cons a r ih=>
   intro hm
   cases r with
   | nil=>rfl
   | cons b r=>
    unfold risB
    rw [Bool.and_eq_true]
    exact ⟨hm 0 (by simp),ih fun i hi=>hm (i+1) (by simpa using hi)⟩
 have h2:risB (l.map fun x=>x.e.n)=true:=key _ fun i hi=>by
  rw [List.length_map] at hi
  rw [List.getElem_map,List.getElem_map]
  exact (h (i+1) hi hi).2 i (by omega) rfl
 rw [h1,h2];rfl
theorem ri_no {l:List Hr} {k:Nat} (hk:k < l.length) (h:rgtE l[k].e=false):rightH l=false:=by
 rw [Bool.eq_false_iff]
 intro e
 have:=((rightH_iff l).1 e).1 _ (List.getElem_mem hk)
 rw [h] at this;cases this
theorem ri_dn {l:List Hr} {i:Nat} (hk:i+1 < l.length) (h:¬blt l[i].e.n l[i+1].e.n):rightH l=false:=by
 rw [Bool.eq_false_iff]
 intro e
 have:=ris_adj ((rightH_iff l).1 e).2.1 (i:=i) (by rw [List.length_map];exact hk)
 rw [List.getElem_map,List.getElem_map] at this
 exact h this
def mrk (b:Bool) (n:ByteArray):List Fd:=if b=true then [⟨n,yes7⟩] else []
def stH (x:Hr):List Fd:=wrE x.e++(mrk x.a nAu++mrk x.h nHo)
def prH (PR:List (List Fd)→ByteArray) (l:List Hr):ByteArray:=if rightH l=true then PR (l.map stH) else { data:=#[] }
end Go.Proofs.YtboinnjncaehkaaGreatDoor
namespace Go.Proofs
open Go.Shelf
def Tryz.lays170_ren:Go.Shelf.Ren:=⟨fun|170=>145|n=>n,fun|70=>168|3=>3|0=>0|72=>170|37=>159|5=>5|n=>n,fun|n=>n⟩
theorem Tryz.lays170:Go.Proofs.Lays.n170 Tryz.prog Tryz.lays170_ren:={
 mixed:=by kernel_rfl
 f170:=Tryz.func145.trans (congrArg some (by kernel_rfl))
 t0:=Tryz.underlying0
 a0:=Tryz.isAgg0
 z0:=Tryz.sizeOf0
 v0:=Tryz.zeroValue0
 t3:=Tryz.underlying3
 a3:=Tryz.isAgg3
 z3:=Tryz.sizeOf3
 v3:=Tryz.zeroValue3
 t37:=Tryz.underlying159
 a37:=Tryz.isAgg159
 z37:=Tryz.sizeOf159
 v37:=Tryz.zeroValue159
 t70:=Tryz.underlying168
 a70:=Tryz.isAgg168
 z70:=Tryz.sizeOf168
 v70:=Tryz.zeroValue168
 t72:=Tryz.underlying170
 a72:=Tryz.isAgg170
 z72:=Tryz.sizeOf170
 v72:=Tryz.zeroValue170 }
open Go.RowKit in
theorem Tryz.Builder_Len (B b:Nat) (bs:List Value) (w:World) (h:Lib.IsBuilder 170 5 B b bs w) :
  Calls Tryz.prog 145 #[.pointer (some ⟨b,0,none⟩)] w fun e w'=>e=.returned (.int .i64 bs.length)∧w'=w:=Any.Builder_Len Tryz.lays170 B b bs w h
def Tryz.lays169_ren:Go.Shelf.Ren:=⟨fun|169=>146|n=>n,fun|70=>168|9=>9|0=>0|72=>170|37=>159|127=>210|3=>3|5=>5|n=>n,fun|n=>n⟩
theorem Tryz.lays169:Go.Proofs.Lays.n169 Tryz.prog Tryz.lays169_ren:={
 mixed:=by kernel_rfl
 f169:=Tryz.func146.trans (congrArg some (by kernel_rfl))
 t0:=Tryz.underlying0
 a0:=Tryz.isAgg0
 z0:=Tryz.sizeOf0
 v0:=Tryz.zeroValue0
 t3:=Tryz.underlying3
 a3:=Tryz.isAgg3
 z3:=Tryz.sizeOf3
 v3:=Tryz.zeroValue3
 t9:=Tryz.underlying9
 a9:=Tryz.isAgg9
 z9:=Tryz.sizeOf9
 v9:=Tryz.zeroValue9
 t37:=Tryz.underlying159
 a37:=Tryz.isAgg159
 z37:=Tryz.sizeOf159
 v37:=Tryz.zeroValue159
 t70:=Tryz.underlying168
 a70:=Tryz.isAgg168
 z70:=Tryz.sizeOf168
 v70:=Tryz.zeroValue168
 t72:=Tryz.underlying170
 a72:=Tryz.isAgg170
 z72:=Tryz.sizeOf170
 v72:=Tryz.zeroValue170
 t127:=Tryz.underlying210
 a127:=Tryz.isAgg210
 z127:=Tryz.sizeOf210
 v127:=Tryz.zeroValue210 }
theorem Tryz.Builder_Extra_169:Builder.Extra Tryz.prog Tryz.lays169_ren:={
 sizeBuilder:=by kernel_rfl
 liesBuilder:=by kernel_rfl
 t5:=Tryz.underlying5
 a5:=Tryz.isAgg5
 z5:=Tryz.sizeOf5
 v5:=Tryz.zeroValue5
 infoByte:=by kernel_rfl
 cellsByte:=by kernel_rfl
 sizeByte:=by kernel_rfl
 neB5:=by decide }
open Go.RowKit in
theorem Tryz.Builder_String_any (B b:Nat) (l:List UInt8) (w:World) (h:Lib.IsBuilder 170 5 B b (Lib.byteCells l) w) (hBw:B≤w.heap.size) :
  Calls Tryz.prog 146 #[.pointer (some ⟨b,0,none⟩)] w fun e w'=>e=.returned (.string ⟨l.toArray⟩)∧Below B w w':=Any.Builder_String_any Tryz.lays169 Tryz.Builder_Extra_169 B b l w h hBw
def Tryz.lays154_ren:Go.Shelf.Ren:=⟨fun|154=>220|138=>195|165=>200|143=>196|166=>143|197=>223|169=>146|195=>222|218=>224|240=>187|241=>231|219=>225|260=>247|276=>218|277=>254|217=>248|225=>249|224=>250|267=>251|266=>265|314=>266|n=>n,fun|9=>9|3=>3|4=>4|72=>170|0=>0|76=>175|105=>228|21=>21|5=>5|70=>168|20=>20|37=>159|75=>173|127=>210|164=>225|46=>97|119=>253|139=>256|138=>255|146=>257|51=>146|80=>179|n=>n,fun|1=>1|3=>2|4=>3|n=>n⟩
def Tryz.lays155_ren:Go.Shelf.Ren:=⟨fun|155=>189|154=>220|138=>195|165=>200|143=>196|166=>143|197=>223|169=>146|195=>222|218=>224|240=>187|241=>231|219=>225|260=>247|276=>218|277=>254|217=>248|225=>249|224=>250|267=>251|266=>265|314=>266|n=>n,fun|9=>9|3=>3|4=>4|72=>170|0=>0|76=>175|105=>228|21=>21|5=>5|70=>168|20=>20|37=>159|75=>173|127=>210|164=>225|46=>97|119=>253|139=>256|138=>255|146=>257|51=>146|80=>179|n=>n,fun|1=>1|3=>2|4=>3|n=>n⟩
theorem Tryz.lays155:Go.Proofs.Lays.n155 Tryz.prog Tryz.lays155_ren:={
 mixed:=by kernel_rfl
 f138:=Tryz.func195.trans (congrArg some (by kernel_rfl))
 f143:=Tryz.func196.trans (congrArg some (by kernel_rfl))
 f154:=Tryz.func220.trans (congrArg some (by kernel_rfl))
 f155:=Tryz.func189.trans (congrArg some (by kernel_rfl))
 f165:=Tryz.func200.trans (congrArg some (by kernel_rfl))
 f166:=Tryz.func143.trans (congrArg some (by kernel_rfl))
 f169:=Tryz.func146.trans (congrArg some (by kernel_rfl))
 f195:=Tryz.func222.trans (congrArg some (by kernel_rfl))
 f197:=Tryz.func223.trans (congrArg some (by kernel_rfl))
 f217:=Tryz.func248.trans (congrArg some (by kernel_rfl))
 f218:=Tryz.func224.trans (congrArg some (by kernel_rfl))
 f219:=Tryz.func225.trans (congrArg some (by kernel_rfl))
 f224:=Tryz.func250.trans (congrArg some (by kernel_rfl))
 f225:=Tryz.func249.trans (congrArg some (by kernel_rfl))
 f240:=Tryz.func187.trans (congrArg some (by kernel_rfl))
 f241:=Tryz.func231.trans (congrArg some (by kernel_rfl))
 f260:=Tryz.func247.trans (congrArg some (by kernel_rfl))
 f266:=Tryz.func265.trans (congrArg some (by kernel_rfl))
 f267:=Tryz.func251.trans (congrArg some (by kernel_rfl))
 f276:=Tryz.func218.trans (congrArg some (by kernel_rfl))
 f277:=Tryz.func254.trans (congrArg some (by kernel_rfl))
 f314:=Tryz.func266.trans (congrArg some (by kernel_rfl))
 t0:=Tryz.underlying0
 a0:=Tryz.isAgg0
 z0:=Tryz.sizeOf0
 v0:=Tryz.zeroValue0
 t3:=Tryz.underlying3
 a3:=Tryz.isAgg3
 z3:=Tryz.sizeOf3
 v3:=Tryz.zeroValue3
 t4:=Tryz.underlying4
 a4:=Tryz.isAgg4
 z4:=Tryz.sizeOf4
 v4:=Tryz.zeroValue4
 t5:=Tryz.underlying5
 a5:=Tryz.isAgg5
 z5:=Tryz.sizeOf5
 v5:=Tryz.zeroValue5
 t9:=Tryz.underlying9
 a9:=Tryz.isAgg9
 z9:=Tryz.sizeOf9
 v9:=Tryz.zeroValue9
 t20:=Tryz.underlying20
 a20:=Tryz.isAgg20
 z20:=Tryz.sizeOf20
 v20:=Tryz.zeroValue20
 t21:=Tryz.underlying21
 a21:=Tryz.isAgg21
 z21:=Tryz.sizeOf21
 v21:=Tryz.zeroValue21
 t37:=Tryz.underlying159
 a37:=Tryz.isAgg159
 z37:=Tryz.sizeOf159
 v37:=Tryz.zeroValue159
 t46:=Tryz.underlying97
 a46:=Tryz.isAgg97
 z46:=Tryz.sizeOf97
 v46:=Tryz.zeroValue97
 t51:=Tryz.underlying146
 a51:=Tryz.isAgg146
 z51:=Tryz.sizeOf146
 v51:=Tryz.zeroValue146
 t70:=Tryz.underlying168
 a70:=Tryz.isAgg168
 z70:=Tryz.sizeOf168
 v70:=Tryz.zeroValue168
 t72:=Tryz.underlying170
 a72:=Tryz.isAgg170
 z72:=Tryz.sizeOf170
 v72:=Tryz.zeroValue170
 t75:=Tryz.underlying173
 a75:=Tryz.isAgg173
 z75:=Tryz.sizeOf173
 v75:=Tryz.zeroValue173
 t76:=Tryz.underlying175
 a76:=Tryz.isAgg175
 z76:=Tryz.sizeOf175
 v76:=Tryz.zeroValue175
 t105:=Tryz.underlying228
 a105:=Tryz.isAgg228
 z105:=Tryz.sizeOf228
 v105:=Tryz.zeroValue228
 t119:=Tryz.underlying253
 a119:=Tryz.isAgg253
 z119:=Tryz.sizeOf253
 t127:=Tryz.underlying210
 a127:=Tryz.isAgg210
 z127:=Tryz.sizeOf210
 v127:=Tryz.zeroValue210
 t138:=Tryz.underlying255
 a138:=Tryz.isAgg255
 z138:=Tryz.sizeOf255
 v138:=Tryz.zeroValue255
 t139:=Tryz.underlying256
 a139:=Tryz.isAgg256
 z139:=Tryz.sizeOf256
 v139:=Tryz.zeroValue256
 t146:=Tryz.underlying257
 a146:=Tryz.isAgg257
 z146:=Tryz.sizeOf257
 v146:=Tryz.zeroValue257
 t164:=Tryz.underlying225
 a164:=Tryz.isAgg225
 z164:=Tryz.sizeOf225
 v164:=Tryz.zeroValue225
 g1:=by kernel_rfl
 g3:=by kernel_rfl
 g4:=by kernel_rfl }
theorem Tryz.Builder_Extra_155:Builder.Extra Tryz.prog Tryz.lays155_ren:={
 sizeBuilder:=by kernel_rfl
 liesBuilder:=by kernel_rfl
 t5:=Tryz.underlying5
 a5:=Tryz.isAgg5
 z5:=Tryz.sizeOf5
 v5:=Tryz.zeroValue5
 infoByte:=by kernel_rfl
 cellsByte:=by kernel_rfl
 sizeByte:=by kernel_rfl
 neB5:=by decide }
open Go.RowKit Go.Lib in
theorem Tryz.strings_ReplaceAll (s old new:ByteArray) (m:Int) (w:World) (hs:s.size < 4294967281) (hm:w.cell? ⟨1,0,none⟩=some (.int .i64 m)) (h1:1≤old.size) (hlen:s.size+Lib.countB s old*new.size≤140737488355328) :
  Calls Tryz.prog 189 #[.string s,.string old,.string new] w fun e w'=>
   e=.returned (.string ⟨(Lib.replaceAll s.data.toList old.data.toList new.data.toList).toArray⟩)∧Below w.heap.size w w':=Any.strings_ReplaceAll Tryz.lays155 Tryz.Builder_Extra_155 s old new m w hs hm h1 hlen
end Go.Proofs
namespace Go.Proofs.YtboinnjncaehkaaGreatDoor
open Go.RowKit
theorem empty_is (v:ByteArray):v.toList.isEmpty=decide (B v=[]):=by
 rw [toList_data]
 unfold B
 cases h:v.data.toList<;>simp
theorem sign_some {op:Int} (h:1≤op∧op≤5):(mk (signL op)).toList.isEmpty=false:=by
 rw [mk_empty]
 have:op=1∨op=2∨op=3∨op=4∨op=5:=by omega
 rcases this with rfl|rfl|rfl|rfl|rfl<;>rfl
theorem sign_none {op:Int} (h:¬(1≤op∧op≤5)):(mk (signL op)).toList.isEmpty=true:=by
 rw [mk_empty,signL_out (by omega)];rfl
theorem rright_any (n:ByteArray) (op:Int) (v:ByteArray) (w:World) (E:EnvR w):Calls Tryz.prog 76 #[.agg #[.string n,.int .i64 op,.string v]] w fun e' w'=>e'=.returned (.bool (rightA (B n) op (B v)))∧Below w.heap.size w w':=by
 have HE:=Lib.hid E
 clear E
 cases hn:nameB (B n)
 ·have X:=Lib.hid (show rightA (B n) op (B v)=false by unfold rightA;rw [hn];rfl)
  have KN:=Lib.hid (fun w=>rname_any n w)
  rw [hn] at KN
  clear hn
  go_enter Tryz.func76,Tryz.ntmps76
  go_wp2_with fail
  refine (KN.out _).mono ?_
  rintro e' w1 ⟨rfl,hb⟩
  have B1:=Lib.hid (bel_boxed hb)
  clear hb
  go_wp2
  go_ret
  exact ⟨by rw [X.out];rfl,B1.out⟩
 ·have KN:=Lib.hid (fun w=>rname_any n w)
  rw [hn] at KN
  by_cases h0:op=0
  ·subst h0
   have X:=Lib.hid (show v.toList.isEmpty=rightA (B n) 0 (B v) by unfold rightA;rw [hn,if_pos rfl,Bool.true_and,empty_is])
   clear hn
   go_enter Tryz.func76,Tryz.ntmps76
   go_wp2_with fail
   refine (KN.out _).mono ?_
   rintro e' w1 ⟨rfl,hb⟩
   have B1:=Lib.hid (bel_boxed hb)
   obtain ⟨c0,c1,c2,s1⟩:=box_cells hb
   clear hb
   go_wp2
   go_ret
   exact ⟨by rw [←X.out];rfl,B1.out⟩
  ·have t0:(op==0)=false:=by rw [beq_eq_false_iff_ne];exact h0
   have KS:=Lib.hid (fun w E=>rsign_any op w E)
   by_cases ho:1≤op∧op≤5
   ·have X:=Lib.hid (show rightA (B n) op (B v)=prB (B v) by unfold rightA;rw [hn,if_neg h0,Bool.true_and,decide_eq_true ho,Bool.true_and])
    have KP:=Lib.hid (fun w E=>rprinted_any v w E)
    have t1:=sign_some ho
    generalize mk (signL op)=sg at *
    clear hn h0 ho
    go_enter Tryz.func76,Tryz.ntmps76
    go_wp2_with fail
    refine (KN.out _).mono ?_
    rintro e' w1 ⟨rfl,hb⟩
    have B1:=Lib.hid (bel_boxed hb)
    obtain ⟨c0,c1,c2,s1⟩:=box_cells hb
    clear hb
    go_wp2_with fail
    refine (KS.out _ (HE.out.below B1.out).sgn).mono ?_
    rintro e' w2 ⟨rfl,rfl⟩
    go_wp2_with fail
    refine (KP.out _ (HE.out.below B1.out).env).mono ?_
    rintro e' w2 ⟨rfl,hb⟩
    have B2:=Lib.hid (bel_2 B1.out hb)
    clear hb
    go_wp2
    go_ret
    exact ⟨by rw [X.out];rfl,B2.out⟩
   ·have X:=Lib.hid (show rightA (B n) op (B v)=false by unfold rightA;rw [if_neg h0,decide_eq_false ho,Bool.false_and,Bool.and_false])
    have t1:=sign_none ho
    generalize mk (signL op)=sg at *
    clear hn h0 ho
    go_enter Tryz.func76,Tryz.ntmps76
    go_wp2_with fail
    refine (KN.out _).mono ?_
    rintro e' w1 ⟨rfl,hb⟩
    have B1:=Lib.hid (bel_boxed hb)
    obtain ⟨c0,c1,c2,s1⟩:=box_cells hb
    clear hb
    go_wp2_with fail
    refine (KS.out _ (HE.out.below B1.out).sgn).mono ?_
    rintro e' w2 ⟨rfl,rfl⟩
    go_wp2
    go_ret
    exact ⟨by rw [X.out];rfl,B1.out⟩
theorem printA_size {n v:List Nat} {op:Int}:(printA n op v).length≤110:=by
 unfold printA
 split
 ·rename_i h
  unfold rightA at h
  simp only [Bool.and_eq_true] at h
  have hn:=name_len h.1
  unfold textA
  split
  ·omega
  ·rename_i h0
   rw [if_neg h0] at h
   simp only [Bool.and_eq_true,decide_eq_true_eq] at h
   have hv:=pr_len h.2.2
   have:op=1∨op=2∨op=3∨op=4∨op=5:=by omega
   have hsg:(signL op).length≤2:=by rcases this with rfl|rfl|rfl|rfl|rfl<;>decide
   simp only [List.length_append,List.length_cons,List.length_nil]
   omega
 ·exact Nat.zero_le _
theorem rsign_drewN (op:Int) (w:World) (m:Nat) (E:Sgn w):Calls Tryz.prog 132 #[.int .i64 op] (w.drewN m) fun e w'=>e=.returned (.string (mk (signL op)))∧w'=w.drewN m:=
 (rsign_any op (w.drewN m) (E.below ⟨rfl,rfl,rfl,Nat.le_refl _,fun _ _=>rfl⟩)).mono fun _ _ h=>⟨h.1,h.2.symm⟩
theorem rprint_any (n:ByteArray) (op:Int) (v:ByteArray) (w:World) (E:EnvR w):Calls Tryz.prog 138 #[.agg #[.string n,.int .i64 op,.string v]] w fun e' w'=>e'=.returned (.string (mk (printA (B n) op (B v))))∧Below w.heap.size w w':=by
 have HE:=Lib.hid E
 clear E
 have KR:=Lib.hid (fun w E=>rright_any n op v w E)
 cases hr:rightA (B n) op (B v)
 ·have X:=Lib.hid (show printA (B n) op (B v)=[] by unfold printA;rw [hr];rfl)
  rw [hr] at KR
  clear hr
  go_enter Tryz.func138,Tryz.ntmps138
  go_wp2_with fail
  refine (KR.out _ (HE.out.alloc _)).mono ?_
  rintro e' w1 ⟨rfl,hb⟩
  have B1:=Lib.hid (bel_boxed hb)
  clear hb
  go_wp2
  go_ret
  exact ⟨by rw [X.out];rfl,B1.out⟩
 ·by_cases h0:op=0
  ·have X:=Lib.hid (show mk (printA (B n) op (B v))=n by unfold printA textA;rw [if_pos hr,if_pos h0,mk_B])
   have t0:(op==0)=true:=by rw [beq_iff_eq];exact h0
   rw [hr] at KR
   clear hr h0
   go_enter Tryz.func138,Tryz.ntmps138
   go_wp2_with fail
   refine (KR.out _ (HE.out.alloc _)).mono ?_
   rintro e' w1 ⟨rfl,hb⟩
   have B1:=Lib.hid (bel_boxed hb)
   obtain ⟨c0,c1,c2,s1⟩:=box_cells hb
   clear hb
   go_wp2
   go_ret
   exact ⟨by rw [X.out];rfl,B1.out⟩
  ·have t0:(op==0)=false:=by rw [beq_eq_false_iff_ne];exact h0
   have hsz:=@printA_size (B n) (B v) op
   have hb0:=(show printA (B n) op (B v)=B n++32::40::(signL op++32::(B v++[41])) by unfold printA textA;rw [if_pos hr,if_neg h0])
   have hls:(mk (signL op)).size=(signL op).length:=size_mk _
   have hsl:∀c ∈ signL op,c < 256:=by
    have hr2:=hr
    unfold rightA at hr2
    rw [if_neg h0] at hr2
    simp only [Bool.and_eq_true,decide_eq_true_eq] at hr2
    have:op=1∨op=2∨op=3∨op=4∨op=5:=by omega
    rcases this with rfl|rfl|rfl|rfl|rfl<;>decide
   have X:=Lib.hid (show n++{ data:=#[32,40] }++mk (signL op)++{ data:=#[32] }++v++{ data:=#[41] }=mk (printA (B n) op (B v)) by
    rw [hb0]
    refine eq_mk ?_
    simp only [B_append]
    rw [B_mk hsl]
    simp [B])
   rw [hb0] at hsz
   simp only [List.length_append,List.length_cons,B_len] at hsz
   have z1:n.size≤110:=by omega
   have z2:v.size≤110:=by omega
   have z3:(mk (signL op)).size≤110:=by omega
   have KS:=Lib.hid (fun w E m=>rsign_drewN op w m E)
   generalize mk (signL op)=sg at *
   rw [hr] at KR
   clear hr h0 hsz hb0 hls hsl
   obtain ⟨N1,e1,k1⟩:=add_out n { data:=#[32,40] } 110 2 z1 (by decide)
   obtain ⟨N2,e2,k2⟩:=add_out N1 sg 112 110 k1.2 z3
   obtain ⟨N3,e3,k3⟩:=add_out N2 { data:=#[32] } 222 1 k2.2 (by decide)
   obtain ⟨N4,e4,k4⟩:=add_out N3 v 223 110 k3.2 z2
   obtain ⟨N5,e5,k5⟩:=add_out N4 { data:=#[41] } 333 1 k4.2 (by decide)
   rw [←k1.1,←k2.1,←k3.1,←k4.1,←k5.1] at X
   clear k1 k2 k3 k4 k5
   go_enter Tryz.func138,Tryz.ntmps138
   go_wp2_with fail
   refine (KR.out _ (HE.out.alloc _)).mono ?_
   rintro e' w1 ⟨rfl,hb⟩
   have B1:=Lib.hid (bel_boxed hb)
   obtain ⟨c0,c1,c2,s1⟩:=box_cells hb
   clear hb
   have ES:=Lib.hid (HE.out.below B1.out).sgn
   go_wp2_with fail
   go_quiet (first|(go_at_call 132;refine Calls.quiet_of_same (KS.out _ ES.out _)))
   go_wp2
   go_ret
   exact ⟨by rw [←X.out];rfl,bel_d B1.out _⟩
theorem right_no_many {L:List (List Atm)} (h:¬L.length≤12):rightG L=false:=by unfold rightG;rw [decide_eq_false h];rfl
theorem right_stop {L:List (List Atm)} {k:Nat} (hk:k < L.length) (h:rgtOne L[k]=false):rightG L=false:=by unfold rightG;rw [all_stopL hk h];simp
theorem right_all {L:List (List Atm)} (h:(L.take L.length).all rgtOne=true):rightG L=decide (L.length≤12):=by rw [List.take_length] at h;unfold rightG;rw [h];simp
theorem rgtOne_stop {g:List Atm} {k:Nat} (hk:k < g.length) (h:rgt g[k]=false):rgtOne g=false:=by unfold rgtOne;rw [all_stopL hk h];simp
theorem rgtOne_len {g:List Atm} (h:¬(1≤g.length∧g.length≤6)):rgtOne g=false:=by
 unfold rgtOne
 rw [Bool.and_eq_false_iff,Bool.and_eq_false_iff,decide_eq_false_iff_not,decide_eq_false_iff_not];omega
theorem rgtOne_yes {g:List Atm} (h1:1≤g.length) (h2:g.length≤6) (h:(g.take g.length).all rgt=true):rgtOne g=true:=by
 rw [List.take_length] at h;unfold rgtOne;rw [decide_eq_true h1,decide_eq_true h2,h];rfl
theorem rright_atom (x:Atm) (w:World) (E:EnvR w):Calls Tryz.prog 76 #[.agg #[.string x.n,.int .i64 x.o,.string x.v]] w fun e' w'=>e'=.returned (.bool (rgt x))∧Below w.heap.size w w':=rright_any x.n x.o x.v w E
theorem atm_box {w w1:World} {T:TypeId} {x y z:Value} (h:Below (w.alloc (.cells #[x,y,z] T)).heap.size (w.alloc (.cells #[x,y,z] T)) w1):Below w.heap.size w w1:=(((Below.refl _ w).alloc (Nat.le_refl _) _).trans (h.mono (by simp)))
set_option maxHeartbeats 1000000 in
theorem rightGroup_any (A:Option Addr) (n c:Nat) (g:List Atm) (w:World) (h:rdAtms w (lt_ w.heap.size) g [.slice A n c]) (E:EnvR w) :
  Calls Tryz.prog 131 #[.slice A n c] w fun e w'=>e=.returned (.bool (rgtOne g))∧Below w.heap.size w w':=by
 obtain ⟨rfl,hnc,hcm,_⟩:=rdAtms_at h
 have hcm':c≤9223372036854775807:=hcm
 have HE:=Lib.hid E
 have HR:=Lib.hid h
 clear E h
 by_cases hl0:g.length=0
 ·have X:=Lib.hid (rgtOne_len (g:=g) (by omega))
  have t0:((g.length:Int)==0)=true:=by rw [beq_iff_eq];omega
  have HL:=Lib.hid hl0
  clear hl0
  go_enter Tryz.func131,Tryz.ntmps131
  go_wp2
  go_ret
  exact ⟨by rw [X.out];try rfl,Below.refl _ _⟩
 by_cases hl6:6 < g.length
 ·have X:=Lib.hid (rgtOne_len (g:=g) (by omega))
  have t0:((g.length:Int)==0)=false:=by rw [beq_eq_false_iff_ne];omega
  have t1:(6:Int) < g.length:=by omega
  go_enter Tryz.func131,Tryz.ntmps131
  go_wp2
  go_ret
  exact ⟨by rw [X.out];try rfl,Below.refl _ _⟩
 have t0:((g.length:Int)==0)=false:=by rw [beq_eq_false_iff_ne];omega
 have t1:¬(6:Int) < g.length:=by omega
 go_enter Tryz.func131,Tryz.ntmps131
 go_wp2
 go_loopw [4,15] (fun b i wr=>∃k:Nat,k≤g.length∧i=.int .i64 k∧(g.take k).all rgt=true∧Below w.heap.size w wr) (fun _ i _=>g.length - (intOf i).toNat)
 case atStart=>exact ⟨0,Nat.zero_le _,rfl,rfl,Below.refl _ _⟩
 case round=>
  obtain ⟨k,hk,rfl,hall,hbel⟩:=hrel
  by_cases hlt:k < g.length
  ·obtain ⟨ad,rfl,had,e0,e1,e2⟩:=(rdAtms_at (rdAtms_good.below HR.out hbel)).2.2.2 k hlt
   have T2:=Lib.hid (all_takeL rgt g k hlt)
   have Z2:=Lib.hid (rgtOne_stop (g:=g) (k:=k) hlt)
   have A2:=Lib.hid hall
   have HB:=Lib.hid hbel
   have EE:=Lib.hid (HE.out.below hbel)
   clear hall hbel
   generalize g[k]=x at *
   have K:=Lib.hid (fun w E=>rright_atom x w E)
   cases hr:rgt x
   ·have R:=Lib.hid hr
    rw [hr] at K
    clear hr
    go_wp2_with (go_at_call 76;refine (K.out _ (EE.out.alloc _)).mono ?_;rintro e w3 ⟨rfl,hb3⟩)
    go_ret
    exact ⟨by rw [Z2.out R.out];try rfl,bel2 HB.out (atm_box hb3) (Nat.le_refl _)⟩
   ·have R:=Lib.hid hr
    rw [hr] at K
    clear hr
    go_wp2_with (go_at_call 76;refine (K.out _ (EE.out.alloc _)).mono ?_;rintro e w3 ⟨rfl,hb3⟩)
    go_roundw
    case rel=>exact ⟨k+1,by omega,by go_num,by rw [T2.out,A2.out,R.out];rfl,bel2 HB.out (atm_box hb3) (Nat.le_refl _)⟩
    case measure=>simp [intOf];omega
  ·obtain rfl:k=g.length:=by omega
   have X:=Lib.hid (rgtOne_yes (g:=g) (by omega) (by omega) hall)
   clear hall
   go_wp2
   go_ret
   exact ⟨by rw [X.out];try rfl,hbel⟩
set_option maxHeartbeats 1000000 in
theorem right4_any (A:Option Addr) (n c:Nat) (L:List (List Atm)) (w:World) (h:rdGrps w (lt_ w.heap.size) L [.slice A n c]) (E:EnvR w) :
  Calls Tryz.prog 74 #[.slice A n c] w fun e w'=>e=.returned (.bool (rightG L))∧Below w.heap.size w w':=by
 obtain ⟨rfl,hnc,hcm,_⟩:=rdGrps_at h
 have hcm':c≤9223372036854775807:=hcm
 have HE:=Lib.hid E
 have HR:=Lib.hid h
 clear E h
 by_cases h12:L.length≤12
 ·have t1:¬(12:Int) < L.length:=by omega
  go_enter Tryz.func74,Tryz.ntmps74
  go_wp2
  go_loopw [4,10] (fun b i wr=>∃k:Nat,k≤L.length∧i=.int .i64 k∧(L.take k).all rgtOne=true∧Below w.heap.size w wr) (fun _ i _=>L.length - (intOf i).toNat)
  case atStart=>exact ⟨0,Nat.zero_le _,rfl,rfl,Below.refl _ _⟩
  case round=>
   obtain ⟨k,hk,rfl,hall,hbel⟩:=hrel
   by_cases hlt:k < L.length
   ·obtain ⟨ad,A',c',rfl,had,e0,e1⟩:=(rdGrps_at (rdGrps_good.below HR.out hbel)).2.2.2 k hlt
    have T2:=Lib.hid (all_takeL rgtOne L k hlt)
    have Z2:=Lib.hid (right_stop (L:=L) (k:=k) hlt)
    have A2:=Lib.hid hall
    have HB:=Lib.hid hbel
    have K:=Lib.hid (rightGroup_any _ _ _ _ _ (rdAtms_good.up e1 hbel.size) (HE.out.below hbel))
    clear hall hbel e1
    generalize L[k]=g at *
    cases hr:rgtOne g
    ·have R:=Lib.hid hr
     rw [hr] at K
     clear hr
     go_wp2_with (go_at_call 131;refine (K.out).mono ?_;rintro e w3 ⟨rfl,hb3⟩)
     go_ret
     exact ⟨by rw [Z2.out R.out];try rfl,bel2 HB.out hb3 (Nat.le_refl _)⟩
    ·have R:=Lib.hid hr
     rw [hr] at K
     clear hr
     go_wp2_with (go_at_call 131;refine (K.out).mono ?_;rintro e w3 ⟨rfl,hb3⟩)
     go_roundw
     case rel=>exact ⟨k+1,by omega,by go_num,by rw [T2.out,A2.out,R.out];rfl,bel2 HB.out hb3 (Nat.le_refl _)⟩
     case measure=>simp [intOf];omega
   ·obtain rfl:k=L.length:=by omega
    have X:=Lib.hid (show rightG L=true by rw [right_all hall,decide_eq_true h12])
    clear hall
    go_wp2
    go_ret
    exact ⟨by rw [X.out];try rfl,hbel⟩
 ·have X:=Lib.hid (right_no_many (L:=L) h12)
  have t1:(12:Int) < L.length:=by omega
  go_enter Tryz.func74,Tryz.ntmps74
  go_wp2
  go_ret
  exact ⟨by rw [X.out];try rfl,Below.refl _ _⟩
end Go.Proofs.YtboinnjncaehkaaGreatDoor
