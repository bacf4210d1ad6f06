/- What the laws rest on: E12a, E12b, Str, Deep. -/
import Derived.Test.YtgjlgdpbmhdnbaaDoorProg
import Derived.WalkKit
import Derived.Lib.Hide
import Derived.Maps.AppendAt
import Derived.OwnWalk
import Derived.Below
import Derived.OneCell
import Derived.BigQuiet
import Derived.RangeFuncOwn
import Derived.OwnWalkIn
set_option maxRecDepth 100000
set_option linter.unusedVariables false
set_option linter.unusedSimpArgs false
namespace Go.Proofs.YtgjlgdpbmhdnbaaDoor
def litN (n:Nat) (x:Int):Prop:=x≠0∧-(n:Int)≤x∧x≤n
def plc (x:Int):Nat:=x.natAbs - 1
def tv (a:List Int) (x:Int):Int:=if 1≤x.natAbs∧x.natAbs≤a.length then (a[plc x]!).sign*x.sign else 0
theorem tv_neg (a:List Int) (x:Int):tv a (-x)=- tv a x:=by
 unfold tv plc
 rw [Int.natAbs_neg,Int.sign_neg]
 split
 ·rw [Int.mul_neg]
 ·rfl
theorem tv_three (a:List Int) (x:Int):tv a x=1∨tv a x=-1∨tv a x=0:=by
 unfold tv
 split
 ·have s1:∀y:Int,y.sign=1∨y.sign=-1∨y.sign=0:=fun y=>by
   rcases Int.lt_trichotomy y 0 with h|h|h
   ·exact Or.inr (Or.inl (Int.sign_eq_neg_one_of_neg h))
   ·subst h;exact Or.inr (Or.inr rfl)
   ·exact Or.inl (Int.sign_eq_one_of_pos h)
  rcases s1 (a[plc x]!) with h|h|h<;>rcases s1 x with g|g|g<;>rw [h,g]<;>decide
 ·exact Or.inr (Or.inr rfl)
theorem tv_lit {a:List Int} {x:Int} (h:tv a x≠0):litN a.length x:=by
 unfold tv at h
 split at h
 ·exact ⟨by omega,by omega,by omega⟩
 ·exact absurd rfl h
theorem litN_neg {n:Nat} {x:Int} (h:litN n x):litN n (-x):=by
 obtain ⟨h1,h2,h3⟩:=h
 exact ⟨by omega,by omega,by omega⟩
inductive Der (l:List (List Int)) (g:List Int):Int→Prop
 | giv {x:Int}:x ∈ g→Der l g x
 | one {c:List Int} {x:Int}:c ∈ l→x ∈ c→(∀y ∈ c,y≠x→Der l g (-y))→Der l g x
def Bad (n:Nat) (l:List (List Int)) (g:List Int):Prop:=(∃x ∈ g,¬litN n x)∨(∃x,Der l g x∧Der l g (-x))∨[] ∈ l
def IsU (n:Nat) (l:List (List Int)) (g:List Int) (r:List Int) (ok:Bool):Prop:=
 (ok=false∧r=[]∧Bad n l g)∨(ok=true∧¬Bad n l g∧r.length=n∧(∀i,i < n→r[i]! = 1∨r[i]! = -1∨r[i]! = 0)∧∀x,Der l g x↔tv r x=1)
theorem tv_at {r:List Int} {i:Nat} (hi:i < r.length) (h3:r[i]! = 1∨r[i]! = -1∨r[i]! = 0):tv r ((i:Int)+1)=r[i]! :=by
 have e:((i:Int)+1).natAbs=i+1:=by omega
 have e2:((i:Int)+1).sign=1:=Int.sign_eq_one_of_pos (by omega)
 unfold tv plc
 rw [e,e2,if_pos ⟨by omega,by omega⟩,Int.mul_one,Nat.add_sub_cancel]
 rcases h3 with h|h|h<;>rw [h]<;>decide
theorem isU_one {n:Nat} {l:List (List Int)} {g r r':List Int} {ok ok':Bool} (h:IsU n l g r ok) (h':IsU n l g r' ok'):r=r'∧ok=ok':=by
 rcases h with ⟨h1,h2,h3⟩|⟨h1,h2,h3,h4,h5⟩<;>rcases h' with ⟨g1,g2,g3⟩|⟨g1,g2,g3,g4,g5⟩
 ·exact ⟨h2.trans g2.symm,h1.trans g1.symm⟩
 ·exact absurd h3 g2
 ·exact absurd g3 h2
 ·refine ⟨?_,h1.trans g1.symm⟩
  refine List.ext_getElem (h3.trans g3.symm) fun i hi hi'=>?_
  have a:=tv_at hi (h4 i (by omega))
  have b:=tv_at hi' (g4 i (by omega))
  have k1:∀x,tv r x=1↔tv r' x=1:=fun x=>(h5 x).symm.trans (g5 x)
  have k2:tv r ((i:Int)+1)=tv r' ((i:Int)+1):=by
   have p:=k1 ((i:Int)+1)
   have q:=k1 (-((i:Int)+1))
   rw [tv_neg,tv_neg] at q
   rcases tv_three r ((i:Int)+1) with u|u|u<;>rcases tv_three r' ((i:Int)+1) with v|v|v<;>rw [u,v] at p q ⊢<;>simp at p q
  rw [getElem!_pos r i hi] at a
  rw [getElem!_pos r' i hi'] at b
  rw [←a,←b,k2]
theorem der_model {l:List (List Int)} {g:List Int} (M:Int→Prop) (hM:∀x,¬(M x∧M (-x))) (hl:∀c ∈ l,∃x ∈ c,M x) (hg:∀x ∈ g,M x) {x:Int} (h:Der l g x):M x:=by
 induction h with
 | giv h=>exact hg _ h
 | one hc hx hy ih=>
  rename_i c x
  obtain ⟨z,hz,hm⟩:=hl _ hc
  by_cases e:z=x
  ·exact e ▸ hm
  ·exact absurd ⟨hm,ih z hz e⟩ (hM z)
theorem bad_of {n:Nat} {l:List (List Int)} {g c:List Int} (hc:c ∈ l) (h:∀y ∈ c,Der l g (-y)):Bad n l g:=by
 cases c with
 | nil=>exact Or.inr (Or.inr hc)
 | cons x t=>exact Or.inr (Or.inl ⟨x,Der.one hc List.mem_cons_self fun y hy _=>h y hy,h x List.mem_cons_self⟩)
theorem der_of {l:List (List Int)} {g c:List Int} {x:Int} (hc:c ∈ l) (hx:x ∈ c) (h:∀y ∈ c,y=x∨Der l g (-y)):Der l g x:=Der.one hc hx fun y hy hne=>(h y hy).resolve_left hne
theorem der_closed {l:List (List Int)} {g a:List Int} (hg:∀x ∈ g,tv a x=1) (hl:∀c ∈ l,(∃x ∈ c,tv a x=1)∨∃x ∈ c,∃y ∈ c,x≠y∧tv a x≠-1∧tv a y≠-1) {x:Int} (h:Der l g x):tv a x=1:=by
 induction h with
 | giv h=>exact hg _ h
 | one hc hx hy ih=>
  rename_i c x
  have f:∀y ∈ c,y≠x→tv a y=-1:=fun y hy' hne=>by have:=ih y hy' hne;rw [tv_neg] at this;omega
  rcases hl c hc with ⟨z,hz,ht⟩|⟨z,hz,y,hy',hne,h1,h2⟩
  ·by_cases e:z=x
   ·exact e ▸ ht
   ·exact absurd (f z hz e) (by omega)
  ·by_cases e:z=x
   ·exact absurd (f y hy' (fun e'=>hne (e.trans e'.symm))) h2
   ·exact absurd (f z hz e) h1
theorem isU_of {n:Nat} {l:List (List Int)} {g a:List Int} (hn:a.length=n) (h3:∀i,i < n→a[i]! = 1∨a[i]! = -1∨a[i]! = 0) (hs:∀x,tv a x=1→Der l g x) (hg:∀x ∈ g,tv a x=1) (hl:∀c ∈ l,(∃x ∈ c,tv a x=1)∨∃x ∈ c,∃y ∈ c,x≠y∧tv a x≠-1∧tv a y≠-1):IsU n l g a true:=by
 refine Or.inr ⟨rfl,?_,hn,h3,fun x=>⟨der_closed hg hl,hs x⟩⟩
 rintro (⟨x,h1,h2⟩|⟨x,h1,h2⟩|h)
 ·exact h2 (hn ▸ tv_lit (by rw [hg x h1];decide))
 ·have a1:=der_closed hg hl h1
  have a2:=der_closed hg hl h2
  rw [tv_neg] at a2;omega
 ·rcases hl _ h with ⟨z,hz,_⟩|⟨z,hz,_⟩<;>exact absurd hz List.not_mem_nil
def putT (a:List Int) (x:Int):List Int:=a.set (plc x) x.sign
theorem plc_lt {n:Nat} {x:Int} (h:litN n x):plc x < n:=by obtain ⟨h1,h2,h3⟩:=h;unfold plc;omega
theorem plc_ne {n:Nat} {x y:Int} (h:litN n x) (g:litN n y) (e:plc x=plc y):x=y∨x=-y:=by
 obtain ⟨h1,_,_⟩:=h;obtain ⟨g1,_,_⟩:=g
 unfold plc at e;omega
theorem tv_put {a:List Int} {x:Int} (h:litN a.length x) (y:Int):tv (putT a x) y=if y=x then 1 else if y=-x then -1 else tv a y:=by
 have hx:=plc_lt h
 have h0:=h.1
 by_cases hy:1≤y.natAbs∧y.natAbs≤a.length
 ·have gy:litN a.length y:=⟨by omega,by omega,by omega⟩
  have hp:=plc_lt gy
  have e1:tv (putT a x) y=((putT a x)[plc y]!).sign*y.sign:=by unfold tv;rw [if_pos (by unfold putT;rw [List.length_set];exact hy)]
  have e2:tv a y=(a[plc y]!).sign*y.sign:=by unfold tv;rw [if_pos hy]
  rw [e1]
  have e3:(putT a x)[plc y]! = if plc x=plc y then x.sign else a[plc y]! :=by
   unfold putT
   rw [getElem!_pos (a.set (plc x) x.sign) (plc y) (by rw [List.length_set];exact hp),List.getElem_set,getElem!_pos a (plc y) hp]
  have ss:∀z:Int,z.sign.sign=z.sign:=fun z=>by
   rcases Int.lt_trichotomy z 0 with k|k|k
   ·rw [Int.sign_eq_neg_one_of_neg k];rfl
   ·subst k;rfl
   ·rw [Int.sign_eq_one_of_pos k];rfl
  have sm:x.sign*x.sign=1:=by
   rcases Int.lt_trichotomy x 0 with k|k|k
   ·rw [Int.sign_eq_neg_one_of_neg k];rfl
   ·exact absurd k h0
   ·rw [Int.sign_eq_one_of_pos k];rfl
  rw [e3]
  by_cases ep:plc x=plc y
  ·rw [if_pos ep,ss]
   rcases plc_ne gy h ep.symm with e|e
   ·rw [if_pos e,e,sm]
   ·rw [if_neg (by omega),if_pos e,e,Int.sign_neg,Int.mul_neg,sm]
  ·rw [if_neg ep,if_neg (fun e=>ep (by rw [e])),if_neg (fun e=>ep (by rw [e];unfold plc;rw [Int.natAbs_neg])),e2]
 ·have e1:tv (putT a x) y=0:=by unfold tv;rw [if_neg (by unfold putT;rw [List.length_set];exact hy)]
  have e2:tv a y=0:=by unfold tv;rw [if_neg hy]
  obtain ⟨h1,h2,h3⟩:=h
  rw [e1,e2,if_neg (by omega),if_neg (by omega)]
theorem putT_len (a:List Int) (x:Int):(putT a x).length=a.length:=by unfold putT;rw [List.length_set]
theorem putT_three {a:List Int} {x:Int} (h:litN a.length x) (h3:∀i,i < a.length→a[i]! = 1∨a[i]! = -1∨a[i]! = 0):∀i,i < a.length→(putT a x)[i]! = 1∨(putT a x)[i]! = -1∨(putT a x)[i]! = 0:=by
 intro i hi
 unfold putT
 rw [getElem!_pos (a.set (plc x) x.sign) i (by rw [List.length_set];exact hi),List.getElem_set]
 split
 ·rcases Int.lt_trichotomy x 0 with k|k|k
  ·exact Or.inr (Or.inl (Int.sign_eq_neg_one_of_neg k))
  ·exact absurd k h.1
  ·exact Or.inl (Int.sign_eq_one_of_pos k)
 ·rw [←getElem!_pos a i hi];exact h3 i hi
def nz (a:List Int):Nat:=a.countP fun x=>decide (x≠0)
theorem nz_le (a:List Int):nz a≤a.length:=List.countP_le_length
theorem nz_put {a:List Int} {x:Int} (h:litN a.length x) (h0:a[plc x]! = 0):nz (putT a x)=nz a+1:=by
 have hp:=plc_lt h
 unfold nz putT
 rw [List.countP_set hp]
 rw [getElem!_pos a (plc x) hp] at h0
 have:x.sign≠0:=fun e=>h.1 (Int.sign_eq_zero_iff_zero.1 e)
 simp [h0,this]
theorem tv_zero {a:List Int} {x:Int} (h:litN a.length x) (h3:∀i,i < a.length→a[i]! = 1∨a[i]! = -1∨a[i]! = 0):tv a x=0↔a[plc x]! = 0:=by
 have hp:=plc_lt h
 have h0:=h.1
 unfold tv
 rw [if_pos ⟨by omega,by obtain ⟨_,_,_⟩:=h;omega⟩,Int.mul_eq_zero,Int.sign_eq_zero_iff_zero,Int.sign_eq_zero_iff_zero]
 constructor
 ·rintro (e|e)
  ·exact e
  ·exact absurd e h0
 ·exact Or.inl
instance (n:Nat) (x:Int):Decidable (litN n x):=by unfold litN;infer_instance
structure Wt where
 a:Int
 b:Int
 r:List Int
 deriving Inhabited
structure Sp where
 t:List Int
 made:List Int
 ws:List Wt
 wl:Nat→List Nat
def nx (a:List Int) (kept:Int):List Int→Option (Int × List Int)
 | []=>none
 | x::r=>if x≠kept∧¬tv a x < 0 then some (x,r) else nx a kept r
def atP (n:Nat) (x:Int):Nat:=(x+n).toNat
def upW (f:Nat→List Nat) (p:Nat) (v:List Nat):Nat→List Nat:=fun q=>if q=p then v else f q
theorem upW_same (f:Nat→List Nat) (p:Nat) (v:List Nat):upW f p v p=v:=if_pos rfl
theorem upW_ne {f:Nat→List Nat} {p q:Nat} {v:List Nat} (h:q≠p):upW f p v q=f q:=if_neg h
theorem upW_self (f:Nat→List Nat) (p:Nat):upW f p (f p)=f:=funext fun q=>by unfold upW;split<;>simp_all
theorem atP_inj {n:Nat} {x y:Int} (h:litN n x) (g:litN n y) (e:atP n x=atP n y):x=y:=by
 obtain ⟨_,_,_⟩:=h;obtain ⟨_,_,_⟩:=g;unfold atP at e;omega
def putS (s:Sp) (x:Int):Option Sp:=if ¬litN s.t.length x∨tv s.t x < 0 then none else if tv s.t x=0 then some { s with t:=putT s.t x,made:=s.made++[x] } else some s
def watchS (s:Sp) (j:Nat) (x:Int):Sp:={ s with wl:=upW s.wl (atP s.t.length x) (s.wl (atP s.t.length x)++[j]) }
def pairS (s:Sp) (j:Nat) (kept:Int):Option Sp:=
 match nx s.t kept (s.ws[j]!).r with
 | some (x,r)=>some (watchS { s with ws:=s.ws.set j ⟨kept,x,r⟩ } j x)
 | none=>putS s kept
theorem nx_some {a:List Int} {kept x:Int} {l r:List Int} (h:nx a kept l=some (x,r)):x ∈ l∧x≠kept∧tv a x≠-1∧(∀y ∈ r,y ∈ l)∧∀y ∈ l,y=x∨y ∈ r∨y=kept∨tv a y=-1:=by
 induction l with
 | nil=>cases h
 | cons z t ih=>
  unfold nx at h
  split at h
  ·rename_i hc
   cases h
   exact ⟨List.mem_cons_self,hc.1,by omega,fun y hy=>List.mem_cons_of_mem _ hy,fun y hy=>by rcases List.mem_cons.1 hy with e|e;exact Or.inl e;exact Or.inr (Or.inl e)⟩
  ·rename_i hc
   obtain ⟨h1,h2,h3,h4,h5⟩:=ih h
   refine ⟨List.mem_cons_of_mem _ h1,h2,h3,fun y hy=>List.mem_cons_of_mem _ (h4 y hy),fun y hy=>?_⟩
   rcases List.mem_cons.1 hy with e|e
   ·by_cases k:y=kept
    ·exact Or.inr (Or.inr (Or.inl k))
    ·have:=tv_three a y
     subst e
     exact Or.inr (Or.inr (Or.inr (by rcases this with g|g|g;exact absurd ⟨k,by omega⟩ hc;exact g;exact absurd ⟨k,by omega⟩ hc)))
   ·exact h5 y e
theorem nx_none {a:List Int} {kept:Int} {l:List Int} (h:nx a kept l=none):∀y ∈ l,y=kept∨tv a y=-1:=by
 induction l with
 | nil=>intro y hy;exact absurd hy List.not_mem_nil
 | cons z t ih=>
  unfold nx at h
  split at h
  ·cases h
  ·rename_i hc
   intro y hy
   rcases List.mem_cons.1 hy with e|e
   ·by_cases k:y=kept
    ·exact Or.inl k
    ·have:=tv_three a y
     subst e
     exact Or.inr (by rcases this with g|g|g;exact absurd ⟨k,by omega⟩ hc;exact g;exact absurd ⟨k,by omega⟩ hc)
   ·exact ih h y e
def Sat (t c:List Int):Prop:=∃x ∈ c,tv t x=1
def Cl (n : Nat) (s : Sp) (i : Nat) (c : List Int) (j : Nat) : Prop :=
  (∀ y ∈ (s.ws[j]!).r, y ∈ c) ∧
  ((Sat s.t c ∧ ∀ y, litN n y → j ∈ s.wl (atP n y) → tv s.t y = 1) ∨
   ((s.ws[j]!).a ≠ (s.ws[j]!).b ∧ (s.ws[j]!).a ∈ c ∧ (s.ws[j]!).b ∈ c ∧ (∀ y ∈ c, y = (s.ws[j]!).a ∨ y = (s.ws[j]!).b ∨ y ∈ (s.ws[j]!).r ∨ tv s.t y = -1) ∧
    (∀ y, litN n y → j ∈ s.wl (atP n y) → y = (s.ws[j]!).a ∨ y = (s.ws[j]!).b) ∧
    (Sat s.t c ∨ ∀ v, (v = (s.ws[j]!).a ∨ v = (s.ws[j]!).b) → -v ∉ s.made.take i ∧ j ∈ s.wl (atP n v))))
structure Iv (n:Nat) (l:List (List Int)) (g:List Int) (cs:List (List Int)) (s:Sp) (i:Nat):Prop where
 len:s.t.length=n
 three:∀k,k < n→s.t[k]! = 1∨s.t[k]! = -1∨s.t[k]! = 0
 snd:∀x,tv s.t x=1→Der l g x
 mt:∀x ∈ s.made,tv s.t x=1
 tm:∀x,tv s.t x=1→x ∈ s.made
 nzl:nz s.t=s.made.length
 il:i≤s.made.length
 wsl:s.ws.length=cs.length
 wlb:∀p,∀j ∈ s.wl p,j < cs.length
 nd:∀p,(s.wl p).Nodup
 cl:∀j,j < cs.length→Cl n s i cs[j]! j
theorem sat_gro {t t' c:List Int} (h:∀y,tv t y=1→tv t' y=1) (hs:Sat t c):Sat t' c:=by obtain ⟨x,h1,h2⟩:=hs;exact ⟨x,h1,h _ h2⟩
theorem gro_neg {t t':List Int} (h:∀y,tv t y=1→tv t' y=1) {y:Int} (hy:tv t y=-1):tv t' y=-1:=by
 have:=h (-y) (by rw [tv_neg];omega)
 rw [tv_neg] at this;omega
theorem cl_gro {n:Nat} {s s':Sp} {i:Nat} {c:List Int} {j:Nat} (h:∀y,tv s.t y=1→tv s'.t y=1) (hw:s'.ws=s.ws) (hl:s'.wl=s.wl) (hm:s'.made.take i=s.made.take i) (H:Cl n s i c j):Cl n s' i c j:=by
 unfold Cl at H ⊢
 rw [hw,hl,hm]
 obtain ⟨h0,H⟩:=H
 refine ⟨h0,?_⟩
 rcases H with ⟨h1,h2⟩|⟨h1,h2,h3,h4,h5,h6⟩
 ·exact Or.inl ⟨sat_gro h h1,fun y hy hj=>h _ (h2 y hy hj)⟩
 ·refine Or.inr ⟨h1,h2,h3,fun y hy=>?_,h5,h6.imp (sat_gro h) id⟩
  rcases h4 y hy with e|e|e|e
  ·exact Or.inl e
  ·exact Or.inr (Or.inl e)
  ·exact Or.inr (Or.inr (Or.inl e))
  ·exact Or.inr (Or.inr (Or.inr (gro_neg h e)))
theorem put_iv {n:Nat} {l:List (List Int)} {g:List Int} {cs:List (List Int)} {s:Sp} {i:Nat} {x:Int} (I:Iv n l g cs s i) (hx:litN n x) (h1:tv s.t x≠-1) (hd:Der l g x) :
  ∃s',putS s x=some s'∧Iv n l g cs s' i∧tv s'.t x=1∧(∀y,tv s.t y=1→tv s'.t y=1)∧s'.ws=s.ws∧s'.wl=s.wl∧∃e,s'.made=s.made++e:=by
 have hxl:litN s.t.length x:=by rw [I.len];exact hx
 have h3:=tv_three s.t x
 unfold putS
 rw [if_neg (by rintro (k|k);exact k hxl;omega)]
 by_cases h0:tv s.t x=0
 ·rw [if_pos h0]
  have gr:∀y,tv s.t y=1→tv (putT s.t x) y=1:=fun y hy=>by
   rw [tv_put hxl]
   by_cases e:y=x
   ·rw [if_pos e]
   ·rw [if_neg e]
    by_cases e2:y=-x
    ·rw [e2,tv_neg] at hy;omega
    ·rw [if_neg e2];exact hy
  have tx:tv (putT s.t x) x=1:=by rw [tv_put hxl,if_pos rfl]
  have th:=putT_three hxl (by rw [I.len];exact I.three)
  have tk:(s.made++[x]).take i=s.made.take i:=List.take_append_of_le_length I.il
  refine ⟨_,rfl,⟨(putT_len _ _).trans I.len,fun k hk=>th k (by rw [I.len];exact hk),fun y hy=>?_,fun y hy=>?_,fun y hy=>?_,?_,?_,I.wsl,I.wlb,I.nd,fun j hj=>cl_gro gr rfl rfl tk (I.cl j hj)⟩,tx,gr,rfl,rfl,[x],rfl⟩
  ·by_cases e:y=x
   ·exact e ▸ hd
   ·have hy':=hy
    rw [tv_put hxl,if_neg e] at hy'
    by_cases e2:y=-x
    ·rw [if_pos e2] at hy';omega
    ·rw [if_neg e2] at hy';exact I.snd y hy'
  ·rcases List.mem_append.1 hy with e|e
   ·exact gr y (I.mt y e)
   ·rw [List.mem_singleton.1 e];exact tx
  ·show y ∈ s.made++[x]
   by_cases e:y=x
   ·exact List.mem_append.2 (Or.inr (List.mem_singleton.2 e))
   ·have hy':=hy
    rw [tv_put hxl,if_neg e] at hy'
    by_cases e2:y=-x
    ·rw [if_pos e2] at hy';omega
    ·rw [if_neg e2] at hy';exact List.mem_append.2 (Or.inl (I.tm y hy'))
  ·show nz (putT s.t x)=(s.made++[x]).length
   rw [nz_put hxl ((tv_zero hxl (by rw [I.len];exact I.three)).1 h0),I.nzl,List.length_append];rfl
  ·show i≤(s.made++[x]).length
   rw [List.length_append];have:=I.il;omega
 ·rw [if_neg h0]
  exact ⟨s,rfl,I,by omega,fun _ h=>h,rfl,rfl,[],(List.append_nil _).symm⟩
theorem given_iv {n:Nat} {l:List (List Int)} {g:List Int} {cs:List (List Int)} {s:Sp} {i:Nat} {x:Int} (I:Iv n l g cs s i) (hx:x ∈ g) :
  (putS s x=none∧Bad n l g)∨∃s',putS s x=some s'∧Iv n l g cs s' i∧tv s'.t x=1∧(∀y,tv s.t y=1→tv s'.t y=1)∧s'.ws=s.ws∧s'.wl=s.wl:=by
 by_cases hl:litN n x
 ·by_cases h1:tv s.t x=-1
  ·refine Or.inl ⟨?_,Or.inr (Or.inl ⟨x,Der.giv hx,I.snd _ (by rw [tv_neg];omega)⟩)⟩
   unfold putS;rw [if_pos (Or.inr (by omega))]
  ·obtain ⟨s',a,b,c,d,e,f,_⟩:=put_iv I hl h1 (Der.giv hx)
   exact Or.inr ⟨s',a,b,c,d,e,f⟩
 ·refine Or.inl ⟨?_,Or.inl ⟨x,hx,hl⟩⟩
  unfold putS;rw [if_pos (Or.inl (by rw [I.len];exact hl))]
def cutW (s:Sp) (p:Nat) (v:List Nat):Sp:={ s with wl:=upW s.wl p v }
theorem cutW_self (s:Sp) (p:Nat):cutW s p (s.wl p)=s:=by unfold cutW;rw [upW_self]
theorem get_set {ws:List Wt} {j k:Nat} {v:Wt} (hj:j < ws.length):(ws.set j v)[k]! = if k=j then v else ws[k]! :=by
 by_cases hk:k < ws.length
 ·rw [getElem!_pos _ _ (by rw [List.length_set];exact hk),List.getElem_set]
  by_cases e:j=k
  ·rw [if_pos e,if_pos e.symm]
  ·rw [if_neg e,if_neg (fun h=>e h.symm),getElem!_pos ws k hk]
 ·rw [if_neg (by omega),getElem!_neg (ws.set j v) k (by rw [List.length_set];exact hk),getElem!_neg ws k hk]
theorem pair_iv {n:Nat} {l:List (List Int)} {g:List Int} {s:Sp} {i j:Nat} {rest:List Nat} {lost:Int} (R:∀c ∈ l,∀y ∈ c,litN n y) (hll:litN n lost) (hlo:tv s.t lost=-1) (I:Iv n l g l (cutW s (atP n lost) (j::rest)) i) :
  j < l.length∧litN n (if (s.ws[j]!).a=lost then (s.ws[j]!).b else (s.ws[j]!).a)∧
  ((pairS s j (if (s.ws[j]!).a=lost then (s.ws[j]!).b else (s.ws[j]!).a)=none∧Bad n l g)∨
  ∃s',pairS s j (if (s.ws[j]!).a=lost then (s.ws[j]!).b else (s.ws[j]!).a)=some s'∧Iv n l g l (cutW s' (atP n lost) rest) i∧s'.wl (atP n lost)=s.wl (atP n lost)∧tv s'.t lost=-1∧∃e,s'.made=s.made++e):=by
 have hj:j < l.length:=I.wlb (atP n lost) j (by show j ∈ upW s.wl _ _ _;rw [upW_same];exact List.mem_cons_self)
 have hc:=I.cl j hj
 have hjl:j ∈ (cutW s (atP n lost) (j::rest)).wl (atP n lost):=by show j ∈ upW s.wl _ _ _;rw [upW_same];exact List.mem_cons_self
 have hnr:j ∉ rest:=by have:=I.nd (atP n lost);rw [show (cutW s (atP n lost) (j::rest)).wl (atP n lost)=j::rest from upW_same _ _ _] at this;exact (List.nodup_cons.1 this).1
 have hcm:l[j]! ∈ l:=by rw [getElem!_pos l j hj];exact List.getElem_mem hj
 obtain ⟨c,hcd⟩:∃c,c=l[j]! :=⟨_,rfl⟩
 rw [←hcd] at hc hcm
 have hlen:s.t.length=n:=I.len
 have hwsl:j < s.ws.length:=by have:=I.wsl;show j < s.ws.length;rw [show s.ws.length=l.length from this];exact hj
 obtain ⟨h0,hc⟩:=hc
 rcases hc with ⟨_,h2⟩|⟨h1,h2,h3,h4,h5,h6⟩
 ·exact absurd (h2 lost hll hjl) (by show tv s.t lost≠1;omega)
 have hab:=h5 lost hll hjl
 obtain ⟨kept,hk⟩:∃kept,kept=if (s.ws[j]!).a=lost then (s.ws[j]!).b else (s.ws[j]!).a:=⟨_,rfl⟩
 rw [←hk]
 have K:kept ∈ c∧kept≠lost∧((∀y ∈ c,y=lost∨y=kept∨y ∈ (s.ws[j]!).r∨tv s.t y=-1))∧(∀v,(v=(s.ws[j]!).a∨v=(s.ws[j]!).b)↔(v=lost∨v=kept)):=by
  by_cases e:(s.ws[j]!).a=lost
  ·rw [if_pos e] at hk
   refine ⟨hk ▸ h3,fun q=>h1 (e.trans (q.symm.trans hk)),fun y hy=>?_,fun v=>by rw [hk,e]⟩
   have:=h4 y hy
   rw [show (cutW s (atP n lost) (j::rest)).ws=s.ws from rfl,e,←hk] at this
   exact this
  ·rw [if_neg e] at hk
   have hb:(s.ws[j]!).b=lost:=by rcases hab with q|q;exact absurd q.symm e;exact q.symm
   refine ⟨hk ▸ h2,fun q=>e (hk.symm.trans q),fun y hy=>?_,fun v=>by rw [hk,hb];exact Or.comm⟩
   have:=h4 y hy
   rw [show (cutW s (atP n lost) (j::rest)).ws=s.ws from rfl,hb,←hk] at this
   rcases this with q|q|q|q
   ·exact Or.inr (Or.inl q)
   ·exact Or.inl q
   ·exact Or.inr (Or.inr (Or.inl q))
   ·exact Or.inr (Or.inr (Or.inr q))
 obtain ⟨k1,k2,k3,k4⟩:=K
 have hkl:=R c hcm kept k1
 refine ⟨hj,hkl,?_⟩
 unfold pairS
 cases hn:nx s.t kept (s.ws[j]!).r with
 | some p=>
  obtain ⟨x,r⟩:=p
  right
  obtain ⟨x1,x2,x3,x4,x5⟩:=nx_some hn
  have xc:x ∈ c:=h0 x x1
  have hxl:=R c hcm x xc
  have hxlo:x≠lost:=fun e=>x3 (e ▸ hlo)
  have pne:atP n x≠atP n lost:=fun e=>hxlo (atP_inj hxl hll e)
  have hnx:j ∉ s.wl (atP n x):=fun q=>by
   have:=h5 x hxl (by show j ∈ upW s.wl _ _ _;rw [upW_ne pne];exact q)
   rcases (k4 x).1 this with e|e
   ·exact hxlo e
   ·exact x2 e
  show ∃s',some (watchS { s with ws:=s.ws.set j ⟨kept,x,r⟩ } j x)=some s'∧_
  have wlE:∀q,(cutW (watchS { s with ws:=s.ws.set j ⟨kept,x,r⟩ } j x) (atP n lost) rest).wl q=if q=atP n lost then rest else if q=atP n x then s.wl (atP n x)++[j] else s.wl q:=fun q=>by
   show upW (upW s.wl (atP s.t.length x) (s.wl (atP s.t.length x)++[j])) (atP n lost) rest q=_
   rw [hlen];rfl
  have wlO:∀q,(cutW s (atP n lost) (j::rest)).wl q=if q=atP n lost then j::rest else s.wl q:=fun q=>rfl
  refine ⟨_,rfl,⟨I.len,I.three,I.snd,I.mt,I.tm,I.nzl,I.il,?_,?_,?_,?_⟩,?_,hlo,[],(List.append_nil _).symm⟩
  ·show (s.ws.set j _).length=_
   rw [List.length_set];exact I.wsl
  ·intro q k hk'
   rw [wlE] at hk'
   have o:=I.wlb q k
   rw [wlO] at o
   split at hk'
   ·rename_i e;rw [if_pos e] at o;exact o (List.mem_cons_of_mem _ hk')
   ·rename_i e;rw [if_neg e] at o
    split at hk'
    ·rename_i e2
     rcases List.mem_append.1 hk' with q'|q'
     ·exact o (e2 ▸ q')
     ·rw [List.mem_singleton.1 q'];exact hj
    ·exact o hk'
  ·intro q
   have o:=I.nd q
   rw [wlO] at o
   rw [wlE]
   split
   ·rename_i e;rw [if_pos e] at o;exact (List.nodup_cons.1 o).2
   ·rename_i e;rw [if_neg e] at o
    split
    ·rename_i e2
     rw [List.nodup_append]
     exact ⟨e2 ▸ o,List.nodup_cons.2 ⟨List.not_mem_nil,List.nodup_nil⟩,fun a ha b hb=>by rw [List.mem_singleton.1 hb];exact fun e3=>hnx (e3 ▸ ha)⟩
    ·exact o
  ·intro k hk'
   have o:=I.cl k hk'
   by_cases e:k=j
   ·subst e
    have we:((cutW (watchS { s with ws:=s.ws.set k ⟨kept,x,r⟩ } k x) (atP n lost) rest).ws[k]!)=⟨kept,x,r⟩:=by
     show (s.ws.set k _)[k]! = _
     rw [get_set hwsl,if_pos rfl]
    unfold Cl
    rw [we,←hcd]
    refine ⟨fun y hy=>h0 y (x4 y hy),Or.inr ⟨Ne.symm x2,k1,xc,fun y hy=>?_,fun y hy hjy=>?_,?_⟩⟩
    ·rcases k3 y hy with q|q|q|q
     ·exact Or.inr (Or.inr (Or.inr (q ▸ hlo)))
     ·exact Or.inl q
     ·rcases x5 y q with q'|q'|q'|q'
      ·exact Or.inr (Or.inl q')
      ·exact Or.inr (Or.inr (Or.inl q'))
      ·exact Or.inl q'
      ·exact Or.inr (Or.inr (Or.inr q'))
     ·exact Or.inr (Or.inr (Or.inr q))
    ·rw [wlE] at hjy
     split at hjy
     ·exact absurd hjy hnr
     ·rename_i e1
      split at hjy
      ·rename_i e2;exact Or.inr (atP_inj hy hxl e2)
      ·have:=h5 y hy (by rw [wlO,if_neg e1];exact hjy)
       rcases (k4 y).1 this with q|q
       ·exact absurd (by rw [q]) e1
       ·exact Or.inl q
    ·rcases h6 with q|q
     ·exact Or.inl q
     ·refine Or.inr fun v hv=>?_
      rcases hv with hv|hv
      ·obtain ⟨q1,q2⟩:=q kept ((k4 kept).2 (Or.inr rfl))
       subst hv
       refine ⟨q1,?_⟩
       have pk:atP n v≠atP n lost:=fun e=>k2 (atP_inj hkl hll e)
       rw [wlO,if_neg pk] at q2
       rw [wlE,if_neg pk]
       split
       ·exact List.mem_append.2 (Or.inr (List.mem_singleton.2 rfl))
       ·exact q2
      ·subst hv
       refine ⟨fun m=>?_,?_⟩
       ·have:=I.mt _ (List.mem_of_mem_take m)
        rw [tv_neg] at this
        exact x3 (by show tv s.t v=-1;have:- tv s.t v=1:=this;omega)
       ·rw [wlE,if_neg pne,if_pos rfl];exact List.mem_append.2 (Or.inr (List.mem_singleton.2 rfl))
   ·have we:((cutW (watchS { s with ws:=s.ws.set j ⟨kept,x,r⟩ } j x) (atP n lost) rest).ws[k]!)=s.ws[k]! :=by
     show (s.ws.set j _)[k]! = _
     rw [get_set hwsl,if_neg e]
    have wm:∀q,k ∈ (cutW (watchS { s with ws:=s.ws.set j ⟨kept,x,r⟩ } j x) (atP n lost) rest).wl q↔k ∈ (cutW s (atP n lost) (j::rest)).wl q:=fun q=>by
     rw [wlE,wlO]
     split
     ·constructor
      ·exact List.mem_cons_of_mem _
      ·intro m;rcases List.mem_cons.1 m with z|z;exact absurd z e;exact z
     ·split
      ·rename_i e2
       constructor
       ·intro m
        rcases List.mem_append.1 m with z|z
        ·exact e2 ▸ z
        ·exact absurd (List.mem_singleton.1 z) e
       ·intro m;exact List.mem_append.2 (Or.inl (e2 ▸ m))
      ·exact Iff.rfl
    unfold Cl at o ⊢
    rw [we]
    simp only [wm]
    exact o
  ·show upW s.wl _ _ _=_
   rw [hlen,upW_ne (Ne.symm pne)]
 | none=>
  have N:=nx_none hn
  have C:∀y ∈ c,y=kept∨tv s.t y=-1:=fun y hy=>by
   rcases k3 y hy with q|q|q|q
   ·exact Or.inr (q ▸ hlo)
   ·exact Or.inl q
   ·exact N y q
   ·exact Or.inr q
  show (putS s kept=none∧Bad n l g)∨∃s',putS s kept=some s'∧_
  have D:∀y,tv s.t y=-1→Der l g (-y):=fun y hy=>I.snd (-y) (by show tv s.t (-y)=1;rw [tv_neg];omega)
  by_cases hf:tv s.t kept=-1
  ·refine Or.inl ⟨by unfold putS;rw [if_pos (Or.inr (by omega))],bad_of hcm fun y hy=>?_⟩
   rcases C y hy with q|q
   ·exact q ▸ D _ hf
   ·exact D _ q
  ·right
   have hd:Der l g kept:=der_of hcm k1 fun y hy=>(C y hy).imp id (D y)
   obtain ⟨s',p1,p2,p3,p4,p5,p6,e,p7⟩:=put_iv I hkl hf hd
   have q1:∃s2,putS s kept=some s2∧cutW s2 (atP n lost) (j::rest)=s'∧s2.wl=s.wl∧s2.ws=s.ws∧s2.made=s'.made∧s2.t=s'.t:=by
    unfold putS at p1 ⊢
    rw [show (cutW s (atP n lost) (j::rest)).t=s.t from rfl] at p1
    split at p1
    ·cases p1
    ·rename_i z
     rw [if_neg z]
     split at p1
     ·rename_i z2;rw [if_pos z2];cases p1;exact ⟨_,rfl,rfl,rfl,rfl,rfl,rfl⟩
     ·rename_i z2;rw [if_neg z2];cases p1;exact ⟨_,rfl,rfl,rfl,rfl,rfl,rfl⟩
   obtain ⟨s2,r1,r2,r3,r4,r5,r6⟩:=q1
   refine ⟨s2,r1,?_,by rw [r3],by rw [r6];exact gro_neg p4 hlo,e,by rw [r5];exact p7⟩
   have wlE:∀q,(cutW s2 (atP n lost) rest).wl q=if q=atP n lost then rest else s2.wl q:=fun q=>rfl
   have wlO:∀q,(cutW s2 (atP n lost) (j::rest)).wl q=if q=atP n lost then j::rest else s2.wl q:=fun q=>rfl
   rw [←r2] at p2
   refine ⟨p2.len,p2.three,p2.snd,p2.mt,p2.tm,p2.nzl,p2.il,p2.wsl,?_,?_,?_⟩
   ·intro q k m
    rw [wlE] at m
    have o:=p2.wlb q k
    rw [wlO] at o
    split at m
    ·rename_i z;rw [if_pos z] at o;exact o (List.mem_cons_of_mem _ m)
    ·rename_i z;rw [if_neg z] at o;exact o m
   ·intro q
    have o:=p2.nd q
    rw [wlO] at o
    rw [wlE]
    split
    ·rename_i z;rw [if_pos z] at o;exact (List.nodup_cons.1 o).2
    ·rename_i z;rw [if_neg z] at o;exact o
   ·intro k hk'
    have o:=p2.cl k hk'
    have wi:∀q,k ∈ (cutW s2 (atP n lost) rest).wl q→k ∈ (cutW s2 (atP n lost) (j::rest)).wl q:=fun q=>by
     rw [wlE,wlO];split
     ·exact List.mem_cons_of_mem _
     ·exact id
    obtain ⟨o0,o⟩:=o
    refine ⟨o0,?_⟩
    rcases o with ⟨o1,o2⟩|⟨o1,o2,o3,o4,o5,o6⟩
    ·exact Or.inl ⟨o1,fun y hy m=>o2 y hy (wi _ m)⟩
    ·refine Or.inr ⟨o1,o2,o3,o4,fun y hy m=>o5 y hy (wi _ m),?_⟩
     by_cases e:k=j
     ·subst e
      exact Or.inl ⟨kept,by rw [←hcd];exact k1,by rw [show (cutW s2 (atP n lost) rest).t=s'.t from r6];exact p3⟩
     ·refine o6.imp id fun q v hv=>⟨(q v hv).1,?_⟩
      have m:=(q v hv).2
      rw [wlO] at m
      rw [wlE]
      split
      ·rename_i z;rw [if_pos z] at m;rcases List.mem_cons.1 m with z|z;exact absurd z e;exact z
      ·rename_i z;rw [if_neg z] at m;exact m
theorem outer_iv {n:Nat} {l:List (List Int)} {g:List Int} {s:Sp} {i:Nat} {lost:Int} (R:∀c ∈ l,∀y ∈ c,litN n y) (hll:litN n lost) (hi:i < s.made.length) (hlo:s.made[i]! = -lost) (I:Iv n l g l (cutW s (atP n lost) []) i):Iv n l g l (cutW s (atP n lost) []) (i+1):=by
 refine ⟨I.len,I.three,I.snd,I.mt,I.tm,I.nzl,hi,I.wsl,I.wlb,I.nd,fun j hj=>?_⟩
 have hcm:l[j]! ∈ l:=by rw [getElem!_pos l j hj];exact List.getElem_mem hj
 obtain ⟨h0,H⟩:=I.cl j hj
 refine ⟨h0,?_⟩
 rcases H with H|⟨h1,h2,h3,h4,h5,h6⟩
 ·exact Or.inl H
 ·refine Or.inr ⟨h1,h2,h3,h4,h5,h6.imp id fun q v hv=>?_⟩
  obtain ⟨q1,q2⟩:=q v hv
  refine ⟨fun m=>?_,q2⟩
  have hne:v≠lost:=fun e=>by
   rw [e,show (cutW s (atP n lost) []).wl (atP n lost)=[] from upW_same _ _ _] at q2
   exact List.not_mem_nil q2
  rw [show (cutW s (atP n lost) []).made=s.made from rfl,List.take_succ_eq_append_getElem hi] at m
  rcases List.mem_append.1 m with z|z
  ·exact q1 z
  ·rw [←getElem!_pos s.made i hi,hlo] at z
   exact hne (by have:=List.mem_singleton.1 z;omega)
theorem begin_iv {n : Nat} {l : List (List Int)} {g : List Int} {cs : List (List Int)} {s : Sp} {c : List Int} (R : ∀ y ∈ c, litN n y) (hcl : c ∈ l) (I : Iv n l g cs s 0) :
    (nx s.t 0 c = none → Bad n l g) ∧ ∀ kept r, nx s.t 0 c = some (kept, r) → litN n kept ∧ kept ≠ 0 ∧
      ((pairS { s with ws := s.ws ++ [⟨0, 0, r⟩] } cs.length kept = none ∧ Bad n l g) ∨
       ∃ s', pairS { s with ws := s.ws ++ [⟨0, 0, r⟩] } cs.length kept = some s' ∧ Iv n l g (cs ++ [c]) (watchS s' cs.length kept) 0 ∧ (∀ y, tv s.t y = 1 → tv s'.t y = 1)) := by
  have hlen : s.t.length = n := I.len
  have D : ∀ y, tv s.t y = -1 → Der l g (-y) := fun y hy => I.snd (-y) (by rw [tv_neg]; omega)
  constructor
  · intro h
    refine bad_of hcl fun y hy => ?_
    rcases nx_none h y hy with q | q
    · exact absurd q (R y hy).1
    · exact D y q
  intro kept r h
  obtain ⟨a1, a2, a3, a4, a5⟩ := nx_some h
  have hkl := R kept a1
  refine ⟨hkl, a2, ?_⟩
  have a5' : ∀ y ∈ c, y = kept ∨ y ∈ r ∨ tv s.t y = -1 := fun y hy => by
    rcases a5 y hy with q | q | q | q
    · exact Or.inl q
    · exact Or.inr (Or.inl q)
    · exact absurd q (R y hy).1
    · exact Or.inr (Or.inr q)
  have hm : cs.length = s.ws.length := I.wsl.symm
  have we : (s.ws ++ [(⟨0, 0, r⟩ : Wt)])[cs.length]! = ⟨0, 0, r⟩ := by
    rw [getElem!_pos _ _ (by rw [List.length_append]; show _ < _ + 1; omega), List.getElem_append_right (by omega)]; simp [hm]
  have wo : ∀ k, k < cs.length → (s.ws ++ [(⟨0, 0, r⟩ : Wt)])[k]! = s.ws[k]! := fun k hk => by
    rw [getElem!_pos _ _ (by rw [List.length_append]; show _ < _ + 1; omega), List.getElem_append_left (by omega), getElem!_pos s.ws k (by omega)]
  have cx : ∀ k, k < cs.length → (cs ++ [c])[k]! = cs[k]! := fun k hk => by
    rw [getElem!_pos _ _ (by rw [List.length_append]; omega), List.getElem_append_left hk, getElem!_pos cs k hk]
  have ce : (cs ++ [c])[cs.length]! = c := by
    rw [getElem!_pos _ _ (by rw [List.length_append]; show _ < _ + 1; omega), List.getElem_append_right (by omega)]; simp
  have fresh : ∀ p, cs.length ∉ s.wl p := fun p m => absurd (I.wlb p _ m) (Nat.lt_irrefl _)
  unfold pairS
  rw [show ({ s with ws := s.ws ++ [⟨0, 0, r⟩] } : Sp).t = s.t from rfl, show ({ s with ws := s.ws ++ [⟨0, 0, r⟩] } : Sp).ws = s.ws ++ [⟨0, 0, r⟩] from rfl, we]
  show (((match nx s.t kept r with | some (x, r) => _ | none => _) = none ∧ _) ∨ _)
  cases hn : nx s.t kept r with
  | some p =>
    obtain ⟨x, r2⟩ := p
    right
    obtain ⟨x1, x2, x3, x4, x5⟩ := nx_some hn
    have xc := a4 x x1
    have hxl := R x xc
    have pne : atP n x ≠ atP n kept := fun e => x2 (atP_inj hxl hkl e)
    refine ⟨_, rfl, ?_, fun _ q => q⟩
    have hst : ((s.ws ++ [(⟨0, 0, r⟩ : Wt)]).set cs.length ⟨kept, x, r2⟩).length = cs.length + 1 := by rw [List.length_set, List.length_append]; show _ + 1 = _; omega
    have wq : ∀ k, ((s.ws ++ [(⟨0, 0, r⟩ : Wt)]).set cs.length ⟨kept, x, r2⟩)[k]! = if k = cs.length then ⟨kept, x, r2⟩ else (s.ws ++ [(⟨0, 0, r⟩ : Wt)])[k]! := fun k => get_set (by rw [List.length_append]; show _ < _ + 1; omega)
    let sf : Sp := watchS (watchS { s with ws := (s.ws ++ [(⟨0, 0, r⟩ : Wt)]).set cs.length ⟨kept, x, r2⟩ } cs.length x) cs.length kept
    have wlE : ∀ q, sf.wl q = if q = atP n kept then s.wl (atP n kept) ++ [cs.length] else if q = atP n x then s.wl (atP n x) ++ [cs.length] else s.wl q := fun q => by
      show upW (upW s.wl (atP s.t.length x) (s.wl (atP s.t.length x) ++ [cs.length])) (atP s.t.length kept) (upW s.wl (atP s.t.length x) (s.wl (atP s.t.length x) ++ [cs.length]) (atP s.t.length kept) ++ [cs.length]) q = _
      rw [hlen, upW_ne (Ne.symm pne)]; rfl
    show Iv n l g (cs ++ [c]) sf 0
    refine ⟨I.len, I.three, I.snd, I.mt, I.tm, I.nzl, I.il, hst.trans (by rw [List.length_append]; rfl), ?_, ?_, ?_⟩
    · intro q k m
      rw [List.length_append]; show k < _ + 1
      rw [wlE] at m
      have o := I.wlb
      split at m
      · rcases List.mem_append.1 m with z | z
        · have := o _ k z; omega
        · have := List.mem_singleton.1 z; omega
      · split at m
        · rcases List.mem_append.1 m with z | z
          · have := o _ k z; omega
          · have := List.mem_singleton.1 z; omega
        · have := o _ k m; omega
    · intro q
      rw [wlE]
      have one : ∀ p, (s.wl p ++ [cs.length]).Nodup := fun p => by
        rw [List.nodup_append]
        exact ⟨I.nd p, List.nodup_cons.2 ⟨List.not_mem_nil, List.nodup_nil⟩, fun a ha b hb => by rw [List.mem_singleton.1 hb]; exact fun e3 => fresh p (e3 ▸ ha)⟩
      split
      · exact one _
      · split
        · exact one _
        · exact I.nd q
    · intro k hk
      rw [List.length_append] at hk
      by_cases e : k = cs.length
      · subst e
        unfold Cl
        rw [show sf.ws[cs.length]! = ⟨kept, x, r2⟩ from (wq _).trans (if_pos rfl), ce]
        refine ⟨fun y hy => a4 y (x4 y hy), Or.inr ⟨Ne.symm x2, a1, xc, fun y hy => ?_, fun y hy m => ?_, Or.inr fun v hv => ⟨by rw [List.take_zero]; exact List.not_mem_nil, ?_⟩⟩⟩
        · rcases a5' y hy with q | q | q
          · exact Or.inl q
          · rcases x5 y q with q' | q' | q' | q'
            · exact Or.inr (Or.inl q')
            · exact Or.inr (Or.inr (Or.inl q'))
            · exact Or.inl q'
            · exact Or.inr (Or.inr (Or.inr q'))
          · exact Or.inr (Or.inr (Or.inr q))
        · rw [wlE] at m
          split at m
          · rename_i z; exact Or.inl (atP_inj hy hkl z)
          · split at m
            · rename_i z; exact Or.inr (atP_inj hy hxl z)
            · exact absurd m (fresh _)
        · rw [wlE]
          rcases hv with hv | hv
          · rw [hv, if_pos rfl]; exact List.mem_append.2 (Or.inr (List.mem_singleton.2 rfl))
          · rw [hv, if_neg pne, if_pos rfl]; exact List.mem_append.2 (Or.inr (List.mem_singleton.2 rfl))
      · have hk' : k < cs.length := by have : k < cs.length + 1 := hk; omega
        have o := I.cl k hk'
        have wm : ∀ q, k ∈ sf.wl q ↔ k ∈ s.wl q := fun q => by
          rw [wlE]
          have A : ∀ p, k ∈ s.wl p ++ [cs.length] ↔ k ∈ s.wl p := fun p => ⟨fun m => by rcases List.mem_append.1 m with z | z; exact z; exact absurd (List.mem_singleton.1 z) e, fun m => List.mem_append.2 (Or.inl m)⟩
          split
          · rename_i z; rw [A, z]
          · split
            · rename_i z; rw [A, z]
            · exact Iff.rfl
        unfold Cl at o ⊢
        rw [show sf.ws[k]! = s.ws[k]! from ((wq k).trans (if_neg e)).trans (wo k hk'), cx k hk']
        simp only [wm]
        exact o
  | none =>
    have N := nx_none hn
    have C : ∀ y ∈ c, y = kept ∨ tv s.t y = -1 := fun y hy => by
      rcases a5' y hy with q | q | q
      · exact Or.inl q
      · exact N y q
      · exact Or.inr q
    right
    have hd : Der l g kept := der_of hcl a1 fun y hy => (C y hy).imp id (D y)
    obtain ⟨s', p1, p2, p3, p4, p5, p6, e, p7⟩ := put_iv I hkl a3 hd
    have q1 : ∃ s2, putS { s with ws := s.ws ++ [⟨0, 0, r⟩] } kept = some s2 ∧ s2.wl = s.wl ∧ s2.ws = s.ws ++ [⟨0, 0, r⟩] ∧ s2.made = s'.made ∧ s2.t = s'.t := by
      unfold putS at p1 ⊢
      rw [show ({ s with ws := s.ws ++ [⟨0, 0, r⟩] } : Sp).t = s.t from rfl]
      split at p1
      · cases p1
      · rename_i z
        rw [if_neg z]
        split at p1
        · rename_i z2; rw [if_pos z2]; cases p1; exact ⟨_, rfl, rfl, rfl, rfl, rfl⟩
        · rename_i z2; rw [if_neg z2]; cases p1; exact ⟨_, rfl, rfl, rfl, rfl, rfl⟩
    obtain ⟨s2, r1, r3, r4, r5, r6⟩ := q1
    refine ⟨s2, r1, ?_, by rw [r6]; exact p4⟩
    have tl : s2.t.length = n := by rw [r6]; exact p2.len
    have wlE : ∀ q, (watchS s2 cs.length kept).wl q = if q = atP n kept then s.wl (atP n kept) ++ [cs.length] else s.wl q := fun q => by
      show upW s2.wl (atP s2.t.length kept) (s2.wl (atP s2.t.length kept) ++ [cs.length]) q = _
      rw [tl, r3]; rfl
    have wsE : (watchS s2 cs.length kept).ws = s.ws ++ [⟨0, 0, r⟩] := r4
    have tE : (watchS s2 cs.length kept).t = s'.t := r6
    have mE : (watchS s2 cs.length kept).made = s'.made := r5
    refine ⟨by rw [tE]; exact p2.len, by rw [tE]; exact p2.three, by rw [tE]; exact p2.snd, by rw [tE, mE]; exact p2.mt, by rw [tE, mE]; exact p2.tm, by rw [tE, mE]; exact p2.nzl, Nat.zero_le _, by rw [wsE, List.length_append, List.length_append, hm]; rfl, ?_, ?_, ?_⟩
    · intro q k m
      rw [List.length_append]; show k < _ + 1
      rw [wlE] at m
      have o := I.wlb
      split at m
      · rcases List.mem_append.1 m with z | z
        · have := o _ k z; omega
        · have := List.mem_singleton.1 z; omega
      · have := o _ k m; omega
    · intro q
      rw [wlE]
      split
      · rw [List.nodup_append]
        exact ⟨I.nd _, List.nodup_cons.2 ⟨List.not_mem_nil, List.nodup_nil⟩, fun a ha b hb => by rw [List.mem_singleton.1 hb]; exact fun e3 => fresh _ (e3 ▸ ha)⟩
      · exact I.nd q
    · intro k hk
      rw [List.length_append] at hk
      by_cases e : k = cs.length
      · subst e
        unfold Cl
        rw [wsE, we, ce, tE]
        refine ⟨a4, Or.inl ⟨⟨kept, a1, p3⟩, fun y hy m => ?_⟩⟩
        rw [wlE] at m
        split at m
        · rename_i z; rw [atP_inj hy hkl z]; exact p3
        · exact absurd m (fresh _)
      · have hk' : k < cs.length := by have : k < cs.length + 1 := hk; omega
        have o := p2.cl k hk'
        have wm : ∀ q, k ∈ (watchS s2 cs.length kept).wl q ↔ k ∈ s.wl q := fun q => by
          rw [wlE]
          split
          · rename_i z
            rw [z]
            exact ⟨fun m => by rcases List.mem_append.1 m with z | z; exact z; exact absurd (List.mem_singleton.1 z) e, fun m => List.mem_append.2 (Or.inl m)⟩
          · exact Iff.rfl
        unfold Cl at o ⊢
        rw [wsE, wo k hk', cx k hk', tE]
        simp only [wm, List.take_zero]
        simp only [p5, p6, List.take_zero] at o
        exact o
theorem end_iv {n:Nat} {l:List (List Int)} {g:List Int} {s:Sp} (I:Iv n l g l s s.made.length) (hg:∀x ∈ g,tv s.t x=1):IsU n l g s.t true:=by
 refine isU_of I.len I.three I.snd hg fun c hc=>?_
 obtain ⟨j,hj,rfl⟩:=List.getElem_of_mem hc
 have H:=I.cl j hj
 rw [getElem!_pos l j hj] at H
 rcases H.2 with ⟨h1,_⟩|⟨h1,h2,h3,h4,h5,h6⟩
 ·exact Or.inl h1
 ·rcases h6 with h6|h6
  ·exact Or.inl h6
  ·refine Or.inr ⟨_,h2,_,h3,h1,fun e=>?_,fun e=>?_⟩
   ·exact (h6 _ (Or.inl rfl)).1 (by rw [List.take_length];exact I.tm _ (by rw [tv_neg];omega))
   ·exact (h6 _ (Or.inr rfl)).1 (by rw [List.take_length];exact I.tm _ (by rw [tv_neg];omega))
theorem start_iv (n:Nat) (l:List (List Int)) (g:List Int):Iv n l g [] ⟨List.replicate n 0,[],[],fun _=>[]⟩ 0:=by
 have h0:∀k,k < n→(List.replicate n (0:Int))[k]! = 0:=fun k hk=>by rw [getElem!_pos _ _ (by rw [List.length_replicate];exact hk),List.getElem_replicate]
 have ht:∀x,tv (List.replicate n (0:Int)) x=0:=fun x=>by
  unfold tv
  rw [List.length_replicate]
  split
  ·rw [h0 _ (by unfold plc;omega)];simp
  ·rfl
 refine ⟨List.length_replicate,fun k hk=>Or.inr (Or.inr (h0 k hk)),fun x hx=>?_,fun x hx=>absurd hx List.not_mem_nil,fun x hx=>?_,?_,Nat.zero_le _,rfl,fun p j hj=>absurd hj List.not_mem_nil,fun p=>List.nodup_nil,fun j hj=>absurd hj (Nat.not_lt_zero _)⟩
 ·rw [show tv _ x=_ from ht x] at hx;omega
 ·rw [show tv _ x=_ from ht x] at hx;omega
 ·unfold nz;simp [List.countP_replicate]
end Go.Proofs.YtgjlgdpbmhdnbaaDoor
namespace Go.Proofs.YtgjlgdpbmhdnbaaDoor
open Go.RowKit
def B (s:ByteArray):List Nat:=s.data.toList.map UInt8.toNat
def mk (l:List Nat):ByteArray:=⟨(l.map UInt8.ofNat).toArray⟩
theorem B_len (s:ByteArray):(B s).length=s.size:=by unfold B;rw [List.length_map,Array.length_toList];rfl
theorem mk_B (s:ByteArray):mk (B s)=s:=by
 obtain ⟨⟨l⟩⟩:=s
 simp only [mk,B,List.map_map]
 congr 2
 rw [List.map_congr_left (g:=id) (by intro u _;simp),List.map_id]
theorem eq_mk {s:ByteArray} {l:List Nat} (h:B s=l):s=mk l:=by rw [←h,mk_B]
theorem B_append (s t:ByteArray):B (s++t)=B s++B t:=by
 unfold B
 rw [ByteArray.data_append,Array.toList_append,List.map_append]
def sgn (n:Int):Int:=if n < 0 then -1 else if 0 < n then 1 else 0
theorem blk_add (a:Addr) (k:Nat):(a.add k).block=a.block:=by unfold Addr.add;split<;>rfl
theorem belD {N:Nat} {a w:World} (h:Below N a w) (n:Nat):Below N a (w.drewN n):=⟨h.os,h.tape,h.output,h.size,h.block⟩
def Dr (w w':World):Prop:=∃q,w'=w.drewN q
theorem Dr.refl (w:World):Dr w w:=⟨0,rfl⟩
theorem Dr.more {w w':World} (h:Dr w w') (n:Nat):Dr w (w'.drewN n):=by obtain ⟨q,rfl⟩:=h;exact ⟨q+n,by rw [World.drewN_drewN]⟩
theorem Dr.below {w w':World} (h:Dr w w') (N:Nat):Below N w w':=by obtain ⟨q,rfl⟩:=h;exact belD (Below.refl _ _) q
abbrev Rd (α:Type):=World→(Nat→Prop)→α→List Value→Prop
structure Good {α:Type} (E:Rd α) (sz:Nat):Prop where
 keep:∀{w w':World} {S:Nat→Prop} {a:α} {cs:List Value},E w S a cs→(∀b,S b→w'.heap[b]?=w.heap[b]?)→E w' S a cs
 more:∀{w:World} {S S':Nat→Prop} {a:α} {cs:List Value},E w S a cs→(∀b,S b→S' b)→E w S' a cs
 turn:∀{w w':World} {S:Nat→Prop} {a:α} {cs:List Value} {row:Option Nat},E w S a cs→w.grownBy w' row→(∀r,row=some r→∃o:Obj,w.heap[r]?=some o∧o.isCells=false)→E w' S a cs
 len:∀{w:World} {S:Nat→Prop} {a:α} {cs:List Value},E w S a cs→cs.length=sz
 one:∀{w:World} {S:Nat→Prop} {a:α} {cs:List Value},E w S a cs→∀u ∈ cs,u.oneCell'=true
section
variable {α:Type} {E:Rd α} {sz:Nat}
theorem Good.both (g:Good E sz) {w w':World} {S S':Nat→Prop} {a:α} {cs:List Value} (h:E w S a cs) (hk:∀b,S b→w'.heap[b]?=w.heap[b]?) (hm:∀b,S b→S' b):E w' S' a cs:=g.more (g.keep h hk) hm
def rdRow (sz:Nat) (E:Rd α):Rd (List α):=fun w S l cs=>
 ∃A c,cs=[.slice A l.length c]∧l.length≤c∧c≤maxLen∧
  ∀k (hk:k < l.length),∃ad es,A=some ad∧S ad.block∧E w S l[k] es∧es.length=sz∧∀j u,es[j]?=some u→w.cell? (ad.add (k*sz+j))=some u
theorem rdRow_good (g:Good E sz):Good (rdRow sz E) 1 where
 keep:=by
  rintro w w' S l cs ⟨A,c,rfl,h1,h2,h⟩ hk
  refine ⟨A,c,rfl,h1,h2,fun k hk'=>?_⟩
  obtain ⟨ad,es,e,hS,hE,hl,hc⟩:=h k hk'
  refine ⟨ad,es,e,hS,g.keep hE hk,hl,fun j u hu=>?_⟩
  rw [←hc j u hu]
  exact World.cell?_of_block (by rw [blk_add];exact hk _ hS)
 more:=by
  rintro w S S' l cs ⟨A,c,rfl,h1,h2,h⟩ hm
  refine ⟨A,c,rfl,h1,h2,fun k hk'=>?_⟩
  obtain ⟨ad,es,e,hS,hE,hl,hc⟩:=h k hk'
  exact ⟨ad,es,e,hm _ hS,g.more hE hm,hl,hc⟩
 turn:=by
  rintro w w' S l cs row ⟨A,c,rfl,h1,h2,h⟩ hg hr
  refine ⟨A,c,rfl,h1,h2,fun k hk'=>?_⟩
  obtain ⟨ad,es,e,hS,hE,hl,hc⟩:=h k hk'
  exact ⟨ad,es,e,hS,g.turn hE hg hr,hl,fun j u hu=>cell_kept (hc j u hu) hg hr⟩
 len:=by rintro w S l cs ⟨A,c,rfl,_⟩;rfl
 one:=by rintro w S l cs ⟨A,c,rfl,_⟩ u hu;rw [List.mem_singleton.1 hu];rfl
theorem rdRow_nil (w:World) (S:Nat→Prop):rdRow sz E w S [] [.slice none 0 0]:=⟨none,0,rfl,Nat.le_refl _,Nat.zero_le _,fun k hk=>absurd hk (by simp)⟩
def lt_ (N:Nat):Nat→Prop:=fun b=>b < N
theorem Good.below (g:Good E sz) {N:Nat} {w w':World} {a:α} {cs:List Value} (h:E w (lt_ N) a cs) (hb:Below N w w'):E w' (lt_ N) a cs:=g.keep h fun b hb'=>hb.block b hb'
theorem Good.up (g:Good E sz) {N N':Nat} {w:World} {a:α} {cs:List Value} (h:E w (lt_ N) a cs) (hn:N≤N'):E w (lt_ N') a cs:=g.more h fun _ hb=>Nat.lt_of_lt_of_le hb hn
def Grow (E:Rd α) (sz:Nat) (T:Nat→Prop) (w:World) (base:Nat) (e:TypeId) (v:Value) (l:List α):Prop:=
 ∃css:List (List Value),css.length=l.length∧w.ownsRow base e sz v l.length css.flatten∧
  ∀k (hk:k < l.length),∃cs,css[k]?=some cs∧E w (fun b=>T b∧b < w.heap.size∧v.ownBlock≠some b) l[k] cs
theorem Grow.nil (T:Nat→Prop) (w:World) (base:Nat) (e:TypeId):Grow E sz T w base e (.slice none 0 0) []:=
 ⟨[],rfl,World.ownsRow_nil w base e sz,fun k hk=>absurd hk (by simp)⟩
theorem flatten_len (sz:Nat):∀{css:List (List Value)},(∀cs ∈ css,cs.length=sz)→css.flatten.length=css.length*sz
 | [],_=>by simp
 | c::css,h=>by
  have:=flatten_len sz (css:=css) (fun cs hc=>h cs (by simp [hc]))
  rw [List.flatten_cons,List.length_append,this,h c (by simp),List.length_cons,Nat.add_mul];omega
theorem flatten_at (sz:Nat):∀{css:List (List Value)},(∀cs ∈ css,cs.length=sz)→∀{k:Nat} {cs:List Value},css[k]?=some cs→∀j u,cs[j]?=some u→css.flatten[k*sz+j]?=some u
 | [],_,k,cs,hk,_,_,_=>by simp at hk
 | c::css,h,0,cs,hk,j,u,hu=>by
  simp only [List.getElem?_cons_zero,Option.some.injEq] at hk
  subst hk
  rw [List.flatten_cons,Nat.zero_mul,Nat.zero_add,List.getElem?_append_left (List.getElem?_eq_some_iff.1 hu).1];exact hu
 | c::css,h,k+1,cs,hk,j,u,hu=>by
  rw [List.getElem?_cons_succ] at hk
  have:=flatten_at sz (fun cs hc=>h cs (by simp [hc])) hk j u hu
  have hc:=h c (by simp)
  rw [List.flatten_cons,List.getElem?_append_right (by rw [hc,Nat.add_mul];omega),hc,←this]
  congr 1
  rw [Nat.add_mul];omega
theorem Grow.lens (g:Good E sz) {T:Nat→Prop} {w:World} {v:Value} {l:List α} {css:List (List Value)} (hl:css.length=l.length)
  (h:∀k (hk:k < l.length),∃cs,css[k]?=some cs∧E w (fun b=>T b∧b < w.heap.size∧v.ownBlock≠some b) l[k] cs):∀cs ∈ css,cs.length=sz:=by
 intro cs hc
 obtain ⟨k,hk,rfl⟩:=List.getElem_of_mem hc
 obtain ⟨cs,h1,h2⟩:=h k (by omega)
 rw [List.getElem?_eq_getElem hk] at h1
 injection h1 with h1
 rw [h1];exact g.len h2
theorem Grow.reads (g:Good E sz) {T:Nat→Prop} {w:World} {base:Nat} {e:TypeId} {v:Value} {l:List α} (h:Grow E sz T w base e v l):rdRow sz E w (fun b=>b < w.heap.size∧(base≤b∨T b)) l [v]:=by
 obtain ⟨css,hl,ho,hE⟩:=h
 have hls:=Grow.lens g hl hE
 rcases ho.2 with ⟨rfl,h0⟩|⟨gb,cap,cur,rfl,hb,hg,hn,hm,hs,ht⟩
 ·obtain rfl:l=[]:=List.eq_nil_of_length_eq_zero h0
  exact rdRow_nil w _
 ·have hlt:gb < w.heap.size:=(Array.getElem?_eq_some_iff.1 hg).1
  refine ⟨_,cap,rfl,hn,hm,fun k hk=>?_⟩
  obtain ⟨cs,h1,h2⟩:=hE k hk
  refine ⟨_,cs,rfl,⟨hlt,.inl hb⟩,g.more h2 (fun b hb=>⟨hb.2.1,.inr hb.1⟩),g.len h2,fun j u hu=>?_⟩
  exact ho.cells (g:=gb) rfl _ _ (flatten_at sz hls h1 j u hu)
theorem Grow.read (g:Good E sz) {T:Nat→Prop} {w:World} {base:Nat} {e:TypeId} {v:Value} {l:List α} (h:Grow E sz T w base e v l):rdRow sz E w (lt_ w.heap.size) l [v]:=(rdRow_good g).more (h.reads g) fun _ hb=>hb.1
theorem Grow.own {T:Nat→Prop} {w:World} {base:Nat} {e:TypeId} {v:Value} {l:List α} (h:Grow E sz T w base e v l):∃A c,v=.slice A l.length c∧l.length≤c∧c≤maxLen:=by
 obtain ⟨css,hl,ho,hE⟩:=h
 rcases ho.2 with ⟨rfl,h0⟩|⟨gb,cap,cur,rfl,hb,hg,hn,hm,hs,ht⟩
 ·exact ⟨none,0,by rw [h0],by omega,Nat.zero_le _⟩
 ·exact ⟨_,cap,rfl,hn,hm⟩
theorem Grow.lt {T:Nat→Prop} {w:World} {base:Nat} {e:TypeId} {v:Value} {l:List α} (h:Grow E sz T w base e v l):∀b,v.ownBlock=some b→base≤b∧b < w.heap.size:=by
 obtain ⟨css,hl,ho,hE⟩:=h
 exact ho.lt
theorem Grow.kept (g:Good E sz) {T:Nat→Prop} {w w':World} {base:Nat} {e:TypeId} {v:Value} {l:List α} (h:Grow E sz T w base e v l) (hs:w.heap.size≤w'.heap.size)
  (hk:∀b,b < w.heap.size→(base≤b∨T b)→w'.heap[b]?=w.heap[b]?):Grow E sz T w' base e v l:=by
 have hlt:=h.lt
 obtain ⟨css,hl,ho,hE⟩:=h
 refine ⟨css,hl,⟨ho.1,?_⟩,fun k hk'=>?_⟩
 ·rcases ho.2 with hn|⟨gb,cap,cur,rfl,hb,hg,rest⟩
  ·exact .inl hn
  ·exact .inr ⟨gb,cap,cur,rfl,hb,by rw [hk gb (Array.getElem?_eq_some_iff.1 hg).1 (.inl hb)];exact hg,rest⟩
 ·obtain ⟨cs,h1,h2⟩:=hE k hk'
  exact ⟨cs,h1,g.both h2 (fun b hb=>hk b hb.2.1 (.inr hb.1)) (fun b hb=>⟨hb.1,Nat.lt_of_lt_of_le hb.2.1 hs,hb.2.2⟩)⟩
theorem Grow.below (g:Good E sz) {T:Nat→Prop} {w w':World} {base:Nat} {e:TypeId} {v:Value} {l:List α} (h:Grow E sz T w base e v l) (hb:Below w.heap.size w w'):Grow E sz T w' base e v l:=
 h.kept g hb.size fun b hb' _=>hb.block b hb'
theorem Grow.turn (g:Good E sz) {T:Nat→Prop} {w w':World} {base:Nat} {e:TypeId} {v:Value} {l:List α} {row:Option Nat} (h:Grow E sz T w base e v l) (hg:w.grownBy w' row) (hr:∀r,row=some r→∃o:Obj,w.heap[r]?=some o∧o.isCells=false):Grow E sz T w' base e v l:=by
 obtain ⟨css,hl,ho,hE⟩:=h
 refine ⟨css,hl,ho.kept hg ?_,fun k hk'=>?_⟩
 ·rcases ho.2 with ⟨rfl,_⟩|⟨gb,cap,cur,rfl,hb,hgg,_⟩
  ·exact .inl rfl
  ·refine .inr fun hh=>?_
   obtain ⟨o,h1,h2⟩:=hr gb hh.symm
   rw [hgg] at h1
   injection h1 with h1
   subst h1
   cases h2
 ·obtain ⟨cs,h1,h2⟩:=hE k hk'
  exact ⟨cs,h1,g.more (g.turn h2 hg hr) fun b hb=>⟨hb.1,Nat.lt_of_lt_of_le hb.2.1 hg.size,hb.2.2⟩⟩
theorem Grow.step (g:Good E sz) {T:Nat→Prop} {w w':World} {base:Nat} {e:TypeId} {v v':Value} {l:List α} {css:List (List Value)} {m:List α} {ess:List (List Value)}
  (hl:css.length=l.length) (hE:∀k (hk:k < l.length),∃cs,css[k]?=some cs∧E w (fun b=>T b∧b < w.heap.size∧v.ownBlock≠some b) l[k] cs)
  (hm:ess.length=m.length) (hM:∀k (hk:k < m.length),∃cs,ess[k]?=some cs∧E w (fun b=>T b∧b < w.heap.size∧v.ownBlock≠some b) m[k] cs)
  (hown:w'.ownsRow base e sz v' (l.length+m.length) (css.flatten++ess.flatten)) (hg:w.grownBy w' v.ownBlock) (hat:v'.ownBlock=v.ownBlock∨∃b,v'.ownBlock=some b∧w.heap.size≤b) :
  Grow E sz T w' base e v' (l++m):=by
 have key:∀(a:α) (cs:List Value),E w (fun b=>T b∧b < w.heap.size∧v.ownBlock≠some b) a cs→E w' (fun b=>T b∧b < w'.heap.size∧v'.ownBlock≠some b) a cs:=by
  intro a cs h
  refine g.both h (fun b hb=>hg.block b hb.2.1 (fun hh=>hb.2.2 hh.symm)) (fun b hb=>⟨hb.1,Nat.lt_of_lt_of_le hb.2.1 hg.size,?_⟩)
  rcases hat with h1|⟨b',h1,h2⟩
  ·rw [h1];exact hb.2.2
  ·rw [h1];intro hh;injection hh with hh;have:=hb.2.1;omega
 refine ⟨css++ess,by rw [List.length_append,List.length_append,hl,hm],by rw [List.length_append,List.flatten_append];exact hown,fun k hk=>?_⟩
 by_cases hkl:k < l.length
 ·obtain ⟨cs,h1,h2⟩:=hE k hkl
  refine ⟨cs,by rw [List.getElem?_append_left (by omega)];exact h1,?_⟩
  rw [List.getElem_append_left hkl];exact key _ _ h2
 ·rw [List.length_append] at hk
  obtain ⟨cs,h1,h2⟩:=hM (k - l.length) (by omega)
  refine ⟨cs,by rw [List.getElem?_append_right (by omega),hl];exact h1,?_⟩
  rw [List.getElem_append_right (by omega)];exact key _ _ h2
theorem cells_new (w:World) (blk:Array Value) (te:TypeId):∀j u,blk.toList[j]?=some u→(w.alloc (.cells blk te)).cell? ((⟨w.heap.size,0,none⟩:Addr).add j)=some u:=by
 intro j u hj
 have hadd:(⟨w.heap.size,0,none⟩:Addr).add j=⟨w.heap.size,j,none⟩:=by unfold Addr.add;split<;>simp_all
 rw [hadd,cell_of_row (w.alloc (.cells blk te)) w.heap.size j blk te (0,0) (heap_alloc_new w _)]
 simpa using hj
theorem wpList_grow1 {P:Program} {ops:Array Oper} {rest:List Oper} {o:Oper} {a:Act} {Q:Exit→Act→World→Prop} (W:World) (hgd:o.guard=none) (s x:Operand) (t:TypeId)
  (ho:o.op=.call { callee:=.builtin .append,args:=#[s,x],argTypes:=#[t,t] })
  (g:Good E sz) (hsz:0 < sz) (T:Nat→Prop) (base:Nat) (e:TypeId) (i:TypeInfo) (z:Value) (bytes:Nat) (ht:P.underlying t=some (.slice e)) (hi:P.info? e=some i) (hz:i.zero=some z)
  (hsize:i.size=sz) (hby:i.bytes=bytes) (hzs:z.cells.size=sz)
  (v:Value) (l:List α) (hs:a.eval s=v) (hG:Grow E sz T W base e v l) (y:α) (blk:Array Value) (te:TypeId)
  (hE:E W (fun b=>T b∧b < W.heap.size∧v.ownBlock≠some b) y blk.toList) (N:Nat) (hN:N=W.heap.size) (hx:a.eval x=.slice (some ⟨N,0,none⟩) 1 1)
  (hn:l.length+1≤maxLen) (hb2:(l.length+1)*bytes≤140737488355328) (hbase:base≤W.heap.size)
  (h:∀v' w',Grow E sz T w' base e v' (l++[y])→W.grownBy w' v.ownBlock→wpList P ops Q rest (a.put o.dst v') w') :
  wpList P ops Q (o::rest) a (W.alloc (.cells blk te)):=by
 subst hN
 obtain ⟨css,hl,hown,hEs⟩:=hG
 refine wpList_append_own_at _ hgd s x t ho base e i z sz bytes ht hi hz hsize hby hzs hsz v l.length css.flatten hs (hown.alloc _) ⟨W.heap.size,0,none⟩ 1 1 blk.toList hx (by rw [g.len hE];simp) (cells_new W blk te) (g.one hE) hn hb2 (by simp;omega) ?_
 intro v' w' hown' hgrow _ hat
 have hg2:W.grownBy w' v.ownBlock:=by
  refine ⟨hgrow.os,hgrow.tape,hgrow.output,?_,fun k hk hne=>?_⟩
  ·have:=hgrow.size;simp at this;omega
  ·rw [hgrow.block k (by simp;omega) hne]
   exact Below.heap_alloc W _ k hk
 refine h v' w' ?_ hg2
 refine Grow.step g hl hEs (m:=[y]) (ess:=[blk.toList]) rfl (fun k hk=>?_) (by simpa using hown') hg2 ?_
 ·simp only [List.length_singleton] at hk
  obtain rfl:k=0:=by omega
  exact ⟨_,rfl,hE⟩
 ·rcases hat with h1|h1
  ·exact .inl h1
  ·exact .inr ⟨_,h1,by simp⟩
theorem grow_below {B:Nat} {w0 W w':World} {T:Nat→Prop} {base:Nat} {e:TypeId} {v:Value} {l:List α} (hG:Grow E sz T W base e v l) (hg:W.grownBy w' v.ownBlock) (hb:Below B w0 W) (hB:B≤base) (hs:B≤W.heap.size):Below B w0 w':=
 hb.grown hg hs fun g hg'=>Nat.le_trans hB (hG.lt g hg').1
end
end Go.Proofs.YtgjlgdpbmhdnbaaDoor
