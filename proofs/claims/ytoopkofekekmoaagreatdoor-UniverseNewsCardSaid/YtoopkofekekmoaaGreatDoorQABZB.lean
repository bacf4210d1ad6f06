/- What the laws rest on: RefText, D4b, E6a, CmpT, CmpP, RefRight. -/
import Derived.Test.YtoopkofekekmoaaGreatDoorQAAZB
set_option maxRecDepth 100000
set_option linter.unusedVariables false
set_option linter.unusedSimpArgs false
namespace Go.Proofs.YtoopkofekekmoaaGreatDoor
open Go.RowKit
def textL (e:Nat) (u r:List Nat):List Nat:=(if e=0 then [] else decL e++[58])++u++(if r=[] then [] else 45::r)
theorem decF_len:∀(f n:Nat) (l:List Nat),(decF f n l).length≤f+l.length
 | 0,_,l=>by simp [decF]
 | f+1,n,l=>by
  simp only [decF]
  split
  ·simp;omega
  ·have:=decF_len f (n / 10) ((48+n % 10)::l);simp at this;omega
theorem decL_len (n:Nat):(decL n).length≤n+1:=by have:=decF_len (n+1) n [];simpa [decL] using this
theorem size_mk (l:List Nat):(mk l).size=l.length:=by
 unfold mk
 show (List.toArray _).size=_
 simp
theorem empty_iff (s:ByteArray):s.toList.isEmpty=true↔B s=[]:=by
 rw [toList_data,List.isEmpty_iff]
 unfold B
 simp
theorem empty_size {s:ByteArray} (h:B s=[]):s.size=0:=by rw [←B_len,h];rfl
theorem B_colon:B { data:=#[58] }=[58]:=by decide
theorem B_dash:B { data:=#[45] }=[45]:=by decide
theorem text_any (e:Nat) (u r:ByteArray) (w:World) (he:e≤1000000000) (hu:u.size≤65536) (hr:r.size≤65536) :
  Calls Tryz.prog 120 #[.agg #[.int .i64 (e:Int),.string u,.string r]] w fun e' w'=>e'=.returned (.string (mk (textL e (B u) (B r))))∧Below w.heap.size w w':=by
 have hmk:=decL_len e
 have hsz:(mk (decL e)).size≤1000000001:=by rw [size_mk];omega
 by_cases h1:e=0
 ·cases h2:r.toList.isEmpty
  ·skip
   have t1:((e:Int) != 0)=false:=by rw [bne_eq_false_iff_eq];omega
   have HE:B r≠[]:=fun hh=>by rw [(empty_iff r).2 hh] at h2;cases h2
   have X:=Lib.hid (show u++{ data:=#[45] }++r=mk (textL e (B u) (B r)) by
    refine eq_mk ?_
    unfold textL
    rw [if_pos h1,if_neg HE]
    simp [B_append,B_dash])
   clear HE h1
   go_enter Tryz.func120,Tryz.ntmps120
   go_wp2
   go_ret
   exact ⟨by rw [←X.out];rfl,(Below.refl _ w).alloc (Nat.le_refl _) _⟩
  ·skip
   have t1:((e:Int) != 0)=false:=by rw [bne_eq_false_iff_eq];omega
   have HE:B r=[]:=(empty_iff r).1 h2
   have X:=Lib.hid (show u=mk (textL e (B u) (B r)) by
    refine eq_mk ?_
    unfold textL
    rw [if_pos h1,if_pos HE]
    simp)
   clear HE h1
   go_enter Tryz.func120,Tryz.ntmps120
   go_wp2
   go_ret
   exact ⟨by rw [←X.out];rfl,(Below.refl _ w).alloc (Nat.le_refl _) _⟩
 ·cases h2:r.toList.isEmpty
  ·skip
   have t1:((e:Int) != 0)=true:=by rw [bne_iff_ne];omega
   have HE:B r≠[]:=fun hh=>by rw [(empty_iff r).2 hh] at h2;cases h2
   have X:=Lib.hid (show mk (decL e)++{ data:=#[58] }++u++{ data:=#[45] }++r=mk (textL e (B u) (B r)) by
    refine eq_mk ?_
    unfold textL
    rw [if_neg h1,if_neg HE]
    simp [B_append,B_colon,B_dash,B_mk (decL_lt e)])
   clear HE h1
   go_enter Tryz.func120,Tryz.ntmps120
   go_wp2_with (go_at_call 132;refine (decimal_any _ _ (by omega)).mono ?_;rintro e w' ⟨rfl,rfl⟩)
   go_ret
   exact ⟨by rw [←X.out];rfl,(Below.refl _ w).alloc (Nat.le_refl _) _⟩
  ·skip
   have t1:((e:Int) != 0)=true:=by rw [bne_iff_ne];omega
   have HE:B r=[]:=(empty_iff r).1 h2
   have X:=Lib.hid (show mk (decL e)++{ data:=#[58] }++u=mk (textL e (B u) (B r)) by
    refine eq_mk ?_
    unfold textL
    rw [if_neg h1,if_pos HE]
    simp [B_append,B_colon,B_mk (decL_lt e)])
   clear HE h1
   go_enter Tryz.func120,Tryz.ntmps120
   go_wp2_with (go_at_call 132;refine (decimal_any _ _ (by omega)).mono ?_;rintro e w' ⟨rfl,rfl⟩)
   go_ret
   exact ⟨by rw [←X.out];rfl,(Below.refl _ w).alloc (Nat.le_refl _) _⟩
def numV (l:List Nat):Nat:=l.foldl (fun n c=>10*n+(c - 48)) 0
def numL (l:List Nat):Int:=if l≠[]∧l.length≤9∧l.all digB=true∧decL (numV l)=l then (numV l:Int) else -1
theorem numV_snoc (l:List Nat) (c:Nat):numV (l++[c])=10*numV l+(c - 48):=by simp [numV,List.foldl_append]
theorem digB_iff {c:Nat}:digB c=true↔48≤c∧c≤57:=by simp [digB]
theorem numV_lt:∀(l:List Nat),(∀c ∈ l,digB c=true)→numV l+1≤10 ^ l.length:=by
 intro l
 rw [←List.reverse_reverse l]
 induction l.reverse with
 | nil=>intro _;simp [numV]
 | cons c l ih=>
  intro h
  rw [List.reverse_cons,numV_snoc,List.length_append]
  have h1:=ih (fun d hd=>h d (by simp [hd]))
  have h2:=digB_iff.1 (h c (by simp))
  simp only [List.length_singleton,Nat.pow_succ,List.length_reverse] at h1 ⊢
  omega
set_option maxHeartbeats 1000000 in
theorem number_any (s:ByteArray) (w:World) (hs:s.size≤9223372036854775807) :
  Calls Tryz.prog 118 #[.string s] w fun e w'=>e=.returned (.int .i64 (numL (B s)))∧w=w':=by
 go_enter Tryz.func118,Tryz.ntmps118
 go_wp2
 go_loop [3,4] (fun x y=>∃k n:Nat,k≤s.size∧k≤12∧n=numV ((B s).take k)∧(∀c ∈ (B s).take k,digB c=true)∧x=.int .i64 n∧y=.int .i64 k) (fun _ y=>12 - (intOf y).toNat)
 case atStart=>exact ⟨0,0,Nat.zero_le _,by omega,by simp [numV],by simp,rfl,rfl⟩
 case round=>
  obtain ⟨k,n,hk,hk12,hn,hall,rfl,rfl⟩:=hrel
  have hlt:=numV_lt _ hall
  rw [←hn,List.length_take,B_len,Nat.min_eq_left hk] at hlt
  have HN:=Lib.hid hn
  have HA:=Lib.hid hall
  have hpow:10 ^ k≤10 ^ 12:=Nat.pow_le_pow_right (by omega) hk12
  have hn12:n≤1000000000000:=by omega
  clear hn hall hlt hpow
  by_cases hgo:k < s.size∧k < 12
  ·obtain ⟨h1,h2⟩:=hgo
   cases hd:digB s[k].toNat
   ·have HF:=Lib.hid (show numL (B s)=-1 by
     unfold numL
     rw [if_neg]
     rintro ⟨_,_,h3,_⟩
     rw [List.all_eq_true] at h3
     have:=h3 _ (List.mem_of_getElem? (B_at s k h1))
     rw [hd] at this;cases this)
    have HD:=Lib.hid hd
    clear hd
    go_wp2_with (go_at_call 94;refine (Digit_any _ _).mono ?_;rw [HD.out];rintro e w' ⟨rfl,rfl⟩)
    go_ret
    exact ⟨by rw [HF.out];rfl,rfl⟩
   ·have hc:=digB_iff.1 hd
    have hc1:=hc.1
    have hc2:=hc.2
    have HD:=Lib.hid hd
    have HS:=Lib.hid (B_take_snoc s k h1)
    clear hd hc
    go_wp2_with (go_at_call 94;refine (Digit_any _ _).mono ?_;rw [HD.out];rintro e w' ⟨rfl,rfl⟩)
    go_round
    case rel=>
     refine ⟨k+1,10*n+(s[k].toNat - 48),by omega,by omega,by rw [HS.out,numV_snoc,←HN.out],fun c hc=>?_,congrArg (Value.int .i64) (by omega),by go_num⟩
     rw [HS.out] at hc
     rcases List.mem_append.1 hc with hc|hc
     ·exact HA.out c hc
     ·rw [List.mem_singleton.1 hc];exact HD.out
    case measure=>simp [intOf];omega
  ·have hnot:¬k < s.size∨¬k < 12:=by omega
   clear hgo
   cases he:s.toList.isEmpty
   ·have hne:B s≠[]:=fun hh=>by rw [(empty_iff s).2 hh] at he;cases he
    by_cases h9:9 < s.size
    ·have HF:=Lib.hid (show numL (B s)=-1 by unfold numL;rw [if_neg];rintro ⟨_,h,_⟩;rw [B_len] at h;omega)
     have h9i:(9:Int) < (s.size:Int):=by omega
     clear hne
     by_cases hks:k < s.size
     ·have hk2:12≤k:=by omega
      clear hnot
      go_wp2
      go_ret
      exact ⟨by rw [HF.out];rfl,rfl⟩
     ·clear hnot
      go_wp2
      go_ret
      exact ⟨by rw [HF.out];rfl,rfl⟩
    ·have hks:¬k < s.size:=by omega
     have hek:(B s).take k=B s:=List.take_of_length_le (by rw [B_len];omega)
     have hnn:n=numV (B s):=by rw [HN.out,hek]
     have hal:(B s).all digB=true:=by rw [List.all_eq_true,←hek];exact HA.out
     have hst:=strEq (decL n) s (decL_lt n)
     by_cases hd:decL n=B s
     ·have HF:=Lib.hid (show numL (B s)=(n:Int) by unfold numL;rw [if_pos ⟨hne,by rw [B_len];omega,hal,by rw [←hnn];exact hd⟩,←hnn])
      rw [decide_eq_true hd] at hst
      clear hnn hek hal hne hd hnot
      go_wp2_with (go_at_call 132;refine (decimal_any _ _ (by omega)).mono ?_;rintro e w' ⟨rfl,rfl⟩)
      go_ret
      exact ⟨by rw [HF.out];rfl,rfl⟩
     ·have HF:=Lib.hid (show numL (B s)=-1 by unfold numL;rw [if_neg];rintro ⟨_,_,_,h⟩;rw [←hnn] at h;exact hd h)
      rw [decide_eq_false hd] at hst
      clear hnn hek hal hne hd hnot
      go_wp2_with (go_at_call 132;refine (decimal_any _ _ (by omega)).mono ?_;rintro e w' ⟨rfl,rfl⟩)
      go_ret
      exact ⟨by rw [HF.out];rfl,rfl⟩
   ·have hB:=(empty_iff s).1 he
    have HF:=Lib.hid (show numL (B s)=-1 by unfold numL;rw [if_neg];rintro ⟨h,_⟩;exact h hB)
    have hz:=empty_size hB
    have hz2:s.size≤0:=by omega
    clear hB hz hnot
    go_wp2
    go_ret
    exact ⟨by rw [HF.out];rfl,rfl⟩
theorem atomT_struct:Tryz.prog.underlying 59=some (.struct (Tryz.prog.fieldsOf 59)):=by kernel_rfl
theorem atomT_stood:Tryz.prog.stoodInHeld 59=false:=by kernel_rfl
theorem atomT_fields:(Tryz.prog.fieldsOf 59).toList.map (fun f=>(f.type,f.offset,f.name== "_"))=[(9,0,false),(3,1,false),(9,2,false)]:=by kernel_rfl
theorem eq_atm (x y:Atm) (w:World):(Op.equalIn 10000 59 x.val y.val).run Tryz.prog w=.ok (decide (x=y)) w:=by
 obtain ⟨u,e,r⟩:=x
 obtain ⟨u',e',r'⟩:=y
 have hi:=Tryz.underlying3
 have hs:=Tryz.underlying9
 unfold Atm.val
 rw [run_equalIn_struct w 9999 _ _ _ atomT_struct atomT_stood]
 have hf:=atomT_fields
 generalize (Tryz.prog.fieldsOf 59).toList=L at hf ⊢
 have hlen:L.length=3:=by have:=congrArg List.length hf;simpa using this
 have hst:∀a b:ByteArray,(a.toList==b.toList)=decide (a=b):=by
  intro a b
  have h:=strEq (B a) b (B_lt a)
  rw [mk_B] at h
  rw [h,decide_eq_decide]
  exact ⟨fun h=>B_inj h,fun h=>by rw [h]⟩
 rcases L with _|⟨f0,_|⟨f1,_|⟨f2,_|⟨f3,L⟩⟩⟩⟩
 ·simp at hlen
 ·simp at hlen
 ·simp at hlen
 ·simp only [List.map_cons,List.map_nil,List.cons.injEq,Prod.mk.injEq,and_true] at hf
  obtain ⟨⟨a0,b0,c0⟩,⟨a1,b1,c1⟩,⟨a2,b2,c2⟩⟩:=hf
  have n0:f0.name≠ "_":=by simpa using c0
  have n1:f1.name≠ "_":=by simpa using c1
  have n2:f2.name≠ "_":=by simpa using c2
  simp only [Op.eqFields,n0,n1,n2,ne_eq,not_false_iff,if_true,a0,b0,a1,b1,a2,b2,Atm.mk.injEq]
  cases h1:(e==e')<;>cases h2:(u.toList==u'.toList)<;>cases h3:(r.toList==r'.toList)<;>simp [part,isAgg,run_underlying hi,run_underlying hs,run_equalIn_int w 9998 _ _ _ _ _ hi,run_equalIn_string w 9998 _ _ _ hs,h1,h2,h3]<;>rw [hst] at h2 h3<;>simp_all
 ·simp at hlen
theorem neq_atm (x y:Atm) (w:World):(Op.equalIn 10000 59 (.agg #[.string x.n,.int .i64 x.o,.string x.v]) (.agg #[.string y.n,.int .i64 y.o,.string y.v])).run Tryz.prog w=.ok (decide (x=y)) w:=eq_atm x y w
theorem same_take {α:Type} [DecidableEq α] {l m:List α} {k:Nat} (hl:l.length=m.length) (hk:k < l.length) (hm:k < m.length) (h:l.take k=m.take k) (he:l[k]=m[k]):l.take (k+1)=m.take (k+1):=by
 rw [List.take_succ_eq_append_getElem hk,List.take_succ_eq_append_getElem hm,h,he]
def rdInt:Rd Int:=fun _ _ a cs=>cs=[.int .i64 a]
theorem rdInt_good:Good rdInt 1:=⟨fun h _=>h,fun h _=>h,fun h _ _=>h,fun h=>by rw [h];rfl,fun h u hu=>by rw [h] at hu;simp at hu;subst hu;rfl⟩
abbrev rdInts:Rd (List Int):=rdRow 1 rdInt
theorem rdInts_good:Good rdInts 1:=rdRow_good rdInt_good
theorem rdInts_at {w:World} {S:Nat→Prop} {l:List Int} {A:Option Addr} {n c:Nat} (h:rdInts w S l [.slice A n c]):n=l.length∧n≤c∧c≤maxLen∧∀k (hk:k < l.length),∃ad,A=some ad∧S ad.block∧
  w.cell? (ad.add k)=some (.int .i64 l[k]):=by
 obtain ⟨A',c',e,h1,h2,h⟩:=h
 simp only [List.cons.injEq,Value.slice.injEq,and_true] at e
 obtain ⟨rfl,rfl,rfl⟩:=e
 refine ⟨rfl,h1,h2,fun k hk=>?_⟩
 obtain ⟨ad,es,e,hS,hE,hl,hc⟩:=h k hk
 rw [show es=[.int .i64 l[k]] from hE] at hc
 have:=hc 0 _ rfl
 rw [Nat.mul_one] at this
 exact ⟨ad,e,hS,this⟩
structure Ent where
 n:ByteArray
 v:ByteArray
 d:List (List Atm)
 r:List (List Atm)
 c:List Atm
 p:List Atm
deriving instance DecidableEq for Ent
def rdEnt:Rd Ent:=fun w S x cs=>∃dv rv cv pv,cs=[.string x.n,.string x.v,dv,rv,cv,pv]∧rdGrps w S x.d [dv]∧rdGrps w S x.r [rv]∧rdAtms w S x.c [cv]∧rdAtms w S x.p [pv]
theorem rdEnt_good:Good rdEnt 6 where
 keep:=by
  rintro w w' S x cs ⟨dv,rv,cv,pv,e,h1,h2,h3,h4⟩ hk
  exact ⟨dv,rv,cv,pv,e,rdGrps_good.keep h1 hk,rdGrps_good.keep h2 hk,rdAtms_good.keep h3 hk,rdAtms_good.keep h4 hk⟩
 more:=by
  rintro w S S' x cs ⟨dv,rv,cv,pv,e,h1,h2,h3,h4⟩ hm
  exact ⟨dv,rv,cv,pv,e,rdGrps_good.more h1 hm,rdGrps_good.more h2 hm,rdAtms_good.more h3 hm,rdAtms_good.more h4 hm⟩
 turn:=by
  rintro w w' S x cs row ⟨dv,rv,cv,pv,e,h1,h2,h3,h4⟩ hg hr
  exact ⟨dv,rv,cv,pv,e,rdGrps_good.turn h1 hg hr,rdGrps_good.turn h2 hg hr,rdAtms_good.turn h3 hg hr,rdAtms_good.turn h4 hg hr⟩
 len:=by rintro w S x cs ⟨dv,rv,cv,pv,rfl,_⟩;rfl
 one:=by
  rintro w S x cs ⟨dv,rv,cv,pv,rfl,h1,h2,h3,h4⟩ u hu
  simp only [List.mem_cons,List.not_mem_nil,or_false] at hu
  rcases hu with rfl|rfl|rfl|rfl|rfl|rfl
  ·rfl
  ·rfl
  ·exact rdGrps_good.one h1 _ (by simp)
  ·exact rdGrps_good.one h2 _ (by simp)
  ·exact rdAtms_good.one h3 _ (by simp)
  ·exact rdAtms_good.one h4 _ (by simp)
abbrev rdEnts:Rd (List Ent):=rdRow 6 rdEnt
theorem rdEnts_good:Good rdEnts 1:=rdRow_good rdEnt_good
structure EntV (w:World) (S:Nat→Prop) (x:Ent) (A1:Option Addr) (c1:Nat) (A2:Option Addr) (c2:Nat) (A3:Option Addr) (c3:Nat) (A4:Option Addr) (c4:Nat):Prop where
 d:rdGrps w S x.d [.slice A1 x.d.length c1]
 r:rdGrps w S x.r [.slice A2 x.r.length c2]
 c:rdAtms w S x.c [.slice A3 x.c.length c3]
 p:rdAtms w S x.p [.slice A4 x.p.length c4]
theorem EntV.below {w w':World} {N:Nat} {x:Ent} {A1 A2 A3 A4:Option Addr} {c1 c2 c3 c4:Nat} (h:EntV w (lt_ N) x A1 c1 A2 c2 A3 c3 A4 c4) (hb:Below N w w'):EntV w' (lt_ N) x A1 c1 A2 c2 A3 c3 A4 c4:=
 ⟨rdGrps_good.below h.d hb,rdGrps_good.below h.r hb,rdAtms_good.below h.c hb,rdAtms_good.below h.p hb⟩
theorem EntV.up {w:World} {N N':Nat} {x:Ent} {A1 A2 A3 A4:Option Addr} {c1 c2 c3 c4:Nat} (h:EntV w (lt_ N) x A1 c1 A2 c2 A3 c3 A4 c4) (hn:N≤N'):EntV w (lt_ N') x A1 c1 A2 c2 A3 c3 A4 c4:=
 ⟨rdGrps_good.up h.d hn,rdGrps_good.up h.r hn,rdAtms_good.up h.c hn,rdAtms_good.up h.p hn⟩
theorem EntV.on {w w':World} {x:Ent} {A1 A2 A3 A4:Option Addr} {c1 c2 c3 c4:Nat} (h:EntV w (lt_ w.heap.size) x A1 c1 A2 c2 A3 c3 A4 c4) (hb:Below w.heap.size w w'):EntV w' (lt_ w'.heap.size) x A1 c1 A2 c2 A3 c3 A4 c4:=(h.below hb).up hb.size
abbrev Ent.val (x:Ent) (A1:Option Addr) (c1:Nat) (A2:Option Addr) (c2:Nat) (A3:Option Addr) (c3:Nat) (A4:Option Addr) (c4:Nat):Value:=
 .agg #[.string x.n,.string x.v,.slice A1 x.d.length c1,.slice A2 x.r.length c2,.slice A3 x.c.length c3,.slice A4 x.p.length c4]
theorem rdEnts_at {w:World} {S:Nat→Prop} {l:List Ent} {A:Option Addr} {n c:Nat} (h:rdEnts w S l [.slice A n c]):n=l.length∧n≤c∧c≤maxLen∧∀k (hk:k < l.length),∃ad A1 c1 A2 c2 A3 c3 A4 c4,A=some ad∧S ad.block∧EntV w S l[k] A1 c1 A2 c2 A3 c3 A4 c4∧
  w.cell? (ad.add (k*6))=some (.string l[k].n)∧w.cell? ⟨(ad.add (k*6)).block,(ad.add (k*6)).off+1,none⟩=some (.string l[k].v)∧w.cell? ⟨(ad.add (k*6)).block,(ad.add (k*6)).off+2,none⟩=some (.slice A1 l[k].d.length c1)∧
  w.cell? ⟨(ad.add (k*6)).block,(ad.add (k*6)).off+3,none⟩=some (.slice A2 l[k].r.length c2)∧w.cell? ⟨(ad.add (k*6)).block,(ad.add (k*6)).off+4,none⟩=some (.slice A3 l[k].c.length c3)∧w.cell? ⟨(ad.add (k*6)).block,(ad.add (k*6)).off+5,none⟩=some (.slice A4 l[k].p.length c4):=by
 obtain ⟨A',c',e,h1,h2,h⟩:=h
 simp only [List.cons.injEq,Value.slice.injEq,and_true] at e
 obtain ⟨rfl,rfl,rfl⟩:=e
 refine ⟨rfl,h1,h2,fun k hk=>?_⟩
 obtain ⟨ad,es,e,hS,⟨dv,rv,cv,pv,rfl,g1,g2,g3,g4⟩,hl,hc⟩:=h k hk
 obtain ⟨A1,c1,e1,_⟩:=id g1
 obtain ⟨A2,c2,e2,_⟩:=id g2
 obtain ⟨A3,c3,e3,_⟩:=id g3
 obtain ⟨A4,c4,e4,_⟩:=id g4
 simp only [List.cons.injEq,and_true] at e1 e2 e3 e4
 subst e1
 subst e2
 subst e3
 subst e4
 exact ⟨ad,A1,c1,A2,c2,A3,c3,A4,c4,e,hS,⟨g1,g2,g3,g4⟩,hc 0 _ rfl,by rw [off_add ad (k*6) 1 (by omega)];exact hc 1 _ rfl,by rw [off_add ad (k*6) 2 (by omega)];exact hc 2 _ rfl,by rw [off_add ad (k*6) 3 (by omega)];exact hc 3 _ rfl,by rw [off_add ad (k*6) 4 (by omega)];exact hc 4 _ rfl,by rw [off_add ad (k*6) 5 (by omega)];exact hc 5 _ rfl⟩
def nonD:List Nat→Bool
 | []=>false
 | c::_=>!digB c
def cmpT:Nat→List Nat→List Nat→Int
 | 0,_,_=>0
 | f+1,a,b=>
  if a=[]∧b=[] then 0
  else if (nonD a||nonD b)=true then if sgn (wt a - wt b)≠0 then sgn (wt a - wt b) else cmpT f (a.drop 1) (b.drop 1)
  else if numC (digs a) (digs b)≠0 then numC (digs a) (digs b) else cmpT f (a.drop (numD a)) (b.drop (numD b))
def cmpS (a b:List Nat):Int:=cmpT (a.length+b.length+1) a b
theorem wt_non {l:List Nat} (h:nonD l=true):wt l≠0:=by
 cases l with
 | nil=>simp [nonD] at h
 | cons c l=>
  simp only [nonD,Bool.not_eq_true'] at h
  simp only [wt,h]
  by_cases h1:c=126
  ·simp [h1]
  ·by_cases h2:letB c=true
   ·simp [h1,h2]
    rintro rfl
    simp [letB] at h2
   ·simp [h1,h2];omega
theorem wt_end {l:List Nat} (h:nonD l=false):wt l=0:=by
 cases l with
 | nil=>rfl
 | cons c l=>
  simp only [nonD,Bool.not_eq_false'] at h
  simp [wt,h]
theorem sgn_zero {n:Int}:sgn n=0↔n=0:=by unfold sgn;split<;>(try split)<;>omega
theorem both_non {a b:List Nat} (h:(nonD a||nonD b)=true) (h0:¬sgn (wt a - wt b)≠0):nonD a=true∧nonD b=true:=by
 have h1:wt a=wt b:=by have:=sgn_zero.1 (Classical.not_not.1 h0);omega
 cases ha:nonD a<;>cases hb:nonD b
 ·simp [ha,hb] at h
 ·have:=wt_end ha;have:=wt_non hb;omega
 ·have:=wt_non ha;have:=wt_end hb;omega
 ·exact ⟨rfl,rfl⟩
theorem non_len {l:List Nat} (h:nonD l=true):1≤l.length:=by
 cases l with
 | nil=>simp [nonD] at h
 | cons c l=>simp
theorem num_len {l:List Nat} (h:nonD l=false) (hl:l≠[]):1≤numD l:=by
 cases l with
 | nil=>exact absurd rfl hl
 | cons c l=>
  simp only [nonD,Bool.not_eq_false'] at h
  simp [numD,h]
theorem numD_le (l:List Nat):numD l≤l.length:=by unfold numD;exact (List.takeWhile_prefix digB).length_le
theorem cmpT_fuel:∀(f g:Nat) (a b:List Nat),a.length+b.length < f→a.length+b.length < g→cmpT f a b=cmpT g a b
 | 0,_,_,_,h,_=>by omega
 | _+1,0,_,_,_,h=>by omega
 | f+1,g+1,a,b,hf,hg=>by
  simp only [cmpT]
  by_cases h0:a=[]∧b=[]
  ·rw [if_pos h0,if_pos h0]
  ·rw [if_neg h0,if_neg h0]
   by_cases h1:(nonD a||nonD b)=true
   ·rw [if_pos h1,if_pos h1]
    by_cases h2:sgn (wt a - wt b)≠0
    ·rw [if_pos h2,if_pos h2]
    ·rw [if_neg h2,if_neg h2]
     obtain ⟨ha,hb⟩:=both_non h1 h2
     have:=non_len ha
     have:=non_len hb
     exact cmpT_fuel f g _ _ (by simp;omega) (by simp;omega)
   ·rw [if_neg h1,if_neg h1]
    by_cases h2:numC (digs a) (digs b)≠0
    ·rw [if_pos h2,if_pos h2]
    ·rw [if_neg h2,if_neg h2]
     have hna:nonD a=false:=by cases h:nonD a<;>simp_all
     have hnb:nonD b=false:=by cases h:nonD b<;>simp_all
     have la:=numD_le a
     have lb:=numD_le b
     have hs:1≤numD a+numD b:=by
      by_cases ha:a=[]
      ·have:=num_len hnb (fun hb=>h0 ⟨ha,hb⟩);omega
      ·have:=num_len hna ha;omega
     exact cmpT_fuel f g _ _ (by simp;omega) (by simp;omega)
theorem cmpS_wt {a b:List Nat} (h1:(nonD a||nonD b)=true):cmpS a b=if sgn (wt a - wt b)≠0 then sgn (wt a - wt b) else cmpS (a.drop 1) (b.drop 1):=by
 have h0:¬(a=[]∧b=[]):=by rintro ⟨rfl,rfl⟩;simp [nonD] at h1
 unfold cmpS
 rw [cmpT,if_neg h0,if_pos h1]
 by_cases h2:sgn (wt a - wt b)≠0
 ·rw [if_pos h2,if_pos h2]
 ·rw [if_neg h2,if_neg h2]
  obtain ⟨ha,hb⟩:=both_non h1 h2
  have:=non_len ha
  have:=non_len hb
  exact cmpT_fuel _ _ _ _ (by simp;omega) (by omega)
theorem cmpS_num {a b:List Nat} (h0:¬(a=[]∧b=[])) (h1:(nonD a||nonD b)=false):cmpS a b=if numC (digs a) (digs b)≠0 then numC (digs a) (digs b) else cmpS (a.drop (numD a)) (b.drop (numD b)):=by
 unfold cmpS
 rw [cmpT,if_neg h0,if_neg (by simp [h1])]
 by_cases h2:numC (digs a) (digs b)≠0
 ·rw [if_pos h2,if_pos h2]
 ·rw [if_neg h2,if_neg h2]
  have hna:nonD a=false:=by cases h:nonD a<;>simp_all
  have hnb:nonD b=false:=by cases h:nonD b<;>simp_all
  have la:=numD_le a
  have lb:=numD_le b
  have hs:1≤numD a+numD b:=by
   by_cases ha:a=[]
   ·have:=num_len hnb (fun hb=>h0 ⟨ha,hb⟩);omega
   ·have:=num_len hna ha;omega
  exact cmpT_fuel _ _ _ _ (by simp;omega) (by omega)
theorem sgn_neg (n:Int):sgn (-n)=-sgn n:=by unfold sgn;split<;>split<;>(try split)<;>(try split)<;>omega
theorem sgn_is (n:Int):(n < 0∧sgn n=-1)∨(n=0∧sgn n=0)∨(0 < n∧sgn n=1):=by unfold sgn;split<;>(try split)<;>omega
theorem lexL_is:∀a b,lexL a b=-1∨lexL a b=0∨lexL a b=1
 | [],[]=>by simp [lexL]
 | [],_::_=>by simp [lexL]
 | _::_,[]=>by simp [lexL]
 | x::a,y::b=>by have:=lexL_is a b;simp only [lexL];split<;>(try split)<;>omega
theorem lexL_neg:∀a b,lexL b a=-lexL a b
 | [],[]=>by simp [lexL]
 | [],_::_=>by simp [lexL]
 | _::_,[]=>by simp [lexL]
 | x::a,y::b=>by have:=lexL_neg a b;simp only [lexL];split<;>split<;>(try split)<;>(try split)<;>omega
theorem lexL_tr:∀a b c,lexL a b≤0→lexL b c≤0→lexL a c≤0∧(lexL a b < 0∨lexL b c < 0→lexL a c < 0)
 | [],[],[]=>by simp [lexL]
 | [],[],_::_=>by simp [lexL]
 | [],_::_,[]=>by simp [lexL]
 | [],_::_,_::_=>by simp [lexL]
 | _::_,[],_=>by simp [lexL]
 | _::_,_::_,[]=>by simp [lexL]
 | x::a,y::b,z::c=>by
  have h:=lexL_tr a b c
  simp only [lexL]
  by_cases h1:x < y
  ·by_cases h3:y < z
   ·rw [if_pos h1,if_pos h3,if_pos (by omega)];intro _ _;omega
   ·by_cases h4:z < y
    ·rw [if_neg h3,if_pos h4];intro _ hh;omega
    ·rw [if_pos h1,if_pos (show x < z by omega)];intro _ _;omega
  ·by_cases h2:y < x
   ·rw [if_neg h1,if_pos h2];intro hh;omega
   ·by_cases h3:y < z
    ·rw [if_pos h3,if_pos (show x < z by omega)];intro _ _;omega
    ·by_cases h4:z < y
     ·rw [if_neg h3,if_pos h4];intro _ hh;omega
     ·rw [if_neg h1,if_neg h2,if_neg h3,if_neg h4,if_neg (by omega),if_neg (by omega)];exact h
theorem numC_is (a b:List Nat):numC a b=-1∨numC a b=0∨numC a b=1:=by
 have h:=lexL_is a b
 have h2:=sgn_is ((a.length:Int) - b.length)
 unfold numC;split<;>omega
theorem numC_neg (a b:List Nat):numC b a=-numC a b:=by
 have h:=lexL_neg a b
 have h2:=sgn_neg ((a.length:Int) - b.length)
 have e:-((a.length:Int) - b.length)=(b.length:Int) - a.length:=by omega
 rw [e] at h2
 unfold numC
 by_cases hl:a.length=b.length
 ·rw [if_neg (by omega),if_neg (by omega)];exact h
 ·rw [if_pos (by omega),if_pos hl];exact h2
theorem numC_tr (a b c:List Nat):numC a b≤0→numC b c≤0→numC a c≤0∧(numC a b < 0∨numC b c < 0→numC a c < 0):=by
 have h:=lexL_tr a b c
 have h1:=sgn_is ((a.length:Int) - b.length)
 have h2:=sgn_is ((b.length:Int) - c.length)
 have h3:=sgn_is ((a.length:Int) - c.length)
 unfold numC
 by_cases e1:a.length=b.length
 ·by_cases e2:b.length=c.length
  ·rw [if_neg (by omega),if_neg (by omega),if_neg (by omega)];exact h
  ·rw [if_neg (by omega),if_pos (by omega),if_pos (by omega)];intro _ _;omega
 ·by_cases e2:b.length=c.length
  ·rw [if_pos (by omega),if_neg (by omega),if_pos (by omega)];intro _ _;omega
  ·rw [if_pos e1,if_pos e2]
   intro q1 q2
   rw [if_pos (by omega)];omega
theorem wt_nonD {l:List Nat}:wt l=0↔nonD l=false:=by
 constructor
 ·intro h
  cases hn:nonD l
  ·rfl
  ·exact absurd h (wt_non hn)
 ·exact wt_end
theorem cmpS_ne {a b:List Nat} (h:wt a≠wt b):cmpS a b=sgn (wt a - wt b):=by
 have hn:(nonD a||nonD b)=true:=by
  cases ha:nonD a<;>cases hb:nonD b<;>first|rfl|skip
  exact absurd ((wt_end ha).trans (wt_end hb).symm) h
 rw [cmpS_wt hn,if_pos (by rw [Ne,sgn_zero];omega)]
theorem cmpS_eq {a b:List Nat} (h:wt a=wt b) (h0:wt a≠0):cmpS a b=cmpS (a.drop 1) (b.drop 1):=by
 have hn:(nonD a||nonD b)=true:=by
  cases ha:nonD a
  ·exact absurd (wt_end ha) h0
  ·rfl
 rw [cmpS_wt hn,if_neg (by rw [Ne,sgn_zero];omega)]
theorem cmpS_no {a b:List Nat} (h1:wt a=0) (h2:wt b=0):cmpS a b=if numC (digs a) (digs b)≠0 then numC (digs a) (digs b) else cmpS (a.drop (numD a)) (b.drop (numD b)):=by
 by_cases h:a=[]∧b=[]
 ·obtain ⟨rfl,rfl⟩:=h;rfl
 ·exact cmpS_num h (by rw [wt_nonD.1 h1,wt_nonD.1 h2];rfl)
theorem drop1_len {l:List Nat} (h:wt l≠0):(l.drop 1).length < l.length:=by
 cases l with
 | nil=>exact absurd rfl h
 | cons c l=>simp
theorem dropN_len (l:List Nat):(l.drop (numD l)).length≤l.length:=by rw [List.length_drop];omega
theorem dropN_lt {l:List Nat} (h:wt l=0) (hl:l≠[]):(l.drop (numD l)).length < l.length:=by
 have h1:=num_len (wt_nonD.1 h) hl
 have h2:=numD_le l
 rw [List.length_drop];omega
theorem cmpS_both:∀(n:Nat) (a b:List Nat),a.length+b.length≤n→(cmpS a b=-1∨cmpS a b=0∨cmpS a b=1)∧cmpS b a=-cmpS a b
 | n,a,b,hn=>by
  by_cases hw:wt a=wt b
  ·by_cases h0:wt a=0
   ·rw [cmpS_no h0 (hw ▸ h0),cmpS_no (hw ▸ h0) h0,numC_neg (digs a) (digs b)]
    have hi:=numC_is (digs a) (digs b)
    by_cases hc:numC (digs a) (digs b)=0
    ·rw [if_neg (by omega),if_neg (by omega)]
     by_cases he:a=[]∧b=[]
     ·obtain ⟨rfl,rfl⟩:=he;exact ⟨.inr (.inl rfl),rfl⟩
     ·have l1:=dropN_len a
      have l2:=dropN_len b
      have l3:(a.drop (numD a)).length+(b.drop (numD b)).length < a.length+b.length:=by
       by_cases ha:a=[]
       ·have:=dropN_lt (hw ▸ h0) (fun hb=>he ⟨ha,hb⟩);omega
       ·have:=dropN_lt h0 ha;omega
      match n with
      | 0=>omega
      | n+1=>exact cmpS_both n _ _ (by omega)
    ·rw [if_pos (by omega),if_pos (by omega)];exact ⟨hi,rfl⟩
   ·rw [cmpS_eq hw h0,cmpS_eq hw.symm (hw ▸ h0)]
    have l1:=drop1_len h0
    have l2:=drop1_len (hw ▸ h0:wt b≠0)
    match n with
    | 0=>omega
    | n+1=>exact cmpS_both n _ _ (by omega)
  ·rw [cmpS_ne hw,cmpS_ne (Ne.symm hw)]
   have h1:=sgn_is (wt a - wt b)
   have h2:=sgn_neg (wt a - wt b)
   have e:-(wt a - wt b)=wt b - wt a:=by omega
   rw [e] at h2
   exact ⟨by omega,h2⟩
theorem cmpS_neg (a b:List Nat):cmpS b a=-cmpS a b:=(cmpS_both _ a b (Nat.le_refl _)).2
theorem cmpS_trN:∀(n:Nat) (a b c:List Nat),a.length+b.length+c.length≤n→cmpS a b≤0→cmpS b c≤0→cmpS a c≤0∧(cmpS a b < 0∨cmpS b c < 0→cmpS a c < 0)
 | n,a,b,c,hn=>by
  have s1:=sgn_is (wt a - wt b)
  have s2:=sgn_is (wt b - wt c)
  have s3:=sgn_is (wt a - wt c)
  by_cases h1:wt a=wt b
  ·by_cases h2:wt b=wt c
   ·by_cases h0:wt a=0
    ·rw [cmpS_no (a:=a) (b:=b) h0 (by omega),cmpS_no (a:=b) (b:=c) (by omega) (by omega),cmpS_no (a:=a) (b:=c) h0 (by omega)]
     have hi:=numC_tr (digs a) (digs b) (digs c)
     have hj:=numC_tr (digs c) (digs b) (digs a)
     rw [numC_neg (digs b) (digs c),numC_neg (digs a) (digs b),numC_neg (digs a) (digs c)] at hj
     by_cases e1:numC (digs a) (digs b)=0
     ·by_cases e2:numC (digs b) (digs c)=0
      ·have e3:numC (digs a) (digs c)=0:=by omega
       rw [if_neg (by omega),if_neg (by omega),if_neg (by omega)]
       by_cases he:a=[]∧b=[]∧c=[]
       ·obtain ⟨rfl,rfl,rfl⟩:=he;intro _ _;exact ⟨by decide,fun h=>by rcases h with h|h<;>exact absurd h (by decide)⟩
       ·have l1:=dropN_len a
        have l2:=dropN_len b
        have l3:=dropN_len c
        have l4:(a.drop (numD a)).length+(b.drop (numD b)).length+(c.drop (numD c)).length < a.length+b.length+c.length:=by
         by_cases ha:a=[]
         ·by_cases hb:b=[]
          ·have:=dropN_lt (by omega:wt c=0) (fun hc=>he ⟨ha,hb,hc⟩);omega
          ·have:=dropN_lt (by omega:wt b=0) hb;omega
         ·have:=dropN_lt h0 ha;omega
        match n with
        | 0=>omega
        | n+1=>exact cmpS_trN n _ _ _ (by omega)
      ·rw [if_neg (by omega),if_pos e2]
       intro _ q
       rw [if_pos (by omega)];omega
     ·rw [if_pos e1]
      intro q1
      by_cases e2:numC (digs b) (digs c)=0
      ·rw [if_neg (by omega)]
       intro q2
       rw [if_pos (by omega)];omega
      ·rw [if_pos e2]
       intro q2
       rw [if_pos (by omega)];omega
    ·rw [cmpS_eq (a:=a) (b:=b) h1 h0,cmpS_eq (a:=b) (b:=c) h2 (by omega),cmpS_eq (a:=a) (b:=c) (h1.trans h2) h0]
     have l1:=drop1_len h0
     have l2:=drop1_len (by omega:wt b≠0)
     have l3:=drop1_len (by omega:wt c≠0)
     match n with
     | 0=>omega
     | n+1=>exact cmpS_trN n _ _ _ (by omega)
   ·rw [cmpS_ne h2,cmpS_ne (a:=a) (b:=c) (by omega)]
    intro _ _;omega
  ·rw [cmpS_ne h1]
   intro q1
   by_cases h2:wt b=wt c
   ·rw [cmpS_ne (a:=a) (b:=c) (by omega)]
    intro _;omega
   ·rw [cmpS_ne h2]
    intro q2
    rw [cmpS_ne (a:=a) (b:=c) (by omega)];omega
theorem cmpS_tr (a b c:List Nat):cmpS a b≤0→cmpS b c≤0→cmpS a c≤0∧(cmpS a b < 0∨cmpS b c < 0→cmpS a c < 0):=cmpS_trN _ a b c (Nat.le_refl _)
def headD:List Nat→Bool|[]=>false|c::_=>digB c
def chB (x:List Nat) (c:Nat):Bool:=letB c||digB c||hasB x c
def uX:List Nat:=[46,43,126,45,58]
def rX:List Nat:=[46,43,126]
def rightB (e:Int) (u r:List Nat):Bool:=
 decide (0≤e∧e≤999999999)&&headD u&&!(hasB u 45&&decide (r=[]))&&!(hasB u 58&&decide (e=0))&&u.all (chB uX)&&r.all (chB rX)&&decide ((textL e.toNat u r).length≤60)
theorem headD_at (s:ByteArray) (h:0 < s.size):headD (B s)=digB s[0].toNat:=by
 have:=B_drop s 0 h
 rw [List.drop_zero] at this
 rw [this];rfl
theorem uX_B:B { data:=#[46,43,126,45,58] }=uX:=by decide
theorem rX_B:B { data:=#[46,43,126] }=rX:=by decide
theorem has_uX (c:Nat) (w:World):Calls Tryz.prog 133 #[.string { data:=#[46,43,126,45,58] },.int .u8 (c:Int)] w fun e w'=>e=.returned (.bool (hasB uX c))∧w=w':=by
 have:=has_any { data:=#[46,43,126,45,58] } c w (by decide)
 rwa [uX_B] at this
theorem has_rX (c:Nat) (w:World):Calls Tryz.prog 133 #[.string { data:=#[46,43,126] },.int .u8 (c:Int)] w fun e w'=>e=.returned (.bool (hasB rX c))∧w=w':=by
 have:=has_any { data:=#[46,43,126] } c w (by decide)
 rwa [rX_B] at this
theorem has_45 (s:ByteArray) (w:World) (hs:s.size≤9223372036854775807):Calls Tryz.prog 133 #[.string s,.int .u8 45] w fun e w'=>e=.returned (.bool (hasB (B s) 45))∧w=w':=has_any s 45 w hs
theorem has_58 (s:ByteArray) (w:World) (hs:s.size≤9223372036854775807):Calls Tryz.prog 133 #[.string s,.int .u8 58] w fun e w'=>e=.returned (.bool (hasB (B s) 58))∧w=w':=has_any s 58 w hs
theorem text_len (e:Nat) (u r:ByteArray) (he:e≤1000000000) (hu:u.size≤65536) (hr:r.size≤65536) :
  ∃T:ByteArray,T=mk (textL e (B u) (B r))∧T.size=(textL e (B u) (B r)).length∧∀w,Calls Tryz.prog 120 #[.agg #[.int .i64 (e:Int),.string u,.string r]] w fun e' w'=>e'=.returned (.string T)∧Below w.heap.size w w':=
 ⟨_,rfl,size_mk _,fun w=>text_any e u r w he hu hr⟩
theorem all_take {s:ByteArray} {p:Nat→Bool} {k:Nat} (hk:k < s.size) (h:∀c ∈ (B s).take k,p c=true) (hp:p s[k].toNat=true):∀c ∈ (B s).take (k+1),p c=true:=by
 intro c hc
 rw [B_take_snoc s k hk] at hc
 rcases List.mem_append.1 hc with hc|hc
 ·exact h c hc
 ·rw [List.mem_singleton.1 hc];exact hp
theorem all_end {s:ByteArray} {p:Nat→Bool} {k:Nat} (hk:¬k < s.size) (h:∀c ∈ (B s).take k,p c=true):(B s).all p=true:=by
 rw [List.take_of_length_le (by rw [B_len];omega)] at h
 exact List.all_eq_true.2 h
theorem all_not {s:ByteArray} {p:Nat→Bool} {k:Nat} (hk:k < s.size) (hp:p s[k].toNat=false):(B s).all p=false:=by
 rw [Bool.eq_false_iff]
 intro h
 rw [List.all_eq_true] at h
 have:=h _ (List.mem_of_getElem? (B_at s k hk))
 rw [hp] at this;cases this
theorem right_neg (e:Int) (u r:ByteArray) (w:World) (h:e < 0) :
  Calls Tryz.prog 119 #[.agg #[.int .i64 e,.string u,.string r]] w fun e' w'=>e'=.returned (.bool (rightB e (B u) (B r)))∧Below w.heap.size w w':=by
 have X:=Lib.hid (show rightB e (B u) (B r)=false by unfold rightB;rw [decide_eq_false (by omega)];rfl)
 go_enter Tryz.func119,Tryz.ntmps119
 go_wp2
 go_ret
 exact ⟨by rw [X.out];rfl,(Below.refl _ w).alloc (Nat.le_refl _) _⟩
theorem right_big (e:Int) (u r:ByteArray) (w:World) (h:999999999 < e) :
  Calls Tryz.prog 119 #[.agg #[.int .i64 e,.string u,.string r]] w fun e' w'=>e'=.returned (.bool (rightB e (B u) (B r)))∧Below w.heap.size w w':=by
 have X:=Lib.hid (show rightB e (B u) (B r)=false by unfold rightB;rw [decide_eq_false (by omega)];rfl)
 go_enter Tryz.func119,Tryz.ntmps119
 go_wp2
 go_ret
 exact ⟨by rw [X.out];rfl,(Below.refl _ w).alloc (Nat.le_refl _) _⟩
theorem right_empty (e:Int) (u r:ByteArray) (w:World) (h0:0≤e) (h1:e≤999999999) (hu:u.toList.isEmpty=true) :
  Calls Tryz.prog 119 #[.agg #[.int .i64 e,.string u,.string r]] w fun e' w'=>e'=.returned (.bool (rightB e (B u) (B r)))∧Below w.heap.size w w':=by
 have X:=Lib.hid (show rightB e (B u) (B r)=false by unfold rightB;rw [(empty_iff u).1 hu];simp [headD])
 go_enter Tryz.func119,Tryz.ntmps119
 go_wp2
 go_ret
 exact ⟨by rw [X.out];rfl,(Below.refl _ w).alloc (Nat.le_refl _) _⟩
theorem right_head (e:Int) (u r:ByteArray) (w:World) (h0:0≤e) (h1:e≤999999999) (hu:u.toList.isEmpty=false) (hs:0 < u.size) (hd:digB u[0].toNat=false) :
  Calls Tryz.prog 119 #[.agg #[.int .i64 e,.string u,.string r]] w fun e' w'=>e'=.returned (.bool (rightB e (B u) (B r)))∧Below w.heap.size w w':=by
 have X:=Lib.hid (show rightB e (B u) (B r)=false by unfold rightB;rw [headD_at u hs,hd];simp)
 have HD:=Lib.hid hd
 clear hd
 go_enter Tryz.func119,Tryz.ntmps119
 go_wp2_with (go_at_call 94;refine (Digit_any _ _).mono ?_;rw [HD.out];rintro e' w' ⟨rfl,rfl⟩)
 go_ret
 exact ⟨by rw [X.out];rfl,(Below.refl _ w).alloc (Nat.le_refl _) _⟩
theorem right_dash (e:Int) (u r:ByteArray) (w:World) (h0:0≤e) (h1:e≤999999999) (hu:u.toList.isEmpty=false) (hs:0 < u.size) (hsz:u.size≤9223372036854775807) (hd:digB u[0].toNat=true) (h45:hasB (B u) 45=true) (hr:r.toList.isEmpty=true) :
  Calls Tryz.prog 119 #[.agg #[.int .i64 e,.string u,.string r]] w fun e' w'=>e'=.returned (.bool (rightB e (B u) (B r)))∧Below w.heap.size w w':=by
 have X:=Lib.hid (show rightB e (B u) (B r)=false by unfold rightB;rw [h45,(empty_iff r).1 hr];simp)
 have HD:=Lib.hid hd
 have C45:=Lib.hid (fun w=>has_45 u w hsz)
 have C58:=Lib.hid (fun w=>has_58 u w hsz)
 rw [h45] at C45
 clear hd h45
 go_enter Tryz.func119,Tryz.ntmps119
 go_wp2_with (first|(go_at_call 94;refine (Digit_any _ _).mono ?_;rw [HD.out];rintro e' w' ⟨rfl,rfl⟩)|(go_at_call 133;(with_reducible refine (C45.out _).mono ?_);rintro e' w' ⟨rfl,rfl⟩)|(go_at_call 133;(with_reducible refine (C58.out _).mono ?_);rintro e' w' ⟨rfl,rfl⟩))
 go_ret
 exact ⟨by rw [X.out];rfl,(Below.refl _ w).alloc (Nat.le_refl _) _⟩
theorem right_colon_true (u r:ByteArray) (w:World) (hu:u.toList.isEmpty=false) (hs:0 < u.size) (hsz:u.size≤9223372036854775807) (hd:digB u[0].toNat=true) (h45:hasB (B u) 45=true) (hr:r.toList.isEmpty=false) (h58:hasB (B u) 58=true) :
  Calls Tryz.prog 119 #[.agg #[.int .i64 0,.string u,.string r]] w fun e' w'=>e'=.returned (.bool (rightB 0 (B u) (B r)))∧Below w.heap.size w w':=by
 have X:=Lib.hid (show rightB 0 (B u) (B r)=false by unfold rightB;rw [h58];simp)
 have HD:=Lib.hid hd
 have C45:=Lib.hid (fun w=>has_45 u w hsz)
 have C58:=Lib.hid (fun w=>has_58 u w hsz)
 rw [h45] at C45
 rw [h58] at C58
 clear hd h45 h58
 go_enter Tryz.func119,Tryz.ntmps119
 go_wp2_with (first|(go_at_call 94;refine (Digit_any _ _).mono ?_;rw [HD.out];rintro e' w' ⟨rfl,rfl⟩)|(go_at_call 133;(with_reducible refine (C45.out _).mono ?_);rintro e' w' ⟨rfl,rfl⟩)|(go_at_call 133;(with_reducible refine (C58.out _).mono ?_);rintro e' w' ⟨rfl,rfl⟩))
 go_ret
 exact ⟨by rw [X.out];rfl,(Below.refl _ w).alloc (Nat.le_refl _) _⟩
theorem right_colon_false (u r:ByteArray) (w:World) (hu:u.toList.isEmpty=false) (hs:0 < u.size) (hsz:u.size≤9223372036854775807) (hd:digB u[0].toNat=true) (h45:hasB (B u) 45=false) (h58:hasB (B u) 58=true) :
  Calls Tryz.prog 119 #[.agg #[.int .i64 0,.string u,.string r]] w fun e' w'=>e'=.returned (.bool (rightB 0 (B u) (B r)))∧Below w.heap.size w w':=by
 have X:=Lib.hid (show rightB 0 (B u) (B r)=false by unfold rightB;rw [h58];simp)
 have HD:=Lib.hid hd
 have C45:=Lib.hid (fun w=>has_45 u w hsz)
 have C58:=Lib.hid (fun w=>has_58 u w hsz)
 rw [h45] at C45
 rw [h58] at C58
 clear hd h45 h58
 go_enter Tryz.func119,Tryz.ntmps119
 go_wp2_with (first|(go_at_call 94;refine (Digit_any _ _).mono ?_;rw [HD.out];rintro e' w' ⟨rfl,rfl⟩)|(go_at_call 133;(with_reducible refine (C45.out _).mono ?_);rintro e' w' ⟨rfl,rfl⟩)|(go_at_call 133;(with_reducible refine (C58.out _).mono ?_);rintro e' w' ⟨rfl,rfl⟩))
 go_ret
 exact ⟨by rw [X.out];rfl,(Below.refl _ w).alloc (Nat.le_refl _) _⟩
end Go.Proofs.YtoopkofekekmoaaGreatDoor
