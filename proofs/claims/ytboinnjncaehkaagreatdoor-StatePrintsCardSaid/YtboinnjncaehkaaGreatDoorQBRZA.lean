/- What the laws rest on: S5p, S5q, S5r, S5t, S5u, HeldA, S5v. -/
import Derived.Lib.SplitLaws
import Derived.Test.YtboinnjncaehkaaGreatDoorQBPZA
set_option maxRecDepth 100000
set_option linter.unusedVariables false
set_option linter.unusedSimpArgs false
namespace Go.Proofs.YtboinnjncaehkaaGreatDoor
open Go.RowKit
theorem ahead_at {c:Nat}:∀{l:List Nat},c ∈ l→l=ahead c l++c::l.drop ((ahead c l).length+1)
 | [],h=>by simp at h
 | x::l,h=>by
  unfold ahead
  by_cases hx:x=c
  ·subst hx;simp
  ·have hb:(x != c)=true:=by rw [bne_iff_ne];exact hx
   have:=ahead_at ((List.mem_cons.1 h).resolve_left fun e=>hx e.symm)
   rw [List.takeWhile_cons,if_pos hb,List.length_cons,List.drop_succ_cons,List.cons_append]
   congr 1
theorem ahead_ne {c:Nat}:∀{l:List Nat},∀x ∈ ahead c l,x≠c
 | [],x,hx=>by simp [ahead] at hx
 | y::l,x,hx=>by
  unfold ahead at hx
  rw [List.takeWhile_cons] at hx
  split at hx
  ·rename_i hy
   rcases List.mem_cons.1 hx with rfl|hx
   ·simpa using hy
   ·exact ahead_ne x hx
  ·cases hx
theorem ext0_mk {s:ByteArray} {k:Nat}:s.extract 0 k=mk ((B s).take k):=by
 apply eq_mk;rw [B_extract];simp
theorem ext1_B {s:ByteArray} {k:Nat}:B (s.extract k s.size)=(B s).drop k:=by
 rw [B_extract,List.take_of_length_le (by rw [List.length_drop,B_len];omega)]
theorem split5_is:∀(k:Nat) (s:ByteArray),Lib.countB s { data:=#[10] }=k→Lib.splitB { data:=#[10] } 0 k s=(cutBy 10 (B s)).map mk:=by
 have miss:∀s:ByteArray,10 ∉ B s→[s]=(cutBy 10 (B s)).map mk:=fun s a=>by
  rw [cutBy_none (fun x hx e=>a (by rw [←e];exact hx)),List.map_singleton,mk_B]
 intro k
 induction k with
 | zero=>
  intro s h
  rw [Lib.splitB_zero]
  refine miss s fun a=>?_
  rcases index_nm 10 s.data.toList with ⟨_,h'⟩|⟨a',_⟩
  ·have hi:Lib.indexB s { data:=#[10] }=((ahead 10 (B s)).length:Nat):=(Lib.index_one _ _).trans h'
   have:=Lib.countB_hit s { data:=#[10] } _ (by decide) hi
   omega
  ·exact a' a
 | succ k ih=>
  intro s h
  rcases index_nm 10 s.data.toList with ⟨a,h'⟩|⟨_,h',_⟩
  ·have hi:Lib.indexB s { data:=#[10] }=((ahead 10 (B s)).length:Nat):=(Lib.index_one _ _).trans h'
   have hc:=Lib.countB_hit s { data:=#[10] } _ (by decide) hi
   have hm:¬(Lib.indexB s { data:=#[10] }==-1)=true:=fun e=>by have:=beq_iff_eq.1 e;omega
   unfold Lib.splitB
   rw [if_neg hm,hi,ih _ (by rw [show ((ahead 10 (B s)).length:Int).toNat=(ahead 10 (B s)).length by omega];omega)]
   have e:=ahead_at (c:=10) (l:=B s) a
   have e2:cutBy 10 (B s)=ahead 10 (B s)::cutBy 10 ((B s).drop ((ahead 10 (B s)).length+1)):=by
    conv=>lhs;rw [e]
    exact cutBy_at ahead_ne _
   rw [e2,List.map_cons,ext0_mk,ext1_B,show ((ahead 10 (B s)).length:Int).toNat+0=(ahead 10 (B s)).length by omega,ahead_take]
   rfl
  ·have hi:Lib.indexB s { data:=#[10] }=-1:=(Lib.index_one _ _).trans h'
   have:=Lib.countB_miss s _ hi
   omega
theorem split5_any (s:ByteArray) (m:Int) (w:World) (hs:s.size≤65536) (hm:w.cell? ⟨1,0,none⟩=some (.int .i64 m)) :
  Calls Tryz.prog 97 #[.string s,.string { data:=#[10] }] w fun e w'=>e=.returned (.slice (some ⟨w.heap.size,0,none⟩) (cutBy 10 (B s)).length (cutBy 10 (B s)).length)∧
   w'=w.alloc (.cells (((cutBy 10 (B s)).map mk).map Value.string).toArray 9):=by
 have e:=split5_is _ s rfl
 have el:=Lib.splitB_all { data:=#[10] } (by decide) 0 _ s rfl
 rw [e,List.length_map] at el
 refine (Tryz.strings_Split s { data:=#[10] } m w (by omega) hm (by decide)).mono ?_
 rintro e' w' ⟨rfl,rfl⟩
 rw [e,←el]
 exact ⟨rfl,rfl⟩
set_option maxHeartbeats 2000000 in
theorem begin5_form (x:ByteArray) (N r k:Nat) (p:PS) (vs vo vl:Value) (m:Int) (w:World) (hR:RdP w N r k p vs vo vl) (hx:x.size≤65536) (hm:w.cell? ⟨1,0,none⟩=some (.int .i64 m)) (h:(decide (58 ∈ B x)&&fnB (nmOf (B x)))=false) :
  Calls Tryz.prog 161 #[.pointer (some ⟨r,0,none⟩),.string x] w fun e w'=>e=erE 5∧Below w.heap.size w w':=by
 have C:=Lib.hid (colon_any x m w hx hm)
 have HX:=Lib.hid hx
 have nmB5:B (mk (nmOf (B x)))=nmOf (B x):=by
  have e:B (mk ((B x).take (nmOf (B x)).length))=(B x).take (nmOf (B x)).length:=by rw [←ext0_mk,B_extract];simp
  rwa [nm_take] at e
 clear hR hm
 cases h1:decide (58 ∈ B x)
 ·rw [h1] at C
  clear h h1 hx nmB5
  go_enter Tryz.func161,Tryz.ntmps161
  go_wp2_with fail
  refine C.out.mono ?_
  rintro e w1 ⟨rfl,n,rfl⟩
  have hb:=belD (Below.refl w.heap.size w) n
  generalize w.drewN n=V at *
  have HB:=Lib.hid (hb.alloc hb.size (.cells #[.string (mk (nmOf (B x)))] 9))
  clear hb
  go_wp2
  exact ⟨rfl,rfl,HB.out⟩
 ·rw [h1] at C
  rw [h1,Bool.true_and] at h
  have NM:=Lib.hid (fun W=>name5_any (mk (nmOf (B x))) W (by rw [←B_len];have:=nm_le (B x);rw [B_len] at this;rw [nmB5];unfold maxLen;omega))
  rw [nmB5,h] at NM
  clear h h1 hx nmB5
  go_enter Tryz.func161,Tryz.ntmps161
  go_wp2_with fail
  refine C.out.mono ?_
  rintro e w1 ⟨rfl,n,rfl⟩
  have hb:=belD (Below.refl w.heap.size w) n
  generalize w.drewN n=V at *
  have HB:=Lib.hid (hb.alloc hb.size (.cells #[.string (mk (nmOf (B x)))] 9))
  clear hb
  go_wp2_with fail
  refine (NM.out _).mono ?_
  rintro e w2 ⟨rfl,hb2⟩
  have HB2:=Lib.hid (HB.out.trans (hb2.mono HB.out.size))
  clear hb2
  go_wp2
  exact ⟨rfl,rfl,HB2.out⟩
theorem nm_mk (x:ByteArray):B (mk (nmOf (B x)))=nmOf (B x):=by
 have e:B (mk ((B x).take (nmOf (B x)).length))=(B x).take (nmOf (B x)).length:=by rw [←ext0_mk,B_extract];simp
 rwa [nm_take] at e
set_option maxHeartbeats 2000000 in
theorem begin5_there (x:ByteArray) (N r k:Nat) (p:PS) (vs vo vl:Value) (m:Int) (w:World) (hR:RdP w N r k p vs vo vl) (hr:r < w.heap.size) (hx:x.size≤65536) (hm:w.cell? ⟨1,0,none⟩=some (.int .i64 m)) (h:(decide (58 ∈ B x)&&fnB (nmOf (B x)))=true)
  (hh:opHas p.op (mk (nmOf (B x)))=true) :
  Calls Tryz.prog 161 #[.pointer (some ⟨r,0,none⟩),.string x] w fun e w'=>e=erE 7∧Below w.heap.size w w':=by
 have C:=Lib.hid (colon_any x m w hx hm)
 rw [Bool.and_eq_true] at h
 obtain ⟨A,c,rfl,hc1,hc2⟩:=hR.own
 have hc2':c≤9223372036854775807:=hc2
 rw [h.1] at C
 have NM:=Lib.hid (fun W=>name5_any (mk (nmOf (B x))) W (by rw [←B_len,nm_mk];have:=nm_le (B x);rw [B_len] at this;unfold maxLen;omega))
 rw [nm_mk,h.2] at NM
 have HR:=Lib.hid hR
 have HH:=Lib.hid hh
 have HRR:=Lib.hid hr
 clear hR hm hx h hh hc2 hr
 go_enter Tryz.func161,Tryz.ntmps161
 go_wp2_with fail
 refine C.out.mono ?_
 rintro e w1 ⟨rfl,n,rfl⟩
 have hb:=belD (Below.refl w.heap.size w) n
 generalize w.drewN n=V at *
 have HB:=Lib.hid (hb.alloc hb.size (.cells #[.string (mk (nmOf (B x)))] 9))
 have hq:(⟨V.heap.size,0,none⟩:Addr).block < (V.alloc (.cells #[.string (mk (nmOf (B x)))] 9)).heap.size:=by rw [World.size_alloc];exact Nat.lt_succ_self _
 have hc:(V.alloc (.cells #[.string (mk (nmOf (B x)))] 9)).cell? ⟨V.heap.size,0,none⟩=some (.string (mk (nmOf (B x)))):=by simp [go_sem]
 have HQ:=Lib.hid hq
 have HC:=Lib.hid hc
 clear hb hq hc
 go_wp2_with fail
 refine (NM.out _).mono ?_
 rintro e w2 ⟨rfl,hb2⟩
 have HB2:=Lib.hid (HB.out.trans (hb2.mono HB.out.size))
 have R2:=Lib.hid (HR.out.below HB2.out HRR.out)
 have c2:=R2.out.c2
 have CF:=Lib.hid (hasOp_any A p.op.length c p.op vl (mk (nmOf (B x))) ⟨V.heap.size,0,none⟩ w2 (R2.out.go.read rdOpX_good) (R2.out.gl.read rdStr_good) R2.out.gl.plain (Nat.lt_of_lt_of_le HQ.out hb2.size) ((hb2.cell HQ.out).trans HC.out))
 rw [HH.out] at CF
 clear hb2
 have hmf:∀(fn:Fn) (first cap:Array Value) (w:World),(Instr.makeFunc fn first cap).run Tryz.prog w=.ok (.func fn first cap) w:=fun _ _ _ _=>rfl
 go_wp2_with fail
 refine CF.out.mono ?_
 rintro e w3 ⟨rfl,hb3⟩
 have HB3:=Lib.hid (HB2.out.trans (hb3.mono HB2.out.size))
 clear hb3 c2
 go_wp2
 exact ⟨rfl,rfl,HB3.out⟩
set_option maxHeartbeats 2000000 in
theorem begin5_many (x:ByteArray) (N r k:Nat) (p:PS) (vs vo vl:Value) (m:Int) (w:World) (hR:RdP w N r k p vs vo vl) (hr:r < w.heap.size) (hx:x.size≤65536) (hm:w.cell? ⟨1,0,none⟩=some (.int .i64 m)) (h:(decide (58 ∈ B x)&&fnB (nmOf (B x)))=true)
  (hh:opHas p.op (mk (nmOf (B x)))=false) (h8:p.op.length=40∨p.dn.length=200) :
  Calls Tryz.prog 161 #[.pointer (some ⟨r,0,none⟩),.string x] w fun e w'=>e=erE 8∧Below w.heap.size w w':=by
 have C:=Lib.hid (colon_any x m w hx hm)
 rw [Bool.and_eq_true] at h
 obtain ⟨A,c,rfl,hc1,hc2⟩:=hR.own
 have hc2':c≤9223372036854775807:=hc2
 obtain ⟨As,cs,hvs,_,hs2⟩:=hR.gs.own
 have hs2':cs≤9223372036854775807:=hs2
 have H8:=Lib.hid h8
 rw [h.1] at C
 have NM:=Lib.hid (fun W=>name5_any (mk (nmOf (B x))) W (by rw [←B_len,nm_mk];have:=nm_le (B x);rw [B_len] at this;unfold maxLen;omega))
 rw [nm_mk,h.2] at NM
 have HR:=Lib.hid hR
 have HH:=Lib.hid hh
 have HRR:=Lib.hid hr
 clear hR hm hx h hh hc2 hr hs2 h8
 go_enter Tryz.func161,Tryz.ntmps161
 go_wp2_with fail
 refine C.out.mono ?_
 rintro e w1 ⟨rfl,n,rfl⟩
 have hb:=belD (Below.refl w.heap.size w) n
 generalize w.drewN n=V at *
 have HB:=Lib.hid (hb.alloc hb.size (.cells #[.string (mk (nmOf (B x)))] 9))
 have hq:(⟨V.heap.size,0,none⟩:Addr).block < (V.alloc (.cells #[.string (mk (nmOf (B x)))] 9)).heap.size:=by rw [World.size_alloc];exact Nat.lt_succ_self _
 have hc:(V.alloc (.cells #[.string (mk (nmOf (B x)))] 9)).cell? ⟨V.heap.size,0,none⟩=some (.string (mk (nmOf (B x)))):=by simp [go_sem]
 have HQ:=Lib.hid hq
 have HC:=Lib.hid hc
 clear hb hq hc
 go_wp2_with fail
 refine (NM.out _).mono ?_
 rintro e w2 ⟨rfl,hb2⟩
 have HB2:=Lib.hid (HB.out.trans (hb2.mono HB.out.size))
 have R2:=Lib.hid (HR.out.below HB2.out HRR.out)
 have c2:=R2.out.c2
 have CF:=Lib.hid (hasOp_any A p.op.length c p.op vl (mk (nmOf (B x))) ⟨V.heap.size,0,none⟩ w2 (R2.out.go.read rdOpX_good) (R2.out.gl.read rdStr_good) R2.out.gl.plain (Nat.lt_of_lt_of_le HQ.out hb2.size) ((hb2.cell HQ.out).trans HC.out))
 rw [HH.out] at CF
 clear hb2
 have hmf:∀(fn:Fn) (first cap:Array Value) (w:World),(Instr.makeFunc fn first cap).run Tryz.prog w=.ok (.func fn first cap) w:=fun _ _ _ _=>rfl
 go_wp2_with fail
 refine CF.out.mono ?_
 rintro e w3 ⟨rfl,hb3⟩
 have HB3:=Lib.hid (HB2.out.trans (hb3.mono HB2.out.size))
 have R3:=HR.out.below HB3.out HRR.out
 have d2:=R3.c2
 have d1:=R3.c1
 rw [hvs] at d1
 clear hb3 c2 R3
 by_cases h40:p.op.length=40
 ·have q0:((p.op.length:Int)==40)=true:=by rw [h40];rfl
  clear H8
  go_wp2
  exact ⟨rfl,rfl,HB3.out⟩
 ·have q0:((p.op.length:Int)==40)=false:=by rw [beq_eq_false_iff_ne];omega
  have q1:((p.dn.length:Int)==200)=true:=by rw [H8.out.resolve_left h40];rfl
  clear H8 h40
  go_wp2
  exact ⟨rfl,rfl,HB3.out⟩
theorem begin5_no (x:ByteArray) (N r k:Nat) (p:PS) (vs vo vl:Value) (m:Int) (w:World) (hR:RdP w N r k p vs vo vl) (hr:r < w.heap.size) (hx:x.size≤65536) (hm:w.cell? ⟨1,0,none⟩=some (.int .i64 m)) (h:begE p (B x)≠0) :
  Calls Tryz.prog 161 #[.pointer (some ⟨r,0,none⟩),.string x] w fun e w'=>e=erE (begE p (B x))∧Below w.heap.size w w':=by
 unfold begE at h ⊢
 by_cases h1:(decide (58 ∈ B x)&&fnB (nmOf (B x)))=true
 ·rw [if_pos h1] at h ⊢
  by_cases h2:(p.op.any fun f=>decide (f.1=mk (nmOf (B x))))=true
  ·rw [if_pos h2] at h ⊢
   exact begin5_there x N r k p vs vo vl m w hR hr hx hm h1 h2
  ·rw [if_neg h2] at h ⊢
   by_cases h3:(decide (p.op.length=40)||decide (p.dn.length=200))=true
   ·rw [if_pos h3] at h ⊢
    rw [Bool.or_eq_true,decide_eq_true_iff,decide_eq_true_iff] at h3
    exact begin5_many x N r k p vs vo vl m w hR hr hx hm h1 (Bool.eq_false_iff.2 h2) h3
   ·rw [if_neg h3] at h
    exact absurd rfl h
 ·rw [if_neg h1] at h ⊢
  exact begin5_form x N r k p vs vo vl m w hR hx hm (Bool.eq_false_iff.2 h1)
set_option maxHeartbeats 1000000 in
theorem end5_none (N r k:Nat) (p:PS) (vs vo vl:Value) (w:World) (hR:RdP w N r k p vs vo vl) (h:p.op=[]) :
  Calls Tryz.prog 99 #[.pointer (some ⟨r,0,none⟩)] w fun e w'=>e=.returned (.tuple #[])∧w=w':=by
 obtain ⟨A,c,rfl,hc1,hc2⟩:=hR.own
 have hc2':c≤9223372036854775807:=hc2
 have c2:=hR.c2
 rw [h] at c2
 simp only [List.length_nil] at c2
 clear hR h hc1 hc2
 go_enter Tryz.func99,Tryz.ntmps99
 go_wp2
 exact bodyPost_ret_by (results_none (by rfl) _ _ _) rfl ⟨rfl,rfl⟩
set_option maxHeartbeats 2000000 in
theorem read5_no (x:ByteArray) (N r k:Nat) (p:PS) (vs vo vl:Value) (m:Int) (w:World) (hR:RdP w N r k p vs vo vl) (hr:r < w.heap.size) (hx:x.size≤65536) (hm:w.cell? ⟨1,0,none⟩=some (.int .i64 m)) (h:lnE p (B x)≠0) :
  Calls Tryz.prog 98 #[.pointer (some ⟨r,0,none⟩),.string x] w fun e w'=>e=erE (lnE p (B x))∧Below w.heap.size w w':=by
 have LW:=Lib.hid (low5_any x w (by unfold maxLen;omega))
 unfold lnE at h ⊢
 by_cases h1:lowB (B x)=true
 ·rw [if_pos h1]
  rw [h1] at LW
  clear hR hr hm h h1 hx
  go_enter Tryz.func98,Tryz.ntmps98
  go_wp2_with fail
  refine LW.out.mono ?_
  rintro e w1 ⟨rfl,hb⟩
  go_wp2
  exact ⟨rfl,rfl,hb⟩
 ·rw [if_neg h1] at h ⊢
  rw [Bool.eq_false_iff.2 h1] at LW
  clear h1
  have em:=emp_eq x
  cases hB:B x with
  | nil=>rw [hB] at h;exact absurd rfl h
  | cons c rs=>
   rw [hB] at h
   simp only at h ⊢
   rw [decide_eq_false (show ¬B x=[] by rw [hB];simp)] at em
   have hs0:0 < x.size:=by rw [←B_len,hB];simp
   have hc:x[0].toNat=c:=by rw [←B_getD x 0 hs0,hB];rfl
   have hE:B (x.extract 1 x.size)=rs:=by rw [ext1_B,hB];rfl
   have HR:=Lib.hid hR
   have HRR:=Lib.hid hr
   have HM:=Lib.hid hm
   have HH:=Lib.hid h
   have HX:=Lib.hid hx
   have HBX:=Lib.hid hB
   clear hR hr hm h hB
   by_cases h32:c=32
   ·rw [if_pos h32]
    have HG:=Lib.hid (show goE p rs≠0 by have:=HH.out;rwa [if_pos h32] at this)
    have q0:((x[0].toNat:Int)==32)=true:=by rw [hc,h32];rfl
    have GN:=Lib.hid (show p.op=[]∨B (x.extract 1 x.size)=[] by
     have:=HG.out
     unfold goE at this
     split at this
     ·rename_i hh
      rw [Bool.or_eq_true,decide_eq_true_iff,decide_eq_true_iff] at hh
      rw [hE];exact hh
     ·exact absurd rfl this)
    have G5:=Lib.hid (show goE p rs=5 by
     have:=HG.out
     unfold goE at this ⊢
     split at this
     ·rename_i hh;rw [if_pos hh]
     ·exact absurd rfl this)
    clear hc hE h32 HH
    go_enter Tryz.func98,Tryz.ntmps98
    go_wp2_with fail
    refine LW.out.mono ?_
    rintro e w1 ⟨rfl,hb⟩
    have R1:=Lib.hid (HR.out.below hb HRR.out)
    have HB:=Lib.hid hb
    clear hb
    go_wp2_with fail
    refine (goOn5_no (x.extract 1 x.size) N r k p vs vo vl _ R1.out GN.out).mono ?_
    rintro e w2 ⟨rfl,rfl⟩
    go_wp2
    exact ⟨rfl,by rw [G5.out],HB.out⟩
   ·rw [if_neg h32]
    have HG:=Lib.hid (show begE p (B x)≠0 by have:=HH.out;rw [if_neg h32] at this;rw [HBX.out];exact this)
    have q0:((x[0].toNat:Int)==32)=false:=by rw [hc,beq_eq_false_iff_ne];omega
    clear hc hE h32 HH
    go_enter Tryz.func98,Tryz.ntmps98
    go_wp2_with fail
    refine LW.out.mono ?_
    rintro e w1 ⟨rfl,hb⟩
    have R1:=Lib.hid (HR.out.below hb HRR.out)
    have HB:=Lib.hid hb
    have M1:=Lib.hid ((hb.cell (show (⟨1,0,none⟩:Addr).block < w.heap.size from World.block_lt_of_cell? _ _ HM.out)).trans HM.out)
    clear hb
    go_wp2_with fail
    refine (begin5_no x N r k p vs vo vl m _ R1.out (Nat.lt_of_lt_of_le HRR.out HB.out.size) HX.out M1.out HG.out).mono ?_
    rintro e w2 ⟨rfl,hb2⟩
    have HB2:=Lib.hid (HB.out.trans (hb2.mono HB.out.size))
    clear hb2
    go_wp2
    exact ⟨rfl,by rw [←HBX.out],HB2.out⟩
theorem Grow.recast {α β:Type} {E:Rd α} {F:Rd β} {sz:Nat} {T:Nat→Prop} {w:World} {base:Nat} {e:TypeId} {v:Value} {l:List α} (h:Grow E sz T w base e v l) (l':List β) (hl:l'.length=l.length)
  (hE:∀k (hk:k < l.length) (hk':k < l'.length) cs,E w (fun b=>T b∧b < w.heap.size∧v.ownBlock≠some b) l[k] cs→F w (fun b=>T b∧b < w.heap.size∧v.ownBlock≠some b) l'[k] cs):Grow F sz T w base e v l':=by
 obtain ⟨css,hc,ho,h⟩:=h
 refine ⟨css,by rw [hc,hl],by rw [hl];exact ho,fun k hk=>?_⟩
 obtain ⟨cs,h1,h2⟩:=h k (by omega)
 exact ⟨cs,h1,hE k (by omega) hk cs h2⟩
theorem Grow.inOwn {α:Type} {E:Rd α} {sz:Nat} (g:Good E sz) (hf:∀(w:World) (S S':Nat→Prop) a cs,E w S a cs→E w S' a cs) {T:Nat→Prop} {w:World} {base:Nat} {e:TypeId} {v:Value} {l:List α} (h:Grow E sz T w base e v l):rdRow sz E w (fun b=>v.ownBlock=some b∧base≤b∧b < w.heap.size) l [v]:=by
 obtain ⟨css,hl,ho,hE⟩:=h
 have hls:=Grow.lens g hl hE
 rcases ho.2 with ⟨rfl,h0⟩|⟨gb,cap,cur,rfl,hb,hg,hn,hm,hs,ht⟩
 ·obtain rfl:l=[]:=List.eq_nil_of_length_eq_zero h0
  exact rdRow_nil w _
 ·have hlt:gb < w.heap.size:=(Array.getElem?_eq_some_iff.1 hg).1
  refine ⟨_,cap,rfl,hn,hm,fun k hk=>?_⟩
  obtain ⟨cs,h1,h2⟩:=hE k hk
  refine ⟨_,cs,rfl,⟨rfl,hb,hlt⟩,hf _ _ _ _ _ h2,g.len h2,fun j u hu=>?_⟩
  exact ho.cells (g:=gb) rfl _ _ (flatten_at sz hls h1 j u hu)
theorem RdP.shut {W:World} {N r k:Nat} {p:PS} {vs vo vl:Value} (h:RdP W N r k p vs vo vl):Grow rdOpX 2 (fun b=>N≤b) W N 186 vo (p.op.map Sum.inl):=by
 refine (h.go.retag rdOpX_good (T':=fun b=>N≤b) fun b hb _=>hb.1).recast _ (by rw [List.length_map,opX_len]) fun k hk hk' cs hE=>?_
 have hk2:k < p.op.length:=by rw [opX_len] at hk;exact hk
 rw [List.getElem_map]
 rcases opX_at p.op vl k hk2 hk with e|⟨e,e2⟩
 ·rw [e] at hE;exact hE
 ·rw [e] at hE
  refine ⟨vl,hE.1,?_,h.gl.plain⟩
  rw [←e2]
  exact rdStrs_good.more (h.gl.inOwn rdStr_good fun _ _ _ _ _ h=>h) fun b hb=>⟨hb.2.1,hb.2.2,fun e=>h.ol b e hb.1⟩
theorem Grow.one {T:Nat→Prop} {W:World} {base b:Nat} {e:TypeId} {x:ByteArray} (hb:W.heap[b]?=some (.cells #[.string x] e (0,0))) (hbase:base≤b):Grow rdStr 1 T W base e (.slice (some ⟨b,0,none⟩) 1 1) [B x]:=
 ⟨[[.string x]],rfl,⟨by simp,.inr ⟨b,1,#[.string x],rfl,hbase,hb,Nat.le_refl _,by decide,by simp,by simp⟩⟩,fun k hk=>by
  simp only [List.length_singleton] at hk
  obtain rfl:k=0:=by omega
  exact ⟨_,rfl,x,rfl,rfl⟩⟩
abbrev lnBk (val:ByteArray):Obj:=Obj.cells #[Value.string val] 9
abbrev opBk (nm:ByteArray) (b:Nat):Obj:=Obj.cells #[Value.string nm,Value.slice (some ⟨b,0,none⟩) 1 1] 186
structure Op0 (V W:World) (N:Nat) (op:List Opn) (vo:Value) (nm:ByteArray):Prop where
 g:Grow rdOpX 2 (fun b=>N≤b∧(Value.slice (some ⟨V.heap.size,0,none⟩) 1 1).ownBlock≠some b) W N 186 vo (op.map Sum.inl)
 x:rdRow 2 rdOpX W (fun b=>b=V.heap.size+1) [.inr (nm,.slice (some ⟨V.heap.size,0,none⟩) 1 1)] [.slice (some ⟨V.heap.size+1,0,none⟩) 1 1]
 s:∀b,b=V.heap.size+1→(N≤b∧(Value.slice (some ⟨V.heap.size,0,none⟩) 1 1).ownBlock≠some b)∧b < W.heap.size∧vo.ownBlock≠some b
 bs:N≤W.heap.size
 bel:Below V.heap.size V W
theorem own_some (b n c:Nat):(Value.slice (some ⟨b,0,none⟩) n c).ownBlock=some b:=rfl
theorem RdP.op0 {V:World} {N r k:Nat} {p:PS} {vs vo vl:Value} (hR:RdP V N r k p vs vo vl) (hN:N≤V.heap.size) (nm val:ByteArray):Op0 V ((V.alloc (lnBk val)).alloc (opBk nm V.heap.size)) N p.op vo nm:=by
 have hb:Below V.heap.size V ((V.alloc (lnBk val)).alloc (opBk nm V.heap.size)):=((Below.refl _ V).alloc (Nat.le_refl _) _).alloc (by simp) _
 have hs:((V.alloc (lnBk val)).alloc (opBk nm V.heap.size)).heap.size=V.heap.size+2:=by rw [World.size_alloc,World.size_alloc]
 have hh:=new_heap (V.alloc (lnBk val)) (opBk nm V.heap.size)
 rw [World.size_alloc] at hh
 refine ⟨(hR.shut.retag rdOpX_good fun b h1 h2=>⟨h1,by rw [own_some];intro e;injection e with e;omega⟩).below rdOpX_good hb,?_,?_,by rw [hs];omega,hb⟩
 ·exact rd_block rdOpX_good (S:=fun b=>b=V.heap.size+1) (l:=[.inr (nm,.slice (some ⟨V.heap.size,0,none⟩) 1 1)]) (css:=[[.string nm,.slice (some ⟨V.heap.size,0,none⟩) 1 1]]) hh rfl rfl rfl (fun k hk=>by
   simp only [List.length_singleton] at hk
   obtain rfl:k=0:=by omega
   exact ⟨_,rfl,rfl,rfl⟩) (by simp)
 ·rintro b rfl
  refine ⟨⟨by omega,by rw [own_some];intro e;injection e with e;omega⟩,by rw [hs];omega,fun e=>?_⟩
  have:=(hR.go.lt _ e).2
  omega
theorem RdP.opened {V w1:World} {N r k:Nat} {p:PS} {vs vo vl vo':Value} {nm val:ByteArray} (hR:RdP V N r k p vs vo vl) (hr:r < N) (hN:N≤V.heap.size)
  (hG:Grow rdOpX 2 (fun b=>N≤b∧(Value.slice (some ⟨V.heap.size,0,none⟩) 1 1).ownBlock≠some b) w1 N 186 vo' (p.op.map Sum.inl++[.inr (nm,.slice (some ⟨V.heap.size,0,none⟩) 1 1)]))
  (hg:((V.alloc (lnBk val)).alloc (opBk nm V.heap.size)).grownBy w1 vo.ownBlock) (hm:Moved ((V.alloc (lnBk val)).alloc (opBk nm V.heap.size)) vo vo') :
  RdP (w1.setCell ⟨r,2,none⟩ vo') N r k ⟨p.dn,p.op++[(nm,[B val])]⟩ vs vo' (.slice (some ⟨V.heap.size,0,none⟩) 1 1)∧Fr N r V (w1.setCell ⟨r,2,none⟩ vo')∧w1.cell? ⟨r,2,none⟩=some vo∧w1.frozen? ⟨r,2,none⟩=false:=by
 have O:=hR.op0 hN nm val
 have hs:((V.alloc (lnBk val)).alloc (opBk nm V.heap.size)).heap.size=V.heap.size+2:=by rw [World.size_alloc,World.size_alloc]
 have hln:=old_heap (opBk nm V.heap.size) (new_heap V (lnBk val))
 generalize (V.alloc (lnBk val)).alloc (opBk nm V.heap.size)=W at *
 obtain ⟨f0,c0,c1,c2,gs,go,gl,so,sl,ol⟩:=hR
 have hvs:=gs.lt
 have hvo:=go.lt
 have hrl:some r≠vo.ownBlock:=fun h=>by have:=(hvo r h.symm).1;omega
 have hk1:=O.bel.block r (by omega)
 have hk2:=hg.block r (by rw [hs];omega) hrl
 have hk:w1.heap[r]?=V.heap[r]?:=hk2.trans hk1
 obtain ⟨gs1,so1⟩:=Grow.beside rdFds_good (v:=vo) (v':=vo') (T:=fun b=>N≤b∧(Value.slice (some ⟨V.heap.size,0,none⟩) 1 1).ownBlock≠some b) ((gs.retag rdFds_good fun b h1 h2=>⟨⟨h1.1.1,by rw [own_some];intro e;injection e with e;omega⟩,h1.1.2⟩).below rdFds_good O.bel) so hg hm
 have gl0:Grow rdStr 1 (fun b=>N≤b) W N 9 (.slice (some ⟨V.heap.size,0,none⟩) 1 1) [B val]:=Grow.one hln hN
 have hol:Off (.slice (some ⟨V.heap.size,0,none⟩) 1 1) vo:=fun b hb e=>by
  rw [own_some] at hb;injection hb with hb;have:=(hvo b e).2;omega
 obtain ⟨gl1,ol1⟩:=Grow.beside rdStr_good (T:=fun b=>N≤b) (strFlat gl0) hol hg hm
 have hB1:Below N V w1:=grow_below O.g hg (O.bel.mono hN) (Nat.le_refl _) O.bs
 have hset:∀o,o≠2→(⟨r,o,none⟩:Addr)≠⟨r,2,none⟩:=fun o ho e=>ho (congrArg Addr.off e)
 have hrr:(⟨r,2,none⟩:Addr).block < N:=hr
 refine ⟨⟨fun o=>?_,?_,?_,?_,?_,?_,?_,so1,fun b hb=>?_,ol1.symm⟩,(Fr.of hB1 (Nat.le_of_lt hr)).set (.inl rfl) (Nat.le_of_lt hr) _,(blk_of hk 2).1.trans c2,(blk_of hk 2).2.trans (f0 2)⟩
 ·rw [World.frozen?_setCell];exact ((blk_of hk o).2).trans (f0 o)
 ·rw [World.cell?_setCell_other _ _ _ _ (fun e=>hset 0 (by decide) e.symm)];exact ((blk_of hk 0).1).trans c0
 ·rw [World.cell?_setCell_other _ _ _ _ (fun e=>hset 1 (by decide) e.symm)];exact ((blk_of hk 1).1).trans c1
 ·exact World.cell?_setCell_same _ _ _ ((blk_of hk 2).1.trans c2)
 ·refine (gs1.retag rdFds_good fun b h1 h2=>⟨⟨h1.1.1,h1.2⟩,h1.1.2⟩).setCell rdFds_good hrr (fun h=>by have:=h.1.1;simp only at this;omega) _
 ·rw [opX_snoc];exact hG.setCell rdOpX_good hrr (fun h=>by have:=h.1;simp only at this;omega) _
 ·rw [lastLn_snoc];exact (strFlat (T':=fun b=>N≤b) gl1).setCell rdStr_good hrr (fun h=>by simp only at h;omega) _
 ·rw [own_some];intro e;injection e with e;have:=(hvs b hb).2;omega
set_option maxHeartbeats 4000000 in
theorem begin5_ok (x:ByteArray) (N r k:Nat) (p:PS) (vs vo vl:Value) (m:Int) (w:World) (hR:RdP w N r k p vs vo vl) (hr:r < N) (hN:N≤w.heap.size) (hx:x.size≤65536) (hm:w.cell? ⟨1,0,none⟩=some (.int .i64 m)) (h:begE p (B x)=0) (hol:p.op.length≤1000) :
  Calls Tryz.prog 161 #[.pointer (some ⟨r,0,none⟩),.string x] w fun e w'=>e=.returned (.tuple #[])∧(∃vo' vl',RdP w' N r k ⟨p.dn,p.op++[(mk (nmOf (B x)),[vlOf (B x)])]⟩ vs vo' vl')∧Fr N r w w':=by
 have hz:=begE_zero h
 have hf:(decide (58 ∈ B x)&&fnB (nmOf (B x)))=true:=by
  unfold begE at h
  split at h
  ·assumption
  ·cases h
 have hh:opHas p.op (mk (nmOf (B x)))=false:=hz.2.2
 have C:=Lib.hid (colon_any x m w hx hm)
 rw [Bool.and_eq_true] at hf
 obtain ⟨A,c,rfl,hc1,hc2⟩:=hR.own
 have hc2':c≤9223372036854775807:=hc2
 obtain ⟨As,cs,hvs,_,hs2⟩:=hR.gs.own
 have hs2':cs≤9223372036854775807:=hs2
 rw [hf.1] at C
 have NM:=Lib.hid (fun W=>name5_any (mk (nmOf (B x))) W (by rw [←B_len,nm_mk];have:=nm_le (B x);rw [B_len] at this;unfold maxLen;omega))
 rw [nm_mk,hf.2] at NM
 have HR:=Lib.hid hR
 have HH:=Lib.hid hh
 have HRN:=Lib.hid hr
 have HN:=Lib.hid hN
 have HRR:=Lib.hid (show r < w.heap.size by omega)
 have q0:((p.op.length:Int)==40)=false:=by rw [beq_eq_false_iff_ne];have:=hz.1;omega
 have q1:((p.dn.length:Int)==200)=false:=by rw [beq_eq_false_iff_ne];have:=hz.2.1;omega
 have hm1:(p.op.map (Sum.inl (β:=ByteArray × Value))).length+[(Sum.inr (mk (nmOf (B x)),Value.slice none 0 0):Opn ⊕ (ByteArray × Value))].length≤maxLen:=by rw [List.length_map,List.length_singleton];unfold maxLen;omega
 have hm2:((p.op.map (Sum.inl (β:=ByteArray × Value))).length+[(Sum.inr (mk (nmOf (B x)),Value.slice none 0 0):Opn ⊕ (ByteArray × Value))].length)*40≤140737488355328:=by rw [List.length_map,List.length_singleton];omega
 have VL:=Lib.hid (show B (mk ((B (mk ((B x).drop ((nmOf (B x)).length+1)))).dropWhile fun c=>c==32))=vlOf (B x) by
  have e1:B (mk ((B x).drop ((nmOf (B x)).length+1)))=(B x).drop ((nmOf (B x)).length+1):=B_mk fun c hc=>B_lt x c (List.mem_of_mem_drop hc)
  rw [e1]
  unfold vlOf
  exact B_mk fun c hc=>B_lt x c (List.mem_of_mem_drop ((List.dropWhile_sublist _).subset hc)))
 obtain ⟨oi,ho,ho0,ho1,ho2⟩:=info_parts opn_info
 clear hR hm hx h hf hh hc2 hs2 hz hol hr hN
 go_enter Tryz.func161,Tryz.ntmps161
 go_wp2_with fail
 refine C.out.mono ?_
 rintro e w1 ⟨rfl,n,rfl⟩
 have hb:=belD (Below.refl w.heap.size w) n
 have hvz:(w.drewN n).heap.size=w.heap.size:=rfl
 generalize w.drewN n=V at *
 generalize hnm:mk (nmOf (B x))=nm at *
 have HNM:=Lib.hid hnm
 clear hnm
 generalize mk ((B x).drop ((nmOf (B x)).length+1))=vv at *
 have HB:=Lib.hid (hb.alloc hb.size (.cells #[.string nm] 9))
 have hq:(⟨V.heap.size,0,none⟩:Addr).block < (V.alloc (.cells #[.string nm] 9)).heap.size:=by rw [World.size_alloc];exact Nat.lt_succ_self _
 have hc:(V.alloc (.cells #[.string nm] 9)).cell? ⟨V.heap.size,0,none⟩=some (.string nm):=by simp [go_sem]
 have HQ:=Lib.hid hq
 have HC:=Lib.hid hc
 obtain ⟨q,hqq⟩:∃q,q=V.heap.size:=⟨_,rfl⟩
 rw [←hqq] at HQ HC hvz
 have HQW:=Lib.hid hvz
 clear hb hq hc hvz
 go_wp2_with fail
 refine (NM.out _).mono ?_
 rintro e w2 ⟨rfl,hb2⟩
 rw [←hqq]
 have HB2:=Lib.hid (HB.out.trans (hb2.mono HB.out.size))
 have R2:=Lib.hid (HR.out.below HB2.out HRR.out)
 have c2:=R2.out.c2
 have HQ2:=Lib.hid (And.intro (Nat.lt_of_lt_of_le HQ.out hb2.size) ((hb2.cell HQ.out).trans HC.out))
 have cq:=HQ2.out.2
 have CF:=Lib.hid (hasOp_any A p.op.length c p.op vl nm ⟨q,0,none⟩ w2 (R2.out.go.read rdOpX_good) (R2.out.gl.read rdStr_good) R2.out.gl.plain HQ2.out.1 HQ2.out.2)
 rw [HH.out] at CF
 clear hb2 hqq
 have hmf:∀(fn:Fn) (first cap:Array Value) (w:World),(Instr.makeFunc fn first cap).run Tryz.prog w=.ok (.func fn first cap) w:=fun _ _ _ _=>rfl
 go_wp2_with fail
 refine CF.out.mono ?_
 rintro e w3 ⟨rfl,hb3⟩
 have HB3:=Lib.hid (HB2.out.trans (hb3.mono HB2.out.size))
 have R3:=HR.out.below HB3.out HRR.out
 have d2:=R3.c2
 have d1:=R3.c1
 rw [hvs] at d1
 have cq3:=(hb3.cell HQ2.out.1).trans cq
 have HV:=Lib.hid (show RdP w3.drew N r k p vs (.slice A p.op.length c) vl from R3.below (belD (Below.refl _ _) 1:Below w3.heap.size w3 w3.drew) (Nat.lt_of_lt_of_le HRR.out HB3.out.size))
 have HQL:=Lib.hid (show q < w3.drew.heap.size from Nat.lt_of_lt_of_le HQ2.out.1 hb3.size)
 have HNV:=Lib.hid (show N≤w3.drew.heap.size from Nat.le_trans HN.out HB3.out.size)
 have HFV:=Lib.hid (show Fr N r w w3.drew from Fr.of (N:=N) (r:=r) (belD HB3.out 1|>.mono HN.out) (Nat.le_of_lt HRN.out))
 have HQV:=Lib.hid (show (Value.slice A p.op.length c).ownBlock≠some q from fun e=>by
  have h1:=(HR.out.go.lt q e).2
  have h2:=HQW.out
  omega)
 clear c2 cq
 have c2:w3.drew.cell? ⟨r,2,none⟩=some (.slice A p.op.length c):=HV.out.c2
 have cq:w3.drew.cell? ⟨q,0,none⟩=some (.string nm):=cq3
 have KS:=Lib.hid (fun (W:World) (hb:Below w3.drew.heap.size w3.drew W)=>(show W.cell? ⟨r,2,none⟩=some (.slice A p.op.length c)∧W.cell? ⟨q,0,none⟩=some (.string nm) from ⟨(hb.cell (show (⟨r,2,none⟩:Addr).block < w3.drew.heap.size from Nat.lt_of_lt_of_le HRN.out HNV.out)).trans c2,(hb.cell (show (⟨q,0,none⟩:Addr).block < w3.drew.heap.size from HQL.out)).trans cq⟩))
 have O:=Lib.hid (RdP.op0 HV.out HNV.out nm (mk ((B vv).dropWhile fun c=>c==32)))
 clear hb3 R3 HQ2 CF HB2 HB HQ HC V
 go_wp2_with fail
 refine wp_region_noPanic ?_
 refine wp_region_L (fun W=>W.cell? ⟨r,2,none⟩=some (.slice A p.op.length c)∧W.cell? ⟨q,0,none⟩=some (.string nm)) 14 (by kernel_rfl) ⟨c2,cq⟩ (fun hHeld=>?_)
 generalize w3.drew=V3 at *
 refine wpAnyL_take (i:=0) (v:=?_) [13,12] rfl (by kernel_rfl) (by kernel_rfl) (by kernel_rfl) (fun _ _ _ h=>h) (by kernel_rfl) (by kernel_rfl) (by kernel_rfl) (Or.inl ⟨by rfl,?_⟩) (by assumption) ?_
 rotate_left
 ·intro w hSw
  try dsimp only at hSw
  go_simp
  first|done|with_reducible rfl
 try simp only [Act.put,List.setIfInBounds_toArray,List.set_cons_zero,List.set_cons_succ]
 refine wpAnyL_take (i:=1) (v:=?_) [11,4,3,2] rfl (by kernel_rfl) (by kernel_rfl) (by kernel_rfl) (fun _ _ _ h=>h) (by kernel_rfl) (by kernel_rfl) (by kernel_rfl) (Or.inl ⟨by rfl,?_⟩) (by assumption) ?_
 rotate_left
 ·intro w hSw
  try dsimp only at hSw
  go_simp
  first|done|with_reducible rfl
 try simp only [Act.put,List.setIfInBounds_toArray,List.set_cons_zero,List.set_cons_succ]
 refine wpAnyL_take (i:=2) (v:=?_) [11,4,3] rfl (by kernel_rfl) (by kernel_rfl) (by kernel_rfl) (fun _ _ _ h=>h) (by kernel_rfl) (by kernel_rfl) (by kernel_rfl) (Or.inl ⟨by rfl,?_⟩) (by assumption) ?_
 rotate_left
 ·intro w hSw
  try dsimp only at hSw
  go_simp
  first|done|with_reducible rfl
 try simp only [Act.put,List.setIfInBounds_toArray,List.set_cons_zero,List.set_cons_succ]
 refine wpAnyL_take (i:=3) (v:=?_) [11,4] rfl (by kernel_rfl) (by kernel_rfl) (by kernel_rfl) (fun _ _ _ h=>h) (by kernel_rfl) (by kernel_rfl) (by kernel_rfl) (Or.inl ⟨by rfl,?_⟩) (by assumption) ?_
 rotate_left
 ·intro w hSw
  try dsimp only at hSw
  go_simp
  first|done|with_reducible rfl
 try simp only [Act.put,List.setIfInBounds_toArray,List.set_cons_zero,List.set_cons_succ]
 refine wpAnyL_take (i:=4) (v:=?_) [11] rfl (by kernel_rfl) (by kernel_rfl) (by kernel_rfl) (fun _ _ _ h=>h) (by kernel_rfl) (by kernel_rfl) (by kernel_rfl) (Or.inl ⟨by rfl,?_⟩) (by assumption) ?_
 rotate_left
 ·intro w hSw
  try dsimp only at hSw
  go_simp
  first|done|with_reducible rfl
 try simp only [Act.put,List.setIfInBounds_toArray,List.set_cons_zero,List.set_cons_succ]
 refine wpAnyL_take (i:=5) (v:=?_) [11,10,9] rfl (by kernel_rfl) (by kernel_rfl) (by kernel_rfl) (fun _ _ _ h=>h) (by kernel_rfl) (by kernel_rfl) (by kernel_rfl) (Or.inl ⟨by rfl,?_⟩) (by assumption) ?_
 rotate_left
 ·intro w hSw
  try dsimp only at hSw
  go_simp
  first|done|with_reducible rfl
 try simp only [Act.put,List.setIfInBounds_toArray,List.set_cons_zero,List.set_cons_succ]
 refine wpAnyL_take (i:=6) (v:=?_) [11,10,9,8,7] rfl (by kernel_rfl) (by kernel_rfl) (by kernel_rfl) (fun _ _ _ h=>h) (by kernel_rfl) (by kernel_rfl) (by kernel_rfl) (Or.inl ⟨by rfl,?_⟩) (by assumption) ?_
 rotate_left
 ·intro w hSw
  try dsimp only at hSw
  go_simp
  first|done|with_reducible rfl
 try simp only [Act.put,List.setIfInBounds_toArray,List.set_cons_zero,List.set_cons_succ]
 refine wpAnyL_one (i:=7) (by kernel_rfl) rfl (fun K hK=>?_)
 go_simp
 refine (trim5_any vv V3).mono ?_
 rintro e w4 ⟨rfl,rfl⟩
 go_wp2_with fail
 refine hK.out _ _ ⟨c2,cq⟩ (fun hHeld=>?_)
 clear hK K
 try simp only [Act.put,List.setIfInBounds_toArray,List.set_cons_zero,List.set_cons_succ]
 refine wpAnyL_one (i:=8) (by kernel_rfl) rfl (fun K hK=>?_)
 go_simp
 refine hK.out _ _ (KS.out _ ((Below.refl _ _).alloc (Nat.le_refl _) _)) (fun hHeld=>?_)
 clear hK K
 try simp only [Act.put,List.setIfInBounds_toArray,List.set_cons_zero,List.set_cons_succ]
 refine wpAnyL_one (i:=9) (by kernel_rfl) rfl (fun K hK=>?_)
 go_simp
 refine hK.out _ _ (KS.out _ ((Below.refl _ _).alloc (Nat.le_refl _) _)) (fun hHeld=>?_)
 clear hK K
 try simp only [Act.put,List.setIfInBounds_toArray,List.set_cons_zero,List.set_cons_succ]
 refine wpAnyL_one (i:=10) (by kernel_rfl) rfl (fun K hK=>?_)
 go_simp
 refine hK.out _ _ (KS.out _ O.out.bel) (fun hHeld=>?_)
 clear hK K
 try simp only [Act.put,List.setIfInBounds_toArray,List.set_cons_zero,List.set_cons_succ]
 refine wpAnyL_one (i:=11) (by kernel_rfl) rfl (fun K hK=>?_)
 refine step_growN _ (by rfl) _ _ 87 87 (by rfl) rdOpX_good (by decide) _ N 186 186 oi (.agg #[.string { data:=#[] },.slice none 0 0]) 40 Tryz.underlying87 Tryz.underlying87 ho ho0 ho1 ho2 rfl _ _ (by rfl) O.out.g _ _ _ _ _ (by rfl) O.out.x O.out.s hm1 hm2 O.out.bs ?_
 intro v5 w5 hG5 hg5 hm5
 have EN:=Lib.hid (RdP.opened HV.out HRN.out HNV.out hG5 hg5 hm5)
 obtain ⟨A5,c5,hv5,_⟩:=hG5.own
 rw [List.length_append,List.length_singleton,List.length_map] at hv5
 have KQ:=Lib.hid (hg5.block q (Nat.lt_of_lt_of_le HQL.out O.out.bel.size) (fun hh=>HQV.out hh.symm))
 clear hG5 hg5 hm5
 refine hK.out _ _ ⟨EN.out.2.2.1,(World.cell?_of_block (a:=⟨q,0,none⟩) KQ.out).trans (KS.out _ O.out.bel).2⟩ (fun hHeld=>?_)
 clear hK K
 try simp only [Act.put,List.setIfInBounds_toArray,List.set_cons_zero,List.set_cons_succ]
 obtain ⟨en1,en2,en3,en4⟩:=EN.out
 subst hv5
 refine wpAnyL_one (i:=12) (by kernel_rfl) rfl (fun K hK=>?_)
 go_simp
 refine hK.out _ _ ⟨en3,(World.cell?_of_block (a:=⟨q,0,none⟩) KQ.out).trans (KS.out _ O.out.bel).2⟩ (fun hHeld=>?_)
 clear hK K
 try simp only [Act.put,List.setIfInBounds_toArray,List.set_cons_zero,List.set_cons_succ]
 refine wpAnyL_one (i:=13) (by kernel_rfl) rfl (fun K hK=>?_)
 go_simp
 refine hK.out _ _ ⟨en3,(World.cell?_of_block (a:=⟨q,0,none⟩) KQ.out).trans (KS.out _ O.out.bel).2⟩ (fun hHeld=>?_)
 clear hK K
 try simp only [Act.put,List.setIfInBounds_toArray,List.set_cons_zero,List.set_cons_succ]
 refine wpAnyL_last (by kernel_rfl) rfl (by kernel_rfl) (fun K hK=>?_)
 go_simp
 refine hK.out _ _ ?_
 clear hK K
 refine NoPanic.normal ?_
 have FIN:=Lib.hid (HFV.out.trans en2)
 rw [VL.out] at en1
 have EX:=Lib.hid en1
 clear en1 en2 en3 en4
 go_wp2
 go_end0
 exact ⟨rfl,⟨_,_,by rw [HNM.out];exact EX.out⟩,FIN.out⟩
theorem one_fd {w:World} {S:Nat→Prop} {b:Nat} {n v:ByteArray} {T:TypeId} (hb:w.heap[b]?=some (.cells #[.string n,.string v] T (0,0))) (hS:S b):rdFds w S [⟨n,v⟩] [.slice (some ⟨b,0,none⟩) 1 1]:=
 rd_block rdFd_good (S:=S) (l:=[⟨n,v⟩]) (css:=[[.string n,.string v]]) hb hS rfl rfl (fun k hk=>by
  simp only [List.length_singleton] at hk
  obtain rfl:k=0:=by omega
  exact ⟨_,rfl,rfl⟩) (by simp)
theorem RdP.closed {W w1:World} {N r k:Nat} {p:PS} {vs vo vl vs':Value} (hR:RdP W N r k p vs vo vl) (hr:r < N) (hN:N≤W.heap.size) (d:List (List Fd))
  (hG:Grow rdFds 1 (fun b=>N≤b) w1 N 55 vs' d) (hg:W.grownBy w1 vs.ownBlock) :
  RdP ((w1.setCell ⟨r,1,none⟩ vs').setCell ⟨r,2,none⟩ (.slice none 0 0)) N r k ⟨d,[]⟩ vs' (.slice none 0 0) (.slice none 0 0)∧Fr N r W ((w1.setCell ⟨r,1,none⟩ vs').setCell ⟨r,2,none⟩ (.slice none 0 0))∧
   w1.cell? ⟨r,1,none⟩=some vs∧w1.frozen? ⟨r,1,none⟩=false∧w1.cell? ⟨r,2,none⟩=some vo∧w1.frozen? ⟨r,2,none⟩=false:=by
 obtain ⟨f0,c0,c1,c2,gs,go,gl,so,sl,ol⟩:=hR
 have hrl:some r≠vs.ownBlock:=fun h=>by have:=(gs.lt r h.symm).1;omega
 have hk:=hg.block r (by omega) hrl
 have hB1:Below N W w1:=grow_below gs hg (Below.refl N W) (Nat.le_refl _) hN
 have a0:=blk_of hk 0
 have a1:=blk_of hk 1
 have a2:=blk_of hk 2
 have hset:∀o o':Nat,o≠o'→(⟨r,o,none⟩:Addr)≠⟨r,o',none⟩:=fun o o' ho e=>ho (congrArg Addr.off e)
 have hnr:∀{o:Nat},(⟨r,o,none⟩:Addr).block < N:=hr
 refine ⟨⟨fun o=>?_,?_,?_,?_,?_,?_,?_,fun b hb e=>?_,fun b hb e=>?_,fun b hb e=>?_⟩,((Fr.of hB1 (Nat.le_of_lt hr)).set (.inl rfl) (Nat.le_of_lt hr) _).set (.inl rfl) (Nat.le_of_lt hr) _,a1.1.trans c1,a1.2.trans (f0 1),a2.1.trans c2,a2.2.trans (f0 2)⟩
 ·rw [World.frozen?_setCell,World.frozen?_setCell];exact ((blk_of hk o).2).trans (f0 o)
 ·rw [World.cell?_setCell_other _ _ _ _ (hset 2 0 (by decide)),World.cell?_setCell_other _ _ _ _ (hset 1 0 (by decide))];exact a0.1.trans c0
 ·rw [World.cell?_setCell_other _ _ _ _ (hset 2 1 (by decide))];exact World.cell?_setCell_same _ _ _ (a1.1.trans c1)
 ·exact World.cell?_setCell_same _ _ _ (show (w1.setCell ⟨r,1,none⟩ vs').cell? ⟨r,2,none⟩=some vo by rw [World.cell?_setCell_other _ _ _ _ (hset 1 2 (by decide))];exact a2.1.trans c2)
 ·refine Grow.setCell rdFds_good (Grow.setCell rdFds_good (hG.retag rdFds_good fun b h1 h2=>⟨⟨h1,fun e=>by simp [Value.ownBlock] at e⟩,fun e=>by simp [Value.ownBlock] at e⟩) hnr (fun h=>by have:=h.1.1;simp only at this;omega) _) hnr (fun h=>by have:=h.1.1;simp only at this;omega) _
 ·exact Grow.nil _ _ _ _
 ·exact Grow.nil _ _ _ _
 ·simp [Value.ownBlock] at e
 ·simp [Value.ownBlock] at e
 ·simp [Value.ownBlock] at e
structure EndA (w V W:World) (v:Value) (l:List Fd) (nm vv:ByteArray) (b:Nat):Prop where
 g:Grow rdFd 2 (fun _=>True) W w.heap.size 78 v l
 x:rdFds W (fun c=>c=b) [⟨nm,vv⟩] [.slice (some ⟨b,0,none⟩) 1 1]
 s:∀c,c=b→True∧c < W.heap.size∧v.ownBlock≠some c
 bs:w.heap.size≤W.heap.size
 bel:Below V.heap.size V W
theorem end_app {w V w4:World} {v:Value} {l:List Fd} (hG:Grow rdFd 2 (fun _=>True) V w.heap.size 78 v l) (hs:w.heap.size≤V.heap.size) (hb:Below V.heap.size V w4) (nm vv:ByteArray):EndA w V (w4.alloc (Obj.cells #[Value.string nm,Value.string vv] 78)) v l nm vv w4.heap.size:=by
 have hb2:Below V.heap.size V (w4.alloc (Obj.cells #[Value.string nm,Value.string vv] 78)):=hb.alloc hb.size _
 refine ⟨hG.below rdFd_good hb2,one_fd (new_heap _ _) rfl,?_,Nat.le_trans hs hb2.size,hb2⟩
 rintro c rfl
 refine ⟨trivial,by rw [World.size_alloc];omega,fun e=>?_⟩
 have:=(hG.lt _ e).2
 have:=hb.size
 omega
set_option maxHeartbeats 4000000 in
theorem end5_ok (N r k:Nat) (p:PS) (vs vo vl:Value) (w:World) (hR:RdP w N r k p vs vo vl) (hr:r < N) (hN:N≤w.heap.size) (h0:p.op≠[]) (hol:p.op.length≤1000) (hdl:p.dn.length≤1000) (hln:∀f ∈ p.op,f.2.length≤1000000∧∀x ∈ f.2,x.length≤1000000) :
  Calls Tryz.prog 99 #[.pointer (some ⟨r,0,none⟩)] w fun e w'=>e=.returned (.tuple #[])∧(∃vs' vo' vl',RdP w' N r k p.fin vs' vo' vl')∧Fr N r w w':=by
 have FIN:=Lib.hid (show p.fin=⟨p.dn++[p.op.map clF],[]⟩ by unfold PS.fin;rw [if_neg h0])
 obtain ⟨A,c,rfl,hc1,hc2⟩:=hR.own
 have hc2':c≤9223372036854775807:=hc2
 obtain ⟨As,cs,hvs,_,hs2⟩:=hR.gs.own
 have hs2':cs≤9223372036854775807:=hs2
 have hl:=List.length_pos_iff.2 h0
 have q00:((p.op.length:Int)==0)=false:=by rw [beq_eq_false_iff_ne];omega
 obtain ⟨fi,hi,hi0,hi1,hi2⟩:=info_parts fd_info
 obtain ⟨si,hs,hs0,hs1,hsz⟩:=info_parts stz_info
 have HR:=Lib.hid hR
 have HRN:=Lib.hid hr
 have HN:=Lib.hid hN
 have HLN:=Lib.hid hln
 have HOL:=Lib.hid hol
 have HDL:=Lib.hid hdl
 have c2:=hR.c2
 clear hR hr hN h0 hln hol hdl hc2 hs2 hc1 hl
 go_enter Tryz.func99,Tryz.ntmps99
 go_wp2
 go_loopw [2,16] (fun v i wr=>∃j:Nat,j≤p.op.length∧i=.int .i64 j∧Grow rdFd 2 (fun _=>True) wr w.heap.size 78 v ((p.op.take j).map clF)∧Below w.heap.size w wr) (fun _ i _=>p.op.length - (intOf i).toNat)
 case atStart=>exact ⟨0,Nat.zero_le _,rfl,Grow.nil _ _ _ _,Below.refl _ _⟩
 case round=>
  obtain ⟨j,hj,rfl,hG,hbel⟩:=hrel
  clear c2
  obtain ⟨A5,c5,hv5,_,hcm5⟩:=hG.own
  rw [show ((p.op.take j).map clF).length=j by rw [List.length_map,List.length_take];omega] at hv5
  have hcm5':c5≤9223372036854775807:=hcm5
  clear hcm5
  subst hv5
  by_cases hlt:j < p.op.length
  ·have hRr:=HR.out.below hbel (Nat.lt_of_lt_of_le HRN.out HN.out)
   obtain ⟨_,_,_,ha⟩:=rdOp_at (hRr.go.read rdOpX_good) (hRr.gl.read rdStr_good) hRr.gl.plain
   obtain ⟨ad,A2,n2,c2,rfl,had,x0,x1,hst,hpl⟩:=ha j hlt
   have hpj:=HLN.out p.op[j] (List.getElem_mem hlt)
   have CLF:=Lib.hid (show clF p.op[j]=⟨p.op[j].1,mk (joinL (B { data:=#[10] }) p.op[j].2)⟩ from rfl)
   have SJ:=Lib.hid (fun (W:World) (hb:Below wr.heap.size wr W)=>sjoin5_any W (rdStrs_good.up (rdStrs_good.below hst hb) hb.size) hpl { data:=#[10] } (by have:=hpj.1;omega) (by
    refine Nat.le_trans (joinL_len hpj.2) (Nat.le_trans (Nat.mul_le_mul_right _ hpj.1) ?_)
    rw [B_len];show 1000000*(1000000+1)≤_;omega))
   have HTK:=Lib.hid (show (p.op.take (j+1)).map clF=(p.op.take j).map clF++[clF p.op[j]] from take_snoc clF p.op j hlt)
   have HG:=Lib.hid hG
   have HB:=Lib.hid hbel
   have hq1:((p.op.take j).map clF).length+[clF p.op[j]].length≤maxLen:=by have:=HOL.out;rw [List.length_map,List.length_take,List.length_singleton];unfold maxLen;omega
   have hq2:(((p.op.take j).map clF).length+[clF p.op[j]].length)*32≤140737488355328:=by have:=HOL.out;rw [List.length_map,List.length_take,List.length_singleton];omega
   rw [CLF.out] at hq1 hq2 HTK
   generalize p.op[j].1=nm at *
   generalize mk (joinL (B { data:=#[10] }) p.op[j].2)=vv at *
   clear hRr ha hst hpl hpj hG hbel
   obtain ⟨V3,hV3⟩:∃V3,V3=(wr.alloc (Obj.cells #[Value.string nm,Value.slice A2 n2 c2] 186)).drew:=⟨_,rfl⟩
   have bv:Below wr.heap.size wr V3:=by rw [hV3];exact belD ((Below.refl _ _).alloc (Nat.le_refl _) _) 1
   have BV:=Lib.hid bv
   have BWV:=Lib.hid (HB.out.trans (bv.mono HB.out.size))
   have GV:=Lib.hid (HG.out.below rdFd_good bv)
   have QV:=Lib.hid (show wr.heap.size < V3.heap.size by rw [hV3];show _ < (wr.alloc _).heap.size;rw [World.size_alloc];omega)
   have KS:=Lib.hid (fun (W:World) (hb:Below V3.heap.size V3 W)=>(show W.cell? ⟨wr.heap.size,0,none⟩=some (.string nm)∧W.cell? ⟨wr.heap.size,1,none⟩=some (.slice A2 n2 c2) from
    ⟨(hb.cell (show (⟨wr.heap.size,0,none⟩:Addr).block < V3.heap.size from QV.out)).trans (by rw [hV3];simp [go_sem]),(hb.cell (show (⟨wr.heap.size,1,none⟩:Addr).block < V3.heap.size from QV.out)).trans (by rw [hV3];simp [go_sem])⟩))
   clear bv
   go_wp2_with fail
   refine wp_region_noPanic ?_
   refine wp_region_L (fun W=>W.cell? ⟨wr.heap.size,0,none⟩=some (.string nm)∧W.cell? ⟨wr.heap.size,1,none⟩=some (.slice A2 n2 c2)) 9 (by kernel_rfl) (by rw [←hV3];exact KS.out V3 (Below.refl _ _)) (fun hHeld=>?_)
   rw [←hV3] at hHeld ⊢
   clear hV3
   refine wpAnyL_take (i:=0) (v:=?_) [8] rfl (by kernel_rfl) (by kernel_rfl) (by kernel_rfl) (fun _ _ _ h=>h) (by kernel_rfl) (by kernel_rfl) (by kernel_rfl) (Or.inl ⟨by rfl,?_⟩) (by assumption) ?_
   rotate_left
   ·intro w hSw
    try dsimp only at hSw
    go_simp
    first|done|with_reducible rfl
   try simp only [Act.put,List.setIfInBounds_toArray,List.set_cons_zero,List.set_cons_succ]
   refine wpAnyL_take (i:=1) (v:=?_) [8,7,6,2] rfl (by kernel_rfl) (by kernel_rfl) (by kernel_rfl) (fun _ _ _ h=>h) (by kernel_rfl) (by kernel_rfl) (by kernel_rfl) (Or.inl ⟨by rfl,?_⟩) (by assumption) ?_
   rotate_left
   ·intro w hSw
    try dsimp only at hSw
    go_simp
    first|done|with_reducible rfl
   try simp only [Act.put,List.setIfInBounds_toArray,List.set_cons_zero,List.set_cons_succ]
   refine wpAnyL_take (i:=2) (v:=?_) [8,7,6] rfl (by kernel_rfl) (by kernel_rfl) (by kernel_rfl) (fun _ _ _ h=>h) (by kernel_rfl) (by kernel_rfl) (by kernel_rfl) (Or.inl ⟨by rfl,?_⟩) (by assumption) ?_
   rotate_left
   ·intro w hSw
    try dsimp only at hSw
    go_simp
    first|done|with_reducible rfl
   try simp only [Act.put,List.setIfInBounds_toArray,List.set_cons_zero,List.set_cons_succ]
   refine wpAnyL_take (i:=3) (v:=?_) [8,7,6,5,4] rfl (by kernel_rfl) (by kernel_rfl) (by kernel_rfl) (fun _ _ _ h=>h) (by kernel_rfl) (by kernel_rfl) (by kernel_rfl) (Or.inl ⟨by rfl,?_⟩) (by assumption) ?_
   rotate_left
   ·intro w hSw
    try dsimp only at hSw
    go_simp
    first|done|with_reducible rfl
   try simp only [Act.put,List.setIfInBounds_toArray,List.set_cons_zero,List.set_cons_succ]
   refine wpAnyL_take (i:=4) (v:=?_) [8,7,6,5] rfl (by kernel_rfl) (by kernel_rfl) (by kernel_rfl) (fun _ _ _ h=>h) (by kernel_rfl) (by kernel_rfl) (by kernel_rfl) (Or.inl ⟨by rfl,?_⟩) (by assumption) ?_
   rotate_left
   ·intro w hSw
    try dsimp only at hSw
    go_simp
    first|done|with_reducible rfl
   try simp only [Act.put,List.setIfInBounds_toArray,List.set_cons_zero,List.set_cons_succ]
   refine wpAnyL_one (i:=5) (by kernel_rfl) rfl (fun K hK=>?_)
   go_simp
   refine (SJ.out _ BV.out).mono ?_
   rintro e w4 ⟨rfl,hb4⟩
   have HB4:=Lib.hid hb4
   clear hb4
   go_wp2_with fail
   refine hK.out _ _ (KS.out _ HB4.out) (fun hHeld=>?_)
   clear hK K
   try simp only [Act.put,List.setIfInBounds_toArray,List.set_cons_zero,List.set_cons_succ]
   refine wpAnyL_one (i:=6) (by kernel_rfl) rfl (fun K hK=>?_)
   go_simp
   refine hK.out _ _ (KS.out _ HB4.out) (fun hHeld=>?_)
   clear hK K
   try simp only [Act.put,List.setIfInBounds_toArray,List.set_cons_zero,List.set_cons_succ]
   have O:=Lib.hid (end_app GV.out (BWV.out.size) HB4.out nm vv)
   refine wpAnyL_one (i:=7) (by kernel_rfl) rfl (fun K hK=>?_)
   go_simp
   refine hK.out _ _ (KS.out _ (HB4.out.alloc HB4.out.size _)) (fun hHeld=>?_)
   clear hK K
   try simp only [Act.put,List.setIfInBounds_toArray,List.set_cons_zero,List.set_cons_succ]
   refine wpAnyL_one (i:=8) (by kernel_rfl) rfl (fun K hK=>?_)
   refine step_growN _ (by rfl) _ _ 55 55 (by rfl) rdFd_good (by decide) (fun _=>True) w.heap.size 78 78 fi (.agg #[.string { data:=#[] },.string { data:=#[] }]) 32 Tryz.underlying55 Tryz.underlying55 hi hi0 hi1 hi2 rfl _ _ (by rfl) O.out.g [⟨nm,vv⟩] _ _ _ _ (by rfl) O.out.x O.out.s hq1 hq2 O.out.bs ?_
   intro v5 w5 hG5 hg5 _
   rw [←HTK.out] at hG5
   have B5:=Lib.hid (BWV.out.trans ((show Below w.heap.size V3 w5 from grow_below O.out.g hg5 (O.out.bel.mono BWV.out.size) (Nat.le_refl _) O.out.bs)))
   have S5:=Lib.hid (show w5.cell? ⟨wr.heap.size,0,none⟩=some (.string nm)∧w5.cell? ⟨wr.heap.size,1,none⟩=some (.slice A2 n2 c2) from ⟨(World.cell?_of_block (a:=⟨wr.heap.size,0,none⟩) (hg5.block wr.heap.size (Nat.lt_of_lt_of_le QV.out O.out.bel.size) (fun hh=>by have:=(HG.out.lt _ hh.symm).2;omega))).trans (KS.out _ O.out.bel).1,(World.cell?_of_block (a:=⟨wr.heap.size,1,none⟩) (hg5.block wr.heap.size (Nat.lt_of_lt_of_le QV.out O.out.bel.size) (fun hh=>by have:=(HG.out.lt _ hh.symm).2;omega))).trans (KS.out _ O.out.bel).2⟩)
   have G5:=Lib.hid hG5
   clear hG5 hg5
   refine hK.out _ _ S5.out (fun hHeld=>?_)
   clear hK K
   try simp only [Act.put,List.setIfInBounds_toArray,List.set_cons_zero,List.set_cons_succ]
   refine wpAnyL_last (by kernel_rfl) rfl (by kernel_rfl) (fun K hK=>?_)
   go_simp
   refine hK.out _ _ ?_
   clear hK K
   refine NoPanic.normal ?_
   go_wp2
   go_roundw
   case rel=>exact ⟨j+1,by omega,by go_num,G5.out,B5.out⟩
   case measure=>simp [intOf];omega
  ·obtain rfl:j=p.op.length:=by omega
   rw [List.take_length] at hG
   have R1:=Lib.hid (HR.out.below hbel (Nat.lt_of_lt_of_le HRN.out HN.out))
   have hvs':=hvs
   subst hvs
   have x1:=R1.out.c1
   have hNW:N≤wr.heap.size:=Nat.le_trans HN.out hbel.size
   have hgs:Grow rdFds 1 (fun b=>N≤b) wr N 55 (.slice As p.dn.length cs) p.dn:=R1.out.gs.retag rdFds_good fun b h1 _=>h1.1.1
   have hE:rdFds wr (fun b=>N≤b∧b < wr.heap.size∧(Value.slice As p.dn.length cs).ownBlock≠some b) (p.op.map clF) (#[Value.slice A5 p.op.length c5]:Array Value).toList:=
    rdFds_good.more (hG.inOwn rdFd_good fun _ _ _ _ _ h=>h) fun b hb=>⟨Nat.le_trans HN.out hb.2.1,hb.2.2,fun e=>by have:=(HR.out.gs.lt b e).2;omega⟩
   have hn1:p.dn.length+1≤maxLen:=by have:=HDL.out;unfold maxLen;omega
   have hn2:(p.dn.length+1)*24≤140737488355328:=by have:=HDL.out;omega
   have HB:=Lib.hid hbel
   clear hG hbel
   go_wp2_with (at_builtin;refine wpList_grow1_at wr rfl _ _ 51 rfl rdFds_good (by decide) (fun b=>N≤b) N 55 si (.slice none 0 0) 24 Tryz.underlying51 hs hs0 hs1 hsz rfl (.slice As p.dn.length cs) p.dn rfl hgs (p.op.map clF) _ 55 hE _ rfl rfl hn1 hn2 hNW ?_)
   intro v' w1 hG' hgr hmv
   obtain ⟨A',c',hv',_,_⟩:=hG'.own
   rw [List.length_append,List.length_singleton] at hv'
   subst hv'
   obtain ⟨o1,o2,o3,o4,o5,o6⟩:=RdP.closed R1.out HRN.out hNW _ hG' hgr
   have O1:=Lib.hid o1
   have O2:=Lib.hid o2
   have o7:(w1.setCell ⟨r,1,none⟩ (Value.slice A' (p.dn.length+1) c')).cell? ⟨r,2,none⟩=some (.slice A p.op.length c):=by rw [World.cell?_setCell_other _ _ _ _ (fun e=>by have:=congrArg Addr.off e;simp at this)];exact o5
   clear o1 o2 hG' hgr hmv hE hgs
   go_wp2
   go_end0
   exact ⟨rfl,⟨_,_,_,by rw [FIN.out];exact O1.out⟩,(Fr.of (HB.out.mono HN.out) (Nat.le_of_lt HRN.out)).trans O2.out⟩
end Go.Proofs.YtboinnjncaehkaaGreatDoor
