/- What the laws rest on: N10s. -/
import Derived.Test.YthchfkhpmgkghaaGreatDoorQAOZA
import Derived.Test.YthchfkhpmgkghaaGreatDoorQAWZA
import Derived.Test.YthchfkhpmgkghaaGreatDoorQCFZA
import Derived.Test.YthchfkhpmgkghaaGreatDoorQCGZA
import Derived.Test.YthchfkhpmgkghaaGreatDoorQCHZA
import Derived.Test.YthchfkhpmgkghaaGreatDoorQCIZA
set_option maxRecDepth 100000
set_option linter.unusedVariables false
set_option linter.unusedSimpArgs false
namespace Go.Proofs.YthchfkhpmgkghaaGreatDoor
open Go.RowKit
theorem setL_more {l k:List Int} {n:Nat} (h:∀p ∈ l,p ∈ k):∀p ∈ setL l n,p ∈ setL k n:=fun p hp=>by
 obtain ⟨h1,h2⟩:=setL_mem.1 hp
 exact setL_mem.2 ⟨h p h1,h2⟩
set_option maxHeartbeats 32000000 in
theorem more10 (A:Option Addr) (n0 c:Nat) (L:List Ent) (A':Option Addr) (n1 c':Nat) (m:List Hr) (A1:Option Addr) (c1:Nat) (A2:Option Addr) (c2:Nat) (i r:List Atm) (up:Bool) (Al:Option Addr) (nl cl:Nat) (l:List Int) (tm:Int) (w:World) (h:rdEnts w (lt_ w.heap.size) L [.slice A n0 c]) (h':rdHrs w (lt_ w.heap.size) m [.slice A' n1 c']) (hi:rdAtms w (lt_ w.heap.size) i [.slice A1 i.length c1]) (hr:rdAtms w (lt_ w.heap.size) r [.slice A2 r.length c2]) (hl:rdInts w (lt_ w.heap.size) l [.slice Al nl cl]) (E:EnvR w) :
  Calls Tryz.prog 4 #[.slice A n0 c,.slice A' n1 c',.agg #[.slice A1 i.length c1,.slice A2 r.length c2,.bool up],.slice Al nl cl,.int .i64 tm] w fun e w'=>e=.returned (.bool true)∧Below w.heap.size w w':=by
 obtain ⟨rfl,hnc,hcm,-⟩:=rdEnts_at h
 obtain ⟨rfl,hnc',hcm',-⟩:=rdHrs_at h'
 have hcx:c≤9223372036854775807:=hcm
 have hcy:c'≤9223372036854775807:=hcm'
 have HE:=Lib.hid E
 have H:=Lib.hid (fun (W:World) (hb:Below w.heap.size w W)=>(rdEnts_good.up (rdEnts_good.below h hb) hb.size:rdEnts W (lt_ W.heap.size) L [.slice A L.length c]))
 have H':=Lib.hid (fun (W:World) (hb:Below w.heap.size w W)=>(rdHrs_good.up (rdHrs_good.below h' hb) hb.size:rdHrs W (lt_ W.heap.size) m [.slice A' m.length c']))
 obtain ⟨rfl,hlc,hlm,-⟩:=rdInts_at hl
 have hlx:cl≤9223372036854775807:=hlm
 have Hl:=Lib.hid (fun (W:World) (hb:Below w.heap.size w W)=>(rdInts_good.up (rdInts_good.below hl hb) hb.size:rdInts W (lt_ W.heap.size) l [.slice Al l.length cl]))
 have HI:=Lib.hid (fun (W:World) (hb:Below w.heap.size w W)=>(rdAtms_good.up (rdAtms_good.below hi hb) hb.size:rdAtms W (lt_ W.heap.size) i [.slice A1 i.length c1]))
 have HR:=Lib.hid (fun (W:World) (hb:Below w.heap.size w W)=>(rdAtms_good.up (rdAtms_good.below hr hb) hb.size:rdAtms W (lt_ W.heap.size) r [.slice A2 r.length c2]))
 obtain ⟨W1,hW1⟩:∃W,W=w.alloc (.cells #[.slice A1 i.length c1,.slice A2 r.length c2,.bool up] 26):=⟨_,rfl⟩
 have b1:Below w.heap.size w W1:=by rw [hW1];exact (Below.refl _ w).alloc (Nat.le_refl _) _
 have B1:=Lib.hid b1
 have KX:=Lib.hid (fun (W:World) (hb:Below W1.heap.size W1 W)=>(show W.cell? ⟨w.heap.size,0,none⟩=some (.slice A1 i.length c1)∧W.cell? ⟨w.heap.size,1,none⟩=some (.slice A2 r.length c2)∧W.cell? ⟨w.heap.size,2,none⟩=some (.bool up) from by
  refine ⟨?_,?_,?_⟩<;>exact keep6 hb (by rw [hW1];simp [go_sem])))
 clear h h' hcm hcm' E hl hlm hi hr b1
 go_enter Tryz.func4,Tryz.ntmps4
 go_upto_region 1 with fail
 rw [←hW1]
 clear hW1
 go_wp2_with fail
 refine (shown10_any W1 (HE.out.below B1.out)).mono ?_
 rintro e w1 ⟨rfl,hb⟩
 have Q1:=Lib.hid hb
 have B2:=Lib.hid (bel_in B1.out hb)
 clear hb
 go_wp2_with fail
 refine (small10_any A L.length c L A' m.length c' m w1 (H.out w1 B2.out) (H'.out w1 B2.out)).mono ?_
 rintro e w2 ⟨⟨ok,rfl,hfw⟩,hb⟩
 have Q2:=Lib.hid (bel_in Q1.out hb)
 have B3:=Lib.hid (bel_in B2.out hb)
 clear hb Q1
 obtain ⟨x0,x1,x2⟩:=KX.out w2 Q2.out
 go_wp2_with fail
 refine (asks10_any A1 c1 A2 c2 i r up w2 (HI.out w2 B3.out) (HR.out w2 B3.out)).mono ?_
 rintro e w3 ⟨⟨ok2,rfl,hask⟩,hb⟩
 have Q3:=Lib.hid (bel_in Q2.out hb)
 have B4:=Lib.hid (bel_in B3.out hb)
 clear hb x0 x1 x2
 cases ok
 ·go_wp2
  go_ret
  exact ⟨rfl,B4.out⟩
 have FW:=Lib.hid (hfw rfl)
 clear hfw
 cases ok2
 ·go_wp2
  go_ret
  exact ⟨rfl,B4.out⟩
 have AK:=Lib.hid (hask rfl)
 clear hask
 by_cases hln:(100:Int) < (l.length:Int)
 ·have hln':100 < l.length:=by omega
  go_wp2
  go_ret
  exact ⟨rfl,B4.out⟩
 have hln':¬100 < l.length:=by omega
 have KN:=Lib.hid (new9_any A L.length c L A' m.length c' m w3 (H.out w3 B4.out) (H'.out w3 B4.out) (fun x hx=>(FW.out.1.2 x hx).sz) (fun y hy=>(FW.out.2.2 y hy).sz) (HE.out.below B4.out))
 go_wp2_with fail
 refine KN.out.mono ?_
 rintro e w4 ⟨hnr,hb⟩
 have Q4:=Lib.hid (bel_in Q3.out hb)
 have B5:=Lib.hid (bel_in B4.out hb)
 clear hb KN
 by_cases hboth:L.all rgtE=true∧rightH m=true
 rotate_left
 ·obtain rfl:=hnr.1 hboth
  clear hboth hnr
  go_wp2
  go_ret
  exact ⟨rfl,B5.out⟩
 by_cases hmany:64 < (entU L (m.map fun y=>y.e)).length
 ·obtain rfl:=hnr.2.1 hboth hmany
  clear hboth hnr hmany
  go_wp2
  go_ret
  exact ⟨rfl,B5.out⟩
 obtain ⟨b,rfl,hup⟩:=hnr.2.2 hboth hmany
 have UFF:=Lib.hid (uf_of hboth FW.out hmany)
 generalize entU L (m.map fun y=>y.e)=U at *
 have HU:=Lib.hid (fun (W:World) (hb:Below w4.heap.size w4 W)=>(UFF.out.uq hup).below hb)
 have HEU:=Lib.hid (fun (W:World) (hb:Below w4.heap.size w4 W)=>HE.out.below (bel_in B5.out hb))
 clear hnr hboth hmany hup
 obtain ⟨fi,hi0,hz0,hz1,hz2⟩:=info_parts int10_info
 have AZ:=Lib.hid (show (∀a ∈ i,a.n.size≤1000000)∧(∀a ∈ r,a.n.size≤1000000)∧i.length≤100∧r.length≤100 from ⟨fun a ha=>by have:=(AK.out.1.2 a ha).1;omega,fun a ha=>by have:=(AK.out.2.2 a ha).1;omega,by have:=AK.out.1.1;omega,by have:=AK.out.2.1;omega⟩)
 obtain ⟨x0,x1,x2⟩:=KX.out w4 Q4.out
 go_wp2_with fail
 refine (vright10_any A1 c1 A2 c2 i r up w4 (HI.out w4 B5.out) (HR.out w4 B5.out) (HEU.out w4 (Below.refl _ _))).mono ?_
 rintro e w5 ⟨rfl,hb⟩
 have B45:=Lib.hid hb
 clear hb x0 x1 x2
 cases hrq:rqB i r
 ·go_wp2
  go_ret
  exact ⟨rfl,bel_in B5.out B45.out⟩
 have RQ:=Lib.hid hrq
 clear hrq
 go_wp2_with fail
 refine (len9_any b U m w5 (HU.out w5 B45.out).up).mono ?_
 rintro e w6 ⟨rfl,rfl⟩
 go_wp2_with fail
 refine (set10_any Al l.length cl l U.length w5 (Hl.out w5 (bel_in B5.out B45.out)) (by have:=UFF.out.len;omega)).mono ?_
 rintro e w6 ⟨⟨As,cs,rfl,hrs⟩,hb⟩
 have B46:=Lib.hid (bel_in B45.out hb)
 have RS:=Lib.hid (fun (W:World) (hx:Below w6.heap.size w6 W)=>(rdInts_good.up (rdInts_good.below hrs hx) hx.size:rdInts W (lt_ W.heap.size) (setL l U.length) [.slice As (setL l U.length).length cs]))
 clear hb hrs
 have hG0:=Grow.empty (E:=rdInt) (sz:=1) (fun _=>True) (W:=w6.alloc (.cells #[] 3)) (base:=w6.heap.size) (heap_alloc_new w6 _) (Nat.le_refl _)
 have bA:Below w6.heap.size w6 (w6.alloc (.cells #[] 3)):=(Below.refl _ w6).alloc (Nat.le_refl _) _
 have BA:=Lib.hid bA
 have hX:=rdInts_good.below (Hl.out w6 (bel_in B5.out B46.out)) bA
 have hS:∀b,lt_ w6.heap.size b→True∧b < (w6.alloc (.cells #[] 3)).heap.size∧(Value.slice (some ⟨w6.heap.size,0,none⟩) 0 0).ownBlock≠some b:=fun b hb=>⟨trivial,by rw [World.size_alloc];unfold lt_ at hb;omega,fun hh=>by simp only [Value.ownBlock,Option.some.injEq] at hh;unfold lt_ at hb;omega⟩
 have hn1:([]:List Int).length+l.length≤maxLen:=by simp only [List.length_nil];unfold maxLen;omega
 have hn2:(([]:List Int).length+l.length)*8≤140737488355328:=by simp only [List.length_nil];omega
 have hbs:w6.heap.size≤(w6.alloc (.cells #[] 3)).heap.size:=by rw [World.size_alloc];omega
 clear bA
 go_wp2_with (at_builtin;refine wpList_growN _ rfl _ _ 27 27 rfl rdInt_good (by decide) (fun _=>True) w6.heap.size 3 3 fi (.int .i64 0) 8 Tryz.underlying27 Tryz.underlying27 hi0 hz0 hz1 hz2 rfl _ _ rfl hG0 l _ Al l.length cl rfl hX hS hn1 hn2 hbs ?_)
 intro v7 w7 hG7 hg7
 have B67:=Lib.hid (grow_below hG0 hg7 BA.out (Nat.le_refl _) hbs)
 clear hg7 hG0 hX hS hn1 hn2 hbs
 have hn1:l.length+1≤maxLen:=by unfold maxLen;omega
 have hn2:(l.length+1)*8≤140737488355328:=by omega
 have hbs:w6.heap.size≤w7.heap.size:=B67.out.size
 obtain ⟨A7,c7,hv7,-,-⟩:=hG7.own
 obtain ⟨n7,hn7⟩:∃n,n=l.length:=⟨_,rfl⟩
 rw [←hn7] at hv7
 subst hv7
 clear hn7
 go_wp2_with (at_builtin;refine wpList_grow1 w7 rfl _ _ 27 rfl rdInt_good (by decide) (fun _=>True) w6.heap.size 3 fi _ 8 Tryz.underlying27 hi0 hz0 hz1 hz2 rfl (.slice A7 n7 c7) l rfl hG7 tm _ 3 rfl _ rfl rfl hn1 hn2 hbs ?_)
 intro v8 w8 hG8 hg8
 have B68:=Lib.hid (grow_below hG7 hg8 B67.out (Nat.le_refl _) hbs)
 have B48:=Lib.hid (bel_in B46.out B68.out)
 obtain ⟨A8,c8,hv8,-,-⟩:=hG8.own
 have R8:=Lib.hid (show rdInts w8 (lt_ w8.heap.size) (l++[tm]) [v8] from hG8.read rdInt_good)
 obtain ⟨n8,hn8⟩:∃n,n=(l++[tm]).length:=⟨_,rfl⟩
 rw [←hn8] at hv8
 subst hv8
 clear hG7 hg8 hG8 hn1 hn2 hbs hn8
 go_wp2_with fail
 refine (len9_any b U m w8 (HU.out w8 B48.out).up).mono ?_
 rintro e w9 ⟨rfl,rfl⟩
 go_wp2_with fail
 refine (set10_any A8 n8 c8 (l++[tm]) U.length w8 R8.out (by have:=UFF.out.len;omega)).mono ?_
 rintro e w9 ⟨⟨At,ct,rfl,hrt⟩,hb⟩
 have B69:=Lib.hid (bel_in B68.out hb)
 have RT:=Lib.hid (fun (W:World) (hx:Below w9.heap.size w9 W)=>(rdInts_good.up (rdInts_good.below hrt hx) hx.size:rdInts W (lt_ W.heap.size) (setL (l++[tm]) U.length) [.slice At (setL (l++[tm]) U.length).length ct]))
 clear hb hrt R8
 have SU:=Lib.hid (setL_more (l:=l) (k:=l++[tm]) (n:=U.length) (fun p hp=>List.mem_append_left _ hp))
 have SSx:=Lib.hid (setL_set l U.length)
 have ST:=Lib.hid (setL_set (l++[tm]) U.length)
 have SLs:=Lib.hid (Nat.le_trans (setL_len10 l U.length) UFF.out.len)
 have SLt:=Lib.hid (Nat.le_trans (setL_len10 (l++[tm]) U.length) UFF.out.len)
 generalize setL l U.length=s at *
 generalize setL (l++[tm]) U.length=t at *
 have B49:=Lib.hid (bel_in B46.out B69.out)
 have Q9:=Lib.hid (bel_in Q4.out B49.out)
 have B9:=Lib.hid (bel_in B5.out B49.out)
 have KFs:=Lib.hid (vfaults_any b U m A1 c1 i A2 c2 r up As s.length cs s w9 (HU.out w9 B49.out) (RS.out w9 B69.out) (HI.out w9 B9.out) (HR.out w9 B9.out) AZ.out.1 AZ.out.2.1 (HEU.out w9 B49.out) (by have:=SLs.out;omega) (flt_bound UFF.out.dep (by have:=SLs.out;omega) UFF.out.len AZ.out.2.2.1 AZ.out.2.2.2))
 have KFt:=Lib.hid (fun (W:World) (hx:Below w9.heap.size w9 W)=>vfaults_any b U m A1 c1 i A2 c2 r up At t.length ct t W (HU.out W (bel_in B49.out hx)) (RT.out W hx) (HI.out W (bel_in B9.out hx)) (HR.out W (bel_in B9.out hx)) AZ.out.1 AZ.out.2.1 (HEU.out W (bel_in B49.out hx)) (by have:=SLt.out;omega) (flt_bound UFF.out.dep (by have:=SLt.out;omega) UFF.out.len AZ.out.2.2.1 AZ.out.2.2.2))
 rw [RQ.out,setB_true.2 SSx.out] at KFs
 rw [RQ.out,setB_true.2 ST.out] at KFt
 have UPF:=Lib.hid (fun (x:Ft) (hx:x ∈ fltS U (heldU U m) i r s) (hk:x.k=1∨x.k=2∨x.k=6)=>fltS_up SSx.out.2 ST.out.2 SU.out hx hk)
 have DNF:=Lib.hid (fun (x:Ft) (hx:x ∈ fltS U (heldU U m) i r t) (hk:x.k=4∨x.k=5)=>fltS_dn SSx.out.2 ST.out.2 SU.out hx hk)
 generalize fltS U (heldU U m) i r s=Ts at KFs UPF DNF
 generalize fltS U (heldU U m) i r t=Tt at KFt UPF DNF
 obtain ⟨x0,x1,x2⟩:=KX.out w9 Q9.out
 go_wp2_with fail
 refine KFs.out.mono ?_
 rintro e wa ⟨hf,hb⟩
 obtain ⟨Aa,ca,rfl,hra⟩:=hf.2 rfl
 have RA:=Lib.hid (fun (W:World) (hx:Below wa.heap.size wa W)=>(rdFts_good.up (rdFts_good.below (rdFts_good.more hra fun k hk=>hk.2:rdFts wa (lt_ wa.heap.size) Ts [.slice Aa Ts.length ca]) hx) hx.size:rdFts W (lt_ W.heap.size) Ts [.slice Aa Ts.length ca]))
 obtain ⟨-,hac,ham,-⟩:=rdFts_at hra
 have ham':ca≤9223372036854775807:=ham
 have B9a:=Lib.hid hb
 have Qa:=Lib.hid (bel_in Q9.out hb)
 clear hf hra ham hb x0 x1 x2 KFs
 obtain ⟨x0,x1,x2⟩:=KX.out wa Qa.out
 go_wp2_with fail
 refine (KFt.out wa B9a.out).mono ?_
 rintro e wb ⟨hf,hb⟩
 obtain ⟨Ab,cb,rfl,hrb⟩:=hf.2 rfl
 have RB:=Lib.hid (fun (W:World) (hx:Below wb.heap.size wb W)=>(rdFts_good.up (rdFts_good.below (rdFts_good.more hrb fun k hk=>hk.2:rdFts wb (lt_ wb.heap.size) Tt [.slice Ab Tt.length cb]) hx) hx.size:rdFts W (lt_ W.heap.size) Tt [.slice Ab Tt.length cb]))
 obtain ⟨-,hbc,hbm,-⟩:=rdFts_at hrb
 have hbm':cb≤9223372036854775807:=hbm
 have Bab:=Lib.hid hb
 have Bb:=Lib.hid (bel_in B9.out (bel_in B9a.out hb))
 clear hf hrb hbm hb x0 x1 x2 KFt
 have LTs:=Lib.hid (show Ts.length≤9223372036854775807 from Nat.le_trans hac ham')
 have LTt:=Lib.hid (show Tt.length≤9223372036854775807 from Nat.le_trans hbc hbm')
 go_wp2_with fail
 go_loopw [22] (fun ix wr=>∃k:Nat,k≤Ts.length∧ix=.int .i64 k∧Below wb.heap.size wb wr) (fun ix _=>Ts.length - (intOf ix).toNat)
 case atStart=>exact ⟨0,Nat.zero_le _,rfl,Below.refl _ _⟩
 case round=>
  obtain ⟨k,hk,rfl,hbel⟩:=hrel
  have HB:=Lib.hid hbel
  clear hbel
  by_cases hlt:k < Ts.length
  ·obtain ⟨ad,rfl,-,f0,f1,f2⟩:=(rdFts_at (RA.out wr (bel_in Bab.out HB.out))).2.2.2 k hlt
   have i0:(0:Int)≤(k:Int):=by omega
   have i1:(k:Int) < (Ts.length:Int):=by omega
   have k1:IntKind.i64.wrap ((k:Int)+1)=(k:Int)+1:=IntWalk.i64_in _ (by have:=LTs.out;omega)
   have ME:=Lib.hid (UPF.out _ (List.getElem_mem hlt))
   generalize Ts[k]=x at f0 f1 f2 ME
   obtain ⟨xk,xa,xb⟩:=x
   simp only at f0 f1 f2 ME
   by_cases hno:xk=1∨xk=2∨xk=6
   ·rcases hno with rfl|rfl|rfl
    ·have KHS:=Lib.hid (has10_any Ab Tt.length cb Tt ⟨1,xa,xb⟩ wr (RB.out wr HB.out))
     rw [decide_eq_true (ME.out (.inl rfl))] at KHS
     clear ME
     go_wp2_with fail
     refine KHS.out.mono ?_
     rintro e wc ⟨rfl,hb⟩
     have BX:=Lib.hid (bel_in HB.out hb)
     clear hb KHS f0 f1 f2
     go_wp2
     go_roundw
     case rel=>exact ⟨k+1,by omega,by go_num,BX.out⟩
     case measure=>simp [intOf];omega
    ·have KHS:=Lib.hid (has10_any Ab Tt.length cb Tt ⟨2,xa,xb⟩ wr (RB.out wr HB.out))
     rw [decide_eq_true (ME.out (.inr (.inl rfl)))] at KHS
     clear ME
     go_wp2_with fail
     refine KHS.out.mono ?_
     rintro e wc ⟨rfl,hb⟩
     have BX:=Lib.hid (bel_in HB.out hb)
     clear hb KHS f0 f1 f2
     go_wp2
     go_roundw
     case rel=>exact ⟨k+1,by omega,by go_num,BX.out⟩
     case measure=>simp [intOf];omega
    ·have KHS:=Lib.hid (has10_any Ab Tt.length cb Tt ⟨6,xa,xb⟩ wr (RB.out wr HB.out))
     rw [decide_eq_true (ME.out (.inr (.inr rfl)))] at KHS
     clear ME
     go_wp2_with fail
     refine KHS.out.mono ?_
     rintro e wc ⟨rfl,hb⟩
     have BX:=Lib.hid (bel_in HB.out hb)
     clear hb KHS f0 f1 f2
     go_wp2
     go_roundw
     case rel=>exact ⟨k+1,by omega,by go_num,BX.out⟩
     case measure=>simp [intOf];omega
   have t1:(xk==1)=false:=by rw [beq_eq_false_iff_ne];exact fun e=>hno (.inl e)
   have t2:(xk==2)=false:=by rw [beq_eq_false_iff_ne];exact fun e=>hno (.inr (.inl e))
   have t6:(xk==6)=false:=by rw [beq_eq_false_iff_ne];exact fun e=>hno (.inr (.inr e))
   clear hno ME
   go_wp2
   go_roundw
   case rel=>exact ⟨k+1,by omega,by go_num,HB.out⟩
   case measure=>simp [intOf];omega
  ·obtain rfl:k=Ts.length:=by omega
   go_wp2_with fail
   go_loopw [24] (fun ix wr=>∃k:Nat,k≤Tt.length∧ix=.int .i64 k∧Below wb.heap.size wb wr) (fun ix _=>Tt.length - (intOf ix).toNat)
   case atStart=>exact ⟨0,Nat.zero_le _,rfl,HB.out⟩
   case round=>
    obtain ⟨k,hk,rfl,hbel⟩:=hrel
    have HB:=Lib.hid hbel
    clear hbel
    by_cases hlt:k < Tt.length
    ·obtain ⟨ad,rfl,-,f0,f1,f2⟩:=(rdFts_at (RB.out wr HB.out)).2.2.2 k hlt
     have i0:(0:Int)≤(k:Int):=by omega
     have i1:(k:Int) < (Tt.length:Int):=by omega
     have k1:IntKind.i64.wrap ((k:Int)+1)=(k:Int)+1:=IntWalk.i64_in _ (by have:=LTt.out;omega)
     have ME:=Lib.hid (DNF.out _ (List.getElem_mem hlt))
     generalize Tt[k]=x at f0 f1 f2 ME
     obtain ⟨xk,xa,xb⟩:=x
     simp only at f0 f1 f2 ME
     by_cases hno:xk=4∨xk=5
     ·rcases hno with rfl|rfl
      ·have KHS:=Lib.hid (has10_any Aa Ts.length ca Ts ⟨4,xa,xb⟩ wr (RA.out wr (bel_in Bab.out HB.out)))
       rw [decide_eq_true (ME.out (.inl rfl))] at KHS
       clear ME
       go_wp2_with fail
       refine KHS.out.mono ?_
       rintro e wc ⟨rfl,hb⟩
       have BX:=Lib.hid (bel_in HB.out hb)
       clear hb KHS f0 f1 f2
       go_wp2
       go_roundw
       case rel=>exact ⟨k+1,by omega,by go_num,BX.out⟩
       case measure=>simp [intOf];omega
      ·have KHS:=Lib.hid (has10_any Aa Ts.length ca Ts ⟨5,xa,xb⟩ wr (RA.out wr (bel_in Bab.out HB.out)))
       rw [decide_eq_true (ME.out (.inr rfl))] at KHS
       clear ME
       go_wp2_with fail
       refine KHS.out.mono ?_
       rintro e wc ⟨rfl,hb⟩
       have BX:=Lib.hid (bel_in HB.out hb)
       clear hb KHS f0 f1 f2
       go_wp2
       go_roundw
       case rel=>exact ⟨k+1,by omega,by go_num,BX.out⟩
       case measure=>simp [intOf];omega
     have t4:(xk==4)=false:=by rw [beq_eq_false_iff_ne];exact fun e=>hno (.inl e)
     have t5:(xk==5)=false:=by rw [beq_eq_false_iff_ne];exact fun e=>hno (.inr e)
     clear hno ME
     go_wp2
     go_roundw
     case rel=>exact ⟨k+1,by omega,by go_num,HB.out⟩
     case measure=>simp [intOf];omega
    ·obtain rfl:k=Tt.length:=by omega
     have FIN:=Lib.hid (bel_in Bb.out HB.out)
     go_wp2
     go_ret
     exact ⟨rfl,FIN.out⟩
end Go.Proofs.YthchfkhpmgkghaaGreatDoor
