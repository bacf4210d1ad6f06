/- What the laws rest on: N10u. -/
import Derived.Test.YthchfkhpmgkghaaGreatDoorN10oZA
import Derived.Test.YthchfkhpmgkghaaGreatDoorQAOZA
import Derived.Test.YthchfkhpmgkghaaGreatDoorQCFZA
import Derived.Test.YthchfkhpmgkghaaGreatDoorQCGZA
import Derived.Test.YthchfkhpmgkghaaGreatDoorQCHZA
set_option maxRecDepth 100000
set_option linter.unusedVariables false
set_option linter.unusedSimpArgs false
namespace Go.Proofs.YthchfkhpmgkghaaGreatDoor
open Go.RowKit
theorem clB_ins {U:List Ent} {s:List Int} (hs:SetP U.length s) (h:clB U s=true):insS U s=[]:=by rw [clB_set hs] at h;exact List.isEmpty_iff.1 h
set_option maxHeartbeats 32000000 in
theorem drops10 (A:Option Addr) (n0 c:Nat) (L:List Ent) (A':Option Addr) (n1 c':Nat) (m:List Hr) (Ap1:Option Addr) (np1 cp1:Nat) (p:List Int) (Aq1:Option Addr) (nq1 cq1:Nat) (q:List Int) (tw:Int) (w:World) (h:rdEnts w (lt_ w.heap.size) L [.slice A n0 c]) (h':rdHrs w (lt_ w.heap.size) m [.slice A' n1 c']) (hp:rdInts w (lt_ w.heap.size) p [.slice Ap1 np1 cp1]) (hq:rdInts w (lt_ w.heap.size) q [.slice Aq1 nq1 cq1]) (htw:(Lit.int .i64 tw).wf=true) (E:EnvR w) :
  Calls Tryz.prog 8 #[.slice A n0 c,.slice A' n1 c',.slice Ap1 np1 cp1,.slice Aq1 nq1 cq1,.int .i64 tw] w fun e w'=>e=.returned (.bool true)∧Below w.heap.size w w':=by
 obtain ⟨rfl,hnc,hcm,-⟩:=rdEnts_at h
 obtain ⟨rfl,hnc',hcm',-⟩:=rdHrs_at h'
 have hcx:c≤9223372036854775807:=hcm
 have hcy:c'≤9223372036854775807:=hcm'
 have HE:=Lib.hid E
 have H:=Lib.hid (fun (W:World) (hb:Below w.heap.size w W)=>(rdEnts_good.up (rdEnts_good.below h hb) hb.size:rdEnts W (lt_ W.heap.size) L [.slice A L.length c]))
 have H':=Lib.hid (fun (W:World) (hb:Below w.heap.size w W)=>(rdHrs_good.up (rdHrs_good.below h' hb) hb.size:rdHrs W (lt_ W.heap.size) m [.slice A' m.length c']))
 obtain ⟨rfl,hpc,hpm,-⟩:=rdInts_at hp
 have hpx:cp1≤9223372036854775807:=hpm
 have Hp:=Lib.hid (fun (W:World) (hb:Below w.heap.size w W)=>(rdInts_good.up (rdInts_good.below hp hb) hb.size:rdInts W (lt_ W.heap.size) p [.slice Ap1 p.length cp1]))
 obtain ⟨rfl,hqc,hqm,-⟩:=rdInts_at hq
 have hqx:cq1≤9223372036854775807:=hqm
 have Hq:=Lib.hid (fun (W:World) (hb:Below w.heap.size w W)=>(rdInts_good.up (rdInts_good.below hq hb) hb.size:rdInts W (lt_ W.heap.size) q [.slice Aq1 q.length cq1]))
 clear h h' hcm hcm' E hp hpm hq hqm
 have HT:=Lib.hid (show -9223372036854775808≤tw∧tw≤9223372036854775807 by
  unfold Lit.wf at htw
  rw [Bool.and_eq_true,decide_eq_true_eq,decide_eq_true_eq] at htw
  exact ⟨htw.1,htw.2⟩)
 clear htw
 go_enter Tryz.func8,Tryz.ntmps8
 go_wp2_with fail
 refine (shown10_any w (HE.out.below (Below.refl _ _))).mono ?_
 rintro e w1 ⟨rfl,hb⟩
 have Q1:=Lib.hid hb
 have B2:=Lib.hid (bel_in (Below.refl _ _) hb)
 clear hb
 go_wp2_with fail
 refine (small10_any A L.length c L A' m.length c' m w1 (H.out w1 B2.out) (H'.out w1 B2.out)).mono ?_
 rintro e w3 ⟨⟨ok,rfl,hfw⟩,hb⟩
 have Q3:=Lib.hid (bel_in Q1.out hb)
 have B4:=Lib.hid (bel_in B2.out hb)
 clear hb Q1
 cases ok
 ·go_wp2
  go_ret
  exact ⟨rfl,B4.out⟩
 have FW:=Lib.hid (hfw rfl)
 clear hfw
 by_cases hpn:(60:Int) < (p.length:Int)
 ·have hpn':60 < p.length:=by omega
  go_wp2
  go_ret
  exact ⟨rfl,B4.out⟩
 have hpn':¬60 < p.length:=by omega
 by_cases hqn:(60:Int) < (q.length:Int)
 ·have hqn':60 < q.length:=by omega
  go_wp2
  go_ret
  exact ⟨rfl,B4.out⟩
 have hqn':¬60 < q.length:=by omega
 have KN:=Lib.hid (new9_any A L.length c L A' m.length c' m w3 (H.out w3 B4.out) (H'.out w3 B4.out) (fun x hx=>(FW.out.1.2 x hx).sz) (fun y hy=>(FW.out.2.2 y hy).sz) (HE.out.below B4.out))
 go_wp2_with fail
 refine KN.out.mono ?_
 rintro e w4 ⟨hnr,hb⟩
 have Q4:=Lib.hid (bel_in Q3.out hb)
 have B5:=Lib.hid (bel_in B4.out hb)
 clear hb KN
 by_cases hboth:L.all rgtE=true∧rightH m=true
 rotate_left
 ·obtain rfl:=hnr.1 hboth
  clear hboth hnr
  go_wp2
  go_ret
  exact ⟨rfl,B5.out⟩
 by_cases hmany:64 < (entU L (m.map fun y=>y.e)).length
 ·obtain rfl:=hnr.2.1 hboth hmany
  clear hboth hnr hmany
  go_wp2
  go_ret
  exact ⟨rfl,B5.out⟩
 obtain ⟨b,rfl,hup⟩:=hnr.2.2 hboth hmany
 have UFF:=Lib.hid (uf_of hboth FW.out hmany)
 generalize entU L (m.map fun y=>y.e)=U at *
 have HU:=Lib.hid (fun (W:World) (hb:Below w4.heap.size w4 W)=>(UFF.out.uq hup).below hb)
 have HEU:=Lib.hid (fun (W:World) (hb:Below w4.heap.size w4 W)=>HE.out.below (bel_in B5.out hb))
 clear hnr hboth hmany hup
 go_wp2_with fail
 refine (len9_any b U m w4 (HU.out w4 (Below.refl _ _)).up).mono ?_
 rintro e w6x ⟨rfl,rfl⟩
 go_wp2_with fail
 refine (set10_any Ap1 p.length cp1 p U.length w4 (Hp.out w4 B5.out) (by have:=UFF.out.len;omega)).mono ?_
 rintro e w6 ⟨⟨As,cs,rfl,hrs⟩,hb⟩
 have C6:=Lib.hid (bel_in (Below.refl _ _) hb)
 have D6:=Lib.hid hb
 have R6:=Lib.hid (fun (W:World) (hx:Below w6.heap.size w6 W)=>(rdInts_good.up (rdInts_good.below hrs hx) hx.size:rdInts W (lt_ W.heap.size) (setL p U.length) [.slice As (setL p U.length).length cs]))
 have SP6:=Lib.hid (setL_set p U.length)
 have SL6:=Lib.hid (Nat.le_trans (setL_len10 p U.length) UFF.out.len)
 generalize setL p U.length=s at *
 clear hb hrs
 go_wp2_with fail
 refine (len9_any b U m w6 (HU.out w6 C6.out).up).mono ?_
 rintro e w7x ⟨rfl,rfl⟩
 go_wp2_with fail
 refine (set10_any Aq1 q.length cq1 q U.length w6 (Hq.out w6 (bel_in B5.out C6.out)) (by have:=UFF.out.len;omega)).mono ?_
 rintro e w7 ⟨⟨At,ct,rfl,hrs⟩,hb⟩
 have C7:=Lib.hid (bel_in C6.out hb)
 have D7:=Lib.hid hb
 have R7:=Lib.hid (fun (W:World) (hx:Below w7.heap.size w7 W)=>(rdInts_good.up (rdInts_good.below hrs hx) hx.size:rdInts W (lt_ W.heap.size) (setL q U.length) [.slice At (setL q U.length).length ct]))
 have SP7:=Lib.hid (setL_set q U.length)
 have SL7:=Lib.hid (Nat.le_trans (setL_len10 q U.length) UFF.out.len)
 generalize setL q U.length=t at *
 clear hb hrs
 have RS:=Lib.hid (fun (W:World) (hx:Below w7.heap.size w7 W)=>R6.out W (bel_in D7.out hx))
 have KCs:=Lib.hid (fun (W:World) (hx:Below w7.heap.size w7 W)=>vclosed_any b U m As s.length cs s W (HU.out W (bel_in C7.out hx)) (RS.out W hx) (HEU.out W (bel_in C7.out hx)) (Nat.le_trans (ins_bound UFF.out.dep (by have:=SL6.out;omega)) (by decide)))
 have KCt:=Lib.hid (fun (W:World) (hx:Below w7.heap.size w7 W)=>vclosed_any b U m At t.length ct t W (HU.out W (bel_in C7.out hx)) (R7.out W hx) (HEU.out W (bel_in C7.out hx)) (Nat.le_trans (ins_bound UFF.out.dep (by have:=SL7.out;omega)) (by decide)))
 have KDR:=Lib.hid (fun (h:clB U s=true) (W:World) (hx:Below w7.heap.size w7 W)=>drops10_any b U m As s.length cs s tw W (HU.out W (bel_in C7.out hx)).up UFF.out (RS.out W hx) SP6.out SL6.out (clB_ins SP6.out h) HT.out.1 HT.out.2 (HEU.out W (bel_in C7.out hx)))
 go_wp2_with fail
 refine (KCs.out w7 (Below.refl _ _)).mono ?_
 rintro e w8 ⟨rfl,hb⟩
 have D8:=Lib.hid hb
 clear hb
 cases hcs:clB U s
 ·have KC:=Lib.hid (KCs.out w8 D8.out)
  rw [hcs] at KC
  clear hcs KCs KCt KDR
  go_wp2_with fail
  refine KC.out.mono ?_
  rintro e w9 ⟨rfl,hb⟩
  have FIN:=Lib.hid (bel_in B5.out (bel_in C7.out (bel_in D8.out hb)))
  clear hb KC
  go_wp2
  go_ret
  exact ⟨rfl,FIN.out⟩
 have CS:=Lib.hid hcs
 have KC:=Lib.hid (fun (W:World) (hx:Below w7.heap.size w7 W)=>KCs.out W hx)
 rw [hcs] at KC
 clear hcs KCs
 go_wp2_with fail
 refine (KDR.out CS.out w8 D8.out).mono ?_
 rintro e w9 ⟨rfl,hb⟩
 have D9:=Lib.hid (bel_in D8.out hb)
 clear hb KDR
 go_wp2_with fail
 refine (KC.out w9 D9.out).mono ?_
 rintro e w10 ⟨rfl,hb⟩
 have D10:=Lib.hid (bel_in D9.out hb)
 clear hb KC
 go_wp2_with fail
 refine (KCt.out w10 D10.out).mono ?_
 rintro e w11 ⟨rfl,hb⟩
 have D11:=Lib.hid (bel_in D10.out hb)
 have C11:=Lib.hid (bel_in C7.out D11.out)
 clear hb KCt
 cases hct:clB U t
 ·have FIN:=Lib.hid (bel_in B5.out C11.out)
  clear hct
  go_wp2
  go_ret
  exact ⟨rfl,FIN.out⟩
 have CT:=Lib.hid hct
 clear hct
 obtain ⟨fi,hi0,hz0,hz1,hz2⟩:=info_parts int10_info
 have hG0:=Grow.empty (E:=rdInt) (sz:=1) (fun _=>True) (W:=w11.alloc (.cells #[] 3)) (base:=w11.heap.size) (heap_alloc_new w11 _) (Nat.le_refl _)
 have bA:Below w11.heap.size w11 (w11.alloc (.cells #[] 3)):=(Below.refl _ w11).alloc (Nat.le_refl _) _
 have BA:=Lib.hid bA
 have hX:=rdInts_good.below (RS.out w11 D11.out) bA
 have hS:∀b,lt_ w11.heap.size b→True∧b < (w11.alloc (.cells #[] 3)).heap.size∧(Value.slice (some ⟨w11.heap.size,0,none⟩) 0 0).ownBlock≠some b:=fun b hb=>⟨trivial,by rw [World.size_alloc];unfold lt_ at hb;omega,fun hh=>by simp only [Value.ownBlock,Option.some.injEq] at hh;unfold lt_ at hb;omega⟩
 have hn1:([]:List Int).length+s.length≤maxLen:=by have:=SL6.out;simp only [List.length_nil];unfold maxLen;omega
 have hn2:(([]:List Int).length+s.length)*8≤140737488355328:=by have:=SL6.out;simp only [List.length_nil];omega
 have hbs:w11.heap.size≤(w11.alloc (.cells #[] 3)).heap.size:=by rw [World.size_alloc];omega
 clear bA
 go_wp2_with (at_builtin;refine wpList_growN _ rfl _ _ 27 27 rfl rdInt_good (by decide) (fun _=>True) w11.heap.size 3 3 fi (.int .i64 0) 8 Tryz.underlying27 Tryz.underlying27 hi0 hz0 hz1 hz2 rfl _ _ rfl hG0 s _ As s.length cs rfl hX hS hn1 hn2 hbs ?_)
 intro v12 w12 hG7 hg7
 have B12:=Lib.hid (grow_below hG0 hg7 BA.out (Nat.le_refl _) hbs)
 have hG7:Grow rdInt 1 (fun _=>True) w12 w11.heap.size 3 v12 s:=hG7
 clear hg7 hG0 hX hS hn1 hn2 hbs
 have hn1:s.length+t.length≤maxLen:=by have:=SL6.out;have:=SL7.out;unfold maxLen;omega
 have hn2:(s.length+t.length)*8≤140737488355328:=by have:=SL6.out;have:=SL7.out;omega
 have hbs:w11.heap.size≤w12.heap.size:=B12.out.size
 have hX:=rdInts_good.below (R7.out w11 D11.out) B12.out
 have hS:∀b,lt_ w11.heap.size b→True∧b < w12.heap.size∧v12.ownBlock≠some b:=fun b hb=>⟨trivial,Nat.lt_of_lt_of_le hb hbs,fun hh=>by have:=(hG7.lt b hh).1;unfold lt_ at hb;omega⟩
 obtain ⟨A7,c7,hv7,-,-⟩:=hG7.own
 obtain ⟨n7,hn7⟩:∃n,n=s.length:=⟨_,rfl⟩
 rw [←hn7] at hv7
 subst hv7
 clear hn7
 go_wp2_with (at_builtin;refine wpList_growN w12 rfl _ _ 27 27 rfl rdInt_good (by decide) (fun _=>True) w11.heap.size 3 3 fi (.int .i64 0) 8 Tryz.underlying27 Tryz.underlying27 hi0 hz0 hz1 hz2 rfl (.slice A7 n7 c7) s rfl hG7 t _ At t.length ct rfl hX hS hn1 hn2 hbs ?_)
 intro v13 w13 hG8 hg8
 have B13:=Lib.hid (grow_below hG7 hg8 B12.out (Nat.le_refl _) hbs)
 have C13:=Lib.hid (bel_in C11.out B13.out)
 obtain ⟨A8,c8,hv8,-,-⟩:=hG8.own
 have R8:=Lib.hid (show rdInts w13 (lt_ w13.heap.size) (s++t) [v13] from hG8.read rdInt_good)
 obtain ⟨n8,hn8⟩:∃n,n=(s++t).length:=⟨_,rfl⟩
 rw [←hn8] at hv8
 subst hv8
 clear hG7 hg8 hG8 hn1 hn2 hbs hn8 hX hS
 go_wp2_with fail
 refine (len9_any b U m w13 (HU.out w13 C13.out).up).mono ?_
 rintro e w14 ⟨rfl,rfl⟩
 go_wp2_with fail
 refine (set10_any A8 n8 c8 (s++t) U.length w13 R8.out (by have:=UFF.out.len;omega)).mono ?_
 rintro e w14 ⟨⟨Ax,cx,rfl,hrx⟩,hb⟩
 have C14:=Lib.hid (bel_in C13.out hb)
 have SPX:=Lib.hid (setL_set (s++t) U.length)
 have SLX:=Lib.hid (Nat.le_trans (setL_len10 (s++t) U.length) UFF.out.len)
 have NO:=Lib.hid (no_open (held:=heldU U m) (ri:=[]) (rm:=[]) (opnS_join (r:=setL (s++t) U.length) SP6.out.2 SP7.out.2 (clB_ins SP6.out CS.out) (clB_ins SP7.out CT.out) (fun p hp=>List.mem_append.1 (setL_mem.1 hp).1) (fun p hp=>setL_mem.2 ⟨List.mem_append.2 hp,hp.elim (fun h=>SP6.out.1 p h) fun h=>SP7.out.1 p h⟩)))
 generalize setL (s++t) U.length=x at hrx SPX SLX NO ⊢
 have KF:=Lib.hid (vfaults_any b U m none 0 [] none 0 [] false Ax x.length cx x w14 (HU.out w14 C14.out) hrx (rdRow_nil _ _) (rdRow_nil _ _) (fun a ha=>absurd ha List.not_mem_nil) (fun a ha=>absurd ha List.not_mem_nil) (HEU.out w14 C14.out) (by have:=SLX.out;omega) (flt_bound UFF.out.dep (by have:=SLX.out;omega) UFF.out.len (by decide) (by decide)))
 rw [show rqB [] []=true from rfl,setB_true.2 SPX.out] at KF
 generalize fltS U (heldU U m) [] [] x=T at KF NO
 clear hb hrx R8
 go_wp2_with fail
 refine KF.out.mono ?_
 rintro e wa ⟨hf,hb⟩
 obtain ⟨Aa,ca,rfl,hra⟩:=hf.2 rfl
 have RA:=Lib.hid (fun (W:World) (hx:Below wa.heap.size wa W)=>(rdFts_at (rdFts_good.up (rdFts_good.below (rdFts_good.more hra fun k hk=>hk.2:rdFts wa (lt_ wa.heap.size) T [.slice Aa T.length ca]) hx) hx.size)).2.2.2)
 obtain ⟨-,hac,ham,-⟩:=rdFts_at hra
 have ham':ca≤9223372036854775807:=ham
 have FIN:=Lib.hid (bel_in B5.out (bel_in C14.out hb))
 clear hf hra ham hb KF
 go_wp2_with fail
 go_loopw [20] (fun ix wr=>∃k:Nat,k≤T.length∧ix=.int .i64 k∧Below wa.heap.size wa wr) (fun ix _=>T.length - (intOf ix).toNat)
 case atStart=>exact ⟨0,Nat.zero_le _,rfl,Below.refl _ _⟩
 case round=>
  obtain ⟨k,hk,rfl,hbel⟩:=hrel
  have HB:=Lib.hid hbel
  clear hbel
  by_cases hlt:k < T.length
  ·obtain ⟨ad,rfl,-,f0,f1,f2⟩:=RA.out wr HB.out k hlt
   have i0:(0:Int)≤(k:Int):=by omega
   have i1:(k:Int) < (T.length:Int):=by omega
   have k1:IntKind.i64.wrap ((k:Int)+1)=(k:Int)+1:=IntWalk.i64_in _ (by omega)
   have NK:=NO.out _ (List.getElem_mem hlt)
   generalize T[k].k=xk at f0 NK
   have t3:(xk==3)=false:=by rw [beq_eq_false_iff_ne];exact NK
   clear NK f1 f2
   go_wp2
   go_roundw
   case rel=>exact ⟨k+1,by omega,by go_num,HB.out⟩
   case measure=>simp [intOf];omega
  ·obtain rfl:k=T.length:=by omega
   have FX:=Lib.hid (bel_in FIN.out HB.out)
   go_wp2
   go_ret
   exact ⟨rfl,FX.out⟩
end Go.Proofs.YthchfkhpmgkghaaGreatDoor
