/- What the laws rest on: N9r. -/
import Derived.Test.YtoopkofekekmoaaGreatDoorQABZA
import Derived.Test.YtoopkofekekmoaaGreatDoorQATZA
import Derived.Test.YtoopkofekekmoaaGreatDoorQAVZA
set_option maxRecDepth 100000
set_option linter.unusedVariables false
set_option linter.unusedSimpArgs false
namespace Go.Proofs.YtoopkofekekmoaaGreatDoor
open Go.RowKit
theorem ent_all9 {P:Ent→Prop} {L he:List Ent} (h:∀x ∈ L,P x) (h':∀x ∈ he,P x) (ho:Once9 he):∀x ∈ entU L he,P x:=by
 intro x hx
 have key:∀(ix M:List Ent),(∀x ∈ M,P x)→(∀x ∈ ix,P x)→∀x ∈ ix.foldl addU M,P x:=by
  intro ix
  induction ix with
  | nil=>intro M h1 _ x hx;exact h1 x hx
  | cons a r ih=>
   intro M h1 h2 x hx
   refine ih (addU M a) (fun y hy=>?_) (fun y hy=>h2 y (List.mem_cons_of_mem _ hy)) x hx
   unfold addU at hy
   split at hy
   ·exact h1 y hy
   ·rcases put9_mem.1 hy with rfl|hy
    ·exact h2 y (List.mem_cons_self ..)
    ·exact h1 y hy
 refine key L (he.foldl putU []) (fun y hy=>?_) h x hx
 rcases ((fold_put he [] List.Pairwise.nil ho (fun x hx=>by cases hx)).2 y).1 hy with q|q
 ·cases q
 ·exact h' y q
theorem sub_at {S T:List Int} (hT:T.Pairwise (· < ·)) (hs:∀k ∈ S,k ∈ T) {i t:Nat} (hi:i < S.length) (ht:t≤T.length) (hb:∀q (hq:q < T.length),q < t→T[q] < S[i]) (hn:∀h:t < T.length,¬T[t] < S[i]):∃h:t < T.length,T[t]=S[i]:=by
 obtain ⟨p,hp,e⟩:=List.getElem_of_mem (hs _ (List.getElem_mem hi))
 have h1:¬p < t:=fun h=>by have:=hb p hp h;omega
 have h2:t < T.length:=by omega
 refine ⟨h2,?_⟩
 have h3:=hn h2
 by_cases e2:p=t
 ·subst e2;exact e
 ·have:=List.pairwise_iff_getElem.1 hT t p h2 hp (by omega);omega
theorem sub_nx {S T:List Int} (hS:S.Pairwise (· < ·)) {i t:Nat} (hi:i < S.length) (hb:∀q (hq:q < T.length),q < t→T[q] < S[i]):∀(h:i+1 < S.length) q (hq:q < T.length),q < t→T[q] < S[i+1]:=by
 intro h q hq hqt
 have h1:=hb q hq hqt
 have h2:=List.pairwise_iff_getElem.1 hS i (i+1) hi h (by omega)
 omega
set_option maxHeartbeats 32000000 in
theorem gives9 (A:Option Addr) (n0 c:Nat) (L:List Ent) (A':Option Addr) (n1 c':Nat) (m:List Hr) (an:ByteArray) (ae:Int) (av:ByteArray) (w:World) (h:rdEnts w (lt_ w.heap.size) L [.slice A n0 c]) (h':rdHrs w (lt_ w.heap.size) m [.slice A' n1 c']) (E:EnvR w) :
  Calls Tryz.prog 7 #[.slice A n0 c,.slice A' n1 c',.agg #[.string an,.int .i64 ae,.string av]] w fun e w'=>e=.returned (.bool true)∧Below w.heap.size w w':=by
 obtain ⟨rfl,hnc,hcm,-⟩:=rdEnts_at h
 obtain ⟨rfl,hnc',hcm',-⟩:=rdHrs_at h'
 have hcx:c≤9223372036854775807:=hcm
 have hcy:c'≤9223372036854775807:=hcm'
 have HE:=Lib.hid E
 have H:=Lib.hid (fun (W:World) (hb:Below w.heap.size w W)=>(rdEnts_good.up (rdEnts_good.below h hb) hb.size:rdEnts W (lt_ W.heap.size) L [.slice A L.length c]))
 have H':=Lib.hid (fun (W:World) (hb:Below w.heap.size w W)=>(rdHrs_good.up (rdHrs_good.below h' hb) hb.size:rdHrs W (lt_ W.heap.size) m [.slice A' m.length c']))
 clear h h' hcm hcm' E
 obtain ⟨W0,hW0⟩:∃W,W=w.alloc (.cells #[.string an,.int .i64 ae,.string av] 59):=⟨_,rfl⟩
 have B0:=Lib.hid (show Below w.heap.size w W0 by rw [hW0];exact (Below.refl _ _).alloc (Nat.le_refl _) _)
 have KB:=Lib.hid (fun (W:World) (hb:Below W0.heap.size W0 W)=>(show W.cell? ⟨w.heap.size,0,none⟩=some (.string an)∧W.cell? ⟨w.heap.size,1,none⟩=some (.int .i64 ae)∧W.cell? ⟨w.heap.size,2,none⟩=some (.string av) from by
  refine ⟨?_,?_,?_⟩<;>exact keep6 hb (by rw [hW0];simp [go_sem])))
 go_enter Tryz.func7,Tryz.ntmps7
 go_wp2_with fail
 rw [←hW0]
 clear hW0
 refine (shown9_any W0 (HE.out.below B0.out)).mono ?_
 rintro e w1 ⟨rfl,hb⟩
 have V1:=Lib.hid hb
 have B1:=Lib.hid (B0.out.trans (hb.mono B0.out.size))
 clear hb
 go_wp2_with fail
 refine (small9_any A L.length c L A' m.length c' m w1 (H.out w1 B1.out) (H'.out w1 B1.out)).mono ?_
 rintro e w2 ⟨⟨ok,rfl,hfw⟩,hb⟩
 have V2:=Lib.hid (bel_in V1.out hb)
 have B2:=Lib.hid (bel_in B1.out hb)
 clear hb
 obtain ⟨z0,z1,z2⟩:=KB.out _ V2.out
 obtain ⟨wl,hwl⟩:∃W,W=w2.alloc (.cells #[.string an,.int .i64 ae,.string av] 59):=⟨_,rfl⟩
 have hbl:Below w2.heap.size w2 wl:=by rw [hwl];exact (Below.refl _ _).alloc (Nat.le_refl _) _
 have VL:=Lib.hid (bel_in V2.out hbl)
 have BL:=Lib.hid (bel_in B2.out hbl)
 have KL:=Lib.hid (light9_any (some ⟨w2.heap.size,0,none⟩) 1 1 [⟨an,ae,av⟩] wl (one_atm (by rw [hwl];exact heap_alloc_new w2 _) (by unfold lt_;rw [hwl,World.size_alloc];omega)))
 clear hbl
 go_wp2_with fail
 rw [←hwl]
 refine KL.out.mono ?_
 clear hwl
 rintro e w' ⟨⟨b3,rfl,hlt3⟩,rfl⟩
 clear z0 z1 z2 KL
 cases ok
 ·go_wp2
  go_ret
  exact ⟨rfl,BL.out⟩
 cases b3
 ·go_wp2
  go_ret
  exact ⟨rfl,BL.out⟩
 have FW:=Lib.hid (hfw rfl)
 have han:an.size≤1000000:=by have:=((hlt3 rfl).2 _ (List.mem_cons_self ..)).1;simp only at this;omega
 have HAN:=Lib.hid han
 clear hfw hlt3 han
 have KN:=Lib.hid (new9_any A L.length c L A' m.length c' m wl (H.out wl BL.out) (H'.out wl BL.out) (fun x hx=>(FW.out.1.2 x hx).sz) (fun y hy=>(FW.out.2.2 y hy).sz) (HE.out.below BL.out))
 go_wp2_with fail
 refine KN.out.mono ?_
 rintro e w3 ⟨hnr,hb⟩
 have B3:=Lib.hid (bel_in BL.out hb)
 have V3:=Lib.hid (bel_in VL.out hb)
 clear hb KN
 by_cases hboth:L.all rgtE=true∧rightH m=true
 rotate_left
 ·obtain rfl:=hnr.1 hboth
  clear hboth hnr
  go_wp2
  go_ret
  exact ⟨rfl,B3.out⟩
 by_cases hmany:64 < (entU L (m.map fun y=>y.e)).length
 ·obtain rfl:=hnr.2.1 hboth hmany
  clear hboth hnr hmany
  go_wp2
  go_ret
  exact ⟨rfl,B3.out⟩
 obtain ⟨b,rfl,hup⟩:=hnr.2.2 hboth hmany
 have HRP:=Lib.hid ((rightH_iff m).1 hboth.2)
 have SR:=Lib.hid (entU_srt (ix:=L) (once_right HRP.out.2.1))
 have HLU:=Lib.hid (Nat.le_of_not_lt hmany)
 have HU:=Lib.hid (fun (W:World) (hb:Below w3.heap.size w3 W)=>hup.below hb)
 have BOTH:=Lib.hid hboth
 clear hnr hboth hmany hup
 have AL:=Lib.hid (ent_all9 (P:=fun x=>rgtE x=true∧x.n.size≤100) (L:=L) (fun x hx=>⟨List.all_eq_true.1 BOTH.out.1 x hx,(FW.out.1.2 x hx).2.2.1⟩) (fun x hx=>by
  obtain ⟨y,hy,rfl⟩:=List.mem_map.1 hx
  exact ⟨HRP.out.1 y hy,(FW.out.2.2 y hy).2.2.1⟩) (once_right HRP.out.2.1))
 clear FW HRP BOTH H H' SR
 generalize entU L (m.map fun y=>y.e)=U at *
 have HGL:=Lib.hid (fun n=>show (gfU n U 0).length≤200000 from by
  have:=gfU_len (n:=n) (L:=U) (i:=0) (m:=8) (fun x hx=>(rgt_v (AL.out x hx).1).2)
  have:=HLU.out
  omega)
 have OWN:=Lib.hid (fun k (hk:k < U.length)=>(show ((k:Nat):Int) ∈ ixU (gvA ⟨U[k].n,3,U[k].v⟩) U 0 from ixU_mem.2 ⟨k,hk,by simp,gvA_own (by
  have h:=(rgtE_parts (AL.out _ (List.getElem_mem hk)).1).2.1
  unfold prB at h
  rw [Bool.and_eq_true,decide_eq_true_iff] at h
  exact h.1)⟩))
 have SN:=Lib.hid (fun k (hk:k < U.length)=>show U[k].n.size≤1000000 from by have:=(AL.out _ (List.getElem_mem hk)).2;omega)
 have KG:=Lib.hid (fun (a:Atm) (ha:a.n.size≤1000000) (W:World) (hb:Below w3.heap.size w3 W)=>givers9_any b U m a W (HU.out W hb) (HGL.out a.n) ha (HE.out.below (bel_in B3.out hb)))
 have PS:=Lib.hid (ixU_ris (p:=gvA ⟨an,ae,av⟩) U 0).1
 have PT:=Lib.hid (ixU_ris (p:=gvA ⟨an,0,⟨#[]⟩⟩) U 0).1
 have SUB:=Lib.hid (ixU_sub (p:=gvA ⟨an,ae,av⟩) (q:=gvA ⟨an,0,⟨#[]⟩⟩) (L:=U) (i:=0) (fun x _ h=>gvA_less _ h))
 have LS:=Lib.hid (Nat.le_trans (ixU_len (p:=gvA ⟨an,ae,av⟩) (L:=U) (i:=0)) HLU.out)
 have LT:=Lib.hid (Nat.le_trans (ixU_len (p:=gvA ⟨an,0,⟨#[]⟩⟩) (L:=U) (i:=0)) HLU.out)
 have K1:=Lib.hid (KG.out ⟨an,ae,av⟩ HAN.out w3 (Below.refl _ _))
 have K2:=Lib.hid (fun (W:World) (hb:Below w3.heap.size w3 W)=>KG.out ⟨an,0,⟨#[]⟩⟩ HAN.out W hb)
 generalize ixU (gvA ⟨an,ae,av⟩) U 0=S at *
 generalize ixU (gvA ⟨an,0,⟨#[]⟩⟩) U 0=T at *
 obtain ⟨z0,z1,z2⟩:=KB.out _ V3.out
 go_wp2_with fail
 refine K1.out.mono ?_
 rintro e w4 ⟨⟨A1,c1,rfl,hr1⟩,hb⟩
 have V4:=Lib.hid (bel_in V3.out hb)
 have B34:=Lib.hid hb
 have RS4:=Lib.hid hr1
 clear hb hr1 z0 z1 z2 K1
 obtain ⟨z0,z1,z2⟩:=KB.out _ V4.out
 go_wp2_with fail
 refine (K2.out w4 B34.out).mono ?_
 rintro e w5 ⟨⟨A2,c2,rfl,hr2⟩,hb⟩
 have B35:=Lib.hid (bel_in B34.out hb)
 have B5:=Lib.hid (bel_in B3.out B35.out)
 have RS:=Lib.hid (fun (W:World) (hb':Below w5.heap.size w5 W)=>(rdInts_good.up (rdInts_good.below RS4.out (bel_in hb hb')) (bel_in hb hb').size:rdInts W (lt_ W.heap.size) S [.slice A1 S.length c1]))
 have RT:=Lib.hid (fun (W:World) (hb':Below w5.heap.size w5 W)=>(rdInts_good.up (rdInts_good.below hr2 hb') hb'.size:rdInts W (lt_ W.heap.size) T [.slice A2 T.length c2]))
 obtain ⟨-,hc1,hm1,-⟩:=rdInts_at RS4.out
 obtain ⟨-,hc2,hm2,-⟩:=rdInts_at hr2
 have hm1':c1≤9223372036854775807:=hm1
 have hm2':c2≤9223372036854775807:=hm2
 clear hb hr2 z0 z1 z2 K2 RS4 B34 V1 V2 VL V3 V4 KB B0 B1 B2 BL hm1 hm2
 go_wp2
 go_loopw [14,15] (fun a i wr=>∃k t:Nat,k≤S.length∧t≤T.length∧i=.int .i64 k∧a=.int .i64 t∧Hid (∀(h:k < S.length) q (hq:q < T.length),q < t→T[q] < S[k])∧Below w5.heap.size w5 wr) (fun _ i _=>S.length - (intOf i).toNat)
 case atStart=>exact ⟨0,0,Nat.zero_le _,Nat.zero_le _,rfl,rfl,Lib.hid (fun _ q _ h=>absurd h (Nat.not_lt_zero _)),Below.refl _ _⟩
 case round=>
  obtain ⟨k,t,hk,ht,rfl,rfl,IV,hbel⟩:=hrel
  have HB:=Lib.hid hbel
  clear hbel
  by_cases hlt:k < S.length
  ·obtain ⟨wo,rfl⟩:∃W,W=wr:=⟨_,rfl⟩
   go_wp2
   go_loopw [14] (fun a wr=>∃t2:Nat,t2≤T.length∧a=.int .i64 t2∧Hid (∀q (hq:q < T.length),q < t2→T[q] < S[k])∧Below w5.heap.size w5 wr) (fun a _=>T.length - (intOf a).toNat)
   case atStart=>exact ⟨t,ht,rfl,Lib.hid (IV.out hlt),HB.out⟩
   case round=>
    obtain ⟨t2,ht2,rfl,IX,hbel⟩:=hrel
    have HI:=Lib.hid hbel
    clear hbel HB IV
    by_cases h2:t2 < T.length
    rotate_left
    ·exfalso
     obtain ⟨h,-⟩:=sub_at PT.out SUB.out hlt ht2 IX.out (fun h=>absurd h h2)
     exact h2 h
    obtain ⟨-,-,-,hatS⟩:=rdInts_at (RS.out wr HI.out)
    obtain ⟨-,-,-,hatT⟩:=rdInts_at (RT.out wr HI.out)
    have HATS:=Lib.hid hatS
    obtain ⟨adt,rfl,-,gt⟩:=hatT t2 h2
    obtain ⟨ads,rfl,-,gs⟩:=hatS k hlt
    have i0:(0:Int)≤(k:Int):=by omega
    have i1:(k:Int) < (S.length:Int):=by omega
    have j0:(0:Int)≤(t2:Int):=by omega
    have j1:(t2:Int) < (T.length:Int):=by omega
    have hn2:¬(T.length≤t2):=by omega
    clear hatS hatT
    by_cases hq:T[t2] < S[k]
    ·have NX:=Lib.hid (fun q (hq':q < T.length) (h:q < t2+1)=>show T[q] < S[k] from by
      by_cases e:q=t2
      ·subst e;exact hq
      ·exact IX.out q hq' (by omega))
     generalize T[t2]=x at gt hq
     generalize S[k]=y at *
     clear HATS
     go_wp2_with fail
     go_quiet (fail)
     have AST:=Lib.hid (belD HI.out nq)
     clear gt gs hq
     go_wp2
     go_roundw
     case rel=>exact ⟨t2+1,by omega,by go_num,NX,belD HI.out _⟩
     case measure=>simp [intOf];omega
    ·obtain ⟨hh2,e⟩:=sub_at PT.out SUB.out hlt ht2 IX.out (fun _=>hq)
     have NX:=Lib.hid (sub_nx PS.out hlt IX.out)
     rw [e] at gt
     clear hq e hh2
     by_cases hk0:k=0
     ·have hz:¬((0:Int) < (k:Int)):=by omega
      have hz':¬(0 < k):=by omega
      generalize S[k]=y at gt gs
      clear HATS hk0
      go_wp2_with fail
      go_quiet (fail)
      go_wp2_with fail
      go_quiet (fail)
      go_wp2
      go_roundw
      case rel=>exact ⟨k+1,t2,by omega,ht2,by go_num,rfl,NX,belD HI.out _⟩
      case measure=>simp [intOf];omega
     rcases k with _|k
     ·exact absurd rfl hk0
     ·obtain ⟨ad',had',-,gp⟩:=HATS.out k (by omega)
      obtain rfl:ads=ad':=Option.some.inj had'
      have hyx:=List.pairwise_iff_getElem.1 PS.out k (k+1) (by omega) hlt (by omega)
      have gs':wr.cell? ⟨ads.block,ads.off+(k+1),none⟩=some (.int .i64 S[k+1]):=gs
      have i0':(0:Int)≤(k:Int)+1:=by omega
      have i1':(k:Int)+1 < (S.length:Int):=by omega
      have it':((k:Int)+1).toNat=k+1:=by omega
      have k0:(0:Int)≤(k:Int):=by omega
      have k1:(k:Int) < (S.length:Int):=by omega
      have hw:IntKind.i64.wrap (k:Int)=(k:Int):=IntWalk.i64_in _ (by omega)
      generalize S[k+1]=y at gt gs gs' hyx
      generalize S[k]=x at gp hyx
      have hyn:¬(y≤x):=by omega
      clear HATS had'
      go_wp2_with fail
      go_quiet (fail)
      go_wp2_with fail
      go_quiet (fail)
      go_wp2
      go_roundw
      case rel=>exact ⟨k+1+1,t2,by omega,ht2,by go_num,rfl,NX,belD HI.out _⟩
      case measure=>simp [intOf];omega
  ·obtain rfl:k=S.length:=by omega
   have KE:=Lib.hid (entries9_any b U m wr (HU.out wr (bel_in B35.out HB.out)) (by have:=HLU.out;omega))
   have B3r:=Lib.hid (bel_in B35.out HB.out)
   clear IV RS RT PS PT SUB hc1 hc2
   go_wp2_with fail
   refine KE.out.mono ?_
   rintro e w6 ⟨⟨A3,c3,rfl,hr3⟩,hb⟩
   have B36:=Lib.hid (bel_in B3r.out hb)
   have B6:=Lib.hid (bel_in B3.out B36.out)
   have RE:=Lib.hid (fun (W:World) (hb':Below w6.heap.size w6 W)=>(rdEnts_good.up (rdEnts_good.below hr3 hb') hb'.size:rdEnts W (lt_ W.heap.size) U [.slice A3 U.length c3]))
   obtain ⟨-,hc3,hm3,-⟩:=rdEnts_at hr3
   have hm3':c3≤9223372036854775807:=hm3
   clear hb hr3 KE B3r HB B35 B5 hm3
   go_wp2
   go_loopw [17] (fun i wr=>∃k:Nat,k≤U.length∧i=.int .i64 k∧Below w6.heap.size w6 wr) (fun i _=>U.length - (intOf i).toNat)
   case atStart=>exact ⟨0,Nat.zero_le _,rfl,Below.refl _ _⟩
   case round=>
    obtain ⟨k,hk,rfl,hbel⟩:=hrel
    have HB:=Lib.hid hbel
    clear hbel
    by_cases hlt:k < U.length
    ·obtain ⟨-,-,-,hat⟩:=rdEnts_at (RE.out wr HB.out)
     obtain ⟨ade,D1,d1,D2,d2,D3,d3,D4,d4,rfl,-,-,-⟩:=hat k hlt
     have i0:(0:Int)≤(k:Int):=by omega
     have i1:(k:Int) < (U.length:Int):=by omega
     have KS:=Lib.hid (fun (W:World) (hb:Below w6.heap.size w6 W)=>(show W.cell? (ade.add (k*6))=some (.string U[k].n)∧W.cell? ⟨(ade.add (k*6)).block,(ade.add (k*6)).off+1,none⟩=some (.string U[k].v) from by
      obtain ⟨-,-,-,hat⟩:=rdEnts_at (RE.out W hb)
      obtain ⟨ad',D1,d1,D2,d2,D3,d3,D4,d4,e,-,-,y0,y1,-⟩:=hat k hlt
      obtain rfl:ade=ad':=Option.some.inj e
      exact ⟨y0,y1⟩))
     have KO:=Lib.hid (fun (W:World) (hb:Below w6.heap.size w6 W)=>KG.out ⟨U[k].n,3,U[k].v⟩ (SN.out k hlt) W (bel_in B36.out hb))
     have OK:=Lib.hid (OWN.out k hlt)
     have LO:=Lib.hid (Nat.le_trans (ixU_len (p:=gvA ⟨U[k].n,3,U[k].v⟩) (L:=U) (i:=0)) HLU.out)
     generalize hO:ixU (gvA ⟨U[k].n,3,U[k].v⟩) U 0=O at *
     clear hO hat
     generalize U[k].n=nm at *
     generalize U[k].v=vv at *
     go_wp2_with fail
     refine wp_region_noPanic ?_
     refine wp_region_D (fun W=>W.cell? (ade.add (k*6))=some (.string nm)∧W.cell? ⟨(ade.add (k*6)).block,(ade.add (k*6)).off+1,none⟩=some (.string vv)) 13 (by kernel_rfl) (w0:=wr) (Dr.refl _) (fun V hV=>KS.out V (HB.out.trans ((hV.below wr.heap.size).mono HB.out.size))) (fun V hV hHeld=>?_)
     have BV:=Lib.hid (HB.out.trans ((hV.below wr.heap.size).mono HB.out.size))
     clear hV
     refine wpAnyL_take (i:=0) (v:=?_) [12] rfl (by kernel_rfl) (by kernel_rfl) (by kernel_rfl) (fun _ _ _ h=>h) (by kernel_rfl) (by kernel_rfl) (by kernel_rfl) (Or.inl ⟨by rfl,?_⟩) (by assumption) ?_
     rotate_left
     ·intro w hSw
      try dsimp only at hSw
      go_simp
      first|done|with_reducible rfl
     try simp only [Act.put,List.setIfInBounds_toArray,List.set_cons_zero,List.set_cons_succ]
     refine wpAnyL_take (i:=1) (v:=?_) [12,11,5,4,3] rfl (by kernel_rfl) (by kernel_rfl) (by kernel_rfl) (fun _ _ _ h=>h) (by kernel_rfl) (by kernel_rfl) (by kernel_rfl) (Or.inl ⟨by rfl,?_⟩) (by assumption) ?_
     rotate_left
     ·intro w hSw
      try dsimp only at hSw
      go_simp
      first|done|with_reducible rfl
     try simp only [Act.put,List.setIfInBounds_toArray,List.set_cons_zero,List.set_cons_succ]
     refine wpAnyL_take (i:=2) (v:=?_) [12,11,5,4,3] rfl (by kernel_rfl) (by kernel_rfl) (by kernel_rfl) (fun _ _ _ h=>h) (by kernel_rfl) (by kernel_rfl) (by kernel_rfl) (Or.inl ⟨by rfl,?_⟩) (by assumption) ?_
     rotate_left
     ·intro w hSw
      try dsimp only at hSw
      go_simp
      first|done|with_reducible rfl
     try simp only [Act.put,List.setIfInBounds_toArray,List.set_cons_zero,List.set_cons_succ]
     refine wpAnyL_take (i:=3) (v:=?_) [12,11,5,4] rfl (by kernel_rfl) (by kernel_rfl) (by kernel_rfl) (fun _ _ _ h=>h) (by kernel_rfl) (by kernel_rfl) (by kernel_rfl) (Or.inl ⟨by rfl,?_⟩) (by assumption) ?_
     rotate_left
     ·intro w hSw
      try dsimp only at hSw
      go_simp
      first|done|with_reducible rfl
     try simp only [Act.put,List.setIfInBounds_toArray,List.set_cons_zero,List.set_cons_succ]
     refine wpAnyL_take (i:=4) (v:=?_) [12,11,5] rfl (by kernel_rfl) (by kernel_rfl) (by kernel_rfl) (fun _ _ _ h=>h) (by kernel_rfl) (by kernel_rfl) (by kernel_rfl) (Or.inl ⟨by rfl,?_⟩) (by assumption) ?_
     rotate_left
     ·intro w hSw
      try dsimp only at hSw
      go_simp
      first|done|with_reducible rfl
     try simp only [Act.put,List.setIfInBounds_toArray,List.set_cons_zero,List.set_cons_succ]
     refine wpAnyL_take (i:=5) (v:=?_) [12,11] rfl (by kernel_rfl) (by kernel_rfl) (by kernel_rfl) (fun _ _ _ h=>h) (by kernel_rfl) (by kernel_rfl) (by kernel_rfl) (Or.inl ⟨by rfl,?_⟩) (by assumption) ?_
     rotate_left
     ·intro w hSw
      try dsimp only at hSw
      go_simp
      first|done|with_reducible rfl
     try simp only [Act.put,List.setIfInBounds_toArray,List.set_cons_zero,List.set_cons_succ]
     refine wpAnyL_take (i:=6) (v:=?_) [12,11,10,9,8] rfl (by kernel_rfl) (by kernel_rfl) (by kernel_rfl) (fun _ _ _ h=>h) (by kernel_rfl) (by kernel_rfl) (by kernel_rfl) (Or.inl ⟨by rfl,?_⟩) (by assumption) ?_
     rotate_left
     ·intro w hSw
      try dsimp only at hSw
      go_simp
      first|done|with_reducible rfl
     try simp only [Act.put,List.setIfInBounds_toArray,List.set_cons_zero,List.set_cons_succ]
     refine wpAnyL_take (i:=7) (v:=?_) [12,11,10,9,8] rfl (by kernel_rfl) (by kernel_rfl) (by kernel_rfl) (fun _ _ _ h=>h) (by kernel_rfl) (by kernel_rfl) (by kernel_rfl) (Or.inl ⟨by rfl,?_⟩) (by assumption) ?_
     rotate_left
     ·intro w hSw
      try dsimp only at hSw
      go_simp
      first|done|with_reducible rfl
     try simp only [Act.put,List.setIfInBounds_toArray,List.set_cons_zero,List.set_cons_succ]
     refine wpAnyL_take (i:=8) (v:=?_) [12,11,10,9] rfl (by kernel_rfl) (by kernel_rfl) (by kernel_rfl) (fun _ _ _ h=>h) (by kernel_rfl) (by kernel_rfl) (by kernel_rfl) (Or.inl ⟨by rfl,?_⟩) (by assumption) ?_
     rotate_left
     ·intro w hSw
      try dsimp only at hSw
      go_simp
      first|done|with_reducible rfl
     try simp only [Act.put,List.setIfInBounds_toArray,List.set_cons_zero,List.set_cons_succ]
     refine wpAnyL_take (i:=9) (v:=?_) [12,11,10] rfl (by kernel_rfl) (by kernel_rfl) (by kernel_rfl) (fun _ _ _ h=>h) (by kernel_rfl) (by kernel_rfl) (by kernel_rfl) (Or.inl ⟨by rfl,?_⟩) (by assumption) ?_
     rotate_left
     ·intro w hSw
      try dsimp only at hSw
      go_simp
      first|done|with_reducible rfl
     try simp only [Act.put,List.setIfInBounds_toArray,List.set_cons_zero,List.set_cons_succ]
     refine wpAnyL_take (i:=10) (v:=?_) [12,11] rfl (by kernel_rfl) (by kernel_rfl) (by kernel_rfl) (fun _ _ _ h=>h) (by kernel_rfl) (by kernel_rfl) (by kernel_rfl) (Or.inl ⟨by rfl,?_⟩) (by assumption) ?_
     rotate_left
     ·intro w hSw
      try dsimp only at hSw
      go_simp
      first|done|with_reducible rfl
     try simp only [Act.put,List.setIfInBounds_toArray,List.set_cons_zero,List.set_cons_succ]
     refine wpAnyL_take (i:=11) (v:=?_) [12] rfl (by kernel_rfl) (by kernel_rfl) (by kernel_rfl) (fun _ _ _ h=>h) (by kernel_rfl) (by kernel_rfl) (by kernel_rfl) (Or.inl ⟨by rfl,?_⟩) (by assumption) ?_
     rotate_left
     ·intro w hSw
      try dsimp only at hSw
      go_simp
      first|done|with_reducible rfl
     try simp only [Act.put,List.setIfInBounds_toArray,List.set_cons_zero,List.set_cons_succ]
     refine wpAnyL_one (i:=12) (by kernel_rfl) rfl (fun K hK=>?_)
     go_simp
     refine (KO.out V BV.out).mono ?_
     rintro e V2 ⟨⟨Aw,cw,rfl,hrw⟩,hb⟩
     have BV2:=Lib.hid (bel_in BV.out hb)
     have RO:=Lib.hid (fun (W:World) (hb:Below V2.heap.size V2 W)=>(rdInts_good.up (rdInts_good.below hrw hb) hb.size:rdInts W (lt_ W.heap.size) O [.slice Aw O.length cw]))
     clear hb hrw
     go_wp2_with fail
     refine hK.out _ _ (KS.out _ BV2.out) (fun hHeld=>?_)
     clear hK K
     try simp only [Act.put,List.setIfInBounds_toArray,List.set_cons_zero,List.set_cons_succ]
     refine wpAnyL_last (by kernel_rfl) rfl (by kernel_rfl) (fun K hK=>?_)
     go_simp
     refine hK.out _ _ ?_
     clear hK K
     refine NoPanic.normal ?_
     go_wp2
     have AST:=BV2.out
     go_loopw [19,20] (fun f i wr=>∃j:Nat,∃g:Bool,j≤O.length∧i=.int .i64 j∧f=.bool g∧Hid (g=false→∀q (hq:q < O.length),q < j→O[q]≠(k:Int))∧Below V2.heap.size V2 wr) (fun _ i _=>O.length - (intOf i).toNat)
     case atStart=>exact ⟨0,false,Nat.zero_le _,rfl,rfl,Lib.hid (fun _ q _ h=>absurd h (Nat.not_lt_zero _)),Below.refl _ _⟩
     case round=>
      obtain ⟨j,g,hj,rfl,rfl,HG,hbel⟩:=hrel
      have HI:=Lib.hid hbel
      clear hbel
      by_cases hjl:j < O.length
      ·obtain ⟨-,-,-,hato⟩:=rdInts_at (RO.out wr HI.out)
       obtain ⟨ado,rfl,-,g0⟩:=hato j hjl
       have j0:(0:Int)≤(j:Int):=by omega
       have j1:(j:Int) < (O.length:Int):=by omega
       have lo:=LO.out
       clear hato
       cases g
       ·have NX:=Lib.hid (fun (f':Bool) (hf:f'=false→O[j]≠(k:Int))=>(show Hid (f'=false→∀q (hq:q < O.length),q < j+1→O[q]≠(k:Int)) from Lib.hid (fun h q hq hqj=>by
         by_cases e:q=j
         ·subst e;exact hf h
         ·exact HG.out rfl q hq (by omega))))
        generalize O[j]=x at *
        go_wp2
        go_roundw
        case rel=>exact ⟨j+1,_,by omega,by go_num,rfl,NX.out _ (fun h=>by simpa using h),HI.out⟩
        case measure=>simp [intOf];omega
       ·generalize O[j]=x at *
        go_wp2
        go_roundw
        case rel=>exact ⟨j+1,true,by omega,by go_num,rfl,Lib.hid (fun h=>by cases h),HI.out⟩
        case measure=>simp [intOf];omega
      ·obtain rfl:j=O.length:=by omega
       obtain rfl:g=true:=by
        cases g
        ·obtain ⟨p,hp,e⟩:=List.getElem_of_mem OK.out
         exact absurd e (HG.out rfl p hp hp)
        ·rfl
       have BE:=Lib.hid (bel_in AST HI.out)
       go_wp2
       go_roundw
       case rel=>exact ⟨k+1,by omega,by go_num,BE.out⟩
       case measure=>simp [intOf];omega
    ·obtain rfl:k=U.length:=by omega
     have BE:=Lib.hid (bel_in B6.out HB.out)
     go_wp2
     go_ret
     exact ⟨rfl,BE.out⟩
end Go.Proofs.YtoopkofekekmoaaGreatDoor
