/- What the laws rest on: N9p. -/
import Derived.Test.YtoopkofekekmoaaGreatDoorQAIZA
import Derived.Test.YtoopkofekekmoaaGreatDoorQAQZA
import Derived.Test.YtoopkofekekmoaaGreatDoorQAVZA
set_option maxRecDepth 100000
set_option linter.unusedVariables false
set_option linter.unusedSimpArgs false
namespace Go.Proofs.YtoopkofekekmoaaGreatDoor
open Go.RowKit
theorem ent_small9 {L:List Ent} {he:List Ent} (h:∀x ∈ L,x.n.size≤100) (h':∀x ∈ he,x.n.size≤100) (ho:Once9 he):∀x ∈ entU L he,x.n.size≤100:=by
 intro x hx
 have key:∀(ix M:List Ent),(∀x ∈ M,x.n.size≤100)→(∀x ∈ ix,x.n.size≤100)→∀x ∈ ix.foldl addU M,x.n.size≤100:=by
  intro ix
  induction ix with
  | nil=>intro M h1 _ x hx;exact h1 x hx
  | cons a r ih=>
   intro M h1 h2 x hx
   refine ih (addU M a) (fun y hy=>?_) (fun y hy=>h2 y (List.mem_cons_of_mem _ hy)) x hx
   unfold addU at hy
   split at hy
   ·exact h1 y hy
   ·rcases put9_mem.1 hy with rfl|hy
    ·exact h2 y (List.mem_cons_self ..)
    ·exact h1 y hy
 refine key L (he.foldl putU []) (fun y hy=>?_) h x hx
 rcases ((fold_put he [] List.Pairwise.nil ho (fun x hx=>by cases hx)).2 y).1 hy with q|q
 ·cases q
 ·exact h' y q
set_option maxHeartbeats 32000000 in
theorem places9 (A:Option Addr) (n0 c:Nat) (L:List Ent) (A':Option Addr) (n1 c':Nat) (m:List Hr) (w:World) (h:rdEnts w (lt_ w.heap.size) L [.slice A n0 c]) (h':rdHrs w (lt_ w.heap.size) m [.slice A' n1 c']) (E:EnvR w) :
  Calls Tryz.prog 5 #[.slice A n0 c,.slice A' n1 c'] w fun e w'=>e=.returned (.bool true)∧Below w.heap.size w w':=by
 obtain ⟨rfl,hnc,hcm,-⟩:=rdEnts_at h
 obtain ⟨rfl,hnc',hcm',-⟩:=rdHrs_at h'
 have hcx:c≤9223372036854775807:=hcm
 have hcy:c'≤9223372036854775807:=hcm'
 have HE:=Lib.hid E
 have H:=Lib.hid (fun (W:World) (hb:Below w.heap.size w W)=>(rdEnts_good.up (rdEnts_good.below h hb) hb.size:rdEnts W (lt_ W.heap.size) L [.slice A L.length c]))
 have H':=Lib.hid (fun (W:World) (hb:Below w.heap.size w W)=>(rdHrs_good.up (rdHrs_good.below h' hb) hb.size:rdHrs W (lt_ W.heap.size) m [.slice A' m.length c']))
 clear h h' hcm hcm' E
 go_enter Tryz.func5,Tryz.ntmps5
 go_wp2_with fail
 refine (shown9_any w (HE.out.below (Below.refl _ _))).mono ?_
 rintro e w1 ⟨rfl,hb⟩
 have B1:=Lib.hid (hb)
 clear hb
 go_wp2_with fail
 refine (small9_any A L.length c L A' m.length c' m w1 (H.out w1 B1.out) (H'.out w1 B1.out)).mono ?_
 rintro e w2 ⟨⟨ok,rfl,hfw⟩,hb⟩
 have B2:=Lib.hid (bel_in B1.out hb)
 clear hb
 cases ok
 ·go_wp2
  go_ret
  exact ⟨rfl,B2.out⟩
 have FW:=Lib.hid (hfw rfl)
 clear hfw
 have KN:=Lib.hid (new9_any A L.length c L A' m.length c' m w2 (H.out w2 B2.out) (H'.out w2 B2.out) (fun x hx=>(FW.out.1.2 x hx).sz) (fun y hy=>(FW.out.2.2 y hy).sz) (HE.out.below B2.out))
 go_wp2_with fail
 refine KN.out.mono ?_
 rintro e w3 ⟨hnr,hb⟩
 have B3:=Lib.hid (bel_in B2.out hb)
 clear hb KN
 by_cases hboth:L.all rgtE=true∧rightH m=true
 rotate_left
 ·obtain rfl:=hnr.1 hboth
  clear hboth hnr
  go_wp2
  go_ret
  exact ⟨rfl,B3.out⟩
 by_cases hmany:64 < (entU L (m.map fun y=>y.e)).length
 ·obtain rfl:=hnr.2.1 hboth hmany
  clear hboth hnr hmany
  go_wp2
  go_ret
  exact ⟨rfl,B3.out⟩
 obtain ⟨b,rfl,hup⟩:=hnr.2.2 hboth hmany
 have HRP:=Lib.hid ((rightH_iff m).1 hboth.2)
 have SR:=Lib.hid (entU_srt (ix:=L) (once_right HRP.out.2.1))
 have HLU:=Lib.hid (Nat.le_of_not_lt hmany)
 have HU:=Lib.hid (fun (W:World) (hb:Below w3.heap.size w3 W)=>hup.below hb)
 have BOTH:=Lib.hid hboth
 clear hnr hboth hmany hup
 have SN:=Lib.hid (show ∀x ∈ entU L (m.map fun y=>y.e),x.n.size≤100 from ent_small9 (fun x hx=>(FW.out.1.2 x hx).2.2.1) (fun x hx=>by
  obtain ⟨y,hy,rfl⟩:=List.mem_map.1 hx
  exact (FW.out.2.2 y hy).2.2.1) (once_right HRP.out.2.1))
 clear FW HRP BOTH H H'
 generalize entU L (m.map fun y=>y.e)=U at *
 have KE:=Lib.hid (entries9_any b U m w3 (HU.out w3 (Below.refl _ _)) (by have:=HLU.out;omega))
 go_wp2_with fail
 refine KE.out.mono ?_
 rintro e w4 ⟨⟨Ae,ce,rfl,hre⟩,hb⟩
 have B34:=Lib.hid hb
 have RE:=Lib.hid hre
 have KN:=Lib.hid (names9_any b U m w4 (HU.out w4 hb) HLU.out)
 clear hb hre KE
 go_wp2_with fail
 refine KN.out.mono ?_
 rintro e w5 ⟨⟨An,cn,rfl,hrn⟩,hb⟩
 have B35:=Lib.hid (bel_in B34.out hb)
 have RE5:=Lib.hid (rdEnts_good.up (rdEnts_good.below RE.out hb) hb.size)
 have RN5:=Lib.hid hrn
 have B5:=Lib.hid (bel_in B3.out B35.out)
 obtain ⟨-,hec,hem,-⟩:=rdEnts_at RE5.out
 obtain ⟨-,hnc2,hnm,-⟩:=rdNms_at hrn
 have hem':ce≤9223372036854775807:=hem
 have hnm':cn≤9223372036854775807:=hnm
 have HNS:=Lib.hid (fun n (hn:n ∈ nmU none U)=>show n.size≤100 from by
  obtain ⟨x,hx,rfl⟩:=nmU_mem hn
  exact SN.out x hx)
 have HNE:=Lib.hid (fun n (hn:n ∈ nmU none U)=>of_ne hn 0)
 have HPS:=Lib.hid (fun k hk=>PK_succ (L:=U) (k:=k) hk)
 have HPA:=Lib.hid (fun k hk j hj=>PK_at SR.out (k:=k) hk (j:=j) hj)
 have HPN:=Lib.hid (fun k hk j hj hp=>PK_name SR.out (k:=k) hk (j:=j) hj hp)
 have HPL:=Lib.hid (PK_all SR.out)
 have HLT:=Lib.hid (fun k hk=>nm_lt SR.out (k:=k) hk)
 have HU5:=Lib.hid (fun (W:World) (hb:Below w5.heap.size w5 W)=>HU.out W (bel_in B35.out hb))
 have RE6:=Lib.hid (fun (W:World) (hb:Below w5.heap.size w5 W)=>(rdEnts_good.up (rdEnts_good.below RE5.out hb) hb.size:rdEnts W (lt_ W.heap.size) U [.slice Ae U.length ce]))
 have RN6:=Lib.hid (fun (W:World) (hb:Below w5.heap.size w5 W)=>(rdNms_good.up (rdNms_good.below RN5.out hb) hb.size:rdNms W (lt_ W.heap.size) (nmU none U) [.slice An (nmU none U).length cn]))
 have HPO:=Lib.hid (fun n=>show (ixU (isN n) U 0).length≤64 from Nat.le_trans ixU_len HLU.out)
 clear hb hrn hem hnm KN RE RE5 RN5 HU B34 B35 SN
 go_wp2_with fail
 go_wp2
 go_loopw [11,12] (fun a i wr=>∃k:Nat,k≤(nmU none U).length∧i=.int .i64 k∧a=.int .i64 (PK U k:Nat)∧Below w5.heap.size w5 wr) (fun _ i _=>(nmU none U).length - (intOf i).toNat)
 case atStart=>exact ⟨0,Nat.zero_le _,rfl,rfl,Below.refl _ _⟩
 case round=>
  obtain ⟨k,hk,rfl,rfl,hbel⟩:=hrel
  have HB:=Lib.hid hbel
  clear hbel
  by_cases hlt:k < (nmU none U).length
  ·obtain ⟨-,-,-,hat⟩:=rdNms_at (RN6.out w5 (Below.refl _ _))
   have HATN:=Lib.hid hat
   obtain ⟨adn,rfl,-,n0⟩:=hat k hlt
   have KO:=Lib.hid (of9_any b U m (nmU none U)[k] wr (HU5.out wr HB.out) HLU.out (by have:=HNS.out _ (List.getElem_mem hlt);omega))
   have PA:=Lib.hid (HPA.out k hlt)
   have PN:=Lib.hid (HPN.out k hlt)
   have PS:=Lib.hid (HPS.out k hlt)
   have HNK:=Lib.hid (show (nmU none U)[k].size≤1000000 by have:=HNS.out _ (List.getElem_mem hlt);omega)
   have NMK:=Lib.hid n0
   have hpl:(((ixU (isN (nmU none U)[k]) U 0).length:Int)==0)=false:=by
    rw [beq_eq_false_iff_ne]
    intro q
    exact HNE.out _ (List.getElem_mem hlt) (List.eq_nil_of_length_eq_zero (by omega))
   have HLT2:=Lib.hid (fun q (hq:q+1 < (nmU none U).length)=>HLT.out q hq)
   have m0:=keep6 HB.out n0
   have i0:(0:Int)≤(k:Int):=by omega
   have i1:(k:Int) < ((nmU none U).length:Int):=by omega
   clear hat n0 HPA HPN HPS HLT
   obtain ⟨P,hP⟩:∃P,P=PK U k:=⟨_,rfl⟩
   rw [←hP] at PA PN PS
   have hNMS:∃NM,NM=(nmU none U)[k]:=⟨_,rfl⟩
   obtain ⟨NM,hNM⟩:=hNMS
   rw [←hNM] at KO PA PN PS HNK NMK hpl m0
   have HNM:=Lib.hid hNM
   clear hNM
   generalize ixU (isN NM) U 0=pk at *
   go_wp2_with fail
   rw [←hP]
   clear hP
   refine KO.out.mono ?_
   rintro e w6 ⟨⟨Ao,co,rfl,hro⟩,hb⟩
   have B56:=Lib.hid (bel_in HB.out hb)
   have RO:=Lib.hid (fun (W:World) (hb:Below w6.heap.size w6 W)=>(rdInts_good.up (rdInts_good.below hro hb) hb.size:rdInts W (lt_ W.heap.size) pk [.slice Ao pk.length co]))
   obtain ⟨-,hoc,hom,-⟩:=rdInts_at hro
   have hom':co≤9223372036854775807:=hom
   replace m0:=keep6 hb m0
   clear hb hro hom KO
   rcases k with _|k
   ·go_wp2_with fail
    go_quiet (fail)
    have AST:=belD (Below.refl w6.heap.size w6) nq
    clear m0
    go_wp2
    go_loopw [11,14] (fun a i wr=>∃j q:Nat,j≤pk.length∧i=.int .i64 j∧a=.int .i64 q∧Hid (q=P+j)∧Below w6.heap.size w6 wr) (fun _ i _=>pk.length - (intOf i).toNat)
    case atStart=>exact ⟨0,P,Nat.zero_le _,rfl,rfl,Lib.hid rfl,AST⟩
    case round=>
     obtain ⟨j,q,hj,rfl,rfl,HQ,hbi⟩:=hrel
     have HBI:=Lib.hid hbi
     have HB5:=Lib.hid (bel_in B56.out hbi)
     clear hbi
     by_cases hjl:j < pk.length
     ·obtain ⟨-,-,-,hato⟩:=rdInts_at (RO.out wr HBI.out)
      obtain ⟨ado,rfl,-,g0⟩:=hato j hjl
      obtain ⟨e0,hqU⟩:=PA.out j hjl
      obtain ⟨e1,e2⟩:=PN.out j hjl hqU
      rw [e0] at g0
      obtain ⟨-,-,-,hate⟩:=rdEnts_at (RE6.out wr HB5.out)
      obtain ⟨ade,D1,d1,D2,d2,D3,d3,D4,d4,rfl,-,-,y0,y1,-⟩:=hate (P+j) hqU
      have KPl:=Lib.hid (fun nq=>place9_any b U m U[P+j].n U[P+j].v (wr.drewN nq) (HU5.out _ (belD HB5.out nq)) (by rw [e1];exact HNK.out))
      rw [e2] at KPl
      rw [e1] at KPl y0
      have z0:wr.cell? adn=some (.string NM):=by have:=keep6 HB5.out NMK.out;rw [show adn.add 0=adn from rfl] at this;exact this
      generalize U[P+j].v=vv at KPl y1
      have hq:q=P+j:=HQ.out
      rw [←hq] at g0 KPl y0 y1
      have hqU':(q:Int) < (U.length:Int):=by omega
      have q0:(0:Int)≤(q:Int):=by omega
      have j0:(0:Int)≤(j:Int):=by omega
      have j1:(j:Int) < (pk.length:Int):=by omega
      have HQ2:=Lib.hid (show q+1=P+(j+1) by omega)
      clear hato hate e0 e1 e2 hq hqU
      go_wp2_with fail
      go_quiet (first|(go_at_call 29;refine Calls.quiet_of (KPl.out _)))
      go_wp2
      go_roundw
      case rel=>exact ⟨j+1,q+1,by omega,by go_num,by go_num,HQ2,belD HBI.out _⟩
      case measure=>simp [intOf];omega
     ·obtain rfl:j=pk.length:=by omega
      have HQ2:=Lib.hid (show PK U (0+1)=q by rw [PS.out];exact HQ.out.symm)
      go_wp2
      go_roundw
      case rel=>exact ⟨0+1,by omega,by go_num,by rw [HQ2.out],HB5.out⟩
      case measure=>simp [intOf];omega
   ·obtain ⟨ad',had',-,n1⟩:=HATN.out k (by omega)
    obtain rfl:adn=ad':=Option.some.inj had'
    have m1:=keep6 B56.out n1
    have j1:(0:Int)≤(k:Int):=by omega
    have j2:(k:Int) < ((nmU none U).length:Int):=by omega
    have hle:=le_or NM (nmU none U)[k]
    have hb9:Op.bytesLess (nmU none U)[k].toList NM.toList=true:=by rw [HNM.out];exact HLT2.out k hlt
    rw [hb9] at hle
    clear had' n1 hb9
    generalize (nmU none U)[k]=NP at *
    have i0':(0:Int)≤(k:Int)+1:=by omega
    have i1':(k:Int)+1 < ((nmU none U).length:Int):=by omega
    have it':((k:Int)+1).toNat=k+1:=by omega
    have m0':w6.cell? ⟨adn.block,adn.off+(k+1),none⟩=some (.string NM):=m0
    go_wp2_with fail
    go_quiet (fail)
    have AST:=belD (Below.refl w6.heap.size w6) nq
    clear m0 m0' m1 hle i0' i1' it'
    go_wp2
    go_loopw [11,14] (fun a i wr=>∃j q:Nat,j≤pk.length∧i=.int .i64 j∧a=.int .i64 q∧Hid (q=P+j)∧Below w6.heap.size w6 wr) (fun _ i _=>pk.length - (intOf i).toNat)
    case atStart=>exact ⟨0,P,Nat.zero_le _,rfl,rfl,Lib.hid rfl,AST⟩
    case round=>
     obtain ⟨j,q,hj,rfl,rfl,HQ,hbi⟩:=hrel
     have HBI:=Lib.hid hbi
     have HB5:=Lib.hid (bel_in B56.out hbi)
     clear hbi
     by_cases hjl:j < pk.length
     ·obtain ⟨-,-,-,hato⟩:=rdInts_at (RO.out wr HBI.out)
      obtain ⟨ado,rfl,-,g0⟩:=hato j hjl
      obtain ⟨e0,hqU⟩:=PA.out j hjl
      obtain ⟨e1,e2⟩:=PN.out j hjl hqU
      rw [e0] at g0
      obtain ⟨-,-,-,hate⟩:=rdEnts_at (RE6.out wr HB5.out)
      obtain ⟨ade,D1,d1,D2,d2,D3,d3,D4,d4,rfl,-,-,y0,y1,-⟩:=hate (P+j) hqU
      have KPl:=Lib.hid (fun nq=>place9_any b U m U[P+j].n U[P+j].v (wr.drewN nq) (HU5.out _ (belD HB5.out nq)) (by rw [e1];exact HNK.out))
      rw [e2] at KPl
      rw [e1] at KPl y0
      have z0:wr.cell? ⟨adn.block,adn.off+(k+1),none⟩=some (.string NM):=keep6 HB5.out NMK.out
      have i0':(0:Int)≤(k:Int)+1:=by omega
      have i1':(k:Int)+1 < ((nmU none U).length:Int):=by omega
      have it':((k:Int)+1).toNat=k+1:=by omega
      generalize U[P+j].v=vv at KPl y1
      have hq:q=P+j:=HQ.out
      rw [←hq] at g0 KPl y0 y1
      have hqU':(q:Int) < (U.length:Int):=by omega
      have q0:(0:Int)≤(q:Int):=by omega
      have j0:(0:Int)≤(j:Int):=by omega
      have j1:(j:Int) < (pk.length:Int):=by omega
      have HQ2:=Lib.hid (show q+1=P+(j+1) by omega)
      clear hato hate e0 e1 e2 hq hqU
      go_wp2_with fail
      go_quiet (first|(go_at_call 29;refine Calls.quiet_of (KPl.out _)))
      go_wp2
      go_roundw
      case rel=>exact ⟨j+1,q+1,by omega,by go_num,by go_num,HQ2,belD HBI.out _⟩
      case measure=>simp [intOf];omega
     ·obtain rfl:j=pk.length:=by omega
      have HQ2:=Lib.hid (show PK U ((k+1)+1)=q by rw [PS.out];exact HQ.out.symm)
      go_wp2
      go_roundw
      case rel=>exact ⟨(k+1)+1,by omega,by go_num,by rw [HQ2.out],HB5.out⟩
      case measure=>simp [intOf];omega
  ·obtain rfl:k=(nmU none U).length:=by omega
   have KL:=Lib.hid (len9_any b U m wr (HU5.out wr HB.out))
   have HX:=Lib.hid HPL.out
   have hul:(U.length:Int)≤64:=by have:=HLU.out;omega
   have BW:=Lib.hid (bel_in B5.out HB.out)
   obtain ⟨P,hP⟩:∃P,P=PK U (nmU none U).length:=⟨_,rfl⟩
   have hPU:P=U.length:=hP.trans HX.out
   rw [←hP]
   clear hP HPL HX
   subst hPU
   go_wp2_with fail
   refine KL.out.mono ?_
   rintro e w8 ⟨rfl,rfl⟩
   go_wp2
   go_ret
   exact ⟨rfl,BW.out⟩
end Go.Proofs.YtoopkofekekmoaaGreatDoor
