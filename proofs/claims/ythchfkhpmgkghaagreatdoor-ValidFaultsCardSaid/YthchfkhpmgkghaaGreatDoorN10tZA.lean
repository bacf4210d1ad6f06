/- What the laws rest on: N10t. -/
import Derived.Test.YthchfkhpmgkghaaGreatDoorQBIZA
import Derived.Test.YthchfkhpmgkghaaGreatDoorQCEZA
import Derived.Test.YthchfkhpmgkghaaGreatDoorQCFZA
import Derived.Test.YthchfkhpmgkghaaGreatDoorQCGZA
import Derived.Test.YthchfkhpmgkghaaGreatDoorQCHZA
import Derived.Test.YthchfkhpmgkghaaGreatDoorQCIZA
set_option maxRecDepth 100000
set_option linter.unusedVariables false
set_option linter.unusedSimpArgs false
namespace Go.Proofs.YthchfkhpmgkghaaGreatDoor
open Go.RowKit Go.Sort
def okT (ok:Bool) (T:List Ft):List Ft:=if ok=true then T else []
def okE (ok:Bool):Int:=if ok=true then 0 else 1
theorem FltR.one {w w':World} {ok:Bool} {T:List Ft} {e:Ending} (h:FltR w w' ok T e):∃A c,e=.returned (.tuple #[.slice A (okT ok T).length c,.int .i64 (okE ok)])∧rdFts w' (own10 w w') (okT ok T) [.slice A (okT ok T).length c]:=by
 cases ok
 ·exact ⟨none,0,h.1 rfl,rdRow_nil _ _⟩
 ·obtain ⟨A,c,h1,h2⟩:=h.2 rfl
  exact ⟨A,c,h1,h2⟩
set_option maxHeartbeats 32000000 in
theorem faults10 (A:Option Addr) (n0 c:Nat) (L:List Ent) (A':Option Addr) (n1 c':Nat) (m:List Hr) (A1:Option Addr) (c1:Nat) (A2:Option Addr) (c2:Nat) (i r:List Atm) (up:Bool) (Al:Option Addr) (nl cl:Nat) (l:List Int) (w:World) (h:rdEnts w (lt_ w.heap.size) L [.slice A n0 c]) (h':rdHrs w (lt_ w.heap.size) m [.slice A' n1 c']) (hi:rdAtms w (lt_ w.heap.size) i [.slice A1 i.length c1]) (hr:rdAtms w (lt_ w.heap.size) r [.slice A2 r.length c2]) (hl:rdInts w (lt_ w.heap.size) l [.slice Al nl cl]) (E:EnvR w) :
  Calls Tryz.prog 3 #[.slice A n0 c,.slice A' n1 c',.agg #[.slice A1 i.length c1,.slice A2 r.length c2,.bool up],.slice Al nl cl] w fun e w'=>e=.returned (.bool true)∧Below w.heap.size w w':=by
 obtain ⟨rfl,hnc,hcm,-⟩:=rdEnts_at h
 obtain ⟨rfl,hnc',hcm',-⟩:=rdHrs_at h'
 have hcx:c≤9223372036854775807:=hcm
 have hcy:c'≤9223372036854775807:=hcm'
 have HE:=Lib.hid E
 have H:=Lib.hid (fun (W:World) (hb:Below w.heap.size w W)=>(rdEnts_good.up (rdEnts_good.below h hb) hb.size:rdEnts W (lt_ W.heap.size) L [.slice A L.length c]))
 have H':=Lib.hid (fun (W:World) (hb:Below w.heap.size w W)=>(rdHrs_good.up (rdHrs_good.below h' hb) hb.size:rdHrs W (lt_ W.heap.size) m [.slice A' m.length c']))
 obtain ⟨rfl,hlc,hlm,-⟩:=rdInts_at hl
 have hlx:cl≤9223372036854775807:=hlm
 have Hl:=Lib.hid (fun (W:World) (hb:Below w.heap.size w W)=>(rdInts_good.up (rdInts_good.below hl hb) hb.size:rdInts W (lt_ W.heap.size) l [.slice Al l.length cl]))
 have HI:=Lib.hid (fun (W:World) (hb:Below w.heap.size w W)=>(rdAtms_good.up (rdAtms_good.below hi hb) hb.size:rdAtms W (lt_ W.heap.size) i [.slice A1 i.length c1]))
 have HR:=Lib.hid (fun (W:World) (hb:Below w.heap.size w W)=>(rdAtms_good.up (rdAtms_good.below hr hb) hb.size:rdAtms W (lt_ W.heap.size) r [.slice A2 r.length c2]))
 obtain ⟨W1,hW1⟩:∃W,W=w.alloc (.cells #[.slice A1 i.length c1,.slice A2 r.length c2,.bool up] 26):=⟨_,rfl⟩
 have b1:Below w.heap.size w W1:=by rw [hW1];exact (Below.refl _ w).alloc (Nat.le_refl _) _
 have B1:=Lib.hid b1
 have KX:=Lib.hid (fun (W:World) (hb:Below W1.heap.size W1 W)=>(show W.cell? ⟨w.heap.size,0,none⟩=some (.slice A1 i.length c1)∧W.cell? ⟨w.heap.size,1,none⟩=some (.slice A2 r.length c2)∧W.cell? ⟨w.heap.size,2,none⟩=some (.bool up) from by
  refine ⟨?_,?_,?_⟩<;>exact keep6 hb (by rw [hW1];simp [go_sem])))
 clear h h' hcm hcm' E hl hlm hi hr b1
 go_enter Tryz.func3,Tryz.ntmps3
 go_upto_region 1 with fail
 rw [←hW1]
 clear hW1
 go_wp2_with fail
 refine (shown10_any W1 (HE.out.below B1.out)).mono ?_
 rintro e w1 ⟨rfl,hb⟩
 have Q1:=Lib.hid hb
 have B2:=Lib.hid (bel_in B1.out hb)
 clear hb
 go_wp2_with fail
 refine (small10_any A L.length c L A' m.length c' m w1 (H.out w1 B2.out) (H'.out w1 B2.out)).mono ?_
 rintro e w2 ⟨⟨ok,rfl,hfw⟩,hb⟩
 have Q2:=Lib.hid (bel_in Q1.out hb)
 have B3:=Lib.hid (bel_in B2.out hb)
 clear hb Q1
 obtain ⟨x0,x1,x2⟩:=KX.out w2 Q2.out
 go_wp2_with fail
 refine (asks10_any A1 c1 A2 c2 i r up w2 (HI.out w2 B3.out) (HR.out w2 B3.out)).mono ?_
 rintro e w3 ⟨⟨ok2,rfl,hask⟩,hb⟩
 have Q3:=Lib.hid (bel_in Q2.out hb)
 have B4:=Lib.hid (bel_in B3.out hb)
 clear hb x0 x1 x2
 cases ok
 ·go_wp2
  go_ret
  exact ⟨rfl,B4.out⟩
 have FW:=Lib.hid (hfw rfl)
 clear hfw
 cases ok2
 ·go_wp2
  go_ret
  exact ⟨rfl,B4.out⟩
 have AK:=Lib.hid (hask rfl)
 clear hask
 by_cases hln:(100:Int) < (l.length:Int)
 ·have hln':100 < l.length:=by omega
  go_wp2
  go_ret
  exact ⟨rfl,B4.out⟩
 have hln':¬100 < l.length:=by omega
 have KN:=Lib.hid (new9_any A L.length c L A' m.length c' m w3 (H.out w3 B4.out) (H'.out w3 B4.out) (fun x hx=>(FW.out.1.2 x hx).sz) (fun y hy=>(FW.out.2.2 y hy).sz) (HE.out.below B4.out))
 go_wp2_with fail
 refine KN.out.mono ?_
 rintro e w4 ⟨hnr,hb⟩
 have Q4:=Lib.hid (bel_in Q3.out hb)
 have B5:=Lib.hid (bel_in B4.out hb)
 clear hb KN
 have KM:=Lib.hid (q9new_any A L.length c L A' m.length c' m w4 (H.out w4 B5.out) (H'.out w4 B5.out) (fun x hx=>(FW.out.1.2 x hx).sz) (fun y hy=>(FW.out.2.2 y hy).sz) (by have:=FW.out.1.1;omega) (by have:=FW.out.2.1;omega))
 by_cases hboth:L.all rgtE=true∧rightH m=true
 rotate_left
 ·obtain rfl:=hnr.1 hboth
  clear hnr
  go_wp2_with fail
  refine KM.out.mono ?_
  rintro e w5 ⟨hnu,hb⟩
  obtain rfl:=hnu.1 hboth
  have BX:=Lib.hid (bel_in B5.out hb)
  clear hb hboth hnu KM
  go_wp2
  go_ret
  exact ⟨rfl,BX.out⟩
 by_cases hmany:64 < (entU L (m.map fun y=>y.e)).length
 ·obtain rfl:=hnr.2.1 hboth hmany
  clear hnr
  go_wp2_with fail
  refine KM.out.mono ?_
  rintro e w5 ⟨hnu,hb⟩
  obtain rfl:=hnu.2.1 hboth hmany
  have BX:=Lib.hid (bel_in B5.out hb)
  clear hb hboth hnu KM hmany
  go_wp2
  go_ret
  exact ⟨rfl,BX.out⟩
 obtain ⟨b,rfl,hup⟩:=hnr.2.2 hboth hmany
 have UFF:=Lib.hid (uf_of hboth FW.out hmany)
 have KM2:=Lib.hid (fun (e:Ending) (W:World) (h:NewU W L m e)=>h.2.2 hboth hmany)
 have HUP:=Lib.hid hup
 clear hnr hboth hmany hup
 go_wp2_with fail
 refine KM.out.mono ?_
 rintro e w5 ⟨hnu,hb⟩
 obtain ⟨b2,rfl,hur⟩:=KM2.out _ _ hnu
 have B45:=Lib.hid hb
 have B6:=Lib.hid (bel_in B5.out hb)
 have Q5:=Lib.hid (bel_in Q4.out hb)
 have mixed:Tryz.prog.follows .mixedOrders=true:=by kernel_rfl
 generalize entU L (m.map fun y=>y.e)=U at *
 have HU:=Lib.hid (fun (W:World) (hx:Below w5.heap.size w5 W)=>(UFF.out.uq (HUP.out.below (bel_in hb hx)):UQ W b U m))
 have HV:=Lib.hid (fun (W:World) (hx:Below w5.heap.size w5 W)=>(hur.below hx:UR W b2 U m))
 have HEU:=Lib.hid (fun (W:World) (hx:Below w5.heap.size w5 W)=>HE.out.below (bel_in B6.out hx))
 have HLL:=Lib.hid (fun (W:World) (hx:Below w5.heap.size w5 W)=>Hl.out W (bel_in B6.out hx))
 have HII:=Lib.hid (fun (W:World) (hx:Below w5.heap.size w5 W)=>HI.out W (bel_in B6.out hx))
 have HRR:=Lib.hid (fun (W:World) (hx:Below w5.heap.size w5 W)=>HR.out W (bel_in B6.out hx))
 clear hb hnu hur KM KM2 HUP
 have AZ:=Lib.hid (show ((∀a ∈ i,a.n.size≤1000000)∧(∀a ∈ r,a.n.size≤1000000))∧((∀a ∈ i,a.n.size≤65536)∧(∀a ∈ r,a.n.size≤65536))∧i.length≤100∧r.length≤100 from ⟨⟨fun a ha=>by have:=(AK.out.1.2 a ha).1;omega,fun a ha=>by have:=(AK.out.2.2 a ha).1;omega⟩,⟨fun a ha=>by have:=(AK.out.1.2 a ha).1;omega,fun a ha=>by have:=(AK.out.2.2 a ha).1;omega⟩,by have:=AK.out.1.1;omega,by have:=AK.out.2.1;omega⟩)
 have KRV:=Lib.hid (fun (W:World) (hx:Below w5.heap.size w5 W)=>vright10_any A1 c1 A2 c2 i r up W (HII.out W hx) (HRR.out W hx) (HEU.out W hx))
 have KRD:=Lib.hid (fun (W:World) (hx:Below w5.heap.size w5 W)=>q10right_any q4r_atom A1 c1 A2 c2 i r up W (HII.out W hx) (HRR.out W hx) AZ.out.2.1.1 AZ.out.2.1.2)
 have FLT:=Lib.hid (fun (q:List Int) (hq:q.length≤200)=>flt_bound (held:=heldU U m) (l:=q) UFF.out.dep hq UFF.out.len AZ.out.2.2.1 AZ.out.2.2.2)
 have KFV:=Lib.hid (fun (Aq:Option Addr) (cq:Nat) (q:List Int) (hq:q.length≤200) (W:World) (hx:Below w5.heap.size w5 W) hrq=>vfaults_any b U m A1 c1 i A2 c2 r up Aq q.length cq q W (HU.out W hx) hrq (HII.out W hx) (HRR.out W hx) AZ.out.1.1 AZ.out.1.2 (HEU.out W hx) (by omega) (FLT.out q hq))
 have KFD:=Lib.hid (fun (Aq:Option Addr) (cq:Nat) (q:List Int) (hq:q.length≤200) (W:World) (hx:Below w5.heap.size w5 W) hrq=>q10faults_any b2 U m Aq q.length cq q A1 c1 i A2 c2 r up W (rqB i r) (fun W' hb=>KRD.out W' (bel_in hx hb)) (HV.out W hx) hrq UFF.out.pr (HII.out W hx) (HRR.out W hx) UFF.out.hm (FLT.out q hq))
 have KMV:=Lib.hid (fun (Aq:Option Addr) (cq:Nat) (q:List Int) (hq:q.length≤200) (W:World) (hx:Below w5.heap.size w5 W) hrq=>vmeet_any b U m A1 c1 i A2 c2 r up Aq q.length cq q W (HU.out W hx) hrq (HII.out W hx) (HRR.out W hx) AZ.out.1.1 AZ.out.1.2 (HEU.out W hx) (by omega) (FLT.out q hq))
 have KMD:=Lib.hid (fun (Aq:Option Addr) (cq:Nat) (q:List Int) (hq:q.length≤200) (W:World) (hx:Below w5.heap.size w5 W) hrq=>q10meets_any b2 U m Aq q.length cq q A1 c1 i A2 c2 r up W (rqB i r) (fun W' hb=>KRD.out W' (bel_in hx hb)) (HV.out W hx) hrq UFF.out.pr (HII.out W hx) (HRR.out W hx) UFF.out.hm (FLT.out q hq))
 have KCV:=Lib.hid (fun (Aq:Option Addr) (cq:Nat) (q:List Int) (hq:q.length≤200) (W:World) (hx:Below w5.heap.size w5 W) hrq=>vclosed_any b U m Aq q.length cq q W (HU.out W hx) hrq (HEU.out W hx) (Nat.le_trans (ins_bound UFF.out.dep hq) (by decide)))
 have KCD:=Lib.hid (fun (Aq:Option Addr) (cq:Nat) (q:List Int) (hq:q.length≤200) (W:World) (hx:Below w5.heap.size w5 W) hrq=>q10closed_any b2 U m Aq q.length cq q W (HV.out W hx) hrq UFF.out.pr (Nat.le_trans (ins_bound UFF.out.dep hq) (by decide)))
 have KSV:=Lib.hid (fun (W:World) (hx:Below w5.heap.size w5 W)=>(vset_any b U m Al l.length cl l W (HU.out W hx).up (HLL.out W hx)).mono (fun e w' (h:e=.returned (.bool (setB U.length l))∧W=w')=>(⟨h.1,h.2 ▸ Below.refl _ _⟩:e=.returned (.bool (setB U.length l))∧Below W.heap.size W w')))
 have KSD:=Lib.hid (fun (W:World) (hx:Below w5.heap.size w5 W)=>q10set_any b2 U m Al l.length cl l W (HV.out W hx) (HLL.out W hx))
 have hl200:l.length≤200:=by omega
 have HUV:=Lib.hid (HV.out w5 (Below.refl _ _))
 obtain ⟨Av,cv,Ah,ch,v0,-⟩:=HUV.out
 have UL:=Lib.hid UFF.out.len
 go_wp2_with fail
 refine (set10_any Al l.length cl l U.length w5 (HLL.out w5 (Below.refl _ _)) (by have:=UL.out;omega)).mono ?_
 rintro e w6 ⟨⟨As,cs,rfl,hrs⟩,hb⟩
 have C6:=Lib.hid hb
 have RS:=Lib.hid (fun (W:World) (hx:Below w6.heap.size w6 W)=>(rdInts_good.up (rdInts_good.below hrs hx) hx.size:rdInts W (lt_ W.heap.size) (setL l U.length) [.slice As (setL l U.length).length cs]))
 have SL:=Lib.hid (show (setL l U.length).length≤200 from Nat.le_trans (setL_len10 l U.length) (by have:=UL.out;omega))
 clear hb hrs v0 HUV
 generalize setL l U.length=s at *
 obtain ⟨x0,x1,x2⟩:=KX.out w6 (bel_in Q5.out C6.out)
 go_wp2_with fail
 refine (KFV.out Al cl l hl200 w6 C6.out (HLL.out w6 C6.out)).mono ?_
 rintro e w7 ⟨hf,hb⟩
 obtain ⟨Af7,cf7,rfl,hrf⟩:=hf.one
 have C7:=Lib.hid (bel_in C6.out hb)
 have R7:=Lib.hid (fun (W:World) (hx:Below w7.heap.size w7 W)=>(rdFts_good.up (rdFts_good.below (rdFts_good.more hrf fun k hk=>hk.2:rdFts w7 (lt_ w7.heap.size) (okT (rqB i r&&setB U.length l) (fltS U (heldU U m) i r l)) [.slice Af7 (okT (rqB i r&&setB U.length l) (fltS U (heldU U m) i r l)).length cf7]) hx) hx.size:rdFts W (lt_ W.heap.size) (okT (rqB i r&&setB U.length l) (fltS U (heldU U m) i r l)) [.slice Af7 (okT (rqB i r&&setB U.length l) (fltS U (heldU U m) i r l)).length cf7]))
 obtain ⟨n7,hn7⟩:∃n,n=(okT (rqB i r&&setB U.length l) (fltS U (heldU U m) i r l)).length:=⟨_,rfl⟩
 rw [←hn7] at R7 ⊢
 have D7:=Lib.hid hb
 clear hf hb hrf x0 x1 x2 hn7
 obtain ⟨x0,x1,x2⟩:=KX.out w7 (bel_in Q5.out C7.out)
 go_wp2_with fail
 refine (KFD.out Al cl l hl200 w7 C7.out (HLL.out w7 C7.out)).mono ?_
 rintro e w8 ⟨hf,hb⟩
 obtain ⟨Af8,cf8,rfl,hrf⟩:=hf.one
 have C8:=Lib.hid (bel_in C7.out hb)
 have R8:=Lib.hid (fun (W:World) (hx:Below w8.heap.size w8 W)=>(rdFts_good.up (rdFts_good.below (rdFts_good.more hrf fun k hk=>hk.2:rdFts w8 (lt_ w8.heap.size) (okT (rqB i r&&setB U.length l) (fltS U (heldU U m) i r l)) [.slice Af8 (okT (rqB i r&&setB U.length l) (fltS U (heldU U m) i r l)).length cf8]) hx) hx.size:rdFts W (lt_ W.heap.size) (okT (rqB i r&&setB U.length l) (fltS U (heldU U m) i r l)) [.slice Af8 (okT (rqB i r&&setB U.length l) (fltS U (heldU U m) i r l)).length cf8]))
 obtain ⟨n8,hn8⟩:∃n,n=(okT (rqB i r&&setB U.length l) (fltS U (heldU U m) i r l)).length:=⟨_,rfl⟩
 rw [←hn8] at R8 ⊢
 have D8:=Lib.hid hb
 clear hf hb hrf x0 x1 x2 hn8
 obtain ⟨x0,x1,x2⟩:=KX.out w8 (bel_in Q5.out C8.out)
 go_wp2_with fail
 refine (KFV.out As cs s SL.out w8 C8.out (RS.out w8 (bel_in D7.out D8.out))).mono ?_
 rintro e w9 ⟨hf,hb⟩
 obtain ⟨Af9,cf9,rfl,hrf⟩:=hf.one
 have C9:=Lib.hid (bel_in C8.out hb)
 have R9:=Lib.hid (fun (W:World) (hx:Below w9.heap.size w9 W)=>(rdFts_good.up (rdFts_good.below (rdFts_good.more hrf fun k hk=>hk.2:rdFts w9 (lt_ w9.heap.size) (okT (rqB i r&&setB U.length s) (fltS U (heldU U m) i r s)) [.slice Af9 (okT (rqB i r&&setB U.length s) (fltS U (heldU U m) i r s)).length cf9]) hx) hx.size:rdFts W (lt_ W.heap.size) (okT (rqB i r&&setB U.length s) (fltS U (heldU U m) i r s)) [.slice Af9 (okT (rqB i r&&setB U.length s) (fltS U (heldU U m) i r s)).length cf9]))
 obtain ⟨n9,hn9⟩:∃n,n=(okT (rqB i r&&setB U.length s) (fltS U (heldU U m) i r s)).length:=⟨_,rfl⟩
 rw [←hn9] at R9 ⊢
 have D9:=Lib.hid hb
 clear hf hb hrf x0 x1 x2 hn9
 obtain ⟨x0,x1,x2⟩:=KX.out w9 (bel_in Q5.out C9.out)
 go_wp2_with fail
 refine (KFD.out As cs s SL.out w9 C9.out (RS.out w9 (bel_in (bel_in D7.out D8.out) D9.out))).mono ?_
 rintro e w10 ⟨hf,hb⟩
 obtain ⟨Af10,cf10,rfl,hrf⟩:=hf.one
 have C10:=Lib.hid (bel_in C9.out hb)
 have R10:=Lib.hid (fun (W:World) (hx:Below w10.heap.size w10 W)=>(rdFts_good.up (rdFts_good.below (rdFts_good.more hrf fun k hk=>hk.2:rdFts w10 (lt_ w10.heap.size) (okT (rqB i r&&setB U.length s) (fltS U (heldU U m) i r s)) [.slice Af10 (okT (rqB i r&&setB U.length s) (fltS U (heldU U m) i r s)).length cf10]) hx) hx.size:rdFts W (lt_ W.heap.size) (okT (rqB i r&&setB U.length s) (fltS U (heldU U m) i r s)) [.slice Af10 (okT (rqB i r&&setB U.length s) (fltS U (heldU U m) i r s)).length cf10]))
 obtain ⟨n10,hn10⟩:∃n,n=(okT (rqB i r&&setB U.length s) (fltS U (heldU U m) i r s)).length:=⟨_,rfl⟩
 rw [←hn10] at R10 ⊢
 have D10:=Lib.hid hb
 clear hf hb hrf x0 x1 x2 hn10
 generalize okT (rqB i r&&setB U.length l) (fltS U (heldU U m) i r l)=T1 at R7 R8
 generalize okT (rqB i r&&setB U.length s) (fltS U (heldU U m) i r s)=T2 at R9 R10
 generalize okE (rqB i r&&setB U.length l)=e1
 generalize okE (rqB i r&&setB U.length s)=e2
 have KA1:=Lib.hid (fun (W:World) (hx:Below w10.heap.size w10 W)=>alike10_any Af7 Af8 n7 cf7 n8 cf8 T1 T1 W (R7.out W (bel_in (bel_in D8.out (bel_in D9.out D10.out)) hx)) (R8.out W (bel_in (bel_in D9.out D10.out) hx)))
 have KA2:=Lib.hid (fun (W:World) (hx:Below w10.heap.size w10 W)=>alike10_any Af9 Af10 n9 cf9 n10 cf10 T2 T2 W (R9.out W (bel_in D10.out hx)) (R10.out W hx))
 have KRV':=Lib.hid (fun (W:World) (hx:Below w10.heap.size w10 W)=>KRV.out W (bel_in C10.out hx))
 have KRD':=Lib.hid (fun (W:World) (hx:Below w10.heap.size w10 W)=>KRD.out W (bel_in C10.out hx))
 rw [show decide (T1=T1)=true from decide_eq_true rfl] at KA1
 rw [show decide (T2=T2)=true from decide_eq_true rfl] at KA2
 generalize hrq:rqB i r=rq at *
 clear hrq
 have te1:(e1 != e1)=false:=by simp
 have te2:(e2 != e2)=false:=by simp
 have trq:(rq != rq)=false:=by simp
 obtain ⟨x0,x1,x2⟩:=KX.out w10 (bel_in Q5.out C10.out)
 have z0:=fun dd os=>cell_regrown (w:=w10) x0 dd os
 have z1:=fun dd os=>cell_regrown (w:=w10) x1 dd os
 have z2:=fun dd os=>cell_regrown (w:=w10) x2 dd os
 have P1:=Lib.hid (fun dd os=>KA1.out _ (below_regrown w10 dd os))
 have P2:=Lib.hid (fun dd os=>KA2.out _ (below_regrown w10 dd os))
 have P3:=Lib.hid (fun dd os=>KRV'.out _ (below_regrown w10 dd os))
 have P4:=Lib.hid (fun dd os=>KRD'.out _ (below_regrown w10 dd os))
 have BD:=Lib.hid (fun dd os=>below_regrown w10 dd os)
 clear x0 x1 x2
 go_wp2_with fail
 refine wp_region_quiet_below mixed (by kernel_rfl) ?_
 repeat (go_big_quiet_step (first|(go_at_call 17;first|(with_reducible refine Calls.regrown_of (P1.out _ _))|(with_reducible refine Calls.regrown_of (P2.out _ _)))|(go_at_call 18;refine Calls.regrown_of (P3.out _ _))|(go_at_call 19;refine Calls.regrown_of (P4.out _ _))))
 refine wpQuiet_nil ?_
 intro w11 hw11
 have B1011:=Lib.hid (show Below w10.heap.size w10 w11 from by obtain ⟨pp,e⟩:=hw11;rw [e];exact BD.out pp.d pp.os)
 have C11:=Lib.hid (bel_in C10.out B1011.out)
 have Q11:=Lib.hid (bel_in Q5.out C11.out)
 clear hw11 BD z0 z1 z2 P1 P2 P3 P4 KA1 KA2 KRV' KRD'
 obtain ⟨x0,x1,x2⟩:=KX.out w11 Q11.out
 have z0:=fun dd os=>cell_regrown (w:=w11) x0 dd os
 have z1:=fun dd os=>cell_regrown (w:=w11) x1 dd os
 have z2:=fun dd os=>cell_regrown (w:=w11) x2 dd os
 have BD:=Lib.hid (fun dd os=>below_regrown w11 dd os)
 have RS11:=Lib.hid (fun (W:World) (hx:Below w11.heap.size w11 W)=>RS.out W (bel_in (bel_in (bel_in (bel_in (bel_in D7.out D8.out) D9.out) D10.out) B1011.out) hx))
 have P1:=Lib.hid (fun dd os=>KSV.out _ (bel_in C11.out (below_regrown w11 dd os)))
 have P2:=Lib.hid (fun dd os=>KSD.out _ (bel_in C11.out (below_regrown w11 dd os)))
 have P3:=Lib.hid (fun dd os=>KMV.out As cs s SL.out _ (bel_in C11.out (below_regrown w11 dd os)) (RS11.out _ (below_regrown w11 dd os)))
 have P4:=Lib.hid (fun dd os=>KMD.out As cs s SL.out _ (bel_in C11.out (below_regrown w11 dd os)) (RS11.out _ (below_regrown w11 dd os)))
 have P5:=Lib.hid (fun dd os=>KCV.out As cs s SL.out _ (bel_in C11.out (below_regrown w11 dd os)) (RS11.out _ (below_regrown w11 dd os)))
 have P6:=Lib.hid (fun dd os=>KCD.out As cs s SL.out _ (bel_in C11.out (below_regrown w11 dd os)) (RS11.out _ (below_regrown w11 dd os)))
 have P7:=Lib.hid (fun dd os=>KCV.out Al cl l hl200 _ (bel_in C11.out (below_regrown w11 dd os)) (HLL.out _ (bel_in C11.out (below_regrown w11 dd os))))
 have P8:=Lib.hid (fun dd os=>KCD.out Al cl l hl200 _ (bel_in C11.out (below_regrown w11 dd os)) (HLL.out _ (bel_in C11.out (below_regrown w11 dd os))))
 generalize setB U.length l=y1 at P1 P2
 generalize ((rq&&setB U.length s)&&(fltS U (heldU U m) i r s).isEmpty)=y2 at P3 P4
 generalize clB U s=y3 at P5 P6
 generalize clB U l=y4 at P7 P8
 have ty1:(y1==y1)=true:=beq_self_eq_true _
 have ty2:(y2==y2)=true:=beq_self_eq_true _
 have ty3:(y3==y3)=true:=beq_self_eq_true _
 have ty4:(y4==y4)=true:=beq_self_eq_true _
 clear x0 x1 x2 KSV KSD KMV KMD KCV KCD KFV KFD KRV KRD
 go_wp2_with fail
 refine wp_region_quiet_below mixed (by kernel_rfl) ?_
 repeat (go_big_quiet_step (first|(go_at_call 20;refine Calls.regrown_of (P1.out _ _))|(go_at_call 21;refine Calls.regrown_of (P2.out _ _))|(go_at_call 22;refine Calls.regrown_of (P3.out _ _))|(go_at_call 23;refine Calls.regrown_of (P4.out _ _))|(go_at_call 24;first|(with_reducible refine Calls.regrown_of (P5.out _ _))|(with_reducible refine Calls.regrown_of (P7.out _ _)))|(go_at_call 25;first|(with_reducible refine Calls.regrown_of (P6.out _ _))|(with_reducible refine Calls.regrown_of (P8.out _ _)))))
 refine wpQuiet_nil ?_
 intro w12 hw12
 have FIN:=Lib.hid (bel_in B6.out (bel_in C11.out (show Below w11.heap.size w11 w12 from by obtain ⟨pp,e⟩:=hw12;rw [e];exact BD.out pp.d pp.os)))
 clear hw12 BD z0 z1 z2 P1 P2 P3 P4 P5 P6 P7 P8
 go_wp2
 go_ret
 exact ⟨by first|rfl|simp,FIN.out⟩
end Go.Proofs.YthchfkhpmgkghaaGreatDoor
