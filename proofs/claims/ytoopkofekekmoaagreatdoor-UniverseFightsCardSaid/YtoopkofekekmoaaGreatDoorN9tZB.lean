/- What the laws rest on: N9t. -/
import Derived.Test.YtoopkofekekmoaaGreatDoorQAZZB
import Derived.Test.YtoopkofekekmoaaGreatDoorQBDZB
set_option maxRecDepth 100000
set_option linter.unusedVariables false
set_option linter.unusedSimpArgs false
namespace Go.Proofs.YtoopkofekekmoaaGreatDoor
open Go.RowKit Go.Sort
set_option maxHeartbeats 32000000 in
theorem fights9 (A:Option Addr) (n0 c:Nat) (L:List Ent) (A':Option Addr) (n1 c':Nat) (m:List Hr) (w:World) (h:rdEnts w (lt_ w.heap.size) L [.slice A n0 c]) (h':rdHrs w (lt_ w.heap.size) m [.slice A' n1 c']) (E:EnvR w) :
  Calls Tryz.prog 4 #[.slice A n0 c,.slice A' n1 c'] w fun e w'=>e=.returned (.bool true)∧Below w.heap.size w w':=by
 obtain ⟨rfl,hnc,hcm,-⟩:=rdEnts_at h
 obtain ⟨rfl,hnc',hcm',-⟩:=rdHrs_at h'
 have hcx:c≤9223372036854775807:=hcm
 have hcy:c'≤9223372036854775807:=hcm'
 have HE:=Lib.hid E
 have H:=Lib.hid (fun (W:World) (hb:Below w.heap.size w W)=>(rdEnts_good.up (rdEnts_good.below h hb) hb.size:rdEnts W (lt_ W.heap.size) L [.slice A L.length c]))
 have H':=Lib.hid (fun (W:World) (hb:Below w.heap.size w W)=>(rdHrs_good.up (rdHrs_good.below h' hb) hb.size:rdHrs W (lt_ W.heap.size) m [.slice A' m.length c']))
 clear h h' hcm hcm' E
 go_enter Tryz.func4,Tryz.ntmps4
 go_wp2_with fail
 refine (shown9_any w (HE.out.below (Below.refl _ _))).mono ?_
 rintro e w1 ⟨rfl,hb⟩
 have B1:=Lib.hid (hb)
 clear hb
 go_wp2_with fail
 refine (small9_any A L.length c L A' m.length c' m w1 (H.out w1 B1.out) (H'.out w1 B1.out)).mono ?_
 rintro e w2 ⟨⟨ok,rfl,hfw⟩,hb⟩
 have B2:=Lib.hid (bel_in B1.out hb)
 clear hb
 cases ok
 ·go_wp2
  go_ret
  exact ⟨rfl,B2.out⟩
 have FW:=Lib.hid (hfw rfl)
 clear hfw
 by_cases h40:40 < L.length
 ·have h40':(40:Int) < (L.length:Int):=by omega
  clear h40
  go_wp2
  go_ret
  exact ⟨rfl,B2.out⟩
 have h40':¬(40:Int) < (L.length:Int):=by omega
 clear h40
 have KN:=Lib.hid (new9_any A L.length c L A' m.length c' m w2 (H.out w2 B2.out) (H'.out w2 B2.out) (fun x hx=>(FW.out.1.2 x hx).sz) (fun y hy=>(FW.out.2.2 y hy).sz) (HE.out.below B2.out))
 go_wp2_with fail
 refine KN.out.mono ?_
 rintro e w3 ⟨hnr,hb⟩
 have B3:=Lib.hid (bel_in B2.out hb)
 clear hb KN
 have KM:=Lib.hid (q9new_any A L.length c L A' m.length c' m w3 (H.out w3 B3.out) (H'.out w3 B3.out) (fun x hx=>(FW.out.1.2 x hx).sz) (fun y hy=>(FW.out.2.2 y hy).sz) (by have:=FW.out.1.1;omega) (by have:=FW.out.2.1;omega))
 by_cases hboth:L.all rgtE=true∧rightH m=true
 rotate_left
 ·obtain rfl:=hnr.1 hboth
  clear hnr
  go_wp2_with fail
  refine KM.out.mono ?_
  rintro e w4 ⟨hnu,hb⟩
  obtain rfl:=hnu.1 hboth
  have B4:=Lib.hid (bel_in B3.out hb)
  clear hb hboth hnu KM
  go_wp2
  go_ret
  exact ⟨rfl,B4.out⟩
 by_cases hmany:64 < (entU L (m.map fun y=>y.e)).length
 ·obtain rfl:=hnr.2.1 hboth hmany
  clear hnr
  go_wp2_with fail
  refine KM.out.mono ?_
  rintro e w4 ⟨hnu,hb⟩
  obtain rfl:=hnu.2.1 hboth hmany
  have B4:=Lib.hid (bel_in B3.out hb)
  clear hb hboth hnu KM hmany
  go_wp2
  go_ret
  exact ⟨rfl,B4.out⟩
 obtain ⟨b,rfl,hup⟩:=hnr.2.2 hboth hmany
 have HRP:=Lib.hid ((rightH_iff m).1 hboth.2)
 have HLU:=Lib.hid (Nat.le_of_not_lt hmany)
 have BOTH:=Lib.hid hboth
 have HUP:=Lib.hid hup
 have MANY:=Lib.hid hmany
 clear hnr hboth hmany hup
 go_wp2_with fail
 refine KM.out.mono ?_
 rintro e w4 ⟨hnu,hb⟩
 obtain ⟨b2,rfl,hur⟩:=hnu.2.2 BOTH.out MANY.out
 have B4:=Lib.hid (bel_in B3.out hb)
 have HU:=Lib.hid (fun (W:World) (hx:Below w4.heap.size w4 W)=>HUP.out.below (bel_in hb hx))
 have HR:=Lib.hid (fun (W:World) (hx:Below w4.heap.size w4 W)=>hur.below hx)
 have SP:=Lib.hid (ent_sub9 (P:=fun x=>x.p.length≤1000) (L:=L) (once_right HRP.out.2.1) (fun x hx=>by
  have:=(rgt_v (List.all_eq_true.1 BOTH.out.1 x hx)).2;omega) (fun x hx=>by
  obtain ⟨y,hy,rfl⟩:=List.mem_map.1 hx
  have:=(rgt_v (HRP.out.1 y hy)).2;omega))
 have HMN:=Lib.hid (show m.length≤70 from FW.out.2.1)
 have HMZ:=Lib.hid (show ∀y ∈ m,y.e.n.size≤1000000 from fun y hy=>by have:=(FW.out.2.2 y hy).2.2.1;omega)
 have HM4:=Lib.hid (fun (W:World) (hx:Below w4.heap.size w4 W)=>H'.out W (bel_in B4.out hx))
 have HE4:=Lib.hid (fun (W:World) (hx:Below w4.heap.size w4 W)=>HE.out.below (bel_in B4.out hx))
 obtain ⟨Ad,cd,hdc,hdm,hdr⟩:=hur.row9
 have DR:=Lib.hid hdr
 clear hb hnu hur hdr KM HUP BOTH MANY HRP FW H H' HE
 generalize entU L (m.map fun y=>y.e)=U at *
 have KF:=Lib.hid (fights9_any b U m w4 (HU.out w4 (Below.refl _ _)) (by have:=HLU.out;omega) SP.out (HE4.out w4 (Below.refl _ _)))
 have KG:=Lib.hid (fun (W:World) (hx:Below w4.heap.size w4 W)=>q9fights_any b2 U m W (HR.out W hx) (by have:=HLU.out;omega) SP.out)
 go_wp2_with fail
 refine KF.out.mono ?_
 rintro e w5 ⟨⟨Af,cf,rfl,hf⟩,hb⟩
 have C5:=Lib.hid hb
 have RF:=Lib.hid hf
 clear hb hf KF
 go_wp2_with fail
 refine (KG.out w5 C5.out).mono ?_
 rintro e w6 ⟨⟨Ag,cg,rfl,hg⟩,hb⟩
 have C6:=Lib.hid (bel_in C5.out hb)
 have KS:=Lib.hid (samePairs9_any Af Ag _ cf _ cg (fgU U 0) (fgU U 0) w6 (rdPrs_good.up (rdPrs_good.below RF.out hb) hb.size) hg)
 rw [decide_eq_true rfl] at KS
 clear hb hg KG RF
 go_wp2_with fail
 refine KS.out.mono ?_
 rintro e w7 ⟨rfl,hd⟩
 have C7:=Lib.hid (bel_in B4.out (bel_in C6.out (hd.below w6.heap.size)))
 clear hd KS
 go_wp2
 go_ret
 exact ⟨rfl,C7.out⟩
end Go.Proofs.YtoopkofekekmoaaGreatDoor
