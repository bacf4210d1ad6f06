/- What the laws rest on: N9s. -/
import Derived.Test.YtoopkofekekmoaaGreatDoorQAWZB
import Derived.Test.YtoopkofekekmoaaGreatDoorQAZZB
set_option maxRecDepth 100000
set_option linter.unusedVariables false
set_option linter.unusedSimpArgs false
namespace Go.Proofs.YtoopkofekekmoaaGreatDoor
open Go.RowKit Go.Sort
set_option maxHeartbeats 32000000 in
theorem news9 (A:Option Addr) (n0 c:Nat) (L:List Ent) (A':Option Addr) (n1 c':Nat) (m:List Hr) (w:World) (h:rdEnts w (lt_ w.heap.size) L [.slice A n0 c]) (h':rdHrs w (lt_ w.heap.size) m [.slice A' n1 c']) (E:EnvR w) :
  Calls Tryz.prog 3 #[.slice A n0 c,.slice A' n1 c'] w fun e w'=>e=.returned (.bool true)∧Below w.heap.size w w':=by
 obtain ⟨rfl,hnc,hcm,-⟩:=rdEnts_at h
 obtain ⟨rfl,hnc',hcm',-⟩:=rdHrs_at h'
 have hcx:c≤9223372036854775807:=hcm
 have hcy:c'≤9223372036854775807:=hcm'
 have HE:=Lib.hid E
 have H:=Lib.hid (fun (W:World) (hb:Below w.heap.size w W)=>(rdEnts_good.up (rdEnts_good.below h hb) hb.size:rdEnts W (lt_ W.heap.size) L [.slice A L.length c]))
 have H':=Lib.hid (fun (W:World) (hb:Below w.heap.size w W)=>(rdHrs_good.up (rdHrs_good.below h' hb) hb.size:rdHrs W (lt_ W.heap.size) m [.slice A' m.length c']))
 clear h h' hcm hcm' E
 go_enter Tryz.func3,Tryz.ntmps3
 go_wp2_with fail
 refine (shown9_any w (HE.out.below (Below.refl _ _))).mono ?_
 rintro e w1 ⟨rfl,hb⟩
 have B1:=Lib.hid (hb)
 clear hb
 go_wp2_with fail
 refine (small9_any A L.length c L A' m.length c' m w1 (H.out w1 B1.out) (H'.out w1 B1.out)).mono ?_
 rintro e w2 ⟨⟨ok,rfl,hfw⟩,hb⟩
 have B2:=Lib.hid (bel_in B1.out hb)
 clear hb
 cases ok
 ·go_wp2
  go_ret
  exact ⟨rfl,B2.out⟩
 have FW:=Lib.hid (hfw rfl)
 clear hfw
 have KN:=Lib.hid (new9_any A L.length c L A' m.length c' m w2 (H.out w2 B2.out) (H'.out w2 B2.out) (fun x hx=>(FW.out.1.2 x hx).sz) (fun y hy=>(FW.out.2.2 y hy).sz) (HE.out.below B2.out))
 go_wp2_with fail
 refine KN.out.mono ?_
 rintro e w3 ⟨hnr,hb⟩
 have B3:=Lib.hid (bel_in B2.out hb)
 clear hb KN
 have KM:=Lib.hid (q9new_any A L.length c L A' m.length c' m w3 (H.out w3 B3.out) (H'.out w3 B3.out) (fun x hx=>(FW.out.1.2 x hx).sz) (fun y hy=>(FW.out.2.2 y hy).sz) (by have:=FW.out.1.1;omega) (by have:=FW.out.2.1;omega))
 by_cases hboth:L.all rgtE=true∧rightH m=true
 rotate_left
 ·obtain rfl:=hnr.1 hboth
  clear hnr
  go_wp2_with fail
  refine KM.out.mono ?_
  rintro e w4 ⟨hnu,hb⟩
  obtain rfl:=hnu.1 hboth
  have B4:=Lib.hid (bel_in B3.out hb)
  clear hb hboth hnu KM
  go_wp2_with fail
  go_quiet (fail)
  go_wp2
  go_ret
  exact ⟨rfl,belD B4.out _⟩
 by_cases hmany:64 < (entU L (m.map fun y=>y.e)).length
 ·obtain rfl:=hnr.2.1 hboth hmany
  clear hnr
  go_wp2_with fail
  refine KM.out.mono ?_
  rintro e w4 ⟨hnu,hb⟩
  obtain rfl:=hnu.2.1 hboth hmany
  have B4:=Lib.hid (bel_in B3.out hb)
  clear hb hboth hnu KM hmany
  go_wp2_with fail
  go_quiet (fail)
  go_wp2
  go_ret
  exact ⟨rfl,belD B4.out _⟩
 obtain ⟨b,rfl,hup⟩:=hnr.2.2 hboth hmany
 have HRP:=Lib.hid ((rightH_iff m).1 hboth.2)
 have HLU:=Lib.hid (Nat.le_of_not_lt hmany)
 have BOTH:=Lib.hid hboth
 have HUP:=Lib.hid hup
 have MANY:=Lib.hid hmany
 clear hnr hboth hmany hup
 go_wp2_with fail
 refine KM.out.mono ?_
 rintro e w4 ⟨hnu,hb⟩
 obtain ⟨b2,rfl,hur⟩:=hnu.2.2 BOTH.out MANY.out
 have B4:=Lib.hid (bel_in B3.out hb)
 have HU:=Lib.hid (fun (W:World) (hx:Below w4.heap.size w4 W)=>HUP.out.below (bel_in hb hx))
 have HR:=Lib.hid (fun (W:World) (hx:Below w4.heap.size w4 W)=>hur.below hx)
 have SP:=Lib.hid (ent_sub9 (P:=fun x=>x.p.length≤1000) (L:=L) (once_right HRP.out.2.1) (fun x hx=>by
  have:=(rgt_v (List.all_eq_true.1 BOTH.out.1 x hx)).2;omega) (fun x hx=>by
  obtain ⟨y,hy,rfl⟩:=List.mem_map.1 hx
  have:=(rgt_v (HRP.out.1 y hy)).2;omega))
 have HMN:=Lib.hid (show m.length≤70 from FW.out.2.1)
 have HMZ:=Lib.hid (show ∀y ∈ m,y.e.n.size≤1000000 from fun y hy=>by have:=(FW.out.2.2 y hy).2.2.1;omega)
 have HM4:=Lib.hid (fun (W:World) (hx:Below w4.heap.size w4 W)=>H'.out W (bel_in B4.out hx))
 have HE4:=Lib.hid (fun (W:World) (hx:Below w4.heap.size w4 W)=>HE.out.below (bel_in B4.out hx))
 obtain ⟨Ad,cd,hdc,hdm,hdr⟩:=hur.row9
 have DR:=Lib.hid hdr
 clear hb hnu hur hdr KM HUP BOTH MANY HRP FW H H' HE
 generalize entU L (m.map fun y=>y.e)=U at *
 go_wp2_with fail
 refine wp_region_noPanic ?_
 refine wp_region_D (fun W=>W.cell? ⟨b2,0,none⟩=some (.slice Ad U.length cd)) 52 (by kernel_rfl) (w0:=w4) (Dr.refl _) (fun V hV=>(DR.out V (hV.below _)).1) (fun V hV hHeld=>?_)
 have C0:=Lib.hid (hV.below w4.heap.size)
 clear hV
 refine wpAnyL_take (i:=0) (v:=?_) [51,6,5,2,1] rfl (by kernel_rfl) (by kernel_rfl) (by kernel_rfl) (fun _ _ _ h=>h) (by kernel_rfl) (by kernel_rfl) (by kernel_rfl) (Or.inl ⟨by rfl,?_⟩) (by assumption) ?_
 rotate_left
 ·intro w hSw
  try dsimp only at hSw
  go_simp
  first|done|with_reducible rfl
 try simp only [Act.put,List.setIfInBounds_toArray,List.set_cons_zero,List.set_cons_succ,List.getElem_toArray,List.getElem_cons_zero,List.getElem_cons_succ]
 refine wpAnyL_take (i:=1) (v:=?_) [51,6,5,2] rfl (by kernel_rfl) (by kernel_rfl) (by kernel_rfl) (fun _ _ _ h=>h) (by kernel_rfl) (by kernel_rfl) (by kernel_rfl) (Or.inl ⟨by rfl,?_⟩) (by assumption) ?_
 rotate_left
 ·intro w hSw
  try dsimp only at hSw
  go_simp
  first|done|with_reducible rfl
 try simp only [Act.put,List.setIfInBounds_toArray,List.set_cons_zero,List.set_cons_succ,List.getElem_toArray,List.getElem_cons_zero,List.getElem_cons_succ]
 refine wpAnyL_take (i:=2) (v:=?_) [51,6,5] rfl (by kernel_rfl) (by kernel_rfl) (by kernel_rfl) (fun _ _ _ h=>h) (by kernel_rfl) (by kernel_rfl) (by kernel_rfl) (Or.inl ⟨by rfl,?_⟩) (by assumption) ?_
 rotate_left
 ·intro w hSw
  try dsimp only at hSw
  go_simp
  first|done|with_reducible rfl
 try simp only [Act.put,List.setIfInBounds_toArray,List.set_cons_zero,List.set_cons_succ,List.getElem_toArray,List.getElem_cons_zero,List.getElem_cons_succ]
 refine wpAnyL_take (i:=3) (v:=?_) [51,6,5,4] rfl (by kernel_rfl) (by kernel_rfl) (by kernel_rfl) (fun _ _ _ h=>h) (by kernel_rfl) (by kernel_rfl) (by kernel_rfl) (Or.inl ⟨by rfl,?_⟩) (by assumption) ?_
 rotate_left
 ·intro w hSw
  try dsimp only at hSw
  go_simp
  first|done|with_reducible rfl
 try simp only [Act.put,List.setIfInBounds_toArray,List.set_cons_zero,List.set_cons_succ,List.getElem_toArray,List.getElem_cons_zero,List.getElem_cons_succ]
 refine wpAnyL_take (i:=4) (v:=?_) [51,6,5] rfl (by kernel_rfl) (by kernel_rfl) (by kernel_rfl) (fun _ _ _ h=>h) (by kernel_rfl) (by kernel_rfl) (by kernel_rfl) (Or.inl ⟨by rfl,?_⟩) (by assumption) ?_
 rotate_left
 ·intro w hSw
  try dsimp only at hSw
  go_simp
  first|done|with_reducible rfl
 try simp only [Act.put,List.setIfInBounds_toArray,List.set_cons_zero,List.set_cons_succ,List.getElem_toArray,List.getElem_cons_zero,List.getElem_cons_succ]
 refine wpAnyL_take (i:=5) (v:=?_) [51,6] rfl (by kernel_rfl) (by kernel_rfl) (by kernel_rfl) (fun _ _ _ h=>h) (by kernel_rfl) (by kernel_rfl) (by kernel_rfl) (Or.inl ⟨by rfl,?_⟩) (by assumption) ?_
 rotate_left
 ·intro w hSw
  try dsimp only at hSw
  go_simp
  first|done|with_reducible rfl
 try simp only [Act.put,List.setIfInBounds_toArray,List.set_cons_zero,List.set_cons_succ,List.getElem_toArray,List.getElem_cons_zero,List.getElem_cons_succ]
 refine wpAnyL_take (i:=6) (v:=?_) [51] rfl (by kernel_rfl) (by kernel_rfl) (by kernel_rfl) (fun _ _ _ h=>h) (by kernel_rfl) (by kernel_rfl) (by kernel_rfl) (Or.inl ⟨by rfl,?_⟩) (by assumption) ?_
 rotate_left
 ·intro w hSw
  try dsimp only at hSw
  go_simp
  first|done|with_reducible rfl
 try simp only [Act.put,List.setIfInBounds_toArray,List.set_cons_zero,List.set_cons_succ,List.getElem_toArray,List.getElem_cons_zero,List.getElem_cons_succ]
 refine wpAnyL_take (i:=7) (v:=?_) [51,50,44,43,37,36,30,29,20,19,14,13,8] rfl (by kernel_rfl) (by kernel_rfl) (by kernel_rfl) (fun _ _ _ h=>h) (by kernel_rfl) (by kernel_rfl) (by kernel_rfl) (Or.inl ⟨by rfl,?_⟩) (by assumption) ?_
 rotate_left
 ·intro w hSw
  try dsimp only at hSw
  go_simp
  first|done|with_reducible rfl
 try simp only [Act.put,List.setIfInBounds_toArray,List.set_cons_zero,List.set_cons_succ,List.getElem_toArray,List.getElem_cons_zero,List.getElem_cons_succ]
 refine wpAnyL_take (i:=9) (v:=?_) [51,50,44,43,37,36,30,29,20,19,14,13,12,11,10] rfl (by kernel_rfl) (by kernel_rfl) (by kernel_rfl) (fun _ _ _ h=>h) (by kernel_rfl) (by kernel_rfl) (by kernel_rfl) (Or.inl ⟨by rfl,?_⟩) (by assumption) ?_
 rotate_left
 ·intro w hSw
  try dsimp only at hSw
  go_simp
  first|done|with_reducible rfl
 try simp only [Act.put,List.setIfInBounds_toArray,List.set_cons_zero,List.set_cons_succ,List.getElem_toArray,List.getElem_cons_zero,List.getElem_cons_succ]
 refine wpAnyL_take (i:=10) (v:=?_) [51,50,44,43,37,36,30,29,20,19,14,13,12,11] rfl (by kernel_rfl) (by kernel_rfl) (by kernel_rfl) (fun _ _ _ h=>h) (by kernel_rfl) (by kernel_rfl) (by kernel_rfl) (Or.inl ⟨by rfl,?_⟩) (by assumption) ?_
 rotate_left
 ·intro w hSw
  try dsimp only at hSw
  go_simp
  first|done|with_reducible rfl
 try simp only [Act.put,List.setIfInBounds_toArray,List.set_cons_zero,List.set_cons_succ,List.getElem_toArray,List.getElem_cons_zero,List.getElem_cons_succ]
 refine wpAnyL_take (i:=11) (v:=?_) [51,50,44,43,37,36,30,29,20,19,14,13,12] rfl (by kernel_rfl) (by kernel_rfl) (by kernel_rfl) (fun _ _ _ h=>h) (by kernel_rfl) (by kernel_rfl) (by kernel_rfl) (Or.inl ⟨by rfl,?_⟩) (by assumption) ?_
 rotate_left
 ·intro w hSw
  try dsimp only at hSw
  go_simp
  first|done|with_reducible rfl
 try simp only [Act.put,List.setIfInBounds_toArray,List.set_cons_zero,List.set_cons_succ,List.getElem_toArray,List.getElem_cons_zero,List.getElem_cons_succ]
 refine wpAnyL_take (i:=12) (v:=?_) [51,50,44,43,37,36,30,29,20,19,14,13] rfl (by kernel_rfl) (by kernel_rfl) (by kernel_rfl) (fun _ _ _ h=>h) (by kernel_rfl) (by kernel_rfl) (by kernel_rfl) (Or.inl ⟨by rfl,?_⟩) (by assumption) ?_
 rotate_left
 ·intro w hSw
  try dsimp only at hSw
  go_simp
  first|done|with_reducible rfl
 try simp only [Act.put,List.setIfInBounds_toArray,List.set_cons_zero,List.set_cons_succ,List.getElem_toArray,List.getElem_cons_zero,List.getElem_cons_succ]
 refine wpAnyL_one (i:=8) (by kernel_rfl) rfl (fun K hK=>?_)
 go_simp
 refine (entries9_any b U m V (HU.out V C0.out) (by have:=HLU.out;omega)).mono ?_
 rintro e V1 ⟨⟨Ae,cAe,rfl,hre⟩,hb⟩
 have C1:=Lib.hid (bel_in C0.out hb)
 have RE:=Lib.hid hre
 clear hre
 clear hb
 go_wp2_with fail
 refine hK.out _ _ (DR.out _ C1.out).1 (fun hHeld=>?_)
 clear hK K
 try simp only [Act.put,List.setIfInBounds_toArray,List.set_cons_zero,List.set_cons_succ,List.getElem_toArray,List.getElem_cons_zero,List.getElem_cons_succ]
 refine wpAnyL_one (i:=13) (by kernel_rfl) rfl (fun K hK=>?_)
 have q:=sameEnts9_any Ae Ad _ cAe _ cd U U V1 RE.out (DR.out V1 C1.out).2
 rw [decide_eq_true rfl] at q
 go_simp
 refine (q).mono ?_
 rintro e V2 ⟨rfl,hb⟩
 have C2:=Lib.hid (bel_in C1.out hb)
 clear hb q
 go_wp2_with fail
 refine hK.out _ _ (DR.out _ C2.out).1 (fun hHeld=>?_)
 clear hK K
 try simp only [Act.put,List.setIfInBounds_toArray,List.set_cons_zero,List.set_cons_succ,List.getElem_toArray,List.getElem_cons_zero,List.getElem_cons_succ]
 refine wpAnyL_take (i:=14) (v:=?_) [51,50,44,43,37,36,30,29,20,19] rfl (by kernel_rfl) (by kernel_rfl) (by kernel_rfl) (fun _ _ _ h=>h) (by kernel_rfl) (by kernel_rfl) (by kernel_rfl) (Or.inl ⟨by rfl,?_⟩) (by assumption) ?_
 rotate_left
 ·intro w hSw
  try dsimp only at hSw
  go_simp
  first|done|with_reducible rfl
 try simp only [Act.put,List.setIfInBounds_toArray,List.set_cons_zero,List.set_cons_succ,List.getElem_toArray,List.getElem_cons_zero,List.getElem_cons_succ]
 refine wpAnyL_take (i:=15) (v:=?_) [51,50,44,43,37,36,30,29,20,19,18,16] rfl (by kernel_rfl) (by kernel_rfl) (by kernel_rfl) (fun _ _ _ h=>h) (by kernel_rfl) (by kernel_rfl) (by kernel_rfl) (Or.inl ⟨by rfl,?_⟩) (by assumption) ?_
 rotate_left
 ·intro w hSw
  try dsimp only at hSw
  go_simp
  first|done|with_reducible rfl
 try simp only [Act.put,List.setIfInBounds_toArray,List.set_cons_zero,List.set_cons_succ,List.getElem_toArray,List.getElem_cons_zero,List.getElem_cons_succ]
 refine wpAnyL_take (i:=17) (v:=?_) [51,50,44,43,37,36,30,29,20,19,18] rfl (by kernel_rfl) (by kernel_rfl) (by kernel_rfl) (fun _ _ _ h=>h) (by kernel_rfl) (by kernel_rfl) (by kernel_rfl) (Or.inl ⟨by rfl,?_⟩) (by assumption) ?_
 rotate_left
 ·intro w hSw
  try dsimp only at hSw
  go_simp
  first|done|with_reducible rfl
 try simp only [Act.put,List.setIfInBounds_toArray,List.set_cons_zero,List.set_cons_succ,List.getElem_toArray,List.getElem_cons_zero,List.getElem_cons_succ]
 refine wpAnyL_one (i:=16) (by kernel_rfl) rfl (fun K hK=>?_)
 go_simp
 refine (here9_any b U m V2 (HU.out V2 C2.out) (by have:=HMN.out;omega)).mono ?_
 rintro e V3 ⟨⟨Ah,cAh,rfl,hre⟩,hb⟩
 have C3:=Lib.hid (bel_in C2.out hb)
 have RH:=Lib.hid hre
 clear hre
 clear hb
 go_wp2_with fail
 refine hK.out _ _ (DR.out _ C3.out).1 (fun hHeld=>?_)
 clear hK K
 try simp only [Act.put,List.setIfInBounds_toArray,List.set_cons_zero,List.set_cons_succ,List.getElem_toArray,List.getElem_cons_zero,List.getElem_cons_succ]
 refine wpAnyL_one (i:=18) (by kernel_rfl) rfl (fun K hK=>?_)
 have q:=sameHere9_any Ah A' _ cAh _ c' m m V3 RH.out (HM4.out V3 C3.out)
 rw [decide_eq_true rfl] at q
 go_simp
 refine (q).mono ?_
 rintro e V4 ⟨rfl,hb⟩
 have C4:=Lib.hid (bel_in C3.out hb)
 clear hb q
 go_wp2_with fail
 refine hK.out _ _ (DR.out _ C4.out).1 (fun hHeld=>?_)
 clear hK K
 try simp only [Act.put,List.setIfInBounds_toArray,List.set_cons_zero,List.set_cons_succ,List.getElem_toArray,List.getElem_cons_zero,List.getElem_cons_succ]
 refine wpAnyL_take (i:=19) (v:=?_) [51,50,44,43,37,36,30,29,20] rfl (by kernel_rfl) (by kernel_rfl) (by kernel_rfl) (fun _ _ _ h=>h) (by kernel_rfl) (by kernel_rfl) (by kernel_rfl) (Or.inl ⟨by rfl,?_⟩) (by assumption) ?_
 rotate_left
 ·intro w hSw
  try dsimp only at hSw
  go_simp
  first|done|with_reducible rfl
 try simp only [Act.put,List.setIfInBounds_toArray,List.set_cons_zero,List.set_cons_succ,List.getElem_toArray,List.getElem_cons_zero,List.getElem_cons_succ]
 refine wpAnyL_take (i:=20) (v:=?_) [51,50,44,43,37,36,30,29] rfl (by kernel_rfl) (by kernel_rfl) (by kernel_rfl) (fun _ _ _ h=>h) (by kernel_rfl) (by kernel_rfl) (by kernel_rfl) (Or.inl ⟨by rfl,?_⟩) (by assumption) ?_
 rotate_left
 ·intro w hSw
  try dsimp only at hSw
  go_simp
  first|done|with_reducible rfl
 try simp only [Act.put,List.setIfInBounds_toArray,List.set_cons_zero,List.set_cons_succ,List.getElem_toArray,List.getElem_cons_zero,List.getElem_cons_succ]
 refine wpAnyL_take (i:=21) (v:=?_) [51,50,44,43,37,36,30,29,28,22] rfl (by kernel_rfl) (by kernel_rfl) (by kernel_rfl) (fun _ _ _ h=>h) (by kernel_rfl) (by kernel_rfl) (by kernel_rfl) (Or.inl ⟨by rfl,?_⟩) (by assumption) ?_
 rotate_left
 ·intro w hSw
  try dsimp only at hSw
  go_simp
  first|done|with_reducible rfl
 try simp only [Act.put,List.setIfInBounds_toArray,List.set_cons_zero,List.set_cons_succ,List.getElem_toArray,List.getElem_cons_zero,List.getElem_cons_succ]
 refine wpAnyL_take (i:=23) (v:=?_) [51,50,44,43,37,36,30,29,28,27,26,25,24] rfl (by kernel_rfl) (by kernel_rfl) (by kernel_rfl) (fun _ _ _ h=>h) (by kernel_rfl) (by kernel_rfl) (by kernel_rfl) (Or.inl ⟨by rfl,?_⟩) (by assumption) ?_
 rotate_left
 ·intro w hSw
  try dsimp only at hSw
  go_simp
  first|done|with_reducible rfl
 try simp only [Act.put,List.setIfInBounds_toArray,List.set_cons_zero,List.set_cons_succ,List.getElem_toArray,List.getElem_cons_zero,List.getElem_cons_succ]
 refine wpAnyL_take (i:=24) (v:=?_) [51,50,44,43,37,36,30,29,28,27,26,25] rfl (by kernel_rfl) (by kernel_rfl) (by kernel_rfl) (fun _ _ _ h=>h) (by kernel_rfl) (by kernel_rfl) (by kernel_rfl) (Or.inl ⟨by rfl,?_⟩) (by assumption) ?_
 rotate_left
 ·intro w hSw
  try dsimp only at hSw
  go_simp
  first|done|with_reducible rfl
 try simp only [Act.put,List.setIfInBounds_toArray,List.set_cons_zero,List.set_cons_succ,List.getElem_toArray,List.getElem_cons_zero,List.getElem_cons_succ]
 refine wpAnyL_take (i:=25) (v:=?_) [51,50,44,43,37,36,30,29,28,27,26] rfl (by kernel_rfl) (by kernel_rfl) (by kernel_rfl) (fun _ _ _ h=>h) (by kernel_rfl) (by kernel_rfl) (by kernel_rfl) (Or.inl ⟨by rfl,?_⟩) (by assumption) ?_
 rotate_left
 ·intro w hSw
  try dsimp only at hSw
  go_simp
  first|done|with_reducible rfl
 try simp only [Act.put,List.setIfInBounds_toArray,List.set_cons_zero,List.set_cons_succ,List.getElem_toArray,List.getElem_cons_zero,List.getElem_cons_succ]
 refine wpAnyL_take (i:=26) (v:=?_) [51,50,44,43,37,36,30,29,28,27] rfl (by kernel_rfl) (by kernel_rfl) (by kernel_rfl) (fun _ _ _ h=>h) (by kernel_rfl) (by kernel_rfl) (by kernel_rfl) (Or.inl ⟨by rfl,?_⟩) (by assumption) ?_
 rotate_left
 ·intro w hSw
  try dsimp only at hSw
  go_simp
  first|done|with_reducible rfl
 try simp only [Act.put,List.setIfInBounds_toArray,List.set_cons_zero,List.set_cons_succ,List.getElem_toArray,List.getElem_cons_zero,List.getElem_cons_succ]
 refine wpAnyL_take (i:=27) (v:=?_) [51,50,44,43,37,36,30,29,28] rfl (by kernel_rfl) (by kernel_rfl) (by kernel_rfl) (fun _ _ _ h=>h) (by kernel_rfl) (by kernel_rfl) (by kernel_rfl) (Or.inl ⟨by rfl,?_⟩) (by assumption) ?_
 rotate_left
 ·intro w hSw
  try dsimp only at hSw
  go_simp
  first|done|with_reducible rfl
 try simp only [Act.put,List.setIfInBounds_toArray,List.set_cons_zero,List.set_cons_succ,List.getElem_toArray,List.getElem_cons_zero,List.getElem_cons_succ]
 refine wpAnyL_one (i:=22) (by kernel_rfl) rfl (fun K hK=>?_)
 go_simp
 refine (len9_any b U m V4 (HU.out V4 C4.out)).mono ?_
 rintro e _ ⟨rfl,rfl⟩
 go_wp2_with fail
 refine hK.out _ _ (DR.out _ C4.out).1 (fun hHeld=>?_)
 clear hK K
 try simp only [Act.put,List.setIfInBounds_toArray,List.set_cons_zero,List.set_cons_succ,List.getElem_toArray,List.getElem_cons_zero,List.getElem_cons_succ]
 refine wpAnyL_take (i:=28) (v:=?_) [51,50,44,43,37,36,30,29] rfl (by kernel_rfl) (by kernel_rfl) (by kernel_rfl) (fun _ _ _ h=>h) (by kernel_rfl) (by kernel_rfl) (by kernel_rfl) (Or.inl ⟨by rfl,?_⟩) (by assumption) ?_
 rotate_left
 ·intro w hSw
  try dsimp only at hSw
  go_simp
  first|done|with_reducible rfl
 try simp only [Act.put,List.setIfInBounds_toArray,List.set_cons_zero,List.set_cons_succ,List.getElem_toArray,List.getElem_cons_zero,List.getElem_cons_succ]
 refine wpAnyL_take (i:=29) (v:=?_) [51,50,44,43,37,36,30] rfl (by kernel_rfl) (by kernel_rfl) (by kernel_rfl) (fun _ _ _ h=>h) (by kernel_rfl) (by kernel_rfl) (by kernel_rfl) (Or.inl ⟨by rfl,?_⟩) (by assumption) ?_
 rotate_left
 ·intro w hSw
  try dsimp only at hSw
  go_simp
  first|done|with_reducible rfl
 try simp only [Act.put,List.setIfInBounds_toArray,List.set_cons_zero,List.set_cons_succ,List.getElem_toArray,List.getElem_cons_zero,List.getElem_cons_succ]
 refine wpAnyL_take (i:=30) (v:=?_) [51,50,44,43,37,36] rfl (by kernel_rfl) (by kernel_rfl) (by kernel_rfl) (fun _ _ _ h=>h) (by kernel_rfl) (by kernel_rfl) (by kernel_rfl) (Or.inl ⟨by rfl,?_⟩) (by assumption) ?_
 rotate_left
 ·intro w hSw
  try dsimp only at hSw
  go_simp
  first|done|with_reducible rfl
 try simp only [Act.put,List.setIfInBounds_toArray,List.set_cons_zero,List.set_cons_succ,List.getElem_toArray,List.getElem_cons_zero,List.getElem_cons_succ]
 refine wpAnyL_take (i:=31) (v:=?_) [51,50,44,43,37,36,35,32] rfl (by kernel_rfl) (by kernel_rfl) (by kernel_rfl) (fun _ _ _ h=>h) (by kernel_rfl) (by kernel_rfl) (by kernel_rfl) (Or.inl ⟨by rfl,?_⟩) (by assumption) ?_
 rotate_left
 ·intro w hSw
  try dsimp only at hSw
  go_simp
  first|done|with_reducible rfl
 try simp only [Act.put,List.setIfInBounds_toArray,List.set_cons_zero,List.set_cons_succ,List.getElem_toArray,List.getElem_cons_zero,List.getElem_cons_succ]
 refine wpAnyL_take (i:=33) (v:=?_) [51,50,44,43,37,36,35,34] rfl (by kernel_rfl) (by kernel_rfl) (by kernel_rfl) (fun _ _ _ h=>h) (by kernel_rfl) (by kernel_rfl) (by kernel_rfl) (Or.inl ⟨by rfl,?_⟩) (by assumption) ?_
 rotate_left
 ·intro w hSw
  try dsimp only at hSw
  go_simp
  first|done|with_reducible rfl
 try simp only [Act.put,List.setIfInBounds_toArray,List.set_cons_zero,List.set_cons_succ,List.getElem_toArray,List.getElem_cons_zero,List.getElem_cons_succ]
 refine wpAnyL_one (i:=32) (by kernel_rfl) rfl (fun K hK=>?_)
 go_simp
 refine (names9_any b U m V4 (HU.out V4 C4.out) HLU.out).mono ?_
 rintro e V5 ⟨⟨An,cAn,rfl,hre⟩,hb⟩
 have C5:=Lib.hid (bel_in C4.out hb)
 have RAn:=Lib.hid hre
 have HBAn:=Lib.hid hb
 clear hre
 clear hb
 go_wp2_with fail
 refine hK.out _ _ (DR.out _ C5.out).1 (fun hHeld=>?_)
 clear hK K
 try simp only [Act.put,List.setIfInBounds_toArray,List.set_cons_zero,List.set_cons_succ,List.getElem_toArray,List.getElem_cons_zero,List.getElem_cons_succ]
 refine wpAnyL_one (i:=34) (by kernel_rfl) rfl (fun K hK=>?_)
 go_simp
 refine (q9names_any b2 U m V5 (HR.out V5 C5.out) (by have:=HLU.out;omega)).mono ?_
 rintro e V6 ⟨⟨Ao,cAo,rfl,hre⟩,hb⟩
 have C6:=Lib.hid (bel_in C5.out hb)
 have RAo:=Lib.hid hre
 have HBAo:=Lib.hid hb
 clear hre
 clear hb
 go_wp2_with fail
 refine hK.out _ _ (DR.out _ C6.out).1 (fun hHeld=>?_)
 clear hK K
 try simp only [Act.put,List.setIfInBounds_toArray,List.set_cons_zero,List.set_cons_succ,List.getElem_toArray,List.getElem_cons_zero,List.getElem_cons_succ]
 refine wpAnyL_one (i:=35) (by kernel_rfl) rfl (fun K hK=>?_)
 have q:=sameTexts9_any An Ao _ cAn _ cAo (nmU none U) (nmU none U) V6 (rdNms_good.up (rdNms_good.below RAn.out HBAo.out) HBAo.out.size) RAo.out
 rw [decide_eq_true rfl] at q
 go_simp
 refine (q).mono ?_
 rintro e V7 ⟨rfl,hb⟩
 have C7:=Lib.hid (bel_in C6.out (hb.below _))
 clear hb q
 go_wp2_with fail
 refine hK.out _ _ (DR.out _ C7.out).1 (fun hHeld=>?_)
 clear hK K
 try simp only [Act.put,List.setIfInBounds_toArray,List.set_cons_zero,List.set_cons_succ,List.getElem_toArray,List.getElem_cons_zero,List.getElem_cons_succ]
 refine wpAnyL_take (i:=36) (v:=?_) [51,50,44,43,37] rfl (by kernel_rfl) (by kernel_rfl) (by kernel_rfl) (fun _ _ _ h=>h) (by kernel_rfl) (by kernel_rfl) (by kernel_rfl) (Or.inl ⟨by rfl,?_⟩) (by assumption) ?_
 rotate_left
 ·intro w hSw
  try dsimp only at hSw
  go_simp
  first|done|with_reducible rfl
 try simp only [Act.put,List.setIfInBounds_toArray,List.set_cons_zero,List.set_cons_succ,List.getElem_toArray,List.getElem_cons_zero,List.getElem_cons_succ]
 refine wpAnyL_take (i:=37) (v:=?_) [51,50,44,43] rfl (by kernel_rfl) (by kernel_rfl) (by kernel_rfl) (fun _ _ _ h=>h) (by kernel_rfl) (by kernel_rfl) (by kernel_rfl) (Or.inl ⟨by rfl,?_⟩) (by assumption) ?_
 rotate_left
 ·intro w hSw
  try dsimp only at hSw
  go_simp
  first|done|with_reducible rfl
 try simp only [Act.put,List.setIfInBounds_toArray,List.set_cons_zero,List.set_cons_succ,List.getElem_toArray,List.getElem_cons_zero,List.getElem_cons_succ]
 refine wpAnyL_take (i:=38) (v:=?_) [51,50,44,43,42,39] rfl (by kernel_rfl) (by kernel_rfl) (by kernel_rfl) (fun _ _ _ h=>h) (by kernel_rfl) (by kernel_rfl) (by kernel_rfl) (Or.inl ⟨by rfl,?_⟩) (by assumption) ?_
 rotate_left
 ·intro w hSw
  try dsimp only at hSw
  go_simp
  first|done|with_reducible rfl
 try simp only [Act.put,List.setIfInBounds_toArray,List.set_cons_zero,List.set_cons_succ,List.getElem_toArray,List.getElem_cons_zero,List.getElem_cons_succ]
 refine wpAnyL_take (i:=40) (v:=?_) [51,50,44,43,42,41] rfl (by kernel_rfl) (by kernel_rfl) (by kernel_rfl) (fun _ _ _ h=>h) (by kernel_rfl) (by kernel_rfl) (by kernel_rfl) (Or.inl ⟨by rfl,?_⟩) (by assumption) ?_
 rotate_left
 ·intro w hSw
  try dsimp only at hSw
  go_simp
  first|done|with_reducible rfl
 try simp only [Act.put,List.setIfInBounds_toArray,List.set_cons_zero,List.set_cons_succ,List.getElem_toArray,List.getElem_cons_zero,List.getElem_cons_succ]
 refine wpAnyL_one (i:=39) (by kernel_rfl) rfl (fun K hK=>?_)
 go_simp
 refine (inst9_any b U m V7 (HU.out V7 C7.out) (by have:=HMN.out;omega) HMZ.out).mono ?_
 rintro e V8 ⟨⟨Ai,cAi,rfl,hre⟩,hb⟩
 have C8:=Lib.hid (bel_in C7.out hb)
 have RAi:=Lib.hid hre
 have HBAi:=Lib.hid hb
 clear hre
 clear hb
 go_wp2_with fail
 refine hK.out _ _ (DR.out _ C8.out).1 (fun hHeld=>?_)
 clear hK K
 try simp only [Act.put,List.setIfInBounds_toArray,List.set_cons_zero,List.set_cons_succ,List.getElem_toArray,List.getElem_cons_zero,List.getElem_cons_succ]
 refine wpAnyL_one (i:=41) (by kernel_rfl) rfl (fun K hK=>?_)
 go_simp
 refine (q9inst_any b2 U m V8 (HR.out V8 C8.out) (by have:=HMN.out;omega)).mono ?_
 rintro e V9 ⟨⟨Aj,cAj,rfl,hre⟩,hb⟩
 have C9:=Lib.hid (bel_in C8.out hb)
 have RAj:=Lib.hid hre
 have HBAj:=Lib.hid hb
 clear hre
 clear hb
 go_wp2_with fail
 refine hK.out _ _ (DR.out _ C9.out).1 (fun hHeld=>?_)
 clear hK K
 try simp only [Act.put,List.setIfInBounds_toArray,List.set_cons_zero,List.set_cons_succ,List.getElem_toArray,List.getElem_cons_zero,List.getElem_cons_succ]
 refine wpAnyL_one (i:=42) (by kernel_rfl) rfl (fun K hK=>?_)
 have q:=sameInts9_any Ai Aj _ cAi _ cAj (insU U m) (insU U m) V9 (rdInts_good.up (rdInts_good.below RAi.out HBAj.out) HBAj.out.size) RAj.out
 rw [decide_eq_true rfl] at q
 go_simp
 refine (q).mono ?_
 rintro e V10 ⟨rfl,hb⟩
 have C10:=Lib.hid (bel_in C9.out (hb.below _))
 clear hb q
 go_wp2_with fail
 refine hK.out _ _ (DR.out _ C10.out).1 (fun hHeld=>?_)
 clear hK K
 try simp only [Act.put,List.setIfInBounds_toArray,List.set_cons_zero,List.set_cons_succ,List.getElem_toArray,List.getElem_cons_zero,List.getElem_cons_succ]
 refine wpAnyL_take (i:=43) (v:=?_) [51,50,44] rfl (by kernel_rfl) (by kernel_rfl) (by kernel_rfl) (fun _ _ _ h=>h) (by kernel_rfl) (by kernel_rfl) (by kernel_rfl) (Or.inl ⟨by rfl,?_⟩) (by assumption) ?_
 rotate_left
 ·intro w hSw
  try dsimp only at hSw
  go_simp
  first|done|with_reducible rfl
 try simp only [Act.put,List.setIfInBounds_toArray,List.set_cons_zero,List.set_cons_succ,List.getElem_toArray,List.getElem_cons_zero,List.getElem_cons_succ]
 refine wpAnyL_take (i:=44) (v:=?_) [51,50] rfl (by kernel_rfl) (by kernel_rfl) (by kernel_rfl) (fun _ _ _ h=>h) (by kernel_rfl) (by kernel_rfl) (by kernel_rfl) (Or.inl ⟨by rfl,?_⟩) (by assumption) ?_
 rotate_left
 ·intro w hSw
  try dsimp only at hSw
  go_simp
  first|done|with_reducible rfl
 try simp only [Act.put,List.setIfInBounds_toArray,List.set_cons_zero,List.set_cons_succ,List.getElem_toArray,List.getElem_cons_zero,List.getElem_cons_succ]
 refine wpAnyL_take (i:=45) (v:=?_) [51,50,49,46] rfl (by kernel_rfl) (by kernel_rfl) (by kernel_rfl) (fun _ _ _ h=>h) (by kernel_rfl) (by kernel_rfl) (by kernel_rfl) (Or.inl ⟨by rfl,?_⟩) (by assumption) ?_
 rotate_left
 ·intro w hSw
  try dsimp only at hSw
  go_simp
  first|done|with_reducible rfl
 try simp only [Act.put,List.setIfInBounds_toArray,List.set_cons_zero,List.set_cons_succ,List.getElem_toArray,List.getElem_cons_zero,List.getElem_cons_succ]
 refine wpAnyL_take (i:=47) (v:=?_) [51,50,49,48] rfl (by kernel_rfl) (by kernel_rfl) (by kernel_rfl) (fun _ _ _ h=>h) (by kernel_rfl) (by kernel_rfl) (by kernel_rfl) (Or.inl ⟨by rfl,?_⟩) (by assumption) ?_
 rotate_left
 ·intro w hSw
  try dsimp only at hSw
  go_simp
  first|done|with_reducible rfl
 try simp only [Act.put,List.setIfInBounds_toArray,List.set_cons_zero,List.set_cons_succ,List.getElem_toArray,List.getElem_cons_zero,List.getElem_cons_succ]
 refine wpAnyL_one (i:=46) (by kernel_rfl) rfl (fun K hK=>?_)
 go_simp
 refine (held9_any b U m V10 (HU.out V10 C10.out) (by have:=HMN.out;omega) HMZ.out).mono ?_
 rintro e V11 ⟨⟨Ak,cAk,rfl,hre⟩,hb⟩
 have C11:=Lib.hid (bel_in C10.out hb)
 have RAk:=Lib.hid hre
 have HBAk:=Lib.hid hb
 clear hre
 clear hb
 go_wp2_with fail
 refine hK.out _ _ (DR.out _ C11.out).1 (fun hHeld=>?_)
 clear hK K
 try simp only [Act.put,List.setIfInBounds_toArray,List.set_cons_zero,List.set_cons_succ,List.getElem_toArray,List.getElem_cons_zero,List.getElem_cons_succ]
 refine wpAnyL_one (i:=48) (by kernel_rfl) rfl (fun K hK=>?_)
 go_simp
 refine (q9held_any b2 U m V11 (HR.out V11 C11.out) (by have:=HMN.out;omega)).mono ?_
 rintro e V12 ⟨⟨Al,cAl,rfl,hre⟩,hb⟩
 have C12:=Lib.hid (bel_in C11.out hb)
 have RAl:=Lib.hid hre
 have HBAl:=Lib.hid hb
 clear hre
 clear hb
 go_wp2_with fail
 refine hK.out _ _ (DR.out _ C12.out).1 (fun hHeld=>?_)
 clear hK K
 try simp only [Act.put,List.setIfInBounds_toArray,List.set_cons_zero,List.set_cons_succ,List.getElem_toArray,List.getElem_cons_zero,List.getElem_cons_succ]
 refine wpAnyL_one (i:=49) (by kernel_rfl) rfl (fun K hK=>?_)
 have q:=sameInts9_any Ak Al _ cAk _ cAl (heldU U m) (heldU U m) V12 (rdInts_good.up (rdInts_good.below RAk.out HBAl.out) HBAl.out.size) RAl.out
 rw [decide_eq_true rfl] at q
 go_simp
 refine (q).mono ?_
 rintro e V13 ⟨rfl,hb⟩
 have C13:=Lib.hid (bel_in C12.out (hb.below _))
 clear hb q
 go_wp2_with fail
 refine hK.out _ _ (DR.out _ C13.out).1 (fun hHeld=>?_)
 clear hK K
 try simp only [Act.put,List.setIfInBounds_toArray,List.set_cons_zero,List.set_cons_succ,List.getElem_toArray,List.getElem_cons_zero,List.getElem_cons_succ]
 refine wpAnyL_take (i:=50) (v:=?_) [51] rfl (by kernel_rfl) (by kernel_rfl) (by kernel_rfl) (fun _ _ _ h=>h) (by kernel_rfl) (by kernel_rfl) (by kernel_rfl) (Or.inl ⟨by rfl,?_⟩) (by assumption) ?_
 rotate_left
 ·intro w hSw
  try dsimp only at hSw
  go_simp
  first|done|with_reducible rfl
 try simp only [Act.put,List.setIfInBounds_toArray,List.set_cons_zero,List.set_cons_succ,List.getElem_toArray,List.getElem_cons_zero,List.getElem_cons_succ]
 refine wpAnyL_take (i:=51) (v:=?_) [] rfl (by kernel_rfl) (by kernel_rfl) (by kernel_rfl) (fun _ _ _ h=>h) (by kernel_rfl) (by kernel_rfl) (by kernel_rfl) (Or.inl ⟨by rfl,?_⟩) (by assumption) ?_
 rotate_left
 ·intro w hSw
  try dsimp only at hSw
  go_simp
  first|done|with_reducible rfl
 try simp only [Act.put,List.setIfInBounds_toArray,List.set_cons_zero,List.set_cons_succ,List.getElem_toArray,List.getElem_cons_zero,List.getElem_cons_succ]
 refine wpAnyL_last (by kernel_rfl) rfl (by kernel_rfl) (fun K hK=>?_)
 go_simp
 refine hK.out _ _ ?_
 clear hK K
 refine NoPanic.normal ?_
 go_wp2_with fail
 all_goals
  go_ret
  exact ⟨rfl,bel_in B4.out C13.out⟩
end Go.Proofs.YtoopkofekekmoaaGreatDoor
