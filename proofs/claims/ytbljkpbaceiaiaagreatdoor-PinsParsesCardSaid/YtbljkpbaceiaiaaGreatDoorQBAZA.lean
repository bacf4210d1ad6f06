/- What the laws rest on: N8d, N8e, E8i, N8f, Post2. -/
import Derived.Test.YtbljkpbaceiaiaaGreatDoorRows
import Derived.ChangeSame
import Derived.ProofKit
import Derived.OpenShut
import Derived.Carry
import Derived.Test.YtbljkpbaceiaiaaGreatDoorQAXZA
set_option maxRecDepth 100000
set_option linter.unusedVariables false
set_option linter.unusedSimpArgs false
namespace Go.Proofs.YtbljkpbaceiaiaaGreatDoor
open Go.RowKit
set_option maxHeartbeats 8000000 in
theorem read8_any (A:Option Addr) (n c:Nat) (st:List Fd) (w:World) (h:rdFds w (lt_ w.heap.size) st [.slice A n c]) (hz:∀nm,(fstV st nm).size≤65536) (E:Env w) :
  Calls Tryz.prog 27 #[.slice A n c] w fun e w'=>e=.returned (.tuple #[(rdN st).2.val,.int .i64 (rdN st).1])∧Below w.heap.size w w':=by
 obtain ⟨V,hV⟩:∃V,V=w.alloc (.cells #[.string { data:=#[] },.string { data:=#[] },.int .i64 0] 30):=⟨_,rfl⟩
 have c0:V.cell? ⟨w.heap.size,0,none⟩=some (.string { data:=#[] }):=by rw [hV];simp [go_sem]
 have c1:V.cell? ⟨w.heap.size,1,none⟩=some (.string { data:=#[] }):=by rw [hV];simp [go_sem]
 have c2:V.cell? ⟨w.heap.size,2,none⟩=some (.int .i64 0):=by rw [hV];simp [go_sem]
 have f0:V.frozen? ⟨w.heap.size,0,none⟩=false:=by rw [hV];simp [go_sem]
 have f1:V.frozen? ⟨w.heap.size,1,none⟩=false:=by rw [hV];simp [go_sem]
 have f2:V.frozen? ⟨w.heap.size,2,none⟩=false:=by rw [hV];simp [go_sem]
 have s1:w.heap.size+1≤V.heap.size:=by rw [hV];simp
 have b0:Below w.heap.size w V:=by rw [hV];exact bel_box _ _
 have B0:=Lib.hid b0
 have HR0:=Lib.hid (rdFds_good.up (rdFds_good.below h b0) b0.size)
 have K1:=Lib.hid (fun W hr=>show Calls Tryz.prog 42 #[.slice A n c,.string { data:=#[80,97,99,107,97,103,101] }] W _ from get5_any A n c st nPk W hr)
 have K2:=Lib.hid (fun W hr=>show Calls Tryz.prog 42 #[.slice A n c,.string { data:=#[80,105,110] }] W _ from get5_any A n c st nPi W hr)
 have K3:=Lib.hid (fun W hr=>show Calls Tryz.prog 42 #[.slice A n c,.string { data:=#[80,105,110,45,80,114,105,111,114,105,116,121] }] W _ from get5_any A n c st nPp W hr)
 have HX:=Lib.hid (rdN_x st)
 have z2:=hz nPi
 have z3:=hz nPp
 have HV:=Lib.hid hV
 have HE:=Lib.hid E
 clear h hz b0 hV E
 generalize rdN st=R at *
 generalize getV st nPk=g1 at *
 generalize getV st nPi=g2 at *
 generalize getV st nPp=g3 at *
 generalize fstV st nPk=nm at *
 generalize fstV st nPi=s at *
 generalize fstV st nPp=num at *
 cases g1
 ·have X:=Lib.hid (HX.out.trans (rdX_no rfl))
  clear z2 z3
  go_enter Tryz.func27,Tryz.ntmps27
  go_wp2_with fail
  rw [←HV.out]
  refine (K1.out _ HR0.out).mono ?_
  rintro e w1 ⟨rfl,hb⟩
  have HR1:=Lib.hid (rdFds_good.up (rdFds_good.below HR0.out hb) hb.size)
  replace c0:=keep_cell hb c0
  replace c1:=keep_cell hb c1
  replace c2:=keep_cell hb c2
  replace f0:=keep_fr hb (by omega) f0
  replace f1:=keep_fr hb (by omega) f1
  replace f2:=keep_fr hb (by omega) f2
  replace s1:=Nat.le_trans s1 hb.size
  have B1:=Lib.hid (bel_2 B0.out hb)
  clear hb
  go_wp2_with fail
  refine (K2.out _ HR1.out).mono ?_
  rintro e w2 ⟨rfl,hb⟩
  have HR2:=Lib.hid (rdFds_good.up (rdFds_good.below HR1.out hb) hb.size)
  replace c0:=keep_cell hb c0
  replace c1:=keep_cell hb c1
  replace c2:=keep_cell hb c2
  replace f0:=keep_fr hb (by omega) f0
  replace f1:=keep_fr hb (by omega) f1
  replace f2:=keep_fr hb (by omega) f2
  replace s1:=Nat.le_trans s1 hb.size
  have B2:=Lib.hid (bel_2 B1.out hb)
  clear hb
  go_wp2_with fail
  refine (K3.out _ HR2.out).mono ?_
  rintro e w3 ⟨rfl,hb⟩
  replace c0:=keep_cell hb c0
  replace c1:=keep_cell hb c1
  replace c2:=keep_cell hb c2
  replace f0:=keep_fr hb (by omega) f0
  replace f1:=keep_fr hb (by omega) f1
  replace f2:=keep_fr hb (by omega) f2
  replace s1:=Nat.le_trans s1 hb.size
  have B3:=Lib.hid (bel_2 B2.out hb)
  clear hb
  go_wp2
  obtain ⟨k0,k1,k2,bW⟩:=fin3 (x:=.string { data:=#[] }) (y:=.string { data:=#[] }) (z:=.int .i64 0) B3.out c0 c1 c2
  exact bodyPost_ret (v:=.tuple #[.agg #[.string { data:=#[] },.string { data:=#[] },.int .i64 0],.int .i64 6]) (by simp [results,Tryz.results27,go_sem,k0,k1,k2]) rfl ⟨by rw [X.out];try rfl,bW⟩
 cases g2
 ·have X:=Lib.hid (HX.out.trans (rdX_no rfl))
  clear z2 z3
  go_enter Tryz.func27,Tryz.ntmps27
  go_wp2_with fail
  rw [←HV.out]
  refine (K1.out _ HR0.out).mono ?_
  rintro e w1 ⟨rfl,hb⟩
  have HR1:=Lib.hid (rdFds_good.up (rdFds_good.below HR0.out hb) hb.size)
  replace c0:=keep_cell hb c0
  replace c1:=keep_cell hb c1
  replace c2:=keep_cell hb c2
  replace f0:=keep_fr hb (by omega) f0
  replace f1:=keep_fr hb (by omega) f1
  replace f2:=keep_fr hb (by omega) f2
  replace s1:=Nat.le_trans s1 hb.size
  have B1:=Lib.hid (bel_2 B0.out hb)
  clear hb
  go_wp2_with fail
  refine (K2.out _ HR1.out).mono ?_
  rintro e w2 ⟨rfl,hb⟩
  have HR2:=Lib.hid (rdFds_good.up (rdFds_good.below HR1.out hb) hb.size)
  replace c0:=keep_cell hb c0
  replace c1:=keep_cell hb c1
  replace c2:=keep_cell hb c2
  replace f0:=keep_fr hb (by omega) f0
  replace f1:=keep_fr hb (by omega) f1
  replace f2:=keep_fr hb (by omega) f2
  replace s1:=Nat.le_trans s1 hb.size
  have B2:=Lib.hid (bel_2 B1.out hb)
  clear hb
  go_wp2_with fail
  refine (K3.out _ HR2.out).mono ?_
  rintro e w3 ⟨rfl,hb⟩
  replace c0:=keep_cell hb c0
  replace c1:=keep_cell hb c1
  replace c2:=keep_cell hb c2
  replace f0:=keep_fr hb (by omega) f0
  replace f1:=keep_fr hb (by omega) f1
  replace f2:=keep_fr hb (by omega) f2
  replace s1:=Nat.le_trans s1 hb.size
  have B3:=Lib.hid (bel_2 B2.out hb)
  clear hb
  go_wp2
  obtain ⟨k0,k1,k2,bW⟩:=fin3 (x:=.string { data:=#[] }) (y:=.string { data:=#[] }) (z:=.int .i64 0) B3.out c0 c1 c2
  exact bodyPost_ret (v:=.tuple #[.agg #[.string { data:=#[] },.string { data:=#[] },.int .i64 0],.int .i64 6]) (by simp [results,Tryz.results27,go_sem,k0,k1,k2]) rfl ⟨by rw [X.out];try rfl,bW⟩
 cases g3
 ·have X:=Lib.hid (HX.out.trans (rdX_no rfl))
  clear z2 z3
  go_enter Tryz.func27,Tryz.ntmps27
  go_wp2_with fail
  rw [←HV.out]
  refine (K1.out _ HR0.out).mono ?_
  rintro e w1 ⟨rfl,hb⟩
  have HR1:=Lib.hid (rdFds_good.up (rdFds_good.below HR0.out hb) hb.size)
  replace c0:=keep_cell hb c0
  replace c1:=keep_cell hb c1
  replace c2:=keep_cell hb c2
  replace f0:=keep_fr hb (by omega) f0
  replace f1:=keep_fr hb (by omega) f1
  replace f2:=keep_fr hb (by omega) f2
  replace s1:=Nat.le_trans s1 hb.size
  have B1:=Lib.hid (bel_2 B0.out hb)
  clear hb
  go_wp2_with fail
  refine (K2.out _ HR1.out).mono ?_
  rintro e w2 ⟨rfl,hb⟩
  have HR2:=Lib.hid (rdFds_good.up (rdFds_good.below HR1.out hb) hb.size)
  replace c0:=keep_cell hb c0
  replace c1:=keep_cell hb c1
  replace c2:=keep_cell hb c2
  replace f0:=keep_fr hb (by omega) f0
  replace f1:=keep_fr hb (by omega) f1
  replace f2:=keep_fr hb (by omega) f2
  replace s1:=Nat.le_trans s1 hb.size
  have B2:=Lib.hid (bel_2 B1.out hb)
  clear hb
  go_wp2_with fail
  refine (K3.out _ HR2.out).mono ?_
  rintro e w3 ⟨rfl,hb⟩
  replace c0:=keep_cell hb c0
  replace c1:=keep_cell hb c1
  replace c2:=keep_cell hb c2
  replace f0:=keep_fr hb (by omega) f0
  replace f1:=keep_fr hb (by omega) f1
  replace f2:=keep_fr hb (by omega) f2
  replace s1:=Nat.le_trans s1 hb.size
  have B3:=Lib.hid (bel_2 B2.out hb)
  clear hb
  go_wp2
  obtain ⟨k0,k1,k2,bW⟩:=fin3 (x:=.string { data:=#[] }) (y:=.string { data:=#[] }) (z:=.int .i64 0) B3.out c0 c1 c2
  exact bodyPost_ret (v:=.tuple #[.agg #[.string { data:=#[] },.string { data:=#[] },.int .i64 0],.int .i64 6]) (by simp [results,Tryz.results27,go_sem,k0,k1,k2]) rfl ⟨by rw [X.out];try rfl,bW⟩
 have T1:=Lib.hid (fun W=>(Tryz.strings_TrimPrefix s { data:=#[118,101,114,115,105,111,110,32] } W).mono fun _ _ h=>And.intro h.1 h.2.symm)
 have T2:=Lib.hid (fun W=>(Tryz.strings_TrimSuffix (⟨(Lib.trimPrefix s.data.toList v8U).toArray⟩:ByteArray) { data:=#[42] } W (by
  have h1:(Lib.trimPrefix s.data.toList v8U).length≤s.data.toList.length:=by unfold Lib.trimPrefix;split<;>simp
  have h2:s.data.toList.length=s.size:=by rw [←B_len];unfold B;rw [List.length_map]
  show (Lib.trimPrefix s.data.toList v8U).length≤_
  omega)).mono fun _ _ h=>show _=Ending.returned (.string (y8 s))∧W=_ from And.intro h.1 h.2.symm)
 have KA:=Lib.hid (fun W E=>atoi_any num W (by omega) E)
 obtain ⟨XY,XN⟩:=rdX_is (nm:=nm) (s:=s) (num:=num)
 have XY:=Lib.hid XY
 have XN:=Lib.hid XN
 have zy:(y8 s).size≤65536:=Nat.le_trans (y8_size s) z2
 generalize y8 s=y at *
 generalize atoiV num=a at *
 have KR:=Lib.hid (fun W=>pright_any ⟨nm,y,a⟩ W)
 have KV:=Lib.hid (fun W=>vtxt_any ⟨nm,y,a⟩ W zy)
 simp only [Pn.val] at KR KV
 clear z2 z3 zy
 cases hr:rgtN ⟨nm,y,a⟩
 ·have X:=Lib.hid (HX.out.trans (XN.out fun hh=>by rw [hr] at hh;cases hh.1))
  rw [hr] at KR
  clear hr KV
  go_enter Tryz.func27,Tryz.ntmps27
  go_wp2_with fail
  rw [←HV.out]
  refine (K1.out _ HR0.out).mono ?_
  rintro e w1 ⟨rfl,hb⟩
  have HR1:=Lib.hid (rdFds_good.up (rdFds_good.below HR0.out hb) hb.size)
  replace c0:=keep_cell hb c0
  replace c1:=keep_cell hb c1
  replace c2:=keep_cell hb c2
  replace f0:=keep_fr hb (by omega) f0
  replace f1:=keep_fr hb (by omega) f1
  replace f2:=keep_fr hb (by omega) f2
  replace s1:=Nat.le_trans s1 hb.size
  have B1:=Lib.hid (bel_2 B0.out hb)
  clear hb
  go_wp2_with fail
  refine (K2.out _ HR1.out).mono ?_
  rintro e w2 ⟨rfl,hb⟩
  have HR2:=Lib.hid (rdFds_good.up (rdFds_good.below HR1.out hb) hb.size)
  replace c0:=keep_cell hb c0
  replace c1:=keep_cell hb c1
  replace c2:=keep_cell hb c2
  replace f0:=keep_fr hb (by omega) f0
  replace f1:=keep_fr hb (by omega) f1
  replace f2:=keep_fr hb (by omega) f2
  replace s1:=Nat.le_trans s1 hb.size
  have B2:=Lib.hid (bel_2 B1.out hb)
  clear hb
  go_wp2_with fail
  refine (K3.out _ HR2.out).mono ?_
  rintro e w3 ⟨rfl,hb⟩
  replace c0:=keep_cell hb c0
  replace c1:=keep_cell hb c1
  replace c2:=keep_cell hb c2
  replace f0:=keep_fr hb (by omega) f0
  replace f1:=keep_fr hb (by omega) f1
  replace f2:=keep_fr hb (by omega) f2
  replace s1:=Nat.le_trans s1 hb.size
  have B3:=Lib.hid (bel_2 B2.out hb)
  clear hb
  have s3:=s1
  go_wp2_with fail
  refine (T1.out _).mono ?_
  rintro e w' ⟨rfl,rfl⟩
  go_wp2_with fail
  refine (T2.out _).mono ?_
  rintro e w' ⟨rfl,rfl⟩
  go_wp2_with fail
  obtain ⟨U,hU⟩:∃U,U=w3.alloc (.cells #[.string nm,.string y,.int .i64 0] 30):=⟨_,rfl⟩
  rw [←hU]
  have hb:Below w3.heap.size w3 U:=by rw [hU];exact bel_box _ _
  have d0:U.cell? ⟨w3.heap.size,0,none⟩=some (.string nm):=by rw [hU];simp [go_sem]
  have d1:U.cell? ⟨w3.heap.size,1,none⟩=some (.string y):=by rw [hU];simp [go_sem]
  have d2:U.cell? ⟨w3.heap.size,2,none⟩=some (.int .i64 0):=by rw [hU];simp [go_sem]
  have g2:U.frozen? ⟨w3.heap.size,2,none⟩=false:=by rw [hU];simp [go_sem]
  have zU:w3.heap.size+1≤U.heap.size:=by rw [hU];simp
  replace c0:=keep_cell hb c0
  replace c1:=keep_cell hb c1
  replace c2:=keep_cell hb c2
  replace f0:=keep_fr hb (by omega) f0
  replace f1:=keep_fr hb (by omega) f1
  replace f2:=keep_fr hb (by omega) f2
  replace s1:=Nat.le_trans s1 hb.size
  have B4:=Lib.hid (bel_2 B3.out hb)
  clear hb hU
  refine (KA.out _ (HE.out.below B4.out)).mono ?_
  rintro e w4 ⟨⟨ev,rfl⟩,hb⟩
  replace c0:=keep_cell hb c0
  replace c1:=keep_cell hb c1
  replace c2:=keep_cell hb c2
  replace d0:=keep_cell hb d0
  replace d1:=keep_cell hb d1
  replace d2:=keep_cell hb d2
  replace f0:=keep_fr hb (by omega) f0
  replace f1:=keep_fr hb (by omega) f1
  replace f2:=keep_fr hb (by omega) f2
  replace s1:=Nat.le_trans s1 hb.size
  replace g2:=keep_fr hb (by omega) g2
  replace zU:=Nat.le_trans zU hb.size
  have B5:=Lib.hid (bel_2 B4.out hb)
  clear hb
  go_upto_region 8 with (fail)
  obtain ⟨U2,hU2⟩:∃U2,U2=w4.setCell ⟨w3.heap.size,2,none⟩ (.int .i64 a):=⟨_,rfl⟩
  rw [←hU2]
  have hb:Below w3.heap.size w4 U2:=by rw [hU2];exact (Below.refl w3.heap.size w4).setCell (p:=⟨w3.heap.size,2,none⟩) (Nat.le_refl _) _
  have hz:U2.heap.size=w4.heap.size:=by rw [hU2];simp
  have e0:U2.cell? ⟨w3.heap.size,0,none⟩=some (.string nm):=by rw [hU2];simp [go_sem,d0]
  have e1:U2.cell? ⟨w3.heap.size,1,none⟩=some (.string y):=by rw [hU2];simp [go_sem,d1]
  have e2:U2.cell? ⟨w3.heap.size,2,none⟩=some (.int .i64 a):=by rw [hU2];simp [go_sem,d2]
  replace c0:=(hb.cell (p:=⟨w.heap.size,0,none⟩) s3).trans c0
  replace c1:=(hb.cell (p:=⟨w.heap.size,1,none⟩) s3).trans c1
  replace c2:=(hb.cell (p:=⟨w.heap.size,2,none⟩) s3).trans c2
  replace f0:=(hb.frozen (p:=⟨w.heap.size,0,none⟩) s3).trans f0
  replace f1:=(hb.frozen (p:=⟨w.heap.size,1,none⟩) s3).trans f1
  replace f2:=(hb.frozen (p:=⟨w.heap.size,2,none⟩) s3).trans f2
  replace s1:w.heap.size+1≤U2.heap.size:=Nat.le_trans s1 (Nat.le_of_eq hz.symm)
  have B6:=Lib.hid (B5.out.trans (hb.mono B3.out.size))
  clear hb hz hU2 d0 d1 d2 g2 zU s3
  go_wp2_with fail
  refine (KR.out _).mono ?_
  rintro e w5 ⟨rfl,hb⟩
  replace c0:=keep_cell hb c0
  replace c1:=keep_cell hb c1
  replace c2:=keep_cell hb c2
  replace e0:=keep_cell hb e0
  replace e1:=keep_cell hb e1
  replace e2:=keep_cell hb e2
  replace f0:=keep_fr hb (by omega) f0
  replace f1:=keep_fr hb (by omega) f1
  replace f2:=keep_fr hb (by omega) f2
  replace s1:=Nat.le_trans s1 hb.size
  have B7:=Lib.hid (bel_2 B6.out hb)
  clear hb
  go_wp2
  obtain ⟨k0,k1,k2,bW⟩:=fin3 (x:=.string { data:=#[] }) (y:=.string { data:=#[] }) (z:=.int .i64 0) B7.out c0 c1 c2
  exact bodyPost_ret (v:=.tuple #[.agg #[.string { data:=#[] },.string { data:=#[] },.int .i64 0],.int .i64 5]) (by simp [results,Tryz.results27,go_sem,k0,k1,k2]) rfl ⟨by rw [X.out];try rfl,bW⟩
 obtain ⟨-,-,-,p1,p2⟩:=rgtN_parts hr
 have KT:=Lib.hid (fun W E=>ptxt_any ⟨nm,y,a⟩ W p1 p2 E)
 simp only [Pn.val] at KT
 clear p1 p2
 have es:=str_eq s (mk (ver8L++(B y++[42])))
 have en:=str_eq num (mk (decI a))
 have XN:=Lib.hid (fun h=>XN.out h)
 have HYX:=Lib.hid hr
 rw [hr] at KR
 clear hr
 by_cases hs:s=mk (ver8L++(B y++[42]))
 ·rw [decide_eq_true hs] at es
  by_cases hn:num=mk (decI a)
  ·have X:=Lib.hid (HX.out.trans (XY.out ⟨HYX.out,hs,hn⟩))
   rw [decide_eq_true hn] at en
   clear hs hn
   generalize mk (ver8L++(B y++[42]))=vt at *
   generalize mk (decI a)=pt at *
   go_enter Tryz.func27,Tryz.ntmps27
   go_wp2_with fail
   rw [←HV.out]
   refine (K1.out _ HR0.out).mono ?_
   rintro e w1 ⟨rfl,hb⟩
   have HR1:=Lib.hid (rdFds_good.up (rdFds_good.below HR0.out hb) hb.size)
   replace c0:=keep_cell hb c0
   replace c1:=keep_cell hb c1
   replace c2:=keep_cell hb c2
   replace f0:=keep_fr hb (by omega) f0
   replace f1:=keep_fr hb (by omega) f1
   replace f2:=keep_fr hb (by omega) f2
   replace s1:=Nat.le_trans s1 hb.size
   have B1:=Lib.hid (bel_2 B0.out hb)
   clear hb
   go_wp2_with fail
   refine (K2.out _ HR1.out).mono ?_
   rintro e w2 ⟨rfl,hb⟩
   have HR2:=Lib.hid (rdFds_good.up (rdFds_good.below HR1.out hb) hb.size)
   replace c0:=keep_cell hb c0
   replace c1:=keep_cell hb c1
   replace c2:=keep_cell hb c2
   replace f0:=keep_fr hb (by omega) f0
   replace f1:=keep_fr hb (by omega) f1
   replace f2:=keep_fr hb (by omega) f2
   replace s1:=Nat.le_trans s1 hb.size
   have B2:=Lib.hid (bel_2 B1.out hb)
   clear hb
   go_wp2_with fail
   refine (K3.out _ HR2.out).mono ?_
   rintro e w3 ⟨rfl,hb⟩
   replace c0:=keep_cell hb c0
   replace c1:=keep_cell hb c1
   replace c2:=keep_cell hb c2
   replace f0:=keep_fr hb (by omega) f0
   replace f1:=keep_fr hb (by omega) f1
   replace f2:=keep_fr hb (by omega) f2
   replace s1:=Nat.le_trans s1 hb.size
   have B3:=Lib.hid (bel_2 B2.out hb)
   clear hb
   have s3:=s1
   go_wp2_with fail
   refine (T1.out _).mono ?_
   rintro e w' ⟨rfl,rfl⟩
   go_wp2_with fail
   refine (T2.out _).mono ?_
   rintro e w' ⟨rfl,rfl⟩
   go_wp2_with fail
   obtain ⟨U,hU⟩:∃U,U=w3.alloc (.cells #[.string nm,.string y,.int .i64 0] 30):=⟨_,rfl⟩
   rw [←hU]
   have hb:Below w3.heap.size w3 U:=by rw [hU];exact bel_box _ _
   have d0:U.cell? ⟨w3.heap.size,0,none⟩=some (.string nm):=by rw [hU];simp [go_sem]
   have d1:U.cell? ⟨w3.heap.size,1,none⟩=some (.string y):=by rw [hU];simp [go_sem]
   have d2:U.cell? ⟨w3.heap.size,2,none⟩=some (.int .i64 0):=by rw [hU];simp [go_sem]
   have g2:U.frozen? ⟨w3.heap.size,2,none⟩=false:=by rw [hU];simp [go_sem]
   have zU:w3.heap.size+1≤U.heap.size:=by rw [hU];simp
   replace c0:=keep_cell hb c0
   replace c1:=keep_cell hb c1
   replace c2:=keep_cell hb c2
   replace f0:=keep_fr hb (by omega) f0
   replace f1:=keep_fr hb (by omega) f1
   replace f2:=keep_fr hb (by omega) f2
   replace s1:=Nat.le_trans s1 hb.size
   have B4:=Lib.hid (bel_2 B3.out hb)
   clear hb hU
   refine (KA.out _ (HE.out.below B4.out)).mono ?_
   rintro e w4 ⟨⟨ev,rfl⟩,hb⟩
   replace c0:=keep_cell hb c0
   replace c1:=keep_cell hb c1
   replace c2:=keep_cell hb c2
   replace d0:=keep_cell hb d0
   replace d1:=keep_cell hb d1
   replace d2:=keep_cell hb d2
   replace f0:=keep_fr hb (by omega) f0
   replace f1:=keep_fr hb (by omega) f1
   replace f2:=keep_fr hb (by omega) f2
   replace s1:=Nat.le_trans s1 hb.size
   replace g2:=keep_fr hb (by omega) g2
   replace zU:=Nat.le_trans zU hb.size
   have B5:=Lib.hid (bel_2 B4.out hb)
   clear hb
   go_upto_region 8 with (fail)
   obtain ⟨U2,hU2⟩:∃U2,U2=w4.setCell ⟨w3.heap.size,2,none⟩ (.int .i64 a):=⟨_,rfl⟩
   rw [←hU2]
   have hb:Below w3.heap.size w4 U2:=by rw [hU2];exact (Below.refl w3.heap.size w4).setCell (p:=⟨w3.heap.size,2,none⟩) (Nat.le_refl _) _
   have hz:U2.heap.size=w4.heap.size:=by rw [hU2];simp
   have e0:U2.cell? ⟨w3.heap.size,0,none⟩=some (.string nm):=by rw [hU2];simp [go_sem,d0]
   have e1:U2.cell? ⟨w3.heap.size,1,none⟩=some (.string y):=by rw [hU2];simp [go_sem,d1]
   have e2:U2.cell? ⟨w3.heap.size,2,none⟩=some (.int .i64 a):=by rw [hU2];simp [go_sem,d2]
   replace c0:=(hb.cell (p:=⟨w.heap.size,0,none⟩) s3).trans c0
   replace c1:=(hb.cell (p:=⟨w.heap.size,1,none⟩) s3).trans c1
   replace c2:=(hb.cell (p:=⟨w.heap.size,2,none⟩) s3).trans c2
   replace f0:=(hb.frozen (p:=⟨w.heap.size,0,none⟩) s3).trans f0
   replace f1:=(hb.frozen (p:=⟨w.heap.size,1,none⟩) s3).trans f1
   replace f2:=(hb.frozen (p:=⟨w.heap.size,2,none⟩) s3).trans f2
   replace s1:w.heap.size+1≤U2.heap.size:=Nat.le_trans s1 (Nat.le_of_eq hz.symm)
   have B6:=Lib.hid (B5.out.trans (hb.mono B3.out.size))
   clear hb hz hU2 d0 d1 d2 g2 zU s3
   go_wp2_with fail
   refine (KR.out _).mono ?_
   rintro e w5 ⟨rfl,hb⟩
   replace c0:=keep_cell hb c0
   replace c1:=keep_cell hb c1
   replace c2:=keep_cell hb c2
   replace e0:=keep_cell hb e0
   replace e1:=keep_cell hb e1
   replace e2:=keep_cell hb e2
   replace f0:=keep_fr hb (by omega) f0
   replace f1:=keep_fr hb (by omega) f1
   replace f2:=keep_fr hb (by omega) f2
   replace s1:=Nat.le_trans s1 hb.size
   have B7:=Lib.hid (bel_2 B6.out hb)
   clear hb
   go_wp2_with fail
   refine (KV.out _).mono ?_
   rintro e w6 ⟨rfl,hb⟩
   replace c0:=keep_cell hb c0
   replace c1:=keep_cell hb c1
   replace c2:=keep_cell hb c2
   replace e0:=keep_cell hb e0
   replace e1:=keep_cell hb e1
   replace e2:=keep_cell hb e2
   replace f0:=keep_fr hb (by omega) f0
   replace f1:=keep_fr hb (by omega) f1
   replace f2:=keep_fr hb (by omega) f2
   replace s1:=Nat.le_trans s1 hb.size
   have B8:=Lib.hid (bel_2 B7.out hb)
   clear hb
   go_wp2_with fail
   refine (KT.out _ (HE.out.below B8.out)).mono ?_
   rintro e w7 ⟨rfl,hb⟩
   replace c0:=keep_cell hb c0
   replace c1:=keep_cell hb c1
   replace c2:=keep_cell hb c2
   replace e0:=keep_cell hb e0
   replace e1:=keep_cell hb e1
   replace e2:=keep_cell hb e2
   replace f0:=keep_fr hb (by omega) f0
   replace f1:=keep_fr hb (by omega) f1
   replace f2:=keep_fr hb (by omega) f2
   replace s1:=Nat.le_trans s1 hb.size
   have B9:=Lib.hid (bel_2 B8.out hb)
   clear hb
   go_wp2
   obtain ⟨k0,k1,k2,bW⟩:=fin3 (x:=.string nm) (y:=.string y) (z:=.int .i64 a) B9.out c0 c1 c2
   exact bodyPost_ret (v:=.tuple #[.agg #[.string nm,.string y,.int .i64 a],.int .i64 0]) (by simp [results,Tryz.results27,go_sem,k0,k1,k2]) rfl ⟨by rw [X.out];try rfl,bW⟩
  ·have X:=Lib.hid (HX.out.trans (XN.out fun hh=>hn hh.2.2))
   rw [decide_eq_false hn] at en
   clear hs hn
   generalize mk (ver8L++(B y++[42]))=vt at *
   generalize mk (decI a)=pt at *
   go_enter Tryz.func27,Tryz.ntmps27
   go_wp2_with fail
   rw [←HV.out]
   refine (K1.out _ HR0.out).mono ?_
   rintro e w1 ⟨rfl,hb⟩
   have HR1:=Lib.hid (rdFds_good.up (rdFds_good.below HR0.out hb) hb.size)
   replace c0:=keep_cell hb c0
   replace c1:=keep_cell hb c1
   replace c2:=keep_cell hb c2
   replace f0:=keep_fr hb (by omega) f0
   replace f1:=keep_fr hb (by omega) f1
   replace f2:=keep_fr hb (by omega) f2
   replace s1:=Nat.le_trans s1 hb.size
   have B1:=Lib.hid (bel_2 B0.out hb)
   clear hb
   go_wp2_with fail
   refine (K2.out _ HR1.out).mono ?_
   rintro e w2 ⟨rfl,hb⟩
   have HR2:=Lib.hid (rdFds_good.up (rdFds_good.below HR1.out hb) hb.size)
   replace c0:=keep_cell hb c0
   replace c1:=keep_cell hb c1
   replace c2:=keep_cell hb c2
   replace f0:=keep_fr hb (by omega) f0
   replace f1:=keep_fr hb (by omega) f1
   replace f2:=keep_fr hb (by omega) f2
   replace s1:=Nat.le_trans s1 hb.size
   have B2:=Lib.hid (bel_2 B1.out hb)
   clear hb
   go_wp2_with fail
   refine (K3.out _ HR2.out).mono ?_
   rintro e w3 ⟨rfl,hb⟩
   replace c0:=keep_cell hb c0
   replace c1:=keep_cell hb c1
   replace c2:=keep_cell hb c2
   replace f0:=keep_fr hb (by omega) f0
   replace f1:=keep_fr hb (by omega) f1
   replace f2:=keep_fr hb (by omega) f2
   replace s1:=Nat.le_trans s1 hb.size
   have B3:=Lib.hid (bel_2 B2.out hb)
   clear hb
   have s3:=s1
   go_wp2_with fail
   refine (T1.out _).mono ?_
   rintro e w' ⟨rfl,rfl⟩
   go_wp2_with fail
   refine (T2.out _).mono ?_
   rintro e w' ⟨rfl,rfl⟩
   go_wp2_with fail
   obtain ⟨U,hU⟩:∃U,U=w3.alloc (.cells #[.string nm,.string y,.int .i64 0] 30):=⟨_,rfl⟩
   rw [←hU]
   have hb:Below w3.heap.size w3 U:=by rw [hU];exact bel_box _ _
   have d0:U.cell? ⟨w3.heap.size,0,none⟩=some (.string nm):=by rw [hU];simp [go_sem]
   have d1:U.cell? ⟨w3.heap.size,1,none⟩=some (.string y):=by rw [hU];simp [go_sem]
   have d2:U.cell? ⟨w3.heap.size,2,none⟩=some (.int .i64 0):=by rw [hU];simp [go_sem]
   have g2:U.frozen? ⟨w3.heap.size,2,none⟩=false:=by rw [hU];simp [go_sem]
   have zU:w3.heap.size+1≤U.heap.size:=by rw [hU];simp
   replace c0:=keep_cell hb c0
   replace c1:=keep_cell hb c1
   replace c2:=keep_cell hb c2
   replace f0:=keep_fr hb (by omega) f0
   replace f1:=keep_fr hb (by omega) f1
   replace f2:=keep_fr hb (by omega) f2
   replace s1:=Nat.le_trans s1 hb.size
   have B4:=Lib.hid (bel_2 B3.out hb)
   clear hb hU
   refine (KA.out _ (HE.out.below B4.out)).mono ?_
   rintro e w4 ⟨⟨ev,rfl⟩,hb⟩
   replace c0:=keep_cell hb c0
   replace c1:=keep_cell hb c1
   replace c2:=keep_cell hb c2
   replace d0:=keep_cell hb d0
   replace d1:=keep_cell hb d1
   replace d2:=keep_cell hb d2
   replace f0:=keep_fr hb (by omega) f0
   replace f1:=keep_fr hb (by omega) f1
   replace f2:=keep_fr hb (by omega) f2
   replace s1:=Nat.le_trans s1 hb.size
   replace g2:=keep_fr hb (by omega) g2
   replace zU:=Nat.le_trans zU hb.size
   have B5:=Lib.hid (bel_2 B4.out hb)
   clear hb
   go_upto_region 8 with (fail)
   obtain ⟨U2,hU2⟩:∃U2,U2=w4.setCell ⟨w3.heap.size,2,none⟩ (.int .i64 a):=⟨_,rfl⟩
   rw [←hU2]
   have hb:Below w3.heap.size w4 U2:=by rw [hU2];exact (Below.refl w3.heap.size w4).setCell (p:=⟨w3.heap.size,2,none⟩) (Nat.le_refl _) _
   have hz:U2.heap.size=w4.heap.size:=by rw [hU2];simp
   have e0:U2.cell? ⟨w3.heap.size,0,none⟩=some (.string nm):=by rw [hU2];simp [go_sem,d0]
   have e1:U2.cell? ⟨w3.heap.size,1,none⟩=some (.string y):=by rw [hU2];simp [go_sem,d1]
   have e2:U2.cell? ⟨w3.heap.size,2,none⟩=some (.int .i64 a):=by rw [hU2];simp [go_sem,d2]
   replace c0:=(hb.cell (p:=⟨w.heap.size,0,none⟩) s3).trans c0
   replace c1:=(hb.cell (p:=⟨w.heap.size,1,none⟩) s3).trans c1
   replace c2:=(hb.cell (p:=⟨w.heap.size,2,none⟩) s3).trans c2
   replace f0:=(hb.frozen (p:=⟨w.heap.size,0,none⟩) s3).trans f0
   replace f1:=(hb.frozen (p:=⟨w.heap.size,1,none⟩) s3).trans f1
   replace f2:=(hb.frozen (p:=⟨w.heap.size,2,none⟩) s3).trans f2
   replace s1:w.heap.size+1≤U2.heap.size:=Nat.le_trans s1 (Nat.le_of_eq hz.symm)
   have B6:=Lib.hid (B5.out.trans (hb.mono B3.out.size))
   clear hb hz hU2 d0 d1 d2 g2 zU s3
   go_wp2_with fail
   refine (KR.out _).mono ?_
   rintro e w5 ⟨rfl,hb⟩
   replace c0:=keep_cell hb c0
   replace c1:=keep_cell hb c1
   replace c2:=keep_cell hb c2
   replace e0:=keep_cell hb e0
   replace e1:=keep_cell hb e1
   replace e2:=keep_cell hb e2
   replace f0:=keep_fr hb (by omega) f0
   replace f1:=keep_fr hb (by omega) f1
   replace f2:=keep_fr hb (by omega) f2
   replace s1:=Nat.le_trans s1 hb.size
   have B7:=Lib.hid (bel_2 B6.out hb)
   clear hb
   go_wp2_with fail
   refine (KV.out _).mono ?_
   rintro e w6 ⟨rfl,hb⟩
   replace c0:=keep_cell hb c0
   replace c1:=keep_cell hb c1
   replace c2:=keep_cell hb c2
   replace e0:=keep_cell hb e0
   replace e1:=keep_cell hb e1
   replace e2:=keep_cell hb e2
   replace f0:=keep_fr hb (by omega) f0
   replace f1:=keep_fr hb (by omega) f1
   replace f2:=keep_fr hb (by omega) f2
   replace s1:=Nat.le_trans s1 hb.size
   have B8:=Lib.hid (bel_2 B7.out hb)
   clear hb
   go_wp2_with fail
   refine (KT.out _ (HE.out.below B8.out)).mono ?_
   rintro e w7 ⟨rfl,hb⟩
   replace c0:=keep_cell hb c0
   replace c1:=keep_cell hb c1
   replace c2:=keep_cell hb c2
   replace e0:=keep_cell hb e0
   replace e1:=keep_cell hb e1
   replace e2:=keep_cell hb e2
   replace f0:=keep_fr hb (by omega) f0
   replace f1:=keep_fr hb (by omega) f1
   replace f2:=keep_fr hb (by omega) f2
   replace s1:=Nat.le_trans s1 hb.size
   have B9:=Lib.hid (bel_2 B8.out hb)
   clear hb
   go_wp2
   obtain ⟨k0,k1,k2,bW⟩:=fin3 (x:=.string { data:=#[] }) (y:=.string { data:=#[] }) (z:=.int .i64 0) B9.out c0 c1 c2
   exact bodyPost_ret (v:=.tuple #[.agg #[.string { data:=#[] },.string { data:=#[] },.int .i64 0],.int .i64 5]) (by simp [results,Tryz.results27,go_sem,k0,k1,k2]) rfl ⟨by rw [X.out];try rfl,bW⟩
 ·have X:=Lib.hid (HX.out.trans (XN.out fun hh=>hs hh.2.1))
  rw [decide_eq_false hs] at es
  clear hs en
  generalize mk (ver8L++(B y++[42]))=vt at *
  go_enter Tryz.func27,Tryz.ntmps27
  go_wp2_with fail
  rw [←HV.out]
  refine (K1.out _ HR0.out).mono ?_
  rintro e w1 ⟨rfl,hb⟩
  have HR1:=Lib.hid (rdFds_good.up (rdFds_good.below HR0.out hb) hb.size)
  replace c0:=keep_cell hb c0
  replace c1:=keep_cell hb c1
  replace c2:=keep_cell hb c2
  replace f0:=keep_fr hb (by omega) f0
  replace f1:=keep_fr hb (by omega) f1
  replace f2:=keep_fr hb (by omega) f2
  replace s1:=Nat.le_trans s1 hb.size
  have B1:=Lib.hid (bel_2 B0.out hb)
  clear hb
  go_wp2_with fail
  refine (K2.out _ HR1.out).mono ?_
  rintro e w2 ⟨rfl,hb⟩
  have HR2:=Lib.hid (rdFds_good.up (rdFds_good.below HR1.out hb) hb.size)
  replace c0:=keep_cell hb c0
  replace c1:=keep_cell hb c1
  replace c2:=keep_cell hb c2
  replace f0:=keep_fr hb (by omega) f0
  replace f1:=keep_fr hb (by omega) f1
  replace f2:=keep_fr hb (by omega) f2
  replace s1:=Nat.le_trans s1 hb.size
  have B2:=Lib.hid (bel_2 B1.out hb)
  clear hb
  go_wp2_with fail
  refine (K3.out _ HR2.out).mono ?_
  rintro e w3 ⟨rfl,hb⟩
  replace c0:=keep_cell hb c0
  replace c1:=keep_cell hb c1
  replace c2:=keep_cell hb c2
  replace f0:=keep_fr hb (by omega) f0
  replace f1:=keep_fr hb (by omega) f1
  replace f2:=keep_fr hb (by omega) f2
  replace s1:=Nat.le_trans s1 hb.size
  have B3:=Lib.hid (bel_2 B2.out hb)
  clear hb
  have s3:=s1
  go_wp2_with fail
  refine (T1.out _).mono ?_
  rintro e w' ⟨rfl,rfl⟩
  go_wp2_with fail
  refine (T2.out _).mono ?_
  rintro e w' ⟨rfl,rfl⟩
  go_wp2_with fail
  obtain ⟨U,hU⟩:∃U,U=w3.alloc (.cells #[.string nm,.string y,.int .i64 0] 30):=⟨_,rfl⟩
  rw [←hU]
  have hb:Below w3.heap.size w3 U:=by rw [hU];exact bel_box _ _
  have d0:U.cell? ⟨w3.heap.size,0,none⟩=some (.string nm):=by rw [hU];simp [go_sem]
  have d1:U.cell? ⟨w3.heap.size,1,none⟩=some (.string y):=by rw [hU];simp [go_sem]
  have d2:U.cell? ⟨w3.heap.size,2,none⟩=some (.int .i64 0):=by rw [hU];simp [go_sem]
  have g2:U.frozen? ⟨w3.heap.size,2,none⟩=false:=by rw [hU];simp [go_sem]
  have zU:w3.heap.size+1≤U.heap.size:=by rw [hU];simp
  replace c0:=keep_cell hb c0
  replace c1:=keep_cell hb c1
  replace c2:=keep_cell hb c2
  replace f0:=keep_fr hb (by omega) f0
  replace f1:=keep_fr hb (by omega) f1
  replace f2:=keep_fr hb (by omega) f2
  replace s1:=Nat.le_trans s1 hb.size
  have B4:=Lib.hid (bel_2 B3.out hb)
  clear hb hU
  refine (KA.out _ (HE.out.below B4.out)).mono ?_
  rintro e w4 ⟨⟨ev,rfl⟩,hb⟩
  replace c0:=keep_cell hb c0
  replace c1:=keep_cell hb c1
  replace c2:=keep_cell hb c2
  replace d0:=keep_cell hb d0
  replace d1:=keep_cell hb d1
  replace d2:=keep_cell hb d2
  replace f0:=keep_fr hb (by omega) f0
  replace f1:=keep_fr hb (by omega) f1
  replace f2:=keep_fr hb (by omega) f2
  replace s1:=Nat.le_trans s1 hb.size
  replace g2:=keep_fr hb (by omega) g2
  replace zU:=Nat.le_trans zU hb.size
  have B5:=Lib.hid (bel_2 B4.out hb)
  clear hb
  go_upto_region 8 with (fail)
  obtain ⟨U2,hU2⟩:∃U2,U2=w4.setCell ⟨w3.heap.size,2,none⟩ (.int .i64 a):=⟨_,rfl⟩
  rw [←hU2]
  have hb:Below w3.heap.size w4 U2:=by rw [hU2];exact (Below.refl w3.heap.size w4).setCell (p:=⟨w3.heap.size,2,none⟩) (Nat.le_refl _) _
  have hz:U2.heap.size=w4.heap.size:=by rw [hU2];simp
  have e0:U2.cell? ⟨w3.heap.size,0,none⟩=some (.string nm):=by rw [hU2];simp [go_sem,d0]
  have e1:U2.cell? ⟨w3.heap.size,1,none⟩=some (.string y):=by rw [hU2];simp [go_sem,d1]
  have e2:U2.cell? ⟨w3.heap.size,2,none⟩=some (.int .i64 a):=by rw [hU2];simp [go_sem,d2]
  replace c0:=(hb.cell (p:=⟨w.heap.size,0,none⟩) s3).trans c0
  replace c1:=(hb.cell (p:=⟨w.heap.size,1,none⟩) s3).trans c1
  replace c2:=(hb.cell (p:=⟨w.heap.size,2,none⟩) s3).trans c2
  replace f0:=(hb.frozen (p:=⟨w.heap.size,0,none⟩) s3).trans f0
  replace f1:=(hb.frozen (p:=⟨w.heap.size,1,none⟩) s3).trans f1
  replace f2:=(hb.frozen (p:=⟨w.heap.size,2,none⟩) s3).trans f2
  replace s1:w.heap.size+1≤U2.heap.size:=Nat.le_trans s1 (Nat.le_of_eq hz.symm)
  have B6:=Lib.hid (B5.out.trans (hb.mono B3.out.size))
  clear hb hz hU2 d0 d1 d2 g2 zU s3
  go_wp2_with fail
  refine (KR.out _).mono ?_
  rintro e w5 ⟨rfl,hb⟩
  replace c0:=keep_cell hb c0
  replace c1:=keep_cell hb c1
  replace c2:=keep_cell hb c2
  replace e0:=keep_cell hb e0
  replace e1:=keep_cell hb e1
  replace e2:=keep_cell hb e2
  replace f0:=keep_fr hb (by omega) f0
  replace f1:=keep_fr hb (by omega) f1
  replace f2:=keep_fr hb (by omega) f2
  replace s1:=Nat.le_trans s1 hb.size
  have B7:=Lib.hid (bel_2 B6.out hb)
  clear hb
  go_wp2_with fail
  refine (KV.out _).mono ?_
  rintro e w6 ⟨rfl,hb⟩
  replace c0:=keep_cell hb c0
  replace c1:=keep_cell hb c1
  replace c2:=keep_cell hb c2
  replace e0:=keep_cell hb e0
  replace e1:=keep_cell hb e1
  replace e2:=keep_cell hb e2
  replace f0:=keep_fr hb (by omega) f0
  replace f1:=keep_fr hb (by omega) f1
  replace f2:=keep_fr hb (by omega) f2
  replace s1:=Nat.le_trans s1 hb.size
  have B8:=Lib.hid (bel_2 B7.out hb)
  clear hb
  go_wp2
  obtain ⟨k0,k1,k2,bW⟩:=fin3 (x:=.string { data:=#[] }) (y:=.string { data:=#[] }) (z:=.int .i64 0) B8.out c0 c1 c2
  exact bodyPost_ret (v:=.tuple #[.agg #[.string { data:=#[] },.string { data:=#[] },.int .i64 0],.int .i64 5]) (by simp [results,Tryz.results27,go_sem,k0,k1,k2]) rfl ⟨by rw [X.out];try rfl,bW⟩
set_option maxHeartbeats 4000000 in
theorem parse8_any (s:ByteArray) (w:World) (E:Env w):Calls Tryz.prog 10 #[.string s] w (PaP w (paN (B s))):=by
 have KP:=Lib.hid (parse5_any s w E.max)
 have HE:=Lib.hid E
 clear E
 have X:=Lib.hid (show paN (B s)=if stE (B s)≠0 then (([]:List Pn),((stN (B s):Nat):Int),stE (B s)) else if 64 < (stL (B s)).length then (([]:List Pn),(0:Int),(8:Int)) else goN (stL (B s)) 0 [] from rfl)
 have HV:=Lib.hid (fun (h:stE (B s)=0) st (hs:st ∈ stL (B s)) nm=>(show (fstV st nm).size≤65536 from fst_size6 nm fun f hf=>Nat.le_trans (val_dW hs hf) (Nat.le_trans (stL_W _) (Nat.le_trans (stE_len h) (by decide)))))
 obtain ⟨fi,hi,hz0,hz1,hz2⟩:=info_parts pn_info
 generalize paN (B s)=R at *
 generalize stE (B s)=er at *
 generalize stN (B s)=ln at *
 generalize stL (B s)=L at *
 by_cases h0:er≠0
 ·have X1:=Lib.hid (show R=([],(ln:Int),er) from X.out.trans (if_pos h0))
  have t0:(er != 0)=true:=by rw [bne_iff_ne];exact h0
  clear h0 X
  go_enter Tryz.func10,Tryz.ntmps10
  go_wp2_with fail
  refine KP.out.mono ?_
  rintro e w1 ⟨⟨A,n,c,rfl,hr⟩,hb⟩
  have HB:=Lib.hid hb
  clear hr hb
  go_wp2
  go_ret3
  exact ⟨⟨none,0,0,by rw [X1.out];try rfl,by rw [X1.out];exact rdRow_nil _ _⟩,HB.out⟩
 have t0:(er != 0)=false:=by rw [bne_eq_false_iff_eq];exact Decidable.not_not.1 h0
 have HV:=Lib.hid (HV.out (Decidable.not_not.1 h0))
 have X:=Lib.hid (X.out.trans (if_neg h0))
 by_cases h64:64 < L.length
 ·have X1:=Lib.hid (show R=([],0,8) from X.out.trans (if_pos h64))
  have i8:(64:Int) < (L.length:Int):=by omega
  clear h0 h64 X
  go_enter Tryz.func10,Tryz.ntmps10
  go_wp2_with fail
  refine KP.out.mono ?_
  rintro e w1 ⟨⟨A,n,c,rfl,hr⟩,hb⟩
  obtain ⟨rfl,-,hcm,-⟩:=rdStzs_at hr
  have HB:=Lib.hid hb
  clear hr hb hcm
  go_wp2
  go_ret3
  exact ⟨⟨none,0,0,by rw [X1.out];try rfl,by rw [X1.out];exact rdRow_nil _ _⟩,HB.out⟩
 have X:=Lib.hid (X.out.trans (if_neg h64))
 have i8:¬(64:Int) < (L.length:Int):=by omega
 have H64:=Lib.hid (show L.length≤64 by omega)
 clear h0 h64
 go_enter Tryz.func10,Tryz.ntmps10
 go_wp2_with fail
 refine KP.out.mono ?_
 rintro e w1 ⟨⟨A,n,c,rfl,hr⟩,hb⟩
 obtain ⟨rfl,hnc,hcm,-⟩:=rdStzs_at hr
 have hcm':c≤9223372036854775807:=hcm
 have B1:=Lib.hid hb
 have HL:=Lib.hid hr
 clear hr hb hcm KP
 go_wp2
 go_loopg [8,28] L.length (fun kx u8 u28 wr=>∃(k:Nat) (out:List Pn),u28=.int .i64 k∧k≤L.length∧L.length - k≤kx∧Hid (out.length=k)∧Hid (R=goN (L.drop k) k out)∧Hid (Grow rdPn 3 (fun _=>True) wr w1.heap.size 30 u8 out)∧Hid (Below w1.heap.size w1 wr))
 case atStart=>exact ⟨0,[],rfl,Nat.zero_le _,Nat.le_refl _,Lib.hid rfl,Lib.hid X.out,Lib.hid (Grow.nil _ _ _ _),Lib.hid (Below.refl _ _)⟩
 case round=>
  obtain ⟨k,out,rfl,hk,hkx,HO,HR,HG,HB1⟩:=hrel
  have HB:=Lib.hid (B1.out.trans (HB1.out.mono B1.out.size))
  by_cases hlt:k < L.length
  ·obtain ⟨-,-,-,hat⟩:=rdStzs_at (rdStzs_good.up (rdStzs_good.below HL.out HB1.out) HB1.out.size)
   obtain ⟨ad,A',c',rfl,-,h0,h1⟩:=hat k hlt
   have i0:(0:Int)≤(k:Int):=by omega
   have i1:(k:Int) < (L.length:Int):=by omega
   have hk64:=H64.out
   have i2:(k:Int)≤64:=by omega
   have GA:=Lib.hid (HR.out.trans (goN_at hlt out))
   have KR:=Lib.hid (read8_any A' L[k].length c' L[k] wr h1 (HV.out _ (List.getElem_mem hlt)) (HE.out.below HB.out))
   clear hat h1
   generalize L[k]=st at *
   generalize hsx:rdN st=sx at *
   obtain ⟨er2,⟨xn,xx,xp⟩⟩:=sx
   clear hsx
   simp only [Pn.val] at GA KR
   go_wp2_with fail
   refine KR.out.mono ?_
   rintro e w2 ⟨rfl,hb⟩
   have V2:=Lib.hid hb
   clear hb h0 KR
   have U2:=Lib.hid (show Below wr.heap.size wr (w2.alloc (.cells #[.string xn,.string xx,.int .i64 xp] 30)) from V2.out.alloc V2.out.size _)
   by_cases hz:er2≠0
   ·have X1:=Lib.hid (show R=([],(k:Int)+1,er2) from GA.out.trans (if_pos hz))
    have t1:(er2==0)=false:=by rw [beq_eq_false_iff_ne];exact hz
    have t2:(er2 != 0)=true:=by rw [bne_iff_ne];exact hz
    have HB:=Lib.hid (HB.out.trans (U2.out.mono HB.out.size))
    clear hz GA
    go_wp2
    go_ret3
    exact ⟨⟨none,0,0,by rw [X1.out];try rfl,by rw [X1.out];exact rdRow_nil _ _⟩,HB.out⟩
   have NX:=Lib.hid (GA.out.trans (if_neg hz))
   obtain rfl:er2=0:=Decidable.not_not.1 hz
   clear hz GA
   obtain ⟨U,hU⟩:∃U,U=w2.alloc (.cells #[.string xn,.string xx,.int .i64 xp] 30):=⟨_,rfl⟩
   have c0:U.cell? ⟨w2.heap.size,0,none⟩=some (.string xn):=by rw [hU];simp [go_sem]
   have c1:U.cell? ⟨w2.heap.size,1,none⟩=some (.string xx):=by rw [hU];simp [go_sem]
   have c2:U.cell? ⟨w2.heap.size,2,none⟩=some (.int .i64 xp):=by rw [hU];simp [go_sem]
   rw [←hU] at U2
   have HU:=Lib.hid hU
   clear hU
   have W4:=Lib.hid (show Below w1.heap.size w1 U from HB1.out.trans (U2.out.mono HB1.out.size))
   have G4:=Lib.hid (HG.out.below rdPn_good U2.out)
   have hE:=(show rdPn U (fun b=>True∧b < U.heap.size∧u8.ownBlock≠some b) ⟨xn,xx,xp⟩ (#[.string xn,.string xx,.int .i64 xp]:Array Value).toList from rfl)
   have hn1:out.length+1≤maxLen:=by rw [HO.out];unfold maxLen;omega
   have hn2:(out.length+1)*40≤140737488355328:=by rw [HO.out];omega
   have hs4:w1.heap.size≤U.heap.size:=W4.out.size
   have LN:=Lib.hid (show (out++[(⟨xn,xx,xp⟩:Pn)]).length=k+1 by rw [List.length_append,HO.out];rfl)
   go_upto_region 13 with (fail)
   rw [←HU.out]
   go_wp2_with (at_builtin;refine wpList_grow1 U rfl _ _ 23 rfl rdPn_good (by decide) (fun _=>True) w1.heap.size 30 fi _ 40 Tryz.underlying23 hi hz0 hz1 hz2 rfl u8 _ rfl G4.out ⟨xn,xx,xp⟩ _ 30 hE _ rfl rfl hn1 hn2 hs4 ?_)
   intro v7 w7 hG7 hg7
   have HB7:=Lib.hid (grow_below G4.out hg7 W4.out (Nat.le_refl _) hs4)
   have G7:=Lib.hid hG7
   clear hG7 hg7 hE hn1 hn2 hs4 c0 c1 c2
   go_wp2
   go_roundg (L.length - (k+1))
   case measure=>omega
   case rel=>exact ⟨k+1,_,by go_num,by omega,Nat.le_refl _,LN,NX,G7,HB7⟩
  ·obtain rfl:k=L.length:=by omega
   have X1:=Lib.hid (show R=(out,0,0) from HR.out.trans (by rw [List.drop_length];rfl))
   clear HR
   obtain ⟨Au,cu,rfl,-,-⟩:=HG.out.own
   have RDD:=Lib.hid (HG.out.read rdPn_good)
   clear HG
   go_wp2
   go_ret3
   exact ⟨⟨_,_,_,by rw [X1.out];try rfl,by rw [X1.out];exact RDD.out⟩,HB.out⟩
theorem pin_struct:Tryz.prog.underlying 30=some (.struct (Tryz.prog.fieldsOf 30)):=by kernel_rfl
theorem pin_stood:Tryz.prog.stoodInHeld 30=false:=by kernel_rfl
theorem pin_fields:(Tryz.prog.fieldsOf 30).toList.map (fun f=>(f.type,f.offset,f.name== "_"))=[(9,0,false),(9,1,false),(3,2,false)]:=by kernel_rfl
theorem eq_pin0 (u r:ByteArray) (e:Int) (u' r':ByteArray) (e':Int) (w:World) :
  (Op.equalIn 10000 30 (.agg #[.string u,.string r,.int .i64 e]) (.agg #[.string u',.string r',.int .i64 e'])).run Tryz.prog w=.ok (u.toList==u'.toList&&(r.toList==r'.toList&&e==e')) w:=by
 have hi:=Tryz.underlying3
 have hs:=Tryz.underlying9
 rw [run_equalIn_struct w 9999 _ _ _ pin_struct pin_stood]
 have hf:=pin_fields
 generalize (Tryz.prog.fieldsOf 30).toList=L at hf ⊢
 have hlen:L.length=3:=by have:=congrArg List.length hf;simpa using this
 rcases L with _|⟨f0,_|⟨f1,_|⟨f2,_|⟨f3,L⟩⟩⟩⟩
 ·simp at hlen
 ·simp at hlen
 ·simp at hlen
 ·simp only [List.map_cons,List.map_nil,List.cons.injEq,Prod.mk.injEq,and_true] at hf
  obtain ⟨⟨a0,b0,c0⟩,⟨a1,b1,c1⟩,⟨a2,b2,c2⟩⟩:=hf
  have n0:f0.name≠ "_":=by simpa using c0
  have n1:f1.name≠ "_":=by simpa using c1
  have n2:f2.name≠ "_":=by simpa using c2
  simp only [Op.eqFields,n0,n1,n2,ne_eq,not_false_iff,if_true,a0,b0,a1,b1,a2,b2]
  cases h1:(e==e')<;>cases h2:(u.toList==u'.toList)<;>cases h3:(r.toList==r'.toList)<;>simp [part,isAgg,run_underlying hi,run_underlying hs,run_equalIn_int w 9998 _ _ _ _ _ hi,run_equalIn_string w 9998 _ _ _ hs,h1,h2,h3]
 ·simp at hlen
theorem eq_pin (x y:Pn) (w:World):(Op.equalIn 10000 30 (.agg #[.string x.n,.string x.x,.int .i64 x.p]) (.agg #[.string y.n,.string y.x,.int .i64 y.p])).run Tryz.prog w=.ok (decide (x=y)) w:=by
 rw [eq_pin0,str_eq,str_eq]
 congr 1
 obtain ⟨n,a,p⟩:=x
 obtain ⟨n',a',p'⟩:=y
 rw [Bool.eq_iff_iff]
 simp only [Bool.and_eq_true,decide_eq_true_eq,beq_iff_eq,Pn.mk.injEq]
set_option maxHeartbeats 1000000 in
theorem same8_any (A A':Option Addr) (n c n' c':Nat) (l m:List Pn) (w:World) (h:rdPns w (lt_ w.heap.size) l [.slice A n c]) (h':rdPns w (lt_ w.heap.size) m [.slice A' n' c']) :
  Calls Tryz.prog 12 #[.slice A n c,.slice A' n' c'] w fun e w'=>e=.returned (.bool (decide (l=m)))∧Below w.heap.size w w':=by
 obtain ⟨rfl,hnc,hcm,_⟩:=rdPns_at h
 obtain ⟨rfl,hnc',hcm',_⟩:=rdPns_at h'
 have hcm1:c≤9223372036854775807:=hcm
 have hcm2:c'≤9223372036854775807:=hcm'
 by_cases hlen:l.length=m.length
 ·have hd:((l.length:Int) != (m.length:Int))=false:=by rw [hlen];simp
  have HL:=Lib.hid hlen
  clear hlen
  go_enter Tryz.func12,Tryz.ntmps12
  go_wp2
  go_loopw [5] (fun i wr=>∃k:Nat,k≤l.length∧i=.int .i64 k∧l.take k=m.take k∧Dr w wr) (fun i _=>l.length - (intOf i).toNat)
  case atStart=>exact ⟨0,Nat.zero_le _,rfl,rfl,Dr.refl _⟩
  case round=>
   obtain ⟨k,hk,rfl,htk,hbel⟩:=hrel
   by_cases hlt:k < l.length
   ·obtain ⟨_,_,_,ha⟩:=rdPns_at (rdPns_good.below h (hbel.below _))
    obtain ⟨_,_,_,hb⟩:=rdPns_at (rdPns_good.below h' (hbel.below _))
    have hltm:k < m.length:=by rw [←HL.out];exact hlt
    obtain ⟨ad,rfl,had,h0,h1,h2⟩:=ha k hlt
    obtain ⟨ad',rfl,had',g0,g1,g2⟩:=hb k hltm
    have T:=Lib.hid (same_take (l:=l) (m:=m) HL.out hlt hltm htk)
    have Z:=Lib.hid (show l[k]≠m[k]→l≠m from fun hn e=>hn (by subst e;rfl))
    have HB:=Lib.hid hbel
    have hki:(k:Int) < (m.length:Int):=by omega
    clear htk ha hb hbel h h'
    have hq:=eq_pin l[k] m[k]
    generalize l[k]=x at *
    generalize m[k]=y at *
    by_cases he:x=y
    ·rw [decide_eq_true he] at hq
     have HE:=Lib.hid he
     clear he
     go_wp2_with fail
     go_quiet (fail)
     go_wp2
     go_roundw
     case rel=>exact ⟨k+1,by omega,by go_num,T.out HE.out,HB.out.more _⟩
     case measure=>simp [intOf];omega
    ·rw [decide_eq_false he] at hq
     have HE:=Lib.hid he
     clear he
     go_wp2_with fail
     go_quiet (fail)
     go_wp2
     go_ret
     exact ⟨by rw [decide_eq_false (Z.out HE.out)];try rfl,(HB.out.more _).below _⟩
   ·obtain rfl:k=l.length:=by omega
    have X:=Lib.hid (show l=m by rw [List.take_length] at htk;rw [htk,HL.out,List.take_length])
    clear htk h h'
    go_wp2
    go_ret
    exact ⟨by rw [decide_eq_true X.out];try rfl,hbel.below _⟩
 ·have hd:((l.length:Int) != (m.length:Int))=true:=by rw [bne_iff_ne];omega
  have X:=Lib.hid (show l≠m by rintro rfl;exact hlen rfl)
  clear hlen
  go_enter Tryz.func12,Tryz.ntmps12
  go_wp2
  go_ret
  exact ⟨by rw [decide_eq_false X.out];try rfl,Below.refl _ _⟩
def exA:Pn:=⟨{ data:=#[97,98] },{ data:=#[49,46] },-1⟩
def exB:Pn:=⟨{ data:=#[42] },{ data:=#[50] },900⟩
theorem ex8p:paN (B { data:=#[80,97,99,107,97,103,101,58,32,97,98,10,80,105,110,58,32,118,101,114,115,105,111,110,32,49,46,42,10,80,105,110,45,80,114,105,111,114,105,116,121,58,32,45,49] })=([exA],0,0):=by kernel_rfl
theorem ex8q:prioN [exA,exB] { data:=#[97,98] } { data:=#[49,46,53] }=-1∧prioN [exA,exB] { data:=#[97,98] } { data:=#[50] }=900∧prioN [exA,exB] { data:=#[99,100] } { data:=#[50] }=900∧prioN [exA,exB] { data:=#[99,100] } { data:=#[49] }=500:=⟨by kernel_rfl,by kernel_rfl,by kernel_rfl,by kernel_rfl⟩
theorem pn_one {S:Nat→Prop} (W:World) (x:Pn) {T:TypeId} (hS:S W.heap.size):rdPns (W.alloc (.cells #[.string x.n,.string x.x,.int .i64 x.p] T)) S [x] [.slice (some ⟨W.heap.size,0,none⟩) 1 1]:=
 rd_block rdPn_good (l:=[x]) (css:=[x.cells]) (new_heap W _) hS rfl rfl (fun k hk=>by
  simp only [List.length_singleton] at hk
  obtain rfl:k=0:=by omega
  exact ⟨_,rfl,rfl⟩) (by simp)
set_option maxHeartbeats 4000000 in
theorem shown8_any (w:World) (E:Env w):Calls Tryz.prog 9 #[] w fun e w'=>e=.returned (.bool true)∧Below w.heap.size w w':=by
 have KP:=Lib.hid (parse8_any { data:=#[80,97,99,107,97,103,101,58,32,97,98,10,80,105,110,58,32,118,101,114,115,105,111,110,32,49,46,42,10,80,105,110,45,80,114,105,111,114,105,116,121,58,32,45,49] } w E)
 rw [ex8p] at KP
 obtain ⟨q1,q2,q3,q4⟩:=ex8q
 have Q1:=Lib.hid (fun A c W h=>pprio_any A 2 c [exA,exB] { data:=#[97,98] } { data:=#[49,46,53] } W h)
 have Q2:=Lib.hid (fun A c W h=>pprio_any A 2 c [exA,exB] { data:=#[97,98] } { data:=#[50] } W h)
 have Q3:=Lib.hid (fun A c W h=>pprio_any A 2 c [exA,exB] { data:=#[99,100] } { data:=#[50] } W h)
 have Q4:=Lib.hid (fun A c W h=>pprio_any A 2 c [exA,exB] { data:=#[99,100] } { data:=#[49] } W h)
 rw [q1] at Q1
 rw [q2] at Q2
 rw [q3] at Q3
 rw [q4] at Q4
 obtain ⟨fi,hi,hz0,hz1,hz2⟩:=info_parts pn_info
 clear q1 q2 q3 q4 E
 go_enter Tryz.func9,Tryz.ntmps9
 go_wp2_with fail
 refine KP.out.mono ?_
 rintro e w1 ⟨⟨A,n,c,rfl,hr⟩,hb⟩
 obtain ⟨rfl,hnc,hcm,-⟩:=rdPns_at hr
 simp only [List.length_singleton] at hnc
 have B1:=Lib.hid hb
 have HR:=Lib.hid hr
 clear hr hb hcm KP
 have KS:=Lib.hid (same8_any A (some ⟨w1.heap.size,0,none⟩) 1 c 1 1 [exA] [exA] (w1.alloc (.cells #[.string { data:=#[97,98] },.string { data:=#[49,46] },.int .i64 (-1)] 30)) (rdPns_good.up (rdPns_good.below HR.out (bel_box _ _)) (bel_box _ _).size) (pn_one w1 exA (by unfold lt_;rw [World.size_alloc];omega)))
 rw [decide_eq_true rfl] at KS
 go_wp2_with fail
 refine KS.out.mono ?_
 rintro e w2 ⟨rfl,hb⟩
 have V2:=Lib.hid (bel_boxed hb)
 clear hb KS
 have B2:=Lib.hid (bel_2 B1.out V2.out)
 have HR2:=Lib.hid (rdPns_good.up (rdPns_good.below HR.out V2.out) V2.out.size)
 have BE:=Lib.hid (bel_box w2 (.cells #[] 30))
 have GE:=Lib.hid (show Grow rdPn 3 (fun _=>True) (w2.alloc (.cells #[] 30)) w2.heap.size 30 (.slice (some ⟨w2.heap.size,0,none⟩) 0 0) [] from Grow.empty _ (heap_alloc_new w2 _) (Nat.le_refl _))
 have XE:=Lib.hid (rdPns_good.below HR2.out BE.out)
 have SE:=Lib.hid (show ∀b,lt_ w2.heap.size b→True∧b < (w2.alloc (.cells #[] 30)).heap.size∧(Value.slice (some ⟨w2.heap.size,0,none⟩) 0 0).ownBlock≠some b from fun b hb=>⟨trivial,by rw [World.size_alloc];unfold lt_ at hb;omega,fun hh=>by simp only [Value.ownBlock,Option.some.injEq] at hh;unfold lt_ at hb;omega⟩)
 have hn1:([]:List Pn).length+[exA].length≤maxLen:=by decide
 have hn2:(([]:List Pn).length+[exA].length)*40≤140737488355328:=by decide
 have hs1:w2.heap.size≤(w2.alloc (.cells #[] 30)).heap.size:=BE.out.size
 go_wp2_with (at_builtin;refine wpList_growN _ rfl _ _ 23 23 rfl rdPn_good (by decide) (fun _=>True) w2.heap.size 30 30 fi (.agg #[.string { data:=#[] },.string { data:=#[] },.int .i64 0]) 40 Tryz.underlying23 Tryz.underlying23 hi hz0 hz1 hz2 rfl _ _ rfl GE.out [exA] _ A 1 c rfl XE.out SE.out hn1 hn2 hs1 ?_)
 intro v3 w3 hG3 hg3
 have B3:=Lib.hid (grow_below GE.out hg3 BE.out (Nat.le_refl _) hs1)
 have G3:=Lib.hid (show Grow rdPn 3 (fun _=>True) w3 w2.heap.size 30 v3 [exA] from hG3)
 clear hG3 hg3 hn1 hn2 hs1 XE SE GE
 have hE:=(show rdPn w3 (fun b=>True∧b < w3.heap.size∧v3.ownBlock≠some b) exB (#[.string { data:=#[42] },.string { data:=#[50] },.int .i64 900]:Array Value).toList from rfl)
 have hn1:[exA].length+1≤maxLen:=by decide
 have hn2:([exA].length+1)*40≤140737488355328:=by decide
 have hs1:w2.heap.size≤w3.heap.size:=B3.out.size
 go_wp2_with (at_builtin;refine wpList_grow1 w3 rfl _ _ 23 rfl rdPn_good (by decide) (fun _=>True) w2.heap.size 30 fi _ 40 Tryz.underlying23 hi hz0 hz1 hz2 rfl v3 _ rfl G3.out exB _ 30 hE _ rfl rfl hn1 hn2 hs1 ?_)
 intro v4 w4 hG4 hg4
 have B4:=Lib.hid (grow_below G3.out hg4 B3.out (Nat.le_refl _) hs1)
 obtain ⟨Am,cm,hv4,hm1,hm2⟩:=hG4.own
 have RD:=Lib.hid (show rdPns w4 (lt_ w4.heap.size) [exA,exB] [.slice Am 2 cm] from by have:=hG4.read rdPn_good;rw [hv4] at this;exact this)
 have hv4:v4=.slice Am 2 cm:=hv4
 have Q1:=Lib.hid (Q1.out Am cm)
 have Q2:=Lib.hid (Q2.out Am cm)
 have Q3:=Lib.hid (Q3.out Am cm)
 have Q4:=Lib.hid (Q4.out Am cm)
 have BB:=Lib.hid (bel_2 B2.out B4.out)
 have BZ:=Lib.hid (Below.refl w4.heap.size w4)
 clear hG4 hg4 hE hn1 hn2 hs1 hm1 hm2
 subst hv4
 go_wp2_with fail
 refine (Q1.out _ (rdPns_good.up (rdPns_good.below RD.out BZ.out) BZ.out.size)).mono ?_
 rintro e w5 ⟨rfl,hb⟩
 have B5:=Lib.hid (bel_2 BZ.out hb)
 clear hb
 go_wp2_with fail
 refine (Q2.out _ (rdPns_good.up (rdPns_good.below RD.out B5.out) B5.out.size)).mono ?_
 rintro e w6 ⟨rfl,hb⟩
 have B6:=Lib.hid (bel_2 B5.out hb)
 clear hb
 go_wp2_with fail
 refine (Q3.out _ (rdPns_good.up (rdPns_good.below RD.out B6.out) B6.out.size)).mono ?_
 rintro e w7 ⟨rfl,hb⟩
 have B7:=Lib.hid (bel_2 B6.out hb)
 clear hb
 go_wp2_with fail
 refine (Q4.out _ (rdPns_good.up (rdPns_good.below RD.out B7.out) B7.out.size)).mono ?_
 rintro e w8 ⟨rfl,hb⟩
 have B8:=Lib.hid (bel_2 B7.out hb)
 clear hb
 have B9:=Lib.hid (bel_2 BB.out B8.out)
 go_wp2
 go_ret
 exact ⟨rfl,B9.out⟩
end Go.Proofs.YtbljkpbaceiaiaaGreatDoor
namespace Go.Proofs.YtbljkpbaceiaiaaGreatDoor
open Go.RowKit Go.WideShapes Go.ChangeShapes Go.ChangeAt
section
variable {H:Type} {enc:TypeId × Value→H} {P:Program}
end
theorem laid_out:laidOutB Tryz.prog=true:=by kernel_rfl
section
variable {H:Type} {enc:TypeId × Value→H} {P:Program}
theorem trodAll_below {W W':World} (hl:laidOutB P=true) (hb:Below W.heap.size W W'):∀{ts:List TypeId} {vs:List Value} {ds:List (DataW H)} {ps:List MemPlace},(∀t ∈ ts,P.readableRec t=true∧t < P.types.size)→
  DataW.TrodAll enc P W 0 (fun _=>true) true ts vs ds ps→(∀x ∈ ps,x.block < W.heap.size)→DataW.TrodAll enc P W' 0 (fun b=>decide (b < W.heap.size)) true ts vs ds ps
 | [],[],[],_,_,h,_=>h
 | t::ts,v::vs,d::ds,ps,hts,h,hlt=>by
  obtain ⟨p,q,h1,h2,rfl⟩:=h
  refine ⟨p,q,Below.trod hl (hts t (by simp)).1 (hts t (by simp)).2 h1 hb (fun x hx=>hlt x (by simp [hx])),trodAll_below hl hb (fun t ht=>hts t (by simp [ht])) h2 (fun x hx=>hlt x (by simp [hx])),rfl⟩
 | [],[],_::_,_,_,h,_=>h.elim
 | [],_::_,_,_,_,h,_=>h.elim
 | _::_,[],_,_,_,h,_=>h.elim
 | _::_,_::_,[],_,_,h,_=>h.elim
theorem law_post {f:Func} {s:ChangeSpec} {W W':World} {args:Array Value} {ds gs:List (DataW H)} {before:List MemPlace} {b:TypeId} {apart:Bool}
  (hW:DataW.Whole enc P f.params.toList s.vars apart W args.toList ds gs before) (hv:s.vars=[])
  (h1:(s.fn H ds).results=[.lit (.bool true)]) (h2:(s.fn H ds).args=ds) (h3:(s.fn H ds).vars=[])
  (hrt:f.resultTypes=#[b]) (hbool:P.underlying b=some .bool) (hl:laidOutB P=true) (hts:∀t ∈ f.params.toList,P.readableRec t=true∧t < P.types.size)
  (hb:Below W.heap.size W W'):s.post enc P f apart true false false W args (.bool true) W':=by
 have hW':=hW
 have hlt0:=hW.lt
 obtain ⟨p,q,hA,hV,rfl,hz,hn⟩:=hW
 rw [hv] at hV
 obtain ⟨rfl,rfl⟩:=trodVars_none hV
 refine ⟨ds,[],p++[],[],p,[],hW',?_,?_,?_,hb.frame _,fun h=>by cases h⟩
 ·rw [List.append_nil,h1,hrt]
  exact trodAll_cons_mk (shut_bool hbool _) trodAll_mk0
 ·rw [List.append_nil,h2]
  exact trodAll_below hl hb hts hA (fun x hx=>hlt0 x (by simp [hx]))
 ·rw [hv,List.append_nil,h3];rfl
end
end Go.Proofs.YtbljkpbaceiaiaaGreatDoor
