/- What the laws rest on: P8n, S5h, S5d, S5i, S5j, S5n, S5o. -/
import Derived.IntWalk
import Derived.Test.YtboinnjncaehkaaGreatDoorQBOZA
set_option maxRecDepth 100000
set_option linter.unusedVariables false
set_option linter.unusedSimpArgs false
namespace Go.Proofs.YtboinnjncaehkaaGreatDoor
open Go.RowKit Go.Sort
def rd7 (st:List Fd):Int × Hr:=if (rdP st).1≠0 then ((rdP st).1,nil7) else if orE (mkN st nAu) (mkN st nHo)≠0 then (orE (mkN st nAu) (mkN st nHo),nil7) else (0,⟨(rdP st).2,mkB st nAu,mkB st nHo⟩)
def RdHR (w:World) (s:Int × Hr) (e:Ending) (w':World):Prop:=(∃A1 c1 A2 c2 A3 c3 A4 c4,e=.returned (.tuple #[s.2.val A1 c1 A2 c2 A3 c3 A4 c4,.int .i64 s.1])∧EntV w' (fun b=>w.heap.size≤b∧b < w'.heap.size) s.2.e A1 c1 A2 c2 A3 c3 A4 c4)∧Below w.heap.size w w'
set_option maxHeartbeats 4000000 in
theorem read7_any (A:Option Addr) (n c:Nat) (st:List Fd) (w:World) (h:rdFds w (lt_ w.heap.size) st [.slice A n c]) (hz:∀nm,(fstV st nm).size≤65536) (E:EnvR w) :
  Calls Tryz.prog 31 #[.slice A n c] w (RdHR w (rd7 st)):=by
 obtain ⟨V,hV⟩:∃V,V=w.alloc (.cells #[.string { data:=#[] },.string { data:=#[] },.slice none 0 0,.slice none 0 0,.slice none 0 0,.slice none 0 0,.bool false,.bool false] 36):=⟨_,rfl⟩
 have B1:Below w.heap.size w V:=by rw [hV];exact (Below.refl w.heap.size w).alloc (Nat.le_refl _) _
 have HV:=Lib.hid hV
 have HR:=Lib.hid (fun (W:World) (hb:Below w.heap.size w W)=>(rdFds_good.up (rdFds_good.below h hb) hb.size:rdFds W (lt_ W.heap.size) st [.slice A n c]))
 have KE:=Lib.hid (eread_any A n c st V (HR.out V B1) hz (E.below B1))
 have K1:=Lib.hid (fun (W:World) (hb:Below w.heap.size w W)=>mark5_any A n c st nAu W (HR.out W hb))
 have K2:=Lib.hid (fun (W:World) (hb:Below w.heap.size w W)=>mark5_any A n c st nHo W (HR.out W hb))
 have HB:=Lib.hid B1
 have X:=Lib.hid (show rd7 st=if (rdP st).1≠0 then ((rdP st).1,nil7) else if orE (mkN st nAu) (mkN st nHo)≠0 then (orE (mkN st nAu) (mkN st nHo),nil7) else (0,⟨(rdP st).2,mkB st nAu,mkB st nHo⟩) from rfl)
 have sV:w.heap.size < V.heap.size:=by rw [hV,World.size_alloc];omega
 have SV:=Lib.hid sV
 have nA:nAu={ data:=#[65,117,116,111] }:=by kernel_rfl
 have nH:nHo={ data:=#[72,111,108,100] }:=by kernel_rfl
 rw [nA] at K1 X
 rw [nH] at K2 X
 clear h hz E B1 hV nA nH sV
 generalize rd7 st=R at *
 generalize rdP st=s at *
 obtain ⟨er,n,v,d,r,c,p⟩:=s
 generalize mkN st { data:=#[65,117,116,111] }=e1 at *
 generalize mkN st { data:=#[72,111,108,100] }=e2 at *
 generalize mkB st { data:=#[65,117,116,111] }=b1 at *
 generalize mkB st { data:=#[72,111,108,100] }=b2 at *
 go_enter Tryz.func31,Tryz.ntmps31
 go_wp2_with fail
 rw [←HV.out]
 refine KE.out.mono ?_
 rintro e w1 ⟨⟨A1,c1,A2,c2,A3,c3,A4,c4,rfl,hv⟩,hb1⟩
 simp only at hv X
 have HVE:=Lib.hid hv
 have C1:=Lib.hid hb1
 clear hv hb1 KE
 go_upto_region 2 with (fail)
 obtain ⟨U,hU⟩:∃U,U=w1.alloc (.cells #[.string n,.string v,.slice A1 d.length c1,.slice A2 r.length c2,.slice A3 c.length c3,.slice A4 p.length c4] 34):=⟨_,rfl⟩
 rw [←hU]
 have CU:=Lib.hid (show Below V.heap.size V U by rw [hU];exact C1.out.alloc C1.out.size _)
 have C1U:=Lib.hid (show Below w1.heap.size w1 U by rw [hU];exact (Below.refl _ _).alloc (Nat.le_refl _) _)
 have BU:=Lib.hid (bel_in HB.out CU.out)
 have EC:=Lib.hid (show ∀j u,([.string n,.string v,.slice A1 d.length c1,.slice A2 r.length c2,.slice A3 c.length c3,.slice A4 p.length c4]:List Value)[j]?=some u→U.cell? ⟨w1.heap.size,j,none⟩=some u from fun j u hu=>by
  rw [hU]
  refine (cell_of_row _ _ j _ _ (0,0) (heap_alloc_new w1 _)).trans ?_
  rw [←hu];simp)
 have SU:=Lib.hid (show w1.heap.size < U.heap.size by rw [hU,World.size_alloc];omega)
 clear hU
 by_cases h0:er=0
 ·rw [if_neg (by simp [h0])] at X
  subst h0
  go_wp2_with fail
  refine (K1.out U BU.out).mono ?_
  rintro e w3 ⟨rfl,hb3⟩
  have C3:=Lib.hid (bel_in CU.out hb3)
  have U3:=Lib.hid hb3
  clear hb3
  go_wp2_with fail
  refine (K2.out w3 (bel_in HB.out C3.out)).mono ?_
  rintro e w4 ⟨rfl,hb4⟩
  have C4:=Lib.hid (bel_in C3.out hb4)
  have U4:=Lib.hid (bel_in U3.out hb4)
  clear hb4 C3 U3 K1 K2
  go_wp2_with fail
  refine (or7_any w4.heap.size e1 e2 _ ((cell_of_row _ _ 0 _ _ (0,0) (heap_alloc_new w4 _)).trans rfl) ((cell_of_row _ _ 1 _ _ (0,0) (heap_alloc_new w4 _)).trans rfl)).mono ?_
  rintro e w5 ⟨rfl,hw5⟩
  have C5:=Lib.hid (show Below V.heap.size V w5 by rw [←hw5];exact C4.out.alloc C4.out.size _)
  have U5:=Lib.hid (show Below U.heap.size U w5 by rw [←hw5];exact U4.out.alloc U4.out.size _)
  have B5:=Lib.hid (bel_in HB.out C5.out)
  clear hw5 C4 U4
  have r0:=keep6 C5.out (show V.cell? ⟨w.heap.size,0,none⟩=some (.string { data:=#[] }) from by rw [HV.out];simp [go_sem])
  have f0:=(C5.out.frozen (p:=⟨w.heap.size,0,none⟩) (by show w.heap.size < V.heap.size;rw [HV.out,World.size_alloc];omega)).trans (show V.frozen? ⟨w.heap.size,0,none⟩=false from by rw [HV.out];simp [go_sem])
  have r1:=keep6 C5.out (show V.cell? ⟨w.heap.size,1,none⟩=some (.string { data:=#[] }) from by rw [HV.out];simp [go_sem])
  have f1:=(C5.out.frozen (p:=⟨w.heap.size,1,none⟩) (by show w.heap.size < V.heap.size;rw [HV.out,World.size_alloc];omega)).trans (show V.frozen? ⟨w.heap.size,1,none⟩=false from by rw [HV.out];simp [go_sem])
  have r2:=keep6 C5.out (show V.cell? ⟨w.heap.size,2,none⟩=some (.slice none 0 0) from by rw [HV.out];simp [go_sem])
  have f2:=(C5.out.frozen (p:=⟨w.heap.size,2,none⟩) (by show w.heap.size < V.heap.size;rw [HV.out,World.size_alloc];omega)).trans (show V.frozen? ⟨w.heap.size,2,none⟩=false from by rw [HV.out];simp [go_sem])
  have r3:=keep6 C5.out (show V.cell? ⟨w.heap.size,3,none⟩=some (.slice none 0 0) from by rw [HV.out];simp [go_sem])
  have f3:=(C5.out.frozen (p:=⟨w.heap.size,3,none⟩) (by show w.heap.size < V.heap.size;rw [HV.out,World.size_alloc];omega)).trans (show V.frozen? ⟨w.heap.size,3,none⟩=false from by rw [HV.out];simp [go_sem])
  have r4:=keep6 C5.out (show V.cell? ⟨w.heap.size,4,none⟩=some (.slice none 0 0) from by rw [HV.out];simp [go_sem])
  have f4:=(C5.out.frozen (p:=⟨w.heap.size,4,none⟩) (by show w.heap.size < V.heap.size;rw [HV.out,World.size_alloc];omega)).trans (show V.frozen? ⟨w.heap.size,4,none⟩=false from by rw [HV.out];simp [go_sem])
  have r5:=keep6 C5.out (show V.cell? ⟨w.heap.size,5,none⟩=some (.slice none 0 0) from by rw [HV.out];simp [go_sem])
  have f5:=(C5.out.frozen (p:=⟨w.heap.size,5,none⟩) (by show w.heap.size < V.heap.size;rw [HV.out,World.size_alloc];omega)).trans (show V.frozen? ⟨w.heap.size,5,none⟩=false from by rw [HV.out];simp [go_sem])
  have r6:=keep6 C5.out (show V.cell? ⟨w.heap.size,6,none⟩=some (.bool false) from by rw [HV.out];simp [go_sem])
  have f6:=(C5.out.frozen (p:=⟨w.heap.size,6,none⟩) (by show w.heap.size < V.heap.size;rw [HV.out,World.size_alloc];omega)).trans (show V.frozen? ⟨w.heap.size,6,none⟩=false from by rw [HV.out];simp [go_sem])
  have r7:=keep6 C5.out (show V.cell? ⟨w.heap.size,7,none⟩=some (.bool false) from by rw [HV.out];simp [go_sem])
  have f7:=(C5.out.frozen (p:=⟨w.heap.size,7,none⟩) (by show w.heap.size < V.heap.size;rw [HV.out,World.size_alloc];omega)).trans (show V.frozen? ⟨w.heap.size,7,none⟩=false from by rw [HV.out];simp [go_sem])
  have c0':=keep6 U5.out (EC.out 0 _ rfl)
  have c1':=keep6 U5.out (EC.out 1 _ rfl)
  have c2':=keep6 U5.out (EC.out 2 _ rfl)
  have c3':=keep6 U5.out (EC.out 3 _ rfl)
  have c4':=keep6 U5.out (EC.out 4 _ rfl)
  have c5':=keep6 U5.out (EC.out 5 _ rfl)
  generalize hq:orE e1 e2=q at *
  clear hq
  by_cases hq0:q=0
  ·rw [if_neg (by simp [hq0])] at X
   subst hq0
   obtain ⟨k0,k1,k2,k3,k4,k5,k6,k7,bW,oW,sW⟩:=fin8 (x0:=.string n) (x1:=.string v) (x2:=.slice A1 d.length c1) (x3:=.slice A2 r.length c2) (x4:=.slice A3 c.length c3) (x5:=.slice A4 p.length c4) (x6:=.bool b1) (x7:=.bool b2) B5.out (Nat.le_refl _) r0 r1 r2 r3 r4 r5 r6 r7
   have KK:=Lib.hid (And.intro k0 (And.intro k1 (And.intro k2 (And.intro k3 (And.intro k4 (And.intro k5 (And.intro k6 (And.intro k7 (And.intro bW (And.intro oW sW))))))))))
   clear k0 k1 k2 k3 k4 k5 k6 k7 bW oW sW
   go_wp2
   obtain ⟨k0,k1,k2,k3,k4,k5,k6,k7,bW,oW,sW⟩:=KK.out
   unfold set8 at k0 k1 k2 k3 k4 k5 k6 k7 bW oW sW
   obtain ⟨WF,hWF⟩:∃WF,WF=((((((((w5.setCell ⟨w.heap.size,0,none⟩ (.string n)).setCell ⟨w.heap.size,1,none⟩ (.string v)).setCell ⟨w.heap.size,2,none⟩ (.slice A1 d.length c1)).setCell ⟨w.heap.size,3,none⟩ (.slice A2 r.length c2)).setCell ⟨w.heap.size,4,none⟩ (.slice A3 c.length c3)).setCell ⟨w.heap.size,5,none⟩ (.slice A4 p.length c4)).setCell ⟨w.heap.size,6,none⟩ (.bool b1)).setCell ⟨w.heap.size,7,none⟩ (.bool b2)):=⟨_,rfl⟩
   rw [←hWF] at k0 k1 k2 k3 k4 k5 k6 k7 bW oW sW ⊢
   clear hWF
   exact bodyPost_ret (v:=.tuple #[.agg #[.string n,.string v,.slice A1 d.length c1,.slice A2 r.length c2,.slice A3 c.length c3,.slice A4 p.length c4,.bool b1,.bool b2],.int .i64 0]) (by clear KK;simp [results,Tryz.results31,go_sem,k0,k1,k2,k3,k4,k5,k6,k7]) rfl (by rw [X.out];exact ⟨⟨A1,c1,A2,c2,A3,c3,A4,c4,rfl,HVE.out.to (fun b hb=>((oW b (by have:=hb.1;have:=SV.out;omega)).trans (U5.out.block b (by have:=hb.2;have:=SU.out;omega))).trans (C1U.out.block b hb.2)) (fun b hb=>⟨by have:=hb.1;have:=SV.out;omega,by have:=hb.2;have:=SU.out;have:=U5.out.size;rw [sW];omega⟩)⟩,bW⟩)
  ·rw [if_pos hq0] at X
   have tq:(q != 0)=true:=by rw [bne_iff_ne];exact hq0
   obtain ⟨k0,k1,k2,k3,k4,k5,k6,k7,bW,oW,sW⟩:=fin8 (x0:=.string { data:=#[] }) (x1:=.string { data:=#[] }) (x2:=.slice none 0 0) (x3:=.slice none 0 0) (x4:=.slice none 0 0) (x5:=.slice none 0 0) (x6:=.bool false) (x7:=.bool false) B5.out (Nat.le_refl _) r0 r1 r2 r3 r4 r5 r6 r7
   have KK:=Lib.hid (And.intro k0 (And.intro k1 (And.intro k2 (And.intro k3 (And.intro k4 (And.intro k5 (And.intro k6 (And.intro k7 (And.intro bW (And.intro oW sW))))))))))
   clear k0 k1 k2 k3 k4 k5 k6 k7 bW oW sW
   go_wp2
   obtain ⟨k0,k1,k2,k3,k4,k5,k6,k7,bW,oW,sW⟩:=KK.out
   unfold set8 at k0 k1 k2 k3 k4 k5 k6 k7 bW oW sW
   obtain ⟨WF,hWF⟩:∃WF,WF=((((((((w5.setCell ⟨w.heap.size,0,none⟩ (.string { data:=#[] })).setCell ⟨w.heap.size,1,none⟩ (.string { data:=#[] })).setCell ⟨w.heap.size,2,none⟩ (.slice none 0 0)).setCell ⟨w.heap.size,3,none⟩ (.slice none 0 0)).setCell ⟨w.heap.size,4,none⟩ (.slice none 0 0)).setCell ⟨w.heap.size,5,none⟩ (.slice none 0 0)).setCell ⟨w.heap.size,6,none⟩ (.bool false)).setCell ⟨w.heap.size,7,none⟩ (.bool false)):=⟨_,rfl⟩
   rw [←hWF] at k0 k1 k2 k3 k4 k5 k6 k7 bW oW sW ⊢
   clear hWF
   exact bodyPost_ret (v:=.tuple #[.agg #[.string { data:=#[] },.string { data:=#[] },.slice none 0 0,.slice none 0 0,.slice none 0 0,.slice none 0 0,.bool false,.bool false],.int .i64 q]) (by clear KK;simp [results,Tryz.results31,go_sem,k0,k1,k2,k3,k4,k5,k6,k7]) rfl (by rw [X.out];exact ⟨⟨none,0,none,0,none,0,none,0,rfl,⟨rdRow_nil _ _,rdRow_nil _ _,rdRow_nil _ _,rdRow_nil _ _⟩⟩,bW⟩)
 ·rw [if_pos h0] at X
  have tq:(er != 0)=true:=by rw [bne_iff_ne];exact h0
  have r0:=keep6 CU.out (show V.cell? ⟨w.heap.size,0,none⟩=some (.string { data:=#[] }) from by rw [HV.out];simp [go_sem])
  have f0:=(CU.out.frozen (p:=⟨w.heap.size,0,none⟩) (by show w.heap.size < V.heap.size;rw [HV.out,World.size_alloc];omega)).trans (show V.frozen? ⟨w.heap.size,0,none⟩=false from by rw [HV.out];simp [go_sem])
  have r1:=keep6 CU.out (show V.cell? ⟨w.heap.size,1,none⟩=some (.string { data:=#[] }) from by rw [HV.out];simp [go_sem])
  have f1:=(CU.out.frozen (p:=⟨w.heap.size,1,none⟩) (by show w.heap.size < V.heap.size;rw [HV.out,World.size_alloc];omega)).trans (show V.frozen? ⟨w.heap.size,1,none⟩=false from by rw [HV.out];simp [go_sem])
  have r2:=keep6 CU.out (show V.cell? ⟨w.heap.size,2,none⟩=some (.slice none 0 0) from by rw [HV.out];simp [go_sem])
  have f2:=(CU.out.frozen (p:=⟨w.heap.size,2,none⟩) (by show w.heap.size < V.heap.size;rw [HV.out,World.size_alloc];omega)).trans (show V.frozen? ⟨w.heap.size,2,none⟩=false from by rw [HV.out];simp [go_sem])
  have r3:=keep6 CU.out (show V.cell? ⟨w.heap.size,3,none⟩=some (.slice none 0 0) from by rw [HV.out];simp [go_sem])
  have f3:=(CU.out.frozen (p:=⟨w.heap.size,3,none⟩) (by show w.heap.size < V.heap.size;rw [HV.out,World.size_alloc];omega)).trans (show V.frozen? ⟨w.heap.size,3,none⟩=false from by rw [HV.out];simp [go_sem])
  have r4:=keep6 CU.out (show V.cell? ⟨w.heap.size,4,none⟩=some (.slice none 0 0) from by rw [HV.out];simp [go_sem])
  have f4:=(CU.out.frozen (p:=⟨w.heap.size,4,none⟩) (by show w.heap.size < V.heap.size;rw [HV.out,World.size_alloc];omega)).trans (show V.frozen? ⟨w.heap.size,4,none⟩=false from by rw [HV.out];simp [go_sem])
  have r5:=keep6 CU.out (show V.cell? ⟨w.heap.size,5,none⟩=some (.slice none 0 0) from by rw [HV.out];simp [go_sem])
  have f5:=(CU.out.frozen (p:=⟨w.heap.size,5,none⟩) (by show w.heap.size < V.heap.size;rw [HV.out,World.size_alloc];omega)).trans (show V.frozen? ⟨w.heap.size,5,none⟩=false from by rw [HV.out];simp [go_sem])
  have r6:=keep6 CU.out (show V.cell? ⟨w.heap.size,6,none⟩=some (.bool false) from by rw [HV.out];simp [go_sem])
  have f6:=(CU.out.frozen (p:=⟨w.heap.size,6,none⟩) (by show w.heap.size < V.heap.size;rw [HV.out,World.size_alloc];omega)).trans (show V.frozen? ⟨w.heap.size,6,none⟩=false from by rw [HV.out];simp [go_sem])
  have r7:=keep6 CU.out (show V.cell? ⟨w.heap.size,7,none⟩=some (.bool false) from by rw [HV.out];simp [go_sem])
  have f7:=(CU.out.frozen (p:=⟨w.heap.size,7,none⟩) (by show w.heap.size < V.heap.size;rw [HV.out,World.size_alloc];omega)).trans (show V.frozen? ⟨w.heap.size,7,none⟩=false from by rw [HV.out];simp [go_sem])
  obtain ⟨k0,k1,k2,k3,k4,k5,k6,k7,bW,oW,sW⟩:=fin8 (x0:=.string { data:=#[] }) (x1:=.string { data:=#[] }) (x2:=.slice none 0 0) (x3:=.slice none 0 0) (x4:=.slice none 0 0) (x5:=.slice none 0 0) (x6:=.bool false) (x7:=.bool false) BU.out (Nat.le_refl _) r0 r1 r2 r3 r4 r5 r6 r7
  have KK:=Lib.hid (And.intro k0 (And.intro k1 (And.intro k2 (And.intro k3 (And.intro k4 (And.intro k5 (And.intro k6 (And.intro k7 (And.intro bW (And.intro oW sW))))))))))
  clear k0 k1 k2 k3 k4 k5 k6 k7 bW oW sW
  go_wp2
  obtain ⟨k0,k1,k2,k3,k4,k5,k6,k7,bW,oW,sW⟩:=KK.out
  unfold set8 at k0 k1 k2 k3 k4 k5 k6 k7 bW oW sW
  obtain ⟨WF,hWF⟩:∃WF,WF=((((((((U.setCell ⟨w.heap.size,0,none⟩ (.string { data:=#[] })).setCell ⟨w.heap.size,1,none⟩ (.string { data:=#[] })).setCell ⟨w.heap.size,2,none⟩ (.slice none 0 0)).setCell ⟨w.heap.size,3,none⟩ (.slice none 0 0)).setCell ⟨w.heap.size,4,none⟩ (.slice none 0 0)).setCell ⟨w.heap.size,5,none⟩ (.slice none 0 0)).setCell ⟨w.heap.size,6,none⟩ (.bool false)).setCell ⟨w.heap.size,7,none⟩ (.bool false)):=⟨_,rfl⟩
  rw [←hWF] at k0 k1 k2 k3 k4 k5 k6 k7 bW oW sW ⊢
  clear hWF
  exact bodyPost_ret (v:=.tuple #[.agg #[.string { data:=#[] },.string { data:=#[] },.slice none 0 0,.slice none 0 0,.slice none 0 0,.slice none 0 0,.bool false,.bool false],.int .i64 er]) (by clear KK;simp [results,Tryz.results31,go_sem,k0,k1,k2,k3,k4,k5,k6,k7]) rfl (by rw [X.out];exact ⟨⟨none,0,none,0,none,0,none,0,rfl,⟨rdRow_nil _ _,rdRow_nil _ _,rdRow_nil _ _,rdRow_nil _ _⟩⟩,bW⟩)
end Go.Proofs.YtboinnjncaehkaaGreatDoor
namespace Go.Proofs.YtboinnjncaehkaaGreatDoor
open Go.RowKit
theorem digit5_any (c:Nat) (w:World):Calls Tryz.prog 216 #[.int .u8 (c:Int)] w fun e w'=>e=.returned (.bool (digB c))∧w=w':=by
 have X:=Lib.hid (show digB c=(decide ((48:Int)≤c)&&decide ((c:Int)≤57)) by unfold digB;rw [Bool.eq_iff_iff];simp;omega)
 go_enter Tryz.func216,Tryz.ntmps216
 go_wp2
 all_goals
  go_ret
  refine ⟨congrArg (fun b=>Ending.returned (.bool b)) ?_,rfl⟩
  rw [X.out,Bool.eq_iff_iff]
  simp
  omega
theorem letter5_any (c:Nat) (w:World):Calls Tryz.prog 215 #[.int .u8 (c:Int)] w fun e w'=>e=.returned (.bool (letB c))∧w=w':=by
 have X:=Lib.hid (show letB c=((decide ((97:Int)≤c)&&decide ((c:Int)≤122))||(decide ((65:Int)≤c)&&decide ((c:Int)≤90))) by unfold letB;rw [Bool.eq_iff_iff];simp;omega)
 go_enter Tryz.func215,Tryz.ntmps215
 go_wp2
 all_goals
  go_ret
  refine ⟨congrArg (fun b=>Ending.returned (.bool b)) ?_,rfl⟩
  rw [X.out,Bool.eq_iff_iff]
  simp
  omega
set_option maxHeartbeats 1000000 in
theorem low5_any (s:ByteArray) (w:World) (hs:s.size≤maxLen):Calls Tryz.prog 159 #[.string s] w fun e w'=>e=.returned (.bool (lowB (B s)))∧Below w.heap.size w w':=by
 unfold maxLen at hs
 obtain ⟨cap,w1,hcv,hb,hcells⟩:=bytes_cells w s
 have HB:=Lib.hid hb
 have HC:=Lib.hid hcells
 clear hb hcells
 go_enter Tryz.func159,Tryz.ntmps159
 go_wp2
 clear hcv
 go_loop [8] (fun i=>∃k:Nat,k≤s.size∧i=.int .i64 k∧lowB (B s)=lowB ((B s).drop k)) (fun i=>s.size - (intOf i).toNat)
 case atStart=>exact ⟨0,Nat.zero_le _,rfl,rfl⟩
 case round=>
  obtain ⟨k,hk,rfl,hl⟩:=hrel
  have HL:=Lib.hid hl
  clear hl
  by_cases hlt:k < s.size
  ·have BD:=Lib.hid (B_drop s k hlt)
   have hb:=byte_le s k hlt
   have hc:=HC.out k hlt
   by_cases h32:s[k].toNat < 32
   ·have hd:(s[k].toNat:Int) < 32:=by omega
    have X:=Lib.hid (show lowB (B s)=true by rw [HL.out,BD.out,low_cons,decide_eq_true h32];rfl)
    clear h32
    go_wp2
    go_ret
    exact ⟨by rw [X.out];try rfl,HB.out⟩
   ·have hd:¬(s[k].toNat:Int) < 32:=by omega
    have X:=Lib.hid (show lowB (B s)=lowB ((B s).drop (k+1)) by rw [HL.out,BD.out,low_cons,decide_eq_false h32];rfl)
    clear h32
    go_wp2
    go_round
    case rel=>exact ⟨k+1,by omega,by go_num,X.out⟩
    case measure=>simp [intOf];omega
  ·have X:=Lib.hid (show lowB (B s)=false by rw [HL.out,B_drop_end s k (by omega)];rfl)
   go_wp2
   go_ret
   exact ⟨by rw [X.out];try rfl,HB.out⟩
theorem fn_is {s:ByteArray} (h0:0 < s.size) (h40:s.size≤40) (hl:letB s[0].toNat=true):fnB (B s)=(B s).all nmC:=by
 have h:=B_drop s 0 h0
 rw [List.drop_zero] at h
 have hlen:=B_len s
 rw [h] at hlen ⊢
 simp only [List.length_cons] at hlen
 rw [fnB_cons,List.all_cons,hl,decide_eq_true (by omega)]
 have:nmC s[0].toNat=true:=by unfold nmC;rw [hl];rfl
 rw [this,Bool.and_true]
theorem fn_big {s:ByteArray} (h:40 < s.size):fnB (B s)=false:=by
 have hd:=B_drop s 0 (by omega)
 rw [List.drop_zero] at hd
 have hlen:=B_len s
 rw [hd] at hlen ⊢
 simp only [List.length_cons] at hlen
 rw [fnB_cons,decide_eq_false (by omega),Bool.and_false]
theorem fn_let {s:ByteArray} (h0:0 < s.size) (hl:letB s[0].toNat=false):fnB (B s)=false:=by
 have hd:=B_drop s 0 h0
 rw [List.drop_zero] at hd
 rw [hd,fnB_cons,hl];rfl
set_option maxHeartbeats 1000000 in
theorem name5_any (s:ByteArray) (w:World) (hs:s.size≤maxLen):Calls Tryz.prog 185 #[.string s] w fun e w'=>e=.returned (.bool (fnB (B s)))∧Below w.heap.size w w':=by
 unfold maxLen at hs
 have em:=emp_eq s
 by_cases h0:B s=[]
 ·rw [decide_eq_true h0] at em
  have X:=Lib.hid (show fnB (B s)=false by rw [h0];rfl)
  clear h0
  go_enter Tryz.func185,Tryz.ntmps185
  go_wp2
  go_ret
  exact ⟨by rw [X.out];try rfl,Below.refl _ _⟩
 ·rw [decide_eq_false h0] at em
  have hs0:0 < s.size:=by
   rcases Nat.eq_zero_or_pos s.size with h|h
   ·exact absurd (List.eq_nil_of_length_eq_zero (by rw [B_len];exact h)) h0
   ·exact h
  clear h0
  by_cases h40:40 < s.size
  ·have X:=Lib.hid (fn_big h40)
   have p:(40:Int) < (s.size:Int):=by omega
   clear h40
   go_enter Tryz.func185,Tryz.ntmps185
   go_wp2
   go_ret
   exact ⟨by rw [X.out];try rfl,Below.refl _ _⟩
  ·have p:decide ((40:Int) < (s.size:Int))=false:=by rw [decide_eq_false_iff_not];omega
   have hb0:=byte_le s 0 hs0
   have K0:=Lib.hid (fun w=>letter5_any s[0].toNat w)
   cases hl0:letB s[0].toNat
   ·rw [hl0] at K0
    have X:=Lib.hid (fn_let hs0 hl0)
    clear hl0
    go_enter Tryz.func185,Tryz.ntmps185
    go_wp2_with (go_at_call 215;(with_reducible refine (K0.out _).mono ?_);rintro e w' ⟨rfl,rfl⟩)
    go_ret
    exact ⟨by rw [X.out];try rfl,Below.refl _ _⟩
   ·rw [hl0] at K0
    have FN:=Lib.hid (fn_is hs0 (by omega) hl0)
    obtain ⟨cap,w1,hcv,hb,hcells⟩:=bytes_cells w s
    have HB:=Lib.hid hb
    have HC:=Lib.hid hcells
    have hlen:s.size≤40:=by omega
    clear hb hcells hl0
    go_enter Tryz.func185,Tryz.ntmps185
    go_wp2_with (go_at_call 215;(with_reducible refine (K0.out _).mono ?_);rintro e w' ⟨rfl,rfl⟩)
    clear hcv
    go_loop [21] (fun x=>∃k:Nat,k≤s.size∧x=.int .i64 k∧(B s).all nmC=((B s).drop k).all nmC) (fun x=>s.size - (intOf x).toNat)
    case atStart=>exact ⟨0,Nat.zero_le _,rfl,rfl⟩
    case round=>
     obtain ⟨k,hk,rfl,hno⟩:=hrel
     have HN:=Lib.hid hno
     clear hno
     by_cases hlt:k < s.size
     ·have BD:=Lib.hid (B_drop s k hlt)
      have hb:=byte_le s k hlt
      have hc:=HC.out k hlt
      have KL:=Lib.hid (fun w=>letter5_any s[k].toNat w)
      have KD:=Lib.hid (fun w=>digit5_any s[k].toNat w)
      have NX:=Lib.hid (show nmC s[k].toNat=true→(B s).all nmC=((B s).drop (k+1)).all nmC from fun h=>by rw [HN.out,BD.out,List.all_cons,h,Bool.true_and])
      have NN:=Lib.hid (show nmC s[k].toNat=false→fnB (B s)=false from fun h=>by rw [FN.out,HN.out,BD.out,List.all_cons,h,Bool.false_and])
      have NC:=Lib.hid (show nmC s[k].toNat=(letB s[k].toNat||digB s[k].toNat||decide (s[k].toNat=45)) from rfl)
      cases hl:letB s[k].toNat
      ·rw [hl] at KL NC
       clear hl
       cases hd:digB s[k].toNat
       ·rw [hd] at KD NC
        clear hd
        by_cases h45:s[k].toNat=45
        ·have p1:((s[k].toNat:Int) != 45)=false:=by rw [h45];rfl
         have Y:=Lib.hid (NX.out (by rw [NC.out,decide_eq_true h45];rfl))
         clear h45
         go_wp2_with (first|(go_at_call 215;(with_reducible refine (KL.out _).mono ?_);rintro e w' ⟨rfl,rfl⟩)|(go_at_call 216;(with_reducible refine (KD.out _).mono ?_);rintro e w' ⟨rfl,rfl⟩))
         go_round
         case rel=>exact ⟨k+1,by omega,by go_num,Y.out⟩
         case measure=>simp [intOf];omega
        ·have p1:((s[k].toNat:Int) != 45)=true:=by rw [bne_iff_ne];omega
         have X:=Lib.hid (NN.out (by rw [NC.out,decide_eq_false h45];rfl))
         clear h45
         go_wp2_with (first|(go_at_call 215;(with_reducible refine (KL.out _).mono ?_);rintro e w' ⟨rfl,rfl⟩)|(go_at_call 216;(with_reducible refine (KD.out _).mono ?_);rintro e w' ⟨rfl,rfl⟩))
         go_ret
         exact ⟨by rw [X.out];try rfl,HB.out⟩
       ·rw [hd] at KD NC
        clear hd
        have Y:=Lib.hid (NX.out (by rw [NC.out];rfl))
        go_wp2_with (first|(go_at_call 215;(with_reducible refine (KL.out _).mono ?_);rintro e w' ⟨rfl,rfl⟩)|(go_at_call 216;(with_reducible refine (KD.out _).mono ?_);rintro e w' ⟨rfl,rfl⟩))
        go_round
        case rel=>exact ⟨k+1,by omega,by go_num,Y.out⟩
        case measure=>simp [intOf];omega
      ·rw [hl] at KL NC
       clear hl
       have Y:=Lib.hid (NX.out (by rw [NC.out];rfl))
       go_wp2_with (go_at_call 215;(with_reducible refine (KL.out _).mono ?_);rintro e w' ⟨rfl,rfl⟩)
       go_round
       case rel=>exact ⟨k+1,by omega,by go_num,Y.out⟩
       case measure=>simp [intOf];omega
     ·have X:=Lib.hid (show fnB (B s)=true by rw [FN.out,HN.out,B_drop_end s k (by omega)];rfl)
      go_wp2
      go_ret
      exact ⟨by rw [X.out];try rfl,HB.out⟩
theorem nm_le (l:List Nat):(nmOf l).length≤l.length:=by
 unfold nmOf
 exact (List.takeWhile_prefix _).length_le
theorem nm_take (l:List Nat):l.take (nmOf l).length=nmOf l:=by
 obtain ⟨r,hr⟩:=List.takeWhile_prefix (p:=fun c=>c != 58) (l:=l)
 have:(nmOf l++r).take (nmOf l).length=nmOf l:=by simp
 rwa [show nmOf l++r=l from hr] at this
structure Fr (N r:Nat) (W W':World):Prop where
 bel:Below r W W'
 mid:∀b,r < b→b < N→W'.heap[b]?=W.heap[b]?
theorem Fr.refl (N r:Nat) (W:World):Fr N r W W:=⟨Below.refl _ _,fun _ _ _=>rfl⟩
theorem Fr.trans {N r:Nat} {a b c:World} (h:Fr N r a b) (k:Fr N r b c):Fr N r a c:=⟨h.bel.trans k.bel,fun i h1 h2=>(k.mid i h1 h2).trans (h.mid i h1 h2)⟩
theorem Fr.of {N r:Nat} {W W':World} (h:Below N W W') (hr:r≤N):Fr N r W W':=⟨h.mono hr,fun b _ hb=>h.block b hb⟩
theorem Fr.set {N r:Nat} {W W':World} (h:Fr N r W W') {p:Addr} (hp:p.block=r∨N≤p.block) (hN:r≤N) (u:Value):Fr N r W (W'.setCell p u):=
 ⟨h.bel.setCell (by rcases hp with h|h<;>omega) u,fun b h1 h2=>(heap_setCell_other W' p b u (by rcases hp with h|h<;>omega)).trans (h.mid b h1 h2)⟩
theorem blk_of {W W':World} {r:Nat} (h:W'.heap[r]?=W.heap[r]?) (o:Nat):W'.cell? ⟨r,o,none⟩=W.cell? ⟨r,o,none⟩∧W'.frozen? ⟨r,o,none⟩=W.frozen? ⟨r,o,none⟩:=
 ⟨World.cell?_of_block (a:=⟨r,o,none⟩) h,World.frozen?_of_block (a:=⟨r,o,none⟩) h⟩
theorem opn_info:(Tryz.prog.info? 186).map (fun i=>(i.zero,i.size,i.bytes))=some (some (.agg #[.string { data:=#[] },.slice none 0 0]),2,40):=by kernel_rfl
def plainV (v:Value):Prop:=∀ad n c,v=.slice (some ad) n c→ad=⟨ad.block,ad.off,none⟩
def rdOpX:Rd (Opn ⊕ (ByteArray × Value)):=fun w S x cs=>match x with
 | .inl f=>∃v,cs=[.string f.1,v]∧rdStrs w S f.2 [v]∧plainV v
 | .inr p=>cs=[.string p.1,p.2]∧p.2.oneCell'=true
theorem rdOpX_good:Good rdOpX 2 where
 keep:=by
  rintro w w' S x cs h hk
  cases x with
  | inl f=>obtain ⟨v,e,h,hp⟩:=h;exact ⟨v,e,rdStrs_good.keep h hk,hp⟩
  | inr p=>exact h
 more:=by
  rintro w S S' x cs h hm
  cases x with
  | inl f=>obtain ⟨v,e,h,hp⟩:=h;exact ⟨v,e,rdStrs_good.more h hm,hp⟩
  | inr p=>exact h
 turn:=by
  rintro w w' S x cs row h hg hr
  cases x with
  | inl f=>obtain ⟨v,e,h,hp⟩:=h;exact ⟨v,e,rdStrs_good.turn h hg hr,hp⟩
  | inr p=>exact h
 len:=by
  rintro w S x cs h
  cases x with
  | inl f=>obtain ⟨v,rfl,h,_⟩:=h;rfl
  | inr p=>rw [h.1];rfl
 one:=by
  rintro w S x cs h u hu
  cases x with
  | inl f=>
   obtain ⟨v,rfl,h,_⟩:=h
   rcases List.mem_cons.1 hu with rfl|hu
   ·rfl
   ·exact rdStrs_good.one h u hu
  | inr p=>
   rw [h.1] at hu
   rcases List.mem_cons.1 hu with rfl|hu
   ·rfl
   ·rw [List.mem_singleton.1 hu];exact h.2
def opX (op:List Opn) (vl:Value):List (Opn ⊕ (ByteArray × Value)):=match op.getLast? with
 | none=>[]
 | some f=>op.dropLast.map .inl++[.inr (f.1,vl)]
theorem opX_snoc (i:List Opn) (f:Opn) (vl:Value):opX (i++[f]) vl=i.map .inl++[.inr (f.1,vl)]:=by unfold opX;simp
theorem opX_len (op:List Opn) (vl:Value):(opX op vl).length=op.length:=by
 rcases List.eq_nil_or_concat op with rfl|⟨i,f,rfl⟩
 ·rfl
 ·rw [List.concat_eq_append,opX_snoc];simp
def lastLn (op:List Opn):List (List Nat):=match op.getLast? with
 | none=>[]
 | some f=>f.2
theorem lastLn_snoc (i:List Opn) (f:Opn):lastLn (i++[f])=f.2:=by unfold lastLn;simp
structure RdP (W:World) (N r k:Nat) (p:PS) (vs vo vl:Value):Prop where
 f0:∀o,W.frozen? ⟨r,o,none⟩=false
 c0:W.cell? ⟨r,0,none⟩=some (.int .i64 k)
 c1:W.cell? ⟨r,1,none⟩=some vs
 c2:W.cell? ⟨r,2,none⟩=some vo
 gs:Grow rdFds 1 (fun b=>(N≤b∧vo.ownBlock≠some b)∧vl.ownBlock≠some b) W N 55 vs p.dn
 go:Grow rdOpX 2 (fun b=>N≤b∧vl.ownBlock≠some b) W N 186 vo (opX p.op vl)
 gl:Grow rdStr 1 (fun b=>N≤b) W N 9 vl (lastLn p.op)
 so:Off vs vo
 sl:Off vs vl
 ol:Off vo vl
theorem RdP.below {W W':World} {N r k:Nat} {p:PS} {vs vo vl:Value} (h:RdP W N r k p vs vo vl) (hb:Below W.heap.size W W') (hr:r < W.heap.size):RdP W' N r k p vs vo vl:=by
 have hk:=hb.block r hr
 exact ⟨fun o=>((blk_of hk o).2).trans (h.f0 o),((blk_of hk 0).1).trans h.c0,((blk_of hk 1).1).trans h.c1,((blk_of hk 2).1).trans h.c2,h.gs.below rdFds_good hb,h.go.below rdOpX_good hb,h.gl.below rdStr_good hb,h.so,h.sl,h.ol⟩
theorem Grow.plain {α:Type} {E:Rd α} {sz:Nat} {T:Nat→Prop} {w:World} {base:Nat} {e:TypeId} {v:Value} {l:List α} (h:Grow E sz T w base e v l):plainV v:=by
 obtain ⟨css,hl,ho,hE⟩:=h
 rcases ho.2 with ⟨rfl,h0⟩|⟨gb,cap,cur,rfl,hb,hg,hn,hm,hs,ht⟩
 ·intro ad n c h;cases h
 ·intro ad n c h;cases h;rfl
theorem strFlat {T T':Nat→Prop} {w:World} {base:Nat} {e:TypeId} {v:Value} {l:List (List Nat)} (h:Grow rdStr 1 T w base e v l):Grow rdStr 1 T' w base e v l:=h.flat fun _ _ _ _ _ h=>h
theorem Grow.store {β:Type} {F:Rd β} {tz:Nat} (g:Good F tz) {T:Nat→Prop} {W w':World} {base:Nat} {e:TypeId} {v x:Value} {m:List β} (hx:Grow F tz (fun b=>T b∧v.ownBlock≠some b) W base e x m) (ho:Off x v) (hg:W.grownBy w' v.ownBlock):Grow F tz (fun b=>T b∧v.ownBlock≠some b) w' base e x m:=
 (Grow.beside g hx ho hg (.inl rfl)).1
theorem RdP.on {W w1:World} {N r k n c:Nat} {p:PS} {vs vl vl':Value} {i:List Opn} {f:Opn} {x:List Nat} {ad:Addr} (hR:RdP W N r k p vs (.slice (some ad) n c) vl) (hop:p.op=i++[f]) (hr:r < N) (hN:N≤W.heap.size) (hg:W.grownBy w1 vl.ownBlock) (hm:Moved W vl vl')
  (hG:Grow rdStr 1 (fun b=>N≤b) w1 N 9 vl' (f.2++[x])) (hv:vl'.oneCell'=true) :
  RdP (w1.setCell (ad.add (i.length*2+1)) vl') N r k ⟨p.dn,i++[(f.1,f.2++[x])]⟩ vs (.slice (some ad) n c) vl'∧Fr N r W (w1.setCell (ad.add (i.length*2+1)) vl')∧
   w1.cell? (ad.add (i.length*2+1))=some vl∧w1.frozen? (ad.add (i.length*2+1))=false:=by
 obtain ⟨f0,c0,c1,c2,gs,go,gl,so,sl,ol⟩:=hR
 have hrl:some r≠vl.ownBlock:=fun h=>by have:=(gl.lt r h.symm).1;omega
 have hk:=hg.block r (by omega) hrl
 obtain ⟨gs1,sl1⟩:=Grow.beside rdFds_good gs sl hg hm
 obtain ⟨go1,ol1⟩:=Grow.beside rdOpX_good go ol hg hm
 rw [hop,opX_snoc] at go1
 have hil:i.length < (i.map (Sum.inl (β:=ByteArray × Value))++[Sum.inr (f.1,vl)]).length:=by simp
 have hel:(i.map (Sum.inl (β:=ByteArray × Value))++[Sum.inr (f.1,vl)])[i.length]=Sum.inr (f.1,vl):=by
  rw [List.getElem_append_right (by simp)];simp
 obtain ⟨e0,hba,hbb,hnl,hfz⟩:=go1.spot
 obtain ⟨ad1,es,e1,_,hE,_,hcell⟩:=(show ∃ad1 es,some ad=some ad1∧_∧rdOpX w1 _ _ es∧_∧∀j u,es[j]?=some u→w1.cell? (ad1.add (i.length*2+j))=some u from by
  obtain ⟨A',c',e,h1,h2,h⟩:=go1.read rdOpX_good
  simp only [List.cons.injEq,Value.slice.injEq,and_true] at e
  obtain ⟨rfl,_,_⟩:=e
  exact h i.length hil)
 injection e1 with e1
 subst e1
 rw [hel] at hE
 have hcl:w1.cell? (ad.add (i.length*2+1))=some vl:=hcell 1 vl (by rw [hE.1];rfl)
 have hfr:w1.frozen? (ad.add (i.length*2+1))=false:=go1.frz _
 obtain ⟨go2,hg2⟩:=go1.set rdOpX_good hil (j:=1) (by decide) vl' (.inr (f.1,vl')) (fun cs hcs=>by
  rw [hel] at hcs
  exact ⟨by rw [hcs.1];rfl,hv⟩)
 have hset:(i.map (Sum.inl (β:=ByteArray × Value))++[Sum.inr (f.1,vl)]).set i.length (.inr (f.1,vl'))=i.map Sum.inl++[Sum.inr (f.1,vl')]:=by
  rw [List.set_append_right _ _ (by simp)];simp
 rw [hset] at go2
 have gs2:=Grow.store rdFds_good (v:=.slice (some ad) n c) (gs1.retag rdFds_good (T':=fun b=>(N≤b∧vl'.ownBlock≠some b)∧(Value.slice (some ad) n c).ownBlock≠some b) fun b h _=>⟨⟨h.1.1,h.2⟩,h.1.2⟩) so hg2
 have gl2:=Grow.store rdStr_good (v:=.slice (some ad) n c) (strFlat hG (T':=fun b=>N≤b∧(Value.slice (some ad) n c).ownBlock≠some b)) ol1.symm hg2
 have hne:∀o,(⟨r,o,none⟩:Addr)≠ad.add (i.length*2+1):=fun o e=>by have:=congrArg Addr.block e;rw [blk_add] at this;simp only at this;omega
 have hB1:Below N W w1:=grow_below gl hg (Below.refl N W) (Nat.le_refl _) hN
 refine ⟨⟨fun o=>?_,?_,?_,?_,gs2.retag rdFds_good fun b h _=>⟨⟨h.1.1,h.2⟩,h.1.2⟩,by rw [opX_snoc];exact go2,by rw [lastLn_snoc];exact strFlat gl2,so,sl1,ol1⟩,(Fr.of hB1 (Nat.le_of_lt hr)).set (.inr (by rw [blk_add];exact hba)) (Nat.le_of_lt hr) _,hcl,hfr⟩
 ·rw [World.frozen?_setCell];exact ((blk_of hk o).2).trans (f0 o)
 ·rw [World.cell?_setCell_other _ _ _ _ (fun e=>hne 0 e.symm)];exact ((blk_of hk 0).1).trans c0
 ·rw [World.cell?_setCell_other _ _ _ _ (fun e=>hne 1 e.symm)];exact ((blk_of hk 1).1).trans c1
 ·rw [World.cell?_setCell_other _ _ _ _ (fun e=>hne 2 e.symm)];exact ((blk_of hk 2).1).trans c2
abbrev erE (n:Int):Ending:=.panicked [{ v:=.iface 24 (.int .i64 n),recovered:=false }]
theorem RdP.own {W:World} {N r k:Nat} {p:PS} {vs vo vl:Value} (h:RdP W N r k p vs vo vl):∃A c,vo=.slice A p.op.length c∧p.op.length≤c∧c≤maxLen:=by
 have:=h.go.own
 rw [opX_len] at this;exact this
set_option maxHeartbeats 1000000 in
theorem goOn5_no (x:ByteArray) (N r k:Nat) (p:PS) (vs vo vl:Value) (w:World) (hR:RdP w N r k p vs vo vl) (h:p.op=[]∨B x=[]) :
  Calls Tryz.prog 160 #[.pointer (some ⟨r,0,none⟩),.string x] w fun e w'=>e=erE 5∧w=w':=by
 obtain ⟨A,c,rfl,hc1,hc2⟩:=hR.own
 have hc2':c≤9223372036854775807:=hc2
 have c2:=hR.c2
 by_cases h0:p.op=[]
 ·rw [h0] at c2
  simp only [List.length_nil] at c2
  clear hR h h0 hc1 hc2
  go_enter Tryz.func160,Tryz.ntmps160
  go_wp2
  exact ⟨rfl,rfl,rfl⟩
 ·have em:=emp_eq x
  rw [decide_eq_true (h.resolve_left h0)] at em
  have hl:=List.length_pos_iff.2 h0
  have q0:((p.op.length:Int)==0)=false:=by rw [beq_eq_false_iff_ne];omega
  clear hR h h0 hc1 hc2
  go_enter Tryz.func160,Tryz.ntmps160
  go_wp2
  exact ⟨rfl,rfl,rfl⟩
theorem RdP.cellL {W:World} {N r k n c:Nat} {p:PS} {vs vl:Value} {i:List Opn} {f:Opn} {ad:Addr} (hR:RdP W N r k p vs (.slice (some ad) n c) vl) (hop:p.op=i++[f]):W.cell? (ad.add (i.length*2+1))=some vl:=by
 have go1:=hR.go
 rw [hop,opX_snoc] at go1
 have hil:i.length < (i.map (Sum.inl (β:=ByteArray × Value))++[Sum.inr (f.1,vl)]).length:=by simp
 have hel:(i.map (Sum.inl (β:=ByteArray × Value))++[Sum.inr (f.1,vl)])[i.length]=Sum.inr (f.1,vl):=by
  rw [List.getElem_append_right (by simp)];simp
 obtain ⟨A',c',e,h1,h2,h⟩:=go1.read rdOpX_good
 simp only [List.cons.injEq,Value.slice.injEq,and_true] at e
 obtain ⟨rfl,_,_⟩:=e
 obtain ⟨ad1,es,e1,_,hE,_,hcell⟩:=h i.length hil
 injection e1 with e1
 subst e1
 rw [hel] at hE
 exact hcell 1 vl (by rw [hE.1];rfl)
set_option maxHeartbeats 2000000 in
theorem goOn5_ok (x:ByteArray) (N r k:Nat) (p:PS) (vs vo vl:Value) (w:World) (hR:RdP w N r k p vs vo vl) (hr:r < N) (hN:N≤w.heap.size) (h0:p.op≠[]) (hx:B x≠[]) (hol:p.op.length≤1000) (hll:(lastLn p.op).length≤1000000) :
  Calls Tryz.prog 160 #[.pointer (some ⟨r,0,none⟩),.string x] w fun e w'=>e=.returned (.tuple #[])∧(∃vl',RdP w' N r k ⟨p.dn,onLast (B x) p.op⟩ vs vo vl')∧Fr N r w w':=by
 obtain ⟨is,his,hz0,hz1,hz2⟩:=info_parts str_info
 obtain ⟨A,c,rfl,hc1,hc2⟩:=hR.own
 have hc2':c≤9223372036854775807:=hc2
 have hl:=List.length_pos_iff.2 h0
 rcases List.eq_nil_or_concat p.op with e|⟨i,f,hop⟩
 ·exact absurd e h0
 rw [List.concat_eq_append] at hop
 have hln:p.op.length=i.length+1:=by rw [hop];simp
 have q0:((p.op.length:Int)==0)=false:=by rw [beq_eq_false_iff_ne];omega
 have em:=emp_eq x
 rw [decide_eq_false hx] at em
 have w1m:IntKind.i64.wrap ((p.op.length:Int) - 1)=(i.length:Int):=by rw [hln];rw [IntWalk.i64_in _ (by omega)];omega
 have i2:(0:Int)≤(i.length:Int):=by omega
 have i3:(i.length:Int) < (p.op.length:Int):=by omega
 have hlast:lastLn p.op=f.2:=by rw [hop,lastLn_snoc]
 have HON:=Lib.hid (show onLast (B x) p.op=i++[(f.1,f.2++[B x])] by rw [hop,onLast_snoc])
 have HOP:=Lib.hid hop
 have HR:=Lib.hid hR
 have c2:=hR.c2
 obtain ⟨ad,hA⟩:∃ad,A=some ad:=by
  have hn:=hR.go.read rdOpX_good
  obtain ⟨A',c',e,h1,h2,h⟩:=hn
  simp only [List.cons.injEq,Value.slice.injEq,and_true] at e
  obtain ⟨rfl,_,_⟩:=e
  obtain ⟨ad,es,e1,_⟩:=h 0 (by rw [opX_len];omega)
  exact ⟨ad,e1⟩
 subst hA
 rw [hlast] at hll
 have HLN:=Lib.hid hln
 clear hR hop h0 hx hc1 hc2 hlast hl hln
 go_enter Tryz.func160,Tryz.ntmps160
 go_wp2
 go_quiet (fail)
 obtain ⟨W2,hW2⟩:∃W2,W2=w.drewN nq:=⟨_,rfl⟩
 have hb2:Below w.heap.size w W2:=by rw [hW2];exact belD (Below.refl _ _) _
 have hz:W2.heap.size=w.heap.size:=by rw [hW2];rfl
 rw [←hW2]
 clear hW2
 have hR2:=HR.out.below hb2 (by omega)
 have hN2:N≤W2.heap.size:=by omega
 have hcl:=hR2.cellL HOP.out
 have hgl:=hR2.gl
 rw [HOP.out,lastLn_snoc] at hgl
 obtain ⟨Al,cl,rfl,_,_⟩:=hgl.own
 rw [←off2_add ad (i.length*2) 1 (by omega)] at hcl
 have HR2:=Lib.hid hR2
 have HB2:=Lib.hid hb2
 have hE:=(show rdStr W2 (fun b=>N≤b∧b < W2.heap.size∧(Value.slice Al f.2.length cl).ownBlock≠some b) (B x) (#[Value.string x]:Array Value).toList from ⟨x,rfl,rfl⟩)
 have hn1:f.2.length+1≤maxLen:=by unfold maxLen;omega
 have hn2:(f.2.length+1)*16≤140737488355328:=by omega
 clear hR2 hb2 hz c2
 go_wp2_with (at_builtin;refine wpList_grow1_at W2 rfl _ _ 45 rfl rdStr_good (by decide) (fun b=>N≤b) N 9 is (.string { data:=#[] }) 16 Tryz.underlying45 his hz0 hz1 hz2 rfl (.slice Al f.2.length cl) f.2 rfl hgl (B x) _ 9 hE _ rfl rfl hn1 hn2 hN2 ?_)
 intro v' w1 hG' hgr hmv
 obtain ⟨A',c',hv',_,_⟩:=hG'.own
 rw [List.length_append,List.length_singleton] at hv'
 subst hv'
 obtain ⟨o1,o2,o3,o4⟩:=RdP.on HR2.out HOP.out hr hN2 hgr hmv hG' rfl
 rw [←off2_add ad (i.length*2) 1 (by omega)] at o1 o2 o3 o4
 have O1:=Lib.hid o1
 have O2:=Lib.hid o2
 clear o1 o2 hG' hgr hmv hE hgl hcl
 go_wp2
 go_end0
 exact ⟨rfl,⟨_,by rw [HON.out];exact O1.out⟩,(Fr.of (HB2.out.mono hN) (Nat.le_of_lt hr)).trans O2.out⟩
theorem opX_at (op:List Opn) (vl:Value) (k:Nat) (hk:k < op.length) (hk':k < (opX op vl).length):(opX op vl)[k]=.inl op[k]∨((opX op vl)[k]=.inr (op[k].1,vl)∧lastLn op=op[k].2):=by
 rcases List.eq_nil_or_concat op with rfl|⟨i,f,e⟩
 ·simp at hk
 ·rw [List.concat_eq_append] at e
  subst e
  simp only [opX_snoc,lastLn_snoc]
  by_cases h:k < i.length
  ·left
   rw [List.getElem_append_left (by simpa using h),List.getElem_append_left h,List.getElem_map]
  ·right
   obtain rfl:k=i.length:=by simp at hk;omega
   simp
theorem rdOp_at {w:World} {S:Nat→Prop} {op:List Opn} {vl:Value} {A:Option Addr} {n c:Nat} (h:rdRow 2 rdOpX w S (opX op vl) [.slice A n c]) (hvl:rdStrs w S (lastLn op) [vl]) (hpv:plainV vl):n=op.length∧n≤c∧c≤maxLen∧∀k (hk:k < op.length),∃ad A2 n2 c2,A=some ad∧S ad.block∧
  w.cell? (ad.add (k*2))=some (.string op[k].1)∧w.cell? ⟨(ad.add (k*2)).block,(ad.add (k*2)).off+1,none⟩=some (.slice A2 n2 c2)∧rdStrs w S op[k].2 [.slice A2 n2 c2]∧plainV (.slice A2 n2 c2):=by
 obtain ⟨A',c',e,h1,h2,h⟩:=h
 simp only [List.cons.injEq,Value.slice.injEq,and_true] at e
 obtain ⟨rfl,rfl,rfl⟩:=e
 rw [opX_len] at h1
 refine ⟨opX_len op vl,by rw [opX_len];exact h1,h2,fun k hk=>?_⟩
 have hk':k < (opX op vl).length:=by rw [opX_len];exact hk
 obtain ⟨ad,es,e,hS,hE,hl,hc⟩:=h k hk'
 rcases opX_at op vl k hk hk' with e1|⟨e1,e2⟩
 ·rw [e1] at hE
  obtain ⟨v,rfl,hv,hp⟩:=hE
  have hv':=hv
  obtain ⟨A2,c2,e3,_⟩:=hv'
  simp only [List.cons.injEq,and_true] at e3
  subst e3
  exact ⟨ad,_,_,_,e,hS,hc 0 _ rfl,by rw [off2_add ad (k*2) 1 (by omega)];exact hc 1 _ rfl,hv,hp⟩
 ·rw [e1] at hE
  obtain ⟨rfl,_⟩:=hE
  rw [e2] at hvl
  have hv':=hvl
  obtain ⟨A2,c2,e3,_⟩:=hv'
  simp only [List.cons.injEq,and_true] at e3
  subst e3
  exact ⟨ad,_,_,_,e,hS,hc 0 _ rfl,by rw [off2_add ad (k*2) 1 (by omega)];exact hc 1 _ rfl,hvl,hpv⟩
set_option maxHeartbeats 1000000 in
theorem begin1_any (s:ByteArray) (A2:Option Addr) (n2 c2:Nat) (nm:ByteArray) (q:Addr) (w:World) (hq:q.block < w.heap.size) (hc:w.cell? q=some (.string nm)) :
  Calls Tryz.prog 198 #[.agg #[.string s,.slice A2 n2 c2],.pointer (some q)] w fun e w'=>e=.returned (.bool (decide (s=nm)))∧Below w.heap.size w w':=by
 have B1:=(Below.refl w.heap.size w).alloc (Nat.le_refl _) (.cells #[.string s,.slice A2 n2 c2] 186)
 have hc1:=((B1.cell hq).trans hc)
 have HB:=Lib.hid B1
 have he:=str_eq s nm
 generalize decide (s=nm)=d at *
 clear B1 hc
 go_enter Tryz.func198,Tryz.ntmps198
 go_wp2
 go_ret
 exact ⟨rfl,HB.out⟩
def opHas (op:List Opn) (n:ByteArray):Bool:=op.any fun f=>decide (f.1=n)
def oplX:List Opn→ByteArray→Nat→Int
 | [],_,_=>-1
 | f::r,n,i=>if f.1=n then i else oplX r n (i+1)
theorem opl_at {l:List Opn} {n:ByteArray} {k:Nat} (hk:k < l.length):(l[k].1=n→oplX (l.drop k) n k=k)∧(l[k].1≠n→oplX (l.drop k) n k=oplX (l.drop (k+1)) n (k+1)):=by
 rw [List.drop_eq_getElem_cons hk]
 exact ⟨fun h=>if_pos h,fun h=>if_neg h⟩
theorem opl_has {n:ByteArray}:∀{l:List Opn} {i:Nat},decide (0≤oplX l n i)=opHas l n
 | [],_=>rfl
 | f::r,i=>by
  unfold opHas oplX
  rw [List.any_cons]
  by_cases h:f.1=n
  ·rw [if_pos h,decide_eq_true h,Bool.true_or,decide_eq_true_iff];omega
  ·rw [if_neg h,decide_eq_false h,Bool.false_or];exact opl_has
set_option maxHeartbeats 2000000 in
theorem ixOp_any (A:Option Addr) (n c:Nat) (op:List Opn) (vl:Value) (nm:ByteArray) (q:Addr) (w:World) (h:rdRow 2 rdOpX w (lt_ w.heap.size) (opX op vl) [.slice A n c]) (hvl:rdStrs w (lt_ w.heap.size) (lastLn op) [vl]) (hpv:plainV vl) (hq:q.block < w.heap.size) (hc:w.cell? q=some (.string nm)) :
  Calls Tryz.prog 226 #[.slice A n c,.func (.func 198) #[] #[.pointer (some q)]] w fun e w'=>e=.returned (.int .i64 (oplX op nm 0))∧Below w.heap.size w w':=by
 have hcf:∀(args:Array Value) (w:World),(callFunc 198 args).run Tryz.prog w=.ok (.enter 198 args) w:=fun _ _=>by kernel_rfl
 obtain ⟨rfl,hnc,hcm,_⟩:=rdOp_at h hvl hpv
 have hcm':c≤9223372036854775807:=hcm
 have H:=Lib.hid h
 have HV:=Lib.hid hvl
 have HPV:=Lib.hid hpv
 have HQ:=Lib.hid hq
 have HC:=Lib.hid hc
 clear h hvl hcm hc hq hpv
 go_enter Tryz.func226,Tryz.ntmps226
 go_wp2
 go_loopw [8] (fun i wr=>∃k:Nat,k≤op.length∧i=.int .i64 k∧oplX op nm 0=oplX (op.drop k) nm k∧Below w.heap.size w wr) (fun i _=>op.length - (intOf i).toNat)
 case atStart=>exact ⟨0,Nat.zero_le _,rfl,rfl,Below.refl _ _⟩
 case round=>
  obtain ⟨k,hk,rfl,h1,hbel⟩:=hrel
  have H1:=Lib.hid h1
  have HB:=Lib.hid hbel
  clear h1
  by_cases hlt:k < op.length
  ·obtain ⟨_,_,_,ha⟩:=rdOp_at ((rdRow_good rdOpX_good).below H.out hbel) (rdStrs_good.below HV.out hbel) HPV.out
   obtain ⟨ad,A2,n2,c2,rfl,had,c0,c1,_⟩:=ha k hlt
   have hqr:q.block < wr.heap.size:=Nat.lt_of_lt_of_le HQ.out hbel.size
   have CL:=Lib.hid (begin1_any op[k].1 A2 n2 c2 nm q wr hqr ((hbel.cell HQ.out).trans HC.out))
   have PA:=Lib.hid (opl_at (l:=op) (n:=nm) hlt)
   clear ha hbel hqr
   have SZ:=Lib.hid HB.out.size
   by_cases he:op[k].1=nm
   ·have X:=Lib.hid (PA.out.1 he)
    have DT:=Lib.hid (decide_eq_true he)
    clear he
    go_wp2_with fail
    refine CL.out.mono ?_
    rw [DT.out]
    rintro e w' ⟨rfl,hb2⟩
    have HB2:=Lib.hid hb2
    clear hb2
    go_wp2
    go_ret
    exact ⟨by rw [H1.out,X.out];try rfl,HB.out.trans (HB2.out.mono SZ.out)⟩
   ·have X:=Lib.hid (PA.out.2 he)
    have DT:=Lib.hid (decide_eq_false he)
    clear he
    go_wp2_with fail
    refine CL.out.mono ?_
    rw [DT.out]
    rintro e w' ⟨rfl,hb2⟩
    have HB2:=Lib.hid hb2
    clear hb2
    go_wp2
    go_roundw
    case rel=>exact ⟨k+1,by omega,by go_num,by rw [H1.out,X.out],HB.out.trans (HB2.out.mono SZ.out)⟩
    case measure=>simp [intOf];omega
  ·have X:=Lib.hid (show oplX op nm 0=-1 by rw [H1.out,List.drop_eq_nil_of_le (by omega)];rfl)
   go_wp2
   go_ret
   exact ⟨by rw [X.out];try rfl,HB.out⟩
set_option maxHeartbeats 2000000 in
theorem hasOp_any (A:Option Addr) (n c:Nat) (op:List Opn) (vl:Value) (nm:ByteArray) (q:Addr) (w:World) (h:rdRow 2 rdOpX w (lt_ w.heap.size) (opX op vl) [.slice A n c]) (hvl:rdStrs w (lt_ w.heap.size) (lastLn op) [vl]) (hpv:plainV vl) (hq:q.block < w.heap.size) (hc:w.cell? q=some (.string nm)) :
  Calls Tryz.prog 197 #[.slice A n c,.func (.func 198) #[] #[.pointer (some q)]] w fun e w'=>e=.returned (.bool (opHas op nm))∧Below w.heap.size w w':=by
 have C:=Lib.hid (ixOp_any A n c op vl nm q w h hvl hpv hq hc)
 have X:=Lib.hid (opl_has (l:=op) (n:=nm) (i:=0))
 clear h hvl hpv hq hc
 go_enter Tryz.func197,Tryz.ntmps197
 go_wp2_with (go_at_call 226;(with_reducible refine C.out.mono ?_);rintro e w' ⟨rfl,hb2⟩)
 go_ret
 exact ⟨by rw [←X.out];rfl,hb2⟩
theorem sjoin5_any {A:Option Addr} {n c:Nat} {l:List (List Nat)} (w:World) (h:rdStrs w (lt_ w.heap.size) l [.slice A n c]) (hp:plainV (.slice A n c)) (sep:ByteArray) (hl:l.length≤140737488355328) (hj:(joinL (B sep) l).length≤140737488355328) :
  Calls Tryz.prog 162 #[.slice A n c,.string sep] w fun e w'=>e=.returned (.string (mk (joinL (B sep) l)))∧Below w.heap.size w w':=by
 obtain ⟨rfl,hnc,hcm,hat⟩:=rdStrs_at h
 rcases Nat.eq_zero_or_pos l.length with h0|h0
 ·obtain rfl:l=[]:=List.eq_nil_of_length_eq_zero h0
  refine (Tryz.strings_Join_none A c sep w).mono ?_
  rintro e w' ⟨rfl,rfl⟩
  exact ⟨rfl,Below.refl _ _⟩
 ·obtain ⟨ad,_,hA,hlt,_⟩:=hat 0 h0
  have had:=hp ad _ c (by rw [hA])
  obtain ⟨bk,o,sp⟩:=ad
  simp only [Addr.mk.injEq,true_and] at had
  subst had
  subst hA
  have hxs:∀k (hk:k < l.length),B (mk l[k])=l[k]:=fun k hk=>by
   obtain ⟨ad,s,_,_,_,hB⟩:=hat k hk
   rw [←hB,mk_B]
  have hmap:(l.map mk).map B=l:=by
   rw [List.map_map]
   conv=>rhs;rw [←List.map_id l]
   refine List.map_congr_left fun t ht=>?_
   obtain ⟨k,hk,rfl⟩:=List.getElem_of_mem ht
   exact hxs k hk
  have hlj:(Lib.join ((l.map mk).map (·.data.toList)) sep.data.toList).length≤140737488355328:=by
   have h1:=congrArg List.length (libjoin_is sep (l.map mk))
   rw [List.length_map,hmap] at h1
   rw [h1];exact hj
  have key:=Tryz.strings_Join bk o c (l.map mk) sep w (fun j x hj=>by
   obtain ⟨hj1,hj2⟩:=List.getElem?_eq_some_iff.1 hj
   rw [List.length_map] at hj1
   obtain ⟨ad,s,e1,_,hc,hB⟩:=hat j hj1
   injection e1 with e1
   subst e1
   have:(⟨bk,o,none⟩:Addr).add j=⟨bk,o+j,none⟩:=by unfold Addr.add;split<;>simp_all
   rw [this] at hc
   rw [hc,←hj2,List.getElem_map,←hB,mk_B]) hlt (by rw [List.length_map];exact hl) (by rw [List.length_map];exact hnc) hlj
  rw [List.length_map] at key
  refine key.mono ?_
  rintro e w' ⟨rfl,hb'⟩
  refine ⟨?_,hb'⟩
  congr 2
  refine eq_mk ?_
  have h1:=libjoin_is sep (l.map mk)
  rw [hmap] at h1
  rw [←h1]
  unfold B;simp
def ahead (c:Nat) (l:List Nat):List Nat:=l.takeWhile fun x=>x != c
theorem index_nm (b:UInt8):∀l:List UInt8,(b.toNat ∈ l.map UInt8.toNat∧Lib.indexByte l b=((ahead b.toNat (l.map UInt8.toNat)).length:Int))∨(b.toNat ∉ l.map UInt8.toNat∧Lib.indexByte l b=-1∧ahead b.toNat (l.map UInt8.toNat)=l.map UInt8.toNat)
 | []=>.inr ⟨by simp,rfl,rfl⟩
 | c::l=>by
  have ih:=index_nm b l
  by_cases h:c=b
  ·subst h
   exact .inl ⟨by simp,by simp [ahead,Lib.indexByte]⟩
  ·have h2:c.toNat≠b.toNat:=fun hh=>h (UInt8.toNat_inj.1 hh)
   have h3:(c==b)=false:=by rw [beq_eq_false_iff_ne];exact h
   have h5:(c.toNat != b.toNat)=true:=by rw [bne_iff_ne];exact h2
   have e2:ahead b.toNat ((c::l).map UInt8.toNat)=c.toNat::ahead b.toNat (l.map UInt8.toNat):=by
    show List.takeWhile _ (c.toNat::l.map UInt8.toNat)=_
    rw [List.takeWhile_cons,if_pos h5];rfl
   rw [e2]
   simp only [Lib.indexByte,h3,Bool.false_eq_true,if_false]
   rcases ih with ⟨a,b'⟩|⟨a,b',d⟩
   ·refine .inl ⟨by rw [List.map_cons];exact List.mem_cons_of_mem _ a,?_⟩
    rw [b']
    have:(((ahead b.toNat (l.map UInt8.toNat)).length:Int)==-1)=false:=by rw [beq_eq_false_iff_ne];omega
    rw [this]
    simp only [Bool.false_eq_true,if_false,List.length_cons]
    omega
   ·refine .inr ⟨by rw [List.map_cons,List.mem_cons];exact fun e=>e.elim (fun e=>h2 e.symm) a,?_,by rw [d];rfl⟩
    rw [b'];rfl
theorem ahead_take (c:Nat) (l:List Nat):l.take (ahead c l).length=ahead c l:=(List.prefix_iff_eq_take.1 (List.takeWhile_prefix _)).symm
theorem cut5_is (s:ByteArray) (b:UInt8):(⟨(Lib.cut s.data.toList [b]).1.toArray⟩:ByteArray)=mk (ahead b.toNat (B s))∧(⟨(Lib.cut s.data.toList [b]).2.1.toArray⟩:ByteArray)=mk ((B s).drop ((ahead b.toNat (B s)).length+1))∧(Lib.cut s.data.toList [b]).2.2=decide (b.toNat ∈ B s):=by
 rcases index_nm b s.data.toList with ⟨a,h⟩|⟨a,h,d⟩
 ·have hh:b.toNat ∈ B s:=a
  have hb:Lib.indexByte s.data.toList b=((ahead b.toNat (B s)).length:Int):=h
  have e0:Lib.cut s.data.toList [b]=(s.data.toList.take (ahead b.toNat (B s)).length,s.data.toList.drop ((ahead b.toNat (B s)).length+1),true):=by
   unfold Lib.cut;rw [Lib.index_one,if_pos (by omega),show (Lib.indexByte s.data.toList b).toNat=(ahead b.toNat (B s)).length by omega];rfl
  rw [e0,decide_eq_true hh]
  refine ⟨?_,?_,rfl⟩
  ·rw [take_mk,ahead_take]
  ·rw [drop_mk]
 ·have hh:b.toNat ∉ B s:=a
  have hd:ahead b.toNat (B s)=B s:=d
  have e0:Lib.cut s.data.toList [b]=(s.data.toList,[],false):=by
   unfold Lib.cut;rw [Lib.index_one,if_neg (by omega)]
  rw [e0,decide_eq_false hh,hd,List.drop_eq_nil_of_le (by omega)]
  exact ⟨eq_mk rfl,rfl,rfl⟩
theorem colon_any (s:ByteArray) (m:Int) (w:World) (hs:s.size≤65536) (hm:w.cell? ⟨1,0,none⟩=some (.int .i64 m)) :
  Calls Tryz.prog 188 #[.string s,.string { data:=#[58] }] w fun e w'=>e=.returned (.tuple #[.string (mk (nmOf (B s))),.string (mk ((B s).drop ((nmOf (B s)).length+1))),.bool (decide (58 ∈ B s))])∧∃n,w'=w.drewN n:=by
 refine (Tryz.strings_Cut s { data:=#[58] } m w (by omega) hm).mono ?_
 rintro e w' ⟨rfl,n,rfl⟩
 refine ⟨?_,n,rfl⟩
 obtain ⟨a,b,c⟩:=cut5_is s 58
 show Ending.returned (.tuple #[.string ⟨(Lib.cut s.data.toList [58]).1.toArray⟩,.string ⟨(Lib.cut s.data.toList [58]).2.1.toArray⟩,.bool (Lib.cut s.data.toList [58]).2.2])=_
 rw [a,b,c]
 rfl
theorem drop_while_nat (b:UInt8):∀l:List UInt8,(l.dropWhile (·==b)).map UInt8.toNat=(l.map UInt8.toNat).dropWhile fun c=>c==b.toNat
 | []=>rfl
 | c::l=>by
  by_cases h:c=b
  ·subst h
   rw [List.map_cons,List.dropWhile_cons,List.dropWhile_cons,if_pos (beq_self_eq_true _),if_pos (beq_self_eq_true _)]
   exact drop_while_nat c l
  ·have h2:c.toNat≠b.toNat:=fun hh=>h (UInt8.toNat_inj.1 hh)
   rw [List.map_cons,List.dropWhile_cons,List.dropWhile_cons,if_neg (by simpa using h),if_neg (by simpa using h2)]
   rfl
theorem trim5_any (s:ByteArray) (w:World) :
  Calls Tryz.prog 199 #[.string s,.string { data:=#[32] }] w fun e w'=>e=.returned (.string (mk ((B s).dropWhile fun c=>c==32)))∧w'=w:=by
 refine (Tryz.strings_TrimLeft_one s 32 (by decide) w).mono ?_
 rintro e w' ⟨rfl,rfl⟩
 refine ⟨?_,rfl⟩
 congr 2
 refine eq_mk ?_
 have h:=drop_while_nat 32 s.data.toList
 unfold Lib.trimLeftB
 unfold B
 rw [List.toList_toArray]
 exact h
end Go.Proofs.YtboinnjncaehkaaGreatDoor
