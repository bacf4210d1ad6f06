/- What the laws rest on: N9o. -/
import Derived.Deep.CutRange
import Derived.Test.YtoopkofekekmoaaGreatDoorQAYZB
set_option maxRecDepth 100000
set_option linter.unusedVariables false
set_option linter.unusedSimpArgs false
namespace Go.Proofs.YtoopkofekekmoaaGreatDoor
open Go.RowKit
theorem nw9 {w:World} {o o':Obj} {b:Nat} (h:w.heap[b]?=some o):(w.alloc o').heap[b]?=some o:=old_heap o' h
theorem nx9 (w:World) (o:Obj):(w.alloc o).heap[w.heap.size]?=some o:=heap_alloc_new w o
set_option maxHeartbeats 16000000 in
theorem shown9_any (w:World) (E:EnvR w):Calls Tryz.prog 8 #[] w fun e w'=>e=.returned (.bool true)∧Below w.heap.size w w':=by
 obtain ⟨W6,hW6⟩:∃W,W=(((((w.alloc (.cells #[.string { data:=#[97,98] },.string { data:=#[49] },.slice none 0 0,.slice none 0 0,.slice none 0 0,.slice none 0 0] 53)).alloc (.cells #[.string { data:=#[97,98] },.string { data:=#[50] },.slice none 0 0,.slice none 0 0,.slice none 0 0,.slice none 0 0] 53)).alloc (.cells #[.string { data:=#[118,118] },.int .i64 0,.string { data:=#[] }] 59)).alloc (.cells #[.string { data:=#[99,100] },.string { data:=#[49] },.slice none 0 0,.slice none 0 0,.slice none 0 0,.slice (some ⟨w.heap.size+2,0,none⟩) 1 1] 53)).alloc (.cells #[.string { data:=#[97,98] },.string { data:=#[50] },.slice none 0 0,.slice none 0 0,.slice none 0 0,.slice none 0 0,.string { data:=#[97,98] },.string { data:=#[49] },.slice none 0 0,.slice none 0 0,.slice none 0 0,.slice none 0 0,.string { data:=#[99,100] },.string { data:=#[49] },.slice none 0 0,.slice none 0 0,.slice none 0 0,.slice (some ⟨w.heap.size+2,0,none⟩) 1 1] 53)).alloc (.cells #[.string { data:=#[97,98] },.string { data:=#[49] },.slice none 0 0,.slice none 0 0,.slice none 0 0,.slice none 0 0,.bool false,.bool false] 56):=⟨_,rfl⟩
 have b6:Below w.heap.size w W6:=by rw [hW6];exact ((((((Below.refl _ w).alloc (Nat.le_refl _) _).alloc (by simp) _).alloc (by simp;omega) _).alloc (by simp;omega) _).alloc (by simp;omega) _).alloc (by simp;omega) _
 have s6:W6.heap.size=w.heap.size+6:=by rw [hW6];simp
 have h2:W6.heap[w.heap.size+2]?=some (.cells #[.string { data:=#[118,118] },.int .i64 0,.string { data:=#[] }] 59):=by
  rw [hW6]
  have:=nx9 ((w.alloc (.cells #[.string { data:=#[97,98] },.string { data:=#[49] },.slice none 0 0,.slice none 0 0,.slice none 0 0,.slice none 0 0] 53)).alloc (.cells #[.string { data:=#[97,98] },.string { data:=#[50] },.slice none 0 0,.slice none 0 0,.slice none 0 0,.slice none 0 0] 53)) (.cells #[.string { data:=#[118,118] },.int .i64 0,.string { data:=#[] }] 59)
  rw [World.size_alloc,World.size_alloc] at this
  exact nw9 (nw9 (nw9 this))
 have h4:W6.heap[w.heap.size+4]?=some (.cells #[.string { data:=#[97,98] },.string { data:=#[50] },.slice none 0 0,.slice none 0 0,.slice none 0 0,.slice none 0 0,.string { data:=#[97,98] },.string { data:=#[49] },.slice none 0 0,.slice none 0 0,.slice none 0 0,.slice none 0 0,.string { data:=#[99,100] },.string { data:=#[49] },.slice none 0 0,.slice none 0 0,.slice none 0 0,.slice (some ⟨w.heap.size+2,0,none⟩) 1 1] 53):=by
  rw [hW6]
  have:=nx9 ((((w.alloc (.cells #[.string { data:=#[97,98] },.string { data:=#[49] },.slice none 0 0,.slice none 0 0,.slice none 0 0,.slice none 0 0] 53)).alloc (.cells #[.string { data:=#[97,98] },.string { data:=#[50] },.slice none 0 0,.slice none 0 0,.slice none 0 0,.slice none 0 0] 53)).alloc (.cells #[.string { data:=#[118,118] },.int .i64 0,.string { data:=#[] }] 59)).alloc (.cells #[.string { data:=#[99,100] },.string { data:=#[49] },.slice none 0 0,.slice none 0 0,.slice none 0 0,.slice (some ⟨w.heap.size+2,0,none⟩) 1 1] 53)) (.cells #[.string { data:=#[97,98] },.string { data:=#[50] },.slice none 0 0,.slice none 0 0,.slice none 0 0,.slice none 0 0,.string { data:=#[97,98] },.string { data:=#[49] },.slice none 0 0,.slice none 0 0,.slice none 0 0,.slice none 0 0,.string { data:=#[99,100] },.string { data:=#[49] },.slice none 0 0,.slice none 0 0,.slice none 0 0,.slice (some ⟨w.heap.size+2,0,none⟩) 1 1] 53)
  rw [World.size_alloc,World.size_alloc,World.size_alloc,World.size_alloc] at this
  exact nw9 this
 have h5:W6.heap[w.heap.size+5]?=some (.cells #[.string { data:=#[97,98] },.string { data:=#[49] },.slice none 0 0,.slice none 0 0,.slice none 0 0,.slice none 0 0,.bool false,.bool false] 56):=by
  rw [hW6]
  have:=nx9 (((((w.alloc (.cells #[.string { data:=#[97,98] },.string { data:=#[49] },.slice none 0 0,.slice none 0 0,.slice none 0 0,.slice none 0 0] 53)).alloc (.cells #[.string { data:=#[97,98] },.string { data:=#[50] },.slice none 0 0,.slice none 0 0,.slice none 0 0,.slice none 0 0] 53)).alloc (.cells #[.string { data:=#[118,118] },.int .i64 0,.string { data:=#[] }] 59)).alloc (.cells #[.string { data:=#[99,100] },.string { data:=#[49] },.slice none 0 0,.slice none 0 0,.slice none 0 0,.slice (some ⟨w.heap.size+2,0,none⟩) 1 1] 53)).alloc (.cells #[.string { data:=#[97,98] },.string { data:=#[50] },.slice none 0 0,.slice none 0 0,.slice none 0 0,.slice none 0 0,.string { data:=#[97,98] },.string { data:=#[49] },.slice none 0 0,.slice none 0 0,.slice none 0 0,.slice none 0 0,.string { data:=#[99,100] },.string { data:=#[49] },.slice none 0 0,.slice none 0 0,.slice none 0 0,.slice (some ⟨w.heap.size+2,0,none⟩) 1 1] 53)) (.cells #[.string { data:=#[97,98] },.string { data:=#[49] },.slice none 0 0,.slice none 0 0,.slice none 0 0,.slice none 0 0,.bool false,.bool false] 56)
  rw [World.size_alloc,World.size_alloc,World.size_alloc,World.size_alloc,World.size_alloc] at this
  exact this
 have RI:=Lib.hid (show rdEnts W6 (lt_ W6.heap.size) [exTwo,exAb,exCd] [.slice (some ⟨w.heap.size+4,0,none⟩) 3 3] from rd_three9 h4 rfl (by unfold lt_;omega) (rd_plain9 _ _ _ _) (rd_plain9 _ _ _ _) (rd_prov9 h2 (by unfold lt_;omega)))
 have RH:=Lib.hid (show rdHrs W6 (lt_ W6.heap.size) [exHr] [.slice (some ⟨w.heap.size+5,0,none⟩) 1 1] from one_rd (ty:=56) rdHr_good h5 (EntV.hr (x:=exHr) ⟨rdRow_nil _ _,rdRow_nil _ _,rdRow_nil _ _,rdRow_nil _ _⟩) (by unfold lt_;omega))
 have x00:W6.cell? ⟨w.heap.size,0,none⟩=some (.string { data:=#[97,98] }):=by rw [hW6];simp [go_sem]
 have x01:W6.cell? ⟨w.heap.size,1,none⟩=some (.string { data:=#[49] }):=by rw [hW6];simp [go_sem]
 have x02:W6.cell? ⟨w.heap.size,2,none⟩=some (.slice none 0 0):=by rw [hW6];simp [go_sem]
 have x03:W6.cell? ⟨w.heap.size,3,none⟩=some (.slice none 0 0):=by rw [hW6];simp [go_sem]
 have x04:W6.cell? ⟨w.heap.size,4,none⟩=some (.slice none 0 0):=by rw [hW6];simp [go_sem]
 have x05:W6.cell? ⟨w.heap.size,5,none⟩=some (.slice none 0 0):=by rw [hW6];simp [go_sem]
 have x10:W6.cell? ⟨w.heap.size+1,0,none⟩=some (.string { data:=#[97,98] }):=by rw [hW6];simp [go_sem]
 have x11:W6.cell? ⟨w.heap.size+1,1,none⟩=some (.string { data:=#[50] }):=by rw [hW6];simp [go_sem]
 have x12:W6.cell? ⟨w.heap.size+1,2,none⟩=some (.slice none 0 0):=by rw [hW6];simp [go_sem]
 have x13:W6.cell? ⟨w.heap.size+1,3,none⟩=some (.slice none 0 0):=by rw [hW6];simp [go_sem]
 have x14:W6.cell? ⟨w.heap.size+1,4,none⟩=some (.slice none 0 0):=by rw [hW6];simp [go_sem]
 have x15:W6.cell? ⟨w.heap.size+1,5,none⟩=some (.slice none 0 0):=by rw [hW6];simp [go_sem]
 have x30:W6.cell? ⟨w.heap.size+3,0,none⟩=some (.string { data:=#[99,100] }):=by rw [hW6];simp [go_sem]
 have x31:W6.cell? ⟨w.heap.size+3,1,none⟩=some (.string { data:=#[49] }):=by rw [hW6];simp [go_sem]
 have x32:W6.cell? ⟨w.heap.size+3,2,none⟩=some (.slice none 0 0):=by rw [hW6];simp [go_sem]
 have x33:W6.cell? ⟨w.heap.size+3,3,none⟩=some (.slice none 0 0):=by rw [hW6];simp [go_sem]
 have x34:W6.cell? ⟨w.heap.size+3,4,none⟩=some (.slice none 0 0):=by rw [hW6];simp [go_sem]
 have x35:W6.cell? ⟨w.heap.size+3,5,none⟩=some (.slice (some ⟨w.heap.size+2,0,none⟩) 1 1):=by rw [hW6];simp [go_sem]
 have KN:=Lib.hid (new9_any (some ⟨w.heap.size+4,0,none⟩) 3 3 [exTwo,exAb,exCd] (some ⟨w.heap.size+5,0,none⟩) 1 1 [exHr] W6 RI.out RH.out ex9_sz ex9_sz' (E.below b6))
 have HE:=Lib.hid (fun (W:World) (hb:Below w.heap.size w W)=>E.below hb)
 have B6:=Lib.hid b6
 have H2:=Lib.hid h2
 have S6:=Lib.hid s6
 have KX:=Lib.hid (fun (W:World) (hb:Below W6.heap.size W6 W)=>(show W.cell? ⟨w.heap.size,0,none⟩=some (.string { data:=#[97,98] })∧W.cell? ⟨w.heap.size,1,none⟩=some (.string { data:=#[49] })∧W.cell? ⟨w.heap.size,2,none⟩=some (.slice none 0 0)∧W.cell? ⟨w.heap.size,3,none⟩=some (.slice none 0 0)∧W.cell? ⟨w.heap.size,4,none⟩=some (.slice none 0 0)∧W.cell? ⟨w.heap.size,5,none⟩=some (.slice none 0 0)∧W.cell? ⟨w.heap.size+1,0,none⟩=some (.string { data:=#[97,98] })∧W.cell? ⟨w.heap.size+1,1,none⟩=some (.string { data:=#[50] })∧W.cell? ⟨w.heap.size+1,2,none⟩=some (.slice none 0 0)∧W.cell? ⟨w.heap.size+1,3,none⟩=some (.slice none 0 0)∧W.cell? ⟨w.heap.size+1,4,none⟩=some (.slice none 0 0)∧W.cell? ⟨w.heap.size+1,5,none⟩=some (.slice none 0 0)∧W.cell? ⟨w.heap.size+3,0,none⟩=some (.string { data:=#[99,100] })∧W.cell? ⟨w.heap.size+3,1,none⟩=some (.string { data:=#[49] })∧W.cell? ⟨w.heap.size+3,2,none⟩=some (.slice none 0 0)∧W.cell? ⟨w.heap.size+3,3,none⟩=some (.slice none 0 0)∧W.cell? ⟨w.heap.size+3,4,none⟩=some (.slice none 0 0)∧W.cell? ⟨w.heap.size+3,5,none⟩=some (.slice (some ⟨w.heap.size+2,0,none⟩) 1 1) from ⟨keep6 hb x00,keep6 hb x01,keep6 hb x02,keep6 hb x03,keep6 hb x04,keep6 hb x05,keep6 hb x10,keep6 hb x11,keep6 hb x12,keep6 hb x13,keep6 hb x14,keep6 hb x15,keep6 hb x30,keep6 hb x31,keep6 hb x32,keep6 hb x33,keep6 hb x34,keep6 hb x35⟩))
 clear b6 h2 h4 h5 s6 E x30 x31 x32 x33 x34 x35
 go_enter Tryz.func8,Tryz.ntmps8
 go_wp2_with fail
 rw [←hW6]
 clear hW6 x00 x01 x02 x03 x04 x05 x10 x11 x12 x13 x14 x15
 refine KN.out.mono ?_
 rintro e w7 ⟨hnr,hb⟩
 obtain ⟨b,rfl,hup⟩:=hnr.2.2 ⟨ex9_all,ex9_right⟩ (by rw [ex9_ent];decide)
 rw [ex9_ent] at hup
 have B7:=Lib.hid (B6.out.trans (hb.mono B6.out.size))
 have KX7:=Lib.hid (fun (W:World) (hx:Below w7.heap.size w7 W)=>And.intro hx (KX.out W (hb.trans (hx.mono hb.size))))
 have HU:=Lib.hid (fun (W:World) (hx:Below w7.heap.size w7 W)=>hup.below hx)
 have H27:=Lib.hid (fun (W:World) (hx:Below w7.heap.size w7 W)=>show W.heap[w.heap.size+2]?=some (.cells #[.string { data:=#[118,118] },.int .i64 0,.string { data:=#[] }] 59) from (hx.block _ (by have:=hb.size;have:=S6.out;omega)).trans ((hb.block _ (by have:=S6.out;omega)).trans H2.out))
 have S27:=Lib.hid (show w.heap.size+6≤w7.heap.size by have:=hb.size;have:=S6.out;omega)
 have HE7:=Lib.hid (fun (W:World) (hx:Below w7.heap.size w7 W)=>HE.out W (B7.out.trans (hx.mono B7.out.size)))
 have KEnt:=Lib.hid (fun (W:World) (hx:Below w7.heap.size w7 W)=>entries9_any b _ _ W (HU.out W hx) (by decide))
 have KNam:=Lib.hid (fun (W:World) (hx:Below w7.heap.size w7 W)=>by have:=names9_any b _ _ W (HU.out W hx) (by decide);rw [ex9_names] at this;exact this)
 have KOf:=Lib.hid (fun (W:World) (hx:Below w7.heap.size w7 W)=>by have:=of9_any b _ _ { data:=#[97,98] } W (HU.out W hx) (by decide) (by decide);rw [ex9_of] at this;exact this)
 have KP1:=Lib.hid (fun (W:World) (hx:Below w7.heap.size w7 W)=>by have:=place9_any b _ _ { data:=#[99,100] } { data:=#[49] } W (HU.out W hx) (by decide);rw [ex9_pl1] at this;exact this)
 have KP2:=Lib.hid (fun (W:World) (hx:Below w7.heap.size w7 W)=>by have:=place9_any b _ _ { data:=#[99,100] } { data:=#[50] } W (HU.out W hx) (by decide);rw [ex9_pl2] at this;exact this)
 have KG1:=Lib.hid (fun (W:World) (hx:Below w7.heap.size w7 W)=>by have:=givers9_any b _ _ ⟨{ data:=#[118,118] },0,{ data:=#[] }⟩ W (HU.out W hx) (by decide) (by decide) (HE7.out W hx);rw [ex9_gv1] at this;exact this)
 have KG2:=Lib.hid (fun (W:World) (hx:Below w7.heap.size w7 W)=>by have:=givers9_any b _ _ ⟨{ data:=#[97,98] },4,{ data:=#[50] }⟩ W (HU.out W hx) (by decide) (by decide) (HE7.out W hx);rw [ex9_gv2] at this;exact this)
 have KIn:=Lib.hid (fun (W:World) (hx:Below w7.heap.size w7 W)=>by have:=inst9_any b _ _ W (HU.out W hx) (by decide) (by decide);rw [ex9_ins] at this;exact this)
 clear hb hnr hup
 go_upto_region 7 with fail
 go_cut [6] from 29 to 57 (fun s6 wx=>s6=.bool true∧Below w7.heap.size w7 wx)
 case first=>
  refine wp_region_noPanic ?_
  refine wp_region_D (fun W=>Below w7.heap.size w7 W∧W.cell? ⟨w.heap.size,0,none⟩=some (.string { data:=#[97,98] })∧W.cell? ⟨w.heap.size,1,none⟩=some (.string { data:=#[49] })∧W.cell? ⟨w.heap.size,2,none⟩=some (.slice none 0 0)∧W.cell? ⟨w.heap.size,3,none⟩=some (.slice none 0 0)∧W.cell? ⟨w.heap.size,4,none⟩=some (.slice none 0 0)∧W.cell? ⟨w.heap.size,5,none⟩=some (.slice none 0 0)∧W.cell? ⟨w.heap.size+1,0,none⟩=some (.string { data:=#[97,98] })∧W.cell? ⟨w.heap.size+1,1,none⟩=some (.string { data:=#[50] })∧W.cell? ⟨w.heap.size+1,2,none⟩=some (.slice none 0 0)∧W.cell? ⟨w.heap.size+1,3,none⟩=some (.slice none 0 0)∧W.cell? ⟨w.heap.size+1,4,none⟩=some (.slice none 0 0)∧W.cell? ⟨w.heap.size+1,5,none⟩=some (.slice none 0 0)∧W.cell? ⟨w.heap.size+3,0,none⟩=some (.string { data:=#[99,100] })∧W.cell? ⟨w.heap.size+3,1,none⟩=some (.string { data:=#[49] })∧W.cell? ⟨w.heap.size+3,2,none⟩=some (.slice none 0 0)∧W.cell? ⟨w.heap.size+3,3,none⟩=some (.slice none 0 0)∧W.cell? ⟨w.heap.size+3,4,none⟩=some (.slice none 0 0)∧W.cell? ⟨w.heap.size+3,5,none⟩=some (.slice (some ⟨w.heap.size+2,0,none⟩) 1 1)) 29 (by kernel_rfl) (w0:=w7) (Dr.refl _) (fun V hV=>KX7.out V (hV.below _)) (fun V hV hHeld=>?_)
  have BV:=Lib.hid (hV.below w7.heap.size)
  clear hV
  refine wpAnyL_take (i:=0) (v:=?_) [28,24,23,19,18,13,12,7,6,1] rfl (by kernel_rfl) (by kernel_rfl) (by kernel_rfl) (fun _ _ _ h=>h) (by kernel_rfl) (by kernel_rfl) (by kernel_rfl) (Or.inl ⟨by rfl,?_⟩) (by assumption) ?_
  rotate_left
  ·intro w hSw
   try dsimp only at hSw
   go_simp
   first|done|with_reducible rfl
  try simp only [Act.put,List.setIfInBounds_toArray,List.set_cons_zero,List.set_cons_succ]
  refine wpAnyL_take (i:=2) (v:=?_) [28,24,23,19,18,13,12,7,6,5] rfl (by kernel_rfl) (by kernel_rfl) (by kernel_rfl) (fun _ _ _ h=>h) (by kernel_rfl) (by kernel_rfl) (by kernel_rfl) (Or.inl ⟨by rfl,?_⟩) (by assumption) ?_
  rotate_left
  ·intro w hSw
   try dsimp only at hSw
   go_simp
   first|done|with_reducible rfl
  try simp only [Act.put,List.setIfInBounds_toArray,List.set_cons_zero,List.set_cons_succ]
  refine wpAnyL_take (i:=3) (v:=?_) [28,24,23,19,18,13,12,7,6,5] rfl (by kernel_rfl) (by kernel_rfl) (by kernel_rfl) (fun _ _ _ h=>h) (by kernel_rfl) (by kernel_rfl) (by kernel_rfl) (Or.inl ⟨by rfl,?_⟩) (by assumption) ?_
  rotate_left
  ·intro w hSw
   try dsimp only at hSw
   go_simp
   first|done|with_reducible rfl
  try simp only [Act.put,List.setIfInBounds_toArray,List.set_cons_zero,List.set_cons_succ]
  refine wpAnyL_take (i:=4) (v:=?_) [28,24,23,19,18,13,12,7,6,5] rfl (by kernel_rfl) (by kernel_rfl) (by kernel_rfl) (fun _ _ _ h=>h) (by kernel_rfl) (by kernel_rfl) (by kernel_rfl) (Or.inl ⟨by rfl,?_⟩) (by assumption) ?_
  rotate_left
  ·intro w hSw
   try dsimp only at hSw
   go_simp
   first|done|with_reducible rfl
  try simp only [Act.put,List.setIfInBounds_toArray,List.set_cons_zero,List.set_cons_succ]
  refine wpAnyL_two (i:=1) (k:=5) (by kernel_rfl) rfl rfl (fun K hK=>?_) (fun K hK=>?_)
  ·go_simp
   refine (KEnt.out V BV.out).mono ?_
   rintro e Va1 ⟨⟨Ae1,ce1,rfl,hre⟩,hb⟩
   have BA1:=Lib.hid (bel_in BV.out hb)
   have RA1:=Lib.hid hre
   clear hre hb
   go_wp2_with fail
   refine hK.out _ _ (KX7.out _ BA1.out) (fun hHeld=>?_)
   clear hK K
   try simp only [Act.put,List.setIfInBounds_toArray,List.set_cons_zero,List.set_cons_succ]
   refine wpAnyL_one (i:=5) (by kernel_rfl) rfl (fun K hK=>?_)
   go_simp
   obtain ⟨Vb1,hVb1⟩:∃X,X=Va1.alloc (.cells #[.string { data:=#[97,98] },.string { data:=#[49] },.slice none 0 0,.slice none 0 0,.slice none 0 0,.slice none 0 0,.string { data:=#[97,98] },.string { data:=#[50] },.slice none 0 0,.slice none 0 0,.slice none 0 0,.slice none 0 0,.string { data:=#[99,100] },.string { data:=#[49] },.slice none 0 0,.slice none 0 0,.slice none 0 0,.slice (some ⟨w.heap.size+2,0,none⟩) 1 1] 53):=⟨_,rfl⟩
   have hbx:Below Va1.heap.size Va1 Vb1:=by rw [hVb1];exact (Below.refl _ _).alloc (Nat.le_refl _) _
   have BB1:=Lib.hid (bel_in BA1.out hbx)
   have hnw:Vb1.heap[Va1.heap.size]?=some (.cells #[.string { data:=#[97,98] },.string { data:=#[49] },.slice none 0 0,.slice none 0 0,.slice none 0 0,.slice none 0 0,.string { data:=#[97,98] },.string { data:=#[50] },.slice none 0 0,.slice none 0 0,.slice none 0 0,.slice none 0 0,.string { data:=#[99,100] },.string { data:=#[49] },.slice none 0 0,.slice none 0 0,.slice none 0 0,.slice (some ⟨w.heap.size+2,0,none⟩) 1 1] 53):=by rw [hVb1];exact heap_alloc_new _ _
   have hlt:Va1.heap.size < Vb1.heap.size:=by rw [hVb1,World.size_alloc];exact Nat.lt_succ_self _
   have RE1:=Lib.hid (show rdEnts Vb1 (lt_ Vb1.heap.size) [exAb,exTwo,exCd] [.slice Ae1 [exAb,exTwo,exCd].length ce1] from rdEnts_good.up (rdEnts_good.below RA1.out hbx) hbx.size)
   have RX1:=Lib.hid (show rdEnts Vb1 (lt_ Vb1.heap.size) [exAb,exTwo,exCd] [.slice (some ⟨Va1.heap.size,0,none⟩) [exAb,exTwo,exCd].length [exAb,exTwo,exCd].length] from rd_three9 hnw rfl hlt (rd_plain9 _ _ _ _) (rd_plain9 _ _ _ _) (rd_prov9 (H27.out Vb1 BB1.out) (by unfold lt_;have:=BB1.out.size;have:=S27.out;omega)))
   rw [←hVb1]
   clear hVb1 hnw hlt hbx
   refine hK.out _ _ (KX7.out _ BB1.out) (fun hHeld=>?_)
   clear hK K
   try simp only [Act.put,List.setIfInBounds_toArray,List.set_cons_zero,List.set_cons_succ]
   have KS1:=Lib.hid (sameEnts9_any Ae1 (some ⟨Va1.heap.size,0,none⟩) _ ce1 _ _ [exAb,exTwo,exCd] [exAb,exTwo,exCd] Vb1 RE1.out RX1.out)
   rw [decide_eq_true rfl] at KS1
   refine wpAnyL_one (i:=6) (by kernel_rfl) rfl (fun K hK=>?_)
   go_simp
   refine KS1.out.mono ?_
   rintro e Vc1 ⟨rfl,hb⟩
   have BC1:=Lib.hid (bel_in BB1.out hb)
   clear hb
   go_wp2_with fail
   refine hK.out _ _ (KX7.out _ BC1.out) (fun hHeld=>?_)
   clear hK K
   try simp only [Act.put,List.setIfInBounds_toArray,List.set_cons_zero,List.set_cons_succ]
   refine wpAnyL_one (i:=7) (by kernel_rfl) rfl (fun K hK=>?_)
   go_simp
   refine hK.out _ _ (KX7.out _ BC1.out) (fun hHeld=>?_)
   clear hK K
   try simp only [Act.put,List.setIfInBounds_toArray,List.set_cons_zero,List.set_cons_succ]
   refine wpAnyL_take (i:=8) (v:=?_) [28,24,23,19,18,13,12,11,9] rfl (by kernel_rfl) (by kernel_rfl) (by kernel_rfl) (fun _ _ _ h=>h) (by kernel_rfl) (by kernel_rfl) (by kernel_rfl) (Or.inl ⟨by rfl,?_⟩) (by assumption) ?_
   rotate_left
   ·intro w hSw
    try dsimp only at hSw
    go_simp
    first|done|with_reducible rfl
   try simp only [Act.put,List.setIfInBounds_toArray,List.set_cons_zero,List.set_cons_succ]
   refine wpAnyL_two (i:=9) (k:=10) (by kernel_rfl) rfl rfl (fun K hK=>?_) (fun K hK=>?_)
   ·go_simp
    refine (KNam.out Vc1 BC1.out).mono ?_
    rintro e Va2 ⟨⟨Ae2,ce2,rfl,hre⟩,hb⟩
    have BA2:=Lib.hid (bel_in BC1.out hb)
    have RA2:=Lib.hid hre
    clear hre hb
    go_wp2_with fail
    refine hK.out _ _ (KX7.out _ BA2.out) (fun hHeld=>?_)
    clear hK K
    try simp only [Act.put,List.setIfInBounds_toArray,List.set_cons_zero,List.set_cons_succ]
    refine wpAnyL_one (i:=10) (by kernel_rfl) rfl (fun K hK=>?_)
    go_simp
    obtain ⟨Vb2,hVb2⟩:∃X,X=Va2.alloc (.cells #[.string { data:=#[97,98] },.string { data:=#[99,100] }] 9):=⟨_,rfl⟩
    have hbx:Below Va2.heap.size Va2 Vb2:=by rw [hVb2];exact (Below.refl _ _).alloc (Nat.le_refl _) _
    have BB2:=Lib.hid (bel_in BA2.out hbx)
    have hnw:Vb2.heap[Va2.heap.size]?=some (.cells #[.string { data:=#[97,98] },.string { data:=#[99,100] }] 9):=by rw [hVb2];exact heap_alloc_new _ _
    have hlt:Va2.heap.size < Vb2.heap.size:=by rw [hVb2,World.size_alloc];exact Nat.lt_succ_self _
    have RE2:=Lib.hid (show rdNms Vb2 (lt_ Vb2.heap.size) [{ data:=#[97,98] },{ data:=#[99,100] }] [.slice Ae2 [{ data:=#[97,98] },{ data:=#[99,100] }].length ce2] from rdNms_good.up (rdNms_good.below RA2.out hbx) hbx.size)
    have RX2:=Lib.hid (show rdNms Vb2 (lt_ Vb2.heap.size) [{ data:=#[97,98] },{ data:=#[99,100] }] [.slice (some ⟨Va2.heap.size,0,none⟩) [{ data:=#[97,98] },{ data:=#[99,100] }].length [{ data:=#[97,98] },{ data:=#[99,100] }].length] from rd_nms9 (l:=[{ data:=#[97,98] },{ data:=#[99,100] }]) hnw rfl hlt (by decide))
    rw [←hVb2]
    clear hVb2 hnw hlt hbx
    refine hK.out _ _ (KX7.out _ BB2.out) (fun hHeld=>?_)
    clear hK K
    try simp only [Act.put,List.setIfInBounds_toArray,List.set_cons_zero,List.set_cons_succ]
    have KS2:=Lib.hid (sameTexts9_any Ae2 (some ⟨Va2.heap.size,0,none⟩) _ ce2 _ _ [{ data:=#[97,98] },{ data:=#[99,100] }] [{ data:=#[97,98] },{ data:=#[99,100] }] Vb2 RE2.out RX2.out)
    rw [decide_eq_true rfl] at KS2
    refine wpAnyL_one (i:=11) (by kernel_rfl) rfl (fun K hK=>?_)
    go_simp
    refine KS2.out.mono ?_
    rintro e Vc2 ⟨rfl,hd⟩
    have BC2:=Lib.hid (bel_in BB2.out (hd.below Vb2.heap.size))
    clear hd
    go_wp2_with fail
    refine hK.out _ _ (KX7.out _ BC2.out) (fun hHeld=>?_)
    clear hK K
    try simp only [Act.put,List.setIfInBounds_toArray,List.set_cons_zero,List.set_cons_succ]
    refine wpAnyL_one (i:=12) (by kernel_rfl) rfl (fun K hK=>?_)
    go_simp
    refine hK.out _ _ (KX7.out _ BC2.out) (fun hHeld=>?_)
    clear hK K
    try simp only [Act.put,List.setIfInBounds_toArray,List.set_cons_zero,List.set_cons_succ]
    refine wpAnyL_one (i:=13) (by kernel_rfl) rfl (fun K hK=>?_)
    go_simp
    refine hK.out _ _ (KX7.out _ BC2.out) (fun hHeld=>?_)
    clear hK K
    try simp only [Act.put,List.setIfInBounds_toArray,List.set_cons_zero,List.set_cons_succ]
    refine wpAnyL_take (i:=14) (v:=?_) [28,24,23,19,18,17,15] rfl (by kernel_rfl) (by kernel_rfl) (by kernel_rfl) (fun _ _ _ h=>h) (by kernel_rfl) (by kernel_rfl) (by kernel_rfl) (Or.inl ⟨by rfl,?_⟩) (by assumption) ?_
    rotate_left
    ·intro w hSw
     try dsimp only at hSw
     go_simp
     first|done|with_reducible rfl
    try simp only [Act.put,List.setIfInBounds_toArray,List.set_cons_zero,List.set_cons_succ]
    refine wpAnyL_two (i:=15) (k:=16) (by kernel_rfl) rfl rfl (fun K hK=>?_) (fun K hK=>?_)
    ·go_simp
     refine (KOf.out Vc2 BC2.out).mono ?_
     rintro e Va3 ⟨⟨Ae3,ce3,rfl,hre⟩,hb⟩
     have BA3:=Lib.hid (bel_in BC2.out hb)
     have RA3:=Lib.hid hre
     clear hre hb
     go_wp2_with fail
     refine hK.out _ _ (KX7.out _ BA3.out) (fun hHeld=>?_)
     clear hK K
     try simp only [Act.put,List.setIfInBounds_toArray,List.set_cons_zero,List.set_cons_succ]
     refine wpAnyL_one (i:=16) (by kernel_rfl) rfl (fun K hK=>?_)
     go_simp
     obtain ⟨Vb3,hVb3⟩:∃X,X=Va3.alloc (.cells #[.int .i64 0,.int .i64 1] 3):=⟨_,rfl⟩
     have hbx:Below Va3.heap.size Va3 Vb3:=by rw [hVb3];exact (Below.refl _ _).alloc (Nat.le_refl _) _
     have BB3:=Lib.hid (bel_in BA3.out hbx)
     have hnw:Vb3.heap[Va3.heap.size]?=some (.cells #[.int .i64 0,.int .i64 1] 3):=by rw [hVb3];exact heap_alloc_new _ _
     have hlt:Va3.heap.size < Vb3.heap.size:=by rw [hVb3,World.size_alloc];exact Nat.lt_succ_self _
     have RE3:=Lib.hid (show rdInts Vb3 (lt_ Vb3.heap.size) [0,1] [.slice Ae3 [0,1].length ce3] from rdInts_good.up (rdInts_good.below RA3.out hbx) hbx.size)
     have RX3:=Lib.hid (show rdInts Vb3 (lt_ Vb3.heap.size) [0,1] [.slice (some ⟨Va3.heap.size,0,none⟩) [0,1].length [0,1].length] from rd_ints9 (l:=[0,1]) hnw rfl hlt (by decide))
     rw [←hVb3]
     clear hVb3 hnw hlt hbx
     refine hK.out _ _ (KX7.out _ BB3.out) (fun hHeld=>?_)
     clear hK K
     try simp only [Act.put,List.setIfInBounds_toArray,List.set_cons_zero,List.set_cons_succ]
     have KS3:=Lib.hid (sameInts9_any Ae3 (some ⟨Va3.heap.size,0,none⟩) _ ce3 _ _ [0,1] [0,1] Vb3 RE3.out RX3.out)
     rw [decide_eq_true rfl] at KS3
     refine wpAnyL_one (i:=17) (by kernel_rfl) rfl (fun K hK=>?_)
     go_simp
     refine KS3.out.mono ?_
     rintro e Vc3 ⟨rfl,hd⟩
     have BC3:=Lib.hid (bel_in BB3.out (hd.below Vb3.heap.size))
     clear hd
     go_wp2_with fail
     refine hK.out _ _ (KX7.out _ BC3.out) (fun hHeld=>?_)
     clear hK K
     try simp only [Act.put,List.setIfInBounds_toArray,List.set_cons_zero,List.set_cons_succ]
     refine wpAnyL_one (i:=18) (by kernel_rfl) rfl (fun K hK=>?_)
     go_simp
     refine hK.out _ _ (KX7.out _ BC3.out) (fun hHeld=>?_)
     clear hK K
     try simp only [Act.put,List.setIfInBounds_toArray,List.set_cons_zero,List.set_cons_succ]
     refine wpAnyL_one (i:=19) (by kernel_rfl) rfl (fun K hK=>?_)
     go_simp
     refine hK.out _ _ (KX7.out _ BC3.out) (fun hHeld=>?_)
     clear hK K
     try simp only [Act.put,List.setIfInBounds_toArray,List.set_cons_zero,List.set_cons_succ]
     refine wpAnyL_one (i:=20) (by kernel_rfl) rfl (fun K hK=>?_)
     go_simp
     refine hK.out _ _ (KX7.out _ BC3.out) (fun hHeld=>?_)
     clear hK K
     try simp only [Act.put,List.setIfInBounds_toArray,List.set_cons_zero,List.set_cons_succ]
     refine wpAnyL_one (i:=21) (by kernel_rfl) rfl (fun K hK=>?_)
     go_simp
     refine (KP1.out Vc3 BC3.out).mono ?_
     rintro e Vd3 ⟨rfl,hd⟩
     have BD3:=Lib.hid (bel_in BC3.out (hd.below Vc3.heap.size))
     clear hd
     go_wp2_with fail
     refine hK.out _ _ (KX7.out _ BD3.out) (fun hHeld=>?_)
     clear hK K
     try simp only [Act.put,List.setIfInBounds_toArray,List.set_cons_zero,List.set_cons_succ]
     refine wpAnyL_one (i:=22) (by kernel_rfl) rfl (fun K hK=>?_)
     go_simp
     refine hK.out _ _ (KX7.out _ BD3.out) (fun hHeld=>?_)
     clear hK K
     try simp only [Act.put,List.setIfInBounds_toArray,List.set_cons_zero,List.set_cons_succ]
     refine wpAnyL_one (i:=23) (by kernel_rfl) rfl (fun K hK=>?_)
     go_simp
     refine hK.out _ _ (KX7.out _ BD3.out) (fun hHeld=>?_)
     clear hK K
     try simp only [Act.put,List.setIfInBounds_toArray,List.set_cons_zero,List.set_cons_succ]
     refine wpAnyL_one (i:=24) (by kernel_rfl) rfl (fun K hK=>?_)
     go_simp
     refine hK.out _ _ (KX7.out _ BD3.out) (fun hHeld=>?_)
     clear hK K
     try simp only [Act.put,List.setIfInBounds_toArray,List.set_cons_zero,List.set_cons_succ]
     refine wpAnyL_one (i:=25) (by kernel_rfl) rfl (fun K hK=>?_)
     go_simp
     refine hK.out _ _ (KX7.out _ BD3.out) (fun hHeld=>?_)
     clear hK K
     try simp only [Act.put,List.setIfInBounds_toArray,List.set_cons_zero,List.set_cons_succ]
     refine wpAnyL_one (i:=26) (by kernel_rfl) rfl (fun K hK=>?_)
     go_simp
     refine (KP2.out Vd3 BD3.out).mono ?_
     rintro e Ve3 ⟨rfl,hd⟩
     have BE3:=Lib.hid (bel_in BD3.out (hd.below Vd3.heap.size))
     clear hd
     go_wp2_with fail
     refine hK.out _ _ (KX7.out _ BE3.out) (fun hHeld=>?_)
     clear hK K
     try simp only [Act.put,List.setIfInBounds_toArray,List.set_cons_zero,List.set_cons_succ]
     refine wpAnyL_one (i:=27) (by kernel_rfl) rfl (fun K hK=>?_)
     go_simp
     refine hK.out _ _ (KX7.out _ BE3.out) (fun hHeld=>?_)
     clear hK K
     try simp only [Act.put,List.setIfInBounds_toArray,List.set_cons_zero,List.set_cons_succ]
     refine wpAnyL_one (i:=28) (by kernel_rfl) rfl (fun K hK=>?_)
     go_simp
     refine hK.out _ _ (KX7.out _ BE3.out) (fun hHeld=>?_)
     clear hK K
     try simp only [Act.put,List.setIfInBounds_toArray,List.set_cons_zero,List.set_cons_succ]
     refine wpAnyL_last (by kernel_rfl) rfl (by kernel_rfl) (fun K hK=>?_)
     go_simp
     refine hK.out _ _ ?_
     clear hK K
     refine NoPanic.normal ?_
     go_wp2_with fail
     go_meet
     exact ⟨rfl,BE3.out⟩
    ·go_simp
     obtain ⟨Va3,hVa3⟩:∃X,X=Vc2.alloc (.cells #[.int .i64 0,.int .i64 1] 3):=⟨_,rfl⟩
     have hbx:Below Vc2.heap.size Vc2 Va3:=by rw [hVa3];exact (Below.refl _ _).alloc (Nat.le_refl _) _
     have BA3:=Lib.hid (bel_in BC2.out hbx)
     have hnw:Va3.heap[Vc2.heap.size]?=some (.cells #[.int .i64 0,.int .i64 1] 3):=by rw [hVa3];exact heap_alloc_new _ _
     have hlt:Vc2.heap.size < Va3.heap.size:=by rw [hVa3,World.size_alloc];exact Nat.lt_succ_self _
     have RY3:=Lib.hid (show rdInts Va3 (lt_ Va3.heap.size) [0,1] [.slice (some ⟨Vc2.heap.size,0,none⟩) [0,1].length [0,1].length] from rd_ints9 (l:=[0,1]) hnw rfl hlt (by decide))
     rw [←hVa3]
     clear hVa3 hnw hlt hbx
     refine hK.out _ _ (KX7.out _ BA3.out) (fun hHeld=>?_)
     clear hK K
     try simp only [Act.put,List.setIfInBounds_toArray,List.set_cons_zero,List.set_cons_succ]
     refine wpAnyL_one (i:=15) (by kernel_rfl) rfl (fun K hK=>?_)
     go_simp
     refine (KOf.out Va3 BA3.out).mono ?_
     rintro e Vb3 ⟨⟨Ae3,ce3,rfl,hre⟩,hb⟩
     have BB3:=Lib.hid (bel_in BA3.out hb)
     have RE3:=Lib.hid hre
     have RX3:=Lib.hid (rdInts_good.up (rdInts_good.below RY3.out hb) hb.size)
     clear hre hb
     go_wp2_with fail
     refine hK.out _ _ (KX7.out _ BB3.out) (fun hHeld=>?_)
     clear hK K
     try simp only [Act.put,List.setIfInBounds_toArray,List.set_cons_zero,List.set_cons_succ]
     have KS3:=Lib.hid (sameInts9_any Ae3 (some ⟨Vc2.heap.size,0,none⟩) _ ce3 _ _ [0,1] [0,1] Vb3 RE3.out RX3.out)
     rw [decide_eq_true rfl] at KS3
     refine wpAnyL_one (i:=17) (by kernel_rfl) rfl (fun K hK=>?_)
     go_simp
     refine KS3.out.mono ?_
     rintro e Vc3 ⟨rfl,hd⟩
     have BC3:=Lib.hid (bel_in BB3.out (hd.below Vb3.heap.size))
     clear hd
     go_wp2_with fail
     refine hK.out _ _ (KX7.out _ BC3.out) (fun hHeld=>?_)
     clear hK K
     try simp only [Act.put,List.setIfInBounds_toArray,List.set_cons_zero,List.set_cons_succ]
     refine wpAnyL_one (i:=18) (by kernel_rfl) rfl (fun K hK=>?_)
     go_simp
     refine hK.out _ _ (KX7.out _ BC3.out) (fun hHeld=>?_)
     clear hK K
     try simp only [Act.put,List.setIfInBounds_toArray,List.set_cons_zero,List.set_cons_succ]
     refine wpAnyL_one (i:=19) (by kernel_rfl) rfl (fun K hK=>?_)
     go_simp
     refine hK.out _ _ (KX7.out _ BC3.out) (fun hHeld=>?_)
     clear hK K
     try simp only [Act.put,List.setIfInBounds_toArray,List.set_cons_zero,List.set_cons_succ]
     refine wpAnyL_one (i:=20) (by kernel_rfl) rfl (fun K hK=>?_)
     go_simp
     refine hK.out _ _ (KX7.out _ BC3.out) (fun hHeld=>?_)
     clear hK K
     try simp only [Act.put,List.setIfInBounds_toArray,List.set_cons_zero,List.set_cons_succ]
     refine wpAnyL_one (i:=21) (by kernel_rfl) rfl (fun K hK=>?_)
     go_simp
     refine (KP1.out Vc3 BC3.out).mono ?_
     rintro e Vd3 ⟨rfl,hd⟩
     have BD3:=Lib.hid (bel_in BC3.out (hd.below Vc3.heap.size))
     clear hd
     go_wp2_with fail
     refine hK.out _ _ (KX7.out _ BD3.out) (fun hHeld=>?_)
     clear hK K
     try simp only [Act.put,List.setIfInBounds_toArray,List.set_cons_zero,List.set_cons_succ]
     refine wpAnyL_one (i:=22) (by kernel_rfl) rfl (fun K hK=>?_)
     go_simp
     refine hK.out _ _ (KX7.out _ BD3.out) (fun hHeld=>?_)
     clear hK K
     try simp only [Act.put,List.setIfInBounds_toArray,List.set_cons_zero,List.set_cons_succ]
     refine wpAnyL_one (i:=23) (by kernel_rfl) rfl (fun K hK=>?_)
     go_simp
     refine hK.out _ _ (KX7.out _ BD3.out) (fun hHeld=>?_)
     clear hK K
     try simp only [Act.put,List.setIfInBounds_toArray,List.set_cons_zero,List.set_cons_succ]
     refine wpAnyL_one (i:=24) (by kernel_rfl) rfl (fun K hK=>?_)
     go_simp
     refine hK.out _ _ (KX7.out _ BD3.out) (fun hHeld=>?_)
     clear hK K
     try simp only [Act.put,List.setIfInBounds_toArray,List.set_cons_zero,List.set_cons_succ]
     refine wpAnyL_one (i:=25) (by kernel_rfl) rfl (fun K hK=>?_)
     go_simp
     refine hK.out _ _ (KX7.out _ BD3.out) (fun hHeld=>?_)
     clear hK K
     try simp only [Act.put,List.setIfInBounds_toArray,List.set_cons_zero,List.set_cons_succ]
     refine wpAnyL_one (i:=26) (by kernel_rfl) rfl (fun K hK=>?_)
     go_simp
     refine (KP2.out Vd3 BD3.out).mono ?_
     rintro e Ve3 ⟨rfl,hd⟩
     have BE3:=Lib.hid (bel_in BD3.out (hd.below Vd3.heap.size))
     clear hd
     go_wp2_with fail
     refine hK.out _ _ (KX7.out _ BE3.out) (fun hHeld=>?_)
     clear hK K
     try simp only [Act.put,List.setIfInBounds_toArray,List.set_cons_zero,List.set_cons_succ]
     refine wpAnyL_one (i:=27) (by kernel_rfl) rfl (fun K hK=>?_)
     go_simp
     refine hK.out _ _ (KX7.out _ BE3.out) (fun hHeld=>?_)
     clear hK K
     try simp only [Act.put,List.setIfInBounds_toArray,List.set_cons_zero,List.set_cons_succ]
     refine wpAnyL_one (i:=28) (by kernel_rfl) rfl (fun K hK=>?_)
     go_simp
     refine hK.out _ _ (KX7.out _ BE3.out) (fun hHeld=>?_)
     clear hK K
     try simp only [Act.put,List.setIfInBounds_toArray,List.set_cons_zero,List.set_cons_succ]
     refine wpAnyL_last (by kernel_rfl) rfl (by kernel_rfl) (fun K hK=>?_)
     go_simp
     refine hK.out _ _ ?_
     clear hK K
     refine NoPanic.normal ?_
     go_wp2_with fail
     go_meet
     exact ⟨rfl,BE3.out⟩
   ·go_simp
    obtain ⟨Va2,hVa2⟩:∃X,X=Vc1.alloc (.cells #[.string { data:=#[97,98] },.string { data:=#[99,100] }] 9):=⟨_,rfl⟩
    have hbx:Below Vc1.heap.size Vc1 Va2:=by rw [hVa2];exact (Below.refl _ _).alloc (Nat.le_refl _) _
    have BA2:=Lib.hid (bel_in BC1.out hbx)
    have hnw:Va2.heap[Vc1.heap.size]?=some (.cells #[.string { data:=#[97,98] },.string { data:=#[99,100] }] 9):=by rw [hVa2];exact heap_alloc_new _ _
    have hlt:Vc1.heap.size < Va2.heap.size:=by rw [hVa2,World.size_alloc];exact Nat.lt_succ_self _
    have RY2:=Lib.hid (show rdNms Va2 (lt_ Va2.heap.size) [{ data:=#[97,98] },{ data:=#[99,100] }] [.slice (some ⟨Vc1.heap.size,0,none⟩) [{ data:=#[97,98] },{ data:=#[99,100] }].length [{ data:=#[97,98] },{ data:=#[99,100] }].length] from rd_nms9 (l:=[{ data:=#[97,98] },{ data:=#[99,100] }]) hnw rfl hlt (by decide))
    rw [←hVa2]
    clear hVa2 hnw hlt hbx
    refine hK.out _ _ (KX7.out _ BA2.out) (fun hHeld=>?_)
    clear hK K
    try simp only [Act.put,List.setIfInBounds_toArray,List.set_cons_zero,List.set_cons_succ]
    refine wpAnyL_one (i:=9) (by kernel_rfl) rfl (fun K hK=>?_)
    go_simp
    refine (KNam.out Va2 BA2.out).mono ?_
    rintro e Vb2 ⟨⟨Ae2,ce2,rfl,hre⟩,hb⟩
    have BB2:=Lib.hid (bel_in BA2.out hb)
    have RE2:=Lib.hid hre
    have RX2:=Lib.hid (rdNms_good.up (rdNms_good.below RY2.out hb) hb.size)
    clear hre hb
    go_wp2_with fail
    refine hK.out _ _ (KX7.out _ BB2.out) (fun hHeld=>?_)
    clear hK K
    try simp only [Act.put,List.setIfInBounds_toArray,List.set_cons_zero,List.set_cons_succ]
    have KS2:=Lib.hid (sameTexts9_any Ae2 (some ⟨Vc1.heap.size,0,none⟩) _ ce2 _ _ [{ data:=#[97,98] },{ data:=#[99,100] }] [{ data:=#[97,98] },{ data:=#[99,100] }] Vb2 RE2.out RX2.out)
    rw [decide_eq_true rfl] at KS2
    refine wpAnyL_one (i:=11) (by kernel_rfl) rfl (fun K hK=>?_)
    go_simp
    refine KS2.out.mono ?_
    rintro e Vc2 ⟨rfl,hd⟩
    have BC2:=Lib.hid (bel_in BB2.out (hd.below Vb2.heap.size))
    clear hd
    go_wp2_with fail
    refine hK.out _ _ (KX7.out _ BC2.out) (fun hHeld=>?_)
    clear hK K
    try simp only [Act.put,List.setIfInBounds_toArray,List.set_cons_zero,List.set_cons_succ]
    refine wpAnyL_one (i:=12) (by kernel_rfl) rfl (fun K hK=>?_)
    go_simp
    refine hK.out _ _ (KX7.out _ BC2.out) (fun hHeld=>?_)
    clear hK K
    try simp only [Act.put,List.setIfInBounds_toArray,List.set_cons_zero,List.set_cons_succ]
    refine wpAnyL_one (i:=13) (by kernel_rfl) rfl (fun K hK=>?_)
    go_simp
    refine hK.out _ _ (KX7.out _ BC2.out) (fun hHeld=>?_)
    clear hK K
    try simp only [Act.put,List.setIfInBounds_toArray,List.set_cons_zero,List.set_cons_succ]
    refine wpAnyL_take (i:=14) (v:=?_) [28,24,23,19,18,17,15] rfl (by kernel_rfl) (by kernel_rfl) (by kernel_rfl) (fun _ _ _ h=>h) (by kernel_rfl) (by kernel_rfl) (by kernel_rfl) (Or.inl ⟨by rfl,?_⟩) (by assumption) ?_
    rotate_left
    ·intro w hSw
     try dsimp only at hSw
     go_simp
     first|done|with_reducible rfl
    try simp only [Act.put,List.setIfInBounds_toArray,List.set_cons_zero,List.set_cons_succ]
    refine wpAnyL_two (i:=15) (k:=16) (by kernel_rfl) rfl rfl (fun K hK=>?_) (fun K hK=>?_)
    ·go_simp
     refine (KOf.out Vc2 BC2.out).mono ?_
     rintro e Va4 ⟨⟨Ae4,ce4,rfl,hre⟩,hb⟩
     have BA4:=Lib.hid (bel_in BC2.out hb)
     have RA4:=Lib.hid hre
     clear hre hb
     go_wp2_with fail
     refine hK.out _ _ (KX7.out _ BA4.out) (fun hHeld=>?_)
     clear hK K
     try simp only [Act.put,List.setIfInBounds_toArray,List.set_cons_zero,List.set_cons_succ]
     refine wpAnyL_one (i:=16) (by kernel_rfl) rfl (fun K hK=>?_)
     go_simp
     obtain ⟨Vb4,hVb4⟩:∃X,X=Va4.alloc (.cells #[.int .i64 0,.int .i64 1] 3):=⟨_,rfl⟩
     have hbx:Below Va4.heap.size Va4 Vb4:=by rw [hVb4];exact (Below.refl _ _).alloc (Nat.le_refl _) _
     have BB4:=Lib.hid (bel_in BA4.out hbx)
     have hnw:Vb4.heap[Va4.heap.size]?=some (.cells #[.int .i64 0,.int .i64 1] 3):=by rw [hVb4];exact heap_alloc_new _ _
     have hlt:Va4.heap.size < Vb4.heap.size:=by rw [hVb4,World.size_alloc];exact Nat.lt_succ_self _
     have RE4:=Lib.hid (show rdInts Vb4 (lt_ Vb4.heap.size) [0,1] [.slice Ae4 [0,1].length ce4] from rdInts_good.up (rdInts_good.below RA4.out hbx) hbx.size)
     have RX4:=Lib.hid (show rdInts Vb4 (lt_ Vb4.heap.size) [0,1] [.slice (some ⟨Va4.heap.size,0,none⟩) [0,1].length [0,1].length] from rd_ints9 (l:=[0,1]) hnw rfl hlt (by decide))
     rw [←hVb4]
     clear hVb4 hnw hlt hbx
     refine hK.out _ _ (KX7.out _ BB4.out) (fun hHeld=>?_)
     clear hK K
     try simp only [Act.put,List.setIfInBounds_toArray,List.set_cons_zero,List.set_cons_succ]
     have KS4:=Lib.hid (sameInts9_any Ae4 (some ⟨Va4.heap.size,0,none⟩) _ ce4 _ _ [0,1] [0,1] Vb4 RE4.out RX4.out)
     rw [decide_eq_true rfl] at KS4
     refine wpAnyL_one (i:=17) (by kernel_rfl) rfl (fun K hK=>?_)
     go_simp
     refine KS4.out.mono ?_
     rintro e Vc4 ⟨rfl,hd⟩
     have BC4:=Lib.hid (bel_in BB4.out (hd.below Vb4.heap.size))
     clear hd
     go_wp2_with fail
     refine hK.out _ _ (KX7.out _ BC4.out) (fun hHeld=>?_)
     clear hK K
     try simp only [Act.put,List.setIfInBounds_toArray,List.set_cons_zero,List.set_cons_succ]
     refine wpAnyL_one (i:=18) (by kernel_rfl) rfl (fun K hK=>?_)
     go_simp
     refine hK.out _ _ (KX7.out _ BC4.out) (fun hHeld=>?_)
     clear hK K
     try simp only [Act.put,List.setIfInBounds_toArray,List.set_cons_zero,List.set_cons_succ]
     refine wpAnyL_one (i:=19) (by kernel_rfl) rfl (fun K hK=>?_)
     go_simp
     refine hK.out _ _ (KX7.out _ BC4.out) (fun hHeld=>?_)
     clear hK K
     try simp only [Act.put,List.setIfInBounds_toArray,List.set_cons_zero,List.set_cons_succ]
     refine wpAnyL_one (i:=20) (by kernel_rfl) rfl (fun K hK=>?_)
     go_simp
     refine hK.out _ _ (KX7.out _ BC4.out) (fun hHeld=>?_)
     clear hK K
     try simp only [Act.put,List.setIfInBounds_toArray,List.set_cons_zero,List.set_cons_succ]
     refine wpAnyL_one (i:=21) (by kernel_rfl) rfl (fun K hK=>?_)
     go_simp
     refine (KP1.out Vc4 BC4.out).mono ?_
     rintro e Vd4 ⟨rfl,hd⟩
     have BD4:=Lib.hid (bel_in BC4.out (hd.below Vc4.heap.size))
     clear hd
     go_wp2_with fail
     refine hK.out _ _ (KX7.out _ BD4.out) (fun hHeld=>?_)
     clear hK K
     try simp only [Act.put,List.setIfInBounds_toArray,List.set_cons_zero,List.set_cons_succ]
     refine wpAnyL_one (i:=22) (by kernel_rfl) rfl (fun K hK=>?_)
     go_simp
     refine hK.out _ _ (KX7.out _ BD4.out) (fun hHeld=>?_)
     clear hK K
     try simp only [Act.put,List.setIfInBounds_toArray,List.set_cons_zero,List.set_cons_succ]
     refine wpAnyL_one (i:=23) (by kernel_rfl) rfl (fun K hK=>?_)
     go_simp
     refine hK.out _ _ (KX7.out _ BD4.out) (fun hHeld=>?_)
     clear hK K
     try simp only [Act.put,List.setIfInBounds_toArray,List.set_cons_zero,List.set_cons_succ]
     refine wpAnyL_one (i:=24) (by kernel_rfl) rfl (fun K hK=>?_)
     go_simp
     refine hK.out _ _ (KX7.out _ BD4.out) (fun hHeld=>?_)
     clear hK K
     try simp only [Act.put,List.setIfInBounds_toArray,List.set_cons_zero,List.set_cons_succ]
     refine wpAnyL_one (i:=25) (by kernel_rfl) rfl (fun K hK=>?_)
     go_simp
     refine hK.out _ _ (KX7.out _ BD4.out) (fun hHeld=>?_)
     clear hK K
     try simp only [Act.put,List.setIfInBounds_toArray,List.set_cons_zero,List.set_cons_succ]
     refine wpAnyL_one (i:=26) (by kernel_rfl) rfl (fun K hK=>?_)
     go_simp
     refine (KP2.out Vd4 BD4.out).mono ?_
     rintro e Ve4 ⟨rfl,hd⟩
     have BE4:=Lib.hid (bel_in BD4.out (hd.below Vd4.heap.size))
     clear hd
     go_wp2_with fail
     refine hK.out _ _ (KX7.out _ BE4.out) (fun hHeld=>?_)
     clear hK K
     try simp only [Act.put,List.setIfInBounds_toArray,List.set_cons_zero,List.set_cons_succ]
     refine wpAnyL_one (i:=27) (by kernel_rfl) rfl (fun K hK=>?_)
     go_simp
     refine hK.out _ _ (KX7.out _ BE4.out) (fun hHeld=>?_)
     clear hK K
     try simp only [Act.put,List.setIfInBounds_toArray,List.set_cons_zero,List.set_cons_succ]
     refine wpAnyL_one (i:=28) (by kernel_rfl) rfl (fun K hK=>?_)
     go_simp
     refine hK.out _ _ (KX7.out _ BE4.out) (fun hHeld=>?_)
     clear hK K
     try simp only [Act.put,List.setIfInBounds_toArray,List.set_cons_zero,List.set_cons_succ]
     refine wpAnyL_last (by kernel_rfl) rfl (by kernel_rfl) (fun K hK=>?_)
     go_simp
     refine hK.out _ _ ?_
     clear hK K
     refine NoPanic.normal ?_
     go_wp2_with fail
     go_meet
     exact ⟨rfl,BE4.out⟩
    ·go_simp
     obtain ⟨Va4,hVa4⟩:∃X,X=Vc2.alloc (.cells #[.int .i64 0,.int .i64 1] 3):=⟨_,rfl⟩
     have hbx:Below Vc2.heap.size Vc2 Va4:=by rw [hVa4];exact (Below.refl _ _).alloc (Nat.le_refl _) _
     have BA4:=Lib.hid (bel_in BC2.out hbx)
     have hnw:Va4.heap[Vc2.heap.size]?=some (.cells #[.int .i64 0,.int .i64 1] 3):=by rw [hVa4];exact heap_alloc_new _ _
     have hlt:Vc2.heap.size < Va4.heap.size:=by rw [hVa4,World.size_alloc];exact Nat.lt_succ_self _
     have RY4:=Lib.hid (show rdInts Va4 (lt_ Va4.heap.size) [0,1] [.slice (some ⟨Vc2.heap.size,0,none⟩) [0,1].length [0,1].length] from rd_ints9 (l:=[0,1]) hnw rfl hlt (by decide))
     rw [←hVa4]
     clear hVa4 hnw hlt hbx
     refine hK.out _ _ (KX7.out _ BA4.out) (fun hHeld=>?_)
     clear hK K
     try simp only [Act.put,List.setIfInBounds_toArray,List.set_cons_zero,List.set_cons_succ]
     refine wpAnyL_one (i:=15) (by kernel_rfl) rfl (fun K hK=>?_)
     go_simp
     refine (KOf.out Va4 BA4.out).mono ?_
     rintro e Vb4 ⟨⟨Ae4,ce4,rfl,hre⟩,hb⟩
     have BB4:=Lib.hid (bel_in BA4.out hb)
     have RE4:=Lib.hid hre
     have RX4:=Lib.hid (rdInts_good.up (rdInts_good.below RY4.out hb) hb.size)
     clear hre hb
     go_wp2_with fail
     refine hK.out _ _ (KX7.out _ BB4.out) (fun hHeld=>?_)
     clear hK K
     try simp only [Act.put,List.setIfInBounds_toArray,List.set_cons_zero,List.set_cons_succ]
     have KS4:=Lib.hid (sameInts9_any Ae4 (some ⟨Vc2.heap.size,0,none⟩) _ ce4 _ _ [0,1] [0,1] Vb4 RE4.out RX4.out)
     rw [decide_eq_true rfl] at KS4
     refine wpAnyL_one (i:=17) (by kernel_rfl) rfl (fun K hK=>?_)
     go_simp
     refine KS4.out.mono ?_
     rintro e Vc4 ⟨rfl,hd⟩
     have BC4:=Lib.hid (bel_in BB4.out (hd.below Vb4.heap.size))
     clear hd
     go_wp2_with fail
     refine hK.out _ _ (KX7.out _ BC4.out) (fun hHeld=>?_)
     clear hK K
     try simp only [Act.put,List.setIfInBounds_toArray,List.set_cons_zero,List.set_cons_succ]
     refine wpAnyL_one (i:=18) (by kernel_rfl) rfl (fun K hK=>?_)
     go_simp
     refine hK.out _ _ (KX7.out _ BC4.out) (fun hHeld=>?_)
     clear hK K
     try simp only [Act.put,List.setIfInBounds_toArray,List.set_cons_zero,List.set_cons_succ]
     refine wpAnyL_one (i:=19) (by kernel_rfl) rfl (fun K hK=>?_)
     go_simp
     refine hK.out _ _ (KX7.out _ BC4.out) (fun hHeld=>?_)
     clear hK K
     try simp only [Act.put,List.setIfInBounds_toArray,List.set_cons_zero,List.set_cons_succ]
     refine wpAnyL_one (i:=20) (by kernel_rfl) rfl (fun K hK=>?_)
     go_simp
     refine hK.out _ _ (KX7.out _ BC4.out) (fun hHeld=>?_)
     clear hK K
     try simp only [Act.put,List.setIfInBounds_toArray,List.set_cons_zero,List.set_cons_succ]
     refine wpAnyL_one (i:=21) (by kernel_rfl) rfl (fun K hK=>?_)
     go_simp
     refine (KP1.out Vc4 BC4.out).mono ?_
     rintro e Vd4 ⟨rfl,hd⟩
     have BD4:=Lib.hid (bel_in BC4.out (hd.below Vc4.heap.size))
     clear hd
     go_wp2_with fail
     refine hK.out _ _ (KX7.out _ BD4.out) (fun hHeld=>?_)
     clear hK K
     try simp only [Act.put,List.setIfInBounds_toArray,List.set_cons_zero,List.set_cons_succ]
     refine wpAnyL_one (i:=22) (by kernel_rfl) rfl (fun K hK=>?_)
     go_simp
     refine hK.out _ _ (KX7.out _ BD4.out) (fun hHeld=>?_)
     clear hK K
     try simp only [Act.put,List.setIfInBounds_toArray,List.set_cons_zero,List.set_cons_succ]
     refine wpAnyL_one (i:=23) (by kernel_rfl) rfl (fun K hK=>?_)
     go_simp
     refine hK.out _ _ (KX7.out _ BD4.out) (fun hHeld=>?_)
     clear hK K
     try simp only [Act.put,List.setIfInBounds_toArray,List.set_cons_zero,List.set_cons_succ]
     refine wpAnyL_one (i:=24) (by kernel_rfl) rfl (fun K hK=>?_)
     go_simp
     refine hK.out _ _ (KX7.out _ BD4.out) (fun hHeld=>?_)
     clear hK K
     try simp only [Act.put,List.setIfInBounds_toArray,List.set_cons_zero,List.set_cons_succ]
     refine wpAnyL_one (i:=25) (by kernel_rfl) rfl (fun K hK=>?_)
     go_simp
     refine hK.out _ _ (KX7.out _ BD4.out) (fun hHeld=>?_)
     clear hK K
     try simp only [Act.put,List.setIfInBounds_toArray,List.set_cons_zero,List.set_cons_succ]
     refine wpAnyL_one (i:=26) (by kernel_rfl) rfl (fun K hK=>?_)
     go_simp
     refine (KP2.out Vd4 BD4.out).mono ?_
     rintro e Ve4 ⟨rfl,hd⟩
     have BE4:=Lib.hid (bel_in BD4.out (hd.below Vd4.heap.size))
     clear hd
     go_wp2_with fail
     refine hK.out _ _ (KX7.out _ BE4.out) (fun hHeld=>?_)
     clear hK K
     try simp only [Act.put,List.setIfInBounds_toArray,List.set_cons_zero,List.set_cons_succ]
     refine wpAnyL_one (i:=27) (by kernel_rfl) rfl (fun K hK=>?_)
     go_simp
     refine hK.out _ _ (KX7.out _ BE4.out) (fun hHeld=>?_)
     clear hK K
     try simp only [Act.put,List.setIfInBounds_toArray,List.set_cons_zero,List.set_cons_succ]
     refine wpAnyL_one (i:=28) (by kernel_rfl) rfl (fun K hK=>?_)
     go_simp
     refine hK.out _ _ (KX7.out _ BE4.out) (fun hHeld=>?_)
     clear hK K
     try simp only [Act.put,List.setIfInBounds_toArray,List.set_cons_zero,List.set_cons_succ]
     refine wpAnyL_last (by kernel_rfl) rfl (by kernel_rfl) (fun K hK=>?_)
     go_simp
     refine hK.out _ _ ?_
     clear hK K
     refine NoPanic.normal ?_
     go_wp2_with fail
     go_meet
     exact ⟨rfl,BE4.out⟩
  ·go_simp
   obtain ⟨Va1,hVa1⟩:∃X,X=V.alloc (.cells #[.string { data:=#[97,98] },.string { data:=#[49] },.slice none 0 0,.slice none 0 0,.slice none 0 0,.slice none 0 0,.string { data:=#[97,98] },.string { data:=#[50] },.slice none 0 0,.slice none 0 0,.slice none 0 0,.slice none 0 0,.string { data:=#[99,100] },.string { data:=#[49] },.slice none 0 0,.slice none 0 0,.slice none 0 0,.slice (some ⟨w.heap.size+2,0,none⟩) 1 1] 53):=⟨_,rfl⟩
   have hbx:Below V.heap.size V Va1:=by rw [hVa1];exact (Below.refl _ _).alloc (Nat.le_refl _) _
   have BA1:=Lib.hid (bel_in BV.out hbx)
   have hnw:Va1.heap[V.heap.size]?=some (.cells #[.string { data:=#[97,98] },.string { data:=#[49] },.slice none 0 0,.slice none 0 0,.slice none 0 0,.slice none 0 0,.string { data:=#[97,98] },.string { data:=#[50] },.slice none 0 0,.slice none 0 0,.slice none 0 0,.slice none 0 0,.string { data:=#[99,100] },.string { data:=#[49] },.slice none 0 0,.slice none 0 0,.slice none 0 0,.slice (some ⟨w.heap.size+2,0,none⟩) 1 1] 53):=by rw [hVa1];exact heap_alloc_new _ _
   have hlt:V.heap.size < Va1.heap.size:=by rw [hVa1,World.size_alloc];exact Nat.lt_succ_self _
   have RY1:=Lib.hid (show rdEnts Va1 (lt_ Va1.heap.size) [exAb,exTwo,exCd] [.slice (some ⟨V.heap.size,0,none⟩) [exAb,exTwo,exCd].length [exAb,exTwo,exCd].length] from rd_three9 hnw rfl hlt (rd_plain9 _ _ _ _) (rd_plain9 _ _ _ _) (rd_prov9 (H27.out Va1 BA1.out) (by unfold lt_;have:=BA1.out.size;have:=S27.out;omega)))
   rw [←hVa1]
   clear hVa1 hnw hlt hbx
   refine hK.out _ _ (KX7.out _ BA1.out) (fun hHeld=>?_)
   clear hK K
   try simp only [Act.put,List.setIfInBounds_toArray,List.set_cons_zero,List.set_cons_succ]
   refine wpAnyL_one (i:=1) (by kernel_rfl) rfl (fun K hK=>?_)
   go_simp
   refine (KEnt.out Va1 BA1.out).mono ?_
   rintro e Vb1 ⟨⟨Ae1,ce1,rfl,hre⟩,hb⟩
   have BB1:=Lib.hid (bel_in BA1.out hb)
   have RE1:=Lib.hid hre
   have RX1:=Lib.hid (rdEnts_good.up (rdEnts_good.below RY1.out hb) hb.size)
   clear hre hb
   go_wp2_with fail
   refine hK.out _ _ (KX7.out _ BB1.out) (fun hHeld=>?_)
   clear hK K
   try simp only [Act.put,List.setIfInBounds_toArray,List.set_cons_zero,List.set_cons_succ]
   have KS1:=Lib.hid (sameEnts9_any Ae1 (some ⟨V.heap.size,0,none⟩) _ ce1 _ _ [exAb,exTwo,exCd] [exAb,exTwo,exCd] Vb1 RE1.out RX1.out)
   rw [decide_eq_true rfl] at KS1
   refine wpAnyL_one (i:=6) (by kernel_rfl) rfl (fun K hK=>?_)
   go_simp
   refine KS1.out.mono ?_
   rintro e Vc1 ⟨rfl,hb⟩
   have BC1:=Lib.hid (bel_in BB1.out hb)
   clear hb
   go_wp2_with fail
   refine hK.out _ _ (KX7.out _ BC1.out) (fun hHeld=>?_)
   clear hK K
   try simp only [Act.put,List.setIfInBounds_toArray,List.set_cons_zero,List.set_cons_succ]
   refine wpAnyL_one (i:=7) (by kernel_rfl) rfl (fun K hK=>?_)
   go_simp
   refine hK.out _ _ (KX7.out _ BC1.out) (fun hHeld=>?_)
   clear hK K
   try simp only [Act.put,List.setIfInBounds_toArray,List.set_cons_zero,List.set_cons_succ]
   refine wpAnyL_take (i:=8) (v:=?_) [28,24,23,19,18,13,12,11,9] rfl (by kernel_rfl) (by kernel_rfl) (by kernel_rfl) (fun _ _ _ h=>h) (by kernel_rfl) (by kernel_rfl) (by kernel_rfl) (Or.inl ⟨by rfl,?_⟩) (by assumption) ?_
   rotate_left
   ·intro w hSw
    try dsimp only at hSw
    go_simp
    first|done|with_reducible rfl
   try simp only [Act.put,List.setIfInBounds_toArray,List.set_cons_zero,List.set_cons_succ]
   refine wpAnyL_two (i:=9) (k:=10) (by kernel_rfl) rfl rfl (fun K hK=>?_) (fun K hK=>?_)
   ·go_simp
    refine (KNam.out Vc1 BC1.out).mono ?_
    rintro e Va3 ⟨⟨Ae3,ce3,rfl,hre⟩,hb⟩
    have BA3:=Lib.hid (bel_in BC1.out hb)
    have RA3:=Lib.hid hre
    clear hre hb
    go_wp2_with fail
    refine hK.out _ _ (KX7.out _ BA3.out) (fun hHeld=>?_)
    clear hK K
    try simp only [Act.put,List.setIfInBounds_toArray,List.set_cons_zero,List.set_cons_succ]
    refine wpAnyL_one (i:=10) (by kernel_rfl) rfl (fun K hK=>?_)
    go_simp
    obtain ⟨Vb3,hVb3⟩:∃X,X=Va3.alloc (.cells #[.string { data:=#[97,98] },.string { data:=#[99,100] }] 9):=⟨_,rfl⟩
    have hbx:Below Va3.heap.size Va3 Vb3:=by rw [hVb3];exact (Below.refl _ _).alloc (Nat.le_refl _) _
    have BB3:=Lib.hid (bel_in BA3.out hbx)
    have hnw:Vb3.heap[Va3.heap.size]?=some (.cells #[.string { data:=#[97,98] },.string { data:=#[99,100] }] 9):=by rw [hVb3];exact heap_alloc_new _ _
    have hlt:Va3.heap.size < Vb3.heap.size:=by rw [hVb3,World.size_alloc];exact Nat.lt_succ_self _
    have RE3:=Lib.hid (show rdNms Vb3 (lt_ Vb3.heap.size) [{ data:=#[97,98] },{ data:=#[99,100] }] [.slice Ae3 [{ data:=#[97,98] },{ data:=#[99,100] }].length ce3] from rdNms_good.up (rdNms_good.below RA3.out hbx) hbx.size)
    have RX3:=Lib.hid (show rdNms Vb3 (lt_ Vb3.heap.size) [{ data:=#[97,98] },{ data:=#[99,100] }] [.slice (some ⟨Va3.heap.size,0,none⟩) [{ data:=#[97,98] },{ data:=#[99,100] }].length [{ data:=#[97,98] },{ data:=#[99,100] }].length] from rd_nms9 (l:=[{ data:=#[97,98] },{ data:=#[99,100] }]) hnw rfl hlt (by decide))
    rw [←hVb3]
    clear hVb3 hnw hlt hbx
    refine hK.out _ _ (KX7.out _ BB3.out) (fun hHeld=>?_)
    clear hK K
    try simp only [Act.put,List.setIfInBounds_toArray,List.set_cons_zero,List.set_cons_succ]
    have KS3:=Lib.hid (sameTexts9_any Ae3 (some ⟨Va3.heap.size,0,none⟩) _ ce3 _ _ [{ data:=#[97,98] },{ data:=#[99,100] }] [{ data:=#[97,98] },{ data:=#[99,100] }] Vb3 RE3.out RX3.out)
    rw [decide_eq_true rfl] at KS3
    refine wpAnyL_one (i:=11) (by kernel_rfl) rfl (fun K hK=>?_)
    go_simp
    refine KS3.out.mono ?_
    rintro e Vc3 ⟨rfl,hd⟩
    have BC3:=Lib.hid (bel_in BB3.out (hd.below Vb3.heap.size))
    clear hd
    go_wp2_with fail
    refine hK.out _ _ (KX7.out _ BC3.out) (fun hHeld=>?_)
    clear hK K
    try simp only [Act.put,List.setIfInBounds_toArray,List.set_cons_zero,List.set_cons_succ]
    refine wpAnyL_one (i:=12) (by kernel_rfl) rfl (fun K hK=>?_)
    go_simp
    refine hK.out _ _ (KX7.out _ BC3.out) (fun hHeld=>?_)
    clear hK K
    try simp only [Act.put,List.setIfInBounds_toArray,List.set_cons_zero,List.set_cons_succ]
    refine wpAnyL_one (i:=13) (by kernel_rfl) rfl (fun K hK=>?_)
    go_simp
    refine hK.out _ _ (KX7.out _ BC3.out) (fun hHeld=>?_)
    clear hK K
    try simp only [Act.put,List.setIfInBounds_toArray,List.set_cons_zero,List.set_cons_succ]
    refine wpAnyL_take (i:=14) (v:=?_) [28,24,23,19,18,17,15] rfl (by kernel_rfl) (by kernel_rfl) (by kernel_rfl) (fun _ _ _ h=>h) (by kernel_rfl) (by kernel_rfl) (by kernel_rfl) (Or.inl ⟨by rfl,?_⟩) (by assumption) ?_
    rotate_left
    ·intro w hSw
     try dsimp only at hSw
     go_simp
     first|done|with_reducible rfl
    try simp only [Act.put,List.setIfInBounds_toArray,List.set_cons_zero,List.set_cons_succ]
    refine wpAnyL_two (i:=15) (k:=16) (by kernel_rfl) rfl rfl (fun K hK=>?_) (fun K hK=>?_)
    ·go_simp
     refine (KOf.out Vc3 BC3.out).mono ?_
     rintro e Va4 ⟨⟨Ae4,ce4,rfl,hre⟩,hb⟩
     have BA4:=Lib.hid (bel_in BC3.out hb)
     have RA4:=Lib.hid hre
     clear hre hb
     go_wp2_with fail
     refine hK.out _ _ (KX7.out _ BA4.out) (fun hHeld=>?_)
     clear hK K
     try simp only [Act.put,List.setIfInBounds_toArray,List.set_cons_zero,List.set_cons_succ]
     refine wpAnyL_one (i:=16) (by kernel_rfl) rfl (fun K hK=>?_)
     go_simp
     obtain ⟨Vb4,hVb4⟩:∃X,X=Va4.alloc (.cells #[.int .i64 0,.int .i64 1] 3):=⟨_,rfl⟩
     have hbx:Below Va4.heap.size Va4 Vb4:=by rw [hVb4];exact (Below.refl _ _).alloc (Nat.le_refl _) _
     have BB4:=Lib.hid (bel_in BA4.out hbx)
     have hnw:Vb4.heap[Va4.heap.size]?=some (.cells #[.int .i64 0,.int .i64 1] 3):=by rw [hVb4];exact heap_alloc_new _ _
     have hlt:Va4.heap.size < Vb4.heap.size:=by rw [hVb4,World.size_alloc];exact Nat.lt_succ_self _
     have RE4:=Lib.hid (show rdInts Vb4 (lt_ Vb4.heap.size) [0,1] [.slice Ae4 [0,1].length ce4] from rdInts_good.up (rdInts_good.below RA4.out hbx) hbx.size)
     have RX4:=Lib.hid (show rdInts Vb4 (lt_ Vb4.heap.size) [0,1] [.slice (some ⟨Va4.heap.size,0,none⟩) [0,1].length [0,1].length] from rd_ints9 (l:=[0,1]) hnw rfl hlt (by decide))
     rw [←hVb4]
     clear hVb4 hnw hlt hbx
     refine hK.out _ _ (KX7.out _ BB4.out) (fun hHeld=>?_)
     clear hK K
     try simp only [Act.put,List.setIfInBounds_toArray,List.set_cons_zero,List.set_cons_succ]
     have KS4:=Lib.hid (sameInts9_any Ae4 (some ⟨Va4.heap.size,0,none⟩) _ ce4 _ _ [0,1] [0,1] Vb4 RE4.out RX4.out)
     rw [decide_eq_true rfl] at KS4
     refine wpAnyL_one (i:=17) (by kernel_rfl) rfl (fun K hK=>?_)
     go_simp
     refine KS4.out.mono ?_
     rintro e Vc4 ⟨rfl,hd⟩
     have BC4:=Lib.hid (bel_in BB4.out (hd.below Vb4.heap.size))
     clear hd
     go_wp2_with fail
     refine hK.out _ _ (KX7.out _ BC4.out) (fun hHeld=>?_)
     clear hK K
     try simp only [Act.put,List.setIfInBounds_toArray,List.set_cons_zero,List.set_cons_succ]
     refine wpAnyL_one (i:=18) (by kernel_rfl) rfl (fun K hK=>?_)
     go_simp
     refine hK.out _ _ (KX7.out _ BC4.out) (fun hHeld=>?_)
     clear hK K
     try simp only [Act.put,List.setIfInBounds_toArray,List.set_cons_zero,List.set_cons_succ]
     refine wpAnyL_one (i:=19) (by kernel_rfl) rfl (fun K hK=>?_)
     go_simp
     refine hK.out _ _ (KX7.out _ BC4.out) (fun hHeld=>?_)
     clear hK K
     try simp only [Act.put,List.setIfInBounds_toArray,List.set_cons_zero,List.set_cons_succ]
     refine wpAnyL_one (i:=20) (by kernel_rfl) rfl (fun K hK=>?_)
     go_simp
     refine hK.out _ _ (KX7.out _ BC4.out) (fun hHeld=>?_)
     clear hK K
     try simp only [Act.put,List.setIfInBounds_toArray,List.set_cons_zero,List.set_cons_succ]
     refine wpAnyL_one (i:=21) (by kernel_rfl) rfl (fun K hK=>?_)
     go_simp
     refine (KP1.out Vc4 BC4.out).mono ?_
     rintro e Vd4 ⟨rfl,hd⟩
     have BD4:=Lib.hid (bel_in BC4.out (hd.below Vc4.heap.size))
     clear hd
     go_wp2_with fail
     refine hK.out _ _ (KX7.out _ BD4.out) (fun hHeld=>?_)
     clear hK K
     try simp only [Act.put,List.setIfInBounds_toArray,List.set_cons_zero,List.set_cons_succ]
     refine wpAnyL_one (i:=22) (by kernel_rfl) rfl (fun K hK=>?_)
     go_simp
     refine hK.out _ _ (KX7.out _ BD4.out) (fun hHeld=>?_)
     clear hK K
     try simp only [Act.put,List.setIfInBounds_toArray,List.set_cons_zero,List.set_cons_succ]
     refine wpAnyL_one (i:=23) (by kernel_rfl) rfl (fun K hK=>?_)
     go_simp
     refine hK.out _ _ (KX7.out _ BD4.out) (fun hHeld=>?_)
     clear hK K
     try simp only [Act.put,List.setIfInBounds_toArray,List.set_cons_zero,List.set_cons_succ]
     refine wpAnyL_one (i:=24) (by kernel_rfl) rfl (fun K hK=>?_)
     go_simp
     refine hK.out _ _ (KX7.out _ BD4.out) (fun hHeld=>?_)
     clear hK K
     try simp only [Act.put,List.setIfInBounds_toArray,List.set_cons_zero,List.set_cons_succ]
     refine wpAnyL_one (i:=25) (by kernel_rfl) rfl (fun K hK=>?_)
     go_simp
     refine hK.out _ _ (KX7.out _ BD4.out) (fun hHeld=>?_)
     clear hK K
     try simp only [Act.put,List.setIfInBounds_toArray,List.set_cons_zero,List.set_cons_succ]
     refine wpAnyL_one (i:=26) (by kernel_rfl) rfl (fun K hK=>?_)
     go_simp
     refine (KP2.out Vd4 BD4.out).mono ?_
     rintro e Ve4 ⟨rfl,hd⟩
     have BE4:=Lib.hid (bel_in BD4.out (hd.below Vd4.heap.size))
     clear hd
     go_wp2_with fail
     refine hK.out _ _ (KX7.out _ BE4.out) (fun hHeld=>?_)
     clear hK K
     try simp only [Act.put,List.setIfInBounds_toArray,List.set_cons_zero,List.set_cons_succ]
     refine wpAnyL_one (i:=27) (by kernel_rfl) rfl (fun K hK=>?_)
     go_simp
     refine hK.out _ _ (KX7.out _ BE4.out) (fun hHeld=>?_)
     clear hK K
     try simp only [Act.put,List.setIfInBounds_toArray,List.set_cons_zero,List.set_cons_succ]
     refine wpAnyL_one (i:=28) (by kernel_rfl) rfl (fun K hK=>?_)
     go_simp
     refine hK.out _ _ (KX7.out _ BE4.out) (fun hHeld=>?_)
     clear hK K
     try simp only [Act.put,List.setIfInBounds_toArray,List.set_cons_zero,List.set_cons_succ]
     refine wpAnyL_last (by kernel_rfl) rfl (by kernel_rfl) (fun K hK=>?_)
     go_simp
     refine hK.out _ _ ?_
     clear hK K
     refine NoPanic.normal ?_
     go_wp2_with fail
     go_meet
     exact ⟨rfl,BE4.out⟩
    ·go_simp
     obtain ⟨Va4,hVa4⟩:∃X,X=Vc3.alloc (.cells #[.int .i64 0,.int .i64 1] 3):=⟨_,rfl⟩
     have hbx:Below Vc3.heap.size Vc3 Va4:=by rw [hVa4];exact (Below.refl _ _).alloc (Nat.le_refl _) _
     have BA4:=Lib.hid (bel_in BC3.out hbx)
     have hnw:Va4.heap[Vc3.heap.size]?=some (.cells #[.int .i64 0,.int .i64 1] 3):=by rw [hVa4];exact heap_alloc_new _ _
     have hlt:Vc3.heap.size < Va4.heap.size:=by rw [hVa4,World.size_alloc];exact Nat.lt_succ_self _
     have RY4:=Lib.hid (show rdInts Va4 (lt_ Va4.heap.size) [0,1] [.slice (some ⟨Vc3.heap.size,0,none⟩) [0,1].length [0,1].length] from rd_ints9 (l:=[0,1]) hnw rfl hlt (by decide))
     rw [←hVa4]
     clear hVa4 hnw hlt hbx
     refine hK.out _ _ (KX7.out _ BA4.out) (fun hHeld=>?_)
     clear hK K
     try simp only [Act.put,List.setIfInBounds_toArray,List.set_cons_zero,List.set_cons_succ]
     refine wpAnyL_one (i:=15) (by kernel_rfl) rfl (fun K hK=>?_)
     go_simp
     refine (KOf.out Va4 BA4.out).mono ?_
     rintro e Vb4 ⟨⟨Ae4,ce4,rfl,hre⟩,hb⟩
     have BB4:=Lib.hid (bel_in BA4.out hb)
     have RE4:=Lib.hid hre
     have RX4:=Lib.hid (rdInts_good.up (rdInts_good.below RY4.out hb) hb.size)
     clear hre hb
     go_wp2_with fail
     refine hK.out _ _ (KX7.out _ BB4.out) (fun hHeld=>?_)
     clear hK K
     try simp only [Act.put,List.setIfInBounds_toArray,List.set_cons_zero,List.set_cons_succ]
     have KS4:=Lib.hid (sameInts9_any Ae4 (some ⟨Vc3.heap.size,0,none⟩) _ ce4 _ _ [0,1] [0,1] Vb4 RE4.out RX4.out)
     rw [decide_eq_true rfl] at KS4
     refine wpAnyL_one (i:=17) (by kernel_rfl) rfl (fun K hK=>?_)
     go_simp
     refine KS4.out.mono ?_
     rintro e Vc4 ⟨rfl,hd⟩
     have BC4:=Lib.hid (bel_in BB4.out (hd.below Vb4.heap.size))
     clear hd
     go_wp2_with fail
     refine hK.out _ _ (KX7.out _ BC4.out) (fun hHeld=>?_)
     clear hK K
     try simp only [Act.put,List.setIfInBounds_toArray,List.set_cons_zero,List.set_cons_succ]
     refine wpAnyL_one (i:=18) (by kernel_rfl) rfl (fun K hK=>?_)
     go_simp
     refine hK.out _ _ (KX7.out _ BC4.out) (fun hHeld=>?_)
     clear hK K
     try simp only [Act.put,List.setIfInBounds_toArray,List.set_cons_zero,List.set_cons_succ]
     refine wpAnyL_one (i:=19) (by kernel_rfl) rfl (fun K hK=>?_)
     go_simp
     refine hK.out _ _ (KX7.out _ BC4.out) (fun hHeld=>?_)
     clear hK K
     try simp only [Act.put,List.setIfInBounds_toArray,List.set_cons_zero,List.set_cons_succ]
     refine wpAnyL_one (i:=20) (by kernel_rfl) rfl (fun K hK=>?_)
     go_simp
     refine hK.out _ _ (KX7.out _ BC4.out) (fun hHeld=>?_)
     clear hK K
     try simp only [Act.put,List.setIfInBounds_toArray,List.set_cons_zero,List.set_cons_succ]
     refine wpAnyL_one (i:=21) (by kernel_rfl) rfl (fun K hK=>?_)
     go_simp
     refine (KP1.out Vc4 BC4.out).mono ?_
     rintro e Vd4 ⟨rfl,hd⟩
     have BD4:=Lib.hid (bel_in BC4.out (hd.below Vc4.heap.size))
     clear hd
     go_wp2_with fail
     refine hK.out _ _ (KX7.out _ BD4.out) (fun hHeld=>?_)
     clear hK K
     try simp only [Act.put,List.setIfInBounds_toArray,List.set_cons_zero,List.set_cons_succ]
     refine wpAnyL_one (i:=22) (by kernel_rfl) rfl (fun K hK=>?_)
     go_simp
     refine hK.out _ _ (KX7.out _ BD4.out) (fun hHeld=>?_)
     clear hK K
     try simp only [Act.put,List.setIfInBounds_toArray,List.set_cons_zero,List.set_cons_succ]
     refine wpAnyL_one (i:=23) (by kernel_rfl) rfl (fun K hK=>?_)
     go_simp
     refine hK.out _ _ (KX7.out _ BD4.out) (fun hHeld=>?_)
     clear hK K
     try simp only [Act.put,List.setIfInBounds_toArray,List.set_cons_zero,List.set_cons_succ]
     refine wpAnyL_one (i:=24) (by kernel_rfl) rfl (fun K hK=>?_)
     go_simp
     refine hK.out _ _ (KX7.out _ BD4.out) (fun hHeld=>?_)
     clear hK K
     try simp only [Act.put,List.setIfInBounds_toArray,List.set_cons_zero,List.set_cons_succ]
     refine wpAnyL_one (i:=25) (by kernel_rfl) rfl (fun K hK=>?_)
     go_simp
     refine hK.out _ _ (KX7.out _ BD4.out) (fun hHeld=>?_)
     clear hK K
     try simp only [Act.put,List.setIfInBounds_toArray,List.set_cons_zero,List.set_cons_succ]
     refine wpAnyL_one (i:=26) (by kernel_rfl) rfl (fun K hK=>?_)
     go_simp
     refine (KP2.out Vd4 BD4.out).mono ?_
     rintro e Ve4 ⟨rfl,hd⟩
     have BE4:=Lib.hid (bel_in BD4.out (hd.below Vd4.heap.size))
     clear hd
     go_wp2_with fail
     refine hK.out _ _ (KX7.out _ BE4.out) (fun hHeld=>?_)
     clear hK K
     try simp only [Act.put,List.setIfInBounds_toArray,List.set_cons_zero,List.set_cons_succ]
     refine wpAnyL_one (i:=27) (by kernel_rfl) rfl (fun K hK=>?_)
     go_simp
     refine hK.out _ _ (KX7.out _ BE4.out) (fun hHeld=>?_)
     clear hK K
     try simp only [Act.put,List.setIfInBounds_toArray,List.set_cons_zero,List.set_cons_succ]
     refine wpAnyL_one (i:=28) (by kernel_rfl) rfl (fun K hK=>?_)
     go_simp
     refine hK.out _ _ (KX7.out _ BE4.out) (fun hHeld=>?_)
     clear hK K
     try simp only [Act.put,List.setIfInBounds_toArray,List.set_cons_zero,List.set_cons_succ]
     refine wpAnyL_last (by kernel_rfl) rfl (by kernel_rfl) (fun K hK=>?_)
     go_simp
     refine hK.out _ _ ?_
     clear hK K
     refine NoPanic.normal ?_
     go_wp2_with fail
     go_meet
     exact ⟨rfl,BE4.out⟩
   ·go_simp
    obtain ⟨Va3,hVa3⟩:∃X,X=Vc1.alloc (.cells #[.string { data:=#[97,98] },.string { data:=#[99,100] }] 9):=⟨_,rfl⟩
    have hbx:Below Vc1.heap.size Vc1 Va3:=by rw [hVa3];exact (Below.refl _ _).alloc (Nat.le_refl _) _
    have BA3:=Lib.hid (bel_in BC1.out hbx)
    have hnw:Va3.heap[Vc1.heap.size]?=some (.cells #[.string { data:=#[97,98] },.string { data:=#[99,100] }] 9):=by rw [hVa3];exact heap_alloc_new _ _
    have hlt:Vc1.heap.size < Va3.heap.size:=by rw [hVa3,World.size_alloc];exact Nat.lt_succ_self _
    have RY3:=Lib.hid (show rdNms Va3 (lt_ Va3.heap.size) [{ data:=#[97,98] },{ data:=#[99,100] }] [.slice (some ⟨Vc1.heap.size,0,none⟩) [{ data:=#[97,98] },{ data:=#[99,100] }].length [{ data:=#[97,98] },{ data:=#[99,100] }].length] from rd_nms9 (l:=[{ data:=#[97,98] },{ data:=#[99,100] }]) hnw rfl hlt (by decide))
    rw [←hVa3]
    clear hVa3 hnw hlt hbx
    refine hK.out _ _ (KX7.out _ BA3.out) (fun hHeld=>?_)
    clear hK K
    try simp only [Act.put,List.setIfInBounds_toArray,List.set_cons_zero,List.set_cons_succ]
    refine wpAnyL_one (i:=9) (by kernel_rfl) rfl (fun K hK=>?_)
    go_simp
    refine (KNam.out Va3 BA3.out).mono ?_
    rintro e Vb3 ⟨⟨Ae3,ce3,rfl,hre⟩,hb⟩
    have BB3:=Lib.hid (bel_in BA3.out hb)
    have RE3:=Lib.hid hre
    have RX3:=Lib.hid (rdNms_good.up (rdNms_good.below RY3.out hb) hb.size)
    clear hre hb
    go_wp2_with fail
    refine hK.out _ _ (KX7.out _ BB3.out) (fun hHeld=>?_)
    clear hK K
    try simp only [Act.put,List.setIfInBounds_toArray,List.set_cons_zero,List.set_cons_succ]
    have KS3:=Lib.hid (sameTexts9_any Ae3 (some ⟨Vc1.heap.size,0,none⟩) _ ce3 _ _ [{ data:=#[97,98] },{ data:=#[99,100] }] [{ data:=#[97,98] },{ data:=#[99,100] }] Vb3 RE3.out RX3.out)
    rw [decide_eq_true rfl] at KS3
    refine wpAnyL_one (i:=11) (by kernel_rfl) rfl (fun K hK=>?_)
    go_simp
    refine KS3.out.mono ?_
    rintro e Vc3 ⟨rfl,hd⟩
    have BC3:=Lib.hid (bel_in BB3.out (hd.below Vb3.heap.size))
    clear hd
    go_wp2_with fail
    refine hK.out _ _ (KX7.out _ BC3.out) (fun hHeld=>?_)
    clear hK K
    try simp only [Act.put,List.setIfInBounds_toArray,List.set_cons_zero,List.set_cons_succ]
    refine wpAnyL_one (i:=12) (by kernel_rfl) rfl (fun K hK=>?_)
    go_simp
    refine hK.out _ _ (KX7.out _ BC3.out) (fun hHeld=>?_)
    clear hK K
    try simp only [Act.put,List.setIfInBounds_toArray,List.set_cons_zero,List.set_cons_succ]
    refine wpAnyL_one (i:=13) (by kernel_rfl) rfl (fun K hK=>?_)
    go_simp
    refine hK.out _ _ (KX7.out _ BC3.out) (fun hHeld=>?_)
    clear hK K
    try simp only [Act.put,List.setIfInBounds_toArray,List.set_cons_zero,List.set_cons_succ]
    refine wpAnyL_take (i:=14) (v:=?_) [28,24,23,19,18,17,15] rfl (by kernel_rfl) (by kernel_rfl) (by kernel_rfl) (fun _ _ _ h=>h) (by kernel_rfl) (by kernel_rfl) (by kernel_rfl) (Or.inl ⟨by rfl,?_⟩) (by assumption) ?_
    rotate_left
    ·intro w hSw
     try dsimp only at hSw
     go_simp
     first|done|with_reducible rfl
    try simp only [Act.put,List.setIfInBounds_toArray,List.set_cons_zero,List.set_cons_succ]
    refine wpAnyL_two (i:=15) (k:=16) (by kernel_rfl) rfl rfl (fun K hK=>?_) (fun K hK=>?_)
    ·go_simp
     refine (KOf.out Vc3 BC3.out).mono ?_
     rintro e Va5 ⟨⟨Ae5,ce5,rfl,hre⟩,hb⟩
     have BA5:=Lib.hid (bel_in BC3.out hb)
     have RA5:=Lib.hid hre
     clear hre hb
     go_wp2_with fail
     refine hK.out _ _ (KX7.out _ BA5.out) (fun hHeld=>?_)
     clear hK K
     try simp only [Act.put,List.setIfInBounds_toArray,List.set_cons_zero,List.set_cons_succ]
     refine wpAnyL_one (i:=16) (by kernel_rfl) rfl (fun K hK=>?_)
     go_simp
     obtain ⟨Vb5,hVb5⟩:∃X,X=Va5.alloc (.cells #[.int .i64 0,.int .i64 1] 3):=⟨_,rfl⟩
     have hbx:Below Va5.heap.size Va5 Vb5:=by rw [hVb5];exact (Below.refl _ _).alloc (Nat.le_refl _) _
     have BB5:=Lib.hid (bel_in BA5.out hbx)
     have hnw:Vb5.heap[Va5.heap.size]?=some (.cells #[.int .i64 0,.int .i64 1] 3):=by rw [hVb5];exact heap_alloc_new _ _
     have hlt:Va5.heap.size < Vb5.heap.size:=by rw [hVb5,World.size_alloc];exact Nat.lt_succ_self _
     have RE5:=Lib.hid (show rdInts Vb5 (lt_ Vb5.heap.size) [0,1] [.slice Ae5 [0,1].length ce5] from rdInts_good.up (rdInts_good.below RA5.out hbx) hbx.size)
     have RX5:=Lib.hid (show rdInts Vb5 (lt_ Vb5.heap.size) [0,1] [.slice (some ⟨Va5.heap.size,0,none⟩) [0,1].length [0,1].length] from rd_ints9 (l:=[0,1]) hnw rfl hlt (by decide))
     rw [←hVb5]
     clear hVb5 hnw hlt hbx
     refine hK.out _ _ (KX7.out _ BB5.out) (fun hHeld=>?_)
     clear hK K
     try simp only [Act.put,List.setIfInBounds_toArray,List.set_cons_zero,List.set_cons_succ]
     have KS5:=Lib.hid (sameInts9_any Ae5 (some ⟨Va5.heap.size,0,none⟩) _ ce5 _ _ [0,1] [0,1] Vb5 RE5.out RX5.out)
     rw [decide_eq_true rfl] at KS5
     refine wpAnyL_one (i:=17) (by kernel_rfl) rfl (fun K hK=>?_)
     go_simp
     refine KS5.out.mono ?_
     rintro e Vc5 ⟨rfl,hd⟩
     have BC5:=Lib.hid (bel_in BB5.out (hd.below Vb5.heap.size))
     clear hd
     go_wp2_with fail
     refine hK.out _ _ (KX7.out _ BC5.out) (fun hHeld=>?_)
     clear hK K
     try simp only [Act.put,List.setIfInBounds_toArray,List.set_cons_zero,List.set_cons_succ]
     refine wpAnyL_one (i:=18) (by kernel_rfl) rfl (fun K hK=>?_)
     go_simp
     refine hK.out _ _ (KX7.out _ BC5.out) (fun hHeld=>?_)
     clear hK K
     try simp only [Act.put,List.setIfInBounds_toArray,List.set_cons_zero,List.set_cons_succ]
     refine wpAnyL_one (i:=19) (by kernel_rfl) rfl (fun K hK=>?_)
     go_simp
     refine hK.out _ _ (KX7.out _ BC5.out) (fun hHeld=>?_)
     clear hK K
     try simp only [Act.put,List.setIfInBounds_toArray,List.set_cons_zero,List.set_cons_succ]
     refine wpAnyL_one (i:=20) (by kernel_rfl) rfl (fun K hK=>?_)
     go_simp
     refine hK.out _ _ (KX7.out _ BC5.out) (fun hHeld=>?_)
     clear hK K
     try simp only [Act.put,List.setIfInBounds_toArray,List.set_cons_zero,List.set_cons_succ]
     refine wpAnyL_one (i:=21) (by kernel_rfl) rfl (fun K hK=>?_)
     go_simp
     refine (KP1.out Vc5 BC5.out).mono ?_
     rintro e Vd5 ⟨rfl,hd⟩
     have BD5:=Lib.hid (bel_in BC5.out (hd.below Vc5.heap.size))
     clear hd
     go_wp2_with fail
     refine hK.out _ _ (KX7.out _ BD5.out) (fun hHeld=>?_)
     clear hK K
     try simp only [Act.put,List.setIfInBounds_toArray,List.set_cons_zero,List.set_cons_succ]
     refine wpAnyL_one (i:=22) (by kernel_rfl) rfl (fun K hK=>?_)
     go_simp
     refine hK.out _ _ (KX7.out _ BD5.out) (fun hHeld=>?_)
     clear hK K
     try simp only [Act.put,List.setIfInBounds_toArray,List.set_cons_zero,List.set_cons_succ]
     refine wpAnyL_one (i:=23) (by kernel_rfl) rfl (fun K hK=>?_)
     go_simp
     refine hK.out _ _ (KX7.out _ BD5.out) (fun hHeld=>?_)
     clear hK K
     try simp only [Act.put,List.setIfInBounds_toArray,List.set_cons_zero,List.set_cons_succ]
     refine wpAnyL_one (i:=24) (by kernel_rfl) rfl (fun K hK=>?_)
     go_simp
     refine hK.out _ _ (KX7.out _ BD5.out) (fun hHeld=>?_)
     clear hK K
     try simp only [Act.put,List.setIfInBounds_toArray,List.set_cons_zero,List.set_cons_succ]
     refine wpAnyL_one (i:=25) (by kernel_rfl) rfl (fun K hK=>?_)
     go_simp
     refine hK.out _ _ (KX7.out _ BD5.out) (fun hHeld=>?_)
     clear hK K
     try simp only [Act.put,List.setIfInBounds_toArray,List.set_cons_zero,List.set_cons_succ]
     refine wpAnyL_one (i:=26) (by kernel_rfl) rfl (fun K hK=>?_)
     go_simp
     refine (KP2.out Vd5 BD5.out).mono ?_
     rintro e Ve5 ⟨rfl,hd⟩
     have BE5:=Lib.hid (bel_in BD5.out (hd.below Vd5.heap.size))
     clear hd
     go_wp2_with fail
     refine hK.out _ _ (KX7.out _ BE5.out) (fun hHeld=>?_)
     clear hK K
     try simp only [Act.put,List.setIfInBounds_toArray,List.set_cons_zero,List.set_cons_succ]
     refine wpAnyL_one (i:=27) (by kernel_rfl) rfl (fun K hK=>?_)
     go_simp
     refine hK.out _ _ (KX7.out _ BE5.out) (fun hHeld=>?_)
     clear hK K
     try simp only [Act.put,List.setIfInBounds_toArray,List.set_cons_zero,List.set_cons_succ]
     refine wpAnyL_one (i:=28) (by kernel_rfl) rfl (fun K hK=>?_)
     go_simp
     refine hK.out _ _ (KX7.out _ BE5.out) (fun hHeld=>?_)
     clear hK K
     try simp only [Act.put,List.setIfInBounds_toArray,List.set_cons_zero,List.set_cons_succ]
     refine wpAnyL_last (by kernel_rfl) rfl (by kernel_rfl) (fun K hK=>?_)
     go_simp
     refine hK.out _ _ ?_
     clear hK K
     refine NoPanic.normal ?_
     go_wp2_with fail
     go_meet
     exact ⟨rfl,BE5.out⟩
    ·go_simp
     obtain ⟨Va5,hVa5⟩:∃X,X=Vc3.alloc (.cells #[.int .i64 0,.int .i64 1] 3):=⟨_,rfl⟩
     have hbx:Below Vc3.heap.size Vc3 Va5:=by rw [hVa5];exact (Below.refl _ _).alloc (Nat.le_refl _) _
     have BA5:=Lib.hid (bel_in BC3.out hbx)
     have hnw:Va5.heap[Vc3.heap.size]?=some (.cells #[.int .i64 0,.int .i64 1] 3):=by rw [hVa5];exact heap_alloc_new _ _
     have hlt:Vc3.heap.size < Va5.heap.size:=by rw [hVa5,World.size_alloc];exact Nat.lt_succ_self _
     have RY5:=Lib.hid (show rdInts Va5 (lt_ Va5.heap.size) [0,1] [.slice (some ⟨Vc3.heap.size,0,none⟩) [0,1].length [0,1].length] from rd_ints9 (l:=[0,1]) hnw rfl hlt (by decide))
     rw [←hVa5]
     clear hVa5 hnw hlt hbx
     refine hK.out _ _ (KX7.out _ BA5.out) (fun hHeld=>?_)
     clear hK K
     try simp only [Act.put,List.setIfInBounds_toArray,List.set_cons_zero,List.set_cons_succ]
     refine wpAnyL_one (i:=15) (by kernel_rfl) rfl (fun K hK=>?_)
     go_simp
     refine (KOf.out Va5 BA5.out).mono ?_
     rintro e Vb5 ⟨⟨Ae5,ce5,rfl,hre⟩,hb⟩
     have BB5:=Lib.hid (bel_in BA5.out hb)
     have RE5:=Lib.hid hre
     have RX5:=Lib.hid (rdInts_good.up (rdInts_good.below RY5.out hb) hb.size)
     clear hre hb
     go_wp2_with fail
     refine hK.out _ _ (KX7.out _ BB5.out) (fun hHeld=>?_)
     clear hK K
     try simp only [Act.put,List.setIfInBounds_toArray,List.set_cons_zero,List.set_cons_succ]
     have KS5:=Lib.hid (sameInts9_any Ae5 (some ⟨Vc3.heap.size,0,none⟩) _ ce5 _ _ [0,1] [0,1] Vb5 RE5.out RX5.out)
     rw [decide_eq_true rfl] at KS5
     refine wpAnyL_one (i:=17) (by kernel_rfl) rfl (fun K hK=>?_)
     go_simp
     refine KS5.out.mono ?_
     rintro e Vc5 ⟨rfl,hd⟩
     have BC5:=Lib.hid (bel_in BB5.out (hd.below Vb5.heap.size))
     clear hd
     go_wp2_with fail
     refine hK.out _ _ (KX7.out _ BC5.out) (fun hHeld=>?_)
     clear hK K
     try simp only [Act.put,List.setIfInBounds_toArray,List.set_cons_zero,List.set_cons_succ]
     refine wpAnyL_one (i:=18) (by kernel_rfl) rfl (fun K hK=>?_)
     go_simp
     refine hK.out _ _ (KX7.out _ BC5.out) (fun hHeld=>?_)
     clear hK K
     try simp only [Act.put,List.setIfInBounds_toArray,List.set_cons_zero,List.set_cons_succ]
     refine wpAnyL_one (i:=19) (by kernel_rfl) rfl (fun K hK=>?_)
     go_simp
     refine hK.out _ _ (KX7.out _ BC5.out) (fun hHeld=>?_)
     clear hK K
     try simp only [Act.put,List.setIfInBounds_toArray,List.set_cons_zero,List.set_cons_succ]
     refine wpAnyL_one (i:=20) (by kernel_rfl) rfl (fun K hK=>?_)
     go_simp
     refine hK.out _ _ (KX7.out _ BC5.out) (fun hHeld=>?_)
     clear hK K
     try simp only [Act.put,List.setIfInBounds_toArray,List.set_cons_zero,List.set_cons_succ]
     refine wpAnyL_one (i:=21) (by kernel_rfl) rfl (fun K hK=>?_)
     go_simp
     refine (KP1.out Vc5 BC5.out).mono ?_
     rintro e Vd5 ⟨rfl,hd⟩
     have BD5:=Lib.hid (bel_in BC5.out (hd.below Vc5.heap.size))
     clear hd
     go_wp2_with fail
     refine hK.out _ _ (KX7.out _ BD5.out) (fun hHeld=>?_)
     clear hK K
     try simp only [Act.put,List.setIfInBounds_toArray,List.set_cons_zero,List.set_cons_succ]
     refine wpAnyL_one (i:=22) (by kernel_rfl) rfl (fun K hK=>?_)
     go_simp
     refine hK.out _ _ (KX7.out _ BD5.out) (fun hHeld=>?_)
     clear hK K
     try simp only [Act.put,List.setIfInBounds_toArray,List.set_cons_zero,List.set_cons_succ]
     refine wpAnyL_one (i:=23) (by kernel_rfl) rfl (fun K hK=>?_)
     go_simp
     refine hK.out _ _ (KX7.out _ BD5.out) (fun hHeld=>?_)
     clear hK K
     try simp only [Act.put,List.setIfInBounds_toArray,List.set_cons_zero,List.set_cons_succ]
     refine wpAnyL_one (i:=24) (by kernel_rfl) rfl (fun K hK=>?_)
     go_simp
     refine hK.out _ _ (KX7.out _ BD5.out) (fun hHeld=>?_)
     clear hK K
     try simp only [Act.put,List.setIfInBounds_toArray,List.set_cons_zero,List.set_cons_succ]
     refine wpAnyL_one (i:=25) (by kernel_rfl) rfl (fun K hK=>?_)
     go_simp
     refine hK.out _ _ (KX7.out _ BD5.out) (fun hHeld=>?_)
     clear hK K
     try simp only [Act.put,List.setIfInBounds_toArray,List.set_cons_zero,List.set_cons_succ]
     refine wpAnyL_one (i:=26) (by kernel_rfl) rfl (fun K hK=>?_)
     go_simp
     refine (KP2.out Vd5 BD5.out).mono ?_
     rintro e Ve5 ⟨rfl,hd⟩
     have BE5:=Lib.hid (bel_in BD5.out (hd.below Vd5.heap.size))
     clear hd
     go_wp2_with fail
     refine hK.out _ _ (KX7.out _ BE5.out) (fun hHeld=>?_)
     clear hK K
     try simp only [Act.put,List.setIfInBounds_toArray,List.set_cons_zero,List.set_cons_succ]
     refine wpAnyL_one (i:=27) (by kernel_rfl) rfl (fun K hK=>?_)
     go_simp
     refine hK.out _ _ (KX7.out _ BE5.out) (fun hHeld=>?_)
     clear hK K
     try simp only [Act.put,List.setIfInBounds_toArray,List.set_cons_zero,List.set_cons_succ]
     refine wpAnyL_one (i:=28) (by kernel_rfl) rfl (fun K hK=>?_)
     go_simp
     refine hK.out _ _ (KX7.out _ BE5.out) (fun hHeld=>?_)
     clear hK K
     try simp only [Act.put,List.setIfInBounds_toArray,List.set_cons_zero,List.set_cons_succ]
     refine wpAnyL_last (by kernel_rfl) rfl (by kernel_rfl) (fun K hK=>?_)
     go_simp
     refine hK.out _ _ ?_
     clear hK K
     refine NoPanic.normal ?_
     go_wp2_with fail
     go_meet
     exact ⟨rfl,BE5.out⟩
 case rest=>
  obtain ⟨rfl,hb⟩:=hcut
  obtain ⟨w8,rfl⟩:∃W:World,W=wc:=⟨_,rfl⟩
  have B8:=Lib.hid hb
  clear hb KEnt KNam KOf KP1 KP2 KX7
  go_wp2_with fail
  refine (KG1.out w8 B8.out).mono ?_
  rintro e Wax ⟨⟨Ahx,chx,rfl,hre⟩,hb⟩
  have Cx:=Lib.hid (bel_in B8.out hb)
  obtain ⟨Wbx,hWbx⟩:∃X,X=Wax.alloc (.cells #[.int .i64 2] 3):=⟨_,rfl⟩
  have hbx:Below Wax.heap.size Wax Wbx:=by rw [hWbx];exact (Below.refl _ _).alloc (Nat.le_refl _) _
  have hnw:Wbx.heap[Wax.heap.size]?=some (.cells #[.int .i64 2] 3):=by rw [hWbx];exact heap_alloc_new _ _
  have hlt:Wax.heap.size < Wbx.heap.size:=by rw [hWbx,World.size_alloc];exact Nat.lt_succ_self _
  have Dx:=Lib.hid (bel_in Cx.out hbx)
  have KSx:=Lib.hid (sameInts9_any Ahx (some ⟨Wax.heap.size,0,none⟩) _ chx _ _ [2] [2] Wbx (rdInts_good.up (rdInts_good.below hre hbx) hbx.size) (rd_ints9 (l:=[2]) hnw rfl hlt (by decide)))
  rw [decide_eq_true rfl] at KSx
  clear hb hre hbx hnw hlt
  go_wp2_with fail
  rw [←hWbx]
  clear hWbx
  refine KSx.out.mono ?_
  rintro e Wcx ⟨rfl,hd⟩
  have Ex:=Lib.hid (bel_in Dx.out (hd.below Wbx.heap.size))
  clear hd
  go_wp2_with fail
  refine (KG2.out Wcx Ex.out).mono ?_
  rintro e Way ⟨⟨Ahy,chy,rfl,hre⟩,hb⟩
  have Cy:=Lib.hid (bel_in Ex.out hb)
  obtain ⟨Wby,hWby⟩:∃X,X=Way.alloc (.cells #[.int .i64 1] 3):=⟨_,rfl⟩
  have hbx:Below Way.heap.size Way Wby:=by rw [hWby];exact (Below.refl _ _).alloc (Nat.le_refl _) _
  have hnw:Wby.heap[Way.heap.size]?=some (.cells #[.int .i64 1] 3):=by rw [hWby];exact heap_alloc_new _ _
  have hlt:Way.heap.size < Wby.heap.size:=by rw [hWby,World.size_alloc];exact Nat.lt_succ_self _
  have Dy:=Lib.hid (bel_in Cy.out hbx)
  have KSy:=Lib.hid (sameInts9_any Ahy (some ⟨Way.heap.size,0,none⟩) _ chy _ _ [1] [1] Wby (rdInts_good.up (rdInts_good.below hre hbx) hbx.size) (rd_ints9 (l:=[1]) hnw rfl hlt (by decide)))
  rw [decide_eq_true rfl] at KSy
  clear hb hre hbx hnw hlt
  go_wp2_with fail
  rw [←hWby]
  clear hWby
  refine KSy.out.mono ?_
  rintro e Wcy ⟨rfl,hd⟩
  have Ey:=Lib.hid (bel_in Dy.out (hd.below Wby.heap.size))
  clear hd
  go_wp2_with fail
  refine (KIn.out Wcy Ey.out).mono ?_
  rintro e Waz ⟨⟨Ahz,chz,rfl,hre⟩,hb⟩
  have Cz:=Lib.hid (bel_in Ey.out hb)
  obtain ⟨Wbz,hWbz⟩:∃X,X=Waz.alloc (.cells #[.int .i64 0] 3):=⟨_,rfl⟩
  have hbx:Below Waz.heap.size Waz Wbz:=by rw [hWbz];exact (Below.refl _ _).alloc (Nat.le_refl _) _
  have hnw:Wbz.heap[Waz.heap.size]?=some (.cells #[.int .i64 0] 3):=by rw [hWbz];exact heap_alloc_new _ _
  have hlt:Waz.heap.size < Wbz.heap.size:=by rw [hWbz,World.size_alloc];exact Nat.lt_succ_self _
  have Dz:=Lib.hid (bel_in Cz.out hbx)
  have KSz:=Lib.hid (sameInts9_any Ahz (some ⟨Waz.heap.size,0,none⟩) _ chz _ _ [0] [0] Wbz (rdInts_good.up (rdInts_good.below hre hbx) hbx.size) (rd_ints9 (l:=[0]) hnw rfl hlt (by decide)))
  rw [decide_eq_true rfl] at KSz
  clear hb hre hbx hnw hlt
  go_wp2_with fail
  rw [←hWbz]
  clear hWbz
  refine KSz.out.mono ?_
  rintro e Wcz ⟨rfl,hd⟩
  have Ez:=Lib.hid (bel_in Dz.out (hd.below Wbz.heap.size))
  clear hd
  go_wp2
  go_ret
  exact ⟨rfl,bel_in B7.out Ez.out⟩
end Go.Proofs.YtoopkofekekmoaaGreatDoor
