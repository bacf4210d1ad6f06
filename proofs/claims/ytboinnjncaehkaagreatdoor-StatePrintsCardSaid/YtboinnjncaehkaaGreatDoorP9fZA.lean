/- What the laws rest on: P9f. -/
import Derived.Laws.IdiomCopy
import Derived.Shelf.Spec.SlicesInsertGrow
import Derived.Test.YtboinnjncaehkaaGreatDoorQBTZA
set_option maxRecDepth 100000
set_option linter.unusedVariables false
set_option linter.unusedSimpArgs false
namespace Go.Proofs.YtboinnjncaehkaaGreatDoor
open Go.RowKit
structure Con7b (Ev:World→Prop) (RD:List Fd→Int × Ent):Prop where
 below:∀{w w':World},Ev w→Below w.heap.size w w'→Ev w'
 wo:∀(A:Option Addr) (n c:Nat) (l:List Hr) (nm:ByteArray) (w:World),rdHrs w (lt_ w.heap.size) l [.slice A n c]→Ev w→l.length≤200→Calls Tryz.prog 25 #[.slice A n c,.string nm] w (LsW w (woH l nm))
 mark:∀(A:Option Addr) (n c:Nat) (l:List Hr) (nm:ByteArray) (a h:Bool) (w:World),rdHrs w (lt_ w.heap.size) l [.slice A n c]→Ev w→l.length≤200→Calls Tryz.prog 20 #[.slice A n c,.string nm,.bool a,.bool h] w (MkW w (mkL nm a h l) (mkE nm a h l))
 turned:∀(A:Option Addr) (n c:Nat) (l:List Hr) (A':Option Addr) (n' c':Nat) (m:List Hr) (w:World),rdHrs w (lt_ w.heap.size) l [.slice A n c]→rdHrs w (lt_ w.heap.size) m [.slice A' n' c']→Ev w→l.length≤90→m.length≤90→Calls Tryz.prog 28 #[.slice A n c,.slice A' n' c'] w (NmW w (tuH l m))
 parse:∀(s:ByteArray) (w:World),Ev w→Calls Tryz.prog 10 #[.string s] w (PaR w (paD RD (B s)))
set_option maxHeartbeats 16000000 in
theorem shown7b_any {Ev:World→Prop} {RD:List Fd→Int × Ent} (C:Con7b Ev RD) (X1:paD RD (B { data:=#[80,97,99,107,97,103,101,58,32,99,100,10,86,101,114,115,105,111,110,58,32,49,10,65,117,116,111,58,32,121,101,115,10,10,80,97,99,107,97,103,101,58,32,97,98,10,86,101,114,115,105,111,110,58,32,50,10] })=(exL,0,0)) (X2:paD RD (B { data:=#[80,97,99,107,97,103,101,58,32,99,100,10,86,101,114,115,105,111,110,58,32,49,10,65,117,116,111,58,32,109,97,121,98,101] })=([],1,5)) (w:World) (E:Ev w) :
  Calls Tryz.prog 9 #[] w fun e w'=>e=.returned (.bool true)∧Below w.heap.size w w':=by
 have HC:=Lib.hid C
 have HE:=Lib.hid E
 have K1:=Lib.hid (by have:=C.parse { data:=#[80,97,99,107,97,103,101,58,32,99,100,10,86,101,114,115,105,111,110,58,32,49,10,65,117,116,111,58,32,121,101,115,10,10,80,97,99,107,97,103,101,58,32,97,98,10,86,101,114,115,105,111,110,58,32,50,10] } w E;rw [X1] at this;exact this)
 have K2:=Lib.hid (fun (W:World) (hb:Below w.heap.size w W)=>(by have:=C.parse { data:=#[80,97,99,107,97,103,101,58,32,99,100,10,86,101,114,115,105,111,110,58,32,49,10,65,117,116,111,58,32,109,97,121,98,101] } W (C.below E hb);rw [X2] at this;exact this:Calls Tryz.prog 10 #[.string { data:=#[80,97,99,107,97,103,101,58,32,99,100,10,86,101,114,115,105,111,110,58,32,49,10,65,117,116,111,58,32,109,97,121,98,101] }] W (PaR W ([],1,5))))
 clear C E X1 X2
 go_enter Tryz.func9,Tryz.ntmps9
 go_wp2_with fail
 refine K1.out.mono ?_
 rintro e w1 ⟨⟨A,n,c,rfl,hr⟩,hb⟩
 have B1:=Lib.hid hb
 have H1:=Lib.hid hr
 clear hb hr K1
 go_wp2_with fail
 refine (K2.out w1 B1.out).mono ?_
 rintro e w2 ⟨⟨A',n',c',rfl,-⟩,hb⟩
 have V2:=Lib.hid hb
 have B2:=Lib.hid (bel_in B1.out hb)
 have H2:=Lib.hid (rdHrs_good.up (rdHrs_good.below H1.out hb) hb.size)
 clear hb K2
 have K3:=Lib.hid (by have:=HC.out.mark A n c exL { data:=#[101,102] } true true w2 H2.out (HC.out.below HE.out B2.out) (by decide);rw [ex7_mk] at this;exact this)
 go_wp2_with fail
 refine K3.out.mono ?_
 rintro e w3 ⟨⟨A3,n3,c3,rfl,-⟩,hb⟩
 have B3:=Lib.hid (bel_in B2.out hb)
 have H3:=Lib.hid (rdHrs_good.up (rdHrs_good.below H2.out hb) hb.size)
 clear hb K3
 obtain ⟨w4,hw4⟩:∃W,W=w3.alloc (.cells #[.string { data:=#[97,98] },.string { data:=#[50] },.slice none 0 0,.slice none 0 0,.slice none 0 0,.slice none 0 0,.bool false,.bool false,.string { data:=#[99,100] },.string { data:=#[49] },.slice none 0 0,.slice none 0 0,.slice none 0 0,.slice none 0 0,.bool true,.bool false] 36):=⟨_,rfl⟩
 have hb4:Below w3.heap.size w3 w4:=by rw [hw4];exact (Below.refl _ _).alloc (Nat.le_refl _) _
 have B4:=Lib.hid (bel_in B3.out hb4)
 have H4:=Lib.hid (rdHrs_good.up (rdHrs_good.below H3.out hb4) hb4.size)
 have HX:=Lib.hid (show rdHrs w4 (lt_ w4.heap.size) exL [.slice (some ⟨w3.heap.size,0,none⟩) 2 2] by rw [hw4];exact rd_exL w3 _ (by unfold lt_;rw [World.size_alloc];omega))
 have K4:=Lib.hid (by have:=sameAll7_any A (some ⟨w3.heap.size,0,none⟩) n c 2 2 exL exL w4 H4.out HX.out;rw [decide_eq_true rfl] at this;exact this)
 have SX:=Lib.hid hw4
 clear hb4 hw4
 go_wp2_with fail
 rw [←SX.out]
 clear SX
 refine K4.out.mono ?_
 rintro e w5 ⟨rfl,hb⟩
 have B5:=Lib.hid (bel_in B4.out hb)
 have H5:=Lib.hid (rdHrs_good.up (rdHrs_good.below H4.out hb) hb.size)
 clear hb K4
 have K5:=Lib.hid (HC.out.wo A n c exL { data:=#[97,98] } w5 H5.out (HC.out.below HE.out B5.out) (by decide))
 go_wp2_with fail
 refine K5.out.mono ?_
 rintro e w6 ⟨⟨A6,n6,c6,rfl,hr6⟩,hb⟩
 have B6:=Lib.hid (bel_in B5.out hb)
 have H6:=Lib.hid (rdHrs_good.up (rdHrs_good.below H5.out hb) hb.size)
 have K6:=Lib.hid (by have:=HC.out.turned A n c exL A6 n6 c6 _ w6 H6.out hr6 (HC.out.below HE.out B6.out) (by decide) (by decide);rw [ex7_tu] at this;exact this)
 clear hb hr6 K5
 go_wp2_with fail
 refine K6.out.mono ?_
 rintro e w7 ⟨⟨A7,n7,c7,rfl,hr7⟩,hb⟩
 have B7:=Lib.hid (bel_in B6.out hb)
 have H7:=Lib.hid hr7
 clear hb hr7 K6
 obtain ⟨w8,hw8⟩:∃W,W=w7.alloc (.cells #[.string { data:=#[97,98] }] 9):=⟨_,rfl⟩
 have hb8:Below w7.heap.size w7 w8:=by rw [hw8];exact (Below.refl _ _).alloc (Nat.le_refl _) _
 have B8:=Lib.hid (bel_in B7.out hb8)
 have HY:=Lib.hid (show rdNms w8 (lt_ w8.heap.size) [{ data:=#[97,98] }] [.slice (some ⟨w7.heap.size,0,none⟩) 1 1] by rw [hw8];exact rd_ab w7 _ (by unfold lt_;rw [World.size_alloc];omega))
 have K8:=Lib.hid (by have:=sameTexts7_any A7 (some ⟨w7.heap.size,0,none⟩) n7 c7 1 1 _ _ w8 (rdNms_good.up (rdNms_good.below H7.out hb8) hb8.size) HY.out;rw [decide_eq_true rfl] at this;exact this)
 have SY:=Lib.hid hw8
 clear hb8 hw8
 go_wp2_with fail
 rw [←SY.out]
 clear SY
 refine K8.out.mono ?_
 rintro e w9 ⟨rfl,hdr⟩
 go_wp2
 go_ret
 exact ⟨rfl,bel_in B8.out (hdr.below _)⟩
theorem con7b:Con7b EnvR rdP where
 below:=fun E h=>E.below h
 wo:=fun A n c l nm w h _ hl=>(without7_any A n c l nm w h hl).mono fun e w' ⟨⟨v,he,hG⟩,hb⟩=>by
  obtain ⟨A',c',hv,-,-⟩:=hG.own
  have hr:=hG.read rdHr_good
  rw [hv] at hr
  exact ⟨⟨_,_,_,by rw [he,hv],hr⟩,hb⟩
 mark:=fun A n c l nm a hh w h _ hl=>mark7_any A n c l nm a hh w h hl
 turned:=fun A n c l A' n' c' m w h h' _ hl hm=>turned7_any A n c l A' n' c' m w h h' (by omega) (by omega)
 parse:=fun s w E=>parse7_any s w E
theorem ex7b_1:paD rdP (B { data:=#[80,97,99,107,97,103,101,58,32,99,100,10,86,101,114,115,105,111,110,58,32,49,10,65,117,116,111,58,32,121,101,115,10,10,80,97,99,107,97,103,101,58,32,97,98,10,86,101,114,115,105,111,110,58,32,50,10] })=(exL,0,0):=by kernel_rfl
theorem ex7b_2:paD rdP (B { data:=#[80,97,99,107,97,103,101,58,32,99,100,10,86,101,114,115,105,111,110,58,32,49,10,65,117,116,111,58,32,109,97,121,98,101] })=([],1,5):=by kernel_rfl
theorem shown7b (w:World) (E:EnvR w):Calls Tryz.prog 9 #[] w fun e w'=>e=.returned (.bool true)∧Below w.heap.size w w':=shown7b_any con7b ex7b_1 ex7b_2 w E
end Go.Proofs.YtboinnjncaehkaaGreatDoor
