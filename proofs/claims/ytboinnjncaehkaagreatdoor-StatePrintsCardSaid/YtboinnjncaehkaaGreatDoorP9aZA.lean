/- What the laws rest on: P9a. -/
import Derived.Test.YtboinnjncaehkaaGreatDoorP9fZA
import Derived.Test.YtboinnjncaehkaaGreatDoorQAOZA
import Derived.Test.YtboinnjncaehkaaGreatDoorQBVZA
import Derived.Test.YtboinnjncaehkaaGreatDoorQBXZA
set_option maxRecDepth 100000
set_option linter.unusedVariables false
set_option linter.unusedSimpArgs false
namespace Go.Proofs.YtboinnjncaehkaaGreatDoor
open Go.RowKit
theorem mrk_of9 {b:Bool} {n:ByteArray} {f:Fd} (h:f ∈ mrk b n):f.n=n∧f.v=yes7:=by
 unfold mrk at h
 split at h
 ·rw [List.mem_singleton.1 h];exact ⟨rfl,rfl⟩
 ·cases h
theorem mrk_len9 (b:Bool) (n:ByteArray):(mrk b n).length≤1:=by
 unfold mrk;split<;>simp
theorem sml_st {l:List Hr} (h:∀x ∈ l,Sm x.e) (h64:l.length≤64):Sml (l.map stH):=by
 refine ⟨by rw [List.length_map];omega,fun st hst=>?_⟩
 obtain ⟨x,hx,rfl⟩:=List.mem_map.1 hst
 obtain ⟨_,_,hn,hv,_⟩:=h x hx
 have h6:=wrE_len6 x.e
 have m1:=mrk_len9 x.a nAu
 have m2:=mrk_len9 x.h nHo
 refine ⟨by unfold stH;rw [List.length_append,List.length_append];omega,fun f hf=>?_⟩
 unfold stH at hf
 rcases List.mem_append.1 hf with hf|hf
 ·exact ⟨Nat.le_trans (wrE_names x.e f hf) (by decide),wrE_vals (by omega) (by omega) f hf⟩
 ·rcases List.mem_append.1 hf with hf|hf
  ·rw [(mrk_of9 hf).1,(mrk_of9 hf).2];exact ⟨by decide,by decide⟩
  ·rw [(mrk_of9 hf).1,(mrk_of9 hf).2];exact ⟨by decide,by decide⟩
theorem prH_doc {l:List Hr} (h:∀x ∈ l,Sm x.e):prH prP l=prH prD l:=by
 unfold prH
 by_cases hc:rightH l=true
 ·rw [if_pos hc,if_pos hc]
  unfold prP prD
  rw [okP_eq (L:=l.map stH) fun st hst f hf=>((sml_st h ((rightH_iff l).1 hc).2.2).2 st hst).2 f hf|>.2]
 ·rw [if_neg hc,if_neg hc]
set_option maxHeartbeats 16000000 in
theorem walk7c_prints {Ev:World→Prop} {PR:List (List Fd)→ByteArray} (BL:∀{w w':World},Ev w→Below w.heap.size w w'→Ev w') (CR:∀(A:Option Addr) (n c:Nat) (l:List Hr) (w:World),rdHrs w (lt_ w.heap.size) l [.slice A n c]→Ev w→Calls Tryz.prog 14 #[.slice A n c] w fun e w'=>e=.returned (.bool (rightH l))∧Below w.heap.size w w') (CP:∀(A:Option Addr) (n c:Nat) (l:List Hr) (w:World),rdHrs w (lt_ w.heap.size) l [.slice A n c]→Ev w→Calls Tryz.prog 16 #[.slice A n c] w fun e w'=>e=.returned (.string (prH PR l))∧Below w.heap.size w w') (SH:∀w,Ev w→Calls Tryz.prog 9 #[] w fun e w'=>e=.returned (.bool true)∧Below w.heap.size w w') {PD:List (List Fd)→ByteArray}
  (DR:∀(A:Option Addr) (n c:Nat) (l:List Hr) (w:World),rdHrs w (lt_ w.heap.size) l [.slice A n c]→Fw7 l→Calls Tryz.prog 15 #[.slice A n c] w fun e w'=>e=.returned (.bool (rightH l))∧Below w.heap.size w w')
  (DP:∀(A:Option Addr) (n c:Nat) (l:List Hr) (w:World),rdHrs w (lt_ w.heap.size) l [.slice A n c]→Fw7 l→Calls Tryz.prog 17 #[.slice A n c] w fun e w'=>e=.returned (.string (prH PD l))∧Below w.heap.size w w')
  (HP:∀l,Fw7 l→prH PR l=prH PD l) (A:Option Addr) (n c:Nat) (l:List Hr) (w:World) (h:rdHrs w (lt_ w.heap.size) l [.slice A n c]) (E:Ev w) :
  Calls Tryz.prog 4 #[.slice A n c] w fun e w'=>e=.returned (.bool true)∧Below w.heap.size w w':=by
 have HR:=Lib.hid (fun (W:World) (hb:Below w.heap.size w W)=>rdHrs_good.up (rdHrs_good.below h hb) hb.size)
 have HE:=Lib.hid (fun (W:World) (hb:Below w.heap.size w W)=>BL E hb)
 have S:=Lib.hid (SH w E)
 have K0:=Lib.hid (fun (W:World) (hb:Below w.heap.size w W)=>small7_any A n c l W (HR.out W hb))
 have K1:=Lib.hid (fun (W:World) (hb:Below w.heap.size w W)=>CR A n c l W (HR.out W hb) (HE.out W hb))
 have K2:=Lib.hid (fun (hs:Fw7 l) (W:World) (hb:Below w.heap.size w W)=>DR A n c l W (HR.out W hb) hs)
 have K3:=Lib.hid (fun (hs:Fw7 l) (W:World) (hb:Below w.heap.size w W)=>by have:=CP A n c l W (HR.out W hb) (HE.out W hb);rw [HP l hs] at this;exact this)
 have K4:=Lib.hid (fun (hs:Fw7 l) (W:World) (hb:Below w.heap.size w W)=>DP A n c l W (HR.out W hb) hs)
 clear BL CR CP SH DR DP HP h E
 generalize prH PD l=T at *
 generalize rightH l=R at *
 generalize Fw7 l=S1 at *
 have hbb:(R==R)=true:=by cases R<;>rfl
 have hst:(T.toList==T.toList)=true:=by rw [str_eq];exact decide_eq_true rfl
 go_enter Tryz.func4,Tryz.ntmps4
 go_wp2_with fail
 refine S.out.mono ?_
 rintro e w1 ⟨rfl,hb⟩
 have B1:=Lib.hid hb
 clear hb S
 go_wp2_with fail
 refine (K0.out _ B1.out).mono ?_
 rintro e w2 ⟨⟨b1,rfl,hs⟩,hb⟩
 have B2:=Lib.hid (bel_in B1.out hb)
 clear hb
 cases b1
 ·go_wp2
  go_ret
  exact ⟨rfl,B2.out⟩
 have HS:=Lib.hid (hs rfl)
 clear hs
 go_wp2_with fail
 refine (K1.out _ B2.out).mono ?_
 rintro e w3 ⟨rfl,hb⟩
 have B3:=Lib.hid (bel_in B2.out hb)
 clear hb
 go_wp2_with fail
 refine (K2.out HS.out _ B3.out).mono ?_
 rintro e w4 ⟨rfl,hb⟩
 have B4:=Lib.hid (bel_in B3.out hb)
 clear hb
 go_wp2_with fail
 refine (K3.out HS.out _ B4.out).mono ?_
 rintro e w5 ⟨rfl,hb⟩
 have B5:=Lib.hid (bel_in B4.out hb)
 clear hb
 go_wp2_with fail
 refine (K4.out HS.out _ B5.out).mono ?_
 rintro e w6 ⟨rfl,hb⟩
 have B6:=Lib.hid (bel_in B5.out hb)
 clear hb
 go_wp2
 go_ret
 exact ⟨rfl,B6.out⟩
theorem prints7 (A:Option Addr) (n c:Nat) (l:List Hr) (w:World) (h:rdHrs w (lt_ w.heap.size) l [.slice A n c]) (E:EnvR w) :
  Calls Tryz.prog 4 #[.slice A n c] w fun e w'=>e=.returned (.bool true)∧Below w.heap.size w w':=
 walk7c_prints (fun E h=>E.below h) (fun A n c l w h E=>right7_any A n c l w h E) (fun A n c l w h E=>print7_any A n c l w h E) shown7b (PD:=prD)
  (fun A n c l w h hs=>q7right_any (fun x A1 c1 A2 c2 A3 c3 A4 c4 w hx hz=>q6right_any q3name_any q4r_atom q4right_any x A1 c1 A2 c2 A3 c3 A4 c4 w hx hz) A n c l w h (fun x hx=>Sm.sz (hs.2 x hx)))
  (fun A n c l w h hs=>q7print_any (fun x A1 c1 A2 c2 A3 c3 A4 c4 w hx hz=>q6right_any q3name_any q4r_atom q4right_any x A1 c1 A2 c2 A3 c3 A4 c4 w hx hz) (fun x A1 c1 A2 c2 A3 c3 A4 c4 w hx hz=>q6write_any q3name_any q4r_atom q4right_any q4print_any q4join_any x A1 c1 A2 c2 A3 c3 A4 c4 w hx hz) prD Sml q5print_any A n c l w h (fun x hx=>Sm.sz (hs.2 x hx)) (Nat.le_trans hs.1 (by decide)) (fun hr=>sml_st hs.2 ((rightH_iff l).1 hr).2.2))
  (fun l hs=>prH_doc hs.2) A n c l w h E
end Go.Proofs.YtboinnjncaehkaaGreatDoor
