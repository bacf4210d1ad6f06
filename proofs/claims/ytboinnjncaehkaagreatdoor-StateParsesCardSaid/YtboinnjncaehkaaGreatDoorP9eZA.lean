/- What the laws rest on: P9e. -/
import Derived.Test.YtboinnjncaehkaaGreatDoorP9fZA
import Derived.Test.YtboinnjncaehkaaGreatDoorQCDZA
set_option maxRecDepth 100000
set_option linter.unusedVariables false
set_option linter.unusedSimpArgs false
namespace Go.Proofs.YtboinnjncaehkaaGreatDoor
open Go.RowKit
set_option maxHeartbeats 16000000 in
theorem walk7b_parses {Ev:World→Prop} {RD:List Fd→Int × Ent} (C:Con7b Ev RD) (SH:∀w,Ev w→Calls Tryz.prog 9 #[] w fun e w'=>e=.returned (.bool true)∧Below w.heap.size w w') (DP:∀(s:ByteArray) (w:World),s.size≤6000→Calls Tryz.prog 11 #[.string s] w (PaR w (paD RD (B s)))) (s:ByteArray) (w:World) (E:Ev w) :
  Calls Tryz.prog 3 #[.string s] w fun e w'=>e=.returned (.bool true)∧Below w.heap.size w w':=by
 have HE:=Lib.hid (fun (W:World) (hb:Below w.heap.size w W)=>C.below E hb)
 have S:=Lib.hid (SH w E)
 have K1:=Lib.hid (fun (W:World) (hb:Below w.heap.size w W)=>C.parse s W (HE.out W hb))
 have K2:=Lib.hid (fun (hs:s.size≤6000) (W:World)=>DP s W hs)
 clear C SH DP E
 generalize paD RD (B s)=R at *
 obtain ⟨l,n,er⟩:=R
 have hn:(n==n)=true:=beq_self_eq_true n
 have he:(er==er)=true:=beq_self_eq_true er
 go_enter Tryz.func3,Tryz.ntmps3
 go_wp2_with fail
 refine S.out.mono ?_
 rintro e w1 ⟨rfl,hb⟩
 have B1:=Lib.hid hb
 clear hb S
 by_cases hs:(6000:Int) < (s.size:Int)
 ·go_wp2
  go_ret
  exact ⟨rfl,B1.out⟩
 have HS:=Lib.hid (show s.size≤6000 by omega)
 go_wp2_with fail
 refine (K1.out _ B1.out).mono ?_
 rintro e w2 ⟨⟨A,m,c,rfl,hr⟩,hb⟩
 have B2:=Lib.hid (bel_in B1.out hb)
 have H2:=Lib.hid hr
 clear hb hr
 go_wp2_with fail
 refine (K2.out HS.out w2).mono ?_
 rintro e w3 ⟨⟨A',m',c',rfl,hr⟩,hb⟩
 have B3:=Lib.hid (bel_in B2.out hb)
 have K:=Lib.hid (by have:=sameAll7_any A A' m c m' c' l l w3 (rdHrs_good.up (rdHrs_good.below H2.out hb) hb.size) hr;rw [decide_eq_true rfl] at this;exact this)
 clear hb hr
 go_wp2_with fail
 refine K.out.mono ?_
 rintro e w4 ⟨rfl,hb⟩
 have B4:=Lib.hid (bel_in B3.out hb)
 clear hb
 go_wp2
 go_ret
 exact ⟨rfl,B4.out⟩
theorem q6read_isb (A:Option Addr) (n c:Nat) (st:List Fd) (w:World) (h:rdFds w (lt_ w.heap.size) st [.slice A n c]) (hz:∀nm,(fstV st nm).size≤65536):Calls Tryz.prog 38 #[.slice A n c] w (RdR7 w (rdP st)):=by
 rw [rdP_is]
 exact q6read_any atE atL (fun s w hs=>q3name_any s w hs) (fun s w hs=>(q4parse_new s w hs).mono fun e w' ⟨⟨v,he,hr⟩,hb⟩=>by
  obtain ⟨A,c,hv,h1⟩:=id hr
  simp only [List.cons.injEq,and_true] at hv
  subst hv
  exact ⟨⟨A,c,he,hr⟩,hb⟩) (fun s w hs=>(q4atoms_new s w hs).mono fun e w' ⟨⟨v,he,hr⟩,hb⟩=>by
  obtain ⟨A,c,hv,h1⟩:=id hr
  simp only [List.cons.injEq,and_true] at hv
  subst hv
  exact ⟨⟨A,c,he,hr⟩,hb⟩) A n c st w h hz
theorem q7parse_isb (s:ByteArray) (w:World) (hs:s.size≤6000):Calls Tryz.prog 11 #[.string s] w (PaR w (paD rdP (B s))):=
 q7parse_any q5parse_any rdP q6read_isb s w (by unfold maxLen;omega)
  (fun h st hst nm=>fst_size6 nm fun f hf=>Nat.le_trans (val_dW hst hf) (Nat.le_trans (stL_W _) (Nat.le_trans (stE_len h) (by decide))))
theorem parses7b (s:ByteArray) (w:World) (E:EnvR w):Calls Tryz.prog 3 #[.string s] w fun e w'=>e=.returned (.bool true)∧Below w.heap.size w w':=
 walk7b_parses con7b shown7b q7parse_isb s w E
end Go.Proofs.YtboinnjncaehkaaGreatDoor
