/- What the laws rest on: Ver6, Ver7, Ver8, Ver9, BackP, VerQ, Ver5. -/
import Derived.Lib.AppendIntMem
import Derived.Lib.IndexAny
import Derived.Lib.IndexBytes
import Derived.BigRegion
import Derived.Outline
import Derived.Test.YtboinnjncaehkaaGreatDoorQBHZA
set_option maxRecDepth 100000
set_option linter.unusedVariables false
set_option linter.unusedSimpArgs false
namespace Go.Proofs.YtboinnjncaehkaaGreatDoor
open Go.RowKit
structure Env (w:World):Prop where
 max:∃m,w.cell? ⟨1,0,none⟩=some (.int .i64 m)
 pow:Lib.TabIs Tryz.prog w "internal/strconv.uint64pow10" .u64 Lib.pow10Tab
 syn:∃tp p,w.var? Tryz.prog "strconv.ErrSyntax"=some #[.iface tp p]
 rng:∃tp p,w.var? Tryz.prog "strconv.ErrRange"=some #[.iface tp p]
theorem var_bel {P:Program} {w w':World} {n:String} {cs:Array Value} (h:Below w.heap.size w w') (hv:w.var? P n=some cs):w'.var? P n=some cs:=by
 unfold World.var? at hv ⊢
 cases hg:P.globalNamed n with
 | none=>rw [hg] at hv;exact hv
 | some g=>
  rw [hg] at hv
  simp only [Option.bind_some] at hv ⊢
  have hlt:g < w.heap.size:=by
   rcases Nat.lt_or_ge g w.heap.size with hh|hh
   ·exact hh
   ·rw [Array.getElem?_eq_none hh] at hv;cases hv
  rw [h.block g hlt];exact hv
theorem Env.below {w w':World} (E:Env w) (h:Below w.heap.size w w'):Env w':=by
 obtain ⟨⟨m,hm⟩,hp,⟨t1,p1,h1⟩,⟨t2,p2,h2⟩⟩:=E
 exact ⟨⟨m,by rw [h.cell (World.block_lt_of_cell? _ _ hm)];exact hm⟩,var_bel h hp,⟨t1,p1,var_bel h h1⟩,⟨t2,p2,var_bel h h2⟩⟩
theorem Env.drewN {w:World} (E:Env w) (n:Nat):Env (w.drewN n):=E.below ⟨rfl,rfl,rfl,Nat.le_refl _,fun _ _=>rfl⟩
theorem Env.alloc {w:World} (E:Env w) (o:Obj):Env (w.alloc o):=E.below ((Below.refl _ w).alloc (Nat.le_refl _) _)
theorem decF_dd:∀(n f:Nat) (l:List Nat),n < f→decF f n l=(Lib.decDigits n).map UInt8.toNat++l:=by
 intro n
 induction n using Nat.strongRecOn with
 | _ n ih=>
  intro f l hf
  obtain ⟨g,rfl⟩:∃g,f=g+1:=⟨f - 1,by omega⟩
  simp only [decF]
  rw [Lib.decDigits]
  by_cases h:n < 10
  ·rw [if_pos h,dif_pos h]
   simp only [List.map_cons,List.map_nil,List.cons_append,List.nil_append,UInt8.toNat_ofNat']
   rw [Nat.mod_eq_of_lt (by omega)]
  ·rw [if_neg h,dif_neg h,ih (n / 10) (by omega) g _ (by omega)]
   simp only [List.map_append,List.map_cons,List.map_nil,List.append_assoc,List.cons_append,List.nil_append,UInt8.toNat_ofNat']
   rw [Nat.mod_eq_of_lt (show 48+n % 10 < 2 ^ 8 by omega)]
theorem itoa_is (n:Nat):(⟨(Lib.itoa (n:Int)).toArray⟩:ByteArray)=mk (decL n):=by
 apply eq_mk
 unfold Lib.itoa decL
 rw [if_neg (by omega),decF_dd n (n+1) [] (by omega),List.append_nil,Int.toNat_natCast]
 rfl
theorem itoa_any (n:Nat) (w:World) (hn:n≤9223372036854775807) (E:Env w):Calls Tryz.prog 214 #[.int .i64 (n:Int)] w fun e w'=>e=.returned (.string (mk (decL n)))∧Below w.heap.size w w':=by
 refine (Tryz.strconv_Itoa n (by omega) (by omega) w E.pow).mono ?_
 rintro e w' ⟨rfl,k,os,rfl⟩
 exact ⟨by rw [itoa_is],Lib.below_grow _ _ (Nat.le_refl _) _ _⟩
theorem bel_boxed {w w1:World} {o:Obj} (h:Below (w.alloc o).heap.size (w.alloc o) w1):Below w.heap.size w w1:=((Below.refl _ w).alloc (Nat.le_refl _) o).trans (h.mono (by simp))
theorem vtext_any (e:Nat) (u r:ByteArray) (w:World) (he:e≤1000000000) (hu:u.size≤65536) (hr:r.size≤65536) (E:Env w) :
  Calls Tryz.prog 184 #[.agg #[.int .i64 (e:Int),.string u,.string r]] w fun e' w'=>e'=.returned (.string (mk (textL e (B u) (B r))))∧Below w.heap.size w w':=by
 have hmk:=decL_len e
 have hsz:(mk (decL e)).size≤1000000001:=by rw [size_mk];omega
 have I:=Lib.hid (itoa_any e (w.alloc (.cells #[.int .i64 (e:Int),.string u,.string r] 151)) (by omega) (E.alloc _))
 by_cases h1:e=0
 ·cases h2:r.toList.isEmpty
  ·have t1:((e:Int) != 0)=false:=by rw [bne_eq_false_iff_eq];omega
   have HE:B r≠[]:=fun hh=>by rw [(empty_iff r).2 hh] at h2;cases h2
   have X:=Lib.hid (show u++({ data:=#[45] }++r)=mk (textL e (B u) (B r)) by
    refine eq_mk ?_
    unfold textL
    rw [if_pos h1,if_neg HE]
    simp [B_append,B_dash])
   clear HE h1
   go_enter Tryz.func184,Tryz.ntmps184
   go_wp2
   go_ret
   exact ⟨by rw [←X.out];rfl,(Below.refl _ w).alloc (Nat.le_refl _) _⟩
  ·have t1:((e:Int) != 0)=false:=by rw [bne_eq_false_iff_eq];omega
   have HE:B r=[]:=(empty_iff r).1 h2
   have X:=Lib.hid (show u=mk (textL e (B u) (B r)) by
    refine eq_mk ?_
    unfold textL
    rw [if_pos h1,if_pos HE]
    simp [B_append])
   clear HE h1
   go_enter Tryz.func184,Tryz.ntmps184
   go_wp2
   go_ret
   exact ⟨by rw [←X.out];rfl,(Below.refl _ w).alloc (Nat.le_refl _) _⟩
 ·cases h2:r.toList.isEmpty
  ·have t1:((e:Int) != 0)=true:=by rw [bne_iff_ne];omega
   have HE:B r≠[]:=fun hh=>by rw [(empty_iff r).2 hh] at h2;cases h2
   have X:=Lib.hid (show mk (decL e)++{ data:=#[58] }++u++({ data:=#[45] }++r)=mk (textL e (B u) (B r)) by
    refine eq_mk ?_
    unfold textL
    rw [if_neg h1,if_neg HE]
    simp [B_append,B_dash,B_colon,B_mk (decL_lt e)])
   clear HE h1
   go_enter Tryz.func184,Tryz.ntmps184
   go_wp2_with fail
   refine I.out.mono ?_
   rintro e' w1 ⟨rfl,hb⟩
   obtain ⟨c0,c1,c2,hz⟩:=box_cells hb
   have hB:=Lib.hid (bel_boxed hb)
   clear hb
   go_wp2
   go_ret
   exact ⟨by rw [←X.out];rfl,hB.out⟩
  ·have t1:((e:Int) != 0)=true:=by rw [bne_iff_ne];omega
   have HE:B r=[]:=(empty_iff r).1 h2
   have X:=Lib.hid (show mk (decL e)++{ data:=#[58] }++u=mk (textL e (B u) (B r)) by
    refine eq_mk ?_
    unfold textL
    rw [if_neg h1,if_pos HE]
    simp [B_append,B_colon,B_mk (decL_lt e)])
   clear HE h1
   go_enter Tryz.func184,Tryz.ntmps184
   go_wp2_with fail
   refine I.out.mono ?_
   rintro e' w1 ⟨rfl,hb⟩
   obtain ⟨c0,c1,c2,hz⟩:=box_cells hb
   have hB:=Lib.hid (bel_boxed hb)
   clear hb
   go_wp2
   go_ret
   exact ⟨by rw [←X.out];rfl,hB.out⟩
theorem contains_is (s:ByteArray) (c:UInt8):decide (0≤Lib.indexByte s.data.toList c)=hasB (B s) c.toNat:=by
 rw [←Lib.contains_iff_indexByte]
 unfold hasB B
 rw [Bool.eq_iff_iff,List.contains_iff_mem,List.contains_iff_mem,List.mem_map]
 exact ⟨fun h=>⟨c,h,rfl⟩,fun ⟨d,h,e⟩=>by rwa [←UInt8.toNat_inj.1 e]⟩
theorem has45_any (s:ByteArray) (w:World):Calls Tryz.prog 241 #[.string s,.string { data:=#[45] }] w fun e w'=>e=.returned (.bool (hasB (B s) 45))∧w=w':=by
 refine (Tryz.strings_Contains_one s 45 w).mono ?_
 rintro e w' ⟨rfl,rfl⟩
 exact ⟨by rw [contains_is];rfl,rfl⟩
theorem has58_any (s:ByteArray) (w:World):Calls Tryz.prog 241 #[.string s,.string { data:=#[58] }] w fun e w'=>e=.returned (.bool (hasB (B s) 58))∧w=w':=by
 refine (Tryz.strings_Contains_one s 58 w).mono ?_
 rintro e w' ⟨rfl,rfl⟩
 exact ⟨by rw [contains_is];rfl,rfl⟩
def upB (e:Int) (u r:List Nat):Bool:=headD u&&u.all (chB uX)&&!(hasB u 45&&decide (r=[]))&&!(hasB u 58&&decide (e=0))
theorem rightB_up (e:Int) (u r:List Nat):rightB e u r=(decide (0≤e∧e≤999999999)&&upB e u r&&r.all (chB rX)&&decide ((textL e.toNat u r).length≤60)):=by
 unfold rightB upB
 generalize decide (0≤e∧e≤999999999)=a
 generalize headD u=b
 generalize (hasB u 45&&decide (r=[]))=c
 generalize (hasB u 58&&decide (e=0))=d
 generalize u.all (chB uX)=f
 cases a<;>cases b<;>cases c<;>cases d<;>cases f<;>rfl
theorem eachU_any (u:ByteArray) (w:World) (hs:u.size≤65536):Calls Tryz.prog 211 #[.string u,.func (.func 240) #[] #[]] w fun e w'=>e=.returned (.bool ((B u).all (chB uX)))∧∃n,w'=w.drewN n:=
 each_any _ (chB uX) u w (by omega) (fun _ _=>by kernel_rfl) vup_any
theorem eachR_any (u:ByteArray) (w:World) (hs:u.size≤65536):Calls Tryz.prog 211 #[.string u,.func (.func 212) #[] #[]] w fun e w'=>e=.returned (.bool ((B u).all (chB rX)))∧∃n,w'=w.drewN n:=
 each_any _ (chB rX) u w (by omega) (fun _ _=>by kernel_rfl) vrev_any
theorem bel_d {w w1:World} (h:Below w.heap.size w w1) (n:Nat):Below w.heap.size w (w1.drewN n):=⟨h.os,h.tape,h.output,h.size,h.block⟩
theorem bel_box (w:World) (o:Obj):Below w.heap.size w (w.alloc o):=(Below.refl _ w).alloc (Nat.le_refl _) o
theorem vupstream_any (e:Int) (u r:ByteArray) (w:World) (hsz:u.size≤65536) (hrz:r.size≤65536) :
  Calls Tryz.prog 210 #[.agg #[.int .i64 e,.string u,.string r]] w fun e' w'=>e'=.returned (.bool (upB e (B u) (B r)))∧Below w.heap.size w w':=by
 have KE:=Lib.hid (fun w=>eachU_any u w hsz)
 have K45:=Lib.hid (has45_any u)
 have K58:=Lib.hid (has58_any u)
 cases hu:u.toList.isEmpty
 ·have hs:0 < u.size:=by
   rcases Nat.eq_zero_or_pos u.size with h|h
   ·have:=(empty_iff u).2 (List.eq_nil_of_length_eq_zero (by rw [B_len];exact h))
    rw [hu] at this;cases this
   ·exact h
  have KD:=Lib.hid (vdigit_any u[0].toNat)
  cases hd:digB u[0].toNat
  ·have X:=Lib.hid (show upB e (B u) (B r)=false by unfold upB;rw [headD_at u hs,hd];rfl)
   rw [hd] at KD
   clear hd
   go_enter Tryz.func210,Tryz.ntmps210
   go_wp2_with (go_at_call 239;(with_reducible refine (KD.out _).mono ?_);rintro e' w1 ⟨rfl,rfl⟩)
   go_ret
   exact ⟨by rw [X.out];rfl,bel_box _ _⟩
  ·rw [hd] at KD
   have HD:=Lib.hid hd
   clear hd
   cases ha:(B u).all (chB uX)
   ·have X:=Lib.hid (show upB e (B u) (B r)=false by unfold upB;rw [headD_at u hs,HD.out,ha];rfl)
    rw [ha] at KE
    clear ha
    go_enter Tryz.func210,Tryz.ntmps210
    go_wp2_with (first|(go_at_call 239;(with_reducible refine (KD.out _).mono ?_);rintro e' w1 ⟨rfl,rfl⟩)|(go_at_call 211;(with_reducible refine (KE.out _).mono ?_);rintro e' w1 ⟨rfl,n,rfl⟩))
    go_ret
    exact ⟨by rw [X.out];rfl,bel_d (bel_box _ _) _⟩
   ·have X:=Lib.hid (show upB e (B u) (B r)=(!(hasB (B u) 45&&r.toList.isEmpty)&&!(hasB (B u) 58&&(e==0))) by
     unfold upB;rw [headD_at u hs,HD.out,ha]
     have h1:decide (B r=[])=r.toList.isEmpty:=by rw [Bool.eq_iff_iff,decide_eq_true_iff,empty_iff]
     have h2:decide (e=0)=(e==0):=by rw [Bool.eq_iff_iff,decide_eq_true_iff,beq_iff_eq]
     rw [h1,h2];simp)
    rw [ha] at KE
    clear ha
    cases hre:r.toList.isEmpty<;>cases h45:hasB (B u) 45<;>cases h58:hasB (B u) 58<;>cases he0:(e==0)
    all_goals
     have hn0:(e != 0)=!(e==0):=rfl
     rw [he0] at hn0
     rw [h45] at K45
     rw [h58] at K58
     rw [h45,h58,hre,he0] at X
     clear he0 h45 h58
     simp only [Bool.not_true,Bool.not_false] at hn0
     go_enter Tryz.func210,Tryz.ntmps210
     go_wp2_with (first|(go_at_call 239;(with_reducible refine (KD.out _).mono ?_);rintro e' w1 ⟨rfl,rfl⟩)|(go_at_call 211;(with_reducible refine (KE.out _).mono ?_);rintro e' w1 ⟨rfl,n,rfl⟩)|(go_at_call 241;(with_reducible refine (K45.out _).mono ?_);rintro e' w1 ⟨rfl,rfl⟩)|(go_at_call 241;(with_reducible refine (K58.out _).mono ?_);rintro e' w1 ⟨rfl,rfl⟩))
     go_ret
     exact ⟨by rw [X.out];rfl,bel_d (bel_box _ _) _⟩
 ·have X:=Lib.hid (show upB e (B u) (B r)=false by unfold upB;rw [(empty_iff u).1 hu];rfl)
  go_enter Tryz.func210,Tryz.ntmps210
  go_wp2
  go_ret
  exact ⟨by rw [X.out];rfl,bel_box _ _⟩
theorem bel_2 {w V W:World} (h:Below w.heap.size w V) (h2:Below V.heap.size V W):Below w.heap.size w W:=h.trans (h2.mono h.size)
theorem vright_any (e:Int) (u r:ByteArray) (w:World) (hsz:u.size≤65536) (hrz:r.size≤65536) (E:Env w) :
  Calls Tryz.prog 182 #[.agg #[.int .i64 e,.string u,.string r]] w fun e' w'=>e'=.returned (.bool (rightB e (B u) (B r)))∧Below w.heap.size w w':=by
 have XR:=Lib.hid (rightB_up e (B u) (B r))
 by_cases h0:0≤e
 ·by_cases h1:e≤999999999
  ·have d0:decide (0≤e)=true:=decide_eq_true h0
   have d1:decide (e≤999999999)=true:=decide_eq_true h1
   have KU:=Lib.hid (fun w=>vupstream_any e u r w hsz hrz)
   have KE:=Lib.hid (fun w=>eachR_any r w hrz)
   cases hup:upB e (B u) (B r)
   ·have X:=Lib.hid (show rightB e (B u) (B r)=false by rw [XR.out,hup,Bool.and_false,Bool.false_and,Bool.false_and])
    rw [hup] at KU
    clear hup XR
    go_enter Tryz.func182,Tryz.ntmps182
    go_wp2_with fail
    refine (KU.out _).mono ?_
    rintro e' w1 ⟨rfl,hb⟩
    have hB:=Lib.hid (bel_boxed hb)
    clear hb
    go_wp2
    go_ret
    exact ⟨by rw [X.out];rfl,hB.out⟩
   ·rw [hup] at KU
    cases ha:(B r).all (chB rX)
    ·have X:=Lib.hid (show rightB e (B u) (B r)=false by rw [XR.out,ha,Bool.and_false,Bool.false_and])
     rw [ha] at KE
     clear ha hup XR
     go_enter Tryz.func182,Tryz.ntmps182
     go_wp2_with fail
     refine (KU.out _).mono ?_
     rintro e' w1 ⟨rfl,hb⟩
     obtain ⟨c0,c1,c2,hz⟩:=box_cells hb
     have hB:=Lib.hid (bel_boxed hb)
     clear hb
     go_wp2_with fail
     refine (KE.out _).mono ?_
     rintro e' w1 ⟨rfl,n,rfl⟩
     go_wp2
     go_ret
     exact ⟨by rw [X.out];rfl,bel_d hB.out n⟩
    ·obtain ⟨m,rfl⟩:∃m:Nat,e=m:=⟨e.toNat,by omega⟩
     have X:=Lib.hid (show rightB m (B u) (B r)=decide ((mk (textL m (B u) (B r))).size≤60) by
      rw [XR.out,ha,hup,decide_eq_true ⟨h0,h1⟩,size_mk];rfl)
     rw [ha] at KE
     have KT:=Lib.hid (fun w E=>vtext_any m u r w (by omega) hsz hrz E)
     clear ha hup XR
     have HE:=Lib.hid E
     clear E
     generalize mk (textL m (B u) (B r))=T at *
     generalize rightB m (B u) (B r)=b at *
     go_enter Tryz.func182,Tryz.ntmps182
     go_wp2_with fail
     refine (KU.out _).mono ?_
     rintro e' w1 ⟨rfl,hb⟩
     obtain ⟨c0,c1,c2,hz⟩:=box_cells hb
     have hB:=Lib.hid (bel_boxed hb)
     clear hb
     go_wp2_with fail
     refine (KE.out _).mono ?_
     rintro e' w2 ⟨rfl,n,rfl⟩
     go_wp2_with fail
     refine (KT.out _ ((HE.out.below hB.out).drewN n)).mono ?_
     rintro e' w2 ⟨rfl,hb2⟩
     have hB2:=Lib.hid (bel_2 (bel_d hB.out n) hb2)
     clear hb2
     go_wp2
     go_ret
     refine ⟨?_,hB2.out⟩
     rw [X.out]
     show Ending.returned (.bool (decide ((T.size:Int)≤60)))=.returned (.bool (decide (T.size≤60)))
     rw [decide_eq_decide.2 (show (T.size:Int)≤60↔T.size≤60 by omega)]
  ·have d1:decide (e≤999999999)=false:=decide_eq_false h1
   have X:=Lib.hid (show rightB e (B u) (B r)=false by rw [XR.out,decide_eq_false (by omega)];rfl)
   go_enter Tryz.func182,Tryz.ntmps182
   go_wp2
   go_ret
   exact ⟨by rw [X.out];rfl,bel_box _ _⟩
 ·have d0:decide (0≤e)=false:=decide_eq_false h0
  have X:=Lib.hid (show rightB e (B u) (B r)=false by rw [XR.out,decide_eq_false (by omega)];rfl)
  go_enter Tryz.func182,Tryz.ntmps182
  go_wp2
  go_ret
  exact ⟨by rw [X.out];rfl,bel_box _ _⟩
theorem vprint_any (e:Int) (u r:ByteArray) (w:World) (hsz:u.size≤65536) (hrz:r.size≤65536) (E:Env w) :
  Calls Tryz.prog 130 #[.agg #[.int .i64 e,.string u,.string r]] w fun e' w'=>e'=.returned (.string (mk (printL e (B u) (B r))))∧Below w.heap.size w w':=by
 have KR:=Lib.hid (fun w E=>vright_any e u r w hsz hrz E)
 have HE:=Lib.hid E
 clear E
 cases hr:rightB e (B u) (B r)
 ·have X:=Lib.hid (show mk (printL e (B u) (B r))={ data:=#[] } by unfold printL;rw [hr];rfl)
  rw [hr] at KR
  clear hr
  go_enter Tryz.func130,Tryz.ntmps130
  go_wp2_with fail
  refine (KR.out _ (HE.out.alloc _)).mono ?_
  rintro e' w1 ⟨rfl,hb⟩
  have hB:=Lib.hid (bel_boxed hb)
  clear hb
  go_wp2
  go_ret
  exact ⟨by rw [X.out];rfl,hB.out⟩
 ·obtain ⟨m,rfl⟩:∃m:Nat,e=m:=⟨e.toNat,by have:=(rightB_epoch hr).1;omega⟩
  have hm:=(rightB_epoch hr).2
  have X:=Lib.hid (show mk (printL m (B u) (B r))=mk (textL m (B u) (B r)) by unfold printL;rw [hr];rfl)
  rw [hr] at KR
  have KT:=Lib.hid (fun w E=>vtext_any m u r w (by omega) hsz hrz E)
  clear hr
  generalize mk (textL m (B u) (B r))=T at *
  go_enter Tryz.func130,Tryz.ntmps130
  go_wp2_with fail
  refine (KR.out _ (HE.out.alloc _)).mono ?_
  rintro e' w1 ⟨rfl,hb⟩
  obtain ⟨c0,c1,c2,hz⟩:=box_cells hb
  have hB:=Lib.hid (bel_boxed hb)
  clear hb
  go_wp2_with fail
  refine (KT.out _ (HE.out.below hB.out)).mono ?_
  rintro e' w2 ⟨rfl,hb2⟩
  have hB2:=Lib.hid (bel_2 hB.out hb2)
  clear hb2
  go_wp2
  go_ret
  exact ⟨by rw [X.out];rfl,hB2.out⟩
def atoiV (s:ByteArray):Int:=match Lib.atoiAll s.data.toList with|.ok v=>v|.range=>Lib.atoiSat s.data.toList|_=>0
def splE (s:ByteArray):Int:=match firstI (B s) 0 with|none=>0|some i=>atoiV (mk ((B s).take i))
theorem atoi_any (s:ByteArray) (w:World) (hs:s.size≤65536) (E:Env w):Calls Tryz.prog 208 #[.string s] w fun e w'=>(∃ev,e=.returned (.tuple #[.int .i64 (atoiV s),ev]))∧Below w.heap.size w w':=by
 unfold atoiV
 cases h:Lib.atoiAll s.data.toList
 ·rename_i v
  refine (Tryz.strconv_Atoi_ok s (by omega) v h w).mono ?_
  rintro e w' ⟨rfl,hw⟩
  refine ⟨⟨_,rfl⟩,?_⟩
  rcases hw with rfl|⟨t,rfl⟩
  ·exact Below.refl _ _
  ·exact Lib.bytesWorld_below _ _ _
 ·obtain ⟨tp,p,hv⟩:=E.syn
  refine (Any.strconv_Atoi_syntax_var Tryz.laysC172 s (by omega) h tp p w hv).mono ?_
  rintro e w' ⟨N,rfl,_,_,hb⟩
  exact ⟨⟨_,rfl⟩,hb⟩
 ·obtain ⟨tp,p,hv⟩:=E.rng
  refine (Tryz.strconv_Atoi_range_var s (by omega) h tp p w hv).mono ?_
  rintro e w' ⟨N,rfl,_,_,hb⟩
  exact ⟨⟨_,rfl⟩,hb⟩
theorem index_first:∀(l:List UInt8) (n:Nat),firstI (l.map UInt8.toNat) n=if 0≤Lib.indexByte l 58 then some (n+(Lib.indexByte l 58).toNat) else none
 | [],n=>by simp [firstI,Lib.indexByte]
 | c::l,n=>by
  have ih:=index_first l (n+1)
  have hg:=Lib.indexByte_ge l 58
  simp only [List.map_cons,firstI,Lib.indexByte]
  by_cases h:c=58
  ·subst h;simp
  ·have h2:c.toNat≠58:=fun hh=>h (UInt8.toNat_inj.1 hh)
   have h3:(c==58)=false:=by rw [beq_eq_false_iff_ne];exact h
   rw [if_neg h2,ih]
   simp only [h3,Bool.false_eq_true,if_false]
   by_cases h4:0≤Lib.indexByte l 58
   ·have h5:(Lib.indexByte l 58==-1)=false:=by rw [beq_eq_false_iff_ne];omega
    simp only [h5,Bool.false_eq_true,if_false]
    rw [if_pos h4,if_pos (by omega)]
    congr 1;omega
   ·have h5:(Lib.indexByte l 58==-1)=true:=by rw [beq_iff_eq];omega
    simp only [h5,if_true]
    rw [if_neg h4,if_neg (by omega)]
theorem cut_none {s:ByteArray} (h:firstI (B s) 0=none) (w:World) (hs:s.size≤65536) (E:Env w) :
  Calls Tryz.prog 188 #[.string s,.string { data:=#[58] }] w fun e w'=>e=.returned (.tuple #[.string s,.string { data:=#[] },.bool false])∧∃n,w'=w.drewN n:=by
 obtain ⟨m,hm⟩:=E.max
 refine (Tryz.strings_Cut s { data:=#[58] } m w (by omega) hm).mono ?_
 rintro e w' ⟨rfl,n,rfl⟩
 refine ⟨?_,n,rfl⟩
 unfold B at h
 rw [index_first] at h
 have hn:¬0≤Lib.indexByte s.data.toList 58:=fun hh=>by rw [if_pos hh] at h;cases h
 have e0:Lib.cut s.data.toList [58]=(s.data.toList,[],false):=by
  unfold Lib.cut;rw [Lib.index_one,if_neg hn]
 show Ending.returned (.tuple #[.string ⟨(Lib.cut s.data.toList [58]).1.toArray⟩,.string ⟨(Lib.cut s.data.toList [58]).2.1.toArray⟩,.bool (Lib.cut s.data.toList [58]).2.2])=_
 rw [e0]
theorem cut_some {s:ByteArray} {i:Nat} (h:firstI (B s) 0=some i) (w:World) (hs:s.size≤65536) (E:Env w) :
  Calls Tryz.prog 188 #[.string s,.string { data:=#[58] }] w fun e w'=>e=.returned (.tuple #[.string (mk ((B s).take i)),.string (mk ((B s).drop (i+1))),.bool true])∧∃n,w'=w.drewN n:=by
 obtain ⟨m,hm⟩:=E.max
 refine (Tryz.strings_Cut s { data:=#[58] } m w (by omega) hm).mono ?_
 rintro e w' ⟨rfl,n,rfl⟩
 refine ⟨?_,n,rfl⟩
 unfold B at h
 rw [index_first] at h
 have hn:0≤Lib.indexByte s.data.toList 58:=by
  rcases Int.lt_or_le (Lib.indexByte s.data.toList 58) 0 with hh|hh
  ·rw [if_neg (by omega)] at h;cases h
  ·exact hh
 rw [if_pos hn] at h
 injection h with h
 have e0:Lib.cut s.data.toList [58]=(s.data.toList.take i,s.data.toList.drop (i+1),true):=by
  unfold Lib.cut;rw [Lib.index_one,if_pos hn,show (Lib.indexByte s.data.toList 58).toNat=i by omega];rfl
 show Ending.returned (.tuple #[.string ⟨(Lib.cut s.data.toList [58]).1.toArray⟩,.string ⟨(Lib.cut s.data.toList [58]).2.1.toArray⟩,.bool (Lib.cut s.data.toList [58]).2.2])=_
 rw [e0,←take_mk,←drop_mk]
theorem last_is (s:ByteArray):∀k,k≤s.size→Lib.lastIdx s 45 k=match lastI (B s) k with|none=>-1|some i=>(i:Int)
 | 0,_=>rfl
 | k+1,h=>by
  have hk:k < s.size:=by omega
  rw [lastI_step hk]
  simp only [Lib.lastIdx]
  rw [LastIndex.byteBang s k hk]
  by_cases h2:s[k].toNat=45
  ·rw [if_pos h2,if_pos (by omega)]
  ·rw [if_neg h2,if_neg (by omega)]
   exact last_is s k (by omega)
theorem dash_none {s:ByteArray} (h:lastI (B s) s.size=none) (w:World) (hs:s.size≤65536):Calls Tryz.prog 209 #[.string s,.int .u8 45] w fun e w'=>e=.returned (.int .i64 (-1))∧w=w':=by
 refine (Tryz.strings_LastIndexByte s 45 (by omega) w).mono ?_
 rintro e w' ⟨rfl,rfl⟩
 exact ⟨by unfold Lib.lastIndexByte;rw [last_is s _ (Nat.le_refl _),h],rfl⟩
theorem dash_some {s:ByteArray} {i:Nat} (h:lastI (B s) s.size=some i) (w:World) (hs:s.size≤65536):Calls Tryz.prog 209 #[.string s,.int .u8 45] w fun e w'=>e=.returned (.int .i64 (i:Int))∧w=w':=by
 refine (Tryz.strings_LastIndexByte s 45 (by omega) w).mono ?_
 rintro e w' ⟨rfl,rfl⟩
 exact ⟨by unfold Lib.lastIndexByte;rw [last_is s _ (Nat.le_refl _),h],rfl⟩
theorem dashU_none {u:ByteArray} (h:lastI (B u) u.size=none):mk (dashU (B u))=u∧mk (dashR (B u))={ data:=#[] }:=by
 unfold dashU dashR
 rw [B_len,h]
 exact ⟨mk_B u,rfl⟩
theorem dashU_some {u:ByteArray} {i:Nat} (h:lastI (B u) u.size=some i):mk (dashU (B u))=u.extract 0 i∧mk (dashR (B u))=u.extract (i+1) u.size:=by
 unfold dashU dashR
 rw [B_len,h]
 exact ⟨ext_take.symm,ext_drop.symm⟩
theorem str_cells {w V w1:World} {T T':TypeId} {a b c x y z:Value} (hV:V=(w.alloc (.cells #[a,b,c] T)).alloc (.cells #[x,y,z] T')) (h:Below V.heap.size V w1) :
  (w1.cell? ⟨w.heap.size,0,none⟩=some a∧w1.cell? ⟨w.heap.size,1,none⟩=some b∧w1.cell? ⟨w.heap.size,2,none⟩=some c)∧
  (w1.frozen? ⟨w.heap.size,0,none⟩=false∧w1.frozen? ⟨w.heap.size,1,none⟩=false∧w1.frozen? ⟨w.heap.size,2,none⟩=false)∧
  (w1.cell? ⟨w.heap.size+1,0,none⟩=some x∧w1.cell? ⟨w.heap.size+1,1,none⟩=some y∧w1.cell? ⟨w.heap.size+1,2,none⟩=some z)∧
  (w1.frozen? ⟨w.heap.size+1,0,none⟩=false∧w1.frozen? ⟨w.heap.size+1,1,none⟩=false∧w1.frozen? ⟨w.heap.size+1,2,none⟩=false)∧Below w.heap.size w w1:=by
 have hs:V.heap.size=w.heap.size+2:=by rw [hV];simp
 refine ⟨⟨(h.cell (by simp only;omega)).trans ?_,(h.cell (by simp only;omega)).trans ?_,(h.cell (by simp only;omega)).trans ?_⟩,⟨(h.frozen (by simp only;omega)).trans ?_,(h.frozen (by simp only;omega)).trans ?_,(h.frozen (by simp only;omega)).trans ?_⟩,⟨(h.cell (by simp only;omega)).trans ?_,(h.cell (by simp only;omega)).trans ?_,(h.cell (by simp only;omega)).trans ?_⟩,⟨(h.frozen (by simp only;omega)).trans ?_,(h.frozen (by simp only;omega)).trans ?_,(h.frozen (by simp only;omega)).trans ?_⟩,?_⟩
 all_goals first|(rw [hV];simp [go_sem];done)|skip
 have hB:Below w.heap.size w V:=by rw [hV];exact ((Below.refl _ w).alloc (Nat.le_refl _) _).alloc (by simp) _
 exact hB.trans (h.mono hB.size)
theorem split_some_some (s:ByteArray) (i:Nat) (j:Nat) (w:World) (hs:s.size≤65536) (E:Env w) (h1:firstI (B s) 0=some i) (h2:lastI (B (mk ((B s).drop (i+1)))) ((mk ((B s).drop (i+1)))).size=some j) :
  Calls Tryz.prog 181 #[.string s] w fun e' w'=>e'=.returned (.agg #[.int .i64 (splE s),.string (mk (dashU (colU (B s)))),.string (mk (dashR (colU (B s))))])∧Below w.heap.size w w':=by
 have KC:=Lib.hid (fun w E=>cut_some h1 w hs E)
 have hp:(mk ((B s).take i)).size≤65536:=by rw [size_mk,List.length_take,B_len];omega
 have hU:(mk ((B s).drop (i+1))).size≤65536:=by rw [size_mk,List.length_drop,B_len];omega
 have KA:=Lib.hid (fun w E=>atoi_any (mk ((B s).take i)) w hp E)
 have XE:=Lib.hid (show splE s=atoiV (mk ((B s).take i)) by unfold splE;rw [h1])
 have XC:=Lib.hid (show colU (B s)=B (mk ((B s).drop (i+1))) by
  unfold colU;rw [h1,B_mk (fun c hc=>B_lt s c (List.mem_of_mem_drop hc))])
 have KD:=Lib.hid (fun w=>dash_some h2 w hU)
 have XD:=Lib.hid (dashU_some h2)
 have hj:=lastI_lt h2
 have hj0:(0:Int)≤(j:Int):=by omega
 rw [XE.out,XC.out,XD.out.1,XD.out.2]
 have HE:=Lib.hid E
 clear h1 h2 E XE XC XD
 generalize mk ((B s).drop (i+1))=U at *
 generalize mk ((B s).take i)=p at *
 generalize atoiV p=ep at *
 go_enter Tryz.func181,Tryz.ntmps181
 go_wp2_with fail
 refine (KC.out _ ((HE.out.alloc _).alloc _)).mono ?_
 rintro e' w1 ⟨rfl,n,rfl⟩
 go_wp2_with fail
 refine (KA.out _ (((HE.out.alloc _).alloc _).drewN n)).mono ?_
 rintro e' w1 ⟨⟨ev,rfl⟩,hb⟩
 have hb0:=hb
 replace hb:=(bel_d (Below.refl _ ((w.alloc (.cells #[.int .i64 0,.string { data:=#[] },.string { data:=#[] }] 151)).alloc (.cells #[.int .i64 0,.string { data:=#[] },.string { data:=#[] }] 151))) n).trans hb
 obtain ⟨⟨c0,c1,c2⟩,⟨f0,f1,f2⟩,⟨d0,d1,d2⟩,⟨g0,g1,g2⟩,hB⟩:=str_cells rfl hb
 have HB:=Lib.hid hB
 clear hb hb0 hB
 go_wp2_with fail
 refine (KD.out _).mono ?_
 rintro e' w2 ⟨rfl,rfl⟩
 obtain ⟨V,hV⟩:∃V,V=(w1.setCell ⟨w.heap.size+1,0,none⟩ (.int .i64 ep)).setCell ⟨w.heap.size+1,1,none⟩ (.string U):=⟨_,rfl⟩
 have c0':V.cell? ⟨w.heap.size,0,none⟩=some (.int .i64 0):=by rw [hV];simp [go_sem,c0]
 have c1':V.cell? ⟨w.heap.size,1,none⟩=some (.string { data:=#[] }):=by rw [hV];simp [go_sem,c1]
 have c2':V.cell? ⟨w.heap.size,2,none⟩=some (.string { data:=#[] }):=by rw [hV];simp [go_sem,c2]
 have d0':V.cell? ⟨w.heap.size+1,0,none⟩=some (.int .i64 ep):=by rw [hV];simp [go_sem,d0]
 have d1':V.cell? ⟨w.heap.size+1,1,none⟩=some (.string U):=by rw [hV];simp [go_sem,d1]
 have d2':V.cell? ⟨w.heap.size+1,2,none⟩=some (.string { data:=#[] }):=by rw [hV];simp [go_sem,d2]
 have f0':V.frozen? ⟨w.heap.size,0,none⟩=false:=by rw [hV];simp [go_sem,f0]
 have f1':V.frozen? ⟨w.heap.size,1,none⟩=false:=by rw [hV];simp [go_sem,f1]
 have f2':V.frozen? ⟨w.heap.size,2,none⟩=false:=by rw [hV];simp [go_sem,f2]
 have g0':V.frozen? ⟨w.heap.size+1,0,none⟩=false:=by rw [hV];simp [go_sem,g0]
 have g1':V.frozen? ⟨w.heap.size+1,1,none⟩=false:=by rw [hV];simp [go_sem,g1]
 have g2':V.frozen? ⟨w.heap.size+1,2,none⟩=false:=by rw [hV];simp [go_sem,g2]
 have HB':=Lib.hid (show Below w.heap.size w V by rw [hV];exact (HB.out.setCell (by simp) _).setCell (by simp) _)
 rw [←hV]
 clear hV c0 c1 c2 d0 d1 d2 f0 f1 f2 g0 g1 g2 HB
 go_wp2
 go_region
 all_goals go_wp2
 generalize hX:U.extract 0 j=X at *
 generalize hY:U.extract (j+1) U.size=Y at *
 clear hX hY
 obtain ⟨V2,hV2⟩:∃V2,V2=((V).setCell ⟨w.heap.size+1,1,none⟩ (.string X)).setCell ⟨w.heap.size+1,2,none⟩ (.string Y):=⟨_,rfl⟩
 have k0:V2.cell? ⟨w.heap.size,0,none⟩=some (.int .i64 0):=by rw [hV2];simp [go_sem,c0']
 have k1:V2.cell? ⟨w.heap.size,1,none⟩=some (.string { data:=#[] }):=by rw [hV2];simp [go_sem,c1']
 have k2:V2.cell? ⟨w.heap.size,2,none⟩=some (.string { data:=#[] }):=by rw [hV2];simp [go_sem,c2']
 have kB:Below w.heap.size w V2:=by rw [hV2];repeat (first|exact HB'.out|with_reducible refine Below.setCell ?_ (by simp) _)
 rw [←hV2]
 clear hV2
 obtain ⟨e0,e1,e2,bW⟩:=fin3 (x:=.int .i64 ep) (y:=.string X) (z:=.string Y) kB k0 k1 k2
 exact bodyPost_ret (v:=.agg #[.int .i64 ep,.string X,.string Y]) (by simp [results,Tryz.results181,go_sem,e0,e1,e2]) rfl ⟨rfl,bW.drew⟩
theorem split_some_none (s:ByteArray) (i:Nat) (w:World) (hs:s.size≤65536) (E:Env w) (h1:firstI (B s) 0=some i) (h2:lastI (B (mk ((B s).drop (i+1)))) ((mk ((B s).drop (i+1)))).size=none) :
  Calls Tryz.prog 181 #[.string s] w fun e' w'=>e'=.returned (.agg #[.int .i64 (splE s),.string (mk (dashU (colU (B s)))),.string (mk (dashR (colU (B s))))])∧Below w.heap.size w w':=by
 have KC:=Lib.hid (fun w E=>cut_some h1 w hs E)
 have hp:(mk ((B s).take i)).size≤65536:=by rw [size_mk,List.length_take,B_len];omega
 have hU:(mk ((B s).drop (i+1))).size≤65536:=by rw [size_mk,List.length_drop,B_len];omega
 have KA:=Lib.hid (fun w E=>atoi_any (mk ((B s).take i)) w hp E)
 have XE:=Lib.hid (show splE s=atoiV (mk ((B s).take i)) by unfold splE;rw [h1])
 have XC:=Lib.hid (show colU (B s)=B (mk ((B s).drop (i+1))) by
  unfold colU;rw [h1,B_mk (fun c hc=>B_lt s c (List.mem_of_mem_drop hc))])
 have KD:=Lib.hid (fun w=>dash_none h2 w hU)
 have XD:=Lib.hid (dashU_none h2)
 rw [XE.out,XC.out,XD.out.1,XD.out.2]
 have HE:=Lib.hid E
 clear h1 h2 E XE XC XD
 generalize mk ((B s).drop (i+1))=U at *
 generalize mk ((B s).take i)=p at *
 generalize atoiV p=ep at *
 go_enter Tryz.func181,Tryz.ntmps181
 go_wp2_with fail
 refine (KC.out _ ((HE.out.alloc _).alloc _)).mono ?_
 rintro e' w1 ⟨rfl,n,rfl⟩
 go_wp2_with fail
 refine (KA.out _ (((HE.out.alloc _).alloc _).drewN n)).mono ?_
 rintro e' w1 ⟨⟨ev,rfl⟩,hb⟩
 have hb0:=hb
 replace hb:=(bel_d (Below.refl _ ((w.alloc (.cells #[.int .i64 0,.string { data:=#[] },.string { data:=#[] }] 151)).alloc (.cells #[.int .i64 0,.string { data:=#[] },.string { data:=#[] }] 151))) n).trans hb
 obtain ⟨⟨c0,c1,c2⟩,⟨f0,f1,f2⟩,⟨d0,d1,d2⟩,⟨g0,g1,g2⟩,hB⟩:=str_cells rfl hb
 have HB:=Lib.hid hB
 clear hb hb0 hB
 go_wp2_with fail
 refine (KD.out _).mono ?_
 rintro e' w2 ⟨rfl,rfl⟩
 go_wp2
 all_goals exact bodyPost_ret (v:=.agg #[.int .i64 ep,.string (U),.string ({ data:=#[] })]) (by simp [results,Tryz.results181,go_sem,c0,c1,c2]) rfl ⟨rfl,by repeat (first|exact HB.out|with_reducible refine Below.drew ?_|with_reducible refine Below.setCell ?_ (by simp) _)⟩
theorem split_none_some (s:ByteArray) (j:Nat) (w:World) (hs:s.size≤65536) (E:Env w) (h1:firstI (B s) 0=none) (h2:lastI (B s) (s).size=some j) :
  Calls Tryz.prog 181 #[.string s] w fun e' w'=>e'=.returned (.agg #[.int .i64 (splE s),.string (mk (dashU (colU (B s)))),.string (mk (dashR (colU (B s))))])∧Below w.heap.size w w':=by
 have KC:=Lib.hid (fun w E=>cut_none h1 w hs E)
 have hU:s.size≤65536:=hs
 have XE:=Lib.hid (show splE s=0 by unfold splE;rw [h1])
 have XC:=Lib.hid (show colU (B s)=B s by unfold colU;rw [h1])
 have KD:=Lib.hid (fun w=>dash_some h2 w hU)
 have XD:=Lib.hid (dashU_some h2)
 have hj:=lastI_lt h2
 have hj0:(0:Int)≤(j:Int):=by omega
 rw [XE.out,XC.out,XD.out.1,XD.out.2]
 have HE:=Lib.hid E
 clear h1 h2 E XE XC XD
 go_enter Tryz.func181,Tryz.ntmps181
 go_wp2_with fail
 refine (KC.out _ ((HE.out.alloc _).alloc _)).mono ?_
 rintro e' w1 ⟨rfl,n,rfl⟩
 obtain ⟨w1,hw1⟩:∃w1,w1=((w.alloc (.cells #[.int .i64 0,.string { data:=#[] },.string { data:=#[] }] 151)).alloc (.cells #[.int .i64 0,.string { data:=#[] },.string { data:=#[] }] 151)).drewN n:=⟨_,rfl⟩
 have hb:=bel_d (Below.refl _ ((w.alloc (.cells #[.int .i64 0,.string { data:=#[] },.string { data:=#[] }] 151)).alloc (.cells #[.int .i64 0,.string { data:=#[] },.string { data:=#[] }] 151))) n
 rw [←hw1] at hb
 rw [←hw1]
 obtain ⟨⟨c0,c1,c2⟩,⟨f0,f1,f2⟩,⟨d0,d1,d2⟩,⟨g0,g1,g2⟩,hB⟩:=str_cells rfl hb
 have HB:=Lib.hid hB
 clear hb hB hw1
 go_wp2_with fail
 refine (KD.out _).mono ?_
 rintro e' w2 ⟨rfl,rfl⟩
 go_wp2
 go_region
 all_goals go_wp2
 generalize hX:s.extract 0 j=X at *
 generalize hY:s.extract (j+1) s.size=Y at *
 clear hX hY
 obtain ⟨V2,hV2⟩:∃V2,V2=(((w1.setCell ⟨w.heap.size+1,1,none⟩ (.string s))).setCell ⟨w.heap.size+1,1,none⟩ (.string X)).setCell ⟨w.heap.size+1,2,none⟩ (.string Y):=⟨_,rfl⟩
 have k0:V2.cell? ⟨w.heap.size,0,none⟩=some (.int .i64 0):=by rw [hV2];simp [go_sem,c0]
 have k1:V2.cell? ⟨w.heap.size,1,none⟩=some (.string { data:=#[] }):=by rw [hV2];simp [go_sem,c1]
 have k2:V2.cell? ⟨w.heap.size,2,none⟩=some (.string { data:=#[] }):=by rw [hV2];simp [go_sem,c2]
 have kB:Below w.heap.size w V2:=by rw [hV2];repeat (first|exact HB.out|with_reducible refine Below.setCell ?_ (by simp) _)
 rw [←hV2]
 clear hV2
 obtain ⟨e0,e1,e2,bW⟩:=fin3 (x:=.int .i64 0) (y:=.string X) (z:=.string Y) kB k0 k1 k2
 exact bodyPost_ret (v:=.agg #[.int .i64 0,.string X,.string Y]) (by simp [results,Tryz.results181,go_sem,e0,e1,e2]) rfl ⟨rfl,bW.drew⟩
theorem split_none_none (s:ByteArray) (w:World) (hs:s.size≤65536) (E:Env w) (h1:firstI (B s) 0=none) (h2:lastI (B s) (s).size=none) :
  Calls Tryz.prog 181 #[.string s] w fun e' w'=>e'=.returned (.agg #[.int .i64 (splE s),.string (mk (dashU (colU (B s)))),.string (mk (dashR (colU (B s))))])∧Below w.heap.size w w':=by
 have KC:=Lib.hid (fun w E=>cut_none h1 w hs E)
 have hU:s.size≤65536:=hs
 have XE:=Lib.hid (show splE s=0 by unfold splE;rw [h1])
 have XC:=Lib.hid (show colU (B s)=B s by unfold colU;rw [h1])
 have KD:=Lib.hid (fun w=>dash_none h2 w hU)
 have XD:=Lib.hid (dashU_none h2)
 rw [XE.out,XC.out,XD.out.1,XD.out.2]
 have HE:=Lib.hid E
 clear h1 h2 E XE XC XD
 go_enter Tryz.func181,Tryz.ntmps181
 go_wp2_with fail
 refine (KC.out _ ((HE.out.alloc _).alloc _)).mono ?_
 rintro e' w1 ⟨rfl,n,rfl⟩
 obtain ⟨w1,hw1⟩:∃w1,w1=((w.alloc (.cells #[.int .i64 0,.string { data:=#[] },.string { data:=#[] }] 151)).alloc (.cells #[.int .i64 0,.string { data:=#[] },.string { data:=#[] }] 151)).drewN n:=⟨_,rfl⟩
 have hb:=bel_d (Below.refl _ ((w.alloc (.cells #[.int .i64 0,.string { data:=#[] },.string { data:=#[] }] 151)).alloc (.cells #[.int .i64 0,.string { data:=#[] },.string { data:=#[] }] 151))) n
 rw [←hw1] at hb
 rw [←hw1]
 obtain ⟨⟨c0,c1,c2⟩,⟨f0,f1,f2⟩,⟨d0,d1,d2⟩,⟨g0,g1,g2⟩,hB⟩:=str_cells rfl hb
 have HB:=Lib.hid hB
 clear hb hB hw1
 go_wp2_with fail
 refine (KD.out _).mono ?_
 rintro e' w2 ⟨rfl,rfl⟩
 go_wp2
 all_goals exact bodyPost_ret (v:=.agg #[.int .i64 0,.string (s),.string ({ data:=#[] })]) (by simp [results,Tryz.results181,go_sem,c0,c1,c2]) rfl ⟨rfl,by repeat (first|exact HB.out|with_reducible refine Below.drew ?_|with_reducible refine Below.setCell ?_ (by simp) _)⟩
theorem vsplit_any (s:ByteArray) (w:World) (hs:s.size≤65536) (E:Env w) :
  Calls Tryz.prog 181 #[.string s] w fun e' w'=>e'=.returned (.agg #[.int .i64 (splE s),.string (mk (dashU (colU (B s)))),.string (mk (dashR (colU (B s))))])∧Below w.heap.size w w':=by
 cases h1:firstI (B s) 0 with
 | none=>
  cases h2:lastI (B s) s.size with
  | none=>exact split_none_none s w hs E h1 h2
  | some j=>exact split_none_some s j w hs E h1 h2
 | some i=>
  cases h2:lastI (B (mk ((B s).drop (i+1)))) (mk ((B s).drop (i+1))).size with
  | none=>exact split_some_none s i w hs E h1 h2
  | some j=>exact split_some_some s i j w hs E h1 h2
theorem firstI_none:∀(l:List Nat) (n:Nat),(∀c ∈ l,c≠58)→firstI l n=none
 | [],_,_=>rfl
 | c::l,n,h=>by
  show (if c=58 then some n else firstI l (n+1))=none
  rw [if_neg (h c (by simp))]
  exact firstI_none l _ (fun d hd=>h d (by simp [hd]))
theorem firstI_at:∀(a b:List Nat) (n:Nat),(∀c ∈ a,c≠58)→firstI (a++58::b) n=some (n+a.length)
 | [],b,n,_=>rfl
 | c::a,b,n,h=>by
  show (if c=58 then some n else firstI (a++58::b) (n+1))=_
  rw [if_neg (h c (by simp)),firstI_at a b _ (fun d hd=>h d (by simp [hd])),List.length_cons]
  congr 1;omega
theorem numF_dec:∀(f n:Nat) (l:List Nat),n < f→(decF f n l).foldl (fun n c=>10*n+(c - 48)) 0=l.foldl (fun n c=>10*n+(c - 48)) n
 | 0,_,_,h=>by omega
 | f+1,n,l,h=>by
  simp only [decF]
  split
  ·simp only [List.foldl_cons];congr 1;omega
  ·rw [numF_dec f (n / 10) _ (by omega)]
   simp only [List.foldl_cons];congr 1;omega
theorem numV_dec (n:Nat):numV (decL n)=n:=by unfold numV decL;rw [numF_dec _ _ _ (by omega)];rfl
theorem decF_short:∀(f n k:Nat) (l:List Nat),n < 10 ^ (k+1)→(decF f n l).length≤k+1+l.length
 | 0,_,_,l,_=>by simp only [decF];omega
 | f+1,n,k,l,h=>by
  simp only [decF]
  split
  ·simp;omega
  ·match k with
   | 0=>simp at h;omega
   | k+1=>
    have:=decF_short f (n / 10) k ((48+n % 10)::l) (by rw [Nat.pow_succ] at h;omega)
    simp at this;omega
theorem decF_dig2:∀(f n:Nat) (l:List Nat),(∀c ∈ l,digB c=true)→∀c ∈ decF f n l,digB c=true
 | 0,_,_,h=>h
 | f+1,n,l,h=>by
  simp only [decF]
  split
  ·intro c hc
   rcases List.mem_cons.1 hc with rfl|hc
   ·simp only [digB,decide_eq_true_eq];omega
   ·exact h c hc
  ·refine decF_dig2 f _ _ (fun c hc=>?_)
   rcases List.mem_cons.1 hc with rfl|hc
   ·simp only [digB,decide_eq_true_eq];omega
   ·exact h c hc
theorem decF_ne2:∀(f n:Nat) (l:List Nat),l≠[]→decF f n l≠[]
 | 0,_,_,h=>h
 | f+1,n,l,h=>by
  simp only [decF]
  split
  ·simp
  ·exact decF_ne2 f _ _ (by simp)
theorem decL_ne2 (n:Nat):decL n≠[]:=by
 unfold decL
 simp only [decF]
 split
 ·simp
 ·exact decF_ne2 _ _ _ (by simp)
theorem numL_dec (n:Nat) (h:n≤999999999):numL (decL n)=n:=by
 unfold numL
 have h9:=decF_short (n+1) n 8 [] (by omega)
 rw [if_pos ⟨decL_ne2 n,by simpa [decL] using h9,List.all_eq_true.2 (decF_dig2 _ _ _ (by simp)),by rw [numV_dec]⟩,numV_dec]
theorem colons {e:Int} {u r:List Nat} (h:rightB e u r=true):colE (textL e.toNat u r)=e∧colU (textL e.toNat u r)=u++(if r=[] then [] else 45::r):=by
 obtain ⟨h0,h1⟩:=rightB_epoch h
 have h':=h
 unfold rightB at h'
 simp only [Bool.and_eq_true,Bool.not_eq_true',Bool.and_eq_false_iff] at h'
 obtain ⟨⟨⟨⟨⟨⟨_,_⟩,_⟩,h58⟩,hu⟩,hr⟩,_⟩:=h'
 by_cases he:e=0
 ·subst he
  have hu58:∀c ∈ u,c≠58:=by
   rintro c hc rfl
   rcases h58 with h58|h58
   ·unfold hasB at h58
    rw [Bool.eq_false_iff] at h58
    exact h58 (List.contains_iff_mem.2 hc)
   ·exact absurd h58 (by decide)
  have hr58:∀c ∈ r,c≠58:=by
   rintro c hc rfl
   exact absurd (List.all_eq_true.1 hr 58 hc) (by decide)
  have e1:textL (0:Int).toNat u r=u++(if r=[] then [] else 45::r):=by unfold textL;rw [if_pos (show (0:Int).toNat=0 from rfl),List.nil_append]
  have hno:∀c ∈ u++(if r=[] then [] else 45::r),c≠58:=by
   intro c hc
   rcases List.mem_append.1 hc with hc|hc
   ·exact hu58 c hc
   ·split at hc
    ·cases hc
    ·rcases List.mem_cons.1 hc with rfl|hc
     ·decide
     ·exact hr58 c hc
  rw [e1]
  unfold colE colU
  rw [firstI_none _ 0 hno]
  exact ⟨rfl,rfl⟩
 ·have e1:textL e.toNat u r=decL e.toNat++58::(u++(if r=[] then [] else 45::r)):=by unfold textL;rw [if_neg (by omega)];simp
  have hno:∀c ∈ decL e.toNat,c≠58:=by
   rintro c hc rfl
   exact absurd (decF_dig2 _ _ _ (by simp) 58 hc) (by decide)
  rw [e1]
  unfold colE colU
  rw [firstI_at _ _ 0 hno]
  refine ⟨?_,?_⟩
  ·show numL (List.take (0+(decL e.toNat).length) _)=e
   rw [Nat.zero_add,List.take_left,numL_dec _ (by omega)];omega
  ·show List.drop (0+(decL e.toNat).length+1) _=_
   rw [Nat.zero_add,List.drop_length_add_append];rfl
def trim0:List Nat→List Nat
 | 48::58::q=>q
 | l=>l
theorem trim0_is (l:List Nat):(∃q,l=48::58::q∧trim0 l=q)∨((∀q,l≠48::58::q)∧trim0 l=l):=by
 match l with
 | []=>exact .inr ⟨(fun _ h=>by cases h),rfl⟩
 | [a]=>exact .inr ⟨(fun _ h=>by cases h),by unfold trim0;split<;>simp_all⟩
 | a::b::q=>
  by_cases h:a=48∧b=58
  ·obtain ⟨rfl,rfl⟩:=h
   exact .inl ⟨q,rfl,rfl⟩
  ·refine .inr ⟨fun q' hq=>h (by injection hq with h1 h2;injection h2 with h2 _;exact ⟨h1,h2⟩),?_⟩
   unfold trim0
   split
   ·rename_i q' hq
    exact absurd (by injection hq with h1 h2;injection h2 with h2 _;exact ⟨h1,h2⟩) h
   ·rfl
theorem uint_dig:∀(l:List Nat) (acc:Nat),(∀c ∈ l,digB c=true)→(acc+1)*10 ^ l.length≤1000000000000→Lib.parseUint10 acc (l.map UInt8.ofNat)=.ok (l.foldl (fun n c=>10*n+(c - 48)) acc)
 | [],acc,_,_=>rfl
 | c::l,acc,hd,hb=>by
  have hc:=digB_iff.1 (hd c (by simp))
  have e:(UInt8.ofNat c).toNat=c:=by rw [UInt8.toNat_ofNat'];exact Nat.mod_eq_of_lt (by omega)
  have hp:1≤10 ^ l.length:=Nat.one_le_pow _ _ (by omega)
  have h10:(acc+1)*10 ^ (l.length+1)=(10*acc+10)*10 ^ l.length:=by rw [Nat.pow_succ,Nat.mul_comm (10 ^ l.length) 10,←Nat.mul_assoc];congr 1;omega
  have hb':(acc+1)*10 ^ (l.length+1)≤1000000000000:=hb
  rw [h10] at hb'
  have hle:(10*acc+(c - 48)+1)*10 ^ l.length≤1000000000000:=Nat.le_trans (Nat.mul_le_mul_right _ (by omega)) hb'
  have hacc:10*acc+10≤1000000000000:=Nat.le_trans (Nat.le_mul_of_pos_right _ hp) hb'
  simp only [List.map_cons,Lib.parseUint10,List.foldl_cons,e]
  rw [if_pos ⟨hc.1,hc.2⟩,if_neg (by omega),if_neg (by omega),show acc*10+(c - 48)=10*acc+(c - 48) by omega]
  exact uint_dig l _ (fun x hx=>hd x (by simp [hx])) hle
theorem data_mk (l:List Nat):(mk l).data.toList=l.map UInt8.ofNat:=rfl
theorem atoi_num {p:List Nat} {n:Int} (h:numL p=n) (h0:0≤n):atoiV (mk p)=n:=by
 unfold numL at h
 split at h
 ·rename_i hc
  obtain ⟨hne,hlen,hall,hdec⟩:=hc
  have hd:∀c ∈ p,digB c=true:=List.all_eq_true.1 hall
  have hlt:=numV_lt p hd
  have hpow:10 ^ p.length≤10 ^ 9:=Nat.pow_le_pow_right (by omega) hlen
  have hU:Lib.parseMag (p.map UInt8.ofNat)=.ok (numV p):=by
   unfold Lib.parseMag
   rw [if_neg (by simpa using hne)]
   exact uint_dig p 0 hd (by omega)
  unfold atoiV
  rw [data_mk]
  match p,hne,hd,hU,h,hlt,hpow with
  | c::q,_,hd,hU,h,hlt,hpow=>
   have hc:=digB_iff.1 (hd c (by simp))
   have e:(UInt8.ofNat c).toNat=c:=by rw [UInt8.toNat_ofNat'];exact Nat.mod_eq_of_lt (by omega)
   have hA:Lib.atoiAll ((c::q).map UInt8.ofNat)=.ok (numV (c::q):Int):=by
    rw [List.map_cons] at hU ⊢
    simp only [Lib.atoiAll,e]
    rw [if_neg (by omega),hU]
    simp only
    rw [if_neg (by omega),if_neg (by omega),if_neg (by omega)]
   rw [hA]
   exact h
 ·omega
theorem zero_num:numL [48]=0:=by decide
theorem first_zero (q:List Nat):firstI (48::58::q) 0=some 1:=rfl
theorem spl_zero {s:ByteArray} {q:List Nat} (h:B s=48::58::q):splE s=0∧colE (B s)=0:=by
 constructor
 ·unfold splE;rw [h,first_zero];exact atoi_num zero_num (by omega)
 ·unfold colE;rw [h,first_zero];exact zero_num
def devB (s:ByteArray):Bool:=rightB (splE s) (dashU (colU (B s))) (dashR (colU (B s)))&&decide (trim0 (B s)=textL (splE s).toNat (dashU (colU (B s))) (dashR (colU (B s))))
theorem textL_zero (u r:List Nat):textL 0 u r=u++(if r=[] then [] else 45::r):=by simp [textL]
theorem dev_is (s:ByteArray):devB s=parseB (B s)∧(devB s=true→splE s=colE (B s)):=by
 have h1:devB s=true→splE s=colE (B s)∧parseB (B s)=true:=by
  intro h
  unfold devB at h
  simp only [Bool.and_eq_true,decide_eq_true_eq] at h
  obtain ⟨hr,ht⟩:=h
  rcases trim0_is (B s) with ⟨q,hq,e⟩|⟨_,e⟩
  ·obtain ⟨z1,z2⟩:=spl_zero hq
   refine ⟨by rw [z1,z2],?_⟩
   rw [z1] at hr ht
   unfold parseB
   rw [z2,hr,Bool.true_and,Bool.or_eq_true,decide_eq_true_eq,decide_eq_true_eq]
   rw [e] at ht
   exact .inr (by rw [←ht];exact hq.symm)
  ·rw [e] at ht
   have hc:=(colons hr).1
   rw [←ht] at hc
   refine ⟨hc.symm,?_⟩
   unfold parseB
   rw [hc,hr,Bool.true_and,Bool.or_eq_true,decide_eq_true_eq,decide_eq_true_eq]
   exact .inl ht.symm
 have h2:parseB (B s)=true→devB s=true:=by
  intro h
  unfold parseB at h
  simp only [Bool.and_eq_true,Bool.or_eq_true,decide_eq_true_eq] at h
  obtain ⟨hr,ht⟩:=h
  have h0:=(rightB_epoch hr).1
  have hE:splE s=colE (B s):=by
   unfold splE
   generalize hc:colE (B s)=c at *
   unfold colE at hc
   cases hf:firstI (B s) 0 with
   | none=>rw [hf] at hc;exact hc
   | some i=>rw [hf] at hc;exact atoi_num hc h0
  unfold devB
  rw [hE,hr,Bool.true_and,decide_eq_true_eq]
  rcases trim0_is (B s) with ⟨q,hq,e⟩|⟨hno,e⟩
  ·obtain ⟨_,z2⟩:=spl_zero hq
   rw [e]
   rcases ht with ht|ht
   ·exfalso
    have hc:=(colons hr).2
    rw [z2] at hc ht
    rw [show (0:Int).toNat=0 from rfl] at hc ht
    rw [←textL_zero,ht] at hc
    rw [hq] at hc
    have:colU (48::58::q)=q:=rfl
    rw [this] at hc
    have:=congrArg List.length hc
    simp at this
    omega
   ·rw [hq] at ht
    injection ht with _ ht
    injection ht with _ ht
    rw [hq]
    exact ht.symm
  ·rw [e]
   rcases ht with ht|ht
   ·exact ht.symm
   ·exact absurd ht.symm (hno _)
 refine ⟨?_,fun h=>(h1 h).1⟩
 cases hd:devB s
 ·cases hp:parseB (B s)
  ·rfl
  ·rw [h2 hp] at hd;cases hd
 ·exact (h1 hd).2.symm
theorem trimP_is (s:ByteArray):(⟨(Lib.trimPrefix s.data.toList [48,58]).toArray⟩:ByteArray)=mk (trim0 (B s)):=by
 apply eq_mk
 unfold Lib.trimPrefix Lib.hasPrefix B
 match hl:s.data.toList with
 | []=>rfl
 | [a]=>
  have:([48,58]:List UInt8).isPrefixOf [a]=false:=by simp [List.isPrefixOf]
  rw [this]
  simp only [Bool.false_eq_true,if_false,List.map_cons,List.map_nil]
  unfold trim0;split<;>simp_all
 | a::b::q=>
  rcases trim0_is ((a::b::q).map UInt8.toNat) with ⟨q',hq,e⟩|⟨hno,e⟩
  ·simp only [List.map_cons] at hq
   injection hq with h1 h2
   injection h2 with h2 h3
   have ha:a=48:=UInt8.toNat_inj.1 h1
   have hb:b=58:=UInt8.toNat_inj.1 h2
   subst ha;subst hb
   rw [e,←h3]
   simp [List.isPrefixOf]
  ·rw [e]
   have:([48,58]:List UInt8).isPrefixOf (a::b::q)=false:=by
    rw [Bool.eq_false_iff]
    intro hh
    simp only [List.isPrefixOf,Bool.and_eq_true,beq_iff_eq] at hh
    exact hno (q.map UInt8.toNat) (by rw [←hh.1,←hh.2.1];rfl)
   rw [this]
   simp
theorem keep_cell {w w1:World} (h:Below w.heap.size w w1) {b o:Nat} {v:Value} (hc:w.cell? ⟨b,o,none⟩=some v):w1.cell? ⟨b,o,none⟩=some v:=by
 rw [h.cell (World.block_lt_of_cell? _ _ hc)];exact hc
end Go.Proofs.YtboinnjncaehkaaGreatDoor
