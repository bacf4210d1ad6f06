/- What the laws rest on: VD3, VD4, VD5, VD6, VD7, VD8, VD9, VD10, VD11, VD6f. -/
import Derived.Lib.AtoiErrMem
import Derived.Test.YtpilmhoakopcaaaGreatDoorQAIZC
import Derived.Test.YtpilmhoakopcaaaGreatDoorQALZC
set_option maxRecDepth 100000
set_option linter.unusedVariables false
set_option linter.unusedSimpArgs false
namespace Go.Proofs.YtpilmhoakopcaaaGreatDoor
open Go.RowKit
theorem vnum_anyD (s t:ByteArray) (w:World) (hs:s.size≤9223372036854775807) (ht:t.size≤9223372036854775807) :
  Calls Tryz.prog 182 #[.string s,.string t] w fun e w'=>e=.returned (.int .i64 (numC (dz (B s)) (dz (B t))))∧BelD w.heap.size w w':=by
 have X:=Lib.hid (show orL [sgn (((mk (dz (B s))).size:Int) - (mk (dz (B t))).size),csV (mk (dz (B s))) (mk (dz (B t)))]=numC (dz (B s)) (dz (B t)) by
  rw [or_numC,B_mk (dz_lt (B_lt s)),B_mk (dz_lt (B_lt t))])
 have b1:(mk (dz (B s))).size≤9223372036854775807:=by rw [size_mk];have:=dz_len (B s);rw [B_len] at this;omega
 have b2:(mk (dz (B t))).size≤9223372036854775807:=by rw [size_mk];have:=dz_len (B t);rw [B_len] at this;omega
 have T1:=Lib.hid (trimL_any s w)
 have T2:=Lib.hid (trimL_any t w)
 have C1:=Lib.hid (cmpInt_any)
 generalize mk (dz (B s))=x at *
 generalize mk (dz (B t))=y at *
 generalize numC (dz (B s)) (dz (B t))=z at *
 have C2:=Lib.hid (cmpStr_any x y)
 go_enter Tryz.func182,Tryz.ntmps182
 go_wp2_with (first|(go_at_call 196;(with_reducible refine T1.out.mono ?_);rintro e w' ⟨rfl,rfl⟩)|(go_at_call 196;(with_reducible refine T2.out.mono ?_);rintro e w' ⟨rfl,rfl⟩)|(go_at_call 161;(with_reducible refine (C1.out _ _ _).mono ?_);rintro e w' ⟨rfl,rfl⟩)|(go_at_call 120;(with_reducible refine (C2.out _).mono ?_);rintro e w' ⟨rfl,rfl⟩))
 refine (or_any w.heap.size 2 [sgn ((x.size:Int) - y.size),csV x y] _ rfl (by decide) ?_).mono ?_
 ·intro k hk
  rcases (by omega:k=0∨k=1) with rfl|rfl<;>simp [go_sem]
 rintro e w' ⟨rfl,rfl⟩
 rw [X.out]
 go_wp2
 go_ret
 exact ⟨rfl,(BelD.refl _ w).alloc (Nat.le_refl _) _⟩
theorem bel_drD {N:Nat} {a w:World} (h:BelD N a w) (n:Nat):BelD N a (w.drewN n):=h.drewN n
def RelTD (s t:ByteArray) (w:World) (a b:Value) (wr:World):Prop:=
 ∃x y:ByteArray,a=.string x∧b=.string y∧x.size≤s.size∧y.size≤t.size∧cmpS (B s) (B t)=cmpS (B x) (B y)∧BelD w.heap.size w wr
theorem vcmp_anyD (s t:ByteArray) (w:World) (hs:s.size≤9223372036854775807) (ht:t.size≤9223372036854775807) :
  Calls Tryz.prog 162 #[.string s,.string t] w fun e w'=>e=.returned (.int .i64 (cmpS (B s) (B t)))∧BelD w.heap.size w w':=by
 go_enter Tryz.func162,Tryz.ntmps162
 go_wp2
 go_loopw [0,1] (fun a b wr=>RelTD s t w a b wr) (fun a b _=>sizeV a+sizeV b)
 case atStart=>exact ⟨s,t,rfl,rfl,Nat.le_refl _,Nat.le_refl _,rfl,BelD.refl _ _⟩
 case round=>
  obtain ⟨x,y,rfl,rfl,hx,hy,hr,hb⟩:=hrel
  have HR:=Lib.hid hr
  have HV:=Lib.hid (vround x y)
  have HB:=Lib.hid hb
  clear hr hb
  have dec:(x.toList.isEmpty=true∧y.toList.isEmpty=true)∨(x.toList.isEmpty=false∨(x.toList.isEmpty=true∧y.toList.isEmpty=false)):=by
   cases x.toList.isEmpty<;>cases y.toList.isEmpty<;>simp
  rcases dec with ⟨h1,h2⟩|hne
  ·have X:=Lib.hid (show cmpS (B s) (B t)=0 by rw [HR.out,(empty_iff x).1 h1,(empty_iff y).1 h2];rfl)
   go_wp2
   go_ret
   exact ⟨by rw [X.out];rfl,HB.out⟩
  ·have hpos:(rS x).size+(rS y).size < x.size+y.size:=by
    rcases hne with h|⟨_,h⟩
    ·have:=rS_lt (ne_of h);have:=len_rS y;omega
    ·have:=rS_lt (ne_of h);have:=len_rS x;omega
   have lx:=len_rS x
   have ly:=len_rS y
   have K1:=Lib.hid (fun w=>cut_word x w (by omega))
   have K2:=Lib.hid (fun w=>cut_word y w (by omega))
   have K3:=Lib.hid (fun w=>cut_num x w (by omega))
   have K4:=Lib.hid (fun w=>cut_num y w (by omega))
   have K5:=Lib.hid (fun w=>words_anyD (wS x) (wS y) w (by have:=len_wS x;omega) (by have:=len_wS y;omega))
   have K6:=Lib.hid (fun w=>vnum_anyD (nS x) (nS y) w (by have:=len_nS x;omega) (by have:=len_nS y;omega))
   generalize cwL (B (wS x)) (B (wS y))=c1 at *
   generalize numC (dz (B (nS x))) (dz (B (nS y)))=c2 at *
   rcases hne with h|⟨h',h⟩
   all_goals
    go_wp2_with fail
    refine (K1.out _).mono ?_
    rintro e w1 ⟨rfl,n1,rfl⟩
    go_wp2_with fail
    refine (K2.out _).mono ?_
    rintro e w1 ⟨rfl,n2,rfl⟩
    go_wp2_with fail
    refine (K3.out _).mono ?_
    rintro e w1 ⟨rfl,n3,rfl⟩
    go_wp2_with fail
    refine (K4.out _).mono ?_
    rintro e w1 ⟨rfl,n4,rfl⟩
    go_wp2_with fail
    refine (K5.out _).mono ?_
    rintro e w1 ⟨rfl,hb1⟩
    go_wp2_with fail
    refine (K6.out _).mono ?_
    rintro e w2 ⟨rfl,hb2⟩
    go_wp2_with fail
    refine (or_any w2.heap.size 2 [c1,c2] _ rfl (by decide) ?_).mono ?_
    ·intro k hk
     rcases (by omega:k=0∨k=1) with rfl|rfl<;>simp [go_sem]
    rintro e w' ⟨rfl,rfl⟩
    have B1:=Lib.hid (show BelD w.heap.size w w1 from (bel_drD HB.out (n1+n2+n3+n4)).trans (hb1.mono (by simpa using HB.out.size)))
    have B2:=Lib.hid (show BelD w.heap.size w (w2.alloc (.cells #[.int .i64 c1,.int .i64 c2] 3)) from (B1.out.trans (hb2.mono B1.out.size)).alloc (Nat.le_trans B1.out.size hb2.size) _)
    clear hb1 hb2
    by_cases hz:orL [c1,c2]=0
    ·have t1:(orL [c1,c2] != 0)=false:=by rw [bne_eq_false_iff_eq];exact hz
     have X:=Lib.hid (show cmpS (B s) (B t)=cmpS (B (rS x)) (B (rS y)) by rw [HR.out,HV.out,if_neg (by simp [hz])])
     clear hz
     go_wp2
     go_roundw
     case rel=>exact ⟨_,_,rfl,rfl,by omega,by omega,X.out,B2.out⟩
     case measure=>exact hpos
    ·have t1:(orL [c1,c2] != 0)=true:=by rw [bne_iff_ne];exact hz
     have X:=Lib.hid (show cmpS (B s) (B t)=orL [c1,c2] by rw [HR.out,HV.out,if_pos hz])
     clear hz
     go_wp2
     go_ret
     exact ⟨by rw [X.out];rfl,B2.out⟩
theorem keep_cellD {w w1:World} (h:BelD w.heap.size w w1) {b o:Nat} {v:Value} (hc:w.cell? ⟨b,o,none⟩=some v):w1.cell? ⟨b,o,none⟩=some v:=by
 rw [h.cell (World.block_lt_of_cell? _ _ hc)];exact hc
theorem bel_alD {V W:World} {o:Obj} (h:BelD V.heap.size V W):BelD V.heap.size V (W.alloc o):=h.alloc h.size o
theorem bel_trD {w V W:World} (h:BelD w.heap.size w V) (h2:BelD V.heap.size V W):BelD w.heap.size w W:=h.trans (h2.mono h.size)
set_option maxHeartbeats 1000000 in
theorem vcompare_anyD (e1 e2:Int) (u1 r1 u2 r2:ByteArray) (w:World) (h1:u1.size≤9223372036854775807) (h2:r1.size≤9223372036854775807) (h3:u2.size≤9223372036854775807) (h4:r2.size≤9223372036854775807) :
  Calls Tryz.prog 147 #[.agg #[.int .i64 e1,.string u1,.string r1],.agg #[.int .i64 e2,.string u2,.string r2]] w fun e' w'=>e'=.returned (.int .i64 (cmpV e1 (B u1) (B r1) e2 (B u2) (B r2)))∧BelD w.heap.size w w':=by
 have X:=Lib.hid (cmpV_or e1 (B u1) (B r1) e2 (B u2) (B r2))
 have K1:=Lib.hid (fun w=>vcmp_anyD u1 u2 w h1 h3)
 have K2:=Lib.hid (fun w=>vcmp_anyD r1 r2 w h2 h4)
 have K0:=Lib.hid (cmpInt_any e1 e2)
 generalize cmpS (B u1) (B u2)=c1 at *
 generalize cmpS (B r1) (B r2)=c2 at *
 generalize sgn (e1 - e2)=c0 at *
 generalize cmpV e1 (B u1) (B r1) e2 (B u2) (B r2)=c at *
 go_enter Tryz.func147,Tryz.ntmps147
 go_wp2_with fail
 obtain ⟨V,hV⟩:∃V,V=(w.alloc (.cells #[.int .i64 e1,.string u1,.string r1] 158)).alloc (.cells #[.int .i64 e2,.string u2,.string r2] 158):=⟨_,rfl⟩
 have a0:V.cell? ⟨w.heap.size,0,none⟩=some (.int .i64 e1):=by rw [hV];simp [go_sem]
 have a1:V.cell? ⟨w.heap.size,1,none⟩=some (.string u1):=by rw [hV];simp [go_sem]
 have a2:V.cell? ⟨w.heap.size,2,none⟩=some (.string r1):=by rw [hV];simp [go_sem]
 have b0:V.cell? ⟨w.heap.size+1,0,none⟩=some (.int .i64 e2):=by rw [hV];simp [go_sem]
 have b1:V.cell? ⟨w.heap.size+1,1,none⟩=some (.string u2):=by rw [hV];simp [go_sem]
 have b2:V.cell? ⟨w.heap.size+1,2,none⟩=some (.string r2):=by rw [hV];simp [go_sem]
 have hB:BelD w.heap.size w V:=by rw [hV];exact ((BelD.refl _ w).alloc (Nat.le_refl _) _).alloc (by simp) _
 have bb:=(BelD.refl V.heap.size V).drew
 rw [←hV]
 clear hV
 go_region_held3 (fun W=>W.cell? ⟨w.heap.size,0,none⟩=some (.int .i64 e1)∧W.cell? ⟨w.heap.size,1,none⟩=some (.string u1)∧W.cell? ⟨w.heap.size,2,none⟩=some (.string r1)∧W.cell? ⟨w.heap.size+1,0,none⟩=some (.int .i64 e2)∧W.cell? ⟨w.heap.size+1,1,none⟩=some (.string u2)∧W.cell? ⟨w.heap.size+1,2,none⟩=some (.string r2)∧BelD V.heap.size V W)
  (first|(go_split_ands;refine ⟨?_,?_,?_,?_,?_,?_,?_⟩<;>first|assumption|exact keep_cellD hbx (by assumption)|exact cell_old' (by assumption)|exact BelD.trans (by assumption) (hbx.mono (BelD.size (by assumption)))|exact bel_alD (by assumption))|go_keep)
  ((first|(go_at_call 162;(with_reducible refine (K1.out _).mono ?_);rintro e wx ⟨rfl,hbx⟩)|(go_at_call 162;(with_reducible refine (K2.out _).mono ?_);rintro e wx ⟨rfl,hbx⟩)|(go_at_call 161;(with_reducible refine (K0.out _).mono ?_);rintro e wx ⟨rfl,rfl⟩)|(go_at_call 119;(refine (or_any _ 3 [c0,c1,c2] _ rfl (by decide) (three_cells _ _ _ _ _)).mono ?_);rintro e wx ⟨rfl,rfl⟩)))
 all_goals
  go_wp2
  go_ret
  go_split_ands
  exact ⟨by rw [X.out];rfl,bel_trD hB (by assumption)⟩
theorem Env.belD {w w':World} (E:Env w) (h:BelD w.heap.size w w'):Env w':=E.below h.b
theorem box_cellsD {w w1:World} {T:TypeId} {x y z:Value} (h:BelD (w.alloc (.cells #[x,y,z] T)).heap.size (w.alloc (.cells #[x,y,z] T)) w1) :
  w1.cell? ⟨w.heap.size,0,none⟩=some x∧w1.cell? ⟨w.heap.size,1,none⟩=some y∧w1.cell? ⟨w.heap.size,2,none⟩=some z∧w.heap.size+1≤w1.heap.size:=by
 refine ⟨(h.cell (by simp)).trans (by simp),(h.cell (by simp)).trans (by simp),(h.cell (by simp)).trans (by simp),?_⟩
 have:=h.size
 simpa using this
theorem fin3D {w W:World} {a b c x y z:Value} (hb:BelD w.heap.size w W) (h0:W.cell? ⟨w.heap.size,0,none⟩=some a) (h1:W.cell? ⟨w.heap.size,1,none⟩=some b) (h2:W.cell? ⟨w.heap.size,2,none⟩=some c) :
  (((W.setCell ⟨w.heap.size,0,none⟩ x).setCell ⟨w.heap.size,1,none⟩ y).setCell ⟨w.heap.size,2,none⟩ z).cell? ⟨w.heap.size,0,none⟩=some x∧
  (((W.setCell ⟨w.heap.size,0,none⟩ x).setCell ⟨w.heap.size,1,none⟩ y).setCell ⟨w.heap.size,2,none⟩ z).cell? ⟨w.heap.size,1,none⟩=some y∧
  (((W.setCell ⟨w.heap.size,0,none⟩ x).setCell ⟨w.heap.size,1,none⟩ y).setCell ⟨w.heap.size,2,none⟩ z).cell? ⟨w.heap.size,2,none⟩=some z∧
  BelD w.heap.size w (((W.setCell ⟨w.heap.size,0,none⟩ x).setCell ⟨w.heap.size,1,none⟩ y).setCell ⟨w.heap.size,2,none⟩ z):=
 ⟨by simp [go_sem,h0],by simp [go_sem,h1],by simp [go_sem,h2],((hb.setCell (by simp) _).setCell (by simp) _).setCell (by simp) _⟩
theorem itoa_anyD (n:Nat) (w:World) (hn:n≤9223372036854775807) (E:Env w):Calls Tryz.prog 176 #[.int .i64 (n:Int)] w fun e w'=>e=.returned (.string (mk (decL n)))∧BelD w.heap.size w w':=by
 refine (Tryz.strconv_Itoa n (by omega) (by omega) w E.pow).mono ?_
 rintro e w' ⟨rfl,k,os,rfl⟩
 exact ⟨by rw [itoa_is],BelD.grow (Nat.le_refl _) _ _⟩
theorem bel_boxedD {w w1:World} {o:Obj} (h:BelD (w.alloc o).heap.size (w.alloc o) w1):BelD w.heap.size w w1:=((BelD.refl _ w).alloc (Nat.le_refl _) o).trans (h.mono (by simp))
theorem vtext_anyD (e:Nat) (u r:ByteArray) (w:World) (he:e≤1000000000) (hu:u.size≤65536) (hr:r.size≤65536) (E:Env w) :
  Calls Tryz.prog 159 #[.agg #[.int .i64 (e:Int),.string u,.string r]] w fun e' w'=>e'=.returned (.string (mk (textL e (B u) (B r))))∧BelD w.heap.size w w':=by
 have hmk:=decL_len e
 have hsz:(mk (decL e)).size≤1000000001:=by rw [size_mk];omega
 have I:=Lib.hid (itoa_anyD e (w.alloc (.cells #[.int .i64 (e:Int),.string u,.string r] 158)) (by omega) (E.alloc _))
 by_cases h1:e=0
 ·cases h2:r.toList.isEmpty
  ·have t1:((e:Int) != 0)=false:=by rw [bne_eq_false_iff_eq];omega
   have HE:B r≠[]:=fun hh=>by rw [(empty_iff r).2 hh] at h2;cases h2
   have X:=Lib.hid (show u++({ data:=#[45] }++r)=mk (textL e (B u) (B r)) by
    refine eq_mk ?_
    unfold textL
    rw [if_pos h1,if_neg HE]
    simp [B_append,B_dash])
   clear HE h1
   go_enter Tryz.func159,Tryz.ntmps159
   go_wp2
   go_ret
   exact ⟨by rw [←X.out];rfl,(BelD.refl _ w).alloc (Nat.le_refl _) _⟩
  ·have t1:((e:Int) != 0)=false:=by rw [bne_eq_false_iff_eq];omega
   have HE:B r=[]:=(empty_iff r).1 h2
   have X:=Lib.hid (show u=mk (textL e (B u) (B r)) by
    refine eq_mk ?_
    unfold textL
    rw [if_pos h1,if_pos HE]
    simp [B_append])
   clear HE h1
   go_enter Tryz.func159,Tryz.ntmps159
   go_wp2
   go_ret
   exact ⟨by rw [←X.out];rfl,(BelD.refl _ w).alloc (Nat.le_refl _) _⟩
 ·cases h2:r.toList.isEmpty
  ·have t1:((e:Int) != 0)=true:=by rw [bne_iff_ne];omega
   have HE:B r≠[]:=fun hh=>by rw [(empty_iff r).2 hh] at h2;cases h2
   have X:=Lib.hid (show mk (decL e)++{ data:=#[58] }++u++({ data:=#[45] }++r)=mk (textL e (B u) (B r)) by
    refine eq_mk ?_
    unfold textL
    rw [if_neg h1,if_neg HE]
    simp [B_append,B_dash,B_colon,B_mk (decL_lt e)])
   clear HE h1
   go_enter Tryz.func159,Tryz.ntmps159
   go_wp2_with fail
   refine I.out.mono ?_
   rintro e' w1 ⟨rfl,hb⟩
   obtain ⟨c0,c1,c2,hz⟩:=box_cellsD hb
   have hB:=Lib.hid (bel_boxedD hb)
   clear hb
   go_wp2
   go_ret
   exact ⟨by rw [←X.out];rfl,hB.out⟩
  ·have t1:((e:Int) != 0)=true:=by rw [bne_iff_ne];omega
   have HE:B r=[]:=(empty_iff r).1 h2
   have X:=Lib.hid (show mk (decL e)++{ data:=#[58] }++u=mk (textL e (B u) (B r)) by
    refine eq_mk ?_
    unfold textL
    rw [if_neg h1,if_pos HE]
    simp [B_append,B_colon,B_mk (decL_lt e)])
   clear HE h1
   go_enter Tryz.func159,Tryz.ntmps159
   go_wp2_with fail
   refine I.out.mono ?_
   rintro e' w1 ⟨rfl,hb⟩
   obtain ⟨c0,c1,c2,hz⟩:=box_cellsD hb
   have hB:=Lib.hid (bel_boxedD hb)
   clear hb
   go_wp2
   go_ret
   exact ⟨by rw [←X.out];rfl,hB.out⟩
theorem bel_dD {w w1:World} (h:BelD w.heap.size w w1) (n:Nat):BelD w.heap.size w (w1.drewN n):=h.drewN n
theorem bel_boxD (w:World) (o:Obj):BelD w.heap.size w (w.alloc o):=(BelD.refl _ w).alloc (Nat.le_refl _) o
theorem vupstream_anyD (e:Int) (u r:ByteArray) (w:World) (hsz:u.size≤65536) (hrz:r.size≤65536) :
  Calls Tryz.prog 172 #[.agg #[.int .i64 e,.string u,.string r]] w fun e' w'=>e'=.returned (.bool (upB e (B u) (B r)))∧BelD w.heap.size w w':=by
 have KE:=Lib.hid (fun w=>eachU_any u w hsz)
 have K45:=Lib.hid (has45_any u)
 have K58:=Lib.hid (has58_any u)
 cases hu:u.toList.isEmpty
 ·have hs:0 < u.size:=by
   rcases Nat.eq_zero_or_pos u.size with h|h
   ·have:=(empty_iff u).2 (List.eq_nil_of_length_eq_zero (by rw [B_len];exact h))
    rw [hu] at this;cases this
   ·exact h
  have KD:=Lib.hid (vdigit_any u[0].toNat)
  cases hd:digB u[0].toNat
  ·have X:=Lib.hid (show upB e (B u) (B r)=false by unfold upB;rw [headD_at u hs,hd];rfl)
   rw [hd] at KD
   clear hd
   go_enter Tryz.func172,Tryz.ntmps172
   go_wp2_with (go_at_call 180;(with_reducible refine (KD.out _).mono ?_);rintro e' w1 ⟨rfl,rfl⟩)
   go_ret
   exact ⟨by rw [X.out];rfl,bel_boxD _ _⟩
  ·rw [hd] at KD
   have HD:=Lib.hid hd
   clear hd
   cases ha:(B u).all (chB uX)
   ·have X:=Lib.hid (show upB e (B u) (B r)=false by unfold upB;rw [headD_at u hs,HD.out,ha];rfl)
    rw [ha] at KE
    clear ha
    go_enter Tryz.func172,Tryz.ntmps172
    go_wp2_with (first|(go_at_call 180;(with_reducible refine (KD.out _).mono ?_);rintro e' w1 ⟨rfl,rfl⟩)|(go_at_call 173;(with_reducible refine (KE.out _).mono ?_);rintro e' w1 ⟨rfl,n,rfl⟩))
    go_ret
    exact ⟨by rw [X.out];rfl,bel_dD (bel_boxD _ _) _⟩
   ·have X:=Lib.hid (show upB e (B u) (B r)=(!(hasB (B u) 45&&r.toList.isEmpty)&&!(hasB (B u) 58&&(e==0))) by
     unfold upB;rw [headD_at u hs,HD.out,ha]
     have h1:decide (B r=[])=r.toList.isEmpty:=by rw [Bool.eq_iff_iff,decide_eq_true_iff,empty_iff]
     have h2:decide (e=0)=(e==0):=by rw [Bool.eq_iff_iff,decide_eq_true_iff,beq_iff_eq]
     rw [h1,h2];simp)
    rw [ha] at KE
    clear ha
    cases hre:r.toList.isEmpty<;>cases h45:hasB (B u) 45<;>cases h58:hasB (B u) 58<;>cases he0:(e==0)
    all_goals
     have hn0:(e != 0)=!(e==0):=rfl
     rw [he0] at hn0
     rw [h45] at K45
     rw [h58] at K58
     rw [h45,h58,hre,he0] at X
     clear he0 h45 h58
     simp only [Bool.not_true,Bool.not_false] at hn0
     go_enter Tryz.func172,Tryz.ntmps172
     go_wp2_with (first|(go_at_call 180;(with_reducible refine (KD.out _).mono ?_);rintro e' w1 ⟨rfl,rfl⟩)|(go_at_call 173;(with_reducible refine (KE.out _).mono ?_);rintro e' w1 ⟨rfl,n,rfl⟩)|(go_at_call 192;(with_reducible refine (K45.out _).mono ?_);rintro e' w1 ⟨rfl,rfl⟩)|(go_at_call 192;(with_reducible refine (K58.out _).mono ?_);rintro e' w1 ⟨rfl,rfl⟩))
     go_ret
     exact ⟨by rw [X.out];rfl,bel_dD (bel_boxD _ _) _⟩
 ·have X:=Lib.hid (show upB e (B u) (B r)=false by unfold upB;rw [(empty_iff u).1 hu];rfl)
  go_enter Tryz.func172,Tryz.ntmps172
  go_wp2
  go_ret
  exact ⟨by rw [X.out];rfl,bel_boxD _ _⟩
theorem bel_2D {w V W:World} (h:BelD w.heap.size w V) (h2:BelD V.heap.size V W):BelD w.heap.size w W:=h.trans (h2.mono h.size)
theorem vright_anyD (e:Int) (u r:ByteArray) (w:World) (hsz:u.size≤65536) (hrz:r.size≤65536) (E:Env w) :
  Calls Tryz.prog 157 #[.agg #[.int .i64 e,.string u,.string r]] w fun e' w'=>e'=.returned (.bool (rightB e (B u) (B r)))∧BelD w.heap.size w w':=by
 have XR:=Lib.hid (rightB_up e (B u) (B r))
 by_cases h0:0≤e
 ·by_cases h1:e≤999999999
  ·have d0:decide (0≤e)=true:=decide_eq_true h0
   have d1:decide (e≤999999999)=true:=decide_eq_true h1
   have KU:=Lib.hid (fun w=>vupstream_anyD e u r w hsz hrz)
   have KE:=Lib.hid (fun w=>eachR_any r w hrz)
   cases hup:upB e (B u) (B r)
   ·have X:=Lib.hid (show rightB e (B u) (B r)=false by rw [XR.out,hup,Bool.and_false,Bool.false_and,Bool.false_and])
    rw [hup] at KU
    clear hup XR
    go_enter Tryz.func157,Tryz.ntmps157
    go_wp2_with fail
    refine (KU.out _).mono ?_
    rintro e' w1 ⟨rfl,hb⟩
    have hB:=Lib.hid (bel_boxedD hb)
    clear hb
    go_wp2
    go_ret
    exact ⟨by rw [X.out];rfl,hB.out⟩
   ·rw [hup] at KU
    cases ha:(B r).all (chB rX)
    ·have X:=Lib.hid (show rightB e (B u) (B r)=false by rw [XR.out,ha,Bool.and_false,Bool.false_and])
     rw [ha] at KE
     clear ha hup XR
     go_enter Tryz.func157,Tryz.ntmps157
     go_wp2_with fail
     refine (KU.out _).mono ?_
     rintro e' w1 ⟨rfl,hb⟩
     obtain ⟨c0,c1,c2,hz⟩:=box_cellsD hb
     have hB:=Lib.hid (bel_boxedD hb)
     clear hb
     go_wp2_with fail
     refine (KE.out _).mono ?_
     rintro e' w1 ⟨rfl,n,rfl⟩
     go_wp2
     go_ret
     exact ⟨by rw [X.out];rfl,bel_dD hB.out n⟩
    ·obtain ⟨m,rfl⟩:∃m:Nat,e=m:=⟨e.toNat,by omega⟩
     have X:=Lib.hid (show rightB m (B u) (B r)=decide ((mk (textL m (B u) (B r))).size≤60) by
      rw [XR.out,ha,hup,decide_eq_true ⟨h0,h1⟩,size_mk];rfl)
     rw [ha] at KE
     have KT:=Lib.hid (fun w E=>vtext_anyD m u r w (by omega) hsz hrz E)
     clear ha hup XR
     have HE:=Lib.hid E
     clear E
     generalize mk (textL m (B u) (B r))=T at *
     generalize rightB m (B u) (B r)=b at *
     go_enter Tryz.func157,Tryz.ntmps157
     go_wp2_with fail
     refine (KU.out _).mono ?_
     rintro e' w1 ⟨rfl,hb⟩
     obtain ⟨c0,c1,c2,hz⟩:=box_cellsD hb
     have hB:=Lib.hid (bel_boxedD hb)
     clear hb
     go_wp2_with fail
     refine (KE.out _).mono ?_
     rintro e' w2 ⟨rfl,n,rfl⟩
     go_wp2_with fail
     refine (KT.out _ ((HE.out.belD hB.out).drewN n)).mono ?_
     rintro e' w2 ⟨rfl,hb2⟩
     have hB2:=Lib.hid (bel_2D (bel_dD hB.out n) hb2)
     clear hb2
     go_wp2
     go_ret
     refine ⟨?_,hB2.out⟩
     rw [X.out]
     show Ending.returned (.bool (decide ((T.size:Int)≤60)))=.returned (.bool (decide (T.size≤60)))
     rw [decide_eq_decide.2 (show (T.size:Int)≤60↔T.size≤60 by omega)]
  ·have d1:decide (e≤999999999)=false:=decide_eq_false h1
   have X:=Lib.hid (show rightB e (B u) (B r)=false by rw [XR.out,decide_eq_false (by omega)];rfl)
   go_enter Tryz.func157,Tryz.ntmps157
   go_wp2
   go_ret
   exact ⟨by rw [X.out];rfl,bel_boxD _ _⟩
 ·have d0:decide (0≤e)=false:=decide_eq_false h0
  have X:=Lib.hid (show rightB e (B u) (B r)=false by rw [XR.out,decide_eq_false (by omega)];rfl)
  go_enter Tryz.func157,Tryz.ntmps157
  go_wp2
  go_ret
  exact ⟨by rw [X.out];rfl,bel_boxD _ _⟩
theorem BelD.bytes (w:World) (e:TypeId) (s:ByteArray):BelD w.heap.size w (Lib.bytesWorld w e s):=⟨Lib.bytesWorld_below w e s,by show w.drawn≤w.drawn+1;omega⟩
def AtO (s:ByteArray):Prop:=∀i,firstI (B s) 0=some i→∃z,Lib.atoiAll (mk ((B s).take i)).data.toList=.ok z
theorem atoi_anyD (s:ByteArray) (w:World) (hs:s.size≤65536) (ho:∃z,Lib.atoiAll s.data.toList=.ok z) (E:Env w):Calls Tryz.prog 170 #[.string s] w fun e w'=>(∃ev,e=.returned (.tuple #[.int .i64 (atoiV s),ev]))∧BelD w.heap.size w w':=by
 obtain ⟨v,h⟩:=ho
 unfold atoiV
 rw [h]
 refine (Tryz.strconv_Atoi_ok s (by omega) v h w).mono ?_
 rintro e w' ⟨rfl,hw⟩
 refine ⟨⟨_,rfl⟩,?_⟩
 rcases hw with rfl|⟨t,rfl⟩
 ·exact BelD.refl _ _
 ·exact BelD.bytes _ _ _
theorem str_cellsD {w V w1:World} {T T':TypeId} {a b c x y z:Value} (hV:V=(w.alloc (.cells #[a,b,c] T)).alloc (.cells #[x,y,z] T')) (h:BelD V.heap.size V w1) :
  (w1.cell? ⟨w.heap.size,0,none⟩=some a∧w1.cell? ⟨w.heap.size,1,none⟩=some b∧w1.cell? ⟨w.heap.size,2,none⟩=some c)∧
  (w1.frozen? ⟨w.heap.size,0,none⟩=false∧w1.frozen? ⟨w.heap.size,1,none⟩=false∧w1.frozen? ⟨w.heap.size,2,none⟩=false)∧
  (w1.cell? ⟨w.heap.size+1,0,none⟩=some x∧w1.cell? ⟨w.heap.size+1,1,none⟩=some y∧w1.cell? ⟨w.heap.size+1,2,none⟩=some z)∧
  (w1.frozen? ⟨w.heap.size+1,0,none⟩=false∧w1.frozen? ⟨w.heap.size+1,1,none⟩=false∧w1.frozen? ⟨w.heap.size+1,2,none⟩=false)∧BelD w.heap.size w w1:=by
 have hs:V.heap.size=w.heap.size+2:=by rw [hV];simp
 refine ⟨⟨(h.cell (by simp only;omega)).trans ?_,(h.cell (by simp only;omega)).trans ?_,(h.cell (by simp only;omega)).trans ?_⟩,⟨(h.frozen (by simp only;omega)).trans ?_,(h.frozen (by simp only;omega)).trans ?_,(h.frozen (by simp only;omega)).trans ?_⟩,⟨(h.cell (by simp only;omega)).trans ?_,(h.cell (by simp only;omega)).trans ?_,(h.cell (by simp only;omega)).trans ?_⟩,⟨(h.frozen (by simp only;omega)).trans ?_,(h.frozen (by simp only;omega)).trans ?_,(h.frozen (by simp only;omega)).trans ?_⟩,?_⟩
 all_goals first|(rw [hV];simp [go_sem];done)|skip
 have hB:BelD w.heap.size w V:=by rw [hV];exact ((BelD.refl _ w).alloc (Nat.le_refl _) _).alloc (by simp) _
 exact hB.trans (h.mono hB.size)
theorem split_some_someD (s:ByteArray) (i:Nat) (j:Nat) (w:World) (hs:s.size≤65536) (ho:AtO s) (E:Env w) (h1:firstI (B s) 0=some i) (h2:lastI (B (mk ((B s).drop (i+1)))) ((mk ((B s).drop (i+1)))).size=some j) :
  Calls Tryz.prog 156 #[.string s] w fun e' w'=>e'=.returned (.agg #[.int .i64 (splE s),.string (mk (dashU (colU (B s)))),.string (mk (dashR (colU (B s))))])∧BelD w.heap.size w w':=by
 have KC:=Lib.hid (fun w E=>cut_some h1 w hs E)
 have hp:(mk ((B s).take i)).size≤65536:=by rw [size_mk,List.length_take,B_len];omega
 have hU:(mk ((B s).drop (i+1))).size≤65536:=by rw [size_mk,List.length_drop,B_len];omega
 have HO:=Lib.hid (ho i h1)
 have KA:=Lib.hid (fun w E=>atoi_anyD (mk ((B s).take i)) w hp HO.out E)
 have XE:=Lib.hid (show splE s=atoiV (mk ((B s).take i)) by unfold splE;rw [h1])
 have XC:=Lib.hid (show colU (B s)=B (mk ((B s).drop (i+1))) by
  unfold colU;rw [h1,B_mk (fun c hc=>B_lt s c (List.mem_of_mem_drop hc))])
 have KD:=Lib.hid (fun w=>dash_some h2 w hU)
 have XD:=Lib.hid (dashU_some h2)
 have hj:=lastI_lt h2
 have hj0:(0:Int)≤(j:Int):=by omega
 rw [XE.out,XC.out,XD.out.1,XD.out.2]
 have HE:=Lib.hid E
 clear h1 h2 E XE XC XD ho
 generalize mk ((B s).drop (i+1))=U at *
 generalize mk ((B s).take i)=p at *
 generalize atoiV p=ep at *
 go_enter Tryz.func156,Tryz.ntmps156
 go_wp2_with fail
 refine (KC.out _ ((HE.out.alloc _).alloc _)).mono ?_
 rintro e' w1 ⟨rfl,n,rfl⟩
 go_wp2_with fail
 refine (KA.out _ (((HE.out.alloc _).alloc _).drewN n)).mono ?_
 rintro e' w1 ⟨⟨ev,rfl⟩,hb⟩
 have hb0:=hb
 replace hb:=(bel_dD (BelD.refl _ ((w.alloc (.cells #[.int .i64 0,.string { data:=#[] },.string { data:=#[] }] 158)).alloc (.cells #[.int .i64 0,.string { data:=#[] },.string { data:=#[] }] 158))) n).trans hb
 obtain ⟨⟨c0,c1,c2⟩,⟨f0,f1,f2⟩,⟨d0,d1,d2⟩,⟨g0,g1,g2⟩,hB⟩:=str_cellsD rfl hb
 have HB:=Lib.hid hB
 clear hb hb0 hB
 go_wp2_with fail
 refine (KD.out _).mono ?_
 rintro e' w2 ⟨rfl,rfl⟩
 obtain ⟨V,hV⟩:∃V,V=(w1.setCell ⟨w.heap.size+1,0,none⟩ (.int .i64 ep)).setCell ⟨w.heap.size+1,1,none⟩ (.string U):=⟨_,rfl⟩
 have c0':V.cell? ⟨w.heap.size,0,none⟩=some (.int .i64 0):=by rw [hV];simp [go_sem,c0]
 have c1':V.cell? ⟨w.heap.size,1,none⟩=some (.string { data:=#[] }):=by rw [hV];simp [go_sem,c1]
 have c2':V.cell? ⟨w.heap.size,2,none⟩=some (.string { data:=#[] }):=by rw [hV];simp [go_sem,c2]
 have d0':V.cell? ⟨w.heap.size+1,0,none⟩=some (.int .i64 ep):=by rw [hV];simp [go_sem,d0]
 have d1':V.cell? ⟨w.heap.size+1,1,none⟩=some (.string U):=by rw [hV];simp [go_sem,d1]
 have d2':V.cell? ⟨w.heap.size+1,2,none⟩=some (.string { data:=#[] }):=by rw [hV];simp [go_sem,d2]
 have f0':V.frozen? ⟨w.heap.size,0,none⟩=false:=by rw [hV];simp [go_sem,f0]
 have f1':V.frozen? ⟨w.heap.size,1,none⟩=false:=by rw [hV];simp [go_sem,f1]
 have f2':V.frozen? ⟨w.heap.size,2,none⟩=false:=by rw [hV];simp [go_sem,f2]
 have g0':V.frozen? ⟨w.heap.size+1,0,none⟩=false:=by rw [hV];simp [go_sem,g0]
 have g1':V.frozen? ⟨w.heap.size+1,1,none⟩=false:=by rw [hV];simp [go_sem,g1]
 have g2':V.frozen? ⟨w.heap.size+1,2,none⟩=false:=by rw [hV];simp [go_sem,g2]
 have HB':=Lib.hid (show BelD w.heap.size w V by rw [hV];exact (HB.out.setCell (by simp) _).setCell (by simp) _)
 rw [←hV]
 clear hV c0 c1 c2 d0 d1 d2 f0 f1 f2 g0 g1 g2 HB
 go_wp2
 go_region
 all_goals go_wp2
 generalize hX:U.extract 0 j=X at *
 generalize hY:U.extract (j+1) U.size=Y at *
 clear hX hY
 obtain ⟨V2,hV2⟩:∃V2,V2=((V).setCell ⟨w.heap.size+1,1,none⟩ (.string X)).setCell ⟨w.heap.size+1,2,none⟩ (.string Y):=⟨_,rfl⟩
 have k0:V2.cell? ⟨w.heap.size,0,none⟩=some (.int .i64 0):=by rw [hV2];simp [go_sem,c0']
 have k1:V2.cell? ⟨w.heap.size,1,none⟩=some (.string { data:=#[] }):=by rw [hV2];simp [go_sem,c1']
 have k2:V2.cell? ⟨w.heap.size,2,none⟩=some (.string { data:=#[] }):=by rw [hV2];simp [go_sem,c2']
 have kB:BelD w.heap.size w V2:=by rw [hV2];repeat (first|exact HB'.out|with_reducible refine BelD.setCell ?_ (by simp) _)
 rw [←hV2]
 clear hV2
 obtain ⟨e0,e1,e2,bW⟩:=fin3D (x:=.int .i64 ep) (y:=.string X) (z:=.string Y) kB k0 k1 k2
 exact bodyPost_ret (v:=.agg #[.int .i64 ep,.string X,.string Y]) (by simp [results,Tryz.results156,go_sem,e0,e1,e2]) rfl ⟨rfl,bW.drew⟩
theorem split_some_noneD (s:ByteArray) (i:Nat) (w:World) (hs:s.size≤65536) (ho:AtO s) (E:Env w) (h1:firstI (B s) 0=some i) (h2:lastI (B (mk ((B s).drop (i+1)))) ((mk ((B s).drop (i+1)))).size=none) :
  Calls Tryz.prog 156 #[.string s] w fun e' w'=>e'=.returned (.agg #[.int .i64 (splE s),.string (mk (dashU (colU (B s)))),.string (mk (dashR (colU (B s))))])∧BelD w.heap.size w w':=by
 have KC:=Lib.hid (fun w E=>cut_some h1 w hs E)
 have hp:(mk ((B s).take i)).size≤65536:=by rw [size_mk,List.length_take,B_len];omega
 have hU:(mk ((B s).drop (i+1))).size≤65536:=by rw [size_mk,List.length_drop,B_len];omega
 have HO:=Lib.hid (ho i h1)
 have KA:=Lib.hid (fun w E=>atoi_anyD (mk ((B s).take i)) w hp HO.out E)
 have XE:=Lib.hid (show splE s=atoiV (mk ((B s).take i)) by unfold splE;rw [h1])
 have XC:=Lib.hid (show colU (B s)=B (mk ((B s).drop (i+1))) by
  unfold colU;rw [h1,B_mk (fun c hc=>B_lt s c (List.mem_of_mem_drop hc))])
 have KD:=Lib.hid (fun w=>dash_none h2 w hU)
 have XD:=Lib.hid (dashU_none h2)
 rw [XE.out,XC.out,XD.out.1,XD.out.2]
 have HE:=Lib.hid E
 clear h1 h2 E XE XC XD ho
 generalize mk ((B s).drop (i+1))=U at *
 generalize mk ((B s).take i)=p at *
 generalize atoiV p=ep at *
 go_enter Tryz.func156,Tryz.ntmps156
 go_wp2_with fail
 refine (KC.out _ ((HE.out.alloc _).alloc _)).mono ?_
 rintro e' w1 ⟨rfl,n,rfl⟩
 go_wp2_with fail
 refine (KA.out _ (((HE.out.alloc _).alloc _).drewN n)).mono ?_
 rintro e' w1 ⟨⟨ev,rfl⟩,hb⟩
 have hb0:=hb
 replace hb:=(bel_dD (BelD.refl _ ((w.alloc (.cells #[.int .i64 0,.string { data:=#[] },.string { data:=#[] }] 158)).alloc (.cells #[.int .i64 0,.string { data:=#[] },.string { data:=#[] }] 158))) n).trans hb
 obtain ⟨⟨c0,c1,c2⟩,⟨f0,f1,f2⟩,⟨d0,d1,d2⟩,⟨g0,g1,g2⟩,hB⟩:=str_cellsD rfl hb
 have HB:=Lib.hid hB
 clear hb hb0 hB
 go_wp2_with fail
 refine (KD.out _).mono ?_
 rintro e' w2 ⟨rfl,rfl⟩
 go_wp2
 all_goals exact bodyPost_ret (v:=.agg #[.int .i64 ep,.string (U),.string ({ data:=#[] })]) (by simp [results,Tryz.results156,go_sem,c0,c1,c2]) rfl ⟨rfl,by repeat (first|exact HB.out|with_reducible refine BelD.drew ?_|with_reducible refine BelD.setCell ?_ (by simp) _)⟩
theorem split_none_someD (s:ByteArray) (j:Nat) (w:World) (hs:s.size≤65536) (E:Env w) (h1:firstI (B s) 0=none) (h2:lastI (B s) (s).size=some j) :
  Calls Tryz.prog 156 #[.string s] w fun e' w'=>e'=.returned (.agg #[.int .i64 (splE s),.string (mk (dashU (colU (B s)))),.string (mk (dashR (colU (B s))))])∧BelD w.heap.size w w':=by
 have KC:=Lib.hid (fun w E=>cut_none h1 w hs E)
 have hU:s.size≤65536:=hs
 have XE:=Lib.hid (show splE s=0 by unfold splE;rw [h1])
 have XC:=Lib.hid (show colU (B s)=B s by unfold colU;rw [h1])
 have KD:=Lib.hid (fun w=>dash_some h2 w hU)
 have XD:=Lib.hid (dashU_some h2)
 have hj:=lastI_lt h2
 have hj0:(0:Int)≤(j:Int):=by omega
 rw [XE.out,XC.out,XD.out.1,XD.out.2]
 have HE:=Lib.hid E
 clear h1 h2 E XE XC XD
 go_enter Tryz.func156,Tryz.ntmps156
 go_wp2_with fail
 refine (KC.out _ ((HE.out.alloc _).alloc _)).mono ?_
 rintro e' w1 ⟨rfl,n,rfl⟩
 obtain ⟨w1,hw1⟩:∃w1,w1=((w.alloc (.cells #[.int .i64 0,.string { data:=#[] },.string { data:=#[] }] 158)).alloc (.cells #[.int .i64 0,.string { data:=#[] },.string { data:=#[] }] 158)).drewN n:=⟨_,rfl⟩
 have hb:=bel_dD (BelD.refl _ ((w.alloc (.cells #[.int .i64 0,.string { data:=#[] },.string { data:=#[] }] 158)).alloc (.cells #[.int .i64 0,.string { data:=#[] },.string { data:=#[] }] 158))) n
 rw [←hw1] at hb
 rw [←hw1]
 obtain ⟨⟨c0,c1,c2⟩,⟨f0,f1,f2⟩,⟨d0,d1,d2⟩,⟨g0,g1,g2⟩,hB⟩:=str_cellsD rfl hb
 have HB:=Lib.hid hB
 clear hb hB hw1
 go_wp2_with fail
 refine (KD.out _).mono ?_
 rintro e' w2 ⟨rfl,rfl⟩
 go_wp2
 go_region
 all_goals go_wp2
 generalize hX:s.extract 0 j=X at *
 generalize hY:s.extract (j+1) s.size=Y at *
 clear hX hY
 obtain ⟨V2,hV2⟩:∃V2,V2=(((w1.setCell ⟨w.heap.size+1,1,none⟩ (.string s))).setCell ⟨w.heap.size+1,1,none⟩ (.string X)).setCell ⟨w.heap.size+1,2,none⟩ (.string Y):=⟨_,rfl⟩
 have k0:V2.cell? ⟨w.heap.size,0,none⟩=some (.int .i64 0):=by rw [hV2];simp [go_sem,c0]
 have k1:V2.cell? ⟨w.heap.size,1,none⟩=some (.string { data:=#[] }):=by rw [hV2];simp [go_sem,c1]
 have k2:V2.cell? ⟨w.heap.size,2,none⟩=some (.string { data:=#[] }):=by rw [hV2];simp [go_sem,c2]
 have kB:BelD w.heap.size w V2:=by rw [hV2];repeat (first|exact HB.out|with_reducible refine BelD.setCell ?_ (by simp) _)
 rw [←hV2]
 clear hV2
 obtain ⟨e0,e1,e2,bW⟩:=fin3D (x:=.int .i64 0) (y:=.string X) (z:=.string Y) kB k0 k1 k2
 exact bodyPost_ret (v:=.agg #[.int .i64 0,.string X,.string Y]) (by simp [results,Tryz.results156,go_sem,e0,e1,e2]) rfl ⟨rfl,bW.drew⟩
theorem split_none_noneD (s:ByteArray) (w:World) (hs:s.size≤65536) (E:Env w) (h1:firstI (B s) 0=none) (h2:lastI (B s) (s).size=none) :
  Calls Tryz.prog 156 #[.string s] w fun e' w'=>e'=.returned (.agg #[.int .i64 (splE s),.string (mk (dashU (colU (B s)))),.string (mk (dashR (colU (B s))))])∧BelD w.heap.size w w':=by
 have KC:=Lib.hid (fun w E=>cut_none h1 w hs E)
 have hU:s.size≤65536:=hs
 have XE:=Lib.hid (show splE s=0 by unfold splE;rw [h1])
 have XC:=Lib.hid (show colU (B s)=B s by unfold colU;rw [h1])
 have KD:=Lib.hid (fun w=>dash_none h2 w hU)
 have XD:=Lib.hid (dashU_none h2)
 rw [XE.out,XC.out,XD.out.1,XD.out.2]
 have HE:=Lib.hid E
 clear h1 h2 E XE XC XD
 go_enter Tryz.func156,Tryz.ntmps156
 go_wp2_with fail
 refine (KC.out _ ((HE.out.alloc _).alloc _)).mono ?_
 rintro e' w1 ⟨rfl,n,rfl⟩
 obtain ⟨w1,hw1⟩:∃w1,w1=((w.alloc (.cells #[.int .i64 0,.string { data:=#[] },.string { data:=#[] }] 158)).alloc (.cells #[.int .i64 0,.string { data:=#[] },.string { data:=#[] }] 158)).drewN n:=⟨_,rfl⟩
 have hb:=bel_dD (BelD.refl _ ((w.alloc (.cells #[.int .i64 0,.string { data:=#[] },.string { data:=#[] }] 158)).alloc (.cells #[.int .i64 0,.string { data:=#[] },.string { data:=#[] }] 158))) n
 rw [←hw1] at hb
 rw [←hw1]
 obtain ⟨⟨c0,c1,c2⟩,⟨f0,f1,f2⟩,⟨d0,d1,d2⟩,⟨g0,g1,g2⟩,hB⟩:=str_cellsD rfl hb
 have HB:=Lib.hid hB
 clear hb hB hw1
 go_wp2_with fail
 refine (KD.out _).mono ?_
 rintro e' w2 ⟨rfl,rfl⟩
 go_wp2
 all_goals exact bodyPost_ret (v:=.agg #[.int .i64 0,.string (s),.string ({ data:=#[] })]) (by simp [results,Tryz.results156,go_sem,c0,c1,c2]) rfl ⟨rfl,by repeat (first|exact HB.out|with_reducible refine BelD.drew ?_|with_reducible refine BelD.setCell ?_ (by simp) _)⟩
theorem vsplit_anyD (s:ByteArray) (w:World) (hs:s.size≤65536) (ho:AtO s) (E:Env w) :
  Calls Tryz.prog 156 #[.string s] w fun e' w'=>e'=.returned (.agg #[.int .i64 (splE s),.string (mk (dashU (colU (B s)))),.string (mk (dashR (colU (B s))))])∧BelD w.heap.size w w':=by
 cases h1:firstI (B s) 0 with
 | none=>
  cases h2:lastI (B s) s.size with
  | none=>exact split_none_noneD s w hs E h1 h2
  | some j=>exact split_none_someD s j w hs E h1 h2
 | some i=>
  cases h2:lastI (B (mk ((B s).drop (i+1)))) (mk ((B s).drop (i+1))).size with
  | none=>exact split_some_noneD s i w hs ho E h1 h2
  | some j=>exact split_some_someD s i j w hs ho E h1 h2
theorem vparse_longD (s:ByteArray) (ho:AtO s) (w:World) (hs:60 < s.size) :
  Calls Tryz.prog 135 #[.string s] w fun e' w'=>e'=.returned (parseV s)∧BelD w.heap.size w w':=by
 have h9:parseE (B s)=9:=by unfold parseE;rw [if_pos (by rw [B_len];exact hs)]
 have X:=Lib.hid (parse_bad (s:=s) (by rw [h9];decide))
 have H9:=Lib.hid h9
 clear h9
 have hs2:(60:Int) < (s.size:Int):=by omega
 go_enter Tryz.func135,Tryz.ntmps135
 go_wp2
 exact bodyPost_ret (v:=.tuple #[.agg #[.int .i64 0,.string { data:=#[] },.string { data:=#[] }],.int .i64 9]) (by simp [results,Tryz.results135,go_sem]) rfl ⟨by rw [X.out,H9.out],(BelD.refl _ w).alloc (Nat.le_refl _) _⟩
theorem vtext_intD (e:Int) (u r:ByteArray) (w:World) (h0:0≤e) (h1:e≤999999999) (hu:u.size≤65536) (hr:r.size≤65536) (E:Env w) :
  Calls Tryz.prog 159 #[.agg #[.int .i64 e,.string u,.string r]] w fun e' w'=>e'=.returned (.string (mk (textL e.toNat (B u) (B r))))∧BelD w.heap.size w w':=by
 have:=vtext_anyD e.toNat u r w (by omega) hu hr E
 rw [Int.toNat_of_nonneg h0] at this
 exact this
theorem res_cellsD {w w1 V W:World} {T T':TypeId} {x y z a b c:Value} (hb:BelD (w.alloc (.cells #[x,y,z] T)).heap.size (w.alloc (.cells #[x,y,z] T)) w1)
  (hV:V=w1.alloc (.cells #[a,b,c] T')) (h2:BelD V.heap.size V W) :
  (W.cell? ⟨w.heap.size,0,none⟩=some x∧W.cell? ⟨w.heap.size,1,none⟩=some y∧W.cell? ⟨w.heap.size,2,none⟩=some z)∧
  (W.frozen? ⟨w.heap.size,0,none⟩=false∧W.frozen? ⟨w.heap.size,1,none⟩=false∧W.frozen? ⟨w.heap.size,2,none⟩=false)∧
  (W.cell? ⟨w1.heap.size,0,none⟩=some a∧W.cell? ⟨w1.heap.size,1,none⟩=some b∧W.cell? ⟨w1.heap.size,2,none⟩=some c)∧BelD w.heap.size w W:=by
 have hs:w.heap.size+1≤w1.heap.size:=by have:=hb.size;simpa using this
 have hB1:BelD (w.heap.size+1) (w.alloc (.cells #[x,y,z] T)) V:=by rw [hV];exact (hb.mono (by simp)).alloc hs _
 have hv:V.heap.size=w1.heap.size+1:=by rw [hV];simp
 have hB:BelD (w.heap.size+1) (w.alloc (.cells #[x,y,z] T)) W:=hB1.trans (h2.mono (by omega))
 refine ⟨⟨?_,?_,?_⟩,⟨?_,?_,?_⟩,⟨?_,?_,?_⟩,((BelD.refl _ w).alloc (Nat.le_refl _) _).trans (hB.mono (by omega))⟩
 ·exact (hB.cell (by simp)).trans (by simp)
 ·exact (hB.cell (by simp)).trans (by simp)
 ·exact (hB.cell (by simp)).trans (by simp)
 ·exact (hB.frozen (by simp)).trans (by simp)
 ·exact (hB.frozen (by simp)).trans (by simp)
 ·exact (hB.frozen (by simp)).trans (by simp)
 ·exact (h2.cell (by simp only;omega)).trans (by rw [hV];simp)
 ·exact (h2.cell (by simp only;omega)).trans (by rw [hV];simp)
 ·exact (h2.cell (by simp only;omega)).trans (by rw [hV];simp)
set_option maxHeartbeats 1000000 in
theorem vparse_shortD (s:ByteArray) (ho:AtO s) (w:World) (hs:s.size≤60) (E:Env w) :
  Calls Tryz.prog 135 #[.string s] w fun e' w'=>e'=.returned (parseV s)∧BelD w.heap.size w w':=by
 have hs2:¬(60:Int) < (s.size:Int):=by omega
 have hUl:(dashU (colU (B s))).length≤60:=by have h1:=dashU_len (colU (B s));have h2:=colU_len (B s);rw [B_len] at h2;omega
 have hRl:(dashR (colU (B s))).length≤60:=by have h1:=dashR_len (colU (B s));have h2:=colU_len (B s);rw [B_len] at h2;omega
 have KS:=Lib.hid (fun w E=>vsplit_anyD s w (by omega) ho E)
 have BU:=Lib.hid (B_mk (l:=dashU (colU (B s))) (fun c hc=>B_lt s c (colU_mem (dashU_mem hc))))
 have BR:=Lib.hid (B_mk (l:=dashR (colU (B s))) (fun c hc=>B_lt s c (colU_mem (dashR_mem hc))))
 obtain ⟨dv,de⟩:=dev_is s
 have DV:=Lib.hid dv
 have DE:=Lib.hid de
 have KT0:=Lib.hid (trimP_any s)
 have hU:(mk (dashU (colU (B s)))).size≤65536:=by rw [size_mk];omega
 have hR:(mk (dashR (colU (B s)))).size≤65536:=by rw [size_mk];omega
 have DB:=Lib.hid (show devB s=(rightB (splE s) (B (mk (dashU (colU (B s))))) (B (mk (dashR (colU (B s)))))&&decide (trim0 (B s)=textL (splE s).toNat (B (mk (dashU (colU (B s))))) (B (mk (dashR (colU (B s))))))) by
  rw [BU.out,BR.out];rfl)
 have HE:=Lib.hid E
 clear dv de E hUl hRl
 have GOOD:=Lib.hid (fun h=>parse_good (s:=s) hs (DE.out h) BU.out BR.out (by rw [←DV.out];exact h))
 have BAD:=Lib.hid (fun h=>parse_wrong (s:=s) hs (by rw [←DV.out];exact h))
 clear BU BR DE DV
 generalize mk (dashU (colU (B s)))=U at *
 generalize mk (dashR (colU (B s)))=R at *
 generalize splE s=ep at *
 have KR:=Lib.hid (fun w E=>vright_anyD ep U R w hU hR E)
 cases hr:rightB ep (B U) (B R)
 ·have X:=Lib.hid (BAD.out (by rw [DB.out,hr];rfl))
  rw [hr] at KR
  clear hr GOOD BAD DB KT0
  go_enter Tryz.func135,Tryz.ntmps135
  go_wp2_with fail
  refine (KS.out _ (HE.out.alloc _)).mono ?_
  rintro e' w1 ⟨rfl,hb⟩
  go_wp2_with fail
  obtain ⟨V,hV⟩:∃V,V=w1.alloc (.cells #[.int .i64 ep,.string U,.string R] 158):=⟨_,rfl⟩
  have HC:=Lib.hid (fun W h=>res_cellsD (W:=W) hb hV h)
  have e0:V.cell? ⟨w1.heap.size,0,none⟩=some (.int .i64 ep):=by rw [hV];simp [go_sem]
  have e1:V.cell? ⟨w1.heap.size,1,none⟩=some (.string U):=by rw [hV];simp [go_sem]
  have e2:V.cell? ⟨w1.heap.size,2,none⟩=some (.string R):=by rw [hV];simp [go_sem]
  have EV:Env V:=HE.out.belD (HC.out V (BelD.refl _ _)).2.2.2
  have bb:=(BelD.refl V.heap.size V).drew
  rw [←hV]
  clear hV hb
  first|(go_region_with (go_at_call 157;(with_reducible refine (KR.out _ (env_drew EV)).mono ?_);rintro e' wx ⟨rfl,hbx⟩))|fail
  all_goals
   obtain ⟨⟨c0,c1,c2⟩,⟨f0,f1,f2⟩,⟨d0,d1,d2⟩,hB⟩:=HC.out _ (bb.trans hbx)
   have HB:=Lib.hid hB
   clear hB
   go_wp2
   obtain ⟨k0,k1,k2,bW⟩:=fin3D (x:=.int .i64 0) (y:=.string { data:=#[] }) (z:=.string { data:=#[] }) HB.out c0 c1 c2
   exact bodyPost_ret (v:=.tuple #[.agg #[.int .i64 0,.string { data:=#[] },.string { data:=#[] }],.int .i64 4]) (by simp [results,Tryz.results135,go_sem,k0,k1,k2]) rfl ⟨by rw [X.out],bW⟩
 ·obtain ⟨q0,q1⟩:=rightB_epoch hr
  have KX:=Lib.hid (fun w E=>vtext_intD ep U R w q0 q1 hU hR E)
  have hst:=strEq (trim0 (B s)) (mk (textL ep.toNat (B U) (B R))) (trim0_lt (B_lt s))
  rw [B_mk (textL_lt ep.toNat U R)] at hst
  by_cases hq:trim0 (B s)=textL ep.toNat (B U) (B R)
  ·have X:=Lib.hid (GOOD.out (by rw [DB.out,hr,decide_eq_true hq];rfl))
   rw [decide_eq_true hq] at hst
   rw [hr] at KR
   clear hr GOOD BAD DB hq
   generalize mk (textL ep.toNat (B U) (B R))=T at *
   generalize mk (trim0 (B s))=T0 at *
   go_enter Tryz.func135,Tryz.ntmps135
   go_wp2_with fail
   refine (KS.out _ (HE.out.alloc _)).mono ?_
   rintro e' w1 ⟨rfl,hb⟩
   go_wp2_with fail
   obtain ⟨V,hV⟩:∃V,V=w1.alloc (.cells #[.int .i64 ep,.string U,.string R] 158):=⟨_,rfl⟩
   have HC:=Lib.hid (fun W h=>res_cellsD (W:=W) hb hV h)
   have e0:V.cell? ⟨w1.heap.size,0,none⟩=some (.int .i64 ep):=by rw [hV];simp [go_sem]
   have e1:V.cell? ⟨w1.heap.size,1,none⟩=some (.string U):=by rw [hV];simp [go_sem]
   have e2:V.cell? ⟨w1.heap.size,2,none⟩=some (.string R):=by rw [hV];simp [go_sem]
   have EV:Env V:=HE.out.belD (HC.out V (BelD.refl _ _)).2.2.2
   have bb:=(BelD.refl V.heap.size V).drew
   rw [←hV]
   clear hV hb
   go_region_held3 (fun W=>W.cell? ⟨w1.heap.size,0,none⟩=some (.int .i64 ep)∧W.cell? ⟨w1.heap.size,1,none⟩=some (.string U)∧W.cell? ⟨w1.heap.size,2,none⟩=some (.string R)∧Env W∧BelD V.heap.size V W)
    (first|(go_split_ands;refine ⟨?_,?_,?_,?_,?_⟩<;>first|assumption|exact keep_cellD hbx (by assumption)|exact Env.belD (by assumption) hbx|exact BelD.trans (by assumption) (hbx.mono (BelD.size (by assumption)))|exact env_drew (by assumption))|go_keep)
    ((first|(go_at_call 157;(with_reducible refine (KR.out _ (by go_split_ands;assumption)).mono ?_);rintro e' wx ⟨rfl,hbx⟩)|(go_at_call 158;(with_reducible refine (KT0.out _).mono ?_);rintro e' wx ⟨rfl,rfl⟩)|(go_at_call 159;(with_reducible refine (KX.out _ (by go_split_ands;assumption)).mono ?_);rintro e' wx ⟨rfl,hbx⟩)))
   all_goals
    go_split_ands
    obtain ⟨⟨c0,c1,c2⟩,⟨f0,f1,f2⟩,⟨d0,d1,d2⟩,hB⟩:=HC.out _ (by assumption)
    have HB:=Lib.hid hB
    clear hB
    go_wp2
    obtain ⟨k0,k1,k2,bW⟩:=fin3D (x:=.int .i64 ep) (y:=.string U) (z:=.string R) HB.out c0 c1 c2
    exact bodyPost_ret (v:=.tuple #[.agg #[.int .i64 ep,.string U,.string R],.int .i64 0]) (by simp [results,Tryz.results135,go_sem,k0,k1,k2]) rfl ⟨by rw [X.out],bW⟩
  ·have X:=Lib.hid (BAD.out (by rw [DB.out,hr,decide_eq_false hq];rfl))
   rw [decide_eq_false hq] at hst
   rw [hr] at KR
   clear hr GOOD BAD DB hq
   generalize mk (textL ep.toNat (B U) (B R))=T at *
   generalize mk (trim0 (B s))=T0 at *
   go_enter Tryz.func135,Tryz.ntmps135
   go_wp2_with fail
   refine (KS.out _ (HE.out.alloc _)).mono ?_
   rintro e' w1 ⟨rfl,hb⟩
   go_wp2_with fail
   obtain ⟨V,hV⟩:∃V,V=w1.alloc (.cells #[.int .i64 ep,.string U,.string R] 158):=⟨_,rfl⟩
   have HC:=Lib.hid (fun W h=>res_cellsD (W:=W) hb hV h)
   have e0:V.cell? ⟨w1.heap.size,0,none⟩=some (.int .i64 ep):=by rw [hV];simp [go_sem]
   have e1:V.cell? ⟨w1.heap.size,1,none⟩=some (.string U):=by rw [hV];simp [go_sem]
   have e2:V.cell? ⟨w1.heap.size,2,none⟩=some (.string R):=by rw [hV];simp [go_sem]
   have EV:Env V:=HE.out.belD (HC.out V (BelD.refl _ _)).2.2.2
   have bb:=(BelD.refl V.heap.size V).drew
   rw [←hV]
   clear hV hb
   go_region_held3 (fun W=>W.cell? ⟨w1.heap.size,0,none⟩=some (.int .i64 ep)∧W.cell? ⟨w1.heap.size,1,none⟩=some (.string U)∧W.cell? ⟨w1.heap.size,2,none⟩=some (.string R)∧Env W∧BelD V.heap.size V W)
    (first|(go_split_ands;refine ⟨?_,?_,?_,?_,?_⟩<;>first|assumption|exact keep_cellD hbx (by assumption)|exact Env.belD (by assumption) hbx|exact BelD.trans (by assumption) (hbx.mono (BelD.size (by assumption)))|exact env_drew (by assumption))|go_keep)
    ((first|(go_at_call 157;(with_reducible refine (KR.out _ (by go_split_ands;assumption)).mono ?_);rintro e' wx ⟨rfl,hbx⟩)|(go_at_call 158;(with_reducible refine (KT0.out _).mono ?_);rintro e' wx ⟨rfl,rfl⟩)|(go_at_call 159;(with_reducible refine (KX.out _ (by go_split_ands;assumption)).mono ?_);rintro e' wx ⟨rfl,hbx⟩)))
   all_goals
    go_split_ands
    obtain ⟨⟨c0,c1,c2⟩,⟨f0,f1,f2⟩,⟨d0,d1,d2⟩,hB⟩:=HC.out _ (by assumption)
    have HB:=Lib.hid hB
    clear hB
    go_wp2
    obtain ⟨k0,k1,k2,bW⟩:=fin3D (x:=.int .i64 0) (y:=.string { data:=#[] }) (z:=.string { data:=#[] }) HB.out c0 c1 c2
    exact bodyPost_ret (v:=.tuple #[.agg #[.int .i64 0,.string { data:=#[] },.string { data:=#[] }],.int .i64 4]) (by simp [results,Tryz.results135,go_sem,k0,k1,k2]) rfl ⟨by rw [X.out],bW⟩
theorem vparse_anyD (s:ByteArray) (ho:AtO s) (w:World) (E:Env w) :
  Calls Tryz.prog 135 #[.string s] w fun e' w'=>e'=.returned (parseV s)∧BelD w.heap.size w w':=by
 by_cases h:s.size≤60
 ·exact vparse_shortD s ho w h E
 ·exact vparse_longD s ho w (by omega)
theorem vparse_openedD (s:ByteArray) (ho:AtO s):∃(E e:Int) (U R:ByteArray),E=parse1 (B s)∧e=parseE (B s)∧B U=parse2 (B s)∧B R=parse3 (B s)∧U.size≤60∧R.size≤60∧
  ∀w,Env w→Calls Tryz.prog 135 #[.string s] w fun e' w'=>e'=.returned (.tuple #[.agg #[.int .i64 E,.string U,.string R],.int .i64 e])∧BelD w.heap.size w w':=
 ⟨_,_,_,_,rfl,rfl,B_mk (parse2_lt s),B_mk (parse3_lt s),by rw [size_mk];exact parse2_len _,by rw [size_mk];exact parse3_len _,fun w E=>vparse_anyD s ho w E⟩
theorem vorder_anyD (a b:ByteArray) (ha:AtO a) (hb:AtO b) (w:World) (EN:Env w) :
  Calls Tryz.prog 121 #[.string a,.string b] w fun e' w'=>e'=.returned (.int .i64 (orderV (B a) (B b)))∧BelD w.heap.size w w':=by
 obtain ⟨E,e,U,R,hE,he,hU,hR,zU,zR,ca⟩:=vparse_openedD a ha
 obtain ⟨F,f,V,S,hF,hf,hV,hS,zV,zS,cb⟩:=vparse_openedD b hb
 have X:orderV (B a) (B b)=if e≠0 then (if f≠0 then 0 else -1) else if f≠0 then 1 else cmpV E (B U) (B R) F (B V) (B S):=by
  unfold orderV;rw [←hE,←he,←hU,←hR,←hF,←hf,←hV,←hS]
 have XO:=Lib.hid X
 have CA:=Lib.hid ca
 have CB:=Lib.hid cb
 have CV:=Lib.hid (fun w=>vcompare_anyD E F U R V S w (by omega) (by omega) (by omega) (by omega))
 have HE:=Lib.hid EN
 clear X ca cb hE he hU hR hF hf hV hS EN
 generalize orderV (B a) (B b)=O at XO ⊢
 generalize cmpV E (B U) (B R) F (B V) (B S)=C at XO CV
 go_enter Tryz.func121,Tryz.ntmps121
 go_wp2_with fail
 refine (CA.out _ HE.out).mono ?_
 rintro e' w1 ⟨rfl,hb1⟩
 have s1:=hb1.size
 have E1:=Lib.hid ((HE.out.belD hb1).alloc (.cells #[.int .i64 E,.string U,.string R] 158))
 go_wp2_with fail
 refine (CB.out _ E1.out).mono ?_
 rintro e' w2 ⟨rfl,hb2⟩
 obtain ⟨c0,c1,c2,s2⟩:=box_cellsD hb2
 have b2:BelD w.heap.size w w2:=(hb1.alloc s1 _).trans (hb2.mono (by simp;omega))
 have b3:BelD w.heap.size w (w2.alloc (.cells #[.int .i64 F,.string V,.string S] 158)):=b2.alloc (by omega) _
 by_cases he:e=0
 ·have t1:(e==0)=true:=by rw [beq_iff_eq];exact he
  by_cases hf:f=0
  ·have t2:(f==0)=true:=by rw [beq_iff_eq];exact hf
   have XF:=Lib.hid (show O=C by rw [XO.out,if_neg (by simp [he]),if_neg (by simp [hf])])
   have s3:w1.heap.size < w2.heap.size:=by omega
   clear he hf
   go_wp2_with fail
   refine (CV.out _).mono ?_
   rintro e' w3 ⟨rfl,hb3⟩
   go_wp2
   go_ret
   exact ⟨by rw [XF.out];rfl,b3.trans (hb3.mono (by simp;omega))⟩
  ·have t2:(f==0)=false:=by rw [beq_eq_false_iff_ne];exact hf
   have XF:=Lib.hid (show O=1 by rw [XO.out,if_neg (by simp [he]),if_pos hf])
   clear he hf
   go_wp2
   go_ret
   exact ⟨by rw [XF.out];rfl,b3⟩
 ·have t1:(e==0)=false:=by rw [beq_eq_false_iff_ne];exact he
  by_cases hf:f=0
  ·have t2:(f==0)=true:=by rw [beq_iff_eq];exact hf
   have XF:=Lib.hid (show O=-1 by rw [XO.out,if_pos he,if_neg (by simp [hf])])
   clear he hf
   go_wp2
   go_ret
   exact ⟨by rw [XF.out];rfl,b3⟩
  ·have t2:(f==0)=false:=by rw [beq_eq_false_iff_ne];exact hf
   have XF:=Lib.hid (show O=0 by rw [XO.out,if_pos he,if_pos hf])
   clear he hf
   go_wp2
   go_ret
   exact ⟨by rw [XF.out];rfl,b3⟩
set_option maxHeartbeats 8000000 in
theorem less6_anyD (x y:Ent) (hx:AtO x.v) (hy:AtO y.v) (A1:Option Addr) (c1:Nat) (A2:Option Addr) (c2:Nat) (A3:Option Addr) (c3:Nat) (A4:Option Addr) (c4:Nat) (A1y:Option Addr) (c1y:Nat) (A2y:Option Addr) (c2y:Nat) (A3y:Option Addr) (c3y:Nat) (A4y:Option Addr) (c4y:Nat) (w:World) (E:Env w) :
  Calls Tryz.prog 75 #[x.val A1 c1 A2 c2 A3 c3 A4 c4,y.val A1y c1y A2y c2y A3y c3y A4y c4y] w fun e w'=>e=.returned (.bool (lesB x y))∧BelD w.heap.size w w':=by
 have X:=Lib.hid (lesB_or x y)
 have KN:=Lib.hid (fun W=>cmpB6_any x.n y.n W)
 have KW:=Lib.hid (fun W=>cmpB6_any x.v y.v W)
 have KV:=Lib.hid (fun (W:World) (hb:BelD w.heap.size w W)=>vorder_anyD x.v y.v hx hy W (E.belD hb))
 have KO:=Lib.hid (fun (W:World) (i j k:Int)=>or_any W.heap.size 3 [i,j,k] (W.alloc (.cells #[.int .i64 i,.int .i64 j,.int .i64 k] 3)) rfl (by decide) (fun m hm=>by
  rcases m with _|_|_|m
  ·simp [go_sem]
  ·simp [go_sem]
  ·simp [go_sem]
  ·omega))
 generalize lesB x y=b at *
 generalize cmpB6 x.n y.n=iN at *
 generalize cmpB6 x.v y.v=iW at *
 generalize orderV (B x.v) (B y.v)=iV at *
 obtain ⟨n,v,d,r,c,p⟩:=x
 obtain ⟨ny,vy,dy,ry,cy,py⟩:=y
 show Calls Tryz.prog 75 #[.agg #[.string n,.string v,.slice A1 d.length c1,.slice A2 r.length c2,.slice A3 c.length c3,.slice A4 p.length c4],.agg #[.string ny,.string vy,.slice A1y dy.length c1y,.slice A2y ry.length c2y,.slice A3y cy.length c3y,.slice A4y py.length c4y]] w _
 obtain ⟨W1,hW1⟩:∃W,W=((w.alloc (.cells #[.string n,.string v,.slice A1 d.length c1,.slice A2 r.length c2,.slice A3 c.length c3,.slice A4 p.length c4] 60)).alloc (.cells #[.string ny,.string vy,.slice A1y dy.length c1y,.slice A2y ry.length c2y,.slice A3y cy.length c3y,.slice A4y py.length c4y] 60)):=⟨_,rfl⟩
 have B1:=Lib.hid (show BelD w.heap.size w W1 by rw [hW1];exact ((BelD.refl _ w).alloc (Nat.le_refl _) _).alloc (by simp) _)
 have x0:W1.cell? ⟨w.heap.size,0,none⟩=some (.string n):=by rw [hW1];simp [go_sem]
 have x1:W1.cell? ⟨w.heap.size,1,none⟩=some (.string v):=by rw [hW1];simp [go_sem]
 have y0:W1.cell? ⟨w.heap.size+1,0,none⟩=some (.string ny):=by rw [hW1];simp [go_sem]
 have y1:W1.cell? ⟨w.heap.size+1,1,none⟩=some (.string vy):=by rw [hW1];simp [go_sem]
 have KV:=Lib.hid (fun (W:World) (hb:BelD W1.heap.size W1 W)=>KV.out W (B1.out.trans (hb.mono B1.out.size)))
 have bb:=(BelD.refl W1.heap.size W1).drew
 clear E
 go_enter Tryz.func75,Tryz.ntmps75
 go_wp2_with fail
 rw [←hW1]
 clear hW1
 go_region_held3 (fun W=>W.cell? ⟨w.heap.size,0,none⟩=some (.string n)∧W.cell? ⟨w.heap.size,1,none⟩=some (.string v)∧W.cell? ⟨w.heap.size+1,0,none⟩=some (.string ny)∧W.cell? ⟨w.heap.size+1,1,none⟩=some (.string vy)∧BelD W1.heap.size W1 W)
  (first|(go_split_ands;refine ⟨?_,?_,?_,?_,?_⟩<;>first|assumption|exact keep6 hbx.b (by assumption)|exact BelD.trans (by assumption) (hbx.mono (BelD.size (by assumption)))|exact cell_al _ (by assumption)|exact BelD.alloc (by assumption) (BelD.size (by assumption)) _)|go_keep)
  (first|(go_at_call 121;(with_reducible refine (KV.out _ (by go_split_ands;assumption)).mono ?_);rintro e wx ⟨rfl,hbx⟩)|(go_at_call 120;(with_reducible refine (KN.out _).mono ?_);rintro e wx ⟨rfl,rfl⟩)|(go_at_call 120;(with_reducible refine (KW.out _).mono ?_);rintro e wx ⟨rfl,rfl⟩)|(go_at_call 119;(refine (KO.out _ _ _ _).mono ?_);rintro e wx ⟨rfl,rfl⟩))
 all_goals
  go_split_ands
  have V3:=Lib.hid (show BelD W1.heap.size W1 _ by assumption)
  go_wp2
  go_ret
  exact ⟨by rw [←X.out];try rfl,B1.out.trans (V3.out.mono B1.out.size)⟩
end Go.Proofs.YtpilmhoakopcaaaGreatDoor
