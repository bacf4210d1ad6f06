/- What the laws rest on: N11i. -/
import Derived.Test.YtpilmhoakopcaaaGreatDoorQAQZA
import Derived.Test.YtpilmhoakopcaaaGreatDoorQBBZA
import Derived.Test.YtpilmhoakopcaaaGreatDoorQBIZA
set_option maxRecDepth 100000
set_option linter.unusedVariables false
set_option linter.unusedSimpArgs false
namespace Go.Proofs.YtpilmhoakopcaaaGreatDoor
open Go.RowKit
set_option maxHeartbeats 32000000 in
theorem wishes_w11 (A:Option Addr) (n0 c:Nat) (L:List Ent) (A':Option Addr) (n1 c':Nat) (m:List Hr) (Al:Option Addr) (nl cl:Nat) (l:List Int) (tn:Int) (w:World) (h:rdEnts w (lt_ w.heap.size) L [.slice A n0 c]) (h':rdHrs w (lt_ w.heap.size) m [.slice A' n1 c']) (hl:rdInts w (lt_ w.heap.size) l [.slice Al nl cl]) (ht:(Lit.int .i64 tn).wf=true) (E:EnvR w) :
  Calls Tryz.prog 7 #[.slice A n0 c,.slice A' n1 c',.slice Al nl cl,.int .i64 tn] w fun e w'=>e=.returned (.bool true)∧Below w.heap.size w w':=by
 obtain ⟨rfl,hnc,hcm,-⟩:=rdEnts_at h
 obtain ⟨rfl,hnc',hcm',-⟩:=rdHrs_at h'
 have hcx:c≤9223372036854775807:=hcm
 have hcy:c'≤9223372036854775807:=hcm'
 have HE:=Lib.hid E
 have H:=Lib.hid (fun (W:World) (hb:Below w.heap.size w W)=>(rdEnts_good.up (rdEnts_good.below h hb) hb.size:rdEnts W (lt_ W.heap.size) L [.slice A L.length c]))
 have H':=Lib.hid (fun (W:World) (hb:Below w.heap.size w W)=>(rdHrs_good.up (rdHrs_good.below h' hb) hb.size:rdHrs W (lt_ W.heap.size) m [.slice A' m.length c']))
 obtain ⟨rfl,hlc,hlm,-⟩:=rdInts_at hl
 have hlx:cl≤9223372036854775807:=hlm
 have Hl:=Lib.hid (fun (W:World) (hb:Below w.heap.size w W)=>(rdInts_good.up (rdInts_good.below hl hb) hb.size:rdInts W (lt_ W.heap.size) l [.slice Al l.length cl]))
 clear h h' hcm hcm' E hl hlm
 go_enter Tryz.func7,Tryz.ntmps7
 go_wp2_with fail
 refine (shown11_any w HE.out).mono ?_
 rintro e w1 ⟨rfl,hb⟩
 have B2:=Lib.hid hb
 clear hb
 go_wp2_with fail
 refine (small11_any A L.length c L A' m.length c' m w1 (H.out w1 B2.out) (H'.out w1 B2.out)).mono ?_
 rintro e w3 ⟨⟨ok,rfl,hfw⟩,hb⟩
 have B4:=Lib.hid (bel_in B2.out hb)
 clear hb
 cases ok
 ·go_wp2
  go_ret
  exact ⟨rfl,B4.out⟩
 have FW:=Lib.hid (hfw rfl)
 clear hfw
 by_cases hln:(100:Int) < (l.length:Int)
 ·have hln':100 < l.length:=by omega
  go_wp2
  go_ret
  exact ⟨rfl,B4.out⟩
 have hln':¬100 < l.length:=by omega
 have KN:=Lib.hid (new9_any A L.length c L A' m.length c' m w3 (H.out w3 B4.out) (H'.out w3 B4.out) (fun x hx=>(FW.out.1.2 x hx).sz) (fun y hy=>(FW.out.2.2 y hy).sz) (HE.out.below B4.out))
 go_wp2_with fail
 refine KN.out.mono ?_
 rintro e w4 ⟨hnr,hb⟩
 have B5:=Lib.hid (bel_in B4.out hb)
 clear hb KN
 by_cases hboth:L.all rgtE=true∧rightH m=true
 rotate_left
 ·obtain rfl:=hnr.1 hboth
  clear hboth hnr
  go_wp2
  go_ret
  exact ⟨rfl,B5.out⟩
 by_cases hmany:64 < (entU L (m.map fun y=>y.e)).length
 ·obtain rfl:=hnr.2.1 hboth hmany
  clear hboth hnr hmany
  go_wp2
  go_ret
  exact ⟨rfl,B5.out⟩
 obtain ⟨b,rfl,hup⟩:=hnr.2.2 hboth hmany
 have UFF:=Lib.hid (uk_of hboth FW.out hmany)
 generalize entU L (m.map fun y=>y.e)=U at *
 have HU:=Lib.hid (fun (W:World) (hb:Below w4.heap.size w4 W)=>(UFF.out.uf.uq hup).below hb)
 have HEU:=Lib.hid (fun (W:World) (hb:Below w4.heap.size w4 W)=>HE.out.below (bel_in B5.out hb))
 clear hnr hboth hmany hup
 obtain ⟨fi,hi0,hz0,hz1,hz2⟩:=info_parts int9_info
 have UL:=Lib.hid UFF.out.uf.len
 have LE9:=Lib.hid (fun (W:World) (hb:Below w4.heap.size w4 W)=>len9_any b U m W (HU.out W hb).up)
 have KW:=Lib.hid (fun (Aq:Option Addr) (cq:Nat) (q:List Int) (hq:q.length≤1000) (W:World) (hb:Below w4.heap.size w4 W) hrq=>cwant_any b U m Aq q.length cq q W (HU.out W hb) hrq hq UFF.out.rc UFF.out.rz (HEU.out W hb))
 by_cases h0:tn < 0
 ·go_wp2
  go_ret
  exact ⟨rfl,B5.out⟩
 have ul:=UL.out
 go_wp2_with fail
 refine (LE9.out w4 (Below.refl _ _)).mono ?_
 rintro e w5 ⟨rfl,rfl⟩
 by_cases h1:(U.length:Int)≤tn
 ·go_wp2
  go_ret
  exact ⟨rfl,B5.out⟩
 go_wp2_with fail
 refine (LE9.out w4 (Below.refl _ _)).mono ?_
 rintro e w5 ⟨rfl,rfl⟩
 go_wp2_with fail
 refine (set11_any Al l.length cl l U.length w4 (Hl.out w4 B5.out) (by omega)).mono ?_
 rintro e w6 ⟨⟨As,cs,rfl,hrs⟩,hb⟩
 have B46:=Lib.hid hb
 have RS:=Lib.hid (fun (W:World) (hx:Below w6.heap.size w6 W)=>(rdInts_good.up (rdInts_good.below hrs hx) hx.size:rdInts W (lt_ W.heap.size) (setL l U.length) [.slice As (setL l U.length).length cs]))
 clear hb hrs
 have hG0:=Grow.empty (E:=rdInt) (sz:=1) (fun _=>True) (W:=w6.alloc (.cells #[] 3)) (base:=w6.heap.size) (heap_alloc_new w6 _) (Nat.le_refl _)
 have bA:Below w6.heap.size w6 (w6.alloc (.cells #[] 3)):=(Below.refl _ w6).alloc (Nat.le_refl _) _
 have BA:=Lib.hid bA
 have hX:=rdInts_good.below (Hl.out w6 (bel_in B5.out B46.out)) bA
 have hS:∀b,lt_ w6.heap.size b→True∧b < (w6.alloc (.cells #[] 3)).heap.size∧(Value.slice (some ⟨w6.heap.size,0,none⟩) 0 0).ownBlock≠some b:=fun b hb=>⟨trivial,by rw [World.size_alloc];unfold lt_ at hb;omega,fun hh=>by simp only [Value.ownBlock,Option.some.injEq] at hh;unfold lt_ at hb;omega⟩
 have hn1:([]:List Int).length+l.length≤maxLen:=by simp only [List.length_nil];unfold maxLen;omega
 have hn2:(([]:List Int).length+l.length)*8≤140737488355328:=by simp only [List.length_nil];omega
 have hbs:w6.heap.size≤(w6.alloc (.cells #[] 3)).heap.size:=by rw [World.size_alloc];omega
 clear bA
 go_wp2_with (at_builtin;refine wpList_growN _ rfl _ _ 25 25 rfl rdInt_good (by decide) (fun _=>True) w6.heap.size 3 3 fi (.int .i64 0) 8 Tryz.underlying25 Tryz.underlying25 hi0 hz0 hz1 hz2 rfl _ _ rfl hG0 l _ Al l.length cl rfl hX hS hn1 hn2 hbs ?_)
 intro v7 w7 hG7 hg7
 have B67:=Lib.hid (grow_below hG0 hg7 BA.out (Nat.le_refl _) hbs)
 clear hg7 hG0 hX hS hn1 hn2 hbs
 have hn1:l.length+1≤maxLen:=by unfold maxLen;omega
 have hn2:(l.length+1)*8≤140737488355328:=by omega
 have hbs:w6.heap.size≤w7.heap.size:=B67.out.size
 obtain ⟨A7,c7,hv7,-,-⟩:=hG7.own
 obtain ⟨n7,hn7⟩:∃n,n=l.length:=⟨_,rfl⟩
 rw [←hn7] at hv7
 subst hv7
 clear hn7
 go_wp2_with (at_builtin;refine wpList_grow1 w7 rfl _ _ 25 rfl rdInt_good (by decide) (fun _=>True) w6.heap.size 3 fi _ 8 Tryz.underlying25 hi0 hz0 hz1 hz2 rfl (.slice A7 n7 c7) l rfl hG7 tn _ 3 rfl _ rfl rfl hn1 hn2 hbs ?_)
 intro v8 w8 hG8 hg8
 have B68:=Lib.hid (grow_below hG7 hg8 B67.out (Nat.le_refl _) hbs)
 have B48:=Lib.hid (bel_in B46.out B68.out)
 obtain ⟨A8,c8,hv8,-,-⟩:=hG8.own
 have R8:=Lib.hid (show rdInts w8 (lt_ w8.heap.size) (l++[tn]) [v8] from hG8.read rdInt_good)
 obtain ⟨n8,hn8⟩:∃n,n=(l++[tn]).length:=⟨_,rfl⟩
 rw [←hn8] at hv8
 subst hv8
 clear hG7 hg8 hG8 hn1 hn2 hbs hn8
 go_wp2_with fail
 refine (LE9.out w8 B48.out).mono ?_
 rintro e w9 ⟨rfl,rfl⟩
 go_wp2_with fail
 refine (set11_any A8 n8 c8 (l++[tn]) U.length w8 R8.out (by omega)).mono ?_
 rintro e w9 ⟨⟨At,ct,rfl,hrt⟩,hb⟩
 have B69:=Lib.hid (bel_in B68.out hb)
 have RT:=Lib.hid (fun (W:World) (hx:Below w9.heap.size w9 W)=>(rdInts_good.up (rdInts_good.below hrt hx) hx.size:rdInts W (lt_ W.heap.size) (setL (l++[tn]) U.length) [.slice At (setL (l++[tn]) U.length).length ct]))
 clear hb hrt R8
 have hin:0≤tn∧tn < (U.length:Int):=by omega
 have SS1:=setL_set l U.length
 have ST1:=setL_set (l++[tn]) U.length
 have MM:∀p,p ∈ setL (l++[tn]) U.length↔p ∈ setL l U.length∨p=tn:=fun p=>by
  rw [setL_mem,setL_mem,List.mem_append,List.mem_singleton]
  constructor
  ·rintro ⟨h|h,q⟩
   ·exact .inl ⟨h,q⟩
   ·exact .inr h
  ·rintro (⟨h,q⟩|h)
   ·exact ⟨.inl h,q⟩
   ·exact ⟨.inr h,by rw [h];exact hin⟩
 have MORE:=Lib.hid (wishes_more (U:=U) SS1.2 ST1.2 MM)
 have E1:=Lib.hid (wnt_set (U:=U) (l:=setL l U.length) (decide_eq_true SS1))
 have E2:=Lib.hid (wnt_set (U:=U) (l:=setL (l++[tn]) U.length) (decide_eq_true ST1))
 have E3:=Lib.hid (wnt_set (U:=U) (l:=[tn]) (by rw [setB_one];exact decide_eq_true hin))
 have E4:=Lib.hid (show wnt U []=0 from rfl)
 have SLs:=Lib.hid (Nat.le_trans (setL_len10 l U.length) UFF.out.uf.len)
 have SLt:=Lib.hid (Nat.le_trans (setL_len10 (l++[tn]) U.length) UFF.out.uf.len)
 have BNs:=Lib.hid (wnS_le (U:=U) (l:=setL l U.length) UFF.out.rc (setL l U.length))
 have BNt:=Lib.hid (wnS_le (U:=U) (l:=[tn]) UFF.out.rc [tn])
 clear SS1 ST1 MM
 generalize setL l U.length=s at *
 generalize setL (l++[tn]) U.length=t at *
 have sl:=SLs.out
 have bn1:=BNs.out
 have bn2:=BNt.out
 have bn3:s.length*15≤64*15:=Nat.mul_le_mul_right _ sl
 rw [List.length_singleton] at bn2
 have B49:=Lib.hid (bel_in B46.out B69.out)
 go_wp2_with fail
 refine (KW.out At ct t (by have:=SLt.out;omega) w9 B49.out (RT.out w9 (Below.refl _ _))).mono ?_
 rintro e wa ⟨rfl,hb⟩
 have B9a:=Lib.hid hb
 clear hb
 go_wp2_with fail
 refine (KW.out As cs s (by omega) wa (bel_in B49.out B9a.out) (RS.out wa (bel_in B69.out B9a.out))).mono ?_
 rintro e wb ⟨rfl,hb⟩
 have B4b:=Lib.hid (bel_in B49.out (bel_in B9a.out hb))
 clear hb
 obtain ⟨WM,hWM⟩:∃W,W=wb.alloc (.cells #[.int .i64 tn] 3):=⟨_,rfl⟩
 have bm:Below wb.heap.size wb WM:=by rw [hWM];exact (Below.refl _ wb).alloc (Nat.le_refl _) _
 have rm:rdInts WM (lt_ WM.heap.size) [tn] [.slice (some ⟨wb.heap.size,0,none⟩) 1 1]:=one_rd (ty:=3) rdInt_good (by rw [hWM];exact heap_alloc_new wb _) rfl (by rw [hWM];unfold lt_;simp)
 have KM:=Lib.hid (KW.out (some ⟨wb.heap.size,0,none⟩) 1 [tn] (by simp) WM (bel_in B4b.out bm) rm)
 have BM:=Lib.hid (bel_in B4b.out bm)
 clear bm rm
 go_wp2_with fail
 rw [←hWM]
 clear hWM
 refine KM.out.mono ?_
 rintro e wc ⟨rfl,hb⟩
 have B4c:=Lib.hid (bel_in BM.out hb)
 clear hb KM
 rw [E1.out,E2.out,E3.out]
 have more:=MORE.out
 generalize wnS U s s=x1 at *
 generalize wnS U t t=x2 at *
 generalize wnS U [tn] [tn]=x3 at *
 have KN2:=Lib.hid (KW.out none 0 [] (by simp) wc B4c.out (rdRow_nil _ _))
 rw [E4.out] at KN2
 have LEQ:((x2:Int)≤(x1:Int)+(x3:Int)):=by omega
 have LEN2:x2≤x1+x3:=more
 have LED:decide (x2≤x1+x3)=true:=decide_eq_true more
 have LEI:decide ((x2:Int)≤(x1:Int)+(x3:Int))=true:=decide_eq_true LEQ
 clear KW
 go_wp2_with fail
 refine KN2.out.mono ?_
 rintro e wd ⟨rfl,hb⟩
 have FIN:=Lib.hid (bel_in B5.out (bel_in B4c.out hb))
 clear hb KN2
 go_wp2
 go_ret
 exact ⟨by first|rfl|simp,FIN.out⟩
end Go.Proofs.YtpilmhoakopcaaaGreatDoor
