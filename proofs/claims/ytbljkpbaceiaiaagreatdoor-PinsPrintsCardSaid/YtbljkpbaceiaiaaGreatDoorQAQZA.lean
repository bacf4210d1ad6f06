/- What the laws rest on: S5k4, S5k5, E8p, E8f. -/
import Derived.Test.YtbljkpbaceiaiaaGreatDoorQAIZA
import Derived.Test.YtbljkpbaceiaiaaGreatDoorQARZA
set_option maxRecDepth 100000
set_option linter.unusedVariables false
set_option linter.unusedSimpArgs false
namespace Go.Proofs.YtbljkpbaceiaiaaGreatDoor
open Go.RowKit
theorem rdFds_take {w:World} {S:Nat→Prop} {l:List Fd} {A:Option Addr} {n c k:Nat} (h:rdFds w S l [.slice A n c]) (hk:k≤l.length):rdFds w S (l.take k) [.slice A k c]:=by
 obtain ⟨A',c',e,h1,h2,h3⟩:=h
 simp only [List.cons.injEq,Value.slice.injEq,and_true] at e
 obtain ⟨rfl,rfl,rfl⟩:=e
 have hl:(l.take k).length=k:=by rw [List.length_take];omega
 refine ⟨A,c,by rw [hl],by omega,h2,fun j hj=>?_⟩
 rw [hl] at hj
 obtain ⟨ad,es,a1,a2,a3,a4,a5⟩:=h3 j (by omega)
 exact ⟨ad,es,a1,a2,by rw [List.getElem_take];exact a3,a4,a5⟩
theorem pl_has {l:List Fd} {n:ByteArray}:decide (0≤plX l n 0)=getV l n:=by
 cases h:getV l n
 ·rw [(pl_no (i:=0) h).1];rfl
 ·obtain ⟨k,_,e,_⟩:=pl_yes (i:=0) h
  rw [e,decide_eq_true_iff];omega
set_option maxHeartbeats 8000000 in
theorem rstanza5_any (A:Option Addr) (n c:Nat) (l:List Fd) (w:World) (h:rdFds w (lt_ w.heap.size) l [.slice A n c]) (E:Env5 w) (hnz:∀f ∈ l,f.n.size≤maxLen) :
  Calls Tryz.prog 73 #[.slice A n c] w fun e w'=>e=.returned (.bool (stzP l))∧Below w.heap.size w w':=by
 obtain ⟨rfl,hnc,hcm,_⟩:=rdFds_at h
 have hcm':c≤9223372036854775807:=hcm
 clear hcm
 have H:=Lib.hid h
 have HE:=Lib.hid E
 have HNZ:=Lib.hid hnz
 clear h E hnz
 by_cases h0:l.length=0
 ·obtain rfl:l=[]:=List.eq_nil_of_length_eq_zero h0
  clear h0
  go_enter Tryz.func73,Tryz.ntmps73
  go_wp2
  go_ret
  exact ⟨rfl,Below.refl _ _⟩
 have z0:((l.length:Int)==0)=false:=by rw [beq_eq_false_iff_ne];omega
 by_cases h40:40 < l.length
 ·have z1:(40:Int) < (l.length:Int):=by omega
  have X:=Lib.hid (show stzP l=false by unfold stzP;rw [decide_eq_false (show ¬l.length≤40 by omega)];simp)
  clear h0 h40
  go_enter Tryz.func73,Tryz.ntmps73
  go_wp2
  go_ret
  exact ⟨by rw [X.out];try rfl,Below.refl _ _⟩
 have z1:¬(40:Int) < (l.length:Int):=by omega
 have SP:=Lib.hid (show stzP l=(l.all fdP&&noDup [] l) by unfold stzP;rw [decide_eq_true (show 1≤l.length by omega),decide_eq_true (show l.length≤40 by omega)];simp)
 clear h0 h40
 go_enter Tryz.func73,Tryz.ntmps73
 go_wp2
 go_loopw [15] (fun i wr=>∃k:Nat,k≤l.length∧i=.int .i64 k∧(l.take k).all fdP=true∧noDup [] l=noDup (l.take k) (l.drop k)∧Below w.heap.size w wr) (fun i _=>l.length - (intOf i).toNat)
 case atStart=>exact ⟨0,Nat.zero_le _,rfl,rfl,rfl,Below.refl _ _⟩
 case round=>
  obtain ⟨k,hk,rfl,hall,hdup,hbel⟩:=hrel
  have HA:=Lib.hid hall
  have HD:=Lib.hid hdup
  clear hall hdup
  by_cases hlt:k < l.length
  ·have HRD:=Lib.hid (rdFds_good.up (rdFds_good.below H.out hbel) hbel.size)
   obtain ⟨_,_,_,ha⟩:=rdFds_at HRD.out
   obtain ⟨ad,rfl,had,x0,x1⟩:=ha k hlt
   have HB:=Lib.hid hbel
   have hfnz:=HNZ.out l[k] (List.getElem_mem hlt)
   have AS:=Lib.hid (all_snoc fdP l k hlt)
   have AN:=Lib.hid (fun h=>all_not5 (p:=fdP) (l:=l) (k:=k) hlt h)
   have DS:=Lib.hid (noDup_step hlt)
   have HTK:=Lib.hid (fun (W:World) (hb:Below wr.heap.size wr W)=>(show rdFds W (lt_ W.heap.size) (l.take k) [.slice (some ad) k c] from rdFds_take (rdFds_good.up (rdFds_good.below HRD.out hb) hb.size) (Nat.le_of_lt hlt)))
   have FDK:=Lib.hid (show fdP l[k]=(fnB (B l[k].n)&&(decide (l[k].v.size≤60000)&&valB (B l[k].v))) from rfl)
   generalize hfn:l[k].n=fn at *
   generalize hfv:l[k].v=fv at *
   obtain ⟨V3,hV3⟩:∃V3,V3=(wr.alloc (Obj.cells #[Value.string fn,Value.string fv] 58)).drew:=⟨_,rfl⟩
   have bv:Below wr.heap.size wr V3:=by rw [hV3];exact belD ((Below.refl _ _).alloc (Nat.le_refl _) _) 1
   have BV:=Lib.hid bv
   have BWV:=Lib.hid (HB.out.trans (bv.mono HB.out.size))
   have QV:=Lib.hid (show wr.heap.size < V3.heap.size by rw [hV3];show _ < (wr.alloc _).heap.size;rw [World.size_alloc];omega)
   have KS:=Lib.hid (fun (W:World) (hb:Below V3.heap.size V3 W)=>(show W.cell? ⟨wr.heap.size,0,none⟩=some (.string fn)∧W.cell? ⟨wr.heap.size,1,none⟩=some (.string fv) from
    ⟨(hb.cell (show (⟨wr.heap.size,0,none⟩:Addr).block < V3.heap.size from QV.out)).trans (by rw [hV3];simp [go_sem]),(hb.cell (show (⟨wr.heap.size,1,none⟩:Addr).block < V3.heap.size from QV.out)).trans (by rw [hV3];simp [go_sem])⟩))
   have HEW:=Lib.hid (fun (W:World) (hb:Below V3.heap.size V3 W)=>(show Env5 W from HE.out.below (BWV.out.trans (hb.mono BWV.out.size)) HE.out.pos))
   have KN:=Lib.hid (fun W=>name5_any fn W hfnz)
   have KV:=Lib.hid (fun (W:World) (hb:Below V3.heap.size V3 W)=>rvalue5_any fv W (HEW.out W hb))
   have KP:=Lib.hid (fun (W:World) (hb:Below V3.heap.size V3 W)=>place_any (some ad) k c (l.take k) fn W (HTK.out W (BV.out.trans (hb.mono BV.out.size))))
   have PH:=Lib.hid (pl_has (l:=l.take k) (n:=fn))
   have i0:(0:Int)≤(k:Int):=by omega
   have i1:(k:Int)≤(l.length:Int):=by omega
   have i2:k≤c:=by omega
   clear ha hbel bv hfnz
   cases h1:fnB (B fn)
   ·have X:=Lib.hid (show stzP l=false by rw [SP.out,AN.out (by rw [FDK.out,h1];rfl)];rfl)
    rw [h1] at KN
    clear h1 hfn hfv
    go_wp2_with fail
    refine wp_region_noPanic ?_
    refine wp_region_L (fun W=>W.cell? ⟨wr.heap.size,0,none⟩=some (.string fn)∧W.cell? ⟨wr.heap.size,1,none⟩=some (.string fv)) 18 (by kernel_rfl) (by rw [←hV3];exact KS.out V3 (Below.refl _ _)) (fun hHeld=>?_)
    rw [←hV3] at hHeld ⊢
    clear hV3
    refine wpAnyL_one (i:=0) (by kernel_rfl) rfl (fun K hK=>?_)
    go_simp
    refine hK.out _ _ (KS.out V3 (Below.refl _ _)) (fun hHeld=>?_)
    clear hK K
    try simp only [Act.put,List.setIfInBounds_toArray,List.set_cons_zero,List.set_cons_succ]
    refine wpAnyL_one (i:=1) (by kernel_rfl) rfl (fun K hK=>?_)
    go_simp
    refine hK.out _ _ (KS.out V3 (Below.refl _ _)) (fun hHeld=>?_)
    clear hK K
    try simp only [Act.put,List.setIfInBounds_toArray,List.set_cons_zero,List.set_cons_succ]
    refine wpAnyL_one (i:=2) (by kernel_rfl) rfl (fun K hK=>?_)
    go_simp
    refine (KN.out V3).mono ?_
    rintro e w4 ⟨rfl,hb4⟩
    have HB4:=Lib.hid hb4
    clear hb4
    go_wp2_with fail
    refine hK.out _ _ (KS.out _ HB4.out) (fun hHeld=>?_)
    clear hK K
    try simp only [Act.put,List.setIfInBounds_toArray,List.set_cons_zero,List.set_cons_succ]
    refine wpAnyL_one (i:=3) (by kernel_rfl) rfl (fun K hK=>?_)
    go_simp
    refine hK.out _ _ (KS.out _ HB4.out) (fun hHeld=>?_)
    clear hK K
    try simp only [Act.put,List.setIfInBounds_toArray,List.set_cons_zero,List.set_cons_succ]
    refine wpAnyL_one (i:=4) (by kernel_rfl) rfl (fun K hK=>?_)
    go_simp
    refine hK.out _ _ (KS.out _ HB4.out) (fun hHeld=>?_)
    clear hK K
    try simp only [Act.put,List.setIfInBounds_toArray,List.set_cons_zero,List.set_cons_succ]
    refine wpAnyL_one (i:=5) (by kernel_rfl) rfl (fun K hK=>?_)
    go_simp
    refine hK.out _ _ (KS.out _ HB4.out) (fun hHeld=>?_)
    clear hK K
    try simp only [Act.put,List.setIfInBounds_toArray,List.set_cons_zero,List.set_cons_succ]
    refine wpAnyL_one (i:=6) (by kernel_rfl) rfl (fun K hK=>?_)
    go_simp
    refine hK.out _ _ (KS.out _ HB4.out) (fun hHeld=>?_)
    clear hK K
    try simp only [Act.put,List.setIfInBounds_toArray,List.set_cons_zero,List.set_cons_succ]
    refine wpAnyL_one (i:=7) (by kernel_rfl) rfl (fun K hK=>?_)
    go_simp
    refine hK.out _ _ (KS.out _ HB4.out) (fun hHeld=>?_)
    clear hK K
    try simp only [Act.put,List.setIfInBounds_toArray,List.set_cons_zero,List.set_cons_succ]
    refine wpAnyL_one (i:=8) (by kernel_rfl) rfl (fun K hK=>?_)
    go_simp
    refine hK.out _ _ (KS.out _ HB4.out) (fun hHeld=>?_)
    clear hK K
    try simp only [Act.put,List.setIfInBounds_toArray,List.set_cons_zero,List.set_cons_succ]
    refine wpAnyL_one (i:=9) (by kernel_rfl) rfl (fun K hK=>?_)
    go_simp
    refine hK.out _ _ (KS.out _ HB4.out) (fun hHeld=>?_)
    clear hK K
    try simp only [Act.put,List.setIfInBounds_toArray,List.set_cons_zero,List.set_cons_succ]
    refine wpAnyL_one (i:=10) (by kernel_rfl) rfl (fun K hK=>?_)
    go_simp
    refine hK.out _ _ (KS.out _ HB4.out) (fun hHeld=>?_)
    clear hK K
    try simp only [Act.put,List.setIfInBounds_toArray,List.set_cons_zero,List.set_cons_succ]
    refine wpAnyL_take (i:=11) (v:=undef) [17,16,13] rfl (by kernel_rfl) (by kernel_rfl) (by kernel_rfl) (fun _ _ _ h=>h) (by kernel_rfl) (by kernel_rfl) (by kernel_rfl) (Or.inr ⟨by rfl,by rfl⟩) (by assumption) ?_
    try simp only [Act.put,List.setIfInBounds_toArray,List.set_cons_zero,List.set_cons_succ]
    refine wpAnyL_take (i:=12) (v:=undef) [17,16,13] rfl (by kernel_rfl) (by kernel_rfl) (by kernel_rfl) (fun _ _ _ h=>h) (by kernel_rfl) (by kernel_rfl) (by kernel_rfl) (Or.inr ⟨by rfl,by rfl⟩) (by assumption) ?_
    try simp only [Act.put,List.setIfInBounds_toArray,List.set_cons_zero,List.set_cons_succ]
    refine wpAnyL_take (i:=14) (v:=undef) [17,16,15] rfl (by kernel_rfl) (by kernel_rfl) (by kernel_rfl) (fun _ _ _ h=>h) (by kernel_rfl) (by kernel_rfl) (by kernel_rfl) (Or.inr ⟨by rfl,by rfl⟩) (by assumption) ?_
    try simp only [Act.put,List.setIfInBounds_toArray,List.set_cons_zero,List.set_cons_succ]
    refine wpAnyL_take (i:=13) (v:=undef) [17,16] rfl (by kernel_rfl) (by kernel_rfl) (by kernel_rfl) (fun _ _ _ h=>h) (by kernel_rfl) (by kernel_rfl) (by kernel_rfl) (Or.inr ⟨by rfl,by rfl⟩) (by assumption) ?_
    try simp only [Act.put,List.setIfInBounds_toArray,List.set_cons_zero,List.set_cons_succ]
    refine wpAnyL_take (i:=15) (v:=undef) [17,16] rfl (by kernel_rfl) (by kernel_rfl) (by kernel_rfl) (fun _ _ _ h=>h) (by kernel_rfl) (by kernel_rfl) (by kernel_rfl) (Or.inr ⟨by rfl,by rfl⟩) (by assumption) ?_
    try simp only [Act.put,List.setIfInBounds_toArray,List.set_cons_zero,List.set_cons_succ]
    refine wpAnyL_one (i:=16) (by kernel_rfl) rfl (fun K hK=>?_)
    go_simp
    refine hK.out _ _ (KS.out _ HB4.out) (fun hHeld=>?_)
    clear hK K
    try simp only [Act.put,List.setIfInBounds_toArray,List.set_cons_zero,List.set_cons_succ]
    refine wpAnyL_one (i:=17) (by kernel_rfl) rfl (fun K hK=>?_)
    go_simp
    refine hK.out _ _ (KS.out _ HB4.out) (fun hHeld=>?_)
    clear hK K
    try simp only [Act.put,List.setIfInBounds_toArray,List.set_cons_zero,List.set_cons_succ]
    refine wpAnyL_last (by kernel_rfl) rfl (by kernel_rfl) (fun K hK=>?_)
    go_simp
    refine hK.out _ _ ?_
    clear hK K
    refine NoPanic.normal ?_
    go_wp2
    go_ret
    exact ⟨by rw [X.out];try rfl,BWV.out.trans (HB4.out.mono BWV.out.size)⟩
   ·rw [h1] at KN
    cases h2:(decide (fv.size≤60000)&&valB (B fv))
    ·have X:=Lib.hid (show stzP l=false by rw [SP.out,AN.out (by rw [FDK.out,h1,h2];rfl)];rfl)
     rw [h2] at KV
     clear h1 h2 hfn hfv
     go_wp2_with fail
     refine wp_region_noPanic ?_
     refine wp_region_L (fun W=>W.cell? ⟨wr.heap.size,0,none⟩=some (.string fn)∧W.cell? ⟨wr.heap.size,1,none⟩=some (.string fv)) 18 (by kernel_rfl) (by rw [←hV3];exact KS.out V3 (Below.refl _ _)) (fun hHeld=>?_)
     rw [←hV3] at hHeld ⊢
     clear hV3
     refine wpAnyL_one (i:=0) (by kernel_rfl) rfl (fun K hK=>?_)
     go_simp
     refine hK.out _ _ (KS.out V3 (Below.refl _ _)) (fun hHeld=>?_)
     clear hK K
     try simp only [Act.put,List.setIfInBounds_toArray,List.set_cons_zero,List.set_cons_succ]
     refine wpAnyL_one (i:=1) (by kernel_rfl) rfl (fun K hK=>?_)
     go_simp
     refine hK.out _ _ (KS.out V3 (Below.refl _ _)) (fun hHeld=>?_)
     clear hK K
     try simp only [Act.put,List.setIfInBounds_toArray,List.set_cons_zero,List.set_cons_succ]
     refine wpAnyL_one (i:=2) (by kernel_rfl) rfl (fun K hK=>?_)
     go_simp
     refine (KN.out V3).mono ?_
     rintro e w4 ⟨rfl,hb4⟩
     have HB4:=Lib.hid hb4
     clear hb4
     go_wp2_with fail
     refine hK.out _ _ (KS.out _ HB4.out) (fun hHeld=>?_)
     clear hK K
     try simp only [Act.put,List.setIfInBounds_toArray,List.set_cons_zero,List.set_cons_succ]
     refine wpAnyL_one (i:=3) (by kernel_rfl) rfl (fun K hK=>?_)
     go_simp
     refine hK.out _ _ (KS.out _ HB4.out) (fun hHeld=>?_)
     clear hK K
     try simp only [Act.put,List.setIfInBounds_toArray,List.set_cons_zero,List.set_cons_succ]
     refine wpAnyL_one (i:=4) (by kernel_rfl) rfl (fun K hK=>?_)
     go_simp
     refine hK.out _ _ (KS.out _ HB4.out) (fun hHeld=>?_)
     clear hK K
     try simp only [Act.put,List.setIfInBounds_toArray,List.set_cons_zero,List.set_cons_succ]
     refine wpAnyL_one (i:=5) (by kernel_rfl) rfl (fun K hK=>?_)
     go_simp
     refine hK.out _ _ (KS.out _ HB4.out) (fun hHeld=>?_)
     clear hK K
     try simp only [Act.put,List.setIfInBounds_toArray,List.set_cons_zero,List.set_cons_succ]
     refine wpAnyL_one (i:=6) (by kernel_rfl) rfl (fun K hK=>?_)
     go_simp
     refine hK.out _ _ (KS.out _ HB4.out) (fun hHeld=>?_)
     clear hK K
     try simp only [Act.put,List.setIfInBounds_toArray,List.set_cons_zero,List.set_cons_succ]
     refine wpAnyL_one (i:=7) (by kernel_rfl) rfl (fun K hK=>?_)
     go_simp
     refine (KV.out _ HB4.out).mono ?_
     rintro e w5 ⟨rfl,hb5⟩
     have HB5:=Lib.hid (HB4.out.trans (hb5.mono HB4.out.size))
     clear hb5
     go_wp2_with fail
     refine hK.out _ _ (KS.out _ HB5.out) (fun hHeld=>?_)
     clear hK K
     try simp only [Act.put,List.setIfInBounds_toArray,List.set_cons_zero,List.set_cons_succ]
     refine wpAnyL_one (i:=8) (by kernel_rfl) rfl (fun K hK=>?_)
     go_simp
     refine hK.out _ _ (KS.out _ HB5.out) (fun hHeld=>?_)
     clear hK K
     try simp only [Act.put,List.setIfInBounds_toArray,List.set_cons_zero,List.set_cons_succ]
     refine wpAnyL_one (i:=9) (by kernel_rfl) rfl (fun K hK=>?_)
     go_simp
     refine hK.out _ _ (KS.out _ HB5.out) (fun hHeld=>?_)
     clear hK K
     try simp only [Act.put,List.setIfInBounds_toArray,List.set_cons_zero,List.set_cons_succ]
     refine wpAnyL_one (i:=10) (by kernel_rfl) rfl (fun K hK=>?_)
     go_simp
     refine hK.out _ _ (KS.out _ HB5.out) (fun hHeld=>?_)
     clear hK K
     try simp only [Act.put,List.setIfInBounds_toArray,List.set_cons_zero,List.set_cons_succ]
     refine wpAnyL_take (i:=11) (v:=undef) [17,16,13] rfl (by kernel_rfl) (by kernel_rfl) (by kernel_rfl) (fun _ _ _ h=>h) (by kernel_rfl) (by kernel_rfl) (by kernel_rfl) (Or.inr ⟨by rfl,by rfl⟩) (by assumption) ?_
     try simp only [Act.put,List.setIfInBounds_toArray,List.set_cons_zero,List.set_cons_succ]
     refine wpAnyL_take (i:=12) (v:=undef) [17,16,13] rfl (by kernel_rfl) (by kernel_rfl) (by kernel_rfl) (fun _ _ _ h=>h) (by kernel_rfl) (by kernel_rfl) (by kernel_rfl) (Or.inr ⟨by rfl,by rfl⟩) (by assumption) ?_
     try simp only [Act.put,List.setIfInBounds_toArray,List.set_cons_zero,List.set_cons_succ]
     refine wpAnyL_take (i:=14) (v:=undef) [17,16,15] rfl (by kernel_rfl) (by kernel_rfl) (by kernel_rfl) (fun _ _ _ h=>h) (by kernel_rfl) (by kernel_rfl) (by kernel_rfl) (Or.inr ⟨by rfl,by rfl⟩) (by assumption) ?_
     try simp only [Act.put,List.setIfInBounds_toArray,List.set_cons_zero,List.set_cons_succ]
     refine wpAnyL_take (i:=13) (v:=undef) [17,16] rfl (by kernel_rfl) (by kernel_rfl) (by kernel_rfl) (fun _ _ _ h=>h) (by kernel_rfl) (by kernel_rfl) (by kernel_rfl) (Or.inr ⟨by rfl,by rfl⟩) (by assumption) ?_
     try simp only [Act.put,List.setIfInBounds_toArray,List.set_cons_zero,List.set_cons_succ]
     refine wpAnyL_take (i:=15) (v:=undef) [17,16] rfl (by kernel_rfl) (by kernel_rfl) (by kernel_rfl) (fun _ _ _ h=>h) (by kernel_rfl) (by kernel_rfl) (by kernel_rfl) (Or.inr ⟨by rfl,by rfl⟩) (by assumption) ?_
     try simp only [Act.put,List.setIfInBounds_toArray,List.set_cons_zero,List.set_cons_succ]
     refine wpAnyL_one (i:=16) (by kernel_rfl) rfl (fun K hK=>?_)
     go_simp
     refine hK.out _ _ (KS.out _ HB5.out) (fun hHeld=>?_)
     clear hK K
     try simp only [Act.put,List.setIfInBounds_toArray,List.set_cons_zero,List.set_cons_succ]
     refine wpAnyL_one (i:=17) (by kernel_rfl) rfl (fun K hK=>?_)
     go_simp
     refine hK.out _ _ (KS.out _ HB5.out) (fun hHeld=>?_)
     clear hK K
     try simp only [Act.put,List.setIfInBounds_toArray,List.set_cons_zero,List.set_cons_succ]
     refine wpAnyL_last (by kernel_rfl) rfl (by kernel_rfl) (fun K hK=>?_)
     go_simp
     refine hK.out _ _ ?_
     clear hK K
     refine NoPanic.normal ?_
     go_wp2
     go_ret
     exact ⟨by rw [X.out];try rfl,BWV.out.trans (HB5.out.mono BWV.out.size)⟩
    ·rw [h2] at KV
     cases h3:getV (l.take k) fn
     ·have t0:¬0≤plX (l.take k) fn 0:=by have:=PH.out;rw [h3] at this;exact of_decide_eq_false this
      have Y:=Lib.hid (show (l.take (k+1)).all fdP=true∧noDup [] l=noDup (l.take (k+1)) (l.drop (k+1)) from ⟨by rw [AS.out,HA.out,FDK.out,h1,h2];rfl,by rw [HD.out,DS.out,h3];rfl⟩)
      generalize plX (l.take k) fn 0=px at *
      clear h1 h2 h3 hfn hfv
      go_wp2_with fail
      refine wp_region_noPanic ?_
      refine wp_region_L (fun W=>W.cell? ⟨wr.heap.size,0,none⟩=some (.string fn)∧W.cell? ⟨wr.heap.size,1,none⟩=some (.string fv)) 18 (by kernel_rfl) (by rw [←hV3];exact KS.out V3 (Below.refl _ _)) (fun hHeld=>?_)
      rw [←hV3] at hHeld ⊢
      clear hV3
      refine wpAnyL_one (i:=0) (by kernel_rfl) rfl (fun K hK=>?_)
      go_simp
      refine hK.out _ _ (KS.out V3 (Below.refl _ _)) (fun hHeld=>?_)
      clear hK K
      try simp only [Act.put,List.setIfInBounds_toArray,List.set_cons_zero,List.set_cons_succ]
      refine wpAnyL_one (i:=1) (by kernel_rfl) rfl (fun K hK=>?_)
      go_simp
      refine hK.out _ _ (KS.out V3 (Below.refl _ _)) (fun hHeld=>?_)
      clear hK K
      try simp only [Act.put,List.setIfInBounds_toArray,List.set_cons_zero,List.set_cons_succ]
      refine wpAnyL_one (i:=2) (by kernel_rfl) rfl (fun K hK=>?_)
      go_simp
      refine (KN.out V3).mono ?_
      rintro e w4 ⟨rfl,hb4⟩
      have HB4:=Lib.hid hb4
      clear hb4
      go_wp2_with fail
      refine hK.out _ _ (KS.out _ HB4.out) (fun hHeld=>?_)
      clear hK K
      try simp only [Act.put,List.setIfInBounds_toArray,List.set_cons_zero,List.set_cons_succ]
      refine wpAnyL_one (i:=3) (by kernel_rfl) rfl (fun K hK=>?_)
      go_simp
      refine hK.out _ _ (KS.out _ HB4.out) (fun hHeld=>?_)
      clear hK K
      try simp only [Act.put,List.setIfInBounds_toArray,List.set_cons_zero,List.set_cons_succ]
      refine wpAnyL_one (i:=4) (by kernel_rfl) rfl (fun K hK=>?_)
      go_simp
      refine hK.out _ _ (KS.out _ HB4.out) (fun hHeld=>?_)
      clear hK K
      try simp only [Act.put,List.setIfInBounds_toArray,List.set_cons_zero,List.set_cons_succ]
      refine wpAnyL_one (i:=5) (by kernel_rfl) rfl (fun K hK=>?_)
      go_simp
      refine hK.out _ _ (KS.out _ HB4.out) (fun hHeld=>?_)
      clear hK K
      try simp only [Act.put,List.setIfInBounds_toArray,List.set_cons_zero,List.set_cons_succ]
      refine wpAnyL_one (i:=6) (by kernel_rfl) rfl (fun K hK=>?_)
      go_simp
      refine hK.out _ _ (KS.out _ HB4.out) (fun hHeld=>?_)
      clear hK K
      try simp only [Act.put,List.setIfInBounds_toArray,List.set_cons_zero,List.set_cons_succ]
      refine wpAnyL_one (i:=7) (by kernel_rfl) rfl (fun K hK=>?_)
      go_simp
      refine (KV.out _ HB4.out).mono ?_
      rintro e w5 ⟨rfl,hb5⟩
      have HB5:=Lib.hid (HB4.out.trans (hb5.mono HB4.out.size))
      clear hb5
      go_wp2_with fail
      refine hK.out _ _ (KS.out _ HB5.out) (fun hHeld=>?_)
      clear hK K
      try simp only [Act.put,List.setIfInBounds_toArray,List.set_cons_zero,List.set_cons_succ]
      refine wpAnyL_one (i:=8) (by kernel_rfl) rfl (fun K hK=>?_)
      go_simp
      refine hK.out _ _ (KS.out _ HB5.out) (fun hHeld=>?_)
      clear hK K
      try simp only [Act.put,List.setIfInBounds_toArray,List.set_cons_zero,List.set_cons_succ]
      refine wpAnyL_one (i:=9) (by kernel_rfl) rfl (fun K hK=>?_)
      go_simp
      refine hK.out _ _ (KS.out _ HB5.out) (fun hHeld=>?_)
      clear hK K
      try simp only [Act.put,List.setIfInBounds_toArray,List.set_cons_zero,List.set_cons_succ]
      refine wpAnyL_one (i:=10) (by kernel_rfl) rfl (fun K hK=>?_)
      go_simp
      refine hK.out _ _ (KS.out _ HB5.out) (fun hHeld=>?_)
      clear hK K
      try simp only [Act.put,List.setIfInBounds_toArray,List.set_cons_zero,List.set_cons_succ]
      refine wpAnyL_take (i:=11) (v:=?_) [17,16,13] rfl (by kernel_rfl) (by kernel_rfl) (by kernel_rfl) (fun _ _ _ h=>h) (by kernel_rfl) (by kernel_rfl) (by kernel_rfl) (Or.inl ⟨by rfl,?_⟩) (by assumption) ?_
      rotate_left
      ·intro w hSw
       try dsimp only at hSw
       go_simp
       first|done|with_reducible rfl
      try simp only [Act.put,List.setIfInBounds_toArray,List.set_cons_zero,List.set_cons_succ]
      refine wpAnyL_take (i:=12) (v:=?_) [17,16,13] rfl (by kernel_rfl) (by kernel_rfl) (by kernel_rfl) (fun _ _ _ h=>h) (by kernel_rfl) (by kernel_rfl) (by kernel_rfl) (Or.inl ⟨by rfl,?_⟩) (by assumption) ?_
      rotate_left
      ·intro w hSw
       try dsimp only at hSw
       go_simp
       first|done|with_reducible rfl
      try simp only [Act.put,List.setIfInBounds_toArray,List.set_cons_zero,List.set_cons_succ]
      refine wpAnyL_take (i:=14) (v:=?_) [17,16,15] rfl (by kernel_rfl) (by kernel_rfl) (by kernel_rfl) (fun _ _ _ h=>h) (by kernel_rfl) (by kernel_rfl) (by kernel_rfl) (Or.inl ⟨by rfl,?_⟩) (by assumption) ?_
      rotate_left
      ·intro w hSw
       try dsimp only at hSw
       go_simp
       first|done|with_reducible rfl
      try simp only [Act.put,List.setIfInBounds_toArray,List.set_cons_zero,List.set_cons_succ]
      refine wpAnyL_take (i:=13) (v:=?_) [17,16] rfl (by kernel_rfl) (by kernel_rfl) (by kernel_rfl) (fun _ _ _ h=>h) (by kernel_rfl) (by kernel_rfl) (by kernel_rfl) (Or.inl ⟨by rfl,?_⟩) (by assumption) ?_
      rotate_left
      ·intro w hSw
       try dsimp only at hSw
       go_simp
       first|done|with_reducible rfl
      try simp only [Act.put,List.setIfInBounds_toArray,List.set_cons_zero,List.set_cons_succ]
      refine wpAnyL_take (i:=15) (v:=?_) [17,16] rfl (by kernel_rfl) (by kernel_rfl) (by kernel_rfl) (fun _ _ _ h=>h) (by kernel_rfl) (by kernel_rfl) (by kernel_rfl) (Or.inl ⟨by rfl,?_⟩) (by assumption) ?_
      rotate_left
      ·intro w hSw
       try dsimp only at hSw
       go_simp
       first|done|with_reducible rfl
      try simp only [Act.put,List.setIfInBounds_toArray,List.set_cons_zero,List.set_cons_succ]
      refine wpAnyL_one (i:=16) (by kernel_rfl) rfl (fun K hK=>?_)
      go_simp
      refine (KP.out _ HB5.out).mono ?_
      rintro e w6 ⟨rfl,hb6⟩
      have HB6:=Lib.hid (HB5.out.trans (hb6.mono HB5.out.size))
      clear hb6
      go_wp2_with fail
      refine hK.out _ _ (KS.out _ HB6.out) (fun hHeld=>?_)
      clear hK K
      try simp only [Act.put,List.setIfInBounds_toArray,List.set_cons_zero,List.set_cons_succ]
      refine wpAnyL_one (i:=17) (by kernel_rfl) rfl (fun K hK=>?_)
      go_simp
      refine hK.out _ _ (KS.out _ HB6.out) (fun hHeld=>?_)
      clear hK K
      try simp only [Act.put,List.setIfInBounds_toArray,List.set_cons_zero,List.set_cons_succ]
      refine wpAnyL_last (by kernel_rfl) rfl (by kernel_rfl) (fun K hK=>?_)
      go_simp
      refine hK.out _ _ ?_
      clear hK K
      refine NoPanic.normal ?_
      go_wp2
      go_roundw
      case rel=>exact ⟨k+1,by omega,by go_num,Y.out.1,Y.out.2,BWV.out.trans (HB6.out.mono BWV.out.size)⟩
      case measure=>simp [intOf];omega
     ·have t0:0≤plX (l.take k) fn 0:=by have:=PH.out;rw [h3] at this;exact of_decide_eq_true this
      have X:=Lib.hid (show stzP l=false by rw [SP.out,HD.out,DS.out,h3];simp)
      generalize plX (l.take k) fn 0=px at *
      clear h1 h2 h3 hfn hfv
      go_wp2_with fail
      refine wp_region_noPanic ?_
      refine wp_region_L (fun W=>W.cell? ⟨wr.heap.size,0,none⟩=some (.string fn)∧W.cell? ⟨wr.heap.size,1,none⟩=some (.string fv)) 18 (by kernel_rfl) (by rw [←hV3];exact KS.out V3 (Below.refl _ _)) (fun hHeld=>?_)
      rw [←hV3] at hHeld ⊢
      clear hV3
      refine wpAnyL_one (i:=0) (by kernel_rfl) rfl (fun K hK=>?_)
      go_simp
      refine hK.out _ _ (KS.out V3 (Below.refl _ _)) (fun hHeld=>?_)
      clear hK K
      try simp only [Act.put,List.setIfInBounds_toArray,List.set_cons_zero,List.set_cons_succ]
      refine wpAnyL_one (i:=1) (by kernel_rfl) rfl (fun K hK=>?_)
      go_simp
      refine hK.out _ _ (KS.out V3 (Below.refl _ _)) (fun hHeld=>?_)
      clear hK K
      try simp only [Act.put,List.setIfInBounds_toArray,List.set_cons_zero,List.set_cons_succ]
      refine wpAnyL_one (i:=2) (by kernel_rfl) rfl (fun K hK=>?_)
      go_simp
      refine (KN.out V3).mono ?_
      rintro e w4 ⟨rfl,hb4⟩
      have HB4:=Lib.hid hb4
      clear hb4
      go_wp2_with fail
      refine hK.out _ _ (KS.out _ HB4.out) (fun hHeld=>?_)
      clear hK K
      try simp only [Act.put,List.setIfInBounds_toArray,List.set_cons_zero,List.set_cons_succ]
      refine wpAnyL_one (i:=3) (by kernel_rfl) rfl (fun K hK=>?_)
      go_simp
      refine hK.out _ _ (KS.out _ HB4.out) (fun hHeld=>?_)
      clear hK K
      try simp only [Act.put,List.setIfInBounds_toArray,List.set_cons_zero,List.set_cons_succ]
      refine wpAnyL_one (i:=4) (by kernel_rfl) rfl (fun K hK=>?_)
      go_simp
      refine hK.out _ _ (KS.out _ HB4.out) (fun hHeld=>?_)
      clear hK K
      try simp only [Act.put,List.setIfInBounds_toArray,List.set_cons_zero,List.set_cons_succ]
      refine wpAnyL_one (i:=5) (by kernel_rfl) rfl (fun K hK=>?_)
      go_simp
      refine hK.out _ _ (KS.out _ HB4.out) (fun hHeld=>?_)
      clear hK K
      try simp only [Act.put,List.setIfInBounds_toArray,List.set_cons_zero,List.set_cons_succ]
      refine wpAnyL_one (i:=6) (by kernel_rfl) rfl (fun K hK=>?_)
      go_simp
      refine hK.out _ _ (KS.out _ HB4.out) (fun hHeld=>?_)
      clear hK K
      try simp only [Act.put,List.setIfInBounds_toArray,List.set_cons_zero,List.set_cons_succ]
      refine wpAnyL_one (i:=7) (by kernel_rfl) rfl (fun K hK=>?_)
      go_simp
      refine (KV.out _ HB4.out).mono ?_
      rintro e w5 ⟨rfl,hb5⟩
      have HB5:=Lib.hid (HB4.out.trans (hb5.mono HB4.out.size))
      clear hb5
      go_wp2_with fail
      refine hK.out _ _ (KS.out _ HB5.out) (fun hHeld=>?_)
      clear hK K
      try simp only [Act.put,List.setIfInBounds_toArray,List.set_cons_zero,List.set_cons_succ]
      refine wpAnyL_one (i:=8) (by kernel_rfl) rfl (fun K hK=>?_)
      go_simp
      refine hK.out _ _ (KS.out _ HB5.out) (fun hHeld=>?_)
      clear hK K
      try simp only [Act.put,List.setIfInBounds_toArray,List.set_cons_zero,List.set_cons_succ]
      refine wpAnyL_one (i:=9) (by kernel_rfl) rfl (fun K hK=>?_)
      go_simp
      refine hK.out _ _ (KS.out _ HB5.out) (fun hHeld=>?_)
      clear hK K
      try simp only [Act.put,List.setIfInBounds_toArray,List.set_cons_zero,List.set_cons_succ]
      refine wpAnyL_one (i:=10) (by kernel_rfl) rfl (fun K hK=>?_)
      go_simp
      refine hK.out _ _ (KS.out _ HB5.out) (fun hHeld=>?_)
      clear hK K
      try simp only [Act.put,List.setIfInBounds_toArray,List.set_cons_zero,List.set_cons_succ]
      refine wpAnyL_take (i:=11) (v:=?_) [17,16,13] rfl (by kernel_rfl) (by kernel_rfl) (by kernel_rfl) (fun _ _ _ h=>h) (by kernel_rfl) (by kernel_rfl) (by kernel_rfl) (Or.inl ⟨by rfl,?_⟩) (by assumption) ?_
      rotate_left
      ·intro w hSw
       try dsimp only at hSw
       go_simp
       first|done|with_reducible rfl
      try simp only [Act.put,List.setIfInBounds_toArray,List.set_cons_zero,List.set_cons_succ]
      refine wpAnyL_take (i:=12) (v:=?_) [17,16,13] rfl (by kernel_rfl) (by kernel_rfl) (by kernel_rfl) (fun _ _ _ h=>h) (by kernel_rfl) (by kernel_rfl) (by kernel_rfl) (Or.inl ⟨by rfl,?_⟩) (by assumption) ?_
      rotate_left
      ·intro w hSw
       try dsimp only at hSw
       go_simp
       first|done|with_reducible rfl
      try simp only [Act.put,List.setIfInBounds_toArray,List.set_cons_zero,List.set_cons_succ]
      refine wpAnyL_take (i:=14) (v:=?_) [17,16,15] rfl (by kernel_rfl) (by kernel_rfl) (by kernel_rfl) (fun _ _ _ h=>h) (by kernel_rfl) (by kernel_rfl) (by kernel_rfl) (Or.inl ⟨by rfl,?_⟩) (by assumption) ?_
      rotate_left
      ·intro w hSw
       try dsimp only at hSw
       go_simp
       first|done|with_reducible rfl
      try simp only [Act.put,List.setIfInBounds_toArray,List.set_cons_zero,List.set_cons_succ]
      refine wpAnyL_take (i:=13) (v:=?_) [17,16] rfl (by kernel_rfl) (by kernel_rfl) (by kernel_rfl) (fun _ _ _ h=>h) (by kernel_rfl) (by kernel_rfl) (by kernel_rfl) (Or.inl ⟨by rfl,?_⟩) (by assumption) ?_
      rotate_left
      ·intro w hSw
       try dsimp only at hSw
       go_simp
       first|done|with_reducible rfl
      try simp only [Act.put,List.setIfInBounds_toArray,List.set_cons_zero,List.set_cons_succ]
      refine wpAnyL_take (i:=15) (v:=?_) [17,16] rfl (by kernel_rfl) (by kernel_rfl) (by kernel_rfl) (fun _ _ _ h=>h) (by kernel_rfl) (by kernel_rfl) (by kernel_rfl) (Or.inl ⟨by rfl,?_⟩) (by assumption) ?_
      rotate_left
      ·intro w hSw
       try dsimp only at hSw
       go_simp
       first|done|with_reducible rfl
      try simp only [Act.put,List.setIfInBounds_toArray,List.set_cons_zero,List.set_cons_succ]
      refine wpAnyL_one (i:=16) (by kernel_rfl) rfl (fun K hK=>?_)
      go_simp
      refine (KP.out _ HB5.out).mono ?_
      rintro e w6 ⟨rfl,hb6⟩
      have HB6:=Lib.hid (HB5.out.trans (hb6.mono HB5.out.size))
      clear hb6
      go_wp2_with fail
      refine hK.out _ _ (KS.out _ HB6.out) (fun hHeld=>?_)
      clear hK K
      try simp only [Act.put,List.setIfInBounds_toArray,List.set_cons_zero,List.set_cons_succ]
      refine wpAnyL_one (i:=17) (by kernel_rfl) rfl (fun K hK=>?_)
      go_simp
      refine hK.out _ _ (KS.out _ HB6.out) (fun hHeld=>?_)
      clear hK K
      try simp only [Act.put,List.setIfInBounds_toArray,List.set_cons_zero,List.set_cons_succ]
      refine wpAnyL_last (by kernel_rfl) rfl (by kernel_rfl) (fun K hK=>?_)
      go_simp
      refine hK.out _ _ ?_
      clear hK K
      refine NoPanic.normal ?_
      go_wp2
      go_ret
      exact ⟨by rw [X.out];try rfl,BWV.out.trans (HB6.out.mono BWV.out.size)⟩
  ·obtain rfl:k=l.length:=by omega
   have X:=Lib.hid (show stzP l=true by
    have h1:=HA.out
    have h2:=HD.out
    rw [List.take_length] at h1 h2
    rw [SP.out,h1,h2,List.drop_length];rfl)
   go_wp2
   go_ret
   exact ⟨by rw [X.out];try rfl,hbel⟩
theorem IsBld.below {B b:Nat} {bs:List Value} {w w':World} (h:IsBld B b bs w) (hb:Below w.heap.size w w'):IsBld B b bs w':=by
 have key:∀p,BldAt B b p bs w→BldAt B b p bs w':=by
  rintro p h
  have hlt:=h.lt
  obtain ⟨hB,v,hbk,hown,hne⟩:=h
  refine ⟨hB,v,by rw [hb.block b hlt];exact hbk,hown.kept (row:=none) ⟨hb.os,hb.tape,hb.output,hb.size,fun k hk _=>hb.block k hk⟩ ?_,hne⟩
  cases h:v.ownBlock with
  | none=>exact .inl rfl
  | some x=>exact .inr (by simp)
 rcases h with h|h
 ·exact .inl (key _ h)
 ·exact .inr (key _ h)
theorem bld_new (w:World):IsBld w.heap.size w.heap.size (Lib.strCells { data:=#[] }) (w.alloc (.cells #[.pointer none,.slice none 0 0] 96)):=
 .inl ⟨Nat.le_refl _,.slice none 0 0,new_heap _ _,World.ownsRow_nil _ _ _ _,by simp [Value.ownBlock]⟩
theorem strCells_app (a b:ByteArray):Lib.strCells a++Lib.strCells b=Lib.strCells (a++b):=by
 unfold Lib.strCells
 rw [ByteArray.data_append,Array.toList_append,List.map_append]
theorem join_lt {sep:List Nat} (hs:∀c ∈ sep,c < 256):∀{L:List (List Nat)},(∀t ∈ L,∀c ∈ t,c < 256)→∀c ∈ joinL sep L,c < 256
 | [],_,c,hc=>by cases hc
 | [x],h,c,hc=>h x (by simp) c hc
 | x::y::r,h,c,hc=>by
  rw [joinL_two _ _ (by simp)] at hc
  simp only [List.mem_append] at hc
  rcases hc with hc|hc|hc
  ·exact h x (by simp) c hc
  ·exact hs c hc
  ·exact join_lt hs (fun t ht=>h t (by simp [ht])) c hc
theorem fld_lt (f:Fd):∀c ∈ fldT f,c < 256:=by
 intro c hc
 rw [fld_is] at hc
 simp only [List.mem_append,List.mem_singleton] at hc
 rcases hc with hc|hc|hc|hc|hc
 ·exact B_lt _ c hc
 ·omega
 ·split at hc
  ·cases hc
  ·rw [List.mem_singleton] at hc;omega
 ·exact join_lt (by simp) (fun t ht c hc=>B_lt f.v c (cutBy_mem ht c hc).1) c hc
 ·omega
theorem fld_len {f:Fd} (hn:f.n.size≤65536) (hv:f.v.size≤65536):(fldT f).length≤4295300000:=by
 have h:=join_len5 (B f.v) (by rw [B_len];exact hv)
 rw [fld_is]
 simp only [List.length_append,List.length_singleton,B_len]
 have:(if ahead 10 (B f.v)=[] then ([]:List Nat) else [32]).length≤1:=by split<;>simp
 omega
theorem fnB_len {l:List Nat} (h:fnB l=true):l.length≤40:=by
 cases l with
 | nil=>simp
 | cons c r=>
  rw [fnB_cons,Bool.and_eq_true,decide_eq_true_iff] at h
  rw [List.length_cons];omega
theorem stzP_at {st:List Fd} (h:stzP st=true):0 < st.length∧∀f ∈ st,f.n.size≤65536∧f.v.size≤65536:=by
 unfold stzP at h
 simp only [Bool.and_eq_true,decide_eq_true_iff,List.all_eq_true] at h
 refine ⟨by omega,fun f hf=>?_⟩
 have hf:=h.1.1 f hf
 unfold fdP at hf
 simp only [Bool.and_eq_true,decide_eq_true_iff] at hf
 have:=fnB_len hf.1
 rw [B_len] at this
 exact ⟨by omega,by omega⟩
def prP (L:List (List Fd)):ByteArray:=if okP L=true then mk (txL L) else { data:=#[] }
theorem prP_no {L:List (List Fd)} (h:okP L=false):prP L={ data:=#[] }:=by unfold prP;rw [h];rfl
theorem pt_pos {L:List (List Fd)} {k:Nat} (h:0 < k):ptT L k=joinL [10] ((L.take k).map stT)++[10]:=by unfold ptT;rw [if_neg (by omega)]
set_option maxHeartbeats 8000000 in
theorem text5_any (A : Option Addr) (n c : Nat) (L : List (List Fd)) (w : World) (h : rdStzs w (lt_ w.heap.size) L [.slice A n c]) (E : Env5 w) (hnz : ∀ st ∈ L, ∀ f ∈ st, f.n.size ≤ maxLen) :
    Calls Tryz.prog 54 #[.slice A n c] w fun e w' => e = .returned (.tuple #[.string (prP L), .bool (okP L)]) ∧ Below w.heap.size w w' := by
  obtain ⟨rfl, hnc, hcm, _⟩ := rdStzs_at h
  have hcm' : c ≤ 9223372036854775807 := hcm
  clear hcm
  have H := Lib.hid h
  have HE := Lib.hid E
  have HNZ := Lib.hid hnz
  clear h E hnz
  by_cases h200 : 200 < L.length
  · have z0 : (200 : Int) < (L.length : Int) := by omega
    have X := Lib.hid (okP_long h200)
    clear h200
    go_enter Tryz.func54, Tryz.ntmps54
    go_wp2
    go_ret2
    exact ⟨by rw [prP_no X.out, X.out]; try rfl, Below.refl _ _⟩
  have z0 : ¬ (200 : Int) < (L.length : Int) := by omega
  have OK := Lib.hid (show okP L = (L.all stzP && decide ((txL L).length ≤ 60000)) by unfold okP; rw [decide_eq_true (show L.length ≤ 200 by omega), Bool.true_and])
  clear h200
  have NB := Lib.hid (bld_new w)
  have NW := Lib.hid ((Below.refl w.heap.size w).alloc (Nat.le_refl _) (.cells #[.pointer none, .slice none 0 0] 96))
  go_enter Tryz.func54, Tryz.ntmps54
  go_wp2
  go_loopw [14] (fun i wr => ∃ k : Nat, k ≤ L.length ∧ i = .int .i64 k ∧ (L.take k).all stzP = true ∧ (∃ cur : ByteArray, B cur = joinL [10] ((L.take k).map stT) ∧ cur.size ≤ 60000 ∧ IsBld w.heap.size w.heap.size (Lib.strCells cur) wr) ∧ Below w.heap.size w wr) (fun i _ => L.length - (intOf i).toNat)
  case atStart => exact ⟨0, Nat.zero_le _, rfl, rfl, ⟨{ data := #[] }, rfl, by decide, NB.out⟩, NW.out⟩
  case round =>
    obtain ⟨k, hk, rfl, hall, ⟨cur, hcur, hcs, hbd⟩, hbel⟩ := hrel
    have HA := Lib.hid hall
    have HC := Lib.hid hcur
    have HCS := Lib.hid hcs
    have HBD := Lib.hid hbd
    have HB := Lib.hid hbel
    clear hall hcur hcs hbd
    by_cases hlt : k < L.length
    · obtain ⟨_, _, _, ha⟩ := rdStzs_at H.out
      obtain ⟨ad, A', c', rfl, had, x0w, hrd⟩ := ha k hlt
      have x0 := (hbel.cell (show (ad.add k).block < w.heap.size by rw [blk_add]; exact had)).trans x0w
      have HRDW := Lib.hid hrd
      have HRD := Lib.hid (rdFds_good.up (rdFds_good.below hrd hbel) hbel.size)
      have hcm2' : c' ≤ 9223372036854775807 := (rdFds_at hrd).2.2.1
      have RS := Lib.hid (rstanza5_any A' L[k].length c' L[k] wr HRD.out (HE.out.below hbel HE.out.pos) (HNZ.out _ (List.getElem_mem hlt)))
      have AS := Lib.hid (all_snoc stzP L k hlt)
      have SZ := Lib.hid (okP_stz (L := L) hlt)
      clear ha hrd hbel x0w
      cases hst : stzP L[k]
      · have X := Lib.hid (SZ.out hst)
        rw [hst] at RS
        clear hst
        go_wp2_with fail
        refine RS.out.mono ?_
        rintro e w2 ⟨rfl, hb2⟩
        have HB2 := Lib.hid (HB.out.trans (hb2.mono HB.out.size))
        clear hb2
        go_wp2
        go_ret2
        exact ⟨by rw [prP_no X.out, X.out]; try rfl, HB2.out⟩
      · rw [hst] at RS
        have ST := Lib.hid (stzP_at hst)
        have HST := Lib.hid hst
        clear hst
        have PN := Lib.hid (pt_next (L := L) hlt)
        have PL := Lib.hid (fun j => pt_len (L := L) (i := k) (k := j) hlt)
        have PS := Lib.hid (fun j (hj : j < L[k].length) => stT_snoc L[k] j hj)
        by_cases hk0 : 0 < k
        · have z1 : (0 : Int) < (k : Int) := by omega
          have PP := Lib.hid (pt_pos (L := L) hk0)
          clear hk0
          go_wp2_with fail
          refine RS.out.mono ?_
          rintro e w2 ⟨rfl, hb2⟩
          have HB2 := Lib.hid (HB.out.trans (hb2.mono HB.out.size))
          have BD2 := Lib.hid (HBD.out.below hb2)
          clear hb2
          go_wp2_with fail
          refine (wbyte5_any w.heap.size w.heap.size (Lib.strCells cur) 10 w2 BD2.out (by rw [Lib.strCells_length]; have := HCS.out; omega) HB2.out.size).mono ?_
          rintro e w3 ⟨rfl, hbd3, hb3⟩
          have HB3 := Lib.hid (HB2.out.trans hb3)
          have C3 := Lib.hid (show ∃ cur3 : ByteArray, B cur3 = ptT L k ++ stT (L[k].take 0) ∧ cur3.size ≤ 60001 ∧ IsBld w.heap.size w.heap.size (Lib.strCells cur3) w3 from ⟨cur ++ { data := #[10] }, by rw [B_append, HC.out, PP.out]; simp [stT]; rfl, by rw [ByteArray.size_append]; have := HCS.out; show _ + 1 ≤ _; omega, .inr (by rw [← strCells_app]; exact hbd3)⟩)
          clear hbd3 hb3 BD2 HB2 HBD HC HCS
          go_wp2
          go_loopw [27] (fun i wr => ∃ j : Nat, j ≤ L[k].length ∧ i = .int .i64 j ∧ (∃ cur3 : ByteArray, B cur3 = ptT L k ++ stT (L[k].take j) ∧ cur3.size ≤ 60001 ∧ (0 < j → cur3.size ≤ 60000) ∧ IsBld w.heap.size w.heap.size (Lib.strCells cur3) wr) ∧ Below w.heap.size w wr) (fun i _ => L[k].length - (intOf i).toNat)
          case atStart =>
            obtain ⟨cur3, c1, c2, c3⟩ := C3.out
            exact ⟨0, Nat.zero_le _, rfl, ⟨cur3, c1, c2, fun h => absurd h (Nat.lt_irrefl _), c3⟩, HB3.out⟩
          case round =>
            obtain ⟨j, hj, rfl, ⟨cur3, hc1, hc2, hc3, hbd3⟩, hbelx⟩ := hrel
            have C1 := Lib.hid hc1
            have C2 := Lib.hid (And.intro hc2 hc3)
            have BDX := Lib.hid hbd3
            have HBX := Lib.hid hbelx
            clear hc1 hc2 hc3 hbd3
            by_cases hlj : j < L[k].length
            · obtain ⟨_, _, _, hb⟩ := rdFds_at (rdFds_good.below HRDW.out hbelx)
              obtain ⟨ad3, hA3, had3, f0, f1⟩ := hb j hlj
              subst hA3
              have hfs := ST.out.2 L[k][j] (List.getElem_mem hlj)
              have PSJ := Lib.hid (PS.out j hlj)
              have PLJ := Lib.hid (PL.out (j + 1))
              have FTX := Lib.hid (fun V E => ftext5_any L[k][j] V E hfs.1 hfs.2)
              have FLB := Lib.hid (show B (mk (fldT L[k][j])) = fldT L[k][j] from B_mk (fld_lt L[k][j]))
              have FLL := Lib.hid (fld_len hfs.1 hfs.2)
              obtain ⟨ft, hft⟩ : ∃ ft, mk (fldT L[k][j]) = ft := ⟨_, rfl⟩
              rw [hft] at FTX FLB
              have FSZ := Lib.hid (show ft.size ≤ 4295300000 by have := FLL.out; rw [← FLB.out, B_len] at this; exact this)
              have FTV := Lib.hid (fun V E => (show Calls Tryz.prog 76 #[.agg #[.string L[k][j].n, .string L[k][j].v]] V fun e w' => e = .returned (.string ft) ∧ Below V.heap.size V w' from FTX.out V E))
              generalize hfn : L[k][j].n = fn at *
              generalize hfv : L[k][j].v = fv at *
              have BV := Lib.hid (show Below wr.heap.size wr (wr.alloc (Obj.cells #[Value.string fn, Value.string fv] 58)) from (Below.refl _ _).alloc (Nat.le_refl _) _)
              have EV := Lib.hid (show Env5 (wr.alloc (Obj.cells #[Value.string fn, Value.string fv] 58)) from HE.out.below (HBX.out.trans (BV.out.mono HBX.out.size)) HE.out.pos)
              have i0 : (0 : Int) ≤ (j : Int) := by omega
              have i1 : (j : Int) < (L[k].length : Int) := by omega
              clear hft hfs FTX hfn hfv hb hbelx had3
              go_wp2_with fail
              refine (FTV.out _ EV.out).mono ?_
              rintro e w5 ⟨rfl, hb5⟩
              have B5 := Lib.hid (BV.out.trans (hb5.mono BV.out.size))
              have BW5 := Lib.hid (HBX.out.trans (B5.out.mono HBX.out.size))
              have BD5 := Lib.hid (BDX.out.below B5.out)
              clear hb5
              go_wp2_with fail
              refine (wstr5_any w.heap.size w.heap.size (Lib.strCells cur3) ft w5 BD5.out (by rw [Lib.strCells_length]; have := C2.out.1; have := FSZ.out; omega) BW5.out.size).mono ?_
              rintro e w6 ⟨rfl, hbd6, hb6⟩
              have BW6 := Lib.hid (BW5.out.trans hb6)
              have BD6 := Lib.hid (show IsBld w.heap.size w.heap.size (Lib.strCells (cur3 ++ ft)) w6 from .inr (by rw [← strCells_app]; exact hbd6))
              have BC6 := Lib.hid (show B (cur3 ++ ft) = ptT L k ++ stT (L[k].take (j + 1)) by rw [B_append, C1.out, PSJ.out, FLB.out, List.append_assoc])
              generalize cur3 ++ ft = cur4 at *
              have KL := Lib.hid (show Calls Tryz.prog 77 #[.pointer (some ⟨w.heap.size, 0, none⟩)] w6 fun e w' => e = .returned (.int .i64 cur4.size) ∧ w' = w6 by
                have := Tryz.Builder_Len w.heap.size w.heap.size (Lib.strCells cur4) w6 BD6.out
                rwa [Lib.strCells_length] at this)
              clear hbd6 hb6
              go_wp2_with fail
              refine KL.out.mono ?_
              rintro e w7 ⟨rfl, rfl⟩
              by_cases hbig : 60000 < cur4.size
              · have z2 : (60000 : Int) < (cur4.size : Int) := by omega
                have X := Lib.hid (okP_big (L := L) (by have h1 := PLJ.out; rw [← BC6.out, B_len] at h1; omega))
                clear hbig
                go_wp2
                go_ret2
                exact ⟨by rw [prP_no X.out, X.out]; try rfl, BW6.out⟩
              · have z2 : ¬ (60000 : Int) < (cur4.size : Int) := by omega
                have Z2 := Lib.hid (show cur4.size ≤ 60000 by omega)
                clear hbig
                go_wp2
                go_roundw
                case rel => exact ⟨j + 1, by omega, by go_num, ⟨cur4, BC6.out, by have := Z2.out; omega, fun _ => Z2.out, BD6.out⟩, BW6.out⟩
                case measure => simp [intOf]; omega
            · obtain rfl : j = L[k].length := by omega
              have FIN := Lib.hid (show ∃ cur : ByteArray, B cur = joinL [10] ((L.take (k + 1)).map stT) ∧ cur.size ≤ 60000 ∧ IsBld w.heap.size w.heap.size (Lib.strCells cur) wr from ⟨cur3, by rw [C1.out, List.take_length, PN.out], C2.out.2 ST.out.1, BDX.out⟩)
              clear hbelx
              go_wp2
              go_roundw
              case rel => exact ⟨k + 1, by omega, by go_num, by rw [AS.out, HA.out, HST.out]; rfl, FIN.out, HBX.out⟩
              case measure => simp [intOf]; omega
        · have z1 : ¬ (0 : Int) < (k : Int) := by omega
          have PP := Lib.hid (show ptT L k = [] ∧ joinL [10] ((L.take k).map stT) = [] by obtain rfl : k = 0 := by omega
                                                                                          exact ⟨rfl, rfl⟩)
          go_wp2_with fail
          refine RS.out.mono ?_
          rintro e w3 ⟨rfl, hb2⟩
          have HB3 := Lib.hid (HB.out.trans (hb2.mono HB.out.size))
          have BD2 := Lib.hid (HBD.out.below hb2)
          have C3 := Lib.hid (show ∃ cur3 : ByteArray, B cur3 = ptT L k ++ stT (L[k].take 0) ∧ cur3.size ≤ 60001 ∧ IsBld w.heap.size w.heap.size (Lib.strCells cur3) w3 from ⟨cur, by rw [HC.out, PP.out.1, PP.out.2]; rfl, by have := HCS.out; omega, BD2.out⟩)
          clear hb2 BD2 HBD HC HCS
          go_wp2
          go_loopw [27] (fun i wr => ∃ j : Nat, j ≤ L[k].length ∧ i = .int .i64 j ∧ (∃ cur3 : ByteArray, B cur3 = ptT L k ++ stT (L[k].take j) ∧ cur3.size ≤ 60001 ∧ (0 < j → cur3.size ≤ 60000) ∧ IsBld w.heap.size w.heap.size (Lib.strCells cur3) wr) ∧ Below w.heap.size w wr) (fun i _ => L[k].length - (intOf i).toNat)
          case atStart =>
            obtain ⟨cur3, c1, c2, c3⟩ := C3.out
            exact ⟨0, Nat.zero_le _, rfl, ⟨cur3, c1, c2, fun h => absurd h (Nat.lt_irrefl _), c3⟩, HB3.out⟩
          case round =>
            obtain ⟨j, hj, rfl, ⟨cur3, hc1, hc2, hc3, hbd3⟩, hbelx⟩ := hrel
            have C1 := Lib.hid hc1
            have C2 := Lib.hid (And.intro hc2 hc3)
            have BDX := Lib.hid hbd3
            have HBX := Lib.hid hbelx
            clear hc1 hc2 hc3 hbd3
            by_cases hlj : j < L[k].length
            · obtain ⟨_, _, _, hb⟩ := rdFds_at (rdFds_good.below HRDW.out hbelx)
              obtain ⟨ad3, hA3, had3, f0, f1⟩ := hb j hlj
              subst hA3
              have hfs := ST.out.2 L[k][j] (List.getElem_mem hlj)
              have PSJ := Lib.hid (PS.out j hlj)
              have PLJ := Lib.hid (PL.out (j + 1))
              have FTX := Lib.hid (fun V E => ftext5_any L[k][j] V E hfs.1 hfs.2)
              have FLB := Lib.hid (show B (mk (fldT L[k][j])) = fldT L[k][j] from B_mk (fld_lt L[k][j]))
              have FLL := Lib.hid (fld_len hfs.1 hfs.2)
              obtain ⟨ft, hft⟩ : ∃ ft, mk (fldT L[k][j]) = ft := ⟨_, rfl⟩
              rw [hft] at FTX FLB
              have FSZ := Lib.hid (show ft.size ≤ 4295300000 by have := FLL.out; rw [← FLB.out, B_len] at this; exact this)
              have FTV := Lib.hid (fun V E => (show Calls Tryz.prog 76 #[.agg #[.string L[k][j].n, .string L[k][j].v]] V fun e w' => e = .returned (.string ft) ∧ Below V.heap.size V w' from FTX.out V E))
              generalize hfn : L[k][j].n = fn at *
              generalize hfv : L[k][j].v = fv at *
              have BV := Lib.hid (show Below wr.heap.size wr (wr.alloc (Obj.cells #[Value.string fn, Value.string fv] 58)) from (Below.refl _ _).alloc (Nat.le_refl _) _)
              have EV := Lib.hid (show Env5 (wr.alloc (Obj.cells #[Value.string fn, Value.string fv] 58)) from HE.out.below (HBX.out.trans (BV.out.mono HBX.out.size)) HE.out.pos)
              have i0 : (0 : Int) ≤ (j : Int) := by omega
              have i1 : (j : Int) < (L[k].length : Int) := by omega
              clear hft hfs FTX hfn hfv hb hbelx had3
              go_wp2_with fail
              refine (FTV.out _ EV.out).mono ?_
              rintro e w5 ⟨rfl, hb5⟩
              have B5 := Lib.hid (BV.out.trans (hb5.mono BV.out.size))
              have BW5 := Lib.hid (HBX.out.trans (B5.out.mono HBX.out.size))
              have BD5 := Lib.hid (BDX.out.below B5.out)
              clear hb5
              go_wp2_with fail
              refine (wstr5_any w.heap.size w.heap.size (Lib.strCells cur3) ft w5 BD5.out (by rw [Lib.strCells_length]; have := C2.out.1; have := FSZ.out; omega) BW5.out.size).mono ?_
              rintro e w6 ⟨rfl, hbd6, hb6⟩
              have BW6 := Lib.hid (BW5.out.trans hb6)
              have BD6 := Lib.hid (show IsBld w.heap.size w.heap.size (Lib.strCells (cur3 ++ ft)) w6 from .inr (by rw [← strCells_app]; exact hbd6))
              have BC6 := Lib.hid (show B (cur3 ++ ft) = ptT L k ++ stT (L[k].take (j + 1)) by rw [B_append, C1.out, PSJ.out, FLB.out, List.append_assoc])
              generalize cur3 ++ ft = cur4 at *
              have KL := Lib.hid (show Calls Tryz.prog 77 #[.pointer (some ⟨w.heap.size, 0, none⟩)] w6 fun e w' => e = .returned (.int .i64 cur4.size) ∧ w' = w6 by
                have := Tryz.Builder_Len w.heap.size w.heap.size (Lib.strCells cur4) w6 BD6.out
                rwa [Lib.strCells_length] at this)
              clear hbd6 hb6
              go_wp2_with fail
              refine KL.out.mono ?_
              rintro e w7 ⟨rfl, rfl⟩
              by_cases hbig : 60000 < cur4.size
              · have z2 : (60000 : Int) < (cur4.size : Int) := by omega
                have X := Lib.hid (okP_big (L := L) (by have h1 := PLJ.out; rw [← BC6.out, B_len] at h1; omega))
                clear hbig
                go_wp2
                go_ret2
                exact ⟨by rw [prP_no X.out, X.out]; try rfl, BW6.out⟩
              · have z2 : ¬ (60000 : Int) < (cur4.size : Int) := by omega
                have Z2 := Lib.hid (show cur4.size ≤ 60000 by omega)
                clear hbig
                go_wp2
                go_roundw
                case rel => exact ⟨j + 1, by omega, by go_num, ⟨cur4, BC6.out, by have := Z2.out; omega, fun _ => Z2.out, BD6.out⟩, BW6.out⟩
                case measure => simp [intOf]; omega
            · obtain rfl : j = L[k].length := by omega
              have FIN := Lib.hid (show ∃ cur : ByteArray, B cur = joinL [10] ((L.take (k + 1)).map stT) ∧ cur.size ≤ 60000 ∧ IsBld w.heap.size w.heap.size (Lib.strCells cur) wr from ⟨cur3, by rw [C1.out, List.take_length, PN.out], C2.out.2 ST.out.1, BDX.out⟩)
              clear hbelx
              go_wp2
              go_roundw
              case rel => exact ⟨k + 1, by omega, by go_num, by rw [AS.out, HA.out, HST.out]; rfl, FIN.out, HBX.out⟩
              case measure => simp [intOf]; omega
    · obtain rfl : k = L.length := by omega
      have X := Lib.hid (show okP L = true ∧ prP L = cur by
        have h1 := HA.out
        have h2 := HC.out
        rw [List.take_length] at h1 h2
        have h3 : B cur = txL L := h2
        have h4 : okP L = true := by rw [OK.out, h1, ← h3, B_len, decide_eq_true HCS.out]; rfl
        exact ⟨h4, by unfold prP; rw [if_pos h4, ← h3, mk_B]⟩)
      clear hbel
      go_wp2_with fail
      refine (Tryz.Builder_String_any w.heap.size w.heap.size cur.data.toList wr HBD.out HB.out.size).mono ?_
      rintro e w2 ⟨rfl, hb2⟩
      have HB2 := Lib.hid (HB.out.trans hb2)
      clear hb2
      go_wp2
      go_ret2
      exact ⟨by rw [X.out.1, X.out.2]; try rfl, HB2.out⟩
theorem print5_any (A:Option Addr) (n c:Nat) (L:List (List Fd)) (w:World) (h:rdStzs w (lt_ w.heap.size) L [.slice A n c]) (E:Env5 w) (hnz:∀st ∈ L,∀f ∈ st,f.n.size≤maxLen) :
  Calls Tryz.prog 34 #[.slice A n c] w fun e w'=>e=.returned (.string (prP L))∧Below w.heap.size w w':=by
 have T:=Lib.hid (text5_any A n c L w h E hnz)
 clear h E hnz
 go_enter Tryz.func34,Tryz.ntmps34
 go_wp2_with fail
 refine T.out.mono ?_
 rintro e w2 ⟨rfl,hb2⟩
 go_wp2
 go_ret
 exact ⟨rfl,hb2⟩
def stN8 (x:Pn):List Fd:=[⟨nPk,x.n⟩,⟨nPi,mk (ver8L++(B x.x++[42]))⟩,⟨nPp,mk (decI x.p)⟩]
def rightN (l:List Pn):Bool:=l.all rgtN&&decide (l.length≤64)
def prN (PR:List (List Fd)→ByteArray) (l:List Pn):ByteArray:=if rightN l=true then PR (l.map stN8) else { data:=#[] }
theorem rightN_iff (l:List Pn):rightN l=true↔(∀x ∈ l,rgtN x=true)∧l.length≤64:=by
 unfold rightN
 rw [Bool.and_eq_true,List.all_eq_true,decide_eq_true_iff]
theorem decI_len {p:Int} (h1:-1000≤p) (h2:p≤1000):(decI p).length≤5:=by
 unfold decI
 split
 ·have:=dec_len8 (-p).toNat (by omega)
  rw [List.length_cons];omega
 ·have:=dec_len8 p.toNat (by omega)
  omega
theorem name8_len {x:Pn} (h:rgtN x=true):x.n.size≤40:=by
 rcases (rgtN_parts h).1 with q|q
 ·rw [←B_len];exact (name_len q).2
 ·rw [q];decide
theorem stN8_small {x:Pn} (h:rgtN x=true):∀f ∈ stN8 x,f.n.size≤65536∧f.v.size≤60000:=fun f hf=>by
 obtain ⟨_,hx60,_,p1,p2⟩:=rgtN_parts h
 have hn:=name8_len h
 have hd:=decI_len p1 p2
 unfold stN8 at hf
 simp only [List.mem_cons,List.not_mem_nil,or_false] at hf
 rcases hf with rfl|rfl|rfl
 ·exact ⟨(by decide:nPk.size≤65536),by show x.n.size≤60000;omega⟩
 ·refine ⟨(by decide:nPi.size≤65536),?_⟩
  show (mk _).size≤60000
  rw [size_mk,List.length_append,List.length_append,B_len]
  have e4:ver8L.length=8:=rfl
  simp only [List.length_cons,List.length_nil];omega
 ·refine ⟨(by decide:nPp.size≤65536),?_⟩
  show (mk _).size≤60000;rw [size_mk];omega
theorem prN_bad {PR:List (List Fd)→ByteArray} {l:List Pn} {k:Nat} (hk:k < l.length) (h:rgtN l[k]=false):prN PR l={ data:=#[] }:=
 if_neg fun hh=>by have:=((rightN_iff l).1 hh).1 _ (List.getElem_mem hk);rw [h] at this;cases this
theorem prN_many {PR:List (List Fd)→ByteArray} {l:List Pn} (h:64 < l.length):prN PR l={ data:=#[] }:=
 if_neg fun hh=>by have:=((rightN_iff l).1 hh).2;omega
theorem three_fds {w:World} {S:Nat→Prop} (a b c:Fd):∀k (hk:k < [a,b,c].length),∃cs,[a.cells,b.cells,c.cells][k]?=some cs∧rdFd w S [a,b,c][k] cs
 | 0,_=>⟨_,rfl,rfl⟩
 | 1,_=>⟨_,rfl,rfl⟩
 | 2,_=>⟨_,rfl,rfl⟩
 | k+3,hk=>absurd hk (by simp)
theorem st8_block {w:World} {S:Nat→Prop} {b:Nat} (x:Pn) (y:ByteArray) (d:ByteArray) (hy:y=mk (ver8L++(B x.x++[42]))) (hd:d=mk (decI x.p)) {T:TypeId}
  (hb:w.heap[b]?=some (.cells #[.string { data:=#[80,97,99,107,97,103,101] },.string x.n,.string { data:=#[80,105,110] },.string y,.string { data:=#[80,105,110,45,80,114,105,111,114,105,116,121] },.string d] T (0,0))) (hS:S b) :
  rdFds w S (stN8 x) [.slice (some ⟨b,0,none⟩) 3 3]:=by
 subst hy hd
 exact rd_block rdFd_good (l:=stN8 x) (css:=[Fd.cells ⟨nPk,x.n⟩,Fd.cells ⟨nPi,mk (ver8L++(B x.x++[42]))⟩,Fd.cells ⟨nPp,mk (decI x.p)⟩]) hb hS rfl rfl (three_fds _ _ _) (by show 3≤1000;decide)
end Go.Proofs.YtbljkpbaceiaiaaGreatDoor
