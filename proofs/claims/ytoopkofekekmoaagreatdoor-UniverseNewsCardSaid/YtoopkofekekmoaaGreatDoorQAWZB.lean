/- What the laws rest on: N9j, N9k. -/
import Derived.Test.YtoopkofekekmoaaGreatDoorQAFZB
import Derived.Test.YtoopkofekekmoaaGreatDoorQAUZB
set_option maxRecDepth 100000
set_option linter.unusedVariables false
set_option linter.unusedSimpArgs false
namespace Go.Proofs.YtoopkofekekmoaaGreatDoor
open Go.RowKit
set_option maxHeartbeats 2000000 in
theorem here9_any (b:Nat) (L:List Ent) (m:List Hr) (w:World) (h:UP w b L m) (hl:m.length≤200) :
  Calls Tryz.prog 15 #[.pointer (some ⟨b,0,none⟩)] w fun e w'=>(∃A c,e=.returned (.slice A m.length c)∧rdHrs w' (lt_ w'.heap.size) m [.slice A m.length c])∧Below w.heap.size w w':=by
 obtain ⟨A,c,A',c',bm,h1,h2,-,h4,h5,-⟩:=h
 have K:=Lib.hid (cloneh_any A' m.length c' m w h5 hl)
 clear h4 h5
 go_enter Tryz.func15,Tryz.ntmps15
 go_wp2_with fail
 refine K.out.mono ?_
 rintro e w1 ⟨⟨v,rfl,hG⟩,hb⟩
 obtain ⟨Av,cv,hv,-,-⟩:=hG.own
 have R:=Lib.hid (hG.read rdHr_good)
 rw [hv] at R
 subst hv
 clear hG h1 h2
 go_wp2
 go_ret
 exact ⟨⟨Av,cv,rfl,R.out⟩,hb⟩
set_option maxHeartbeats 2000000 in
theorem len9_any (b:Nat) (L:List Ent) (m:List Hr) (w:World) (h:UP w b L m) :
  Calls Tryz.prog 16 #[.pointer (some ⟨b,0,none⟩)] w fun e w'=>e=.returned (.int .i64 (L.length:Int))∧w=w':=by
 obtain ⟨A,c,A',c',bm,h1,-,-,h4,-⟩:=h
 obtain ⟨-,hnc,hcm,-⟩:=rdEnts_at h4
 have hcm':c≤9223372036854775807:=hcm
 clear h4
 go_enter Tryz.func16,Tryz.ntmps16
 go_wp2
 go_ret
 exact ⟨rfl,rfl⟩
theorem held_take {m:List Hr} {k:Nat} (hk:k < m.length):(m.take (k+1)).filter (fun y=>y.h)=if m[k].h=true then (m.take k).filter (fun y=>y.h)++[m[k]] else (m.take k).filter (fun y=>y.h):=by
 rw [List.take_succ_eq_append_getElem hk,List.filter_append]
 cases h:m[k].h
 ·rw [if_neg (by decide),List.filter_cons_of_neg (by rw [h];decide),List.filter_nil,List.append_nil]
 ·rw [if_pos rfl,List.filter_cons_of_pos (by rw [h]),List.filter_nil]
set_option maxHeartbeats 8000000 in
theorem held9_any (b:Nat) (L:List Ent) (m:List Hr) (w:World) (h:UP w b L m) (hl:m.length≤200) (hs:∀y ∈ m,y.e.n.size≤1000000) :
  Calls Tryz.prog 23 #[.pointer (some ⟨b,0,none⟩)] w fun e w'=>(∃A c,e=.returned (.slice A (heldU L m).length c)∧rdInts w' (lt_ w'.heap.size) (heldU L m) [.slice A (heldU L m).length c])∧Below w.heap.size w w':=by
 have HU:=Lib.hid (fun (W:World) (hb:Below w.heap.size w W)=>h.below hb)
 obtain ⟨fi,hi,hz0,hz1,hz2⟩:=info_parts here_info
 obtain ⟨A,c0,A',c,bm,-,b1,-,-,hr,-⟩:=h
 obtain ⟨-,hnc,hcm,-⟩:=rdHrs_at hr
 have hcm':c≤9223372036854775807:=hcm
 have H:=Lib.hid hr
 have HS:=Lib.hid hs
 clear hr hcm hs
 go_enter Tryz.func23,Tryz.ntmps23
 go_wp2
 go_loopw [3,11] (fun v i wr=>∃k:Nat,k≤m.length∧i=.int .i64 k∧Grow rdHr 8 (lt_ w.heap.size) wr w.heap.size 56 v ((m.take k).filter fun y=>y.h)∧Below w.heap.size w wr) (fun _ i _=>m.length - (intOf i).toNat)
 case atStart=>exact ⟨0,Nat.zero_le _,rfl,Grow.nil _ _ _ _,Below.refl _ _⟩
 case round=>
  obtain ⟨k,hk,rfl,hG,hbel⟩:=hrel
  have HB:=Lib.hid hbel
  have HG:=Lib.hid hG
  clear hG
  by_cases hlt:k < m.length
  ·obtain ⟨-,-,-,hat⟩:=rdHrs_at (rdHrs_good.below H.out hbel)
   obtain ⟨ad,A1,c1,A2,c2,A3,c3,A4,c4,rfl,had,hv,h0,h1,h2,h3,h4,h5,h6,h7⟩:=hat k hlt
   have i0:(0:Int)≤(k:Int):=by omega
   have i1:(k:Int) < (m.length:Int):=by omega
   have ST:=Lib.hid (held_take hlt)
   have hln:((m.take k).filter fun y:Hr=>y.h).length≤200:=by have:=List.length_filter_le (fun y:Hr=>y.h) (m.take k);rw [List.length_take] at this;omega
   have HV:=Lib.hid hv
   clear had hat hv hbel b1
   generalize hgl:(m.take k).filter (fun y=>y.h)=gl at HG ST hln
   clear hgl
   generalize m[k]=y at *
   obtain ⟨⟨n,v,d,r,c',p⟩,ha,hh⟩:=y
   simp only at h0 h1 h2 h3 h4 h5 h6 h7 HV ST
   obtain ⟨Av,cv,hv6,-,-⟩:=HG.out.own
   have GG:=Lib.hid HG.out
   rw [hv6] at GG
   obtain ⟨nv,hnv⟩:∃q,q=gl.length:=⟨_,rfl⟩
   rw [←hnv] at hv6 GG
   subst hv6
   obtain ⟨W2,hW2⟩:∃W,W=wr.alloc (.cells #[.string n,.string v,.slice A1 d.length c1,.slice A2 r.length c2,.slice A3 c'.length c3,.slice A4 p.length c4,.bool ha,.bool hh] 56):=⟨_,rfl⟩
   have b2:Below wr.heap.size wr W2:=by rw [hW2];exact (Below.refl _ wr).alloc (Nat.le_refl _) _
   have s2:W2.heap.size=wr.heap.size+1:=by rw [hW2];simp
   have B2:=Lib.hid (HB.out.trans (b2.mono HB.out.size))
   have G2:=Lib.hid (GG.out.below rdHr_good b2)
   have rge:∀q,(Value.slice Av nv cv).ownBlock=some q→w.heap.size≤q:=fun q hq=>(GG.out.lt q hq).1
   have hE:rdHr W2 (fun b=>lt_ w.heap.size b∧b < W2.heap.size∧(Value.slice Av nv cv).ownBlock≠some b) ⟨⟨n,v,d,r,c',p⟩,ha,hh⟩ #[.string n,.string v,.slice A1 d.length c1,.slice A2 r.length c2,.slice A3 c'.length c3,.slice A4 p.length c4,.bool ha,.bool hh].toList:=
    rdHr_good.more (EntV.hr (x:=⟨⟨n,v,d,r,c',p⟩,ha,hh⟩) (HV.out.below (b2.mono HB.out.size))) (fun b hb=>⟨hb,by have hb:b < w.heap.size:=hb;have:=HB.out.size;omega,fun hq=>by have:=rge b hq;have hb:b < w.heap.size:=hb;omega⟩)
   have hn1:gl.length+1≤maxLen:=by unfold maxLen;omega
   have hn2:(gl.length+1)*136≤140737488355328:=by omega
   have hbs:w.heap.size≤W2.heap.size:=B2.out.size
   have HS2:=Lib.hid s2
   clear s2 rge hnv GG HG
   cases hh
   ·have GN:=Lib.hid (show Grow rdHr 8 (lt_ w.heap.size) W2 w.heap.size 56 (.slice Av nv cv) ((m.take (k+1)).filter fun y=>y.h) by rw [ST.out,if_neg (by decide)];exact G2.out)
    clear hE
    go_wp2_with fail
    rw [←hW2]
    clear hW2
    go_roundw
    case rel=>exact ⟨k+1,by omega,by go_num,GN.out,B2.out⟩
    case measure=>simp [intOf];omega
   ·go_wp2_with (at_builtin;rw [←hW2];refine wpList_grow1_at W2 rfl _ _ 23 rfl rdHr_good (by decide) (lt_ w.heap.size) w.heap.size 56 fi _ 136 Tryz.underlying23 hi hz0 hz1 hz2 rfl (.slice Av nv cv) gl rfl G2.out ⟨⟨n,v,d,r,c',p⟩,ha,true⟩ _ 56 hE (wr.heap.size+1) HS2.out.symm rfl hn1 hn2 hbs ?_)
    intro v1 w4 hG4 hg4 _
    rw [←hW2] at hg4
    have B4:=Lib.hid (grow_below G2.out hg4 B2.out (Nat.le_refl _) hbs)
    have GN:=Lib.hid (show Grow rdHr 8 (lt_ w.heap.size) w4 w.heap.size 56 v1 ((m.take (k+1)).filter fun y=>y.h) by have q:=ST.out;rw [q];simpa using hG4)
    clear hG4 hg4 hE hW2 h0 h1 h2 h3 h4 h5 h6 h7 HV b2
    go_wp2
    go_roundw
    case rel=>exact ⟨k+1,by omega,by go_num,GN.out,B4.out⟩
    case measure=>simp [intOf];omega
  ·obtain rfl:k=m.length:=by omega
   have R0:=Lib.hid (show rdHrs wr (lt_ wr.heap.size) (m.filter fun y=>y.h) [u3] from by
    have:=HG.out.read rdHr_good
    rwa [List.take_length] at this)
   obtain ⟨Av,cv,hv,_⟩:=id R0.out
   simp only [List.cons.injEq,and_true] at hv
   subst hv
   have K:=Lib.hid (placesOf9_any b L m Av _ cv (m.filter fun y=>y.h) wr (HU.out wr hbel) R0.out (Nat.le_trans (List.length_filter_le _ _) hl) (fun y hy=>HS.out y (List.mem_filter.1 hy).1))
   clear hbel HG R0 b1
   go_wp2_with fail
   refine K.out.mono ?_
   rintro e w1 ⟨⟨Ax,cx,rfl,hr⟩,hb⟩
   have R:=Lib.hid hr
   have BX:=Lib.hid (HB.out.trans (hb.mono HB.out.size))
   clear hr hb
   go_wp2
   go_ret
   exact ⟨⟨Ax,cx,rfl,R.out⟩,BX.out⟩
end Go.Proofs.YtoopkofekekmoaaGreatDoor
