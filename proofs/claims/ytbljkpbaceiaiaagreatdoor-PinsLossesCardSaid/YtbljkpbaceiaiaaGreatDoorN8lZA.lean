/- What the laws rest on: N8l. -/
import Derived.Test.YtbljkpbaceiaiaaGreatDoorQAFZA
import Derived.Test.YtbljkpbaceiaiaaGreatDoorQAUZA
import Derived.Test.YtbljkpbaceiaiaaGreatDoorQBFZA
set_option maxRecDepth 100000
set_option linter.unusedVariables false
set_option linter.unusedSimpArgs false
namespace Go.Proofs.YtbljkpbaceiaiaaGreatDoor
open Go.RowKit
theorem keep_cellL {w w1:World} (h:Below w.heap.size w w1) {a:Addr} {v:Value} (hc:w.cell? a=some v):w1.cell? a=some v:=(h.cell (World.block_lt_of_cell? _ _ hc)).trans hc
set_option maxHeartbeats 8000000 in
theorem losses8 (A:Option Addr) (n c:Nat) (l:List Pn) (nm:ByteArray) (A':Option Addr) (n' c':Nat) (all:List ByteArray) (w:World) (h:rdPns w (lt_ w.heap.size) l [.slice A n c]) (h':rdBas w (lt_ w.heap.size) all [.slice A' n' c']) (hz:n'*16≤140737488351232) (E:Env w) :
  Calls Tryz.prog 8 #[.slice A n c,.string nm,.slice A' n' c'] w fun e w'=>e=.returned (.bool true)∧Below w.heap.size w w':=by
 obtain ⟨rfl,hnc,hcm,-⟩:=rdPns_at h
 have hcm':c≤9223372036854775807:=hcm
 obtain ⟨rfl,hnc2,hcm2,-⟩:=rdBas_at h'
 have hcm2':c'≤9223372036854775807:=hcm2
 obtain ⟨fi,hi,hz0,hz1,hz2⟩:=info_parts str_info
 have HR:=Lib.hid (fun (W:World) (hb:Below w.heap.size w W)=>rdPns_good.up (rdPns_good.below h hb) hb.size)
 have HA:=Lib.hid (fun (W:World) (hb:Below w.heap.size w W)=>rdBas_good.up (rdBas_good.below h' hb) hb.size)
 have S:=Lib.hid (shown8_any w E)
 have K1:=Lib.hid (fun (W:World) (hb:Below w.heap.size w W)=>small8_any A l.length c l W (HR.out W hb))
 have K2:=Lib.hid (fun (W:World) (hb:Below w.heap.size w W)=>bounded8_any A l.length c l W (HR.out W hb))
 have K3:=Lib.hid (fun A' c' W hr=>short8_any A' (all.length+1) c' (all++[nm]) W hr)
 have hm1:([]:List ByteArray).length+all.length≤maxLen:=by simp only [List.length_nil];unfold maxLen;omega
 have hm2:(([]:List ByteArray).length+all.length)*16≤140737488355328:=by simp only [List.length_nil];omega
 have hm3:all.length+([nm]:List ByteArray).length≤maxLen:=by simp only [List.length_cons,List.length_nil];unfold maxLen;omega
 have hm4:(all.length+([nm]:List ByteArray).length)*16≤140737488355328:=by simp only [List.length_cons,List.length_nil];omega
 clear E h h' hcm hcm2 hz
 go_enter Tryz.func8,Tryz.ntmps8
 go_wp2_with fail
 refine S.out.mono ?_
 rintro e w1 ⟨rfl,hb⟩
 have B1:=Lib.hid hb
 clear hb S
 go_wp2_with fail
 refine (K1.out _ B1.out).mono ?_
 rintro e wq ⟨⟨b1,rfl,hs1⟩,rfl⟩
 have G1:=Lib.hid hs1
 clear hs1 K1
 go_wp2_with fail
 refine (K2.out _ B1.out).mono ?_
 rintro e wq ⟨⟨b2,rfl,hs2⟩,rfl⟩
 have G2:=Lib.hid hs2
 clear hs2 K2
 have BE:=Lib.hid (bel_box w1 (.cells #[] 9))
 have GE:=Lib.hid (show Grow rdBa 1 (fun _=>True) (w1.alloc (.cells #[] 9)) w1.heap.size 9 (.slice (some ⟨w1.heap.size,0,none⟩) 0 0) [] from Grow.empty _ (heap_alloc_new w1 _) (Nat.le_refl _))
 have XE:=Lib.hid (rdBas_good.below (HA.out w1 B1.out) BE.out)
 have SE:=Lib.hid (show ∀b,lt_ w1.heap.size b→True∧b < (w1.alloc (.cells #[] 9)).heap.size∧(Value.slice (some ⟨w1.heap.size,0,none⟩) 0 0).ownBlock≠some b from fun b hb=>⟨trivial,by rw [World.size_alloc];unfold lt_ at hb;omega,fun hh=>by simp only [Value.ownBlock,Option.some.injEq] at hh;unfold lt_ at hb;omega⟩)
 have hs1:w1.heap.size≤(w1.alloc (.cells #[] 9)).heap.size:=BE.out.size
 go_wp2_with (at_builtin;refine wpList_growN _ rfl _ _ 35 35 rfl rdBa_good (by decide) (fun _=>True) w1.heap.size 9 9 fi (.string { data:=#[] }) 16 Tryz.underlying35 Tryz.underlying35 hi hz0 hz1 hz2 rfl _ _ rfl GE.out all _ A' all.length c' rfl XE.out SE.out hm1 hm2 hs1 ?_)
 intro v3 w3 hG3 hg3
 have B3:=Lib.hid (grow_below GE.out hg3 BE.out (Nat.le_refl _) hs1)
 have hs3:=B3.out.size
 have G3:=Lib.hid ((show Grow rdBa 1 (fun _=>True) w3 w1.heap.size 9 v3 all from hG3).alloc rdBa_good (.cells #[.string nm] 9))
 have X3:=Lib.hid (show rdBas (w3.alloc (.cells #[.string nm] 9)) (fun b=>b=w3.heap.size) [nm] [.slice (some ⟨w3.heap.size,0,none⟩) 1 1] from rd_block rdBa_good (l:=[nm]) (css:=[[.string nm]]) (new_heap w3 _) rfl rfl rfl (fun k hk=>by
  simp only [List.length_cons,List.length_nil] at hk
  rcases k with _|k
  ·exact ⟨_,rfl,rfl⟩
  ·omega) (by simp))
 have S3:=Lib.hid (show ∀b,b=w3.heap.size→True∧b < (w3.alloc (.cells #[.string nm] 9)).heap.size∧v3.ownBlock≠some b from fun b hb=>⟨trivial,by rw [World.size_alloc];omega,fun hh=>by have:=(hG3.lt b hh).2;omega⟩)
 have hs4:w1.heap.size≤(w3.alloc (.cells #[.string nm] 9)).heap.size:=by rw [World.size_alloc];omega
 have B4:=Lib.hid (B3.out.alloc hs3 (.cells #[.string nm] 9))
 clear hG3 hg3 hs1 XE SE GE BE
 go_wp2_with (at_builtin;refine wpList_growN _ rfl _ _ 35 35 rfl rdBa_good (by decide) (fun _=>True) w1.heap.size 9 9 fi (.string { data:=#[] }) 16 Tryz.underlying35 Tryz.underlying35 hi hz0 hz1 hz2 rfl _ _ rfl G3.out [nm] _ (some ⟨w3.heap.size,0,none⟩) 1 1 rfl X3.out S3.out hm3 hm4 hs4 ?_)
 intro v5 w5 hG5 hg5
 have B5:=Lib.hid (bel_2 B1.out (grow_below G3.out hg5 B4.out (Nat.le_refl _) hs4))
 obtain ⟨A5,c5,hv5,-,-⟩:=hG5.own
 have RD:=Lib.hid (show rdBas w5 (lt_ w5.heap.size) (all++[nm]) [.slice A5 (all.length+1) c5] from by have:=hG5.read rdBa_good;rw [hv5,List.length_append] at this;exact this)
 rw [List.length_append] at hv5
 have hv5:v5=.slice A5 (all.length+1) c5:=hv5
 have KS:=Lib.hid (K3.out A5 c5 w5 RD.out)
 clear hG5 hg5 hs3 hs4 B3 B4 G3 X3 S3 K3 RD
 subst hv5
 go_wp2_with fail
 refine KS.out.mono ?_
 rintro e wq ⟨⟨b3,rfl,hs3⟩,rfl⟩
 have G3:=Lib.hid hs3
 clear hs3 KS hm1 hm2 hm3 hm4
 cases b1
 ·go_wp2
  go_ret
  exact ⟨rfl,B5.out⟩
 cases b2
 ·go_wp2
  go_ret
  exact ⟨rfl,B5.out⟩
 cases b3
 ·go_wp2
  go_ret
  exact ⟨rfl,B5.out⟩
 by_cases h0:all.length=0
 ·rw [h0] at *
  go_wp2
  go_ret
  exact ⟨rfl,B5.out⟩
 have F3:=Lib.hid (G2.out rfl)
 clear G1 G2 G3
 have HR5:=Lib.hid (fun (W:World) (hb:Below w5.heap.size w5 W)=>HR.out W (bel_2 B5.out hb))
 have HA5:=Lib.hid (fun (W:World) (hb:Below w5.heap.size w5 W)=>HA.out W (bel_2 B5.out hb))
 have KP:=Lib.hid (fun u (W:World) (hb:Below w5.heap.size w5 W)=>pprio_any A l.length c l nm u W (HR5.out W hb))
 have KL:=Lib.hid (fun u (W:World) (hb:Below w5.heap.size w5 W)=>ploss_any A l.length c l nm A' all.length c' all u W (HR5.out W hb) (HA5.out W hb) F3.out)
 have BD:=Lib.hid (fun u=>prio_in (b:=1099511627776) (by decide) F3.out nm u)
 have hpos:0 < all.length:=by omega
 have LZ:=Lib.hid (show (all.take all.length).any (fun u=>decide (lossN l nm all u=0))=true from by
  obtain ⟨u,hu,hz⟩:=loss_zero (l:=l) (nm:=nm) (all:=all) (fun e=>h0 (by rw [e];rfl))
  rw [List.take_length,List.any_eq_true]
  exact ⟨u,hu,decide_eq_true hz⟩)
 have LG:=Lib.hid (fun u=>loss_ge l nm all u)
 have LI:=Lib.hid (fun k (hk:k < all.length)=>(loss_is (l:=l) (nm:=nm) (List.getElem_mem hk) (List.getElem_mem hpos):lossN l nm all all[k]=maxF (prioN l nm) (prioN l nm all[0]) all - prioN l nm all[k]))
 have MB:=Lib.hid (fun k=>maxF_in (f:=prioN l nm) (b:=prioN l nm all[0]) (c:=1099511627776) (all:=all.take k) (BD.out all[0]) BD.out)
 have MS:=Lib.hid (fun k hk=>maxF_step (prioN l nm) (prioN l nm all[0]) all (k:=k) hk)
 have M0:=Lib.hid (show prioN l nm all[0]=maxF (prioN l nm) (prioN l nm all[0]) (all.take 0) from rfl)
 have ME:=Lib.hid (show maxF (prioN l nm) (prioN l nm all[0]) (all.take all.length)=maxF (prioN l nm) (prioN l nm all[0]) all by rw [List.take_length])
 have AS:=Lib.hid (fun k hk=>any_step (fun u=>decide (lossN l nm all u=0)) all (k:=k) hk)
 have C0:=Lib.hid (Below.refl w5.heap.size w5)
 obtain ⟨_,_,_,hat0⟩:=rdBas_at (HA5.out w5 C0.out)
 obtain ⟨ad0,e0,had0,z0⟩:=hat0 0 hpos
 have i0:(0:Int) < (all.length:Int):=by omega
 have h00:¬((all.length:Int)=0):=by omega
 have t00:((all.length:Int)==0)=false:=by rw [beq_eq_false_iff_ne];exact h00
 have K0:=Lib.hid (KP.out all[0] w5 C0.out)
 have HP:=Lib.hid hpos
 clear HR HA F3 hat0 had0 h0
 obtain rfl:=e0
 have z1:w5.cell? ad0=some (.string all[0]):=by have:=z0;rw [show ad0.add 0=ad0 from rfl] at this;exact this
 generalize lossN l nm all=lo at *
 generalize prioN l nm=f at *
 generalize all[0]=u0 at *
 clear hpos HP
 generalize f u0=own at *
 go_wp2_with fail
 refine K0.out.mono ?_
 rintro e w6 ⟨rfl,hb⟩
 have B6:=Lib.hid hb
 clear hb K0 z0 z1
 go_wp2
 go_loopw [11,12] (fun b i wr=>∃k:Nat,k≤all.length∧i=.int .i64 k∧b=.int .i64 (maxF f own (all.take k))∧Below w5.heap.size w5 wr) (fun _ i _=>all.length - (intOf i).toNat)
 case atStart=>exact ⟨0,Nat.zero_le _,rfl,by rw [←M0.out],B6.out⟩
 case round=>
  obtain ⟨k,hk,rfl,rfl,hbel⟩:=hrel
  have HB:=Lib.hid hbel
  obtain ⟨m1,m2⟩:=MB.out k
  by_cases hlt:k < all.length
  ·obtain ⟨_,_,_,hat⟩:=rdBas_at (HA5.out wr hbel)
   obtain ⟨ad,ea,had,c0⟩:=hat k hlt
   injection ea with ea
   subst ea
   have K:=Lib.hid (KP.out all[k] wr hbel)
   have SX:=Lib.hid (MS.out k hlt)
   obtain ⟨f1,f2⟩:=BD.out all[k]
   have i0:(0:Int)≤(k:Int):=by omega
   have i1:(k:Int) < (all.length:Int):=by omega
   clear hat hbel had
   generalize all[k]=u at *
   generalize f u=y at *
   generalize maxF f own (all.take k)=b at *
   go_wp2_with fail
   refine K.out.mono ?_
   rintro e w2 ⟨rfl,hb⟩
   have HB2:=Lib.hid (bel_2 HB.out hb)
   clear hb c0
   go_wp2
   go_roundw
   case rel=>exact ⟨k+1,by omega,by go_num,by rw [SX.out];try rfl,HB2.out⟩
   case measure=>simp [intOf];omega
  ·obtain rfl:k=all.length:=by omega
   clear hbel hlt hk MS
   have MX:=Lib.hid (MB.out all.length)
   have ME:=ME.out
   rw [ME] at MX m1 m2
   rw [ME]
   generalize maxF f own all=best at *
   clear ME MB M0
   go_wp2
   go_loopw [13,14,15] (fun q i n wr=>∃k:Nat,k≤all.length∧i=.int .i64 k∧q=.bool ((all.take k).any fun u=>decide (lo u=0))∧Below w5.heap.size w5 wr) (fun _ i _ _=>all.length - (intOf i).toNat)
   case atStart=>exact ⟨0,Nat.zero_le _,rfl,rfl,HB.out⟩
   case round=>
    obtain ⟨k,hk,rfl,rfl,hbel⟩:=hrel
    have HB:=Lib.hid hbel
    by_cases hlt:k < all.length
    ·obtain ⟨_,_,_,hat⟩:=rdBas_at (HA5.out wr hbel)
     obtain ⟨ad,ea,had,c0⟩:=hat k hlt
     injection ea with ea
     subst ea
     have K:=Lib.hid (KL.out all[k] wr hbel)
     have KU:=Lib.hid (KP.out all[k])
     have SX:=Lib.hid (AS.out k hlt)
     have LX:=Lib.hid (LI.out k hlt)
     have hg:=LG.out all[k]
     obtain ⟨f1,f2⟩:=BD.out all[k]
     have i0:(0:Int)≤(k:Int):=by omega
     have i1:(k:Int) < (all.length:Int):=by omega
     have keep:=Lib.hid (fun W (hb:Below wr.heap.size wr W)=>keep_cellL hb c0)
     clear hat hbel had
     generalize all[k]=u at *
     generalize f u=y at *
     generalize (all.take k).any (fun u=>decide (lo u=0))=q at *
     generalize lo u=z at *
     have tz:(z != best - y)=false:=by rw [bne_eq_false_iff_eq];exact LX.out
     go_wp2_with fail
     refine K.out.mono ?_
     rintro e w2 ⟨rfl,hb⟩
     have HB2:=Lib.hid (bel_2 HB.out hb)
     have c1:=keep.out _ hb
     clear hb c0 keep
     cases q
     ·by_cases hn:z=0
      ·have SX:=Lib.hid (SX.out.trans (show (false||decide (z=0))=true by rw [decide_eq_true hn];rfl))
       go_wp2_with fail
       refine (KU.out _ HB2.out).mono ?_
       rintro e w3 ⟨rfl,hb⟩
       have HB3:=Lib.hid (bel_2 HB2.out hb)
       clear hb
       go_wp2
       go_roundw
       case rel=>exact ⟨k+1,by omega,by go_num,by rw [SX.out];try simp [hn],HB3.out⟩
       case measure=>simp [intOf];omega
      ·have SX:=Lib.hid (SX.out.trans (show (false||decide (z=0))=false by rw [decide_eq_false hn];rfl))
       go_wp2_with fail
       refine (KU.out _ HB2.out).mono ?_
       rintro e w3 ⟨rfl,hb⟩
       have HB3:=Lib.hid (bel_2 HB2.out hb)
       clear hb
       go_wp2
       go_roundw
       case rel=>exact ⟨k+1,by omega,by go_num,by rw [SX.out];try simp [hn],HB3.out⟩
       case measure=>simp [intOf];omega
     ·have SX:=Lib.hid (SX.out.trans (Bool.true_or _))
      go_wp2_with fail
      refine (KU.out _ HB2.out).mono ?_
      rintro e w3 ⟨rfl,hb⟩
      have HB3:=Lib.hid (bel_2 HB2.out hb)
      clear hb
      go_wp2
      go_roundw
      case rel=>exact ⟨k+1,by omega,by go_num,by rw [SX.out],HB3.out⟩
      case measure=>simp [intOf];omega
    ·obtain rfl:k=all.length:=by omega
     have BZ:=Lib.hid (bel_2 B5.out hbel)
     clear hbel
     rw [LZ.out]
     go_wp2
     go_ret
     exact ⟨rfl,BZ.out⟩
end Go.Proofs.YtbljkpbaceiaiaaGreatDoor
