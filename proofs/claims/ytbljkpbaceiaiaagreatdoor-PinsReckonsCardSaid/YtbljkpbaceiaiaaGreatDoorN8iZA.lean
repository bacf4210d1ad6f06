/- What the laws rest on: N8i. -/
import Derived.Test.YtbljkpbaceiaiaaGreatDoorQAFZA
import Derived.Test.YtbljkpbaceiaiaaGreatDoorQATZA
set_option maxRecDepth 100000
set_option linter.unusedVariables false
set_option linter.unusedSimpArgs false
namespace Go.Proofs.YtbljkpbaceiaiaaGreatDoor
open Go.RowKit
theorem keep_cellP {w w1:World} (h:Below w.heap.size w w1) {a:Addr} {v:Value} (hc:w.cell? a=some v):w1.cell? a=some v:=(h.cell (World.block_lt_of_cell? _ _ hc)).trans hc
set_option maxHeartbeats 8000000 in
theorem reckons8 (A:Option Addr) (n c:Nat) (l:List Pn) (nm:ByteArray) (A':Option Addr) (n' c':Nat) (all:List ByteArray) (v:ByteArray) (w:World) (h:rdPns w (lt_ w.heap.size) l [.slice A n c]) (h':rdBas w (lt_ w.heap.size) all [.slice A' n' c']) (hz:n'*16≤140737488351232) (E:Env w) :
  Calls Tryz.prog 5 #[.slice A n c,.string nm,.slice A' n' c',.string v] w fun e w'=>e=.returned (.bool true)∧Below w.heap.size w w':=by
 obtain ⟨rfl,hnc,hcm,-⟩:=rdPns_at h
 have hcm':c≤9223372036854775807:=hcm
 obtain ⟨rfl,hnc2,hcm2,-⟩:=rdBas_at h'
 have hcm2':c'≤9223372036854775807:=hcm2
 obtain ⟨fi,hi,hz0,hz1,hz2⟩:=info_parts str_info
 have HR:=Lib.hid (fun (W:World) (hb:Below w.heap.size w W)=>rdPns_good.up (rdPns_good.below h hb) hb.size)
 have HA:=Lib.hid (fun (W:World) (hb:Below w.heap.size w W)=>rdBas_good.up (rdBas_good.below h' hb) hb.size)
 have S:=Lib.hid (shown8_any w E)
 have K1:=Lib.hid (fun (W:World) (hb:Below w.heap.size w W)=>small8_any A l.length c l W (HR.out W hb))
 have K2:=Lib.hid (fun (W:World) (hb:Below w.heap.size w W)=>bounded8_any A l.length c l W (HR.out W hb))
 have K3:=Lib.hid (fun A' c' W hr=>short8_any A' (all.length+2) c' (all++[nm,v]) W hr)
 have hm1:([]:List ByteArray).length+all.length≤maxLen:=by simp only [List.length_nil];unfold maxLen;omega
 have hm2:(([]:List ByteArray).length+all.length)*16≤140737488355328:=by simp only [List.length_nil];omega
 have hm3:all.length+([nm,v]:List ByteArray).length≤maxLen:=by simp only [List.length_cons,List.length_nil];unfold maxLen;omega
 have hm4:(all.length+([nm,v]:List ByteArray).length)*16≤140737488355328:=by simp only [List.length_cons,List.length_nil];omega
 clear E h h' hcm hcm2 hz
 go_enter Tryz.func5,Tryz.ntmps5
 go_wp2_with fail
 refine S.out.mono ?_
 rintro e w1 ⟨rfl,hb⟩
 have B1:=Lib.hid hb
 clear hb S
 go_wp2_with fail
 refine (K1.out _ B1.out).mono ?_
 rintro e wq ⟨⟨b1,rfl,hs1⟩,rfl⟩
 have G1:=Lib.hid hs1
 clear hs1 K1
 go_wp2_with fail
 refine (K2.out _ B1.out).mono ?_
 rintro e wq ⟨⟨b2,rfl,hs2⟩,rfl⟩
 have G2:=Lib.hid hs2
 clear hs2 K2
 have BE:=Lib.hid (bel_box w1 (.cells #[] 9))
 have GE:=Lib.hid (show Grow rdBa 1 (fun _=>True) (w1.alloc (.cells #[] 9)) w1.heap.size 9 (.slice (some ⟨w1.heap.size,0,none⟩) 0 0) [] from Grow.empty _ (heap_alloc_new w1 _) (Nat.le_refl _))
 have XE:=Lib.hid (rdBas_good.below (HA.out w1 B1.out) BE.out)
 have SE:=Lib.hid (show ∀b,lt_ w1.heap.size b→True∧b < (w1.alloc (.cells #[] 9)).heap.size∧(Value.slice (some ⟨w1.heap.size,0,none⟩) 0 0).ownBlock≠some b from fun b hb=>⟨trivial,by rw [World.size_alloc];unfold lt_ at hb;omega,fun hh=>by simp only [Value.ownBlock,Option.some.injEq] at hh;unfold lt_ at hb;omega⟩)
 have hs1:w1.heap.size≤(w1.alloc (.cells #[] 9)).heap.size:=BE.out.size
 go_wp2_with (at_builtin;refine wpList_growN _ rfl _ _ 35 35 rfl rdBa_good (by decide) (fun _=>True) w1.heap.size 9 9 fi (.string { data:=#[] }) 16 Tryz.underlying35 Tryz.underlying35 hi hz0 hz1 hz2 rfl _ _ rfl GE.out all _ A' all.length c' rfl XE.out SE.out hm1 hm2 hs1 ?_)
 intro v3 w3 hG3 hg3
 have B3:=Lib.hid (grow_below GE.out hg3 BE.out (Nat.le_refl _) hs1)
 have hs3:=B3.out.size
 have G3:=Lib.hid ((show Grow rdBa 1 (fun _=>True) w3 w1.heap.size 9 v3 all from hG3).alloc rdBa_good (.cells #[.string nm,.string v] 9))
 have X3:=Lib.hid (show rdBas (w3.alloc (.cells #[.string nm,.string v] 9)) (fun b=>b=w3.heap.size) [nm,v] [.slice (some ⟨w3.heap.size,0,none⟩) 2 2] from rd_block rdBa_good (l:=[nm,v]) (css:=[[.string nm],[.string v]]) (new_heap w3 _) rfl rfl rfl (fun k hk=>by
  simp only [List.length_cons,List.length_nil] at hk
  rcases k with _|_|k
  ·exact ⟨_,rfl,rfl⟩
  ·exact ⟨_,rfl,rfl⟩
  ·omega) (by simp))
 have S3:=Lib.hid (show ∀b,b=w3.heap.size→True∧b < (w3.alloc (.cells #[.string nm,.string v] 9)).heap.size∧v3.ownBlock≠some b from fun b hb=>⟨trivial,by rw [World.size_alloc];omega,fun hh=>by have:=(hG3.lt b hh).2;omega⟩)
 have hs4:w1.heap.size≤(w3.alloc (.cells #[.string nm,.string v] 9)).heap.size:=by rw [World.size_alloc];omega
 have B4:=Lib.hid (B3.out.alloc hs3 (.cells #[.string nm,.string v] 9))
 clear hG3 hg3 hs1 XE SE GE BE
 go_wp2_with (at_builtin;refine wpList_growN _ rfl _ _ 35 35 rfl rdBa_good (by decide) (fun _=>True) w1.heap.size 9 9 fi (.string { data:=#[] }) 16 Tryz.underlying35 Tryz.underlying35 hi hz0 hz1 hz2 rfl _ _ rfl G3.out [nm,v] _ (some ⟨w3.heap.size,0,none⟩) 2 2 rfl X3.out S3.out hm3 hm4 hs4 ?_)
 intro v5 w5 hG5 hg5
 have B5:=Lib.hid (bel_2 B1.out (grow_below G3.out hg5 B4.out (Nat.le_refl _) hs4))
 obtain ⟨A5,c5,hv5,-,-⟩:=hG5.own
 have RD:=Lib.hid (show rdBas w5 (lt_ w5.heap.size) (all++[nm,v]) [.slice A5 (all.length+2) c5] from by have:=hG5.read rdBa_good;rw [hv5,List.length_append] at this;exact this)
 rw [List.length_append] at hv5
 have hv5:v5=.slice A5 (all.length+2) c5:=hv5
 have KS:=Lib.hid (K3.out A5 c5 w5 RD.out)
 clear hG5 hg5 hs3 hs4 B3 B4 G3 X3 S3 K3 RD
 subst hv5
 go_wp2_with fail
 refine KS.out.mono ?_
 rintro e wq ⟨⟨b3,rfl,hs3⟩,rfl⟩
 have G3:=Lib.hid hs3
 clear hs3 KS hm1 hm2 hm3 hm4
 cases b1
 ·go_wp2
  go_ret
  exact ⟨rfl,B5.out⟩
 cases b2
 ·go_wp2
  go_ret
  exact ⟨rfl,B5.out⟩
 cases b3
 ·go_wp2
  go_ret
  exact ⟨rfl,B5.out⟩
 obtain ⟨f1,f2⟩:=G1.out rfl
 have F1:=Lib.hid f1
 have F2:=Lib.hid f2
 have F3:=Lib.hid (G2.out rfl)
 obtain ⟨-,g3⟩:=G3.out rfl
 have hv:v.size≤maxLen:=by have:=g3 v (by simp);unfold maxLen;omega
 have HV:=Lib.hid (show ∀s ∈ all,s.size≤maxLen from fun s hs=>by have:=g3 s (List.mem_append_left _ hs);unfold maxLen;omega)
 have HX:=Lib.hid (show ∀x ∈ l,x.x.size≤maxLen from fun x hx=>by have:=(F2.out x hx).2;unfold maxLen;omega)
 clear f1 f2 g3 G1 G2 G3
 have HR5:=Lib.hid (fun (W:World) (hb:Below w5.heap.size w5 W)=>HR.out W (bel_2 B5.out hb))
 have HA5:=Lib.hid (fun (W:World) (hb:Below w5.heap.size w5 W)=>HA.out W (bel_2 B5.out hb))
 have KM1:=Lib.hid (fun (x:Pn) W=>pmatch_any x nm v W)
 have KM2:=Lib.hid (fun (x:Pn) (hx:x ∈ l) W=>q8match_any x nm v W hv (HX.out x hx))
 have KP1:=Lib.hid (fun (W:World) (hb:Below w5.heap.size w5 W)=>pprio_any A l.length c l nm v W (HR5.out W hb))
 have KP2:=Lib.hid (fun (W:World) (hb:Below w5.heap.size w5 W)=>q8prio_any A l.length c l nm v W (HR5.out W hb) hv HX.out)
 have KL1:=Lib.hid (fun (W:World) (hb:Below w5.heap.size w5 W)=>ploss_any A l.length c l nm A' all.length c' all v W (HR5.out W hb) (HA5.out W hb) F3.out)
 have KL2:=Lib.hid (fun (W:World) (hb:Below w5.heap.size w5 W)=>q8loss_any A l.length c l nm A' all.length c' all v W (HR5.out W hb) (HA5.out W hb) hv HV.out HX.out F3.out)
 have C0:=Lib.hid (Below.refl w5.heap.size w5)
 clear HR HA hv HX HV F3 F2
 generalize prioN l nm v=p at *
 generalize lossN l nm all v=q at *
 have t0:(p==p)=true:=beq_self_eq_true p
 have t1:(q==q)=true:=beq_self_eq_true q
 go_wp2
 go_loopw [13] (fun i wr=>∃k:Nat,k≤l.length∧i=.int .i64 k∧Below w5.heap.size w5 wr) (fun i _=>l.length - (intOf i).toNat)
 case atStart=>exact ⟨0,Nat.zero_le _,rfl,C0.out⟩
 case round=>
  obtain ⟨k,hk,rfl,hbel⟩:=hrel
  have HB:=Lib.hid hbel
  by_cases hlt:k < l.length
  ·obtain ⟨_,_,_,hat⟩:=rdPns_at (HR5.out wr hbel)
   obtain ⟨ad,rfl,had,c0,c1,c2⟩:=hat k hlt
   have i0:(0:Int)≤(k:Int):=by omega
   have i1:(k:Int) < (l.length:Int):=by omega
   have M1:=Lib.hid (KM1.out l[k])
   have M2:=Lib.hid (KM2.out l[k] (List.getElem_mem hlt))
   clear hat hbel
   generalize l[k]=x at *
   obtain ⟨xn,xx,xp⟩:=x
   simp only [Pn.val] at M1 M2 c0 c1 c2
   generalize matN ⟨xn,xx,xp⟩ nm v=m at *
   have tm:(m != m)=false:=by cases m<;>rfl
   have bb:Below wr.heap.size wr wr.drew:=(Below.refl wr.heap.size wr).drew
   go_wp2
   go_region_held3 (fun W=>W.cell? (ad.add (k*3))=some (.string xn)∧W.cell? ⟨(ad.add (k*3)).block,(ad.add (k*3)).off+1,none⟩=some (.string xx)∧W.cell? ⟨(ad.add (k*3)).block,(ad.add (k*3)).off+2,none⟩=some (.int .i64 xp)∧Below wr.heap.size wr W)
    (first|(go_split_ands;refine ⟨?_,?_,?_,?_⟩<;>first|assumption|exact keep_cellP hbx (by assumption)|exact bel_2 (by assumption) hbx)|go_keep)
    ((first|(go_at_call 20;(with_reducible refine (M1.out _).mono ?_);rintro e wx ⟨rfl,hbx⟩)|(go_at_call 21;(with_reducible refine (M2.out _).mono ?_);rintro e wx ⟨rfl,hbx⟩)))
   all_goals
    go_split_ands
    have HB9:=Lib.hid (show Below w5.heap.size w5 wx from bel_2 HB.out (by assumption))
    go_wp2
    go_roundw
    case rel=>exact ⟨k+1,by omega,by go_num,HB9.out⟩
    case measure=>simp [intOf];omega
  ·obtain rfl:k=l.length:=by omega
   clear hbel
   go_wp2_with fail
   refine (KP1.out _ HB.out).mono ?_
   rintro e w6 ⟨rfl,hb⟩
   have B6:=Lib.hid (bel_2 HB.out hb)
   clear hb
   go_wp2_with fail
   refine (KP2.out _ B6.out).mono ?_
   rintro e w7 ⟨rfl,hb⟩
   have B7:=Lib.hid (bel_2 B6.out hb)
   clear hb
   go_wp2_with fail
   refine (KL1.out _ B7.out).mono ?_
   rintro e w8 ⟨rfl,hb⟩
   have B8:=Lib.hid (bel_2 B7.out hb)
   clear hb
   go_wp2_with fail
   refine (KL2.out _ B8.out).mono ?_
   rintro e w9 ⟨rfl,hb⟩
   have B9:=Lib.hid (bel_2 B5.out (bel_2 B8.out hb))
   clear hb
   go_wp2
   go_ret
   exact ⟨rfl,B9.out⟩
end Go.Proofs.YtbljkpbaceiaiaaGreatDoor
