/- What the laws rest on: E7i, E7j. -/
import Derived.Test.YtboinnjncaehkaaGreatDoorQAVZA
import Derived.Test.YtboinnjncaehkaaGreatDoorQAWZA
set_option maxRecDepth 100000
set_option linter.unusedVariables false
set_option linter.unusedSimpArgs false
namespace Go.Proofs.YtboinnjncaehkaaGreatDoor
open Go.RowKit
set_option maxHeartbeats 8000000 in
theorem q7mark_any (A:Option Addr) (n c:Nat) (l:List Hr) (nm:ByteArray) (a h:Bool) (w:World) (hr:rdHrs w (lt_ w.heap.size) l [.slice A n c]) (hl:l.length≤200) :
  Calls Tryz.prog 21 #[.slice A n c,.string nm,.bool a,.bool h] w fun e w'=>(∃A' n' c',e=.returned (.tuple #[.slice A' n' c',.int .i64 (mkE nm a h l)])∧rdHrs w' (lt_ w'.heap.size) (mkL nm a h l) [.slice A' n' c'])∧Below w.heap.size w w':=by
 obtain ⟨i0,hi,hz0,hz1,hz2⟩:=info_parts here_info
 obtain ⟨rfl,hnc,hcm,_⟩:=rdHrs_at hr
 have hcm':c≤9223372036854775807:=hcm
 have B1:=(Below.refl w.heap.size w).alloc (Nat.le_refl _) (.cells #[] 36)
 have hG:=Grow.empty (E:=rdHr) (sz:=8) (fun _=>True) (W:=w.alloc (.cells #[] 36)) (base:=w.heap.size) (heap_alloc_new w _) (Nat.le_refl _)
 have hX:=rdHrs_good.below hr B1
 have hn1:([]:List Hr).length+l.length≤maxLen:=by simp only [List.length_nil];unfold maxLen;omega
 have hn2:(([]:List Hr).length+l.length)*136≤140737488355328:=by simp only [List.length_nil];omega
 have hS:∀b,lt_ w.heap.size b→True∧b < (w.alloc (.cells #[] 36)).heap.size∧(Value.slice (some ⟨w.heap.size,0,none⟩) 0 0).ownBlock≠some b:=fun b hb=>⟨trivial,by rw [World.size_alloc];unfold lt_ at hb;omega,fun hh=>by simp only [Value.ownBlock,Option.some.injEq] at hh;unfold lt_ at hb;omega⟩
 have hbs:w.heap.size≤(w.alloc (.cells #[] 36)).heap.size:=by rw [World.size_alloc];omega
 have HB1:=Lib.hid B1
 have HL:=Lib.hid hl
 have HP0:=Lib.hid (show mkH nm a h l=(mkH nm a h (l.drop 0)).map (l.take 0++·) by rw [List.drop_zero];cases mkH nm a h l<;>rfl)
 have M1:=Lib.hid (fun k (hk:k < l.length) hp hn=>mk_hit (n:=nm) (a:=a) (h:=h) (l:=l) (k:=k) hk hp hn)
 have M2:=Lib.hid (fun k (hk:k < l.length) hp hn=>mk_miss (n:=nm) (a:=a) (h:=h) (l:=l) (k:=k) hk hp hn)
 have M3:=Lib.hid (fun hp=>mk_none (n:=nm) (a:=a) (h:=h) (l:=l) hp)
 clear hr B1 hcm hl
 generalize hml:mkL nm a h l=ml at *
 generalize hme:mkE nm a h l=me at *
 clear hml hme
 go_enter Tryz.func21,Tryz.ntmps21
 go_wp2_with (at_builtin;refine wpList_growN _ rfl _ _ 23 23 rfl rdHr_good (by decide) (fun _=>True) w.heap.size 36 36 i0 (.agg #[.string { data:=#[] },.string { data:=#[] },.slice none 0 0,.slice none 0 0,.slice none 0 0,.slice none 0 0,.bool false,.bool false]) 136 Tryz.underlying23 Tryz.underlying23 hi hz0 hz1 hz2 rfl _ _ rfl hG l _ A l.length c rfl hX hS hn1 hn2 hbs ?_)
 intro v' w1 hG1 hg1
 have HB2:=Lib.hid (grow_below hG hg1 HB1.out (Nat.le_refl _) hbs)
 clear hG hX hg1 hn1 hn2 hS hbs
 obtain ⟨A1,c1,rfl,hnc1,hcm1⟩:=hG1.own
 have hcm1':c1≤9223372036854775807:=hcm1
 have hat:=(rdHrs_at (hG1.read rdHr_good)).2.2.2
 have HAT:=Lib.hid hat
 have HG:=Lib.hid hG1
 have hbs:=HB2.out.size
 clear hat hG1 hcm1
 go_wp2
 go_loop [11] (fun i=>∃k:Nat,k≤l.length∧i=.int .i64 k∧mkH nm a h l=(mkH nm a h (l.drop k)).map (l.take k++·)) (fun i=>l.length - (intOf i).toNat)
 case atStart=>exact ⟨0,Nat.zero_le _,rfl,HP0.out⟩
 case round=>
  obtain ⟨k,hk,rfl,hp⟩:=hrel
  have HP:=Lib.hid hp
  clear hp
  by_cases hlt:k < l.length
  ·obtain ⟨ad,E1,e1,E2,e2,E3,e3,E4,e4,rfl,had,hv,c0,-,-,-,-,-,c6,c7⟩:=HAT.out k hlt
   have hq:=str_eq l[k].e.n nm
   clear had hv
   by_cases he:l[k].e.n=nm
   ·have X:=Lib.hid (M1.out k hlt HP.out he)
    rw [decide_eq_true he] at hq
    obtain ⟨e0,hba,hbb,_,hfz⟩:=HG.out.spot
    have f6:w1.frozen? ⟨(ad.add (k*8)).block,(ad.add (k*8)).off+6,none⟩=false:=by rw [blk_add];exact hfz _
    have f7:w1.frozen? ⟨(ad.add (k*8)).block,(ad.add (k*8)).off+7,none⟩=false:=by rw [blk_add];exact hfz _
    obtain ⟨S1,S2⟩:=HG.out.set rdHr_good hlt (j:=6) (by decide) (.bool a) ⟨l[k].e,a,l[k].h⟩ (fun cs hcs=>hr_set6 hcs a)
    have hlt2:k < (l.set k ⟨l[k].e,a,l[k].h⟩).length:=by rw [List.length_set];exact hlt
    obtain ⟨S3,S4⟩:=S1.set rdHr_good hlt2 (j:=7) (by decide) (.bool h) ⟨l[k].e,a,h⟩ (fun cs hcs=>by rw [List.getElem_set_self] at hcs;exact hr_set7 hcs h)
    rw [List.set_set,←off2_add ad (k*8) 6 (by omega),←off2_add ad (k*8) 7 (by omega)] at S3
    have R1:=Lib.hid (S3.read rdHr_good)
    have R2:=Lib.hid (set_below (set_below HB2.out (a:=⟨(ad.add (k*8)).block,(ad.add (k*8)).off+6,none⟩) (by rw [blk_add];exact hba) (.bool a)) (a:=⟨(ad.add (k*8)).block,(ad.add (k*8)).off+7,none⟩) (by rw [blk_add];exact hba) (.bool h))
    clear he S1 S2 S3 S4 e0 hfz hba hbb hlt2
    go_wp2
    go_ret2
    exact ⟨⟨_,_,_,by rw [X.out.2];try rfl,by rw [X.out.1];first|exact R1.out|(have:=R1.out;rw [List.length_set] at this;exact this)⟩,R2.out⟩
   ·have X:=Lib.hid (M2.out k hlt HP.out he)
    rw [decide_eq_false he] at hq
    clear he c6 c7
    go_wp2
    go_round
    case rel=>exact ⟨k+1,by omega,by go_num,X.out⟩
    case measure=>simp [intOf];omega
  ·obtain rfl:k=l.length:=by omega
   have X:=Lib.hid (M3.out HP.out)
   go_wp2
   go_ret2
   exact ⟨⟨none,0,0,by rw [X.out.2];try rfl,by rw [X.out.1];exact rdRow_nil _ _⟩,HB2.out⟩
theorem put_same {l:List ByteArray} {n:ByteArray} {k:Nat} (hk:k < l.length) (h2:l.dropWhile (ltN n)=l.drop k) (hn:l[k]=n):putN l n=l:=by
 unfold putN
 rw [if_pos]
 rw [h2,List.drop_eq_getElem_cons hk,hn];rfl
theorem put_new {l:List ByteArray} {n:ByteArray} {k:Nat} (h1:l.takeWhile (ltN n)=l.take k) (h2:l.dropWhile (ltN n)=l.drop k) (hn:∀h:k < l.length,l[k]≠n):putN l n=l.take k++[n]++l.drop k:=by
 unfold putN
 rw [if_neg,h1,h2,List.append_assoc,List.singleton_append]
 rw [h2]
 by_cases hk:k < l.length
 ·rw [List.drop_eq_getElem_cons hk]
  exact fun e=>hn hk (Option.some.inj e)
 ·rw [List.drop_eq_nil_of_le (by omega)]
  exact fun e=>by cases e
theorem put_len (l:List ByteArray) (n:ByteArray):(putN l n).length≤l.length+1:=by
 unfold putN
 split
 ·omega
 ·have e:=congrArg List.length (List.takeWhile_append_dropWhile (p:=ltN n) (l:=l))
  rw [List.length_append] at e
  rw [List.length_append,List.length_cons];omega
set_option maxHeartbeats 16000000 in
theorem q7put_any (A:Option Addr) (n0 c:Nat) (l:List ByteArray) (nm:ByteArray) (w:World) (h:rdNms w (lt_ w.heap.size) l [.slice A n0 c]) (hsm:l.length≤200) :
  Calls Tryz.prog 55 #[.slice A n0 c,.string nm] w fun e w'=>(∃A' n' c',e=.returned (.slice A' n' c')∧rdNms w' (lt_ w'.heap.size) (putN l nm) [.slice A' n' c'])∧Below w.heap.size w w':=by
 obtain ⟨rfl,hnc,hcm,hat⟩:=rdNms_at h
 have hcm':c≤9223372036854775807:=hcm
 have HAT:=Lib.hid hat
 have HR:=Lib.hid h
 have HM:=Lib.hid hsm
 obtain ⟨wi,hwi⟩:∃wi,wi=putN l nm:=⟨_,rfl⟩
 have XM:=Lib.hid hwi
 have PS:=Lib.hid (fun k (hk:k < l.length) h2 hn=>put_same (l:=l) (n:=nm) (k:=k) hk h2 hn)
 obtain ⟨fi,hi,hz0,hz1,hz2⟩:=info_parts str_info
 clear hat h hcm hsm
 rw [←hwi] at PS ⊢
 clear hwi
 go_enter Tryz.func55,Tryz.ntmps55
 go_wp2
 go_loopw [5] (fun i wr=>∃k:Nat,k≤l.length∧i=.int .i64 k∧l.takeWhile (ltN nm)=l.take k++(l.drop k).takeWhile (ltN nm)∧Dr w wr) (fun i _=>l.length - (intOf i).toNat)
 case atStart=>exact ⟨0,Nat.zero_le _,rfl,rfl,Dr.refl _⟩
 case round=>
  obtain ⟨k,hk,rfl,htw,hdr⟩:=hrel
  have HT:=Lib.hid htw
  have HD:=Lib.hid hdr
  clear htw hdr
  by_cases hlt:k < l.length
  ·obtain ⟨ad,rfl,had,h0⟩:=HAT.out k hlt
   have i0:(0:Int)≤(k:Int):=by omega
   have i1:(k:Int) < (l.length:Int):=by omega
   have g0:=keep6 (HD.out.below _) h0
   clear had h0
   have ST:=Lib.hid (tw_step (p:=ltN nm) hlt HT.out)
   have hle:Op.bytesLess l[k].toList nm.toList=ltN nm l[k]:=rfl
   have heq:=str_eq l[k] nm
   have NE:=Lib.hid (show l[k]≠nm→∀h:k < l.length,l[k]≠nm from fun h _=>h)
   have PS:=Lib.hid (fun h2 hn=>PS.out k hlt h2 hn)
   generalize hq:ltN nm l[k]=q at *
   generalize hmn:l[k]=mn at *
   cases q
   ·have TWS:=Lib.hid (tw_stop hk HT.out (fun h=>by rw [hmn];exact hq))
    by_cases he:mn=nm
    ·have X:=Lib.hid (PS.out TWS.out.2 he)
     rw [decide_eq_true he] at heq
     clear he
     go_wp2
     go_ret
     exact ⟨⟨some ad,l.length,c,rfl,by rw [X.out];exact rdNms_good.up (rdNms_good.below HR.out (HD.out.below w.heap.size)) (HD.out.below w.heap.size).size⟩,HD.out.below w.heap.size⟩
    ·rw [decide_eq_false he] at heq
     have NE:=Lib.hid (show ∀h:k < l.length,l[k]≠nm from fun h=>by rw [hmn];exact he)
     have HDD:=HD
     clear he hmn
     go_wp2_with fail
     refine wp_region_noPanic ?_
     refine wp_region_D (fun W=>True) 12 (by kernel_rfl) (w0:=w) HDD.out (fun V hV=>trivial) (fun V hV hHeld=>?_)
     have BV:=Lib.hid (hV.below w.heap.size)
     have HRV:=Lib.hid (rdNms_good.up (rdNms_good.below HR.out BV.out) BV.out.size)
     have XA:=Lib.hid (rdRow_take (k:=k) HRV.out hk)
     have XB:=Lib.hid (show rdNms V (lt_ V.heap.size) (l.drop k) [.slice (if c=k then some ad else some (ad.add k)) (l.length - k) (c - k)] by have q:=rdRow_drop (k:=k) HRV.out hk;rw [Nat.mul_one] at q;exact q)
     have hkc:k≤c:=Nat.le_trans hk hnc
     have HWI:=Lib.hid (show wi=l.take k++[nm]++l.drop k from XM.out.trans (put_new TWS.out.1 TWS.out.2 NE.out))
     have hl1:(l.take k).length≤200:=by rw [List.length_take];have:=HM.out;omega
     have hl2:(l.drop k).length≤200:=by rw [List.length_drop];have:=HM.out;omega
     generalize l.take k=L1 at *
     generalize l.drop k=L2 at *
     have EY:=Lib.hid (show rdNm V (lt_ V.heap.size) nm (#[.string nm]:Array Value).toList from rfl)
     have hm1:([]:List ByteArray).length+L1.length≤maxLen:=by simp only [List.length_nil];unfold maxLen;omega
     have hm2:(([]:List ByteArray).length+L1.length)*16≤140737488355328:=by simp only [List.length_nil];omega
     have hm3:L1.length+[nm].length≤maxLen:=by simp only [List.length_singleton];unfold maxLen;omega
     have hm4:(L1.length+[nm].length)*16≤140737488355328:=by simp only [List.length_singleton];omega
     have hm5:(L1++[nm]).length+L2.length≤maxLen:=by simp only [List.length_append,List.length_singleton];unfold maxLen;omega
     have hm6:((L1++[nm]).length+L2.length)*16≤140737488355328:=by simp only [List.length_append,List.length_singleton];omega
     clear hV hl1 hl2
     have AA:=Lib.hid (mgA (ty:=9) rdNm_good XA.out)
     have AB:=Lib.hid (mgB (ty:=9) rdNm_good #[.string nm] 9 XA.out)
     have AC:=Lib.hid (mgC (ty:=9) rdNm_good #[.string nm] 9 XA.out)
     have BC:=Lib.hid (show Below V.heap.size V (V.alloc (Obj.cells #[.string nm] 9)) from (Below.refl _ V).alloc (Nat.le_refl _) _)
     refine wpAnyL_take (i:=1) (v:=?_) [11,7,4,3] rfl (by kernel_rfl) (by kernel_rfl) (by kernel_rfl) (fun _ _ _ h=>h) (by kernel_rfl) (by kernel_rfl) (by kernel_rfl) (Or.inl ⟨by rfl,?_⟩) (by assumption) ?_
     rotate_left
     ·intro w hSw
      try dsimp only at hSw
      go_simp
      first|done|with_reducible rfl
     try simp only [Act.put,List.setIfInBounds_toArray,List.set_cons_zero,List.set_cons_succ]
     refine wpAnyL_take (i:=2) (v:=?_) [11,7,4,3] rfl (by kernel_rfl) (by kernel_rfl) (by kernel_rfl) (fun _ _ _ h=>h) (by kernel_rfl) (by kernel_rfl) (by kernel_rfl) (Or.inl ⟨by rfl,?_⟩) (by assumption) ?_
     rotate_left
     ·intro w hSw
      try dsimp only at hSw
      go_simp
      first|done|with_reducible rfl
     try simp only [Act.put,List.setIfInBounds_toArray,List.set_cons_zero,List.set_cons_succ]
     refine wpAnyL_take (i:=3) (v:=?_) [11,7,4] rfl (by kernel_rfl) (by kernel_rfl) (by kernel_rfl) (fun _ _ _ h=>h) (by kernel_rfl) (by kernel_rfl) (by kernel_rfl) (Or.inl ⟨by rfl,?_⟩) (by assumption) ?_
     rotate_left
     ·intro w hSw
      try dsimp only at hSw
      go_simp
      first|done|with_reducible rfl
     try simp only [Act.put,List.setIfInBounds_toArray,List.set_cons_zero,List.set_cons_succ]
     refine wpAnyL_take (i:=5) (v:=?_) [11,7,6] rfl (by kernel_rfl) (by kernel_rfl) (by kernel_rfl) (fun _ _ _ h=>h) (by kernel_rfl) (by kernel_rfl) (by kernel_rfl) (Or.inl ⟨by rfl,?_⟩) (by assumption) ?_
     rotate_left
     ·intro w hSw
      try dsimp only at hSw
      go_simp
      first|done|with_reducible rfl
     try simp only [Act.put,List.setIfInBounds_toArray,List.set_cons_zero,List.set_cons_succ]
     refine wpAnyL_take (i:=8) (v:=?_) [11,10] rfl (by kernel_rfl) (by kernel_rfl) (by kernel_rfl) (fun _ _ _ h=>h) (by kernel_rfl) (by kernel_rfl) (by kernel_rfl) (Or.inl ⟨by rfl,?_⟩) (by assumption) ?_
     rotate_left
     ·intro w hSw
      try dsimp only at hSw
      go_simp
      first|done|with_reducible rfl
     try simp only [Act.put,List.setIfInBounds_toArray,List.set_cons_zero,List.set_cons_succ]
     refine wpAnyL_take (i:=9) (v:=?_) [11,10] rfl (by kernel_rfl) (by kernel_rfl) (by kernel_rfl) (fun _ _ _ h=>h) (by kernel_rfl) (by kernel_rfl) (by kernel_rfl) (Or.inl ⟨by rfl,?_⟩) (by assumption) ?_
     rotate_left
     ·intro w hSw
      try dsimp only at hSw
      go_simp
      first|done|with_reducible rfl
     try simp only [Act.put,List.setIfInBounds_toArray,List.set_cons_zero,List.set_cons_succ]
     refine wpAnyL_take (i:=10) (v:=?_) [11] rfl (by kernel_rfl) (by kernel_rfl) (by kernel_rfl) (fun _ _ _ h=>h) (by kernel_rfl) (by kernel_rfl) (by kernel_rfl) (Or.inl ⟨by rfl,?_⟩) (by assumption) ?_
     rotate_left
     ·intro w hSw
      try dsimp only at hSw
      go_simp
      first|done|with_reducible rfl
     try simp only [Act.put,List.setIfInBounds_toArray,List.set_cons_zero,List.set_cons_succ]
     refine wpAnyL_two (i:=0) (k:=6) (by kernel_rfl) rfl rfl (fun K hK=>?_) (fun K hK=>?_)
     ·go_simp
      refine hK.out _ _ trivial (fun hHeld=>?_)
      clear hK K
      try simp only [Act.put,List.setIfInBounds_toArray,List.set_cons_zero,List.set_cons_succ]
      refine wpAnyL_two (i:=4) (k:=6) (by kernel_rfl) rfl rfl (fun K hK=>?_) (fun K hK=>?_)
      ·refine step_growN _ (by rfl) _ _ 45 45 (by rfl) rdNm_good (by decide) (fun _=>True) V.heap.size 9 9 fi _ 16 Tryz.underlying45 Tryz.underlying45 hi hz0 hz1 hz2 rfl _ _ (by rfl) AA.out.g _ _ _ _ _ (by rfl) AA.out.x AA.out.s hm1 hm2 AA.out.bs ?_
       intro v3 w3 hG3 hg3 hm3'
       have B3:=Lib.hid (mg_next (v3:=v3) AA.out hg3).2
       have Y2:=Lib.hid (mg2A rdNm_good #[.string nm] 9 EY.out AA.out hG3 hg3)
       obtain ⟨A3,c3',rfl,_,_⟩:=hG3.own
       clear hG3 hg3 hm3'
       refine hK.out _ _ trivial (fun hHeld=>?_)
       clear hK K
       try simp only [Act.put,List.setIfInBounds_toArray,List.set_cons_zero,List.set_cons_succ]
       refine wpAnyL_one (i:=6) (by kernel_rfl) rfl (fun K hK=>?_)
       go_simp
       refine hK.out _ _ trivial (fun hHeld=>?_)
       clear hK K
       try simp only [Act.put,List.setIfInBounds_toArray,List.set_cons_zero,List.set_cons_succ]
       refine wpAnyL_one (i:=7) (by kernel_rfl) rfl (fun K hK=>?_)
       refine step_growN _ (by rfl) _ _ 45 45 (by rfl) rdNm_good (by decide) (fun _=>True) V.heap.size 9 9 fi _ 16 Tryz.underlying45 Tryz.underlying45 hi hz0 hz1 hz2 rfl _ _ (by rfl) Y2.out.g _ _ _ _ _ (by rfl) Y2.out.x Y2.out.s hm3 hm4 Y2.out.bs ?_
       intro v5 w5 hG5 hg5 _
       have Y3:=Lib.hid (mg_3 rdNm_good Y2.out XB.out hG5 hg5)
       obtain ⟨A5,c5,rfl,_,_⟩:=hG5.own
       clear hG5 hg5
       refine hK.out _ _ trivial (fun hHeld=>?_)
       clear hK K
       try simp only [Act.put,List.setIfInBounds_toArray,List.set_cons_zero,List.set_cons_succ]
       refine wpAnyL_one (i:=11) (by kernel_rfl) rfl (fun K hK=>?_)
       refine step_growN _ (by rfl) _ _ 45 45 (by rfl) rdNm_good (by decide) (fun _=>True) V.heap.size 9 9 fi _ 16 Tryz.underlying45 Tryz.underlying45 hi hz0 hz1 hz2 rfl _ _ (by rfl) Y3.out.g _ _ _ _ _ (by rfl) Y3.out.x Y3.out.s hm5 hm6 Y3.out.bs ?_
       intro v7 w7 hG7 hg7 _
       have EN:=Lib.hid (mg_end rdNm_good Y3.out hG7 hg7)
       obtain ⟨A7,c7,hv7,_,_⟩:=hG7.own
       rw [←HWI.out] at EN hv7
       subst hv7
       clear hG7 hg7
       refine hK.out _ _ trivial (fun hHeld=>?_)
       clear hK K
       try simp only [Act.put,List.setIfInBounds_toArray,List.set_cons_zero,List.set_cons_succ]
       refine wpAnyL_last (by kernel_rfl) rfl (by kernel_rfl) (fun K hK=>?_)
       go_simp
       refine hK.out _ _ ?_
       clear hK K
       refine NoPanic.normal ?_
       go_wp2_with fail
       all_goals
        go_ret
        exact ⟨⟨A7,_,c7,rfl,EN.out.2⟩,EN.out.1.mono BV.out.size|>fun h=>BV.out.trans h⟩
      ·go_simp
       refine hK.out _ _ trivial (fun hHeld=>?_)
       clear hK K
       try simp only [Act.put,List.setIfInBounds_toArray,List.set_cons_zero,List.set_cons_succ]
       refine wpAnyL_one (i:=4) (by kernel_rfl) rfl (fun K hK=>?_)
       refine step_growN _ (by rfl) _ _ 45 45 (by rfl) rdNm_good (by decide) (fun _=>True) V.heap.size 9 9 fi _ 16 Tryz.underlying45 Tryz.underlying45 hi hz0 hz1 hz2 rfl _ _ (by rfl) AB.out.g _ _ _ _ _ (by rfl) AB.out.x AB.out.s hm1 hm2 AB.out.bs ?_
       intro v3 w3 hG3 hg3 hm3'
       have B3:=Lib.hid (mg_next (v3:=v3) AB.out hg3).2
       have Y2:=Lib.hid (mg2B rdNm_good EY.out AB.out hG3 hg3 hm3')
       obtain ⟨A3,c3',rfl,_,_⟩:=hG3.own
       clear hG3 hg3 hm3'
       refine hK.out _ _ trivial (fun hHeld=>?_)
       clear hK K
       try simp only [Act.put,List.setIfInBounds_toArray,List.set_cons_zero,List.set_cons_succ]
       refine wpAnyL_one (i:=7) (by kernel_rfl) rfl (fun K hK=>?_)
       refine step_growN _ (by rfl) _ _ 45 45 (by rfl) rdNm_good (by decide) (fun _=>True) V.heap.size 9 9 fi _ 16 Tryz.underlying45 Tryz.underlying45 hi hz0 hz1 hz2 rfl _ _ (by rfl) Y2.out.g _ _ _ _ _ (by rfl) Y2.out.x Y2.out.s hm3 hm4 Y2.out.bs ?_
       intro v5 w5 hG5 hg5 _
       have Y3:=Lib.hid (mg_3 rdNm_good Y2.out XB.out hG5 hg5)
       obtain ⟨A5,c5,rfl,_,_⟩:=hG5.own
       clear hG5 hg5
       refine hK.out _ _ trivial (fun hHeld=>?_)
       clear hK K
       try simp only [Act.put,List.setIfInBounds_toArray,List.set_cons_zero,List.set_cons_succ]
       refine wpAnyL_one (i:=11) (by kernel_rfl) rfl (fun K hK=>?_)
       refine step_growN _ (by rfl) _ _ 45 45 (by rfl) rdNm_good (by decide) (fun _=>True) V.heap.size 9 9 fi _ 16 Tryz.underlying45 Tryz.underlying45 hi hz0 hz1 hz2 rfl _ _ (by rfl) Y3.out.g _ _ _ _ _ (by rfl) Y3.out.x Y3.out.s hm5 hm6 Y3.out.bs ?_
       intro v7 w7 hG7 hg7 _
       have EN:=Lib.hid (mg_end rdNm_good Y3.out hG7 hg7)
       obtain ⟨A7,c7,hv7,_,_⟩:=hG7.own
       rw [←HWI.out] at EN hv7
       subst hv7
       clear hG7 hg7
       refine hK.out _ _ trivial (fun hHeld=>?_)
       clear hK K
       try simp only [Act.put,List.setIfInBounds_toArray,List.set_cons_zero,List.set_cons_succ]
       refine wpAnyL_last (by kernel_rfl) rfl (by kernel_rfl) (fun K hK=>?_)
       go_simp
       refine hK.out _ _ ?_
       clear hK K
       refine NoPanic.normal ?_
       go_wp2_with fail
       all_goals
        go_ret
        exact ⟨⟨A7,_,c7,rfl,EN.out.2⟩,EN.out.1.mono BV.out.size|>fun h=>BV.out.trans h⟩
     ·go_simp
      refine hK.out _ _ trivial (fun hHeld=>?_)
      clear hK K
      try simp only [Act.put,List.setIfInBounds_toArray,List.set_cons_zero,List.set_cons_succ]
      refine wpAnyL_one (i:=0) (by kernel_rfl) rfl (fun K hK=>?_)
      go_simp
      refine hK.out _ _ trivial (fun hHeld=>?_)
      clear hK K
      try simp only [Act.put,List.setIfInBounds_toArray,List.set_cons_zero,List.set_cons_succ]
      refine wpAnyL_one (i:=4) (by kernel_rfl) rfl (fun K hK=>?_)
      refine step_growN _ (by rfl) _ _ 45 45 (by rfl) rdNm_good (by decide) (fun _=>True) V.heap.size 9 9 fi _ 16 Tryz.underlying45 Tryz.underlying45 hi hz0 hz1 hz2 rfl _ _ (by rfl) AC.out.g _ _ _ _ _ (by rfl) AC.out.x AC.out.s hm1 hm2 AC.out.bs ?_
      intro v3 w3 hG3 hg3 hm3'
      have B3:=Lib.hid (mg_next (v3:=v3) AC.out hg3).2
      have Y2:=Lib.hid (mg2C rdNm_good EY.out AC.out hG3 hg3 hm3')
      obtain ⟨A3,c3',rfl,_,_⟩:=hG3.own
      clear hG3 hg3 hm3'
      refine hK.out _ _ trivial (fun hHeld=>?_)
      clear hK K
      try simp only [Act.put,List.setIfInBounds_toArray,List.set_cons_zero,List.set_cons_succ]
      refine wpAnyL_one (i:=7) (by kernel_rfl) rfl (fun K hK=>?_)
      refine step_growN _ (by rfl) _ _ 45 45 (by rfl) rdNm_good (by decide) (fun _=>True) V.heap.size 9 9 fi _ 16 Tryz.underlying45 Tryz.underlying45 hi hz0 hz1 hz2 rfl _ _ (by rfl) Y2.out.g _ _ _ _ _ (by rfl) Y2.out.x Y2.out.s hm3 hm4 Y2.out.bs ?_
      intro v5 w5 hG5 hg5 _
      have Y3:=Lib.hid (mg_3 rdNm_good Y2.out XB.out hG5 hg5)
      obtain ⟨A5,c5,rfl,_,_⟩:=hG5.own
      clear hG5 hg5
      refine hK.out _ _ trivial (fun hHeld=>?_)
      clear hK K
      try simp only [Act.put,List.setIfInBounds_toArray,List.set_cons_zero,List.set_cons_succ]
      refine wpAnyL_one (i:=11) (by kernel_rfl) rfl (fun K hK=>?_)
      refine step_growN _ (by rfl) _ _ 45 45 (by rfl) rdNm_good (by decide) (fun _=>True) V.heap.size 9 9 fi _ 16 Tryz.underlying45 Tryz.underlying45 hi hz0 hz1 hz2 rfl _ _ (by rfl) Y3.out.g _ _ _ _ _ (by rfl) Y3.out.x Y3.out.s hm5 hm6 Y3.out.bs ?_
      intro v7 w7 hG7 hg7 _
      have EN:=Lib.hid (mg_end rdNm_good Y3.out hG7 hg7)
      obtain ⟨A7,c7,hv7,_,_⟩:=hG7.own
      rw [←HWI.out] at EN hv7
      subst hv7
      clear hG7 hg7
      refine hK.out _ _ trivial (fun hHeld=>?_)
      clear hK K
      try simp only [Act.put,List.setIfInBounds_toArray,List.set_cons_zero,List.set_cons_succ]
      refine wpAnyL_last (by kernel_rfl) rfl (by kernel_rfl) (fun K hK=>?_)
      go_simp
      refine hK.out _ _ ?_
      clear hK K
      refine NoPanic.normal ?_
      go_wp2_with fail
      all_goals
       go_ret
       exact ⟨⟨A7,_,c7,rfl,EN.out.2⟩,EN.out.1.mono BV.out.size|>fun h=>BV.out.trans h⟩
   ·go_wp2
    go_roundw
    case rel=>exact ⟨k+1,by omega,by go_num,ST.out (by trivial),HD.out⟩
    case measure=>simp [intOf];omega
  ·have i0:¬(k:Int) < (l.length:Int):=by omega
   have HDD:=HD
   rcases A with _|ad
   ·have hm0:l=[]:=by
     by_cases hz:0 < l.length
     ·obtain ⟨ad,e,-⟩:=HAT.out 0 hz
      cases e
     ·exact List.eq_nil_of_length_eq_zero (by omega)
    subst hm0
    obtain rfl:k=0:=by simpa using hk
    go_wp2_with fail
    refine wp_region_noPanic ?_
    refine wp_region_D (fun W=>True) 12 (by kernel_rfl) (w0:=w) HDD.out (fun V hV=>trivial) (fun V hV hHeld=>?_)
    have BV:=Lib.hid (hV.below w.heap.size)
    have HRV:=Lib.hid (rdNms_good.up (rdNms_good.below HR.out BV.out) BV.out.size)
    obtain ⟨L1,hL1⟩:∃L:List ByteArray,L=[]:=⟨_,rfl⟩
    obtain ⟨L2,hL2⟩:∃L:List ByteArray,L=[]:=⟨_,rfl⟩
    have XA:=Lib.hid (show rdNms V (lt_ V.heap.size) L1 [.slice none 0 c] by rw [hL1];exact HRV.out)
    have XB:=Lib.hid (show rdNms V (lt_ V.heap.size) L2 [.slice none 0 c] by rw [hL2];exact HRV.out)
    have HWI:=Lib.hid (show wi=L1++[nm]++L2 by rw [XM.out,hL1,hL2];rfl)
    have hl1:L1.length≤200:=by rw [hL1];decide
    have hl2:L2.length≤200:=by rw [hL2];decide
    have EY:=Lib.hid (show rdNm V (lt_ V.heap.size) nm (#[.string nm]:Array Value).toList from rfl)
    have hm1:([]:List ByteArray).length+L1.length≤maxLen:=by simp only [List.length_nil];unfold maxLen;omega
    have hm2:(([]:List ByteArray).length+L1.length)*16≤140737488355328:=by simp only [List.length_nil];omega
    have hm3:L1.length+[nm].length≤maxLen:=by simp only [List.length_singleton];unfold maxLen;omega
    have hm4:(L1.length+[nm].length)*16≤140737488355328:=by simp only [List.length_singleton];omega
    have hm5:(L1++[nm]).length+L2.length≤maxLen:=by simp only [List.length_append,List.length_singleton];unfold maxLen;omega
    have hm6:((L1++[nm]).length+L2.length)*16≤140737488355328:=by simp only [List.length_append,List.length_singleton];omega
    clear hV hl1 hl2 hL1 hL2
    have AA:=Lib.hid (mgA (ty:=9) rdNm_good XA.out)
    have AB:=Lib.hid (mgB (ty:=9) rdNm_good #[.string nm] 9 XA.out)
    have AC:=Lib.hid (mgC (ty:=9) rdNm_good #[.string nm] 9 XA.out)
    have BC:=Lib.hid (show Below V.heap.size V (V.alloc (Obj.cells #[.string nm] 9)) from (Below.refl _ V).alloc (Nat.le_refl _) _)
    refine wpAnyL_take (i:=1) (v:=?_) [11,7,4,3] rfl (by kernel_rfl) (by kernel_rfl) (by kernel_rfl) (fun _ _ _ h=>h) (by kernel_rfl) (by kernel_rfl) (by kernel_rfl) (Or.inl ⟨by rfl,?_⟩) (by assumption) ?_
    rotate_left
    ·intro w hSw
     try dsimp only at hSw
     go_simp
     first|done|with_reducible rfl
    try simp only [Act.put,List.setIfInBounds_toArray,List.set_cons_zero,List.set_cons_succ]
    refine wpAnyL_take (i:=2) (v:=?_) [11,7,4,3] rfl (by kernel_rfl) (by kernel_rfl) (by kernel_rfl) (fun _ _ _ h=>h) (by kernel_rfl) (by kernel_rfl) (by kernel_rfl) (Or.inl ⟨by rfl,?_⟩) (by assumption) ?_
    rotate_left
    ·intro w hSw
     try dsimp only at hSw
     go_simp
     first|done|with_reducible rfl
    try simp only [Act.put,List.setIfInBounds_toArray,List.set_cons_zero,List.set_cons_succ]
    refine wpAnyL_take (i:=3) (v:=?_) [11,7,4] rfl (by kernel_rfl) (by kernel_rfl) (by kernel_rfl) (fun _ _ _ h=>h) (by kernel_rfl) (by kernel_rfl) (by kernel_rfl) (Or.inl ⟨by rfl,?_⟩) (by assumption) ?_
    rotate_left
    ·intro w hSw
     try dsimp only at hSw
     go_simp
     first|done|with_reducible rfl
    try simp only [Act.put,List.setIfInBounds_toArray,List.set_cons_zero,List.set_cons_succ]
    refine wpAnyL_take (i:=5) (v:=?_) [11,7,6] rfl (by kernel_rfl) (by kernel_rfl) (by kernel_rfl) (fun _ _ _ h=>h) (by kernel_rfl) (by kernel_rfl) (by kernel_rfl) (Or.inl ⟨by rfl,?_⟩) (by assumption) ?_
    rotate_left
    ·intro w hSw
     try dsimp only at hSw
     go_simp
     first|done|with_reducible rfl
    try simp only [Act.put,List.setIfInBounds_toArray,List.set_cons_zero,List.set_cons_succ]
    refine wpAnyL_take (i:=8) (v:=?_) [11,10] rfl (by kernel_rfl) (by kernel_rfl) (by kernel_rfl) (fun _ _ _ h=>h) (by kernel_rfl) (by kernel_rfl) (by kernel_rfl) (Or.inl ⟨by rfl,?_⟩) (by assumption) ?_
    rotate_left
    ·intro w hSw
     try dsimp only at hSw
     go_simp
     first|done|with_reducible rfl
    try simp only [Act.put,List.setIfInBounds_toArray,List.set_cons_zero,List.set_cons_succ]
    refine wpAnyL_take (i:=9) (v:=?_) [11,10] rfl (by kernel_rfl) (by kernel_rfl) (by kernel_rfl) (fun _ _ _ h=>h) (by kernel_rfl) (by kernel_rfl) (by kernel_rfl) (Or.inl ⟨by rfl,?_⟩) (by assumption) ?_
    rotate_left
    ·intro w hSw
     try dsimp only at hSw
     go_simp
     first|done|with_reducible rfl
    try simp only [Act.put,List.setIfInBounds_toArray,List.set_cons_zero,List.set_cons_succ]
    refine wpAnyL_take (i:=10) (v:=?_) [11] rfl (by kernel_rfl) (by kernel_rfl) (by kernel_rfl) (fun _ _ _ h=>h) (by kernel_rfl) (by kernel_rfl) (by kernel_rfl) (Or.inl ⟨by rfl,?_⟩) (by assumption) ?_
    rotate_left
    ·intro w hSw
     try dsimp only at hSw
     go_simp
     first|done|with_reducible rfl
    try simp only [Act.put,List.setIfInBounds_toArray,List.set_cons_zero,List.set_cons_succ]
    refine wpAnyL_two (i:=0) (k:=6) (by kernel_rfl) rfl rfl (fun K hK=>?_) (fun K hK=>?_)
    ·go_simp
     refine hK.out _ _ trivial (fun hHeld=>?_)
     clear hK K
     try simp only [Act.put,List.setIfInBounds_toArray,List.set_cons_zero,List.set_cons_succ]
     refine wpAnyL_two (i:=4) (k:=6) (by kernel_rfl) rfl rfl (fun K hK=>?_) (fun K hK=>?_)
     ·refine step_growN _ (by rfl) _ _ 45 45 (by rfl) rdNm_good (by decide) (fun _=>True) V.heap.size 9 9 fi _ 16 Tryz.underlying45 Tryz.underlying45 hi hz0 hz1 hz2 rfl _ _ (by rfl) AA.out.g _ _ _ _ _ (by rfl) AA.out.x AA.out.s hm1 hm2 AA.out.bs ?_
      intro v3 w3 hG3 hg3 hm3'
      have B3:=Lib.hid (mg_next (v3:=v3) AA.out hg3).2
      have Y2:=Lib.hid (mg2A rdNm_good #[.string nm] 9 EY.out AA.out hG3 hg3)
      obtain ⟨A3,c3',rfl,_,_⟩:=hG3.own
      clear hG3 hg3 hm3'
      refine hK.out _ _ trivial (fun hHeld=>?_)
      clear hK K
      try simp only [Act.put,List.setIfInBounds_toArray,List.set_cons_zero,List.set_cons_succ]
      refine wpAnyL_one (i:=6) (by kernel_rfl) rfl (fun K hK=>?_)
      go_simp
      refine hK.out _ _ trivial (fun hHeld=>?_)
      clear hK K
      try simp only [Act.put,List.setIfInBounds_toArray,List.set_cons_zero,List.set_cons_succ]
      refine wpAnyL_one (i:=7) (by kernel_rfl) rfl (fun K hK=>?_)
      refine step_growN _ (by rfl) _ _ 45 45 (by rfl) rdNm_good (by decide) (fun _=>True) V.heap.size 9 9 fi _ 16 Tryz.underlying45 Tryz.underlying45 hi hz0 hz1 hz2 rfl _ _ (by rfl) Y2.out.g _ _ _ _ _ (by rfl) Y2.out.x Y2.out.s hm3 hm4 Y2.out.bs ?_
      intro v5 w5 hG5 hg5 _
      have Y3:=Lib.hid (mg_3 rdNm_good Y2.out XB.out hG5 hg5)
      obtain ⟨A5,c5,rfl,_,_⟩:=hG5.own
      clear hG5 hg5
      refine hK.out _ _ trivial (fun hHeld=>?_)
      clear hK K
      try simp only [Act.put,List.setIfInBounds_toArray,List.set_cons_zero,List.set_cons_succ]
      refine wpAnyL_one (i:=11) (by kernel_rfl) rfl (fun K hK=>?_)
      refine step_growN _ (by rfl) _ _ 45 45 (by rfl) rdNm_good (by decide) (fun _=>True) V.heap.size 9 9 fi _ 16 Tryz.underlying45 Tryz.underlying45 hi hz0 hz1 hz2 rfl _ _ (by rfl) Y3.out.g _ _ _ _ _ (by rfl) Y3.out.x Y3.out.s hm5 hm6 Y3.out.bs ?_
      intro v7 w7 hG7 hg7 _
      have EN:=Lib.hid (mg_end rdNm_good Y3.out hG7 hg7)
      obtain ⟨A7,c7,hv7,_,_⟩:=hG7.own
      rw [←HWI.out] at EN hv7
      subst hv7
      clear hG7 hg7
      refine hK.out _ _ trivial (fun hHeld=>?_)
      clear hK K
      try simp only [Act.put,List.setIfInBounds_toArray,List.set_cons_zero,List.set_cons_succ]
      refine wpAnyL_last (by kernel_rfl) rfl (by kernel_rfl) (fun K hK=>?_)
      go_simp
      refine hK.out _ _ ?_
      clear hK K
      refine NoPanic.normal ?_
      go_wp2_with fail
      all_goals
       go_ret
       exact ⟨⟨A7,_,c7,rfl,EN.out.2⟩,EN.out.1.mono BV.out.size|>fun h=>BV.out.trans h⟩
     ·go_simp
      refine hK.out _ _ trivial (fun hHeld=>?_)
      clear hK K
      try simp only [Act.put,List.setIfInBounds_toArray,List.set_cons_zero,List.set_cons_succ]
      refine wpAnyL_one (i:=4) (by kernel_rfl) rfl (fun K hK=>?_)
      refine step_growN _ (by rfl) _ _ 45 45 (by rfl) rdNm_good (by decide) (fun _=>True) V.heap.size 9 9 fi _ 16 Tryz.underlying45 Tryz.underlying45 hi hz0 hz1 hz2 rfl _ _ (by rfl) AB.out.g _ _ _ _ _ (by rfl) AB.out.x AB.out.s hm1 hm2 AB.out.bs ?_
      intro v3 w3 hG3 hg3 hm3'
      have B3:=Lib.hid (mg_next (v3:=v3) AB.out hg3).2
      have Y2:=Lib.hid (mg2B rdNm_good EY.out AB.out hG3 hg3 hm3')
      obtain ⟨A3,c3',rfl,_,_⟩:=hG3.own
      clear hG3 hg3 hm3'
      refine hK.out _ _ trivial (fun hHeld=>?_)
      clear hK K
      try simp only [Act.put,List.setIfInBounds_toArray,List.set_cons_zero,List.set_cons_succ]
      refine wpAnyL_one (i:=7) (by kernel_rfl) rfl (fun K hK=>?_)
      refine step_growN _ (by rfl) _ _ 45 45 (by rfl) rdNm_good (by decide) (fun _=>True) V.heap.size 9 9 fi _ 16 Tryz.underlying45 Tryz.underlying45 hi hz0 hz1 hz2 rfl _ _ (by rfl) Y2.out.g _ _ _ _ _ (by rfl) Y2.out.x Y2.out.s hm3 hm4 Y2.out.bs ?_
      intro v5 w5 hG5 hg5 _
      have Y3:=Lib.hid (mg_3 rdNm_good Y2.out XB.out hG5 hg5)
      obtain ⟨A5,c5,rfl,_,_⟩:=hG5.own
      clear hG5 hg5
      refine hK.out _ _ trivial (fun hHeld=>?_)
      clear hK K
      try simp only [Act.put,List.setIfInBounds_toArray,List.set_cons_zero,List.set_cons_succ]
      refine wpAnyL_one (i:=11) (by kernel_rfl) rfl (fun K hK=>?_)
      refine step_growN _ (by rfl) _ _ 45 45 (by rfl) rdNm_good (by decide) (fun _=>True) V.heap.size 9 9 fi _ 16 Tryz.underlying45 Tryz.underlying45 hi hz0 hz1 hz2 rfl _ _ (by rfl) Y3.out.g _ _ _ _ _ (by rfl) Y3.out.x Y3.out.s hm5 hm6 Y3.out.bs ?_
      intro v7 w7 hG7 hg7 _
      have EN:=Lib.hid (mg_end rdNm_good Y3.out hG7 hg7)
      obtain ⟨A7,c7,hv7,_,_⟩:=hG7.own
      rw [←HWI.out] at EN hv7
      subst hv7
      clear hG7 hg7
      refine hK.out _ _ trivial (fun hHeld=>?_)
      clear hK K
      try simp only [Act.put,List.setIfInBounds_toArray,List.set_cons_zero,List.set_cons_succ]
      refine wpAnyL_last (by kernel_rfl) rfl (by kernel_rfl) (fun K hK=>?_)
      go_simp
      refine hK.out _ _ ?_
      clear hK K
      refine NoPanic.normal ?_
      go_wp2_with fail
      all_goals
       go_ret
       exact ⟨⟨A7,_,c7,rfl,EN.out.2⟩,EN.out.1.mono BV.out.size|>fun h=>BV.out.trans h⟩
    ·go_simp
     refine hK.out _ _ trivial (fun hHeld=>?_)
     clear hK K
     try simp only [Act.put,List.setIfInBounds_toArray,List.set_cons_zero,List.set_cons_succ]
     refine wpAnyL_one (i:=0) (by kernel_rfl) rfl (fun K hK=>?_)
     go_simp
     refine hK.out _ _ trivial (fun hHeld=>?_)
     clear hK K
     try simp only [Act.put,List.setIfInBounds_toArray,List.set_cons_zero,List.set_cons_succ]
     refine wpAnyL_one (i:=4) (by kernel_rfl) rfl (fun K hK=>?_)
     refine step_growN _ (by rfl) _ _ 45 45 (by rfl) rdNm_good (by decide) (fun _=>True) V.heap.size 9 9 fi _ 16 Tryz.underlying45 Tryz.underlying45 hi hz0 hz1 hz2 rfl _ _ (by rfl) AC.out.g _ _ _ _ _ (by rfl) AC.out.x AC.out.s hm1 hm2 AC.out.bs ?_
     intro v3 w3 hG3 hg3 hm3'
     have B3:=Lib.hid (mg_next (v3:=v3) AC.out hg3).2
     have Y2:=Lib.hid (mg2C rdNm_good EY.out AC.out hG3 hg3 hm3')
     obtain ⟨A3,c3',rfl,_,_⟩:=hG3.own
     clear hG3 hg3 hm3'
     refine hK.out _ _ trivial (fun hHeld=>?_)
     clear hK K
     try simp only [Act.put,List.setIfInBounds_toArray,List.set_cons_zero,List.set_cons_succ]
     refine wpAnyL_one (i:=7) (by kernel_rfl) rfl (fun K hK=>?_)
     refine step_growN _ (by rfl) _ _ 45 45 (by rfl) rdNm_good (by decide) (fun _=>True) V.heap.size 9 9 fi _ 16 Tryz.underlying45 Tryz.underlying45 hi hz0 hz1 hz2 rfl _ _ (by rfl) Y2.out.g _ _ _ _ _ (by rfl) Y2.out.x Y2.out.s hm3 hm4 Y2.out.bs ?_
     intro v5 w5 hG5 hg5 _
     have Y3:=Lib.hid (mg_3 rdNm_good Y2.out XB.out hG5 hg5)
     obtain ⟨A5,c5,rfl,_,_⟩:=hG5.own
     clear hG5 hg5
     refine hK.out _ _ trivial (fun hHeld=>?_)
     clear hK K
     try simp only [Act.put,List.setIfInBounds_toArray,List.set_cons_zero,List.set_cons_succ]
     refine wpAnyL_one (i:=11) (by kernel_rfl) rfl (fun K hK=>?_)
     refine step_growN _ (by rfl) _ _ 45 45 (by rfl) rdNm_good (by decide) (fun _=>True) V.heap.size 9 9 fi _ 16 Tryz.underlying45 Tryz.underlying45 hi hz0 hz1 hz2 rfl _ _ (by rfl) Y3.out.g _ _ _ _ _ (by rfl) Y3.out.x Y3.out.s hm5 hm6 Y3.out.bs ?_
     intro v7 w7 hG7 hg7 _
     have EN:=Lib.hid (mg_end rdNm_good Y3.out hG7 hg7)
     obtain ⟨A7,c7,hv7,_,_⟩:=hG7.own
     rw [←HWI.out] at EN hv7
     subst hv7
     clear hG7 hg7
     refine hK.out _ _ trivial (fun hHeld=>?_)
     clear hK K
     try simp only [Act.put,List.setIfInBounds_toArray,List.set_cons_zero,List.set_cons_succ]
     refine wpAnyL_last (by kernel_rfl) rfl (by kernel_rfl) (fun K hK=>?_)
     go_simp
     refine hK.out _ _ ?_
     clear hK K
     refine NoPanic.normal ?_
     go_wp2_with fail
     all_goals
      go_ret
      exact ⟨⟨A7,_,c7,rfl,EN.out.2⟩,EN.out.1.mono BV.out.size|>fun h=>BV.out.trans h⟩
   ·have TWS:=Lib.hid (tw_stop hk HT.out (fun h=>absurd h hlt))
    have NE:=Lib.hid (show ∀h:k < l.length,l[k]≠nm from fun h=>absurd h hlt)
    go_wp2_with fail
    refine wp_region_noPanic ?_
    refine wp_region_D (fun W=>True) 12 (by kernel_rfl) (w0:=w) HDD.out (fun V hV=>trivial) (fun V hV hHeld=>?_)
    have BV:=Lib.hid (hV.below w.heap.size)
    have HRV:=Lib.hid (rdNms_good.up (rdNms_good.below HR.out BV.out) BV.out.size)
    have XA:=Lib.hid (rdRow_take (k:=k) HRV.out hk)
    have XB:=Lib.hid (show rdNms V (lt_ V.heap.size) (l.drop k) [.slice (if c=k then some ad else some (ad.add k)) (l.length - k) (c - k)] by have q:=rdRow_drop (k:=k) HRV.out hk;rw [Nat.mul_one] at q;exact q)
    have hkc:k≤c:=Nat.le_trans hk hnc
    have HWI:=Lib.hid (show wi=l.take k++[nm]++l.drop k from XM.out.trans (put_new TWS.out.1 TWS.out.2 NE.out))
    have hl1:(l.take k).length≤200:=by rw [List.length_take];have:=HM.out;omega
    have hl2:(l.drop k).length≤200:=by rw [List.length_drop];have:=HM.out;omega
    generalize l.take k=L1 at *
    generalize l.drop k=L2 at *
    have EY:=Lib.hid (show rdNm V (lt_ V.heap.size) nm (#[.string nm]:Array Value).toList from rfl)
    have hm1:([]:List ByteArray).length+L1.length≤maxLen:=by simp only [List.length_nil];unfold maxLen;omega
    have hm2:(([]:List ByteArray).length+L1.length)*16≤140737488355328:=by simp only [List.length_nil];omega
    have hm3:L1.length+[nm].length≤maxLen:=by simp only [List.length_singleton];unfold maxLen;omega
    have hm4:(L1.length+[nm].length)*16≤140737488355328:=by simp only [List.length_singleton];omega
    have hm5:(L1++[nm]).length+L2.length≤maxLen:=by simp only [List.length_append,List.length_singleton];unfold maxLen;omega
    have hm6:((L1++[nm]).length+L2.length)*16≤140737488355328:=by simp only [List.length_append,List.length_singleton];omega
    clear hV hl1 hl2
    have AA:=Lib.hid (mgA (ty:=9) rdNm_good XA.out)
    have AB:=Lib.hid (mgB (ty:=9) rdNm_good #[.string nm] 9 XA.out)
    have AC:=Lib.hid (mgC (ty:=9) rdNm_good #[.string nm] 9 XA.out)
    have BC:=Lib.hid (show Below V.heap.size V (V.alloc (Obj.cells #[.string nm] 9)) from (Below.refl _ V).alloc (Nat.le_refl _) _)
    refine wpAnyL_take (i:=1) (v:=?_) [11,7,4,3] rfl (by kernel_rfl) (by kernel_rfl) (by kernel_rfl) (fun _ _ _ h=>h) (by kernel_rfl) (by kernel_rfl) (by kernel_rfl) (Or.inl ⟨by rfl,?_⟩) (by assumption) ?_
    rotate_left
    ·intro w hSw
     try dsimp only at hSw
     go_simp
     first|done|with_reducible rfl
    try simp only [Act.put,List.setIfInBounds_toArray,List.set_cons_zero,List.set_cons_succ]
    refine wpAnyL_take (i:=2) (v:=?_) [11,7,4,3] rfl (by kernel_rfl) (by kernel_rfl) (by kernel_rfl) (fun _ _ _ h=>h) (by kernel_rfl) (by kernel_rfl) (by kernel_rfl) (Or.inl ⟨by rfl,?_⟩) (by assumption) ?_
    rotate_left
    ·intro w hSw
     try dsimp only at hSw
     go_simp
     first|done|with_reducible rfl
    try simp only [Act.put,List.setIfInBounds_toArray,List.set_cons_zero,List.set_cons_succ]
    refine wpAnyL_take (i:=3) (v:=?_) [11,7,4] rfl (by kernel_rfl) (by kernel_rfl) (by kernel_rfl) (fun _ _ _ h=>h) (by kernel_rfl) (by kernel_rfl) (by kernel_rfl) (Or.inl ⟨by rfl,?_⟩) (by assumption) ?_
    rotate_left
    ·intro w hSw
     try dsimp only at hSw
     go_simp
     first|done|with_reducible rfl
    try simp only [Act.put,List.setIfInBounds_toArray,List.set_cons_zero,List.set_cons_succ]
    refine wpAnyL_take (i:=5) (v:=?_) [11,7,6] rfl (by kernel_rfl) (by kernel_rfl) (by kernel_rfl) (fun _ _ _ h=>h) (by kernel_rfl) (by kernel_rfl) (by kernel_rfl) (Or.inl ⟨by rfl,?_⟩) (by assumption) ?_
    rotate_left
    ·intro w hSw
     try dsimp only at hSw
     go_simp
     first|done|with_reducible rfl
    try simp only [Act.put,List.setIfInBounds_toArray,List.set_cons_zero,List.set_cons_succ]
    refine wpAnyL_take (i:=8) (v:=?_) [11,10] rfl (by kernel_rfl) (by kernel_rfl) (by kernel_rfl) (fun _ _ _ h=>h) (by kernel_rfl) (by kernel_rfl) (by kernel_rfl) (Or.inl ⟨by rfl,?_⟩) (by assumption) ?_
    rotate_left
    ·intro w hSw
     try dsimp only at hSw
     go_simp
     first|done|with_reducible rfl
    try simp only [Act.put,List.setIfInBounds_toArray,List.set_cons_zero,List.set_cons_succ]
    refine wpAnyL_take (i:=9) (v:=?_) [11,10] rfl (by kernel_rfl) (by kernel_rfl) (by kernel_rfl) (fun _ _ _ h=>h) (by kernel_rfl) (by kernel_rfl) (by kernel_rfl) (Or.inl ⟨by rfl,?_⟩) (by assumption) ?_
    rotate_left
    ·intro w hSw
     try dsimp only at hSw
     go_simp
     first|done|with_reducible rfl
    try simp only [Act.put,List.setIfInBounds_toArray,List.set_cons_zero,List.set_cons_succ]
    refine wpAnyL_take (i:=10) (v:=?_) [11] rfl (by kernel_rfl) (by kernel_rfl) (by kernel_rfl) (fun _ _ _ h=>h) (by kernel_rfl) (by kernel_rfl) (by kernel_rfl) (Or.inl ⟨by rfl,?_⟩) (by assumption) ?_
    rotate_left
    ·intro w hSw
     try dsimp only at hSw
     go_simp
     first|done|with_reducible rfl
    try simp only [Act.put,List.setIfInBounds_toArray,List.set_cons_zero,List.set_cons_succ]
    refine wpAnyL_two (i:=0) (k:=6) (by kernel_rfl) rfl rfl (fun K hK=>?_) (fun K hK=>?_)
    ·go_simp
     refine hK.out _ _ trivial (fun hHeld=>?_)
     clear hK K
     try simp only [Act.put,List.setIfInBounds_toArray,List.set_cons_zero,List.set_cons_succ]
     refine wpAnyL_two (i:=4) (k:=6) (by kernel_rfl) rfl rfl (fun K hK=>?_) (fun K hK=>?_)
     ·refine step_growN _ (by rfl) _ _ 45 45 (by rfl) rdNm_good (by decide) (fun _=>True) V.heap.size 9 9 fi _ 16 Tryz.underlying45 Tryz.underlying45 hi hz0 hz1 hz2 rfl _ _ (by rfl) AA.out.g _ _ _ _ _ (by rfl) AA.out.x AA.out.s hm1 hm2 AA.out.bs ?_
      intro v3 w3 hG3 hg3 hm3'
      have B3:=Lib.hid (mg_next (v3:=v3) AA.out hg3).2
      have Y2:=Lib.hid (mg2A rdNm_good #[.string nm] 9 EY.out AA.out hG3 hg3)
      obtain ⟨A3,c3',rfl,_,_⟩:=hG3.own
      clear hG3 hg3 hm3'
      refine hK.out _ _ trivial (fun hHeld=>?_)
      clear hK K
      try simp only [Act.put,List.setIfInBounds_toArray,List.set_cons_zero,List.set_cons_succ]
      refine wpAnyL_one (i:=6) (by kernel_rfl) rfl (fun K hK=>?_)
      go_simp
      refine hK.out _ _ trivial (fun hHeld=>?_)
      clear hK K
      try simp only [Act.put,List.setIfInBounds_toArray,List.set_cons_zero,List.set_cons_succ]
      refine wpAnyL_one (i:=7) (by kernel_rfl) rfl (fun K hK=>?_)
      refine step_growN _ (by rfl) _ _ 45 45 (by rfl) rdNm_good (by decide) (fun _=>True) V.heap.size 9 9 fi _ 16 Tryz.underlying45 Tryz.underlying45 hi hz0 hz1 hz2 rfl _ _ (by rfl) Y2.out.g _ _ _ _ _ (by rfl) Y2.out.x Y2.out.s hm3 hm4 Y2.out.bs ?_
      intro v5 w5 hG5 hg5 _
      have Y3:=Lib.hid (mg_3 rdNm_good Y2.out XB.out hG5 hg5)
      obtain ⟨A5,c5,rfl,_,_⟩:=hG5.own
      clear hG5 hg5
      refine hK.out _ _ trivial (fun hHeld=>?_)
      clear hK K
      try simp only [Act.put,List.setIfInBounds_toArray,List.set_cons_zero,List.set_cons_succ]
      refine wpAnyL_one (i:=11) (by kernel_rfl) rfl (fun K hK=>?_)
      refine step_growN _ (by rfl) _ _ 45 45 (by rfl) rdNm_good (by decide) (fun _=>True) V.heap.size 9 9 fi _ 16 Tryz.underlying45 Tryz.underlying45 hi hz0 hz1 hz2 rfl _ _ (by rfl) Y3.out.g _ _ _ _ _ (by rfl) Y3.out.x Y3.out.s hm5 hm6 Y3.out.bs ?_
      intro v7 w7 hG7 hg7 _
      have EN:=Lib.hid (mg_end rdNm_good Y3.out hG7 hg7)
      obtain ⟨A7,c7,hv7,_,_⟩:=hG7.own
      rw [←HWI.out] at EN hv7
      subst hv7
      clear hG7 hg7
      refine hK.out _ _ trivial (fun hHeld=>?_)
      clear hK K
      try simp only [Act.put,List.setIfInBounds_toArray,List.set_cons_zero,List.set_cons_succ]
      refine wpAnyL_last (by kernel_rfl) rfl (by kernel_rfl) (fun K hK=>?_)
      go_simp
      refine hK.out _ _ ?_
      clear hK K
      refine NoPanic.normal ?_
      go_wp2_with fail
      all_goals
       go_ret
       exact ⟨⟨A7,_,c7,rfl,EN.out.2⟩,EN.out.1.mono BV.out.size|>fun h=>BV.out.trans h⟩
     ·go_simp
      refine hK.out _ _ trivial (fun hHeld=>?_)
      clear hK K
      try simp only [Act.put,List.setIfInBounds_toArray,List.set_cons_zero,List.set_cons_succ]
      refine wpAnyL_one (i:=4) (by kernel_rfl) rfl (fun K hK=>?_)
      refine step_growN _ (by rfl) _ _ 45 45 (by rfl) rdNm_good (by decide) (fun _=>True) V.heap.size 9 9 fi _ 16 Tryz.underlying45 Tryz.underlying45 hi hz0 hz1 hz2 rfl _ _ (by rfl) AB.out.g _ _ _ _ _ (by rfl) AB.out.x AB.out.s hm1 hm2 AB.out.bs ?_
      intro v3 w3 hG3 hg3 hm3'
      have B3:=Lib.hid (mg_next (v3:=v3) AB.out hg3).2
      have Y2:=Lib.hid (mg2B rdNm_good EY.out AB.out hG3 hg3 hm3')
      obtain ⟨A3,c3',rfl,_,_⟩:=hG3.own
      clear hG3 hg3 hm3'
      refine hK.out _ _ trivial (fun hHeld=>?_)
      clear hK K
      try simp only [Act.put,List.setIfInBounds_toArray,List.set_cons_zero,List.set_cons_succ]
      refine wpAnyL_one (i:=7) (by kernel_rfl) rfl (fun K hK=>?_)
      refine step_growN _ (by rfl) _ _ 45 45 (by rfl) rdNm_good (by decide) (fun _=>True) V.heap.size 9 9 fi _ 16 Tryz.underlying45 Tryz.underlying45 hi hz0 hz1 hz2 rfl _ _ (by rfl) Y2.out.g _ _ _ _ _ (by rfl) Y2.out.x Y2.out.s hm3 hm4 Y2.out.bs ?_
      intro v5 w5 hG5 hg5 _
      have Y3:=Lib.hid (mg_3 rdNm_good Y2.out XB.out hG5 hg5)
      obtain ⟨A5,c5,rfl,_,_⟩:=hG5.own
      clear hG5 hg5
      refine hK.out _ _ trivial (fun hHeld=>?_)
      clear hK K
      try simp only [Act.put,List.setIfInBounds_toArray,List.set_cons_zero,List.set_cons_succ]
      refine wpAnyL_one (i:=11) (by kernel_rfl) rfl (fun K hK=>?_)
      refine step_growN _ (by rfl) _ _ 45 45 (by rfl) rdNm_good (by decide) (fun _=>True) V.heap.size 9 9 fi _ 16 Tryz.underlying45 Tryz.underlying45 hi hz0 hz1 hz2 rfl _ _ (by rfl) Y3.out.g _ _ _ _ _ (by rfl) Y3.out.x Y3.out.s hm5 hm6 Y3.out.bs ?_
      intro v7 w7 hG7 hg7 _
      have EN:=Lib.hid (mg_end rdNm_good Y3.out hG7 hg7)
      obtain ⟨A7,c7,hv7,_,_⟩:=hG7.own
      rw [←HWI.out] at EN hv7
      subst hv7
      clear hG7 hg7
      refine hK.out _ _ trivial (fun hHeld=>?_)
      clear hK K
      try simp only [Act.put,List.setIfInBounds_toArray,List.set_cons_zero,List.set_cons_succ]
      refine wpAnyL_last (by kernel_rfl) rfl (by kernel_rfl) (fun K hK=>?_)
      go_simp
      refine hK.out _ _ ?_
      clear hK K
      refine NoPanic.normal ?_
      go_wp2_with fail
      all_goals
       go_ret
       exact ⟨⟨A7,_,c7,rfl,EN.out.2⟩,EN.out.1.mono BV.out.size|>fun h=>BV.out.trans h⟩
    ·go_simp
     refine hK.out _ _ trivial (fun hHeld=>?_)
     clear hK K
     try simp only [Act.put,List.setIfInBounds_toArray,List.set_cons_zero,List.set_cons_succ]
     refine wpAnyL_one (i:=0) (by kernel_rfl) rfl (fun K hK=>?_)
     go_simp
     refine hK.out _ _ trivial (fun hHeld=>?_)
     clear hK K
     try simp only [Act.put,List.setIfInBounds_toArray,List.set_cons_zero,List.set_cons_succ]
     refine wpAnyL_one (i:=4) (by kernel_rfl) rfl (fun K hK=>?_)
     refine step_growN _ (by rfl) _ _ 45 45 (by rfl) rdNm_good (by decide) (fun _=>True) V.heap.size 9 9 fi _ 16 Tryz.underlying45 Tryz.underlying45 hi hz0 hz1 hz2 rfl _ _ (by rfl) AC.out.g _ _ _ _ _ (by rfl) AC.out.x AC.out.s hm1 hm2 AC.out.bs ?_
     intro v3 w3 hG3 hg3 hm3'
     have B3:=Lib.hid (mg_next (v3:=v3) AC.out hg3).2
     have Y2:=Lib.hid (mg2C rdNm_good EY.out AC.out hG3 hg3 hm3')
     obtain ⟨A3,c3',rfl,_,_⟩:=hG3.own
     clear hG3 hg3 hm3'
     refine hK.out _ _ trivial (fun hHeld=>?_)
     clear hK K
     try simp only [Act.put,List.setIfInBounds_toArray,List.set_cons_zero,List.set_cons_succ]
     refine wpAnyL_one (i:=7) (by kernel_rfl) rfl (fun K hK=>?_)
     refine step_growN _ (by rfl) _ _ 45 45 (by rfl) rdNm_good (by decide) (fun _=>True) V.heap.size 9 9 fi _ 16 Tryz.underlying45 Tryz.underlying45 hi hz0 hz1 hz2 rfl _ _ (by rfl) Y2.out.g _ _ _ _ _ (by rfl) Y2.out.x Y2.out.s hm3 hm4 Y2.out.bs ?_
     intro v5 w5 hG5 hg5 _
     have Y3:=Lib.hid (mg_3 rdNm_good Y2.out XB.out hG5 hg5)
     obtain ⟨A5,c5,rfl,_,_⟩:=hG5.own
     clear hG5 hg5
     refine hK.out _ _ trivial (fun hHeld=>?_)
     clear hK K
     try simp only [Act.put,List.setIfInBounds_toArray,List.set_cons_zero,List.set_cons_succ]
     refine wpAnyL_one (i:=11) (by kernel_rfl) rfl (fun K hK=>?_)
     refine step_growN _ (by rfl) _ _ 45 45 (by rfl) rdNm_good (by decide) (fun _=>True) V.heap.size 9 9 fi _ 16 Tryz.underlying45 Tryz.underlying45 hi hz0 hz1 hz2 rfl _ _ (by rfl) Y3.out.g _ _ _ _ _ (by rfl) Y3.out.x Y3.out.s hm5 hm6 Y3.out.bs ?_
     intro v7 w7 hG7 hg7 _
     have EN:=Lib.hid (mg_end rdNm_good Y3.out hG7 hg7)
     obtain ⟨A7,c7,hv7,_,_⟩:=hG7.own
     rw [←HWI.out] at EN hv7
     subst hv7
     clear hG7 hg7
     refine hK.out _ _ trivial (fun hHeld=>?_)
     clear hK K
     try simp only [Act.put,List.setIfInBounds_toArray,List.set_cons_zero,List.set_cons_succ]
     refine wpAnyL_last (by kernel_rfl) rfl (by kernel_rfl) (fun K hK=>?_)
     go_simp
     refine hK.out _ _ ?_
     clear hK K
     refine NoPanic.normal ?_
     go_wp2_with fail
     all_goals
      go_ret
      exact ⟨⟨A7,_,c7,rfl,EN.out.2⟩,EN.out.1.mono BV.out.size|>fun h=>BV.out.trans h⟩
end Go.Proofs.YtboinnjncaehkaaGreatDoor
