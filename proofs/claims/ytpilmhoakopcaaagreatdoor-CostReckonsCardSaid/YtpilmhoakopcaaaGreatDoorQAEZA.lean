/- What the laws rest on: RefParse, RefCmp. -/
import Derived.Test.YtpilmhoakopcaaaGreatDoorQADZA
set_option maxRecDepth 100000
set_option linter.unusedVariables false
set_option linter.unusedSimpArgs false
namespace Go.Proofs.YtpilmhoakopcaaaGreatDoor
open Go.RowKit
theorem two_boxes {w w1:World} {T T':TypeId} {a b c x y z:Value} (h:Below (w.heap.size+2) ((w.alloc (.cells #[a,b,c] T)).alloc (.cells #[x,y,z] T')) w1) :
  (w1.cell? ⟨w.heap.size,0,none⟩=some a∧w1.cell? ⟨w.heap.size,1,none⟩=some b∧w1.cell? ⟨w.heap.size,2,none⟩=some c)∧
  (w1.frozen? ⟨w.heap.size,0,none⟩=false∧w1.frozen? ⟨w.heap.size,1,none⟩=false∧w1.frozen? ⟨w.heap.size,2,none⟩=false)∧
  (w1.cell? ⟨w.heap.size+1,0,none⟩=some x∧w1.cell? ⟨w.heap.size+1,1,none⟩=some y∧w1.cell? ⟨w.heap.size+1,2,none⟩=some z)∧w.heap.size+2≤w1.heap.size∧Below w.heap.size w w1:=by
 refine ⟨⟨(h.cell (by simp)).trans (by simp [go_sem]),(h.cell (by simp)).trans (by simp [go_sem]),(h.cell (by simp)).trans (by simp [go_sem])⟩,⟨(h.frozen (by simp)).trans (by simp [go_sem]),(h.frozen (by simp)).trans (by simp [go_sem]),(h.frozen (by simp)).trans (by simp [go_sem])⟩,⟨(h.cell (by simp)).trans (by simp [go_sem]),(h.cell (by simp)).trans (by simp [go_sem]),(h.cell (by simp)).trans (by simp [go_sem])⟩,?_,(((Below.refl _ w).alloc (Nat.le_refl _) _).alloc (by simp) _).trans (h.mono (by omega))⟩
 have:=h.size
 simpa using this
theorem rightB_size {e:Int} {u r:List Nat} (h:rightB e u r=true):(textL e.toNat u r).length≤60:=by
 unfold rightB at h
 simp only [Bool.and_eq_true] at h
 exact of_decide_eq_true h.2
theorem text_int (e:Int) (u r:ByteArray) (w:World) (h0:0≤e) (h1:e≤999999999) (hu:u.size≤65536) (hr:r.size≤65536) :
  Calls Tryz.prog 151 #[.agg #[.int .i64 e,.string u,.string r]] w fun e' w'=>e'=.returned (.string (mk (textL e.toNat (B u) (B r))))∧Below w.heap.size w w':=by
 have:=text_any e.toNat u r w (by omega) hu hr
 rw [Int.toNat_of_nonneg h0] at this
 exact this
theorem zero_text (e:Nat) (u r s:ByteArray):((ByteArray.mk #[48,58]++mk (textL e (B u) (B r))).toList==s.toList)=decide (48::58::textL e (B u) (B r)=B s):=by
 have h1:ByteArray.mk #[48,58]++mk (textL e (B u) (B r))=mk (48::58::textL e (B u) (B r)):=by
  refine eq_mk ?_
  rw [B_append,B_mk (textL_lt e u r)];rfl
 rw [h1,strEq]
 intro c hc
 rcases List.mem_cons.1 hc with rfl|hc
 ·decide
 ·rcases List.mem_cons.1 hc with rfl|hc
  ·decide
  ·exact textL_lt e u r c hc
theorem parse_long (s:ByteArray) (w:World) (hs:60 < s.size) :
  Calls Tryz.prog 124 #[.string s] w fun e' w'=>e'=.returned (parseV s)∧Below w.heap.size w w':=by
 have h9:parseE (B s)=9:=by unfold parseE;rw [if_pos (by rw [B_len];exact hs)]
 have X:=Lib.hid (parse_bad (s:=s) (by rw [h9];decide))
 have H9:=Lib.hid h9
 clear h9
 have hs2:(60:Int) < (s.size:Int):=by omega
 go_enter Tryz.func124,Tryz.ntmps124
 go_wp2
 exact bodyPost_ret (v:=.tuple #[.agg #[.int .i64 0,.string { data:=#[] },.string { data:=#[] }],.int .i64 9]) (by simp [results,Tryz.results124,go_sem]) rfl ⟨by rw [X.out,H9.out],(Below.refl _ w).alloc (Nat.le_refl _) _⟩
set_option maxHeartbeats 1000000 in
theorem parse_short (s:ByteArray) (w:World) (hs:s.size≤60) :
  Calls Tryz.prog 124 #[.string s] w fun e' w'=>e'=.returned (parseV s)∧Below w.heap.size w w':=by
 have hs2:¬(60:Int) < (s.size:Int):=by omega
 go_enter Tryz.func124,Tryz.ntmps124
 go_wp2
 clear hs2
 go_loop [5] (fun x=>∃k:Nat,k≤s.size∧x=.int .i64 k∧firstI (B s) 0=firstI ((B s).drop k) k) (fun x=>s.size - (intOf x).toNat)
 case atStart=>exact ⟨0,Nat.zero_le _,rfl,rfl⟩
 case round=>
  obtain ⟨k,hk,rfl,hf⟩:=hrel
  have HF:=Lib.hid hf
  clear hf
  by_cases hlt:k < s.size
  ·have STEP:=Lib.hid (firstI_step hlt)
   by_cases hc:s[k].toNat=58
   ·have t1:((s[k].toNat:Int)==58)=true:=by rw [beq_iff_eq];omega
    have hfi:firstI (B s) 0=some k:=by rw [HF.out,STEP.out,if_pos hc]
    have XE:=Lib.hid (show numL (B (s.extract 0 k))=colE (B s) by unfold colE;rw [hfi,B_extract];simp)
    have XC:=Lib.hid (show B (s.extract (k+1) s.size)=colU (B s) by unfold colU;rw [hfi,B_extract,List.take_of_length_le (by rw [List.length_drop,B_len];omega)])
    have hz:(s.extract (k+1) s.size).size=s.size - (k+1):=by rw [ByteArray.size_extract];omega
    have hn:(s.extract 0 k).size≤9223372036854775807:=by rw [ByteArray.size_extract];omega
    have CN:=Lib.hid (fun w=>number_any (s.extract 0 k) w hn)
    clear hc hfi hn
    go_wp2_with fail
    refine (CN.out _).mono ?_
    rintro e' w' ⟨rfl,rfl⟩
    clear CN
    generalize numL (B (s.extract 0 k))=E at *
    go_wp2
    generalize s.extract (k+1) s.size=U at *
    have HZ:=Lib.hid hz
    have hz2:U.size≤60:=by omega
    clear hz
    go_loop [6] (fun x=>∃(m:Nat) (i:Int),m≤U.size∧i=(m:Int) - 1∧x=.int .i64 i∧lastI (B U) U.size=lastI (B U) m) (fun x=>(intOf x+1).toNat)
    case atStart=>exact ⟨U.size,_,Nat.le_refl _,rfl,congrArg (Value.int .i64) (by have:=HZ.out;omega),rfl⟩
    case round=>
     obtain ⟨m,i,hm,hi,rfl,hl⟩:=hrel
     have HL:=Lib.hid hl
     clear hl
     rcases m with _|p
     ·obtain rfl:i=-1:=by omega
      clear hi
      have XU:=Lib.hid (show B U=dashU (colU (B s)) by rw [←XC.out];unfold dashU;rw [B_len,HL.out];rfl)
      have XR:=Lib.hid (show B { data:=#[] }=dashR (colU (B s)) by rw [←XC.out];unfold dashR;rw [B_len,HL.out];rfl)
      have z2:(ByteArray.mk #[]).size≤60:=by decide
      go_wp2_with fail
      have hPB:parseB (B s)=(rightB E (B U) (B { data:=#[] })&&(decide (textL (E:Int).toNat (B U) (B { data:=#[] })=B s)||decide (48::58::textL (E:Int).toNat (B U) (B { data:=#[] })=B s))):=by unfold parseB;rw [←XE.out,←XU.out,←XR.out]
      have HPB:=Lib.hid hPB
      clear hPB
      refine (right_any E U { data:=#[] } _ (by omega) (by omega)).mono ?_
      rintro e' w1 ⟨rfl,hb1⟩
      replace hb1:=hb1.mono (show w.heap.size+2≤_ by simp)
      cases hB:rightB E (B U) (B { data:=#[] })
      ·have XV:=Lib.hid (parse_wrong hs (by rw [HPB.out,hB];rfl))
       have tb:=two_boxes hb1
       obtain ⟨⟨c0,c1,c2⟩,⟨g0,g1,g2⟩,⟨e0,e1,e2⟩,s1,b1⟩:=tb
       clear hB
       go_wp2
       obtain ⟨d0,d1,d2,bV⟩:=fin3 (x:=.int .i64 0) (y:=.string { data:=#[] }) (z:=.string { data:=#[] }) b1 c0 c1 c2
       exact bodyPost_ret (v:=.tuple #[.agg #[.int .i64 0,.string { data:=#[] },.string { data:=#[] }],.int .i64 4]) (by simp [results,Tryz.results124,go_sem,d0,d1,d2]) rfl ⟨by rw [XV.out],bV⟩
      ·obtain ⟨q0,q1⟩:=rightB_epoch hB
       have hsz:=rightB_size hB
       have CT0:=Lib.hid (fun w=>text_int E U { data:=#[] } w q0 q1 (by omega) (by omega))
       have hst0:=strEq (textL (E:Int).toNat (B U) (B { data:=#[] })) s (textL_lt _ _ _)
       have hzt0:=zero_text (E:Int).toNat U { data:=#[] } s
       obtain ⟨T,hT⟩:∃T:ByteArray,T=mk (textL (E:Int).toNat (B U) (B { data:=#[] })):=⟨_,rfl⟩
       have hTs:T.size≤60:=by rw [hT,size_mk];exact hsz
       rw [←hT] at CT0 hst0 hzt0
       have CT:=Lib.hid CT0.out
       clear CT0 hT hsz q0 q1
       have tb:=two_boxes hb1
       obtain ⟨⟨c0,c1,c2⟩,⟨g0,g1,g2⟩,⟨e0,e1,e2⟩,s1,b1⟩:=tb
       by_cases q1:textL (E:Int).toNat (B U) (B { data:=#[] })=B s
       ·have XV:=Lib.hid (parse_good hs XE.out XU.out XR.out (by rw [HPB.out,hB,decide_eq_true q1];rfl))
        rw [decide_eq_true q1] at hst0
        clear hB hzt0 q1
        go_wp2_with fail
        refine (CT.out _).mono ?_
        rintro e' w2 ⟨rfl,hb2⟩
        replace hb2:=hb1.trans (hb2.mono s1)
        clear c0 c1 c2 g0 g1 g2 e0 e1 e2 s1 b1
        have tb:=two_boxes hb2
        obtain ⟨⟨c0,c1,c2⟩,⟨g0,g1,g2⟩,⟨e0,e1,e2⟩,s1,b1⟩:=tb
        go_wp2
        obtain ⟨d0,d1,d2,bV⟩:=fin3 (x:=.int .i64 E) (y:=.string U) (z:=.string { data:=#[] }) b1 c0 c1 c2
        exact bodyPost_ret (v:=.tuple #[.agg #[.int .i64 E,.string U,.string { data:=#[] }],.int .i64 0]) (by simp [results,Tryz.results124,go_sem,d0,d1,d2]) rfl ⟨by rw [XV.out],bV⟩
       ·rw [decide_eq_false q1] at hst0
        by_cases q2:48::58::textL (E:Int).toNat (B U) (B { data:=#[] })=B s
        ·have XV:=Lib.hid (parse_good hs XE.out XU.out XR.out (by rw [HPB.out,hB,decide_eq_true q2];simp))
         rw [decide_eq_true q2] at hzt0
         clear hB q1 q2
         go_wp2_with fail
         refine (CT.out _).mono ?_
         rintro e' w2 ⟨rfl,hb2⟩
         replace hb2:=hb1.trans (hb2.mono s1)
         clear c0 c1 c2 g0 g1 g2 e0 e1 e2 s1 b1
         have tb:=two_boxes hb2
         obtain ⟨⟨c0,c1,c2⟩,⟨g0,g1,g2⟩,⟨e0,e1,e2⟩,s1,b1⟩:=tb
         go_wp2_with fail
         refine (CT.out _).mono ?_
         rintro e' w3 ⟨rfl,hb3⟩
         replace hb3:=hb2.trans (hb3.mono s1)
         clear c0 c1 c2 g0 g1 g2 e0 e1 e2 s1 b1
         have tb:=two_boxes hb3
         obtain ⟨⟨c0,c1,c2⟩,⟨g0,g1,g2⟩,⟨e0,e1,e2⟩,s1,b1⟩:=tb
         go_wp2
         obtain ⟨d0,d1,d2,bV⟩:=fin3 (x:=.int .i64 E) (y:=.string U) (z:=.string { data:=#[] }) b1 c0 c1 c2
         exact bodyPost_ret (v:=.tuple #[.agg #[.int .i64 E,.string U,.string { data:=#[] }],.int .i64 0]) (by simp [results,Tryz.results124,go_sem,d0,d1,d2]) rfl ⟨by rw [XV.out],bV⟩
        ·have XV:=Lib.hid (parse_wrong hs (by rw [HPB.out,hB,decide_eq_false q1,decide_eq_false q2];rfl))
         rw [decide_eq_false q2] at hzt0
         clear hB q1 q2
         go_wp2_with fail
         refine (CT.out _).mono ?_
         rintro e' w2 ⟨rfl,hb2⟩
         replace hb2:=hb1.trans (hb2.mono s1)
         clear c0 c1 c2 g0 g1 g2 e0 e1 e2 s1 b1
         have tb:=two_boxes hb2
         obtain ⟨⟨c0,c1,c2⟩,⟨g0,g1,g2⟩,⟨e0,e1,e2⟩,s1,b1⟩:=tb
         go_wp2_with fail
         refine (CT.out _).mono ?_
         rintro e' w3 ⟨rfl,hb3⟩
         replace hb3:=hb2.trans (hb3.mono s1)
         clear c0 c1 c2 g0 g1 g2 e0 e1 e2 s1 b1
         have tb:=two_boxes hb3
         obtain ⟨⟨c0,c1,c2⟩,⟨g0,g1,g2⟩,⟨e0,e1,e2⟩,s1,b1⟩:=tb
         go_wp2
         obtain ⟨d0,d1,d2,bV⟩:=fin3 (x:=.int .i64 0) (y:=.string { data:=#[] }) (z:=.string { data:=#[] }) b1 c0 c1 c2
         exact bodyPost_ret (v:=.tuple #[.agg #[.int .i64 0,.string { data:=#[] },.string { data:=#[] }],.int .i64 4]) (by simp [results,Tryz.results124,go_sem,d0,d1,d2]) rfl ⟨by rw [XV.out],bV⟩
     ·obtain rfl:i=(p:Int):=by omega
      clear hi
      have hp:p < U.size:=by omega
      have STEP:=Lib.hid (lastI_step (s:=U) hp)
      by_cases hd:U[p].toNat=45
      ·have t1:((U[p].toNat:Int)==45)=true:=by rw [beq_iff_eq];omega
       have XU:=Lib.hid (show B (U.extract 0 p)=dashU (colU (B s)) by rw [←XC.out,B_extract];unfold dashU;rw [B_len,HL.out,STEP.out,if_pos hd];simp)
       have XR:=Lib.hid (show B (U.extract (p+1) U.size)=dashR (colU (B s)) by rw [←XC.out,B_extract];unfold dashR;rw [B_len,HL.out,STEP.out,if_pos hd,List.take_of_length_le (by rw [List.length_drop,B_len];omega)])
       have z1:(U.extract 0 p).size≤60:=by rw [ByteArray.size_extract];omega
       have z2:(U.extract (p+1) U.size).size≤60:=by rw [ByteArray.size_extract];omega
       clear hd
       go_wp2_with fail
       generalize U.extract 0 p=U1 at *
       generalize U.extract (p+1) U.size=R1 at *
       have hPB:parseB (B s)=(rightB E (B U1) (B R1)&&(decide (textL (E:Int).toNat (B U1) (B R1)=B s)||decide (48::58::textL (E:Int).toNat (B U1) (B R1)=B s))):=by unfold parseB;rw [←XE.out,←XU.out,←XR.out]
       have HPB:=Lib.hid hPB
       clear hPB
       refine (right_any E U1 R1 _ (by omega) (by omega)).mono ?_
       rintro e' w1 ⟨rfl,hb1⟩
       replace hb1:=hb1.mono (show w.heap.size+2≤_ by simp)
       cases hB:rightB E (B U1) (B R1)
       ·have XV:=Lib.hid (parse_wrong hs (by rw [HPB.out,hB];rfl))
        have tb:=two_boxes hb1
        obtain ⟨⟨c0,c1,c2⟩,⟨g0,g1,g2⟩,⟨e0,e1,e2⟩,s1,b1⟩:=tb
        clear hB
        go_wp2
        obtain ⟨d0,d1,d2,bV⟩:=fin3 (x:=.int .i64 0) (y:=.string { data:=#[] }) (z:=.string { data:=#[] }) b1 c0 c1 c2
        exact bodyPost_ret (v:=.tuple #[.agg #[.int .i64 0,.string { data:=#[] },.string { data:=#[] }],.int .i64 4]) (by simp [results,Tryz.results124,go_sem,d0,d1,d2]) rfl ⟨by rw [XV.out],bV⟩
       ·obtain ⟨q0,q1⟩:=rightB_epoch hB
        have hsz:=rightB_size hB
        have CT0:=Lib.hid (fun w=>text_int E U1 R1 w q0 q1 (by omega) (by omega))
        have hst0:=strEq (textL (E:Int).toNat (B U1) (B R1)) s (textL_lt _ _ _)
        have hzt0:=zero_text (E:Int).toNat U1 R1 s
        obtain ⟨T,hT⟩:∃T:ByteArray,T=mk (textL (E:Int).toNat (B U1) (B R1)):=⟨_,rfl⟩
        have hTs:T.size≤60:=by rw [hT,size_mk];exact hsz
        rw [←hT] at CT0 hst0 hzt0
        have CT:=Lib.hid CT0.out
        clear CT0 hT hsz q0 q1
        have tb:=two_boxes hb1
        obtain ⟨⟨c0,c1,c2⟩,⟨g0,g1,g2⟩,⟨e0,e1,e2⟩,s1,b1⟩:=tb
        by_cases q1:textL (E:Int).toNat (B U1) (B R1)=B s
        ·have XV:=Lib.hid (parse_good hs XE.out XU.out XR.out (by rw [HPB.out,hB,decide_eq_true q1];rfl))
         rw [decide_eq_true q1] at hst0
         clear hB hzt0 q1
         go_wp2_with fail
         refine (CT.out _).mono ?_
         rintro e' w2 ⟨rfl,hb2⟩
         replace hb2:=hb1.trans (hb2.mono s1)
         clear c0 c1 c2 g0 g1 g2 e0 e1 e2 s1 b1
         have tb:=two_boxes hb2
         obtain ⟨⟨c0,c1,c2⟩,⟨g0,g1,g2⟩,⟨e0,e1,e2⟩,s1,b1⟩:=tb
         go_wp2
         obtain ⟨d0,d1,d2,bV⟩:=fin3 (x:=.int .i64 E) (y:=.string U1) (z:=.string R1) b1 c0 c1 c2
         exact bodyPost_ret (v:=.tuple #[.agg #[.int .i64 E,.string U1,.string R1],.int .i64 0]) (by simp [results,Tryz.results124,go_sem,d0,d1,d2]) rfl ⟨by rw [XV.out],bV⟩
        ·rw [decide_eq_false q1] at hst0
         by_cases q2:48::58::textL (E:Int).toNat (B U1) (B R1)=B s
         ·have XV:=Lib.hid (parse_good hs XE.out XU.out XR.out (by rw [HPB.out,hB,decide_eq_true q2];simp))
          rw [decide_eq_true q2] at hzt0
          clear hB q1 q2
          go_wp2_with fail
          refine (CT.out _).mono ?_
          rintro e' w2 ⟨rfl,hb2⟩
          replace hb2:=hb1.trans (hb2.mono s1)
          clear c0 c1 c2 g0 g1 g2 e0 e1 e2 s1 b1
          have tb:=two_boxes hb2
          obtain ⟨⟨c0,c1,c2⟩,⟨g0,g1,g2⟩,⟨e0,e1,e2⟩,s1,b1⟩:=tb
          go_wp2_with fail
          refine (CT.out _).mono ?_
          rintro e' w3 ⟨rfl,hb3⟩
          replace hb3:=hb2.trans (hb3.mono s1)
          clear c0 c1 c2 g0 g1 g2 e0 e1 e2 s1 b1
          have tb:=two_boxes hb3
          obtain ⟨⟨c0,c1,c2⟩,⟨g0,g1,g2⟩,⟨e0,e1,e2⟩,s1,b1⟩:=tb
          go_wp2
          obtain ⟨d0,d1,d2,bV⟩:=fin3 (x:=.int .i64 E) (y:=.string U1) (z:=.string R1) b1 c0 c1 c2
          exact bodyPost_ret (v:=.tuple #[.agg #[.int .i64 E,.string U1,.string R1],.int .i64 0]) (by simp [results,Tryz.results124,go_sem,d0,d1,d2]) rfl ⟨by rw [XV.out],bV⟩
         ·have XV:=Lib.hid (parse_wrong hs (by rw [HPB.out,hB,decide_eq_false q1,decide_eq_false q2];rfl))
          rw [decide_eq_false q2] at hzt0
          clear hB q1 q2
          go_wp2_with fail
          refine (CT.out _).mono ?_
          rintro e' w2 ⟨rfl,hb2⟩
          replace hb2:=hb1.trans (hb2.mono s1)
          clear c0 c1 c2 g0 g1 g2 e0 e1 e2 s1 b1
          have tb:=two_boxes hb2
          obtain ⟨⟨c0,c1,c2⟩,⟨g0,g1,g2⟩,⟨e0,e1,e2⟩,s1,b1⟩:=tb
          go_wp2_with fail
          refine (CT.out _).mono ?_
          rintro e' w3 ⟨rfl,hb3⟩
          replace hb3:=hb2.trans (hb3.mono s1)
          clear c0 c1 c2 g0 g1 g2 e0 e1 e2 s1 b1
          have tb:=two_boxes hb3
          obtain ⟨⟨c0,c1,c2⟩,⟨g0,g1,g2⟩,⟨e0,e1,e2⟩,s1,b1⟩:=tb
          go_wp2
          obtain ⟨d0,d1,d2,bV⟩:=fin3 (x:=.int .i64 0) (y:=.string { data:=#[] }) (z:=.string { data:=#[] }) b1 c0 c1 c2
          exact bodyPost_ret (v:=.tuple #[.agg #[.int .i64 0,.string { data:=#[] },.string { data:=#[] }],.int .i64 4]) (by simp [results,Tryz.results124,go_sem,d0,d1,d2]) rfl ⟨by rw [XV.out],bV⟩
      ·have t1:((U[p].toNat:Int)==45)=false:=by rw [beq_eq_false_iff_ne];omega
       have HL2:=Lib.hid (show lastI (B U) U.size=lastI (B U) p by rw [HL.out,STEP.out,if_neg hd])
       clear hd
       go_wp2
       go_round
       case rel=>exact ⟨p,(p:Int) - 1,by omega,rfl,by go_num,HL2.out⟩
       case measure=>simp [intOf]
   ·have t1:((s[k].toNat:Int)==58)=false:=by rw [beq_eq_false_iff_ne];omega
    have HF2:=Lib.hid (show firstI (B s) 0=firstI ((B s).drop (k+1)) (k+1) by rw [HF.out,STEP.out,if_neg hc])
    clear hc
    go_wp2
    go_round
    case rel=>exact ⟨k+1,by omega,by go_num,HF2.out⟩
    case measure=>simp [intOf];omega
  ·have hfi:firstI (B s) 0=none:=by rw [HF.out,B_drop_end s k (by omega)];rfl
   have XE:=Lib.hid (show (0:Int)=colE (B s) by unfold colE;rw [hfi])
   have XC:=Lib.hid (show B s=colU (B s) by unfold colU;rw [hfi])
   clear hfi
   go_wp2
   go_loop [6] (fun x=>∃(m:Nat) (i:Int),m≤s.size∧i=(m:Int) - 1∧x=.int .i64 i∧lastI (B s) s.size=lastI (B s) m) (fun x=>(intOf x+1).toNat)
   case atStart=>exact ⟨s.size,_,Nat.le_refl _,rfl,congrArg (Value.int .i64) (by omega),rfl⟩
   case round=>
    obtain ⟨m,i,hm,hi,rfl,hl⟩:=hrel
    have HL:=Lib.hid hl
    clear hl
    rcases m with _|p
    ·obtain rfl:i=-1:=by omega
     clear hi
     have XU:=Lib.hid (show B s=dashU (colU (B s)) by rw [←XC.out];unfold dashU;rw [B_len,HL.out];rfl)
     have XR:=Lib.hid (show B { data:=#[] }=dashR (colU (B s)) by rw [←XC.out];unfold dashR;rw [B_len,HL.out];rfl)
     have z2:(ByteArray.mk #[]).size≤60:=by decide
     go_wp2_with fail
     have hPB:parseB (B s)=(rightB 0 (B s) (B { data:=#[] })&&(decide (textL (0:Int).toNat (B s) (B { data:=#[] })=B s)||decide (48::58::textL (0:Int).toNat (B s) (B { data:=#[] })=B s))):=by unfold parseB;rw [←XE.out,←XU.out,←XR.out]
     have HPB:=Lib.hid hPB
     clear hPB
     refine (right_any 0 s { data:=#[] } _ (by omega) (by omega)).mono ?_
     rintro e' w1 ⟨rfl,hb1⟩
     replace hb1:=hb1.mono (show w.heap.size+2≤_ by simp)
     cases hB:rightB 0 (B s) (B { data:=#[] })
     ·have XV:=Lib.hid (parse_wrong hs (by rw [HPB.out,hB];rfl))
      have tb:=two_boxes hb1
      obtain ⟨⟨c0,c1,c2⟩,⟨g0,g1,g2⟩,⟨e0,e1,e2⟩,s1,b1⟩:=tb
      clear hB
      go_wp2
      obtain ⟨d0,d1,d2,bV⟩:=fin3 (x:=.int .i64 0) (y:=.string { data:=#[] }) (z:=.string { data:=#[] }) b1 c0 c1 c2
      exact bodyPost_ret (v:=.tuple #[.agg #[.int .i64 0,.string { data:=#[] },.string { data:=#[] }],.int .i64 4]) (by simp [results,Tryz.results124,go_sem,d0,d1,d2]) rfl ⟨by rw [XV.out],bV⟩
     ·obtain ⟨q0,q1⟩:=rightB_epoch hB
      have hsz:=rightB_size hB
      have CT0:=Lib.hid (fun w=>text_int 0 s { data:=#[] } w q0 q1 (by omega) (by omega))
      have hst0:=strEq (textL (0:Int).toNat (B s) (B { data:=#[] })) s (textL_lt _ _ _)
      have hzt0:=zero_text (0:Int).toNat s { data:=#[] } s
      obtain ⟨T,hT⟩:∃T:ByteArray,T=mk (textL (0:Int).toNat (B s) (B { data:=#[] })):=⟨_,rfl⟩
      have hTs:T.size≤60:=by rw [hT,size_mk];exact hsz
      rw [←hT] at CT0 hst0 hzt0
      have CT:=Lib.hid CT0.out
      clear CT0 hT hsz q0 q1
      have tb:=two_boxes hb1
      obtain ⟨⟨c0,c1,c2⟩,⟨g0,g1,g2⟩,⟨e0,e1,e2⟩,s1,b1⟩:=tb
      by_cases q1:textL (0:Int).toNat (B s) (B { data:=#[] })=B s
      ·have XV:=Lib.hid (parse_good hs XE.out XU.out XR.out (by rw [HPB.out,hB,decide_eq_true q1];rfl))
       rw [decide_eq_true q1] at hst0
       clear hB hzt0 q1
       go_wp2_with fail
       refine (CT.out _).mono ?_
       rintro e' w2 ⟨rfl,hb2⟩
       replace hb2:=hb1.trans (hb2.mono s1)
       clear c0 c1 c2 g0 g1 g2 e0 e1 e2 s1 b1
       have tb:=two_boxes hb2
       obtain ⟨⟨c0,c1,c2⟩,⟨g0,g1,g2⟩,⟨e0,e1,e2⟩,s1,b1⟩:=tb
       go_wp2
       obtain ⟨d0,d1,d2,bV⟩:=fin3 (x:=.int .i64 0) (y:=.string s) (z:=.string { data:=#[] }) b1 c0 c1 c2
       exact bodyPost_ret (v:=.tuple #[.agg #[.int .i64 0,.string s,.string { data:=#[] }],.int .i64 0]) (by simp [results,Tryz.results124,go_sem,d0,d1,d2]) rfl ⟨by rw [XV.out],bV⟩
      ·rw [decide_eq_false q1] at hst0
       by_cases q2:48::58::textL (0:Int).toNat (B s) (B { data:=#[] })=B s
       ·have XV:=Lib.hid (parse_good hs XE.out XU.out XR.out (by rw [HPB.out,hB,decide_eq_true q2];simp))
        rw [decide_eq_true q2] at hzt0
        clear hB q1 q2
        go_wp2_with fail
        refine (CT.out _).mono ?_
        rintro e' w2 ⟨rfl,hb2⟩
        replace hb2:=hb1.trans (hb2.mono s1)
        clear c0 c1 c2 g0 g1 g2 e0 e1 e2 s1 b1
        have tb:=two_boxes hb2
        obtain ⟨⟨c0,c1,c2⟩,⟨g0,g1,g2⟩,⟨e0,e1,e2⟩,s1,b1⟩:=tb
        go_wp2_with fail
        refine (CT.out _).mono ?_
        rintro e' w3 ⟨rfl,hb3⟩
        replace hb3:=hb2.trans (hb3.mono s1)
        clear c0 c1 c2 g0 g1 g2 e0 e1 e2 s1 b1
        have tb:=two_boxes hb3
        obtain ⟨⟨c0,c1,c2⟩,⟨g0,g1,g2⟩,⟨e0,e1,e2⟩,s1,b1⟩:=tb
        go_wp2
        obtain ⟨d0,d1,d2,bV⟩:=fin3 (x:=.int .i64 0) (y:=.string s) (z:=.string { data:=#[] }) b1 c0 c1 c2
        exact bodyPost_ret (v:=.tuple #[.agg #[.int .i64 0,.string s,.string { data:=#[] }],.int .i64 0]) (by simp [results,Tryz.results124,go_sem,d0,d1,d2]) rfl ⟨by rw [XV.out],bV⟩
       ·have XV:=Lib.hid (parse_wrong hs (by rw [HPB.out,hB,decide_eq_false q1,decide_eq_false q2];rfl))
        rw [decide_eq_false q2] at hzt0
        clear hB q1 q2
        go_wp2_with fail
        refine (CT.out _).mono ?_
        rintro e' w2 ⟨rfl,hb2⟩
        replace hb2:=hb1.trans (hb2.mono s1)
        clear c0 c1 c2 g0 g1 g2 e0 e1 e2 s1 b1
        have tb:=two_boxes hb2
        obtain ⟨⟨c0,c1,c2⟩,⟨g0,g1,g2⟩,⟨e0,e1,e2⟩,s1,b1⟩:=tb
        go_wp2_with fail
        refine (CT.out _).mono ?_
        rintro e' w3 ⟨rfl,hb3⟩
        replace hb3:=hb2.trans (hb3.mono s1)
        clear c0 c1 c2 g0 g1 g2 e0 e1 e2 s1 b1
        have tb:=two_boxes hb3
        obtain ⟨⟨c0,c1,c2⟩,⟨g0,g1,g2⟩,⟨e0,e1,e2⟩,s1,b1⟩:=tb
        go_wp2
        obtain ⟨d0,d1,d2,bV⟩:=fin3 (x:=.int .i64 0) (y:=.string { data:=#[] }) (z:=.string { data:=#[] }) b1 c0 c1 c2
        exact bodyPost_ret (v:=.tuple #[.agg #[.int .i64 0,.string { data:=#[] },.string { data:=#[] }],.int .i64 4]) (by simp [results,Tryz.results124,go_sem,d0,d1,d2]) rfl ⟨by rw [XV.out],bV⟩
    ·obtain rfl:i=(p:Int):=by omega
     clear hi
     have hp:p < s.size:=by omega
     have STEP:=Lib.hid (lastI_step (s:=s) hp)
     by_cases hd:s[p].toNat=45
     ·have t1:((s[p].toNat:Int)==45)=true:=by rw [beq_iff_eq];omega
      have XU:=Lib.hid (show B (s.extract 0 p)=dashU (colU (B s)) by rw [←XC.out,B_extract];unfold dashU;rw [B_len,HL.out,STEP.out,if_pos hd];simp)
      have XR:=Lib.hid (show B (s.extract (p+1) s.size)=dashR (colU (B s)) by rw [←XC.out,B_extract];unfold dashR;rw [B_len,HL.out,STEP.out,if_pos hd,List.take_of_length_le (by rw [List.length_drop,B_len];omega)])
      have z1:(s.extract 0 p).size≤60:=by rw [ByteArray.size_extract];omega
      have z2:(s.extract (p+1) s.size).size≤60:=by rw [ByteArray.size_extract];omega
      clear hd
      go_wp2_with fail
      generalize s.extract 0 p=U1 at *
      generalize s.extract (p+1) s.size=R1 at *
      have hPB:parseB (B s)=(rightB 0 (B U1) (B R1)&&(decide (textL (0:Int).toNat (B U1) (B R1)=B s)||decide (48::58::textL (0:Int).toNat (B U1) (B R1)=B s))):=by unfold parseB;rw [←XE.out,←XU.out,←XR.out]
      have HPB:=Lib.hid hPB
      clear hPB
      refine (right_any 0 U1 R1 _ (by omega) (by omega)).mono ?_
      rintro e' w1 ⟨rfl,hb1⟩
      replace hb1:=hb1.mono (show w.heap.size+2≤_ by simp)
      cases hB:rightB 0 (B U1) (B R1)
      ·have XV:=Lib.hid (parse_wrong hs (by rw [HPB.out,hB];rfl))
       have tb:=two_boxes hb1
       obtain ⟨⟨c0,c1,c2⟩,⟨g0,g1,g2⟩,⟨e0,e1,e2⟩,s1,b1⟩:=tb
       clear hB
       go_wp2
       obtain ⟨d0,d1,d2,bV⟩:=fin3 (x:=.int .i64 0) (y:=.string { data:=#[] }) (z:=.string { data:=#[] }) b1 c0 c1 c2
       exact bodyPost_ret (v:=.tuple #[.agg #[.int .i64 0,.string { data:=#[] },.string { data:=#[] }],.int .i64 4]) (by simp [results,Tryz.results124,go_sem,d0,d1,d2]) rfl ⟨by rw [XV.out],bV⟩
      ·obtain ⟨q0,q1⟩:=rightB_epoch hB
       have hsz:=rightB_size hB
       have CT0:=Lib.hid (fun w=>text_int 0 U1 R1 w q0 q1 (by omega) (by omega))
       have hst0:=strEq (textL (0:Int).toNat (B U1) (B R1)) s (textL_lt _ _ _)
       have hzt0:=zero_text (0:Int).toNat U1 R1 s
       obtain ⟨T,hT⟩:∃T:ByteArray,T=mk (textL (0:Int).toNat (B U1) (B R1)):=⟨_,rfl⟩
       have hTs:T.size≤60:=by rw [hT,size_mk];exact hsz
       rw [←hT] at CT0 hst0 hzt0
       have CT:=Lib.hid CT0.out
       clear CT0 hT hsz q0 q1
       have tb:=two_boxes hb1
       obtain ⟨⟨c0,c1,c2⟩,⟨g0,g1,g2⟩,⟨e0,e1,e2⟩,s1,b1⟩:=tb
       by_cases q1:textL (0:Int).toNat (B U1) (B R1)=B s
       ·have XV:=Lib.hid (parse_good hs XE.out XU.out XR.out (by rw [HPB.out,hB,decide_eq_true q1];rfl))
        rw [decide_eq_true q1] at hst0
        clear hB hzt0 q1
        go_wp2_with fail
        refine (CT.out _).mono ?_
        rintro e' w2 ⟨rfl,hb2⟩
        replace hb2:=hb1.trans (hb2.mono s1)
        clear c0 c1 c2 g0 g1 g2 e0 e1 e2 s1 b1
        have tb:=two_boxes hb2
        obtain ⟨⟨c0,c1,c2⟩,⟨g0,g1,g2⟩,⟨e0,e1,e2⟩,s1,b1⟩:=tb
        go_wp2
        obtain ⟨d0,d1,d2,bV⟩:=fin3 (x:=.int .i64 0) (y:=.string U1) (z:=.string R1) b1 c0 c1 c2
        exact bodyPost_ret (v:=.tuple #[.agg #[.int .i64 0,.string U1,.string R1],.int .i64 0]) (by simp [results,Tryz.results124,go_sem,d0,d1,d2]) rfl ⟨by rw [XV.out],bV⟩
       ·rw [decide_eq_false q1] at hst0
        by_cases q2:48::58::textL (0:Int).toNat (B U1) (B R1)=B s
        ·have XV:=Lib.hid (parse_good hs XE.out XU.out XR.out (by rw [HPB.out,hB,decide_eq_true q2];simp))
         rw [decide_eq_true q2] at hzt0
         clear hB q1 q2
         go_wp2_with fail
         refine (CT.out _).mono ?_
         rintro e' w2 ⟨rfl,hb2⟩
         replace hb2:=hb1.trans (hb2.mono s1)
         clear c0 c1 c2 g0 g1 g2 e0 e1 e2 s1 b1
         have tb:=two_boxes hb2
         obtain ⟨⟨c0,c1,c2⟩,⟨g0,g1,g2⟩,⟨e0,e1,e2⟩,s1,b1⟩:=tb
         go_wp2_with fail
         refine (CT.out _).mono ?_
         rintro e' w3 ⟨rfl,hb3⟩
         replace hb3:=hb2.trans (hb3.mono s1)
         clear c0 c1 c2 g0 g1 g2 e0 e1 e2 s1 b1
         have tb:=two_boxes hb3
         obtain ⟨⟨c0,c1,c2⟩,⟨g0,g1,g2⟩,⟨e0,e1,e2⟩,s1,b1⟩:=tb
         go_wp2
         obtain ⟨d0,d1,d2,bV⟩:=fin3 (x:=.int .i64 0) (y:=.string U1) (z:=.string R1) b1 c0 c1 c2
         exact bodyPost_ret (v:=.tuple #[.agg #[.int .i64 0,.string U1,.string R1],.int .i64 0]) (by simp [results,Tryz.results124,go_sem,d0,d1,d2]) rfl ⟨by rw [XV.out],bV⟩
        ·have XV:=Lib.hid (parse_wrong hs (by rw [HPB.out,hB,decide_eq_false q1,decide_eq_false q2];rfl))
         rw [decide_eq_false q2] at hzt0
         clear hB q1 q2
         go_wp2_with fail
         refine (CT.out _).mono ?_
         rintro e' w2 ⟨rfl,hb2⟩
         replace hb2:=hb1.trans (hb2.mono s1)
         clear c0 c1 c2 g0 g1 g2 e0 e1 e2 s1 b1
         have tb:=two_boxes hb2
         obtain ⟨⟨c0,c1,c2⟩,⟨g0,g1,g2⟩,⟨e0,e1,e2⟩,s1,b1⟩:=tb
         go_wp2_with fail
         refine (CT.out _).mono ?_
         rintro e' w3 ⟨rfl,hb3⟩
         replace hb3:=hb2.trans (hb3.mono s1)
         clear c0 c1 c2 g0 g1 g2 e0 e1 e2 s1 b1
         have tb:=two_boxes hb3
         obtain ⟨⟨c0,c1,c2⟩,⟨g0,g1,g2⟩,⟨e0,e1,e2⟩,s1,b1⟩:=tb
         go_wp2
         obtain ⟨d0,d1,d2,bV⟩:=fin3 (x:=.int .i64 0) (y:=.string { data:=#[] }) (z:=.string { data:=#[] }) b1 c0 c1 c2
         exact bodyPost_ret (v:=.tuple #[.agg #[.int .i64 0,.string { data:=#[] },.string { data:=#[] }],.int .i64 4]) (by simp [results,Tryz.results124,go_sem,d0,d1,d2]) rfl ⟨by rw [XV.out],bV⟩
     ·have t1:((s[p].toNat:Int)==45)=false:=by rw [beq_eq_false_iff_ne];omega
      have HL2:=Lib.hid (show lastI (B s) s.size=lastI (B s) p by rw [HL.out,STEP.out,if_neg hd])
      clear hd
      go_wp2
      go_round
      case rel=>exact ⟨p,(p:Int) - 1,by omega,rfl,by go_num,HL2.out⟩
      case measure=>simp [intOf]
theorem parse_any (s:ByteArray) (w:World) :
  Calls Tryz.prog 124 #[.string s] w fun e' w'=>e'=.returned (parseV s)∧Below w.heap.size w w':=by
 by_cases h:s.size≤60
 ·exact parse_short s w h
 ·exact parse_long s w (by omega)
theorem wt_bd {l:List Nat} (h:∀c ∈ l,c < 256):-1≤wt l∧wt l≤1255:=by
 cases l with
 | nil=>simp [wt]
 | cons c l=>
  have:=h c (by simp)
  simp only [wt]
  split
  ·omega
  ·split
   ·omega
   ·split<;>omega
theorem mk_size (l:List Nat):(mk l).size=l.length:=by
 unfold mk
 show (List.toArray _).size=_
 simp
theorem digs_lt {l:List Nat} (h:∀c ∈ l,c < 256):∀c ∈ digs l,c < 256:=fun c hc=>h c ((List.takeWhile_prefix digB).subset ((List.dropWhile_suffix _).subset hc))
theorem digs_len (l:List Nat):(digs l).length≤l.length:=by
 unfold digs
 exact Nat.le_trans ((List.dropWhile_suffix _).length_le) ((List.takeWhile_prefix digB).length_le)
theorem drop_lt (s:ByteArray) (i:Nat):∀c ∈ (B s).drop i,c < 256:=fun c hc=>B_lt s c (List.mem_of_mem_drop hc)
theorem numbers_mk (s t:ByteArray) (i k:Nat) (hs:s.size≤9223372036854775807) (ht:t.size≤9223372036854775807) (w:World) :
  Calls Tryz.prog 186 #[.string (mk (digs ((B s).drop i))),.string (mk (digs ((B t).drop k)))] w fun e w'=>e=.returned (.int .i64 (numC (digs ((B s).drop i)) (digs ((B t).drop k))))∧w=w':=by
 have h1:=digs_len ((B s).drop i)
 have h2:=digs_len ((B t).drop k)
 rw [List.length_drop,B_len] at h1 h2
 have:=numbers_any (mk (digs ((B s).drop i))) (mk (digs ((B t).drop k))) w (by rw [mk_size];omega) (by rw [mk_size];omega)
 rwa [B_mk (digs_lt (drop_lt s i)),B_mk (digs_lt (drop_lt t k))] at this
theorem endD_le (l:List Nat) (i:Nat) (h:i≤l.length):i≤endD l i∧endD l i≤l.length:=by
 unfold endD
 have:=numD_le (l.drop i)
 rw [List.length_drop] at this
 omega
theorem steps {s t:ByteArray} {i k:Nat} (h:(nonD ((B s).drop i)||nonD ((B t).drop k))=false):(i < s.size∨k < t.size)→i+k < endD (B s) i+endD (B t) k:=by
 intro hgo
 have hna:nonD ((B s).drop i)=false:=by cases hx:nonD ((B s).drop i)<;>simp_all
 have hnb:nonD ((B t).drop k)=false:=by cases hx:nonD ((B t).drop k)<;>simp_all
 unfold endD
 rcases hgo with hgo|hgo
 ·have:=num_len hna (by intro he;have:=congrArg List.length he;rw [List.length_drop,B_len] at this;simp at this;omega)
  omega
 ·have:=num_len hnb (by intro he;have:=congrArg List.length he;rw [List.length_drop,B_len] at this;simp at this;omega)
  omega
theorem nums_of {s t:ByteArray} {i k:Nat} (h:(nonD ((B s).drop i)||nonD ((B t).drop k))=false) :
  cmpS ((B s).drop i) ((B t).drop k)=if numC (digs ((B s).drop i)) (digs ((B t).drop k))≠0 then numC (digs ((B s).drop i)) (digs ((B t).drop k)) else cmpS ((B s).drop (endD (B s) i)) ((B t).drop (endD (B t) k)):=by
 by_cases h0:(B s).drop i=[]∧(B t).drop k=[]
 ·have e1:(B s).drop (endD (B s) i)=[]:=by unfold endD;rw [←List.drop_drop,h0.1];rfl
  have e2:(B t).drop (endD (B t) k)=[]:=by unfold endD;rw [←List.drop_drop,h0.2];rfl
  rw [e1,e2,h0.1,h0.2,if_neg (by decide)]
 ·rw [cmpS_num h0 h,List.drop_drop,List.drop_drop]
  rfl
set_option maxRecDepth 100000 in
set_option maxHeartbeats 8000000 in
theorem refCmp_any (s t:ByteArray) (w:World) (hs:s.size≤9223372036854775807) (ht:t.size≤9223372036854775807) :
  Calls Tryz.prog 163 #[.string s,.string t] w fun e w'=>e=.returned (.int .i64 (cmpS (B s) (B t)))∧w=w':=by
 go_enter Tryz.func163,Tryz.ntmps163
 go_wp2
 go_loop [5,6] (fun x y=>∃i k:Nat,i≤s.size∧k≤t.size∧x=.int .i64 i∧y=.int .i64 k∧cmpS (B s) (B t)=cmpS ((B s).drop i) ((B t).drop k)) (fun x y=>(s.size - (intOf x).toNat)+(t.size - (intOf y).toNat))
 case atStart=>exact ⟨0,0,Nat.zero_le _,Nat.zero_le _,rfl,rfl,rfl⟩
 case round=>
  obtain ⟨i,k,hi,hk,rfl,rfl,he⟩:=hrel
  have HE:=Lib.hid he
  clear he
  by_cases hgo:i < s.size∨k < t.size
  ·have HGO:=Lib.hid hgo
   have ho:i < s.size∨(s.size≤i∧k < t.size):=by omega
   clear hgo
   rcases ho with ho|⟨ho,ho2⟩
   all_goals
    go_wp2_with fail
    go_loop [5,6] (fun x y=>∃i' k':Nat,i≤i'∧i'≤s.size∧k≤k'∧k'≤t.size∧x=.int .i64 i'∧y=.int .i64 k'∧cmpS (B s) (B t)=cmpS ((B s).drop i') ((B t).drop k')) (fun x y=>(s.size - (intOf x).toNat)+(t.size - (intOf y).toNat))
    case atStart=>exact ⟨i,k,Nat.le_refl _,hi,Nat.le_refl _,hk,rfl,rfl,HE.out⟩
    case round=>
     obtain ⟨i',k',hi1,hi2,hk1,hk2,rfl,rfl,he'⟩:=hrel
     have HE':=Lib.hid he'
     have bA:=wt_bd (drop_lt s i')
     have bB:=wt_bd (drop_lt t k')
     obtain ⟨bA1,bA2⟩:=bA
     obtain ⟨bB1,bB2⟩:=bB
     clear he'
     by_cases hiA:i' < s.size
     ·cases dA:digB s[i'].toNat
      ·skip
       have hA:=Lib.hid (show digB s[i'].toNat=false from dA)
       have HNA:=Lib.hid (show nonD ((B s).drop i')=true by rw [B_drop s i' hiA];simp [nonD,dA])
       have NON:=Lib.hid (show (nonD ((B s).drop i')||nonD ((B t).drop k'))=true by rw [HNA.out];rfl)
       clear dA
       by_cases hz:sgn (wt ((B s).drop i') - wt ((B t).drop k'))=0
       ·have hz1:(sgn (wt ((B s).drop i') - wt ((B t).drop k')) != 0)=false:=by simp [hz]
        have HB2:=Lib.hid (both_non NON.out (by simp [hz]))
        have HE2:=Lib.hid (show cmpS (B s) (B t)=cmpS ((B s).drop (i'+1)) ((B t).drop (k'+1)) by rw [HE'.out,cmpS_wt NON.out,if_neg (by simp [hz]),List.drop_drop,List.drop_drop])
        have l1:=non_len HB2.out.1
        have l2:=non_len HB2.out.2
        rw [List.length_drop,B_len] at l1 l2
        clear hz
        go_wp2_with (first|first|(go_at_call 123;refine (Digit_any _ _).mono ?_;rw [hA.out];rintro e w' ⟨rfl,rfl⟩)|(go_at_call 184;refine (weight_any _ _ _).mono ?_;rintro e w' ⟨rfl,rfl⟩)|(go_at_call 183;refine (sign_any _ _).mono ?_;rintro e w' ⟨rfl,rfl⟩))
        go_round
        case rel=>exact ⟨i'+1,k'+1,by omega,by omega,by omega,by omega,by go_num,by go_num,HE2.out⟩
        case measure=>simp [intOf];omega
       ·have hz1:(sgn (wt ((B s).drop i') - wt ((B t).drop k')) != 0)=true:=by rw [bne_iff_ne];exact hz
        have HE2:=Lib.hid (show cmpS (B s) (B t)=sgn (wt ((B s).drop i') - wt ((B t).drop k')) by rw [HE'.out,cmpS_wt NON.out,if_pos hz])
        clear hz
        go_wp2_with (first|first|(go_at_call 123;refine (Digit_any _ _).mono ?_;rw [hA.out];rintro e w' ⟨rfl,rfl⟩)|(go_at_call 184;refine (weight_any _ _ _).mono ?_;rintro e w' ⟨rfl,rfl⟩)|(go_at_call 183;refine (sign_any _ _).mono ?_;rintro e w' ⟨rfl,rfl⟩))
        go_ret
        exact ⟨by rw [HE2.out];rfl,rfl⟩
      ·skip
       by_cases hkB:k' < t.size
       ·cases dB:digB t[k'].toNat
        ·skip
         have hA:=Lib.hid (show digB s[i'].toNat=true from dA)
         have HNA:=Lib.hid (show nonD ((B s).drop i')=false by rw [B_drop s i' hiA];simp [nonD,dA])
         have hB:=Lib.hid (show digB t[k'].toNat=false from dB)
         have HNB:=Lib.hid (show nonD ((B t).drop k')=true by rw [B_drop t k' hkB];simp [nonD,dB])
         clear dA dB
         have NON:=Lib.hid (show (nonD ((B s).drop i')||nonD ((B t).drop k'))=true by rw [HNB.out,Bool.or_true])
         by_cases hz:sgn (wt ((B s).drop i') - wt ((B t).drop k'))=0
         ·have hz1:(sgn (wt ((B s).drop i') - wt ((B t).drop k')) != 0)=false:=by simp [hz]
          have HB2:=Lib.hid (both_non NON.out (by simp [hz]))
          have HE2:=Lib.hid (show cmpS (B s) (B t)=cmpS ((B s).drop (i'+1)) ((B t).drop (k'+1)) by rw [HE'.out,cmpS_wt NON.out,if_neg (by simp [hz]),List.drop_drop,List.drop_drop])
          have l1:=non_len HB2.out.1
          have l2:=non_len HB2.out.2
          rw [List.length_drop,B_len] at l1 l2
          clear hz
          go_wp2_with (first|first|(go_at_call 123;refine (Digit_any _ _).mono ?_;rw [hA.out];rintro e w' ⟨rfl,rfl⟩)|(go_at_call 123;refine (Digit_any _ _).mono ?_;rw [hB.out];rintro e w' ⟨rfl,rfl⟩)|(go_at_call 184;refine (weight_any _ _ _).mono ?_;rintro e w' ⟨rfl,rfl⟩)|(go_at_call 183;refine (sign_any _ _).mono ?_;rintro e w' ⟨rfl,rfl⟩))
          go_round
          case rel=>exact ⟨i'+1,k'+1,by omega,by omega,by omega,by omega,by go_num,by go_num,HE2.out⟩
          case measure=>simp [intOf];omega
         ·have hz1:(sgn (wt ((B s).drop i') - wt ((B t).drop k')) != 0)=true:=by rw [bne_iff_ne];exact hz
          have HE2:=Lib.hid (show cmpS (B s) (B t)=sgn (wt ((B s).drop i') - wt ((B t).drop k')) by rw [HE'.out,cmpS_wt NON.out,if_pos hz])
          clear hz
          go_wp2_with (first|first|(go_at_call 123;refine (Digit_any _ _).mono ?_;rw [hA.out];rintro e w' ⟨rfl,rfl⟩)|(go_at_call 123;refine (Digit_any _ _).mono ?_;rw [hB.out];rintro e w' ⟨rfl,rfl⟩)|(go_at_call 184;refine (weight_any _ _ _).mono ?_;rintro e w' ⟨rfl,rfl⟩)|(go_at_call 183;refine (sign_any _ _).mono ?_;rintro e w' ⟨rfl,rfl⟩))
          go_ret
          exact ⟨by rw [HE2.out];rfl,rfl⟩
        ·skip
         have hA:=Lib.hid (show digB s[i'].toNat=true from dA)
         have HNA:=Lib.hid (show nonD ((B s).drop i')=false by rw [B_drop s i' hiA];simp [nonD,dA])
         have hB:=Lib.hid (show digB t[k'].toNat=true from dB)
         have HNB:=Lib.hid (show nonD ((B t).drop k')=false by rw [B_drop t k' hkB];simp [nonD,dB])
         clear dA dB
         have nn:(nonD ((B s).drop i')||nonD ((B t).drop k'))=false:=by rw [HNA.out,HNB.out];rfl
         have ea:=endD_le (B s) i' (by rw [B_len];omega)
         have eb:=endD_le (B t) k' (by rw [B_len];omega)
         rw [B_len] at ea eb
         have hst:=steps (s:=s) (t:=t) nn
         have hnum:=numbers_mk s t i' k' hs ht
         have hne:=nums_of (s:=s) (t:=t) nn
         have d1:=fun w=>digits_any s i' w hs hi2
         have d2:=fun w=>digits_any t k' w ht hk2
         generalize endD (B s) i'=n1 at *
         generalize endD (B t) k'=m1 at *
         generalize numC (digs ((B s).drop i')) (digs ((B t).drop k'))=c at *
         generalize mk (digs ((B s).drop i'))=X at *
         generalize mk (digs ((B t).drop k'))=Y at *
         obtain ⟨ea1,ea2⟩:=ea
         obtain ⟨eb1,eb2⟩:=eb
         have HST:=Lib.hid hst
         have HNUM:=Lib.hid hnum
         have HNE:=Lib.hid hne
         have D1:=Lib.hid d1
         have D2:=Lib.hid d2
         clear nn hst hnum hne d1 d2
         by_cases hz:c=0
         ·have hz1:(c != 0)=false:=by simp [hz]
          have HZ:=Lib.hid hz
          clear hz
          go_wp2_with (first|first|(go_at_call 123;refine (Digit_any _ _).mono ?_;rw [hA.out];rintro e w' ⟨rfl,rfl⟩)|(go_at_call 123;refine (Digit_any _ _).mono ?_;rw [hB.out];rintro e w' ⟨rfl,rfl⟩)|(go_at_call 185;(with_reducible refine (D1.out _).mono ?_);rintro e w' ⟨rfl,rfl⟩)|(go_at_call 185;(with_reducible refine (D2.out _).mono ?_);rintro e w' ⟨rfl,rfl⟩)|(go_at_call 186;(with_reducible refine (HNUM.out _).mono ?_);rintro e w' ⟨rfl,rfl⟩))
          go_round
          case rel=>exact ⟨n1,m1,by omega,by omega,rfl,rfl,by rw [HE'.out,HNE.out,if_neg (by simp [HZ.out])]⟩
          case measure=>
           have h1:=HST.out
           have h2:=HGO.out
           simp [intOf]
           omega
         ·have hz1:(c != 0)=true:=by rw [bne_iff_ne];exact hz
          have HZ:=Lib.hid hz
          clear hz
          go_wp2_with (first|first|(go_at_call 123;refine (Digit_any _ _).mono ?_;rw [hA.out];rintro e w' ⟨rfl,rfl⟩)|(go_at_call 123;refine (Digit_any _ _).mono ?_;rw [hB.out];rintro e w' ⟨rfl,rfl⟩)|(go_at_call 185;(with_reducible refine (D1.out _).mono ?_);rintro e w' ⟨rfl,rfl⟩)|(go_at_call 185;(with_reducible refine (D2.out _).mono ?_);rintro e w' ⟨rfl,rfl⟩)|(go_at_call 186;(with_reducible refine (HNUM.out _).mono ?_);rintro e w' ⟨rfl,rfl⟩))
          go_ret
          refine ⟨?_,rfl⟩
          rw [HE'.out,HNE.out,if_pos HZ.out]
          rfl
       ·skip
        have hA:=Lib.hid (show digB s[i'].toNat=true from dA)
        have HNA:=Lib.hid (show nonD ((B s).drop i')=false by rw [B_drop s i' hiA];simp [nonD,dA])
        have HNB:=Lib.hid (show nonD ((B t).drop k')=false by rw [B_drop_end t k' (by omega)];rfl)
        clear dA
        have nn:(nonD ((B s).drop i')||nonD ((B t).drop k'))=false:=by rw [HNA.out,HNB.out];rfl
        have ea:=endD_le (B s) i' (by rw [B_len];omega)
        have eb:=endD_le (B t) k' (by rw [B_len];omega)
        rw [B_len] at ea eb
        have hst:=steps (s:=s) (t:=t) nn
        have hnum:=numbers_mk s t i' k' hs ht
        have hne:=nums_of (s:=s) (t:=t) nn
        have d1:=fun w=>digits_any s i' w hs hi2
        have d2:=fun w=>digits_any t k' w ht hk2
        generalize endD (B s) i'=n1 at *
        generalize endD (B t) k'=m1 at *
        generalize numC (digs ((B s).drop i')) (digs ((B t).drop k'))=c at *
        generalize mk (digs ((B s).drop i'))=X at *
        generalize mk (digs ((B t).drop k'))=Y at *
        obtain ⟨ea1,ea2⟩:=ea
        obtain ⟨eb1,eb2⟩:=eb
        have HST:=Lib.hid hst
        have HNUM:=Lib.hid hnum
        have HNE:=Lib.hid hne
        have D1:=Lib.hid d1
        have D2:=Lib.hid d2
        clear nn hst hnum hne d1 d2
        by_cases hz:c=0
        ·have hz1:(c != 0)=false:=by simp [hz]
         have HZ:=Lib.hid hz
         clear hz
         go_wp2_with (first|first|(go_at_call 123;refine (Digit_any _ _).mono ?_;rw [hA.out];rintro e w' ⟨rfl,rfl⟩)|(go_at_call 185;(with_reducible refine (D1.out _).mono ?_);rintro e w' ⟨rfl,rfl⟩)|(go_at_call 185;(with_reducible refine (D2.out _).mono ?_);rintro e w' ⟨rfl,rfl⟩)|(go_at_call 186;(with_reducible refine (HNUM.out _).mono ?_);rintro e w' ⟨rfl,rfl⟩))
         go_round
         case rel=>exact ⟨n1,m1,by omega,by omega,rfl,rfl,by rw [HE'.out,HNE.out,if_neg (by simp [HZ.out])]⟩
         case measure=>
          have h1:=HST.out
          have h2:=HGO.out
          simp [intOf]
          omega
        ·have hz1:(c != 0)=true:=by rw [bne_iff_ne];exact hz
         have HZ:=Lib.hid hz
         clear hz
         go_wp2_with (first|first|(go_at_call 123;refine (Digit_any _ _).mono ?_;rw [hA.out];rintro e w' ⟨rfl,rfl⟩)|(go_at_call 185;(with_reducible refine (D1.out _).mono ?_);rintro e w' ⟨rfl,rfl⟩)|(go_at_call 185;(with_reducible refine (D2.out _).mono ?_);rintro e w' ⟨rfl,rfl⟩)|(go_at_call 186;(with_reducible refine (HNUM.out _).mono ?_);rintro e w' ⟨rfl,rfl⟩))
         go_ret
         refine ⟨?_,rfl⟩
         rw [HE'.out,HNE.out,if_pos HZ.out]
         rfl
     ·skip
      by_cases hkB:k' < t.size
      ·cases dB:digB t[k'].toNat
       ·skip
        have HNA:=Lib.hid (show nonD ((B s).drop i')=false by rw [B_drop_end s i' (by omega)];rfl)
        have hB:=Lib.hid (show digB t[k'].toNat=false from dB)
        have HNB:=Lib.hid (show nonD ((B t).drop k')=true by rw [B_drop t k' hkB];simp [nonD,dB])
        clear dB
        have NON:=Lib.hid (show (nonD ((B s).drop i')||nonD ((B t).drop k'))=true by rw [HNB.out,Bool.or_true])
        by_cases hz:sgn (wt ((B s).drop i') - wt ((B t).drop k'))=0
        ·have hz1:(sgn (wt ((B s).drop i') - wt ((B t).drop k')) != 0)=false:=by simp [hz]
         have HB2:=Lib.hid (both_non NON.out (by simp [hz]))
         have HE2:=Lib.hid (show cmpS (B s) (B t)=cmpS ((B s).drop (i'+1)) ((B t).drop (k'+1)) by rw [HE'.out,cmpS_wt NON.out,if_neg (by simp [hz]),List.drop_drop,List.drop_drop])
         have l1:=non_len HB2.out.1
         have l2:=non_len HB2.out.2
         rw [List.length_drop,B_len] at l1 l2
         clear hz
         go_wp2_with (first|first|(go_at_call 123;refine (Digit_any _ _).mono ?_;rw [hB.out];rintro e w' ⟨rfl,rfl⟩)|(go_at_call 184;refine (weight_any _ _ _).mono ?_;rintro e w' ⟨rfl,rfl⟩)|(go_at_call 183;refine (sign_any _ _).mono ?_;rintro e w' ⟨rfl,rfl⟩))
         go_round
         case rel=>exact ⟨i'+1,k'+1,by omega,by omega,by omega,by omega,by go_num,by go_num,HE2.out⟩
         case measure=>simp [intOf];omega
        ·have hz1:(sgn (wt ((B s).drop i') - wt ((B t).drop k')) != 0)=true:=by rw [bne_iff_ne];exact hz
         have HE2:=Lib.hid (show cmpS (B s) (B t)=sgn (wt ((B s).drop i') - wt ((B t).drop k')) by rw [HE'.out,cmpS_wt NON.out,if_pos hz])
         clear hz
         go_wp2_with (first|first|(go_at_call 123;refine (Digit_any _ _).mono ?_;rw [hB.out];rintro e w' ⟨rfl,rfl⟩)|(go_at_call 184;refine (weight_any _ _ _).mono ?_;rintro e w' ⟨rfl,rfl⟩)|(go_at_call 183;refine (sign_any _ _).mono ?_;rintro e w' ⟨rfl,rfl⟩))
         go_ret
         exact ⟨by rw [HE2.out];rfl,rfl⟩
       ·skip
        have HNA:=Lib.hid (show nonD ((B s).drop i')=false by rw [B_drop_end s i' (by omega)];rfl)
        have hB:=Lib.hid (show digB t[k'].toNat=true from dB)
        have HNB:=Lib.hid (show nonD ((B t).drop k')=false by rw [B_drop t k' hkB];simp [nonD,dB])
        clear dB
        have nn:(nonD ((B s).drop i')||nonD ((B t).drop k'))=false:=by rw [HNA.out,HNB.out];rfl
        have ea:=endD_le (B s) i' (by rw [B_len];omega)
        have eb:=endD_le (B t) k' (by rw [B_len];omega)
        rw [B_len] at ea eb
        have hst:=steps (s:=s) (t:=t) nn
        have hnum:=numbers_mk s t i' k' hs ht
        have hne:=nums_of (s:=s) (t:=t) nn
        have d1:=fun w=>digits_any s i' w hs hi2
        have d2:=fun w=>digits_any t k' w ht hk2
        generalize endD (B s) i'=n1 at *
        generalize endD (B t) k'=m1 at *
        generalize numC (digs ((B s).drop i')) (digs ((B t).drop k'))=c at *
        generalize mk (digs ((B s).drop i'))=X at *
        generalize mk (digs ((B t).drop k'))=Y at *
        obtain ⟨ea1,ea2⟩:=ea
        obtain ⟨eb1,eb2⟩:=eb
        have HST:=Lib.hid hst
        have HNUM:=Lib.hid hnum
        have HNE:=Lib.hid hne
        have D1:=Lib.hid d1
        have D2:=Lib.hid d2
        clear nn hst hnum hne d1 d2
        by_cases hz:c=0
        ·have hz1:(c != 0)=false:=by simp [hz]
         have HZ:=Lib.hid hz
         clear hz
         go_wp2_with (first|first|(go_at_call 123;refine (Digit_any _ _).mono ?_;rw [hB.out];rintro e w' ⟨rfl,rfl⟩)|(go_at_call 185;(with_reducible refine (D1.out _).mono ?_);rintro e w' ⟨rfl,rfl⟩)|(go_at_call 185;(with_reducible refine (D2.out _).mono ?_);rintro e w' ⟨rfl,rfl⟩)|(go_at_call 186;(with_reducible refine (HNUM.out _).mono ?_);rintro e w' ⟨rfl,rfl⟩))
         go_round
         case rel=>exact ⟨n1,m1,by omega,by omega,rfl,rfl,by rw [HE'.out,HNE.out,if_neg (by simp [HZ.out])]⟩
         case measure=>
          have h1:=HST.out
          have h2:=HGO.out
          simp [intOf]
          omega
        ·have hz1:(c != 0)=true:=by rw [bne_iff_ne];exact hz
         have HZ:=Lib.hid hz
         clear hz
         go_wp2_with (first|first|(go_at_call 123;refine (Digit_any _ _).mono ?_;rw [hB.out];rintro e w' ⟨rfl,rfl⟩)|(go_at_call 185;(with_reducible refine (D1.out _).mono ?_);rintro e w' ⟨rfl,rfl⟩)|(go_at_call 185;(with_reducible refine (D2.out _).mono ?_);rintro e w' ⟨rfl,rfl⟩)|(go_at_call 186;(with_reducible refine (HNUM.out _).mono ?_);rintro e w' ⟨rfl,rfl⟩))
         go_ret
         refine ⟨?_,rfl⟩
         rw [HE'.out,HNE.out,if_pos HZ.out]
         rfl
      ·skip
       have HNA:=Lib.hid (show nonD ((B s).drop i')=false by rw [B_drop_end s i' (by omega)];rfl)
       have HNB:=Lib.hid (show nonD ((B t).drop k')=false by rw [B_drop_end t k' (by omega)];rfl)
       have nn:(nonD ((B s).drop i')||nonD ((B t).drop k'))=false:=by rw [HNA.out,HNB.out];rfl
       have ea:=endD_le (B s) i' (by rw [B_len];omega)
       have eb:=endD_le (B t) k' (by rw [B_len];omega)
       rw [B_len] at ea eb
       have hst:=steps (s:=s) (t:=t) nn
       have hnum:=numbers_mk s t i' k' hs ht
       have hne:=nums_of (s:=s) (t:=t) nn
       have d1:=fun w=>digits_any s i' w hs hi2
       have d2:=fun w=>digits_any t k' w ht hk2
       generalize endD (B s) i'=n1 at *
       generalize endD (B t) k'=m1 at *
       generalize numC (digs ((B s).drop i')) (digs ((B t).drop k'))=c at *
       generalize mk (digs ((B s).drop i'))=X at *
       generalize mk (digs ((B t).drop k'))=Y at *
       obtain ⟨ea1,ea2⟩:=ea
       obtain ⟨eb1,eb2⟩:=eb
       have HST:=Lib.hid hst
       have HNUM:=Lib.hid hnum
       have HNE:=Lib.hid hne
       have D1:=Lib.hid d1
       have D2:=Lib.hid d2
       clear nn hst hnum hne d1 d2
       by_cases hz:c=0
       ·have hz1:(c != 0)=false:=by simp [hz]
        have HZ:=Lib.hid hz
        clear hz
        go_wp2_with (first|(go_at_call 185;(with_reducible refine (D1.out _).mono ?_);rintro e w' ⟨rfl,rfl⟩)|(go_at_call 185;(with_reducible refine (D2.out _).mono ?_);rintro e w' ⟨rfl,rfl⟩)|(go_at_call 186;(with_reducible refine (HNUM.out _).mono ?_);rintro e w' ⟨rfl,rfl⟩))
        go_round
        case rel=>exact ⟨n1,m1,by omega,by omega,rfl,rfl,by rw [HE'.out,HNE.out,if_neg (by simp [HZ.out])]⟩
        case measure=>
         have h1:=HST.out
         have h2:=HGO.out
         simp [intOf]
         omega
       ·have hz1:(c != 0)=true:=by rw [bne_iff_ne];exact hz
        have HZ:=Lib.hid hz
        clear hz
        go_wp2_with (first|(go_at_call 185;(with_reducible refine (D1.out _).mono ?_);rintro e w' ⟨rfl,rfl⟩)|(go_at_call 185;(with_reducible refine (D2.out _).mono ?_);rintro e w' ⟨rfl,rfl⟩)|(go_at_call 186;(with_reducible refine (HNUM.out _).mono ?_);rintro e w' ⟨rfl,rfl⟩))
        go_ret
        refine ⟨?_,rfl⟩
        rw [HE'.out,HNE.out,if_pos HZ.out]
        rfl
  ·have hi3:i=s.size:=by omega
   have hk3:k=t.size:=by omega
   have HF:=Lib.hid (show cmpS (B s) (B t)=0 by rw [HE.out,B_drop_end s i (by omega),B_drop_end t k (by omega)];rfl)
   have hi4:s.size≤i:=by omega
   have hk4:t.size≤k:=by omega
   clear hi3 hk3 hgo
   go_wp2
   go_ret
   exact ⟨by rw [HF.out];rfl,rfl⟩
end Go.Proofs.YtpilmhoakopcaaaGreatDoor
