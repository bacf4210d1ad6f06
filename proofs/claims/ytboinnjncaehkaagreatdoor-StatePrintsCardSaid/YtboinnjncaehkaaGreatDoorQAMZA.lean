/- What the laws rest on: RefPrint, RefParse0, RefParse, RefOrder, E6e, E6f, StzT, S5b. -/
import Derived.Test.YtboinnjncaehkaaGreatDoorQAFZA
set_option maxRecDepth 100000
set_option linter.unusedVariables false
set_option linter.unusedSimpArgs false
namespace Go.Proofs.YtboinnjncaehkaaGreatDoor
open Go.RowKit
theorem print_any (e:Int) (u r:ByteArray) (w:World) (hu:u.size≤65536) (hr:r.size≤65536) :
  Calls Tryz.prog 124 #[.agg #[.int .i64 e,.string u,.string r]] w fun e' w'=>e'=.returned (.string (mk (printL e (B u) (B r))))∧Below w.heap.size w w':=by
 cases hR:rightB e (B u) (B r)
 ·have X:=Lib.hid (show ByteArray.mk #[]=mk (printL e (B u) (B r)) by unfold printL;rw [hR];rfl)
  have HR:=Lib.hid (fun w=>right_any e u r w hu hr)
  rw [hR] at HR
  clear hR
  go_enter Tryz.func124,Tryz.ntmps124
  go_wp2_with (go_at_call 176;refine (HR.out _).mono ?_;rintro e' w1 ⟨rfl,hb1⟩)
  go_ret
  exact ⟨by rw [←X.out];rfl,((Below.refl _ w).alloc (Nat.le_refl _) _).trans (hb1.mono (by simp))⟩
 ·obtain ⟨h0,h1⟩:=rightB_epoch hR
  obtain ⟨n,rfl⟩:∃n:Nat,e=n:=⟨e.toNat,by omega⟩
  have X:=Lib.hid (show mk (textL n (B u) (B r))=mk (printL n (B u) (B r)) by unfold printL;rw [if_pos hR];rfl)
  have HR:=Lib.hid (fun w=>right_any n u r w hu hr)
  have HT:=Lib.hid (fun w=>text_any n u r w (by omega) hu hr)
  rw [hR] at HR
  rw [X.out] at HT
  clear hR
  generalize mk (printL n (B u) (B r))=P at HT
  go_enter Tryz.func124,Tryz.ntmps124
  go_wp2_with (first|(go_at_call 176;refine (HR.out _).mono ?_;rintro e' w1 ⟨rfl,hb1⟩;obtain ⟨c0,c1,c2,s1⟩:=box_cells hb1)|(go_at_call 177;refine (HT.out _).mono ?_;rintro e' w2 ⟨rfl,hb2⟩))
  go_ret
  exact ⟨rfl,(((Below.refl _ w).alloc (Nat.le_refl _) _).trans (hb1.mono (by simp))).trans (hb2.mono (by omega))⟩
theorem firstI_step {s:ByteArray} {k:Nat} (hk:k < s.size):firstI ((B s).drop k) k=if s[k].toNat=58 then some k else firstI ((B s).drop (k+1)) (k+1):=by
 rw [B_drop s k hk];rfl
theorem two_boxes {w w1:World} {T T':TypeId} {a b c x y z:Value} (h:Below (w.heap.size+2) ((w.alloc (.cells #[a,b,c] T)).alloc (.cells #[x,y,z] T')) w1) :
  (w1.cell? ⟨w.heap.size,0,none⟩=some a∧w1.cell? ⟨w.heap.size,1,none⟩=some b∧w1.cell? ⟨w.heap.size,2,none⟩=some c)∧
  (w1.frozen? ⟨w.heap.size,0,none⟩=false∧w1.frozen? ⟨w.heap.size,1,none⟩=false∧w1.frozen? ⟨w.heap.size,2,none⟩=false)∧
  (w1.cell? ⟨w.heap.size+1,0,none⟩=some x∧w1.cell? ⟨w.heap.size+1,1,none⟩=some y∧w1.cell? ⟨w.heap.size+1,2,none⟩=some z)∧w.heap.size+2≤w1.heap.size∧Below w.heap.size w w1:=by
 refine ⟨⟨(h.cell (by simp)).trans (by simp [go_sem]),(h.cell (by simp)).trans (by simp [go_sem]),(h.cell (by simp)).trans (by simp [go_sem])⟩,⟨(h.frozen (by simp)).trans (by simp [go_sem]),(h.frozen (by simp)).trans (by simp [go_sem]),(h.frozen (by simp)).trans (by simp [go_sem])⟩,⟨(h.cell (by simp)).trans (by simp [go_sem]),(h.cell (by simp)).trans (by simp [go_sem]),(h.cell (by simp)).trans (by simp [go_sem])⟩,?_,(((Below.refl _ w).alloc (Nat.le_refl _) _).alloc (by simp) _).trans (h.mono (by omega))⟩
 have:=h.size
 simpa using this
theorem rightB_size {e:Int} {u r:List Nat} (h:rightB e u r=true):(textL e.toNat u r).length≤60:=by
 unfold rightB at h
 simp only [Bool.and_eq_true] at h
 exact of_decide_eq_true h.2
theorem text_int (e:Int) (u r:ByteArray) (w:World) (h0:0≤e) (h1:e≤999999999) (hu:u.size≤65536) (hr:r.size≤65536) :
  Calls Tryz.prog 177 #[.agg #[.int .i64 e,.string u,.string r]] w fun e' w'=>e'=.returned (.string (mk (textL e.toNat (B u) (B r))))∧Below w.heap.size w w':=by
 have:=text_any e.toNat u r w (by omega) hu hr
 rw [Int.toNat_of_nonneg h0] at this
 exact this
theorem zero_text (e:Nat) (u r s:ByteArray):((ByteArray.mk #[48,58]++mk (textL e (B u) (B r))).toList==s.toList)=decide (48::58::textL e (B u) (B r)=B s):=by
 have h1:ByteArray.mk #[48,58]++mk (textL e (B u) (B r))=mk (48::58::textL e (B u) (B r)):=by
  refine eq_mk ?_
  rw [B_append,B_mk (textL_lt e u r)];rfl
 rw [h1,strEq]
 intro c hc
 rcases List.mem_cons.1 hc with rfl|hc
 ·decide
 ·rcases List.mem_cons.1 hc with rfl|hc
  ·decide
  ·exact textL_lt e u r c hc
theorem parse_long (s:ByteArray) (w:World) (hs:60 < s.size) :
  Calls Tryz.prog 123 #[.string s] w fun e' w'=>e'=.returned (parseV s)∧Below w.heap.size w w':=by
 have h9:parseE (B s)=9:=by unfold parseE;rw [if_pos (by rw [B_len];exact hs)]
 have X:=Lib.hid (parse_bad (s:=s) (by rw [h9];decide))
 have H9:=Lib.hid h9
 clear h9
 have hs2:(60:Int) < (s.size:Int):=by omega
 go_enter Tryz.func123,Tryz.ntmps123
 go_wp2
 exact bodyPost_ret (v:=.tuple #[.agg #[.int .i64 0,.string { data:=#[] },.string { data:=#[] }],.int .i64 9]) (by simp [results,Tryz.results123,go_sem]) rfl ⟨by rw [X.out,H9.out],(Below.refl _ w).alloc (Nat.le_refl _) _⟩
set_option maxHeartbeats 1000000 in
theorem parse_short (s:ByteArray) (w:World) (hs:s.size≤60) :
  Calls Tryz.prog 123 #[.string s] w fun e' w'=>e'=.returned (parseV s)∧Below w.heap.size w w':=by
 have hs2:¬(60:Int) < (s.size:Int):=by omega
 go_enter Tryz.func123,Tryz.ntmps123
 go_wp2
 clear hs2
 go_loop [5] (fun x=>∃k:Nat,k≤s.size∧x=.int .i64 k∧firstI (B s) 0=firstI ((B s).drop k) k) (fun x=>s.size - (intOf x).toNat)
 case atStart=>exact ⟨0,Nat.zero_le _,rfl,rfl⟩
 case round=>
  obtain ⟨k,hk,rfl,hf⟩:=hrel
  have HF:=Lib.hid hf
  clear hf
  by_cases hlt:k < s.size
  ·have STEP:=Lib.hid (firstI_step hlt)
   by_cases hc:s[k].toNat=58
   ·have t1:((s[k].toNat:Int)==58)=true:=by rw [beq_iff_eq];omega
    have hfi:firstI (B s) 0=some k:=by rw [HF.out,STEP.out,if_pos hc]
    have XE:=Lib.hid (show numL (B (s.extract 0 k))=colE (B s) by unfold colE;rw [hfi,B_extract];simp)
    have XC:=Lib.hid (show B (s.extract (k+1) s.size)=colU (B s) by unfold colU;rw [hfi,B_extract,List.take_of_length_le (by rw [List.length_drop,B_len];omega)])
    have hz:(s.extract (k+1) s.size).size=s.size - (k+1):=by rw [ByteArray.size_extract];omega
    have hn:(s.extract 0 k).size≤9223372036854775807:=by rw [ByteArray.size_extract];omega
    have CN:=Lib.hid (fun w=>number_any (s.extract 0 k) w hn)
    clear hc hfi hn
    go_wp2_with fail
    refine (CN.out _).mono ?_
    rintro e' w' ⟨rfl,rfl⟩
    clear CN
    generalize numL (B (s.extract 0 k))=E at *
    go_wp2
    generalize s.extract (k+1) s.size=U at *
    have HZ:=Lib.hid hz
    have hz2:U.size≤60:=by omega
    clear hz
    go_loop [6] (fun x=>∃(m:Nat) (i:Int),m≤U.size∧i=(m:Int) - 1∧x=.int .i64 i∧lastI (B U) U.size=lastI (B U) m) (fun x=>(intOf x+1).toNat)
    case atStart=>exact ⟨U.size,_,Nat.le_refl _,rfl,congrArg (Value.int .i64) (by have:=HZ.out;omega),rfl⟩
    case round=>
     obtain ⟨m,i,hm,hi,rfl,hl⟩:=hrel
     have HL:=Lib.hid hl
     clear hl
     rcases m with _|p
     ·obtain rfl:i=-1:=by omega
      clear hi
      have XU:=Lib.hid (show B U=dashU (colU (B s)) by rw [←XC.out];unfold dashU;rw [B_len,HL.out];rfl)
      have XR:=Lib.hid (show B { data:=#[] }=dashR (colU (B s)) by rw [←XC.out];unfold dashR;rw [B_len,HL.out];rfl)
      have z2:(ByteArray.mk #[]).size≤60:=by decide
      go_wp2_with fail
      have hPB:parseB (B s)=(rightB E (B U) (B { data:=#[] })&&(decide (textL (E:Int).toNat (B U) (B { data:=#[] })=B s)||decide (48::58::textL (E:Int).toNat (B U) (B { data:=#[] })=B s))):=by unfold parseB;rw [←XE.out,←XU.out,←XR.out]
      have HPB:=Lib.hid hPB
      clear hPB
      refine (right_any E U { data:=#[] } _ (by omega) (by omega)).mono ?_
      rintro e' w1 ⟨rfl,hb1⟩
      replace hb1:=hb1.mono (show w.heap.size+2≤_ by simp)
      cases hB:rightB E (B U) (B { data:=#[] })
      ·have XV:=Lib.hid (parse_wrong hs (by rw [HPB.out,hB];rfl))
       have tb:=two_boxes hb1
       obtain ⟨⟨c0,c1,c2⟩,⟨g0,g1,g2⟩,⟨e0,e1,e2⟩,s1,b1⟩:=tb
       clear hB
       go_wp2
       obtain ⟨d0,d1,d2,bV⟩:=fin3 (x:=.int .i64 0) (y:=.string { data:=#[] }) (z:=.string { data:=#[] }) b1 c0 c1 c2
       exact bodyPost_ret (v:=.tuple #[.agg #[.int .i64 0,.string { data:=#[] },.string { data:=#[] }],.int .i64 4]) (by simp [results,Tryz.results123,go_sem,d0,d1,d2]) rfl ⟨by rw [XV.out],bV⟩
      ·obtain ⟨q0,q1⟩:=rightB_epoch hB
       have hsz:=rightB_size hB
       have CT0:=Lib.hid (fun w=>text_int E U { data:=#[] } w q0 q1 (by omega) (by omega))
       have hst0:=strEq (textL (E:Int).toNat (B U) (B { data:=#[] })) s (textL_lt _ _ _)
       have hzt0:=zero_text (E:Int).toNat U { data:=#[] } s
       obtain ⟨T,hT⟩:∃T:ByteArray,T=mk (textL (E:Int).toNat (B U) (B { data:=#[] })):=⟨_,rfl⟩
       have hTs:T.size≤60:=by rw [hT,size_mk];exact hsz
       rw [←hT] at CT0 hst0 hzt0
       have CT:=Lib.hid CT0.out
       clear CT0 hT hsz q0 q1
       have tb:=two_boxes hb1
       obtain ⟨⟨c0,c1,c2⟩,⟨g0,g1,g2⟩,⟨e0,e1,e2⟩,s1,b1⟩:=tb
       by_cases q1:textL (E:Int).toNat (B U) (B { data:=#[] })=B s
       ·have XV:=Lib.hid (parse_good hs XE.out XU.out XR.out (by rw [HPB.out,hB,decide_eq_true q1];rfl))
        rw [decide_eq_true q1] at hst0
        clear hB hzt0 q1
        go_wp2_with fail
        refine (CT.out _).mono ?_
        rintro e' w2 ⟨rfl,hb2⟩
        replace hb2:=hb1.trans (hb2.mono s1)
        clear c0 c1 c2 g0 g1 g2 e0 e1 e2 s1 b1
        have tb:=two_boxes hb2
        obtain ⟨⟨c0,c1,c2⟩,⟨g0,g1,g2⟩,⟨e0,e1,e2⟩,s1,b1⟩:=tb
        go_wp2
        obtain ⟨d0,d1,d2,bV⟩:=fin3 (x:=.int .i64 E) (y:=.string U) (z:=.string { data:=#[] }) b1 c0 c1 c2
        exact bodyPost_ret (v:=.tuple #[.agg #[.int .i64 E,.string U,.string { data:=#[] }],.int .i64 0]) (by simp [results,Tryz.results123,go_sem,d0,d1,d2]) rfl ⟨by rw [XV.out],bV⟩
       ·rw [decide_eq_false q1] at hst0
        by_cases q2:48::58::textL (E:Int).toNat (B U) (B { data:=#[] })=B s
        ·have XV:=Lib.hid (parse_good hs XE.out XU.out XR.out (by rw [HPB.out,hB,decide_eq_true q2];simp))
         rw [decide_eq_true q2] at hzt0
         clear hB q1 q2
         go_wp2_with fail
         refine (CT.out _).mono ?_
         rintro e' w2 ⟨rfl,hb2⟩
         replace hb2:=hb1.trans (hb2.mono s1)
         clear c0 c1 c2 g0 g1 g2 e0 e1 e2 s1 b1
         have tb:=two_boxes hb2
         obtain ⟨⟨c0,c1,c2⟩,⟨g0,g1,g2⟩,⟨e0,e1,e2⟩,s1,b1⟩:=tb
         go_wp2_with fail
         refine (CT.out _).mono ?_
         rintro e' w3 ⟨rfl,hb3⟩
         replace hb3:=hb2.trans (hb3.mono s1)
         clear c0 c1 c2 g0 g1 g2 e0 e1 e2 s1 b1
         have tb:=two_boxes hb3
         obtain ⟨⟨c0,c1,c2⟩,⟨g0,g1,g2⟩,⟨e0,e1,e2⟩,s1,b1⟩:=tb
         go_wp2
         obtain ⟨d0,d1,d2,bV⟩:=fin3 (x:=.int .i64 E) (y:=.string U) (z:=.string { data:=#[] }) b1 c0 c1 c2
         exact bodyPost_ret (v:=.tuple #[.agg #[.int .i64 E,.string U,.string { data:=#[] }],.int .i64 0]) (by simp [results,Tryz.results123,go_sem,d0,d1,d2]) rfl ⟨by rw [XV.out],bV⟩
        ·have XV:=Lib.hid (parse_wrong hs (by rw [HPB.out,hB,decide_eq_false q1,decide_eq_false q2];rfl))
         rw [decide_eq_false q2] at hzt0
         clear hB q1 q2
         go_wp2_with fail
         refine (CT.out _).mono ?_
         rintro e' w2 ⟨rfl,hb2⟩
         replace hb2:=hb1.trans (hb2.mono s1)
         clear c0 c1 c2 g0 g1 g2 e0 e1 e2 s1 b1
         have tb:=two_boxes hb2
         obtain ⟨⟨c0,c1,c2⟩,⟨g0,g1,g2⟩,⟨e0,e1,e2⟩,s1,b1⟩:=tb
         go_wp2_with fail
         refine (CT.out _).mono ?_
         rintro e' w3 ⟨rfl,hb3⟩
         replace hb3:=hb2.trans (hb3.mono s1)
         clear c0 c1 c2 g0 g1 g2 e0 e1 e2 s1 b1
         have tb:=two_boxes hb3
         obtain ⟨⟨c0,c1,c2⟩,⟨g0,g1,g2⟩,⟨e0,e1,e2⟩,s1,b1⟩:=tb
         go_wp2
         obtain ⟨d0,d1,d2,bV⟩:=fin3 (x:=.int .i64 0) (y:=.string { data:=#[] }) (z:=.string { data:=#[] }) b1 c0 c1 c2
         exact bodyPost_ret (v:=.tuple #[.agg #[.int .i64 0,.string { data:=#[] },.string { data:=#[] }],.int .i64 4]) (by simp [results,Tryz.results123,go_sem,d0,d1,d2]) rfl ⟨by rw [XV.out],bV⟩
     ·obtain rfl:i=(p:Int):=by omega
      clear hi
      have hp:p < U.size:=by omega
      have STEP:=Lib.hid (lastI_step (s:=U) hp)
      by_cases hd:U[p].toNat=45
      ·have t1:((U[p].toNat:Int)==45)=true:=by rw [beq_iff_eq];omega
       have XU:=Lib.hid (show B (U.extract 0 p)=dashU (colU (B s)) by rw [←XC.out,B_extract];unfold dashU;rw [B_len,HL.out,STEP.out,if_pos hd];simp)
       have XR:=Lib.hid (show B (U.extract (p+1) U.size)=dashR (colU (B s)) by rw [←XC.out,B_extract];unfold dashR;rw [B_len,HL.out,STEP.out,if_pos hd,List.take_of_length_le (by rw [List.length_drop,B_len];omega)])
       have z1:(U.extract 0 p).size≤60:=by rw [ByteArray.size_extract];omega
       have z2:(U.extract (p+1) U.size).size≤60:=by rw [ByteArray.size_extract];omega
       clear hd
       go_wp2_with fail
       generalize U.extract 0 p=U1 at *
       generalize U.extract (p+1) U.size=R1 at *
       have hPB:parseB (B s)=(rightB E (B U1) (B R1)&&(decide (textL (E:Int).toNat (B U1) (B R1)=B s)||decide (48::58::textL (E:Int).toNat (B U1) (B R1)=B s))):=by unfold parseB;rw [←XE.out,←XU.out,←XR.out]
       have HPB:=Lib.hid hPB
       clear hPB
       refine (right_any E U1 R1 _ (by omega) (by omega)).mono ?_
       rintro e' w1 ⟨rfl,hb1⟩
       replace hb1:=hb1.mono (show w.heap.size+2≤_ by simp)
       cases hB:rightB E (B U1) (B R1)
       ·have XV:=Lib.hid (parse_wrong hs (by rw [HPB.out,hB];rfl))
        have tb:=two_boxes hb1
        obtain ⟨⟨c0,c1,c2⟩,⟨g0,g1,g2⟩,⟨e0,e1,e2⟩,s1,b1⟩:=tb
        clear hB
        go_wp2
        obtain ⟨d0,d1,d2,bV⟩:=fin3 (x:=.int .i64 0) (y:=.string { data:=#[] }) (z:=.string { data:=#[] }) b1 c0 c1 c2
        exact bodyPost_ret (v:=.tuple #[.agg #[.int .i64 0,.string { data:=#[] },.string { data:=#[] }],.int .i64 4]) (by simp [results,Tryz.results123,go_sem,d0,d1,d2]) rfl ⟨by rw [XV.out],bV⟩
       ·obtain ⟨q0,q1⟩:=rightB_epoch hB
        have hsz:=rightB_size hB
        have CT0:=Lib.hid (fun w=>text_int E U1 R1 w q0 q1 (by omega) (by omega))
        have hst0:=strEq (textL (E:Int).toNat (B U1) (B R1)) s (textL_lt _ _ _)
        have hzt0:=zero_text (E:Int).toNat U1 R1 s
        obtain ⟨T,hT⟩:∃T:ByteArray,T=mk (textL (E:Int).toNat (B U1) (B R1)):=⟨_,rfl⟩
        have hTs:T.size≤60:=by rw [hT,size_mk];exact hsz
        rw [←hT] at CT0 hst0 hzt0
        have CT:=Lib.hid CT0.out
        clear CT0 hT hsz q0 q1
        have tb:=two_boxes hb1
        obtain ⟨⟨c0,c1,c2⟩,⟨g0,g1,g2⟩,⟨e0,e1,e2⟩,s1,b1⟩:=tb
        by_cases q1:textL (E:Int).toNat (B U1) (B R1)=B s
        ·have XV:=Lib.hid (parse_good hs XE.out XU.out XR.out (by rw [HPB.out,hB,decide_eq_true q1];rfl))
         rw [decide_eq_true q1] at hst0
         clear hB hzt0 q1
         go_wp2_with fail
         refine (CT.out _).mono ?_
         rintro e' w2 ⟨rfl,hb2⟩
         replace hb2:=hb1.trans (hb2.mono s1)
         clear c0 c1 c2 g0 g1 g2 e0 e1 e2 s1 b1
         have tb:=two_boxes hb2
         obtain ⟨⟨c0,c1,c2⟩,⟨g0,g1,g2⟩,⟨e0,e1,e2⟩,s1,b1⟩:=tb
         go_wp2
         obtain ⟨d0,d1,d2,bV⟩:=fin3 (x:=.int .i64 E) (y:=.string U1) (z:=.string R1) b1 c0 c1 c2
         exact bodyPost_ret (v:=.tuple #[.agg #[.int .i64 E,.string U1,.string R1],.int .i64 0]) (by simp [results,Tryz.results123,go_sem,d0,d1,d2]) rfl ⟨by rw [XV.out],bV⟩
        ·rw [decide_eq_false q1] at hst0
         by_cases q2:48::58::textL (E:Int).toNat (B U1) (B R1)=B s
         ·have XV:=Lib.hid (parse_good hs XE.out XU.out XR.out (by rw [HPB.out,hB,decide_eq_true q2];simp))
          rw [decide_eq_true q2] at hzt0
          clear hB q1 q2
          go_wp2_with fail
          refine (CT.out _).mono ?_
          rintro e' w2 ⟨rfl,hb2⟩
          replace hb2:=hb1.trans (hb2.mono s1)
          clear c0 c1 c2 g0 g1 g2 e0 e1 e2 s1 b1
          have tb:=two_boxes hb2
          obtain ⟨⟨c0,c1,c2⟩,⟨g0,g1,g2⟩,⟨e0,e1,e2⟩,s1,b1⟩:=tb
          go_wp2_with fail
          refine (CT.out _).mono ?_
          rintro e' w3 ⟨rfl,hb3⟩
          replace hb3:=hb2.trans (hb3.mono s1)
          clear c0 c1 c2 g0 g1 g2 e0 e1 e2 s1 b1
          have tb:=two_boxes hb3
          obtain ⟨⟨c0,c1,c2⟩,⟨g0,g1,g2⟩,⟨e0,e1,e2⟩,s1,b1⟩:=tb
          go_wp2
          obtain ⟨d0,d1,d2,bV⟩:=fin3 (x:=.int .i64 E) (y:=.string U1) (z:=.string R1) b1 c0 c1 c2
          exact bodyPost_ret (v:=.tuple #[.agg #[.int .i64 E,.string U1,.string R1],.int .i64 0]) (by simp [results,Tryz.results123,go_sem,d0,d1,d2]) rfl ⟨by rw [XV.out],bV⟩
         ·have XV:=Lib.hid (parse_wrong hs (by rw [HPB.out,hB,decide_eq_false q1,decide_eq_false q2];rfl))
          rw [decide_eq_false q2] at hzt0
          clear hB q1 q2
          go_wp2_with fail
          refine (CT.out _).mono ?_
          rintro e' w2 ⟨rfl,hb2⟩
          replace hb2:=hb1.trans (hb2.mono s1)
          clear c0 c1 c2 g0 g1 g2 e0 e1 e2 s1 b1
          have tb:=two_boxes hb2
          obtain ⟨⟨c0,c1,c2⟩,⟨g0,g1,g2⟩,⟨e0,e1,e2⟩,s1,b1⟩:=tb
          go_wp2_with fail
          refine (CT.out _).mono ?_
          rintro e' w3 ⟨rfl,hb3⟩
          replace hb3:=hb2.trans (hb3.mono s1)
          clear c0 c1 c2 g0 g1 g2 e0 e1 e2 s1 b1
          have tb:=two_boxes hb3
          obtain ⟨⟨c0,c1,c2⟩,⟨g0,g1,g2⟩,⟨e0,e1,e2⟩,s1,b1⟩:=tb
          go_wp2
          obtain ⟨d0,d1,d2,bV⟩:=fin3 (x:=.int .i64 0) (y:=.string { data:=#[] }) (z:=.string { data:=#[] }) b1 c0 c1 c2
          exact bodyPost_ret (v:=.tuple #[.agg #[.int .i64 0,.string { data:=#[] },.string { data:=#[] }],.int .i64 4]) (by simp [results,Tryz.results123,go_sem,d0,d1,d2]) rfl ⟨by rw [XV.out],bV⟩
      ·have t1:((U[p].toNat:Int)==45)=false:=by rw [beq_eq_false_iff_ne];omega
       have HL2:=Lib.hid (show lastI (B U) U.size=lastI (B U) p by rw [HL.out,STEP.out,if_neg hd])
       clear hd
       go_wp2
       go_round
       case rel=>exact ⟨p,(p:Int) - 1,by omega,rfl,by go_num,HL2.out⟩
       case measure=>simp [intOf]
   ·have t1:((s[k].toNat:Int)==58)=false:=by rw [beq_eq_false_iff_ne];omega
    have HF2:=Lib.hid (show firstI (B s) 0=firstI ((B s).drop (k+1)) (k+1) by rw [HF.out,STEP.out,if_neg hc])
    clear hc
    go_wp2
    go_round
    case rel=>exact ⟨k+1,by omega,by go_num,HF2.out⟩
    case measure=>simp [intOf];omega
  ·have hfi:firstI (B s) 0=none:=by rw [HF.out,B_drop_end s k (by omega)];rfl
   have XE:=Lib.hid (show (0:Int)=colE (B s) by unfold colE;rw [hfi])
   have XC:=Lib.hid (show B s=colU (B s) by unfold colU;rw [hfi])
   clear hfi
   go_wp2
   go_loop [6] (fun x=>∃(m:Nat) (i:Int),m≤s.size∧i=(m:Int) - 1∧x=.int .i64 i∧lastI (B s) s.size=lastI (B s) m) (fun x=>(intOf x+1).toNat)
   case atStart=>exact ⟨s.size,_,Nat.le_refl _,rfl,congrArg (Value.int .i64) (by omega),rfl⟩
   case round=>
    obtain ⟨m,i,hm,hi,rfl,hl⟩:=hrel
    have HL:=Lib.hid hl
    clear hl
    rcases m with _|p
    ·obtain rfl:i=-1:=by omega
     clear hi
     have XU:=Lib.hid (show B s=dashU (colU (B s)) by rw [←XC.out];unfold dashU;rw [B_len,HL.out];rfl)
     have XR:=Lib.hid (show B { data:=#[] }=dashR (colU (B s)) by rw [←XC.out];unfold dashR;rw [B_len,HL.out];rfl)
     have z2:(ByteArray.mk #[]).size≤60:=by decide
     go_wp2_with fail
     have hPB:parseB (B s)=(rightB 0 (B s) (B { data:=#[] })&&(decide (textL (0:Int).toNat (B s) (B { data:=#[] })=B s)||decide (48::58::textL (0:Int).toNat (B s) (B { data:=#[] })=B s))):=by unfold parseB;rw [←XE.out,←XU.out,←XR.out]
     have HPB:=Lib.hid hPB
     clear hPB
     refine (right_any 0 s { data:=#[] } _ (by omega) (by omega)).mono ?_
     rintro e' w1 ⟨rfl,hb1⟩
     replace hb1:=hb1.mono (show w.heap.size+2≤_ by simp)
     cases hB:rightB 0 (B s) (B { data:=#[] })
     ·have XV:=Lib.hid (parse_wrong hs (by rw [HPB.out,hB];rfl))
      have tb:=two_boxes hb1
      obtain ⟨⟨c0,c1,c2⟩,⟨g0,g1,g2⟩,⟨e0,e1,e2⟩,s1,b1⟩:=tb
      clear hB
      go_wp2
      obtain ⟨d0,d1,d2,bV⟩:=fin3 (x:=.int .i64 0) (y:=.string { data:=#[] }) (z:=.string { data:=#[] }) b1 c0 c1 c2
      exact bodyPost_ret (v:=.tuple #[.agg #[.int .i64 0,.string { data:=#[] },.string { data:=#[] }],.int .i64 4]) (by simp [results,Tryz.results123,go_sem,d0,d1,d2]) rfl ⟨by rw [XV.out],bV⟩
     ·obtain ⟨q0,q1⟩:=rightB_epoch hB
      have hsz:=rightB_size hB
      have CT0:=Lib.hid (fun w=>text_int 0 s { data:=#[] } w q0 q1 (by omega) (by omega))
      have hst0:=strEq (textL (0:Int).toNat (B s) (B { data:=#[] })) s (textL_lt _ _ _)
      have hzt0:=zero_text (0:Int).toNat s { data:=#[] } s
      obtain ⟨T,hT⟩:∃T:ByteArray,T=mk (textL (0:Int).toNat (B s) (B { data:=#[] })):=⟨_,rfl⟩
      have hTs:T.size≤60:=by rw [hT,size_mk];exact hsz
      rw [←hT] at CT0 hst0 hzt0
      have CT:=Lib.hid CT0.out
      clear CT0 hT hsz q0 q1
      have tb:=two_boxes hb1
      obtain ⟨⟨c0,c1,c2⟩,⟨g0,g1,g2⟩,⟨e0,e1,e2⟩,s1,b1⟩:=tb
      by_cases q1:textL (0:Int).toNat (B s) (B { data:=#[] })=B s
      ·have XV:=Lib.hid (parse_good hs XE.out XU.out XR.out (by rw [HPB.out,hB,decide_eq_true q1];rfl))
       rw [decide_eq_true q1] at hst0
       clear hB hzt0 q1
       go_wp2_with fail
       refine (CT.out _).mono ?_
       rintro e' w2 ⟨rfl,hb2⟩
       replace hb2:=hb1.trans (hb2.mono s1)
       clear c0 c1 c2 g0 g1 g2 e0 e1 e2 s1 b1
       have tb:=two_boxes hb2
       obtain ⟨⟨c0,c1,c2⟩,⟨g0,g1,g2⟩,⟨e0,e1,e2⟩,s1,b1⟩:=tb
       go_wp2
       obtain ⟨d0,d1,d2,bV⟩:=fin3 (x:=.int .i64 0) (y:=.string s) (z:=.string { data:=#[] }) b1 c0 c1 c2
       exact bodyPost_ret (v:=.tuple #[.agg #[.int .i64 0,.string s,.string { data:=#[] }],.int .i64 0]) (by simp [results,Tryz.results123,go_sem,d0,d1,d2]) rfl ⟨by rw [XV.out],bV⟩
      ·rw [decide_eq_false q1] at hst0
       by_cases q2:48::58::textL (0:Int).toNat (B s) (B { data:=#[] })=B s
       ·have XV:=Lib.hid (parse_good hs XE.out XU.out XR.out (by rw [HPB.out,hB,decide_eq_true q2];simp))
        rw [decide_eq_true q2] at hzt0
        clear hB q1 q2
        go_wp2_with fail
        refine (CT.out _).mono ?_
        rintro e' w2 ⟨rfl,hb2⟩
        replace hb2:=hb1.trans (hb2.mono s1)
        clear c0 c1 c2 g0 g1 g2 e0 e1 e2 s1 b1
        have tb:=two_boxes hb2
        obtain ⟨⟨c0,c1,c2⟩,⟨g0,g1,g2⟩,⟨e0,e1,e2⟩,s1,b1⟩:=tb
        go_wp2_with fail
        refine (CT.out _).mono ?_
        rintro e' w3 ⟨rfl,hb3⟩
        replace hb3:=hb2.trans (hb3.mono s1)
        clear c0 c1 c2 g0 g1 g2 e0 e1 e2 s1 b1
        have tb:=two_boxes hb3
        obtain ⟨⟨c0,c1,c2⟩,⟨g0,g1,g2⟩,⟨e0,e1,e2⟩,s1,b1⟩:=tb
        go_wp2
        obtain ⟨d0,d1,d2,bV⟩:=fin3 (x:=.int .i64 0) (y:=.string s) (z:=.string { data:=#[] }) b1 c0 c1 c2
        exact bodyPost_ret (v:=.tuple #[.agg #[.int .i64 0,.string s,.string { data:=#[] }],.int .i64 0]) (by simp [results,Tryz.results123,go_sem,d0,d1,d2]) rfl ⟨by rw [XV.out],bV⟩
       ·have XV:=Lib.hid (parse_wrong hs (by rw [HPB.out,hB,decide_eq_false q1,decide_eq_false q2];rfl))
        rw [decide_eq_false q2] at hzt0
        clear hB q1 q2
        go_wp2_with fail
        refine (CT.out _).mono ?_
        rintro e' w2 ⟨rfl,hb2⟩
        replace hb2:=hb1.trans (hb2.mono s1)
        clear c0 c1 c2 g0 g1 g2 e0 e1 e2 s1 b1
        have tb:=two_boxes hb2
        obtain ⟨⟨c0,c1,c2⟩,⟨g0,g1,g2⟩,⟨e0,e1,e2⟩,s1,b1⟩:=tb
        go_wp2_with fail
        refine (CT.out _).mono ?_
        rintro e' w3 ⟨rfl,hb3⟩
        replace hb3:=hb2.trans (hb3.mono s1)
        clear c0 c1 c2 g0 g1 g2 e0 e1 e2 s1 b1
        have tb:=two_boxes hb3
        obtain ⟨⟨c0,c1,c2⟩,⟨g0,g1,g2⟩,⟨e0,e1,e2⟩,s1,b1⟩:=tb
        go_wp2
        obtain ⟨d0,d1,d2,bV⟩:=fin3 (x:=.int .i64 0) (y:=.string { data:=#[] }) (z:=.string { data:=#[] }) b1 c0 c1 c2
        exact bodyPost_ret (v:=.tuple #[.agg #[.int .i64 0,.string { data:=#[] },.string { data:=#[] }],.int .i64 4]) (by simp [results,Tryz.results123,go_sem,d0,d1,d2]) rfl ⟨by rw [XV.out],bV⟩
    ·obtain rfl:i=(p:Int):=by omega
     clear hi
     have hp:p < s.size:=by omega
     have STEP:=Lib.hid (lastI_step (s:=s) hp)
     by_cases hd:s[p].toNat=45
     ·have t1:((s[p].toNat:Int)==45)=true:=by rw [beq_iff_eq];omega
      have XU:=Lib.hid (show B (s.extract 0 p)=dashU (colU (B s)) by rw [←XC.out,B_extract];unfold dashU;rw [B_len,HL.out,STEP.out,if_pos hd];simp)
      have XR:=Lib.hid (show B (s.extract (p+1) s.size)=dashR (colU (B s)) by rw [←XC.out,B_extract];unfold dashR;rw [B_len,HL.out,STEP.out,if_pos hd,List.take_of_length_le (by rw [List.length_drop,B_len];omega)])
      have z1:(s.extract 0 p).size≤60:=by rw [ByteArray.size_extract];omega
      have z2:(s.extract (p+1) s.size).size≤60:=by rw [ByteArray.size_extract];omega
      clear hd
      go_wp2_with fail
      generalize s.extract 0 p=U1 at *
      generalize s.extract (p+1) s.size=R1 at *
      have hPB:parseB (B s)=(rightB 0 (B U1) (B R1)&&(decide (textL (0:Int).toNat (B U1) (B R1)=B s)||decide (48::58::textL (0:Int).toNat (B U1) (B R1)=B s))):=by unfold parseB;rw [←XE.out,←XU.out,←XR.out]
      have HPB:=Lib.hid hPB
      clear hPB
      refine (right_any 0 U1 R1 _ (by omega) (by omega)).mono ?_
      rintro e' w1 ⟨rfl,hb1⟩
      replace hb1:=hb1.mono (show w.heap.size+2≤_ by simp)
      cases hB:rightB 0 (B U1) (B R1)
      ·have XV:=Lib.hid (parse_wrong hs (by rw [HPB.out,hB];rfl))
       have tb:=two_boxes hb1
       obtain ⟨⟨c0,c1,c2⟩,⟨g0,g1,g2⟩,⟨e0,e1,e2⟩,s1,b1⟩:=tb
       clear hB
       go_wp2
       obtain ⟨d0,d1,d2,bV⟩:=fin3 (x:=.int .i64 0) (y:=.string { data:=#[] }) (z:=.string { data:=#[] }) b1 c0 c1 c2
       exact bodyPost_ret (v:=.tuple #[.agg #[.int .i64 0,.string { data:=#[] },.string { data:=#[] }],.int .i64 4]) (by simp [results,Tryz.results123,go_sem,d0,d1,d2]) rfl ⟨by rw [XV.out],bV⟩
      ·obtain ⟨q0,q1⟩:=rightB_epoch hB
       have hsz:=rightB_size hB
       have CT0:=Lib.hid (fun w=>text_int 0 U1 R1 w q0 q1 (by omega) (by omega))
       have hst0:=strEq (textL (0:Int).toNat (B U1) (B R1)) s (textL_lt _ _ _)
       have hzt0:=zero_text (0:Int).toNat U1 R1 s
       obtain ⟨T,hT⟩:∃T:ByteArray,T=mk (textL (0:Int).toNat (B U1) (B R1)):=⟨_,rfl⟩
       have hTs:T.size≤60:=by rw [hT,size_mk];exact hsz
       rw [←hT] at CT0 hst0 hzt0
       have CT:=Lib.hid CT0.out
       clear CT0 hT hsz q0 q1
       have tb:=two_boxes hb1
       obtain ⟨⟨c0,c1,c2⟩,⟨g0,g1,g2⟩,⟨e0,e1,e2⟩,s1,b1⟩:=tb
       by_cases q1:textL (0:Int).toNat (B U1) (B R1)=B s
       ·have XV:=Lib.hid (parse_good hs XE.out XU.out XR.out (by rw [HPB.out,hB,decide_eq_true q1];rfl))
        rw [decide_eq_true q1] at hst0
        clear hB hzt0 q1
        go_wp2_with fail
        refine (CT.out _).mono ?_
        rintro e' w2 ⟨rfl,hb2⟩
        replace hb2:=hb1.trans (hb2.mono s1)
        clear c0 c1 c2 g0 g1 g2 e0 e1 e2 s1 b1
        have tb:=two_boxes hb2
        obtain ⟨⟨c0,c1,c2⟩,⟨g0,g1,g2⟩,⟨e0,e1,e2⟩,s1,b1⟩:=tb
        go_wp2
        obtain ⟨d0,d1,d2,bV⟩:=fin3 (x:=.int .i64 0) (y:=.string U1) (z:=.string R1) b1 c0 c1 c2
        exact bodyPost_ret (v:=.tuple #[.agg #[.int .i64 0,.string U1,.string R1],.int .i64 0]) (by simp [results,Tryz.results123,go_sem,d0,d1,d2]) rfl ⟨by rw [XV.out],bV⟩
       ·rw [decide_eq_false q1] at hst0
        by_cases q2:48::58::textL (0:Int).toNat (B U1) (B R1)=B s
        ·have XV:=Lib.hid (parse_good hs XE.out XU.out XR.out (by rw [HPB.out,hB,decide_eq_true q2];simp))
         rw [decide_eq_true q2] at hzt0
         clear hB q1 q2
         go_wp2_with fail
         refine (CT.out _).mono ?_
         rintro e' w2 ⟨rfl,hb2⟩
         replace hb2:=hb1.trans (hb2.mono s1)
         clear c0 c1 c2 g0 g1 g2 e0 e1 e2 s1 b1
         have tb:=two_boxes hb2
         obtain ⟨⟨c0,c1,c2⟩,⟨g0,g1,g2⟩,⟨e0,e1,e2⟩,s1,b1⟩:=tb
         go_wp2_with fail
         refine (CT.out _).mono ?_
         rintro e' w3 ⟨rfl,hb3⟩
         replace hb3:=hb2.trans (hb3.mono s1)
         clear c0 c1 c2 g0 g1 g2 e0 e1 e2 s1 b1
         have tb:=two_boxes hb3
         obtain ⟨⟨c0,c1,c2⟩,⟨g0,g1,g2⟩,⟨e0,e1,e2⟩,s1,b1⟩:=tb
         go_wp2
         obtain ⟨d0,d1,d2,bV⟩:=fin3 (x:=.int .i64 0) (y:=.string U1) (z:=.string R1) b1 c0 c1 c2
         exact bodyPost_ret (v:=.tuple #[.agg #[.int .i64 0,.string U1,.string R1],.int .i64 0]) (by simp [results,Tryz.results123,go_sem,d0,d1,d2]) rfl ⟨by rw [XV.out],bV⟩
        ·have XV:=Lib.hid (parse_wrong hs (by rw [HPB.out,hB,decide_eq_false q1,decide_eq_false q2];rfl))
         rw [decide_eq_false q2] at hzt0
         clear hB q1 q2
         go_wp2_with fail
         refine (CT.out _).mono ?_
         rintro e' w2 ⟨rfl,hb2⟩
         replace hb2:=hb1.trans (hb2.mono s1)
         clear c0 c1 c2 g0 g1 g2 e0 e1 e2 s1 b1
         have tb:=two_boxes hb2
         obtain ⟨⟨c0,c1,c2⟩,⟨g0,g1,g2⟩,⟨e0,e1,e2⟩,s1,b1⟩:=tb
         go_wp2_with fail
         refine (CT.out _).mono ?_
         rintro e' w3 ⟨rfl,hb3⟩
         replace hb3:=hb2.trans (hb3.mono s1)
         clear c0 c1 c2 g0 g1 g2 e0 e1 e2 s1 b1
         have tb:=two_boxes hb3
         obtain ⟨⟨c0,c1,c2⟩,⟨g0,g1,g2⟩,⟨e0,e1,e2⟩,s1,b1⟩:=tb
         go_wp2
         obtain ⟨d0,d1,d2,bV⟩:=fin3 (x:=.int .i64 0) (y:=.string { data:=#[] }) (z:=.string { data:=#[] }) b1 c0 c1 c2
         exact bodyPost_ret (v:=.tuple #[.agg #[.int .i64 0,.string { data:=#[] },.string { data:=#[] }],.int .i64 4]) (by simp [results,Tryz.results123,go_sem,d0,d1,d2]) rfl ⟨by rw [XV.out],bV⟩
     ·have t1:((s[p].toNat:Int)==45)=false:=by rw [beq_eq_false_iff_ne];omega
      have HL2:=Lib.hid (show lastI (B s) s.size=lastI (B s) p by rw [HL.out,STEP.out,if_neg hd])
      clear hd
      go_wp2
      go_round
      case rel=>exact ⟨p,(p:Int) - 1,by omega,rfl,by go_num,HL2.out⟩
      case measure=>simp [intOf]
theorem parse_any (s:ByteArray) (w:World) :
  Calls Tryz.prog 123 #[.string s] w fun e' w'=>e'=.returned (parseV s)∧Below w.heap.size w w':=by
 by_cases h:s.size≤60
 ·exact parse_short s w h
 ·exact parse_long s w (by omega)
theorem parse_opened (s:ByteArray):∃(E e:Int) (U R:ByteArray),E=parse1 (B s)∧e=parseE (B s)∧B U=parse2 (B s)∧B R=parse3 (B s)∧U.size≤60∧R.size≤60∧
  ∀w,Calls Tryz.prog 123 #[.string s] w fun e' w'=>e'=.returned (.tuple #[.agg #[.int .i64 E,.string U,.string R],.int .i64 e])∧Below w.heap.size w w':=
 ⟨_,_,_,_,rfl,rfl,B_mk (parse2_lt s),B_mk (parse3_lt s),by rw [size_mk];exact parse2_len _,by rw [size_mk];exact parse3_len _,fun w=>parse_any s w⟩
set_option maxHeartbeats 8000000 in
theorem q6given_any (A:Option Addr) (n c:Nat) (l:List Atm) (w:World) (h:rdAtms w (lt_ w.heap.size) l [.slice A n c]) :
  Calls Tryz.prog 71 #[.slice A n c] w fun e w'=>e=.returned (.bool (givs6 l))∧w=w':=by
 obtain ⟨rfl,hnc,hcm,hat⟩:=rdAtms_at h
 have hcm':c≤9223372036854775807:=hcm
 have HAT:=Lib.hid hat
 clear h hat hcm
 go_enter Tryz.func71,Tryz.ntmps71
 go_wp2
 go_loop [3] (fun i=>∃k:Nat,k≤l.length∧i=.int .i64 k∧(l.take k).all giv6=true) (fun i=>l.length - (intOf i).toNat)
 case atStart=>exact ⟨0,Nat.zero_le _,rfl,rfl⟩
 case round=>
  obtain ⟨k,hk,rfl,hall⟩:=hrel
  have HA:=Lib.hid hall
  clear hall
  by_cases hlt:k < l.length
  ·obtain ⟨ad,rfl,had,h0,h1,h2⟩:=HAT.out k hlt
   have i0:(0:Int)≤(k:Int):=by omega
   have i1:(k:Int) < (l.length:Int):=by omega
   have ST:=Lib.hid (fun hf=>all_step6 (f:=giv6) hlt HA.out hf)
   have SP:=Lib.hid (fun hf=>all_stop6 (f:=giv6) hlt hf)
   have G:=Lib.hid (show giv6 l[k]=(l[k].o==0||l[k].o==3) from rfl)
   clear had h0 h2
   generalize l[k]=x at *
   rcases (by
    by_cases g0:x.o=0
    ·exact .inl g0
    ·by_cases g3:x.o=3
     ·exact .inr (.inl ⟨g0,g3⟩)
     ·exact .inr (.inr ⟨g0,g3⟩):x.o=0∨(x.o≠0∧x.o=3)∨(x.o≠0∧x.o≠3)) with g|⟨g,g'⟩|⟨g,g'⟩
   ·have t1:(x.o != 0)=false:=by rw [g];rfl
    have NX:=Lib.hid (ST.out (by rw [G.out,g];rfl))
    clear g
    go_wp2
    go_round
    case rel=>exact ⟨k+1,by omega,by go_num,NX.out⟩
    case measure=>simp [intOf];omega
   ·have t1:(x.o != 0)=true:=by rw [g'];rfl
    have t2:(x.o != 3)=false:=by rw [g'];rfl
    have NX:=Lib.hid (ST.out (by rw [G.out,g'];rfl))
    clear g g'
    go_wp2
    go_round
    case rel=>exact ⟨k+1,by omega,by go_num,NX.out⟩
    case measure=>simp [intOf];omega
   ·have t1:(x.o != 0)=true:=by rw [bne_iff_ne];exact g
    have t2:(x.o != 3)=true:=by rw [bne_iff_ne];exact g'
    have XX:=Lib.hid (show givs6 l=false from SP.out (by rw [G.out,beq_eq_false_iff_ne.2 g,beq_eq_false_iff_ne.2 g'];rfl))
    clear g g'
    go_wp2
    go_ret
    exact ⟨by rw [XX.out];try rfl,rfl⟩
  ·obtain rfl:k=l.length:=by omega
   have FIN:=Lib.hid (show givs6 l=true by have:=HA.out;rw [List.take_length] at this;exact this)
   go_wp2
   go_ret
   exact ⟨by rw [FIN.out];try rfl,rfl⟩
theorem printL_lt6 (e:Int) (u r:ByteArray):∀c ∈ printL e (B u) (B r),c < 256:=by
 unfold printL
 split
 ·exact textL_lt _ u r
 ·intro c hc;cases hc
set_option maxHeartbeats 2000000 in
theorem q6plain_any (s:ByteArray) (w:World):Calls Tryz.prog 68 #[.string s] w fun e' w'=>e'=.returned (.bool (prB (B s)))∧Below w.heap.size w w':=by
 obtain ⟨ep,e,U,R,h1,h2,h3,h4,z2,z3,cp⟩:=parse_opened s
 have X:prB (B s)=(decide (e=0)&&decide (printL ep (B U) (B R)=B s)):=by unfold prB;rw [h1,h2,h3,h4]
 have CP:=Lib.hid (cp)
 have CT:=Lib.hid (fun w=>print_any ep U R w (by omega) (by omega))
 have hst:=strEq (printL ep (B U) (B R)) s (printL_lt6 ep U R)
 clear cp h1 h2 h3 h4
 by_cases he:e=0
 ·have t1:(e==0)=true:=by rw [beq_iff_eq];exact he
  rw [decide_eq_true he,Bool.true_and] at X
  rw [←X] at hst
  generalize prB (B s)=b at *
  generalize mk (printL ep (B U) (B R))=T at *
  clear X
  go_enter Tryz.func68,Tryz.ntmps68
  go_wp2_with fail
  refine (CP.out _).mono ?_
  rintro e' w1 ⟨rfl,hb1⟩
  have B1:=Lib.hid (show Below w.heap.size w (w1.alloc (.cells #[.int .i64 ep,.string U,.string R] 151)) from hb1.alloc hb1.size _)
  clear hb1
  go_wp2_with fail
  refine (CT.out _).mono ?_
  rintro e' w2 ⟨rfl,hb2⟩
  have B2:=Lib.hid (B1.out.trans (hb2.mono B1.out.size))
  clear hb2
  go_wp2
  go_ret
  exact ⟨rfl,B2.out⟩
 ·have t1:(e==0)=false:=by rw [beq_eq_false_iff_ne];exact he
  rw [decide_eq_false he,Bool.false_and] at X
  have XX:=Lib.hid X
  clear X hst CT he
  go_enter Tryz.func68,Tryz.ntmps68
  go_wp2_with fail
  refine (CP.out _).mono ?_
  rintro e' w1 ⟨rfl,hb1⟩
  have B1:=Lib.hid (show Below w.heap.size w (w1.alloc (.cells #[.int .i64 ep,.string U,.string R] 151)) from hb1.alloc hb1.size _)
  clear hb1
  go_wp2
  go_ret
  exact ⟨by rw [XX.out];rfl,B1.out⟩
def okF (l:List Nat) (j:Nat):Bool:=letB (l.getD j 0)||(decide (0 < j)&&(digB (l.getD j 0)||decide (l.getD j 0=45)))
theorem fn_all {r:List Nat} (h:∀j,j < r.length→nmC (r.getD j 0)=true):r.all nmC=true:=by
 rw [List.all_eq_true]
 intro x hx
 obtain ⟨j,hj,rfl⟩:=List.getElem_of_mem hx
 have:=h j hj
 rwa [List.getD_eq_getElem?_getD,List.getElem?_eq_getElem hj] at this
theorem fn_no {l:List Nat} {k:Nat} (hk:k < l.length) (h:okF l k=false):fnB l=false:=by
 cases l with
 | nil=>rfl
 | cons c r=>
  unfold okF at h
  rw [Bool.or_eq_false_iff] at h
  cases k with
  | zero=>
   have h1:=h.1
   simp only [List.getD_cons_zero] at h1
   rw [fnB_cons]
   rw [h1];rfl
  | succ k=>
   simp only [List.getD_cons_succ] at h
   have hn:nmC (r.getD k 0)=false:=by
    unfold nmC
    have h2:=h.2
    rw [decide_eq_true (Nat.succ_pos k),Bool.true_and] at h2
    rw [Bool.or_assoc,h2,Bool.or_false];exact h.1
   have:r.all nmC=false:=by
    rw [List.all_eq_false]
    have hk':k < r.length:=by simpa using hk
    exact ⟨r[k],List.getElem_mem hk',by rw [List.getD_eq_getElem?_getD,List.getElem?_eq_getElem hk'] at hn;simp only [Option.getD_some] at hn;rw [hn];decide⟩
   rw [fnB_cons]
   rw [this,Bool.and_false,Bool.false_and]
theorem fn_yes {l:List Nat} (h:∀j,j < l.length→okF l j=true):fnB l=(decide (1≤l.length)&&decide (l.length≤40)):=by
 cases l with
 | nil=>rfl
 | cons c r=>
  have h0:=h 0 (by simp)
  unfold okF at h0
  simp only [List.getD_cons_zero,decide_eq_false (Nat.lt_irrefl 0),Bool.false_and,Bool.or_false] at h0
  have ha:r.all nmC=true:=fn_all fun j hj=>by
   have:=h (j+1) (by simpa using hj)
   unfold okF at this
   simp only [List.getD_cons_succ,decide_eq_true (Nat.succ_pos j),Bool.true_and] at this
   unfold nmC
   rw [Bool.or_assoc];exact this
  rw [fnB_cons]
  rw [h0,ha]
  simp
  omega
theorem own_strs {T:Nat→Prop} {w:World} {base:Nat} {e:TypeId} {v:Value} {l:List (List Nat)} (h:Grow rdStr 1 T w base e v l):rdStrs w (fun b=>base≤b∧b < w.heap.size) l [v]:=by
 have h2:Grow rdStr 1 (fun _=>False) w base e v l:=h.flat fun _ _ _ _ _ h=>h
 exact rdStrs_good.more (h2.reads rdStr_good) fun b hb=>⟨hb.2.resolve_right id,hb.1⟩
set_option maxHeartbeats 1000000 in
theorem q5lines_any (s:ByteArray) (w:World) (hs:s.size≤65536) :
  Calls Tryz.prog 64 #[.string s] w fun e w'=>(∃A n cp,e=.returned (.slice A n cp)∧rdStrs w' (fun b=>w.heap.size≤b∧b < w'.heap.size) (cutBy 10 (B s)) [.slice A n cp])∧Below w.heap.size w w':=by
 obtain ⟨i0,hi,hz0,hz1,hz2⟩:=info_parts str_info
 have hlen:=B_len s
 go_enter Tryz.func64,Tryz.ntmps64
 go_wp2
 go_loopw [3,4,5] (fun v f i wr=>∃(out:List (List Nat)) (fr k:Nat),k≤s.size∧i=.int .i64 k∧f=.int .i64 fr∧PcInv 10 (B s) out fr k∧Grow rdStr 1 (fun _=>True) wr w.heap.size 9 v out∧Below w.heap.size w wr) (fun _ _ i _=>s.size - (intOf i).toNat)
 case atStart=>exact ⟨[],0,0,Nat.zero_le _,rfl,rfl,pc_start _ _,Grow.nil _ _ _ _,Below.refl _ _⟩
 case round=>
  obtain ⟨out,fr,k,hk,rfl,rfl,hP,hG,hbel⟩:=hrel
  have hfr:=hP.1
  have hol:=pc_len hP
  rw [hlen] at hol
  by_cases hlt:k < s.size
  ·have hgd:=B_getD s k hlt
   have hb256:=byte_le s k hlt
   have hPC:=Lib.hid (fun h=>pc_cut (c:=10) hP (by rw [hlen];exact hlt) h)
   have hPO:=Lib.hid (fun h=>pc_on (c:=10) hP (by rw [hlen];exact hlt) h)
   rw [hgd] at hPC hPO
   have HB:=Lib.hid hbel
   have hbs:=hbel.size
   clear hP hbel hgd
   by_cases he:s[k].toNat=10
   ·have hd:((s[k].toNat:Int)==10)=true:=by rw [beq_iff_eq];omega
    have PC:=Lib.hid (hPC.out he)
    clear hPC hPO he
    have hE:=(show rdStr wr (fun b=>True∧b < wr.heap.size∧u3.ownBlock≠some b) (((B s).drop fr).take (k - fr)) (#[Value.string (s.extract fr k)]:Array Value).toList from ⟨_,rfl,B_extract s fr k⟩)
    have hn1:out.length+1≤maxLen:=by unfold maxLen;omega
    have hn2:(out.length+1)*16≤140737488355328:=by omega
    go_wp2_with (at_builtin;refine wpList_grow1 _ rfl _ _ 45 rfl rdStr_good (by decide) (fun _=>True) w.heap.size 9 i0 (.string { data:=#[] }) 16 Tryz.underlying45 hi hz0 hz1 hz2 rfl _ out rfl hG _ _ 9 hE _ rfl rfl hn1 hn2 hbs ?_)
    intro v' w' hG' hgr
    have HB':=Lib.hid (grow_below hG hgr HB.out (Nat.le_refl _) hbs)
    clear hG hgr hE
    go_wp2
    go_roundw
    case rel=>exact ⟨_,k+1,k+1,by omega,by go_num,by go_num,PC.out,hG',HB'.out⟩
    case measure=>first|(simp [intOf];omega)|simp [intOf]
   ·have hd:((s[k].toNat:Int)==10)=false:=by rw [beq_eq_false_iff_ne];omega
    have PC:=Lib.hid (hPO.out he)
    clear hPC hPO he
    go_wp2
    go_roundw
    case rel=>exact ⟨_,fr,k+1,by omega,by go_num,rfl,PC.out,hG,HB.out⟩
    case measure=>first|(simp [intOf];omega)|simp [intOf]
  ·obtain rfl:k=s.size:=by omega
   have PE:=Lib.hid (show cutBy 10 (B s)=out++[(B s).drop fr] from pc_end (by rw [hlen];exact hP))
   have hE:=(show rdStr wr (fun b=>True∧b < wr.heap.size∧u3.ownBlock≠some b) ((B s).drop fr) (#[Value.string (s.extract fr s.size)]:Array Value).toList from ⟨_,rfl,by rw [B_extract,List.take_of_length_le (by rw [List.length_drop,hlen];omega)]⟩)
   have hn1:out.length+1≤maxLen:=by unfold maxLen;omega
   have hn2:(out.length+1)*16≤140737488355328:=by omega
   have HB:=Lib.hid hbel
   have hbs:=hbel.size
   clear hP hbel
   go_wp2_with (at_builtin;refine wpList_grow1 _ rfl _ _ 45 rfl rdStr_good (by decide) (fun _=>True) w.heap.size 9 i0 (.string { data:=#[] }) 16 Tryz.underlying45 hi hz0 hz1 hz2 rfl _ out rfl hG _ _ 9 hE _ rfl rfl hn1 hn2 hbs ?_)
   intro v' w' hG' hgr
   have HB':=Lib.hid (grow_below hG hgr HB.out (Nat.le_refl _) hbs)
   clear hG hgr hE
   obtain ⟨A,cp,rfl,_,_⟩:=hG'.own
   go_wp2
   go_ret
   exact ⟨⟨_,_,_,rfl,by rw [PE.out];exact own_strs hG'⟩,HB'.out⟩
set_option maxHeartbeats 1000000 in
theorem q5clean_any (s:ByteArray) (w:World) (hs:s.size≤maxLen):Calls Tryz.prog 120 #[.string s] w fun e w'=>e=.returned (.bool (!lowB (B s)))∧w=w':=by
 unfold maxLen at hs
 go_enter Tryz.func120,Tryz.ntmps120
 go_wp2
 go_loop [3] (fun i=>∃k:Nat,k≤s.size∧i=.int .i64 k∧lowB (B s)=lowB ((B s).drop k)) (fun i=>s.size - (intOf i).toNat)
 case atStart=>exact ⟨0,Nat.zero_le _,rfl,rfl⟩
 case round=>
  obtain ⟨k,hk,rfl,hl⟩:=hrel
  have HL:=Lib.hid hl
  clear hl
  by_cases hlt:k < s.size
  ·have BD:=Lib.hid (B_drop s k hlt)
   have hb:=byte_le s k hlt
   by_cases h32:s[k].toNat < 32
   ·have hd:(s[k].toNat:Int) < 32:=by omega
    have X:=Lib.hid (show lowB (B s)=true by rw [HL.out,BD.out,low_cons,decide_eq_true h32];rfl)
    clear h32
    go_wp2
    go_ret
    exact ⟨by rw [X.out];rfl,rfl⟩
   ·have hd:¬(s[k].toNat:Int) < 32:=by omega
    have X:=Lib.hid (show lowB (B s)=lowB ((B s).drop (k+1)) by rw [HL.out,BD.out,low_cons,decide_eq_false h32];rfl)
    clear h32
    go_wp2
    go_round
    case rel=>exact ⟨k+1,by omega,by go_num,X.out⟩
    case measure=>simp [intOf];omega
  ·have X:=Lib.hid (show lowB (B s)=false by rw [HL.out,B_drop_end s k (by omega)];rfl)
   go_wp2
   go_ret
   exact ⟨by rw [X.out];rfl,rfl⟩
theorem okF_at {s:ByteArray} {k:Nat} (hk:k < s.size):okF (B s) k=(letB s[k].toNat||(decide (0 < k)&&(digB s[k].toNat||decide (s[k].toNat=45)))):=by
 unfold okF
 rw [B_getD s k hk]
set_option maxHeartbeats 1000000 in
theorem q5name_any (s:ByteArray) (w:World) (hs:s.size≤maxLen):Calls Tryz.prog 174 #[.string s] w fun e w'=>e=.returned (.bool (fnB (B s)))∧w=w':=by
 unfold maxLen at hs
 have hlen:=B_len s
 go_enter Tryz.func174,Tryz.ntmps174
 go_wp2
 go_loop [3] (fun x=>∃k:Nat,k≤s.size∧x=.int .i64 k∧∀j,j < k→okF (B s) j=true) (fun x=>s.size - (intOf x).toNat)
 case atStart=>exact ⟨0,Nat.zero_le _,rfl,fun j hj=>by omega⟩
 case round=>
  obtain ⟨k,hk,rfl,hno⟩:=hrel
  have HN:=Lib.hid hno
  clear hno
  by_cases hlt:k < s.size
  ·have XN:=Lib.hid (fun h=>fn_no (l:=B s) (k:=k) (by rw [hlen];exact hlt) h)
   have OK:=Lib.hid (okF_at hlt)
   have KL:=Lib.hid (fun w=>Letter_any s[k].toNat w)
   have KD:=Lib.hid (fun w=>Digit_any s[k].toNat w)
   have hb:=byte_le s k hlt
   cases hl:letB s[k].toNat
   ·rw [hl] at KL OK
    clear hl
    rcases Nat.eq_zero_or_pos k with rfl|hk0
    ·have X:=Lib.hid (XN.out (by rw [OK.out];rfl))
     go_wp2_with (go_at_call 205;(with_reducible refine (KL.out _).mono ?_);rintro e w' ⟨rfl,rfl⟩)
     go_ret
     exact ⟨by rw [X.out];rfl,rfl⟩
    ·have k0:((k:Int)==0)=false:=by rw [beq_eq_false_iff_ne];omega
     cases hdg:digB s[k].toNat
     ·rw [hdg] at KD OK
      clear hdg
      by_cases h45:s[k].toNat=45
      ·have p1:((s[k].toNat:Int) != 45)=false:=by rw [h45];rfl
       have Y:=Lib.hid (show okF (B s) k=true by rw [OK.out,decide_eq_true hk0,decide_eq_true h45];rfl)
       clear h45
       go_wp2_with (first|(go_at_call 205;(with_reducible refine (KL.out _).mono ?_);rintro e w' ⟨rfl,rfl⟩)|(go_at_call 122;(with_reducible refine (KD.out _).mono ?_);rintro e w' ⟨rfl,rfl⟩))
       go_round
       case rel=>exact ⟨k+1,by omega,by go_num,fun j hj=>by rcases (by omega:j < k∨j=k) with h|rfl;exact HN.out j h;exact Y.out⟩
       case measure=>simp [intOf];omega
      ·have p1:((s[k].toNat:Int) != 45)=true:=by rw [bne_iff_ne];omega
       have X:=Lib.hid (XN.out (by rw [OK.out,decide_eq_false h45];simp))
       clear h45
       go_wp2_with (first|(go_at_call 205;(with_reducible refine (KL.out _).mono ?_);rintro e w' ⟨rfl,rfl⟩)|(go_at_call 122;(with_reducible refine (KD.out _).mono ?_);rintro e w' ⟨rfl,rfl⟩))
       go_ret
       exact ⟨by rw [X.out];rfl,rfl⟩
     ·rw [hdg] at KD OK
      clear hdg
      have Y:=Lib.hid (show okF (B s) k=true by rw [OK.out,decide_eq_true hk0];rfl)
      go_wp2_with (first|(go_at_call 205;(with_reducible refine (KL.out _).mono ?_);rintro e w' ⟨rfl,rfl⟩)|(go_at_call 122;(with_reducible refine (KD.out _).mono ?_);rintro e w' ⟨rfl,rfl⟩))
      go_round
      case rel=>exact ⟨k+1,by omega,by go_num,fun j hj=>by rcases (by omega:j < k∨j=k) with h|rfl;exact HN.out j h;exact Y.out⟩
      case measure=>simp [intOf];omega
   ·rw [hl] at KL OK
    clear hl
    have Y:=Lib.hid (show okF (B s) k=true by rw [OK.out];rfl)
    go_wp2_with (go_at_call 205;(with_reducible refine (KL.out _).mono ?_);rintro e w' ⟨rfl,rfl⟩)
    go_round
    case rel=>exact ⟨k+1,by omega,by go_num,fun j hj=>by rcases (by omega:j < k∨j=k) with h|rfl;exact HN.out j h;exact Y.out⟩
    case measure=>simp [intOf];omega
  ·obtain rfl:k=s.size:=by omega
   have X:=Lib.hid (fn_yes (l:=B s) (by rw [hlen];exact HN.out))
   rw [hlen] at X
   by_cases h1:1≤s.size
   ·by_cases h40:s.size≤40
    ·have i1:(1:Int)≤s.size:=by omega
     have i2:(s.size:Int)≤40:=by omega
     rw [decide_eq_true h1,decide_eq_true h40] at X
     clear h1 h40
     go_wp2
     go_ret
     exact ⟨by rw [X.out];rfl,rfl⟩
    ·have i1:(1:Int)≤s.size:=by omega
     have i2:decide ((s.size:Int)≤40)=false:=by rw [decide_eq_false_iff_not];omega
     rw [decide_eq_true h1,decide_eq_false h40] at X
     clear h1 h40
     go_wp2
     go_ret
     exact ⟨by rw [X.out];rfl,rfl⟩
   ·have i1:decide ((1:Int)≤s.size)=false:=by rw [decide_eq_false_iff_not];omega
    rw [decide_eq_false h1] at X
    clear h1
    go_wp2
    go_ret
    exact ⟨by rw [X.out];rfl,rfl⟩
end Go.Proofs.YtboinnjncaehkaaGreatDoor
