/- What the laws rest on: E6f, E6g, E6h, S5b, S5c, E7l. -/
import Derived.Test.YtboinnjncaehkaaGreatDoorQAKZA
import Derived.Test.YtboinnjncaehkaaGreatDoorQAMZA
set_option maxRecDepth 100000
set_option linter.unusedVariables false
set_option linter.unusedSimpArgs false
namespace Go.Proofs.YtboinnjncaehkaaGreatDoor
open Go.RowKit
set_option maxHeartbeats 8000000 in
theorem q6atoms_any (KA:∀(x:Atm) (w:World),x.n.size≤65536→Calls Tryz.prog 134 #[.agg #[.string x.n,.int .i64 x.o,.string x.v]] w fun e' w'=>e'=.returned (.bool (rgt x))∧Below w.heap.size w w') (A:Option Addr) (n c:Nat) (l:List Atm) (w:World) (h:rdAtms w (lt_ w.heap.size) l [.slice A n c]) (hz:∀a ∈ l,a.n.size≤65536) :
  Calls Tryz.prog 79 #[.slice A n c] w fun e w'=>e=.returned (.bool (l.all rgt))∧Below w.heap.size w w':=by
 obtain ⟨rfl,hnc,hcm,_⟩:=rdAtms_at h
 have hcm':c≤9223372036854775807:=hcm
 have KA:=Lib.hid KA
 have HZ:=Lib.hid hz
 clear hz hcm
 go_enter Tryz.func79,Tryz.ntmps79
 go_wp2
 go_loopw [3] (fun i wr=>∃k:Nat,k≤l.length∧i=.int .i64 k∧(l.take k).all rgt=true∧Below w.heap.size w wr) (fun i _=>l.length - (intOf i).toNat)
 case atStart=>exact ⟨0,Nat.zero_le _,rfl,rfl,Below.refl _ _⟩
 case round=>
  obtain ⟨k,hk,rfl,hall,hbel⟩:=hrel
  have HA:=Lib.hid hall
  have HB:=Lib.hid hbel
  clear hall
  by_cases hlt:k < l.length
  ·obtain ⟨_,_,_,hat⟩:=rdAtms_at (rdAtms_good.below h hbel)
   obtain ⟨ad,rfl,had,h0,h1,h2⟩:=hat k hlt
   have i0:(0:Int)≤(k:Int):=by omega
   have i1:(k:Int) < (l.length:Int):=by omega
   have ST:=Lib.hid (fun hf=>all_step6 (f:=rgt) hlt HA.out hf)
   have SP:=Lib.hid (fun hf=>all_stop6 (f:=rgt) hlt hf)
   have K:=Lib.hid (fun W=>KA.out l[k] W (HZ.out _ (List.getElem_mem hlt)))
   clear had hat hbel h
   generalize l[k]=x at *
   generalize rgt x=b at *
   go_wp2_with fail
   refine (K.out _).mono ?_
   rintro e w' ⟨rfl,hb⟩
   have HB2:=Lib.hid (HB.out.trans (hb.mono HB.out.size))
   clear hb h0 h1 h2
   cases b
   ·have XX:=Lib.hid (SP.out rfl)
    go_wp2
    go_ret
    exact ⟨by rw [XX.out];try rfl,HB2.out⟩
   have NX:=Lib.hid (ST.out rfl)
   go_wp2
   go_roundw
   case rel=>exact ⟨k+1,by omega,by go_num,NX.out,HB2.out⟩
   case measure=>simp [intOf];omega
  ·obtain rfl:k=l.length:=by omega
   have FIN:=Lib.hid (show l.all rgt=true by have:=HA.out;rw [List.take_length] at this;exact this)
   clear h hbel
   go_wp2
   go_ret
   exact ⟨by rw [FIN.out];try rfl,HB.out⟩
def Sz (x:Ent):Prop:=x.n.size≤65536∧(∀g ∈ x.d,∀a ∈ g,a.n.size≤65536)∧(∀g ∈ x.r,∀a ∈ g,a.n.size≤65536)∧(∀a ∈ x.c,a.n.size≤65536)∧(∀a ∈ x.p,a.n.size≤65536)
theorem Sm.sz {x:Ent} (h:Sm x):Sz x:=by
 obtain ⟨hc,hp,hn,hv,_,_,hd,hr⟩:=h
 exact ⟨by omega,fun g hg a ha=>by have:=(hd g hg).2 a ha;omega,fun g hg a ha=>by have:=(hr g hg).2 a ha;omega,fun a ha=>by have:=hc.2 a ha;omega,fun a ha=>by have:=hp.2 a ha;omega⟩
set_option maxHeartbeats 8000000 in
theorem q6right_any (KN:∀(s:ByteArray) (w:World),s.size≤65536→Calls Tryz.prog 67 #[.string s] w fun e w'=>e=.returned (.bool (nameB (B s)))∧w=w') (KA:∀(x:Atm) (w:World),x.n.size≤65536→Calls Tryz.prog 134 #[.agg #[.string x.n,.int .i64 x.o,.string x.v]] w fun e' w'=>e'=.returned (.bool (rgt x))∧Below w.heap.size w w') (K4:∀(A:Option Addr) (n c:Nat) (L:List (List Atm)) (w:World),rdGrps w (lt_ w.heap.size) L [.slice A n c]→(∀g ∈ L,∀a ∈ g,a.n.size≤65536)→Calls Tryz.prog 78 #[.slice A n c] w fun e w'=>e=.returned (.bool (rightG L))∧Below w.heap.size w w')
  (x:Ent) (A1:Option Addr) (c1:Nat) (A2:Option Addr) (c2:Nat) (A3:Option Addr) (c3:Nat) (A4:Option Addr) (c4:Nat) (w:World) (hx:EntV w (lt_ w.heap.size) x A1 c1 A2 c2 A3 c3 A4 c4) (hz:Sz x) :
  Calls Tryz.prog 42 #[x.val A1 c1 A2 c2 A3 c3 A4 c4] w fun e w'=>e=.returned (.bool (rgtE x))∧Below w.heap.size w w':=by
 obtain ⟨n,v,d,r,c,p⟩:=x
 obtain ⟨z1,z2,z3,z4,z5⟩:=hz
 have B1:=Lib.hid (show Below w.heap.size w (w.alloc (.cells #[.string n,.string v,.slice A1 d.length c1,.slice A2 r.length c2,.slice A3 c.length c3,.slice A4 p.length c4] 34)) from (Below.refl _ w).alloc (Nat.le_refl _) _)
 have KX:=Lib.hid (fun (W:World) (hb:Below (w.alloc (.cells #[.string n,.string v,.slice A1 d.length c1,.slice A2 r.length c2,.slice A3 c.length c3,.slice A4 p.length c4] 34)).heap.size (w.alloc (.cells #[.string n,.string v,.slice A1 d.length c1,.slice A2 r.length c2,.slice A3 c.length c3,.slice A4 p.length c4] 34)) W)=>box6 hb)
 have HX:=Lib.hid hx
 have KN:=Lib.hid (fun W=>KN n W z1)
 have KV:=Lib.hid (fun W=>q6plain_any v W)
 have KD:=Lib.hid (fun W (hb:Below w.heap.size w W)=>K4 A1 d.length c1 d W (HX.out.on hb).d z2)
 have KR:=Lib.hid (fun W (hb:Below w.heap.size w W)=>K4 A2 r.length c2 r W (HX.out.on hb).r z3)
 have KC:=Lib.hid (fun W (hb:Below w.heap.size w W)=>q6atoms_any KA A3 c.length c3 c W (HX.out.on hb).c z4)
 have KP:=Lib.hid (fun W (hb:Below w.heap.size w W)=>q6atoms_any KA A4 p.length c4 p W (HX.out.on hb).p z5)
 have KG:=Lib.hid (fun W (hb:Below w.heap.size w W)=>q6given_any A4 p.length c4 p W (HX.out.on hb).p)
 have XE:=Lib.hid (show rgtE ⟨n,v,d,r,c,p⟩=(nameB (B n)&&(prB (B v)&&(rightG d&&(rightG r&&(c.all rgt&&(p.all rgt&&(givs6 p&&(decide (c.length≤12)&&decide (p.length≤8))))))))) from rfl)
 show Calls Tryz.prog 42 #[.agg #[.string n,.string v,.slice A1 d.length c1,.slice A2 r.length c2,.slice A3 c.length c3,.slice A4 p.length c4]] w _
 clear hx z1 z2 z3 z4 z5 K4 KA
 generalize nameB (B n)=b1 at *
 generalize prB (B v)=b2 at *
 generalize rightG d=b3 at *
 generalize rightG r=b4 at *
 generalize c.all rgt=b5 at *
 generalize p.all rgt=b6 at *
 generalize givs6 p=b7 at *
 obtain ⟨W1,hW1⟩:∃W,W=(w.alloc (.cells #[.string n,.string v,.slice A1 d.length c1,.slice A2 r.length c2,.slice A3 c.length c3,.slice A4 p.length c4] 34)):=⟨_,rfl⟩
 rw [←hW1] at B1 KX
 have V0:=Lib.hid (Below.refl W1.heap.size W1)
 go_enter Tryz.func42,Tryz.ntmps42
 go_wp2_with fail
 refine (KN.out _).mono ?_
 rintro e w' ⟨rfl,rfl⟩
 rw [←hW1]
 obtain ⟨a0,a1,a2,a3,a4,a5⟩:=KX.out W1 (Below.refl _ _)
 clear hW1
 go_wp2_with fail
 refine (KV.out _).mono ?_
 rintro e w2 ⟨rfl,hb⟩
 have V1:=Lib.hid (V0.out.trans (hb.mono V0.out.size))
 have C1:=Lib.hid (B1.out.trans (hb.mono B1.out.size))
 clear hb a0 a1 a2 a3 a4 a5
 obtain ⟨a0,a1,a2,a3,a4,a5⟩:=KX.out _ V1.out
 go_wp2_with fail
 refine (KD.out _ C1.out).mono ?_
 rintro e w3 ⟨rfl,hb⟩
 have V2:=Lib.hid (V1.out.trans (hb.mono V1.out.size))
 have C2:=Lib.hid (C1.out.trans (hb.mono C1.out.size))
 clear hb a0 a1 a2 a3 a4 a5
 obtain ⟨a0,a1,a2,a3,a4,a5⟩:=KX.out _ V2.out
 go_wp2_with fail
 refine (KR.out _ C2.out).mono ?_
 rintro e w4 ⟨rfl,hb⟩
 have V3:=Lib.hid (V2.out.trans (hb.mono V2.out.size))
 have C3:=Lib.hid (C2.out.trans (hb.mono C2.out.size))
 clear hb a0 a1 a2 a3 a4 a5
 obtain ⟨a0,a1,a2,a3,a4,a5⟩:=KX.out _ V3.out
 go_wp2_with fail
 refine (KC.out _ C3.out).mono ?_
 rintro e w5 ⟨rfl,hb⟩
 have V4:=Lib.hid (V3.out.trans (hb.mono V3.out.size))
 have C4:=Lib.hid (C3.out.trans (hb.mono C3.out.size))
 clear hb a0 a1 a2 a3 a4 a5
 obtain ⟨a0,a1,a2,a3,a4,a5⟩:=KX.out _ V4.out
 go_wp2_with fail
 refine (KP.out _ C4.out).mono ?_
 rintro e w6 ⟨rfl,hb⟩
 have V5:=Lib.hid (V4.out.trans (hb.mono V4.out.size))
 have C5:=Lib.hid (C4.out.trans (hb.mono C4.out.size))
 clear hb a0 a1 a2 a3 a4 a5
 obtain ⟨a0,a1,a2,a3,a4,a5⟩:=KX.out _ V5.out
 go_wp2_with fail
 refine (KG.out _ C5.out).mono ?_
 rintro e w' ⟨rfl,rfl⟩
 cases b1
 ·go_wp2
  go_ret
  exact ⟨by rw [XE.out];try rfl,C5.out⟩
 cases b2
 ·go_wp2
  go_ret
  exact ⟨by rw [XE.out];try rfl,C5.out⟩
 cases b3
 ·go_wp2
  go_ret
  exact ⟨by rw [XE.out];try rfl,C5.out⟩
 cases b4
 ·go_wp2
  go_ret
  exact ⟨by rw [XE.out];try rfl,C5.out⟩
 cases b5
 ·go_wp2
  go_ret
  exact ⟨by rw [XE.out];try rfl,C5.out⟩
 cases b6
 ·go_wp2
  go_ret
  exact ⟨by rw [XE.out];try rfl,C5.out⟩
 cases b7
 ·go_wp2
  go_ret
  exact ⟨by rw [XE.out];try rfl,C5.out⟩
 by_cases q0:¬(c.length:Int)≤12
 ·have Q:=Lib.hid (show decide (c.length≤12)=false from decide_eq_false (by omega))
  go_wp2
  go_ret
  exact ⟨by rw [XE.out,Q.out];try rfl,C5.out⟩
 have q0:=Decidable.not_not.1 q0
 by_cases q1:¬(p.length:Int)≤8
 ·have Q0:=Lib.hid (show decide (c.length≤12)=true from decide_eq_true (by omega))
  have Q:=Lib.hid (show decide (p.length≤8)=false from decide_eq_false (by omega))
  have QI:=Lib.hid (show decide ((p.length:Int)≤8)=false from decide_eq_false (by omega))
  go_wp2
  go_ret
  exact ⟨by rw [XE.out,Q0.out,Q.out];exact congrArg (fun b=>Ending.returned (.bool b)) QI.out,C5.out⟩
 have q1:=Decidable.not_not.1 q1
 have Q0:=Lib.hid (show decide (c.length≤12)=true from decide_eq_true (by omega))
 have Q:=Lib.hid (show decide (p.length≤8)=true from decide_eq_true (by omega))
 go_wp2
 go_ret
 exact ⟨by rw [XE.out,Q0.out,Q.out];try rfl,C5.out⟩
theorem rdFds_on {N:Nat} {w w':World} {l:List Fd} {cs:List Value} (h:rdFds w (fun b=>N≤b∧b < w.heap.size) l cs) (hb:Below w.heap.size w w'):rdFds w' (fun b=>N≤b∧b < w'.heap.size) l cs:=
 rdFds_good.more (rdFds_good.keep h fun b hb'=>hb.block b hb'.2) fun b hb'=>⟨hb'.1,Nat.lt_of_lt_of_le hb'.2 hb.size⟩
set_option maxHeartbeats 4000000 in
theorem q6with_any (A:Option Addr) (n c:Nat) (l:List Fd) (name value:ByteArray) (w:World) (N:Nat) (hN:N≤w.heap.size) (h:rdFds w (fun b=>N≤b∧b < w.heap.size) l [.slice A n c]) (hl:l.length≤1000) :
  Calls Tryz.prog 85 #[.slice A n c,.string name,.string value] w fun e w'=>(∃A' c',e=.returned (.slice A' (wth l name value).length c')∧rdFds w' (fun b=>N≤b∧b < w'.heap.size) (wth l name value) [.slice A' (wth l name value).length c'])∧Below w.heap.size w w':=by
 obtain ⟨rfl,hnc,hcm,_⟩:=rdFds_at h
 have hcm':c≤9223372036854775807:=hcm
 by_cases hv:value.size=0
 ·have ev:value.toList.isEmpty=true:=by rw [toList_data,List.isEmpty_iff];exact List.eq_nil_of_length_eq_zero (by rw [Array.length_toList];exact hv)
  have X:=Lib.hid (show wth l name value=l from if_pos hv)
  have H:=Lib.hid h
  clear h hv
  rw [X.out]
  go_enter Tryz.func85,Tryz.ntmps85
  go_wp2
  go_ret
  exact ⟨⟨A,c,rfl,H.out⟩,Below.refl _ _⟩
 ·have ev:value.toList.isEmpty=false:=by
   rw [toList_data,List.isEmpty_eq_false_iff]
   intro h0
   have:=congrArg List.length h0
   rw [Array.length_toList] at this
   exact hv this
  have X:=Lib.hid (show wth l name value=l++[⟨name,value⟩] from if_neg hv)
  rw [X.out]
  obtain ⟨fi,hi,hz0,hz1,hz2⟩:=info_parts fd_info
  have GE:=Lib.hid (show Grow rdFd 2 (fun _=>True) (w.alloc (Obj.cells #[] 78)) w.heap.size 78 (.slice (some ⟨w.heap.size,0,none⟩) 0 0) [] from Grow.empty _ (heap_alloc_new w _) (Nat.le_refl _))
  have BE:=Lib.hid (show Below w.heap.size w (w.alloc (Obj.cells #[] 78)) from (Below.refl _ _).alloc (Nat.le_refl _) _)
  have XE:=Lib.hid (rdFds_good.below (rdFds_good.more h fun b hb=>hb.2) BE.out)
  have SE:=Lib.hid (show ∀b,lt_ w.heap.size b→True∧b < (w.alloc (Obj.cells #[] 78)).heap.size∧(Value.slice (some ⟨w.heap.size,0,none⟩) 0 0).ownBlock≠some b from fun b hb=>⟨trivial,by simp;unfold lt_ at hb;omega,fun hh=>by simp only [Value.ownBlock,Option.some.injEq] at hh;unfold lt_ at hb;omega⟩)
  have hs0:w.heap.size≤(w.alloc (Obj.cells #[] 78)).heap.size:=BE.out.size
  have hq1:([]:List Fd).length+l.length≤maxLen:=by simp only [List.length_nil];unfold maxLen;omega
  have hq2:(([]:List Fd).length+l.length)*32≤140737488355328:=by simp only [List.length_nil];omega
  have hq3:l.length+1≤maxLen:=by unfold maxLen;omega
  have hq4:(l.length+1)*32≤140737488355328:=by omega
  clear h hv
  go_enter Tryz.func85,Tryz.ntmps85
  go_wp2_with (at_builtin;refine wpList_growN _ rfl _ _ 54 54 rfl rdFd_good (by decide) (fun _=>True) w.heap.size 78 78 fi (.agg #[.string { data:=#[] },.string { data:=#[] }]) 32 Tryz.underlying54 Tryz.underlying54 hi hz0 hz1 hz2 rfl _ _ rfl GE.out l _ A l.length c rfl XE.out SE.out hq1 hq2 hs0 ?_)
  intro v3 w3 hG3 hg3
  have B3:=Lib.hid (grow_below GE.out hg3 BE.out (Nat.le_refl _) hs0)
  have G3:=Lib.hid (show Grow rdFd 2 (fun _=>True) w3 w.heap.size 78 v3 l from hG3)
  have hs3:w.heap.size≤w3.heap.size:=B3.out.size
  have hE:=(show rdFd w3 (fun b=>True∧b < w3.heap.size∧v3.ownBlock≠some b) ⟨name,value⟩ (#[.string name,.string value]:Array Value).toList from rfl)
  clear hG3 hg3
  go_wp2_with (at_builtin;refine wpList_grow1 w3 rfl _ _ 54 rfl rdFd_good (by decide) (fun _=>True) w.heap.size 78 fi _ 32 Tryz.underlying54 hi hz0 hz1 hz2 rfl v3 l rfl G3.out ⟨name,value⟩ _ 78 hE _ rfl rfl hq3 hq4 hs3 ?_)
  intro v5 w5 hG5 hg5
  have B5:=Lib.hid (grow_below G3.out hg5 B3.out (Nat.le_refl _) hs3)
  have R5:=Lib.hid (show rdFds w5 (fun b=>N≤b∧b < w5.heap.size) (l++[⟨name,value⟩]) [v5] from by
   have h2:Grow rdFd 2 (fun _=>False) w5 w.heap.size 78 v5 (l++[⟨name,value⟩]):=Grow.flat (fun _ _ _ _ _ h=>h) (show Grow rdFd 2 (fun _=>True) w5 w.heap.size 78 v5 (l++[⟨name,value⟩]) from hG5)
   exact rdFds_good.more (h2.reads rdFd_good) fun b hb=>⟨Nat.le_trans hN (hb.2.resolve_right id),hb.1⟩)
  obtain ⟨A5,c5,hv5,_⟩:=id R5.out
  simp only [List.cons.injEq,and_true] at hv5
  subst hv5
  clear hG5 hg5 GE BE XE SE hE
  go_wp2
  go_ret
  have hlen:(l++[(⟨name,value⟩:Fd)]).length=l.length+1:=by simp
  have R6:=R5.out
  rw [hlen] at R6
  exact ⟨⟨A5,c5,by first|rfl|(rw [hlen];rfl),by first|exact R6|exact R5.out⟩,B5.out⟩
theorem q6with_is {l L:List Fd} {name value:ByteArray} (hL:wth l name value=L) (A:Option Addr) (n c:Nat) (w:World) (N:Nat) (hN:N≤w.heap.size) (h:rdFds w (fun b=>N≤b∧b < w.heap.size) l [.slice A n c]) (hl:l.length≤1000) :
  Calls Tryz.prog 85 #[.slice A n c,.string name,.string value] w fun e w'=>(∃A' c',e=.returned (.slice A' L.length c')∧rdFds w' (fun b=>N≤b∧b < w'.heap.size) L [.slice A' L.length c'])∧Below w.heap.size w w':=by
 subst hL;exact q6with_any A n c l name value w N hN h hl
theorem rd_wr0 (W:World) (N:Nat) (hN:N≤W.heap.size) (a b c d:ByteArray) (T:TypeId):rdFds (W.alloc (.cells #[.string a,.string b,.string c,.string d] T)) (fun k=>N≤k∧k < (W.alloc (.cells #[.string a,.string b,.string c,.string d] T)).heap.size) [⟨a,b⟩,⟨c,d⟩] [.slice (some ⟨W.heap.size,0,none⟩) 2 2]:=
 rd_block rdFd_good (b:=W.heap.size) (T:=T) (blk:=#[.string a,.string b,.string c,.string d]) (css:=[[.string a,.string b],[.string c,.string d]]) (heap_alloc_new W _) ⟨hN,by simp⟩ rfl rfl (fun k hk=>by
  rcases k with _|_|k
  ·exact ⟨_,rfl,rfl⟩
  ·exact ⟨_,rfl,rfl⟩
  ·simp at hk;omega) (by simp)
set_option maxHeartbeats 8000000 in
theorem q6write_any (KN:∀(s:ByteArray) (w:World),s.size≤65536→Calls Tryz.prog 67 #[.string s] w fun e w'=>e=.returned (.bool (nameB (B s)))∧w=w') (KA:∀(x:Atm) (w:World),x.n.size≤65536→Calls Tryz.prog 134 #[.agg #[.string x.n,.int .i64 x.o,.string x.v]] w fun e' w'=>e'=.returned (.bool (rgt x))∧Below w.heap.size w w') (K4:∀(A:Option Addr) (n c:Nat) (L:List (List Atm)) (w:World),rdGrps w (lt_ w.heap.size) L [.slice A n c]→(∀g ∈ L,∀a ∈ g,a.n.size≤65536)→Calls Tryz.prog 78 #[.slice A n c] w fun e w'=>e=.returned (.bool (rightG L))∧Below w.heap.size w w')
  (KQ:∀(A:Option Addr) (n c:Nat) (L:List (List Atm)) (w:World),rdGrps w (lt_ w.heap.size) L [.slice A n c]→(∀g ∈ L,∀a ∈ g,a.n.size≤65536)→Calls Tryz.prog 86 #[.slice A n c] w fun e w'=>e=.returned (.string (mk (prtG L)))∧Below w.heap.size w w') (KJ:∀(A:Option Addr) (n c:Nat) (l:List Atm) (w:World),rdAtms w (lt_ w.heap.size) l [.slice A n c]→l.length≤1000→(∀a ∈ l,a.n.size≤65536)→Calls Tryz.prog 87 #[.slice A n c] w fun e w'=>e=.returned (.string (mk (prtG (l.map fun a=>[a]))))∧Below w.heap.size w w')
  (x:Ent) (A1:Option Addr) (c1:Nat) (A2:Option Addr) (c2:Nat) (A3:Option Addr) (c3:Nat) (A4:Option Addr) (c4:Nat) (w:World) (hx:EntV w (lt_ w.heap.size) x A1 c1 A2 c2 A3 c3 A4 c4) (hz:Sz x) :
  Calls Tryz.prog 46 #[x.val A1 c1 A2 c2 A3 c3 A4 c4] w fun e w'=>(∃A c,e=.returned (.slice A (wrE x).length c)∧rdFds w' (fun b=>w.heap.size≤b∧b < w'.heap.size) (wrE x) [.slice A (wrE x).length c])∧Below w.heap.size w w':=by
 have KRt:=Lib.hid (fun (W:World) (hb:Below w.heap.size w W)=>q6right_any KN KA K4 x A1 c1 A2 c2 A3 c3 A4 c4 W (hx.on hb) hz)
 have HL:=Lib.hid (wr_len x)
 have XL:=Lib.hid (fun h=>rgtE_lens (x:=x) h)
 have XE:=Lib.hid (show wrE x=if rgtE x=true then wr4 x else [] from rfl)
 have E1:=Lib.hid (show wth (wr0 x) { data:=#[68,101,112,101,110,100,115] } (mk (prtG x.d))=wr1 x from rfl)
 have E2:=Lib.hid (show wth (wr1 x) { data:=#[82,101,99,111,109,109,101,110,100,115] } (mk (prtG x.r))=wr2 x from rfl)
 have E3:=Lib.hid (show wth (wr2 x) { data:=#[67,111,110,102,108,105,99,116,115] } (mk (prtG (x.c.map fun a=>[a])))=wr3 x from rfl)
 have E4:=Lib.hid (show wth (wr3 x) { data:=#[80,114,111,118,105,100,101,115] } (mk (prtG (x.p.map fun a=>[a])))=wr4 x from rfl)
 have RD0:=Lib.hid (show ∀W:World,w.heap.size≤W.heap.size→rdFds (W.alloc (.cells #[.string { data:=#[80,97,99,107,97,103,101] },.string x.n,.string { data:=#[86,101,114,115,105,111,110] },.string x.v] 78)) (fun b=>w.heap.size≤b∧b < (W.alloc (.cells #[.string { data:=#[80,97,99,107,97,103,101] },.string x.n,.string { data:=#[86,101,114,115,105,111,110] },.string x.v] 78)).heap.size) (wr0 x) [.slice (some ⟨W.heap.size,0,none⟩) 2 2] from fun W hW=>rd_wr0 W _ hW _ _ _ _ _)
 have KD:=Lib.hid (fun (W:World) (hb:Below w.heap.size w W)=>KQ A1 x.d.length c1 x.d W (hx.on hb).d hz.2.1)
 have KR:=Lib.hid (fun (W:World) (hb:Below w.heap.size w W)=>KQ A2 x.r.length c2 x.r W (hx.on hb).r hz.2.2.1)
 have KC:=Lib.hid (fun (W:World) (hb:Below w.heap.size w W) (h:x.c.length≤1000)=>KJ A3 x.c.length c3 x.c W (hx.on hb).c h hz.2.2.2.1)
 have KP:=Lib.hid (fun (W:World) (hb:Below w.heap.size w W) (h:x.p.length≤1000)=>KJ A4 x.p.length c4 x.p W (hx.on hb).p h hz.2.2.2.2)
 generalize wrE x=LE at *
 generalize wr4 x=L4 at *
 generalize wr3 x=L3 at *
 generalize wr2 x=L2 at *
 generalize wr1 x=L1 at *
 generalize wr0 x=L0 at *
 generalize rgtE x=b at *
 generalize mk (prtG (x.p.map fun a=>[a]))=T4 at *
 generalize mk (prtG (x.c.map fun a=>[a]))=T3 at *
 generalize mk (prtG x.r)=T2 at *
 generalize mk (prtG x.d)=T1 at *
 obtain ⟨n,v,d,r,c,p⟩:=x
 have B1:=Lib.hid (show Below w.heap.size w (w.alloc (.cells #[.string n,.string v,.slice A1 d.length c1,.slice A2 r.length c2,.slice A3 c.length c3,.slice A4 p.length c4] 34)) from (Below.refl _ w).alloc (Nat.le_refl _) _)
 have KX:=Lib.hid (fun (W:World) (hb:Below (w.alloc (.cells #[.string n,.string v,.slice A1 d.length c1,.slice A2 r.length c2,.slice A3 c.length c3,.slice A4 p.length c4] 34)).heap.size (w.alloc (.cells #[.string n,.string v,.slice A1 d.length c1,.slice A2 r.length c2,.slice A3 c.length c3,.slice A4 p.length c4] 34)) W)=>box6 hb)
 show Calls Tryz.prog 46 #[.agg #[.string n,.string v,.slice A1 d.length c1,.slice A2 r.length c2,.slice A3 c.length c3,.slice A4 p.length c4]] w _
 clear hx hz KN KA K4 KQ KJ
 obtain ⟨W1,hW1⟩:∃W,W=(w.alloc (.cells #[.string n,.string v,.slice A1 d.length c1,.slice A2 r.length c2,.slice A3 c.length c3,.slice A4 p.length c4] 34)):=⟨_,rfl⟩
 rw [←hW1] at B1 KX
 have V0:=Lib.hid (Below.refl W1.heap.size W1)
 go_enter Tryz.func46,Tryz.ntmps46
 go_wp2_with fail
 rw [←hW1]
 refine (KRt.out _ B1.out).mono ?_
 clear hW1
 rintro e w2 ⟨rfl,hb⟩
 have V1:=Lib.hid (V0.out.trans (hb.mono V0.out.size))
 have C1:=Lib.hid (B1.out.trans (hb.mono B1.out.size))
 clear hb
 obtain ⟨a0,a1,a2,a3,a4,a5⟩:=KX.out _ V1.out
 cases b
 ·have XX:=Lib.hid (show LE=[] from XE.out)
  go_wp2
  go_ret
  exact ⟨⟨none,0,by rw [XX.out];try rfl,by rw [XX.out];exact rdRow_nil _ _⟩,C1.out⟩
 have XX:=Lib.hid (show LE=L4 from XE.out)
 obtain ⟨l12,l8⟩:=XL.out rfl
 have HC:=Lib.hid (show c.length≤1000 from Nat.le_trans l12 (by omega))
 have HP:=Lib.hid (show p.length≤1000 from Nat.le_trans l8 (by omega))
 clear l12 l8
 have V2:=Lib.hid (show Below W1.heap.size W1 (w2.alloc (.cells #[.string { data:=#[80,97,99,107,97,103,101] },.string n,.string { data:=#[86,101,114,115,105,111,110] },.string v] 78)) from V1.out.alloc V1.out.size _)
 have C2:=Lib.hid (show Below w.heap.size w (w2.alloc (.cells #[.string { data:=#[80,97,99,107,97,103,101] },.string n,.string { data:=#[86,101,114,115,105,111,110] },.string v] 78)) from C1.out.alloc C1.out.size _)
 have R0:=Lib.hid (RD0.out w2 C1.out.size)
 have a2':=(KX.out _ V2.out).2.2.1
 go_wp2_with fail
 refine (KD.out _ C2.out).mono ?_
 rintro e w3 ⟨rfl,hb⟩
 have V3:=Lib.hid (V2.out.trans (hb.mono V2.out.size))
 have C3:=Lib.hid (C2.out.trans (hb.mono C2.out.size))
 have R1:=Lib.hid (rdFds_on R0.out hb)
 clear hb a0 a1 a2 a3 a4 a5 a2'
 go_wp2_with fail
 refine (q6with_is E1.out _ _ _ _ _ C3.out.size R1.out (by have:=HL.out.1;omega)).mono ?_
 rintro e w4 ⟨⟨B1',d1,rfl,hr⟩,hb⟩
 have V4:=Lib.hid (V3.out.trans (hb.mono V3.out.size))
 have C4:=Lib.hid (C3.out.trans (hb.mono C3.out.size))
 have R2:=Lib.hid hr
 clear hb hr
 obtain ⟨a0,a1,a2,a3,a4,a5⟩:=KX.out _ V4.out
 go_wp2_with fail
 refine (KR.out _ C4.out).mono ?_
 rintro e w5 ⟨rfl,hb⟩
 have V5:=Lib.hid (V4.out.trans (hb.mono V4.out.size))
 have C5:=Lib.hid (C4.out.trans (hb.mono C4.out.size))
 have R3:=Lib.hid (rdFds_on R2.out hb)
 clear hb a0 a1 a2 a3 a4 a5
 go_wp2_with fail
 refine (q6with_is E2.out _ _ _ _ _ C5.out.size R3.out (by have:=HL.out.2.1;omega)).mono ?_
 rintro e w6 ⟨⟨B2',d2,rfl,hr⟩,hb⟩
 have V6:=Lib.hid (V5.out.trans (hb.mono V5.out.size))
 have C6:=Lib.hid (C5.out.trans (hb.mono C5.out.size))
 have R4:=Lib.hid hr
 clear hb hr
 obtain ⟨a0,a1,a2,a3,a4,a5⟩:=KX.out _ V6.out
 go_wp2_with fail
 refine (KC.out _ C6.out HC.out).mono ?_
 rintro e w7 ⟨rfl,hb⟩
 have V7:=Lib.hid (V6.out.trans (hb.mono V6.out.size))
 have C7:=Lib.hid (C6.out.trans (hb.mono C6.out.size))
 have R5:=Lib.hid (rdFds_on R4.out hb)
 clear hb a0 a1 a2 a3 a4 a5
 go_wp2_with fail
 refine (q6with_is E3.out _ _ _ _ _ C7.out.size R5.out (by have:=HL.out.2.2.1;omega)).mono ?_
 rintro e w8 ⟨⟨B3',d3,rfl,hr⟩,hb⟩
 have V8:=Lib.hid (V7.out.trans (hb.mono V7.out.size))
 have C8:=Lib.hid (C7.out.trans (hb.mono C7.out.size))
 have R6:=Lib.hid hr
 clear hb hr
 obtain ⟨a0,a1,a2,a3,a4,a5⟩:=KX.out _ V8.out
 go_wp2_with fail
 refine (KP.out _ C8.out HP.out).mono ?_
 rintro e w9 ⟨rfl,hb⟩
 have C9:=Lib.hid (C8.out.trans (hb.mono C8.out.size))
 have R7:=Lib.hid (rdFds_on R6.out hb)
 clear hb a0 a1 a2 a3 a4 a5
 go_wp2_with fail
 refine (q6with_is E4.out _ _ _ _ _ C9.out.size R7.out (by have:=HL.out.2.2.2.1;omega)).mono ?_
 rintro e w10 ⟨⟨B4',d4,rfl,hr⟩,hb⟩
 have C10:=Lib.hid (C9.out.trans (hb.mono C9.out.size))
 have R8:=Lib.hid hr
 clear hb hr
 go_wp2
 go_ret
 rw [XX.out]
 exact ⟨⟨B4',d4,rfl,R8.out⟩,C10.out⟩
theorem add_0 (a:Addr):a.add 0=a:=by unfold Addr.add;simp
theorem cut_zero (c:Nat) (l:List Nat):0 < (cutBy c l).length:=by rw [cutBy_len];omega
set_option maxHeartbeats 2000000 in
theorem q5value_any (s:ByteArray) (w:World) (hs:s.size≤65536):Calls Tryz.prog 191 #[.string s] w fun e w'=>e=.returned (.bool (valB (B s)))∧Below w.heap.size w w':=by
 have K:=Lib.hid (q5lines_any s w hs)
 have hmem:=Lib.hid (fun p (hp:p ∈ cutBy 10 (B s))=>cutBy_mem_len hp)
 rw [B_len] at hmem
 have hnz:=cut_zero 10 (B s)
 have HV:=Lib.hid (show valB (B s)=valL (cutBy 10 (B s)) from rfl)
 generalize cutBy 10 (B s)=L at *
 go_enter Tryz.func191,Tryz.ntmps191
 go_wp2_with fail
 refine K.out.mono ?_
 rintro e w1 ⟨⟨A,n,cp,rfl,hrd⟩,hb1⟩
 obtain ⟨rfl,hnc,hcm,hat⟩:=rdStrs_at hrd
 have hcm':cp≤9223372036854775807:=hcm
 have HB:=Lib.hid hb1
 have HAT:=Lib.hid hat
 clear hrd hb1 hat hcm
 go_wp2
 go_loop [4,5] (fun i _=>∃k:Nat,k≤L.length∧i=.int .i64 k∧∀j (hj:j < L.length),j < k→lowB L[j]=false∧(0 < j→L[j]≠[])) (fun i _=>L.length - (intOf i).toNat)
 case atStart=>exact ⟨0,Nat.zero_le _,rfl,fun j _ hj=>absurd hj (by omega)⟩
 case round=>
  obtain ⟨k,hk,rfl,hall⟩:=hrel
  have HN:=Lib.hid hall
  clear hall
  by_cases hlt:k < L.length
  ·obtain ⟨ad,t,rfl,had,hc,hB⟩:=HAT.out k hlt
   have hsz:t.size≤maxLen:=by have:=hmem.out _ (List.getElem_mem hlt);rw [←hB,B_len] at this;unfold maxLen;omega
   have KC:=Lib.hid (fun w=>q5clean_any t w hsz)
   have XN:=Lib.hid (fun h=>valL_no (L:=L) hlt h)
   have HL:=Lib.hid hB
   have em:=emp_eq t
   have YY:=Lib.hid (fun (h1:lowB L[k]=false) (h2:0 < k→L[k]≠[]) j (hj:j < L.length) (hjk:j < k+1)=>(show lowB L[j]=false∧(0 < j→L[j]≠[]) from by
    by_cases h:j < k
    ·exact HN.out j hj h
    ·obtain rfl:j=k:=by omega
     exact ⟨h1,h2⟩))
   rw [hB] at KC em
   clear hB
   cases hlow:lowB L[k]
   ·rw [hlow] at KC
    rcases Nat.eq_zero_or_pos k with rfl|hk0
    ·have Y:=Lib.hid (YY.out hlow (fun h=>absurd h (Nat.lt_irrefl 0)))
     rw [add_0] at hc
     clear em hlow
     go_wp2_with (go_at_call 120;(with_reducible refine (KC.out _).mono ?_);rintro e w' ⟨rfl,rfl⟩)
     go_round
     case rel=>exact ⟨1,by omega,by go_num,Y.out⟩
     case measure=>simp [intOf];omega
    ·have k0:(0:Int) < (k:Int):=by omega
     by_cases hem:L[k]=[]
     ·have X:=Lib.hid (XN.out (.inr ⟨hk0,hem⟩))
      rw [decide_eq_true hem] at em
      clear hem hlow
      go_wp2_with (go_at_call 120;(with_reducible refine (KC.out _).mono ?_);rintro e w' ⟨rfl,rfl⟩)
      go_ret
      exact ⟨by rw [HV.out,X.out];rfl,HB.out⟩
     ·have Y:=Lib.hid (YY.out hlow (fun _=>hem))
      rw [decide_eq_false hem] at em
      clear hem hlow
      go_wp2_with (go_at_call 120;(with_reducible refine (KC.out _).mono ?_);rintro e w' ⟨rfl,rfl⟩)
      go_round
      case rel=>exact ⟨k+1,by omega,by go_num,Y.out⟩
      case measure=>simp [intOf];omega
   ·rw [hlow] at KC
    have X:=Lib.hid (XN.out (.inl hlow))
    clear em hlow
    go_wp2_with (go_at_call 120;(with_reducible refine (KC.out _).mono ?_);rintro e w' ⟨rfl,rfl⟩)
    go_ret
    exact ⟨by rw [HV.out,X.out];rfl,HB.out⟩
  ·obtain rfl:k=L.length:=by omega
   obtain ⟨ad,t,rfl,had,hc,hB⟩:=HAT.out 0 hnz
   rw [add_0] at hc
   have V:=Lib.hid (valL_yes hnz fun k hk=>HN.out k hk hk)
   have em:=emp_eq t
   by_cases hem:B t=[]
   ·rw [decide_eq_true hem] at em
    have X:=Lib.hid (show valL L=true by rw [V.out,←hB,hem];rfl)
    clear hem hB V
    go_wp2
    go_ret
    exact ⟨by rw [HV.out,X.out];rfl,HB.out⟩
   ·rw [decide_eq_false hem] at em
    have h0:0 < t.size:=by
     rcases Nat.eq_zero_or_pos t.size with h|h
     ·exact absurd (List.eq_nil_of_length_eq_zero (by rw [B_len];exact h)) hem
     ·exact h
    have hb:=byte_le t 0 h0
    have hh:hd32 (B t)=decide (t[0].toNat=32):=by
     have:=B_drop t 0 h0
     rw [List.drop_zero] at this
     rw [this];rfl
    by_cases h32:t[0].toNat=32
    ·have p1:((t[0].toNat:Int) != 32)=false:=by rw [h32];rfl
     have X:=Lib.hid (show valL L=false by rw [V.out,←hB,hh,decide_eq_true h32];rfl)
     clear hem hB V hh h32
     go_wp2
     go_ret
     exact ⟨by rw [HV.out,X.out];rfl,HB.out⟩
    ·have p1:((t[0].toNat:Int) != 32)=true:=by rw [bne_iff_ne];omega
     have X:=Lib.hid (show valL L=true by rw [V.out,←hB,hh,decide_eq_false h32];rfl)
     clear hem hB V hh h32
     go_wp2
     go_ret
     exact ⟨by rw [HV.out,X.out];rfl,HB.out⟩
theorem any_snoc {α:Type} (p:α→Bool) (l:List α) (k:Nat) (hk:k < l.length):(l.take (k+1)).any p=((l.take k).any p||p l[k]):=by
 rw [List.take_succ_eq_append_getElem hk,List.any_append];simp
set_option maxHeartbeats 16000000 in
theorem q7right_any (KR:∀(x:Ent) (A1:Option Addr) (c1:Nat) (A2:Option Addr) (c2:Nat) (A3:Option Addr) (c3:Nat) (A4:Option Addr) (c4:Nat) (w:World),EntV w (lt_ w.heap.size) x A1 c1 A2 c2 A3 c3 A4 c4→Sz x→Calls Tryz.prog 42 #[x.val A1 c1 A2 c2 A3 c3 A4 c4] w fun e w'=>e=.returned (.bool (rgtE x))∧Below w.heap.size w w') (A:Option Addr) (n c:Nat) (l:List Hr) (w:World) (h:rdHrs w (lt_ w.heap.size) l [.slice A n c]) (hz:∀x ∈ l,Sz x.e) :
  Calls Tryz.prog 15 #[.slice A n c] w fun e w'=>e=.returned (.bool (rightH l))∧Below w.heap.size w w':=by
 obtain ⟨rfl,hnc,hcm,hat⟩:=rdHrs_at h
 have hcm':c≤9223372036854775807:=hcm
 have HAT:=Lib.hid hat
 have HZ:=Lib.hid hz
 have N1:=Lib.hid (fun k (hk:k < l.length) hn=>ri_no (l:=l) (k:=k) hk hn)
 have N2:=Lib.hid (fun k (hk:k+1 < l.length) hn=>ri_dn (l:=l) (i:=k) hk hn)
 have N3:=Lib.hid (fun hn=>ri_all (l:=l) hn)
 clear hat h hz hcm
 generalize hR:rightH l=R at *
 clear hR
 go_enter Tryz.func15,Tryz.ntmps15
 go_wp2
 go_loopw [3] (fun i wr=>∃k:Nat,k≤l.length∧i=.int .i64 k∧RI l k∧Below w.heap.size w wr) (fun i _=>l.length - (intOf i).toNat)
 case atStart=>exact ⟨0,Nat.zero_le _,rfl,fun j _ hj=>absurd hj (Nat.not_lt_zero _),Below.refl _ _⟩
 case round=>
  obtain ⟨k,hk,rfl,hri,hb⟩:=hrel
  have HB:=Lib.hid hb
  have HI:=Lib.hid hri
  clear hri hb
  by_cases hlt:k < l.length
  ·obtain ⟨ad,A1,c1,A2,c2,A3,c3,A4,c4,rfl,had,hv,g0,g1,g2,g3,g4,g5,-,-⟩:=HAT.out k hlt
   have i0:(0:Int)≤(k:Int):=by omega
   have i1:(k:Int) < (l.length:Int):=by omega
   have K:=Lib.hid (KR l[k].e A1 c1 A2 c2 A3 c3 A4 c4 wr (hv.on HB.out) (HZ.out _ (List.getElem_mem hlt)))
   have K0:=Lib.hid g0
   have h0:=keep6 HB.out g0
   have h1:=keep6 HB.out g1
   have h2:=keep6 HB.out g2
   have h3:=keep6 HB.out g3
   have h4:=keep6 HB.out g4
   have h5:=keep6 HB.out g5
   have N1:=Lib.hid (N1.out k hlt)
   have NX:=Lib.hid (fun (hr:rgtE l[k].e=true) (hs:∀i (hi:i < l.length),k=i+1→blt l[i].e.n l[k].e.n)=>show RI l (k+1) from fun j hj hjk=>by
    by_cases e:j=k
    ·subst e;exact ⟨hr,hs⟩
    ·exact HI.out j hj (by omega))
   clear had hv g0 g1 g2 g3 g4 g5
   go_wp2_with fail
   refine K.out.mono ?_
   rintro e w3 ⟨rfl,hb⟩
   have HB3:=Lib.hid (bel_in HB.out hb)
   have k0:=keep6 HB3.out K0.out
   clear hb h0 h1 h2 h3 h4 h5 K
   generalize rgtE l[k].e=rb at *
   cases rb
   ·have X:=Lib.hid (N1.out rfl)
    go_wp2_with fail
    go_quiet (fail)
    go_wp2
    go_ret
    exact ⟨by rw [X.out];try rfl,HB3.out.trans (belD (Below.refl _ _) _)⟩
   rcases k with _|k
   ·have NX1:=Lib.hid (NX.out (by trivial) (fun i _ h=>by omega))
    go_wp2_with fail
    go_quiet (fail)
    go_wp2
    go_roundw
    case rel=>exact ⟨1,by omega,rfl,NX1.out,HB3.out.trans (belD (Below.refl _ _) _)⟩
    case measure=>simp [intOf];omega
   ·obtain ⟨ad',E1,e1,E2,e2,E3,e3,E4,e4,had',-,-,j0,-⟩:=HAT.out k (by omega)
    obtain rfl:ad=ad':=Option.some.inj had'
    have m0:=keep6 HB3.out j0
    have j1:(0:Int)≤(k:Int):=by omega
    have j2:(k:Int) < (l.length:Int):=by omega
    have hle:=le_or l[k+1].e.n l[k].e.n
    have N2:=Lib.hid (N2.out k hlt)
    have NX2:=Lib.hid (fun (hs:blt l[k].e.n l[k+1].e.n)=>NX.out (by trivial) (fun i hi h=>by
     obtain rfl:i=k:=by omega
     exact hs))
    clear had' j0
    generalize l[k+1].e.n=a at *
    generalize l[k].e.n=b at *
    by_cases hq:Op.bytesLess b.toList a.toList=true
    ·have NX3:=Lib.hid (NX2.out hq)
     rw [hq] at hle
     clear hq
     go_wp2_with fail
     go_quiet (fail)
     go_wp2
     go_roundw
     case rel=>exact ⟨k+1+1,by omega,by go_num,NX3.out,HB3.out.trans (belD (Below.refl _ _) _)⟩
     case measure=>simp [intOf];omega
    ·have X:=Lib.hid (N2.out (fun h=>hq h))
     rw [Bool.eq_false_iff.2 hq] at hle
     clear hq
     go_wp2_with fail
     go_quiet (fail)
     go_wp2
     go_ret
     exact ⟨by rw [X.out];try rfl,HB3.out.trans (belD (Below.refl _ _) _)⟩
  ·obtain rfl:k=l.length:=by omega
   have X:=Lib.hid (N3.out HI.out)
   by_cases h64:(l.length:Int)≤64
   ·have X:=Lib.hid (show R=true from X.out.trans (decide_eq_true (by omega)))
    go_wp2
    go_ret
    exact ⟨by rw [X.out];try rfl,HB.out⟩
   ·have X:=Lib.hid (show R=false from X.out.trans (decide_eq_false (by omega)))
    go_wp2
    go_ret
    exact ⟨by rw [X.out];try rfl,HB.out⟩
end Go.Proofs.YtboinnjncaehkaaGreatDoor
