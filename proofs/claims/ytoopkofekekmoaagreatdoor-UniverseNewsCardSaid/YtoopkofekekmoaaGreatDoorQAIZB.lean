/- What the laws rest on: E9d, N9v, Rel1, Rel2, Ver1, BackP, Ver2, VerP, E7g. -/
import Derived.Outline
import Derived.Test.YtoopkofekekmoaaGreatDoorQAGZB
set_option maxRecDepth 100000
set_option linter.unusedVariables false
set_option linter.unusedSimpArgs false
namespace Go.Proofs.YtoopkofekekmoaaGreatDoor
open Go.RowKit
theorem ent9_info:(Tryz.prog.info? 53).map (fun i=>(i.zero,i.size,i.bytes))=some (some (.agg #[.string { data:=#[] },.string { data:=#[] },.slice none 0 0,.slice none 0 0,.slice none 0 0,.slice none 0 0]),6,128):=by kernel_rfl
theorem int9_info:(Tryz.prog.info? 3).map (fun i=>(i.zero,i.size,i.bytes))=some (some (.int .i64 0),1,8):=by kernel_rfl
def UR (w:World) (b:Nat) (l:List Ent) (m:List Hr):Prop:=
 ∃A c A' c',w.cell? ⟨b,0,none⟩=some (.slice A l.length c)∧w.cell? ⟨b,1,none⟩=some (.slice A' m.length c')∧rdEnts w (fun k=>k < w.heap.size∧k≠b) l [.slice A l.length c]∧rdHrs w (fun k=>k < w.heap.size∧k≠b) m [.slice A' m.length c']
theorem UR.below {w w':World} {b:Nat} {l:List Ent} {m:List Hr} (h:UR w b l m) (hB:Below w.heap.size w w'):UR w' b l m:=by
 obtain ⟨A,c,A',c',h1,h2,h3,h4⟩:=h
 exact ⟨A,c,A',c',keep6 hB h1,keep6 hB h2,rdEnts_good.both h3 (fun k hk=>hB.block k hk.1) (fun k hk=>⟨Nat.lt_of_lt_of_le hk.1 hB.size,hk.2⟩),rdHrs_good.both h4 (fun k hk=>hB.block k hk.1) (fun k hk=>⟨Nat.lt_of_lt_of_le hk.1 hB.size,hk.2⟩)⟩
theorem plU_step {n v:ByteArray} {l:List Ent} {k:Nat} (hk:k < l.length):(l[k].n=n∧l[k].v=v→plU n v (l.drop k) k=(k:Int))∧(¬(l[k].n=n∧l[k].v=v)→plU n v (l.drop k) k=plU n v (l.drop (k+1)) (k+1)):=by
 rw [List.drop_eq_getElem_cons hk,plU_cons]
 exact ⟨fun h=>if_pos h,fun h=>if_neg h⟩
set_option maxHeartbeats 8000000 in
theorem q9place_any (b:Nat) (l:List Ent) (m:List Hr) (n v:ByteArray) (w:World) (h:UR w b l m) :
  Calls Tryz.prog 43 #[.pointer (some ⟨b,0,none⟩),.string n,.string v] w fun e w'=>e=.returned (.int .i64 (plU n v l 0))∧Dr w w':=by
 obtain ⟨A,c,A',c',h1,-,h3,-⟩:=h
 obtain ⟨-,hnc,hcm,-⟩:=rdEnts_at h3
 have hcm':c≤9223372036854775807:=hcm
 clear hcm
 go_enter Tryz.func43,Tryz.ntmps43
 go_wp2
 go_loopw [7] (fun i wr=>∃k:Nat,k≤l.length∧i=.int .i64 k∧plU n v l 0=plU n v (l.drop k) k∧Dr w wr) (fun i _=>l.length - (intOf i).toNat)
 case atStart=>exact ⟨0,Nat.zero_le _,rfl,rfl,Dr.refl _⟩
 case round=>
  obtain ⟨k,hk,rfl,hall,hbel⟩:=hrel
  have HA:=Lib.hid hall
  have HB:=Lib.hid hbel
  clear hall
  have b0:wr.cell? ⟨b,0,none⟩=some (.slice A l.length c):=keep6 (hbel.below _) h1
  by_cases hlt:k < l.length
  ·obtain ⟨_,_,_,hat⟩:=rdEnts_at (rdEnts_good.keep (w':=wr) h3 (fun k hk=>(hbel.below w.heap.size).block k hk.1))
   obtain ⟨ad,D1,e1,D2,e2,D3,e3,D4,e4,rfl,had,hv,h0,h1',_⟩:=hat k hlt
   have i0:(0:Int)≤(k:Int):=by omega
   have i1:(k:Int) < (l.length:Int):=by omega
   have ST:=Lib.hid (plU_step (n:=n) (v:=v) hlt)
   have en:=str_eq l[k].n n
   have ev:=str_eq l[k].v v
   clear had hat hv hbel h3 h1
   generalize l[k]=y at *
   rcases (by
    by_cases g0:y.n=n
    ·by_cases g3:y.v=v
     ·exact .inl ⟨g0,g3⟩
     ·exact .inr (.inl ⟨g0,g3⟩)
    ·exact .inr (.inr g0):(y.n=n∧y.v=v)∨(y.n=n∧y.v≠v)∨y.n≠n) with ⟨g,g'⟩|⟨g,g'⟩|g
   ·rw [decide_eq_true g] at en
    rw [decide_eq_true g'] at ev
    have XX:=Lib.hid (show plU n v l 0=(k:Int) from HA.out.trans (ST.out.1 ⟨g,g'⟩))
    clear g g'
    go_wp2
    go_ret
    exact ⟨by rw [XX.out];try rfl,HB.out⟩
   ·rw [decide_eq_true g] at en
    rw [decide_eq_false g'] at ev
    have NX:=Lib.hid (show plU n v l 0=plU n v (l.drop (k+1)) (k+1) from HA.out.trans (ST.out.2 (fun q=>g' q.2)))
    clear g g'
    go_wp2
    go_roundw
    case rel=>exact ⟨k+1,by omega,by go_num,NX.out,HB.out⟩
    case measure=>simp [intOf];omega
   ·rw [decide_eq_false g] at en
    have NX:=Lib.hid (show plU n v l 0=plU n v (l.drop (k+1)) (k+1) from HA.out.trans (ST.out.2 (fun q=>g q.1)))
    clear g
    go_wp2
    go_roundw
    case rel=>exact ⟨k+1,by omega,by go_num,NX.out,HB.out⟩
    case measure=>simp [intOf];omega
  ·obtain rfl:k=l.length:=by omega
   have XX:=Lib.hid (show plU n v l 0=-1 by rw [HA.out,List.drop_length];rfl)
   clear h3 h1 hbel
   go_wp2
   go_ret
   exact ⟨by rw [XX.out];try rfl,HB.out⟩
theorem ent_sub9 {P:Ent→Prop} {L he:List Ent} (ho:Once9 he) (h:∀x ∈ L,P x) (h':∀x ∈ he,P x):∀x ∈ entU L he,P x:=by
 intro x hx
 have key:∀(ix M:List Ent),(∀x ∈ M,P x)→(∀x ∈ ix,P x)→∀x ∈ ix.foldl addU M,P x:=by
  intro ix
  induction ix with
  | nil=>intro M h1 _ x hx;exact h1 x hx
  | cons a r ih=>
   intro M h1 h2 x hx
   refine ih (addU M a) (fun y hy=>?_) (fun y hy=>h2 y (List.mem_cons_of_mem _ hy)) x hx
   unfold addU at hy
   split at hy
   ·exact h1 y hy
   ·rcases put9_mem.1 hy with rfl|hy
    ·exact h2 y (List.mem_cons_self ..)
    ·exact h1 y hy
 refine key L (he.foldl putU []) (fun y hy=>?_) h x hx
 rcases ((fold_put he [] List.Pairwise.nil ho (fun x hx=>by cases hx)).2 y).1 hy with q|q
 ·cases q
 ·exact h' y q
theorem UR.row9 {w:World} {b:Nat} {l:List Ent} {m:List Hr} (h:UR w b l m):∃A c,l.length≤c∧c≤9223372036854775807∧∀W:World,Below w.heap.size w W→W.cell? ⟨b,0,none⟩=some (.slice A l.length c)∧rdEnts W (lt_ W.heap.size) l [.slice A l.length c]:=by
 obtain ⟨A,c,A',c',h1,-,h3,-⟩:=h
 obtain ⟨-,hnc,hcm,-⟩:=rdEnts_at h3
 exact ⟨A,c,hnc,hcm,fun W hb=>⟨keep6 hb h1,rdEnts_good.both h3 (fun k hk=>hb.block k hk.1) (fun k hk=>Nat.lt_of_lt_of_le hk.1 hb.size)⟩⟩
structure Sgn (w:World):Prop where
 s0:w.cell? ⟨0,0,none⟩=some (.string { data:=#[60,60] })
 s1:w.cell? ⟨0,1,none⟩=some (.string { data:=#[60,61] })
 s2:w.cell? ⟨0,2,none⟩=some (.string { data:=#[61] })
 s3:w.cell? ⟨0,3,none⟩=some (.string { data:=#[62,61] })
 s4:w.cell? ⟨0,4,none⟩=some (.string { data:=#[62,62] })
theorem Sgn.below {w w':World} (E:Sgn w) (h:Below w.heap.size w w'):Sgn w':=by
 obtain ⟨h0,h1,h2,h3,h4⟩:=E
 exact ⟨by rw [h.cell (World.block_lt_of_cell? _ _ h0)];exact h0,by rw [h.cell (World.block_lt_of_cell? _ _ h1)];exact h1,by rw [h.cell (World.block_lt_of_cell? _ _ h2)];exact h2,by rw [h.cell (World.block_lt_of_cell? _ _ h3)];exact h3,by rw [h.cell (World.block_lt_of_cell? _ _ h4)];exact h4⟩
theorem signL_out {op:Int} (h:op < 1∨5 < op):signL op=[]:=by
 unfold signL
 rw [if_neg (by omega),if_neg (by omega),if_neg (by omega),if_neg (by omega),if_neg (by omega)]
theorem rsign_any (op:Int) (w:World) (E:Sgn w):Calls Tryz.prog 108 #[.int .i64 op] w fun e w'=>e=.returned (.string (mk (signL op)))∧w=w':=by
 obtain ⟨c0,c1,c2,c3,c4⟩:=E
 by_cases h:op < 1∨5 < op
 ·have X:=Lib.hid (signL_out h)
  by_cases h1:op < 1
  ·clear h
   go_enter Tryz.func108,Tryz.ntmps108
   go_wp2
   go_ret
   exact ⟨by rw [X.out];rfl,rfl⟩
  ·have h2:5 < op:=by omega
   clear h
   go_enter Tryz.func108,Tryz.ntmps108
   go_wp2
   go_ret
   exact ⟨by rw [X.out];rfl,rfl⟩
 ·have:op=1∨op=2∨op=3∨op=4∨op=5:=by omega
  clear h
  rcases this with rfl|rfl|rfl|rfl|rfl
  all_goals
   go_enter Tryz.func108,Tryz.ntmps108
   go_wp2
   go_ret
   exact ⟨rfl,rfl⟩
theorem rplain_any (c:Nat) (w:World):Calls Tryz.prog 105 #[.int .u8 (c:Int)] w fun e w'=>e=.returned (.bool (plnB c))∧w=w':=by
 have X:=Lib.hid (show plnB c=((decide ((97:Int)≤c)&&decide ((c:Int)≤122))||(decide ((48:Int)≤c)&&decide ((c:Int)≤57))) by unfold plnB digB;rw [Bool.eq_iff_iff];simp;omega)
 go_enter Tryz.func105,Tryz.ntmps105
 go_wp2
 all_goals
  go_ret
  refine ⟨congrArg (fun b=>Ending.returned (.bool b)) ?_,rfl⟩
  rw [X.out,Bool.eq_iff_iff]
  simp
  omega
theorem nameB_is (s:ByteArray) (h2:2≤s.size) (h40:s.size≤40) (h0:plnB s[0].toNat=true):nameB (B s)=(B s).all nmcB:=by
 unfold nameB
 rw [B_len,B_getD s 0 (by omega),h0,decide_eq_true h2,decide_eq_true h40];rfl
theorem nm_not {s:ByteArray} {k:Nat} (hk:k < s.size) (h:nmcB s[k].toNat=false):(B s).all nmcB=false:=by
 rw [Bool.eq_false_iff]
 intro ha
 have:=List.all_eq_true.1 ha s[k].toNat (List.mem_of_getElem? (B_at s k hk))
 rw [h] at this;cases this
theorem nm_yes {s:ByteArray} (h:∀j,j < s.size→nmcB ((B s).getD j 0)=true):(B s).all nmcB=true:=by
 rw [List.all_eq_true]
 intro c hc
 obtain ⟨j,hj,e⟩:=List.getElem_of_mem hc
 rw [B_len] at hj
 have:=h j hj
 rwa [List.getD_eq_getElem?_getD,List.getElem?_eq_getElem (by rw [B_len];exact hj),e] at this
theorem rname_any (s:ByteArray) (w:World):Calls Tryz.prog 72 #[.string s] w fun e w'=>e=.returned (.bool (nameB (B s)))∧Below w.heap.size w w':=by
 by_cases h2:s.size < 2
 ·have X:=Lib.hid (show nameB (B s)=false by unfold nameB;rw [B_len,decide_eq_false (by omega)];rfl)
  go_enter Tryz.func72,Tryz.ntmps72
  go_wp2
  go_ret
  exact ⟨by rw [X.out];rfl,Below.refl _ _⟩
 ·by_cases h40:40 < s.size
  ·have X:=Lib.hid (show nameB (B s)=false by unfold nameB;rw [B_len,decide_eq_false (p:=s.size≤40) (by omega),Bool.and_false];rfl)
   have h40':(40:Int) < (s.size:Int):=by omega
   go_enter Tryz.func72,Tryz.ntmps72
   go_wp2
   go_ret
   exact ⟨by rw [X.out];rfl,Below.refl _ _⟩
  ·have hs0:0 < s.size:=by omega
   cases h0:plnB s[0].toNat
   ·have X:=Lib.hid (show nameB (B s)=false by unfold nameB;rw [B_getD s 0 hs0,h0,Bool.and_false];rfl)
    go_enter Tryz.func72,Tryz.ntmps72
    go_wp2_with (go_at_call 105;refine (rplain_any _ _).mono ?_;rw [h0];rintro e w' ⟨rfl,rfl⟩)
    go_ret
    exact ⟨by rw [X.out];rfl,Below.refl _ _⟩
   ·have X:=Lib.hid (nameB_is s (by omega) (by omega) h0)
    obtain ⟨cap,w1,hcv,hb,hcells⟩:=bytes_cells w s
    have HB:=Lib.hid hb
    have HC:=Lib.hid hcells
    have hlen:s.size≤40:=by omega
    clear hb hcells
    go_enter Tryz.func72,Tryz.ntmps72
    go_wp2_with (go_at_call 105;refine (rplain_any _ _).mono ?_;rw [h0];rintro e w' ⟨rfl,rfl⟩)
    clear h0 hcv
    go_loop [22] (fun x=>∃k:Nat,k≤s.size∧x=.int .i64 k∧∀j,j < k→nmcB ((B s).getD j 0)=true) (fun x=>s.size - (intOf x).toNat)
    case atStart=>exact ⟨0,Nat.zero_le _,rfl,fun j hj=>by omega⟩
    case round=>
     obtain ⟨k,hk,rfl,hno⟩:=hrel
     have HN:=Lib.hid hno
     clear hno
     by_cases hlt:k < s.size
     ·have hcell:=HC.out k hlt
      have HD:=Lib.hid (B_getD s k hlt)
      have NC:=Lib.hid (show nmcB s[k].toNat=(plnB s[k].toNat||decide (s[k].toNat=43)||decide (s[k].toNat=45)||decide (s[k].toNat=46)) from rfl)
      have AN:=Lib.hid (nm_not hlt)
      have p1:((s[k].toNat:Int) != 43)=!decide (s[k].toNat=43):=by rw [Bool.eq_iff_iff];simp;omega
      have p2:((s[k].toNat:Int) != 45)=!decide (s[k].toNat=45):=by rw [Bool.eq_iff_iff];simp;omega
      have p3:((s[k].toNat:Int) != 46)=!decide (s[k].toNat=46):=by rw [Bool.eq_iff_iff];simp;omega
      generalize s[k].toNat=c at *
      cases g0:plnB c
      ·rw [g0] at NC
       cases g1:decide (c=43)<;>rw [g1] at p1 NC
       ·cases g2:decide (c=45)<;>rw [g2] at p2 NC
        ·cases g3:decide (c=46)<;>rw [g3] at p3 NC
         ·clear g1 g2 g3
          go_wp2_with (go_at_call 105;refine (rplain_any _ _).mono ?_;rw [g0];rintro e w' ⟨rfl,rfl⟩)
          go_ret
          exact ⟨by rw [X.out,AN.out (by rw [NC.out];rfl)];rfl,HB.out⟩
         ·clear g1 g2 g3
          go_wp2_with (go_at_call 105;refine (rplain_any _ _).mono ?_;rw [g0];rintro e w' ⟨rfl,rfl⟩)
          go_round
          case rel=>exact ⟨k+1,by omega,by go_num,fun j hj=>by rcases (by omega:j < k∨j=k) with h|rfl;exact HN.out j h;rw [HD.out,NC.out];rfl⟩
          case measure=>simp [intOf];omega
        ·clear g1 g2 p3
         go_wp2_with (go_at_call 105;refine (rplain_any _ _).mono ?_;rw [g0];rintro e w' ⟨rfl,rfl⟩)
         go_round
         case rel=>exact ⟨k+1,by omega,by go_num,fun j hj=>by rcases (by omega:j < k∨j=k) with h|rfl;exact HN.out j h;rw [HD.out,NC.out];simp⟩
         case measure=>simp [intOf];omega
       ·clear g1 p2 p3
        go_wp2_with (go_at_call 105;refine (rplain_any _ _).mono ?_;rw [g0];rintro e w' ⟨rfl,rfl⟩)
        go_round
        case rel=>exact ⟨k+1,by omega,by go_num,fun j hj=>by rcases (by omega:j < k∨j=k) with h|rfl;exact HN.out j h;rw [HD.out,NC.out];simp⟩
        case measure=>simp [intOf];omega
      ·rw [g0] at NC
       clear p1 p2 p3
       go_wp2_with (go_at_call 105;refine (rplain_any _ _).mono ?_;rw [g0];rintro e w' ⟨rfl,rfl⟩)
       go_round
       case rel=>exact ⟨k+1,by omega,by go_num,fun j hj=>by rcases (by omega:j < k∨j=k) with h|rfl;exact HN.out j h;rw [HD.out,NC.out];simp⟩
       case measure=>simp [intOf];omega
     ·have Y:=Lib.hid (nm_yes (s:=s) (fun j hj=>HN.out j (by omega)))
      go_wp2
      go_ret
      exact ⟨by rw [X.out,Y.out];rfl,HB.out⟩
theorem vdigit_any (c:Nat) (w:World):Calls Tryz.prog 146 #[.int .u8 (c:Int)] w fun e w'=>e=.returned (.bool (digB c))∧w=w':=by
 have X:=Lib.hid (show digB c=(decide ((48:Int)≤c)&&decide ((c:Int)≤57)) by unfold digB;rw [Bool.eq_iff_iff];simp;omega)
 by_cases h:(48:Int)≤c
 ·go_enter Tryz.func146,Tryz.ntmps146
  go_wp2
  go_ret
  refine ⟨?_,rfl⟩
  rw [X.out];simp [h]
 ·have h2:(c:Int) < 48:=by omega
  go_enter Tryz.func146,Tryz.ntmps146
  go_wp2
  go_ret
  refine ⟨?_,rfl⟩
  rw [X.out];simp;omega
theorem vnotDigit_any (c:Nat) (w:World):Calls Tryz.prog 145 #[.int .u8 (c:Int)] w fun e w'=>e=.returned (.bool (!digB c))∧w=w':=by
 cases h:digB c
 all_goals
  go_enter Tryz.func145,Tryz.ntmps145
  go_wp2_with (go_at_call 146;refine (vdigit_any _ _).mono ?_;rw [h];rintro e w' ⟨rfl,rfl⟩)
  go_ret
  exact ⟨rfl,rfl⟩
theorem vletter_any (c:Nat) (w:World):Calls Tryz.prog 159 #[.int .u8 (c:Int)] w fun e w'=>e=.returned (.bool (letB c))∧w=w':=by
 have X:=Lib.hid (show letB c=((decide ((65:Int)≤c)&&decide ((c:Int)≤90))||(decide ((97:Int)≤c)&&decide ((c:Int)≤122))) by unfold letB;rw [Bool.eq_iff_iff];simp;omega)
 go_enter Tryz.func159,Tryz.ntmps159
 go_wp2
 all_goals
  go_ret
  refine ⟨congrArg (fun b=>Ending.returned (.bool b)) ?_,rfl⟩
  rw [X.out,Bool.eq_iff_iff]
  simp
  omega
theorem rX_is (c:Nat):hasB rX c=(decide (c=46)||decide (c=43)||decide (c=126)):=by
 unfold hasB rX
 rw [Bool.eq_iff_iff]
 simp
 omega
theorem uX_is (c:Nat):chB uX c=(chB rX c||decide (c=45)||decide (c=58)):=by
 unfold chB hasB uX rX
 cases letB c<;>cases digB c<;>rw [Bool.eq_iff_iff]<;>simp
 omega
theorem vrev_any (c:Nat) (w:World):Calls Tryz.prog 140 #[.int .u8 (c:Int)] w fun e w'=>e=.returned (.bool (chB rX c))∧w=w':=by
 have X:=Lib.hid (show chB rX c=(letB c||digB c||decide (c=46)||decide (c=43)||decide (c=126)) by unfold chB;rw [rX_is,←Bool.or_assoc,←Bool.or_assoc])
 have p1:((c:Int)==46)=decide (c=46):=by rw [Bool.eq_iff_iff];simp;omega
 have p2:((c:Int)==43)=decide (c=43):=by rw [Bool.eq_iff_iff];simp;omega
 have p3:((c:Int)==126)=decide (c=126):=by rw [Bool.eq_iff_iff];simp;omega
 cases h1:letB c<;>cases h2:digB c<;>rw [h1,h2] at X<;>cases h3:decide (c=46)<;>rw [h3] at X p1<;>cases h4:decide (c=43)<;>rw [h4] at X p2<;>cases h5:decide (c=126)<;>rw [h5] at X p3
 all_goals
  clear h3 h4 h5
  go_enter Tryz.func140,Tryz.ntmps140
  go_wp2_with (first|(go_at_call 159;refine (vletter_any _ _).mono ?_;rw [h1];rintro e w' ⟨rfl,rfl⟩)|(go_at_call 146;refine (vdigit_any _ _).mono ?_;rw [h2];rintro e w' ⟨rfl,rfl⟩))
  go_ret
  exact ⟨by rw [X.out];rfl,rfl⟩
theorem vup_any (c:Nat) (w:World):Calls Tryz.prog 157 #[.int .u8 (c:Int)] w fun e w'=>e=.returned (.bool (chB uX c))∧w=w':=by
 have X:=Lib.hid (uX_is c)
 have p1:((c:Int)==45)=decide (c=45):=by rw [Bool.eq_iff_iff];simp;omega
 have p2:((c:Int)==58)=decide (c=58):=by rw [Bool.eq_iff_iff];simp;omega
 cases h1:chB rX c<;>rw [h1] at X<;>cases h3:decide (c=45)<;>rw [h3] at X p1<;>cases h4:decide (c=58)<;>rw [h4] at X p2
 all_goals
  clear h3 h4
  go_enter Tryz.func157,Tryz.ntmps157
  go_wp2_with (go_at_call 140;refine (vrev_any _ _).mono ?_;rw [h1];rintro e w' ⟨rfl,rfl⟩)
  go_ret
  exact ⟨by rw [X.out];rfl,rfl⟩
theorem ext_take {s:ByteArray} {k:Nat}:s.extract 0 k=mk ((B s).take k):=by
 apply eq_mk;rw [B_extract];simp
theorem ext_drop {s:ByteArray} {k:Nat}:s.extract k s.size=mk ((B s).drop k):=by
 apply eq_mk;rw [B_extract]
 rw [List.take_of_length_le (by rw [List.length_drop,B_len];omega)]
theorem cut_any (f:Nat) (p:Nat→Bool) (s:ByteArray) (w:World) (hs:s.size≤9223372036854775807)
  (hk:∀(args:Array Value) (w:World),(callFunc f args).run Tryz.prog w=.ok (.enter f args) w)
  (hf:∀(c:Nat) (w:World),Calls Tryz.prog f #[.int .u8 (c:Int)] w fun e w'=>e=.returned (.bool (p c))∧w=w') :
  Calls Tryz.prog 144 #[.string s,.func (.func f) #[] #[]] w fun e w'=>e=.returned (.tuple #[.string (mk ((B s).takeWhile p)),.string (mk ((B s).dropWhile p))])∧∃n,w'=w.drewN n:=by
 have HF:=Lib.hid hf
 clear hf
 go_enter Tryz.func144,Tryz.ntmps144
 go_wp2
 go_loop [6] (fun i=>∃k:Nat,k≤s.size∧i=.int .i64 k∧∀j,j < k→p ((B s).getD j 0)=true) (fun i=>s.size - (intOf i).toNat)
 case atStart=>exact ⟨0,Nat.zero_le _,rfl,fun j hj=>by omega⟩
 case round=>
  obtain ⟨k,hk',rfl,hno⟩:=hrel
  have HN:=Lib.hid hno
  clear hno
  by_cases hlt:k < s.size
  ·have HB:=Lib.hid (B_getD s k hlt)
   cases hc:p s[k].toNat
   ·have HT:=Lib.hid (takeWhile_is (p:=p) (l:=B s) (n:=k) (by rw [B_len];omega) HN.out (.inr (by rw [HB.out];exact hc)))
    have HD:=Lib.hid (dropWhile_is (p:=p) (l:=B s) (n:=k) (by rw [B_len];omega) HN.out (.inr (by rw [HB.out];exact hc)))
    have HC:=Lib.hid hc
    clear hc
    go_wp2_with fail
    refine (HF.out _ _).mono ?_
    rw [HC.out]
    rintro e w' ⟨rfl,rfl⟩
    go_wp2
    go_quiet (fail)
    go_wp2
    go_ret2
    exact ⟨by rw [HT.out,HD.out,←ext_take,←ext_drop];rfl,_,rfl⟩
   ·have HC:=Lib.hid hc
    clear hc
    go_wp2_with fail
    refine (HF.out _ _).mono ?_
    rw [HC.out]
    rintro e w' ⟨rfl,rfl⟩
    go_wp2
    go_round
    case rel=>exact ⟨k+1,by omega,by go_num,fun j hj=>by rcases (by omega:j < k∨j=k) with h|rfl;exact HN.out j h;rw [HB.out];exact HC.out⟩
    case measure=>simp [intOf];omega
  ·have HT:=Lib.hid (takeWhile_is (p:=p) (l:=B s) (n:=k) (by rw [B_len];omega) HN.out (.inl (by rw [B_len];omega)))
   have HD:=Lib.hid (dropWhile_is (p:=p) (l:=B s) (n:=k) (by rw [B_len];omega) HN.out (.inl (by rw [B_len];omega)))
   go_wp2
   go_quiet (fail)
   go_wp2
   go_ret2
   exact ⟨by rw [HT.out,HD.out,←ext_take,←ext_drop];rfl,_,rfl⟩
theorem all_drop (p:Nat→Bool):∀l:List Nat,l.all p=true↔l.dropWhile p=[]
 | []=>by simp
 | c::l=>by
  cases h:p c
  ·simp [h]
  ·simp only [List.all_cons,h,Bool.true_and,List.dropWhile_cons,if_true]
   exact all_drop p l
theorem mk_empty (l:List Nat):(mk l).toList.isEmpty=l.isEmpty:=by
 rw [toList_data]
 cases l<;>simp [mk]
theorem each_any (f:Nat) (p:Nat→Bool) (s:ByteArray) (w:World) (hs:s.size≤9223372036854775807)
  (hk:∀(args:Array Value) (w:World),(callFunc f args).run Tryz.prog w=.ok (.enter f args) w)
  (hf:∀(c:Nat) (w:World),Calls Tryz.prog f #[.int .u8 (c:Int)] w fun e w'=>e=.returned (.bool (p c))∧w=w') :
  Calls Tryz.prog 139 #[.string s,.func (.func f) #[] #[]] w fun e w'=>e=.returned (.bool ((B s).all p))∧∃n,w'=w.drewN n:=by
 have X:=Lib.hid (show ((mk ((B s).dropWhile p)).toList.isEmpty)=(B s).all p by
  rw [mk_empty,Bool.eq_iff_iff,all_drop,List.isEmpty_iff])
 have C:=Lib.hid (fun w=>cut_any f p s w hs hk hf)
 clear hf hk
 go_enter Tryz.func139,Tryz.ntmps139
 go_wp2_with (go_at_call 144;(with_reducible refine (C.out _).mono ?_);rintro e w' ⟨rfl,n,rfl⟩)
 go_ret
 refine ⟨?_,n,rfl⟩
 rw [←X.out]
 rfl
theorem firstI_none:∀(l:List Nat) (n:Nat),(∀c ∈ l,c≠58)→firstI l n=none
 | [],_,_=>rfl
 | c::l,n,h=>by
  show (if c=58 then some n else firstI l (n+1))=none
  rw [if_neg (h c (by simp))]
  exact firstI_none l _ (fun d hd=>h d (by simp [hd]))
theorem firstI_at:∀(a b:List Nat) (n:Nat),(∀c ∈ a,c≠58)→firstI (a++58::b) n=some (n+a.length)
 | [],b,n,_=>rfl
 | c::a,b,n,h=>by
  show (if c=58 then some n else firstI (a++58::b) (n+1))=_
  rw [if_neg (h c (by simp)),firstI_at a b _ (fun d hd=>h d (by simp [hd])),List.length_cons]
  congr 1;omega
theorem numF_dec:∀(f n:Nat) (l:List Nat),n < f→(decF f n l).foldl (fun n c=>10*n+(c - 48)) 0=l.foldl (fun n c=>10*n+(c - 48)) n
 | 0,_,_,h=>by omega
 | f+1,n,l,h=>by
  simp only [decF]
  split
  ·simp only [List.foldl_cons];congr 1;omega
  ·rw [numF_dec f (n / 10) _ (by omega)]
   simp only [List.foldl_cons];congr 1;omega
theorem numV_dec (n:Nat):numV (decL n)=n:=by unfold numV decL;rw [numF_dec _ _ _ (by omega)];rfl
theorem decF_short:∀(f n k:Nat) (l:List Nat),n < 10 ^ (k+1)→(decF f n l).length≤k+1+l.length
 | 0,_,_,l,_=>by simp only [decF];omega
 | f+1,n,k,l,h=>by
  simp only [decF]
  split
  ·simp;omega
  ·match k with
   | 0=>simp at h;omega
   | k+1=>
    have:=decF_short f (n / 10) k ((48+n % 10)::l) (by rw [Nat.pow_succ] at h;omega)
    simp at this;omega
theorem decF_dig2:∀(f n:Nat) (l:List Nat),(∀c ∈ l,digB c=true)→∀c ∈ decF f n l,digB c=true
 | 0,_,_,h=>h
 | f+1,n,l,h=>by
  simp only [decF]
  split
  ·intro c hc
   rcases List.mem_cons.1 hc with rfl|hc
   ·simp only [digB,decide_eq_true_eq];omega
   ·exact h c hc
  ·refine decF_dig2 f _ _ (fun c hc=>?_)
   rcases List.mem_cons.1 hc with rfl|hc
   ·simp only [digB,decide_eq_true_eq];omega
   ·exact h c hc
theorem decF_ne2:∀(f n:Nat) (l:List Nat),l≠[]→decF f n l≠[]
 | 0,_,_,h=>h
 | f+1,n,l,h=>by
  simp only [decF]
  split
  ·simp
  ·exact decF_ne2 f _ _ (by simp)
theorem decL_ne2 (n:Nat):decL n≠[]:=by
 unfold decL
 simp only [decF]
 split
 ·simp
 ·exact decF_ne2 _ _ _ (by simp)
theorem numL_dec (n:Nat) (h:n≤999999999):numL (decL n)=n:=by
 unfold numL
 have h9:=decF_short (n+1) n 8 [] (by omega)
 rw [if_pos ⟨decL_ne2 n,by simpa [decL] using h9,List.all_eq_true.2 (decF_dig2 _ _ _ (by simp)),by rw [numV_dec]⟩,numV_dec]
theorem colons {e:Int} {u r:List Nat} (h:rightB e u r=true):colE (textL e.toNat u r)=e∧colU (textL e.toNat u r)=u++(if r=[] then [] else 45::r):=by
 obtain ⟨h0,h1⟩:=rightB_epoch h
 have h':=h
 unfold rightB at h'
 simp only [Bool.and_eq_true,Bool.not_eq_true',Bool.and_eq_false_iff] at h'
 obtain ⟨⟨⟨⟨⟨⟨_,_⟩,_⟩,h58⟩,hu⟩,hr⟩,_⟩:=h'
 by_cases he:e=0
 ·subst he
  have hu58:∀c ∈ u,c≠58:=by
   rintro c hc rfl
   rcases h58 with h58|h58
   ·unfold hasB at h58
    rw [Bool.eq_false_iff] at h58
    exact h58 (List.contains_iff_mem.2 hc)
   ·exact absurd h58 (by decide)
  have hr58:∀c ∈ r,c≠58:=by
   rintro c hc rfl
   exact absurd (List.all_eq_true.1 hr 58 hc) (by decide)
  have e1:textL (0:Int).toNat u r=u++(if r=[] then [] else 45::r):=by unfold textL;rw [if_pos (show (0:Int).toNat=0 from rfl),List.nil_append]
  have hno:∀c ∈ u++(if r=[] then [] else 45::r),c≠58:=by
   intro c hc
   rcases List.mem_append.1 hc with hc|hc
   ·exact hu58 c hc
   ·split at hc
    ·cases hc
    ·rcases List.mem_cons.1 hc with rfl|hc
     ·decide
     ·exact hr58 c hc
  rw [e1]
  unfold colE colU
  rw [firstI_none _ 0 hno]
  exact ⟨rfl,rfl⟩
 ·have e1:textL e.toNat u r=decL e.toNat++58::(u++(if r=[] then [] else 45::r)):=by unfold textL;rw [if_neg (by omega)];simp
  have hno:∀c ∈ decL e.toNat,c≠58:=by
   rintro c hc rfl
   exact absurd (decF_dig2 _ _ _ (by simp) 58 hc) (by decide)
  rw [e1]
  unfold colE colU
  rw [firstI_at _ _ 0 hno]
  refine ⟨?_,?_⟩
  ·show numL (List.take (0+(decL e.toNat).length) _)=e
   rw [Nat.zero_add,List.take_left,numL_dec _ (by omega)];omega
  ·show List.drop (0+(decL e.toNat).length+1) _=_
   rw [Nat.zero_add,List.drop_length_add_append];rfl
theorem cmpInt_any (x y:Int) (w:World):Calls Tryz.prog 128 #[.int .i64 x,.int .i64 y] w fun e w'=>e=.returned (.int .i64 (sgn (x - y)))∧w=w':=by
 have h0:(x != x)=false:=by simp
 have h1:(y != y)=false:=by simp
 rcases Int.lt_trichotomy x y with h|h|h
 ·have X:=Lib.hid (show sgn (x - y)=-1 by unfold sgn;rw [if_pos (by omega)])
  go_enter Tryz.func128,Tryz.ntmps128
  go_wp2
  go_ret
  exact ⟨by rw [X.out];rfl,rfl⟩
 ·have X:=Lib.hid (show sgn (x - y)=0 by unfold sgn;rw [if_neg (by omega),if_neg (by omega)])
  have a:¬x < y:=by omega
  have b:¬y < x:=by omega
  have H:=Lib.hid h
  clear h
  go_enter Tryz.func128,Tryz.ntmps128
  go_wp2
  all_goals
   go_ret
   exact ⟨by rw [X.out];rfl,rfl⟩
 ·have X:=Lib.hid (show sgn (x - y)=1 by unfold sgn;rw [if_neg (by omega),if_pos (by omega)])
  have a:¬x < y:=by omega
  go_enter Tryz.func128,Tryz.ntmps128
  go_wp2
  go_ret
  exact ⟨by rw [X.out];rfl,rfl⟩
def orL:List Int→Int
 | []=>0
 | x::l=>if x≠0 then x else orL l
theorem orL_at:∀(l:List Int) (k:Nat),k < l.length→(∀j,j < k→l.getD j 0=0)→l.getD k 0≠0→orL l=l.getD k 0
 | [],k,h,_,_=>by simp at h
 | x::l,0,_,_,hne=>by simp only [orL];rw [if_pos (by simpa using hne)];simp
 | x::l,k+1,h,hz,hne=>by
  have h0:=hz 0 (by omega)
  simp only [List.getD_cons_zero] at h0
  simp only [orL]
  rw [if_neg (by simp [h0]),List.getD_cons_succ]
  exact orL_at l k (by simpa using h) (fun j hj=>by have:=hz (j+1) (by omega);simpa using this) (by simpa using hne)
theorem orL_none:∀(l:List Int),(∀j,j < l.length→l.getD j 0=0)→orL l=0
 | [],_=>rfl
 | x::l,hz=>by
  have h0:=hz 0 (by simp)
  simp only [List.getD_cons_zero] at h0
  simp only [orL]
  rw [if_neg (by simp [h0])]
  exact orL_none l (fun j hj=>by have:=hz (j+1) (by simpa using hj);simpa using this)
theorem or_any (g n:Nat) (l:List Int) (w:World) (hl:l.length=n) (hn:n≤65536) (hc:∀k,k < n→w.cell? ⟨g,k,none⟩=some (.int .i64 (l.getD k 0))) :
  Calls Tryz.prog 90 #[.slice (some ⟨g,0,none⟩) n n] w fun e w'=>e=.returned (.int .i64 (orL l))∧w=w':=by
 have HL:=Lib.hid hl
 have HC:=Lib.hid hc
 clear hl hc
 go_enter Tryz.func90,Tryz.ntmps90
 go_wp2
 go_loop [5,8] (fun _ i=>∃k:Nat,k≤n∧i=.int .i64 k∧∀j,j < k→l.getD j 0=0) (fun _ i=>n - (intOf i).toNat)
 case atStart=>exact ⟨0,Nat.zero_le _,rfl,fun j hj=>by omega⟩
 case round=>
  obtain ⟨k,hk',rfl,hno⟩:=hrel
  have HN:=Lib.hid hno
  clear hno
  by_cases hlt:k < n
  ·have c0:w.cell? ⟨g,k,none⟩=some (.int .i64 (l.getD k 0)):=HC.out k hlt
   by_cases hx:l.getD k 0=0
   ·have HX:=Lib.hid hx
    have t1:(l.getD k 0 != 0)=false:=by rw [bne_eq_false_iff_eq];exact hx
    clear hx
    generalize hy:l.getD k 0=y at *
    have HY:=Lib.hid hy
    clear hy
    go_wp2
    go_round
    case rel=>exact ⟨k+1,by omega,by go_num,fun j hj=>by rcases (by omega:j < k∨j=k) with h|rfl;exact HN.out j h;rw [HY.out];exact HX.out⟩
    case measure=>simp [intOf];omega
   ·have X:=Lib.hid (orL_at l k (by rw [HL.out];exact hlt) HN.out hx)
    have t1:(l.getD k 0 != 0)=true:=by rw [bne_iff_ne];exact hx
    clear hx
    generalize l.getD k 0=y at *
    go_wp2
    go_ret
    exact ⟨by rw [X.out];rfl,rfl⟩
  ·have X:=Lib.hid (orL_none l (fun j hj=>HN.out j (by rw [HL.out] at hj;omega)))
   go_wp2
   go_ret
   exact ⟨by rw [X.out];rfl,rfl⟩
def vw:List Nat→Int
 | []=>0
 | c::_=>if c=126 then -1 else if letB c then c else c+256
theorem weigher_any (s:ByteArray) (w:World):Calls Tryz.prog 162 #[.string s] w fun e w'=>e=.returned (.func (.func 172) #[] #[.pointer (some ⟨w.heap.size,0,none⟩)])∧w'=w.alloc (.cells #[.string s] 9):=by
 have hmf:∀(fn:Fn) (first cap:Array Value) (w:World),(Instr.makeFunc fn first cap).run Tryz.prog w=.ok (.func fn first cap) w:=fun _ _ _ _=>rfl
 go_enter Tryz.func162,Tryz.ntmps162
 go_wp2
 go_ret
 exact ⟨rfl,rfl⟩
theorem weigh_any (s:ByteArray) (k:Nat) (p:Addr) (w:World) (hc:w.cell? p=some (.string s)) :
  Calls Tryz.prog 172 #[.int .i64 (k:Int),.pointer (some p)] w fun e w'=>e=.returned (.int .i64 (vw ((B s).drop k)))∧w=w':=by
 by_cases hk:k < s.size
 ·have hl:=byte_le s k hk
  have hd:=Lib.hid (B_drop s k hk)
  have t0:decide (s.size≤k)=false:=by simp;omega
  by_cases h2:s[k].toNat=126
  ·have t2:((s[k].toNat:Int)==126)=true:=by rw [beq_iff_eq];omega
   have X:=Lib.hid (show vw ((B s).drop k)=-1 by rw [hd.out];simp [vw,h2])
   clear h2
   go_enter Tryz.func172,Tryz.ntmps172
   go_wp2
   go_ret
   exact ⟨by rw [X.out];rfl,rfl⟩
  ·have t2:((s[k].toNat:Int)==126)=false:=by rw [beq_eq_false_iff_ne];omega
   cases h3:letB s[k].toNat
   ·have X:=Lib.hid (show vw ((B s).drop k)=s[k].toNat+256 by rw [hd.out];simp [vw,h2,h3])
    clear h2
    go_enter Tryz.func172,Tryz.ntmps172
    go_wp2_with (go_at_call 159;refine (vletter_any _ _).mono ?_;rw [h3];rintro e w' ⟨rfl,rfl⟩)
    go_ret
    exact ⟨by rw [X.out];rfl,rfl⟩
   ·have X:=Lib.hid (show vw ((B s).drop k)=s[k].toNat by rw [hd.out];simp [vw,h2,h3])
    clear h2
    go_enter Tryz.func172,Tryz.ntmps172
    go_wp2_with (go_at_call 159;refine (vletter_any _ _).mono ?_;rw [h3];rintro e w' ⟨rfl,rfl⟩)
    go_ret
    exact ⟨by rw [X.out];rfl,rfl⟩
 ·have X:=Lib.hid (show vw ((B s).drop k)=0 by rw [B_drop_end s k (by omega)];rfl)
  have t0:decide (s.size≤k)=true:=by simp;omega
  go_enter Tryz.func172,Tryz.ntmps172
  go_wp2
  go_ret
  exact ⟨by rw [X.out];rfl,rfl⟩
def cwT:Nat→List Nat→List Nat→Int
 | 0,_,_=>0
 | f+1,a,b=>if sgn (vw a - vw b)≠0 then sgn (vw a - vw b) else cwT f (a.drop 1) (b.drop 1)
def cwL (a b:List Nat):Int:=cwT (max a.length b.length) a b
theorem cwT_step {m k:Nat} (hk:k < m) (a b:List Nat):cwT (m - k) (a.drop k) (b.drop k)=if sgn (vw (a.drop k) - vw (b.drop k))≠0 then sgn (vw (a.drop k) - vw (b.drop k)) else cwT (m - (k+1)) (a.drop (k+1)) (b.drop (k+1)):=by
 obtain ⟨f,hf⟩:∃f,m - k=f+1:=⟨m - k - 1,by omega⟩
 rw [hf]
 simp only [cwT]
 rw [List.drop_drop,List.drop_drop,show f=m - (k+1) by omega]
theorem words_lt (s t:ByteArray) (w:World) (hs:s.size≤9223372036854775807) (ht:t.size≤9223372036854775807) (h:s.size < t.size) :
  Calls Tryz.prog 147 #[.string s,.string t] w fun e w'=>e=.returned (.int .i64 (cwL (B s) (B t)))∧Below w.heap.size w w':=by
 have hcf:∀(args:Array Value) (w:World),(callFunc 172 args).run Tryz.prog w=.ok (.enter 172 args) w:=fun _ _=>by kernel_rfl
 have C:=Lib.hid cmpInt_any
 have WS:=Lib.hid (weigher_any s w)
 have WT:=Lib.hid (weigher_any t (w.alloc (.cells #[.string s] 9)))
 have M:=Lib.hid (show cwL (B s) (B t)=cwT (t.size - 0) ((B s).drop 0) ((B t).drop 0) by
  unfold cwL;rw [B_len,B_len,List.drop_zero,List.drop_zero,Nat.sub_zero];congr 1;omega)
 go_enter Tryz.func147,Tryz.ntmps147
 go_wp2_with (first|(go_at_call 162;(with_reducible refine WS.out.mono ?_);rintro e w' ⟨rfl,rfl⟩)|(go_at_call 162;(with_reducible refine WT.out.mono ?_);rintro e w' ⟨rfl,rfl⟩))
 obtain ⟨V,hV⟩:∃V,V=(w.alloc (.cells #[.string s] 9)).alloc (.cells #[.string t] 9):=⟨_,rfl⟩
 have c0:V.cell? ⟨w.heap.size,0,none⟩=some (.string s):=by rw [hV];simp [go_sem]
 have c1:V.cell? ⟨w.heap.size+1,0,none⟩=some (.string t):=by rw [hV];simp [go_sem]
 have hB:Below w.heap.size w V:=by rw [hV];exact ((Below.refl _ w).alloc (Nat.le_refl _) _).alloc (by simp) _
 rw [←hV]
 clear hV WS WT h
 go_loop [18] (fun i=>∃k:Nat,k≤t.size∧i=.int .i64 k∧cwL (B s) (B t)=cwT (t.size - k) ((B s).drop k) ((B t).drop k)) (fun i=>t.size - (intOf i).toNat)
 case atStart=>exact ⟨0,Nat.zero_le _,rfl,M.out⟩
 case round=>
  obtain ⟨k,hk',rfl,hno⟩:=hrel
  have HN:=Lib.hid hno
  clear hno M
  by_cases hlt:k < t.size
  ·have ST:=Lib.hid (cwT_step hlt (B s) (B t))
   have A1:=Lib.hid (weigh_any s k ⟨w.heap.size,0,none⟩ V c0)
   have A2:=Lib.hid (weigh_any t k ⟨w.heap.size+1,0,none⟩ V c1)
   by_cases hx:sgn (vw ((B s).drop k) - vw ((B t).drop k))=0
   ·have N2:=Lib.hid (show cwL (B s) (B t)=cwT (t.size - (k+1)) ((B s).drop (k+1)) ((B t).drop (k+1)) by rw [HN.out,ST.out,if_neg (by simp [hx])])
    have t1:(sgn (vw ((B s).drop k) - vw ((B t).drop k)) != 0)=false:=by rw [bne_eq_false_iff_eq];exact hx
    clear hx
    go_wp2_with (first|(go_at_call 172;(with_reducible refine A1.out.mono ?_);rintro e w' ⟨rfl,rfl⟩)|(go_at_call 172;(with_reducible refine A2.out.mono ?_);rintro e w' ⟨rfl,rfl⟩)|(go_at_call 128;(with_reducible refine (C.out _ _ _).mono ?_);rintro e w' ⟨rfl,rfl⟩))
    go_round
    case rel=>exact ⟨k+1,by omega,by go_num,N2.out⟩
    case measure=>simp [intOf];omega
   ·have N2:=Lib.hid (show cwL (B s) (B t)=sgn (vw ((B s).drop k) - vw ((B t).drop k)) by rw [HN.out,ST.out,if_pos hx])
    have t1:(sgn (vw ((B s).drop k) - vw ((B t).drop k)) != 0)=true:=by rw [bne_iff_ne];exact hx
    clear hx
    go_wp2_with (first|(go_at_call 172;(with_reducible refine A1.out.mono ?_);rintro e w' ⟨rfl,rfl⟩)|(go_at_call 172;(with_reducible refine A2.out.mono ?_);rintro e w' ⟨rfl,rfl⟩)|(go_at_call 128;(with_reducible refine (C.out _ _ _).mono ?_);rintro e w' ⟨rfl,rfl⟩))
    go_ret
    exact ⟨by rw [N2.out];rfl,hB⟩
  ·have N2:=Lib.hid (show cwL (B s) (B t)=0 by rw [HN.out,show t.size - k=0 by omega];rfl)
   go_wp2
   go_ret
   exact ⟨by rw [N2.out];rfl,hB⟩
theorem words_ge (s t:ByteArray) (w:World) (hs:s.size≤9223372036854775807) (ht:t.size≤9223372036854775807) (h:¬s.size < t.size) :
  Calls Tryz.prog 147 #[.string s,.string t] w fun e w'=>e=.returned (.int .i64 (cwL (B s) (B t)))∧Below w.heap.size w w':=by
 have hcf:∀(args:Array Value) (w:World),(callFunc 172 args).run Tryz.prog w=.ok (.enter 172 args) w:=fun _ _=>by kernel_rfl
 have C:=Lib.hid cmpInt_any
 have WS:=Lib.hid (weigher_any s w)
 have WT:=Lib.hid (weigher_any t (w.alloc (.cells #[.string s] 9)))
 have M:=Lib.hid (show cwL (B s) (B t)=cwT (s.size - 0) ((B s).drop 0) ((B t).drop 0) by
  unfold cwL;rw [B_len,B_len,List.drop_zero,List.drop_zero,Nat.sub_zero];congr 1;omega)
 go_enter Tryz.func147,Tryz.ntmps147
 go_wp2_with (first|(go_at_call 162;(with_reducible refine WS.out.mono ?_);rintro e w' ⟨rfl,rfl⟩)|(go_at_call 162;(with_reducible refine WT.out.mono ?_);rintro e w' ⟨rfl,rfl⟩))
 obtain ⟨V,hV⟩:∃V,V=(w.alloc (.cells #[.string s] 9)).alloc (.cells #[.string t] 9):=⟨_,rfl⟩
 have c0:V.cell? ⟨w.heap.size,0,none⟩=some (.string s):=by rw [hV];simp [go_sem]
 have c1:V.cell? ⟨w.heap.size+1,0,none⟩=some (.string t):=by rw [hV];simp [go_sem]
 have hB:Below w.heap.size w V:=by rw [hV];exact ((Below.refl _ w).alloc (Nat.le_refl _) _).alloc (by simp) _
 rw [←hV]
 clear hV WS WT h
 go_loop [18] (fun i=>∃k:Nat,k≤s.size∧i=.int .i64 k∧cwL (B s) (B t)=cwT (s.size - k) ((B s).drop k) ((B t).drop k)) (fun i=>s.size - (intOf i).toNat)
 case atStart=>exact ⟨0,Nat.zero_le _,rfl,M.out⟩
 case round=>
  obtain ⟨k,hk',rfl,hno⟩:=hrel
  have HN:=Lib.hid hno
  clear hno M
  by_cases hlt:k < s.size
  ·have ST:=Lib.hid (cwT_step hlt (B s) (B t))
   have A1:=Lib.hid (weigh_any s k ⟨w.heap.size,0,none⟩ V c0)
   have A2:=Lib.hid (weigh_any t k ⟨w.heap.size+1,0,none⟩ V c1)
   by_cases hx:sgn (vw ((B s).drop k) - vw ((B t).drop k))=0
   ·have N2:=Lib.hid (show cwL (B s) (B t)=cwT (s.size - (k+1)) ((B s).drop (k+1)) ((B t).drop (k+1)) by rw [HN.out,ST.out,if_neg (by simp [hx])])
    have t1:(sgn (vw ((B s).drop k) - vw ((B t).drop k)) != 0)=false:=by rw [bne_eq_false_iff_eq];exact hx
    clear hx
    go_wp2_with (first|(go_at_call 172;(with_reducible refine A1.out.mono ?_);rintro e w' ⟨rfl,rfl⟩)|(go_at_call 172;(with_reducible refine A2.out.mono ?_);rintro e w' ⟨rfl,rfl⟩)|(go_at_call 128;(with_reducible refine (C.out _ _ _).mono ?_);rintro e w' ⟨rfl,rfl⟩))
    go_round
    case rel=>exact ⟨k+1,by omega,by go_num,N2.out⟩
    case measure=>simp [intOf];omega
   ·have N2:=Lib.hid (show cwL (B s) (B t)=sgn (vw ((B s).drop k) - vw ((B t).drop k)) by rw [HN.out,ST.out,if_pos hx])
    have t1:(sgn (vw ((B s).drop k) - vw ((B t).drop k)) != 0)=true:=by rw [bne_iff_ne];exact hx
    clear hx
    go_wp2_with (first|(go_at_call 172;(with_reducible refine A1.out.mono ?_);rintro e w' ⟨rfl,rfl⟩)|(go_at_call 172;(with_reducible refine A2.out.mono ?_);rintro e w' ⟨rfl,rfl⟩)|(go_at_call 128;(with_reducible refine (C.out _ _ _).mono ?_);rintro e w' ⟨rfl,rfl⟩))
    go_ret
    exact ⟨by rw [N2.out];rfl,hB⟩
  ·have N2:=Lib.hid (show cwL (B s) (B t)=0 by rw [HN.out,show s.size - k=0 by omega];rfl)
   go_wp2
   go_ret
   exact ⟨by rw [N2.out];rfl,hB⟩
theorem words_any (s t:ByteArray) (w:World) (hs:s.size≤9223372036854775807) (ht:t.size≤9223372036854775807) :
  Calls Tryz.prog 147 #[.string s,.string t] w fun e w'=>e=.returned (.int .i64 (cwL (B s) (B t)))∧Below w.heap.size w w':=by
 by_cases h:s.size < t.size
 ·exact words_lt s t w hs ht h
 ·exact words_ge s t w hs ht h
def ndB (c:Nat):Bool:=!digB c
def wordL (l:List Nat):List Nat:=l.takeWhile ndB
def behL (l:List Nat):List Nat:=l.dropWhile ndB
theorem wordL_nil {l:List Nat} (h:nonD l=false):wordL l=[]∧behL l=l:=by
 cases l with
 | nil=>exact ⟨rfl,rfl⟩
 | cons c l=>
  simp only [nonD,Bool.not_eq_false'] at h
  simp [wordL,behL,ndB,h]
theorem wordL_cons {l:List Nat} (h:nonD l=true):∃c,l=c::l.drop 1∧digB c=false∧wordL l=c::wordL (l.drop 1)∧behL l=behL (l.drop 1):=by
 cases l with
 | nil=>simp [nonD] at h
 | cons c l=>
  simp only [nonD,Bool.not_eq_true'] at h
  exact ⟨c,by simp,h,by simp [wordL,ndB,h],by simp [behL,ndB,h]⟩
theorem behL_non (l:List Nat):nonD (behL l)=false:=by
 unfold behL
 induction l with
 | nil=>rfl
 | cons c l ih=>
  rw [List.dropWhile_cons]
  split
  ·exact ih
  ·rename_i h;simp only [ndB,Bool.not_eq_true',Bool.not_eq_false] at h;simp [nonD,h]
theorem cwL_step (a b:List Nat) (h:a≠[]∨b≠[]):cwL a b=if sgn (vw a - vw b)≠0 then sgn (vw a - vw b) else cwL (a.drop 1) (b.drop 1):=by
 have hm:∃f,max a.length b.length=f+1∧max (a.drop 1).length (b.drop 1).length=f:=by
  rcases a with _|⟨x,a⟩<;>rcases b with _|⟨y,b⟩
  ·simp at h
  ·exact ⟨b.length,by simp,by simp⟩
  ·exact ⟨a.length,by simp,by simp⟩
  ·exact ⟨max a.length b.length,by simp only [List.length_cons];omega,by simp⟩
 obtain ⟨f,h1,h2⟩:=hm
 unfold cwL
 rw [h1,h2]
 rfl
theorem cwL_nil:cwL [] []=0:=rfl
def wtc (c:Nat):Int:=if c=126 then -1 else if letB c then c else 1000+c
def vwc (c:Nat):Int:=if c=126 then -1 else if letB c then c else c+256
theorem let_bd {c:Nat} (h:letB c=true):65≤c∧c≤122:=by simp [letB] at h;omega
theorem same_iff (c d:Nat):(wtc c < wtc d↔vwc c < vwc d)∧(wtc d < wtc c↔vwc d < vwc c):=by
 unfold wtc vwc
 by_cases h1:c=126<;>by_cases h2:d=126<;>by_cases h3:letB c=true<;>by_cases h4:letB d=true<;>simp only [h1,h2,h3,h4,if_true,if_false,Bool.false_eq_true]<;>(try have:=let_bd h3)<;>(try have:=let_bd h4)<;>constructor<;>constructor<;>intro _<;>omega
theorem zero_iff (c:Nat):(wtc c < 0↔vwc c < 0)∧(0 < wtc c↔0 < vwc c):=by
 unfold wtc vwc
 by_cases h1:c=126<;>by_cases h3:letB c=true<;>simp only [h1,h3,if_true,if_false,Bool.false_eq_true]<;>(try have:=let_bd h3)<;>constructor<;>constructor<;>intro _<;>omega
theorem sgn_same {x y u v:Int} (h1:x < y↔u < v) (h2:y < x↔v < u):sgn (x - y)=sgn (u - v):=by
 rcases sgn_is (x - y) with h|h|h<;>rcases sgn_is (u - v) with k|k|k<;>rw [h.2,k.2]<;>exfalso<;>omega
theorem head_same (a b:List Nat):sgn (wt a - wt b)=sgn (vw (wordL a) - vw (wordL b)):=by
 have key:∀l:List Nat,(nonD l=false∧wt l=0∧vw (wordL l)=0)∨∃c,wt l=wtc c∧vw (wordL l)=vwc c:=by
  intro l
  cases h:nonD l
  ·exact .inl ⟨rfl,wt_end h,by rw [(wordL_nil h).1];rfl⟩
  ·obtain ⟨c,e,hd,hw,_⟩:=wordL_cons h
   refine .inr ⟨c,?_,by rw [hw];rfl⟩
   rw [e];simp [wt,wtc,hd]
 rcases key a with ⟨_,a1,a2⟩|⟨c,a1,a2⟩<;>rcases key b with ⟨_,b1,b2⟩|⟨d,b1,b2⟩<;>rw [a1,a2,b1,b2]
 ·exact sgn_same ⟨fun h=>(zero_iff d).2.1 h,fun h=>(zero_iff d).2.2 h⟩ ⟨fun h=>(zero_iff d).1.1 h,fun h=>(zero_iff d).1.2 h⟩
 ·exact sgn_same ⟨fun h=>(zero_iff c).1.1 h,fun h=>(zero_iff c).1.2 h⟩ ⟨fun h=>(zero_iff c).2.1 h,fun h=>(zero_iff c).2.2 h⟩
 ·exact sgn_same (same_iff c d).1 (same_iff c d).2
theorem drop_word {l:List Nat} (h:nonD l=true):(wordL l).drop 1=wordL (l.drop 1):=by
 obtain ⟨c,_,_,hw,_⟩:=wordL_cons h
 rw [hw];simp
theorem cmp_words:∀(n:Nat) (a b:List Nat),a.length+b.length≤n→cmpS a b=if cwL (wordL a) (wordL b)≠0 then cwL (wordL a) (wordL b) else cmpS (behL a) (behL b)
 | 0,a,b,h=>by
  have h1:a=[]:=List.eq_nil_of_length_eq_zero (by omega)
  have h2:b=[]:=List.eq_nil_of_length_eq_zero (by omega)
  subst h1;subst h2
  rfl
 | n+1,a,b,h=>by
  by_cases hn:nonD a=false∧nonD b=false
  ·obtain ⟨a1,a2⟩:=wordL_nil hn.1
   obtain ⟨b1,b2⟩:=wordL_nil hn.2
   rw [a1,a2,b1,b2,cwL_nil,if_neg (by simp)]
  ·have hne:wordL a≠[]∨wordL b≠[]:=by
    cases ha:nonD a
    ·cases hb:nonD b
     ·exact absurd ⟨ha,hb⟩ hn
     ·obtain ⟨c,_,_,hw,_⟩:=wordL_cons hb
      exact .inr (by rw [hw];simp)
    ·obtain ⟨c,_,_,hw,_⟩:=wordL_cons ha
     exact .inl (by rw [hw];simp)
   rw [cwL_step _ _ hne,←head_same]
   by_cases hs:sgn (wt a - wt b)≠0
   ·rw [if_pos hs,if_pos hs]
    exact cmpS_ne (fun e=>hs (by rw [e,Int.sub_self];rfl))
   ·rw [if_neg hs]
    have hor:(nonD a||nonD b)=true:=by
     cases ha:nonD a<;>cases hb:nonD b<;>simp_all
    obtain ⟨ha,hb⟩:=both_non hor hs
    have e:wt a=wt b:=by have:=sgn_zero.1 (Classical.not_not.1 hs);omega
    rw [cmpS_eq e (wt_non ha),drop_word ha,drop_word hb]
    obtain ⟨c,ea,_,_,ba⟩:=wordL_cons ha
    obtain ⟨d,eb,_,_,bb⟩:=wordL_cons hb
    rw [ba,bb]
    refine cmp_words n _ _ ?_
    have:=drop1_len (wt_non ha)
    have:=drop1_len (wt_non hb)
    omega
def numA (l:List Nat):List Nat:=(behL l).takeWhile digB
def restA (l:List Nat):List Nat:=(behL l).dropWhile digB
def dz (l:List Nat):List Nat:=l.dropWhile (fun c=>c==48)
theorem dz_numA (l:List Nat):dz (numA l)=digs (behL l):=rfl
theorem dw_drop (p:Nat→Bool):∀l:List Nat,l.dropWhile p=l.drop (l.takeWhile p).length
 | []=>rfl
 | c::l=>by
  cases h:p c
  ·simp [h]
  ·simp [h];exact dw_drop p l
theorem restA_is (l:List Nat):restA l=(behL l).drop (numD (behL l)):=by
 unfold restA numD
 exact dw_drop digB (behL l)
def stepC (a b:List Nat):Int:=orL [cwL (wordL a) (wordL b),numC (dz (numA a)) (dz (numA b))]
theorem cmp_round (a b:List Nat):cmpS a b=if stepC a b≠0 then stepC a b else cmpS (restA a) (restA b):=by
 rw [cmp_words _ a b (Nat.le_refl _)]
 have wa:wt (behL a)=0:=wt_end (behL_non a)
 have wb:wt (behL b)=0:=wt_end (behL_non b)
 rw [cmpS_no wa wb,←restA_is,←restA_is]
 unfold stepC
 simp only [orL,dz_numA]
 by_cases h1:cwL (wordL a) (wordL b)=0
 ·by_cases h2:numC (digs (behL a)) (digs (behL b))=0
  ·simp [h1,h2]
  ·simp [h1,h2]
 ·simp [h1]
theorem restA_len (l:List Nat):(restA l).length≤l.length:=by
 unfold restA behL
 exact Nat.le_trans (List.dropWhile_suffix _).length_le (List.dropWhile_suffix _).length_le
theorem restA_lt {l:List Nat} (h:l≠[]):(restA l).length < l.length:=by
 cases hn:nonD l
 ·obtain ⟨_,b⟩:=wordL_nil hn
  rw [restA_is,b]
  exact dropN_lt (wt_end hn) h
 ·obtain ⟨c,e,_,_,hb⟩:=wordL_cons hn
  have h1:(restA l).length≤(l.drop 1).length:=by
   unfold restA;rw [hb];exact restA_len (l.drop 1)
  have h2:(l.drop 1).length < l.length:=by rw [List.length_drop];cases l with|nil=>exact absurd rfl h|cons _ _=>simp
  omega
theorem here_info:(Tryz.prog.info? 56).map (fun i=>(i.zero,i.size,i.bytes))=some (some (.agg #[.string { data:=#[] },.string { data:=#[] },.slice none 0 0,.slice none 0 0,.slice none 0 0,.slice none 0 0,.bool false,.bool false]),8,136):=by kernel_rfl
theorem EntV.to {w wr:World} {S S':Nat→Prop} {x:Ent} {A1 A2 A3 A4:Option Addr} {c1 c2 c3 c4:Nat} (h:EntV w S x A1 c1 A2 c2 A3 c3 A4 c4) (h1:∀b,S b→wr.heap[b]?=w.heap[b]?) (h2:∀b,S b→S' b):EntV wr S' x A1 c1 A2 c2 A3 c3 A4 c4:=
 ⟨rdGrps_good.both h.d h1 h2,rdGrps_good.both h.r h1 h2,rdAtms_good.both h.c h1 h2,rdAtms_good.both h.p h1 h2⟩
theorem EntV.hr {w:World} {S:Nat→Prop} {x:Hr} {A1 A2 A3 A4:Option Addr} {c1 c2 c3 c4:Nat} (h:EntV w S x.e A1 c1 A2 c2 A3 c3 A4 c4):rdHr w S x (#[.string x.e.n,.string x.e.v,.slice A1 x.e.d.length c1,.slice A2 x.e.r.length c2,.slice A3 x.e.c.length c3,.slice A4 x.e.p.length c4,.bool x.a,.bool x.h]:Array Value).toList:=
 ⟨[.string x.e.n,.string x.e.v,.slice A1 x.e.d.length c1,.slice A2 x.e.r.length c2,.slice A3 x.e.c.length c3,.slice A4 x.e.p.length c4],rfl,_,_,_,_,rfl,h.d,h.r,h.c,h.p⟩
end Go.Proofs.YtoopkofekekmoaaGreatDoor
