/- What the laws rest on: S5x2, S5y, S5k, E6k, E6p, E6q, P6o, E8p, E8q, E8a, E8b, E8g, E8h, E8d. -/
import Derived.RangeFuncNested
import Derived.RangeFuncBound
import Derived.RangeFuncCalls
import Derived.RangeFuncLeaves
import Derived.Shelf.Abstract
import Derived.Shelf.RegionOpen
import Derived.TacticsInMore
import Derived.LoopNIn
import Derived.LoopIn
import Derived.Deep.CutRange
import Derived.Shelf.Strings.BuilderX
import Derived.Lib.Builder
import Derived.Lib.AppendStr
import Derived.Lib.UnsafeStr
import Derived.Lib.MakeNoZero
import Derived.Laws.Externs
import Derived.Test.YtbljkpbaceiaiaaGreatDoorQANZA
set_option maxRecDepth 100000
set_option linter.unusedVariables false
set_option linter.unusedSimpArgs false
namespace Go.Proofs.YtbljkpbaceiaiaaGreatDoor
open Go.RowKit
theorem RdP.elsewhere {W:World} {N r k:Nat} {p:PS} {vs vo vl:Value} (h:RdP W N r k p vs vo vl) {b:Nat} (hb:b≠r) (hN:b < N) (u:Value):RdP (W.setCell ⟨b,0,none⟩ u) N r k p vs vo vl:=by
 obtain ⟨f0,c0,c1,c2,gs,go,gl,so,sl,ol⟩:=h
 have hset:∀o,(⟨b,0,none⟩:Addr)≠⟨r,o,none⟩:=fun o e=>hb (congrArg Addr.block e)
 refine ⟨fun o=>?_,?_,?_,?_,gs.setCell rdFds_good hN (fun h=>by have:=h.1.1;simp only at this;omega) _,go.setCell rdOpX_good hN (fun h=>by have:=h.1;simp only at this;omega) _,gl.setCell rdStr_good hN (fun h=>by simp only at h;omega) _,so,sl,ol⟩
 ·rw [World.frozen?_setCell];exact f0 o
 ·rw [World.cell?_setCell_other _ _ _ _ (hset 0)];exact c0
 ·rw [World.cell?_setCell_other _ _ _ _ (hset 1)];exact c1
 ·rw [World.cell?_setCell_other _ _ _ _ (hset 2)];exact c2
theorem end5_any (N r k:Nat) (p:PS) (vs vo vl:Value) (w:World) (hR:RdP w N r k p vs vo vl) (hr:r < N) (hN:N≤w.heap.size) (hol:p.op.length≤1000) (hdl:p.dn.length≤1000) (hln:∀f ∈ p.op,f.2.length≤1000000∧∀x ∈ f.2,x.length≤1000000) :
  Calls Tryz.prog 64 #[.pointer (some ⟨r,0,none⟩)] w fun e w'=>e=.returned (.tuple #[])∧(∃vs' vo' vl',RdP w' N r k p.fin vs' vo' vl')∧Fr N r w w':=by
 by_cases h0:p.op=[]
 ·refine (end5_none N r k p vs vo vl w hR h0).mono ?_
  rintro e w' ⟨rfl,rfl⟩
  exact ⟨rfl,⟨_,_,_,by rw [fin_of h0];exact hR⟩,Fr.refl _ _ _⟩
 ·exact end5_ok N r k p vs vo vl w hR hr hN h0 hol hdl hln
set_option maxHeartbeats 4000000 in
theorem readAll5_any (s:ByteArray) (r:Nat) (m:Int) (w:World) (hr:r < w.heap.size) (hs:s.size≤60000) (hm:w.cell? ⟨2,0,none⟩=some (.int .i64 m)) (hmr:2 < r)
  (f0:∀o,w.frozen? ⟨r,o,none⟩=false) (c0:w.cell? ⟨r,0,none⟩=some (.int .i64 (0:Nat))) (c1:w.cell? ⟨r,1,none⟩=some (.slice none 0 0)) (c2:w.cell? ⟨r,2,none⟩=some (.slice none 0 0)) :
  Calls Tryz.prog 41 #[.pointer (some ⟨r,0,none⟩),.string s] w fun e w'=>e=.returned (.int .i64 (rnE ps0 (cutBy 10 (B s))))∧Below r w w'∧
   (rnE ps0 (cutBy 10 (B s))=0→∃N k vs vo vl,w.heap.size≤N∧N≤w'.heap.size∧RdP w' N r k (rnS ps0 (cutBy 10 (B s))).fin vs vo vl)∧
   (rnE ps0 (cutBy 10 (B s))≠0→w'.cell? ⟨r,0,none⟩=some (.int .i64 (rnN ps0 0 (cutBy 10 (B s))))):=by
 suffices hh:∀Q:Ending→World→Prop,(∀w',Below r w w'→(rnE ps0 (cutBy 10 (B s))=0→∃N k vs vo vl,w.heap.size≤N∧N≤w'.heap.size∧RdP w' N r k (rnS ps0 (cutBy 10 (B s))).fin vs vo vl)→
   (rnE ps0 (cutBy 10 (B s))≠0→w'.cell? ⟨r,0,none⟩=some (.int .i64 (rnN ps0 0 (cutBy 10 (B s)))))→Q (.returned (.int .i64 (rnE ps0 (cutBy 10 (B s))))) w')→Calls Tryz.prog 41 #[.pointer (some ⟨r,0,none⟩),.string s] w Q from hh _ fun w' a b c=>⟨rfl,a,b,c⟩
 intro Q hQ
 have HQ:=Lib.hid hQ
 clear hQ
 have hmf:∀(fn:Fn) (first cap:Array Value) (w:World),(Instr.makeFunc fn first cap).run Tryz.prog w=.ok (.func fn first cap) w:=fun _ _ _ _=>rfl
 have hba:Below w.heap.size w (w.alloc (.cells #[.int .i64 0] 24)):=(Below.refl _ w).alloc (Nat.le_refl _) _
 have BA:=Lib.hid hba
 have SP:=Lib.hid (split5_any s m (w.alloc (.cells #[.int .i64 0] 24)) (by omega) ((hba.cell (show (⟨2,0,none⟩:Addr).block < w.heap.size from Nat.lt_trans hmr hr)).trans hm))
 have HLL:=Lib.hid (show (cutBy 10 (B s)).length≤60001 by rw [cutBy_len];have:=List.count_le_length (a:=10) (l:=B s);rw [B_len] at this;omega)
 have HLB:=Lib.hid (fun l (hl:l ∈ cutBy 10 (B s))=>(show l.length≤60000∧B (mk l)=l from ⟨by have:=cutBy_mem_len hl;rw [B_len] at this;omega,B_mk fun c hc=>B_lt s c (cutBy_mem hl c hc).1⟩))
 have HCR:=Lib.hid (show RdP w (w.heap.size+2) r 0 ps0 (.slice none 0 0) (.slice none 0 0) (.slice none 0 0) from rd0 f0 c0 c1 c2)
 have HR:=Lib.hid hr
 have HM:=Lib.hid (And.intro hm hmr)
 generalize cutBy 10 (B s)=L at *
 clear hm f0 c0 c1 c2 hba hs hr hmr
 go_enter_defers Tryz.func41,Tryz.ntmps41
 go_wp2_with fail
 refine SP.out.mono ?_
 rintro e w1 ⟨rfl,rfl⟩
 obtain ⟨W1,hW1⟩:∃W1,W1=(w.alloc (.cells #[.int .i64 0] 24)).alloc (.cells ((L.map mk).map Value.string).toArray 9):=⟨_,rfl⟩
 have B1:=Lib.hid (show Below w.heap.size w W1 by rw [hW1];exact BA.out.alloc BA.out.size _)
 have z1:W1.heap.size=w.heap.size+2:=by rw [hW1,World.size_alloc,World.size_alloc]
 have Z1:=Lib.hid z1
 have e1:(w.alloc (.cells #[.int .i64 0] 24)).heap.size=w.heap.size+1:=by rw [World.size_alloc]
 have LC:=Lib.hid (fun (k:Nat) (hk:k < L.length)=>(show W1.cell? ⟨w.heap.size+1,k,none⟩=some (.string (mk L[k])) by
  rw [hW1]
  have h:=cells_new (w.alloc (.cells #[.int .i64 0] 24)) ((L.map mk).map Value.string).toArray 9 k (.string (mk L[k])) (by simp [hk])
  have ea:(⟨w.heap.size+1,0,none⟩:Addr).add k=⟨w.heap.size+1,k,none⟩:=by unfold Addr.add;split<;>simp_all
  rw [e1,ea] at h;exact h))
 have EC:=Lib.hid (show W1.cell? ⟨w.heap.size,0,none⟩=some (.int .i64 0)∧W1.frozen? ⟨w.heap.size,0,none⟩=false by rw [hW1];exact ⟨by simp [go_sem],by simp [go_sem]⟩)
 rw [e1,←hW1]
 clear hW1 e1 SP BA z1
 go_wp2
 go_loopw [11] (fun i wr=>∃j:Nat,j≤L.length∧i=.int .i64 j∧rnE ps0 (L.take j)=0∧Fit (rnS ps0 (L.take j))∧Lim (rnS ps0 (L.take j)).op j∧(∃vs vo vl,RdP wr (w.heap.size+2) r j (rnS ps0 (L.take j)) vs vo vl)∧Fr (w.heap.size+2) r W1 wr) (fun i _=>L.length - (intOf i).toNat)
 case atStart=>exact ⟨0,Nat.zero_le _,rfl,rfl,fit0,lim_nil _,⟨_,_,_,HCR.out.below B1.out HR.out⟩,Fr.refl _ _ _⟩
 case round=>
  obtain ⟨j,hj,rfl,he,hf,hl,⟨vs,vo,vl,hRd⟩,hfr⟩:=hrel
  have HE:=Lib.hid he
  have HF:=Lib.hid hf
  have HL:=Lib.hid hl
  have FR:=Lib.hid hfr
  have x0:=hRd.c0
  have y0:=hRd.f0 0
  have RL:=Lib.hid (hRd.line (Nat.lt_trans HR.out (by omega)))
  have ecell:=(World.cell?_of_block (a:=⟨w.heap.size,0,none⟩) (hfr.mid w.heap.size HR.out (by omega))).trans EC.out.1
  have efroz:=(World.frozen?_of_block (a:=⟨w.heap.size,0,none⟩) (hfr.mid w.heap.size HR.out (by omega))).trans EC.out.2
  have WS:=Lib.hid (show w.heap.size+2≤wr.heap.size by rw [←Z1.out];exact hfr.bel.size)
  have MC:=Lib.hid ((hfr.bel.cell (show (⟨2,0,none⟩:Addr).block < r from HM.out.2)).trans ((B1.out.cell (show (⟨2,0,none⟩:Addr).block < w.heap.size from Nat.lt_trans HM.out.2 HR.out)).trans HM.out.1))
  clear he hf hl
  by_cases hlt:j < L.length
  ·have lcell:wr.cell? ⟨w.heap.size+1,j,none⟩=some (.string (mk L[j])):=(World.cell?_of_block (a:=⟨w.heap.size+1,j,none⟩) (hfr.mid (w.heap.size+1) (Nat.lt_trans HR.out (by omega)) (by omega))).trans (LC.out j hlt)
   have hlb:=HLB.out L[j] (List.getElem_mem hlt)
   have HX:=Lib.hid (show (mk L[j]).size≤65536 by rw [←B_len,hlb.2];omega)
   have HBX:=Lib.hid hlb.2
   have HXL:=Lib.hid hlb.1
   have TK:=Lib.hid (show L.take (j+1)=L.take j++[L[j]] from (List.take_succ_eq_append_getElem hlt))
   have DR:=Lib.hid (show L=L.take j++L[j]::L.drop (j+1) by rw [←List.drop_eq_getElem_cons hlt,List.take_append_drop])
   have wj:IntKind.i64.wrap ((j:Int)+1)=((j+1:Nat):Int):=by have:=HLL.out;rw [IntWalk.i64_in _ (by omega)];omega
   generalize hP:rnS ps0 (L.take j)=P at *
   have HP:=Lib.hid hP
   generalize hY:L[j]=y at *
   clear hRd hfr hlb hP hY
   have rlv:=RL.out
   rw [show ((j+1:Nat):Int)=(j:Int)+1 by omega] at rlv
   have FV:=Lib.hid (FR.out.set (p:=⟨r,0,none⟩) (.inl rfl) (Nat.le_of_lt (Nat.lt_trans HR.out (by omega))) (.int .i64 ((j:Int)+1)))
   have wsv:w.heap.size+2≤(wr.setCell ⟨r,0,none⟩ (.int .i64 ((j:Int)+1))).heap.size:=by simpa using WS.out
   go_wp2_with fail
   generalize wr.setCell ⟨r,0,none⟩ (.int .i64 ((j:Int)+1))=V at *
   have MV:=Lib.hid ((FV.out.bel.cell (show (⟨2,0,none⟩:Addr).block < r from HM.out.2)).trans ((B1.out.cell (show (⟨2,0,none⟩:Addr).block < w.heap.size from Nat.lt_trans HM.out.2 HR.out)).trans HM.out.1))
   have RV:=Lib.hid rlv
   have WV:=Lib.hid wsv
   clear lcell rlv wsv x0 y0 ecell efroz RL MC FR WS
   by_cases hn:lnE P y=0
   ·refine (read5_ok (mk y) (w.heap.size+2) r (j+1) P vs vo vl m V RV.out (Nat.lt_trans HR.out (by omega)) WV.out HX.out MV.out (by rw [HBX.out];exact hn) HF.out (fun f hf=>⟨by have:=(HL.out f hf).1;have:=HLL.out;omega,(HL.out f hf).2⟩)).mono ?_
    rintro e w2 ⟨rfl,hex,hfr⟩
    have HN:=Lib.hid (And.intro hn (And.intro hex hfr))
    rw [HBX.out] at HN
    clear hn hex hfr
    go_wp2
    go_roundw
    case rel=>exact ⟨j+1,by omega,by go_num,by rw [TK.out,rnE_snoc HE.out,HP.out];exact HN.out.1,by rw [TK.out,rnS_snoc,HP.out];exact fit_line HF.out HN.out.1,by rw [TK.out,rnS_snoc,HP.out];exact lim_line HL.out (by have:=HXL.out;omega),by rw [TK.out,rnS_snoc,HP.out];exact HN.out.2.1,FV.out.trans HN.out.2.2⟩
    case measure=>simp [intOf];omega
   ·refine (read5_no (mk y) (w.heap.size+2) r (j+1) P vs vo vl m V RV.out (Nat.lt_of_lt_of_le HR.out (by have:=WV.out;omega)) HX.out MV.out (by rw [HBX.out];exact hn)).mono ?_
    rintro e w2 ⟨rfl,hb2⟩
    rw [HBX.out]
    have ER:=Lib.hid (rn_at (L.take j) y (L.drop (j+1)) ps0 0 HE.out (by rw [HP.out];exact hn))
    rw [←DR.out,HP.out] at ER
    have HNE:=Lib.hid hn
    have HB2:=Lib.hid hb2
    clear hn hb2
    have ec:w2.cell? ⟨w.heap.size,0,none⟩=some (.int .i64 0):=(World.cell?_of_block (a:=⟨w.heap.size,0,none⟩) ((HB2.out.block w.heap.size (by have:=WV.out;omega)).trans (FV.out.mid w.heap.size HR.out (by omega)))).trans EC.out.1
    have ef:w2.frozen? ⟨w.heap.size,0,none⟩=false:=(World.frozen?_of_block (a:=⟨w.heap.size,0,none⟩) ((HB2.out.block w.heap.size (by have:=WV.out;omega)).trans (FV.out.mid w.heap.size HR.out (by omega)))).trans EC.out.2
    go_wp2
    refine leaves_cons (f:=61) (args:=#[.pointer (some ⟨w.heap.size,0,none⟩)]) (by simp) (by simp [go_sem]) ?_
    refine (catch5_errno ⟨w.heap.size,0,none⟩ 0 (lnE P y) [] w2 ec ef).mono ?_
    rintro e u' w'' ⟨rfl,rfl,rfl⟩
    have d1:(w2.setCell ⟨w.heap.size,0,none⟩ (.int .i64 (lnE P y))).cell? ⟨w.heap.size,0,none⟩=some (.int .i64 (lnE P y)):=World.cell?_setCell_same _ _ _ ec
    simp [Leaves,settle,results,Tryz.results41,go_sem,d1]
    have hq:=HQ.out (w2.setCell ⟨w.heap.size,0,none⟩ (.int .i64 (lnE P y))) ((((B1.out.mono (Nat.le_of_lt HR.out)).trans FV.out.bel).trans (HB2.out.mono (by have:=WV.out;have:=HR.out;omega))).setCell (p:=⟨w.heap.size,0,none⟩) (Nat.le_of_lt HR.out) _)
     (fun h=>absurd h (by rw [ER.out.1];exact HNE.out)) (fun _=>by
      rw [World.cell?_setCell_other _ _ _ _ (fun e=>by have:=congrArg Addr.block e;have:=HR.out;simp only at *;omega),ER.out.2,(HB2.out.cell (show (⟨r,0,none⟩:Addr).block < V.heap.size from Nat.lt_of_lt_of_le HR.out (by have:=WV.out;omega))),RV.out.c0,List.length_take,Nat.min_eq_left (by omega),Nat.zero_add])
    rw [ER.out.1] at hq
    exact hq
  ·obtain rfl:j=L.length:=by omega
   rw [List.take_length] at HE HF HL hRd
   have RW:=Lib.hid hRd
   clear hRd x0 y0 ecell efroz RL MC hfr
   go_wp2_with fail
   refine (end5_any (w.heap.size+2) r L.length (rnS ps0 L) vs vo vl wr RW.out (Nat.lt_trans HR.out (by omega)) WS.out (by have:=HF.out.f;omega) (by have:=HF.out.d;omega) (fun f hf=>⟨by have:=(HL.out f hf).1;have:=HLL.out;omega,fun x hx=>by have:=(HL.out f hf).2 x hx;omega⟩)).mono ?_
   rintro e w2 ⟨rfl,hex,hfr2⟩
   have FR2:=Lib.hid (FR.out.trans hfr2)
   have EX:=Lib.hid hex
   clear hex hfr2
   have ec:w2.cell? ⟨w.heap.size,0,none⟩=some (.int .i64 0):=(World.cell?_of_block (a:=⟨w.heap.size,0,none⟩) (FR2.out.mid w.heap.size HR.out (by omega))).trans EC.out.1
   have ef:w2.frozen? ⟨w.heap.size,0,none⟩=false:=(World.frozen?_of_block (a:=⟨w.heap.size,0,none⟩) (FR2.out.mid w.heap.size HR.out (by omega))).trans EC.out.2
   go_wp2
   refine leaves_cons (f:=61) (args:=#[.pointer (some ⟨w.heap.size,0,none⟩)]) (by simp) (by simp [go_sem]) ?_
   refine (catch5_idle ⟨w.heap.size,0,none⟩ _).mono ?_
   rintro e u' w'' ⟨rfl,rfl,rfl⟩
   have d1:(w2.setCell ⟨w.heap.size,0,none⟩ (.int .i64 0)).cell? ⟨w.heap.size,0,none⟩=some (.int .i64 0):=World.cell?_setCell_same _ _ _ ec
   simp [Leaves,settle,results,Tryz.results41,go_sem,d1]
   have hq:=HQ.out (w2.setCell ⟨w.heap.size,0,none⟩ (.int .i64 0)) (((B1.out.mono (Nat.le_of_lt HR.out)).trans FR2.out.bel).setCell (p:=⟨w.heap.size,0,none⟩) (Nat.le_of_lt HR.out) _)
    (fun _=>by
     obtain ⟨vs',vo',vl',h⟩:=EX.out
     exact ⟨w.heap.size+2,L.length,vs',vo',vl',by omega,by have:=FR2.out.bel.size;have:=Z1.out;simp;omega,h.elsewhere (Nat.ne_of_gt HR.out) (by omega) _⟩) (fun h=>absurd HE.out h)
   rw [HE.out] at hq
   exact hq
def Env5 (w:World):Prop:=∃m:Int,w.cell? ⟨2,0,none⟩=some (.int .i64 m)
theorem Env5.pos {w:World} (h:Env5 w):2 < w.heap.size:=by
 obtain ⟨m,h⟩:=h
 exact World.block_lt_of_cell? _ _ h
set_option maxHeartbeats 2000000 in
theorem parse5_any (s:ByteArray) (w:World) (E:Env5 w) :
  Calls Tryz.prog 26 #[.string s] w fun e w'=>(∃A n c,e=.returned (.tuple #[.slice A n c,.int .i64 (stN (B s)),.int .i64 (stE (B s))])∧rdStzs w' (lt_ w'.heap.size) (stL (B s)) [.slice A n c])∧Below w.heap.size w w':=by
 have hE0:=E.pos
 obtain ⟨m,hm⟩:=E
 by_cases hl:60000 < (B s).length
 ·have q0:(60000:Int) < (s.size:Int):=by rw [←B_len];omega
  have e1:stE (B s)=9:=by unfold stE;rw [if_pos hl]
  have e2:stN (B s)=0:=by unfold stN;rw [if_pos hl]
  have e3:stL (B s)=[]:=by unfold stL;rw [e1];rfl
  rw [e1,e2,e3]
  clear e1 e2 e3 hl hm
  go_enter Tryz.func26,Tryz.ntmps26
  go_wp2
  go_ret3
  exact ⟨⟨none,0,0,rfl,rdRow_nil _ _⟩,Below.refl _ _⟩
 ·have q0:¬(60000:Int) < (s.size:Int):=by rw [←B_len];omega
  have e1:stE (B s)=rnE ps0 (cutBy 10 (B s)):=by unfold stE;rw [if_neg hl]
  have e2:stN (B s)=rnN ps0 0 (cutBy 10 (B s)):=by unfold stN;rw [if_neg hl]
  have hba:Below w.heap.size w (w.alloc (.cells #[.int .i64 0,.slice none 0 0,.slice none 0 0] 67)):=(Below.refl _ w).alloc (Nat.le_refl _) _
  have BA:=Lib.hid hba
  have RA:=Lib.hid (readAll5_any s w.heap.size m (w.alloc (.cells #[.int .i64 0,.slice none 0 0,.slice none 0 0] 67)) (by simp) (by rw [←B_len];omega)
   ((hba.cell (show (⟨2,0,none⟩:Addr).block < w.heap.size from hE0)).trans hm) hE0 (fun o=>frozen_of_row _ _ _ _ _ (new_heap _ _)) (by simp [go_sem]) (by simp [go_sem]) (by simp [go_sem]))
  rw [e1,e2]
  have E3:=Lib.hid (show stL (B s)=if rnE ps0 (cutBy 10 (B s))=0 then (rnS ps0 (cutBy 10 (B s))).fin.dn else [] by unfold stL;rw [e1])
  have N0:=Lib.hid (rnN_zero (cutBy 10 (B s)) ps0 0)
  clear e1 e2 hba hm hl
  generalize rnE ps0 (cutBy 10 (B s))=er at *
  generalize rnN ps0 0 (cutBy 10 (B s))=ln at *
  go_enter Tryz.func26,Tryz.ntmps26
  go_wp2_with fail
  refine RA.out.mono ?_
  rintro e w1 ⟨rfl,hb,hok,her⟩
  have HB:=Lib.hid (BA.out.trans hb)
  clear hb RA BA
  by_cases h0:er=0
  ·subst h0
   obtain ⟨N,k,vs,vo,vl,hN1,hN2,hR⟩:=hok rfl
   have x1:=hR.c1
   obtain ⟨As,cs,rfl,_,_⟩:=hR.gs.own
   have RD:=Lib.hid (hR.gs.read rdFds_good)
   have N00:=N0.out rfl
   subst N00
   clear hok her hR N0
   go_wp2
   go_ret3
   exact ⟨⟨_,_,_,rfl,by rw [E3.out,if_pos trivial];exact RD.out⟩,HB.out⟩
  ·have x0:=her h0
   have q1:(er==0)=false:=by rw [beq_eq_false_iff_ne];exact h0
   have E4:=Lib.hid (show stL (B s)=[] by rw [E3.out,if_neg h0])
   clear hok her h0 E3
   go_wp2
   go_quiet (fail)
   go_wp2
   go_ret3
   exact ⟨⟨none,0,0,rfl,by rw [E4.out];exact rdRow_nil _ _⟩,belD HB.out _⟩
def plX:List Fd→ByteArray→Nat→Int
 | [],_,_=>-1
 | f::r,n,i=>if f.n=n then i else plX r n (i+1)
theorem pl_at {l:List Fd} {n:ByteArray} {k:Nat} (hk:k < l.length):(l[k].n=n→plX (l.drop k) n k=k)∧(l[k].n≠n→plX (l.drop k) n k=plX (l.drop (k+1)) n (k+1)):=by
 rw [List.drop_eq_getElem_cons hk]
 exact ⟨fun h=>if_pos h,fun h=>if_neg h⟩
theorem pl_no {n:ByteArray}:∀{l:List Fd} {i:Nat},getV l n=false→plX l n i=-1∧fstV l n={ data:=#[] }∧∀v,putF n v l=l++[⟨n,v⟩]
 | [],_,_=>⟨rfl,rfl,fun _=>rfl⟩
 | f::r,i,h=>by
  rw [getV_cons,Bool.or_eq_false_iff,decide_eq_false_iff_not] at h
  obtain ⟨a,b,c⟩:=pl_no (i:=i+1) h.2
  exact ⟨(if_neg h.1).trans a,(if_neg h.1).trans b,fun v=>(if_neg h.1).trans (by rw [c];rfl)⟩
theorem pl_yes {n:ByteArray}:∀{l:List Fd} {i:Nat},getV l n=true→∃k,∃hk:k < l.length,plX l n i=((i+k:Nat):Int)∧l[k].n=n∧fstV l n=l[k].v∧∀v,putF n v l=l.set k ⟨l[k].n,v⟩
 | [],_,h=>by simp [getV] at h
 | f::r,i,h=>by
  by_cases hf:f.n=n
  ·exact ⟨0,by simp,if_pos hf,hf,if_pos hf,fun v=>if_pos hf⟩
  ·rw [getV_cons,decide_eq_false hf,Bool.false_or] at h
   obtain ⟨k,hk,a,b,c,d⟩:=pl_yes (i:=i+1) h
   exact ⟨k+1,by simp only [List.length_cons];omega,(if_neg hf).trans (by rw [a];congr 1;omega),b,(if_neg hf).trans c,fun v=>(if_neg hf).trans (by rw [d];rfl)⟩
set_option maxHeartbeats 1000000 in
theorem place1_any (f:Fd) (nm:ByteArray) (q:Addr) (w:World) (hq:q.block < w.heap.size) (hc:w.cell? q=some (.string nm)) :
  Calls Tryz.prog 87 #[f.val,.pointer (some q)] w fun e w'=>e=.returned (.bool (decide (f.n=nm)))∧Below w.heap.size w w':=by
 have B1:=(Below.refl w.heap.size w).alloc (Nat.le_refl _) (.cells #[.string f.n,.string f.v] 58)
 have hc1:=((B1.cell hq).trans hc)
 have HB:=Lib.hid B1
 have he:=str_eq f.n nm
 generalize decide (f.n=nm)=d at *
 clear B1 hc
 unfold Fd.val
 go_enter Tryz.func87,Tryz.ntmps87
 go_wp2
 go_ret
 exact ⟨rfl,HB.out⟩
set_option maxHeartbeats 2000000 in
theorem ixFd_any (A:Option Addr) (n c:Nat) (l:List Fd) (nm:ByteArray) (q:Addr) (w:World) (h:rdFds w (lt_ w.heap.size) l [.slice A n c]) (hq:q.block < w.heap.size) (hc:w.cell? q=some (.string nm)) :
  Calls Tryz.prog 86 #[.slice A n c,.func (.func 87) #[] #[.pointer (some q)]] w fun e w'=>e=.returned (.int .i64 (plX l nm 0))∧Below w.heap.size w w':=by
 have hcf:∀(args:Array Value) (w:World),(callFunc 87 args).run Tryz.prog w=.ok (.enter 87 args) w:=fun _ _=>by kernel_rfl
 obtain ⟨rfl,hnc,hcm,_⟩:=rdFds_at h
 have hcm':c≤9223372036854775807:=hcm
 have H:=Lib.hid h
 have HQ:=Lib.hid hq
 have HC:=Lib.hid hc
 clear h hcm hc hq
 go_enter Tryz.func86,Tryz.ntmps86
 go_wp2
 go_loopw [8] (fun i wr=>∃k:Nat,k≤l.length∧i=.int .i64 k∧plX l nm 0=plX (l.drop k) nm k∧Below w.heap.size w wr) (fun i _=>l.length - (intOf i).toNat)
 case atStart=>exact ⟨0,Nat.zero_le _,rfl,rfl,Below.refl _ _⟩
 case round=>
  obtain ⟨k,hk,rfl,h1,hbel⟩:=hrel
  have H1:=Lib.hid h1
  have HB:=Lib.hid hbel
  clear h1
  by_cases hlt:k < l.length
  ·obtain ⟨_,_,_,ha⟩:=rdFds_at (rdFds_good.below H.out hbel)
   obtain ⟨ad,rfl,had,c0,c1⟩:=ha k hlt
   have hqr:q.block < wr.heap.size:=Nat.lt_of_lt_of_le HQ.out hbel.size
   have CL:=Lib.hid (place1_any l[k] nm q wr hqr ((hbel.cell HQ.out).trans HC.out))
   have PA:=Lib.hid (pl_at (l:=l) (n:=nm) hlt)
   clear ha hbel hqr
   have SZ:=Lib.hid HB.out.size
   by_cases he:l[k].n=nm
   ·have X:=Lib.hid (PA.out.1 he)
    have DT:=Lib.hid (decide_eq_true he)
    clear he
    go_wp2_with fail
    refine CL.out.mono ?_
    rw [DT.out]
    rintro e w' ⟨rfl,hb2⟩
    have HB2:=Lib.hid hb2
    clear hb2
    go_wp2
    go_ret
    exact ⟨by rw [H1.out,X.out];try rfl,HB.out.trans (HB2.out.mono SZ.out)⟩
   ·have X:=Lib.hid (PA.out.2 he)
    have DT:=Lib.hid (decide_eq_false he)
    clear he
    go_wp2_with fail
    refine CL.out.mono ?_
    rw [DT.out]
    rintro e w' ⟨rfl,hb2⟩
    have HB2:=Lib.hid hb2
    clear hb2
    go_wp2
    go_roundw
    case rel=>exact ⟨k+1,by omega,by go_num,by rw [H1.out,X.out],HB.out.trans (HB2.out.mono SZ.out)⟩
    case measure=>simp [intOf];omega
  ·have X:=Lib.hid (show plX l nm 0=-1 by rw [H1.out,List.drop_eq_nil_of_le (by omega)];rfl)
   go_wp2
   go_ret
   exact ⟨by rw [X.out];try rfl,HB.out⟩
set_option maxHeartbeats 2000000 in
theorem place_any (A:Option Addr) (n c:Nat) (l:List Fd) (nm:ByteArray) (w:World) (h:rdFds w (lt_ w.heap.size) l [.slice A n c]) :
  Calls Tryz.prog 65 #[.slice A n c,.string nm] w fun e w'=>e=.returned (.int .i64 (plX l nm 0))∧Below w.heap.size w w':=by
 have B1:=(Below.refl w.heap.size w).alloc (Nat.le_refl _) (.cells #[.string nm] 9)
 have hq:(⟨w.heap.size,0,none⟩:Addr).block < (w.alloc (.cells #[.string nm] 9)).heap.size:=by rw [World.size_alloc];exact Nat.lt_succ_self _
 have hc:(w.alloc (.cells #[.string nm] 9)).cell? ⟨w.heap.size,0,none⟩=some (.string nm):=by simp [go_sem]
 have C:=Lib.hid (ixFd_any A n c l nm ⟨w.heap.size,0,none⟩ (w.alloc (.cells #[.string nm] 9)) (rdFds_good.more (rdFds_good.below h B1) fun b hb=>Nat.lt_of_lt_of_le hb B1.size) hq hc)
 have HB:=Lib.hid B1
 have hmf:∀(fn:Fn) (first cap:Array Value) (w:World),(Instr.makeFunc fn first cap).run Tryz.prog w=.ok (.func fn first cap) w:=fun _ _ _ _=>rfl
 clear h B1 hq hc
 go_enter Tryz.func65,Tryz.ntmps65
 go_wp2_with (go_at_call 86;(with_reducible refine C.out.mono ?_);rintro e w' ⟨rfl,hb2⟩)
 have HB2:=Lib.hid hb2
 clear hb2
 go_wp2
 go_ret
 exact ⟨rfl,HB.out.trans (HB2.out.mono HB.out.size)⟩
set_option maxHeartbeats 2000000 in
theorem get5_any (A:Option Addr) (n c:Nat) (l:List Fd) (nm:ByteArray) (w:World) (h:rdFds w (lt_ w.heap.size) l [.slice A n c]) :
  Calls Tryz.prog 42 #[.slice A n c,.string nm] w fun e w'=>e=.returned (.tuple #[.string (fstV l nm),.bool (getV l nm)])∧Below w.heap.size w w':=by
 obtain ⟨rfl,hnc,hcm,_⟩:=rdFds_at h
 have hcm':c≤9223372036854775807:=hcm
 have C:=Lib.hid (place_any A l.length c l nm w h)
 have H:=Lib.hid h
 clear h hcm
 cases hg:getV l nm
 ·obtain ⟨e1,e2,_⟩:=pl_no (i:=0) hg
  rw [e1] at C
  rw [e2]
  clear e1 e2 hg
  go_enter Tryz.func42,Tryz.ntmps42
  go_wp2_with (go_at_call 65;(with_reducible refine C.out.mono ?_);rintro e w' ⟨rfl,hb2⟩)
  go_ret2
  exact ⟨rfl,hb2⟩
 ·obtain ⟨k,hk,e1,_,e2,_⟩:=pl_yes (i:=0) hg
  rw [Nat.zero_add] at e1
  rw [e1] at C
  rw [e2]
  clear e1 e2 hg
  have t0:¬((k:Int) < 0):=by omega
  go_enter Tryz.func42,Tryz.ntmps42
  go_wp2_with (go_at_call 65;(with_reducible refine C.out.mono ?_);rintro e w' ⟨rfl,hb2⟩)
  obtain ⟨_,_,_,ha⟩:=rdFds_at (rdFds_good.below H.out hb2)
  obtain ⟨ad,rfl,had,c0,c1⟩:=ha k hk
  have HB2:=Lib.hid hb2
  clear hb2 ha
  go_wp2
  go_ret2
  exact ⟨rfl,HB2.out⟩
def nPk:ByteArray:={ data:=#[80,97,99,107,97,103,101] }
def tot6 (k:Nat) (L:List (List Nat)):Nat:=(L.map fun p=>p.length+k).sum
theorem tot6_cons (k:Nat) (p:List Nat) (L:List (List Nat)):tot6 k (p::L)=p.length+k+tot6 k L:=by unfold tot6;rw [List.map_cons,List.sum_cons]
theorem tot6_preH (x:Nat) {L:List (List Nat)} (h:L≠[]):tot6 1 (preH [x] L)=tot6 1 L+1:=by
 cases L with
 | nil=>exact absurd rfl h
 | cons q r=>
  show tot6 1 (([x]++q)::r)=_
  rw [tot6_cons,tot6_cons,List.length_append,List.length_singleton];omega
theorem tot6_cut (c:Nat):∀t:List Nat,tot6 1 (cutBy c t)=t.length+1
 | []=>rfl
 | x::l=>by
  unfold cutBy
  split
  ·rw [tot6_cons,tot6_cut c l,List.length_nil,List.length_cons];omega
  ·rw [tot6_preH x (cutBy_ne c l),tot6_cut c l,List.length_cons]
def vW (st:List Fd):Nat:=(st.map fun f=>f.v.size).sum
def dW (L:List (List Fd)):Nat:=(L.map vW).sum
def oW (op:List Opn):Nat:=(op.map fun f=>(joinL [10] f.2).length).sum
def psW (s:PS):Nat:=dW s.dn+oW s.op
theorem vW_cl (op:List Opn):vW (op.map clF)=oW op:=by
 unfold vW oW
 rw [List.map_map]
 congr 1
 refine List.map_congr_left fun f _=>?_
 show (mk (joinL [10] f.2)).size=_
 rw [size_mk]
theorem fin_W (s:PS):psW s.fin=psW s:=by
 unfold PS.fin
 split
 ·rfl
 ·unfold psW dW
  rw [List.map_append,List.sum_append,List.map_singleton,List.sum_singleton,vW_cl]
  show _+oW []=_
  show _+0=_
  omega
theorem onLast_W (x:List Nat):∀op:List Opn,oW (onLast x op)≤oW op+(x.length+1)
 | []=>by unfold onLast;exact Nat.le_add_right _ _
 | [f]=>by
  unfold onLast oW
  simp only [List.map_cons,List.map_nil,List.sum_cons,List.sum_nil,joinL_snoc]
  split
  ·omega
  ·simp only [List.length_append,List.length_singleton];omega
 | f::g::r=>by
  have:=onLast_W x (g::r)
  unfold onLast
  unfold oW at this ⊢
  rw [List.map_cons,List.sum_cons,List.map_cons,List.sum_cons]
  omega
theorem vl_len (l:List Nat):(vlOf l).length≤l.length:=by
 unfold vlOf
 have h1:=(List.dropWhile_sublist (fun c=>c==32) (l:=l.drop ((nmOf l).length+1))).length_le
 rw [List.length_drop] at h1
 omega
theorem lnS_W (s:PS) (l:List Nat):psW (lnS s l)≤psW s+l.length:=by
 cases l with
 | nil=>show psW s.fin≤_;rw [fin_W];exact Nat.le_add_right _ _
 | cons c r=>
  show psW (if c=32 then ⟨s.dn,onLast r s.op⟩ else ⟨s.dn,s.op++[(mk (nmOf (c::r)),[vlOf (c::r)])]⟩)≤_
  split
  ·have:=onLast_W r s.op
   unfold psW
   rw [List.length_cons]
   show dW s.dn+oW (onLast r s.op)≤_
   omega
  ·have:=vl_len (c::r)
   unfold psW oW
   show dW s.dn+((s.op++[(mk (nmOf (c::r)),[vlOf (c::r)])]).map fun f=>(joinL [10] f.2).length).sum≤_
   rw [List.map_append,List.sum_append,List.map_singleton,List.sum_singleton]
   show dW s.dn+(_+(vlOf (c::r)).length)≤_
   omega
theorem rnS_W:∀(ls:List (List Nat)) (s:PS),psW (rnS s ls)≤psW s+(ls.map List.length).sum
 | [],s=>Nat.le_add_right _ _
 | l::r,s=>by
  have h1:=rnS_W r (lnS s l)
  have h2:=lnS_W s l
  rw [List.map_cons,List.sum_cons]
  show psW (rnS (lnS s l) r)≤_
  omega
theorem cut_lens (c:Nat) (t:List Nat):((cutBy c t).map List.length).sum≤t.length:=by
 have h:=tot6_cut c t
 have hne:=cutBy_ne c t
 have key:∀L:List (List Nat),tot6 1 L=(L.map List.length).sum+L.length:=by
  intro L
  induction L with
  | nil=>rfl
  | cons p r ih=>rw [tot6_cons,ih,List.map_cons,List.sum_cons,List.length_cons];omega
 rw [key] at h
 have:=List.length_pos_iff.2 hne
 omega
theorem stL_W (t:List Nat):dW (stL t)≤t.length:=by
 unfold stL
 split
 ·have h1:=rnS_W (cutBy 10 t) ps0
  have h2:=cut_lens 10 t
  have h3:=fin_W (rnS ps0 (cutBy 10 t))
  have h4:psW ps0=0:=rfl
  have h5:dW (rnS ps0 (cutBy 10 t)).fin.dn≤psW (rnS ps0 (cutBy 10 t)).fin:=Nat.le_add_right _ _
  omega
 ·exact Nat.zero_le _
theorem le_sum {l:List Nat} {a:Nat} (h:a ∈ l):a≤l.sum:=by
 induction l with
 | nil=>cases h
 | cons b r ih=>
  rw [List.sum_cons]
  rcases List.mem_cons.1 h with rfl|h
  ·omega
  ·have:=ih h;omega
theorem val_dW {L:List (List Fd)} {st:List Fd} {f:Fd} (hs:st ∈ L) (hf:f ∈ st):f.v.size≤dW L:=
 Nat.le_trans (le_sum (List.mem_map.2 ⟨f,hf,rfl⟩):f.v.size≤vW st) (le_sum (List.mem_map.2 ⟨st,hs,rfl⟩))
theorem fst_size6 {N:Nat}:∀{l:List Fd} (nm:ByteArray),(∀f ∈ l,f.v.size≤N)→(fstV l nm).size≤N
 | [],_,_=>Nat.zero_le _
 | f::r,nm,h=>by
  unfold fstV
  split
  ·exact h f (by simp)
  ·exact fst_size6 nm fun g hg=>h g (by simp [hg])
theorem stE_len {t:List Nat} (h:stE t=0):t.length≤60000:=by
 rcases Nat.lt_or_ge 60000 t.length with hl|hl
 ·unfold stE at h;rw [if_pos hl] at h;exact absurd h (by decide)
 ·exact hl
structure Pn where
 n:ByteArray
 x:ByteArray
 p:Int
deriving instance DecidableEq for Pn
def nPi:ByteArray:={ data:=#[80,105,110] }
def nPp:ByteArray:={ data:=#[80,105,110,45,80,114,105,111,114,105,116,121] }
def star8:ByteArray:={ data:=#[42] }
def ver8L:List Nat:=[118,101,114,115,105,111,110,32]
def nil8:Pn:=⟨{ data:=#[] },{ data:=#[] },0⟩
def decI (p:Int):List Nat:=if p < 0 then 45::decL (-p).toNat else decL p.toNat
def visB (c:Nat):Bool:=decide (32 < c)&&(decide (c < 127)&&!decide (c=42))
def rgtN (x:Pn):Bool:=(nameB (B x.n)||decide (x.n=star8))&&(decide (x.x.size≤60)&&((B x.x).all visB&&(decide (-1000≤x.p)&&decide (x.p≤1000))))
def priI (s:List Nat):Option Int:=((List.range 2001).map fun k:Nat=>(k:Int) - 1000).find? fun n=>decide (decI n=s)
def prefB (v:List Nat):Option (List Nat):=if 9≤v.length∧v.take 8=ver8L∧v.getLast?=some 42 then some ((v.drop 8).dropLast) else none
def rdN (st:List Fd):Int × Pn:=
 if (getV st nPk&&(getV st nPi&&getV st nPp))=true then
  match priI (B (fstV st nPp)),prefB (B (fstV st nPi)) with
  | some n,some x=>if rgtN ⟨fstV st nPk,mk x,n⟩=true then (0,⟨fstV st nPk,mk x,n⟩) else (5,nil8)
  | _,_=>(5,nil8)
 else (6,nil8)
def goN:List (List Fd)→Nat→List Pn→List Pn × Int × Int
 | [],_,out=>(out,0,0)
 | st::r,i,out=>if (rdN st).1≠0 then ([],(i:Int)+1,(rdN st).1) else goN r (i+1) (out++[(rdN st).2])
def paN (t:List Nat):List Pn × Int × Int:=if stE t≠0 then ([],stN t,stE t) else if 64 < (stL t).length then ([],0,8) else goN (stL t) 0 []
theorem decL_inj {a b:Nat} (h:decL a=decL b):a=b:=by rw [←numV_dec a,h,numV_dec]
theorem decL_no45 (n:Nat):∀r,decL n≠45::r:=fun r e=>by
 have:=decL_dig n 45 (by rw [e];simp)
 revert this;decide
theorem decI_inj {a b:Int} (h:decI a=decI b):a=b:=by
 unfold decI at h
 split at h<;>split at h
 ·have:=decL_inj (List.cons.inj h).2;omega
 ·exact absurd h.symm (decL_no45 _ _)
 ·exact absurd h (decL_no45 _ _)
 ·have:=decL_inj h;omega
theorem decI_lt (p:Int):∀c ∈ decI p,c < 256:=by
 unfold decI
 split
 ·intro c hc
  rcases List.mem_cons.1 hc with rfl|hc
  ·decide
  ·exact decL_lt _ c hc
 ·exact decL_lt _
theorem pri_mem {n:Int}:n ∈ (List.range 2001).map (fun k:Nat=>(k:Int) - 1000)↔-1000≤n∧n≤1000:=by
 rw [List.mem_map]
 constructor
 ·rintro ⟨k,hk,rfl⟩
  have:=List.mem_range.1 hk
  omega
 ·rintro ⟨h1,h2⟩
  exact ⟨(n+1000).toNat,List.mem_range.2 (by omega),by omega⟩
theorem pri_dec {n:Int} (h1:-1000≤n) (h2:n≤1000):priI (decI n)=some n:=by
 unfold priI
 cases h:((List.range 2001).map fun k:Nat=>(k:Int) - 1000).find? fun m=>decide (decI m=decI n) with
 | none=>exact absurd (decide_eq_true rfl) (List.find?_eq_none.1 h n (pri_mem.2 ⟨h1,h2⟩))
 | some m=>
  have q:=List.find?_some h
  rw [decI_inj (of_decide_eq_true q)]
theorem pri_some {s:List Nat} {n:Int} (h:priI s=some n):decI n=s∧-1000≤n∧n≤1000:=by
 unfold priI at h
 have q:=List.find?_some h
 exact ⟨of_decide_eq_true q,pri_mem.1 (List.mem_of_find?_eq_some h)⟩
theorem pref_of (x:List Nat):prefB (ver8L++(x++[42]))=some x:=by
 unfold prefB
 have e1:(ver8L++(x++[42])).take 8=ver8L:=List.take_left (l₁:=ver8L)
 have e2:(ver8L++(x++[42])).drop 8=x++[42]:=List.drop_left (l₁:=ver8L)
 rw [if_pos ⟨by simp [ver8L],e1,by rw [←List.append_assoc,List.getLast?_concat]⟩,e2,List.dropLast_concat]
theorem pref_some {v x:List Nat} (h:prefB v=some x):v=ver8L++(x++[42]):=by
 unfold prefB at h
 split at h
 ·rename_i hc
  obtain ⟨h9,h8,hl⟩:=hc
  obtain rfl:=Option.some.inj h
  have e:=List.take_append_drop 8 v
  have hne:v.drop 8≠[]:=fun q=>by
   have:=congrArg List.length q
   rw [List.length_drop,List.length_nil] at this
   omega
  have hg:(v.drop 8).getLast hne=42:=by
   have q:v.getLast?=some ((v.drop 8).getLast hne):=by
    rw [←List.getLast?_eq_some_getLast hne]
    conv=>lhs;rw [←e]
    rw [List.getLast?_append,List.getLast?_eq_some_getLast hne]
    rfl
   rw [q] at hl
   exact Option.some.inj hl
  have q:=List.dropLast_concat_getLast hne
  rw [hg] at q
  rw [q,←h8,e]
 ·cases h
theorem ver8_ge:∀c ∈ ver8L,32≤c∧c < 256:=by decide
theorem rgtN_parts {x:Pn} (h:rgtN x=true):(nameB (B x.n)=true∨x.n=star8)∧x.x.size≤60∧(B x.x).all visB=true∧-1000≤x.p∧x.p≤1000:=by
 unfold rgtN at h
 simp only [Bool.and_eq_true,Bool.or_eq_true,decide_eq_true_eq] at h
 exact ⟨h.1,h.2.1,h.2.2.1,h.2.2.2.1,h.2.2.2.2⟩
theorem pin_lt (x:Pn):∀c ∈ ver8L++(B x.x++[42]),c < 256:=by
 intro c hc
 rcases List.mem_append.1 hc with hc|hc
 ·exact (ver8_ge c hc).2
 ·rcases List.mem_append.1 hc with hc|hc
  ·exact B_lt _ c hc
  ·rw [List.mem_singleton.1 hc];decide
theorem star_lt:B star8=[42]:=by decide
def pfx8 (x v:ByteArray):Bool:=decide ((B v).take (B x).length=B x)
def matN (x:Pn) (nm v:ByteArray):Bool:=(decide (x.n=nm)||decide (x.n=star8))&&pfx8 x.x v
def hitN (x:Pn) (nm v:ByteArray):Bool:=decide (x.n=nm)&&pfx8 x.x v
def prioN (l:List Pn) (nm v:ByteArray):Int:=
 match l.find? fun x=>hitN x nm v with
 | some x=>x.p
 | none=>match l.find? fun x=>hitN x star8 v with
  | some x=>x.p
  | none=>500
theorem hit_mat {x:Pn} {nm v:ByteArray}:(decide (x.n=nm)&&matN x nm v)=hitN x nm v:=by
 unfold matN hitN
 by_cases h:x.n=nm
 ·rw [decide_eq_true h];rfl
 ·rw [decide_eq_false h];rfl
theorem hit_star {x:Pn} {nm v:ByteArray}:(decide (x.n=star8)&&matN x nm v)=hitN x star8 v:=by
 unfold matN hitN
 by_cases h:x.n=star8
 ·rw [decide_eq_true h,Bool.or_true];rfl
 ·rw [decide_eq_false h];rfl
abbrev Pn.val (a:Pn):Value:=.agg #[.string a.n,.string a.x,.int .i64 a.p]
def Pn.cells (a:Pn):List Value:=[.string a.n,.string a.x,.int .i64 a.p]
def rdPn:Rd Pn:=fun _ _ a cs=>cs=a.cells
theorem rdPn_good:Good rdPn 3:=⟨fun h _=>h,fun h _=>h,fun h _ _=>h,fun h=>by rw [h];rfl,fun h u hu=>by rw [h] at hu;simp [Pn.cells] at hu;rcases hu with rfl|rfl|rfl<;>rfl⟩
abbrev rdPns:Rd (List Pn):=rdRow 3 rdPn
theorem rdPns_good:Good rdPns 1:=rdRow_good rdPn_good
theorem rdPns_at {w:World} {S:Nat→Prop} {l:List Pn} {A:Option Addr} {n c:Nat} (h:rdPns w S l [.slice A n c]):n=l.length∧n≤c∧c≤maxLen∧∀k (hk:k < l.length),∃ad,A=some ad∧S ad.block∧
  w.cell? (ad.add (k*3))=some (.string l[k].n)∧w.cell? ⟨(ad.add (k*3)).block,(ad.add (k*3)).off+1,none⟩=some (.string l[k].x)∧w.cell? ⟨(ad.add (k*3)).block,(ad.add (k*3)).off+2,none⟩=some (.int .i64 l[k].p):=by
 obtain ⟨A',c',e,h1,h2,h⟩:=h
 simp only [List.cons.injEq,Value.slice.injEq,and_true] at e
 obtain ⟨rfl,rfl,rfl⟩:=e
 refine ⟨rfl,h1,h2,fun k hk=>?_⟩
 obtain ⟨ad,es,e,hS,hE,hl,hc⟩:=h k hk
 rw [show es=l[k].cells from hE] at hc
 exact ⟨ad,e,hS,hc 0 _ rfl,by rw [off_add ad (k*3) 1 (by omega)];exact hc 1 _ rfl,by rw [off_add ad (k*3) 2 (by omega)];exact hc 2 _ rfl⟩
theorem byt_no {p:Nat→Bool} {s:ByteArray} {k:Nat} (hk:k < s.size) (h:p s[k].toNat=false):(B s).all p=false:=by
 rw [Bool.eq_false_iff]
 intro ha
 have:=List.all_eq_true.1 ha s[k].toNat (List.mem_of_getElem? (B_at s k hk))
 rw [h] at this;cases this
theorem byt_yes {p:Nat→Bool} {s:ByteArray} (h:∀j,j < s.size→p ((B s).getD j 0)=true):(B s).all p=true:=by
 rw [List.all_eq_true]
 intro c hc
 obtain ⟨j,hj,e⟩:=List.getElem_of_mem hc
 rw [B_len] at hj
 have:=h j hj
 rwa [List.getD_eq_getElem?_getD,List.getElem?_eq_getElem (by rw [B_len];exact hj),e] at this
theorem star_eq (n:ByteArray):(n.toList==[42])=decide (n=star8):=by
 rw [sEqL n [42] [42] rfl (by decide),Bool.eq_iff_iff,decide_eq_true_iff,decide_eq_true_iff]
 exact ⟨fun h=>by rw [eq_mk h];rfl,fun h=>by rw [h];exact star_lt⟩
theorem vis_low {c:Nat} (h:c≤32):visB c=false:=by unfold visB;rw [decide_eq_false (by omega)];rfl
theorem vis_high {c:Nat} (h:127≤c):visB c=false:=by unfold visB;rw [decide_eq_false (p:=c < 127) (by omega),Bool.false_and,Bool.and_false]
theorem vis_star {c:Nat} (h:c=42):visB c=false:=by subst h;rfl
theorem vis_ok {c:Nat} (h1:¬c≤32) (h2:¬127≤c) (h3:¬c=42):visB c=true:=by unfold visB;rw [decide_eq_true (p:=32 < c) (by omega),decide_eq_true (p:=c < 127) (by omega),decide_eq_false h3];rfl
def rdX (b1 b2 b3:Bool) (nm s num:ByteArray):Int × Pn:=
 if (b1&&(b2&&b3))=true then
  match priI (B num),prefB (B s) with
  | some n,some x=>if rgtN ⟨nm,mk x,n⟩=true then (0,⟨nm,mk x,n⟩) else (5,nil8)
  | _,_=>(5,nil8)
 else (6,nil8)
theorem rdN_x (st:List Fd):rdN st=rdX (getV st nPk) (getV st nPi) (getV st nPp) (fstV st nPk) (fstV st nPi) (fstV st nPp):=rfl
theorem rdX_no {b1 b2 b3:Bool} {nm s num:ByteArray} (h:(b1&&(b2&&b3))=false):rdX b1 b2 b3 nm s num=(6,nil8):=if_neg (by rw [h];decide)
theorem rdX_num {nm s num:ByteArray} (h:priI (B num)=none):rdX true true true nm s num=(5,nil8):=by unfold rdX;rw [h];rfl
theorem rdX_pre {nm s num:ByteArray} (h:prefB (B s)=none):rdX true true true nm s num=(5,nil8):=by unfold rdX;rw [h];cases priI (B num)<;>rfl
theorem rdX_bad {nm s num x:ByteArray} {n:Int} (h1:priI (B num)=some n) (h2:prefB (B s)=some (B x)) (h:rgtN ⟨nm,x,n⟩=false):rdX true true true nm s num=(5,nil8):=by
 unfold rdX;rw [h1,h2,if_pos (by decide)];simp only [mk_B];rw [h];exact if_neg (by decide)
theorem rdX_ok {nm s num x:ByteArray} {n:Int} (h1:priI (B num)=some n) (h2:prefB (B s)=some (B x)) (h:rgtN ⟨nm,x,n⟩=true):rdX true true true nm s num=(0,⟨nm,x,n⟩):=by
 unfold rdX;rw [h1,h2,if_pos (by decide)];simp only [mk_B];rw [if_pos h]
def PaP (w:World) (R:List Pn × Int × Int) (e:Ending) (w':World):Prop:=(∃A n c,e=.returned (.tuple #[.slice A n c,.int .i64 R.2.1,.int .i64 R.2.2])∧rdPns w' (lt_ w'.heap.size) R.1 [.slice A n c])∧Below w.heap.size w w'
theorem pn_info:(Tryz.prog.info? 30).map (fun i=>(i.zero,i.size,i.bytes))=some (some (.agg #[.string { data:=#[] },.string { data:=#[] },.int .i64 0]),3,40):=by kernel_rfl
theorem goN_at {L:List (List Fd)} {k:Nat} (hk:k < L.length) (out:List Pn):goN (L.drop k) k out=if (rdN L[k]).1≠0 then ([],(k:Int)+1,(rdN L[k]).1) else goN (L.drop (k+1)) (k+1) (out++[(rdN L[k]).2]):=by
 rw [List.drop_eq_getElem_cons hk];rfl
theorem mat_no {x:Pn} {nm v:ByteArray} (h1:¬x.n=nm) (h2:¬x.n=star8):matN x nm v=false:=by unfold matN;rw [decide_eq_false h1,decide_eq_false h2];rfl
theorem mat_yes {x:Pn} {nm v:ByteArray} (h:x.n=nm∨x.n=star8):matN x nm v=pfx8 x.x v:=by
 unfold matN
 rcases h with h|h
 ·rw [decide_eq_true h];rfl
 ·rw [decide_eq_true h,Bool.or_true];rfl
end Go.Proofs.YtbljkpbaceiaiaaGreatDoor
