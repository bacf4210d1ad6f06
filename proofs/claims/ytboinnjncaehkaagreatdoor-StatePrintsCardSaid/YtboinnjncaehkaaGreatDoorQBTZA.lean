/- What the laws rest on: S5w, S5x, S5x2, S5y, P6m, E6p, E6q, P6o, P8p, P8q, LaidStr, Post2. -/
import Derived.Deep.CutRange
import Derived.Shelf.Strings.BuilderX
import Derived.Lib.Builder
import Derived.Lib.AppendStr
import Derived.Lib.UnsafeStr
import Derived.Lib.MakeNoZero
import Derived.Laws.Externs
import Derived.Lib.LaidTab
import Derived.ChangeArms
import Derived.Test.YtboinnjncaehkaaGreatDoorRows
import Derived.ChangeSame
import Derived.ProofKit
import Derived.OpenShut
import Derived.Carry
import Derived.Test.YtboinnjncaehkaaGreatDoorQBRZA
set_option maxRecDepth 100000
set_option linter.unusedVariables false
set_option linter.unusedSimpArgs false
namespace Go.Proofs.YtboinnjncaehkaaGreatDoor
open Go.RowKit
def Lim (op:List Opn) (k:Nat):Prop:=∀f ∈ op,f.2.length≤k∧∀x ∈ f.2,x.length≤65536
theorem lim_nil (k:Nat):Lim [] k:=fun f hf=>by simp at hf
theorem lim_last {op:List Opn} {k:Nat} (h:Lim op k):(lastLn op).length≤k:=by
 rcases List.eq_nil_or_concat op with rfl|⟨i,f,rfl⟩
 ·exact Nat.zero_le _
 ·rw [List.concat_eq_append] at h ⊢
  rw [lastLn_snoc]
  exact (h f (by simp)).1
theorem lim_line {p:PS} {l:List Nat} {k:Nat} (h:Lim p.op k) (hl:l.length≤65536):Lim (lnS p l).op (k+1):=by
 cases l with
 | nil=>show Lim p.fin.op _;rw [fin_closed];exact lim_nil _
 | cons c r=>
  unfold lnS
  simp only
  split
  ·rcases List.eq_nil_or_concat p.op with e|⟨i,f,e⟩
   ·rw [e];exact lim_nil _
   ·rw [List.concat_eq_append] at e
    rw [e,onLast_snoc]
    intro g hg
    rw [List.mem_append,List.mem_singleton] at hg
    rcases hg with hg|rfl
    ·obtain ⟨a,b⟩:=h g (by rw [e];simp [hg])
     exact ⟨by omega,b⟩
    ·obtain ⟨a,b⟩:=h f (by rw [e];simp)
     refine ⟨by rw [List.length_append,List.length_singleton];omega,fun x hx=>?_⟩
     rw [List.mem_append,List.mem_singleton] at hx
     rcases hx with hx|rfl
     ·exact b x hx
     ·rw [List.length_cons] at hl;omega
  ·intro g hg
   rw [List.mem_append,List.mem_singleton] at hg
   rcases hg with hg|rfl
   ·obtain ⟨a,b⟩:=h g hg
    exact ⟨by omega,b⟩
   ·refine ⟨by simp,fun x hx=>?_⟩
    rw [List.mem_singleton] at hx
    subst hx
    unfold vlOf
    have h1:=(List.dropWhile_sublist (fun c=>c==32) (l:=(c::r).drop ((nmOf (c::r)).length+1))).length_le
    rw [List.length_drop] at h1
    omega
set_option maxHeartbeats 2000000 in
theorem read5_ok (x:ByteArray) (N r k:Nat) (p:PS) (vs vo vl:Value) (m:Int) (w:World) (hR:RdP w N r k p vs vo vl) (hr:r < N) (hN:N≤w.heap.size) (hx:x.size≤65536) (hm:w.cell? ⟨1,0,none⟩=some (.int .i64 m)) (h:lnE p (B x)=0) (hf:Fit p) (hl:Lim p.op 100000) :
  Calls Tryz.prog 98 #[.pointer (some ⟨r,0,none⟩),.string x] w fun e w'=>e=.returned (.tuple #[])∧(∃vs' vo' vl',RdP w' N r k (lnS p (B x)) vs' vo' vl')∧Fr N r w w':=by
 have LW:=Lib.hid (low5_any x w (by unfold maxLen;omega))
 have hrw:r < w.heap.size:=by omega
 have HRW:=Lib.hid hrw
 unfold lnE at h
 by_cases h1:lowB (B x)=true
 ·rw [if_pos h1] at h;cases h
 rw [if_neg h1] at h
 rw [Bool.eq_false_iff.2 h1] at LW
 clear h1
 have HR:=Lib.hid hR
 have HRN:=Lib.hid hr
 have HN:=Lib.hid hN
 have HX:=Lib.hid hx
 have HF:=Lib.hid hf
 have HL:=Lib.hid hl
 have em:=emp_eq x
 cases hB:B x with
 | nil=>
  rw [decide_eq_true hB] at em
  by_cases h0:p.op=[]
  ·have E:=Lib.hid (show lnS p []=p from fin_of h0)
   have H0:=Lib.hid h0
   clear hR hr hN hx hf hl hm h hB h0 hrw
   go_enter Tryz.func98,Tryz.ntmps98
   go_wp2_with fail
   refine LW.out.mono ?_
   rintro e w1 ⟨rfl,hb⟩
   have R1:=Lib.hid (HR.out.below hb HRW.out)
   have HB:=Lib.hid hb
   clear hb
   go_wp2_with fail
   refine (end5_none N r k p vs vo vl _ R1.out H0.out).mono ?_
   rintro e w2 ⟨rfl,rfl⟩
   go_wp2
   go_end0
   exact ⟨rfl,⟨_,_,_,by rw [E.out];exact R1.out⟩,Fr.of (HB.out.mono HN.out) (Nat.le_of_lt HRN.out)⟩
  ·have H0:=Lib.hid h0
   clear hR hr hN hx hf hl hm h hB h0 hrw
   go_enter Tryz.func98,Tryz.ntmps98
   go_wp2_with fail
   refine LW.out.mono ?_
   rintro e w1 ⟨rfl,hb⟩
   have R1:=Lib.hid (HR.out.below hb HRW.out)
   have HB:=Lib.hid hb
   clear hb
   go_wp2_with fail
   refine (end5_ok N r k p vs vo vl _ R1.out HRN.out (Nat.le_trans HN.out HB.out.size) H0.out (by have:=HF.out.f;omega) (by have:=HF.out.d;omega) (fun f hf=>⟨by have:=(HL.out f hf).1;omega,fun x hx=>by have:=(HL.out f hf).2 x hx;omega⟩)).mono ?_
   rintro e w2 ⟨rfl,hex,hfr⟩
   have EX:=Lib.hid hex
   have FR:=Lib.hid hfr
   clear hex hfr
   go_wp2
   go_end0
   exact ⟨rfl,EX.out,(Fr.of (HB.out.mono HN.out) (Nat.le_of_lt HRN.out)).trans FR.out⟩
 | cons c rs=>
  rw [hB] at h
  simp only at h
  rw [decide_eq_false (show ¬B x=[] by rw [hB];simp)] at em
  have hs0:0 < x.size:=by rw [←B_len,hB];simp
  have hc:x[0].toNat=c:=by rw [←B_getD x 0 hs0,hB];rfl
  have hE:B (x.extract 1 x.size)=rs:=by rw [ext1_B,hB];rfl
  have HM:=Lib.hid hm
  have HH:=Lib.hid h
  have HBX:=Lib.hid hB
  clear hR hr hN hx hf hl hm h hB hrw
  by_cases h32:c=32
  ·have HG:=Lib.hid (show goE p rs=0 by have:=HH.out;rwa [if_pos h32] at this)
   have q0:((x[0].toNat:Int)==32)=true:=by rw [hc,h32];rfl
   have GN:=Lib.hid (show p.op≠[]∧B (x.extract 1 x.size)≠[] by
    have:=HG.out
    unfold goE at this
    split at this
    ·cases this
    ·rename_i hh
     rw [Bool.or_eq_true,decide_eq_true_iff,decide_eq_true_iff] at hh
     rw [hE];exact ⟨fun e=>hh (.inl e),fun e=>hh (.inr e)⟩)
   have SN:=Lib.hid (show lnS p (c::rs)=⟨p.dn,onLast (B (x.extract 1 x.size)) p.op⟩ by
    unfold lnS;simp only;rw [if_pos h32,hE])
   clear hc hE h32 HH
   go_enter Tryz.func98,Tryz.ntmps98
   go_wp2_with fail
   refine LW.out.mono ?_
   rintro e w1 ⟨rfl,hb⟩
   have R1:=Lib.hid (HR.out.below hb HRW.out)
   have HB:=Lib.hid hb
   clear hb
   go_wp2_with fail
   refine (goOn5_ok (x.extract 1 x.size) N r k p vs vo vl _ R1.out HRN.out (Nat.le_trans HN.out HB.out.size) GN.out.1 GN.out.2 (by have:=HF.out.f;omega) (by have:=lim_last HL.out;omega)).mono ?_
   rintro e w2 ⟨rfl,hex,hfr⟩
   have EX:=Lib.hid hex
   have FR:=Lib.hid hfr
   clear hex hfr
   go_wp2
   go_end0
   refine ⟨rfl,?_,(Fr.of (HB.out.mono HN.out) (Nat.le_of_lt HRN.out)).trans FR.out⟩
   obtain ⟨vl',h⟩:=EX.out
   exact ⟨_,_,_,by rw [SN.out];exact h⟩
  ·have HG:=Lib.hid (show begE p (B x)=0 by have:=HH.out;rw [if_neg h32] at this;rw [HBX.out];exact this)
   have q0:((x[0].toNat:Int)==32)=false:=by rw [hc,beq_eq_false_iff_ne];omega
   have SN:=Lib.hid (show lnS p (c::rs)=⟨p.dn,p.op++[(mk (nmOf (B x)),[vlOf (B x)])]⟩ by
    unfold lnS;simp only;rw [if_neg h32,HBX.out])
   clear hc hE h32 HH
   go_enter Tryz.func98,Tryz.ntmps98
   go_wp2_with fail
   refine LW.out.mono ?_
   rintro e w1 ⟨rfl,hb⟩
   have R1:=Lib.hid (HR.out.below hb HRW.out)
   have HB:=Lib.hid hb
   have M1:=Lib.hid ((hb.cell (show (⟨1,0,none⟩:Addr).block < w.heap.size from World.block_lt_of_cell? _ _ HM.out)).trans HM.out)
   clear hb
   go_wp2_with fail
   refine (begin5_ok x N r k p vs vo vl m _ R1.out HRN.out (Nat.le_trans HN.out HB.out.size) HX.out M1.out HG.out (by have:=HF.out.f;omega)).mono ?_
   rintro e w2 ⟨rfl,hex,hfr⟩
   have EX:=Lib.hid hex
   have FR:=Lib.hid hfr
   clear hex hfr
   go_wp2
   go_end0
   refine ⟨rfl,?_,(Fr.of (HB.out.mono HN.out) (Nat.le_of_lt HRN.out)).trans FR.out⟩
   obtain ⟨vo',vl',h⟩:=EX.out
   exact ⟨_,_,_,by rw [SN.out];exact h⟩
theorem as5_errno (n:Int) (w:World):(Instr.typeAssert (.iface 24 (.int .i64 n)) 20 24 true).run Tryz.prog w=.ok (.tuple #[.int .i64 n,.bool true]) w:=by kernel_rfl
theorem catch5_idle (p:Addr) (w:World) :
  CallsD Tryz.prog 96 #[.pointer (some p)] .returning w fun e u' w'=>e=.returned (.tuple #[])∧u'=.returning∧w'=w:=by
 refine callsD_of_wpS Tryz.func96 rfl fun c₀ cs hu=>?_
 apply wpS_seq
 apply wpS_region
 simp [wpOpsS,go_sem,recoverD,hu,Tryz.ntmps96,Exit.thenS]
 refine wpS_of_wp ?_
 go_wp2
 cases c₀
 simp_all [bodyPostS,results,Tryz.results96]
set_option maxHeartbeats 400000 in
theorem catch5_errno (p:Addr) (x n:Int) (older:List PanicEntry) (w:World) (hc:w.cell? p=some (.int .i64 x)) (hz:w.frozen? p=false) :
  CallsD Tryz.prog 96 #[.pointer (some p)] (.panicking ({ v:=.iface 24 (.int .i64 n),recovered:=false }::older)) w fun e u' w'=>
   e=.returned (.tuple #[])∧u'=.panicking ({ v:=.iface 24 (.int .i64 n),recovered:=true }::older)∧w'=w.setCell p (.int .i64 n):=by
 have hta:=as5_errno
 refine callsD_of_wpS Tryz.func96 rfl fun c₀ cs hu=>?_
 apply wpS_seq
 apply wpS_region
 simp [wpOpsS,go_sem,recoverD,hu,Tryz.ntmps96,Exit.thenS]
 refine wpS_of_wp ?_
 clear hu
 go_wp2
 simp [bodyPostS,results,Tryz.results96]
theorem RdP.line {W:World} {N r k:Nat} {p:PS} {vs vo vl:Value} (h:RdP W N r k p vs vo vl) (hr:r < N):RdP (W.setCell ⟨r,0,none⟩ (.int .i64 ((k+1:Nat):Int))) N r (k+1) p vs vo vl:=by
 obtain ⟨f0,c0,c1,c2,gs,go,gl,so,sl,ol⟩:=h
 have hset:∀o,o≠0→(⟨r,0,none⟩:Addr)≠⟨r,o,none⟩:=fun o ho e=>ho (congrArg Addr.off e).symm
 refine ⟨fun o=>?_,World.cell?_setCell_same _ _ _ c0,?_,?_,gs.setCell rdFds_good hr (fun h=>by have:=h.1.1;simp only at this;omega) _,go.setCell rdOpX_good hr (fun h=>by have:=h.1;simp only at this;omega) _,gl.setCell rdStr_good hr (fun h=>by simp only at h;omega) _,so,sl,ol⟩
 ·rw [World.frozen?_setCell];exact f0 o
 ·rw [World.cell?_setCell_other _ _ _ _ (hset 1 (by decide))];exact c1
 ·rw [World.cell?_setCell_other _ _ _ _ (hset 2 (by decide))];exact c2
theorem rd0 {W:World} {N r:Nat} (f0:∀o,W.frozen? ⟨r,o,none⟩=false) (c0:W.cell? ⟨r,0,none⟩=some (.int .i64 (0:Nat))) (c1:W.cell? ⟨r,1,none⟩=some (.slice none 0 0)) (c2:W.cell? ⟨r,2,none⟩=some (.slice none 0 0)) :
  RdP W N r 0 ps0 (.slice none 0 0) (.slice none 0 0) (.slice none 0 0):=
 ⟨f0,c0,c1,c2,Grow.nil _ _ _ _,Grow.nil _ _ _ _,Grow.nil _ _ _ _,Off.nil _,Off.nil _,Off.nil _⟩
theorem rnS_snoc (s:PS) (a:List (List Nat)) (l:List Nat):rnS s (a++[l])=lnS (rnS s a) l:=by rw [rnS_app];rfl
theorem rnE_snoc {s:PS} {a:List (List Nat)} {l:List Nat} (h:rnE s a=0):rnE s (a++[l])=lnE (rnS s a) l:=by
 rw [rnE_app _ _ _ h]
 show (if lnE _ l=0 then 0 else lnE _ l)=_
 split
 ·rename_i h;exact h.symm
 ·rfl
theorem rn_at:∀(a:List (List Nat)) (l:List Nat) (b:List (List Nat)) (s:PS) (k:Nat),rnE s a=0→lnE (rnS s a) l≠0→rnE s (a++l::b)=lnE (rnS s a) l∧rnN s k (a++l::b)=k+a.length+1
 | [],l,b,s,k,_,h=>⟨rnE_no h _,rnN_no h _ _⟩
 | x::a,l,b,s,k,h0,h=>by
  by_cases hx:lnE s x=0
  ·rw [rnE_ok hx] at h0
   obtain ⟨h1,h2⟩:=rn_at a l b (lnS s x) (k+1) h0 h
   rw [List.cons_append,rnE_ok hx,rnN_ok hx]
   exact ⟨h1,by rw [h2,List.length_cons];omega⟩
  ·rw [rnE_no hx] at h0
   exact absurd h0 hx
theorem RdP.elsewhere {W:World} {N r k:Nat} {p:PS} {vs vo vl:Value} (h:RdP W N r k p vs vo vl) {b:Nat} (hb:b≠r) (hN:b < N) (u:Value):RdP (W.setCell ⟨b,0,none⟩ u) N r k p vs vo vl:=by
 obtain ⟨f0,c0,c1,c2,gs,go,gl,so,sl,ol⟩:=h
 have hset:∀o,(⟨b,0,none⟩:Addr)≠⟨r,o,none⟩:=fun o e=>hb (congrArg Addr.block e)
 refine ⟨fun o=>?_,?_,?_,?_,gs.setCell rdFds_good hN (fun h=>by have:=h.1.1;simp only at this;omega) _,go.setCell rdOpX_good hN (fun h=>by have:=h.1;simp only at this;omega) _,gl.setCell rdStr_good hN (fun h=>by simp only at h;omega) _,so,sl,ol⟩
 ·rw [World.frozen?_setCell];exact f0 o
 ·rw [World.cell?_setCell_other _ _ _ _ (hset 0)];exact c0
 ·rw [World.cell?_setCell_other _ _ _ _ (hset 1)];exact c1
 ·rw [World.cell?_setCell_other _ _ _ _ (hset 2)];exact c2
theorem end5_any (N r k:Nat) (p:PS) (vs vo vl:Value) (w:World) (hR:RdP w N r k p vs vo vl) (hr:r < N) (hN:N≤w.heap.size) (hol:p.op.length≤1000) (hdl:p.dn.length≤1000) (hln:∀f ∈ p.op,f.2.length≤1000000∧∀x ∈ f.2,x.length≤1000000) :
  Calls Tryz.prog 99 #[.pointer (some ⟨r,0,none⟩)] w fun e w'=>e=.returned (.tuple #[])∧(∃vs' vo' vl',RdP w' N r k p.fin vs' vo' vl')∧Fr N r w w':=by
 by_cases h0:p.op=[]
 ·refine (end5_none N r k p vs vo vl w hR h0).mono ?_
  rintro e w' ⟨rfl,rfl⟩
  exact ⟨rfl,⟨_,_,_,by rw [fin_of h0];exact hR⟩,Fr.refl _ _ _⟩
 ·exact end5_ok N r k p vs vo vl w hR hr hN h0 hol hdl hln
set_option maxHeartbeats 4000000 in
theorem readAll5_any (s:ByteArray) (r:Nat) (m:Int) (w:World) (hr:r < w.heap.size) (hs:s.size≤60000) (hm:w.cell? ⟨1,0,none⟩=some (.int .i64 m)) (hmr:1 < r)
  (f0:∀o,w.frozen? ⟨r,o,none⟩=false) (c0:w.cell? ⟨r,0,none⟩=some (.int .i64 (0:Nat))) (c1:w.cell? ⟨r,1,none⟩=some (.slice none 0 0)) (c2:w.cell? ⟨r,2,none⟩=some (.slice none 0 0)) :
  Calls Tryz.prog 56 #[.pointer (some ⟨r,0,none⟩),.string s] w fun e w'=>e=.returned (.int .i64 (rnE ps0 (cutBy 10 (B s))))∧Below r w w'∧
   (rnE ps0 (cutBy 10 (B s))=0→∃N k vs vo vl,w.heap.size≤N∧N≤w'.heap.size∧RdP w' N r k (rnS ps0 (cutBy 10 (B s))).fin vs vo vl)∧
   (rnE ps0 (cutBy 10 (B s))≠0→w'.cell? ⟨r,0,none⟩=some (.int .i64 (rnN ps0 0 (cutBy 10 (B s))))):=by
 suffices hh:∀Q:Ending→World→Prop,(∀w',Below r w w'→(rnE ps0 (cutBy 10 (B s))=0→∃N k vs vo vl,w.heap.size≤N∧N≤w'.heap.size∧RdP w' N r k (rnS ps0 (cutBy 10 (B s))).fin vs vo vl)→
   (rnE ps0 (cutBy 10 (B s))≠0→w'.cell? ⟨r,0,none⟩=some (.int .i64 (rnN ps0 0 (cutBy 10 (B s)))))→Q (.returned (.int .i64 (rnE ps0 (cutBy 10 (B s))))) w')→Calls Tryz.prog 56 #[.pointer (some ⟨r,0,none⟩),.string s] w Q from hh _ fun w' a b c=>⟨rfl,a,b,c⟩
 intro Q hQ
 have HQ:=Lib.hid hQ
 clear hQ
 have hmf:∀(fn:Fn) (first cap:Array Value) (w:World),(Instr.makeFunc fn first cap).run Tryz.prog w=.ok (.func fn first cap) w:=fun _ _ _ _=>rfl
 have hba:Below w.heap.size w (w.alloc (.cells #[.int .i64 0] 24)):=(Below.refl _ w).alloc (Nat.le_refl _) _
 have BA:=Lib.hid hba
 have SP:=Lib.hid (split5_any s m (w.alloc (.cells #[.int .i64 0] 24)) (by omega) ((hba.cell (show (⟨1,0,none⟩:Addr).block < w.heap.size from Nat.lt_trans hmr hr)).trans hm))
 have HLL:=Lib.hid (show (cutBy 10 (B s)).length≤60001 by rw [cutBy_len];have:=List.count_le_length (a:=10) (l:=B s);rw [B_len] at this;omega)
 have HLB:=Lib.hid (fun l (hl:l ∈ cutBy 10 (B s))=>(show l.length≤60000∧B (mk l)=l from ⟨by have:=cutBy_mem_len hl;rw [B_len] at this;omega,B_mk fun c hc=>B_lt s c (cutBy_mem hl c hc).1⟩))
 have HCR:=Lib.hid (show RdP w (w.heap.size+2) r 0 ps0 (.slice none 0 0) (.slice none 0 0) (.slice none 0 0) from rd0 f0 c0 c1 c2)
 have HR:=Lib.hid hr
 have HM:=Lib.hid (And.intro hm hmr)
 generalize cutBy 10 (B s)=L at *
 clear hm f0 c0 c1 c2 hba hs hr hmr
 go_enter_defers Tryz.func56,Tryz.ntmps56
 go_wp2_with fail
 refine SP.out.mono ?_
 rintro e w1 ⟨rfl,rfl⟩
 obtain ⟨W1,hW1⟩:∃W1,W1=(w.alloc (.cells #[.int .i64 0] 24)).alloc (.cells ((L.map mk).map Value.string).toArray 9):=⟨_,rfl⟩
 have B1:=Lib.hid (show Below w.heap.size w W1 by rw [hW1];exact BA.out.alloc BA.out.size _)
 have z1:W1.heap.size=w.heap.size+2:=by rw [hW1,World.size_alloc,World.size_alloc]
 have Z1:=Lib.hid z1
 have e1:(w.alloc (.cells #[.int .i64 0] 24)).heap.size=w.heap.size+1:=by rw [World.size_alloc]
 have LC:=Lib.hid (fun (k:Nat) (hk:k < L.length)=>(show W1.cell? ⟨w.heap.size+1,k,none⟩=some (.string (mk L[k])) by
  rw [hW1]
  have h:=cells_new (w.alloc (.cells #[.int .i64 0] 24)) ((L.map mk).map Value.string).toArray 9 k (.string (mk L[k])) (by simp [hk])
  have ea:(⟨w.heap.size+1,0,none⟩:Addr).add k=⟨w.heap.size+1,k,none⟩:=by unfold Addr.add;split<;>simp_all
  rw [e1,ea] at h;exact h))
 have EC:=Lib.hid (show W1.cell? ⟨w.heap.size,0,none⟩=some (.int .i64 0)∧W1.frozen? ⟨w.heap.size,0,none⟩=false by rw [hW1];exact ⟨by simp [go_sem],by simp [go_sem]⟩)
 rw [e1,←hW1]
 clear hW1 e1 SP BA z1
 go_wp2
 go_loopw [11] (fun i wr=>∃j:Nat,j≤L.length∧i=.int .i64 j∧rnE ps0 (L.take j)=0∧Fit (rnS ps0 (L.take j))∧Lim (rnS ps0 (L.take j)).op j∧(∃vs vo vl,RdP wr (w.heap.size+2) r j (rnS ps0 (L.take j)) vs vo vl)∧Fr (w.heap.size+2) r W1 wr) (fun i _=>L.length - (intOf i).toNat)
 case atStart=>exact ⟨0,Nat.zero_le _,rfl,rfl,fit0,lim_nil _,⟨_,_,_,HCR.out.below B1.out HR.out⟩,Fr.refl _ _ _⟩
 case round=>
  obtain ⟨j,hj,rfl,he,hf,hl,⟨vs,vo,vl,hRd⟩,hfr⟩:=hrel
  have HE:=Lib.hid he
  have HF:=Lib.hid hf
  have HL:=Lib.hid hl
  have FR:=Lib.hid hfr
  have x0:=hRd.c0
  have y0:=hRd.f0 0
  have RL:=Lib.hid (hRd.line (Nat.lt_trans HR.out (by omega)))
  have ecell:=(World.cell?_of_block (a:=⟨w.heap.size,0,none⟩) (hfr.mid w.heap.size HR.out (by omega))).trans EC.out.1
  have efroz:=(World.frozen?_of_block (a:=⟨w.heap.size,0,none⟩) (hfr.mid w.heap.size HR.out (by omega))).trans EC.out.2
  have WS:=Lib.hid (show w.heap.size+2≤wr.heap.size by rw [←Z1.out];exact hfr.bel.size)
  have MC:=Lib.hid ((hfr.bel.cell (show (⟨1,0,none⟩:Addr).block < r from HM.out.2)).trans ((B1.out.cell (show (⟨1,0,none⟩:Addr).block < w.heap.size from Nat.lt_trans HM.out.2 HR.out)).trans HM.out.1))
  clear he hf hl
  by_cases hlt:j < L.length
  ·have lcell:wr.cell? ⟨w.heap.size+1,j,none⟩=some (.string (mk L[j])):=(World.cell?_of_block (a:=⟨w.heap.size+1,j,none⟩) (hfr.mid (w.heap.size+1) (Nat.lt_trans HR.out (by omega)) (by omega))).trans (LC.out j hlt)
   have hlb:=HLB.out L[j] (List.getElem_mem hlt)
   have HX:=Lib.hid (show (mk L[j]).size≤65536 by rw [←B_len,hlb.2];omega)
   have HBX:=Lib.hid hlb.2
   have HXL:=Lib.hid hlb.1
   have TK:=Lib.hid (show L.take (j+1)=L.take j++[L[j]] from (List.take_succ_eq_append_getElem hlt))
   have DR:=Lib.hid (show L=L.take j++L[j]::L.drop (j+1) by rw [←List.drop_eq_getElem_cons hlt,List.take_append_drop])
   have wj:IntKind.i64.wrap ((j:Int)+1)=((j+1:Nat):Int):=by have:=HLL.out;rw [IntWalk.i64_in _ (by omega)];omega
   generalize hP:rnS ps0 (L.take j)=P at *
   have HP:=Lib.hid hP
   generalize hY:L[j]=y at *
   clear hRd hfr hlb hP hY
   have rlv:=RL.out
   rw [show ((j+1:Nat):Int)=(j:Int)+1 by omega] at rlv
   have FV:=Lib.hid (FR.out.set (p:=⟨r,0,none⟩) (.inl rfl) (Nat.le_of_lt (Nat.lt_trans HR.out (by omega))) (.int .i64 ((j:Int)+1)))
   have wsv:w.heap.size+2≤(wr.setCell ⟨r,0,none⟩ (.int .i64 ((j:Int)+1))).heap.size:=by simpa using WS.out
   go_wp2_with fail
   generalize wr.setCell ⟨r,0,none⟩ (.int .i64 ((j:Int)+1))=V at *
   have MV:=Lib.hid ((FV.out.bel.cell (show (⟨1,0,none⟩:Addr).block < r from HM.out.2)).trans ((B1.out.cell (show (⟨1,0,none⟩:Addr).block < w.heap.size from Nat.lt_trans HM.out.2 HR.out)).trans HM.out.1))
   have RV:=Lib.hid rlv
   have WV:=Lib.hid wsv
   clear lcell rlv wsv x0 y0 ecell efroz RL MC FR WS
   by_cases hn:lnE P y=0
   ·refine (read5_ok (mk y) (w.heap.size+2) r (j+1) P vs vo vl m V RV.out (Nat.lt_trans HR.out (by omega)) WV.out HX.out MV.out (by rw [HBX.out];exact hn) HF.out (fun f hf=>⟨by have:=(HL.out f hf).1;have:=HLL.out;omega,(HL.out f hf).2⟩)).mono ?_
    rintro e w2 ⟨rfl,hex,hfr⟩
    have HN:=Lib.hid (And.intro hn (And.intro hex hfr))
    rw [HBX.out] at HN
    clear hn hex hfr
    go_wp2
    go_roundw
    case rel=>exact ⟨j+1,by omega,by go_num,by rw [TK.out,rnE_snoc HE.out,HP.out];exact HN.out.1,by rw [TK.out,rnS_snoc,HP.out];exact fit_line HF.out HN.out.1,by rw [TK.out,rnS_snoc,HP.out];exact lim_line HL.out (by have:=HXL.out;omega),by rw [TK.out,rnS_snoc,HP.out];exact HN.out.2.1,FV.out.trans HN.out.2.2⟩
    case measure=>simp [intOf];omega
   ·refine (read5_no (mk y) (w.heap.size+2) r (j+1) P vs vo vl m V RV.out (Nat.lt_of_lt_of_le HR.out (by have:=WV.out;omega)) HX.out MV.out (by rw [HBX.out];exact hn)).mono ?_
    rintro e w2 ⟨rfl,hb2⟩
    rw [HBX.out]
    have ER:=Lib.hid (rn_at (L.take j) y (L.drop (j+1)) ps0 0 HE.out (by rw [HP.out];exact hn))
    rw [←DR.out,HP.out] at ER
    have HNE:=Lib.hid hn
    have HB2:=Lib.hid hb2
    clear hn hb2
    have ec:w2.cell? ⟨w.heap.size,0,none⟩=some (.int .i64 0):=(World.cell?_of_block (a:=⟨w.heap.size,0,none⟩) ((HB2.out.block w.heap.size (by have:=WV.out;omega)).trans (FV.out.mid w.heap.size HR.out (by omega)))).trans EC.out.1
    have ef:w2.frozen? ⟨w.heap.size,0,none⟩=false:=(World.frozen?_of_block (a:=⟨w.heap.size,0,none⟩) ((HB2.out.block w.heap.size (by have:=WV.out;omega)).trans (FV.out.mid w.heap.size HR.out (by omega)))).trans EC.out.2
    go_wp2
    refine leaves_cons (f:=96) (args:=#[.pointer (some ⟨w.heap.size,0,none⟩)]) (by simp) (by simp [go_sem]) ?_
    refine (catch5_errno ⟨w.heap.size,0,none⟩ 0 (lnE P y) [] w2 ec ef).mono ?_
    rintro e u' w'' ⟨rfl,rfl,rfl⟩
    have d1:(w2.setCell ⟨w.heap.size,0,none⟩ (.int .i64 (lnE P y))).cell? ⟨w.heap.size,0,none⟩=some (.int .i64 (lnE P y)):=World.cell?_setCell_same _ _ _ ec
    simp [Leaves,settle,results,Tryz.results56,go_sem,d1]
    have hq:=HQ.out (w2.setCell ⟨w.heap.size,0,none⟩ (.int .i64 (lnE P y))) ((((B1.out.mono (Nat.le_of_lt HR.out)).trans FV.out.bel).trans (HB2.out.mono (by have:=WV.out;have:=HR.out;omega))).setCell (p:=⟨w.heap.size,0,none⟩) (Nat.le_of_lt HR.out) _)
     (fun h=>absurd h (by rw [ER.out.1];exact HNE.out)) (fun _=>by
      rw [World.cell?_setCell_other _ _ _ _ (fun e=>by have:=congrArg Addr.block e;have:=HR.out;simp only at *;omega),ER.out.2,(HB2.out.cell (show (⟨r,0,none⟩:Addr).block < V.heap.size from Nat.lt_of_lt_of_le HR.out (by have:=WV.out;omega))),RV.out.c0,List.length_take,Nat.min_eq_left (by omega),Nat.zero_add])
    rw [ER.out.1] at hq
    exact hq
  ·obtain rfl:j=L.length:=by omega
   rw [List.take_length] at HE HF HL hRd
   have RW:=Lib.hid hRd
   clear hRd x0 y0 ecell efroz RL MC hfr
   go_wp2_with fail
   refine (end5_any (w.heap.size+2) r L.length (rnS ps0 L) vs vo vl wr RW.out (Nat.lt_trans HR.out (by omega)) WS.out (by have:=HF.out.f;omega) (by have:=HF.out.d;omega) (fun f hf=>⟨by have:=(HL.out f hf).1;have:=HLL.out;omega,fun x hx=>by have:=(HL.out f hf).2 x hx;omega⟩)).mono ?_
   rintro e w2 ⟨rfl,hex,hfr2⟩
   have FR2:=Lib.hid (FR.out.trans hfr2)
   have EX:=Lib.hid hex
   clear hex hfr2
   have ec:w2.cell? ⟨w.heap.size,0,none⟩=some (.int .i64 0):=(World.cell?_of_block (a:=⟨w.heap.size,0,none⟩) (FR2.out.mid w.heap.size HR.out (by omega))).trans EC.out.1
   have ef:w2.frozen? ⟨w.heap.size,0,none⟩=false:=(World.frozen?_of_block (a:=⟨w.heap.size,0,none⟩) (FR2.out.mid w.heap.size HR.out (by omega))).trans EC.out.2
   go_wp2
   refine leaves_cons (f:=96) (args:=#[.pointer (some ⟨w.heap.size,0,none⟩)]) (by simp) (by simp [go_sem]) ?_
   refine (catch5_idle ⟨w.heap.size,0,none⟩ _).mono ?_
   rintro e u' w'' ⟨rfl,rfl,rfl⟩
   have d1:(w2.setCell ⟨w.heap.size,0,none⟩ (.int .i64 0)).cell? ⟨w.heap.size,0,none⟩=some (.int .i64 0):=World.cell?_setCell_same _ _ _ ec
   simp [Leaves,settle,results,Tryz.results56,go_sem,d1]
   have hq:=HQ.out (w2.setCell ⟨w.heap.size,0,none⟩ (.int .i64 0)) (((B1.out.mono (Nat.le_of_lt HR.out)).trans FR2.out.bel).setCell (p:=⟨w.heap.size,0,none⟩) (Nat.le_of_lt HR.out) _)
    (fun _=>by
     obtain ⟨vs',vo',vl',h⟩:=EX.out
     exact ⟨w.heap.size+2,L.length,vs',vo',vl',by omega,by have:=FR2.out.bel.size;have:=Z1.out;simp;omega,h.elsewhere (Nat.ne_of_gt HR.out) (by omega) _⟩) (fun h=>absurd HE.out h)
   rw [HE.out] at hq
   exact hq
def Env5 (w:World):Prop:=∃m:Int,w.cell? ⟨1,0,none⟩=some (.int .i64 m)
theorem Env5.pos {w:World} (h:Env5 w):1 < w.heap.size:=by
 obtain ⟨m,h⟩:=h
 exact World.block_lt_of_cell? _ _ h
set_option maxHeartbeats 2000000 in
theorem parse5_any (s:ByteArray) (w:World) (E:Env5 w) :
  Calls Tryz.prog 30 #[.string s] w fun e w'=>(∃A n c,e=.returned (.tuple #[.slice A n c,.int .i64 (stN (B s)),.int .i64 (stE (B s))])∧rdStzs w' (lt_ w'.heap.size) (stL (B s)) [.slice A n c])∧Below w.heap.size w w':=by
 have hE0:=E.pos
 obtain ⟨m,hm⟩:=E
 by_cases hl:60000 < (B s).length
 ·have q0:(60000:Int) < (s.size:Int):=by rw [←B_len];omega
  have e1:stE (B s)=9:=by unfold stE;rw [if_pos hl]
  have e2:stN (B s)=0:=by unfold stN;rw [if_pos hl]
  have e3:stL (B s)=[]:=by unfold stL;rw [e1];rfl
  rw [e1,e2,e3]
  clear e1 e2 e3 hl hm
  go_enter Tryz.func30,Tryz.ntmps30
  go_wp2
  go_ret3
  exact ⟨⟨none,0,0,rfl,rdRow_nil _ _⟩,Below.refl _ _⟩
 ·have q0:¬(60000:Int) < (s.size:Int):=by rw [←B_len];omega
  have e1:stE (B s)=rnE ps0 (cutBy 10 (B s)):=by unfold stE;rw [if_neg hl]
  have e2:stN (B s)=rnN ps0 0 (cutBy 10 (B s)):=by unfold stN;rw [if_neg hl]
  have hba:Below w.heap.size w (w.alloc (.cells #[.int .i64 0,.slice none 0 0,.slice none 0 0] 89)):=(Below.refl _ w).alloc (Nat.le_refl _) _
  have BA:=Lib.hid hba
  have RA:=Lib.hid (readAll5_any s w.heap.size m (w.alloc (.cells #[.int .i64 0,.slice none 0 0,.slice none 0 0] 89)) (by simp) (by rw [←B_len];omega)
   ((hba.cell (show (⟨1,0,none⟩:Addr).block < w.heap.size from hE0)).trans hm) hE0 (fun o=>frozen_of_row _ _ _ _ _ (new_heap _ _)) (by simp [go_sem]) (by simp [go_sem]) (by simp [go_sem]))
  rw [e1,e2]
  have E3:=Lib.hid (show stL (B s)=if rnE ps0 (cutBy 10 (B s))=0 then (rnS ps0 (cutBy 10 (B s))).fin.dn else [] by unfold stL;rw [e1])
  have N0:=Lib.hid (rnN_zero (cutBy 10 (B s)) ps0 0)
  clear e1 e2 hba hm hl
  generalize rnE ps0 (cutBy 10 (B s))=er at *
  generalize rnN ps0 0 (cutBy 10 (B s))=ln at *
  go_enter Tryz.func30,Tryz.ntmps30
  go_wp2_with fail
  refine RA.out.mono ?_
  rintro e w1 ⟨rfl,hb,hok,her⟩
  have HB:=Lib.hid (BA.out.trans hb)
  clear hb RA BA
  by_cases h0:er=0
  ·subst h0
   obtain ⟨N,k,vs,vo,vl,hN1,hN2,hR⟩:=hok rfl
   have x1:=hR.c1
   obtain ⟨As,cs,rfl,_,_⟩:=hR.gs.own
   have RD:=Lib.hid (hR.gs.read rdFds_good)
   have N00:=N0.out rfl
   subst N00
   clear hok her hR N0
   go_wp2
   go_ret3
   exact ⟨⟨_,_,_,rfl,by rw [E3.out,if_pos trivial];exact RD.out⟩,HB.out⟩
  ·have x0:=her h0
   have q1:(er==0)=false:=by rw [beq_eq_false_iff_ne];exact h0
   have E4:=Lib.hid (show stL (B s)=[] by rw [E3.out,if_neg h0])
   clear hok her h0 E3
   go_wp2
   go_quiet (fail)
   go_wp2
   go_ret3
   exact ⟨⟨none,0,0,rfl,by rw [E4.out];exact rdRow_nil _ _⟩,belD HB.out _⟩
theorem EnvR.five {w:World} (E:EnvR w):Env5 w:=E.env.max
def tot6 (k:Nat) (L:List (List Nat)):Nat:=(L.map fun p=>p.length+k).sum
theorem tot6_cons (k:Nat) (p:List Nat) (L:List (List Nat)):tot6 k (p::L)=p.length+k+tot6 k L:=by unfold tot6;rw [List.map_cons,List.sum_cons]
theorem tot6_preH (x:Nat) {L:List (List Nat)} (h:L≠[]):tot6 1 (preH [x] L)=tot6 1 L+1:=by
 cases L with
 | nil=>exact absurd rfl h
 | cons q r=>
  show tot6 1 (([x]++q)::r)=_
  rw [tot6_cons,tot6_cons,List.length_append,List.length_singleton];omega
theorem tot6_cut (c:Nat):∀t:List Nat,tot6 1 (cutBy c t)=t.length+1
 | []=>rfl
 | x::l=>by
  unfold cutBy
  split
  ·rw [tot6_cons,tot6_cut c l,List.length_nil,List.length_cons];omega
  ·rw [tot6_preH x (cutBy_ne c l),tot6_cut c l,List.length_cons]
def vW (st:List Fd):Nat:=(st.map fun f=>f.v.size).sum
def dW (L:List (List Fd)):Nat:=(L.map vW).sum
def oW (op:List Opn):Nat:=(op.map fun f=>(joinL [10] f.2).length).sum
def psW (s:PS):Nat:=dW s.dn+oW s.op
theorem vW_cl (op:List Opn):vW (op.map clF)=oW op:=by
 unfold vW oW
 rw [List.map_map]
 congr 1
 refine List.map_congr_left fun f _=>?_
 show (mk (joinL [10] f.2)).size=_
 rw [size_mk]
theorem fin_W (s:PS):psW s.fin=psW s:=by
 unfold PS.fin
 split
 ·rfl
 ·unfold psW dW
  rw [List.map_append,List.sum_append,List.map_singleton,List.sum_singleton,vW_cl]
  show _+oW []=_
  show _+0=_
  omega
theorem onLast_W (x:List Nat):∀op:List Opn,oW (onLast x op)≤oW op+(x.length+1)
 | []=>by unfold onLast;exact Nat.le_add_right _ _
 | [f]=>by
  unfold onLast oW
  simp only [List.map_cons,List.map_nil,List.sum_cons,List.sum_nil,joinL_snoc]
  split
  ·omega
  ·simp only [List.length_append,List.length_singleton];omega
 | f::g::r=>by
  have:=onLast_W x (g::r)
  unfold onLast
  unfold oW at this ⊢
  rw [List.map_cons,List.sum_cons,List.map_cons,List.sum_cons]
  omega
theorem vl_len (l:List Nat):(vlOf l).length≤l.length:=by
 unfold vlOf
 have h1:=(List.dropWhile_sublist (fun c=>c==32) (l:=l.drop ((nmOf l).length+1))).length_le
 rw [List.length_drop] at h1
 omega
theorem lnS_W (s:PS) (l:List Nat):psW (lnS s l)≤psW s+l.length:=by
 cases l with
 | nil=>show psW s.fin≤_;rw [fin_W];exact Nat.le_add_right _ _
 | cons c r=>
  show psW (if c=32 then ⟨s.dn,onLast r s.op⟩ else ⟨s.dn,s.op++[(mk (nmOf (c::r)),[vlOf (c::r)])]⟩)≤_
  split
  ·have:=onLast_W r s.op
   unfold psW
   rw [List.length_cons]
   show dW s.dn+oW (onLast r s.op)≤_
   omega
  ·have:=vl_len (c::r)
   unfold psW oW
   show dW s.dn+((s.op++[(mk (nmOf (c::r)),[vlOf (c::r)])]).map fun f=>(joinL [10] f.2).length).sum≤_
   rw [List.map_append,List.sum_append,List.map_singleton,List.sum_singleton]
   show dW s.dn+(_+(vlOf (c::r)).length)≤_
   omega
theorem rnS_W:∀(ls:List (List Nat)) (s:PS),psW (rnS s ls)≤psW s+(ls.map List.length).sum
 | [],s=>Nat.le_add_right _ _
 | l::r,s=>by
  have h1:=rnS_W r (lnS s l)
  have h2:=lnS_W s l
  rw [List.map_cons,List.sum_cons]
  show psW (rnS (lnS s l) r)≤_
  omega
theorem cut_lens (c:Nat) (t:List Nat):((cutBy c t).map List.length).sum≤t.length:=by
 have h:=tot6_cut c t
 have hne:=cutBy_ne c t
 have key:∀L:List (List Nat),tot6 1 L=(L.map List.length).sum+L.length:=by
  intro L
  induction L with
  | nil=>rfl
  | cons p r ih=>rw [tot6_cons,ih,List.map_cons,List.sum_cons,List.length_cons];omega
 rw [key] at h
 have:=List.length_pos_iff.2 hne
 omega
theorem stL_W (t:List Nat):dW (stL t)≤t.length:=by
 unfold stL
 split
 ·have h1:=rnS_W (cutBy 10 t) ps0
  have h2:=cut_lens 10 t
  have h3:=fin_W (rnS ps0 (cutBy 10 t))
  have h4:psW ps0=0:=rfl
  have h5:dW (rnS ps0 (cutBy 10 t)).fin.dn≤psW (rnS ps0 (cutBy 10 t)).fin:=Nat.le_add_right _ _
  omega
 ·exact Nat.zero_le _
theorem le_sum {l:List Nat} {a:Nat} (h:a ∈ l):a≤l.sum:=by
 induction l with
 | nil=>cases h
 | cons b r ih=>
  rw [List.sum_cons]
  rcases List.mem_cons.1 h with rfl|h
  ·omega
  ·have:=ih h;omega
theorem val_dW {L:List (List Fd)} {st:List Fd} {f:Fd} (hs:st ∈ L) (hf:f ∈ st):f.v.size≤dW L:=
 Nat.le_trans (le_sum (List.mem_map.2 ⟨f,hf,rfl⟩):f.v.size≤vW st) (le_sum (List.mem_map.2 ⟨st,hs,rfl⟩))
theorem fst_size6 {N:Nat}:∀{l:List Fd} (nm:ByteArray),(∀f ∈ l,f.v.size≤N)→(fstV l nm).size≤N
 | [],_,_=>Nat.zero_le _
 | f::r,nm,h=>by
  unfold fstV
  split
  ·exact h f (by simp)
  ·exact fst_size6 nm fun g hg=>h g (by simp [hg])
theorem stE_len {t:List Nat} (h:stE t=0):t.length≤60000:=by
 rcases Nat.lt_or_ge 60000 t.length with hl|hl
 ·unfold stE at h;rw [if_pos hl] at h;exact absurd h (by decide)
 ·exact hl
end Go.Proofs.YtboinnjncaehkaaGreatDoor
namespace Go.Proofs.YtboinnjncaehkaaGreatDoor
open Go.RowKit Go.Sort
theorem grow_tag {T:Nat→Prop} {w:World} {base:Nat} {e:TypeId} {v:Value} {l:List Hr} (h:Grow rdHr 8 T w base e v l):Grow rdHr 8 (fun b=>v.ownBlock≠some b) w base e v l:=by
 obtain ⟨css,hl,ho,hE⟩:=h
 refine ⟨css,hl,ho,fun k hk=>?_⟩
 obtain ⟨cs,h1,h2⟩:=hE k hk
 exact ⟨cs,h1,rdHr_good.more h2 fun b hb=>⟨hb.2.2,hb.2⟩⟩
set_option maxHeartbeats 4000000 in
theorem srt7_perm {T:Nat→Prop} {base:Nat} {e:TypeId} (v:Value) (l:List Hr) (w:World) (hG:Grow rdHr 8 T w base e v l) (hne:l≠[]) (hT:∀b,T b→v.ownBlock≠some b) (hl:l.length≤200) :
  Calls Tryz.prog 34 #[v,.func (.func 35) #[] #[]] w fun e' w'=>e'=.returned (.tuple #[])∧(∃l',Grow rdHr 8 T w' base e v l'∧l'.length=l.length∧SrtN l'∧l'.Perm l)∧Below base w w':=by
 have eg:∀args w,(callFunc 35 args).run Tryz.prog w=.ok (.enter 35 args) w:=fun _ _=>by kernel_rfl
 obtain ⟨gb,cap,d,rfl,g1,g2,g3,R,g4⟩:=own_row hG hne
 have hdl:d.length=l.length:=by rw [←g3,List.length_map]
 have hC:=cl_any gb d.toArray.size w
 have hs:d.toArray.size=l.length:=by simp [hdl]
 have h:=Tryz.slices_SortFunc 8 Tryz.isAgg36 Tryz.sizeOf36 HrV.cs R.hk R.h1 cfN swo_n 35 #[] gb 0 cap d.toArray w eg hC R.hH R.hblk (by omega)
 rw [hs] at h
 refine h.mono ?_
 rintro e' w' ⟨rfl,d',n,os,hp,hso,rfl⟩
 have hsz:d'.size=d.toArray.size:=hp.1
 have hZl:d'.toList.length=d.length:=by rw [Array.length_toList,hsz];simp
 have hperm:d'.toList.Perm d:=by
  have q:=hp.2.2
  rw [Array.toList_extract,Array.toList_extract] at q
  simp only [List.extract_eq_take_drop,List.drop_zero,Nat.sub_zero] at q
  rw [List.take_of_length_le (by rw [Array.length_toList,hsz,hs];exact Nat.le_refl _),List.take_of_length_le (by simp [hdl])] at q
  simpa using q
 have S:SWK HrV.cs 8 w gb 0 d'.toList.toArray (sortWorldK HrV.cs 8 w gb 0 n d' os):=⟨n,os,by simp⟩
 refine ⟨rfl,⟨d'.toList.map (·.x),own_sorted hG (fun b hb he=>hT b hb (congrArg some he)) g3 R g4 hZl (fun r hr=>hperm.mem_iff.1 hr) S,by rw [List.length_map,hZl,hdl],?_,(hperm.map _).trans (by rw [g3])⟩,swk_below S g1 g2⟩
 ·refine List.pairwise_map.2 (List.pairwise_iff_getElem.2 fun i j hi hj hij=>?_)
  have q:=hso i j (Nat.zero_le _) hij (by rw [Array.length_toList,hsz,hs] at hj;exact hj)
  rw [Array.length_toList] at hi hj
  rw [getElem!_pos d' j hj,getElem!_pos d' i hi,lt_n] at q
  simpa using q
def PQ (cl out:List Hr):Prop:=(∀x,x ∈ out↔x ∈ cl)∧Ris (out.map fun x=>x.e.n)∧(cl.map fun x=>x.e.n).Nodup
theorem pq_nil:PQ [] []:=⟨fun _=>Iff.rfl,List.Pairwise.nil,List.Pairwise.nil⟩
theorem pq_fd {cl out:List Hr} (h:PQ cl out) (n:ByteArray):(fdH out n).isSome=(fdH cl n).isSome:=by
 cases q:fdH cl n with
 | none=>
  rw [fd_none.2 fun x hx=>fd_none.1 q x ((h.1 x).1 hx)]
 | some x=>
  obtain ⟨a,b⟩:=fd_some q
  cases q2:fdH out n with
  | none=>exact absurd b (fd_none.1 q2 x ((h.1 x).2 a))
  | some y=>rfl
theorem pq_in {cl out:List Hr} {x:Hr} (h:PQ cl out) (hx:fdH cl x.e.n=none):PQ (cl++[x]) (wiH out x):=by
 have hn:∀y ∈ out,y.e.n≠x.e.n:=fun y hy=>fd_none.1 hx y ((h.1 y).1 hy)
 have e:wiH out x=inH out x:=by
  unfold wiH woH
  rw [List.filter_eq_self.2 fun y hy=>by simpa using hn y hy]
 rw [e]
 refine ⟨fun y=>?_,right_in hn h.2.1,?_⟩
 ·rw [mem_inH,h.1,List.mem_append,List.mem_singleton,or_comm]
 ·rw [List.map_append,List.nodup_append]
  refine ⟨h.2.2,by simp,fun a ha b hb=>?_⟩
  obtain ⟨y,hy,rfl⟩:=List.mem_map.1 ha
  simp only [List.map_cons,List.map_nil,List.mem_singleton] at hb
  rw [hb]
  exact fd_none.1 hx y hy
theorem hr_ext:∀{a b:List Hr},Ris (a.map fun x=>x.e.n)→Ris (b.map fun x=>x.e.n)→(∀x,x ∈ a↔x ∈ b)→a=b
 | [],[],_,_,_=>rfl
 | [],y::b,_,_,h=>absurd ((h y).2 (List.mem_cons_self ..)) (List.not_mem_nil)
 | x::a,[],_,_,h=>absurd ((h x).1 (List.mem_cons_self ..)) (List.not_mem_nil)
 | x::a,y::b,ha,hb,h=>by
  obtain ⟨ha1,ha2⟩:=List.pairwise_cons.1 ha
  obtain ⟨hb1,hb2⟩:=List.pairwise_cons.1 hb
  have ma:∀z ∈ a,blt x.e.n z.e.n:=fun z hz=>ha1 _ (List.mem_map.2 ⟨z,hz,rfl⟩)
  have mb:∀z ∈ b,blt y.e.n z.e.n:=fun z hz=>hb1 _ (List.mem_map.2 ⟨z,hz,rfl⟩)
  have e:x=y:=by
   rcases List.mem_cons.1 ((h x).1 (List.mem_cons_self ..)) with e|hx
   ·exact e
   ·rcases List.mem_cons.1 ((h y).2 (List.mem_cons_self ..)) with e|hy
    ·exact e.symm
    ·exact absurd (mb x hx) (fun q=>blt_asym q (ma y hy))
  subst e
  rw [hr_ext ha2 hb2 fun z=>?_]
  constructor
  ·intro hz
   rcases List.mem_cons.1 ((h z).1 (List.mem_cons_of_mem _ hz)) with rfl|hz'
   ·exact absurd (ma z hz) (blt_self z.e.n)
   ·exact hz'
  ·intro hz
   rcases List.mem_cons.1 ((h z).2 (List.mem_cons_of_mem _ hz)) with rfl|hz'
   ·exact absurd (mb z hz) (blt_self z.e.n)
   ·exact hz'
theorem pq_end {cl out l':List Hr} (h:PQ cl out) (hp:l'.Perm cl) (hs:SrtN l'):l'=out:=by
 have hd:(l'.map fun x=>x.e.n).Nodup:=(hp.map _).nodup_iff.2 h.2.2
 refine hr_ext ?_ h.2.1 fun x=>(hp.mem_iff).trans (h.1 x).symm
 refine List.pairwise_map.2 (List.Pairwise.imp₂ (fun a b h1 h2=>?_) hs (List.pairwise_map.1 hd))
 exact blt_of_not h1 h2
theorem goH_rd7 {L:List (List Fd)} {k:Nat} (hk:k < L.length) (out:List Hr) :
  goH rdP (L.drop k) k out=if (rd7 L[k]).1≠0 then ([],(k:Int)+1,(rd7 L[k]).1) else if (fdH out (rd7 L[k]).2.e.n).isSome=true then ([],(k:Int)+1,7) else goH rdP (L.drop (k+1)) (k+1) (wiH out (rd7 L[k]).2):=by
 rw [goH_at hk]
 unfold rd7
 by_cases h1:(rdP L[k]).1≠0
 ·simp only [if_pos h1]
 ·simp only [if_neg h1]
  unfold mkN orE
  cases mkO L[k] nAu<;>cases mkO L[k] nHo<;>simp
set_option maxHeartbeats 4000000 in
theorem parse7_any (s:ByteArray) (w:World) (E:EnvR w):Calls Tryz.prog 10 #[.string s] w (PaR w (paD rdP (B s))):=by
 have HE:=Lib.hid E
 have KP:=Lib.hid (parse5_any s w E.five)
 have X:=Lib.hid (show paD rdP (B s)=if stE (B s)≠0 then (([]:List Hr),((stN (B s):Nat):Int),stE (B s)) else if 64 < (stL (B s)).length then (([]:List Hr),(0:Int),(8:Int)) else goH rdP (stL (B s)) 0 [] from rfl)
 have HV:=Lib.hid (fun (h:stE (B s)=0) st (hs:st ∈ stL (B s)) nm=>(show (fstV st nm).size≤65536 from fst_size6 nm fun f hf=>Nat.le_trans (val_dW hs hf) (Nat.le_trans (stL_W _) (Nat.le_trans (stE_len h) (by decide)))))
 obtain ⟨fi,hi,hz0,hz1,hz2⟩:=info_parts here_info
 clear E
 generalize paD rdP (B s)=R at *
 generalize stE (B s)=er at *
 generalize stN (B s)=ln at *
 generalize stL (B s)=L at *
 by_cases h0:er≠0
 ·have X1:=Lib.hid (show R=([],(ln:Int),er) from X.out.trans (if_pos h0))
  have t0:(er != 0)=true:=by rw [bne_iff_ne];exact h0
  clear h0 X
  go_enter Tryz.func10,Tryz.ntmps10
  go_wp2_with fail
  refine KP.out.mono ?_
  rintro e w1 ⟨⟨A,n,c,rfl,hr⟩,hb⟩
  have HB:=Lib.hid hb
  clear hr hb
  go_wp2
  go_ret3
  exact ⟨⟨none,0,0,by rw [X1.out];try rfl,by rw [X1.out];exact rdRow_nil _ _⟩,HB.out⟩
 have t0:(er != 0)=false:=by rw [bne_eq_false_iff_eq];exact Decidable.not_not.1 h0
 have HV:=Lib.hid (HV.out (Decidable.not_not.1 h0))
 have X:=Lib.hid (X.out.trans (if_neg h0))
 by_cases h64:64 < L.length
 ·have X1:=Lib.hid (show R=([],0,8) from X.out.trans (if_pos h64))
  have i8:(64:Int) < (L.length:Int):=by omega
  clear h0 h64 X
  go_enter Tryz.func10,Tryz.ntmps10
  go_wp2_with fail
  refine KP.out.mono ?_
  rintro e w1 ⟨⟨A,n,c,rfl,hr⟩,hb⟩
  obtain ⟨rfl,-,hcm,-⟩:=rdStzs_at hr
  have HB:=Lib.hid hb
  clear hr hb hcm
  go_wp2
  go_ret3
  exact ⟨⟨none,0,0,by rw [X1.out];try rfl,by rw [X1.out];exact rdRow_nil _ _⟩,HB.out⟩
 have X:=Lib.hid (X.out.trans (if_neg h64))
 have i8:¬(64:Int) < (L.length:Int):=by omega
 have H64:=Lib.hid (show L.length≤64 by omega)
 clear h0 h64
 go_enter Tryz.func10,Tryz.ntmps10
 go_wp2_with fail
 refine KP.out.mono ?_
 rintro e w1 ⟨⟨A,n,c,rfl,hr⟩,hb⟩
 obtain ⟨rfl,hnc,hcm,-⟩:=rdStzs_at hr
 have hcm':c≤9223372036854775807:=hcm
 have B1:=Lib.hid hb
 have HL:=Lib.hid hr
 clear hr hb hcm KP
 go_wp2
 go_loopg [8,28] L.length (fun kx u8 u28 wr=>∃(k:Nat) (cl out:List Hr),u28=.int .i64 k∧k≤L.length∧L.length - k≤kx∧Hid (cl.length=k)∧Hid (R=goH rdP (L.drop k) k out)∧Hid (PQ cl out)∧Hid (Grow rdHr 8 (fun _=>True) wr w1.heap.size 36 u8 cl)∧Hid (Below w1.heap.size w1 wr))
 case atStart=>exact ⟨0,[],[],rfl,Nat.zero_le _,Nat.le_refl _,Lib.hid rfl,Lib.hid X.out,Lib.hid pq_nil,Lib.hid (Grow.nil _ _ _ _),Lib.hid (Below.refl _ _)⟩
 case round=>
  obtain ⟨k,cl,out,rfl,hk,hkx,HO,HR,HP,HG,HB1⟩:=hrel
  have HB:=Lib.hid (B1.out.trans (HB1.out.mono B1.out.size))
  by_cases hlt:k < L.length
  ·obtain ⟨-,-,-,hat⟩:=rdStzs_at (rdStzs_good.up (rdStzs_good.below HL.out HB1.out) HB1.out.size)
   obtain ⟨ad,A',c',rfl,-,h0,h1⟩:=hat k hlt
   have i0:(0:Int)≤(k:Int):=by omega
   have i1:(k:Int) < (L.length:Int):=by omega
   have hk64:=H64.out
   have i2:(k:Int)≤64:=by omega
   have GA:=Lib.hid (HR.out.trans (goH_rd7 hlt out))
   have KR:=Lib.hid (read7_any A' L[k].length c' L[k] wr h1 (HV.out _ (List.getElem_mem hlt)) (HE.out.below HB.out))
   clear hat h1
   generalize L[k]=st at *
   generalize hsx:rd7 st=sx at *
   obtain ⟨er2,⟨xn,xv,xd,xr,xc,xp⟩,xa,xh⟩:=sx
   clear hsx
   simp only at GA
   go_wp2_with fail
   refine KR.out.mono ?_
   rintro e w2 ⟨⟨A1,c1,A2,c2,A3,c3,A4,c4,rfl,hv⟩,hb⟩
   simp only at hv
   have V2:=Lib.hid hb
   have HX:=Lib.hid hv
   clear hb hv h0 KR
   go_upto_region 11 with (fail)
   obtain ⟨U,hU⟩:∃U,U=w2.alloc (.cells #[.string xn,.string xv,.slice A1 xd.length c1,.slice A2 xr.length c2,.slice A3 xc.length c3,.slice A4 xp.length c4,.bool xa,.bool xh] 36):=⟨_,rfl⟩
   rw [←hU]
   have U2:=Lib.hid (show Below w2.heap.size w2 U by rw [hU];exact (Below.refl _ _).alloc (Nat.le_refl _) _)
   have SU:=Lib.hid (show w2.heap.size < U.heap.size by rw [hU,World.size_alloc];omega)
   have VU:=Lib.hid (bel_in V2.out U2.out)
   have EC:=Lib.hid (show ∀j u,([.string xn,.string xv,.slice A1 xd.length c1,.slice A2 xr.length c2,.slice A3 xc.length c3,.slice A4 xp.length c4,.bool xa,.bool xh]:List Value)[j]?=some u→U.cell? ⟨w2.heap.size,j,none⟩=some u from fun j u hu=>by
    rw [hU]
    refine (cell_of_row _ _ j _ _ (0,0) (heap_alloc_new w2 _)).trans ?_
    rw [←hu];simp)
   clear hU
   by_cases hz:er2≠0
   ·have X1:=Lib.hid (show R=([],(k:Int)+1,er2) from GA.out.trans (if_pos hz))
    have t1:(er2==0)=false:=by rw [beq_eq_false_iff_ne];exact hz
    have t2:(er2 != 0)=true:=by rw [bne_iff_ne];exact hz
    have HB:=Lib.hid (HB.out.trans (VU.out.mono HB.out.size))
    clear hz GA
    go_wp2
    go_ret3
    exact ⟨⟨none,0,0,by rw [X1.out];try rfl,by rw [X1.out];exact rdRow_nil _ _⟩,HB.out⟩
   have GA:=Lib.hid (GA.out.trans (if_neg hz))
   obtain rfl:er2=0:=Decidable.not_not.1 hz
   clear hz
   have c0':=EC.out 0 _ rfl
   have c1':=EC.out 1 _ rfl
   have c2':=EC.out 2 _ rfl
   have c3':=EC.out 3 _ rfl
   have c4':=EC.out 4 _ rfl
   have c5':=EC.out 5 _ rfl
   have c6':=EC.out 6 _ rfl
   have c7':=EC.out 7 _ rfl
   have KN:=Lib.hid (name_any ⟨⟨⟨xn,xv,xd,xr,xc,xp⟩,xa,xh⟩,A1,c1,A2,c2,A3,c3,A4,c4⟩ U)
   unfold HrV.cs at KN
   simp only at KN
   go_wp2_with fail
   refine KN.out.mono ?_
   rintro e w3 ⟨rfl,hg3⟩
   have U3:=Lib.hid hg3.below
   have V3:=Lib.hid (bel_in VU.out U3.out)
   clear hg3 KN c0' c1' c2' c3' c4' c5' c6' c7'
   have G3:=Lib.hid (HG.out.below rdHr_good V3.out)
   obtain ⟨Au,cu,hu,hnu,hmu⟩:=HG.out.own
   have KL:=Lib.hid (by have:=placeh_any Au cl.length cu cl xn w3 (by have:=G3.out.read rdHr_good;rw [hu] at this;exact this);rw [←hu] at this;exact this)
   clear hu hnu hmu
   rcases fd_ix (l:=cl) (nm:=xn) with ⟨e1,e2⟩|⟨k',hk',e1,-,-,e2⟩
   ·rw [e2] at KL
    have NX:=Lib.hid (show R=goH rdP (L.drop (k+1)) (k+1) (wiH out ⟨⟨xn,xv,xd,xr,xc,xp⟩,xa,xh⟩) by have q:=GA.out;rw [pq_fd HP.out xn,e1] at q;exact q.trans (if_neg (by decide)))
    have PX:=Lib.hid (pq_in (x:=⟨⟨xn,xv,xd,xr,xc,xp⟩,xa,xh⟩) HP.out e1)
    clear e1 e2 GA
    go_wp2_with fail
    refine KL.out.mono ?_
    rintro e w4 ⟨rfl,hb⟩
    have U4:=Lib.hid (bel_in U3.out hb)
    have V4:=Lib.hid (bel_in V3.out hb)
    have W4:=Lib.hid (show Below w1.heap.size w1 w4 from HB1.out.trans (V4.out.mono HB1.out.size))
    have G4:=Lib.hid (HG.out.below rdHr_good V4.out)
    clear hb KL
    have c0':=keep6 U4.out (EC.out 0 _ rfl)
    have c1':=keep6 U4.out (EC.out 1 _ rfl)
    have c2':=keep6 U4.out (EC.out 2 _ rfl)
    have c3':=keep6 U4.out (EC.out 3 _ rfl)
    have c4':=keep6 U4.out (EC.out 4 _ rfl)
    have c5':=keep6 U4.out (EC.out 5 _ rfl)
    have c6':=keep6 U4.out (EC.out 6 _ rfl)
    have c7':=keep6 U4.out (EC.out 7 _ rfl)
    have hE:=EntV.hr (x:=⟨⟨xn,xv,xd,xr,xc,xp⟩,xa,xh⟩) (HX.out.to (wr:=w4) (S':=fun b=>True∧b < w4.heap.size∧u8.ownBlock≠some b) (fun b hb=>(U4.out.block b (by have:=hb.2;have:=SU.out;omega)).trans (U2.out.block b hb.2)) (fun b hb=>⟨trivial,by have:=hb.2;have:=SU.out;have:=U4.out.size;omega,fun hh=>by have:=(HG.out.lt b hh).2;have:=hb.1;omega⟩))
    simp only at hE
    have hn1:cl.length+1≤maxLen:=by rw [HO.out];unfold maxLen;omega
    have hn2:(cl.length+1)*136≤140737488355328:=by rw [HO.out];omega
    have hs4:w1.heap.size≤w4.heap.size:=W4.out.size
    go_wp2_with (at_builtin;refine wpList_grow1 w4 rfl _ _ 23 rfl rdHr_good (by decide) (fun _=>True) w1.heap.size 36 fi _ 136 Tryz.underlying23 hi hz0 hz1 hz2 rfl u8 _ rfl G4.out ⟨⟨xn,xv,xd,xr,xc,xp⟩,xa,xh⟩ _ 36 hE _ rfl rfl hn1 hn2 hs4 ?_)
    intro v7 w7 hG7 hg7
    have HB7:=Lib.hid (grow_below G4.out hg7 W4.out (Nat.le_refl _) hs4)
    have G7:=Lib.hid hG7
    have LN:=Lib.hid (show (cl++[(⟨⟨xn,xv,xd,xr,xc,xp⟩,xa,xh⟩:Hr)]).length=k+1 by rw [List.length_append,HO.out];rfl)
    clear hG7 hg7 hE hn1 hn2 hs4 c0' c1' c2' c3' c4' c5' c6' c7'
    go_wp2
    go_roundg (L.length - (k+1))
    case measure=>omega
    case rel=>exact ⟨k+1,_,_,by go_num,by omega,Nat.le_refl _,LN,NX,PX,G7,HB7⟩
   ·rw [e2,Nat.zero_add] at KL
    have X1:=Lib.hid (show R=([],(k:Int)+1,7) by have q:=GA.out;rw [pq_fd HP.out xn,e1] at q;first|exact q.trans (if_pos rfl)|exact q.trans ((if_neg (by decide)).trans (if_pos rfl)))
    have j0:(0:Int)≤(k':Int):=by omega
    clear e1 e2 GA hk'
    go_wp2_with fail
    refine KL.out.mono ?_
    rintro e w4 ⟨rfl,hb⟩
    have HB:=Lib.hid (HB.out.trans ((bel_in V3.out hb).mono HB.out.size))
    clear hb KL
    go_wp2
    go_ret3
    exact ⟨⟨none,0,0,by rw [X1.out];try rfl,by rw [X1.out];exact rdRow_nil _ _⟩,HB.out⟩
  ·obtain rfl:k=L.length:=by omega
   have X1:=Lib.hid (show R=(out,0,0) from HR.out.trans (by rw [List.drop_length];rfl))
   clear HR
   by_cases hcl:cl=[]
   ·subst hcl
    have EO:=Lib.hid (show out=[] from List.eq_nil_iff_forall_not_mem.2 fun x hx=>absurd ((HP.out.1 x).1 hx) List.not_mem_nil)
    obtain ⟨Au,cu,rfl,hnu,hmu⟩:=HG.out.own
    have hmu':cu≤9223372036854775807:=hmu
    have RDD:=Lib.hid (HG.out.read rdHr_good)
    simp only [List.length_nil] at RDD
    have KS:=Lib.hid (srt7_nil Au cu (.func (.func 35) #[] #[]) wr)
    clear HG hnu hmu
    go_wp2_with fail
    refine KS.out.mono ?_
    rintro e w5 ⟨rfl,rfl⟩
    go_wp2
    go_ret3
    exact ⟨⟨_,_,_,by rw [X1.out];try rfl,by rw [X1.out,EO.out];exact RDD.out⟩,HB.out⟩
   ·have KS:=Lib.hid (srt7_perm u8 cl wr (grow_tag HG.out) hcl (fun b hb=>hb) (by rw [HO.out];have:=H64.out;omega))
    clear hcl
    go_wp2_with fail
    refine KS.out.mono ?_
    rintro e w5 ⟨rfl,⟨l',hG5,hl5,hs5,hp5⟩,hb5⟩
    have EO:=Lib.hid (pq_end HP.out hp5 hs5)
    obtain ⟨Au,cu,rfl,-,-⟩:=hG5.own
    have RDD:=Lib.hid (hG5.read rdHr_good)
    have B5:=Lib.hid (HB.out.trans (hb5.mono B1.out.size))
    clear hG5 hl5 hs5 hp5 hb5 KS HG
    go_wp2
    go_ret3
    exact ⟨⟨_,_,_,by rw [X1.out];try rfl,by rw [X1.out,←EO.out];exact RDD.out⟩,B5.out⟩
end Go.Proofs.YtboinnjncaehkaaGreatDoor
namespace Go.Proofs.YtboinnjncaehkaaGreatDoor
def strTab {H:Type} (zs:List (List UInt8)):DataW H:=.agg (zs.map fun z=>.lit (.string z))
theorem cells_of_strs {H:Type} {enc:TypeId × Value→H} {P:Program} {w:World} {base:Nat} {sp:Nat→Bool} {held:Bool} {fuel:Nat} {t e:TypeId} {n:Nat} {cs:List Value} {zs:List (List UInt8)} {p:List MemPlace}
  (ht:P.underlying t=some (.array n e)) (he:P.underlying e=some .string) (hce:P.cellsOf e=1) (hct:P.cellsOf t=n)
  (h:DataW.trod enc P w base sp held fuel t cs=some (strTab zs,p)):cs=zs.map fun z=>Value.string ⟨z.toArray⟩:=by
 cases fuel with
 | zero=>simp [DataW.trod] at h
 | succ fuel=>
  simp only [DataW.trod,ht,hce,hct,Nat.mul_one] at h
  split at h
  ·rename_i hl
   obtain ⟨xs,hm,hx⟩:=Option.map_eq_some_iff.1 h
   have hxs:xs.map (·.1)=zs.map fun z=>(DataW.lit (.string z):DataW H):=by
    have:=congrArg Prod.fst hx
    simpa [strTab] using this
   have hxl:xs.length=n:=by simpa using Lib.mapM_length hm
   have hzl:zs.length=n:=by
    have:=congrArg List.length hxs
    simp at this
    omega
   apply List.ext_getElem?
   intro i
   by_cases hi:i < n
   ·obtain ⟨b,hb,hf⟩:=Lib.mapM_at hm i i (by simp [hi])
    obtain ⟨z,hc,rfl,_⟩:=DataW.trod_string he hf
    have h1:cs[i]?=some (.string z):=by
     have:=congrArg (·[0]?) hc
     simpa [List.getElem?_take,List.getElem?_drop] using this
    have h2:(xs.map (·.1))[i]?=some (DataW.lit (.string z.data.toList):DataW H):=by simp [hb]
    rw [hxs] at h2
    simp only [List.getElem?_map,Option.map_eq_some_iff,DataW.lit.injEq,Lit.string.injEq] at h2
    obtain ⟨z',hz',e'⟩:=h2
    rw [h1,List.getElem?_map,hz',e']
    rfl
   ·rw [List.getElem?_eq_none (by omega),List.getElem?_eq_none (by simp;omega)]
  ·cases h
theorem strs_of_head {P:Program} {W:World} {name:String} {zs:List (List UInt8)} {rest:List (String × DataW Unit)} {g:Nat} {t e:TypeId} {n:Nat}
  (hg:P.globalNamed name=some g) (hty:(P.globals[g]?).map (·.type)=some t) (ht:P.underlying t=some (.array n e)) (he:P.underlying e=some .string) (hce:P.cellsOf e=1) (hct:P.cellsOf t=n)
  (h:laidMet P ((name,strTab zs)::rest) W) (i:Nat) (z:List UInt8) (hi:zs[i]?=some z):W.cell? ⟨g,i,none⟩=some (.string ⟨z.toArray⟩):=by
 obtain ⟨ps,⟨g',t',cs,fuel,p,q,hg',ht',hvar,hd,_,_⟩,_⟩:=h
 obtain rfl:=Option.some.inj (hg.symm.trans hg')
 obtain rfl:=Option.some.inj (hty.symm.trans ht')
 have hz:W.var? P name=some (zs.map fun z=>Value.string ⟨z.toArray⟩).toArray:=by
  rw [hvar,←cells_of_strs ht he hce hct hd]
 have:=World.var?_cell hg hz i
 simpa [hi] using this
end Go.Proofs.YtboinnjncaehkaaGreatDoor
namespace Go.Proofs.YtboinnjncaehkaaGreatDoor
open Go.RowKit Go.WideShapes Go.ChangeShapes Go.ChangeAt
section
variable {H:Type} {enc:TypeId × Value→H} {P:Program}
end
theorem laid_out:laidOutB Tryz.prog=true:=by kernel_rfl
section
variable {H:Type} {enc:TypeId × Value→H} {P:Program}
theorem trodAll_below {W W':World} (hl:laidOutB P=true) (hb:Below W.heap.size W W'):∀{ts:List TypeId} {vs:List Value} {ds:List (DataW H)} {ps:List MemPlace},(∀t ∈ ts,P.readableRec t=true∧t < P.types.size)→
  DataW.TrodAll enc P W 0 (fun _=>true) true ts vs ds ps→(∀x ∈ ps,x.block < W.heap.size)→DataW.TrodAll enc P W' 0 (fun b=>decide (b < W.heap.size)) true ts vs ds ps
 | [],[],[],_,_,h,_=>h
 | t::ts,v::vs,d::ds,ps,hts,h,hlt=>by
  obtain ⟨p,q,h1,h2,rfl⟩:=h
  refine ⟨p,q,Below.trod hl (hts t (by simp)).1 (hts t (by simp)).2 h1 hb (fun x hx=>hlt x (by simp [hx])),trodAll_below hl hb (fun t ht=>hts t (by simp [ht])) h2 (fun x hx=>hlt x (by simp [hx])),rfl⟩
 | [],[],_::_,_,_,h,_=>h.elim
 | [],_::_,_,_,_,h,_=>h.elim
 | _::_,[],_,_,_,h,_=>h.elim
 | _::_,_::_,[],_,_,h,_=>h.elim
theorem law_post {f:Func} {s:ChangeSpec} {W W':World} {args:Array Value} {ds gs:List (DataW H)} {before:List MemPlace} {b:TypeId} {apart:Bool}
  (hW:DataW.Whole enc P f.params.toList s.vars apart W args.toList ds gs before) (hv:s.vars=[])
  (h1:(s.fn H ds).results=[.lit (.bool true)]) (h2:(s.fn H ds).args=ds) (h3:(s.fn H ds).vars=[])
  (hrt:f.resultTypes=#[b]) (hbool:P.underlying b=some .bool) (hl:laidOutB P=true) (hts:∀t ∈ f.params.toList,P.readableRec t=true∧t < P.types.size)
  (hb:Below W.heap.size W W'):s.post enc P f apart true false false W args (.bool true) W':=by
 have hW':=hW
 have hlt0:=hW.lt
 obtain ⟨p,q,hA,hV,rfl,hz,hn⟩:=hW
 rw [hv] at hV
 obtain ⟨rfl,rfl⟩:=trodVars_none hV
 refine ⟨ds,[],p++[],[],p,[],hW',?_,?_,?_,hb.frame _,fun h=>by cases h⟩
 ·rw [List.append_nil,h1,hrt]
  exact trodAll_cons_mk (shut_bool hbool _) trodAll_mk0
 ·rw [List.append_nil,h2]
  exact trodAll_below hl hb hts hA (fun x hx=>hlt0 x (by simp [hx]))
 ·rw [hv,List.append_nil,h3];rfl
end
end Go.Proofs.YtboinnjncaehkaaGreatDoor
