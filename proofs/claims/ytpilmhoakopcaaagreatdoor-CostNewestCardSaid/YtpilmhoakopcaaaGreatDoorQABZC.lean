/- What the laws rest on: CmpP, RefRight, RefPrint, RefParse0, RefParse, RefCmpV, RefOrder, OrderP, E6m, E6c, E6d, E6e, RelP, DepP, E6f, Deep4, Deep3, E6k, E7c, E9p, E9q, P6t, P6e0, E9r, E10a, E10e, E10b, E7d. -/
import Derived.Deep.RegionHeld3
import Derived.RegionTactic
import Derived.Laws.OwnMore
import Derived.Test.YtpilmhoakopcaaaGreatDoorQAAZC
set_option maxRecDepth 100000
set_option linter.unusedVariables false
set_option linter.unusedSimpArgs false
namespace Go.Proofs.YtpilmhoakopcaaaGreatDoor
open Go.RowKit
theorem sgn_neg (n:Int):sgn (-n)=-sgn n:=by unfold sgn;split<;>split<;>(try split)<;>(try split)<;>omega
theorem sgn_is (n:Int):(n < 0∧sgn n=-1)∨(n=0∧sgn n=0)∨(0 < n∧sgn n=1):=by unfold sgn;split<;>(try split)<;>omega
theorem lexL_is:∀a b,lexL a b=-1∨lexL a b=0∨lexL a b=1
 | [],[]=>by simp [lexL]
 | [],_::_=>by simp [lexL]
 | _::_,[]=>by simp [lexL]
 | x::a,y::b=>by have:=lexL_is a b;simp only [lexL];split<;>(try split)<;>omega
theorem lexL_neg:∀a b,lexL b a=-lexL a b
 | [],[]=>by simp [lexL]
 | [],_::_=>by simp [lexL]
 | _::_,[]=>by simp [lexL]
 | x::a,y::b=>by have:=lexL_neg a b;simp only [lexL];split<;>split<;>(try split)<;>(try split)<;>omega
theorem lexL_tr:∀a b c,lexL a b≤0→lexL b c≤0→lexL a c≤0∧(lexL a b < 0∨lexL b c < 0→lexL a c < 0)
 | [],[],[]=>by simp [lexL]
 | [],[],_::_=>by simp [lexL]
 | [],_::_,[]=>by simp [lexL]
 | [],_::_,_::_=>by simp [lexL]
 | _::_,[],_=>by simp [lexL]
 | _::_,_::_,[]=>by simp [lexL]
 | x::a,y::b,z::c=>by
  have h:=lexL_tr a b c
  simp only [lexL]
  by_cases h1:x < y
  ·by_cases h3:y < z
   ·rw [if_pos h1,if_pos h3,if_pos (by omega)];intro _ _;omega
   ·by_cases h4:z < y
    ·rw [if_neg h3,if_pos h4];intro _ hh;omega
    ·rw [if_pos h1,if_pos (show x < z by omega)];intro _ _;omega
  ·by_cases h2:y < x
   ·rw [if_neg h1,if_pos h2];intro hh;omega
   ·by_cases h3:y < z
    ·rw [if_pos h3,if_pos (show x < z by omega)];intro _ _;omega
    ·by_cases h4:z < y
     ·rw [if_neg h3,if_pos h4];intro _ hh;omega
     ·rw [if_neg h1,if_neg h2,if_neg h3,if_neg h4,if_neg (by omega),if_neg (by omega)];exact h
theorem numC_is (a b:List Nat):numC a b=-1∨numC a b=0∨numC a b=1:=by
 have h:=lexL_is a b
 have h2:=sgn_is ((a.length:Int) - b.length)
 unfold numC;split<;>omega
theorem numC_neg (a b:List Nat):numC b a=-numC a b:=by
 have h:=lexL_neg a b
 have h2:=sgn_neg ((a.length:Int) - b.length)
 have e:-((a.length:Int) - b.length)=(b.length:Int) - a.length:=by omega
 rw [e] at h2
 unfold numC
 by_cases hl:a.length=b.length
 ·rw [if_neg (by omega),if_neg (by omega)];exact h
 ·rw [if_pos (by omega),if_pos hl];exact h2
theorem numC_tr (a b c:List Nat):numC a b≤0→numC b c≤0→numC a c≤0∧(numC a b < 0∨numC b c < 0→numC a c < 0):=by
 have h:=lexL_tr a b c
 have h1:=sgn_is ((a.length:Int) - b.length)
 have h2:=sgn_is ((b.length:Int) - c.length)
 have h3:=sgn_is ((a.length:Int) - c.length)
 unfold numC
 by_cases e1:a.length=b.length
 ·by_cases e2:b.length=c.length
  ·rw [if_neg (by omega),if_neg (by omega),if_neg (by omega)];exact h
  ·rw [if_neg (by omega),if_pos (by omega),if_pos (by omega)];intro _ _;omega
 ·by_cases e2:b.length=c.length
  ·rw [if_pos (by omega),if_neg (by omega),if_pos (by omega)];intro _ _;omega
  ·rw [if_pos e1,if_pos e2]
   intro q1 q2
   rw [if_pos (by omega)];omega
theorem wt_nonD {l:List Nat}:wt l=0↔nonD l=false:=by
 constructor
 ·intro h
  cases hn:nonD l
  ·rfl
  ·exact absurd h (wt_non hn)
 ·exact wt_end
theorem cmpS_ne {a b:List Nat} (h:wt a≠wt b):cmpS a b=sgn (wt a - wt b):=by
 have hn:(nonD a||nonD b)=true:=by
  cases ha:nonD a<;>cases hb:nonD b<;>first|rfl|skip
  exact absurd ((wt_end ha).trans (wt_end hb).symm) h
 rw [cmpS_wt hn,if_pos (by rw [Ne,sgn_zero];omega)]
theorem cmpS_eq {a b:List Nat} (h:wt a=wt b) (h0:wt a≠0):cmpS a b=cmpS (a.drop 1) (b.drop 1):=by
 have hn:(nonD a||nonD b)=true:=by
  cases ha:nonD a
  ·exact absurd (wt_end ha) h0
  ·rfl
 rw [cmpS_wt hn,if_neg (by rw [Ne,sgn_zero];omega)]
theorem cmpS_no {a b:List Nat} (h1:wt a=0) (h2:wt b=0):cmpS a b=if numC (digs a) (digs b)≠0 then numC (digs a) (digs b) else cmpS (a.drop (numD a)) (b.drop (numD b)):=by
 by_cases h:a=[]∧b=[]
 ·obtain ⟨rfl,rfl⟩:=h;rfl
 ·exact cmpS_num h (by rw [wt_nonD.1 h1,wt_nonD.1 h2];rfl)
theorem drop1_len {l:List Nat} (h:wt l≠0):(l.drop 1).length < l.length:=by
 cases l with
 | nil=>exact absurd rfl h
 | cons c l=>simp
theorem dropN_len (l:List Nat):(l.drop (numD l)).length≤l.length:=by rw [List.length_drop];omega
theorem dropN_lt {l:List Nat} (h:wt l=0) (hl:l≠[]):(l.drop (numD l)).length < l.length:=by
 have h1:=num_len (wt_nonD.1 h) hl
 have h2:=numD_le l
 rw [List.length_drop];omega
theorem cmpS_both:∀(n:Nat) (a b:List Nat),a.length+b.length≤n→(cmpS a b=-1∨cmpS a b=0∨cmpS a b=1)∧cmpS b a=-cmpS a b
 | n,a,b,hn=>by
  by_cases hw:wt a=wt b
  ·by_cases h0:wt a=0
   ·rw [cmpS_no h0 (hw ▸ h0),cmpS_no (hw ▸ h0) h0,numC_neg (digs a) (digs b)]
    have hi:=numC_is (digs a) (digs b)
    by_cases hc:numC (digs a) (digs b)=0
    ·rw [if_neg (by omega),if_neg (by omega)]
     by_cases he:a=[]∧b=[]
     ·obtain ⟨rfl,rfl⟩:=he;exact ⟨.inr (.inl rfl),rfl⟩
     ·have l1:=dropN_len a
      have l2:=dropN_len b
      have l3:(a.drop (numD a)).length+(b.drop (numD b)).length < a.length+b.length:=by
       by_cases ha:a=[]
       ·have:=dropN_lt (hw ▸ h0) (fun hb=>he ⟨ha,hb⟩);omega
       ·have:=dropN_lt h0 ha;omega
      match n with
      | 0=>omega
      | n+1=>exact cmpS_both n _ _ (by omega)
    ·rw [if_pos (by omega),if_pos (by omega)];exact ⟨hi,rfl⟩
   ·rw [cmpS_eq hw h0,cmpS_eq hw.symm (hw ▸ h0)]
    have l1:=drop1_len h0
    have l2:=drop1_len (hw ▸ h0:wt b≠0)
    match n with
    | 0=>omega
    | n+1=>exact cmpS_both n _ _ (by omega)
  ·rw [cmpS_ne hw,cmpS_ne (Ne.symm hw)]
   have h1:=sgn_is (wt a - wt b)
   have h2:=sgn_neg (wt a - wt b)
   have e:-(wt a - wt b)=wt b - wt a:=by omega
   rw [e] at h2
   exact ⟨by omega,h2⟩
theorem cmpS_neg (a b:List Nat):cmpS b a=-cmpS a b:=(cmpS_both _ a b (Nat.le_refl _)).2
theorem cmpS_trN:∀(n:Nat) (a b c:List Nat),a.length+b.length+c.length≤n→cmpS a b≤0→cmpS b c≤0→cmpS a c≤0∧(cmpS a b < 0∨cmpS b c < 0→cmpS a c < 0)
 | n,a,b,c,hn=>by
  have s1:=sgn_is (wt a - wt b)
  have s2:=sgn_is (wt b - wt c)
  have s3:=sgn_is (wt a - wt c)
  by_cases h1:wt a=wt b
  ·by_cases h2:wt b=wt c
   ·by_cases h0:wt a=0
    ·rw [cmpS_no (a:=a) (b:=b) h0 (by omega),cmpS_no (a:=b) (b:=c) (by omega) (by omega),cmpS_no (a:=a) (b:=c) h0 (by omega)]
     have hi:=numC_tr (digs a) (digs b) (digs c)
     have hj:=numC_tr (digs c) (digs b) (digs a)
     rw [numC_neg (digs b) (digs c),numC_neg (digs a) (digs b),numC_neg (digs a) (digs c)] at hj
     by_cases e1:numC (digs a) (digs b)=0
     ·by_cases e2:numC (digs b) (digs c)=0
      ·have e3:numC (digs a) (digs c)=0:=by omega
       rw [if_neg (by omega),if_neg (by omega),if_neg (by omega)]
       by_cases he:a=[]∧b=[]∧c=[]
       ·obtain ⟨rfl,rfl,rfl⟩:=he;intro _ _;exact ⟨by decide,fun h=>by rcases h with h|h<;>exact absurd h (by decide)⟩
       ·have l1:=dropN_len a
        have l2:=dropN_len b
        have l3:=dropN_len c
        have l4:(a.drop (numD a)).length+(b.drop (numD b)).length+(c.drop (numD c)).length < a.length+b.length+c.length:=by
         by_cases ha:a=[]
         ·by_cases hb:b=[]
          ·have:=dropN_lt (by omega:wt c=0) (fun hc=>he ⟨ha,hb,hc⟩);omega
          ·have:=dropN_lt (by omega:wt b=0) hb;omega
         ·have:=dropN_lt h0 ha;omega
        match n with
        | 0=>omega
        | n+1=>exact cmpS_trN n _ _ _ (by omega)
      ·rw [if_neg (by omega),if_pos e2]
       intro _ q
       rw [if_pos (by omega)];omega
     ·rw [if_pos e1]
      intro q1
      by_cases e2:numC (digs b) (digs c)=0
      ·rw [if_neg (by omega)]
       intro q2
       rw [if_pos (by omega)];omega
      ·rw [if_pos e2]
       intro q2
       rw [if_pos (by omega)];omega
    ·rw [cmpS_eq (a:=a) (b:=b) h1 h0,cmpS_eq (a:=b) (b:=c) h2 (by omega),cmpS_eq (a:=a) (b:=c) (h1.trans h2) h0]
     have l1:=drop1_len h0
     have l2:=drop1_len (by omega:wt b≠0)
     have l3:=drop1_len (by omega:wt c≠0)
     match n with
     | 0=>omega
     | n+1=>exact cmpS_trN n _ _ _ (by omega)
   ·rw [cmpS_ne h2,cmpS_ne (a:=a) (b:=c) (by omega)]
    intro _ _;omega
  ·rw [cmpS_ne h1]
   intro q1
   by_cases h2:wt b=wt c
   ·rw [cmpS_ne (a:=a) (b:=c) (by omega)]
    intro _;omega
   ·rw [cmpS_ne h2]
    intro q2
    rw [cmpS_ne (a:=a) (b:=c) (by omega)];omega
theorem cmpS_tr (a b c:List Nat):cmpS a b≤0→cmpS b c≤0→cmpS a c≤0∧(cmpS a b < 0∨cmpS b c < 0→cmpS a c < 0):=cmpS_trN _ a b c (Nat.le_refl _)
def headD:List Nat→Bool|[]=>false|c::_=>digB c
def chB (x:List Nat) (c:Nat):Bool:=letB c||digB c||hasB x c
def uX:List Nat:=[46,43,126,45,58]
def rX:List Nat:=[46,43,126]
def rightB (e:Int) (u r:List Nat):Bool:=
 decide (0≤e∧e≤999999999)&&headD u&&!(hasB u 45&&decide (r=[]))&&!(hasB u 58&&decide (e=0))&&u.all (chB uX)&&r.all (chB rX)&&decide ((textL e.toNat u r).length≤60)
theorem headD_at (s:ByteArray) (h:0 < s.size):headD (B s)=digB s[0].toNat:=by
 have:=B_drop s 0 h
 rw [List.drop_zero] at this
 rw [this];rfl
def printL (e:Int) (u r:List Nat):List Nat:=if rightB e u r=true then textL e.toNat u r else []
theorem rightB_epoch {e:Int} {u r:List Nat} (h:rightB e u r=true):0≤e∧e≤999999999:=by
 unfold rightB at h
 simp only [Bool.and_eq_true] at h
 exact of_decide_eq_true h.1.1.1.1.1.1
theorem box_cells {w w1:World} {T:TypeId} {x y z:Value} (h:Below (w.alloc (.cells #[x,y,z] T)).heap.size (w.alloc (.cells #[x,y,z] T)) w1) :
  w1.cell? ⟨w.heap.size,0,none⟩=some x∧w1.cell? ⟨w.heap.size,1,none⟩=some y∧w1.cell? ⟨w.heap.size,2,none⟩=some z∧w.heap.size+1≤w1.heap.size:=by
 refine ⟨(h.cell (by simp)).trans (by simp),(h.cell (by simp)).trans (by simp),(h.cell (by simp)).trans (by simp),?_⟩
 have:=h.size
 simpa using this
def firstI:List Nat→Nat→Option Nat
 | [],_=>none
 | c::l,n=>if c=58 then some n else firstI l (n+1)
def lastI (u:List Nat):Nat→Option Nat
 | 0=>none
 | n+1=>if u.getD n 0=45 then some n else lastI u n
def colE (s:List Nat):Int:=match firstI s 0 with|none=>0|some i=>numL (s.take i)
def colU (s:List Nat):List Nat:=match firstI s 0 with|none=>s|some i=>s.drop (i+1)
def dashU (u:List Nat):List Nat:=match lastI u u.length with|none=>u|some i=>u.take i
def dashR (u:List Nat):List Nat:=match lastI u u.length with|none=>[]|some i=>u.drop (i+1)
def parseB (s:List Nat):Bool:=
 rightB (colE s) (dashU (colU s)) (dashR (colU s))&&(decide (textL (colE s).toNat (dashU (colU s)) (dashR (colU s))=s)||decide (48::58::textL (colE s).toNat (dashU (colU s)) (dashR (colU s))=s))
def parseE (s:List Nat):Int:=if s.length > 60 then 9 else if parseB s then 0 else 4
def parse1 (s:List Nat):Int:=if parseE s=0 then colE s else 0
def parse2 (s:List Nat):List Nat:=if parseE s=0 then dashU (colU s) else []
def parse3 (s:List Nat):List Nat:=if parseE s=0 then dashR (colU s) else []
theorem lastI_step {s:ByteArray} {k:Nat} (hk:k < s.size):lastI (B s) (k+1)=if s[k].toNat=45 then some k else lastI (B s) k:=by
 show (if (B s).getD k 0=45 then some k else lastI (B s) k)=_
 rw [B_getD s k hk]
theorem lastI_lt {u:List Nat}:∀{n i:Nat},lastI u n=some i→i < n
 | 0,_,h=>by cases h
 | n+1,i,h=>by
  simp only [lastI] at h
  split at h
  ·injection h with h;omega
  ·have:=lastI_lt h;omega
def parseV (s:ByteArray):Value:=.tuple #[.agg #[.int .i64 (parse1 (B s)),.string (mk (parse2 (B s))),.string (mk (parse3 (B s)))],.int .i64 (parseE (B s))]
theorem parse_bad {s:ByteArray} (h:parseE (B s)≠0):parseV s=.tuple #[.agg #[.int .i64 0,.string { data:=#[] },.string { data:=#[] }],.int .i64 (parseE (B s))]:=by
 unfold parseV parse1 parse2 parse3
 rw [if_neg h,if_neg h,if_neg h];rfl
theorem fin3 {w W:World} {a b c x y z:Value} (hb:Below w.heap.size w W) (h0:W.cell? ⟨w.heap.size,0,none⟩=some a) (h1:W.cell? ⟨w.heap.size,1,none⟩=some b) (h2:W.cell? ⟨w.heap.size,2,none⟩=some c) :
  (((W.setCell ⟨w.heap.size,0,none⟩ x).setCell ⟨w.heap.size,1,none⟩ y).setCell ⟨w.heap.size,2,none⟩ z).cell? ⟨w.heap.size,0,none⟩=some x∧
  (((W.setCell ⟨w.heap.size,0,none⟩ x).setCell ⟨w.heap.size,1,none⟩ y).setCell ⟨w.heap.size,2,none⟩ z).cell? ⟨w.heap.size,1,none⟩=some y∧
  (((W.setCell ⟨w.heap.size,0,none⟩ x).setCell ⟨w.heap.size,1,none⟩ y).setCell ⟨w.heap.size,2,none⟩ z).cell? ⟨w.heap.size,2,none⟩=some z∧
  Below w.heap.size w (((W.setCell ⟨w.heap.size,0,none⟩ x).setCell ⟨w.heap.size,1,none⟩ y).setCell ⟨w.heap.size,2,none⟩ z):=
 ⟨by simp [go_sem,h0],by simp [go_sem,h1],by simp [go_sem,h2],((hb.setCell (by simp) _).setCell (by simp) _).setCell (by simp) _⟩
theorem parseE_of {s:ByteArray} (h:s.size≤60):parseE (B s)=if parseB (B s) then 0 else 4:=by unfold parseE;rw [if_neg (by rw [B_len];omega)]
theorem textL_lt (e:Nat) (u r:ByteArray):∀c ∈ textL e (B u) (B r),c < 256:=by
 intro c hc
 unfold textL at hc
 rcases List.mem_append.1 hc with hc|hc
 ·rcases List.mem_append.1 hc with hc|hc
  ·split at hc
   ·cases hc
   ·rcases List.mem_append.1 hc with hc|hc
    ·exact decL_lt e c hc
    ·rw [List.mem_singleton.1 hc];decide
  ·exact B_lt u c hc
 ·split at hc
  ·cases hc
  ·rcases List.mem_cons.1 hc with rfl|hc
   ·decide
   ·exact B_lt r c hc
theorem parse_good {s U R:ByteArray} {E:Int} (h:s.size≤60) (hE:E=colE (B s)) (hU:B U=dashU (colU (B s))) (hR:B R=dashR (colU (B s))) (hp:parseB (B s)=true):parseV s=.tuple #[.agg #[.int .i64 E,.string U,.string R],.int .i64 0]:=by
 have h0:parseE (B s)=0:=by rw [parseE_of h,hp];rfl
 unfold parseV parse1 parse2 parse3
 rw [if_pos h0,if_pos h0,if_pos h0,←hE,←hU,←hR,mk_B,mk_B,h0]
theorem parse_wrong {s:ByteArray} (h:s.size≤60) (hp:parseB (B s)=false):parseV s=.tuple #[.agg #[.int .i64 0,.string { data:=#[] },.string { data:=#[] }],.int .i64 4]:=by
 have h0:parseE (B s)=4:=by rw [parseE_of h,hp];rfl
 rw [parse_bad (by rw [h0];decide),h0]
def cmpV (e1:Int) (u1 r1:List Nat) (e2:Int) (u2 r2:List Nat):Int:=
 if e1≠e2 then (if e1 < e2 then -1 else 1) else if cmpS u1 u2≠0 then cmpS u1 u2 else cmpS r1 r2
def orderV (a b:List Nat):Int:=
 if parseE a≠0 then (if parseE b≠0 then 0 else -1) else if parseE b≠0 then 1 else cmpV (parse1 a) (parse2 a) (parse3 a) (parse1 b) (parse2 b) (parse3 b)
theorem colU_mem {s:List Nat} {c:Nat} (h:c ∈ colU s):c ∈ s:=by
 unfold colU at h
 split at h
 ·exact h
 ·exact List.mem_of_mem_drop h
theorem dashU_mem {s:List Nat} {c:Nat} (h:c ∈ dashU s):c ∈ s:=by
 unfold dashU at h
 split at h
 ·exact h
 ·exact List.mem_of_mem_take h
theorem dashR_mem {s:List Nat} {c:Nat} (h:c ∈ dashR s):c ∈ s:=by
 unfold dashR at h
 split at h
 ·cases h
 ·exact List.mem_of_mem_drop h
theorem colU_len (s:List Nat):(colU s).length≤s.length:=by
 unfold colU
 split
 ·exact Nat.le_refl _
 ·rw [List.length_drop];omega
theorem dashU_len (s:List Nat):(dashU s).length≤s.length:=by
 unfold dashU
 split
 ·exact Nat.le_refl _
 ·rw [List.length_take];omega
theorem dashR_len (s:List Nat):(dashR s).length≤s.length:=by
 unfold dashR
 split
 ·exact Nat.zero_le _
 ·rw [List.length_drop];omega
theorem parse2_lt (s:ByteArray):∀c ∈ parse2 (B s),c < 256:=by
 intro c hc
 unfold parse2 at hc
 split at hc
 ·exact B_lt s c (colU_mem (dashU_mem hc))
 ·cases hc
theorem parse3_lt (s:ByteArray):∀c ∈ parse3 (B s),c < 256:=by
 intro c hc
 unfold parse3 at hc
 split at hc
 ·exact B_lt s c (colU_mem (dashR_mem hc))
 ·cases hc
theorem parseE_len {s:List Nat} (h:parseE s=0):s.length≤60:=by
 unfold parseE at h
 split at h
 ·cases h
 ·omega
theorem parse2_len (s:List Nat):(parse2 s).length≤60:=by
 unfold parse2
 split
 ·rename_i h
  have:=parseE_len h;have:=colU_len s;have:=dashU_len (colU s);omega
 ·exact Nat.zero_le _
theorem parse3_len (s:List Nat):(parse3 s).length≤60:=by
 unfold parse3
 split
 ·rename_i h
  have:=parseE_len h;have:=colU_len s;have:=dashR_len (colU s);omega
 ·exact Nat.zero_le _
theorem cmpV_neg (e1:Int) (u1 r1:List Nat) (e2:Int) (u2 r2:List Nat):cmpV e2 u2 r2 e1 u1 r1=-cmpV e1 u1 r1 e2 u2 r2:=by
 have h1:=cmpS_neg u1 u2
 have h2:=cmpS_neg r1 r2
 unfold cmpV
 by_cases he:e1=e2
 ·subst he
  rw [if_neg (show ¬e1≠e1 by omega),if_neg (show ¬e1≠e1 by omega)]
  by_cases hu:cmpS u1 u2=0
  ·rw [if_neg (show ¬cmpS u2 u1≠0 by omega),if_neg (show ¬cmpS u1 u2≠0 by omega)];exact h2
  ·rw [if_pos (show cmpS u2 u1≠0 by omega),if_pos (show cmpS u1 u2≠0 by omega)];exact h1
 ·rw [if_pos (show e2≠e1 by omega),if_pos (show e1≠e2 by omega)]
  by_cases hl:e1 < e2
  ·rw [if_neg (show ¬e2 < e1 by omega),if_pos hl];decide
  ·rw [if_pos (show e2 < e1 by omega),if_neg hl]
theorem cmpV_tr (e1:Int) (u1 r1:List Nat) (e2:Int) (u2 r2:List Nat) (e3:Int) (u3 r3:List Nat) :
  cmpV e1 u1 r1 e2 u2 r2≤0→cmpV e2 u2 r2 e3 u3 r3≤0→cmpV e1 u1 r1 e3 u3 r3≤0∧(cmpV e1 u1 r1 e2 u2 r2 < 0∨cmpV e2 u2 r2 e3 u3 r3 < 0→cmpV e1 u1 r1 e3 u3 r3 < 0):=by
 have hu:=cmpS_tr u1 u2 u3
 have hu':=cmpS_tr u3 u2 u1
 rw [cmpS_neg u2 u3,cmpS_neg u1 u2,cmpS_neg u1 u3] at hu'
 have hr:=cmpS_tr r1 r2 r3
 unfold cmpV
 by_cases h1:e1=e2
 ·by_cases h2:e2=e3
  ·rw [if_neg (show ¬e1≠e2 by omega),if_neg (show ¬e2≠e3 by omega),if_neg (show ¬e1≠e3 by omega)]
   by_cases q1:cmpS u1 u2=0
   ·by_cases q2:cmpS u2 u3=0
    ·have q3:cmpS u1 u3=0:=by omega
     rw [if_neg (by omega),if_neg (by omega),if_neg (by omega)];exact hr
    ·rw [if_neg (show ¬cmpS u1 u2≠0 by omega),if_pos (show cmpS u2 u3≠0 by omega)]
     intro _ p2
     rw [if_pos (by omega)];omega
   ·rw [if_pos (show cmpS u1 u2≠0 by omega)]
    intro p1
    by_cases q2:cmpS u2 u3=0
    ·rw [if_neg (show ¬cmpS u2 u3≠0 by omega)]
     intro p2
     rw [if_pos (by omega)];omega
    ·rw [if_pos (show cmpS u2 u3≠0 by omega)]
     intro p2
     rw [if_pos (by omega)];omega
  ·rw [if_neg (show ¬e1≠e2 by omega),if_pos (show e2≠e3 by omega),if_pos (show e1≠e3 by omega)]
   by_cases h3:e2 < e3
   ·rw [if_pos h3,if_pos (show e1 < e3 by omega)];intro _ _;omega
   ·rw [if_neg h3];intro _ p;omega
 ·rw [if_pos (show e1≠e2 by omega)]
  by_cases h3:e1 < e2
  ·rw [if_pos h3]
   intro _
   by_cases h2:e2=e3
   ·rw [if_neg (show ¬e2≠e3 by omega),if_pos (show e1≠e3 by omega),if_pos (show e1 < e3 by omega)];intro _;omega
   ·rw [if_pos (show e2≠e3 by omega)]
    by_cases h4:e2 < e3
    ·rw [if_pos h4,if_pos (show e1≠e3 by omega),if_pos (show e1 < e3 by omega)];intro _;omega
    ·rw [if_neg h4];intro p;omega
  ·rw [if_neg h3];intro p;omega
theorem orderV_neg (a b:List Nat):orderV b a=-orderV a b:=by
 have h:=cmpV_neg (parse1 a) (parse2 a) (parse3 a) (parse1 b) (parse2 b) (parse3 b)
 unfold orderV
 by_cases h1:parseE a=0
 ·by_cases h2:parseE b=0
  ·simp only [h1,h2,ne_eq,not_true,if_false];exact h
  ·simp only [h1,h2,ne_eq,not_true,not_false_iff,if_false,if_true]
 ·by_cases h2:parseE b=0
  ·simp only [h1,h2,ne_eq,not_true,not_false_iff,if_false,if_true];decide
  ·simp only [h1,h2,ne_eq,not_true,not_false_iff,if_false,if_true];decide
theorem orderV_self (a:List Nat):orderV a a=0:=by have:=orderV_neg a a;omega
theorem orderV_tr (a b c:List Nat):orderV a b≤0→orderV b c≤0→orderV a c≤0∧(orderV a b < 0∨orderV b c < 0→orderV a c < 0):=by
 have h:=cmpV_tr (parse1 a) (parse2 a) (parse3 a) (parse1 b) (parse2 b) (parse3 b) (parse1 c) (parse2 c) (parse3 c)
 unfold orderV
 by_cases h1:parseE a=0
 ·by_cases h2:parseE b=0
  ·by_cases h3:parseE c=0
   ·simp only [h1,h2,h3,ne_eq,not_true,if_false];exact h
   ·simp only [h1,h2,h3,ne_eq,not_true,not_false_iff,if_false,if_true];intro _ p;omega
  ·by_cases h3:parseE c=0
   ·simp only [h1,h2,h3,ne_eq,not_true,not_false_iff,if_false,if_true];intro p;omega
   ·simp only [h1,h2,h3,ne_eq,not_true,not_false_iff,if_false,if_true];intro p;omega
 ·by_cases h2:parseE b=0
  ·by_cases h3:parseE c=0
   ·simp only [h1,h2,h3,ne_eq,not_true,not_false_iff,if_false,if_true];intro _ _;omega
   ·simp only [h1,h2,h3,ne_eq,not_true,not_false_iff,if_false,if_true];intro _ p;omega
  ·by_cases h3:parseE c=0
   ·simp only [h1,h2,h3,ne_eq,not_true,not_false_iff,if_false,if_true];intro _ _;omega
   ·simp only [h1,h2,h3,ne_eq,not_true,not_false_iff,if_false,if_true];intro _ _;omega
def blt (a b:ByteArray):Prop:=Op.bytesLess a.toList b.toList=true
theorem bl_cons (a b:UInt8) (x y:List UInt8):Op.bytesLess (a::x) (b::y)=true↔a.toNat < b.toNat∨(a.toNat=b.toNat∧Op.bytesLess x y=true):=by
 simp only [Op.bytesLess,Bool.or_eq_true,Bool.and_eq_true,decide_eq_true_eq,beq_iff_eq,UInt8.lt_iff_toNat_lt,UInt8.toNat_inj]
theorem bl_asym:∀x y:List UInt8,Op.bytesLess x y=true→Op.bytesLess y x=true→False
 | _,[],h,_=>by simp [Op.bytesLess] at h
 | [],_::_,_,h=>by simp [Op.bytesLess] at h
 | a::x,b::y,h,k=>by
  rw [bl_cons] at h k
  rcases h with h|⟨h,h'⟩
  ·rcases k with k|⟨k,_⟩<;>omega
  ·rcases k with k|⟨_,k'⟩
   ·omega
   ·exact bl_asym x y h' k'
theorem bl_tot:∀x y:List UInt8,Op.bytesLess x y=true∨Op.bytesLess y x=true∨x=y
 | [],[]=>.inr (.inr rfl)
 | [],_::_=>.inl rfl
 | _::_,[]=>.inr (.inl rfl)
 | a::x,b::y=>by
  rw [bl_cons,bl_cons]
  rcases Nat.lt_trichotomy a.toNat b.toNat with h|h|h
  ·exact .inl (.inl h)
  ·rcases bl_tot x y with k|k|k
   ·exact .inl (.inr ⟨h,k⟩)
   ·exact .inr (.inl (.inr ⟨h.symm,k⟩))
   ·exact .inr (.inr (by rw [UInt8.toNat_inj.1 h,k]))
  ·exact .inr (.inl (.inl h))
theorem bl_tr:∀x y z:List UInt8,Op.bytesLess x y=true→Op.bytesLess y z=true→Op.bytesLess x z=true
 | _,[],_,h,_=>by simp [Op.bytesLess] at h
 | _,_::_,[],_,k=>by simp [Op.bytesLess] at k
 | [],_::_,_::_,_,_=>rfl
 | a::x,b::y,c::z,h,k=>by
  rw [bl_cons] at h k ⊢
  rcases h with h|⟨h,h'⟩<;>rcases k with k|⟨k,k'⟩
  ·exact .inl (by omega)
  ·exact .inl (by omega)
  ·exact .inl (by omega)
  ·exact .inr ⟨by omega,bl_tr x y z h' k'⟩
theorem toList_same {a b:ByteArray} (h:a.toList=b.toList):a=b:=by
 have:=str_eq a b
 rw [h,beq_self_eq_true] at this
 exact of_decide_eq_true this.symm
theorem blt_asym {a b:ByteArray} (h:blt a b) (k:blt b a):False:=bl_asym _ _ h k
theorem blt_tot (a b:ByteArray):blt a b∨blt b a∨a=b:=by
 rcases bl_tot a.toList b.toList with h|h|h
 ·exact .inl h
 ·exact .inr (.inl h)
 ·exact .inr (.inr (toList_same h))
theorem blt_tr {a b c:ByteArray} (h:blt a b) (k:blt b c):blt a c:=bl_tr _ _ _ h k
theorem blt_self (a:ByteArray):¬blt a a:=fun h=>blt_asym h h
def lesB (x y:Ent):Bool:=if x.n=y.n then (decide (orderV (B x.v) (B y.v) < 0)||(orderV (B x.v) (B y.v)==0&&Op.bytesLess x.v.toList y.v.toList)) else Op.bytesLess x.n.toList y.n.toList
def Les (x y:Ent):Prop:=(x.n=y.n∧(orderV (B x.v) (B y.v) < 0∨(orderV (B x.v) (B y.v)=0∧blt x.v y.v)))∨(x.n≠y.n∧blt x.n y.n)
theorem lesB_iff (x y:Ent):lesB x y=true↔Les x y:=by
 unfold lesB Les blt
 by_cases h:x.n=y.n
 ·rw [if_pos h];simp [h]
 ·rw [if_neg h];simp [h]
theorem Les.asym {x y:Ent} (h:Les x y) (k:Les y x):False:=by
 have hn:=orderV_neg (B x.v) (B y.v)
 rcases h with ⟨h1,h2⟩|⟨h1,h2⟩
 ·rcases k with ⟨k1,k2⟩|⟨k1,k2⟩
  ·rcases h2 with h2|⟨h2,h3⟩<;>rcases k2 with k2|⟨k2,k3⟩
   ·omega
   ·omega
   ·omega
   ·exact blt_asym h3 k3
  ·exact k1 h1.symm
 ·rcases k with ⟨k1,k2⟩|⟨k1,k2⟩
  ·exact h1 k1.symm
  ·exact blt_asym h2 k2
theorem Les.tot (x y:Ent):Les x y∨Les y x∨(x.n=y.n∧x.v=y.v):=by
 have hn:=orderV_neg (B x.v) (B y.v)
 by_cases h:x.n=y.n
 ·rcases Int.lt_trichotomy (orderV (B x.v) (B y.v)) 0 with k|k|k
  ·exact .inl (.inl ⟨h,.inl k⟩)
  ·rcases blt_tot x.v y.v with q|q|q
   ·exact .inl (.inl ⟨h,.inr ⟨k,q⟩⟩)
   ·exact .inr (.inl (.inl ⟨h.symm,.inr ⟨by omega,q⟩⟩))
   ·exact .inr (.inr ⟨h,q⟩)
  ·exact .inr (.inl (.inl ⟨h.symm,.inl (by omega)⟩))
 ·rcases blt_tot x.n y.n with q|q|q
  ·exact .inl (.inr ⟨h,q⟩)
  ·exact .inr (.inl (.inr ⟨fun e=>h e.symm,q⟩))
  ·exact absurd q h
theorem Les.alike {x y:Ent} (h1:x.n=y.n) (h2:x.v=y.v):¬Les x y:=by
 rintro (⟨_,h|⟨_,h⟩⟩|⟨h,_⟩)
 ·rw [h2,orderV_self] at h;exact absurd h (by decide)
 ·rw [h2] at h;exact blt_self _ h
 ·exact h h1
theorem Les.tr {x y z:Ent} (h:Les x y) (k:Les y z):Les x z:=by
 have ht:=orderV_tr (B x.v) (B y.v) (B z.v)
 rcases h with ⟨h1,h2⟩|⟨h1,h2⟩<;>rcases k with ⟨k1,k2⟩|⟨k1,k2⟩
 ·refine .inl ⟨h1.trans k1,?_⟩
  rcases h2 with h2|⟨h2,h3⟩<;>rcases k2 with k2|⟨k2,k3⟩
  ·exact .inl ((ht (by omega) (by omega)).2 (.inl h2))
  ·exact .inl ((ht (by omega) (by omega)).2 (.inl h2))
  ·exact .inl ((ht (by omega) (by omega)).2 (.inr k2))
  ·have q:=(ht (by omega) (by omega)).1
   by_cases q0:orderV (B x.v) (B z.v)=0
   ·exact .inr ⟨q0,blt_tr h3 k3⟩
   ·exact .inl (by omega)
 ·exact .inr ⟨by rw [h1];exact k1,by rw [h1];exact k2⟩
 ·exact .inr ⟨by rw [←k1];exact h1,by rw [←k1];exact h2⟩
 ·exact .inr ⟨fun e=>by rw [e] at h2;exact blt_asym h2 k2,blt_tr h2 k2⟩
def Sm (x:Ent):Prop:=Lt x.c∧Lt x.p∧x.n.size≤100∧x.v.size≤100∧x.d.length≤15∧x.r.length≤15∧(∀g ∈ x.d,Lt g)∧(∀g ∈ x.r,Lt g)
theorem keep6 {w w1:World} (h:Below w.heap.size w w1) {a:Addr} {v:Value} (hc:w.cell? a=some v):w1.cell? a=some v:=by
 rw [h.cell (World.block_lt_of_cell? _ _ hc)];exact hc
def giv6 (a:Atm):Bool:=a.o==0||a.o==3
def givs6 (l:List Atm):Bool:=l.all giv6
theorem all_step6 {α:Type} {f:α→Bool} {l:List α} {k:Nat} (h:k < l.length) (ha:(l.take k).all f=true) (hf:f l[k]=true):(l.take (k+1)).all f=true:=by
 rw [List.take_succ_eq_append_getElem h,List.all_append,ha];simp [hf]
theorem all_stop6 {α:Type} {f:α→Bool} {l:List α} {k:Nat} (h:k < l.length) (hf:f l[k]=false):l.all f=false:=by
 rw [List.all_eq_false];exact ⟨_,List.getElem_mem h,by rw [hf];simp⟩
def thr (n v:ByteArray) (y:Ent):Bool:=decide (y.n=n)&&decide (y.v=v)
def thB (l:List Ent) (x:Ent):Bool:=l.any (thr x.n x.v)
theorem none_step6 {α:Type} {f:α→Bool} {l:List α} {k:Nat} (h:k < l.length) (ha:(l.take k).any f=false) (hf:f l[k]=false):(l.take (k+1)).any f=false:=by
 rw [List.take_succ_eq_append_getElem h,List.any_append,ha];simp [hf]
theorem any_stop6 {α:Type} {f:α→Bool} {l:List α} {k:Nat} (h:k < l.length) (hf:f l[k]=true):l.any f=true:=List.any_eq_true.2 ⟨_,List.getElem_mem h,hf⟩
def plnB (c:Nat):Bool:=decide (97≤c∧c≤122)||digB c
def nmcB (c:Nat):Bool:=plnB c||decide (c=43)||decide (c=45)||decide (c=46)
def nameB (l:List Nat):Bool:=decide (2≤l.length)&&decide (l.length≤40)&&plnB (l.getD 0 0)&&l.all nmcB
def signL (op:Int):List Nat:=if op=1 then [60,60] else if op=2 then [60,61] else if op=3 then [61] else if op=4 then [62,61] else if op=5 then [62,62] else []
def prB (l:List Nat):Bool:=decide (parseE l=0)&&decide (printL (parse1 l) (parse2 l) (parse3 l)=l)
def rightA (n:List Nat) (op:Int) (v:List Nat):Bool:=nameB n&&(if op=0 then decide (v=[]) else decide (1≤op∧op≤5)&&prB v)
def opB (op c:Int):Bool:=if op=1 then decide (c < 0) else if op=2 then decide (c≤0) else if op=3 then decide (c=0) else if op=4 then decide (0≤c) else if op=5 then decide (0 < c) else false
def holdB (op:Int) (a b:List Nat):Bool:=decide (op=0)||(decide (parseE a=0)&&decide (parseE b=0)&&opB op (orderV a b))
def provB (n:List Nat) (op:Int) (v gn:List Nat) (gop:Int) (gv:List Nat):Bool:=decide (n=gn)&&(decide (op=0)||(decide (gop=3)&&holdB op gv v))
theorem strings_eq (x y:ByteArray):(x.toList==y.toList)=decide (B x=B y):=by
 have:=strEq (B x) y (B_lt x)
 rwa [mk_B] at this
def rgt (a:Atm):Bool:=rightA (B a.n) a.o (B a.v)
def rgtOne (g:List Atm):Bool:=decide (1≤g.length)&&decide (g.length≤6)&&g.all rgt
def rightG (L:List (List Atm)):Bool:=decide (L.length≤12)&&L.all rgtOne
def rgtE (x:Ent):Bool:=nameB (B x.n)&&(prB (B x.v)&&(rightG x.d&&(rightG x.r&&(x.c.all rgt&&(x.p.all rgt&&(givs6 x.p&&(decide (x.c.length≤12)&&decide (x.p.length≤8))))))))
theorem box6 {w W:World} {T:TypeId} {x0 x1 x2 x3 x4 x5:Value} (hb:Below (w.alloc (.cells #[x0,x1,x2,x3,x4,x5] T)).heap.size (w.alloc (.cells #[x0,x1,x2,x3,x4,x5] T)) W) :
  W.cell? ⟨w.heap.size,0,none⟩=some x0∧W.cell? ⟨w.heap.size,1,none⟩=some x1∧W.cell? ⟨w.heap.size,2,none⟩=some x2∧W.cell? ⟨w.heap.size,3,none⟩=some x3∧W.cell? ⟨w.heap.size,4,none⟩=some x4∧W.cell? ⟨w.heap.size,5,none⟩=some x5:=
 ⟨(hb.cell (by simp)).trans (by simp [go_sem]),(hb.cell (by simp)).trans (by simp [go_sem]),(hb.cell (by simp)).trans (by simp [go_sem]),(hb.cell (by simp)).trans (by simp [go_sem]),(hb.cell (by simp)).trans (by simp [go_sem]),(hb.cell (by simp)).trans (by simp [go_sem])⟩
def Sz (x:Ent):Prop:=x.n.size≤65536∧(∀g ∈ x.d,∀a ∈ g,a.n.size≤65536)∧(∀g ∈ x.r,∀a ∈ g,a.n.size≤65536)∧(∀a ∈ x.c,a.n.size≤65536)∧(∀a ∈ x.p,a.n.size≤65536)
theorem Sm.sz {x:Ent} (h:Sm x):Sz x:=by
 obtain ⟨hc,hp,hn,hv,_,_,hd,hr⟩:=h
 exact ⟨by omega,fun g hg a ha=>by have:=(hd g hg).2 a ha;omega,fun g hg a ha=>by have:=(hr g hg).2 a ha;omega,fun a ha=>by have:=hc.2 a ha;omega,fun a ha=>by have:=hp.2 a ha;omega⟩
section
variable {α:Type} {E:Rd α} {sz:Nat}
theorem Grow.empty (T:Nat→Prop) {W:World} {base b:Nat} {e:TypeId} (hb:W.heap[b]?=some (.cells #[] e (0,0))) (hbase:base≤b):Grow E sz T W base e (.slice (some ⟨b,0,none⟩) 0 0) []:=
 ⟨[],rfl,⟨by simp,.inr ⟨b,0,#[],rfl,hbase,hb,Nat.le_refl _,Nat.zero_le _,by simp,by simp⟩⟩,fun k hk=>absurd hk (by simp)⟩
end
section
variable {α β:Type} {E:Rd α} {F:Rd β} {sz tz:Nat}
def Moved (W:World) (v v':Value):Prop:=v'.ownBlock=v.ownBlock∨∃b,v'.ownBlock=some b∧W.heap.size≤b
theorem wpList_grow1_at {P:Program} {ops:Array Oper} {rest:List Oper} {o:Oper} {a:Act} {Q:Exit→Act→World→Prop} (W:World) (hgd:o.guard=none) (s x:Operand) (t:TypeId)
  (ho:o.op=.call { callee:=.builtin .append,args:=#[s,x],argTypes:=#[t,t] })
  (g:Good E sz) (hsz:0 < sz) (T:Nat→Prop) (base:Nat) (e:TypeId) (i:TypeInfo) (z:Value) (bytes:Nat) (ht:P.underlying t=some (.slice e)) (hi:P.info? e=some i) (hz:i.zero=some z)
  (hsize:i.size=sz) (hby:i.bytes=bytes) (hzs:z.cells.size=sz)
  (v:Value) (l:List α) (hs:a.eval s=v) (hG:Grow E sz T W base e v l) (y:α) (blk:Array Value) (te:TypeId)
  (hE:E W (fun b=>T b∧b < W.heap.size∧v.ownBlock≠some b) y blk.toList) (N:Nat) (hN:N=W.heap.size) (hx:a.eval x=.slice (some ⟨N,0,none⟩) 1 1)
  (hn:l.length+1≤maxLen) (hb2:(l.length+1)*bytes≤140737488355328) (hbase:base≤W.heap.size)
  (h:∀v' w',Grow E sz T w' base e v' (l++[y])→W.grownBy w' v.ownBlock→Moved W v v'→wpList P ops Q rest (a.put o.dst v') w') :
  wpList P ops Q (o::rest) a (W.alloc (.cells blk te)):=by
 subst hN
 obtain ⟨css,hl,hown,hEs⟩:=hG
 refine wpList_append_own_at _ hgd s x t ho base e i z sz bytes ht hi hz hsize hby hzs hsz v l.length css.flatten hs (hown.alloc _) ⟨W.heap.size,0,none⟩ 1 1 blk.toList hx (by rw [g.len hE];simp) (cells_new W blk te) (g.one hE) hn hb2 (by simp;omega) ?_
 intro v' w' hown' hgrow _ hat
 have hg2:W.grownBy w' v.ownBlock:=by
  refine ⟨hgrow.os,hgrow.tape,hgrow.output,?_,fun k hk hne=>?_⟩
  ·have:=hgrow.size;simp at this;omega
  ·rw [hgrow.block k (by simp;omega) hne]
   exact Below.heap_alloc W _ k hk
 have hat':Moved W v v':=by
  rcases hat with h1|h1
  ·exact .inl h1
  ·exact .inr ⟨_,h1,by simp⟩
 refine h v' w' ?_ hg2 hat'
 refine Grow.step g hl hEs (m:=[y]) (ess:=[blk.toList]) rfl (fun k hk=>?_) (by simpa using hown') hg2 hat'
 simp only [List.length_singleton] at hk
 obtain rfl:k=0:=by omega
 exact ⟨_,rfl,hE⟩
def Off (u v:Value):Prop:=∀b,u.ownBlock=some b→v.ownBlock≠some b
theorem Off.symm {u v:Value} (h:Off u v):Off v u:=fun b hb hu=>h b hu hb
theorem Off.nil (v:Value):Off (.slice none 0 0) v:=fun b hb=>by simp [Value.ownBlock] at hb
theorem Off.moved {W:World} {v v' x:Value} (h:Off v x) (hx:∀b,x.ownBlock=some b→b < W.heap.size) (hm:Moved W v v'):Off v' x:=by
 intro b hb hxb
 rcases hm with h1|⟨b',h1,hb'⟩
 ·exact h b (h1 ▸ hb) hxb
 ·rw [h1] at hb;injection hb with hb;have:=hx b hxb;omega
end
theorem Grow.flat {T T':Nat→Prop} {W:World} {base:Nat} {e:TypeId} {v:Value} {α:Type} {E:Rd α} {sz:Nat} {l:List α} (hf:∀(w:World) (S S':Nat→Prop) a cs,E w S a cs→E w S' a cs) (h:Grow E sz T W base e v l):Grow E sz T' W base e v l:=by
 obtain ⟨css,hl,hown,hE⟩:=h
 refine ⟨css,hl,hown,fun k hk=>?_⟩
 obtain ⟨cs,h1,h2⟩:=hE k hk
 exact ⟨cs,h1,hf _ _ _ _ _ h2⟩
def emp:Ent:=⟨{ data:=#[] },{ data:=#[] },[],[],[],[]⟩
def nil7:Hr:=⟨emp,false,false⟩
def Ris (l:List ByteArray):Prop:=l.Pairwise blt
def risB:List ByteArray→Bool
 | a::b::r=>Op.bytesLess a.toList b.toList&&risB (b::r)
 | _=>true
def rightH (l:List Hr):Bool:=l.all (fun x=>rgtE x.e)&&(risB (l.map fun x=>x.e.n)&&decide (l.length≤64))
def RightP (l:List Hr):Prop:=(∀x ∈ l,rgtE x.e=true)∧Ris (l.map fun x=>x.e.n)∧l.length≤64
theorem risB_iff:∀l:List ByteArray,risB l=true↔Ris l
 | []=>⟨fun _=>List.Pairwise.nil,fun _=>rfl⟩
 | [a]=>⟨fun _=>List.pairwise_singleton _ _,fun _=>rfl⟩
 | a::b::r=>by
  have ih:=risB_iff (b::r)
  unfold risB
  rw [Bool.and_eq_true,ih]
  constructor
  ·rintro ⟨h,k⟩
   refine List.Pairwise.cons (fun c hc=>?_) k
   rcases List.mem_cons.1 hc with rfl|hc
   ·exact h
   ·exact blt_tr h ((List.pairwise_cons.1 k).1 c hc)
  ·intro h
   obtain ⟨h1,h2⟩:=List.pairwise_cons.1 h
   exact ⟨h1 b (by simp),h2⟩
theorem rightH_iff (l:List Hr):rightH l=true↔RightP l:=by
 unfold rightH RightP
 rw [Bool.and_eq_true,Bool.and_eq_true,risB_iff,decide_eq_true_iff,List.all_eq_true]
theorem mem_tw {α:Type} {p:α→Bool}:∀{l:List α} {x:α},x ∈ l.takeWhile p→p x=true∧x ∈ l
 | a::l,x,h=>by
  rw [List.takeWhile_cons] at h
  split at h
  ·rename_i hp
   rcases List.mem_cons.1 h with rfl|h
   ·exact ⟨hp,List.mem_cons_self ..⟩
   ·exact ⟨(mem_tw h).1,List.mem_cons_of_mem _ (mem_tw h).2⟩
  ·cases h
theorem mem_dw {α:Type} {p:α→Bool}:∀{l:List α} {x:α},x ∈ l.dropWhile p→x ∈ l
 | a::l,x,h=>by
  rw [List.dropWhile_cons] at h
  split at h
  ·exact List.mem_cons_of_mem _ (mem_dw h)
  ·exact h
theorem dw_head {α:Type} {p:α→Bool}:∀{l r:List α} {x:α},l.dropWhile p=x::r→p x=false
 | a::l,r,x,h=>by
  rw [List.dropWhile_cons] at h
  split at h
  ·exact dw_head h
  ·rename_i hp
   obtain ⟨rfl,-⟩:=List.cons.inj h
   simpa using hp
theorem ris_adj {l:List ByteArray} (h:Ris l) {i:Nat} (hi:i+1 < l.length):blt l[i] l[i+1]:=List.pairwise_iff_getElem.1 h i (i+1) (by omega) hi (by omega)
def one9 (x y:Ent):Prop:=x.n=y.n∧x.v=y.v
instance (x y:Ent):Decidable (one9 x y):=inferInstanceAs (Decidable (_∧_))
def in9 (L:List Ent) (e:Ent):Bool:=L.any fun x=>decide (one9 x e)
def putU (L:List Ent) (e:Ent):List Ent:=L.takeWhile (fun x=>lesB x e)++e::L.dropWhile fun x=>lesB x e
def addU (L:List Ent) (e:Ent):List Ent:=if in9 L e=true then L else putU L e
def entU (ix:List Ent) (he:List Ent):List Ent:=ix.foldl addU (he.foldl putU [])
def Srt9 (L:List Ent):Prop:=L.Pairwise Les
theorem one9.symm {x y:Ent} (h:one9 x y):one9 y x:=⟨h.1.symm,h.2.symm⟩
theorem in9_iff {L:List Ent} {e:Ent}:in9 L e=true↔∃x ∈ L,one9 x e:=by
 unfold in9
 rw [List.any_eq_true]
 exact ⟨fun ⟨x,h,k⟩=>⟨x,h,of_decide_eq_true k⟩,fun ⟨x,h,k⟩=>⟨x,h,decide_eq_true k⟩⟩
theorem in9_no {L:List Ent} {e:Ent} (h:in9 L e=false):∀x ∈ L,¬one9 x e:=fun x hx k=>by rw [in9_iff.2 ⟨x,hx,k⟩] at h;cases h
theorem put9_mem {L:List Ent} {e x:Ent}:x ∈ putU L e↔x=e∨x ∈ L:=by
 have q:=List.takeWhile_append_dropWhile (p:=fun x=>lesB x e) (l:=L)
 unfold putU
 constructor
 ·intro h
  rcases List.mem_append.1 h with h|h
  ·exact .inr (mem_tw h).2
  ·rcases List.mem_cons.1 h with rfl|h
   ·exact .inl rfl
   ·exact .inr (mem_dw h)
 ·rintro (rfl|h)
  ·simp
  ·rw [←q] at h
   rcases List.mem_append.1 h with h|h
   ·exact List.mem_append.2 (.inl h)
   ·exact List.mem_append.2 (.inr (List.mem_cons_of_mem _ h))
theorem put9_srt {L:List Ent} {e:Ent} (h:Srt9 L) (hn:∀x ∈ L,¬one9 x e):Srt9 (putU L e):=by
 have q:=List.takeWhile_append_dropWhile (p:=fun x=>lesB x e) (l:=L)
 unfold Srt9 at h
 rw [←q] at h
 obtain ⟨h1,h2,h3⟩:=List.pairwise_append.1 h
 have hA:∀x ∈ L.takeWhile (fun x=>lesB x e),Les x e:=fun x hx=>(lesB_iff x e).1 (mem_tw hx).1
 have hD:∀x ∈ L.dropWhile (fun x=>lesB x e),Les e x:=by
  cases hd:L.dropWhile (fun x=>lesB x e) with
  | nil=>intro x hx;cases hx
  | cons d r=>
   have hh:=dw_head hd
   have hm:d ∈ L:=mem_dw (p:=fun x=>lesB x e) (by rw [hd];exact List.mem_cons_self ..)
   have h0:Les e d:=by
    rcases Les.tot e d with k|k|k
    ·exact k
    ·rw [(lesB_iff d e).2 k] at hh;cases hh
    ·exact absurd ⟨k.1.symm,k.2.symm⟩ (hn d hm)
   rw [hd] at h2
   intro x hx
   rcases List.mem_cons.1 hx with rfl|hx
   ·exact h0
   ·exact Les.tr h0 ((List.pairwise_cons.1 h2).1 x hx)
 unfold Srt9 putU
 refine List.pairwise_append.2 ⟨h1,List.pairwise_cons.2 ⟨hD,h2⟩,fun a ha b hb=>?_⟩
 rcases List.mem_cons.1 hb with rfl|hb
 ·exact hA a ha
 ·exact h3 a ha b hb
theorem les_no (x:Ent):¬Les x x:=Les.alike rfl rfl
theorem srt9_ext:∀{a b:List Ent},Srt9 a→Srt9 b→(∀x,x ∈ a↔x ∈ b)→a=b
 | [],[],_,_,_=>rfl
 | [],y::b,_,_,h=>absurd ((h y).2 (List.mem_cons_self ..)) (List.not_mem_nil)
 | x::a,[],_,_,h=>absurd ((h x).1 (List.mem_cons_self ..)) (List.not_mem_nil)
 | x::a,y::b,ha,hb,h=>by
  obtain ⟨ha1,ha2⟩:=List.pairwise_cons.1 ha
  obtain ⟨hb1,hb2⟩:=List.pairwise_cons.1 hb
  have e:x=y:=by
   rcases List.mem_cons.1 ((h x).1 (List.mem_cons_self ..)) with e|hx
   ·exact e
   ·rcases List.mem_cons.1 ((h y).2 (List.mem_cons_self ..)) with e|hy
    ·exact e.symm
    ·exact (Les.asym (hb1 x hx) (ha1 y hy)).elim
  subst e
  rw [srt9_ext ha2 hb2 fun z=>?_]
  constructor
  ·intro hz
   rcases List.mem_cons.1 ((h z).1 (List.mem_cons_of_mem _ hz)) with rfl|hz'
   ·exact absurd (ha1 z hz) (les_no z)
   ·exact hz'
  ·intro hz
   rcases List.mem_cons.1 ((h z).2 (List.mem_cons_of_mem _ hz)) with rfl|hz'
   ·exact absurd (hb1 z hz) (les_no z)
   ·exact hz'
def Once9 (L:List Ent):Prop:=L.Pairwise fun x y=>¬one9 x y
theorem fold_put:∀(he L:List Ent),Srt9 L→Once9 he→(∀x ∈ L,∀y ∈ he,¬one9 x y)→Srt9 (he.foldl putU L)∧∀x,x ∈ he.foldl putU L↔x ∈ L∨x ∈ he
 | [],L,h,_,_=>⟨h,fun x=>by simp⟩
 | e::r,L,h,ho,hn=>by
  obtain ⟨o1,o2⟩:=List.pairwise_cons.1 ho
  obtain ⟨k1,k2⟩:=fold_put r (putU L e) (put9_srt h fun x hx=>hn x hx e (List.mem_cons_self ..)) o2 (fun x hx y hy=>by
   rcases put9_mem.1 hx with rfl|hx
   ·exact o1 y hy
   ·exact hn x hx y (List.mem_cons_of_mem _ hy))
  refine ⟨k1,fun x=>?_⟩
  show x ∈ r.foldl putU (putU L e)↔_
  rw [k2,put9_mem,List.mem_cons]
  constructor
  ·rintro ((h|h)|h)
   ·exact .inr (.inl h)
   ·exact .inl h
   ·exact .inr (.inr h)
  ·rintro (h|h|h)
   ·exact .inl (.inr h)
   ·exact .inl (.inl h)
   ·exact .inr h
theorem add9_srt {L:List Ent} {e:Ent} (h:Srt9 L):Srt9 (addU L e):=by
 unfold addU
 split
 ·exact h
 ·rename_i q;exact put9_srt h (in9_no (Bool.eq_false_iff.2 q))
theorem add9_more {L:List Ent} {e x:Ent} (h:x ∈ L):x ∈ addU L e:=by
 unfold addU
 split
 ·exact h
 ·exact put9_mem.2 (.inr h)
theorem fold_add_srt:∀(ix L:List Ent),Srt9 L→Srt9 (ix.foldl addU L)
 | [],L,h=>h
 | e::r,L,h=>fold_add_srt r _ (add9_srt h)
theorem fold_add_more:∀(ix L:List Ent) {x:Ent},x ∈ L→x ∈ ix.foldl addU L
 | [],L,x,h=>h
 | e::r,L,x,h=>fold_add_more r _ (add9_more h)
theorem entU_srt {ix he:List Ent} (h:Once9 he):Srt9 (entU ix he):=fold_add_srt _ _ (fold_put he [] List.Pairwise.nil h (fun x hx=>by cases hx)).1
theorem here_in {ix he:List Ent} (h:Once9 he):∀e ∈ he,e ∈ entU ix he:=fun e hx=>fold_add_more _ _ (((fold_put he [] List.Pairwise.nil h (fun x hx=>by cases hx)).2 e).2 (.inr hx))
theorem once_right {l:List Hr} (h:Ris (l.map fun x=>x.e.n)):Once9 (l.map fun x=>x.e):=by
 unfold Once9 Ris at *
 rw [List.pairwise_map] at h ⊢
 refine h.imp ?_
 intro a b hab k
 have q:a.e.n=b.e.n:=k.1
 rw [q] at hab
 exact blt_self _ hab
def ixU (p:Ent→Bool):List Ent→Nat→List Int
 | [],_=>[]
 | x::r,i=>if p x=true then (i:Int)::ixU p r (i+1) else ixU p r (i+1)
def plU (n v:ByteArray):List Ent→Nat→Int
 | [],_=>-1
 | x::r,i=>if x.n=n∧x.v=v then (i:Int) else plU n v r (i+1)
def isN (n:ByteArray) (x:Ent):Bool:=decide (x.n=n)
def nmU:Option ByteArray→List Ent→List ByteArray
 | _,[]=>[]
 | p,x::r=>if p=some x.n then nmU p r else x.n::nmU (some x.n) r
theorem ixU_cons (p:Ent→Bool) (x:Ent) (r:List Ent) (i:Nat):ixU p (x::r) i=if p x=true then (i:Int)::ixU p r (i+1) else ixU p r (i+1):=rfl
theorem plU_cons (n v:ByteArray) (x:Ent) (r:List Ent) (i:Nat):plU n v (x::r) i=if x.n=n∧x.v=v then (i:Int) else plU n v r (i+1):=rfl
theorem nmU_cons (p:Option ByteArray) (x:Ent) (r:List Ent):nmU p (x::r)=if p=some x.n then nmU p r else x.n::nmU (some x.n) r:=rfl
theorem ixU_mem {p:Ent→Bool}:∀{L:List Ent} {i:Nat} {k:Int},k ∈ ixU p L i↔∃j,∃h:j < L.length,k=((i+j:Nat):Int)∧p L[j]=true
 | [],i,k=>by simp [ixU]
 | x::r,i,k=>by
  have ih:=ixU_mem (p:=p) (L:=r) (i:=i+1) (k:=k)
  have hr:(∃j,∃h:j < (x::r).length,k=((i+j:Nat):Int)∧p (x::r)[j]=true)↔(k=(i:Int)∧p x=true)∨∃j,∃h:j < r.length,k=((i+1+j:Nat):Int)∧p r[j]=true:=by
   constructor
   ·rintro ⟨j,h,e,q⟩
    cases j with
    | zero=>exact .inl ⟨e,q⟩
    | succ j=>exact .inr ⟨j,by simpa using h,by rw [e];congr 1;omega,q⟩
   ·rintro (⟨e,q⟩|⟨j,h,e,q⟩)
    ·exact ⟨0,by simp,e,q⟩
    ·exact ⟨j+1,by simpa using h,by rw [e];congr 1;omega,q⟩
  rw [hr,←ih,ixU_cons]
  split
  ·rename_i h
   rw [List.mem_cons]
   exact ⟨fun q=>q.elim (fun e=>.inl ⟨e,h⟩) .inr,fun q=>q.elim (fun e=>.inl e.1) .inr⟩
  ·rename_i h
   exact ⟨.inr,fun q=>q.elim (fun e=>absurd e.2 h) id⟩
theorem ixU_ris {p:Ent→Bool}:∀(L:List Ent) (i:Nat),(ixU p L i).Pairwise (· < ·)∧∀k ∈ ixU p L i,(i:Int)≤k
 | [],i=>⟨List.Pairwise.nil,fun k h=>by cases h⟩
 | x::r,i=>by
  obtain ⟨h1,h2⟩:=ixU_ris (p:=p) r (i+1)
  rw [ixU_cons]
  split
  ·refine ⟨List.pairwise_cons.2 ⟨fun k hk=>by have:=h2 k hk;omega,h1⟩,fun k hk=>?_⟩
   rcases List.mem_cons.1 hk with rfl|hk
   ·omega
   ·have:=h2 k hk;omega
  ·exact ⟨h1,fun k hk=>by have:=h2 k hk;omega⟩
theorem ixU_app {p:Ent→Bool}:∀(a b:List Ent) (i:Nat),ixU p (a++b) i=ixU p a i++ixU p b (i+a.length)
 | [],b,i=>rfl
 | x::r,b,i=>by
  have ih:=ixU_app (p:=p) r b (i+1)
  rw [List.cons_append,List.length_cons,show i+(r.length+1)=i+1+r.length by omega]
  rw [ixU_cons,ixU_cons]
  split
  ·rw [ih];rfl
  ·rw [ih]
def rangU (i n:Nat):List Int:=(List.range' i n).map fun k:Nat=>(k:Int)
theorem rangU_app (i a b:Nat):rangU i a++rangU (i+a) b=rangU i (a+b):=by
 unfold rangU
 rw [←List.map_append,List.range'_append_1]
theorem plU_at {L:List Ent} (h:Srt9 L):∀{j:Nat} (hj:j < L.length) (i:Nat),plU L[j].n L[j].v L i=((i+j:Nat):Int):=by
 induction L with
 | nil=>intro j hj;cases hj
 | cons x r ih=>
  obtain ⟨h1,h2⟩:=List.pairwise_cons.1 h
  intro j hj i
  cases j with
  | zero=>
   show plU x.n x.v (x::r) i=_
   rw [plU_cons,if_pos ⟨rfl,rfl⟩];rfl
  | succ j=>
   have hj':j < r.length:=by simpa using hj
   show plU r[j].n r[j].v (x::r) i=_
   rw [plU_cons,if_neg (fun q=>Les.alike q.1 q.2 (h1 _ (List.getElem_mem hj'))),ih h2 hj' (i+1)]
   congr 1;omega
theorem les_nm {x y:Ent} (h:Les x y):x.n=y.n∨blt x.n y.n:=by
 rcases h with ⟨h,_⟩|⟨_,h⟩
 ·exact .inl h
 ·exact .inr h
theorem nmU_mem:∀{p:Option ByteArray} {L:List Ent} {n:ByteArray},n ∈ nmU p L→∃x ∈ L,x.n=n
 | p,[],n,h=>by cases h
 | p,x::r,n,h=>by
  rw [nmU_cons] at h
  split at h
  ·obtain ⟨y,hy,e⟩:=nmU_mem h;exact ⟨y,List.mem_cons_of_mem _ hy,e⟩
  ·rcases List.mem_cons.1 h with rfl|h
   ·exact ⟨x,List.mem_cons_self ..,rfl⟩
   ·obtain ⟨y,hy,e⟩:=nmU_mem h;exact ⟨y,List.mem_cons_of_mem _ hy,e⟩
section
variable {α:Type} {E:Rd α} {sz:Nat}
theorem Grow.blk (g:Good E sz) {T:Nat→Prop} {W:World} {base b:Nat} {e:TypeId} {blk:Array Value} {l:List α} {css:List (List Value)} (hb:W.heap[b]?=some (.cells blk e (0,0))) (hbase:base≤b)
  (hl:css.length=l.length) (hf:blk.toList=css.flatten) (hm:l.length≤1000) (hE:∀k (hk:k < l.length),∃cs,css[k]?=some cs∧E W (fun x=>T x∧x < W.heap.size∧(Value.slice (some ⟨b,0,none⟩) l.length l.length).ownBlock≠some x) l[k] cs) :
  Grow E sz T W base e (.slice (some ⟨b,0,none⟩) l.length l.length) l:=by
 have hls:∀cs ∈ css,cs.length=sz:=fun cs hc=>by
  obtain ⟨k,hk,rfl⟩:=List.getElem_of_mem hc
  obtain ⟨cs,h1,h2⟩:=hE k (by omega)
  rw [List.getElem?_eq_getElem hk] at h1
  injection h1 with h1
  rw [h1];exact g.len h2
 have hlen:css.flatten.length=l.length*sz:=by rw [flatten_len sz hls,hl]
 have hbs:blk.size=l.length*sz:=by rw [←hlen,←hf,Array.length_toList]
 exact ⟨css,hl,⟨hlen,.inr ⟨b,l.length,blk,rfl,hbase,hb,Nat.le_refl _,by unfold maxLen;omega,hbs,by rw [←hf,List.take_of_length_le (by rw [Array.length_toList,hbs];exact Nat.le_refl _)]⟩⟩,hE⟩
end
def gvs (x:Ent):List Atm:=⟨x.n,3,x.v⟩::x.p
def pvB (x y:Atm):Bool:=provB (B x.n) x.o (B x.v) (B y.n) y.o (B y.v)
theorem gr_self {W:World} {base b:Nat} {n v:ByteArray} (hb:W.heap[b]?=some (.cells #[.string n,.int .i64 3,.string v] 100 (0,0))) (hbase:base≤b):Grow rdAtm 3 (fun _=>True) W base 100 (.slice (some ⟨b,0,none⟩) 1 1) [⟨n,3,v⟩]:=
 Grow.blk rdAtm_good (l:=[⟨n,3,v⟩]) (css:=[[.string n,.int .i64 3,.string v]]) hb hbase rfl rfl (by simp) (fun k hk=>by
  simp only [List.length_singleton] at hk
  obtain rfl:k=0:=by omega
  exact ⟨_,rfl,rfl⟩)
def gvA (a:Atm) (x:Ent):Bool:=(gvs x).any (pvB a)
def nil10:Ent:=⟨{ data:=#[] },{ data:=#[] },[],[],[],[]⟩
def entA (U:List Ent) (p:Int):Ent:=U.getD p.toNat nil10
theorem entA_at {U:List Ent} {j:Nat} (h:j < U.length):entA U (j:Int)=U[j]:=by
 unfold entA
 rw [Int.toNat_natCast,List.getD_eq_getElem?_getD,List.getElem?_eq_getElem h];rfl
def givS (U:List Ent) (l:List Int) (a:Atm):Bool:=l.any fun p=>gvA a (entA U p)
def metS (U:List Ent) (l:List Int) (g:List Atm):Bool:=g.any (givS U l)
def SetP (n:Nat) (l:List Int):Prop:=(∀p ∈ l,0≤p∧p < (n:Int))∧l.Pairwise (· < ·)
instance (n:Nat) (l:List Int):Decidable (SetP n l):=inferInstanceAs (Decidable (_∧_))
def setB (n:Nat) (l:List Int):Bool:=decide (SetP n l)
def AdjP (n:Nat) (l:List Int) (k:Nat):Prop:=∀j (hj:j < l.length),j < k→(0≤l[j]∧l[j] < (n:Int))∧∀i (hi:i < l.length),j=i+1→l[i] < l[j]
theorem AdjP.zero (n:Nat) (l:List Int):AdjP n l 0:=fun j hj h=>absurd h (Nat.not_lt_zero _)
theorem AdjP.step {n:Nat} {l:List Int} {k:Nat} (h:AdjP n l k) (hk:k < l.length) (h0:0≤l[k]) (h1:l[k] < (n:Int)) (h2:∀i (hi:i < l.length),k=i+1→l[i] < l[k]):AdjP n l (k+1):=fun j hj hjk=>by
 by_cases e:j=k
 ·subst e;exact ⟨⟨h0,h1⟩,h2⟩
 ·exact h j hj (by omega)
theorem adj_lt {n:Nat} {l:List Int} (h:AdjP n l l.length):∀(d i:Nat) (hi:i+d+1 < l.length),l[i]'(by omega) < l[i+d+1]
 | 0,i,hi=>(h (i+1) (by omega) (by omega)).2 i (by omega) rfl
 | d+1,i,hi=>by
  have h1:=adj_lt h d i (by omega)
  have h2:=(h (i+(d+1)+1) (by omega) (by omega)).2 (i+d+1) (by omega) (by omega)
  omega
theorem adj_set {n:Nat} {l:List Int} (h:AdjP n l l.length):setB n l=true:=by
 unfold setB
 refine decide_eq_true ⟨fun p hp=>?_,?_⟩
 ·obtain ⟨j,hj,rfl⟩:=List.getElem_of_mem hp
  exact (h j hj hj).1
 ·rw [List.pairwise_iff_getElem]
  intro i j hi hj hij
  have:=adj_lt h (j - i - 1) i (by omega)
  have e:i+(j - i - 1)+1=j:=by omega
  simp only [e] at this
  exact this
theorem setB_lo {n:Nat} {l:List Int} {k:Nat} (hk:k < l.length) (h:l[k] < 0):setB n l=false:=
 decide_eq_false fun q=>by have:=(q.1 _ (List.getElem_mem hk)).1;omega
theorem setB_hi {n:Nat} {l:List Int} {k:Nat} (hk:k < l.length) (h:(n:Int)≤l[k]):setB n l=false:=
 decide_eq_false fun q=>by have:=(q.1 _ (List.getElem_mem hk)).2;omega
theorem setB_dn {n:Nat} {l:List Int} {k:Nat} (hk:k+1 < l.length) (h:l[k+1]≤l[k]):setB n l=false:=
 decide_eq_false fun q=>by
  have:=(List.pairwise_iff_getElem.1 q.2) k (k+1) (by omega) hk (Nat.lt_succ_self _)
  omega
def setL (l:List Int) (n:Nat):List Int:=((List.range n).filter fun i:Nat=>l.contains (i:Int)).map fun i:Nat=>(i:Int)
theorem bel_in {w w1 w2:World} (h:Below w.heap.size w w1) (k:Below w1.heap.size w1 w2):Below w.heap.size w w2:=h.trans (k.mono h.size)
end Go.Proofs.YtpilmhoakopcaaaGreatDoor
