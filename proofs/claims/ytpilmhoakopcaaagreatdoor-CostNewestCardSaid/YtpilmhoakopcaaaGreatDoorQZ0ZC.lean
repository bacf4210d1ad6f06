/- What the laws rest on: Ver2. -/
import Derived.Outline
import Derived.Test.YtpilmhoakopcaaaGreatDoorQACZC
set_option maxRecDepth 100000
set_option linter.unusedVariables false
set_option linter.unusedSimpArgs false
namespace Go.Proofs.YtpilmhoakopcaaaGreatDoor
open Go.RowKit
theorem cmpInt_any (x y:Int) (w:World):Calls Tryz.prog 161 #[.int .i64 x,.int .i64 y] w fun e w'=>e=.returned (.int .i64 (sgn (x - y)))∧w=w':=by
 have h0:(x != x)=false:=by simp
 have h1:(y != y)=false:=by simp
 rcases Int.lt_trichotomy x y with h|h|h
 ·have X:=Lib.hid (show sgn (x - y)=-1 by unfold sgn;rw [if_pos (by omega)])
  go_enter Tryz.func161,Tryz.ntmps161
  go_wp2
  go_ret
  exact ⟨by rw [X.out];rfl,rfl⟩
 ·have X:=Lib.hid (show sgn (x - y)=0 by unfold sgn;rw [if_neg (by omega),if_neg (by omega)])
  have a:¬x < y:=by omega
  have b:¬y < x:=by omega
  have H:=Lib.hid h
  clear h
  go_enter Tryz.func161,Tryz.ntmps161
  go_wp2
  all_goals
   go_ret
   exact ⟨by rw [X.out];rfl,rfl⟩
 ·have X:=Lib.hid (show sgn (x - y)=1 by unfold sgn;rw [if_neg (by omega),if_pos (by omega)])
  have a:¬x < y:=by omega
  go_enter Tryz.func161,Tryz.ntmps161
  go_wp2
  go_ret
  exact ⟨by rw [X.out];rfl,rfl⟩
def orL:List Int→Int
 | []=>0
 | x::l=>if x≠0 then x else orL l
theorem orL_at:∀(l:List Int) (k:Nat),k < l.length→(∀j,j < k→l.getD j 0=0)→l.getD k 0≠0→orL l=l.getD k 0
 | [],k,h,_,_=>by simp at h
 | x::l,0,_,_,hne=>by simp only [orL];rw [if_pos (by simpa using hne)];simp
 | x::l,k+1,h,hz,hne=>by
  have h0:=hz 0 (by omega)
  simp only [List.getD_cons_zero] at h0
  simp only [orL]
  rw [if_neg (by simp [h0]),List.getD_cons_succ]
  exact orL_at l k (by simpa using h) (fun j hj=>by have:=hz (j+1) (by omega);simpa using this) (by simpa using hne)
theorem orL_none:∀(l:List Int),(∀j,j < l.length→l.getD j 0=0)→orL l=0
 | [],_=>rfl
 | x::l,hz=>by
  have h0:=hz 0 (by simp)
  simp only [List.getD_cons_zero] at h0
  simp only [orL]
  rw [if_neg (by simp [h0])]
  exact orL_none l (fun j hj=>by have:=hz (j+1) (by simpa using hj);simpa using this)
theorem or_any (g n:Nat) (l:List Int) (w:World) (hl:l.length=n) (hn:n≤65536) (hc:∀k,k < n→w.cell? ⟨g,k,none⟩=some (.int .i64 (l.getD k 0))) :
  Calls Tryz.prog 119 #[.slice (some ⟨g,0,none⟩) n n] w fun e w'=>e=.returned (.int .i64 (orL l))∧w=w':=by
 have HL:=Lib.hid hl
 have HC:=Lib.hid hc
 clear hl hc
 go_enter Tryz.func119,Tryz.ntmps119
 go_wp2
 go_loop [5,8] (fun _ i=>∃k:Nat,k≤n∧i=.int .i64 k∧∀j,j < k→l.getD j 0=0) (fun _ i=>n - (intOf i).toNat)
 case atStart=>exact ⟨0,Nat.zero_le _,rfl,fun j hj=>by omega⟩
 case round=>
  obtain ⟨k,hk',rfl,hno⟩:=hrel
  have HN:=Lib.hid hno
  clear hno
  by_cases hlt:k < n
  ·have c0:w.cell? ⟨g,k,none⟩=some (.int .i64 (l.getD k 0)):=HC.out k hlt
   by_cases hx:l.getD k 0=0
   ·have HX:=Lib.hid hx
    have t1:(l.getD k 0 != 0)=false:=by rw [bne_eq_false_iff_eq];exact hx
    clear hx
    generalize hy:l.getD k 0=y at *
    have HY:=Lib.hid hy
    clear hy
    go_wp2
    go_round
    case rel=>exact ⟨k+1,by omega,by go_num,fun j hj=>by rcases (by omega:j < k∨j=k) with h|rfl;exact HN.out j h;rw [HY.out];exact HX.out⟩
    case measure=>simp [intOf];omega
   ·have X:=Lib.hid (orL_at l k (by rw [HL.out];exact hlt) HN.out hx)
    have t1:(l.getD k 0 != 0)=true:=by rw [bne_iff_ne];exact hx
    clear hx
    generalize l.getD k 0=y at *
    go_wp2
    go_ret
    exact ⟨by rw [X.out];rfl,rfl⟩
  ·have X:=Lib.hid (orL_none l (fun j hj=>HN.out j (by rw [HL.out] at hj;omega)))
   go_wp2
   go_ret
   exact ⟨by rw [X.out];rfl,rfl⟩
def vw:List Nat→Int
 | []=>0
 | c::_=>if c=126 then -1 else if letB c then c else c+256
theorem weigher_any (s:ByteArray) (w:World):Calls Tryz.prog 195 #[.string s] w fun e w'=>e=.returned (.func (.func 205) #[] #[.pointer (some ⟨w.heap.size,0,none⟩)])∧w'=w.alloc (.cells #[.string s] 9):=by
 have hmf:∀(fn:Fn) (first cap:Array Value) (w:World),(Instr.makeFunc fn first cap).run Tryz.prog w=.ok (.func fn first cap) w:=fun _ _ _ _=>rfl
 go_enter Tryz.func195,Tryz.ntmps195
 go_wp2
 go_ret
 exact ⟨rfl,rfl⟩
theorem weigh_any (s:ByteArray) (k:Nat) (p:Addr) (w:World) (hc:w.cell? p=some (.string s)) :
  Calls Tryz.prog 205 #[.int .i64 (k:Int),.pointer (some p)] w fun e w'=>e=.returned (.int .i64 (vw ((B s).drop k)))∧w=w':=by
 by_cases hk:k < s.size
 ·have hl:=byte_le s k hk
  have hd:=Lib.hid (B_drop s k hk)
  have t0:decide (s.size≤k)=false:=by simp;omega
  by_cases h2:s[k].toNat=126
  ·have t2:((s[k].toNat:Int)==126)=true:=by rw [beq_iff_eq];omega
   have X:=Lib.hid (show vw ((B s).drop k)=-1 by rw [hd.out];simp [vw,h2])
   clear h2
   go_enter Tryz.func205,Tryz.ntmps205
   go_wp2
   go_ret
   exact ⟨by rw [X.out];rfl,rfl⟩
  ·have t2:((s[k].toNat:Int)==126)=false:=by rw [beq_eq_false_iff_ne];omega
   cases h3:letB s[k].toNat
   ·have X:=Lib.hid (show vw ((B s).drop k)=s[k].toNat+256 by rw [hd.out];simp [vw,h2,h3])
    clear h2
    go_enter Tryz.func205,Tryz.ntmps205
    go_wp2_with (go_at_call 193;refine (vletter_any _ _).mono ?_;rw [h3];rintro e w' ⟨rfl,rfl⟩)
    go_ret
    exact ⟨by rw [X.out];rfl,rfl⟩
   ·have X:=Lib.hid (show vw ((B s).drop k)=s[k].toNat by rw [hd.out];simp [vw,h2,h3])
    clear h2
    go_enter Tryz.func205,Tryz.ntmps205
    go_wp2_with (go_at_call 193;refine (vletter_any _ _).mono ?_;rw [h3];rintro e w' ⟨rfl,rfl⟩)
    go_ret
    exact ⟨by rw [X.out];rfl,rfl⟩
 ·have X:=Lib.hid (show vw ((B s).drop k)=0 by rw [B_drop_end s k (by omega)];rfl)
  have t0:decide (s.size≤k)=true:=by simp;omega
  go_enter Tryz.func205,Tryz.ntmps205
  go_wp2
  go_ret
  exact ⟨by rw [X.out];rfl,rfl⟩
def cwT:Nat→List Nat→List Nat→Int
 | 0,_,_=>0
 | f+1,a,b=>if sgn (vw a - vw b)≠0 then sgn (vw a - vw b) else cwT f (a.drop 1) (b.drop 1)
def cwL (a b:List Nat):Int:=cwT (max a.length b.length) a b
theorem cwT_step {m k:Nat} (hk:k < m) (a b:List Nat):cwT (m - k) (a.drop k) (b.drop k)=if sgn (vw (a.drop k) - vw (b.drop k))≠0 then sgn (vw (a.drop k) - vw (b.drop k)) else cwT (m - (k+1)) (a.drop (k+1)) (b.drop (k+1)):=by
 obtain ⟨f,hf⟩:∃f,m - k=f+1:=⟨m - k - 1,by omega⟩
 rw [hf]
 simp only [cwT]
 rw [List.drop_drop,List.drop_drop,show f=m - (k+1) by omega]
theorem words_lt (s t:ByteArray) (w:World) (hs:s.size≤9223372036854775807) (ht:t.size≤9223372036854775807) (h:s.size < t.size) :
  Calls Tryz.prog 181 #[.string s,.string t] w fun e w'=>e=.returned (.int .i64 (cwL (B s) (B t)))∧Below w.heap.size w w':=by
 have hcf:∀(args:Array Value) (w:World),(callFunc 205 args).run Tryz.prog w=.ok (.enter 205 args) w:=fun _ _=>by kernel_rfl
 have C:=Lib.hid cmpInt_any
 have WS:=Lib.hid (weigher_any s w)
 have WT:=Lib.hid (weigher_any t (w.alloc (.cells #[.string s] 9)))
 have M:=Lib.hid (show cwL (B s) (B t)=cwT (t.size - 0) ((B s).drop 0) ((B t).drop 0) by
  unfold cwL;rw [B_len,B_len,List.drop_zero,List.drop_zero,Nat.sub_zero];congr 1;omega)
 go_enter Tryz.func181,Tryz.ntmps181
 go_wp2_with (first|(go_at_call 195;(with_reducible refine WS.out.mono ?_);rintro e w' ⟨rfl,rfl⟩)|(go_at_call 195;(with_reducible refine WT.out.mono ?_);rintro e w' ⟨rfl,rfl⟩))
 obtain ⟨V,hV⟩:∃V,V=(w.alloc (.cells #[.string s] 9)).alloc (.cells #[.string t] 9):=⟨_,rfl⟩
 have c0:V.cell? ⟨w.heap.size,0,none⟩=some (.string s):=by rw [hV];simp [go_sem]
 have c1:V.cell? ⟨w.heap.size+1,0,none⟩=some (.string t):=by rw [hV];simp [go_sem]
 have hB:Below w.heap.size w V:=by rw [hV];exact ((Below.refl _ w).alloc (Nat.le_refl _) _).alloc (by simp) _
 rw [←hV]
 clear hV WS WT h
 go_loop [18] (fun i=>∃k:Nat,k≤t.size∧i=.int .i64 k∧cwL (B s) (B t)=cwT (t.size - k) ((B s).drop k) ((B t).drop k)) (fun i=>t.size - (intOf i).toNat)
 case atStart=>exact ⟨0,Nat.zero_le _,rfl,M.out⟩
 case round=>
  obtain ⟨k,hk',rfl,hno⟩:=hrel
  have HN:=Lib.hid hno
  clear hno M
  by_cases hlt:k < t.size
  ·have ST:=Lib.hid (cwT_step hlt (B s) (B t))
   have A1:=Lib.hid (weigh_any s k ⟨w.heap.size,0,none⟩ V c0)
   have A2:=Lib.hid (weigh_any t k ⟨w.heap.size+1,0,none⟩ V c1)
   by_cases hx:sgn (vw ((B s).drop k) - vw ((B t).drop k))=0
   ·have N2:=Lib.hid (show cwL (B s) (B t)=cwT (t.size - (k+1)) ((B s).drop (k+1)) ((B t).drop (k+1)) by rw [HN.out,ST.out,if_neg (by simp [hx])])
    have t1:(sgn (vw ((B s).drop k) - vw ((B t).drop k)) != 0)=false:=by rw [bne_eq_false_iff_eq];exact hx
    clear hx
    go_wp2_with (first|(go_at_call 205;(with_reducible refine A1.out.mono ?_);rintro e w' ⟨rfl,rfl⟩)|(go_at_call 205;(with_reducible refine A2.out.mono ?_);rintro e w' ⟨rfl,rfl⟩)|(go_at_call 161;(with_reducible refine (C.out _ _ _).mono ?_);rintro e w' ⟨rfl,rfl⟩))
    go_round
    case rel=>exact ⟨k+1,by omega,by go_num,N2.out⟩
    case measure=>simp [intOf];omega
   ·have N2:=Lib.hid (show cwL (B s) (B t)=sgn (vw ((B s).drop k) - vw ((B t).drop k)) by rw [HN.out,ST.out,if_pos hx])
    have t1:(sgn (vw ((B s).drop k) - vw ((B t).drop k)) != 0)=true:=by rw [bne_iff_ne];exact hx
    clear hx
    go_wp2_with (first|(go_at_call 205;(with_reducible refine A1.out.mono ?_);rintro e w' ⟨rfl,rfl⟩)|(go_at_call 205;(with_reducible refine A2.out.mono ?_);rintro e w' ⟨rfl,rfl⟩)|(go_at_call 161;(with_reducible refine (C.out _ _ _).mono ?_);rintro e w' ⟨rfl,rfl⟩))
    go_ret
    exact ⟨by rw [N2.out];rfl,hB⟩
  ·have N2:=Lib.hid (show cwL (B s) (B t)=0 by rw [HN.out,show t.size - k=0 by omega];rfl)
   go_wp2
   go_ret
   exact ⟨by rw [N2.out];rfl,hB⟩
theorem words_ge (s t:ByteArray) (w:World) (hs:s.size≤9223372036854775807) (ht:t.size≤9223372036854775807) (h:¬s.size < t.size) :
  Calls Tryz.prog 181 #[.string s,.string t] w fun e w'=>e=.returned (.int .i64 (cwL (B s) (B t)))∧Below w.heap.size w w':=by
 have hcf:∀(args:Array Value) (w:World),(callFunc 205 args).run Tryz.prog w=.ok (.enter 205 args) w:=fun _ _=>by kernel_rfl
 have C:=Lib.hid cmpInt_any
 have WS:=Lib.hid (weigher_any s w)
 have WT:=Lib.hid (weigher_any t (w.alloc (.cells #[.string s] 9)))
 have M:=Lib.hid (show cwL (B s) (B t)=cwT (s.size - 0) ((B s).drop 0) ((B t).drop 0) by
  unfold cwL;rw [B_len,B_len,List.drop_zero,List.drop_zero,Nat.sub_zero];congr 1;omega)
 go_enter Tryz.func181,Tryz.ntmps181
 go_wp2_with (first|(go_at_call 195;(with_reducible refine WS.out.mono ?_);rintro e w' ⟨rfl,rfl⟩)|(go_at_call 195;(with_reducible refine WT.out.mono ?_);rintro e w' ⟨rfl,rfl⟩))
 obtain ⟨V,hV⟩:∃V,V=(w.alloc (.cells #[.string s] 9)).alloc (.cells #[.string t] 9):=⟨_,rfl⟩
 have c0:V.cell? ⟨w.heap.size,0,none⟩=some (.string s):=by rw [hV];simp [go_sem]
 have c1:V.cell? ⟨w.heap.size+1,0,none⟩=some (.string t):=by rw [hV];simp [go_sem]
 have hB:Below w.heap.size w V:=by rw [hV];exact ((Below.refl _ w).alloc (Nat.le_refl _) _).alloc (by simp) _
 rw [←hV]
 clear hV WS WT h
 go_loop [18] (fun i=>∃k:Nat,k≤s.size∧i=.int .i64 k∧cwL (B s) (B t)=cwT (s.size - k) ((B s).drop k) ((B t).drop k)) (fun i=>s.size - (intOf i).toNat)
 case atStart=>exact ⟨0,Nat.zero_le _,rfl,M.out⟩
 case round=>
  obtain ⟨k,hk',rfl,hno⟩:=hrel
  have HN:=Lib.hid hno
  clear hno M
  by_cases hlt:k < s.size
  ·have ST:=Lib.hid (cwT_step hlt (B s) (B t))
   have A1:=Lib.hid (weigh_any s k ⟨w.heap.size,0,none⟩ V c0)
   have A2:=Lib.hid (weigh_any t k ⟨w.heap.size+1,0,none⟩ V c1)
   by_cases hx:sgn (vw ((B s).drop k) - vw ((B t).drop k))=0
   ·have N2:=Lib.hid (show cwL (B s) (B t)=cwT (s.size - (k+1)) ((B s).drop (k+1)) ((B t).drop (k+1)) by rw [HN.out,ST.out,if_neg (by simp [hx])])
    have t1:(sgn (vw ((B s).drop k) - vw ((B t).drop k)) != 0)=false:=by rw [bne_eq_false_iff_eq];exact hx
    clear hx
    go_wp2_with (first|(go_at_call 205;(with_reducible refine A1.out.mono ?_);rintro e w' ⟨rfl,rfl⟩)|(go_at_call 205;(with_reducible refine A2.out.mono ?_);rintro e w' ⟨rfl,rfl⟩)|(go_at_call 161;(with_reducible refine (C.out _ _ _).mono ?_);rintro e w' ⟨rfl,rfl⟩))
    go_round
    case rel=>exact ⟨k+1,by omega,by go_num,N2.out⟩
    case measure=>simp [intOf];omega
   ·have N2:=Lib.hid (show cwL (B s) (B t)=sgn (vw ((B s).drop k) - vw ((B t).drop k)) by rw [HN.out,ST.out,if_pos hx])
    have t1:(sgn (vw ((B s).drop k) - vw ((B t).drop k)) != 0)=true:=by rw [bne_iff_ne];exact hx
    clear hx
    go_wp2_with (first|(go_at_call 205;(with_reducible refine A1.out.mono ?_);rintro e w' ⟨rfl,rfl⟩)|(go_at_call 205;(with_reducible refine A2.out.mono ?_);rintro e w' ⟨rfl,rfl⟩)|(go_at_call 161;(with_reducible refine (C.out _ _ _).mono ?_);rintro e w' ⟨rfl,rfl⟩))
    go_ret
    exact ⟨by rw [N2.out];rfl,hB⟩
  ·have N2:=Lib.hid (show cwL (B s) (B t)=0 by rw [HN.out,show s.size - k=0 by omega];rfl)
   go_wp2
   go_ret
   exact ⟨by rw [N2.out];rfl,hB⟩
theorem words_any (s t:ByteArray) (w:World) (hs:s.size≤9223372036854775807) (ht:t.size≤9223372036854775807) :
  Calls Tryz.prog 181 #[.string s,.string t] w fun e w'=>e=.returned (.int .i64 (cwL (B s) (B t)))∧Below w.heap.size w w':=by
 by_cases h:s.size < t.size
 ·exact words_lt s t w hs ht h
 ·exact words_ge s t w hs ht h
end Go.Proofs.YtpilmhoakopcaaaGreatDoor
