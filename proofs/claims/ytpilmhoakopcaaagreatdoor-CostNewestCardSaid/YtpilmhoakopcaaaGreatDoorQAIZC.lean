/- What the laws rest on: VD0, VD2. -/
import Derived.Deep.Draws
import Derived.Sort.Grow
import Derived.Test.YtpilmhoakopcaaaGreatDoorQZ0ZC
set_option maxRecDepth 100000
set_option linter.unusedVariables false
set_option linter.unusedSimpArgs false
namespace Go.Proofs.YtpilmhoakopcaaaGreatDoor
open Go.RowKit Go.Sort
structure BelD (N:Nat) (w w':World):Prop where
 b:Below N w w'
 d:w.drawn≤w'.drawn
section
variable {N M:Nat} {a w w':World}
theorem BelD.refl (N:Nat) (w:World):BelD N w w:=⟨Below.refl _ _,Nat.le_refl _⟩
theorem BelD.trans {x y z:World} (h:BelD N x y) (k:BelD N y z):BelD N x z:=⟨h.b.trans k.b,Nat.le_trans h.d k.d⟩
theorem BelD.mono (h:BelD N w w') (hn:M≤N):BelD M w w':=⟨h.b.mono hn,h.d⟩
theorem BelD.drew (h:BelD N a w):BelD N a w.drew:=⟨h.b.drew,Nat.le_succ_of_le h.d⟩
theorem BelD.drewN (h:BelD N a w) (n:Nat):BelD N a (w.drewN n):=⟨⟨h.b.os,h.b.tape,h.b.output,h.b.size,h.b.block⟩,Nat.le_trans h.d (Nat.le_add_right _ _)⟩
theorem BelD.alloc (h:BelD N a w) (hB:N≤w.heap.size) (o:Obj):BelD N a (w.alloc o):=⟨h.b.alloc hB o,h.d⟩
theorem BelD.setCell (h:BelD N a w) {p:Addr} (hp:N≤p.block) (u:Value):BelD N a (w.setCell p u):=⟨h.b.setCell hp u,h.d⟩
theorem BelD.size (h:BelD N w w'):w.heap.size≤w'.heap.size:=h.b.size
theorem BelD.cell (h:BelD N w w') {p:Addr} (hp:p.block < N):w'.cell? p=w.cell? p:=h.b.cell hp
theorem BelD.frozen (h:BelD N w w') {p:Addr} (hp:p.block < N):w'.frozen? p=w.frozen? p:=h.b.frozen hp
theorem BelD.grow (hN:N≤w.heap.size) (n:Nat) (os:Array Obj):BelD N w (Sort.grow (w.drewN n) os):=by
 refine ⟨⟨rfl,rfl,rfl,?_,fun k hk=>?_⟩,Nat.le_add_right _ _⟩
 ·show w.heap.size≤(w.heap++os).size
  rw [Array.size_append];omega
 ·show (w.heap++os)[k]?=_
  rw [Array.getElem?_append_left (by omega)]
theorem BelD.grows (h:BelD w.heap.size w w'):∃q os,w'=Sort.grow (w.drewN q) os:=by
 obtain ⟨⟨h1,h2,h3,h4,h5⟩,h6⟩:=h
 refine ⟨w'.drawn - w.drawn,w'.heap.extract w.heap.size w'.heap.size,?_⟩
 have hh:w'.heap=w.heap++w'.heap.extract w.heap.size w'.heap.size:=by
  refine Array.ext_getElem? fun i=>?_
  by_cases hi:i < w.heap.size
  ·rw [Array.getElem?_append_left hi,h5 i hi]
  ·rw [Array.getElem?_append_right (by omega),Array.getElem?_extract]
   by_cases hj:i < w'.heap.size
   ·rw [if_pos (by omega)];congr 1;omega
   ·rw [if_neg (by omega)];exact Array.getElem?_eq_none (by omega)
 obtain ⟨hp,tp,dr,o,out⟩:=w
 obtain ⟨hp',tp',dr',o',out'⟩:=w'
 simp only at h1 h2 h3 h6 hh
 subst h1 h2 h3
 unfold Sort.grow World.drewN
 simp only
 rw [←hh,show dr+(dr' - dr)=dr' by omega]
end
end Go.Proofs.YtpilmhoakopcaaaGreatDoor
namespace Go.Proofs.YtpilmhoakopcaaaGreatDoor
open Go.RowKit
theorem words_ltD (s t:ByteArray) (w:World) (hs:s.size≤9223372036854775807) (ht:t.size≤9223372036854775807) (h:s.size < t.size) :
  Calls Tryz.prog 181 #[.string s,.string t] w fun e w'=>e=.returned (.int .i64 (cwL (B s) (B t)))∧BelD w.heap.size w w':=by
 have hcf:∀(args:Array Value) (w:World),(callFunc 205 args).run Tryz.prog w=.ok (.enter 205 args) w:=fun _ _=>by kernel_rfl
 have C:=Lib.hid cmpInt_any
 have WS:=Lib.hid (weigher_any s w)
 have WT:=Lib.hid (weigher_any t (w.alloc (.cells #[.string s] 9)))
 have M:=Lib.hid (show cwL (B s) (B t)=cwT (t.size - 0) ((B s).drop 0) ((B t).drop 0) by
  unfold cwL;rw [B_len,B_len,List.drop_zero,List.drop_zero,Nat.sub_zero];congr 1;omega)
 go_enter Tryz.func181,Tryz.ntmps181
 go_wp2_with (first|(go_at_call 195;(with_reducible refine WS.out.mono ?_);rintro e w' ⟨rfl,rfl⟩)|(go_at_call 195;(with_reducible refine WT.out.mono ?_);rintro e w' ⟨rfl,rfl⟩))
 obtain ⟨V,hV⟩:∃V,V=(w.alloc (.cells #[.string s] 9)).alloc (.cells #[.string t] 9):=⟨_,rfl⟩
 have c0:V.cell? ⟨w.heap.size,0,none⟩=some (.string s):=by rw [hV];simp [go_sem]
 have c1:V.cell? ⟨w.heap.size+1,0,none⟩=some (.string t):=by rw [hV];simp [go_sem]
 have hB:BelD w.heap.size w V:=by rw [hV];exact ((BelD.refl _ w).alloc (Nat.le_refl _) _).alloc (by simp) _
 rw [←hV]
 clear hV WS WT h
 go_loop [18] (fun i=>∃k:Nat,k≤t.size∧i=.int .i64 k∧cwL (B s) (B t)=cwT (t.size - k) ((B s).drop k) ((B t).drop k)) (fun i=>t.size - (intOf i).toNat)
 case atStart=>exact ⟨0,Nat.zero_le _,rfl,M.out⟩
 case round=>
  obtain ⟨k,hk',rfl,hno⟩:=hrel
  have HN:=Lib.hid hno
  clear hno M
  by_cases hlt:k < t.size
  ·have ST:=Lib.hid (cwT_step hlt (B s) (B t))
   have A1:=Lib.hid (weigh_any s k ⟨w.heap.size,0,none⟩ V c0)
   have A2:=Lib.hid (weigh_any t k ⟨w.heap.size+1,0,none⟩ V c1)
   by_cases hx:sgn (vw ((B s).drop k) - vw ((B t).drop k))=0
   ·have N2:=Lib.hid (show cwL (B s) (B t)=cwT (t.size - (k+1)) ((B s).drop (k+1)) ((B t).drop (k+1)) by rw [HN.out,ST.out,if_neg (by simp [hx])])
    have t1:(sgn (vw ((B s).drop k) - vw ((B t).drop k)) != 0)=false:=by rw [bne_eq_false_iff_eq];exact hx
    clear hx
    go_wp2_with (first|(go_at_call 205;(with_reducible refine A1.out.mono ?_);rintro e w' ⟨rfl,rfl⟩)|(go_at_call 205;(with_reducible refine A2.out.mono ?_);rintro e w' ⟨rfl,rfl⟩)|(go_at_call 161;(with_reducible refine (C.out _ _ _).mono ?_);rintro e w' ⟨rfl,rfl⟩))
    go_round
    case rel=>exact ⟨k+1,by omega,by go_num,N2.out⟩
    case measure=>simp [intOf];omega
   ·have N2:=Lib.hid (show cwL (B s) (B t)=sgn (vw ((B s).drop k) - vw ((B t).drop k)) by rw [HN.out,ST.out,if_pos hx])
    have t1:(sgn (vw ((B s).drop k) - vw ((B t).drop k)) != 0)=true:=by rw [bne_iff_ne];exact hx
    clear hx
    go_wp2_with (first|(go_at_call 205;(with_reducible refine A1.out.mono ?_);rintro e w' ⟨rfl,rfl⟩)|(go_at_call 205;(with_reducible refine A2.out.mono ?_);rintro e w' ⟨rfl,rfl⟩)|(go_at_call 161;(with_reducible refine (C.out _ _ _).mono ?_);rintro e w' ⟨rfl,rfl⟩))
    go_ret
    exact ⟨by rw [N2.out];rfl,hB⟩
  ·have N2:=Lib.hid (show cwL (B s) (B t)=0 by rw [HN.out,show t.size - k=0 by omega];rfl)
   go_wp2
   go_ret
   exact ⟨by rw [N2.out];rfl,hB⟩
theorem words_geD (s t:ByteArray) (w:World) (hs:s.size≤9223372036854775807) (ht:t.size≤9223372036854775807) (h:¬s.size < t.size) :
  Calls Tryz.prog 181 #[.string s,.string t] w fun e w'=>e=.returned (.int .i64 (cwL (B s) (B t)))∧BelD w.heap.size w w':=by
 have hcf:∀(args:Array Value) (w:World),(callFunc 205 args).run Tryz.prog w=.ok (.enter 205 args) w:=fun _ _=>by kernel_rfl
 have C:=Lib.hid cmpInt_any
 have WS:=Lib.hid (weigher_any s w)
 have WT:=Lib.hid (weigher_any t (w.alloc (.cells #[.string s] 9)))
 have M:=Lib.hid (show cwL (B s) (B t)=cwT (s.size - 0) ((B s).drop 0) ((B t).drop 0) by
  unfold cwL;rw [B_len,B_len,List.drop_zero,List.drop_zero,Nat.sub_zero];congr 1;omega)
 go_enter Tryz.func181,Tryz.ntmps181
 go_wp2_with (first|(go_at_call 195;(with_reducible refine WS.out.mono ?_);rintro e w' ⟨rfl,rfl⟩)|(go_at_call 195;(with_reducible refine WT.out.mono ?_);rintro e w' ⟨rfl,rfl⟩))
 obtain ⟨V,hV⟩:∃V,V=(w.alloc (.cells #[.string s] 9)).alloc (.cells #[.string t] 9):=⟨_,rfl⟩
 have c0:V.cell? ⟨w.heap.size,0,none⟩=some (.string s):=by rw [hV];simp [go_sem]
 have c1:V.cell? ⟨w.heap.size+1,0,none⟩=some (.string t):=by rw [hV];simp [go_sem]
 have hB:BelD w.heap.size w V:=by rw [hV];exact ((BelD.refl _ w).alloc (Nat.le_refl _) _).alloc (by simp) _
 rw [←hV]
 clear hV WS WT h
 go_loop [18] (fun i=>∃k:Nat,k≤s.size∧i=.int .i64 k∧cwL (B s) (B t)=cwT (s.size - k) ((B s).drop k) ((B t).drop k)) (fun i=>s.size - (intOf i).toNat)
 case atStart=>exact ⟨0,Nat.zero_le _,rfl,M.out⟩
 case round=>
  obtain ⟨k,hk',rfl,hno⟩:=hrel
  have HN:=Lib.hid hno
  clear hno M
  by_cases hlt:k < s.size
  ·have ST:=Lib.hid (cwT_step hlt (B s) (B t))
   have A1:=Lib.hid (weigh_any s k ⟨w.heap.size,0,none⟩ V c0)
   have A2:=Lib.hid (weigh_any t k ⟨w.heap.size+1,0,none⟩ V c1)
   by_cases hx:sgn (vw ((B s).drop k) - vw ((B t).drop k))=0
   ·have N2:=Lib.hid (show cwL (B s) (B t)=cwT (s.size - (k+1)) ((B s).drop (k+1)) ((B t).drop (k+1)) by rw [HN.out,ST.out,if_neg (by simp [hx])])
    have t1:(sgn (vw ((B s).drop k) - vw ((B t).drop k)) != 0)=false:=by rw [bne_eq_false_iff_eq];exact hx
    clear hx
    go_wp2_with (first|(go_at_call 205;(with_reducible refine A1.out.mono ?_);rintro e w' ⟨rfl,rfl⟩)|(go_at_call 205;(with_reducible refine A2.out.mono ?_);rintro e w' ⟨rfl,rfl⟩)|(go_at_call 161;(with_reducible refine (C.out _ _ _).mono ?_);rintro e w' ⟨rfl,rfl⟩))
    go_round
    case rel=>exact ⟨k+1,by omega,by go_num,N2.out⟩
    case measure=>simp [intOf];omega
   ·have N2:=Lib.hid (show cwL (B s) (B t)=sgn (vw ((B s).drop k) - vw ((B t).drop k)) by rw [HN.out,ST.out,if_pos hx])
    have t1:(sgn (vw ((B s).drop k) - vw ((B t).drop k)) != 0)=true:=by rw [bne_iff_ne];exact hx
    clear hx
    go_wp2_with (first|(go_at_call 205;(with_reducible refine A1.out.mono ?_);rintro e w' ⟨rfl,rfl⟩)|(go_at_call 205;(with_reducible refine A2.out.mono ?_);rintro e w' ⟨rfl,rfl⟩)|(go_at_call 161;(with_reducible refine (C.out _ _ _).mono ?_);rintro e w' ⟨rfl,rfl⟩))
    go_ret
    exact ⟨by rw [N2.out];rfl,hB⟩
  ·have N2:=Lib.hid (show cwL (B s) (B t)=0 by rw [HN.out,show s.size - k=0 by omega];rfl)
   go_wp2
   go_ret
   exact ⟨by rw [N2.out];rfl,hB⟩
theorem words_anyD (s t:ByteArray) (w:World) (hs:s.size≤9223372036854775807) (ht:t.size≤9223372036854775807) :
  Calls Tryz.prog 181 #[.string s,.string t] w fun e w'=>e=.returned (.int .i64 (cwL (B s) (B t)))∧BelD w.heap.size w w':=by
 by_cases h:s.size < t.size
 ·exact words_ltD s t w hs ht h
 ·exact words_geD s t w hs ht h
end Go.Proofs.YtpilmhoakopcaaaGreatDoor
