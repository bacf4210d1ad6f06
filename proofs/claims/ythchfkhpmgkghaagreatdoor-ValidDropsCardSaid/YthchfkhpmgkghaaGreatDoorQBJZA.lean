/- What the laws rest on: N9b. -/
import Derived.Shelf.Strings.Trim
import Derived.Shelf.Small.Bits
import Derived.Shelf.Small.Wraps
import Derived.Shelf.Strconv.Atoi
import Derived.Shelf.Strconv.Itoa0
import Derived.Shelf.Strconv.Itoa1
import Derived.Shelf.LaysM
import Derived.Shelf.Strconv.Itoa2
import Derived.Shelf.Strconv.Itoa3
import Derived.Shelf.Strconv.AtoiErrFast
import Derived.Shelf.Strconv.ParseIntEmpty
import Derived.Shelf.Strconv.AtoiFail
import Derived.Shelf.Strconv.Clone
import Derived.Shelf.Strconv.SyntaxError
import Derived.Shelf.LaysC
import Derived.Shelf.Strconv.ToError
import Derived.Shelf.Strconv.Lower
import Derived.Shelf.Strconv.ParseUint10
import Derived.Shelf.Strconv.ParseUint10Empty
import Derived.Shelf.Strconv.ParseUint10Any
import Derived.Shelf.Strconv.ParseInt10
import Derived.Shelf.Strconv.AtoiLong
import Derived.Shelf.Strconv.AtoiInnerAll
import Derived.Shelf.Strconv.RangeError
import Derived.Shelf.Strconv.ToErrorRange
import Derived.Shelf.Strconv.AtoiAll
import Derived.Shelf.Strconv.ErrVarAll
import Derived.Shelf.Strings.Search1
import Derived.Shelf.Strings.Search2
import Derived.Shelf.Strings.Search3
import Derived.Shelf.Strings.Cut
import Derived.Shelf.Strings.Shaped
import Derived.Shelf.Strings.LastIndex
import Derived.Shelf.Strings.Prefix
import Derived.Ground.Names2Prog
import Derived.Shelf.Slices.CompactI
import Derived.Shelf.Slices.Cells
import Derived.Ground.SlgnProg
import Derived.Shelf.SlicesE.Clone
import Derived.Lib.AppendIntMem
import Derived.Lib.IndexAny
import Derived.Lib.IndexBytes
import Derived.BigRegion
import Derived.Outline
import Derived.Deep.RegionWith
import Derived.Shelf.SlSortCmp.KitK
import Derived.Lib.SliceRun
import Derived.Test.YthchfkhpmgkghaaGreatDoorQBAZA
set_option maxRecDepth 100000
set_option linter.unusedVariables false
set_option linter.unusedSimpArgs false
namespace Go.Proofs.YthchfkhpmgkghaaGreatDoor
open Go.RowKit Go.Sort
set_option maxHeartbeats 2000000 in
theorem cloneE9_any (A:Option Addr) (n c:Nat) (l:List Ent) (w:World) (h:rdEnts w (lt_ w.heap.size) l [.slice A n c]) (hl:l.length≤200) :
  Calls Tryz.prog 59 #[.slice A n c] w fun e w'=>(∃v',e=.returned v'∧Grow rdEnt 6 (lt_ w.heap.size) w' w.heap.size 67 v' l)∧Below w.heap.size w w':=by
 have qT:∀(w:World) (a:Option Addr) (n c n' c':Nat),(binOp .eql 22 (.slice a n c) (.slice none n' c')).run Tryz.prog w=.ok (.bool a.isNone) w:=fun w a n c n' c'=>Lib.run_eql_slice_nil w _ _ a n c n' c' Tryz.underlying22
 obtain ⟨i0,hi,hz0,hz1,hz2⟩:=info_parts ent9_info
 obtain ⟨rfl,hnc,hcm,hat⟩:=rdEnts_at h
 have hcm':c≤9223372036854775807:=hcm
 cases A with
 | none=>
  obtain rfl:l=[]:=by
   rcases Nat.eq_zero_or_pos l.length with h0|h0
   ·exact List.eq_nil_of_length_eq_zero h0
   ·obtain ⟨_,_,_,_,_,_,_,_,_,e,_⟩:=hat 0 h0
    cases e
  clear h hat hcm
  go_enter Tryz.func59,Tryz.ntmps59
  go_wp2
  go_ret
  exact ⟨⟨_,rfl,Grow.nil _ _ _ _⟩,Below.refl _ _⟩
 | some ad=>
  have B1:=(Below.refl w.heap.size w).alloc (Nat.le_refl _) (.cells #[] 67)
  have hG:=Grow.empty (E:=rdEnt) (sz:=6) (lt_ w.heap.size) (W:=w.alloc (.cells #[] 67)) (base:=w.heap.size) (heap_alloc_new w _) (Nat.le_refl _)
  have hX:=rdEnts_good.below h B1
  have hn1:([]:List Ent).length+l.length≤maxLen:=by simp only [List.length_nil];unfold maxLen;omega
  have hn2:(([]:List Ent).length+l.length)*128≤140737488355328:=by simp only [List.length_nil];omega
  have hS:∀b,lt_ w.heap.size b→lt_ w.heap.size b∧b < (w.alloc (.cells #[] 67)).heap.size∧(Value.slice (some ⟨w.heap.size,0,none⟩) 0 0).ownBlock≠some b:=fun b hb=>⟨hb,by rw [World.size_alloc];unfold lt_ at hb;omega,fun hh=>by simp only [Value.ownBlock,Option.some.injEq] at hh;unfold lt_ at hb;omega⟩
  have hbs:w.heap.size≤(w.alloc (.cells #[] 67)).heap.size:=by rw [World.size_alloc];omega
  have HB1:=Lib.hid B1
  clear h B1 hcm hat
  go_enter Tryz.func59,Tryz.ntmps59
  go_wp2_with (at_builtin;refine wpList_growN _ rfl _ _ 22 22 rfl rdEnt_good (by decide) (lt_ w.heap.size) w.heap.size 67 67 i0 (.agg #[.string { data:=#[] },.string { data:=#[] },.slice none 0 0,.slice none 0 0,.slice none 0 0,.slice none 0 0]) 128 Tryz.underlying22 Tryz.underlying22 hi hz0 hz1 hz2 rfl _ _ rfl hG l _ (some ad) l.length c rfl hX hS hn1 hn2 hbs ?_)
  intro v' w1 hG1 hg1
  have HB2:=Lib.hid (grow_below hG hg1 HB1.out (Nat.le_refl _) hbs)
  have HG:=Lib.hid hG1
  clear hG hX hg1 hn1 hn2 hS hbs hG1
  go_wp2
  go_ret
  exact ⟨⟨_,rfl,HG.out⟩,HB2.out⟩
end Go.Proofs.YthchfkhpmgkghaaGreatDoor
