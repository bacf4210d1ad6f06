/- What the laws rest on: StzT, D4t, P6n. -/
import Derived.Deep.CutRange
import Derived.IntWalk
import Derived.Lib.SplitLaws
import Derived.Shelf.Strings.BuilderX
import Derived.Lib.Builder
import Derived.Lib.AppendStr
import Derived.Lib.UnsafeStr
import Derived.Lib.MakeNoZero
import Derived.Laws.Externs
import Derived.Test.YtboinnjncaehkaaGreatDoorQBLZA
set_option maxRecDepth 100000
set_option linter.unusedVariables false
set_option linter.unusedSimpArgs false
namespace Go.Proofs.YtboinnjncaehkaaGreatDoor
open Go.RowKit
theorem all_eq {α:Type} {p q:α→Bool} {l:List α} (h:∀x ∈ l,p x=q x):l.all p=l.all q:=by
 induction l with
 | nil=>rfl
 | cons x r ih=>rw [List.all_cons,List.all_cons,h x (by simp),ih fun y hy=>h y (by simp [hy])]
theorem okP_eq {L:List (List Fd)} (h:∀st ∈ L,∀f ∈ st,f.v.size≤60000):okP L=okR L:=by
 unfold okP okR
 rw [all_eq (q:=stzR) fun st hst=>by
  unfold stzP stzR
  rw [all_eq (q:=fdR) fun f hf=>by unfold fdP fdR;rw [decide_eq_true (h st hst f hf),Bool.true_and]]]
theorem prtG_len (L:List (List Atm)):(prtG L).length≤8160:=by
 unfold prtG
 split
 ·rename_i h
  have hp:=right_parts h
  have:=joinL_len (sep:=[44,32]) (l:=L.map grpS) (M:=678) (fun t ht=>by obtain ⟨g,hg,rfl⟩:=List.mem_map.1 ht;exact grpS_len (hp.1 g hg).1 (hp.1 g hg).2)
  rw [List.length_map] at this
  have h2:L.length*(678+[44,32].length)≤12*680:=Nat.mul_le_mul hp.2 (by decide)
  exact Nat.le_trans this h2
 ·simp
theorem wth_vals {l:List Fd} {n v:ByteArray} {N:Nat} (h:∀f ∈ l,f.v.size≤N) (hv:v.size≤N):∀f ∈ wth l n v,f.v.size≤N:=by
 unfold wth
 split
 ·exact h
 ·intro f hf
  rcases List.mem_append.1 hf with hf|hf
  ·exact h f hf
  ·rw [List.mem_singleton.1 hf];exact hv
theorem prtG_size (L:List (List Atm)):(mk (prtG L)).size≤60000:=by rw [size_mk];exact Nat.le_trans (prtG_len L) (by decide)
theorem wrE_vals {x:Ent} (hn:x.n.size≤60000) (hv:x.v.size≤60000):∀f ∈ wrE x,f.v.size≤60000:=by
 unfold wrE
 split
 ·unfold wr4 wr3 wr2 wr1
  refine wth_vals (wth_vals (wth_vals (wth_vals ?_ (prtG_size _)) (prtG_size _)) (prtG_size _)) (prtG_size _)
  intro f hf
  simp only [wr0,List.mem_cons,List.not_mem_nil,or_false] at hf
  rcases hf with rfl|rfl
  ·exact hn
  ·exact hv
 ·intro f hf;cases hf
end Go.Proofs.YtboinnjncaehkaaGreatDoor
