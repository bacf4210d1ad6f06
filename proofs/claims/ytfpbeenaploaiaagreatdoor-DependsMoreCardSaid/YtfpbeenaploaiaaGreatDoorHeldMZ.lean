/- 'append(append([]api.Atom{}, x...), y)' in whatever order its operations come up. No condition. -/
import Derived.Test.YtfpbeenaploaiaaGreatDoorD4aZ
import Derived.Test.YtfpbeenaploaiaaGreatDoorMD
set_option maxRecDepth 100000
set_option linter.unusedVariables false
set_option linter.unusedSimpArgs false
namespace Go.Proofs.YtfpbeenaploaiaaGreatDoor
open Go.RowKit
/-- One atom, in a block that is known whole. -/
theorem one_atm {w : World} {S : Nat → Prop} {b : Nat} {n : ByteArray} {o : Int} {v : ByteArray} {T : TypeId} (hb : w.heap[b]? = some (.cells #[.string n, .int .i64 o, .string v] T (0, 0))) (hS : S b) : rdAtms w S [⟨n, o, v⟩] [.slice (some ⟨b, 0, none⟩) 1 1] :=
  rd_block rdAtm_good (S := S) (l := [⟨n, o, v⟩]) (css := [[.string n, .int .i64 o, .string v]]) hb hS rfl rfl (fun k hk => by
    simp only [List.length_singleton] at hk
    obtain rfl : k = 0 := by omega
    exact ⟨_, rfl, rfl⟩) (by simp)
/-! ### The two appends -/
/-- Ahead of the first append: the empty row in block b, the list to be copied. -/
structure Mp (W WX : World) (b : Nat) (l : List Atm) (x : Value) : Prop where
  g : Grow rdAtm 3 (fun _ => True) WX W.heap.size 25 (.slice (some ⟨b, 0, none⟩) 0 0) []
  x : rdAtms WX (lt_ W.heap.size) l [x]
  s : ∀ c, lt_ W.heap.size c → True ∧ c < WX.heap.size ∧ (Value.slice (some ⟨b, 0, none⟩) 0 0).ownBlock ≠ some c
  bs : W.heap.size ≤ WX.heap.size
  bel : Below W.heap.size W WX
theorem mp_of {W WX : World} {b : Nat} {l : List Atm} {x : Value} (hx : rdAtms W (lt_ W.heap.size) l [x]) (hb : WX.heap[b]? = some (.cells #[] 25 (0, 0))) (hge : W.heap.size ≤ b) (bel : Below W.heap.size W WX) : Mp W WX b l x :=
  ⟨Grow.empty _ hb hge, rdAtms_good.below hx bel, fun c hc => ⟨trivial, Nat.lt_of_lt_of_le hc bel.size, fun hh => by simp only [Value.ownBlock, Option.some.injEq] at hh; unfold lt_ at hc; omega⟩, bel.size, bel⟩
theorem mpA {W : World} {l : List Atm} {x : Value} (hx : rdAtms W (lt_ W.heap.size) l [x]) : Mp W (W.alloc (Obj.cells #[] 25)).drew W.heap.size l x :=
  mp_of hx (heap_alloc_new W _) (Nat.le_refl _) (belD ((Below.refl _ W).alloc (Nat.le_refl _) _) 1)
theorem mpB {W : World} {l : List Atm} {x : Value} (n : ByteArray) (o : Int) (v : ByteArray) (hx : rdAtms W (lt_ W.heap.size) l [x]) : Mp W ((W.alloc (Obj.cells #[] 25)).alloc (Obj.cells #[Value.string n, Value.int .i64 o, Value.string v] 25)).drew W.heap.size l x :=
  mp_of hx (old_heap _ (heap_alloc_new W _)) (Nat.le_refl _) (belD (((Below.refl _ W).alloc (Nat.le_refl _) _).alloc (by simp) _) 1)
theorem mpC {W : World} {l : List Atm} {x : Value} (n : ByteArray) (o : Int) (v : ByteArray) (hx : rdAtms W (lt_ W.heap.size) l [x]) : Mp W ((W.alloc (Obj.cells #[Value.string n, Value.int .i64 o, Value.string v] 25)).alloc (Obj.cells #[] 25)).drew (W.heap.size + 1) l x :=
  mp_of hx (by have := heap_alloc_new (W.alloc (Obj.cells #[Value.string n, Value.int .i64 o, Value.string v] 25)) (Obj.cells #[] 25); rw [World.size_alloc] at this; exact this) (Nat.le_succ _) (belD (((Below.refl _ W).alloc (Nat.le_refl _) _).alloc (by simp) _) 1)
/-- Ahead of the second append: what has been copied, and the field in block b. -/
structure Mp2 (W WY : World) (b : Nat) (l : List Atm) (v3 : Value) (n : ByteArray) (o : Int) (v : ByteArray) : Prop where
  g : Grow rdAtm 3 (fun _ => True) WY W.heap.size 25 v3 l
  x : rdAtms WY (fun c => c = b) [⟨n, o, v⟩] [.slice (some ⟨b, 0, none⟩) 1 1]
  s : ∀ c, c = b → True ∧ c < WY.heap.size ∧ v3.ownBlock ≠ some c
  bs : W.heap.size ≤ WY.heap.size
  bel : Below W.heap.size W WY
theorem mp_next {W WX w3 : World} {b : Nat} {l : List Atm} {x v3 : Value} (a : Mp W WX b l x) (hG : Grow rdAtm 3 (fun _ => True) w3 W.heap.size 25 v3 l) (hg : WX.grownBy w3 (Value.slice (some ⟨b, 0, none⟩) 0 0).ownBlock) : W.heap.size ≤ w3.heap.size ∧ Below W.heap.size W w3 :=
  ⟨Nat.le_trans a.bs hg.size, grow_below a.g hg a.bel (Nat.le_refl _) a.bs⟩
theorem mp2A {W WX w3 : World} {b : Nat} {l : List Atm} {x v3 : Value} (n : ByteArray) (o : Int) (v : ByteArray) (a : Mp W WX b l x) (hG : Grow rdAtm 3 (fun _ => True) w3 W.heap.size 25 v3 l) (hg : WX.grownBy w3 (Value.slice (some ⟨b, 0, none⟩) 0 0).ownBlock) :
    Mp2 W (w3.alloc (Obj.cells #[Value.string n, Value.int .i64 o, Value.string v] 25)) w3.heap.size l v3 n o v := by
  obtain ⟨h1, h2⟩ := mp_next a hG hg
  exact ⟨hG.alloc rdAtm_good _, one_atm (heap_alloc_new w3 _) rfl, fun c hc => ⟨trivial, by rw [World.size_alloc]; omega, fun hh => by have := (hG.lt c hh).2; omega⟩, by rw [World.size_alloc]; omega, h2.alloc h1 _⟩
theorem mp2BC {W WX w3 : World} {b q : Nat} {l : List Atm} {x v3 : Value} {n : ByteArray} {o : Int} {v : ByteArray} (a : Mp W WX b l x) (hq : WX.heap[q]? = some (.cells #[Value.string n, Value.int .i64 o, Value.string v] 25 (0, 0))) (hqb : q ≠ b) (hG : Grow rdAtm 3 (fun _ => True) w3 W.heap.size 25 v3 l)
    (hg : WX.grownBy w3 (Value.slice (some ⟨b, 0, none⟩) 0 0).ownBlock) (hm : v3.ownBlock = (Value.slice (some ⟨b, 0, none⟩) 0 0).ownBlock ∨ ∃ c, v3.ownBlock = some c ∧ WX.heap.size ≤ c) : Mp2 W w3 q l v3 n o v := by
  obtain ⟨h1, h2⟩ := mp_next a hG hg
  have hlt : q < WX.heap.size := (Array.getElem?_eq_some_iff.1 hq).1
  have hne : ∀ c, c = q → v3.ownBlock ≠ some c := fun c hc hh => by
    rcases hm with h | ⟨d, h, hd⟩
    · rw [h] at hh; simp only [Value.ownBlock, Option.some.injEq] at hh; omega
    · rw [h] at hh; injection hh with hh; omega
  exact ⟨hG, one_atm ((hg.block q hlt (fun hh => by simp only [Value.ownBlock, Option.some.injEq] at hh; omega)).trans hq) rfl, fun c hc => ⟨trivial, by have := hg.size; omega, hne c hc⟩, h1, h2⟩
theorem mp2B {W w3 : World} {l : List Atm} {x v3 : Value} {n : ByteArray} {o : Int} {v : ByteArray} (a : Mp W ((W.alloc (Obj.cells #[] 25)).alloc (Obj.cells #[Value.string n, Value.int .i64 o, Value.string v] 25)).drew W.heap.size l x) (hG : Grow rdAtm 3 (fun _ => True) w3 W.heap.size 25 v3 l)
    (hg : ((W.alloc (Obj.cells #[] 25)).alloc (Obj.cells #[Value.string n, Value.int .i64 o, Value.string v] 25)).drew.grownBy w3 (Value.slice (some ⟨W.heap.size, 0, none⟩) 0 0).ownBlock) (hm : v3.ownBlock = (Value.slice (some ⟨W.heap.size, 0, none⟩) 0 0).ownBlock ∨ ∃ c, v3.ownBlock = some c ∧ ((W.alloc (Obj.cells #[] 25)).alloc (Obj.cells #[Value.string n, Value.int .i64 o, Value.string v] 25)).drew.heap.size ≤ c) : Mp2 W w3 (W.heap.size + 1) l v3 n o v :=
  mp2BC a (by have := heap_alloc_new (W.alloc (Obj.cells #[] 25)) (Obj.cells #[Value.string n, Value.int .i64 o, Value.string v] 25); rw [World.size_alloc] at this; exact this) (by omega) hG hg hm
theorem mp2C {W w3 : World} {l : List Atm} {x v3 : Value} {n : ByteArray} {o : Int} {v : ByteArray} (a : Mp W ((W.alloc (Obj.cells #[Value.string n, Value.int .i64 o, Value.string v] 25)).alloc (Obj.cells #[] 25)).drew (W.heap.size + 1) l x) (hG : Grow rdAtm 3 (fun _ => True) w3 W.heap.size 25 v3 l)
    (hg : ((W.alloc (Obj.cells #[Value.string n, Value.int .i64 o, Value.string v] 25)).alloc (Obj.cells #[] 25)).drew.grownBy w3 (Value.slice (some ⟨W.heap.size + 1, 0, none⟩) 0 0).ownBlock) (hm : v3.ownBlock = (Value.slice (some ⟨W.heap.size + 1, 0, none⟩) 0 0).ownBlock ∨ ∃ c, v3.ownBlock = some c ∧ ((W.alloc (Obj.cells #[Value.string n, Value.int .i64 o, Value.string v] 25)).alloc (Obj.cells #[] 25)).drew.heap.size ≤ c) : Mp2 W w3 W.heap.size l v3 n o v :=
  mp2BC a (old_heap _ (heap_alloc_new W _)) (by omega) hG hg hm
theorem mp_end {W WY w5 : World} {b : Nat} {l : List Atm} {v3 v5 : Value} {n : ByteArray} {o : Int} {v : ByteArray} (a : Mp2 W WY b l v3 n o v) (hG : Grow rdAtm 3 (fun _ => True) w5 W.heap.size 25 v5 (l ++ [⟨n, o, v⟩])) (hg : WY.grownBy w5 v3.ownBlock) :
    Below W.heap.size W w5 ∧ rdAtms w5 (fun b => W.heap.size ≤ b ∧ b < w5.heap.size) (l ++ [⟨n, o, v⟩]) [v5] := by
  refine ⟨grow_below a.g hg a.bel (Nat.le_refl _) a.bs, ?_⟩
  have h2 : Grow rdAtm 3 (fun _ => False) w5 W.heap.size 25 v5 (l ++ [⟨n, o, v⟩]) := hG.flat fun _ _ _ _ _ h => h
  exact rdAtms_good.more (h2.reads rdAtm_good) fun b hb => ⟨hb.2.resolve_right id, hb.1⟩
end Go.Proofs.YtfpbeenaploaiaaGreatDoor
