/- What the laws of this seat rest on: D4a, D4b, HeldM. -/
import Derived.Test.YtmlakjemgmeffaaGreatDoorMD
import Derived.Test.YtmlakjemgmeffaaGreatDoorMA
import Derived.StillTailTactics
import Derived.BigQuiet
import Derived.Deep.QuietTactic

section
/- Atoms and groups as data: their readers; the contracts of light, small. -/
set_option maxRecDepth 100000
set_option linter.unusedVariables false
set_option linter.unusedSimpArgs false
namespace Go.Proofs.YtmlakjemgmeffaaGreatDoor
open Go.RowKit
/-- An atom: a name, an operator, a version. -/
structure Atm where
  n : ByteArray
  o : Int
  v : ByteArray
def Atm.val (a : Atm) : Value := .agg #[.string a.n, .int .i64 a.o, .string a.v]
def Atm.cells (a : Atm) : List Value := [.string a.n, .int .i64 a.o, .string a.v]
def rdAtm : Rd Atm := fun _ _ a cs => cs = a.cells
theorem rdAtm_good : Good rdAtm 3 := ⟨fun h _ => h, fun h _ => h, fun h _ _ => h, fun h => by rw [h]; rfl, fun h u hu => by rw [h] at hu; simp [Atm.cells] at hu; rcases hu with rfl | rfl | rfl <;> rfl⟩
abbrev rdAtms : Rd (List Atm) := rdRow 3 rdAtm
abbrev rdGrps : Rd (List (List Atm)) := rdRow 1 rdAtms
theorem rdAtms_good : Good rdAtms 1 := rdRow_good rdAtm_good
theorem rdGrps_good : Good rdGrps 1 := rdRow_good rdAtms_good
theorem off_add (a : Addr) (k j : Nat) (hj : j ≠ 0) : (⟨(a.add k).block, (a.add k).off + j, none⟩ : Addr) = a.add (k + j) := by
  unfold Addr.add; by_cases hk : k = 0 <;> simp [hk, hj, Nat.add_assoc]
theorem rdAtms_at {w : World} {S : Nat → Prop} {l : List Atm} {A : Option Addr} {n c : Nat} (h : rdAtms w S l [.slice A n c]) : n = l.length ∧ n ≤ c ∧ c ≤ maxLen ∧ ∀ k (hk : k < l.length), ∃ ad, A = some ad ∧ S ad.block ∧
    w.cell? (ad.add (k * 3)) = some (.string l[k].n) ∧ w.cell? ⟨(ad.add (k * 3)).block, (ad.add (k * 3)).off + 1, none⟩ = some (.int .i64 l[k].o) ∧ w.cell? ⟨(ad.add (k * 3)).block, (ad.add (k * 3)).off + 2, none⟩ = some (.string l[k].v) := by
  obtain ⟨A', c', e, h1, h2, h⟩ := h
  simp only [List.cons.injEq, Value.slice.injEq, and_true] at e
  obtain ⟨rfl, rfl, rfl⟩ := e
  refine ⟨rfl, h1, h2, fun k hk => ?_⟩
  obtain ⟨ad, es, e, hS, hE, hl, hc⟩ := h k hk
  rw [show es = l[k].cells from hE] at hc
  exact ⟨ad, e, hS, hc 0 _ rfl, by rw [off_add ad (k * 3) 1 (by omega)]; exact hc 1 _ rfl, by rw [off_add ad (k * 3) 2 (by omega)]; exact hc 2 _ rfl⟩
theorem rdGrps_at {w : World} {S : Nat → Prop} {l : List (List Atm)} {A : Option Addr} {n c : Nat} (h : rdGrps w S l [.slice A n c]) : n = l.length ∧ n ≤ c ∧ c ≤ maxLen ∧ ∀ k (hk : k < l.length), ∃ ad A' c', A = some ad ∧ S ad.block ∧
    w.cell? (ad.add k) = some (.slice A' l[k].length c') ∧ rdAtms w S l[k] [.slice A' l[k].length c'] := by
  obtain ⟨A', c', e, h1, h2, h⟩ := h
  simp only [List.cons.injEq, Value.slice.injEq, and_true] at e
  obtain ⟨rfl, rfl, rfl⟩ := e
  refine ⟨rfl, h1, h2, fun k hk => ?_⟩
  obtain ⟨ad, es, e, hS, hE, hl, hc⟩ := h k hk
  have hE' := hE
  obtain ⟨A2, c2, rfl, _⟩ := hE'
  refine ⟨ad, A2, c2, e, hS, ?_, hE⟩
  have := hc 0 _ rfl
  rwa [Nat.mul_one] at this
/-- Whether atoms can be gone through. -/
def lightOne (a : Atm) : Bool := decide ((a.n.size : Int) ≤ 100) && decide ((a.v.size : Int) ≤ 100)
def lightB (l : List Atm) : Bool := decide (l.length ≤ 40) && l.all lightOne
def smallB (L : List (List Atm)) : Bool := decide (L.length ≤ 40) && L.all lightB
theorem all_takeL {α : Type} (p : α → Bool) (l : List α) (k : Nat) (hk : k < l.length) : (l.take (k + 1)).all p = ((l.take k).all p && p l[k]) := by
  rw [List.take_succ_eq_append_getElem hk, List.all_append]; simp
theorem all_stopL {α : Type} {p : α → Bool} {l : List α} {k : Nat} (hk : k < l.length) (h : p l[k] = false) : l.all p = false := by
  rw [List.all_eq_false]; exact ⟨l[k], List.getElem_mem hk, by rw [h]; decide⟩
theorem lightOne_no {x : Atm} (h : ¬ ((x.n.size : Int) ≤ 100 ∧ (x.v.size : Int) ≤ 100)) : lightOne x = false := by
  unfold lightOne; rw [Bool.and_eq_false_iff, decide_eq_false_iff_not, decide_eq_false_iff_not]; omega
theorem lightOne_yes {x : Atm} (h1 : (x.n.size : Int) ≤ 100) (h2 : (x.v.size : Int) ≤ 100) : lightOne x = true := by unfold lightOne; rw [decide_eq_true h1, decide_eq_true h2]; rfl
end Go.Proofs.YtmlakjemgmeffaaGreatDoor
end

section
/- The contracts of sameAtoms, same, sameInts. -/
set_option maxRecDepth 100000
set_option linter.unusedVariables false
set_option linter.unusedSimpArgs false
namespace Go.Proofs.YtmlakjemgmeffaaGreatDoor
open Go.RowKit
deriving instance DecidableEq for Atm
theorem atomT_struct : Tryz.prog.underlying 49 = some (.struct (Tryz.prog.fieldsOf 49)) := by kernel_rfl
theorem atomT_stood : Tryz.prog.stoodInHeld 49 = false := by kernel_rfl
theorem atomT_fields : (Tryz.prog.fieldsOf 49).toList.map (fun f => (f.type, f.offset, f.name == "_")) = [(9, 0, false), (3, 1, false), (9, 2, false)] := by kernel_rfl
theorem eq_atm (x y : Atm) (w : World) : (Op.equalIn 10000 49 x.val y.val).run Tryz.prog w = .ok (decide (x = y)) w := by
  obtain ⟨u, e, r⟩ := x
  obtain ⟨u', e', r'⟩ := y
  have hi := Tryz.underlying3
  have hs := Tryz.underlying9
  unfold Atm.val
  rw [run_equalIn_struct w 9999 _ _ _ atomT_struct atomT_stood]
  have hf := atomT_fields
  generalize (Tryz.prog.fieldsOf 49).toList = L at hf ⊢
  have hlen : L.length = 3 := by have := congrArg List.length hf; simpa using this
  have hst : ∀ a b : ByteArray, (a.toList == b.toList) = decide (a = b) := by
    intro a b
    have h := strEq (B a) b (B_lt a)
    rw [mk_B] at h
    rw [h, decide_eq_decide]
    exact ⟨fun h => B_inj h, fun h => by rw [h]⟩
  rcases L with _ | ⟨f0, _ | ⟨f1, _ | ⟨f2, _ | ⟨f3, L⟩⟩⟩⟩
  · simp at hlen
  · simp at hlen
  · simp at hlen
  · simp only [List.map_cons, List.map_nil, List.cons.injEq, Prod.mk.injEq, and_true] at hf
    obtain ⟨⟨a0, b0, c0⟩, ⟨a1, b1, c1⟩, ⟨a2, b2, c2⟩⟩ := hf
    have n0 : f0.name ≠ "_" := by simpa using c0
    have n1 : f1.name ≠ "_" := by simpa using c1
    have n2 : f2.name ≠ "_" := by simpa using c2
    simp only [Op.eqFields, n0, n1, n2, ne_eq, not_false_iff, if_true, a0, b0, a1, b1, a2, b2, Atm.mk.injEq]
    cases h1 : (e == e') <;> cases h2 : (u.toList == u'.toList) <;> cases h3 : (r.toList == r'.toList) <;> simp [part, isAgg, run_underlying hi, run_underlying hs, run_equalIn_int w 9998 _ _ _ _ _ hi, run_equalIn_string w 9998 _ _ _ hs, h1, h2, h3] <;> rw [hst] at h2 h3 <;> simp_all
  · simp at hlen
theorem neq_atm (x y : Atm) (w : World) : (Op.equalIn 10000 49 (.agg #[.string x.n, .int .i64 x.o, .string x.v]) (.agg #[.string y.n, .int .i64 y.o, .string y.v])).run Tryz.prog w = .ok (decide (x = y)) w := eq_atm x y w
def sameB (l m : List Atm) : Bool := decide (l = m)
def sameG (l m : List (List Atm)) : Bool := decide (l = m)
theorem same_take {α : Type} [DecidableEq α] {l m : List α} {k : Nat} (hl : l.length = m.length) (hk : k < l.length) (hm : k < m.length) (h : l.take k = m.take k) (he : l[k] = m[k]) : l.take (k + 1) = m.take (k + 1) := by
  rw [List.take_succ_eq_append_getElem hk, List.take_succ_eq_append_getElem hm, h, he]
def rdInt : Rd Int := fun _ _ a cs => cs = [.int .i64 a]
theorem rdInt_good : Good rdInt 1 := ⟨fun h _ => h, fun h _ => h, fun h _ _ => h, fun h => by rw [h]; rfl, fun h u hu => by rw [h] at hu; simp at hu; subst hu; rfl⟩
abbrev rdInts : Rd (List Int) := rdRow 1 rdInt
theorem rdInts_good : Good rdInts 1 := rdRow_good rdInt_good
theorem rdInts_at {w : World} {S : Nat → Prop} {l : List Int} {A : Option Addr} {n c : Nat} (h : rdInts w S l [.slice A n c]) : n = l.length ∧ n ≤ c ∧ c ≤ maxLen ∧ ∀ k (hk : k < l.length), ∃ ad, A = some ad ∧ S ad.block ∧
    w.cell? (ad.add k) = some (.int .i64 l[k]) := by
  obtain ⟨A', c', e, h1, h2, h⟩ := h
  simp only [List.cons.injEq, Value.slice.injEq, and_true] at e
  obtain ⟨rfl, rfl, rfl⟩ := e
  refine ⟨rfl, h1, h2, fun k hk => ?_⟩
  obtain ⟨ad, es, e, hS, hE, hl, hc⟩ := h k hk
  rw [show es = [.int .i64 l[k]] from hE] at hc
  have := hc 0 _ rfl
  rw [Nat.mul_one] at this
  exact ⟨ad, e, hS, this⟩
end Go.Proofs.YtmlakjemgmeffaaGreatDoor
end

section
/- 'append(append([]api.Atom{}, x...), y)' in whatever order its operations come up. No condition. -/
set_option maxRecDepth 100000
set_option linter.unusedVariables false
set_option linter.unusedSimpArgs false
namespace Go.Proofs.YtmlakjemgmeffaaGreatDoor
open Go.RowKit
/-- One atom, in a block that is known whole. -/
theorem one_atm {w : World} {S : Nat → Prop} {b : Nat} {n : ByteArray} {o : Int} {v : ByteArray} {T : TypeId} (hb : w.heap[b]? = some (.cells #[.string n, .int .i64 o, .string v] T (0, 0))) (hS : S b) : rdAtms w S [⟨n, o, v⟩] [.slice (some ⟨b, 0, none⟩) 1 1] :=
  rd_block rdAtm_good (S := S) (l := [⟨n, o, v⟩]) (css := [[.string n, .int .i64 o, .string v]]) hb hS rfl rfl (fun k hk => by
    simp only [List.length_singleton] at hk
    obtain rfl : k = 0 := by omega
    exact ⟨_, rfl, rfl⟩) (by simp)
/-! ### The two appends -/
/-- Ahead of the first append: the empty row in block b, the list to be copied. -/
structure Mp (W WX : World) (b : Nat) (l : List Atm) (x : Value) : Prop where
  g : Grow rdAtm 3 (fun _ => True) WX W.heap.size 49 (.slice (some ⟨b, 0, none⟩) 0 0) []
  x : rdAtms WX (lt_ W.heap.size) l [x]
  s : ∀ c, lt_ W.heap.size c → True ∧ c < WX.heap.size ∧ (Value.slice (some ⟨b, 0, none⟩) 0 0).ownBlock ≠ some c
  bs : W.heap.size ≤ WX.heap.size
  bel : Below W.heap.size W WX
theorem mp_of {W WX : World} {b : Nat} {l : List Atm} {x : Value} (hx : rdAtms W (lt_ W.heap.size) l [x]) (hb : WX.heap[b]? = some (.cells #[] 49 (0, 0))) (hge : W.heap.size ≤ b) (bel : Below W.heap.size W WX) : Mp W WX b l x :=
  ⟨Grow.empty _ hb hge, rdAtms_good.below hx bel, fun c hc => ⟨trivial, Nat.lt_of_lt_of_le hc bel.size, fun hh => by simp only [Value.ownBlock, Option.some.injEq] at hh; unfold lt_ at hc; omega⟩, bel.size, bel⟩
theorem mpA {W : World} {l : List Atm} {x : Value} (hx : rdAtms W (lt_ W.heap.size) l [x]) : Mp W (W.alloc (Obj.cells #[] 49)).drew W.heap.size l x :=
  mp_of hx (heap_alloc_new W _) (Nat.le_refl _) (belD ((Below.refl _ W).alloc (Nat.le_refl _) _) 1)
theorem mpB {W : World} {l : List Atm} {x : Value} (n : ByteArray) (o : Int) (v : ByteArray) (hx : rdAtms W (lt_ W.heap.size) l [x]) : Mp W ((W.alloc (Obj.cells #[] 49)).alloc (Obj.cells #[Value.string n, Value.int .i64 o, Value.string v] 49)).drew W.heap.size l x :=
  mp_of hx (old_heap _ (heap_alloc_new W _)) (Nat.le_refl _) (belD (((Below.refl _ W).alloc (Nat.le_refl _) _).alloc (by simp) _) 1)
theorem mpC {W : World} {l : List Atm} {x : Value} (n : ByteArray) (o : Int) (v : ByteArray) (hx : rdAtms W (lt_ W.heap.size) l [x]) : Mp W ((W.alloc (Obj.cells #[Value.string n, Value.int .i64 o, Value.string v] 49)).alloc (Obj.cells #[] 49)).drew (W.heap.size + 1) l x :=
  mp_of hx (by have := heap_alloc_new (W.alloc (Obj.cells #[Value.string n, Value.int .i64 o, Value.string v] 49)) (Obj.cells #[] 49); rw [World.size_alloc] at this; exact this) (Nat.le_succ _) (belD (((Below.refl _ W).alloc (Nat.le_refl _) _).alloc (by simp) _) 1)
/-- Ahead of the second append: what has been copied, and the field in block b. -/
structure Mp2 (W WY : World) (b : Nat) (l : List Atm) (v3 : Value) (n : ByteArray) (o : Int) (v : ByteArray) : Prop where
  g : Grow rdAtm 3 (fun _ => True) WY W.heap.size 49 v3 l
  x : rdAtms WY (fun c => c = b) [⟨n, o, v⟩] [.slice (some ⟨b, 0, none⟩) 1 1]
  s : ∀ c, c = b → True ∧ c < WY.heap.size ∧ v3.ownBlock ≠ some c
  bs : W.heap.size ≤ WY.heap.size
  bel : Below W.heap.size W WY
theorem mp_next {W WX w3 : World} {b : Nat} {l : List Atm} {x v3 : Value} (a : Mp W WX b l x) (hG : Grow rdAtm 3 (fun _ => True) w3 W.heap.size 49 v3 l) (hg : WX.grownBy w3 (Value.slice (some ⟨b, 0, none⟩) 0 0).ownBlock) : W.heap.size ≤ w3.heap.size ∧ Below W.heap.size W w3 :=
  ⟨Nat.le_trans a.bs hg.size, grow_below a.g hg a.bel (Nat.le_refl _) a.bs⟩
theorem mp2A {W WX w3 : World} {b : Nat} {l : List Atm} {x v3 : Value} (n : ByteArray) (o : Int) (v : ByteArray) (a : Mp W WX b l x) (hG : Grow rdAtm 3 (fun _ => True) w3 W.heap.size 49 v3 l) (hg : WX.grownBy w3 (Value.slice (some ⟨b, 0, none⟩) 0 0).ownBlock) :
    Mp2 W (w3.alloc (Obj.cells #[Value.string n, Value.int .i64 o, Value.string v] 49)) w3.heap.size l v3 n o v := by
  obtain ⟨h1, h2⟩ := mp_next a hG hg
  exact ⟨hG.alloc rdAtm_good _, one_atm (heap_alloc_new w3 _) rfl, fun c hc => ⟨trivial, by rw [World.size_alloc]; omega, fun hh => by have := (hG.lt c hh).2; omega⟩, by rw [World.size_alloc]; omega, h2.alloc h1 _⟩
theorem mp2BC {W WX w3 : World} {b q : Nat} {l : List Atm} {x v3 : Value} {n : ByteArray} {o : Int} {v : ByteArray} (a : Mp W WX b l x) (hq : WX.heap[q]? = some (.cells #[Value.string n, Value.int .i64 o, Value.string v] 49 (0, 0))) (hqb : q ≠ b) (hG : Grow rdAtm 3 (fun _ => True) w3 W.heap.size 49 v3 l)
    (hg : WX.grownBy w3 (Value.slice (some ⟨b, 0, none⟩) 0 0).ownBlock) (hm : v3.ownBlock = (Value.slice (some ⟨b, 0, none⟩) 0 0).ownBlock ∨ ∃ c, v3.ownBlock = some c ∧ WX.heap.size ≤ c) : Mp2 W w3 q l v3 n o v := by
  obtain ⟨h1, h2⟩ := mp_next a hG hg
  have hlt : q < WX.heap.size := (Array.getElem?_eq_some_iff.1 hq).1
  have hne : ∀ c, c = q → v3.ownBlock ≠ some c := fun c hc hh => by
    rcases hm with h | ⟨d, h, hd⟩
    · rw [h] at hh; simp only [Value.ownBlock, Option.some.injEq] at hh; omega
    · rw [h] at hh; injection hh with hh; omega
  exact ⟨hG, one_atm ((hg.block q hlt (fun hh => by simp only [Value.ownBlock, Option.some.injEq] at hh; omega)).trans hq) rfl, fun c hc => ⟨trivial, by have := hg.size; omega, hne c hc⟩, h1, h2⟩
theorem mp2B {W w3 : World} {l : List Atm} {x v3 : Value} {n : ByteArray} {o : Int} {v : ByteArray} (a : Mp W ((W.alloc (Obj.cells #[] 49)).alloc (Obj.cells #[Value.string n, Value.int .i64 o, Value.string v] 49)).drew W.heap.size l x) (hG : Grow rdAtm 3 (fun _ => True) w3 W.heap.size 49 v3 l)
    (hg : ((W.alloc (Obj.cells #[] 49)).alloc (Obj.cells #[Value.string n, Value.int .i64 o, Value.string v] 49)).drew.grownBy w3 (Value.slice (some ⟨W.heap.size, 0, none⟩) 0 0).ownBlock) (hm : v3.ownBlock = (Value.slice (some ⟨W.heap.size, 0, none⟩) 0 0).ownBlock ∨ ∃ c, v3.ownBlock = some c ∧ ((W.alloc (Obj.cells #[] 49)).alloc (Obj.cells #[Value.string n, Value.int .i64 o, Value.string v] 49)).drew.heap.size ≤ c) : Mp2 W w3 (W.heap.size + 1) l v3 n o v :=
  mp2BC a (by have := heap_alloc_new (W.alloc (Obj.cells #[] 49)) (Obj.cells #[Value.string n, Value.int .i64 o, Value.string v] 49); rw [World.size_alloc] at this; exact this) (by omega) hG hg hm
theorem mp2C {W w3 : World} {l : List Atm} {x v3 : Value} {n : ByteArray} {o : Int} {v : ByteArray} (a : Mp W ((W.alloc (Obj.cells #[Value.string n, Value.int .i64 o, Value.string v] 49)).alloc (Obj.cells #[] 49)).drew (W.heap.size + 1) l x) (hG : Grow rdAtm 3 (fun _ => True) w3 W.heap.size 49 v3 l)
    (hg : ((W.alloc (Obj.cells #[Value.string n, Value.int .i64 o, Value.string v] 49)).alloc (Obj.cells #[] 49)).drew.grownBy w3 (Value.slice (some ⟨W.heap.size + 1, 0, none⟩) 0 0).ownBlock) (hm : v3.ownBlock = (Value.slice (some ⟨W.heap.size + 1, 0, none⟩) 0 0).ownBlock ∨ ∃ c, v3.ownBlock = some c ∧ ((W.alloc (Obj.cells #[Value.string n, Value.int .i64 o, Value.string v] 49)).alloc (Obj.cells #[] 49)).drew.heap.size ≤ c) : Mp2 W w3 W.heap.size l v3 n o v :=
  mp2BC a (old_heap _ (heap_alloc_new W _)) (by omega) hG hg hm
theorem mp_end {W WY w5 : World} {b : Nat} {l : List Atm} {v3 v5 : Value} {n : ByteArray} {o : Int} {v : ByteArray} (a : Mp2 W WY b l v3 n o v) (hG : Grow rdAtm 3 (fun _ => True) w5 W.heap.size 49 v5 (l ++ [⟨n, o, v⟩])) (hg : WY.grownBy w5 v3.ownBlock) :
    Below W.heap.size W w5 ∧ rdAtms w5 (fun b => W.heap.size ≤ b ∧ b < w5.heap.size) (l ++ [⟨n, o, v⟩]) [v5] := by
  refine ⟨grow_below a.g hg a.bel (Nat.le_refl _) a.bs, ?_⟩
  have h2 : Grow rdAtm 3 (fun _ => False) w5 W.heap.size 49 v5 (l ++ [⟨n, o, v⟩]) := hG.flat fun _ _ _ _ _ h => h
  exact rdAtms_good.more (h2.reads rdAtm_good) fun b hb => ⟨hb.2.resolve_right id, hb.1⟩
end Go.Proofs.YtmlakjemgmeffaaGreatDoor
end
