/- 'append(append([]api.Field{}, x...), y)' in whatever order its operations come up; the last stanza of the document's reader set anew. No condition. -/
import Derived.Test.YtjfenheplkoajaaDoorS5d
import Derived.Test.YtjfenheplkoajaaDoorHeldL
import Derived.Test.YtjfenheplkoajaaDoorDeep3
set_option maxRecDepth 100000
set_option linter.unusedVariables false
set_option linter.unusedSimpArgs false
namespace Go.Proofs.YtjfenheplkoajaaDoor
open Go.RowKit
/-- One field, in a block that is known whole. -/
theorem one_fd {w : World} {S : Nat → Prop} {b : Nat} {n v : ByteArray} {T : TypeId} (hb : w.heap[b]? = some (.cells #[.string n, .string v] T (0, 0))) (hS : S b) : rdFds w S [⟨n, v⟩] [.slice (some ⟨b, 0, none⟩) 1 1] :=
  rd_block rdFd_good (S := S) (l := [⟨n, v⟩]) (css := [[.string n, .string v]]) hb hS rfl rfl (fun k hk => by
    simp only [List.length_singleton] at hk
    obtain rfl : k = 0 := by omega
    exact ⟨_, rfl, rfl⟩) (by simp)
theorem setLast_at {α : Type} {l : List α} {m : Nat} (hm : l.length = m + 1) (y : α) : l.set m y = setLast l y := by
  rcases List.eq_nil_or_concat l with rfl | ⟨i, z, rfl⟩
  · simp at hm
  · rw [List.concat_eq_append] at hm ⊢
    rw [setLast_snoc]
    simp only [List.length_append, List.length_singleton] at hm
    obtain rfl : m = i.length := by omega
    rw [List.set_append_right _ _ (Nat.le_refl _), Nat.sub_self]; rfl
theorem lastD_at {l : List (List Fd)} {m : Nat} (hm : l.length = m + 1) : lastD l = l[m]'(by omega) := by
  unfold lastD
  rw [List.getLastD_eq_getLast?, List.getLast?_eq_getElem?, show l.length - 1 = m by omega, List.getElem?_eq_getElem (by omega)]; rfl
/-- The last stanza set anew in memory. -/
theorem RdR.setlast {W w4 : World} {N r m cp n : Nat} {t : RS} {ad : Addr} {v5 : Value} {y : List Fd} (hR : RdR W N r t) (hr : r < N) (hN : N ≤ W.heap.size) (hc0 : W.cell? ⟨r, 0, none⟩ = some (.slice (some ad) n cp)) (hm : t.l.length = m + 1)
    (hb : Below W.heap.size W w4) (hrd : rdFds w4 (fun b => W.heap.size ≤ b ∧ b < w4.heap.size) y [v5]) :
    RdR (w4.setCell (ad.add m) v5) N r ⟨setLast t.l y, t.o⟩ ∧ Fr N r W (w4.setCell (ad.add m) v5) := by
  obtain ⟨f0, f1, c1, v, c0, hG⟩ := hR
  rw [hc0] at c0
  injection c0 with c0
  subst c0
  have hG4 := hG.below rdFds_good hb
  obtain ⟨a0, a1⟩ := blk_of (hb.block r (by omega)) 0
  obtain ⟨a2, a3⟩ := blk_of (hb.block r (by omega)) 1
  obtain ⟨e0, hba, hbb, _, hfz⟩ := hG.spot
  have hlt := hG.lt ad.block rfl
  obtain ⟨S1, S2⟩ := hG4.set rdFds_good (k := m) (by omega) (j := 0) (by decide) v5 y (fun cs hcs => by
    have hl := rdFds_good.len hcs
    match cs, hl with
    | [c], _ => exact rdFds_good.more hrd fun b hb' => ⟨by omega, hb'.2, fun hh => by injection hh with hh; omega⟩)
  rw [Nat.mul_one, Nat.add_zero, setLast_at hm] at S1
  have hbk : (ad.add m).block = ad.block := blk_add _ _
  have hne : ∀ o, (⟨r, o, none⟩ : Addr) ≠ ad.add m := fun o e => by have := congrArg Addr.block e; rw [hbk] at this; simp only at this; omega
  refine ⟨⟨?_, ?_, ?_, .slice (some ad) n cp, ?_, S1⟩, (Fr.of (hb.mono hN) (Nat.le_of_lt hr)).set (.inr (by rw [hbk]; exact hba)) (Nat.le_of_lt hr) _⟩
  · rw [World.frozen?_setCell, a1, f0]
  · rw [World.frozen?_setCell, a3, f1]
  · rw [World.cell?_setCell_other _ _ _ _ (fun e => hne 1 e.symm), a2, c1]
  · rw [World.cell?_setCell_other _ _ _ _ (fun e => hne 0 e.symm), a0, hc0]
/-! ### The two appends -/
abbrev emB : Obj := Obj.cells #[] 54
abbrev fdBk (n v : ByteArray) : Obj := Obj.cells #[Value.string n, Value.string v] 54
/-- Ahead of the first append: the empty row in block b, the list to be copied. -/
structure Ap (W WX : World) (b : Nat) (l : List Fd) (x : Value) : Prop where
  g : Grow rdFd 2 (fun _ => True) WX W.heap.size 54 (.slice (some ⟨b, 0, none⟩) 0 0) []
  x : rdFds WX (lt_ W.heap.size) l [x]
  s : ∀ c, lt_ W.heap.size c → True ∧ c < WX.heap.size ∧ (Value.slice (some ⟨b, 0, none⟩) 0 0).ownBlock ≠ some c
  bs : W.heap.size ≤ WX.heap.size
  bel : Below W.heap.size W WX
theorem ap_of {W WX : World} {b : Nat} {l : List Fd} {x : Value} (hx : rdFds W (lt_ W.heap.size) l [x]) (hb : WX.heap[b]? = some (.cells #[] 54 (0, 0))) (hge : W.heap.size ≤ b) (bel : Below W.heap.size W WX) : Ap W WX b l x :=
  ⟨Grow.empty _ hb hge, rdFds_good.below hx bel, fun c hc => ⟨trivial, Nat.lt_of_lt_of_le hc bel.size, fun hh => by simp only [Value.ownBlock, Option.some.injEq] at hh; unfold lt_ at hc; omega⟩, bel.size, bel⟩
theorem apA {W : World} {l : List Fd} {x : Value} (hx : rdFds W (lt_ W.heap.size) l [x]) : Ap W (W.alloc (Obj.cells #[] 54)).drew W.heap.size l x :=
  ap_of hx (heap_alloc_new W _) (Nat.le_refl _) (belD ((Below.refl _ W).alloc (Nat.le_refl _) _) 1)
theorem apB {W : World} {l : List Fd} {x : Value} (n v : ByteArray) (hx : rdFds W (lt_ W.heap.size) l [x]) : Ap W ((W.alloc (Obj.cells #[] 54)).alloc (Obj.cells #[Value.string n, Value.string v] 54)).drew W.heap.size l x :=
  ap_of hx (old_heap _ (heap_alloc_new W _)) (Nat.le_refl _) (belD (((Below.refl _ W).alloc (Nat.le_refl _) _).alloc (by simp) _) 1)
theorem apC {W : World} {l : List Fd} {x : Value} (n v : ByteArray) (hx : rdFds W (lt_ W.heap.size) l [x]) : Ap W ((W.alloc (Obj.cells #[Value.string n, Value.string v] 54)).alloc (Obj.cells #[] 54)).drew (W.heap.size + 1) l x :=
  ap_of hx (by have := heap_alloc_new (W.alloc (Obj.cells #[Value.string n, Value.string v] 54)) (Obj.cells #[] 54); rw [World.size_alloc] at this; exact this) (Nat.le_succ _) (belD (((Below.refl _ W).alloc (Nat.le_refl _) _).alloc (by simp) _) 1)
/-- Ahead of the second append: what has been copied, and the field in block b. -/
structure Ap2 (W WY : World) (b : Nat) (l : List Fd) (v3 : Value) (n v : ByteArray) : Prop where
  g : Grow rdFd 2 (fun _ => True) WY W.heap.size 54 v3 l
  x : rdFds WY (fun c => c = b) [⟨n, v⟩] [.slice (some ⟨b, 0, none⟩) 1 1]
  s : ∀ c, c = b → True ∧ c < WY.heap.size ∧ v3.ownBlock ≠ some c
  bs : W.heap.size ≤ WY.heap.size
  bel : Below W.heap.size W WY
theorem ap_next {W WX w3 : World} {b : Nat} {l : List Fd} {x v3 : Value} (a : Ap W WX b l x) (hG : Grow rdFd 2 (fun _ => True) w3 W.heap.size 54 v3 l) (hg : WX.grownBy w3 (Value.slice (some ⟨b, 0, none⟩) 0 0).ownBlock) : W.heap.size ≤ w3.heap.size ∧ Below W.heap.size W w3 :=
  ⟨Nat.le_trans a.bs hg.size, grow_below a.g hg a.bel (Nat.le_refl _) a.bs⟩
theorem ap2A {W WX w3 : World} {b : Nat} {l : List Fd} {x v3 : Value} (n v : ByteArray) (a : Ap W WX b l x) (hG : Grow rdFd 2 (fun _ => True) w3 W.heap.size 54 v3 l) (hg : WX.grownBy w3 (Value.slice (some ⟨b, 0, none⟩) 0 0).ownBlock) :
    Ap2 W (w3.alloc (Obj.cells #[Value.string n, Value.string v] 54)) w3.heap.size l v3 n v := by
  obtain ⟨h1, h2⟩ := ap_next a hG hg
  exact ⟨hG.alloc rdFd_good _, one_fd (heap_alloc_new w3 _) rfl, fun c hc => ⟨trivial, by rw [World.size_alloc]; omega, fun hh => by have := (hG.lt c hh).2; omega⟩, by rw [World.size_alloc]; omega, h2.alloc h1 _⟩
theorem ap2BC {W WX w3 : World} {b q : Nat} {l : List Fd} {x v3 : Value} {n v : ByteArray} (a : Ap W WX b l x) (hq : WX.heap[q]? = some (.cells #[Value.string n, Value.string v] 54 (0, 0))) (hqb : q ≠ b) (hG : Grow rdFd 2 (fun _ => True) w3 W.heap.size 54 v3 l)
    (hg : WX.grownBy w3 (Value.slice (some ⟨b, 0, none⟩) 0 0).ownBlock) (hm : v3.ownBlock = (Value.slice (some ⟨b, 0, none⟩) 0 0).ownBlock ∨ ∃ c, v3.ownBlock = some c ∧ WX.heap.size ≤ c) : Ap2 W w3 q l v3 n v := by
  obtain ⟨h1, h2⟩ := ap_next a hG hg
  have hlt : q < WX.heap.size := (Array.getElem?_eq_some_iff.1 hq).1
  have hne : ∀ c, c = q → v3.ownBlock ≠ some c := fun c hc hh => by
    rcases hm with h | ⟨d, h, hd⟩
    · rw [h] at hh; simp only [Value.ownBlock, Option.some.injEq] at hh; omega
    · rw [h] at hh; injection hh with hh; omega
  exact ⟨hG, one_fd ((hg.block q hlt (fun hh => by simp only [Value.ownBlock, Option.some.injEq] at hh; omega)).trans hq) rfl, fun c hc => ⟨trivial, by have := hg.size; omega, hne c hc⟩, h1, h2⟩
theorem ap2B {W w3 : World} {l : List Fd} {x v3 : Value} {n v : ByteArray} (a : Ap W ((W.alloc (Obj.cells #[] 54)).alloc (Obj.cells #[Value.string n, Value.string v] 54)).drew W.heap.size l x) (hG : Grow rdFd 2 (fun _ => True) w3 W.heap.size 54 v3 l)
    (hg : ((W.alloc (Obj.cells #[] 54)).alloc (Obj.cells #[Value.string n, Value.string v] 54)).drew.grownBy w3 (Value.slice (some ⟨W.heap.size, 0, none⟩) 0 0).ownBlock) (hm : v3.ownBlock = (Value.slice (some ⟨W.heap.size, 0, none⟩) 0 0).ownBlock ∨ ∃ c, v3.ownBlock = some c ∧ ((W.alloc (Obj.cells #[] 54)).alloc (Obj.cells #[Value.string n, Value.string v] 54)).drew.heap.size ≤ c) : Ap2 W w3 (W.heap.size + 1) l v3 n v :=
  ap2BC a (by have := heap_alloc_new (W.alloc (Obj.cells #[] 54)) (Obj.cells #[Value.string n, Value.string v] 54); rw [World.size_alloc] at this; exact this) (by omega) hG hg hm
theorem ap2C {W w3 : World} {l : List Fd} {x v3 : Value} {n v : ByteArray} (a : Ap W ((W.alloc (Obj.cells #[Value.string n, Value.string v] 54)).alloc (Obj.cells #[] 54)).drew (W.heap.size + 1) l x) (hG : Grow rdFd 2 (fun _ => True) w3 W.heap.size 54 v3 l)
    (hg : ((W.alloc (Obj.cells #[Value.string n, Value.string v] 54)).alloc (Obj.cells #[] 54)).drew.grownBy w3 (Value.slice (some ⟨W.heap.size + 1, 0, none⟩) 0 0).ownBlock) (hm : v3.ownBlock = (Value.slice (some ⟨W.heap.size + 1, 0, none⟩) 0 0).ownBlock ∨ ∃ c, v3.ownBlock = some c ∧ ((W.alloc (Obj.cells #[Value.string n, Value.string v] 54)).alloc (Obj.cells #[] 54)).drew.heap.size ≤ c) : Ap2 W w3 W.heap.size l v3 n v :=
  ap2BC a (old_heap _ (heap_alloc_new W _)) (by omega) hG hg hm
theorem ap_end {W WY w5 : World} {b : Nat} {l : List Fd} {v3 v5 : Value} {n v : ByteArray} (a : Ap2 W WY b l v3 n v) (hG : Grow rdFd 2 (fun _ => True) w5 W.heap.size 54 v5 (l ++ [⟨n, v⟩])) (hg : WY.grownBy w5 v3.ownBlock) :
    Below W.heap.size W w5 ∧ rdFds w5 (fun b => W.heap.size ≤ b ∧ b < w5.heap.size) (l ++ [⟨n, v⟩]) [v5] := by
  refine ⟨grow_below a.g hg a.bel (Nat.le_refl _) a.bs, ?_⟩
  have h2 : Grow rdFd 2 (fun _ => False) w5 W.heap.size 54 v5 (l ++ [⟨n, v⟩]) := hG.flat fun _ _ _ _ _ h => h
  exact rdFds_good.more (h2.reads rdFd_good) fun b hb => ⟨hb.2.resolve_right id, hb.1⟩
end Go.Proofs.YtjfenheplkoajaaDoor
