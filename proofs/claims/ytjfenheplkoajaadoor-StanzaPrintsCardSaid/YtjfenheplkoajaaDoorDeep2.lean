/- append of a whole slice, as it reads, to a slice of the call's own. No condition. -/
import Derived.Test.YtjfenheplkoajaaDoorDeep
import Derived.WalkKit
set_option linter.unusedVariables false
set_option linter.unusedSimpArgs false
namespace Go.Proofs.YtjfenheplkoajaaDoor
open Go.RowKit
section
variable {P : Program}
theorem append_types (t t' ty e e' : TypeId) (i : TypeInfo) (hi : P.info? e = some i) (ht : P.underlying t = some (.slice e)) (ht' : P.underlying t' = some (.slice e')) (A : Option Addr) (n c : Nat) (x : Value) (w : World) :
    (Builtin.append_ #[t, t'] ty #[.slice A n c, x]).run P w = (Builtin.append_ #[t, t] ty #[.slice A n c, x]).run P w := by
  simp [Builtin.append_, run_underlying ht, run_underlying ht', sizeOf, typeInfo, hi]
theorem append_none (w : World) (base : Nat) (t ty e : TypeId) (i : TypeInfo) (size : Nat) (ht : P.underlying t = some (.slice e)) (hi : P.info? e = some i)
    (v : Value) (n : Nat) (xs : List Value) (hown : w.ownsRow base e size v n xs) (A : Option Addr) (c : Nat) : (Builtin.append_ #[t, t] ty #[v, .slice A 0 c]).run P w = .ok v w := by
  rcases hown.2 with ⟨rfl, rfl⟩ | ⟨g, cap, cur, rfl, _, _, hnc, _⟩
  · cases A <;> simp [Builtin.append_, run_underlying ht, sizeOf, typeInfo, hi, Builtin.lenOf, Builtin.firstCells, loadCells, loadCellsFrom]
  · cases A <;> simp [Builtin.append_, run_underlying ht, sizeOf, typeInfo, hi, Builtin.lenOf, Builtin.firstCells, hnc, storeCells, loadCells, loadCellsFrom]
end
section
variable {α : Type} {E : Rd α} {sz : Nat}
theorem rows_of {w : World} {S : Nat → Prop} {m : List α} {A : Option Addr} {n c : Nat} (h : rdRow sz E w S m [.slice A n c]) (h0 : 0 < m.length) :
    n = m.length ∧ ∃ (ad : Addr) (ess : List (List Value)), A = some ad ∧ S ad.block ∧ ess.length = m.length ∧ (∀ k (hk : k < m.length), ∃ es, ess[k]? = some es ∧ E w S m[k] es ∧ es.length = sz ∧ ∀ j u, es[j]? = some u → w.cell? (ad.add (k * sz + j)) = some u) := by
  obtain ⟨A', c', e, h1, h2, h⟩ := h
  simp only [List.cons.injEq, Value.slice.injEq, and_true] at e
  obtain ⟨rfl, rfl, rfl⟩ := e
  obtain ⟨ad, _, rfl, hS, _⟩ := h 0 h0
  refine ⟨rfl, ad, List.ofFn fun k : Fin m.length => Classical.choose (Classical.choose_spec (h k.1 k.2)), rfl, hS, by simp, fun k hk => ?_⟩
  have hs := Classical.choose_spec (Classical.choose_spec (h k hk))
  refine ⟨_, by rw [List.getElem?_ofFn, dif_pos hk], hs.2.2.1, hs.2.2.2.1, fun j u hu => ?_⟩
  have e1 := hs.1
  injection e1 with e1
  have := hs.2.2.2.2 j u hu
  rwa [← e1] at this
theorem flat_back (hsz : 0 < sz) : ∀ {css : List (List Value)}, (∀ cs ∈ css, cs.length = sz) → ∀ {j : Nat} {u : Value}, css.flatten[j]? = some u → ∃ k i cs, css[k]? = some cs ∧ cs[i]? = some u ∧ j = k * sz + i
  | [], _, j, u, h => by simp at h
  | c :: css, hl, j, u, h => by
    have hc := hl c (by simp)
    rw [List.flatten_cons] at h
    by_cases hj : j < c.length
    · rw [List.getElem?_append_left hj] at h
      exact ⟨0, j, c, rfl, h, by omega⟩
    · rw [List.getElem?_append_right (by omega)] at h
      obtain ⟨k, i, cs, h1, h2, h3⟩ := flat_back hsz (fun cs hc => hl cs (by simp [hc])) h
      exact ⟨k + 1, i, cs, h1, h2, by rw [Nat.add_mul]; omega⟩
/-- A whole slice appended: what runs, and what it leaves. -/
theorem run_growN {P : Program} (W : World) (t t' ty : TypeId) (g : Good E sz) (hsz : 0 < sz) (T : Nat → Prop) (base : Nat) (e e' : TypeId) (i : TypeInfo) (z : Value) (bytes : Nat)
    (ht : P.underlying t = some (.slice e)) (ht' : P.underlying t' = some (.slice e')) (hi : P.info? e = some i) (hz : i.zero = some z) (hsize : i.size = sz) (hby : i.bytes = bytes) (hzs : z.cells.size = sz)
    (v : Value) (l : List α) (hG : Grow E sz T W base e v l) (m : List α) (S : Nat → Prop) (A : Option Addr) (n c : Nat) (hX : rdRow sz E W S m [.slice A n c]) (hS : ∀ b, S b → T b ∧ b < W.heap.size ∧ v.ownBlock ≠ some b)
    (hn : l.length + m.length ≤ maxLen) (hb2 : (l.length + m.length) * bytes ≤ 140737488355328) (hbase : base ≤ W.heap.size) :
    ∃ v' w', (Builtin.append_ #[t, t'] ty #[v, .slice A n c]).run P W = .ok v' w' ∧ Grow E sz T w' base e v' (l ++ m) ∧ W.grownBy w' v.ownBlock ∧ (v'.ownBlock = v.ownBlock ∨ ∃ b, v'.ownBlock = some b ∧ W.heap.size ≤ b) := by
  have hty : ∀ x, (Builtin.append_ #[t, t'] ty #[v, x]).run P W = (Builtin.append_ #[t, t] ty #[v, x]).run P W := by
    obtain ⟨vA, vc, hv, _, _⟩ := hG.own
    subst hv
    exact fun x => append_types t t' ty e e' i hi ht ht' _ _ _ x W
  rw [hty]
  by_cases h0 : m.length = 0
  · obtain rfl : m = [] := List.eq_nil_of_length_eq_zero h0
    obtain ⟨A', c', e1, _⟩ := id hX
    simp only [List.cons.injEq, Value.slice.injEq, and_true, List.length_nil] at e1
    obtain ⟨_, rfl, _⟩ := e1
    obtain ⟨css, hl, hown, hEs⟩ := id hG
    exact ⟨v, W, append_none W base t ty e i sz ht hi v _ _ hown A c, by rw [List.append_nil]; exact hG, ⟨rfl, rfl, rfl, Nat.le_refl _, fun _ _ _ => rfl⟩, .inl rfl⟩
  · obtain ⟨rfl, ad, ess, rfl, hSa, hel, hek⟩ := rows_of hX (by omega)
    obtain ⟨css, hl, hown, hEs⟩ := hG
    have hes : ∀ cs ∈ ess, cs.length = sz := fun cs hc => by
      obtain ⟨k, hk, rfl⟩ := List.getElem_of_mem hc
      obtain ⟨es, h1, _, h2, _⟩ := hek k (by omega)
      rw [List.getElem?_eq_getElem hk] at h1
      injection h1 with h1
      rw [h1]; exact h2
    have hcell : ∀ j u, ess.flatten[j]? = some u → W.cell? (ad.add j) = some u := fun j u hu => by
      obtain ⟨k, i', cs, h1, h2, rfl⟩ := flat_back hsz hes hu
      have hk : k < m.length := by have := (List.getElem?_eq_some_iff.1 h1).1; omega
      obtain ⟨es, h3, _, _, h4⟩ := hek k hk
      rw [h3] at h1
      injection h1 with h1
      subst h1
      exact h4 i' u h2
    have hone : ∀ u ∈ ess.flatten, u.oneCell' = true := fun u hu => by
      obtain ⟨cs, hc, hu⟩ := List.mem_flatten.1 hu
      obtain ⟨k, hk, rfl⟩ := List.getElem_of_mem hc
      obtain ⟨es, h1, h2, _, _⟩ := hek k (by omega)
      rw [List.getElem?_eq_getElem hk] at h1
      injection h1 with h1
      exact g.one h2 u (h1 ▸ hu)
    obtain ⟨v', w', hr, hown', hgrow, _, hat⟩ := run_append_own_at (P := P) W base t ty e i z sz bytes ht hi hz hsize hby hzs hsz v l.length css.flatten hown ad m.length c ess.flatten (by rw [flatten_len sz hes, hel]) hcell hone hn hb2 hbase
    have hat2 : v'.ownBlock = v.ownBlock ∨ ∃ b, v'.ownBlock = some b ∧ W.heap.size ≤ b := by
      rcases hat with h1 | h1
      · exact .inl h1
      · exact .inr ⟨_, h1, Nat.le_refl _⟩
    refine ⟨v', w', hr, Grow.step g hl hEs hel (fun k hk => ?_) hown' hgrow hat2, hgrow, hat2⟩
    obtain ⟨es, h1, h2, _, _⟩ := hek k hk
    exact ⟨es, h1, g.more h2 hS⟩
theorem wpList_growN {P : Program} {ops : Array Oper} {rest : List Oper} {o : Oper} {a : Act} {Q : Exit → Act → World → Prop} (W : World) (hgd : o.guard = none) (s x : Operand) (t t' : TypeId)
    (ho : o.op = .call { callee := .builtin .append, args := #[s, x], argTypes := #[t, t'] }) (g : Good E sz) (hsz : 0 < sz) (T : Nat → Prop) (base : Nat) (e e' : TypeId) (i : TypeInfo) (z : Value) (bytes : Nat)
    (ht : P.underlying t = some (.slice e)) (ht' : P.underlying t' = some (.slice e')) (hi : P.info? e = some i) (hz : i.zero = some z) (hsize : i.size = sz) (hby : i.bytes = bytes) (hzs : z.cells.size = sz)
    (v : Value) (l : List α) (hs : a.eval s = v) (hG : Grow E sz T W base e v l) (m : List α) (S : Nat → Prop) (A : Option Addr) (n c : Nat) (hx : a.eval x = .slice A n c) (hX : rdRow sz E W S m [.slice A n c]) (hS : ∀ b, S b → T b ∧ b < W.heap.size ∧ v.ownBlock ≠ some b)
    (hn : l.length + m.length ≤ maxLen) (hb2 : (l.length + m.length) * bytes ≤ 140737488355328) (hbase : base ≤ W.heap.size)
    (h : ∀ v' w', Grow E sz T w' base e v' (l ++ m) → W.grownBy w' v.ownBlock → wpList P ops Q rest (a.put o.dst v') w') :
    wpList P ops Q (o :: rest) a W := by
  refine wpList_plain hgd fun K hK => ?_
  obtain ⟨v', w', hr, h2, h3, _⟩ := run_growN (P := P) W t t' o.type g hsz T base e e' i z bytes ht ht' hi hz hsize hby hzs v l hG m S A n c hX hS hn hb2 hbase
  unfold Oper.wp execOp
  simp only [ho, resolve, invoke, builtin, Sem.run_bind, Sem.run_pure, Result.andThen_ok, List.map_toArray, List.map_cons, List.map_nil, hs, hx, hr]
  exact hK _ _ (h v' w' h2 h3)
end
theorem rd_block {α : Type} {E : Rd α} {sz : Nat} (g : Good E sz) {w : World} {S : Nat → Prop} {b : Nat} {blk : Array Value} {T : TypeId} {l : List α} {css : List (List Value)} (hb : w.heap[b]? = some (.cells blk T (0, 0))) (hS : S b)
    (hl : css.length = l.length) (hf : blk.toList = css.flatten) (hE : ∀ k (hk : k < l.length), ∃ cs, css[k]? = some cs ∧ E w S l[k] cs) (hm : l.length ≤ 1000) : rdRow sz E w S l [.slice (some ⟨b, 0, none⟩) l.length l.length] := by
  have hls : ∀ cs ∈ css, cs.length = sz := fun cs hc => by
    obtain ⟨k, hk, rfl⟩ := List.getElem_of_mem hc
    obtain ⟨cs, h1, h2⟩ := hE k (by omega)
    rw [List.getElem?_eq_getElem hk] at h1
    injection h1 with h1
    rw [h1]; exact g.len h2
  refine ⟨_, _, rfl, Nat.le_refl _, by unfold maxLen; omega, fun k hk => ?_⟩
  obtain ⟨cs, h1, h2⟩ := hE k hk
  refine ⟨_, cs, rfl, hS, h2, g.len h2, fun j u hu => ?_⟩
  have hadd : (⟨b, 0, none⟩ : Addr).add (k * sz + j) = ⟨b, k * sz + j, none⟩ := by unfold Addr.add; split <;> simp_all
  rw [hadd, cell_of_row w b (k * sz + j) blk T (0, 0) hb]
  have := flatten_at sz hls h1 j u hu
  rw [← hf] at this
  simpa using this
theorem new_heap (w : World) (o : Obj) : (w.alloc o).heap[w.heap.size]? = some o := heap_alloc_new w o
theorem old_heap {w : World} {b : Nat} {o' : Obj} (o : Obj) (h : w.heap[b]? = some o') : (w.alloc o).heap[b]? = some o' := (Below.heap_alloc w o b (Array.getElem?_eq_some_iff.1 h).1).trans h
end Go.Proofs.YtjfenheplkoajaaDoor
