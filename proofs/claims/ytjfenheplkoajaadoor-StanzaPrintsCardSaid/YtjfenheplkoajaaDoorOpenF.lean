/- A law's parameters that are stanzas, slices of stanzas, slices of strings, opened. -/
import Derived.Test.YtjfenheplkoajaaDoorS5a
import Derived.Test.YtjfenheplkoajaaDoorOpen2
import Derived.Deep.Slices
import Derived.Deep.Strs
set_option maxRecDepth 100000
namespace Go.Proofs.YtjfenheplkoajaaDoor
open Go.RowKit Go.WideShapes Go.ChangeShapes Go.ChangeAt Go.WideMaps Go.WideElems Go.Joins Go.Deep
section
variable {H : Type} {enc : TypeId × Value → H} {W : World}
/-- A field that can be held. -/
def FdOk (a : Fd) : Prop := a.n.size ≤ maxLen ∧ a.v.size ≤ maxLen
theorem cells_fd : Tryd.prog.cellsOf 54 = 2 := by kernel_rfl
theorem cells_stz : Tryd.prog.cellsOf 39 = 1 := by kernel_rfl
theorem cells_st : Tryd.prog.cellsOf 9 = 1 := by kernel_rfl
theorem trod_fd {base n : Nat} {sp : Nat → Bool} {held : Bool} {cs : List Value} {y : DataW H × List MemPlace} (h : DataW.trod enc Tryd.prog W base sp held n 54 cs = some y) : ∃ x : Fd, cs = x.cells ∧ FdOk x := by
  obtain ⟨y0, y1, m, _, hl, h0, h1⟩ := trod_struct2 Tryd.underlying54 h
  rw [cells_fd] at hl
  rcases cs with _ | ⟨c0, _ | ⟨c1, _ | ⟨c2, cs⟩⟩⟩
  · simp at hl
  · simp at hl
  · have e0 : DataW.trod enc Tryd.prog W base sp held m 9 [c0] = some y0 := h0
    have e1 : DataW.trod enc Tryd.prog W base sp held m 9 [c1] = some y1 := h1
    obtain ⟨u, rfl, wu⟩ := one_string e0
    obtain ⟨r, rfl, wr⟩ := one_string e1
    exact ⟨⟨u, r⟩, rfl, wu, wr⟩
  · simp at hl
/-- The spare places count, too: of capacity's length the slice reads. -/
theorem open_fds_trod {base n : Nat} {sp : Nat → Bool} {held : Bool} {t : TypeId} {cs : List Value} {y : DataW H × List MemPlace} (ht : Tryd.prog.underlying t = some (.slice 54)) (h : DataW.trod enc Tryd.prog W base sp held n t cs = some y) :
    ∃ A len c l, cs = [.slice A len c] ∧ rdFds W (lt_ W.heap.size) l [.slice A len c] ∧ (∀ a ∈ l, FdOk a) := by
  rcases open_slice ht h with ⟨rfl, _⟩ | ⟨a, len, cap, m, k, D, Pl, rfl, hb, hl, hm, hmm, _, hx⟩
  · exact ⟨none, 0, 0, [], rfl, rdRow_nil _ _, by simp⟩
  · have hlm : len ≤ m := by rw [hmm]; split <;> omega
    have hat : ∀ i, i < len → ∃ x : Fd, FdOk x ∧ a.block < W.heap.size ∧ ∀ j u, x.cells[j]? = some u → W.cell? (a.add (i * 2 + j)) = some u := by
      intro i hi
      obtain ⟨cs', hc, ht'⟩ := hx i (by omega)
      rw [cells_fd] at hc
      obtain ⟨x, rfl, hok⟩ := trod_fd ht'
      obtain ⟨_, hcl, hcell⟩ := World.cells?_some hc
      have key : ∀ j u, x.cells[j]? = some u → W.cell? (a.add (i * 2 + j)) = some u := fun j u hu => by
        have hj : j < 2 := by have := (List.getElem?_eq_some_iff.1 hu).1; simpa [Fd.cells] using this
        have := hcell j hj
        rw [hu] at this
        rw [← this]
        congr 1
        unfold Addr.add
        by_cases h1 : i * 2 = 0 <;> by_cases h2 : j = 0 <;> simp [h1, h2, Nat.add_assoc]
      have hb' := World.block_lt_of_cell? _ _ (key 0 _ rfl)
      rw [blk_add] at hb'
      exact ⟨x, hok, hb', key⟩
    refine ⟨some a, len, cap, List.ofFn fun i : Fin len => Classical.choose (hat i.1 i.2), rfl, ⟨some a, cap, by simp, by simpa using hl, hm, fun i hi => ?_⟩, fun x hx => ?_⟩
    · simp only [List.length_ofFn] at hi
      have hs := Classical.choose_spec (hat i hi)
      refine ⟨a, _, rfl, hs.2.1, ?_, ?_, hs.2.2⟩
      · show _ = Fd.cells _
        rw [List.getElem_ofFn]
      · rfl
    · obtain ⟨i, hi⟩ := List.mem_ofFn.1 hx
      rw [← hi]; exact (Classical.choose_spec (hat i.1 i.2)).1
theorem open_fds_arg {v : Value} {d : DataW H} {p : List MemPlace} {base : Nat} (hv : Value.okWide Tryd.prog W .any base 39 v) (h : DataW.Trod enc Tryd.prog W 0 (fun _ => true) true 39 v d p) :
    ∃ A n c l, v = .slice A n c ∧ rdFds W (lt_ W.heap.size) l [.slice A n c] ∧ (∀ a ∈ l, FdOk a) := by
  obtain ⟨a0, len, cap, rfl⟩ := okWide_slice Tryd.underlying39 hv
  obtain ⟨fuel, hf⟩ := h
  obtain ⟨A, n, c, l, hcs, h1, h2⟩ := open_fds_trod Tryd.underlying39 hf
  simp [Value.cells] at hcs
  obtain ⟨rfl, rfl, rfl⟩ := hcs
  exact ⟨a0, len, cap, l, rfl, h1, h2⟩
theorem open_stzs_arg {v : Value} {d : DataW H} {p : List MemPlace} {base : Nat} (hv : Value.okWide Tryd.prog W .any base 23 v) (h : DataW.Trod enc Tryd.prog W 0 (fun _ => true) true 23 v d p) :
    ∃ A n c L, v = .slice A n c ∧ rdStzs W (lt_ W.heap.size) L [.slice A n c] ∧ (∀ g ∈ L, ∀ a ∈ g, FdOk a) := by
  obtain ⟨a0, len0, cap0, rfl⟩ := okWide_slice Tryd.underlying23 hv
  obtain ⟨fuel, hf⟩ := h
  rcases open_slice Tryd.underlying23 hf with ⟨hcs, _⟩ | ⟨a, len, cap, m, k, D, Pl, hcs, hb, hl, hm, hmm, _, hx⟩
  · simp [Value.cells] at hcs
    obtain ⟨rfl, rfl, rfl⟩ := hcs
    exact ⟨none, 0, 0, [], rfl, rdRow_nil _ _, by simp⟩
  · simp [Value.cells] at hcs
    obtain ⟨rfl, rfl, rfl⟩ := hcs
    have hlm : len0 ≤ m := by rw [hmm]; split <;> omega
    have hat : ∀ i, i < len0 → ∃ (g : List Fd) (u : Value), (∀ x ∈ g, FdOk x) ∧ a.block < W.heap.size ∧ rdFds W (lt_ W.heap.size) g [u] ∧ W.cell? (a.add (i * 1 + 0)) = some u := by
      intro i hi
      obtain ⟨cs', hc, ht'⟩ := hx i (by omega)
      rw [cells_stz] at hc
      obtain ⟨A, n, c, l, rfl, h1, h2⟩ := open_fds_trod Tryd.underlying39 ht'
      obtain ⟨_, hcl, hcell⟩ := World.cells?_some hc
      have h0 := hcell 0 (by omega)
      have hadd : ((a.add (i * 1)).add 0) = a.add (i * 1 + 0) := by unfold Addr.add; simp
      rw [hadd] at h0
      have hb' := World.block_lt_of_cell? W (a.add (i * 1 + 0)) h0
      rw [blk_add] at hb'
      exact ⟨l, _, h2, hb', h1, h0⟩
    refine ⟨some a, len0, cap0, List.ofFn fun i : Fin len0 => Classical.choose (hat i.1 i.2), rfl, ⟨some a, cap0, by simp, by simpa using hl, hm, fun i hi => ?_⟩, fun g hg => ?_⟩
    · simp only [List.length_ofFn] at hi
      have hs := Classical.choose_spec (Classical.choose_spec (hat i hi))
      refine ⟨a, [Classical.choose (Classical.choose_spec (hat i hi))], rfl, hs.2.1, ?_, rfl, fun j u hu => ?_⟩
      · rw [List.getElem_ofFn]; exact hs.2.2.1
      · have hj : j = 0 := by have := (List.getElem?_eq_some_iff.1 hu).1; simpa using this
        subst hj
        simp only [List.getElem?_cons_zero, Option.some.injEq] at hu
        rw [← hu]; exact hs.2.2.2
    · obtain ⟨i, hi⟩ := List.mem_ofFn.1 hg
      rw [← hi]; exact (Classical.choose_spec (Classical.choose_spec (hat i.1 i.2))).1
theorem open_strs5_arg {v : Value} {d : DataW H} {p : List MemPlace} {base : Nat} (hv : Value.okWide Tryd.prog W .any base 40 v) (h : DataW.Trod enc Tryd.prog W 0 (fun _ => true) true 40 v d p) :
    ∃ A n c l, v = .slice A n c ∧ rdStrs W (lt_ W.heap.size) l [.slice A n c] ∧ (∀ x ∈ l, x.length ≤ maxLen) := by
  obtain ⟨a0, len0, cap0, rfl⟩ := okWide_slice Tryd.underlying40 hv
  obtain ⟨fuel, hf⟩ := h
  rcases open_slice Tryd.underlying40 hf with ⟨hcs, _⟩ | ⟨a, len, cap, m, k, D, Pl, hcs, hb, hl, hm, hmm, _, hx⟩
  · simp [Value.cells] at hcs
    obtain ⟨rfl, rfl, rfl⟩ := hcs
    exact ⟨none, 0, 0, [], rfl, rdRow_nil _ _, by simp⟩
  · simp [Value.cells] at hcs
    obtain ⟨rfl, rfl, rfl⟩ := hcs
    have hlm : len0 ≤ m := by rw [hmm]; split <;> omega
    have hat : ∀ i, i < len0 → ∃ s : ByteArray, s.size ≤ maxLen ∧ a.block < W.heap.size ∧ W.cell? (a.add (i * 1 + 0)) = some (.string s) := by
      intro i hi
      obtain ⟨cs', hc, ht'⟩ := hx i (by omega)
      rw [cells_st] at hc
      obtain ⟨_, hcl, hcell⟩ := World.cells?_some hc
      rcases cs' with _ | ⟨c0, _ | ⟨c1, cs⟩⟩
      · simp at hcl
      · obtain ⟨s, rfl, ws⟩ := one_string ht'
        have h0 := hcell 0 (by omega)
        have hadd : ((a.add (i * 1)).add 0) = a.add (i * 1 + 0) := by unfold Addr.add; simp
        rw [hadd] at h0
        have hb' := World.block_lt_of_cell? W (a.add (i * 1 + 0)) h0
        rw [blk_add] at hb'
        exact ⟨s, ws, hb', h0⟩
      · simp at hcl
    refine ⟨some a, len0, cap0, List.ofFn fun i : Fin len0 => B (Classical.choose (hat i.1 i.2)), rfl, ⟨some a, cap0, by simp, by simpa using hl, hm, fun i hi => ?_⟩, fun g hg => ?_⟩
    · simp only [List.length_ofFn] at hi
      have hs := Classical.choose_spec (hat i hi)
      refine ⟨a, [.string (Classical.choose (hat i hi))], rfl, hs.2.1, ?_, rfl, fun j u hu => ?_⟩
      · rw [List.getElem_ofFn]; exact ⟨_, rfl, rfl⟩
      · have hj : j = 0 := by have := (List.getElem?_eq_some_iff.1 hu).1; simpa using this
        subst hj
        simp only [List.getElem?_cons_zero, Option.some.injEq] at hu
        rw [← hu]; exact hs.2.2
    · obtain ⟨i, hi⟩ := List.mem_ofFn.1 hg
      rw [← hi, B_len]; exact (Classical.choose_spec (hat i.1 i.2)).1
end
end Go.Proofs.YtjfenheplkoajaaDoor
