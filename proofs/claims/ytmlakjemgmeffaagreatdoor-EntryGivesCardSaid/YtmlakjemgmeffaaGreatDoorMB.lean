/- What the laws of this seat rest on: Open2, OpenG, LaidStr, Post2, OpenA. -/
import Derived.Test.YtmlakjemgmeffaaGreatDoorChecked
import Derived.ProofKit
import Derived.OpenShut
import Derived.ChangeMaps5
import Derived.SliceStrings
import Derived.Lib.SmallJoins
import Derived.Test.YtmlakjemgmeffaaGreatDoorMG
import Derived.Deep.Slices
import Derived.Deep.Strs
import Derived.Test.YtmlakjemgmeffaaGreatDoorMA
import Derived.Lib.LaidTab
import Derived.ChangeArms
import Derived.Test.YtmlakjemgmeffaaGreatDoorRows
import Derived.Below
import Derived.ChangeSame
import Derived.Carry

section
/- A law's parameters that are strings and versions, opened. -/
set_option maxRecDepth 100000
namespace Go.Proofs.YtmlakjemgmeffaaGreatDoor
open Go.RowKit Go.WideShapes Go.ChangeShapes Go.ChangeAt Go.WideMaps Go.WideElems Go.Joins
section
variable {H : Type} {enc : TypeId × Value → H} {W : World}
theorem one_int {base n : Nat} {sp : Nat → Bool} {held : Bool} {v : Value} {y : DataW H × List MemPlace} (h : DataW.trod enc Tryz.prog W base sp held n 3 [v] = some y) : ∃ e : Int, v = .int .i64 e ∧ (Lit.int .i64 e).wf = true := by
  obtain ⟨e, h0, _, h2⟩ := DataW.trod_int Tryz.underlying3 h
  injection h0 with h0
  exact ⟨e, h0, h2⟩
theorem one_string {base n : Nat} {sp : Nat → Bool} {held : Bool} {v : Value} {y : DataW H × List MemPlace} (h : DataW.trod enc Tryz.prog W base sp held n 9 [v] = some y) : ∃ s : ByteArray, v = .string s ∧ s.size ≤ maxLen := by
  obtain ⟨s, h0, _, h2⟩ := DataW.trod_string Tryz.underlying9 h
  injection h0 with h0
  exact ⟨s, h0, h2⟩
theorem open_str_arg {v : Value} {d : DataW H} {p : List MemPlace} {base : Nat} (hv : Value.okWide Tryz.prog W .any base 9 v) (h : DataW.Trod enc Tryz.prog W 0 (fun _ => true) true 9 v d p) :
    ∃ s : ByteArray, v = .string s ∧ s.size ≤ maxLen := by
  obtain ⟨s, rfl⟩ := okWide_string Tryz.underlying9 hv
  obtain ⟨fuel, hf⟩ := h
  obtain ⟨s', h0, _, h2⟩ := DataW.trod_string Tryz.underlying9 hf
  simp [Value.cells] at h0
  exact ⟨s, rfl, by rw [h0]; exact h2⟩
theorem open_version_arg {v : Value} {d : DataW H} {p : List MemPlace} {base : Nat} (hv : Value.okWide Tryz.prog W .any base 88 v) (h : DataW.Trod enc Tryz.prog W 0 (fun _ => true) true 88 v d p) :
    ∃ (e : Int) (u r : ByteArray), v = .agg #[.int .i64 e, .string u, .string r] ∧ (Lit.int .i64 e).wf = true ∧ u.size ≤ maxLen ∧ r.size ≤ maxLen := by
  obtain ⟨v0, v1, v2, y0, y1, y2, n, rfl, _, _, h0, h1, h2⟩ := open_agg3 Tryz.underlying88 (by kernel_rfl) (by kernel_rfl) hv h
  obtain ⟨e, rfl, we⟩ := one_int h0
  obtain ⟨u, rfl, wu⟩ := one_string h1
  obtain ⟨r, rfl, wr⟩ := one_string h2
  exact ⟨e, u, r, rfl, we, wu, wr⟩
end
end Go.Proofs.YtmlakjemgmeffaaGreatDoor
end

section
/- A law's parameters that are slices of atoms, and slices of groups, opened. -/
set_option maxRecDepth 100000
namespace Go.Proofs.YtmlakjemgmeffaaGreatDoor
open Go.RowKit Go.WideShapes Go.ChangeShapes Go.ChangeAt Go.WideMaps Go.WideElems Go.Joins Go.Deep
section
variable {H : Type} {enc : TypeId × Value → H} {W : World}
/-- An atom that can be held: its strings and its number are no greater than any. -/
def AtmOk (a : Atm) : Prop := a.n.size ≤ maxLen ∧ (Lit.int .i64 a.o).wf = true ∧ a.v.size ≤ maxLen
theorem cells_atm : Tryz.prog.cellsOf 49 = 3 := by kernel_rfl
theorem cells_grp : Tryz.prog.cellsOf 54 = 1 := by kernel_rfl
theorem cells_str : Tryz.prog.cellsOf 9 = 1 := by kernel_rfl
theorem cells_int : Tryz.prog.cellsOf 3 = 1 := by kernel_rfl
theorem trod_atm {base n : Nat} {sp : Nat → Bool} {held : Bool} {cs : List Value} {y : DataW H × List MemPlace} (h : DataW.trod enc Tryz.prog W base sp held n 49 cs = some y) : ∃ x : Atm, cs = x.cells ∧ AtmOk x := by
  obtain ⟨y0, y1, y2, m, _, hl, h0, h1, h2⟩ := trod_struct3 Tryz.underlying49 h
  rw [cells_atm] at hl
  rcases cs with _ | ⟨c0, _ | ⟨c1, _ | ⟨c2, _ | ⟨c3, cs⟩⟩⟩⟩
  · simp at hl
  · simp at hl
  · simp at hl
  · have e0 : DataW.trod enc Tryz.prog W base sp held m 9 [c0] = some y0 := h0
    have e1 : DataW.trod enc Tryz.prog W base sp held m 3 [c1] = some y1 := h1
    have e2 : DataW.trod enc Tryz.prog W base sp held m 9 [c2] = some y2 := h2
    obtain ⟨u, rfl, wu⟩ := one_string e0
    obtain ⟨e, rfl, we⟩ := one_int e1
    obtain ⟨r, rfl, wr⟩ := one_string e2
    exact ⟨⟨u, e, r⟩, rfl, wu, we, wr⟩
  · simp at hl
/-- The spare places count, too: of capacity's length the slice reads. -/
theorem open_atoms_trod {base n : Nat} {sp : Nat → Bool} {held : Bool} {t : TypeId} {cs : List Value} {y : DataW H × List MemPlace} (ht : Tryz.prog.underlying t = some (.slice 49)) (h : DataW.trod enc Tryz.prog W base sp held n t cs = some y) :
    ∃ A len c l, cs = [.slice A len c] ∧ rdAtms W (lt_ W.heap.size) l [.slice A len c] ∧ (∀ a ∈ l, AtmOk a) := by
  rcases open_slice ht h with ⟨rfl, _⟩ | ⟨a, len, cap, m, k, D, Pl, rfl, hb, hl, hm, hmm, _, hx⟩
  · exact ⟨none, 0, 0, [], rfl, rdRow_nil _ _, by simp⟩
  · have hlm : len ≤ m := by rw [hmm]; split <;> omega
    have hat : ∀ i, i < len → ∃ x : Atm, AtmOk x ∧ a.block < W.heap.size ∧ ∀ j u, x.cells[j]? = some u → W.cell? (a.add (i * 3 + j)) = some u := by
      intro i hi
      obtain ⟨cs', hc, ht'⟩ := hx i (by omega)
      rw [cells_atm] at hc
      obtain ⟨x, rfl, hok⟩ := trod_atm ht'
      obtain ⟨_, hcl, hcell⟩ := World.cells?_some hc
      have key : ∀ j u, x.cells[j]? = some u → W.cell? (a.add (i * 3 + j)) = some u := fun j u hu => by
        have hj : j < 3 := by have := (List.getElem?_eq_some_iff.1 hu).1; simpa [Atm.cells] using this
        have := hcell j hj
        rw [hu] at this
        rw [← this]
        congr 1
        unfold Addr.add
        by_cases h1 : i * 3 = 0 <;> by_cases h2 : j = 0 <;> simp [h1, h2, Nat.add_assoc]
      have hb' := World.block_lt_of_cell? _ _ (key 0 _ rfl)
      rw [blk_add] at hb'
      exact ⟨x, hok, hb', key⟩
    refine ⟨some a, len, cap, List.ofFn fun i : Fin len => Classical.choose (hat i.1 i.2), rfl, ⟨some a, cap, by simp, by simpa using hl, hm, fun i hi => ?_⟩, fun x hx => ?_⟩
    · simp only [List.length_ofFn] at hi
      have hs := Classical.choose_spec (hat i hi)
      refine ⟨a, _, rfl, hs.2.1, ?_, ?_, hs.2.2⟩
      · show _ = Atm.cells _
        rw [List.getElem_ofFn]
      · rfl
    · obtain ⟨i, hi⟩ := List.mem_ofFn.1 hx
      rw [← hi]; exact (Classical.choose_spec (hat i.1 i.2)).1
theorem open_atoms_arg {v : Value} {d : DataW H} {p : List MemPlace} {base : Nat} (hv : Value.okWide Tryz.prog W .any base 23 v) (h : DataW.Trod enc Tryz.prog W 0 (fun _ => true) true 23 v d p) :
    ∃ A n c l, v = .slice A n c ∧ rdAtms W (lt_ W.heap.size) l [.slice A n c] ∧ (∀ a ∈ l, AtmOk a) := by
  obtain ⟨a0, len, cap, rfl⟩ := okWide_slice Tryz.underlying23 hv
  obtain ⟨fuel, hf⟩ := h
  obtain ⟨A, n, c, l, hcs, h1, h2⟩ := open_atoms_trod Tryz.underlying23 hf
  simp [Value.cells] at hcs
  obtain ⟨rfl, rfl, rfl⟩ := hcs
  exact ⟨a0, len, cap, l, rfl, h1, h2⟩
theorem open_grps_arg {v : Value} {d : DataW H} {p : List MemPlace} {base : Nat} (hv : Value.okWide Tryz.prog W .any base 22 v) (h : DataW.Trod enc Tryz.prog W 0 (fun _ => true) true 22 v d p) :
    ∃ A n c L, v = .slice A n c ∧ rdGrps W (lt_ W.heap.size) L [.slice A n c] ∧ (∀ g ∈ L, ∀ a ∈ g, AtmOk a) := by
  obtain ⟨a0, len0, cap0, rfl⟩ := okWide_slice Tryz.underlying22 hv
  obtain ⟨fuel, hf⟩ := h
  rcases open_slice Tryz.underlying22 hf with ⟨hcs, _⟩ | ⟨a, len, cap, m, k, D, Pl, hcs, hb, hl, hm, hmm, _, hx⟩
  · simp [Value.cells] at hcs
    obtain ⟨rfl, rfl, rfl⟩ := hcs
    exact ⟨none, 0, 0, [], rfl, rdRow_nil _ _, by simp⟩
  · simp [Value.cells] at hcs
    obtain ⟨rfl, rfl, rfl⟩ := hcs
    have hlm : len0 ≤ m := by rw [hmm]; split <;> omega
    have hat : ∀ i, i < len0 → ∃ (g : List Atm) (u : Value), (∀ x ∈ g, AtmOk x) ∧ a.block < W.heap.size ∧ rdAtms W (lt_ W.heap.size) g [u] ∧ W.cell? (a.add (i * 1 + 0)) = some u := by
      intro i hi
      obtain ⟨cs', hc, ht'⟩ := hx i (by omega)
      rw [cells_grp] at hc
      obtain ⟨A, n, c, l, rfl, h1, h2⟩ := open_atoms_trod Tryz.underlying54 ht'
      obtain ⟨_, hcl, hcell⟩ := World.cells?_some hc
      have h0 := hcell 0 (by omega)
      have hadd : ((a.add (i * 1)).add 0) = a.add (i * 1 + 0) := by unfold Addr.add; simp
      rw [hadd] at h0
      have hb' := World.block_lt_of_cell? W (a.add (i * 1 + 0)) h0
      rw [blk_add] at hb'
      exact ⟨l, _, h2, hb', h1, h0⟩
    refine ⟨some a, len0, cap0, List.ofFn fun i : Fin len0 => Classical.choose (hat i.1 i.2), rfl, ⟨some a, cap0, by simp, by simpa using hl, hm, fun i hi => ?_⟩, fun g hg => ?_⟩
    · simp only [List.length_ofFn] at hi
      have hs := Classical.choose_spec (Classical.choose_spec (hat i hi))
      refine ⟨a, [Classical.choose (Classical.choose_spec (hat i hi))], rfl, hs.2.1, ?_, rfl, fun j u hu => ?_⟩
      · rw [List.getElem_ofFn]; exact hs.2.2.1
      · have hj : j = 0 := by have := (List.getElem?_eq_some_iff.1 hu).1; simpa using this
        subst hj
        simp only [List.getElem?_cons_zero, Option.some.injEq] at hu
        rw [← hu]; exact hs.2.2.2
    · obtain ⟨i, hi⟩ := List.mem_ofFn.1 hg
      rw [← hi]; exact (Classical.choose_spec (Classical.choose_spec (hat i.1 i.2))).1
end
end Go.Proofs.YtmlakjemgmeffaaGreatDoor
end

section
/- A package's table of strings that a row lists: its cells are the strings. -/
namespace Go.Proofs.YtmlakjemgmeffaaGreatDoor
/-- A table of strings as a row lists it. -/
def strTab {H : Type} (zs : List (List UInt8)) : DataW H := .agg (zs.map fun z => .lit (.string z))
theorem cells_of_strs {H : Type} {enc : TypeId × Value → H} {P : Program} {w : World} {base : Nat} {sp : Nat → Bool} {held : Bool} {fuel : Nat} {t e : TypeId} {n : Nat} {cs : List Value} {zs : List (List UInt8)} {p : List MemPlace}
    (ht : P.underlying t = some (.array n e)) (he : P.underlying e = some .string) (hce : P.cellsOf e = 1) (hct : P.cellsOf t = n)
    (h : DataW.trod enc P w base sp held fuel t cs = some (strTab zs, p)) : cs = zs.map fun z => Value.string ⟨z.toArray⟩ := by
  cases fuel with
  | zero => simp [DataW.trod] at h
  | succ fuel =>
    simp only [DataW.trod, ht, hce, hct, Nat.mul_one] at h
    split at h
    · rename_i hl
      obtain ⟨xs, hm, hx⟩ := Option.map_eq_some_iff.1 h
      have hxs : xs.map (·.1) = zs.map fun z => (DataW.lit (.string z) : DataW H) := by
        have := congrArg Prod.fst hx
        simpa [strTab] using this
      have hxl : xs.length = n := by simpa using Lib.mapM_length hm
      have hzl : zs.length = n := by
        have := congrArg List.length hxs
        simp at this
        omega
      apply List.ext_getElem?
      intro i
      by_cases hi : i < n
      · obtain ⟨b, hb, hf⟩ := Lib.mapM_at hm i i (by simp [hi])
        obtain ⟨z, hc, rfl, _⟩ := DataW.trod_string he hf
        have h1 : cs[i]? = some (.string z) := by
          have := congrArg (·[0]?) hc
          simpa [List.getElem?_take, List.getElem?_drop] using this
        have h2 : (xs.map (·.1))[i]? = some (DataW.lit (.string z.data.toList) : DataW H) := by simp [hb]
        rw [hxs] at h2
        simp only [List.getElem?_map, Option.map_eq_some_iff, DataW.lit.injEq, Lit.string.injEq] at h2
        obtain ⟨z', hz', e'⟩ := h2
        rw [h1, List.getElem?_map, hz', e']
        rfl
      · rw [List.getElem?_eq_none (by omega), List.getElem?_eq_none (by simp; omega)]
    · cases h
theorem strs_of_head {P : Program} {W : World} {name : String} {zs : List (List UInt8)} {rest : List (String × DataW Unit)} {g : Nat} {t e : TypeId} {n : Nat}
    (hg : P.globalNamed name = some g) (hty : (P.globals[g]?).map (·.type) = some t) (ht : P.underlying t = some (.array n e)) (he : P.underlying e = some .string) (hce : P.cellsOf e = 1) (hct : P.cellsOf t = n)
    (h : laidMet P ((name, strTab zs) :: rest) W) (i : Nat) (z : List UInt8) (hi : zs[i]? = some z) : W.cell? ⟨g, i, none⟩ = some (.string ⟨z.toArray⟩) := by
  obtain ⟨ps, ⟨g', t', cs, fuel, p, q, hg', ht', hvar, hd, _, _⟩, _⟩ := h
  obtain rfl := Option.some.inj (hg.symm.trans hg')
  obtain rfl := Option.some.inj (hty.symm.trans ht')
  have hz : W.var? P name = some (zs.map fun z => Value.string ⟨z.toArray⟩).toArray := by
    rw [hvar, ← cells_of_strs ht he hce hct hd]
  have := World.var?_cell hg hz i
  simpa [hi] using this
end Go.Proofs.YtmlakjemgmeffaaGreatDoor
end

section
/- The last step of a law: as in Post, for a seat without the functions of layer 1. -/
namespace Go.Proofs.YtmlakjemgmeffaaGreatDoor
open Go.RowKit Go.WideShapes Go.ChangeShapes Go.ChangeAt
section
variable {H : Type} {enc : TypeId × Value → H} {P : Program}
theorem post_of_below {f : Func} {s : ChangeSpec} {apart fresh handsOn again : Bool} {W W' : World} {args : Array Value} {v : Value} {ds gs : List (DataW H)} {before pa pv : List MemPlace}
    (hW : DataW.Whole enc P f.params.toList s.vars apart W args.toList ds gs before)
    (hres : ∀ (b : Nat) (sp : Nat → Bool) (hd : Bool), DataW.TrodAll enc P W' b sp hd f.resultTypes.toList (v.resultList f.resultTypes.size) (s.fn H (ds ++ gs)).results [])
    (hargs : ∀ sp : Nat → Bool, (∀ p ∈ before, sp p.block = true) → DataW.TrodAll enc P W' 0 sp true f.params.toList args.toList (s.fn H (ds ++ gs)).args pa)
    (hvars : ∀ sp : Nat → Bool, (∀ p ∈ before, sp p.block = true) → DataW.TrodVars enc P W' sp s.vars (s.fn H (ds ++ gs)).vars pv)
    (hps : before = pa ++ pv) (hb : Below W.heap.size W W')
    (hok : ∀ (j : Nat) (t : TypeId) (r : Value), f.resultTypes[j]? = some t → (v.resultList f.resultTypes.size)[j]? = some r → Value.okWide P W' .any 0 t r) :
    s.post enc P f apart fresh handsOn again W args v W' := by
  have hlt : ∀ p ∈ before, p.block < W.heap.size := fun p hp => hW.lt p hp
  have hold : ∀ p ∈ before, (fun b => decide (b < W.heap.size)) p.block = true := fun p hp => by simpa using hlt p hp
  refine ⟨ds, gs, before, [], pa, pv, hW, hres _ _ _, hargs _ hold, hvars _ hold, World.keptBut_mono (fun p hp => ⟨hp, ?_⟩) (hb.frame (· ∈ before)), fun _ => ?_⟩
  · rw [hps, List.mem_append] at hp
    exact Or.inr hp
  · obtain ⟨_, _, _, _, _, hz, hn⟩ := hW
    refine ⟨hok, _, _, ([] ++ pa) ++ pv, ⟨[] ++ pa, pv, trodAll_append (hargs _ (fun _ _ => rfl)) (hres _ _ _), hvars _ (fun _ _ => rfl), rfl, ?_, ?_⟩, ?_⟩
    · intro b off hp
      have hin : MemPlace.cell b off ∈ before := by rw [hps]; simpa using hp
      rw [hb.frozen (hlt _ hin)]
      exact hz b off hin
    · intro ha
      have := hn ha
      rw [hps] at this
      simpa using this
    · intro p hp _
      rw [hps]
      simpa using hp
end
theorem own_none : ownKnob Tryz.prog.godebug = none := by kernel_rfl
theorem laid_out : laidOutB Tryz.prog = true := by kernel_rfl
section
variable {H : Type} {enc : TypeId × Value → H} {P : Program}
theorem trodAll_below {W W' : World} (hl : laidOutB P = true) (hb : Below W.heap.size W W') : ∀ {ts : List TypeId} {vs : List Value} {ds : List (DataW H)} {ps : List MemPlace}, (∀ t ∈ ts, P.readableRec t = true ∧ t < P.types.size) →
    DataW.TrodAll enc P W 0 (fun _ => true) true ts vs ds ps → (∀ x ∈ ps, x.block < W.heap.size) → DataW.TrodAll enc P W' 0 (fun b => decide (b < W.heap.size)) true ts vs ds ps
  | [], [], [], _, _, h, _ => h
  | t :: ts, v :: vs, d :: ds, ps, hts, h, hlt => by
    obtain ⟨p, q, h1, h2, rfl⟩ := h
    refine ⟨p, q, Below.trod hl (hts t (by simp)).1 (hts t (by simp)).2 h1 hb (fun x hx => hlt x (by simp [hx])), trodAll_below hl hb (fun t ht => hts t (by simp [ht])) h2 (fun x hx => hlt x (by simp [hx])), rfl⟩
  | [], [], _ :: _, _, _, h, _ => h.elim
  | [], _ :: _, _, _, _, h, _ => h.elim
  | _ :: _, [], _, _, _, h, _ => h.elim
  | _ :: _, _ :: _, [], _, _, h, _ => h.elim
/-- A law's last step, whatever its parameters: true came back, and below the heap's old size nothing has turned. -/
theorem law_post {f : Func} {s : ChangeSpec} {W W' : World} {args : Array Value} {ds gs : List (DataW H)} {before : List MemPlace} {b : TypeId} {apart : Bool}
    (hW : DataW.Whole enc P f.params.toList s.vars apart W args.toList ds gs before) (hv : s.vars = [])
    (h1 : (s.fn H ds).results = [.lit (.bool true)]) (h2 : (s.fn H ds).args = ds) (h3 : (s.fn H ds).vars = [])
    (hrt : f.resultTypes = #[b]) (hbool : P.underlying b = some .bool) (hl : laidOutB P = true) (hts : ∀ t ∈ f.params.toList, P.readableRec t = true ∧ t < P.types.size)
    (hb : Below W.heap.size W W') : s.post enc P f apart true false false W args (.bool true) W' := by
  have hW' := hW
  have hlt0 := hW.lt
  obtain ⟨p, q, hA, hV, rfl, hz, hn⟩ := hW
  rw [hv] at hV
  obtain ⟨rfl, rfl⟩ := trodVars_none hV
  refine ⟨ds, [], p ++ [], [], p, [], hW', ?_, ?_, ?_, hb.frame _, fun h => by cases h⟩
  · rw [List.append_nil, h1, hrt]
    exact trodAll_cons_mk (shut_bool hbool _) trodAll_mk0
  · rw [List.append_nil, h2]
    exact trodAll_below hl hb hts hA (fun x hx => hlt0 x (by simp [hx]))
  · rw [hv, List.append_nil, h3]; rfl
end
end Go.Proofs.YtmlakjemgmeffaaGreatDoor
end

section
/- A law's parameter that is an atom, opened. -/
set_option maxRecDepth 100000
namespace Go.Proofs.YtmlakjemgmeffaaGreatDoor
open Go.RowKit Go.WideShapes Go.ChangeShapes Go.ChangeAt Go.WideMaps Go.WideElems Go.Joins
theorem open_atom_arg {H : Type} {enc : TypeId × Value → H} {W : World} {v : Value} {d : DataW H} {p : List MemPlace} {base : Nat} (hv : Value.okWide Tryz.prog W .any base 49 v) (h : DataW.Trod enc Tryz.prog W 0 (fun _ => true) true 49 v d p) :
    ∃ (n : ByteArray) (e : Int) (r : ByteArray), v = .agg #[.string n, .int .i64 e, .string r] ∧ n.size ≤ maxLen ∧ (Lit.int .i64 e).wf = true ∧ r.size ≤ maxLen := by
  obtain ⟨v0, v1, v2, y0, y1, y2, n, rfl, _, _, h0, h1, h2⟩ := open_agg3 Tryz.underlying49 (by kernel_rfl) (by kernel_rfl) hv h
  obtain ⟨u, rfl, wu⟩ := one_string h0
  obtain ⟨e, rfl, we⟩ := one_int h1
  obtain ⟨r, rfl, wr⟩ := one_string h2
  exact ⟨u, e, r, rfl, wu, we, wr⟩
end Go.Proofs.YtmlakjemgmeffaaGreatDoor
end
