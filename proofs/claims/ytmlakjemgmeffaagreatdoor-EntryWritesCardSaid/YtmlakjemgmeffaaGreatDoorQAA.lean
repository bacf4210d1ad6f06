/- What the laws of this seat rest on: D4a, D4b, HeldM, Open2, OpenG, LaidStr, Post2. -/
import Derived.Test.YtmlakjemgmeffaaGreatDoorND
import Derived.Test.YtmlakjemgmeffaaGreatDoorNA
import Derived.StillTailTactics
import Derived.BigQuiet
import Derived.Deep.QuietTactic
import Derived.Test.YtmlakjemgmeffaaGreatDoorChecked
import Derived.ProofKit
import Derived.OpenShut
import Derived.ChangeMaps5
import Derived.SliceStrings
import Derived.Lib.SmallJoins
import Derived.Deep.Slices
import Derived.Deep.Strs
import Derived.Lib.LaidTab
import Derived.ChangeArms
import Derived.Test.YtmlakjemgmeffaaGreatDoorRows
import Derived.Below
import Derived.ChangeSame
import Derived.Carry

section
set_option maxRecDepth 100000
set_option linter.unusedVariables false
set_option linter.unusedSimpArgs false
namespace Go.Proofs.YtmlakjemgmeffaaGreatDoor
open Go.RowKit
structure Atm where
  n : ByteArray
  o : Int
  v : ByteArray
def Atm.val (a : Atm) : Value := .agg #[.string a.n, .int .i64 a.o, .string a.v]
def Atm.cells (a : Atm) : List Value := [.string a.n, .int .i64 a.o, .string a.v]
def rdAtm : Rd Atm := fun _ _ a cs => cs = a.cells
theorem rdAtm_good : Good rdAtm 3 := ⟨fun h _ => h, fun h _ => h, fun h _ _ => h, fun h => by rw [h]; rfl, fun h u hu => by rw [h] at hu; simp [Atm.cells] at hu; rcases hu with rfl | rfl | rfl <;> rfl⟩
abbrev rdAtms : Rd (List Atm) := rdRow 3 rdAtm
abbrev rdGrps : Rd (List (List Atm)) := rdRow 1 rdAtms
theorem rdAtms_good : Good rdAtms 1 := rdRow_good rdAtm_good
theorem rdGrps_good : Good rdGrps 1 := rdRow_good rdAtms_good
theorem off_add (a : Addr) (k j : Nat) (hj : j ≠ 0) : (⟨(a.add k).block, (a.add k).off + j, none⟩ : Addr) = a.add (k + j) := by
  unfold Addr.add; by_cases hk : k = 0 <;> simp [hk, hj, Nat.add_assoc]
theorem rdAtms_at {w : World} {S : Nat → Prop} {l : List Atm} {A : Option Addr} {n c : Nat} (h : rdAtms w S l [.slice A n c]) : n = l.length ∧ n ≤ c ∧ c ≤ maxLen ∧ ∀ k (hk : k < l.length), ∃ ad, A = some ad ∧ S ad.block ∧
    w.cell? (ad.add (k * 3)) = some (.string l[k].n) ∧ w.cell? ⟨(ad.add (k * 3)).block, (ad.add (k * 3)).off + 1, none⟩ = some (.int .i64 l[k].o) ∧ w.cell? ⟨(ad.add (k * 3)).block, (ad.add (k * 3)).off + 2, none⟩ = some (.string l[k].v) := by
  obtain ⟨A', c', e, h1, h2, h⟩ := h
  simp only [List.cons.injEq, Value.slice.injEq, and_true] at e
  obtain ⟨rfl, rfl, rfl⟩ := e
  refine ⟨rfl, h1, h2, fun k hk => ?_⟩
  obtain ⟨ad, es, e, hS, hE, hl, hc⟩ := h k hk
  rw [show es = l[k].cells from hE] at hc
  exact ⟨ad, e, hS, hc 0 _ rfl, by rw [off_add ad (k * 3) 1 (by omega)]; exact hc 1 _ rfl, by rw [off_add ad (k * 3) 2 (by omega)]; exact hc 2 _ rfl⟩
theorem rdGrps_at {w : World} {S : Nat → Prop} {l : List (List Atm)} {A : Option Addr} {n c : Nat} (h : rdGrps w S l [.slice A n c]) : n = l.length ∧ n ≤ c ∧ c ≤ maxLen ∧ ∀ k (hk : k < l.length), ∃ ad A' c', A = some ad ∧ S ad.block ∧
    w.cell? (ad.add k) = some (.slice A' l[k].length c') ∧ rdAtms w S l[k] [.slice A' l[k].length c'] := by
  obtain ⟨A', c', e, h1, h2, h⟩ := h
  simp only [List.cons.injEq, Value.slice.injEq, and_true] at e
  obtain ⟨rfl, rfl, rfl⟩ := e
  refine ⟨rfl, h1, h2, fun k hk => ?_⟩
  obtain ⟨ad, es, e, hS, hE, hl, hc⟩ := h k hk
  have hE' := hE
  obtain ⟨A2, c2, rfl, _⟩ := hE'
  refine ⟨ad, A2, c2, e, hS, ?_, hE⟩
  have := hc 0 _ rfl
  rwa [Nat.mul_one] at this
theorem all_takeL {α : Type} (p : α → Bool) (l : List α) (k : Nat) (hk : k < l.length) : (l.take (k + 1)).all p = ((l.take k).all p && p l[k]) := by
  rw [List.take_succ_eq_append_getElem hk, List.all_append]; simp
theorem all_stopL {α : Type} {p : α → Bool} {l : List α} {k : Nat} (hk : k < l.length) (h : p l[k] = false) : l.all p = false := by
  rw [List.all_eq_false]; exact ⟨l[k], List.getElem_mem hk, by rw [h]; decide⟩
end Go.Proofs.YtmlakjemgmeffaaGreatDoor
end

section
set_option maxRecDepth 100000
set_option linter.unusedVariables false
set_option linter.unusedSimpArgs false
namespace Go.Proofs.YtmlakjemgmeffaaGreatDoor
open Go.RowKit
deriving instance DecidableEq for Atm
theorem atomT_struct : Tryz.prog.underlying 49 = some (.struct (Tryz.prog.fieldsOf 49)) := by kernel_rfl
theorem atomT_stood : Tryz.prog.stoodInHeld 49 = false := by kernel_rfl
theorem atomT_fields : (Tryz.prog.fieldsOf 49).toList.map (fun f => (f.type, f.offset, f.name == "_")) = [(9, 0, false), (3, 1, false), (9, 2, false)] := by kernel_rfl
theorem eq_atm (x y : Atm) (w : World) : (Op.equalIn 10000 49 x.val y.val).run Tryz.prog w = .ok (decide (x = y)) w := by
  obtain ⟨u, e, r⟩ := x
  obtain ⟨u', e', r'⟩ := y
  have hi := Tryz.underlying3
  have hs := Tryz.underlying9
  unfold Atm.val
  rw [run_equalIn_struct w 9999 _ _ _ atomT_struct atomT_stood]
  have hf := atomT_fields
  generalize (Tryz.prog.fieldsOf 49).toList = L at hf ⊢
  have hlen : L.length = 3 := by have := congrArg List.length hf; simpa using this
  have hst : ∀ a b : ByteArray, (a.toList == b.toList) = decide (a = b) := by
    intro a b
    have h := strEq (B a) b (B_lt a)
    rw [mk_B] at h
    rw [h, decide_eq_decide]
    exact ⟨fun h => B_inj h, fun h => by rw [h]⟩
  rcases L with _ | ⟨f0, _ | ⟨f1, _ | ⟨f2, _ | ⟨f3, L⟩⟩⟩⟩
  · simp at hlen
  · simp at hlen
  · simp at hlen
  · simp only [List.map_cons, List.map_nil, List.cons.injEq, Prod.mk.injEq, and_true] at hf
    obtain ⟨⟨a0, b0, c0⟩, ⟨a1, b1, c1⟩, ⟨a2, b2, c2⟩⟩ := hf
    have n0 : f0.name ≠ "_" := by simpa using c0
    have n1 : f1.name ≠ "_" := by simpa using c1
    have n2 : f2.name ≠ "_" := by simpa using c2
    simp only [Op.eqFields, n0, n1, n2, ne_eq, not_false_iff, if_true, a0, b0, a1, b1, a2, b2, Atm.mk.injEq]
    cases h1 : (e == e') <;> cases h2 : (u.toList == u'.toList) <;> cases h3 : (r.toList == r'.toList) <;> simp [part, isAgg, run_underlying hi, run_underlying hs, run_equalIn_int w 9998 _ _ _ _ _ hi, run_equalIn_string w 9998 _ _ _ hs, h1, h2, h3] <;> rw [hst] at h2 h3 <;> simp_all
  · simp at hlen
theorem neq_atm (x y : Atm) (w : World) : (Op.equalIn 10000 49 (.agg #[.string x.n, .int .i64 x.o, .string x.v]) (.agg #[.string y.n, .int .i64 y.o, .string y.v])).run Tryz.prog w = .ok (decide (x = y)) w := eq_atm x y w
theorem same_take {α : Type} [DecidableEq α] {l m : List α} {k : Nat} (hl : l.length = m.length) (hk : k < l.length) (hm : k < m.length) (h : l.take k = m.take k) (he : l[k] = m[k]) : l.take (k + 1) = m.take (k + 1) := by
  rw [List.take_succ_eq_append_getElem hk, List.take_succ_eq_append_getElem hm, h, he]
end Go.Proofs.YtmlakjemgmeffaaGreatDoor
end

section
set_option maxRecDepth 100000
set_option linter.unusedVariables false
set_option linter.unusedSimpArgs false
namespace Go.Proofs.YtmlakjemgmeffaaGreatDoor
open Go.RowKit
theorem one_atm {w : World} {S : Nat → Prop} {b : Nat} {n : ByteArray} {o : Int} {v : ByteArray} {T : TypeId} (hb : w.heap[b]? = some (.cells #[.string n, .int .i64 o, .string v] T (0, 0))) (hS : S b) : rdAtms w S [⟨n, o, v⟩] [.slice (some ⟨b, 0, none⟩) 1 1] :=
  rd_block rdAtm_good (S := S) (l := [⟨n, o, v⟩]) (css := [[.string n, .int .i64 o, .string v]]) hb hS rfl rfl (fun k hk => by
    simp only [List.length_singleton] at hk
    obtain rfl : k = 0 := by omega
    exact ⟨_, rfl, rfl⟩) (by simp)
end Go.Proofs.YtmlakjemgmeffaaGreatDoor
end

section
set_option maxRecDepth 100000
namespace Go.Proofs.YtmlakjemgmeffaaGreatDoor
open Go.RowKit Go.WideShapes Go.ChangeShapes Go.ChangeAt Go.WideMaps Go.WideElems Go.Joins
section
variable {H : Type} {enc : TypeId × Value → H} {W : World}
theorem one_int {base n : Nat} {sp : Nat → Bool} {held : Bool} {v : Value} {y : DataW H × List MemPlace} (h : DataW.trod enc Tryz.prog W base sp held n 3 [v] = some y) : ∃ e : Int, v = .int .i64 e ∧ (Lit.int .i64 e).wf = true := by
  obtain ⟨e, h0, _, h2⟩ := DataW.trod_int Tryz.underlying3 h
  injection h0 with h0
  exact ⟨e, h0, h2⟩
theorem one_string {base n : Nat} {sp : Nat → Bool} {held : Bool} {v : Value} {y : DataW H × List MemPlace} (h : DataW.trod enc Tryz.prog W base sp held n 9 [v] = some y) : ∃ s : ByteArray, v = .string s ∧ s.size ≤ maxLen := by
  obtain ⟨s, h0, _, h2⟩ := DataW.trod_string Tryz.underlying9 h
  injection h0 with h0
  exact ⟨s, h0, h2⟩
theorem open_str_arg {v : Value} {d : DataW H} {p : List MemPlace} {base : Nat} (hv : Value.okWide Tryz.prog W .any base 9 v) (h : DataW.Trod enc Tryz.prog W 0 (fun _ => true) true 9 v d p) :
    ∃ s : ByteArray, v = .string s ∧ s.size ≤ maxLen := by
  obtain ⟨s, rfl⟩ := okWide_string Tryz.underlying9 hv
  obtain ⟨fuel, hf⟩ := h
  obtain ⟨s', h0, _, h2⟩ := DataW.trod_string Tryz.underlying9 hf
  simp [Value.cells] at h0
  exact ⟨s, rfl, by rw [h0]; exact h2⟩
end
end Go.Proofs.YtmlakjemgmeffaaGreatDoor
end

section
set_option maxRecDepth 100000
namespace Go.Proofs.YtmlakjemgmeffaaGreatDoor
open Go.RowKit Go.WideShapes Go.ChangeShapes Go.ChangeAt Go.WideMaps Go.WideElems Go.Joins Go.Deep
section
variable {H : Type} {enc : TypeId × Value → H} {W : World}
def AtmOk (a : Atm) : Prop := a.n.size ≤ maxLen ∧ (Lit.int .i64 a.o).wf = true ∧ a.v.size ≤ maxLen
theorem cells_atm : Tryz.prog.cellsOf 49 = 3 := by kernel_rfl
theorem cells_grp : Tryz.prog.cellsOf 54 = 1 := by kernel_rfl
theorem trod_atm {base n : Nat} {sp : Nat → Bool} {held : Bool} {cs : List Value} {y : DataW H × List MemPlace} (h : DataW.trod enc Tryz.prog W base sp held n 49 cs = some y) : ∃ x : Atm, cs = x.cells ∧ AtmOk x := by
  obtain ⟨y0, y1, y2, m, _, hl, h0, h1, h2⟩ := trod_struct3 Tryz.underlying49 h
  rw [cells_atm] at hl
  rcases cs with _ | ⟨c0, _ | ⟨c1, _ | ⟨c2, _ | ⟨c3, cs⟩⟩⟩⟩
  · simp at hl
  · simp at hl
  · simp at hl
  · have e0 : DataW.trod enc Tryz.prog W base sp held m 9 [c0] = some y0 := h0
    have e1 : DataW.trod enc Tryz.prog W base sp held m 3 [c1] = some y1 := h1
    have e2 : DataW.trod enc Tryz.prog W base sp held m 9 [c2] = some y2 := h2
    obtain ⟨u, rfl, wu⟩ := one_string e0
    obtain ⟨e, rfl, we⟩ := one_int e1
    obtain ⟨r, rfl, wr⟩ := one_string e2
    exact ⟨⟨u, e, r⟩, rfl, wu, we, wr⟩
  · simp at hl
theorem open_atoms_trod {base n : Nat} {sp : Nat → Bool} {held : Bool} {t : TypeId} {cs : List Value} {y : DataW H × List MemPlace} (ht : Tryz.prog.underlying t = some (.slice 49)) (h : DataW.trod enc Tryz.prog W base sp held n t cs = some y) :
    ∃ A len c l, cs = [.slice A len c] ∧ rdAtms W (lt_ W.heap.size) l [.slice A len c] ∧ (∀ a ∈ l, AtmOk a) := by
  rcases open_slice ht h with ⟨rfl, _⟩ | ⟨a, len, cap, m, k, D, Pl, rfl, hb, hl, hm, hmm, _, hx⟩
  · exact ⟨none, 0, 0, [], rfl, rdRow_nil _ _, by simp⟩
  · have hlm : len ≤ m := by rw [hmm]; split <;> omega
    have hat : ∀ i, i < len → ∃ x : Atm, AtmOk x ∧ a.block < W.heap.size ∧ ∀ j u, x.cells[j]? = some u → W.cell? (a.add (i * 3 + j)) = some u := by
      intro i hi
      obtain ⟨cs', hc, ht'⟩ := hx i (by omega)
      rw [cells_atm] at hc
      obtain ⟨x, rfl, hok⟩ := trod_atm ht'
      obtain ⟨_, hcl, hcell⟩ := World.cells?_some hc
      have key : ∀ j u, x.cells[j]? = some u → W.cell? (a.add (i * 3 + j)) = some u := fun j u hu => by
        have hj : j < 3 := by have := (List.getElem?_eq_some_iff.1 hu).1; simpa [Atm.cells] using this
        have := hcell j hj
        rw [hu] at this
        rw [← this]
        congr 1
        unfold Addr.add
        by_cases h1 : i * 3 = 0 <;> by_cases h2 : j = 0 <;> simp [h1, h2, Nat.add_assoc]
      have hb' := World.block_lt_of_cell? _ _ (key 0 _ rfl)
      rw [blk_add] at hb'
      exact ⟨x, hok, hb', key⟩
    refine ⟨some a, len, cap, List.ofFn fun i : Fin len => Classical.choose (hat i.1 i.2), rfl, ⟨some a, cap, by simp, by simpa using hl, hm, fun i hi => ?_⟩, fun x hx => ?_⟩
    · simp only [List.length_ofFn] at hi
      have hs := Classical.choose_spec (hat i hi)
      refine ⟨a, _, rfl, hs.2.1, ?_, ?_, hs.2.2⟩
      · show _ = Atm.cells _
        rw [List.getElem_ofFn]
      · rfl
    · obtain ⟨i, hi⟩ := List.mem_ofFn.1 hx
      rw [← hi]; exact (Classical.choose_spec (hat i.1 i.2)).1
end
end Go.Proofs.YtmlakjemgmeffaaGreatDoor
end

section
namespace Go.Proofs.YtmlakjemgmeffaaGreatDoor
def strTab {H : Type} (zs : List (List UInt8)) : DataW H := .agg (zs.map fun z => .lit (.string z))
theorem cells_of_strs {H : Type} {enc : TypeId × Value → H} {P : Program} {w : World} {base : Nat} {sp : Nat → Bool} {held : Bool} {fuel : Nat} {t e : TypeId} {n : Nat} {cs : List Value} {zs : List (List UInt8)} {p : List MemPlace}
    (ht : P.underlying t = some (.array n e)) (he : P.underlying e = some .string) (hce : P.cellsOf e = 1) (hct : P.cellsOf t = n)
    (h : DataW.trod enc P w base sp held fuel t cs = some (strTab zs, p)) : cs = zs.map fun z => Value.string ⟨z.toArray⟩ := by
  cases fuel with
  | zero => simp [DataW.trod] at h
  | succ fuel =>
    simp only [DataW.trod, ht, hce, hct, Nat.mul_one] at h
    split at h
    · rename_i hl
      obtain ⟨xs, hm, hx⟩ := Option.map_eq_some_iff.1 h
      have hxs : xs.map (·.1) = zs.map fun z => (DataW.lit (.string z) : DataW H) := by
        have := congrArg Prod.fst hx
        simpa [strTab] using this
      have hxl : xs.length = n := by simpa using Lib.mapM_length hm
      have hzl : zs.length = n := by
        have := congrArg List.length hxs
        simp at this
        omega
      apply List.ext_getElem?
      intro i
      by_cases hi : i < n
      · obtain ⟨b, hb, hf⟩ := Lib.mapM_at hm i i (by simp [hi])
        obtain ⟨z, hc, rfl, _⟩ := DataW.trod_string he hf
        have h1 : cs[i]? = some (.string z) := by
          have := congrArg (·[0]?) hc
          simpa [List.getElem?_take, List.getElem?_drop] using this
        have h2 : (xs.map (·.1))[i]? = some (DataW.lit (.string z.data.toList) : DataW H) := by simp [hb]
        rw [hxs] at h2
        simp only [List.getElem?_map, Option.map_eq_some_iff, DataW.lit.injEq, Lit.string.injEq] at h2
        obtain ⟨z', hz', e'⟩ := h2
        rw [h1, List.getElem?_map, hz', e']
        rfl
      · rw [List.getElem?_eq_none (by omega), List.getElem?_eq_none (by simp; omega)]
    · cases h
theorem strs_of_head {P : Program} {W : World} {name : String} {zs : List (List UInt8)} {rest : List (String × DataW Unit)} {g : Nat} {t e : TypeId} {n : Nat}
    (hg : P.globalNamed name = some g) (hty : (P.globals[g]?).map (·.type) = some t) (ht : P.underlying t = some (.array n e)) (he : P.underlying e = some .string) (hce : P.cellsOf e = 1) (hct : P.cellsOf t = n)
    (h : laidMet P ((name, strTab zs) :: rest) W) (i : Nat) (z : List UInt8) (hi : zs[i]? = some z) : W.cell? ⟨g, i, none⟩ = some (.string ⟨z.toArray⟩) := by
  obtain ⟨ps, ⟨g', t', cs, fuel, p, q, hg', ht', hvar, hd, _, _⟩, _⟩ := h
  obtain rfl := Option.some.inj (hg.symm.trans hg')
  obtain rfl := Option.some.inj (hty.symm.trans ht')
  have hz : W.var? P name = some (zs.map fun z => Value.string ⟨z.toArray⟩).toArray := by
    rw [hvar, ← cells_of_strs ht he hce hct hd]
  have := World.var?_cell hg hz i
  simpa [hi] using this
end Go.Proofs.YtmlakjemgmeffaaGreatDoor
end

section
namespace Go.Proofs.YtmlakjemgmeffaaGreatDoor
open Go.RowKit Go.WideShapes Go.ChangeShapes Go.ChangeAt
section
variable {H : Type} {enc : TypeId × Value → H} {P : Program}
end
theorem laid_out : laidOutB Tryz.prog = true := by kernel_rfl
section
variable {H : Type} {enc : TypeId × Value → H} {P : Program}
theorem trodAll_below {W W' : World} (hl : laidOutB P = true) (hb : Below W.heap.size W W') : ∀ {ts : List TypeId} {vs : List Value} {ds : List (DataW H)} {ps : List MemPlace}, (∀ t ∈ ts, P.readableRec t = true ∧ t < P.types.size) →
    DataW.TrodAll enc P W 0 (fun _ => true) true ts vs ds ps → (∀ x ∈ ps, x.block < W.heap.size) → DataW.TrodAll enc P W' 0 (fun b => decide (b < W.heap.size)) true ts vs ds ps
  | [], [], [], _, _, h, _ => h
  | t :: ts, v :: vs, d :: ds, ps, hts, h, hlt => by
    obtain ⟨p, q, h1, h2, rfl⟩ := h
    refine ⟨p, q, Below.trod hl (hts t (by simp)).1 (hts t (by simp)).2 h1 hb (fun x hx => hlt x (by simp [hx])), trodAll_below hl hb (fun t ht => hts t (by simp [ht])) h2 (fun x hx => hlt x (by simp [hx])), rfl⟩
  | [], [], _ :: _, _, _, h, _ => h.elim
  | [], _ :: _, _, _, _, h, _ => h.elim
  | _ :: _, [], _, _, _, h, _ => h.elim
  | _ :: _, _ :: _, [], _, _, h, _ => h.elim
theorem law_post {f : Func} {s : ChangeSpec} {W W' : World} {args : Array Value} {ds gs : List (DataW H)} {before : List MemPlace} {b : TypeId} {apart : Bool}
    (hW : DataW.Whole enc P f.params.toList s.vars apart W args.toList ds gs before) (hv : s.vars = [])
    (h1 : (s.fn H ds).results = [.lit (.bool true)]) (h2 : (s.fn H ds).args = ds) (h3 : (s.fn H ds).vars = [])
    (hrt : f.resultTypes = #[b]) (hbool : P.underlying b = some .bool) (hl : laidOutB P = true) (hts : ∀ t ∈ f.params.toList, P.readableRec t = true ∧ t < P.types.size)
    (hb : Below W.heap.size W W') : s.post enc P f apart true false false W args (.bool true) W' := by
  have hW' := hW
  have hlt0 := hW.lt
  obtain ⟨p, q, hA, hV, rfl, hz, hn⟩ := hW
  rw [hv] at hV
  obtain ⟨rfl, rfl⟩ := trodVars_none hV
  refine ⟨ds, [], p ++ [], [], p, [], hW', ?_, ?_, ?_, hb.frame _, fun h => by cases h⟩
  · rw [List.append_nil, h1, hrt]
    exact trodAll_cons_mk (shut_bool hbool _) trodAll_mk0
  · rw [List.append_nil, h2]
    exact trodAll_below hl hb hts hA (fun x hx => hlt0 x (by simp [hx]))
  · rw [hv, List.append_nil, h3]; rfl
end
end Go.Proofs.YtmlakjemgmeffaaGreatDoor
end
