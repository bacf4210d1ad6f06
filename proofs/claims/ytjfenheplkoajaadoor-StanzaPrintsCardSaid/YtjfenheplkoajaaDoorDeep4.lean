/- append of a whole slice at a step of a region that draws its order; an empty slice of the call's own. No condition. -/
import Derived.Test.YtjfenheplkoajaaDoorDeep2
import Derived.RegionTactic
set_option linter.unusedVariables false
namespace Go.Proofs.YtjfenheplkoajaaDoor
open Go.RowKit
section
variable {α : Type} {E : Rd α} {sz : Nat}
/-- An empty slice that has just been laid. -/
theorem Grow.empty (T : Nat → Prop) {W : World} {base b : Nat} {e : TypeId} (hb : W.heap[b]? = some (.cells #[] e (0, 0))) (hbase : base ≤ b) : Grow E sz T W base e (.slice (some ⟨b, 0, none⟩) 0 0) [] :=
  ⟨[], rfl, ⟨by simp, .inr ⟨b, 0, #[], rfl, hbase, hb, Nat.le_refl _, Nat.zero_le _, by simp, by simp⟩⟩, fun k hk => absurd hk (by simp)⟩
theorem wp_growN {P : Program} {o : Oper} {a : Act} {K : Act → World → Prop} {Q : Exit → Act → World → Prop} (W : World) (s x : Operand) (t t' : TypeId)
    (ho : o.op = .call { callee := .builtin .append, args := #[s, x], argTypes := #[t, t'] }) (g : Good E sz) (hsz : 0 < sz) (T : Nat → Prop) (base : Nat) (e e' : TypeId) (i : TypeInfo) (z : Value) (bytes : Nat)
    (ht : P.underlying t = some (.slice e)) (ht' : P.underlying t' = some (.slice e')) (hi : P.info? e = some i) (hz : i.zero = some z) (hsize : i.size = sz) (hby : i.bytes = bytes) (hzs : z.cells.size = sz)
    (v : Value) (l : List α) (hs : a.eval s = v) (hG : Grow E sz T W base e v l) (m : List α) (S : Nat → Prop) (A : Option Addr) (n c : Nat) (hx : a.eval x = .slice A n c) (hX : rdRow sz E W S m [.slice A n c]) (hS : ∀ b, S b → T b ∧ b < W.heap.size ∧ v.ownBlock ≠ some b)
    (hn : l.length + m.length ≤ maxLen) (hb2 : (l.length + m.length) * bytes ≤ 140737488355328) (hbase : base ≤ W.heap.size)
    (h : ∀ v' w', Grow E sz T w' base e v' (l ++ m) → W.grownBy w' v.ownBlock → (v'.ownBlock = v.ownBlock ∨ ∃ b, v'.ownBlock = some b ∧ W.heap.size ≤ b) → K (a.put o.dst v') w') : Oper.wp P o a W K Q := by
  obtain ⟨v', w', hr, h2, h3, h4⟩ := run_growN (P := P) W t t' o.type g hsz T base e e' i z bytes ht ht' hi hz hsize hby hzs v l hG m S A n c hX hS hn hb2 hbase
  unfold Oper.wp execOp
  simp only [ho, resolve, invoke, builtin, Sem.run_bind, Sem.run_pure, Result.andThen_ok, List.map_toArray, List.map_cons, List.map_nil, hs, hx, hr]
  exact h v' w' h2 h3 h4
theorem step_growN {P : Program} {ops : Array Oper} {o : Oper} {a : Act} {K : Act → World → Prop} {Q : Exit → Act → World → Prop} {F : Prop} (W : World) (hgd : o.guard = none) (s x : Operand) (t t' : TypeId)
    (ho : o.op = .call { callee := .builtin .append, args := #[s, x], argTypes := #[t, t'] }) (g : Good E sz) (hsz : 0 < sz) (T : Nat → Prop) (base : Nat) (e e' : TypeId) (i : TypeInfo) (z : Value) (bytes : Nat)
    (ht : P.underlying t = some (.slice e)) (ht' : P.underlying t' = some (.slice e')) (hi : P.info? e = some i) (hz : i.zero = some z) (hsize : i.size = sz) (hby : i.bytes = bytes) (hzs : z.cells.size = sz)
    (v : Value) (l : List α) (hs : a.eval s = v) (hG : Grow E sz T W base e v l) (m : List α) (S : Nat → Prop) (A : Option Addr) (n c : Nat) (hx : a.eval x = .slice A n c) (hX : rdRow sz E W S m [.slice A n c]) (hS : ∀ b, S b → T b ∧ b < W.heap.size ∧ v.ownBlock ≠ some b)
    (hn : l.length + m.length ≤ maxLen) (hb2 : (l.length + m.length) * bytes ≤ 140737488355328) (hbase : base ≤ W.heap.size)
    (h : ∀ v' w', Grow E sz T w' base e v' (l ++ m) → W.grownBy w' v.ownBlock → (v'.ownBlock = v.ownBlock ∨ ∃ b, v'.ownBlock = some b ∧ W.heap.size ≤ b) → K (a.put o.dst v') w') :
    if Region.wanted o (yielded ops a.tmps) = true then Oper.wp P o a W K Q else F := by
  have hw : Region.wanted o (yielded ops a.tmps) = true := by simp [Region.wanted, hgd]
  rw [if_pos hw]
  exact wp_growN W s x t t' ho g hsz T base e e' i z bytes ht ht' hi hz hsize hby hzs v l hs hG m S A n c hx hX hS hn hb2 hbase h
end
/-- Three cells of a block that is not the row appended to. -/
theorem far3 {W w' : World} {row : Option Nat} {b : Nat} {x y z : Value} (hg : W.grownBy w' row) (hb : b < W.heap.size) (hne : some b ≠ row) (h : W.cell? ⟨b, 0, none⟩ = some x ∧ W.cell? ⟨b, 1, none⟩ = some y ∧ W.cell? ⟨b, 2, none⟩ = some z) : w'.cell? ⟨b, 0, none⟩ = some x ∧ w'.cell? ⟨b, 1, none⟩ = some y ∧ w'.cell? ⟨b, 2, none⟩ = some z := by
  have hk := hg.block b hb hne
  exact ⟨(World.cell?_of_block (a := ⟨b, 0, none⟩) hk).trans h.1, (World.cell?_of_block (a := ⟨b, 1, none⟩) hk).trans h.2.1, (World.cell?_of_block (a := ⟨b, 2, none⟩) hk).trans h.2.2⟩
end Go.Proofs.YtjfenheplkoajaaDoor
