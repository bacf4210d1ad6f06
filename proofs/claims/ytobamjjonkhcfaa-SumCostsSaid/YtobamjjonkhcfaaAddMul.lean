/- The contracts of sum.Add and sum.Mul: the number and no error where there is room, else 0 and ErrOver; what was in memory before is as it was. -/
import Derived.Test.YtobamjjonkhcfaaWithin
namespace Go.Proofs.Ytobamjjonkhcfaa
open Go.RowKit

def addV (a b : Int) : Int := if InR (a + b) then a + b else 0
def addE (a b : Int) : Int := if InR (a + b) then 0 else 2
def mulV (a b : Int) : Int := if InR (a * b) then a * b else 0
def mulE (a b : Int) : Int := if InR (a * b) then 0 else 2

theorem addV_in {a b : Int} (h : InR (a + b)) : addV a b = a + b ∧ addE a b = 0 := by unfold addV addE; simp [h]
theorem addV_out {a b : Int} (h : ¬ InR (a + b)) : addV a b = 0 ∧ addE a b = 2 := by unfold addV addE; simp [h]
theorem mulV_in {a b : Int} (h : InR (a * b)) : mulV a b = a * b ∧ mulE a b = 0 := by unfold mulV mulE; simp [h]
theorem mulV_out {a b : Int} (h : ¬ InR (a * b)) : mulV a b = 0 ∧ mulE a b = 2 := by unfold mulV mulE; simp [h]
theorem cell_old {w : World} {p : Addr} {v : Value} (h : w.cell? p = some v) (o : Obj) : (w.alloc o).cell? p = some v := by
  have hb : p.block < w.heap.size := by
    rcases Nat.lt_or_ge p.block w.heap.size with hl | hl
    · exact hl
    · exfalso
      simp [World.cell?, Array.getElem?_eq_none hl] at h
  rw [← h]
  exact World.cell?_of_block (w := w) (Below.heap_alloc w o p.block hb)

theorem enter_add1 (cap : Array Value) (w : World) : (callFunc 25 cap).run Try.prog w = .ok (.enter 25 cap) w := by kernel_rfl
theorem add1_fits (p q : Addr) (a b : Int) (w : World) (hp : w.cell? p = some (.int .i64 a)) (hq : w.cell? q = some (.int .i64 b)) (ha : InR a) (hb : InR b) (h : InR (a + b)) :
    Calls Try.prog 25 #[.pointer (some p), .pointer (some q)] w fun e w' => e = .returned (.int .i64 (a + b)) ∧ w = w' := by
  go_enter Try.func25, Try.ntmps25
  go_wp2_with (go_at_call 26; refine (add_fits _ _ _ ha hb h).mono ?_; rintro e w' ⟨rfl, rfl⟩)
  go_ret
  exact ⟨rfl, rfl⟩
theorem add1_over (p q : Addr) (a b : Int) (w : World) (hp : w.cell? p = some (.int .i64 a)) (hq : w.cell? q = some (.int .i64 b)) (ha : InR a) (hb : InR b) (h : ¬ InR (a + b)) :
    Calls Try.prog 25 #[.pointer (some p), .pointer (some q)] w fun e w' => e = .panicked [{ v := .iface 23 (.int .i64 2), recovered := false }] ∧ w = w' := by
  go_enter Try.func25, Try.ntmps25
  go_wp2_with (go_at_call 26; refine (add_over _ _ _ ha hb h).mono ?_; rintro e w' ⟨rfl, rfl⟩)
  exact ⟨rfl, rfl, rfl⟩
theorem add_within (p q : Addr) (a b : Int) (w : World) (hp : w.cell? p = some (.int .i64 a)) (hq : w.cell? q = some (.int .i64 b)) (ha : InR a) (hb : InR b) :
    Calls Try.prog 24 #[.func (.func 25) #[] #[.pointer (some p), .pointer (some q)]] w fun e w' => e = .returned (.tuple #[.int .i64 (addV a b), .int .i64 (addE a b)]) ∧ Below w.heap.size w w' := by
  by_cases h : InR (a + b)
  · rw [(addV_in h).1, (addV_in h).2]
    exact within_ok _ _ _ _ (enter_add1 _) ((add1_fits p q a b _ (cell_old hp _) (cell_old hq _) ha hb h).mono fun _ _ ⟨he, hw⟩ => ⟨he, hw ▸ Below.refl _ _⟩)
  · rw [(addV_out h).1, (addV_out h).2]
    exact within_err _ _ _ _ (enter_add1 _) ((add1_over p q a b _ (cell_old hp _) (cell_old hq _) ha hb h).mono fun _ _ ⟨he, hw⟩ => ⟨he, hw ▸ Below.refl _ _⟩)
theorem Add_any (a b : Int) (w : World) (ha : InR a) (hb : InR b) :
    Calls Try.prog 10 #[.int .i64 a, .int .i64 b] w fun e w' => e = .returned (.tuple #[.int .i64 (addV a b), .int .i64 (addE a b)]) ∧ Below w.heap.size w w' := by
  have hmf : ∀ (fn : Fn) (first cap : Array Value) (w : World), (Instr.makeFunc fn first cap).run Try.prog w = .ok (.func fn first cap) w := fun _ _ _ _ => rfl
  have c0 := cell_old (cell_new w (.int .i64 a) 3) (.cells #[.int .i64 b] 3)
  have c1 : ((w.alloc (.cells #[.int .i64 a] 3)).alloc (.cells #[.int .i64 b] 3)).cell? ⟨w.heap.size + 1, 0, none⟩ = some (.int .i64 b) := by simp
  have H := Lib.hid (add_within _ _ a b _ c0 c1 ha hb)
  clear c0 c1
  go_enter Try.func10, Try.ntmps10
  go_wp2_with (go_at_call 24; refine H.out.mono ?_; rintro e w' ⟨rfl, hb1⟩)
  go_ret2
  exact ⟨rfl, (((Below.refl _ w).alloc (Nat.le_refl _) _).alloc (by simp) _).trans (hb1.mono (by simp; omega))⟩

theorem enter_mul1 (cap : Array Value) (w : World) : (callFunc 27 cap).run Try.prog w = .ok (.enter 27 cap) w := by kernel_rfl
theorem mul1_fits (p q : Addr) (a b : Int) (w : World) (hp : w.cell? p = some (.int .i64 a)) (hq : w.cell? q = some (.int .i64 b)) (ha : InR a) (hb : InR b) (h : InR (a * b)) :
    Calls Try.prog 27 #[.pointer (some p), .pointer (some q)] w fun e w' => e = .returned (.int .i64 (a * b)) ∧ w = w' := by
  go_enter Try.func27, Try.ntmps27
  go_wp2_with (go_at_call 28; refine (mul_fits _ _ _ ha hb h).mono ?_; rintro e w' ⟨rfl, rfl⟩)
  go_ret
  exact ⟨rfl, rfl⟩
theorem mul1_over (p q : Addr) (a b : Int) (w : World) (hp : w.cell? p = some (.int .i64 a)) (hq : w.cell? q = some (.int .i64 b)) (ha : InR a) (hb : InR b) (h : ¬ InR (a * b)) :
    Calls Try.prog 27 #[.pointer (some p), .pointer (some q)] w fun e w' => e = .panicked [{ v := .iface 23 (.int .i64 2), recovered := false }] ∧ w = w' := by
  go_enter Try.func27, Try.ntmps27
  go_wp2_with (go_at_call 28; refine (mul_over _ _ _ ha hb h).mono ?_; rintro e w' ⟨rfl, rfl⟩)
  exact ⟨rfl, rfl, rfl⟩
theorem mul_within (p q : Addr) (a b : Int) (w : World) (hp : w.cell? p = some (.int .i64 a)) (hq : w.cell? q = some (.int .i64 b)) (ha : InR a) (hb : InR b) :
    Calls Try.prog 24 #[.func (.func 27) #[] #[.pointer (some p), .pointer (some q)]] w fun e w' => e = .returned (.tuple #[.int .i64 (mulV a b), .int .i64 (mulE a b)]) ∧ Below w.heap.size w w' := by
  by_cases h : InR (a * b)
  · rw [(mulV_in h).1, (mulV_in h).2]
    exact within_ok _ _ _ _ (enter_mul1 _) ((mul1_fits p q a b _ (cell_old hp _) (cell_old hq _) ha hb h).mono fun _ _ ⟨he, hw⟩ => ⟨he, hw ▸ Below.refl _ _⟩)
  · rw [(mulV_out h).1, (mulV_out h).2]
    exact within_err _ _ _ _ (enter_mul1 _) ((mul1_over p q a b _ (cell_old hp _) (cell_old hq _) ha hb h).mono fun _ _ ⟨he, hw⟩ => ⟨he, hw ▸ Below.refl _ _⟩)
theorem Mul_any (a b : Int) (w : World) (ha : InR a) (hb : InR b) :
    Calls Try.prog 12 #[.int .i64 a, .int .i64 b] w fun e w' => e = .returned (.tuple #[.int .i64 (mulV a b), .int .i64 (mulE a b)]) ∧ Below w.heap.size w w' := by
  have hmf : ∀ (fn : Fn) (first cap : Array Value) (w : World), (Instr.makeFunc fn first cap).run Try.prog w = .ok (.func fn first cap) w := fun _ _ _ _ => rfl
  have c0 := cell_old (cell_new w (.int .i64 a) 3) (.cells #[.int .i64 b] 3)
  have c1 : ((w.alloc (.cells #[.int .i64 a] 3)).alloc (.cells #[.int .i64 b] 3)).cell? ⟨w.heap.size + 1, 0, none⟩ = some (.int .i64 b) := by simp
  have H := Lib.hid (mul_within _ _ a b _ c0 c1 ha hb)
  clear c0 c1
  go_enter Try.func12, Try.ntmps12
  go_wp2_with (go_at_call 24; refine H.out.mono ?_; rintro e w' ⟨rfl, hb1⟩)
  go_ret2
  exact ⟨rfl, (((Below.refl _ w).alloc (Nat.le_refl _) _).alloc (by simp) _).trans (hb1.mono (by simp; omega))⟩
end Go.Proofs.Ytobamjjonkhcfaa
