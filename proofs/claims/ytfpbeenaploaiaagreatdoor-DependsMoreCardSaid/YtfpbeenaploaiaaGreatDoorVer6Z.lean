/- What the program reads of the library's variables; the contracts of a version's text and of Contains at one byte. -/
import Derived.Test.YtfpbeenaploaiaaGreatDoorM1
import Derived.Test.YtfpbeenaploaiaaGreatDoorShelfZ
import Derived.Lib.AppendIntMem
import Derived.Below
set_option maxRecDepth 100000
set_option linter.unusedVariables false
set_option linter.unusedSimpArgs false
namespace Go.Proofs.YtfpbeenaploaiaaGreatDoor
open Go.RowKit
/-- What the library's own variables hold, as far as the program reads them. -/
structure Env (w : World) : Prop where
  max : ∃ m, w.cell? ⟨1, 0, none⟩ = some (.int .i64 m)
  pow : Lib.TabIs Tryz.prog w "internal/strconv.uint64pow10" .u64 Lib.pow10Tab
  syn : ∃ tp p, w.var? Tryz.prog "strconv.ErrSyntax" = some #[.iface tp p]
  rng : ∃ tp p, w.var? Tryz.prog "strconv.ErrRange" = some #[.iface tp p]
theorem var_bel {P : Program} {w w' : World} {n : String} {cs : Array Value} (h : Below w.heap.size w w') (hv : w.var? P n = some cs) : w'.var? P n = some cs := by
  unfold World.var? at hv ⊢
  cases hg : P.globalNamed n with
  | none => rw [hg] at hv; exact hv
  | some g =>
    rw [hg] at hv
    simp only [Option.bind_some] at hv ⊢
    have hlt : g < w.heap.size := by
      rcases Nat.lt_or_ge g w.heap.size with hh | hh
      · exact hh
      · rw [Array.getElem?_eq_none hh] at hv; cases hv
    rw [h.block g hlt]; exact hv
theorem Env.below {w w' : World} (E : Env w) (h : Below w.heap.size w w') : Env w' := by
  obtain ⟨⟨m, hm⟩, hp, ⟨t1, p1, h1⟩, ⟨t2, p2, h2⟩⟩ := E
  exact ⟨⟨m, by rw [h.cell (World.block_lt_of_cell? _ _ hm)]; exact hm⟩, var_bel h hp, ⟨t1, p1, var_bel h h1⟩, ⟨t2, p2, var_bel h h2⟩⟩
theorem Env.drewN {w : World} (E : Env w) (n : Nat) : Env (w.drewN n) := E.below ⟨rfl, rfl, rfl, Nat.le_refl _, fun _ _ => rfl⟩
theorem Env.alloc {w : World} (E : Env w) (o : Obj) : Env (w.alloc o) := E.below ((Below.refl _ w).alloc (Nat.le_refl _) _)
theorem decF_dd : ∀ (n f : Nat) (l : List Nat), n < f → decF f n l = (Lib.decDigits n).map UInt8.toNat ++ l := by
  intro n
  induction n using Nat.strongRecOn with
  | _ n ih =>
    intro f l hf
    obtain ⟨g, rfl⟩ : ∃ g, f = g + 1 := ⟨f - 1, by omega⟩
    simp only [decF]
    rw [Lib.decDigits]
    by_cases h : n < 10
    · rw [if_pos h, dif_pos h]
      simp only [List.map_cons, List.map_nil, List.cons_append, List.nil_append, UInt8.toNat_ofNat']
      rw [Nat.mod_eq_of_lt (by omega)]
    · rw [if_neg h, dif_neg h, ih (n / 10) (by omega) g _ (by omega)]
      simp only [List.map_append, List.map_cons, List.map_nil, List.append_assoc, List.cons_append, List.nil_append, UInt8.toNat_ofNat']
      rw [Nat.mod_eq_of_lt (show 48 + n % 10 < 2 ^ 8 by omega)]
theorem itoa_is (n : Nat) : (⟨(Lib.itoa (n : Int)).toArray⟩ : ByteArray) = mk (decL n) := by
  apply eq_mk
  unfold Lib.itoa decL
  rw [if_neg (by omega), decF_dd n (n + 1) [] (by omega), List.append_nil, Int.toNat_natCast]
  rfl
theorem itoa_any (n : Nat) (w : World) (hn : n ≤ 9223372036854775807) (E : Env w) : Calls Tryz.prog 89 #[.int .i64 (n : Int)] w fun e w' => e = .returned (.string (mk (decL n))) ∧ Below w.heap.size w w' := by
  refine (Tryz.strconv_Itoa n (by omega) (by omega) w E.pow).mono ?_
  rintro e w' ⟨rfl, k, os, rfl⟩
  exact ⟨by rw [itoa_is], Lib.below_grow _ _ (Nat.le_refl _) _ _⟩
theorem bel_boxed {w w1 : World} {o : Obj} (h : Below (w.alloc o).heap.size (w.alloc o) w1) : Below w.heap.size w w1 := ((Below.refl _ w).alloc (Nat.le_refl _) o).trans (h.mono (by simp))
theorem vtext_any (e : Nat) (u r : ByteArray) (w : World) (he : e ≤ 1000000000) (hu : u.size ≤ 65536) (hr : r.size ≤ 65536) (E : Env w) :
    Calls Tryz.prog 68 #[.agg #[.int .i64 (e : Int), .string u, .string r]] w fun e' w' => e' = .returned (.string (mk (textL e (B u) (B r)))) ∧ Below w.heap.size w w' := by
  have hmk := decL_len e
  have hsz : (mk (decL e)).size ≤ 1000000001 := by rw [size_mk]; omega
  have I := Lib.hid (itoa_any e (w.alloc (.cells #[.int .i64 (e : Int), .string u, .string r] 89)) (by omega) (E.alloc _))
  by_cases h1 : e = 0
  · cases h2 : r.toList.isEmpty
    · have t1 : ((e : Int) != 0) = false := by rw [bne_eq_false_iff_eq]; omega
      have HE : B r ≠ [] := fun hh => by rw [(empty_iff r).2 hh] at h2; cases h2
      have X := Lib.hid (show u ++ ({ data := #[45] } ++ r) = mk (textL e (B u) (B r)) by
        refine eq_mk ?_
        unfold textL
        rw [if_pos h1, if_neg HE]
        simp [B_append, B_dash])
      clear HE h1
      go_enter Tryz.func68, Tryz.ntmps68
      go_wp2
      go_ret
      exact ⟨by rw [← X.out]; rfl, (Below.refl _ w).alloc (Nat.le_refl _) _⟩
    · have t1 : ((e : Int) != 0) = false := by rw [bne_eq_false_iff_eq]; omega
      have HE : B r = [] := (empty_iff r).1 h2
      have X := Lib.hid (show u = mk (textL e (B u) (B r)) by
        refine eq_mk ?_
        unfold textL
        rw [if_pos h1, if_pos HE]
        simp [B_append])
      clear HE h1
      go_enter Tryz.func68, Tryz.ntmps68
      go_wp2
      go_ret
      exact ⟨by rw [← X.out]; rfl, (Below.refl _ w).alloc (Nat.le_refl _) _⟩
  · cases h2 : r.toList.isEmpty
    · have t1 : ((e : Int) != 0) = true := by rw [bne_iff_ne]; omega
      have HE : B r ≠ [] := fun hh => by rw [(empty_iff r).2 hh] at h2; cases h2
      have X := Lib.hid (show mk (decL e) ++ { data := #[58] } ++ u ++ ({ data := #[45] } ++ r) = mk (textL e (B u) (B r)) by
        refine eq_mk ?_
        unfold textL
        rw [if_neg h1, if_neg HE]
        simp [B_append, B_dash, B_colon, B_mk (decL_lt e)])
      clear HE h1
      go_enter Tryz.func68, Tryz.ntmps68
      go_wp2_with fail
      refine I.out.mono ?_
      rintro e' w1 ⟨rfl, hb⟩
      obtain ⟨c0, c1, c2, hz⟩ := box_cells hb
      have hB := Lib.hid (bel_boxed hb)
      clear hb
      go_wp2
      go_ret
      exact ⟨by rw [← X.out]; rfl, hB.out⟩
    · have t1 : ((e : Int) != 0) = true := by rw [bne_iff_ne]; omega
      have HE : B r = [] := (empty_iff r).1 h2
      have X := Lib.hid (show mk (decL e) ++ { data := #[58] } ++ u = mk (textL e (B u) (B r)) by
        refine eq_mk ?_
        unfold textL
        rw [if_neg h1, if_pos HE]
        simp [B_append, B_colon, B_mk (decL_lt e)])
      clear HE h1
      go_enter Tryz.func68, Tryz.ntmps68
      go_wp2_with fail
      refine I.out.mono ?_
      rintro e' w1 ⟨rfl, hb⟩
      obtain ⟨c0, c1, c2, hz⟩ := box_cells hb
      have hB := Lib.hid (bel_boxed hb)
      clear hb
      go_wp2
      go_ret
      exact ⟨by rw [← X.out]; rfl, hB.out⟩
end Go.Proofs.YtfpbeenaploaiaaGreatDoor
