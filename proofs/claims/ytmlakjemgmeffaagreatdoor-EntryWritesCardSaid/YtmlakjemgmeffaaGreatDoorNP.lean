/- What the laws of this seat rest on: DepP, DepP2. -/
import Derived.Test.YtmlakjemgmeffaaGreatDoorNA
import Derived.Test.YtmlakjemgmeffaaGreatDoorQAA

section
set_option linter.unusedVariables false
namespace Go.Proofs.YtmlakjemgmeffaaGreatDoor
open Go.RowKit
def trmR (l : List Nat) : List Nat := (l.reverse.dropWhile (fun c => c == 32)).reverse
def trm (l : List Nat) : List Nat := (trmR l).dropWhile (fun c => c == 32)
theorem trmR_snoc (l : List Nat) : trmR (l ++ [32]) = trmR l := by unfold trmR; rw [List.reverse_append]; rfl
theorem trmR_last (l : List Nat) {x : Nat} (h : x ≠ 32) : trmR (l ++ [x]) = l ++ [x] := by
  unfold trmR
  rw [List.reverse_append, List.reverse_singleton, List.singleton_append, List.dropWhile_cons, if_neg (by simpa using h)]; simp
theorem trm_snoc (l : List Nat) : trm (l ++ [32]) = trm l := by unfold trm; rw [trmR_snoc]
theorem trmR_cons (l : List Nat) : trmR (32 :: l) = if trmR l = [] then [] else 32 :: trmR l := by
  rcases List.eq_nil_or_concat l with rfl | ⟨m, x, rfl⟩
  · rfl
  · rw [List.concat_eq_append]
    by_cases hx : x = 32
    · subst hx
      rw [← List.cons_append, trmR_snoc, trmR_snoc]
      exact trmR_cons m
    · rw [← List.cons_append, trmR_last _ hx, trmR_last _ hx, if_neg (by simp)]; rfl
termination_by l.length
decreasing_by all_goals simp_all
theorem trm_cons (l : List Nat) : trm (32 :: l) = trm l := by
  unfold trm
  rw [trmR_cons]
  split
  · rename_i h; rw [h]
  · rfl
theorem trm_full {m : List Nat} (h0 : ∀ x r, m = x :: r → x ≠ 32) (h1 : ∀ x r, m = r ++ [x] → x ≠ 32) : trm m = m := by
  rcases List.eq_nil_or_concat m with rfl | ⟨r, x, rfl⟩
  · rfl
  · rw [List.concat_eq_append] at *
    unfold trm
    rw [trmR_last _ (h1 x r rfl)]
    cases hr : r ++ [x] with
    | nil => rfl
    | cons y t => rw [List.dropWhile_cons, if_neg (by simpa using h0 y t hr)]
theorem trm_parts (l : List Nat) : ∃ a b, (∀ x ∈ a, x = 32) ∧ (∀ x ∈ b, x = 32) ∧ l = a ++ (trm l ++ b) := by
  have h1 : ∃ b, (∀ x ∈ b, x = 32) ∧ l = trmR l ++ b := by
    refine ⟨(l.reverse.takeWhile (fun c => c == 32)).reverse, fun x hx => ?_, ?_⟩
    · have := twl_all (List.mem_reverse.1 hx); simpa using this
    · unfold trmR
      rw [← List.reverse_append, List.takeWhile_append_dropWhile, List.reverse_reverse]
  obtain ⟨b, hb, e⟩ := h1
  refine ⟨(trmR l).takeWhile (fun c => c == 32), b, fun x hx => ?_, hb, ?_⟩
  · have := twl_all hx; simpa using this
  · unfold trm
    rw [← List.append_assoc, List.takeWhile_append_dropWhile]; exact e
theorem trm_mem {l : List Nat} {x : Nat} (h : x ∈ trm l) : x ∈ l := by
  obtain ⟨a, b, _, _, e⟩ := trm_parts l
  rw [e]; simp [h]
theorem trm_len (l : List Nat) : (trm l).length ≤ l.length := by
  obtain ⟨a, b, _, _, e⟩ := trm_parts l
  have := congrArg List.length e
  simp at this; omega
def grpT (p : List Nat) : List (List Nat) := (cutBy 124 p).map trm
theorem grpT_cons (l : List Nat) : grpT (32 :: l) = grpT l := by
  unfold grpT
  rw [show 32 :: l = [32] ++ l from rfl, cutBy_app (by simp)]
  cases hL : cutBy 124 l with
  | nil => exact absurd hL (cutBy_ne _ _)
  | cons q r => simp only [preH, List.map_cons]; rw [show [32] ++ q = 32 :: q from rfl, trm_cons]
theorem grpT_snoc (l : List Nat) : grpT (l ++ [32]) = grpT l := by
  unfold grpT
  obtain ⟨i, z, h1, h2⟩ := cutBy_snoc (c := 124) (x := 32) (by decide) l
  rw [h1, h2, List.map_append, List.map_append, List.map_singleton, List.map_singleton, trm_snoc]
theorem grpT_blanks {a b : List Nat} (ha : ∀ x ∈ a, x = 32) (hb : ∀ x ∈ b, x = 32) (m : List Nat) : grpT (a ++ (m ++ b)) = grpT m := by
  induction a with
  | nil =>
    rw [List.nil_append]
    induction b generalizing m with
    | nil => rw [List.append_nil]
    | cons x b ih =>
      obtain rfl := hb x (by simp)
      rw [show m ++ 32 :: b = (m ++ [32]) ++ b by simp, ih (fun y hy => hb y (by simp [hy])), grpT_snoc]
  | cons x a ih =>
    obtain rfl := ha x (by simp)
    rw [List.cons_append, grpT_cons, ih (fun y hy => ha y (by simp [hy]))]
theorem grpT_trm (p : List Nat) : grpT (trm p) = grpT p := by
  obtain ⟨a, b, ha, hb, e⟩ := trm_parts p
  conv => rhs; rw [e]
  rw [grpT_blanks ha hb]
def fld (s : List Nat) : List (List (List Nat)) := (cutBy 44 s).map grpT
def errF : List (List Nat) → Int
  | [] => 0
  | p :: r => if relE p = 0 then errF r else relE p
theorem errF_app (a b : List (List Nat)) : errF (a ++ b) = if errF a = 0 then errF b else errF a := by
  induction a with
  | nil => rfl
  | cons p r ih =>
    by_cases h : relE p = 0
    · have e1 : errF (p :: r ++ b) = errF (r ++ b) := by rw [List.cons_append]; simp only [errF, if_pos h]
      have e2 : errF (p :: r) = errF r := by simp only [errF, if_pos h]
      rw [e1, e2, ih]
    · have e1 : errF (p :: r ++ b) = relE p := by rw [List.cons_append]; simp only [errF, if_neg h]
      have e2 : errF (p :: r) = relE p := by simp only [errF, if_neg h]
      rw [e1, e2, if_neg h]
def atmOf (p : List Nat) : Atm := ⟨mk (relN p), relO p, mk (relV p)⟩
def manyF (F : List (List (List Nat))) : Bool := decide (12 < F.length) || F.any fun g => decide (6 < g.length)
def depE (s : List Nat) : Int := if s = [] then 0 else if manyF (fld s) = true then 8 else errF (fld s).flatten
def depL (s : List Nat) : List (List Atm) := if s = [] then [] else if depE s = 0 then (fld s).map fun g => g.map atmOf else []
def rgt (a : Atm) : Bool := rightA (B a.n) a.o (B a.v)
def txt (a : Atm) : List Nat := textA (B a.n) a.o (B a.v)
def rgtOne (g : List Atm) : Bool := decide (1 ≤ g.length) && decide (g.length ≤ 6) && g.all rgt
def rightG (L : List (List Atm)) : Bool := decide (L.length ≤ 12) && L.all rgtOne
def grpS (g : List Atm) : List Nat := joinL [32, 124, 32] (g.map txt)
def prtG (L : List (List Atm)) : List Nat := if rightG L = true then joinL [44, 32] (L.map grpS) else []
end Go.Proofs.YtmlakjemgmeffaaGreatDoor
end

section
set_option linter.unusedVariables false
namespace Go.Proofs.YtmlakjemgmeffaaGreatDoor
open Go.RowKit
def txC (c : Nat) : Prop := c ≠ 44 ∧ c ≠ 124
theorem name_txC {n : List Nat} (h : nameB n = true) : ∀ c ∈ n, txC c ∧ c ≠ 32 := by
  intro c hc
  unfold nameB at h
  simp only [Bool.and_eq_true, List.all_eq_true] at h
  have := h.2 c hc
  unfold nmcB plnB digB at this
  simp only [Bool.or_eq_true, decide_eq_true_eq] at this
  unfold txC
  omega
theorem ch_txC {x : List Nat} {c : Nat} (h : chB x c = true) (hx : ∀ d ∈ x, txC d) : txC c := by
  unfold chB letB digB hasB at h
  simp only [Bool.or_eq_true, decide_eq_true_eq, List.contains_iff_mem] at h
  rcases h with h | h
  · unfold txC; omega
  · exact hx c h
theorem pr_txC {v : List Nat} (h : prB v = true) : ∀ c ∈ v, txC c := by
  unfold prB at h
  simp only [Bool.and_eq_true, decide_eq_true_eq] at h
  intro c hc
  rw [← h.2] at hc
  unfold printL at hc
  split at hc
  · rename_i hr
    unfold rightB at hr
    simp only [Bool.and_eq_true, List.all_eq_true] at hr
    unfold textL at hc
    simp only [List.mem_append] at hc
    rcases hc with (hc | hc) | hc
    · split at hc
      · simp at hc
      · rcases List.mem_append.1 hc with hc | hc
        · have := decL_dig _ c hc
          unfold digB at this
          simp only [decide_eq_true_eq] at this
          unfold txC; omega
        · simp at hc; subst hc; unfold txC; omega
    · exact ch_txC (hr.1.1.2 c hc) (by unfold uX txC; simp)
    · split at hc
      · simp at hc
      · rcases List.mem_cons.1 hc with rfl | hc
        · unfold txC; omega
        · exact ch_txC (hr.1.2 c hc) (by unfold rX txC; simp)
  · simp at hc
theorem txt_txC {a : Atm} (h : rgt a = true) : ∀ c ∈ txt a, txC c := by
  unfold rgt rightA at h
  simp only [Bool.and_eq_true] at h
  intro c hc
  unfold txt textA at hc
  split at hc
  · exact (name_txC h.1 c hc).1
  · rename_i h0
    rw [if_neg h0] at h
    simp only [Bool.and_eq_true, decide_eq_true_eq] at h
    have : a.o = 1 ∨ a.o = 2 ∨ a.o = 3 ∨ a.o = 4 ∨ a.o = 5 := by omega
    have hs : ∀ c ∈ signL a.o, txC c := by rcases this with h | h | h | h | h <;> rw [h] <;> (unfold txC; decide)
    simp only [List.mem_append, List.mem_cons, List.not_mem_nil, or_false] at hc
    rcases hc with hc | rfl | rfl | hc | rfl | hc | rfl
    · exact (name_txC h.1 c hc).1
    · exact ⟨by omega, by omega⟩
    · exact ⟨by omega, by omega⟩
    · exact hs c hc
    · exact ⟨by omega, by omega⟩
    · exact pr_txC h.2.2 c hc
    · exact ⟨by omega, by omega⟩
theorem txt_ne {a : Atm} (h : rgt a = true) : ∃ x r, txt a = x :: r ∧ x ≠ 32 := by
  unfold rgt rightA at h
  simp only [Bool.and_eq_true] at h
  have hl := name_len h.1
  have hc := fun c hc => (name_txC h.1 c hc).2
  unfold txt textA
  cases hn : B a.n with
  | nil => rw [hn] at hl; simp at hl
  | cons x r =>
    rw [hn] at hc
    have hx := hc x (by simp)
    split
    · exact ⟨x, r, rfl, hx⟩
    · exact ⟨x, _, List.cons_append .., hx⟩
theorem txt_trm {a : Atm} (h : rgt a = true) : trm (txt a) = txt a := by
  refine trm_full (fun x r e => ?_) (fun x r e => ?_)
  · obtain ⟨y, t, e', hy⟩ := txt_ne h
    rw [e'] at e
    injection e with e1 e2
    rw [← e1]; exact hy
  · unfold rgt rightA at h
    simp only [Bool.and_eq_true] at h
    unfold txt textA at e
    split at e
    · have hc := fun c hc => (name_txC h.1 c hc).2
      rw [e] at hc
      exact hc x (by simp)
    · have : ((B a.n ++ 32 :: 40 :: (signL a.o ++ 32 :: B a.v)) ++ [41]) = r ++ [x] := by rw [← e]; simp
      have := List.append_inj_right' this rfl
      simp at this
      omega
theorem atmOf_txt {a : Atm} (h : rgt a = true) : relE (txt a) = 0 ∧ atmOf (txt a) = a := by
  obtain ⟨h0, h1, h2, h3⟩ := rel_of_text h
  refine ⟨h0, ?_⟩
  unfold atmOf txt
  rw [h1, h2, h3, mk_B, mk_B]
theorem rgt_of {p : List Nat} (hp : ∀ c ∈ p, c < 256) (h : relE p = 0) : rgt (atmOf p) = true := by
  have := (text_of_rel h).1
  unfold rgt atmOf
  have hn : ∀ c ∈ relN p, c < 256 := fun c hc => by
    unfold relN at hc; rw [if_pos h] at hc; exact hp c (cutN_mem hc)
  have hv : ∀ c ∈ relV p, c < 256 := fun c hc => by
    unfold relV at hc; rw [if_pos h] at hc
    split at hc
    · exact hp c (cutR_mem (inL_mem (cutR_mem hc)))
    · simp at hc
  simp only [B_mk hn, B_mk hv]
  exact this
theorem errF_txt : ∀ {g : List Atm}, (∀ a ∈ g, rgt a = true) → errF (g.map txt) = 0
  | [], _ => rfl
  | a :: g, h => by
    rw [List.map_cons, errF, if_pos (atmOf_txt (h a (by simp))).1]
    exact errF_txt fun b hb => h b (by simp [hb])
theorem errF_mem : ∀ {l : List (List Nat)}, errF l = 0 → ∀ p ∈ l, relE p = 0
  | [], _, p, hp => by simp at hp
  | q :: l, h, p, hp => by
    rw [errF] at h
    split at h
    · rename_i hq
      rcases List.mem_cons.1 hp with rfl | hp
      · exact hq
      · exact errF_mem h p hp
    · contradiction
theorem cutBar : ∀ {ts : List (List Nat)}, ts ≠ [] → (∀ t ∈ ts, ∀ c ∈ t, c ≠ 124) → (cutBy 124 (joinL [32, 124, 32] ts)).map trm = ts.map trm
  | [], h, _ => absurd rfl h
  | [x], _, hn => by rw [joinL, cutBy_none (hn x (by simp))]
  | x :: y :: r, _, hn => by
    have ih := cutBar (ts := y :: r) (by simp) (fun t ht => hn t (by simp [ht]))
    have e : joinL [32, 124, 32] (x :: y :: r) = (x ++ [32]) ++ 124 :: (32 :: joinL [32, 124, 32] (y :: r)) := by simp [joinL]
    rw [e, cutBy_at (fun c hc => by rcases List.mem_append.1 hc with hc | hc; exact hn x (by simp) c hc; simp at hc; omega)]
    rw [List.map_cons, trm_snoc]
    have := grpT_cons (joinL [32, 124, 32] (y :: r))
    unfold grpT at this
    rw [this, ih]; rfl
theorem cutComma : ∀ {gs : List (List Nat)}, gs ≠ [] → (∀ t ∈ gs, ∀ c ∈ t, c ≠ 44) → fld (joinL [44, 32] gs) = gs.map grpT
  | [], h, _ => absurd rfl h
  | [x], _, hn => by rw [joinL]; unfold fld; rw [cutBy_none (hn x (by simp))]; try rfl
  | x :: y :: r, _, hn => by
    have ih := cutComma (gs := y :: r) (by simp) (fun t ht => hn t (by simp [ht]))
    have e : joinL [44, 32] (x :: y :: r) = x ++ 44 :: (32 :: joinL [44, 32] (y :: r)) := by simp [joinL]
    unfold fld at ih ⊢
    rw [e, cutBy_at (hn x (by simp)), List.map_cons, List.map_cons]
    rw [show 32 :: joinL [44, 32] (y :: r) = [32] ++ joinL [44, 32] (y :: r) from rfl, cutBy_app (by simp)]
    congr 1
    rw [← ih]
    cases hL : cutBy 44 (joinL [44, 32] (y :: r)) with
    | nil => exact absurd hL (cutBy_ne _ _)
    | cons q t => simp only [preH, List.map_cons]; rw [show [32] ++ q = 32 :: q from rfl, grpT_cons]
theorem joinL_mem {sep : List Nat} : ∀ {ts : List (List Nat)} {c : Nat}, c ∈ joinL sep ts → c ∈ sep ∨ ∃ t ∈ ts, c ∈ t
  | [], c, h => by simp [joinL] at h
  | [x], c, h => .inr ⟨x, by simp, h⟩
  | x :: y :: r, c, h => by
    rw [joinL, List.mem_append, List.mem_append] at h
    rcases h with h | h | h
    · exact .inr ⟨x, by simp, h⟩
    · exact .inl h
    · rcases joinL_mem h with h | ⟨t, ht, h⟩
      · exact .inl h
      · exact .inr ⟨t, by simp [ht], h⟩
theorem grpT_grpS {g : List Atm} (h : rgtOne g = true) : grpT (grpS g) = g.map txt := by
  unfold rgtOne at h
  simp only [Bool.and_eq_true, decide_eq_true_eq, List.all_eq_true] at h
  unfold grpT grpS
  rw [cutBar (by cases g; simp at h; simp) (fun t ht c hc => by
    obtain ⟨a, ha, rfl⟩ := List.mem_map.1 ht
    exact (txt_txC (h.2 a ha) c hc).2)]
  rw [List.map_map]
  exact List.map_congr_left fun a ha => txt_trm (h.2 a ha)
theorem grpS_no {g : List Atm} (h : rgtOne g = true) : ∀ c ∈ grpS g, c ≠ 44 := by
  unfold rgtOne at h
  simp only [Bool.and_eq_true, decide_eq_true_eq, List.all_eq_true] at h
  intro c hc
  rcases joinL_mem hc with hc | ⟨t, ht, hc⟩
  · simp at hc; omega
  · obtain ⟨a, ha, rfl⟩ := List.mem_map.1 ht
    exact (txt_txC (h.2 a ha) c hc).1
theorem joinL_ne {sep x : List Nat} {r : List (List Nat)} (h : x ≠ []) : joinL sep (x :: r) ≠ [] := by
  cases r with
  | nil => exact h
  | cons y r => simp only [joinL]; intro e; simp at e; exact h e.1
theorem grpS_ne {g : List Atm} (h : rgtOne g = true) : grpS g ≠ [] := by
  unfold rgtOne at h
  simp only [Bool.and_eq_true, decide_eq_true_eq, List.all_eq_true] at h
  cases g with
  | nil => simp at h
  | cons a g =>
    obtain ⟨x, r, e, _⟩ := txt_ne (h.2 a (by simp))
    exact joinL_ne (by show txt a ≠ []; rw [e]; simp)
theorem dep_of_fld {s : List Nat} {L : List (List Atm)} (hs : s ≠ []) (hr : rightG L = true) (hf : fld s = L.map fun g => g.map txt) : depE s = 0 ∧ depL s = L := by
  unfold rightG at hr
  simp only [Bool.and_eq_true, decide_eq_true_eq, List.all_eq_true] at hr
  have hone : ∀ g ∈ L, (1 ≤ g.length ∧ g.length ≤ 6) ∧ ∀ a ∈ g, rgt a = true := fun g hg => by
    have := hr.2 g hg
    unfold rgtOne at this
    simpa only [Bool.and_eq_true, decide_eq_true_eq, List.all_eq_true] using this
  have hm : manyF (fld s) = false := by
    unfold manyF
    rw [hf, List.length_map, decide_eq_false (by omega), Bool.false_or, List.any_eq_false]
    intro g hg
    obtain ⟨g', hg', rfl⟩ := List.mem_map.1 hg
    rw [List.length_map]
    have := hone g' hg'
    simpa using this.1.2
  have he : depE s = 0 := by
    unfold depE
    rw [if_neg hs, hm, hf]
    have e : (L.map fun g => g.map txt).flatten = L.flatten.map txt := by rw [List.map_flatten]
    rw [e]
    exact errF_txt fun a ha => by
      obtain ⟨g, hg, ha⟩ := List.mem_flatten.1 ha
      exact (hone g hg).2 a ha
  refine ⟨he, ?_⟩
  unfold depL
  rw [if_neg hs, if_pos he, hf, List.map_map]
  conv => rhs; rw [← List.map_id L]
  refine List.map_congr_left fun g hg => ?_
  simp only [Function.comp, List.map_map]
  conv => rhs; rw [id, ← List.map_id g]
  exact List.map_congr_left fun a ha => (atmOf_txt ((hone g hg).2 a ha)).2
theorem parse_prtG {L : List (List Atm)} (h : rightG L = true) : depE (prtG L) = 0 ∧ depL (prtG L) = L := by
  cases L with
  | nil => exact ⟨rfl, rfl⟩
  | cons g r =>
    have hr := h
    unfold rightG at h
    simp only [Bool.and_eq_true, decide_eq_true_eq, List.all_eq_true] at h
    have e : prtG (g :: r) = joinL [44, 32] ((g :: r).map grpS) := by unfold prtG; rw [if_pos hr]
    refine dep_of_fld ?_ hr ?_
    · rw [e]; exact joinL_ne (grpS_ne (h.2 g (by simp)))
    · rw [e, cutComma (by simp) (fun t ht c hc => by
        obtain ⟨g', hg', rfl⟩ := List.mem_map.1 ht
        exact grpS_no (h.2 g' hg') c hc), List.map_map]
      exact List.map_congr_left fun g' hg' => grpT_grpS (h.2 g' hg')
theorem right_of_parse {s : List Nat} (hs : ∀ c ∈ s, c < 256) (h : depE s = 0) : rightG (depL s) = true := by
  by_cases h0 : s = []
  · subst h0; rfl
  · unfold depL
    rw [if_neg h0, if_pos h]
    unfold depE at h
    rw [if_neg h0] at h
    split at h
    · contradiction
    · rename_i hm
      rw [Bool.not_eq_true] at hm
      unfold manyF at hm
      simp only [Bool.or_eq_false_iff, decide_eq_false_iff_not, List.any_eq_false, decide_eq_true_eq] at hm
      unfold rightG
      simp only [Bool.and_eq_true, decide_eq_true_eq, List.all_eq_true, List.length_map]
      refine ⟨by omega, fun g hg => ?_⟩
      obtain ⟨T, hT, rfl⟩ := List.mem_map.1 hg
      have h6 := hm.2 T hT
      unfold rgtOne
      simp only [Bool.and_eq_true, decide_eq_true_eq, List.all_eq_true, List.length_map]
      have hT' := hT
      unfold fld at hT'
      obtain ⟨p, hp, rfl⟩ := List.mem_map.1 hT'
      refine ⟨⟨?_, by omega⟩, fun a ha => ?_⟩
      · unfold grpT
        rw [List.length_map, cutBy_len]; omega
      · obtain ⟨q, hq, rfl⟩ := List.mem_map.1 ha
        refine rgt_of (fun c hc => ?_) (errF_mem h q (List.mem_flatten.2 ⟨_, hT, hq⟩))
        unfold grpT at hq
        obtain ⟨q', hq', rfl⟩ := List.mem_map.1 hq
        exact hs c (cutBy_mem hp c (cutBy_mem hq' c (trm_mem hc)).1).1
theorem depL_bad {s : List Nat} (h : depE s ≠ 0) : depL s = [] := by unfold depL; rw [if_neg h]; split <;> rfl
end Go.Proofs.YtmlakjemgmeffaaGreatDoor
end
