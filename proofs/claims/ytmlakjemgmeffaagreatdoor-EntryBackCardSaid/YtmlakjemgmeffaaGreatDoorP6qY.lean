/- What was written is read again: entries, and indexes of them. Pure. -/
import Derived.Test.YtmlakjemgmeffaaGreatDoorQAP
import Derived.Test.YtmlakjemgmeffaaGreatDoorQAT
import Derived.Test.YtmlakjemgmeffaaGreatDoorQAU
import Derived.Test.YtmlakjemgmeffaaGreatDoorQAS
set_option maxRecDepth 100000
set_option linter.unusedVariables false
set_option linter.unusedSimpArgs false
namespace Go.Proofs.YtmlakjemgmeffaaGreatDoor
open Go.RowKit
theorem bk6 (L : List (List Atm)) : B (mk (prtG L)) = prtG L := B_mk (prtG_lt L)
def byB (s : List Nat) : Bool := s.all fun c => decide (c < 256)
def aeX (s : List Nat) : Int := if byB s = true then atE s else 1
def alX (s : List Nat) : List Atm := if byB s = true then atL s else []
theorem byB_of {s : List Nat} (h : ∀ c ∈ s, c < 256) : byB s = true := List.all_eq_true.2 fun c hc => decide_eq_true (h c hc)
theorem aeX_B (s : ByteArray) : aeX (B s) = atE (B s) := if_pos (byB_of (B_lt s))
theorem alX_B (s : ByteArray) : alX (B s) = atL (B s) := if_pos (byB_of (B_lt s))
theorem rdP_x (st : List Fd) : rdP st = rdE aeX alX st := by
  rw [rdP_is]
  unfold rdE
  rw [aeX_B, aeX_B, alX_B, alX_B]
theorem at_right {s : List Nat} (hs : ∀ c ∈ s, c < 256) (h : atE s = 0) : rightG (depL s) = true ∧ (depL s).all oneB = true ∧ atL s = (depL s).flatten := by
  by_cases h0 : depE s = 0
  · have hr := right_of_parse hs h0
    cases h1 : (depL s).all oneB
    · rw [(atE_many h0 h1).1] at h; exact absurd h (by decide)
    · exact ⟨hr, rfl, (atE_ok h0 h1).2⟩
  · rw [(atE_bad h0).1] at h; exact absurd h h0
theorem byB_to {s : List Nat} (h : byB s = true) : ∀ c ∈ s, c < 256 := fun c hc => of_decide_eq_true (List.all_eq_true.1 h c hc)
theorem jr6 (s : List Nat) (h : aeX s = 0) : (alX s).length ≤ 12 ∧ ∀ a ∈ alX s, rgt a = true := by
  unfold aeX at h
  unfold alX
  split at h
  · rename_i hb
    rw [if_pos hb]
    obtain ⟨h1, h2, h3⟩ := at_right (byB_to hb) h
    obtain ⟨h4, h5⟩ := right_parts h1
    rw [h3]
    refine ⟨Nat.le_trans (flat_len h2) h5, fun a ha => ?_⟩
    obtain ⟨g, hg, hag⟩ := List.mem_flatten.1 ha
    exact (h4 g hg).1 a hag
  · exact absurd h (by decide)
theorem one_flat : ∀ {L : List (List Atm)}, L.all rgtOne = true → L.all oneB = true → L.flatten.map (fun a => [a]) = L
  | [], _, _ => rfl
  | g :: r, h, k => by
    rw [List.all_cons, Bool.and_eq_true] at h k
    have hg := h.1
    have kg := k.1
    unfold rgtOne at hg
    unfold oneB at kg
    simp only [Bool.and_eq_true, decide_eq_true_eq] at hg kg
    rw [List.flatten_cons, List.map_append, one_flat h.2 k.2]
    match g, hg.1.1, kg with
    | [a], _, _ => rfl
theorem jl6 (s : List Nat) (hs : ∀ c ∈ s, c < 256) : (prtG ((alX s).map fun a => [a])).length ≤ 5 * (s.length + 1) := by
  unfold alX
  rw [if_pos (byB_of hs)]
  by_cases h : atE s = 0
  · obtain ⟨h1, h2, h3⟩ := at_right hs h
    rw [h3]
    unfold rightG at h1
    rw [Bool.and_eq_true] at h1
    rw [one_flat h1.2 h2]
    exact prtG_depL hs
  · have : atL s = [] := if_neg h
    rw [this]
    have := prtG_depL hs
    show (prtG []).length ≤ _
    have e : (prtG []).length = 0 := by kernel_rfl
    omega
theorem jk6 (l : List Atm) (h12 : l.length ≤ 12) (hr : ∀ a ∈ l, rgt a = true) : aeX (prtG (l.map fun a => [a])) = 0 ∧ alX (prtG (l.map fun a => [a])) = l := by
  obtain ⟨h1, h2⟩ := join_ok h12 hr
  have hb := byB_of (prtG_lt (l.map fun a => [a]))
  exact ⟨(if_pos hb).trans h1, (if_pos hb).trans h2⟩
theorem rdP_wr {x : Ent} (h : rgtE x = true) (y : List Fd) (hy : ∀ f ∈ y, othr f) : rdP (wr4 x ++ y) = (0, x) := by rw [rdP_x]; exact rdE_wr aeX alX bk6 jk6 h y hy
theorem wrE_right {x : Ent} (h : rgtE x = true) : wrE x = wr4 x := if_pos h
theorem rdP_wrE (x : Ent) (h : rgtE x = true) : rdP (wrE x) = (0, x) := by
  have := rdP_wr h [] (fun f hf => by cases hf)
  rw [List.append_nil] at this
  rw [wrE_right h]; exact this
theorem opt_mem {n v : ByteArray} {f : Fd} (h : f ∈ opt n v) : f = ⟨n, v⟩ ∧ v.size ≠ 0 := by
  unfold opt at h
  split at h
  · cases h
  · rename_i hv; exact ⟨List.mem_singleton.1 h, hv⟩
theorem nb_of {v : ByteArray} (h : v.size ≠ 0) : B v ≠ [] := fun e => h (by rw [← B_len, e]; rfl)
theorem wr4_vals {x : Ent} (h : rgtE x = true) : ∀ f ∈ wr4 x, (∀ c ∈ B f.v, 32 ≤ c) ∧ hd32 (B f.v) = false ∧ B f.v ≠ [] := by
  obtain ⟨p1, p2, _⟩ := rgtE_parts h
  have e := wr4_list x []
  rw [List.append_nil] at e
  have ho : ∀ {n : ByteArray} {L : List (List Atm)} {f : Fd}, f ∈ opt n (mk (prtG L)) → (∀ c ∈ B f.v, 32 ≤ c) ∧ hd32 (B f.v) = false ∧ B f.v ≠ [] := fun {n L f} hf => by
    obtain ⟨rfl, hv⟩ := opt_mem hf
    refine ⟨?_, ?_, nb_of hv⟩
    · show ∀ c ∈ B (mk (prtG L)), 32 ≤ c
      rw [bk6]; exact (prtG_vis L).1
    · show hd32 (B (mk (prtG L))) = false
      rw [bk6]; exact (prtG_vis L).2
  intro f hf
  rw [e] at hf
  rcases List.mem_cons.1 hf with rfl | hf
  · exact ⟨fun c hc => by have := name_vis p1 c hc; omega, hd_vis (name_vis p1), fun e => by have := (name_len p1).1; have e : B x.n = [] := e; rw [e] at this; simp at this⟩
  rcases List.mem_cons.1 hf with rfl | hf
  · exact ⟨fun c hc => by have := pr_vis p2 c hc; omega, hd_vis (pr_vis p2), fun e => by have e : B x.v = [] := e; rw [e] at p2; exact absurd p2 (by rw [show prB [] = false by kernel_rfl]; decide)⟩
  rcases List.mem_append.1 hf with hf | hf
  · exact ho hf
  rcases List.mem_append.1 hf with hf | hf
  · exact ho hf
  rcases List.mem_append.1 hf with hf | hf
  · exact ho hf
  rcases List.mem_append.1 hf with hf | hf
  · exact ho hf
  · cases hf
theorem wr4_stz {x : Ent} (h : rgtE x = true) : Stz1 (wr4 x) := by
  have hs := stz_wr bk6 h
  unfold stzR at hs
  rw [Bool.and_eq_true, Bool.and_eq_true, Bool.and_eq_true, decide_eq_true_iff, decide_eq_true_iff, List.all_eq_true] at hs
  obtain ⟨⟨h1, h2⟩, h3, h4⟩ := hs
  refine ⟨fun f hf => ?_, h2, fun e => by rw [e] at h3; simp at h3, h4⟩
  have hn := h1 f hf
  unfold fdR at hn
  rw [Bool.and_eq_true] at hn
  obtain ⟨v1, v2, v3⟩ := wr4_vals h f hf
  exact ⟨hn.1, v1, v2, v3⟩
theorem wrs_stz {l : List Ent} (hok : okPk l l.length = true) : ∀ st ∈ l.map wrE, Stz1 st := by
  intro st hst
  obtain ⟨x, hx, rfl⟩ := List.mem_map.1 hst
  obtain ⟨k, hk, rfl⟩ := List.getElem_of_mem hx
  have hr := (okPk_at hok hk).1
  rw [wrE_right hr]; exact wr4_stz hr
theorem idP_wr {l : List Ent} (hok : okPk l l.length = true) (h64 : l.length ≤ 64) (ht : (txL (l.map wrE)).length ≤ 60000) : idP (txL (l.map wrE)) = (l, 0, 0) := by
  obtain ⟨e1, e2⟩ := tx_back (wrs_stz hok) (by rw [List.length_map]; omega) ht
  unfold idP
  rw [if_neg (by rw [e1]; simp), e2, if_neg (by rw [List.length_map]; omega)]
  exact goI_wr rdP_wrE hok l.length 0 rfl
theorem tx_lt (L : List (List Fd)) (h : ∀ st ∈ L, Stz1 st) : ∀ c ∈ txL L, c < 256 := by
  intro c hc
  unfold txL at hc
  rcases joinL_mem hc with hc | ⟨t, ht, hc⟩
  · rw [List.mem_singleton.1 hc]; omega
  · obtain ⟨st, hst, rfl⟩ := List.mem_map.1 ht
    unfold stT at hc
    obtain ⟨t, ht, hc⟩ := List.mem_flatten.1 hc
    obtain ⟨f, hf, rfl⟩ := List.mem_map.1 ht
    rw [fld1 ((h st hst).f f hf)] at hc
    unfold ln1 at hc
    simp only [List.mem_append, List.mem_cons, List.not_mem_nil, or_false] at hc
    rcases hc with (hc | rfl | rfl | hc) | rfl
    · exact B_lt _ c hc
    · omega
    · omega
    · exact B_lt _ c hc
    · omega
theorem print_back {l : List Ent} (h : prE prP l ≠ { data := #[] }) : idP (B (prE prP l)) = (l, 0, 0) := by
  unfold prE at h ⊢
  split at h
  · rename_i hc
    rw [if_pos hc]
    unfold prP at h ⊢
    split at h
    · rename_i hp
      rw [if_pos hp, B_mk (tx_lt _ (wrs_stz hc.1))]
      unfold okP at hp
      rw [Bool.and_eq_true, Bool.and_eq_true, decide_eq_true_iff, decide_eq_true_iff] at hp
      exact idP_wr hc.1 hc.2 hp.2.2
    · exact absurd rfl h
  · exact absurd rfl h
theorem rd_right (st : List Fd) (h : (rdP st).1 = 0) : rgtE (rdP st).2 = true := by rw [rdP_x] at h ⊢; exact rdE_right aeX alX jr6 st h
theorem idP_err {t : List Nat} (h : (idP t).2.2 ≠ 0) : (idP t).1 = [] := by
  unfold idP at h ⊢
  split at h
  · rename_i h0; rw [if_pos h0]
  · rename_i h0
    rw [if_neg h0]
    split at h
    · rename_i h1; rw [if_pos h1]
    · rename_i h1
      rw [if_neg h1]
      exact (goI_ok rd_right _ _ _ _ _ _ rfl rfl).2 h
theorem read_back {t : List Nat} (hl : t.length ≤ 6000) (h : (idP t).2.2 = 0) : (idP t).2.1 = 0 ∧ idP (B (prE prP (idP t).1)) = ((idP t).1, 0, 0) := by
  unfold idP at h
  split at h
  · rename_i h0; exact absurd h h0
  rename_i h0
  split at h
  · exact absurd h (by decide)
  rename_i h1
  have e : idP t = goI rdP (stL t) 0 [] := by unfold idP; rw [if_neg h0, if_neg h1]
  rw [e]
  obtain ⟨a, n, er, hg⟩ : ∃ a n er, goI rdP (stL t) 0 [] = (a, n, er) := ⟨_, _, _, rfl⟩
  rw [hg] at h ⊢
  simp only at h ⊢
  subst h
  obtain ⟨hn, hok, hlen⟩ := (goI_ok rd_right _ _ _ _ _ _ rfl hg).1 rfl
  obtain ⟨hmap, hz⟩ := goI_map _ _ _ _ _ hg
  refine ⟨hn, ?_⟩
  have h64 : a.length ≤ 64 := by rw [hlen]; simp only [List.length_nil]; omega
  have hr : ∀ x ∈ a, rgtE x = true := fun x hx => by
    obtain ⟨k, hk, rfl⟩ := List.getElem_of_mem hx
    exact (okPk_at hok hk).1
  have hW : a.map wrE = (stL t).map fun st => wr4 (rdE aeX alX st).2 := by
    rw [hmap, List.nil_append, List.map_map]
    refine List.map_congr_left fun st hst => ?_
    show wrE (rdP st).2 = _
    rw [wrE_right (rd_right st (hz st hst)), rdP_x]
  have ht : (txL (a.map wrE)).length ≤ 60000 := by
    rw [hW]
    have h2 := txt_len6 bk6 aeX alX jr6 jl6 (stL t) (fun st hst => by have := hz st hst; rw [rdP_x] at this; exact this)
    have h3 := stL_W t
    omega
  have hv : ∀ st ∈ a.map wrE, ∀ f ∈ st, f.v.size ≤ 60000 := fun st hst f hf => by
    obtain ⟨x, hx, rfl⟩ := List.mem_map.1 hst
    obtain ⟨p1, p2, _⟩ := rgtE_parts (hr x hx)
    exact wrE_vals (by rw [← B_len]; have := (name_len p1).2; omega) (by rw [← B_len]; have := pr_len p2; omega) f hf
  have hR : okR (a.map wrE) = true := by
    unfold okR
    rw [decide_eq_true ht, decide_eq_true (show (a.map wrE).length ≤ 200 by rw [List.length_map]; omega), Bool.and_true, Bool.and_true, List.all_eq_true]
    intro st hst
    obtain ⟨x, hx, rfl⟩ := List.mem_map.1 hst
    rw [wrE_right (hr x hx)]; exact stz_wr bk6 (hr x hx)
  have hP : prE prP a = mk (txL (a.map wrE)) := by
    unfold prE
    rw [if_pos ⟨hok, h64⟩]
    unfold prP
    rw [okP_eq hv, hR]; rfl
  rw [hP, B_mk (tx_lt _ (wrs_stz hok))]
  exact idP_wr hok h64 ht
end Go.Proofs.YtmlakjemgmeffaaGreatDoor
