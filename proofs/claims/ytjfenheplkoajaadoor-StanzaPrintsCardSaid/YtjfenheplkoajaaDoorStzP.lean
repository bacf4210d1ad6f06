/- Stanzas as texts: what a reader of lines makes of each line, and what is written, as plain functions. Pure. -/
import Derived.Test.YtjfenheplkoajaaDoorCutP
set_option linter.unusedVariables false
set_option linter.unusedSimpArgs false
namespace Go.Proofs.YtjfenheplkoajaaDoor
open Go.RowKit
/-- A field: its name, its value. -/
structure Fd where
  n : ByteArray
  v : ByteArray
deriving instance DecidableEq for Fd
/-- An open field: its name, and its value's lines. -/
abbrev Opn := ByteArray × List (List Nat)
def nmC (c : Nat) : Bool := letB c || digB c || decide (c = 45)
def fnB : List Nat → Bool
  | [] => false
  | c :: r => letB c && r.all nmC && decide (r.length < 40)
def lowB (l : List Nat) : Bool := l.any fun c => decide (c < 32)
def joinB (ls : List (List Nat)) : ByteArray := mk (joinL [10] ls)
def clF (f : Opn) : Fd := ⟨f.1, joinB f.2⟩
/-- A reader's state: the stanzas that are closed, the open one's fields. -/
structure PS where
  dn : List (List Fd)
  op : List Opn
def PS.fin (s : PS) : PS := if s.op = [] then s else ⟨s.dn ++ [s.op.map clF], []⟩
def onLast (x : List Nat) : List Opn → List Opn
  | [] => []
  | [f] => [(f.1, f.2 ++ [x])]
  | f :: g :: r => f :: onLast x (g :: r)
def nmOf (l : List Nat) : List Nat := l.takeWhile fun c => c != 58
def vlOf (l : List Nat) : List Nat := (l.drop ((nmOf l).length + 1)).dropWhile fun c => c == 32
def begE (s : PS) (l : List Nat) : Int :=
  if (decide (58 ∈ l) && fnB (nmOf l)) = true then
    (if (s.op.any fun f => decide (f.1 = mk (nmOf l))) = true then 7 else if (decide (s.op.length = 40) || decide (s.dn.length = 200)) = true then 8 else 0)
  else 5
def goE (s : PS) (r : List Nat) : Int := if (decide (s.op = []) || decide (r = [])) = true then 5 else 0
def lnE (s : PS) (l : List Nat) : Int :=
  if lowB l = true then 5 else match l with
    | [] => 0
    | c :: r => if c = 32 then goE s r else begE s (c :: r)
def lnS (s : PS) (l : List Nat) : PS :=
  match l with
    | [] => s.fin
    | c :: r => if c = 32 then ⟨s.dn, onLast r s.op⟩ else ⟨s.dn, s.op ++ [(mk (nmOf (c :: r)), [vlOf (c :: r)])]⟩
def rnE (s : PS) : List (List Nat) → Int
  | [] => 0
  | l :: r => if lnE s l = 0 then rnE (lnS s l) r else lnE s l
/-- The number of the line with the first error, k lines being read; 0, if there is none. -/
def rnN (s : PS) (k : Nat) : List (List Nat) → Nat
  | [] => 0
  | l :: r => if lnE s l = 0 then rnN (lnS s l) (k + 1) r else k + 1
def rnS (s : PS) : List (List Nat) → PS
  | [] => s
  | l :: r => rnS (lnS s l) r
def ps0 : PS := ⟨[], []⟩
def stE (s : List Nat) : Int := if 60000 < s.length then 9 else rnE ps0 (cutBy 10 s)
def stN (s : List Nat) : Nat := if 60000 < s.length then 0 else rnN ps0 0 (cutBy 10 s)
def stL (s : List Nat) : List (List Fd) := if stE s = 0 then (rnS ps0 (cutBy 10 s)).fin.dn else []
/-! ### The reader that keeps its open stanza behind the others -/
structure RS where
  l : List (List Fd)
  o : Bool
def setLast {α : Type} (l : List α) (x : α) : List α := l.dropLast ++ [x]
def lastD (l : List (List Fd)) : List Fd := l.getLastD []
def addV (f : Fd) (r : List Nat) : Fd := ⟨f.n, mk (B f.v ++ (10 :: r))⟩
def getV (st : List Fd) (n : ByteArray) : Bool := st.any fun f => decide (f.n = n)
def fdOf (l : List Nat) : Fd := ⟨mk (nmOf l), mk (vlOf l)⟩
def begER (s : RS) (l : List Nat) : Int :=
  if (decide (58 ∈ l) && fnB (nmOf l)) = true then
    (if s.o = true then (if getV (lastD s.l) (mk (nmOf l)) = true then 7 else if 40 ≤ (lastD s.l).length then 8 else 0) else if 200 ≤ s.l.length then 8 else 0)
  else 5
def lnER (s : RS) (l : List Nat) : Int :=
  if lowB l = true then 5 else match l with
    | [] => 0
    | c :: r => if c = 32 then (if (!s.o || decide (r = [])) = true then 5 else 0) else begER s (c :: r)
def lnSR (s : RS) (l : List Nat) : RS :=
  match l with
    | [] => ⟨s.l, false⟩
    | c :: r => if c = 32 then ⟨setLast s.l (setLast (lastD s.l) (addV ((lastD s.l).getLastD ⟨mk [], mk []⟩) r)), s.o⟩
      else if s.o = true then ⟨setLast s.l (lastD s.l ++ [fdOf (c :: r)]), true⟩ else ⟨s.l ++ [[fdOf (c :: r)]], true⟩
def rnER (s : RS) : List (List Nat) → Int
  | [] => 0
  | l :: r => if lnER s l = 0 then rnER (lnSR s l) r else lnER s l
def rnNR (s : RS) (k : Nat) : List (List Nat) → Nat
  | [] => 0
  | l :: r => if lnER s l = 0 then rnNR (lnSR s l) (k + 1) r else k + 1
def rnSR (s : RS) : List (List Nat) → RS
  | [] => s
  | l :: r => rnSR (lnSR s l) r
/-- What holds of a reader all along. -/
structure Fit (s : PS) : Prop where
  d : s.dn.length ≤ 200
  o : s.op ≠ [] → s.dn.length < 200
  f : s.op.length ≤ 40
  l : ∀ f ∈ s.op, f.2 ≠ []
  b : ∀ f ∈ s.op, ∀ x ∈ f.2, True
def Twin (s : PS) (t : RS) : Prop := t.l = s.fin.dn ∧ t.o = !decide (s.op = [])
theorem mk_app (a b : List Nat) : mk (a ++ b) = mk a ++ mk b := by
  unfold mk
  apply ByteArray.ext
  rw [ByteArray.data_append]
  simp
theorem B_joinB_snoc {ls : List (List Nat)} (h : ls ≠ []) (x : List Nat) : joinB (ls ++ [x]) = mk (B (joinB ls) ++ (10 :: x)) := by
  unfold joinB
  rw [joinL_snoc, if_neg h, show (10 :: x) = [10] ++ x from rfl, mk_app, mk_app (B _), mk_B]
theorem onLast_snoc (x : List Nat) (f : Opn) : ∀ i : List Opn, onLast x (i ++ [f]) = i ++ [(f.1, f.2 ++ [x])]
  | [] => rfl
  | [g] => rfl
  | g :: h :: r => by
    have := onLast_snoc x f (h :: r)
    simp only [List.cons_append, onLast] at this ⊢
    rw [this]
theorem onLast_len (x : List Nat) (l : List Opn) : (onLast x l).length = l.length := by
  rcases List.eq_nil_or_concat l with rfl | ⟨i, f, rfl⟩
  · rfl
  · rw [List.concat_eq_append, onLast_snoc]; simp
theorem onLast_ne (x : List Nat) {l : List Opn} (h : l ≠ []) : onLast x l ≠ [] := by
  intro e
  have := onLast_len x l
  rw [e] at this
  exact h (List.eq_nil_of_length_eq_zero this.symm)
theorem setLast_snoc {α : Type} (i : List α) (z x : α) : setLast (i ++ [z]) x = i ++ [x] := by unfold setLast; rw [List.dropLast_concat]
theorem fin_closed (s : PS) : s.fin.op = [] := by unfold PS.fin; split; assumption; rfl
theorem fin_of {s : PS} (h : s.op = []) : s.fin = s := by unfold PS.fin; rw [if_pos h]
theorem fin_fin (s : PS) : s.fin.fin = s.fin := fin_of (fin_closed s)
theorem fin_len (s : PS) (h : Fit s) : s.fin.dn.length ≤ 200 := by
  unfold PS.fin
  split
  · exact h.d
  · rename_i hne
    have := h.o hne
    simp; omega
theorem fit_fin {s : PS} (h : Fit s) : Fit s.fin := by
  refine ⟨fin_len s h, fun e => absurd (fin_closed s) e, by rw [fin_closed]; simp, ?_, fun _ _ _ _ => trivial⟩
  rw [fin_closed]; simp
theorem fit0 : Fit ps0 := ⟨by simp [ps0], by simp [ps0], by simp [ps0], by simp [ps0], fun _ _ _ _ => trivial⟩
theorem twin0 : Twin ps0 ⟨[], false⟩ := ⟨rfl, rfl⟩
theorem begE_zero {s : PS} {l : List Nat} (h : begE s l = 0) : s.op.length ≠ 40 ∧ s.dn.length ≠ 200 ∧ (s.op.any fun f => decide (f.1 = mk (nmOf l))) = false := by
  unfold begE at h
  split at h
  · split at h
    · cases h
    · rename_i hn
      split at h
      · cases h
      · rename_i h2
        rw [Bool.or_eq_true, decide_eq_true_eq, decide_eq_true_eq] at h2
        exact ⟨fun e => h2 (.inl e), fun e => h2 (.inr e), Bool.eq_false_iff.2 hn⟩
  · cases h
theorem fit_line {s : PS} {l : List Nat} (h : Fit s) (h0 : lnE s l = 0) : Fit (lnS s l) := by
  cases l with
  | nil => exact fit_fin h
  | cons c r =>
    unfold lnE at h0
    split at h0
    · cases h0
    · unfold lnS
      simp only at h0 ⊢
      split at h0
      · rename_i hc
        rw [if_pos hc]
        unfold goE at h0
        split at h0
        · cases h0
        · rename_i hg
          simp only [Bool.or_eq_true, decide_eq_true_eq] at hg
          have hne : s.op ≠ [] := fun e => hg (.inl e)
          refine ⟨h.d, fun _ => h.o hne, by simp only [onLast_len]; exact h.f, ?_, fun _ _ _ _ => trivial⟩
          rcases List.eq_nil_or_concat s.op with e | ⟨i, f, e⟩
          · exact absurd e hne
          · rw [List.concat_eq_append] at e
            intro g hg'
            simp only [e, onLast_snoc, List.mem_append, List.mem_singleton] at hg'
            rcases hg' with hg' | rfl
            · exact h.l g (by rw [e]; simp [hg'])
            · simp
      · rename_i hc
        rw [if_neg hc]
        obtain ⟨h1, h2, _⟩ := begE_zero h0
        have hd := h.d
        have hf := h.f
        refine ⟨h.d, fun _ => by simp only; omega, by simp only [List.length_append, List.length_singleton]; omega, ?_, fun _ _ _ _ => trivial⟩
        intro g hg'
        simp only [List.mem_append, List.mem_singleton] at hg'
        rcases hg' with hg' | rfl
        · exact h.l g hg'
        · simp
theorem fin_op {s : PS} {i : List Opn} {f : Opn} (e : s.op = i ++ [f]) : s.fin.dn = s.dn ++ [i.map clF ++ [clF f]] := by
  unfold PS.fin
  rw [if_neg (by rw [e]; simp), e]; simp
theorem any_cl (op : List Opn) (n : ByteArray) : getV (op.map clF) n = op.any fun f => decide (f.1 = n) := by
  unfold getV
  rw [List.any_map]; rfl
theorem twin_err {s : PS} {t : RS} (h : Fit s) (ht : Twin s t) (l : List Nat) : lnER t l = lnE s l := by
  obtain ⟨h1, h2⟩ := ht
  unfold lnER lnE
  split
  · rfl
  · cases l with
    | nil => rfl
    | cons c r =>
      simp only
      split
      · unfold goE
        rw [h2, Bool.not_not]
      · unfold begER begE
        split
        · rw [h2]
          by_cases ho : s.op = []
          · rw [if_neg (by simp [ho]), ho]
            have e : s.fin = s := by unfold PS.fin; rw [if_pos ho]
            rw [h1, e]
            have hd := h.d
            by_cases h3 : s.dn.length = 200
            · rw [if_pos (by omega)]; simp [h3]
            · rw [if_neg (by omega)]; simp [h3]
          · rw [if_pos (by simp [ho])]
            rcases List.eq_nil_or_concat s.op with e | ⟨i, f, e⟩
            · exact absurd e ho
            · rw [List.concat_eq_append] at e
              have hl : lastD t.l = s.op.map clF := by
                rw [h1, fin_op e, e]; unfold lastD; simp
              rw [hl, any_cl]
              split
              · rfl
              · have hf := h.f
                have ho' := h.o ho
                rw [List.length_map]
                by_cases h4 : s.op.length = 40
                · rw [if_pos (by omega)]; simp [h4]
                · have h5 : s.dn.length ≠ 200 := by omega
                  rw [if_neg (by omega)]; simp [h4, h5]
        · rfl
theorem twin_line {s : PS} {t : RS} {l : List Nat} (hb : ∀ c ∈ l, c < 256) (h : Fit s) (ht : Twin s t) (h0 : lnE s l = 0) : Twin (lnS s l) (lnSR t l) := by
  obtain ⟨h1, h2⟩ := ht
  cases l with
  | nil =>
    refine ⟨?_, ?_⟩
    · show t.l = s.fin.fin.dn
      rw [fin_fin, h1]
    · show false = !decide (s.fin.op = [])
      rw [fin_closed]; rfl
  | cons c r =>
    unfold lnE at h0
    split at h0
    · cases h0
    · unfold lnS lnSR
      simp only at h0 ⊢
      split at h0
      · rename_i hc
        rw [if_pos hc, if_pos hc]
        unfold goE at h0
        split at h0
        · cases h0
        · rename_i hg
          simp only [Bool.or_eq_true, decide_eq_true_eq] at hg
          have hne : s.op ≠ [] := fun e => hg (.inl e)
          rcases List.eq_nil_or_concat s.op with e | ⟨i, f, e⟩
          · exact absurd e hne
          · rw [List.concat_eq_append] at e
            have hl := h.l f (by rw [e]; simp)
            have hcl : clF (f.1, f.2 ++ [r]) = addV (clF f) r := by
              unfold clF addV
              simp only
              rw [B_joinB_snoc hl]
            refine ⟨?_, ?_⟩
            · show _ = (PS.mk s.dn (onLast r s.op)).fin.dn
              rw [fin_op (s := PS.mk s.dn (onLast r s.op)) (i := i) (f := (f.1, f.2 ++ [r])) (by show onLast _ s.op = _; rw [e, onLast_snoc])]
              simp only
              rw [h1, fin_op e]
              unfold lastD
              simp only [List.getLastD_concat]
              rw [setLast_snoc, setLast_snoc, hcl]
            · show t.o = !decide (onLast r s.op = [])
              rw [h2]
              have := onLast_ne r hne
              simp [hne, this]
      · rename_i hc
        rw [if_neg hc, if_neg hc]
        have hcl : clF (mk (nmOf (c :: r)), [vlOf (c :: r)]) = fdOf (c :: r) := by
          unfold clF fdOf joinB
          rfl
        refine ⟨?_, ?_⟩
        · rw [fin_op (s := PS.mk s.dn (s.op ++ [(mk (nmOf (c :: r)), [vlOf (c :: r)])])) rfl, hcl]
          by_cases ho : s.op = []
          · rw [if_neg (by rw [h2]; simp [ho])]
            have e : s.fin = s := by unfold PS.fin; rw [if_pos ho]
            simp only
            rw [h1, e, ho]; rfl
          · rw [if_pos (by rw [h2]; simp [ho])]
            have e : s.fin.dn = s.dn ++ [s.op.map clF] := by unfold PS.fin; rw [if_neg ho]
            simp only
            rw [h1, e]
            unfold lastD
            simp only [List.getLastD_concat]
            rw [setLast_snoc]
        · have : (if t.o = true then RS.mk (setLast t.l (lastD t.l ++ [fdOf (c :: r)])) true else RS.mk (t.l ++ [[fdOf (c :: r)]]) true).o = true := by split <;> rfl
          rw [this]
          simp
theorem twin_run : ∀ (L : List (List Nat)) (s : PS) (t : RS) (k : Nat), (∀ l ∈ L, ∀ c ∈ l, c < 256) → Fit s → Twin s t →
    rnER t L = rnE s L ∧ rnNR t k L = rnN s k L ∧ (rnE s L = 0 → (rnSR t L).l = (rnS s L).fin.dn)
  | [], s, t, k, _, _, ht => ⟨rfl, rfl, fun _ => ht.1⟩
  | l :: r, s, t, k, hb, h, ht => by
    have he := twin_err h ht l
    unfold rnER rnE rnNR rnN rnSR rnS
    rw [he]
    by_cases h0 : lnE s l = 0
    · obtain ⟨a, b, c⟩ := twin_run r (lnS s l) (lnSR t l) (k + 1) (fun m hm => hb m (by simp [hm])) (fit_line h h0) (twin_line (hb l (by simp)) h ht h0)
      rw [if_pos h0, if_pos h0, if_pos h0, if_pos h0]
      exact ⟨a, b, c⟩
    · rw [if_neg h0, if_neg h0, if_neg h0, if_neg h0]
      exact ⟨rfl, rfl, fun h => absurd h h0⟩
/-! ### Two texts, one behind the other -/
theorem cutBy_mid (c : Nat) : ∀ a b : List Nat, cutBy c (a ++ c :: b) = cutBy c a ++ cutBy c b
  | [], b => by
    show cutBy c (c :: b) = [[]] ++ cutBy c b
    conv => lhs; unfold cutBy
    rw [if_pos rfl]; rfl
  | x :: a, b => by
    have ih := cutBy_mid c a b
    rw [List.cons_append]
    conv => lhs; unfold cutBy
    conv => rhs; lhs; unfold cutBy
    rw [ih]
    by_cases h : x = c
    · rw [if_pos h, if_pos h]; rfl
    · rw [if_neg h, if_neg h]
      cases hL : cutBy c a with
      | nil => exact absurd hL (cutBy_ne _ _)
      | cons q r => rfl
theorem cutBy_rep (c : Nat) (l : List Nat) : ∀ k, cutBy c (List.replicate k c ++ l) = List.replicate k [] ++ cutBy c l
  | 0 => rfl
  | k + 1 => by
    rw [List.replicate_succ, List.cons_append]
    conv => lhs; unfold cutBy
    rw [if_pos rfl, cutBy_rep c l k]; rfl
theorem cutBy_end (c : Nat) (l : List Nat) (k : Nat) : cutBy c (l ++ List.replicate k c) = cutBy c l ++ List.replicate k [] := by
  cases k with
  | zero => simp
  | succ k =>
    rw [List.replicate_succ, cutBy_mid]
    have := cutBy_rep c [] k
    rw [List.append_nil] at this
    rw [this]
    show _ ++ (List.replicate k [] ++ [[]]) = _
    rw [← List.replicate_succ']
theorem rnE_ok {s : PS} {l : List Nat} (h0 : lnE s l = 0) (r : List (List Nat)) : rnE s (l :: r) = rnE (lnS s l) r := by
  show (if lnE s l = 0 then rnE (lnS s l) r else lnE s l) = _
  rw [if_pos h0]
theorem rnE_no {s : PS} {l : List Nat} (h0 : lnE s l ≠ 0) (r : List (List Nat)) : rnE s (l :: r) = lnE s l := by
  show (if lnE s l = 0 then rnE (lnS s l) r else lnE s l) = _
  rw [if_neg h0]
theorem rnN_ok {s : PS} {l : List Nat} (h0 : lnE s l = 0) (k : Nat) (r : List (List Nat)) : rnN s k (l :: r) = rnN (lnS s l) (k + 1) r := by
  show (if lnE s l = 0 then rnN (lnS s l) (k + 1) r else k + 1) = _
  rw [if_pos h0]
theorem rnN_no {s : PS} {l : List Nat} (h0 : lnE s l ≠ 0) (k : Nat) (r : List (List Nat)) : rnN s k (l :: r) = k + 1 := by
  show (if lnE s l = 0 then rnN (lnS s l) (k + 1) r else k + 1) = _
  rw [if_neg h0]
theorem rnE_app : ∀ (a b : List (List Nat)) (s : PS), rnE s a = 0 → rnE s (a ++ b) = rnE (rnS s a) b
  | [], _, _, _ => rfl
  | l :: a, b, s, h => by
    by_cases h0 : lnE s l = 0
    · rw [rnE_ok h0] at h
      rw [List.cons_append, rnE_ok h0, rnE_app a b _ h]; rfl
    · rw [rnE_no h0] at h
      exact absurd h h0
theorem rnS_app : ∀ (a b : List (List Nat)) (s : PS), rnS s (a ++ b) = rnS (rnS s a) b
  | [], _, _ => rfl
  | l :: a, b, s => by rw [List.cons_append]; show rnS (lnS s l) (a ++ b) = _; rw [rnS_app a b]; rfl
theorem lnE_nil (s : PS) : lnE s [] = 0 := rfl
theorem rnE_nils (s : PS) : ∀ k, rnE s (List.replicate k []) = 0
  | 0 => rfl
  | k + 1 => by
    rw [List.replicate_succ, rnE_ok (lnE_nil s)]
    exact rnE_nils _ k
theorem rnS_nils : ∀ (k : Nat) (s : PS), (rnS s (List.replicate k [])).fin = s.fin
  | 0, s => rfl
  | k + 1, s => by
    rw [List.replicate_succ]
    show (rnS s.fin (List.replicate k [])).fin = _
    rw [rnS_nils k, fin_fin]
theorem rnS_nils_closed {s : PS} (h : s.op = []) : ∀ k, rnS s (List.replicate k []) = s
  | 0 => rfl
  | k + 1 => by
    rw [List.replicate_succ]
    show rnS s.fin (List.replicate k []) = _
    rw [fin_of h, rnS_nils_closed h k]
def pre (d : List (List Fd)) (s : PS) : PS := ⟨d ++ s.dn, s.op⟩
theorem pre_fin (d : List (List Fd)) (s : PS) : (pre d s).fin = pre d s.fin := by
  unfold PS.fin pre
  split
  · rfl
  · simp
theorem pre_line (d : List (List Fd)) (s : PS) (l : List Nat) : lnS (pre d s) l = pre d (lnS s l) := by
  cases l with
  | nil => exact pre_fin d s
  | cons c r =>
    unfold lnS
    simp only
    split <;> rfl
theorem grow_line (s : PS) (l : List Nat) : s.fin.dn.length ≤ (lnS s l).fin.dn.length := by
  cases l with
  | nil => show s.fin.dn.length ≤ s.fin.fin.dn.length; rw [fin_fin]; exact Nat.le_refl _
  | cons c r =>
    unfold lnS
    simp only
    split
    · unfold PS.fin
      by_cases h : s.op = []
      · rw [if_pos h]; split <;> simp
      · rw [if_neg h, if_neg (onLast_ne r h)]; simp
    · unfold PS.fin
      by_cases h : s.op = []
      · rw [if_pos h, if_neg (by simp)]; simp
      · rw [if_neg h, if_neg (by simp)]; simp
theorem grow_run : ∀ (L : List (List Nat)) (s : PS), s.fin.dn.length ≤ (rnS s L).fin.dn.length
  | [], _ => Nat.le_refl _
  | l :: r, s => Nat.le_trans (grow_line s l) (grow_run r (lnS s l))
theorem pre_err {d : List (List Fd)} {s : PS} {l : List Nat} (h0 : lnE s l = 0) (hl : d.length + (lnS s l).fin.dn.length ≤ 200) : lnE (pre d s) l = 0 := by
  unfold lnE at h0 ⊢
  split at h0
  · cases h0
  · rename_i hlow
    rw [if_neg hlow]
    cases l with
    | nil => rfl
    | cons c r =>
      simp only at h0 ⊢
      split at h0
      · rename_i hc
        rw [if_pos hc]; exact h0
      · rename_i hc
        rw [if_neg hc]
        obtain ⟨h1, h2, h3⟩ := begE_zero h0
        have hn : (lnS s (c :: r)).fin.dn.length = s.dn.length + 1 := by
          unfold lnS PS.fin
          simp only
          rw [if_neg hc, if_neg (by simp)]
          simp
        unfold begE at h0 ⊢
        split at h0
        · rename_i hf
          rw [if_pos hf]
          rw [if_neg (show ¬ ((pre d s).op.any fun f => decide (f.1 = mk (nmOf (c :: r)))) = true by rw [show (pre d s).op = s.op from rfl, h3]; decide), if_neg]
          rw [Bool.or_eq_true, decide_eq_true_eq, decide_eq_true_eq]
          show ¬ (s.op.length = 40 ∨ (d ++ s.dn).length = 200)
          rw [List.length_append]
          omega
        · cases h0
theorem pre_run : ∀ (L : List (List Nat)) (d : List (List Fd)) (s : PS), rnE s L = 0 → d.length + (rnS s L).fin.dn.length ≤ 200 → rnE (pre d s) L = 0 ∧ rnS (pre d s) L = pre d (rnS s L)
  | [], _, _, _, _ => ⟨rfl, rfl⟩
  | l :: r, d, s, h, hl => by
    by_cases h0 : lnE s l = 0
    · rw [rnE_ok h0] at h
      have hg := grow_run r (lnS s l)
      have hl' : d.length + (rnS (lnS s l) r).fin.dn.length ≤ 200 := hl
      obtain ⟨a, b⟩ := pre_run r d (lnS s l) h hl'
      have e0 := pre_err (d := d) h0 (by omega)
      refine ⟨?_, ?_⟩
      · rw [rnE_ok e0, pre_line]; exact a
      · show rnS (lnS (pre d s) l) r = _
        rw [pre_line]; exact b
    · rw [rnE_no h0] at h
      exact absurd h h0
theorem stE_zero {s : List Nat} (h : stE s = 0) : s.length ≤ 60000 ∧ rnE ps0 (cutBy 10 s) = 0 ∧ stL s = (rnS ps0 (cutBy 10 s)).fin.dn := by
  have h' := h
  unfold stE at h
  split at h
  · cases h
  · exact ⟨by omega, h, by unfold stL; rw [if_pos h']⟩
theorem rnN_zero : ∀ (L : List (List Nat)) (s : PS) (k : Nat), rnE s L = 0 → rnN s k L = 0
  | [], _, _, _ => rfl
  | l :: r, s, k, h => by
    by_cases h0 : lnE s l = 0
    · rw [rnE_ok h0] at h
      rw [rnN_ok h0]; exact rnN_zero r _ _ h
    · rw [rnE_no h0] at h
      exact absurd h h0
theorem stN_zero {s : List Nat} (h : stE s = 0) : stN s = 0 := by
  obtain ⟨h1, h2, _⟩ := stE_zero h
  unfold stN
  rw [if_neg (by omega)]; exact rnN_zero _ _ _ h2
/-- Two texts with empty lines ahead, between and behind are read as both. -/
theorem st_joins {s t : List Nat} (k : Nat) (hs : stE s = 0) (ht : stE t = 0) (hl : (stL s).length + (stL t).length ≤ 200) (hz : 3 * k + s.length + t.length + 2 ≤ 60000) :
    stE (List.replicate k 10 ++ s ++ [10, 10] ++ List.replicate k 10 ++ t ++ List.replicate k 10) = 0 ∧ stL (List.replicate k 10 ++ s ++ [10, 10] ++ List.replicate k 10 ++ t ++ List.replicate k 10) = stL s ++ stL t := by
  obtain ⟨a1, a2, a3⟩ := stE_zero hs
  obtain ⟨b1, b2, b3⟩ := stE_zero ht
  have hcut : cutBy 10 (List.replicate k 10 ++ s ++ [10, 10] ++ List.replicate k 10 ++ t ++ List.replicate k 10) = List.replicate k [] ++ (cutBy 10 s ++ (List.replicate (k + 1) [] ++ (cutBy 10 t ++ List.replicate k []))) := by
    have e : List.replicate k 10 ++ s ++ [10, 10] ++ List.replicate k 10 ++ t ++ List.replicate k 10 = (List.replicate k 10 ++ s) ++ 10 :: (List.replicate (k + 1) 10 ++ (t ++ List.replicate k 10)) := by
      rw [List.replicate_succ]; simp
    rw [e, cutBy_mid, cutBy_rep, cutBy_rep, cutBy_end]; simp
  rw [a3] at hl ⊢
  rw [b3] at hl ⊢
  generalize hA : rnS ps0 (cutBy 10 s) = A at *
  have hAk : (rnS A (List.replicate (k + 1) [])) = pre A.fin.dn ps0 := by
    rw [List.replicate_succ]
    show rnS A.fin (List.replicate k []) = _
    rw [rnS_nils_closed (fin_closed A)]
    unfold pre ps0
    have := fin_closed A
    generalize A.fin = F at *
    obtain ⟨d, o⟩ := F
    subst this
    simp
  obtain ⟨c1, c2⟩ := pre_run (cutBy 10 t) A.fin.dn ps0 b2 hl
  have e0 : rnS ps0 (List.replicate k []) = ps0 := rnS_nils_closed rfl k
  have hE : rnE ps0 (cutBy 10 (List.replicate k 10 ++ s ++ [10, 10] ++ List.replicate k 10 ++ t ++ List.replicate k 10)) = 0 := by
    rw [hcut, rnE_app _ _ _ (rnE_nils _ _), e0, rnE_app _ _ _ a2, hA, rnE_app _ _ _ (rnE_nils _ _), hAk, rnE_app _ _ _ c1, rnE_nils]
  have hS : (rnS ps0 (cutBy 10 (List.replicate k 10 ++ s ++ [10, 10] ++ List.replicate k 10 ++ t ++ List.replicate k 10))).fin.dn = A.fin.dn ++ (rnS ps0 (cutBy 10 t)).fin.dn := by
    rw [hcut, rnS_app, e0, rnS_app, hA, rnS_app, hAk, rnS_app, c2, rnS_nils, pre_fin]; rfl
  have hz' : (List.replicate k 10 ++ s ++ [10, 10] ++ List.replicate k 10 ++ t ++ List.replicate k 10).length ≤ 60000 := by simp; omega
  generalize List.replicate k 10 ++ s ++ [10, 10] ++ List.replicate k 10 ++ t ++ List.replicate k 10 = X at *
  have h1 : stE X = 0 := by unfold stE; rw [if_neg (by omega)]; exact hE
  exact ⟨h1, by unfold stL; rw [if_pos h1]; exact hS⟩
end Go.Proofs.YtjfenheplkoajaaDoor
