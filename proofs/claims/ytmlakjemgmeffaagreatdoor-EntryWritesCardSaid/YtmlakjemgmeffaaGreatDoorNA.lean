/- What the laws of this seat rest on: Str, CutP, StzP, Ref2a, Ref2b, RefDec, RefText, RefRight, RefRight2, RefPrint, RefParse0, RefParse, CmpT, RefCmpV, RefOrder, RelP, CmpP, EndsP, BackP, StzT. -/
import Derived.WalkKit
import Derived.Lib.Hide
import Derived.Test.YtmlakjemgmeffaaGreatDoorChecked
import Derived.WalkLawsBesides
import Derived.WalkSpells

section
namespace Go.Proofs.YtmlakjemgmeffaaGreatDoor
open Go.RowKit
def B (s : ByteArray) : List Nat := s.data.toList.map UInt8.toNat
def mk (l : List Nat) : ByteArray := ⟨(l.map UInt8.ofNat).toArray⟩
theorem B_len (s : ByteArray) : (B s).length = s.size := by unfold B; rw [List.length_map, Array.length_toList]; rfl
theorem B_lt (s : ByteArray) : ∀ c ∈ B s, c < 256 := by
  intro c hc
  obtain ⟨u, _, rfl⟩ := List.mem_map.1 hc
  exact u.toNat_lt
theorem mk_B (s : ByteArray) : mk (B s) = s := by
  obtain ⟨⟨l⟩⟩ := s
  simp only [mk, B, List.map_map]
  congr 2
  rw [List.map_congr_left (g := id) (by intro u _; simp), List.map_id]
theorem B_mk {l : List Nat} (h : ∀ c ∈ l, c < 256) : B (mk l) = l := by
  simp only [mk, B, List.map_map]
  rw [List.map_congr_left (g := id) (by intro c hc; have := h c hc; simp; omega), List.map_id]
theorem B_inj {s t : ByteArray} (h : B s = B t) : s = t := by rw [← mk_B s, h, mk_B]
theorem eq_mk {s : ByteArray} {l : List Nat} (h : B s = l) : s = mk l := by rw [← h, mk_B]
theorem B_at (s : ByteArray) (k : Nat) (hk : k < s.size) : (B s)[k]? = some s[k].toNat := by
  unfold B
  rw [List.getElem?_map, List.getElem?_eq_getElem (by rw [Array.length_toList]; exact hk)]
  rfl
theorem B_getD (s : ByteArray) (k : Nat) (hk : k < s.size) : (B s).getD k 0 = s[k].toNat := by
  rw [List.getD_eq_getElem?_getD, B_at s k hk]; rfl
theorem B_drop (s : ByteArray) (k : Nat) (hk : k < s.size) : (B s).drop k = s[k].toNat :: (B s).drop (k + 1) := by
  have h := B_at s k hk
  have hl : k < (B s).length := by rw [B_len]; exact hk
  rw [List.drop_eq_getElem_cons hl]
  rw [List.getElem?_eq_getElem hl] at h
  injection h with h
  rw [h]
theorem B_drop_end (s : ByteArray) (k : Nat) (hk : s.size ≤ k) : (B s).drop k = [] := List.drop_eq_nil_of_le (by rw [B_len]; exact hk)
theorem B_extract (s : ByteArray) (i j : Nat) : B (s.extract i j) = ((B s).drop i).take (j - i) := by
  unfold B
  rw [ByteArray.data_extract, Array.toList_extract]
  simp [List.extract, List.map_take, List.map_drop]
theorem B_append (s t : ByteArray) : B (s ++ t) = B s ++ B t := by
  unfold B
  rw [ByteArray.data_append, Array.toList_append, List.map_append]
theorem byte_le (s : ByteArray) (k : Nat) (hk : k < s.size) : s[k].toNat < 256 := s[k].toNat_lt
def digB (c : Nat) : Bool := decide (48 ≤ c ∧ c ≤ 57)
def letB (c : Nat) : Bool := decide (97 ≤ c ∧ c ≤ 122 ∨ 65 ≤ c ∧ c ≤ 90)
def sgn (n : Int) : Int := if n < 0 then -1 else if 0 < n then 1 else 0
def wt : List Nat → Int
  | [] => 0
  | c :: _ => if digB c then 0 else if c = 126 then -1 else if letB c then c else 1000 + c
theorem toList_data (s : ByteArray) : s.toList = s.data.toList := ByteArray.toList_eq s
theorem B_take_snoc (s : ByteArray) (k : Nat) (hk : k < s.size) : (B s).take (k + 1) = (B s).take k ++ [s[k].toNat] := by
  rw [List.take_add_one, B_at s k hk]; rfl
theorem strEq (a : List Nat) (s : ByteArray) (h : ∀ c ∈ a, c < 256) : ((mk a).toList == s.toList) = decide (a = B s) := by
  rw [Bool.eq_iff_iff, beq_iff_eq, decide_eq_true_eq]
  constructor
  · intro he
    rw [toList_data, toList_data] at he
    rw [← B_mk h]
    unfold B
    rw [he]
  · rintro rfl
    rw [mk_B]
end Go.Proofs.YtmlakjemgmeffaaGreatDoor
end

section
set_option linter.unusedVariables false
namespace Go.Proofs.YtmlakjemgmeffaaGreatDoor
open Go.RowKit
def preH (p : List Nat) : List (List Nat) → List (List Nat)
  | [] => [p]
  | q :: r => (p ++ q) :: r
def cutBy (c : Nat) : List Nat → List (List Nat)
  | [] => [[]]
  | x :: l => if x = c then [] :: cutBy c l else preH [x] (cutBy c l)
theorem preH_ne (p : List Nat) (L : List (List Nat)) : preH p L ≠ [] := by cases L <;> simp [preH]
theorem cutBy_ne (c : Nat) (l : List Nat) : cutBy c l ≠ [] := by
  cases l with
  | nil => simp [cutBy]
  | cons x l => unfold cutBy; split; simp; exact preH_ne _ _
theorem preH_nil {L : List (List Nat)} (h : L ≠ []) : preH [] L = L := by cases L with
  | nil => exact absurd rfl h
  | cons q r => simp [preH]
theorem preH_preH (p q : List Nat) (L : List (List Nat)) : preH p (preH q L) = preH (p ++ q) L := by cases L <;> simp [preH]
theorem preH_len (p : List Nat) {L : List (List Nat)} (h : L ≠ []) : (preH p L).length = L.length := by cases L with
  | nil => exact absurd rfl h
  | cons q r => simp [preH]
theorem cutBy_app {c : Nat} {p : List Nat} (h : ∀ x ∈ p, x ≠ c) (l : List Nat) : cutBy c (p ++ l) = preH p (cutBy c l) := by
  induction p with
  | nil => rw [List.nil_append, preH_nil (cutBy_ne _ _)]
  | cons x p ih =>
    rw [List.cons_append]
    conv => lhs; unfold cutBy
    rw [if_neg (h x (by simp)), ih (fun y hy => h y (by simp [hy])), preH_preH]; rfl
theorem cutBy_none {c : Nat} {p : List Nat} (h : ∀ x ∈ p, x ≠ c) : cutBy c p = [p] := by
  have := cutBy_app h []
  rw [List.append_nil] at this
  rw [this]; simp [cutBy, preH]
theorem cutBy_at {c : Nat} {p : List Nat} (h : ∀ x ∈ p, x ≠ c) (l : List Nat) : cutBy c (p ++ c :: l) = p :: cutBy c l := by
  rw [cutBy_app h]
  conv => lhs; unfold cutBy
  rw [if_pos rfl]; simp [preH]
theorem cutBy_snoc {c : Nat} {x : Nat} (h : x ≠ c) : ∀ l : List Nat, ∃ i z, cutBy c l = i ++ [z] ∧ cutBy c (l ++ [x]) = i ++ [z ++ [x]]
  | [] => ⟨[], [], rfl, by simp [cutBy, h, preH]⟩
  | y :: l => by
    obtain ⟨i, z, h1, h2⟩ := cutBy_snoc h l
    rw [List.cons_append]
    unfold cutBy
    rw [h1, h2]
    by_cases hy : y = c
    · rw [if_pos hy, if_pos hy]; exact ⟨[] :: i, z, rfl, rfl⟩
    · rw [if_neg hy, if_neg hy]
      cases i with
      | nil => exact ⟨[], y :: z, rfl, rfl⟩
      | cons a i => exact ⟨(y :: a) :: i, z, rfl, rfl⟩
theorem cutBy_mem {c : Nat} : ∀ {l : List Nat} {p : List Nat}, p ∈ cutBy c l → ∀ x ∈ p, x ∈ l ∧ x ≠ c
  | [], p, hp, x, hx => by simp [cutBy] at hp; subst hp; simp at hx
  | y :: l, p, hp, x, hx => by
    unfold cutBy at hp
    split at hp
    · rcases List.mem_cons.1 hp with rfl | hp
      · simp at hx
      · exact ⟨List.mem_cons_of_mem _ (cutBy_mem hp x hx).1, (cutBy_mem hp x hx).2⟩
    · rename_i hy
      cases hL : cutBy c l with
      | nil => exact absurd hL (cutBy_ne _ _)
      | cons q r =>
        rw [hL] at hp
        rcases List.mem_cons.1 hp with rfl | hp
        · rcases List.mem_cons.1 hx with rfl | hx
          · exact ⟨by simp, hy⟩
          · have := cutBy_mem (c := c) (l := l) (p := q) (by rw [hL]; simp) x hx
            exact ⟨List.mem_cons_of_mem _ this.1, this.2⟩
        · have := cutBy_mem (c := c) (l := l) (p := p) (by rw [hL]; simp [hp]) x hx
          exact ⟨List.mem_cons_of_mem _ this.1, this.2⟩
theorem cutBy_mem_len {c : Nat} : ∀ {l : List Nat} {p : List Nat}, p ∈ cutBy c l → p.length ≤ l.length
  | [], p, hp => by simp [cutBy] at hp; subst hp; simp
  | y :: l, p, hp => by
    unfold cutBy at hp
    split at hp
    · rcases List.mem_cons.1 hp with rfl | hp
      · simp
      · have := cutBy_mem_len hp; simp; omega
    · cases hL : cutBy c l with
      | nil => exact absurd hL (cutBy_ne _ _)
      | cons q r =>
        rw [hL] at hp
        rcases List.mem_cons.1 hp with rfl | hp
        · have := cutBy_mem_len (c := c) (l := l) (p := q) (by rw [hL]; simp)
          simp; omega
        · have := cutBy_mem_len (c := c) (l := l) (p := p) (by rw [hL]; simp [hp])
          simp; omega
theorem cutBy_len (c : Nat) : ∀ l : List Nat, (cutBy c l).length = l.count c + 1
  | [] => by simp [cutBy]
  | y :: l => by
    unfold cutBy
    split
    · rename_i h; rw [h, List.length_cons, cutBy_len c l, List.count_cons_self]
    · rename_i h; rw [preH_len _ (cutBy_ne _ _), cutBy_len c l, List.count_cons_of_ne (by simpa using fun e => h e)]
theorem twl_all {p : Nat → Bool} : ∀ {l : List Nat} {x : Nat}, x ∈ l.takeWhile p → p x = true
  | [], x, h => by simp at h
  | y :: l, x, h => by
    rw [List.takeWhile_cons] at h
    split at h
    · rcases List.mem_cons.1 h with rfl | h
      · assumption
      · exact twl_all h
    · simp at h
def joinL (sep : List Nat) : List (List Nat) → List Nat
  | [] => []
  | [x] => x
  | x :: y :: r => x ++ (sep ++ joinL sep (y :: r))
theorem joinL_snoc (sep : List Nat) : ∀ (l : List (List Nat)) (x : List Nat), joinL sep (l ++ [x]) = if l = [] then x else joinL sep l ++ (sep ++ x)
  | [], x => rfl
  | [y], x => by simp [joinL]
  | y :: z :: r, x => by
    have := joinL_snoc sep (z :: r) x
    rw [if_neg (by simp)] at this
    rw [if_neg (by simp), List.cons_append, List.cons_append]
    simp only [joinL]
    rw [← List.cons_append, this]; simp
theorem take_mk (s : ByteArray) (i : Nat) : (⟨(s.data.toList.take i).toArray⟩ : ByteArray) = mk ((B s).take i) := by
  apply eq_mk; unfold B; rw [← List.map_take]
theorem drop_mk (s : ByteArray) (i : Nat) : (⟨(s.data.toList.drop i).toArray⟩ : ByteArray) = mk ((B s).drop i) := by
  apply eq_mk; unfold B; rw [← List.map_drop]
def PcInv (c : Nat) (l : List Nat) (out : List (List Nat)) (fr i : Nat) : Prop := fr ≤ i ∧ cutBy c l = out ++ preH ((l.drop fr).take (i - fr)) (cutBy c (l.drop i))
theorem pc_start (c : Nat) (l : List Nat) : PcInv c l [] 0 0 := ⟨Nat.le_refl _, by simp [preH_nil (cutBy_ne _ _)]⟩
theorem pc_cut {c : Nat} {l : List Nat} {out : List (List Nat)} {fr i : Nat} (h : PcInv c l out fr i) (hi : i < l.length) (hc : l.getD i 0 = c) : PcInv c l (out ++ [(l.drop fr).take (i - fr)]) (i + 1) (i + 1) := by
  refine ⟨Nat.le_refl _, ?_⟩
  obtain ⟨h1, h2⟩ := h
  rw [List.getD_eq_getElem?_getD, List.getElem?_eq_getElem hi, Option.getD_some] at hc
  rw [List.drop_eq_getElem_cons hi] at h2
  conv at h2 => rhs; unfold cutBy
  rw [if_pos hc] at h2
  rw [h2, Nat.sub_self, List.take_zero, preH_nil (cutBy_ne _ _)]
  simp [preH]
theorem pc_on {c : Nat} {l : List Nat} {out : List (List Nat)} {fr i : Nat} (h : PcInv c l out fr i) (hi : i < l.length) (hc : l.getD i 0 ≠ c) : PcInv c l out fr (i + 1) := by
  obtain ⟨h1, h2⟩ := h
  refine ⟨by omega, ?_⟩
  rw [List.getD_eq_getElem?_getD, List.getElem?_eq_getElem hi, Option.getD_some] at hc
  rw [List.drop_eq_getElem_cons hi] at h2
  conv at h2 => rhs; unfold cutBy
  rw [if_neg hc, preH_preH] at h2
  rw [h2]
  congr 2
  rw [show i + 1 - fr = (i - fr) + 1 by omega, List.take_succ_eq_append_getElem (by rw [List.length_drop]; omega)]
  congr 2
  rw [List.getElem_drop]
  congr 1
  omega
theorem pc_end {c : Nat} {l : List Nat} {out : List (List Nat)} {fr : Nat} (h : PcInv c l out fr l.length) : cutBy c l = out ++ [l.drop fr] := by
  obtain ⟨h1, h2⟩ := h
  rw [h2, List.drop_length]
  simp only [cutBy, preH, List.append_nil]
  rw [List.take_of_length_le (by rw [List.length_drop]; omega)]
theorem pc_len {c : Nat} {l : List Nat} {out : List (List Nat)} {fr i : Nat} (h : PcInv c l out fr i) : out.length ≤ l.length := by
  have := congrArg List.length h.2
  rw [cutBy_len, List.length_append, preH_len _ (cutBy_ne _ _), cutBy_len] at this
  have h2 := List.count_le_length (a := c) (l := l)
  omega
end Go.Proofs.YtmlakjemgmeffaaGreatDoor
end

section
set_option linter.unusedVariables false
set_option linter.unusedSimpArgs false
namespace Go.Proofs.YtmlakjemgmeffaaGreatDoor
open Go.RowKit
structure Fd where
  n : ByteArray
  v : ByteArray
deriving instance DecidableEq for Fd
abbrev Opn := ByteArray × List (List Nat)
def nmC (c : Nat) : Bool := letB c || digB c || decide (c = 45)
def fnB : List Nat → Bool
  | [] => false
  | c :: r => letB c && r.all nmC && decide (r.length < 40)
def lowB (l : List Nat) : Bool := l.any fun c => decide (c < 32)
def joinB (ls : List (List Nat)) : ByteArray := mk (joinL [10] ls)
def clF (f : Opn) : Fd := ⟨f.1, joinB f.2⟩
structure PS where
  dn : List (List Fd)
  op : List Opn
def PS.fin (s : PS) : PS := if s.op = [] then s else ⟨s.dn ++ [s.op.map clF], []⟩
def onLast (x : List Nat) : List Opn → List Opn
  | [] => []
  | [f] => [(f.1, f.2 ++ [x])]
  | f :: g :: r => f :: onLast x (g :: r)
def nmOf (l : List Nat) : List Nat := l.takeWhile fun c => c != 58
def vlOf (l : List Nat) : List Nat := (l.drop ((nmOf l).length + 1)).dropWhile fun c => c == 32
def begE (s : PS) (l : List Nat) : Int :=
  if (decide (58 ∈ l) && fnB (nmOf l)) = true then
    (if (s.op.any fun f => decide (f.1 = mk (nmOf l))) = true then 7 else if (decide (s.op.length = 40) || decide (s.dn.length = 200)) = true then 8 else 0)
  else 5
def goE (s : PS) (r : List Nat) : Int := if (decide (s.op = []) || decide (r = [])) = true then 5 else 0
def lnE (s : PS) (l : List Nat) : Int :=
  if lowB l = true then 5 else match l with
    | [] => 0
    | c :: r => if c = 32 then goE s r else begE s (c :: r)
def lnS (s : PS) (l : List Nat) : PS :=
  match l with
    | [] => s.fin
    | c :: r => if c = 32 then ⟨s.dn, onLast r s.op⟩ else ⟨s.dn, s.op ++ [(mk (nmOf (c :: r)), [vlOf (c :: r)])]⟩
def rnE (s : PS) : List (List Nat) → Int
  | [] => 0
  | l :: r => if lnE s l = 0 then rnE (lnS s l) r else lnE s l
def rnN (s : PS) (k : Nat) : List (List Nat) → Nat
  | [] => 0
  | l :: r => if lnE s l = 0 then rnN (lnS s l) (k + 1) r else k + 1
def rnS (s : PS) : List (List Nat) → PS
  | [] => s
  | l :: r => rnS (lnS s l) r
def ps0 : PS := ⟨[], []⟩
def stE (s : List Nat) : Int := if 60000 < s.length then 9 else rnE ps0 (cutBy 10 s)
def stN (s : List Nat) : Nat := if 60000 < s.length then 0 else rnN ps0 0 (cutBy 10 s)
def stL (s : List Nat) : List (List Fd) := if stE s = 0 then (rnS ps0 (cutBy 10 s)).fin.dn else []
structure RS where
  l : List (List Fd)
  o : Bool
def getV (st : List Fd) (n : ByteArray) : Bool := st.any fun f => decide (f.n = n)
structure Fit (s : PS) : Prop where
  d : s.dn.length ≤ 200
  o : s.op ≠ [] → s.dn.length < 200
  f : s.op.length ≤ 40
  l : ∀ f ∈ s.op, f.2 ≠ []
  b : ∀ f ∈ s.op, ∀ x ∈ f.2, True
theorem onLast_snoc (x : List Nat) (f : Opn) : ∀ i : List Opn, onLast x (i ++ [f]) = i ++ [(f.1, f.2 ++ [x])]
  | [] => rfl
  | [g] => rfl
  | g :: h :: r => by
    have := onLast_snoc x f (h :: r)
    simp only [List.cons_append, onLast] at this ⊢
    rw [this]
theorem onLast_len (x : List Nat) (l : List Opn) : (onLast x l).length = l.length := by
  rcases List.eq_nil_or_concat l with rfl | ⟨i, f, rfl⟩
  · rfl
  · rw [List.concat_eq_append, onLast_snoc]; simp
theorem fin_closed (s : PS) : s.fin.op = [] := by unfold PS.fin; split; assumption; rfl
theorem fin_of {s : PS} (h : s.op = []) : s.fin = s := by unfold PS.fin; rw [if_pos h]
theorem fin_fin (s : PS) : s.fin.fin = s.fin := fin_of (fin_closed s)
theorem fin_len (s : PS) (h : Fit s) : s.fin.dn.length ≤ 200 := by
  unfold PS.fin
  split
  · exact h.d
  · rename_i hne
    have := h.o hne
    simp; omega
theorem fit_fin {s : PS} (h : Fit s) : Fit s.fin := by
  refine ⟨fin_len s h, fun e => absurd (fin_closed s) e, by rw [fin_closed]; simp, ?_, fun _ _ _ _ => trivial⟩
  rw [fin_closed]; simp
theorem fit0 : Fit ps0 := ⟨by simp [ps0], by simp [ps0], by simp [ps0], by simp [ps0], fun _ _ _ _ => trivial⟩
theorem begE_zero {s : PS} {l : List Nat} (h : begE s l = 0) : s.op.length ≠ 40 ∧ s.dn.length ≠ 200 ∧ (s.op.any fun f => decide (f.1 = mk (nmOf l))) = false := by
  unfold begE at h
  split at h
  · split at h
    · cases h
    · rename_i hn
      split at h
      · cases h
      · rename_i h2
        rw [Bool.or_eq_true, decide_eq_true_eq, decide_eq_true_eq] at h2
        exact ⟨fun e => h2 (.inl e), fun e => h2 (.inr e), Bool.eq_false_iff.2 hn⟩
  · cases h
theorem fit_line {s : PS} {l : List Nat} (h : Fit s) (h0 : lnE s l = 0) : Fit (lnS s l) := by
  cases l with
  | nil => exact fit_fin h
  | cons c r =>
    unfold lnE at h0
    split at h0
    · cases h0
    · unfold lnS
      simp only at h0 ⊢
      split at h0
      · rename_i hc
        rw [if_pos hc]
        unfold goE at h0
        split at h0
        · cases h0
        · rename_i hg
          simp only [Bool.or_eq_true, decide_eq_true_eq] at hg
          have hne : s.op ≠ [] := fun e => hg (.inl e)
          refine ⟨h.d, fun _ => h.o hne, by simp only [onLast_len]; exact h.f, ?_, fun _ _ _ _ => trivial⟩
          rcases List.eq_nil_or_concat s.op with e | ⟨i, f, e⟩
          · exact absurd e hne
          · rw [List.concat_eq_append] at e
            intro g hg'
            simp only [e, onLast_snoc, List.mem_append, List.mem_singleton] at hg'
            rcases hg' with hg' | rfl
            · exact h.l g (by rw [e]; simp [hg'])
            · simp
      · rename_i hc
        rw [if_neg hc]
        obtain ⟨h1, h2, _⟩ := begE_zero h0
        have hd := h.d
        have hf := h.f
        refine ⟨h.d, fun _ => by simp only; omega, by simp only [List.length_append, List.length_singleton]; omega, ?_, fun _ _ _ _ => trivial⟩
        intro g hg'
        simp only [List.mem_append, List.mem_singleton] at hg'
        rcases hg' with hg' | rfl
        · exact h.l g hg'
        · simp
theorem any_cl (op : List Opn) (n : ByteArray) : getV (op.map clF) n = op.any fun f => decide (f.1 = n) := by
  unfold getV
  rw [List.any_map]; rfl
theorem rnE_ok {s : PS} {l : List Nat} (h0 : lnE s l = 0) (r : List (List Nat)) : rnE s (l :: r) = rnE (lnS s l) r := by
  show (if lnE s l = 0 then rnE (lnS s l) r else lnE s l) = _
  rw [if_pos h0]
theorem rnE_no {s : PS} {l : List Nat} (h0 : lnE s l ≠ 0) (r : List (List Nat)) : rnE s (l :: r) = lnE s l := by
  show (if lnE s l = 0 then rnE (lnS s l) r else lnE s l) = _
  rw [if_neg h0]
theorem rnN_ok {s : PS} {l : List Nat} (h0 : lnE s l = 0) (k : Nat) (r : List (List Nat)) : rnN s k (l :: r) = rnN (lnS s l) (k + 1) r := by
  show (if lnE s l = 0 then rnN (lnS s l) (k + 1) r else k + 1) = _
  rw [if_pos h0]
theorem rnN_no {s : PS} {l : List Nat} (h0 : lnE s l ≠ 0) (k : Nat) (r : List (List Nat)) : rnN s k (l :: r) = k + 1 := by
  show (if lnE s l = 0 then rnN (lnS s l) (k + 1) r else k + 1) = _
  rw [if_neg h0]
theorem rnE_app : ∀ (a b : List (List Nat)) (s : PS), rnE s a = 0 → rnE s (a ++ b) = rnE (rnS s a) b
  | [], _, _, _ => rfl
  | l :: a, b, s, h => by
    by_cases h0 : lnE s l = 0
    · rw [rnE_ok h0] at h
      rw [List.cons_append, rnE_ok h0, rnE_app a b _ h]; rfl
    · rw [rnE_no h0] at h
      exact absurd h h0
theorem rnS_app : ∀ (a b : List (List Nat)) (s : PS), rnS s (a ++ b) = rnS (rnS s a) b
  | [], _, _ => rfl
  | l :: a, b, s => by rw [List.cons_append]; show rnS (lnS s l) (a ++ b) = _; rw [rnS_app a b]; rfl
theorem lnE_nil (s : PS) : lnE s [] = 0 := rfl
def pre (d : List (List Fd)) (s : PS) : PS := ⟨d ++ s.dn, s.op⟩
theorem rnN_zero : ∀ (L : List (List Nat)) (s : PS) (k : Nat), rnE s L = 0 → rnN s k L = 0
  | [], _, _, _ => rfl
  | l :: r, s, k, h => by
    by_cases h0 : lnE s l = 0
    · rw [rnE_ok h0] at h
      rw [rnN_ok h0]; exact rnN_zero r _ _ h
    · rw [rnE_no h0] at h
      exact absurd h h0
end Go.Proofs.YtmlakjemgmeffaaGreatDoor
end

section
namespace Go.Proofs.YtmlakjemgmeffaaGreatDoor
open Go.RowKit
theorem Digit_any (c : Nat) (w : World) : Calls Tryz.prog 68 #[.int .u8 (c : Int)] w fun e w' => e = .returned (.bool (digB c)) ∧ w = w' := by
  have X := Lib.hid (show digB c = (decide ((48 : Int) ≤ c) && decide ((c : Int) ≤ 57)) by unfold digB; rw [Bool.eq_iff_iff]; simp; omega)
  by_cases h : (48 : Int) ≤ c
  · go_enter Tryz.func68, Tryz.ntmps68
    go_wp2
    go_ret
    refine ⟨?_, rfl⟩
    rw [X.out]; simp [h]
  · have h2 : (c : Int) < 48 := by omega
    go_enter Tryz.func68, Tryz.ntmps68
    go_wp2
    go_ret
    refine ⟨?_, rfl⟩
    rw [X.out]; simp; omega
theorem Letter_any (c : Nat) (w : World) : Calls Tryz.prog 139 #[.int .u8 (c : Int)] w fun e w' => e = .returned (.bool (letB c)) ∧ w = w' := by
  have X := Lib.hid (show letB c = ((decide ((97 : Int) ≤ c) && decide ((c : Int) ≤ 122)) || (decide ((65 : Int) ≤ c) && decide ((c : Int) ≤ 90))) by unfold letB; rw [Bool.eq_iff_iff]; simp; omega)
  go_enter Tryz.func139, Tryz.ntmps139
  go_wp2
  all_goals
    go_ret
    refine ⟨congrArg (fun b => Ending.returned (.bool b)) ?_, rfl⟩
    rw [X.out, Bool.eq_iff_iff]
    simp
    omega
def hasB (l : List Nat) (c : Nat) : Bool := l.contains c
theorem hasB_take {l : List Nat} {c k : Nat} (h : ∀ j, j < k → l.getD j 256 ≠ c) (hk : l.length ≤ k) : hasB l c = false := by
  unfold hasB
  rw [Bool.eq_false_iff]
  intro hc
  obtain ⟨j, hj, e⟩ := List.getElem_of_mem (List.contains_iff_mem.1 hc)
  exact h j (by omega) (by rw [List.getD_eq_getElem?_getD, List.getElem?_eq_getElem hj]; exact e)
theorem has_any (s : ByteArray) (c : Nat) (w : World) (hs : s.size ≤ 9223372036854775807) : Calls Tryz.prog 138 #[.string s, .int .u8 (c : Int)] w fun e w' => e = .returned (.bool (hasB (B s) c)) ∧ w = w' := by
  go_enter Tryz.func138, Tryz.ntmps138
  go_wp2
  go_loop [5] (fun i => ∃ k : Nat, k ≤ s.size ∧ i = .int .i64 k ∧ ∀ j, j < k → (B s).getD j 256 ≠ c) (fun i => s.size - (intOf i).toNat)
  case atStart => exact ⟨0, Nat.zero_le _, rfl, fun j hj => by omega⟩
  case round =>
    obtain ⟨k, hk, rfl, hno⟩ := hrel
    have HN := Lib.hid hno
    clear hno
    by_cases hlt : k < s.size
    · have hb := B_at s k hlt
      have HB := Lib.hid hb
      clear hb
      by_cases hc : s[k].toNat = c
      · have h1 : ((s[k].toNat : Int) == (c : Int)) = true := by rw [beq_iff_eq]; omega
        have HC := Lib.hid hc
        clear hc
        go_wp2
        go_ret
        refine ⟨congrArg (fun b => Ending.returned (.bool b)) ?_, rfl⟩
        unfold hasB
        rw [eq_comm, List.contains_iff_mem]
        exact List.mem_of_getElem? (HC.out ▸ HB.out)
      · have h1 : ((s[k].toNat : Int) == (c : Int)) = false := by rw [beq_eq_false_iff_ne]; omega
        have HC := Lib.hid hc
        clear hc
        go_wp2
        go_round
        case rel => exact ⟨k + 1, by omega, by go_num, fun j hj => by rcases (by omega : j < k ∨ j = k) with h | rfl; exact HN.out j h; rw [List.getD_eq_getElem?_getD, HB.out]; exact HC.out⟩
        case measure => simp [intOf]; omega
    · go_wp2
      go_ret
      exact ⟨by rw [hasB_take HN.out (by rw [B_len]; omega)]; rfl, rfl⟩
end Go.Proofs.YtmlakjemgmeffaaGreatDoor
end

section
namespace Go.Proofs.YtmlakjemgmeffaaGreatDoor
open Go.RowKit
def digs (l : List Nat) : List Nat := (l.takeWhile digB).dropWhile (fun c => c == 48)
def numD (l : List Nat) : Nat := (l.takeWhile digB).length
theorem takeWhile_is {p : Nat → Bool} : ∀ {l : List Nat} {n : Nat}, n ≤ l.length → (∀ j, j < n → p (l.getD j 0) = true) → (n = l.length ∨ p (l.getD n 0) = false) → l.takeWhile p = l.take n
  | [], n, hn, _, _ => by simp
  | c :: l, 0, _, _, h => by
    have : p c = false := by simpa using h
    simp [this]
  | c :: l, n + 1, hn, h1, h2 => by
    have hc : p c = true := by simpa using h1 0 (by omega)
    rw [List.takeWhile_cons, if_pos hc, List.take_succ_cons]
    congr 1
    exact takeWhile_is (by simpa using hn) (fun j hj => by simpa using h1 (j + 1) (by omega)) (by simpa using h2)
theorem dropWhile_is {p : Nat → Bool} : ∀ {l : List Nat} {n : Nat}, n ≤ l.length → (∀ j, j < n → p (l.getD j 0) = true) → (n = l.length ∨ p (l.getD n 0) = false) → l.dropWhile p = l.drop n
  | [], n, hn, _, _ => by simp
  | c :: l, 0, _, _, h => by
    have : p c = false := by simpa using h
    simp [this]
  | c :: l, n + 1, hn, h1, h2 => by
    have hc : p c = true := by simpa using h1 0 (by omega)
    rw [List.dropWhile_cons, if_pos hc, List.drop_succ_cons]
    exact dropWhile_is (by simpa using hn) (fun j hj => by simpa using h1 (j + 1) (by omega)) (by simpa using h2)
def lexL : List Nat → List Nat → Int
  | x :: a, y :: b => if x < y then -1 else if y < x then 1 else lexL a b
  | [], [] => 0
  | [], _ => -1
  | _, [] => 1
def numC (a b : List Nat) : Int := if a.length ≠ b.length then sgn ((a.length : Int) - b.length) else lexL a b
theorem bytesLess_lex : ∀ (x y : List UInt8), x.length = y.length → (Op.bytesLess x y = true ↔ lexL (x.map UInt8.toNat) (y.map UInt8.toNat) = -1) ∧ (x = y ↔ lexL (x.map UInt8.toNat) (y.map UInt8.toNat) = 0) ∧ (lexL (x.map UInt8.toNat) (y.map UInt8.toNat) = -1 ∨ lexL (x.map UInt8.toNat) (y.map UInt8.toNat) = 0 ∨ lexL (x.map UInt8.toNat) (y.map UInt8.toNat) = 1)
  | [], [], _ => by simp [Op.bytesLess, lexL]
  | [], _ :: _, h => by simp at h
  | _ :: _, [], h => by simp at h
  | a :: x, b :: y, h => by
    obtain ⟨i1, i2, i3⟩ := bytesLess_lex x y (by simpa using h)
    simp only [Op.bytesLess, List.map_cons, lexL, Bool.or_eq_true, Bool.and_eq_true, decide_eq_true_eq, beq_iff_eq, List.cons.injEq]
    rcases Nat.lt_trichotomy a.toNat b.toNat with hl | he | hg
    · have h1 : a < b := UInt8.lt_iff_toNat_lt.2 hl
      have h2 : a ≠ b := by rintro rfl; omega
      rw [if_pos hl]
      exact ⟨⟨fun _ => rfl, fun _ => .inl h1⟩, ⟨fun hh => absurd hh.1 h2, fun hh => by omega⟩, .inl rfl⟩
    · have h1 : a = b := UInt8.toNat_inj.1 he
      subst h1
      rw [if_neg (by omega), if_neg (by omega)]
      refine ⟨⟨fun hh => ?_, fun hh => .inr ⟨rfl, i1.2 hh⟩⟩, ⟨fun hh => i2.1 hh.2, fun hh => ⟨rfl, i2.2 hh⟩⟩, i3⟩
      rcases hh with hh | hh
      · exact absurd (UInt8.lt_iff_toNat_lt.1 hh) (by omega)
      · exact i1.1 hh.2
    · have h1 : ¬ a < b := fun hh => by have := UInt8.lt_iff_toNat_lt.1 hh; omega
      have h2 : a ≠ b := by rintro rfl; omega
      rw [if_neg (by omega), if_pos hg]
      refine ⟨⟨fun hh => ?_, fun hh => by omega⟩, ⟨fun hh => absurd hh.1 h2, fun hh => by omega⟩, .inr (.inr rfl)⟩
      rcases hh with hh | hh
      · exact absurd hh h1
      · exact absurd hh.1 h2
end Go.Proofs.YtmlakjemgmeffaaGreatDoor
end

section
namespace Go.Proofs.YtmlakjemgmeffaaGreatDoor
open Go.RowKit
def decF : Nat → Nat → List Nat → List Nat
  | 0, _, l => l
  | f + 1, n, l => if n < 10 then (48 + n) :: l else decF f (n / 10) ((48 + n % 10) :: l)
def decL (n : Nat) : List Nat := decF (n + 1) n []
theorem decF_fuel : ∀ (f g n : Nat) (l : List Nat), n < f → n < g → decF f n l = decF g n l
  | 0, _, _, _, h, _ => by omega
  | _ + 1, 0, _, _, _, h => by omega
  | f + 1, g + 1, n, l, h1, h2 => by
    simp only [decF]
    by_cases h : n < 10
    · rw [if_pos h, if_pos h]
    · rw [if_neg h, if_neg h]
      exact decF_fuel f g _ _ (by omega) (by omega)
theorem decF_lt : ∀ (f n : Nat) (l : List Nat), (∀ c ∈ l, c < 256) → ∀ c ∈ decF f n l, c < 256
  | 0, _, _, h => h
  | f + 1, n, l, h => by
    simp only [decF]
    split
    · intro c hc
      rcases List.mem_cons.1 hc with rfl | hc
      · omega
      · exact h c hc
    · refine decF_lt f _ _ (fun c hc => ?_)
      rcases List.mem_cons.1 hc with rfl | hc
      · omega
      · exact h c hc
theorem decL_lt (n : Nat) : ∀ c ∈ decL n, c < 256 := decF_lt _ _ _ (by simp)
def tenS : ByteArray := { data := #[48, 49, 50, 51, 52, 53, 54, 55, 56, 57] }
theorem digit_at : ∀ d, d < 10 → ((B tenS).drop d).take (d + 1 - d) = [48 + d] := by decide
theorem B_digit (s : ByteArray) (d : Nat) (h : d < 10) : B (tenS.extract d (d + 1) ++ s) = (48 + d) :: B s := by
  rw [B_append, B_extract, digit_at d h]; rfl
theorem digit_size (s : ByteArray) (d : Nat) (h : d < 10) : (tenS.extract d (d + 1) ++ s).size = s.size + 1 := by
  rw [← B_len, B_digit s d h, List.length_cons, B_len]
def DecRel (n m : Nat) (s : ByteArray) : Prop := (s.size = 0 ∧ m = n) ∨ (s.size ≠ 0 ∧ decL n = if m = 0 then B s else decF (m + 1) m (B s))
theorem decRel_step {n m : Nat} {s : ByteArray} (h : DecRel n m s) (hg : 0 < m ∨ s.size = 0) : DecRel n (m / 10) (tenS.extract (m % 10) (m % 10 + 1) ++ s) := by
  have hd : m % 10 < 10 := Nat.mod_lt _ (by omega)
  right
  rw [digit_size s _ hd, B_digit s _ hd]
  refine ⟨by omega, ?_⟩
  have e : decL n = decF (m + 1) m (B s) := by
    rcases h with ⟨h1, rfl⟩ | ⟨h1, h2⟩
    · have : B s = [] := List.eq_nil_of_length_eq_zero (by rw [B_len]; exact h1)
      rw [this]; rfl
    · rw [h2, if_neg (by omega)]
  rw [e]
  simp only [decF]
  by_cases h10 : m < 10
  · rw [if_pos h10, if_pos (by omega), Nat.mod_eq_of_lt h10]
  · rw [if_neg h10, if_neg (by omega)]
    have := decF_fuel m (m / 10 + 1) (m / 10) ((48 + m % 10) :: B s) (by omega) (by omega)
    rw [this]
    rfl
def decM (x y : Value) : Nat := (intOf x).toNat + (match y with | .string s => 1 - s.size | _ => 0)
theorem decM_step {m : Nat} {s : ByteArray} (h : 0 < m ∨ s.size = 0) : decM (.int .i64 ((m : Int) / 10)) (.string (tenS.extract (m % 10) (m % 10 + 1) ++ s)) < decM (.int .i64 m) (.string s) := by
  have e := digit_size s (m % 10) (Nat.mod_lt _ (by omega))
  unfold decM intOf
  simp only [e]
  omega
theorem decimal_any (n : Nat) (w : World) (hn : n ≤ 9223372036854775807) :
    Calls Tryz.prog 137 #[.int .i64 (n : Int)] w fun e w' => e = .returned (.string (mk (decL n))) ∧ w = w' := by
  go_enter Tryz.func137, Tryz.ntmps137
  go_wp2
  go_loop [0, 3] (fun x y => ∃ (m : Nat) (s : ByteArray), (s.size + m ≤ n ∨ (m = 0 ∧ s.size ≤ 1)) ∧ x = .int .i64 m ∧ y = .string s ∧ DecRel n m s) (fun x y => decM x y)
  case atStart => exact ⟨n, _, .inl (by show 0 + n ≤ n; omega), rfl, rfl, .inl ⟨rfl, rfl⟩⟩
  case round =>
    obtain ⟨m, s, hm, rfl, rfl, hd⟩ := hrel
    have HD := Lib.hid hd
    have HM := Lib.hid hm
    clear hd
    by_cases h : 0 < m
    · have hmn : m ≤ n := by omega
      have hsz : min (m % 10 + 1) 10 - m % 10 + s.size ≤ 9223372036854775807 := by omega
      clear hm
      go_wp2
      go_round
      case rel => exact ⟨m / 10, _, by have := HM.out; have e := digit_size s (m % 10) (Nat.mod_lt _ (by omega)); show (tenS.extract (m % 10) (m % 10 + 1) ++ s).size + m / 10 ≤ n ∨ _; rw [e]; omega, by go_num, rfl, decRel_step HD.out (.inl h)⟩
      case measure => exact decM_step (.inl h)
    · have hm0 : m ≤ 0 := by omega
      by_cases hs : s.size = 0
      · have t1 : s.toList.isEmpty = true := by rw [toList_data, List.isEmpty_iff]; exact List.eq_nil_of_length_eq_zero (by rw [Array.length_toList]; exact hs)
        have hsz : min (m % 10 + 1) 10 - m % 10 + s.size ≤ 9223372036854775807 := by omega
        have HS := Lib.hid hs
        clear hs hm
        go_wp2
        go_round
        case rel => exact ⟨m / 10, _, by have := HS.out; have e := digit_size s (m % 10) (Nat.mod_lt _ (by omega)); show (tenS.extract (m % 10) (m % 10 + 1) ++ s).size + m / 10 ≤ n ∨ (m / 10 = 0 ∧ (tenS.extract (m % 10) (m % 10 + 1) ++ s).size ≤ 1); rw [e]; omega, by go_num, rfl, decRel_step HD.out (.inr HS.out)⟩
        case measure => exact decM_step (.inr HS.out)
      · have t1 : s.toList.isEmpty = false := by
          rw [toList_data, List.isEmpty_eq_false_iff]
          intro he
          apply hs
          have := congrArg List.length he
          rw [Array.length_toList] at this
          exact this
        have HF := Lib.hid (show s = mk (decL n) by
          refine eq_mk ?_
          rcases HD.out with ⟨h1, _⟩ | ⟨_, h2⟩
          · exact absurd h1 hs
          · rw [h2, if_pos (by omega)])
        clear hs hm
        go_wp2
        go_ret
        exact ⟨by rw [← HF.out]; rfl, rfl⟩
end Go.Proofs.YtmlakjemgmeffaaGreatDoor
end

section
namespace Go.Proofs.YtmlakjemgmeffaaGreatDoor
open Go.RowKit
def textL (e : Nat) (u r : List Nat) : List Nat := (if e = 0 then [] else decL e ++ [58]) ++ u ++ (if r = [] then [] else 45 :: r)
theorem decF_len : ∀ (f n : Nat) (l : List Nat), (decF f n l).length ≤ f + l.length
  | 0, _, l => by simp [decF]
  | f + 1, n, l => by
    simp only [decF]
    split
    · simp; omega
    · have := decF_len f (n / 10) ((48 + n % 10) :: l); simp at this; omega
theorem decL_len (n : Nat) : (decL n).length ≤ n + 1 := by have := decF_len (n + 1) n []; simpa [decL] using this
theorem size_mk (l : List Nat) : (mk l).size = l.length := by
  unfold mk
  show (List.toArray _).size = _
  simp
theorem empty_iff (s : ByteArray) : s.toList.isEmpty = true ↔ B s = [] := by
  rw [toList_data, List.isEmpty_iff]
  unfold B
  simp
theorem empty_size {s : ByteArray} (h : B s = []) : s.size = 0 := by rw [← B_len, h]; rfl
theorem B_colon : B { data := #[58] } = [58] := by decide
theorem B_dash : B { data := #[45] } = [45] := by decide
theorem text_any (e : Nat) (u r : ByteArray) (w : World) (he : e ≤ 1000000000) (hu : u.size ≤ 65536) (hr : r.size ≤ 65536) :
    Calls Tryz.prog 102 #[.agg #[.int .i64 (e : Int), .string u, .string r]] w fun e' w' => e' = .returned (.string (mk (textL e (B u) (B r)))) ∧ Below w.heap.size w w' := by
  have hmk := decL_len e
  have hsz : (mk (decL e)).size ≤ 1000000001 := by rw [size_mk]; omega
  by_cases h1 : e = 0
  · cases h2 : r.toList.isEmpty
    · skip
      have t1 : ((e : Int) != 0) = false := by rw [bne_eq_false_iff_eq]; omega
      have HE : B r ≠ [] := fun hh => by rw [(empty_iff r).2 hh] at h2; cases h2
      have X := Lib.hid (show u ++ { data := #[45] } ++ r = mk (textL e (B u) (B r)) by
        refine eq_mk ?_
        unfold textL
        rw [if_pos h1, if_neg HE]
        simp [B_append, B_dash])
      clear HE h1
      go_enter Tryz.func102, Tryz.ntmps102
      go_wp2
      go_ret
      exact ⟨by rw [← X.out]; rfl, (Below.refl _ w).alloc (Nat.le_refl _) _⟩
    · skip
      have t1 : ((e : Int) != 0) = false := by rw [bne_eq_false_iff_eq]; omega
      have HE : B r = [] := (empty_iff r).1 h2
      have X := Lib.hid (show u = mk (textL e (B u) (B r)) by
        refine eq_mk ?_
        unfold textL
        rw [if_pos h1, if_pos HE]
        simp)
      clear HE h1
      go_enter Tryz.func102, Tryz.ntmps102
      go_wp2
      go_ret
      exact ⟨by rw [← X.out]; rfl, (Below.refl _ w).alloc (Nat.le_refl _) _⟩
  · cases h2 : r.toList.isEmpty
    · skip
      have t1 : ((e : Int) != 0) = true := by rw [bne_iff_ne]; omega
      have HE : B r ≠ [] := fun hh => by rw [(empty_iff r).2 hh] at h2; cases h2
      have X := Lib.hid (show mk (decL e) ++ { data := #[58] } ++ u ++ { data := #[45] } ++ r = mk (textL e (B u) (B r)) by
        refine eq_mk ?_
        unfold textL
        rw [if_neg h1, if_neg HE]
        simp [B_append, B_colon, B_dash, B_mk (decL_lt e)])
      clear HE h1
      go_enter Tryz.func102, Tryz.ntmps102
      go_wp2_with (go_at_call 137; refine (decimal_any _ _ (by omega)).mono ?_; rintro e w' ⟨rfl, rfl⟩)
      go_ret
      exact ⟨by rw [← X.out]; rfl, (Below.refl _ w).alloc (Nat.le_refl _) _⟩
    · skip
      have t1 : ((e : Int) != 0) = true := by rw [bne_iff_ne]; omega
      have HE : B r = [] := (empty_iff r).1 h2
      have X := Lib.hid (show mk (decL e) ++ { data := #[58] } ++ u = mk (textL e (B u) (B r)) by
        refine eq_mk ?_
        unfold textL
        rw [if_neg h1, if_pos HE]
        simp [B_append, B_colon, B_mk (decL_lt e)])
      clear HE h1
      go_enter Tryz.func102, Tryz.ntmps102
      go_wp2_with (go_at_call 137; refine (decimal_any _ _ (by omega)).mono ?_; rintro e w' ⟨rfl, rfl⟩)
      go_ret
      exact ⟨by rw [← X.out]; rfl, (Below.refl _ w).alloc (Nat.le_refl _) _⟩
def numV (l : List Nat) : Nat := l.foldl (fun n c => 10 * n + (c - 48)) 0
def numL (l : List Nat) : Int := if l ≠ [] ∧ l.length ≤ 9 ∧ l.all digB = true ∧ decL (numV l) = l then (numV l : Int) else -1
theorem numV_snoc (l : List Nat) (c : Nat) : numV (l ++ [c]) = 10 * numV l + (c - 48) := by simp [numV, List.foldl_append]
theorem digB_iff {c : Nat} : digB c = true ↔ 48 ≤ c ∧ c ≤ 57 := by simp [digB]
theorem numV_lt : ∀ (l : List Nat), (∀ c ∈ l, digB c = true) → numV l + 1 ≤ 10 ^ l.length := by
  intro l
  rw [← List.reverse_reverse l]
  induction l.reverse with
  | nil => intro _; simp [numV]
  | cons c l ih =>
    intro h
    rw [List.reverse_cons, numV_snoc, List.length_append]
    have h1 := ih (fun d hd => h d (by simp [hd]))
    have h2 := digB_iff.1 (h c (by simp))
    simp only [List.length_singleton, Nat.pow_succ, List.length_reverse] at h1 ⊢
    omega
set_option maxHeartbeats 1000000 in
theorem number_any (s : ByteArray) (w : World) (hs : s.size ≤ 9223372036854775807) :
    Calls Tryz.prog 100 #[.string s] w fun e w' => e = .returned (.int .i64 (numL (B s))) ∧ w = w' := by
  go_enter Tryz.func100, Tryz.ntmps100
  go_wp2
  go_loop [3, 4] (fun x y => ∃ k n : Nat, k ≤ s.size ∧ k ≤ 12 ∧ n = numV ((B s).take k) ∧ (∀ c ∈ (B s).take k, digB c = true) ∧ x = .int .i64 n ∧ y = .int .i64 k) (fun _ y => 12 - (intOf y).toNat)
  case atStart => exact ⟨0, 0, Nat.zero_le _, by omega, by simp [numV], by simp, rfl, rfl⟩
  case round =>
    obtain ⟨k, n, hk, hk12, hn, hall, rfl, rfl⟩ := hrel
    have hlt := numV_lt _ hall
    rw [← hn, List.length_take, B_len, Nat.min_eq_left hk] at hlt
    have HN := Lib.hid hn
    have HA := Lib.hid hall
    have hpow : 10 ^ k ≤ 10 ^ 12 := Nat.pow_le_pow_right (by omega) hk12
    have hn12 : n ≤ 1000000000000 := by omega
    clear hn hall hlt hpow
    by_cases hgo : k < s.size ∧ k < 12
    · obtain ⟨h1, h2⟩ := hgo
      cases hd : digB s[k].toNat
      · have HF := Lib.hid (show numL (B s) = -1 by
          unfold numL
          rw [if_neg]
          rintro ⟨_, _, h3, _⟩
          rw [List.all_eq_true] at h3
          have := h3 _ (List.mem_of_getElem? (B_at s k h1))
          rw [hd] at this; cases this)
        have HD := Lib.hid hd
        clear hd
        go_wp2_with (go_at_call 68; refine (Digit_any _ _).mono ?_; rw [HD.out]; rintro e w' ⟨rfl, rfl⟩)
        go_ret
        exact ⟨by rw [HF.out]; rfl, rfl⟩
      · have hc := digB_iff.1 hd
        have hc1 := hc.1
        have hc2 := hc.2
        have HD := Lib.hid hd
        have HS := Lib.hid (B_take_snoc s k h1)
        clear hd hc
        go_wp2_with (go_at_call 68; refine (Digit_any _ _).mono ?_; rw [HD.out]; rintro e w' ⟨rfl, rfl⟩)
        go_round
        case rel =>
          refine ⟨k + 1, 10 * n + (s[k].toNat - 48), by omega, by omega, by rw [HS.out, numV_snoc, ← HN.out], fun c hc => ?_, congrArg (Value.int .i64) (by omega), by go_num⟩
          rw [HS.out] at hc
          rcases List.mem_append.1 hc with hc | hc
          · exact HA.out c hc
          · rw [List.mem_singleton.1 hc]; exact HD.out
        case measure => simp [intOf]; omega
    · have hnot : ¬ k < s.size ∨ ¬ k < 12 := by omega
      clear hgo
      cases he : s.toList.isEmpty
      · have hne : B s ≠ [] := fun hh => by rw [(empty_iff s).2 hh] at he; cases he
        by_cases h9 : 9 < s.size
        · have HF := Lib.hid (show numL (B s) = -1 by unfold numL; rw [if_neg]; rintro ⟨_, h, _⟩; rw [B_len] at h; omega)
          have h9i : (9 : Int) < (s.size : Int) := by omega
          clear hne
          by_cases hks : k < s.size
          · have hk2 : 12 ≤ k := by omega
            clear hnot
            go_wp2
            go_ret
            exact ⟨by rw [HF.out]; rfl, rfl⟩
          · clear hnot
            go_wp2
            go_ret
            exact ⟨by rw [HF.out]; rfl, rfl⟩
        · have hks : ¬ k < s.size := by omega
          have hek : (B s).take k = B s := List.take_of_length_le (by rw [B_len]; omega)
          have hnn : n = numV (B s) := by rw [HN.out, hek]
          have hal : (B s).all digB = true := by rw [List.all_eq_true, ← hek]; exact HA.out
          have hst := strEq (decL n) s (decL_lt n)
          by_cases hd : decL n = B s
          · have HF := Lib.hid (show numL (B s) = (n : Int) by unfold numL; rw [if_pos ⟨hne, by rw [B_len]; omega, hal, by rw [← hnn]; exact hd⟩, ← hnn])
            rw [decide_eq_true hd] at hst
            clear hnn hek hal hne hd hnot
            go_wp2_with (go_at_call 137; refine (decimal_any _ _ (by omega)).mono ?_; rintro e w' ⟨rfl, rfl⟩)
            go_ret
            exact ⟨by rw [HF.out]; rfl, rfl⟩
          · have HF := Lib.hid (show numL (B s) = -1 by unfold numL; rw [if_neg]; rintro ⟨_, _, _, h⟩; rw [← hnn] at h; exact hd h)
            rw [decide_eq_false hd] at hst
            clear hnn hek hal hne hd hnot
            go_wp2_with (go_at_call 137; refine (decimal_any _ _ (by omega)).mono ?_; rintro e w' ⟨rfl, rfl⟩)
            go_ret
            exact ⟨by rw [HF.out]; rfl, rfl⟩
      · have hB := (empty_iff s).1 he
        have HF := Lib.hid (show numL (B s) = -1 by unfold numL; rw [if_neg]; rintro ⟨h, _⟩; exact h hB)
        have hz := empty_size hB
        have hz2 : s.size ≤ 0 := by omega
        clear hB hz hnot
        go_wp2
        go_ret
        exact ⟨by rw [HF.out]; rfl, rfl⟩
end Go.Proofs.YtmlakjemgmeffaaGreatDoor
end

section
set_option maxRecDepth 100000
namespace Go.Proofs.YtmlakjemgmeffaaGreatDoor
open Go.RowKit
def headD : List Nat → Bool | [] => false | c :: _ => digB c
def chB (x : List Nat) (c : Nat) : Bool := letB c || digB c || hasB x c
def uX : List Nat := [46, 43, 126, 45, 58]
def rX : List Nat := [46, 43, 126]
def rightB (e : Int) (u r : List Nat) : Bool :=
  decide (0 ≤ e ∧ e ≤ 999999999) && headD u && !(hasB u 45 && decide (r = [])) && !(hasB u 58 && decide (e = 0)) && u.all (chB uX) && r.all (chB rX) && decide ((textL e.toNat u r).length ≤ 60)
theorem headD_at (s : ByteArray) (h : 0 < s.size) : headD (B s) = digB s[0].toNat := by
  have := B_drop s 0 h
  rw [List.drop_zero] at this
  rw [this]; rfl
theorem uX_B : B { data := #[46, 43, 126, 45, 58] } = uX := by decide
theorem rX_B : B { data := #[46, 43, 126] } = rX := by decide
theorem has_uX (c : Nat) (w : World) : Calls Tryz.prog 138 #[.string { data := #[46, 43, 126, 45, 58] }, .int .u8 (c : Int)] w fun e w' => e = .returned (.bool (hasB uX c)) ∧ w = w' := by
  have := has_any { data := #[46, 43, 126, 45, 58] } c w (by decide)
  rwa [uX_B] at this
theorem has_rX (c : Nat) (w : World) : Calls Tryz.prog 138 #[.string { data := #[46, 43, 126] }, .int .u8 (c : Int)] w fun e w' => e = .returned (.bool (hasB rX c)) ∧ w = w' := by
  have := has_any { data := #[46, 43, 126] } c w (by decide)
  rwa [rX_B] at this
theorem has_45 (s : ByteArray) (w : World) (hs : s.size ≤ 9223372036854775807) : Calls Tryz.prog 138 #[.string s, .int .u8 45] w fun e w' => e = .returned (.bool (hasB (B s) 45)) ∧ w = w' := has_any s 45 w hs
theorem has_58 (s : ByteArray) (w : World) (hs : s.size ≤ 9223372036854775807) : Calls Tryz.prog 138 #[.string s, .int .u8 58] w fun e w' => e = .returned (.bool (hasB (B s) 58)) ∧ w = w' := has_any s 58 w hs
theorem text_len (e : Nat) (u r : ByteArray) (he : e ≤ 1000000000) (hu : u.size ≤ 65536) (hr : r.size ≤ 65536) :
    ∃ T : ByteArray, T = mk (textL e (B u) (B r)) ∧ T.size = (textL e (B u) (B r)).length ∧ ∀ w, Calls Tryz.prog 102 #[.agg #[.int .i64 (e : Int), .string u, .string r]] w fun e' w' => e' = .returned (.string T) ∧ Below w.heap.size w w' :=
  ⟨_, rfl, size_mk _, fun w => text_any e u r w he hu hr⟩
theorem all_take {s : ByteArray} {p : Nat → Bool} {k : Nat} (hk : k < s.size) (h : ∀ c ∈ (B s).take k, p c = true) (hp : p s[k].toNat = true) : ∀ c ∈ (B s).take (k + 1), p c = true := by
  intro c hc
  rw [B_take_snoc s k hk] at hc
  rcases List.mem_append.1 hc with hc | hc
  · exact h c hc
  · rw [List.mem_singleton.1 hc]; exact hp
theorem all_end {s : ByteArray} {p : Nat → Bool} {k : Nat} (hk : ¬ k < s.size) (h : ∀ c ∈ (B s).take k, p c = true) : (B s).all p = true := by
  rw [List.take_of_length_le (by rw [B_len]; omega)] at h
  exact List.all_eq_true.2 h
theorem all_not {s : ByteArray} {p : Nat → Bool} {k : Nat} (hk : k < s.size) (hp : p s[k].toNat = false) : (B s).all p = false := by
  rw [Bool.eq_false_iff]
  intro h
  rw [List.all_eq_true] at h
  have := h _ (List.mem_of_getElem? (B_at s k hk))
  rw [hp] at this; cases this
theorem right_neg (e : Int) (u r : ByteArray) (w : World) (h : e < 0) :
    Calls Tryz.prog 101 #[.agg #[.int .i64 e, .string u, .string r]] w fun e' w' => e' = .returned (.bool (rightB e (B u) (B r))) ∧ Below w.heap.size w w' := by
  have X := Lib.hid (show rightB e (B u) (B r) = false by unfold rightB; rw [decide_eq_false (by omega)]; rfl)
  go_enter Tryz.func101, Tryz.ntmps101
  go_wp2
  go_ret
  exact ⟨by rw [X.out]; rfl, (Below.refl _ w).alloc (Nat.le_refl _) _⟩
theorem right_big (e : Int) (u r : ByteArray) (w : World) (h : 999999999 < e) :
    Calls Tryz.prog 101 #[.agg #[.int .i64 e, .string u, .string r]] w fun e' w' => e' = .returned (.bool (rightB e (B u) (B r))) ∧ Below w.heap.size w w' := by
  have X := Lib.hid (show rightB e (B u) (B r) = false by unfold rightB; rw [decide_eq_false (by omega)]; rfl)
  go_enter Tryz.func101, Tryz.ntmps101
  go_wp2
  go_ret
  exact ⟨by rw [X.out]; rfl, (Below.refl _ w).alloc (Nat.le_refl _) _⟩
theorem right_empty (e : Int) (u r : ByteArray) (w : World) (h0 : 0 ≤ e) (h1 : e ≤ 999999999) (hu : u.toList.isEmpty = true) :
    Calls Tryz.prog 101 #[.agg #[.int .i64 e, .string u, .string r]] w fun e' w' => e' = .returned (.bool (rightB e (B u) (B r))) ∧ Below w.heap.size w w' := by
  have X := Lib.hid (show rightB e (B u) (B r) = false by unfold rightB; rw [(empty_iff u).1 hu]; simp [headD])
  go_enter Tryz.func101, Tryz.ntmps101
  go_wp2
  go_ret
  exact ⟨by rw [X.out]; rfl, (Below.refl _ w).alloc (Nat.le_refl _) _⟩
theorem right_head (e : Int) (u r : ByteArray) (w : World) (h0 : 0 ≤ e) (h1 : e ≤ 999999999) (hu : u.toList.isEmpty = false) (hs : 0 < u.size) (hd : digB u[0].toNat = false) :
    Calls Tryz.prog 101 #[.agg #[.int .i64 e, .string u, .string r]] w fun e' w' => e' = .returned (.bool (rightB e (B u) (B r))) ∧ Below w.heap.size w w' := by
  have X := Lib.hid (show rightB e (B u) (B r) = false by unfold rightB; rw [headD_at u hs, hd]; simp)
  have HD := Lib.hid hd
  clear hd
  go_enter Tryz.func101, Tryz.ntmps101
  go_wp2_with (go_at_call 68; refine (Digit_any _ _).mono ?_; rw [HD.out]; rintro e' w' ⟨rfl, rfl⟩)
  go_ret
  exact ⟨by rw [X.out]; rfl, (Below.refl _ w).alloc (Nat.le_refl _) _⟩
theorem right_dash (e : Int) (u r : ByteArray) (w : World) (h0 : 0 ≤ e) (h1 : e ≤ 999999999) (hu : u.toList.isEmpty = false) (hs : 0 < u.size) (hsz : u.size ≤ 9223372036854775807) (hd : digB u[0].toNat = true) (h45 : hasB (B u) 45 = true) (hr : r.toList.isEmpty = true) :
    Calls Tryz.prog 101 #[.agg #[.int .i64 e, .string u, .string r]] w fun e' w' => e' = .returned (.bool (rightB e (B u) (B r))) ∧ Below w.heap.size w w' := by
  have X := Lib.hid (show rightB e (B u) (B r) = false by unfold rightB; rw [h45, (empty_iff r).1 hr]; simp)
  have HD := Lib.hid hd
  have C45 := Lib.hid (fun w => has_45 u w hsz)
  have C58 := Lib.hid (fun w => has_58 u w hsz)
  rw [h45] at C45
  clear hd h45
  go_enter Tryz.func101, Tryz.ntmps101
  go_wp2_with (first | (go_at_call 68; refine (Digit_any _ _).mono ?_; rw [HD.out]; rintro e' w' ⟨rfl, rfl⟩) | (go_at_call 138; (with_reducible refine (C45.out _).mono ?_); rintro e' w' ⟨rfl, rfl⟩) | (go_at_call 138; (with_reducible refine (C58.out _).mono ?_); rintro e' w' ⟨rfl, rfl⟩))
  go_ret
  exact ⟨by rw [X.out]; rfl, (Below.refl _ w).alloc (Nat.le_refl _) _⟩
theorem right_colon_true (u r : ByteArray) (w : World) (hu : u.toList.isEmpty = false) (hs : 0 < u.size) (hsz : u.size ≤ 9223372036854775807) (hd : digB u[0].toNat = true) (h45 : hasB (B u) 45 = true) (hr : r.toList.isEmpty = false) (h58 : hasB (B u) 58 = true) :
    Calls Tryz.prog 101 #[.agg #[.int .i64 0, .string u, .string r]] w fun e' w' => e' = .returned (.bool (rightB 0 (B u) (B r))) ∧ Below w.heap.size w w' := by
  have X := Lib.hid (show rightB 0 (B u) (B r) = false by unfold rightB; rw [h58]; simp)
  have HD := Lib.hid hd
  have C45 := Lib.hid (fun w => has_45 u w hsz)
  have C58 := Lib.hid (fun w => has_58 u w hsz)
  rw [h45] at C45
  rw [h58] at C58
  clear hd h45 h58
  go_enter Tryz.func101, Tryz.ntmps101
  go_wp2_with (first | (go_at_call 68; refine (Digit_any _ _).mono ?_; rw [HD.out]; rintro e' w' ⟨rfl, rfl⟩) | (go_at_call 138; (with_reducible refine (C45.out _).mono ?_); rintro e' w' ⟨rfl, rfl⟩) | (go_at_call 138; (with_reducible refine (C58.out _).mono ?_); rintro e' w' ⟨rfl, rfl⟩))
  go_ret
  exact ⟨by rw [X.out]; rfl, (Below.refl _ w).alloc (Nat.le_refl _) _⟩
theorem right_colon_false (u r : ByteArray) (w : World) (hu : u.toList.isEmpty = false) (hs : 0 < u.size) (hsz : u.size ≤ 9223372036854775807) (hd : digB u[0].toNat = true) (h45 : hasB (B u) 45 = false) (h58 : hasB (B u) 58 = true) :
    Calls Tryz.prog 101 #[.agg #[.int .i64 0, .string u, .string r]] w fun e' w' => e' = .returned (.bool (rightB 0 (B u) (B r))) ∧ Below w.heap.size w w' := by
  have X := Lib.hid (show rightB 0 (B u) (B r) = false by unfold rightB; rw [h58]; simp)
  have HD := Lib.hid hd
  have C45 := Lib.hid (fun w => has_45 u w hsz)
  have C58 := Lib.hid (fun w => has_58 u w hsz)
  rw [h45] at C45
  rw [h58] at C58
  clear hd h45 h58
  go_enter Tryz.func101, Tryz.ntmps101
  go_wp2_with (first | (go_at_call 68; refine (Digit_any _ _).mono ?_; rw [HD.out]; rintro e' w' ⟨rfl, rfl⟩) | (go_at_call 138; (with_reducible refine (C45.out _).mono ?_); rintro e' w' ⟨rfl, rfl⟩) | (go_at_call 138; (with_reducible refine (C58.out _).mono ?_); rintro e' w' ⟨rfl, rfl⟩))
  go_ret
  exact ⟨by rw [X.out]; rfl, (Below.refl _ w).alloc (Nat.le_refl _) _⟩
end Go.Proofs.YtmlakjemgmeffaaGreatDoor
end

section
set_option maxRecDepth 100000
namespace Go.Proofs.YtmlakjemgmeffaaGreatDoor
open Go.RowKit
set_option maxHeartbeats 1000000 in
theorem right_false_false (e : Nat) (u r : ByteArray) (w : World) (he : e ≤ 999999999) (hu : u.toList.isEmpty = false) (hs : 0 < u.size) (hsz : u.size ≤ 65536) (hrz : r.size ≤ 65536) (hd : digB u[0].toNat = true) (h45 : hasB (B u) 45 = false) (h58 : hasB (B u) 58 = false) :
    Calls Tryz.prog 101 #[.agg #[.int .i64 (e : Int), .string u, .string r]] w fun e' w' => e' = .returned (.bool (rightB (e : Int) (B u) (B r))) ∧ Below w.heap.size w w' := by
  have XR := Lib.hid (show rightB e (B u) (B r) = ((B u).all (chB uX) && (B r).all (chB rX) && decide ((textL e (B u) (B r)).length ≤ 60)) by
    unfold rightB
    rw [decide_eq_true (by omega), headD_at u hs, hd]
    rw [h45]
    rw [h58]
    simp)
  obtain ⟨T, -, hT, ct⟩ := text_len e u r (by omega) hsz hrz
  have HT := Lib.hid hT
  have CT := Lib.hid ct
  clear hT ct
  have HD := Lib.hid hd
  have C45 := Lib.hid (fun w => has_45 u w (by omega))
  have C58 := Lib.hid (fun w => has_58 u w (by omega))
  rw [h45] at C45
  rw [h58] at C58
  clear hd h45 h58
  go_enter Tryz.func101, Tryz.ntmps101
  go_wp2_with (first | (go_at_call 68; refine (Digit_any _ _).mono ?_; rw [HD.out]; rintro e' w' ⟨rfl, rfl⟩) | (go_at_call 138; (with_reducible refine (C45.out _).mono ?_); rintro e' w' ⟨rfl, rfl⟩) | (go_at_call 138; (with_reducible refine (C58.out _).mono ?_); rintro e' w' ⟨rfl, rfl⟩))
  clear HD C45 C58
  go_loop [3] (fun x => ∃ k : Nat, k ≤ u.size ∧ x = .int .i64 k ∧ ∀ c ∈ (B u).take k, chB uX c = true) (fun x => u.size - (intOf x).toNat)
  case atStart => exact ⟨0, Nat.zero_le _, rfl, by simp⟩
  case round =>
    obtain ⟨k, hk, rfl, hall⟩ := hrel
    have HA := Lib.hid hall
    clear hall
    by_cases hlt : k < u.size
    · have t_u := byte_le u k hlt
      cases hl : letB u[k].toNat
      · cases hd : digB u[k].toNat
        · cases hh : hasB uX u[k].toNat
          · have HF := Lib.hid (all_not (p := chB uX) hlt (by unfold chB; rw [hl, hd, hh]; rfl))
            have HL := Lib.hid hl
            have HD2 := Lib.hid hd
            have HH := Lib.hid hh
            clear hl hd hh
            go_wp2_with (first | (go_at_call 139; refine (Letter_any _ _).mono ?_; rw [HL.out]; rintro e' w' ⟨rfl, rfl⟩) | (go_at_call 68; refine (Digit_any _ _).mono ?_; rw [HD2.out]; rintro e' w' ⟨rfl, rfl⟩) | (go_at_call 138; refine (has_uX _ _).mono ?_; rw [HH.out]; rintro e' w' ⟨rfl, rfl⟩))
            go_ret
            exact ⟨by rw [XR.out, HF.out, Bool.false_and]; rfl, (Below.refl _ w).alloc (Nat.le_refl _) _⟩
          · have HOK := Lib.hid (all_take (p := chB uX) hlt HA.out (by unfold chB; rw [hl, hd, hh]; rfl))
            have HL := Lib.hid hl
            have HD2 := Lib.hid hd
            have HH := Lib.hid hh
            clear hl hd hh
            go_wp2_with (first | (go_at_call 139; refine (Letter_any _ _).mono ?_; rw [HL.out]; rintro e' w' ⟨rfl, rfl⟩) | (go_at_call 68; refine (Digit_any _ _).mono ?_; rw [HD2.out]; rintro e' w' ⟨rfl, rfl⟩) | (go_at_call 138; refine (has_uX _ _).mono ?_; rw [HH.out]; rintro e' w' ⟨rfl, rfl⟩))
            go_round
            case rel => exact ⟨k + 1, by omega, by go_num, HOK.out⟩
            case measure => simp [intOf]; omega
        · have HOK := Lib.hid (all_take (p := chB uX) hlt HA.out (by unfold chB; rw [hl, hd]; rfl))
          have HL := Lib.hid hl
          have HD2 := Lib.hid hd
          clear hl hd
          go_wp2_with (first | (go_at_call 139; refine (Letter_any _ _).mono ?_; rw [HL.out]; rintro e' w' ⟨rfl, rfl⟩) | (go_at_call 68; refine (Digit_any _ _).mono ?_; rw [HD2.out]; rintro e' w' ⟨rfl, rfl⟩))
          go_round
          case rel => exact ⟨k + 1, by omega, by go_num, HOK.out⟩
          case measure => simp [intOf]; omega
      · have HOK := Lib.hid (all_take (p := chB uX) hlt HA.out (by unfold chB; rw [hl]; rfl))
        have HL := Lib.hid hl
        clear hl
        go_wp2_with (go_at_call 139; refine (Letter_any _ _).mono ?_; rw [HL.out]; rintro e' w' ⟨rfl, rfl⟩)
        go_round
        case rel => exact ⟨k + 1, by omega, by go_num, HOK.out⟩
        case measure => simp [intOf]; omega
    · have HALLu := Lib.hid (all_end hlt HA.out)
      clear HA
      go_wp2
      go_loop [5] (fun x => ∃ m : Nat, m ≤ r.size ∧ x = .int .i64 m ∧ ∀ c ∈ (B r).take m, chB rX c = true) (fun x => r.size - (intOf x).toNat)
      case atStart => exact ⟨0, Nat.zero_le _, rfl, by simp⟩
      case round =>
        obtain ⟨m, hm, rfl, hall⟩ := hrel
        have HA := Lib.hid hall
        clear hall
        by_cases hlt : m < r.size
        · have t_u := byte_le r m hlt
          cases hl : letB r[m].toNat
          · cases hd : digB r[m].toNat
            · cases hh : hasB rX r[m].toNat
              · have HF := Lib.hid (all_not (p := chB rX) hlt (by unfold chB; rw [hl, hd, hh]; rfl))
                have HL := Lib.hid hl
                have HD2 := Lib.hid hd
                have HH := Lib.hid hh
                clear hl hd hh
                go_wp2_with (first | (go_at_call 139; refine (Letter_any _ _).mono ?_; rw [HL.out]; rintro e' w' ⟨rfl, rfl⟩) | (go_at_call 68; refine (Digit_any _ _).mono ?_; rw [HD2.out]; rintro e' w' ⟨rfl, rfl⟩) | (go_at_call 138; refine (has_rX _ _).mono ?_; rw [HH.out]; rintro e' w' ⟨rfl, rfl⟩))
                go_ret
                exact ⟨by rw [XR.out, HF.out, Bool.and_false, Bool.false_and]; rfl, (Below.refl _ w).alloc (Nat.le_refl _) _⟩
              · have HOK := Lib.hid (all_take (p := chB rX) hlt HA.out (by unfold chB; rw [hl, hd, hh]; rfl))
                have HL := Lib.hid hl
                have HD2 := Lib.hid hd
                have HH := Lib.hid hh
                clear hl hd hh
                go_wp2_with (first | (go_at_call 139; refine (Letter_any _ _).mono ?_; rw [HL.out]; rintro e' w' ⟨rfl, rfl⟩) | (go_at_call 68; refine (Digit_any _ _).mono ?_; rw [HD2.out]; rintro e' w' ⟨rfl, rfl⟩) | (go_at_call 138; refine (has_rX _ _).mono ?_; rw [HH.out]; rintro e' w' ⟨rfl, rfl⟩))
                go_round
                case rel => exact ⟨m + 1, by omega, by go_num, HOK.out⟩
                case measure => simp [intOf]; omega
            · have HOK := Lib.hid (all_take (p := chB rX) hlt HA.out (by unfold chB; rw [hl, hd]; rfl))
              have HL := Lib.hid hl
              have HD2 := Lib.hid hd
              clear hl hd
              go_wp2_with (first | (go_at_call 139; refine (Letter_any _ _).mono ?_; rw [HL.out]; rintro e' w' ⟨rfl, rfl⟩) | (go_at_call 68; refine (Digit_any _ _).mono ?_; rw [HD2.out]; rintro e' w' ⟨rfl, rfl⟩))
              go_round
              case rel => exact ⟨m + 1, by omega, by go_num, HOK.out⟩
              case measure => simp [intOf]; omega
          · have HOK := Lib.hid (all_take (p := chB rX) hlt HA.out (by unfold chB; rw [hl]; rfl))
            have HL := Lib.hid hl
            clear hl
            go_wp2_with (go_at_call 139; refine (Letter_any _ _).mono ?_; rw [HL.out]; rintro e' w' ⟨rfl, rfl⟩)
            go_round
            case rel => exact ⟨m + 1, by omega, by go_num, HOK.out⟩
            case measure => simp [intOf]; omega
        · have HALLr := Lib.hid (all_end hlt HA.out)
          clear HA
          go_wp2_with (go_at_call 102; (with_reducible refine (CT.out _).mono ?_); rintro e' w1 ⟨rfl, hb1⟩)
          go_ret
          exact ⟨by rw [XR.out, HALLu.out, HALLr.out, ← HT.out]; show Ending.returned (.bool (decide ((T.size : Int) ≤ 60))) = .returned (.bool (decide (T.size ≤ 60))); rw [decide_eq_decide.2 (show (T.size : Int) ≤ 60 ↔ T.size ≤ 60 by omega)], ((Below.refl _ w).alloc (Nat.le_refl _) _).trans (hb1.mono (by simp))⟩
set_option maxHeartbeats 1000000 in
theorem right_false_true (e : Nat) (u r : ByteArray) (w : World) (he : e ≤ 999999999) (hu : u.toList.isEmpty = false) (hs : 0 < u.size) (hsz : u.size ≤ 65536) (hrz : r.size ≤ 65536) (hd : digB u[0].toNat = true) (h45 : hasB (B u) 45 = false) (h58 : hasB (B u) 58 = true) (he0 : ((e : Int) == 0) = false) :
    Calls Tryz.prog 101 #[.agg #[.int .i64 (e : Int), .string u, .string r]] w fun e' w' => e' = .returned (.bool (rightB (e : Int) (B u) (B r))) ∧ Below w.heap.size w w' := by
  have XR := Lib.hid (show rightB e (B u) (B r) = ((B u).all (chB uX) && (B r).all (chB rX) && decide ((textL e (B u) (B r)).length ≤ 60)) by
    unfold rightB
    rw [decide_eq_true (by omega), headD_at u hs, hd]
    rw [h45]
    rw [h58, show decide ((e : Int) = 0) = false from decide_eq_false (by intro h; rw [h] at he0; cases he0)]
    simp)
  obtain ⟨T, -, hT, ct⟩ := text_len e u r (by omega) hsz hrz
  have HT := Lib.hid hT
  have CT := Lib.hid ct
  clear hT ct
  have HD := Lib.hid hd
  have C45 := Lib.hid (fun w => has_45 u w (by omega))
  have C58 := Lib.hid (fun w => has_58 u w (by omega))
  rw [h45] at C45
  rw [h58] at C58
  clear hd h45 h58
  go_enter Tryz.func101, Tryz.ntmps101
  go_wp2_with (first | (go_at_call 68; refine (Digit_any _ _).mono ?_; rw [HD.out]; rintro e' w' ⟨rfl, rfl⟩) | (go_at_call 138; (with_reducible refine (C45.out _).mono ?_); rintro e' w' ⟨rfl, rfl⟩) | (go_at_call 138; (with_reducible refine (C58.out _).mono ?_); rintro e' w' ⟨rfl, rfl⟩))
  clear HD C45 C58
  go_loop [3] (fun x => ∃ k : Nat, k ≤ u.size ∧ x = .int .i64 k ∧ ∀ c ∈ (B u).take k, chB uX c = true) (fun x => u.size - (intOf x).toNat)
  case atStart => exact ⟨0, Nat.zero_le _, rfl, by simp⟩
  case round =>
    obtain ⟨k, hk, rfl, hall⟩ := hrel
    have HA := Lib.hid hall
    clear hall
    by_cases hlt : k < u.size
    · have t_u := byte_le u k hlt
      cases hl : letB u[k].toNat
      · cases hd : digB u[k].toNat
        · cases hh : hasB uX u[k].toNat
          · have HF := Lib.hid (all_not (p := chB uX) hlt (by unfold chB; rw [hl, hd, hh]; rfl))
            have HL := Lib.hid hl
            have HD2 := Lib.hid hd
            have HH := Lib.hid hh
            clear hl hd hh
            go_wp2_with (first | (go_at_call 139; refine (Letter_any _ _).mono ?_; rw [HL.out]; rintro e' w' ⟨rfl, rfl⟩) | (go_at_call 68; refine (Digit_any _ _).mono ?_; rw [HD2.out]; rintro e' w' ⟨rfl, rfl⟩) | (go_at_call 138; refine (has_uX _ _).mono ?_; rw [HH.out]; rintro e' w' ⟨rfl, rfl⟩))
            go_ret
            exact ⟨by rw [XR.out, HF.out, Bool.false_and]; rfl, (Below.refl _ w).alloc (Nat.le_refl _) _⟩
          · have HOK := Lib.hid (all_take (p := chB uX) hlt HA.out (by unfold chB; rw [hl, hd, hh]; rfl))
            have HL := Lib.hid hl
            have HD2 := Lib.hid hd
            have HH := Lib.hid hh
            clear hl hd hh
            go_wp2_with (first | (go_at_call 139; refine (Letter_any _ _).mono ?_; rw [HL.out]; rintro e' w' ⟨rfl, rfl⟩) | (go_at_call 68; refine (Digit_any _ _).mono ?_; rw [HD2.out]; rintro e' w' ⟨rfl, rfl⟩) | (go_at_call 138; refine (has_uX _ _).mono ?_; rw [HH.out]; rintro e' w' ⟨rfl, rfl⟩))
            go_round
            case rel => exact ⟨k + 1, by omega, by go_num, HOK.out⟩
            case measure => simp [intOf]; omega
        · have HOK := Lib.hid (all_take (p := chB uX) hlt HA.out (by unfold chB; rw [hl, hd]; rfl))
          have HL := Lib.hid hl
          have HD2 := Lib.hid hd
          clear hl hd
          go_wp2_with (first | (go_at_call 139; refine (Letter_any _ _).mono ?_; rw [HL.out]; rintro e' w' ⟨rfl, rfl⟩) | (go_at_call 68; refine (Digit_any _ _).mono ?_; rw [HD2.out]; rintro e' w' ⟨rfl, rfl⟩))
          go_round
          case rel => exact ⟨k + 1, by omega, by go_num, HOK.out⟩
          case measure => simp [intOf]; omega
      · have HOK := Lib.hid (all_take (p := chB uX) hlt HA.out (by unfold chB; rw [hl]; rfl))
        have HL := Lib.hid hl
        clear hl
        go_wp2_with (go_at_call 139; refine (Letter_any _ _).mono ?_; rw [HL.out]; rintro e' w' ⟨rfl, rfl⟩)
        go_round
        case rel => exact ⟨k + 1, by omega, by go_num, HOK.out⟩
        case measure => simp [intOf]; omega
    · have HALLu := Lib.hid (all_end hlt HA.out)
      clear HA
      go_wp2
      go_loop [5] (fun x => ∃ m : Nat, m ≤ r.size ∧ x = .int .i64 m ∧ ∀ c ∈ (B r).take m, chB rX c = true) (fun x => r.size - (intOf x).toNat)
      case atStart => exact ⟨0, Nat.zero_le _, rfl, by simp⟩
      case round =>
        obtain ⟨m, hm, rfl, hall⟩ := hrel
        have HA := Lib.hid hall
        clear hall
        by_cases hlt : m < r.size
        · have t_u := byte_le r m hlt
          cases hl : letB r[m].toNat
          · cases hd : digB r[m].toNat
            · cases hh : hasB rX r[m].toNat
              · have HF := Lib.hid (all_not (p := chB rX) hlt (by unfold chB; rw [hl, hd, hh]; rfl))
                have HL := Lib.hid hl
                have HD2 := Lib.hid hd
                have HH := Lib.hid hh
                clear hl hd hh
                go_wp2_with (first | (go_at_call 139; refine (Letter_any _ _).mono ?_; rw [HL.out]; rintro e' w' ⟨rfl, rfl⟩) | (go_at_call 68; refine (Digit_any _ _).mono ?_; rw [HD2.out]; rintro e' w' ⟨rfl, rfl⟩) | (go_at_call 138; refine (has_rX _ _).mono ?_; rw [HH.out]; rintro e' w' ⟨rfl, rfl⟩))
                go_ret
                exact ⟨by rw [XR.out, HF.out, Bool.and_false, Bool.false_and]; rfl, (Below.refl _ w).alloc (Nat.le_refl _) _⟩
              · have HOK := Lib.hid (all_take (p := chB rX) hlt HA.out (by unfold chB; rw [hl, hd, hh]; rfl))
                have HL := Lib.hid hl
                have HD2 := Lib.hid hd
                have HH := Lib.hid hh
                clear hl hd hh
                go_wp2_with (first | (go_at_call 139; refine (Letter_any _ _).mono ?_; rw [HL.out]; rintro e' w' ⟨rfl, rfl⟩) | (go_at_call 68; refine (Digit_any _ _).mono ?_; rw [HD2.out]; rintro e' w' ⟨rfl, rfl⟩) | (go_at_call 138; refine (has_rX _ _).mono ?_; rw [HH.out]; rintro e' w' ⟨rfl, rfl⟩))
                go_round
                case rel => exact ⟨m + 1, by omega, by go_num, HOK.out⟩
                case measure => simp [intOf]; omega
            · have HOK := Lib.hid (all_take (p := chB rX) hlt HA.out (by unfold chB; rw [hl, hd]; rfl))
              have HL := Lib.hid hl
              have HD2 := Lib.hid hd
              clear hl hd
              go_wp2_with (first | (go_at_call 139; refine (Letter_any _ _).mono ?_; rw [HL.out]; rintro e' w' ⟨rfl, rfl⟩) | (go_at_call 68; refine (Digit_any _ _).mono ?_; rw [HD2.out]; rintro e' w' ⟨rfl, rfl⟩))
              go_round
              case rel => exact ⟨m + 1, by omega, by go_num, HOK.out⟩
              case measure => simp [intOf]; omega
          · have HOK := Lib.hid (all_take (p := chB rX) hlt HA.out (by unfold chB; rw [hl]; rfl))
            have HL := Lib.hid hl
            clear hl
            go_wp2_with (go_at_call 139; refine (Letter_any _ _).mono ?_; rw [HL.out]; rintro e' w' ⟨rfl, rfl⟩)
            go_round
            case rel => exact ⟨m + 1, by omega, by go_num, HOK.out⟩
            case measure => simp [intOf]; omega
        · have HALLr := Lib.hid (all_end hlt HA.out)
          clear HA
          go_wp2_with (go_at_call 102; (with_reducible refine (CT.out _).mono ?_); rintro e' w1 ⟨rfl, hb1⟩)
          go_ret
          exact ⟨by rw [XR.out, HALLu.out, HALLr.out, ← HT.out]; show Ending.returned (.bool (decide ((T.size : Int) ≤ 60))) = .returned (.bool (decide (T.size ≤ 60))); rw [decide_eq_decide.2 (show (T.size : Int) ≤ 60 ↔ T.size ≤ 60 by omega)], ((Below.refl _ w).alloc (Nat.le_refl _) _).trans (hb1.mono (by simp))⟩
set_option maxHeartbeats 1000000 in
theorem right_true_false (e : Nat) (u r : ByteArray) (w : World) (he : e ≤ 999999999) (hu : u.toList.isEmpty = false) (hs : 0 < u.size) (hsz : u.size ≤ 65536) (hrz : r.size ≤ 65536) (hd : digB u[0].toNat = true) (h45 : hasB (B u) 45 = true) (hre : r.toList.isEmpty = false) (h58 : hasB (B u) 58 = false) :
    Calls Tryz.prog 101 #[.agg #[.int .i64 (e : Int), .string u, .string r]] w fun e' w' => e' = .returned (.bool (rightB (e : Int) (B u) (B r))) ∧ Below w.heap.size w w' := by
  have XR := Lib.hid (show rightB e (B u) (B r) = ((B u).all (chB uX) && (B r).all (chB rX) && decide ((textL e (B u) (B r)).length ≤ 60)) by
    unfold rightB
    rw [decide_eq_true (by omega), headD_at u hs, hd]
    rw [h45, decide_eq_false (fun h => by rw [(empty_iff r).2 h] at hre; cases hre)]
    rw [h58]
    simp)
  obtain ⟨T, -, hT, ct⟩ := text_len e u r (by omega) hsz hrz
  have HT := Lib.hid hT
  have CT := Lib.hid ct
  clear hT ct
  have HD := Lib.hid hd
  have C45 := Lib.hid (fun w => has_45 u w (by omega))
  have C58 := Lib.hid (fun w => has_58 u w (by omega))
  rw [h45] at C45
  rw [h58] at C58
  clear hd h45 h58
  go_enter Tryz.func101, Tryz.ntmps101
  go_wp2_with (first | (go_at_call 68; refine (Digit_any _ _).mono ?_; rw [HD.out]; rintro e' w' ⟨rfl, rfl⟩) | (go_at_call 138; (with_reducible refine (C45.out _).mono ?_); rintro e' w' ⟨rfl, rfl⟩) | (go_at_call 138; (with_reducible refine (C58.out _).mono ?_); rintro e' w' ⟨rfl, rfl⟩))
  clear HD C45 C58
  go_loop [3] (fun x => ∃ k : Nat, k ≤ u.size ∧ x = .int .i64 k ∧ ∀ c ∈ (B u).take k, chB uX c = true) (fun x => u.size - (intOf x).toNat)
  case atStart => exact ⟨0, Nat.zero_le _, rfl, by simp⟩
  case round =>
    obtain ⟨k, hk, rfl, hall⟩ := hrel
    have HA := Lib.hid hall
    clear hall
    by_cases hlt : k < u.size
    · have t_u := byte_le u k hlt
      cases hl : letB u[k].toNat
      · cases hd : digB u[k].toNat
        · cases hh : hasB uX u[k].toNat
          · have HF := Lib.hid (all_not (p := chB uX) hlt (by unfold chB; rw [hl, hd, hh]; rfl))
            have HL := Lib.hid hl
            have HD2 := Lib.hid hd
            have HH := Lib.hid hh
            clear hl hd hh
            go_wp2_with (first | (go_at_call 139; refine (Letter_any _ _).mono ?_; rw [HL.out]; rintro e' w' ⟨rfl, rfl⟩) | (go_at_call 68; refine (Digit_any _ _).mono ?_; rw [HD2.out]; rintro e' w' ⟨rfl, rfl⟩) | (go_at_call 138; refine (has_uX _ _).mono ?_; rw [HH.out]; rintro e' w' ⟨rfl, rfl⟩))
            go_ret
            exact ⟨by rw [XR.out, HF.out, Bool.false_and]; rfl, (Below.refl _ w).alloc (Nat.le_refl _) _⟩
          · have HOK := Lib.hid (all_take (p := chB uX) hlt HA.out (by unfold chB; rw [hl, hd, hh]; rfl))
            have HL := Lib.hid hl
            have HD2 := Lib.hid hd
            have HH := Lib.hid hh
            clear hl hd hh
            go_wp2_with (first | (go_at_call 139; refine (Letter_any _ _).mono ?_; rw [HL.out]; rintro e' w' ⟨rfl, rfl⟩) | (go_at_call 68; refine (Digit_any _ _).mono ?_; rw [HD2.out]; rintro e' w' ⟨rfl, rfl⟩) | (go_at_call 138; refine (has_uX _ _).mono ?_; rw [HH.out]; rintro e' w' ⟨rfl, rfl⟩))
            go_round
            case rel => exact ⟨k + 1, by omega, by go_num, HOK.out⟩
            case measure => simp [intOf]; omega
        · have HOK := Lib.hid (all_take (p := chB uX) hlt HA.out (by unfold chB; rw [hl, hd]; rfl))
          have HL := Lib.hid hl
          have HD2 := Lib.hid hd
          clear hl hd
          go_wp2_with (first | (go_at_call 139; refine (Letter_any _ _).mono ?_; rw [HL.out]; rintro e' w' ⟨rfl, rfl⟩) | (go_at_call 68; refine (Digit_any _ _).mono ?_; rw [HD2.out]; rintro e' w' ⟨rfl, rfl⟩))
          go_round
          case rel => exact ⟨k + 1, by omega, by go_num, HOK.out⟩
          case measure => simp [intOf]; omega
      · have HOK := Lib.hid (all_take (p := chB uX) hlt HA.out (by unfold chB; rw [hl]; rfl))
        have HL := Lib.hid hl
        clear hl
        go_wp2_with (go_at_call 139; refine (Letter_any _ _).mono ?_; rw [HL.out]; rintro e' w' ⟨rfl, rfl⟩)
        go_round
        case rel => exact ⟨k + 1, by omega, by go_num, HOK.out⟩
        case measure => simp [intOf]; omega
    · have HALLu := Lib.hid (all_end hlt HA.out)
      clear HA
      go_wp2
      go_loop [5] (fun x => ∃ m : Nat, m ≤ r.size ∧ x = .int .i64 m ∧ ∀ c ∈ (B r).take m, chB rX c = true) (fun x => r.size - (intOf x).toNat)
      case atStart => exact ⟨0, Nat.zero_le _, rfl, by simp⟩
      case round =>
        obtain ⟨m, hm, rfl, hall⟩ := hrel
        have HA := Lib.hid hall
        clear hall
        by_cases hlt : m < r.size
        · have t_u := byte_le r m hlt
          cases hl : letB r[m].toNat
          · cases hd : digB r[m].toNat
            · cases hh : hasB rX r[m].toNat
              · have HF := Lib.hid (all_not (p := chB rX) hlt (by unfold chB; rw [hl, hd, hh]; rfl))
                have HL := Lib.hid hl
                have HD2 := Lib.hid hd
                have HH := Lib.hid hh
                clear hl hd hh
                go_wp2_with (first | (go_at_call 139; refine (Letter_any _ _).mono ?_; rw [HL.out]; rintro e' w' ⟨rfl, rfl⟩) | (go_at_call 68; refine (Digit_any _ _).mono ?_; rw [HD2.out]; rintro e' w' ⟨rfl, rfl⟩) | (go_at_call 138; refine (has_rX _ _).mono ?_; rw [HH.out]; rintro e' w' ⟨rfl, rfl⟩))
                go_ret
                exact ⟨by rw [XR.out, HF.out, Bool.and_false, Bool.false_and]; rfl, (Below.refl _ w).alloc (Nat.le_refl _) _⟩
              · have HOK := Lib.hid (all_take (p := chB rX) hlt HA.out (by unfold chB; rw [hl, hd, hh]; rfl))
                have HL := Lib.hid hl
                have HD2 := Lib.hid hd
                have HH := Lib.hid hh
                clear hl hd hh
                go_wp2_with (first | (go_at_call 139; refine (Letter_any _ _).mono ?_; rw [HL.out]; rintro e' w' ⟨rfl, rfl⟩) | (go_at_call 68; refine (Digit_any _ _).mono ?_; rw [HD2.out]; rintro e' w' ⟨rfl, rfl⟩) | (go_at_call 138; refine (has_rX _ _).mono ?_; rw [HH.out]; rintro e' w' ⟨rfl, rfl⟩))
                go_round
                case rel => exact ⟨m + 1, by omega, by go_num, HOK.out⟩
                case measure => simp [intOf]; omega
            · have HOK := Lib.hid (all_take (p := chB rX) hlt HA.out (by unfold chB; rw [hl, hd]; rfl))
              have HL := Lib.hid hl
              have HD2 := Lib.hid hd
              clear hl hd
              go_wp2_with (first | (go_at_call 139; refine (Letter_any _ _).mono ?_; rw [HL.out]; rintro e' w' ⟨rfl, rfl⟩) | (go_at_call 68; refine (Digit_any _ _).mono ?_; rw [HD2.out]; rintro e' w' ⟨rfl, rfl⟩))
              go_round
              case rel => exact ⟨m + 1, by omega, by go_num, HOK.out⟩
              case measure => simp [intOf]; omega
          · have HOK := Lib.hid (all_take (p := chB rX) hlt HA.out (by unfold chB; rw [hl]; rfl))
            have HL := Lib.hid hl
            clear hl
            go_wp2_with (go_at_call 139; refine (Letter_any _ _).mono ?_; rw [HL.out]; rintro e' w' ⟨rfl, rfl⟩)
            go_round
            case rel => exact ⟨m + 1, by omega, by go_num, HOK.out⟩
            case measure => simp [intOf]; omega
        · have HALLr := Lib.hid (all_end hlt HA.out)
          clear HA
          go_wp2_with (go_at_call 102; (with_reducible refine (CT.out _).mono ?_); rintro e' w1 ⟨rfl, hb1⟩)
          go_ret
          exact ⟨by rw [XR.out, HALLu.out, HALLr.out, ← HT.out]; show Ending.returned (.bool (decide ((T.size : Int) ≤ 60))) = .returned (.bool (decide (T.size ≤ 60))); rw [decide_eq_decide.2 (show (T.size : Int) ≤ 60 ↔ T.size ≤ 60 by omega)], ((Below.refl _ w).alloc (Nat.le_refl _) _).trans (hb1.mono (by simp))⟩
set_option maxHeartbeats 1000000 in
theorem right_true_true (e : Nat) (u r : ByteArray) (w : World) (he : e ≤ 999999999) (hu : u.toList.isEmpty = false) (hs : 0 < u.size) (hsz : u.size ≤ 65536) (hrz : r.size ≤ 65536) (hd : digB u[0].toNat = true) (h45 : hasB (B u) 45 = true) (hre : r.toList.isEmpty = false) (h58 : hasB (B u) 58 = true) (he0 : ((e : Int) == 0) = false) :
    Calls Tryz.prog 101 #[.agg #[.int .i64 (e : Int), .string u, .string r]] w fun e' w' => e' = .returned (.bool (rightB (e : Int) (B u) (B r))) ∧ Below w.heap.size w w' := by
  have XR := Lib.hid (show rightB e (B u) (B r) = ((B u).all (chB uX) && (B r).all (chB rX) && decide ((textL e (B u) (B r)).length ≤ 60)) by
    unfold rightB
    rw [decide_eq_true (by omega), headD_at u hs, hd]
    rw [h45, decide_eq_false (fun h => by rw [(empty_iff r).2 h] at hre; cases hre)]
    rw [h58, show decide ((e : Int) = 0) = false from decide_eq_false (by intro h; rw [h] at he0; cases he0)]
    simp)
  obtain ⟨T, -, hT, ct⟩ := text_len e u r (by omega) hsz hrz
  have HT := Lib.hid hT
  have CT := Lib.hid ct
  clear hT ct
  have HD := Lib.hid hd
  have C45 := Lib.hid (fun w => has_45 u w (by omega))
  have C58 := Lib.hid (fun w => has_58 u w (by omega))
  rw [h45] at C45
  rw [h58] at C58
  clear hd h45 h58
  go_enter Tryz.func101, Tryz.ntmps101
  go_wp2_with (first | (go_at_call 68; refine (Digit_any _ _).mono ?_; rw [HD.out]; rintro e' w' ⟨rfl, rfl⟩) | (go_at_call 138; (with_reducible refine (C45.out _).mono ?_); rintro e' w' ⟨rfl, rfl⟩) | (go_at_call 138; (with_reducible refine (C58.out _).mono ?_); rintro e' w' ⟨rfl, rfl⟩))
  clear HD C45 C58
  go_loop [3] (fun x => ∃ k : Nat, k ≤ u.size ∧ x = .int .i64 k ∧ ∀ c ∈ (B u).take k, chB uX c = true) (fun x => u.size - (intOf x).toNat)
  case atStart => exact ⟨0, Nat.zero_le _, rfl, by simp⟩
  case round =>
    obtain ⟨k, hk, rfl, hall⟩ := hrel
    have HA := Lib.hid hall
    clear hall
    by_cases hlt : k < u.size
    · have t_u := byte_le u k hlt
      cases hl : letB u[k].toNat
      · cases hd : digB u[k].toNat
        · cases hh : hasB uX u[k].toNat
          · have HF := Lib.hid (all_not (p := chB uX) hlt (by unfold chB; rw [hl, hd, hh]; rfl))
            have HL := Lib.hid hl
            have HD2 := Lib.hid hd
            have HH := Lib.hid hh
            clear hl hd hh
            go_wp2_with (first | (go_at_call 139; refine (Letter_any _ _).mono ?_; rw [HL.out]; rintro e' w' ⟨rfl, rfl⟩) | (go_at_call 68; refine (Digit_any _ _).mono ?_; rw [HD2.out]; rintro e' w' ⟨rfl, rfl⟩) | (go_at_call 138; refine (has_uX _ _).mono ?_; rw [HH.out]; rintro e' w' ⟨rfl, rfl⟩))
            go_ret
            exact ⟨by rw [XR.out, HF.out, Bool.false_and]; rfl, (Below.refl _ w).alloc (Nat.le_refl _) _⟩
          · have HOK := Lib.hid (all_take (p := chB uX) hlt HA.out (by unfold chB; rw [hl, hd, hh]; rfl))
            have HL := Lib.hid hl
            have HD2 := Lib.hid hd
            have HH := Lib.hid hh
            clear hl hd hh
            go_wp2_with (first | (go_at_call 139; refine (Letter_any _ _).mono ?_; rw [HL.out]; rintro e' w' ⟨rfl, rfl⟩) | (go_at_call 68; refine (Digit_any _ _).mono ?_; rw [HD2.out]; rintro e' w' ⟨rfl, rfl⟩) | (go_at_call 138; refine (has_uX _ _).mono ?_; rw [HH.out]; rintro e' w' ⟨rfl, rfl⟩))
            go_round
            case rel => exact ⟨k + 1, by omega, by go_num, HOK.out⟩
            case measure => simp [intOf]; omega
        · have HOK := Lib.hid (all_take (p := chB uX) hlt HA.out (by unfold chB; rw [hl, hd]; rfl))
          have HL := Lib.hid hl
          have HD2 := Lib.hid hd
          clear hl hd
          go_wp2_with (first | (go_at_call 139; refine (Letter_any _ _).mono ?_; rw [HL.out]; rintro e' w' ⟨rfl, rfl⟩) | (go_at_call 68; refine (Digit_any _ _).mono ?_; rw [HD2.out]; rintro e' w' ⟨rfl, rfl⟩))
          go_round
          case rel => exact ⟨k + 1, by omega, by go_num, HOK.out⟩
          case measure => simp [intOf]; omega
      · have HOK := Lib.hid (all_take (p := chB uX) hlt HA.out (by unfold chB; rw [hl]; rfl))
        have HL := Lib.hid hl
        clear hl
        go_wp2_with (go_at_call 139; refine (Letter_any _ _).mono ?_; rw [HL.out]; rintro e' w' ⟨rfl, rfl⟩)
        go_round
        case rel => exact ⟨k + 1, by omega, by go_num, HOK.out⟩
        case measure => simp [intOf]; omega
    · have HALLu := Lib.hid (all_end hlt HA.out)
      clear HA
      go_wp2
      go_loop [5] (fun x => ∃ m : Nat, m ≤ r.size ∧ x = .int .i64 m ∧ ∀ c ∈ (B r).take m, chB rX c = true) (fun x => r.size - (intOf x).toNat)
      case atStart => exact ⟨0, Nat.zero_le _, rfl, by simp⟩
      case round =>
        obtain ⟨m, hm, rfl, hall⟩ := hrel
        have HA := Lib.hid hall
        clear hall
        by_cases hlt : m < r.size
        · have t_u := byte_le r m hlt
          cases hl : letB r[m].toNat
          · cases hd : digB r[m].toNat
            · cases hh : hasB rX r[m].toNat
              · have HF := Lib.hid (all_not (p := chB rX) hlt (by unfold chB; rw [hl, hd, hh]; rfl))
                have HL := Lib.hid hl
                have HD2 := Lib.hid hd
                have HH := Lib.hid hh
                clear hl hd hh
                go_wp2_with (first | (go_at_call 139; refine (Letter_any _ _).mono ?_; rw [HL.out]; rintro e' w' ⟨rfl, rfl⟩) | (go_at_call 68; refine (Digit_any _ _).mono ?_; rw [HD2.out]; rintro e' w' ⟨rfl, rfl⟩) | (go_at_call 138; refine (has_rX _ _).mono ?_; rw [HH.out]; rintro e' w' ⟨rfl, rfl⟩))
                go_ret
                exact ⟨by rw [XR.out, HF.out, Bool.and_false, Bool.false_and]; rfl, (Below.refl _ w).alloc (Nat.le_refl _) _⟩
              · have HOK := Lib.hid (all_take (p := chB rX) hlt HA.out (by unfold chB; rw [hl, hd, hh]; rfl))
                have HL := Lib.hid hl
                have HD2 := Lib.hid hd
                have HH := Lib.hid hh
                clear hl hd hh
                go_wp2_with (first | (go_at_call 139; refine (Letter_any _ _).mono ?_; rw [HL.out]; rintro e' w' ⟨rfl, rfl⟩) | (go_at_call 68; refine (Digit_any _ _).mono ?_; rw [HD2.out]; rintro e' w' ⟨rfl, rfl⟩) | (go_at_call 138; refine (has_rX _ _).mono ?_; rw [HH.out]; rintro e' w' ⟨rfl, rfl⟩))
                go_round
                case rel => exact ⟨m + 1, by omega, by go_num, HOK.out⟩
                case measure => simp [intOf]; omega
            · have HOK := Lib.hid (all_take (p := chB rX) hlt HA.out (by unfold chB; rw [hl, hd]; rfl))
              have HL := Lib.hid hl
              have HD2 := Lib.hid hd
              clear hl hd
              go_wp2_with (first | (go_at_call 139; refine (Letter_any _ _).mono ?_; rw [HL.out]; rintro e' w' ⟨rfl, rfl⟩) | (go_at_call 68; refine (Digit_any _ _).mono ?_; rw [HD2.out]; rintro e' w' ⟨rfl, rfl⟩))
              go_round
              case rel => exact ⟨m + 1, by omega, by go_num, HOK.out⟩
              case measure => simp [intOf]; omega
          · have HOK := Lib.hid (all_take (p := chB rX) hlt HA.out (by unfold chB; rw [hl]; rfl))
            have HL := Lib.hid hl
            clear hl
            go_wp2_with (go_at_call 139; refine (Letter_any _ _).mono ?_; rw [HL.out]; rintro e' w' ⟨rfl, rfl⟩)
            go_round
            case rel => exact ⟨m + 1, by omega, by go_num, HOK.out⟩
            case measure => simp [intOf]; omega
        · have HALLr := Lib.hid (all_end hlt HA.out)
          clear HA
          go_wp2_with (go_at_call 102; (with_reducible refine (CT.out _).mono ?_); rintro e' w1 ⟨rfl, hb1⟩)
          go_ret
          exact ⟨by rw [XR.out, HALLu.out, HALLr.out, ← HT.out]; show Ending.returned (.bool (decide ((T.size : Int) ≤ 60))) = .returned (.bool (decide (T.size ≤ 60))); rw [decide_eq_decide.2 (show (T.size : Int) ≤ 60 ↔ T.size ≤ 60 by omega)], ((Below.refl _ w).alloc (Nat.le_refl _) _).trans (hb1.mono (by simp))⟩
theorem right_any (e : Int) (u r : ByteArray) (w : World) (hsz : u.size ≤ 65536) (hrz : r.size ≤ 65536) :
    Calls Tryz.prog 101 #[.agg #[.int .i64 e, .string u, .string r]] w fun e' w' => e' = .returned (.bool (rightB e (B u) (B r))) ∧ Below w.heap.size w w' := by
  by_cases h0 : 0 ≤ e
  · by_cases h1 : e ≤ 999999999
    · cases hu : u.toList.isEmpty
      · have hs : 0 < u.size := by
          rcases Nat.eq_zero_or_pos u.size with h | h
          · have := (empty_iff u).2 (List.eq_nil_of_length_eq_zero (by rw [B_len]; exact h))
            rw [hu] at this; cases this
          · exact h
        cases hd : digB u[0].toNat
        · exact right_head e u r w h0 h1 hu hs hd
        · obtain ⟨n, rfl⟩ : ∃ n : Nat, e = n := ⟨e.toNat, by omega⟩
          cases h45 : hasB (B u) 45
          · cases h58 : hasB (B u) 58
            · exact right_false_false n u r w (by omega) hu hs hsz hrz hd h45 h58
            · cases he0 : ((n : Int) == 0)
              · exact right_false_true n u r w (by omega) hu hs hsz hrz hd h45 h58 he0
              · have : n = 0 := by rw [beq_iff_eq] at he0; omega
                subst this
                exact right_colon_false u r w hu hs (by omega) hd h45 h58
          · cases hre : r.toList.isEmpty
            · cases h58 : hasB (B u) 58
              · exact right_true_false n u r w (by omega) hu hs hsz hrz hd h45 hre h58
              · cases he0 : ((n : Int) == 0)
                · exact right_true_true n u r w (by omega) hu hs hsz hrz hd h45 hre h58 he0
                · have : n = 0 := by rw [beq_iff_eq] at he0; omega
                  subst this
                  exact right_colon_true u r w hu hs (by omega) hd h45 hre h58
            · exact right_dash n u r w h0 h1 hu hs (by omega) hd h45 hre
      · exact right_empty e u r w h0 h1 hu
    · exact right_big e u r w (by omega)
  · exact right_neg e u r w (by omega)
end Go.Proofs.YtmlakjemgmeffaaGreatDoor
end

section
namespace Go.Proofs.YtmlakjemgmeffaaGreatDoor
open Go.RowKit
def printL (e : Int) (u r : List Nat) : List Nat := if rightB e u r = true then textL e.toNat u r else []
theorem rightB_epoch {e : Int} {u r : List Nat} (h : rightB e u r = true) : 0 ≤ e ∧ e ≤ 999999999 := by
  unfold rightB at h
  simp only [Bool.and_eq_true] at h
  exact of_decide_eq_true h.1.1.1.1.1.1
theorem box_cells {w w1 : World} {T : TypeId} {x y z : Value} (h : Below (w.alloc (.cells #[x, y, z] T)).heap.size (w.alloc (.cells #[x, y, z] T)) w1) :
    w1.cell? ⟨w.heap.size, 0, none⟩ = some x ∧ w1.cell? ⟨w.heap.size, 1, none⟩ = some y ∧ w1.cell? ⟨w.heap.size, 2, none⟩ = some z ∧ w.heap.size + 1 ≤ w1.heap.size := by
  refine ⟨(h.cell (by simp)).trans (by simp), (h.cell (by simp)).trans (by simp), (h.cell (by simp)).trans (by simp), ?_⟩
  have := h.size
  simpa using this
theorem print_any (e : Int) (u r : ByteArray) (w : World) (hu : u.size ≤ 65536) (hr : r.size ≤ 65536) :
    Calls Tryz.prog 70 #[.agg #[.int .i64 e, .string u, .string r]] w fun e' w' => e' = .returned (.string (mk (printL e (B u) (B r)))) ∧ Below w.heap.size w w' := by
  cases hR : rightB e (B u) (B r)
  · have X := Lib.hid (show ByteArray.mk #[] = mk (printL e (B u) (B r)) by unfold printL; rw [hR]; rfl)
    have HR := Lib.hid (fun w => right_any e u r w hu hr)
    rw [hR] at HR
    clear hR
    go_enter Tryz.func70, Tryz.ntmps70
    go_wp2_with (go_at_call 101; refine (HR.out _).mono ?_; rintro e' w1 ⟨rfl, hb1⟩)
    go_ret
    exact ⟨by rw [← X.out]; rfl, ((Below.refl _ w).alloc (Nat.le_refl _) _).trans (hb1.mono (by simp))⟩
  · obtain ⟨h0, h1⟩ := rightB_epoch hR
    obtain ⟨n, rfl⟩ : ∃ n : Nat, e = n := ⟨e.toNat, by omega⟩
    have X := Lib.hid (show mk (textL n (B u) (B r)) = mk (printL n (B u) (B r)) by unfold printL; rw [if_pos hR]; rfl)
    have HR := Lib.hid (fun w => right_any n u r w hu hr)
    have HT := Lib.hid (fun w => text_any n u r w (by omega) hu hr)
    rw [hR] at HR
    rw [X.out] at HT
    clear hR
    generalize mk (printL n (B u) (B r)) = P at HT
    go_enter Tryz.func70, Tryz.ntmps70
    go_wp2_with (first | (go_at_call 101; refine (HR.out _).mono ?_; rintro e' w1 ⟨rfl, hb1⟩; obtain ⟨c0, c1, c2, s1⟩ := box_cells hb1) | (go_at_call 102; refine (HT.out _).mono ?_; rintro e' w2 ⟨rfl, hb2⟩))
    go_ret
    exact ⟨rfl, (((Below.refl _ w).alloc (Nat.le_refl _) _).trans (hb1.mono (by simp))).trans (hb2.mono (by omega))⟩
end Go.Proofs.YtmlakjemgmeffaaGreatDoor
end

section
namespace Go.Proofs.YtmlakjemgmeffaaGreatDoor
open Go.RowKit
def firstI : List Nat → Nat → Option Nat
  | [], _ => none
  | c :: l, n => if c = 58 then some n else firstI l (n + 1)
def lastI (u : List Nat) : Nat → Option Nat
  | 0 => none
  | n + 1 => if u.getD n 0 = 45 then some n else lastI u n
def colE (s : List Nat) : Int := match firstI s 0 with | none => 0 | some i => numL (s.take i)
def colU (s : List Nat) : List Nat := match firstI s 0 with | none => s | some i => s.drop (i + 1)
def dashU (u : List Nat) : List Nat := match lastI u u.length with | none => u | some i => u.take i
def dashR (u : List Nat) : List Nat := match lastI u u.length with | none => [] | some i => u.drop (i + 1)
def parseB (s : List Nat) : Bool :=
  rightB (colE s) (dashU (colU s)) (dashR (colU s)) && (decide (textL (colE s).toNat (dashU (colU s)) (dashR (colU s)) = s) || decide (48 :: 58 :: textL (colE s).toNat (dashU (colU s)) (dashR (colU s)) = s))
def parseE (s : List Nat) : Int := if s.length > 60 then 9 else if parseB s then 0 else 4
def parse1 (s : List Nat) : Int := if parseE s = 0 then colE s else 0
def parse2 (s : List Nat) : List Nat := if parseE s = 0 then dashU (colU s) else []
def parse3 (s : List Nat) : List Nat := if parseE s = 0 then dashR (colU s) else []
theorem firstI_step {s : ByteArray} {k : Nat} (hk : k < s.size) : firstI ((B s).drop k) k = if s[k].toNat = 58 then some k else firstI ((B s).drop (k + 1)) (k + 1) := by
  rw [B_drop s k hk]; rfl
theorem lastI_step {s : ByteArray} {k : Nat} (hk : k < s.size) : lastI (B s) (k + 1) = if s[k].toNat = 45 then some k else lastI (B s) k := by
  show (if (B s).getD k 0 = 45 then some k else lastI (B s) k) = _
  rw [B_getD s k hk]
theorem lastI_lt {u : List Nat} : ∀ {n i : Nat}, lastI u n = some i → i < n
  | 0, _, h => by cases h
  | n + 1, i, h => by
    simp only [lastI] at h
    split at h
    · injection h with h; omega
    · have := lastI_lt h; omega
def parseV (s : ByteArray) : Value := .tuple #[.agg #[.int .i64 (parse1 (B s)), .string (mk (parse2 (B s))), .string (mk (parse3 (B s)))], .int .i64 (parseE (B s))]
theorem parse_bad {s : ByteArray} (h : parseE (B s) ≠ 0) : parseV s = .tuple #[.agg #[.int .i64 0, .string { data := #[] }, .string { data := #[] }], .int .i64 (parseE (B s))] := by
  unfold parseV parse1 parse2 parse3
  rw [if_neg h, if_neg h, if_neg h]; rfl
end Go.Proofs.YtmlakjemgmeffaaGreatDoor
end

section
set_option maxRecDepth 100000
namespace Go.Proofs.YtmlakjemgmeffaaGreatDoor
open Go.RowKit
theorem two_boxes {w w1 : World} {T T' : TypeId} {a b c x y z : Value} (h : Below (w.heap.size + 2) ((w.alloc (.cells #[a, b, c] T)).alloc (.cells #[x, y, z] T')) w1) :
    (w1.cell? ⟨w.heap.size, 0, none⟩ = some a ∧ w1.cell? ⟨w.heap.size, 1, none⟩ = some b ∧ w1.cell? ⟨w.heap.size, 2, none⟩ = some c) ∧
    (w1.frozen? ⟨w.heap.size, 0, none⟩ = false ∧ w1.frozen? ⟨w.heap.size, 1, none⟩ = false ∧ w1.frozen? ⟨w.heap.size, 2, none⟩ = false) ∧
    (w1.cell? ⟨w.heap.size + 1, 0, none⟩ = some x ∧ w1.cell? ⟨w.heap.size + 1, 1, none⟩ = some y ∧ w1.cell? ⟨w.heap.size + 1, 2, none⟩ = some z) ∧ w.heap.size + 2 ≤ w1.heap.size ∧ Below w.heap.size w w1 := by
  refine ⟨⟨(h.cell (by simp)).trans (by simp [go_sem]), (h.cell (by simp)).trans (by simp [go_sem]), (h.cell (by simp)).trans (by simp [go_sem])⟩, ⟨(h.frozen (by simp)).trans (by simp [go_sem]), (h.frozen (by simp)).trans (by simp [go_sem]), (h.frozen (by simp)).trans (by simp [go_sem])⟩, ⟨(h.cell (by simp)).trans (by simp [go_sem]), (h.cell (by simp)).trans (by simp [go_sem]), (h.cell (by simp)).trans (by simp [go_sem])⟩, ?_, (((Below.refl _ w).alloc (Nat.le_refl _) _).alloc (by simp) _).trans (h.mono (by omega))⟩
  have := h.size
  simpa using this
theorem fin3 {w W : World} {a b c x y z : Value} (hb : Below w.heap.size w W) (h0 : W.cell? ⟨w.heap.size, 0, none⟩ = some a) (h1 : W.cell? ⟨w.heap.size, 1, none⟩ = some b) (h2 : W.cell? ⟨w.heap.size, 2, none⟩ = some c) :
    (((W.setCell ⟨w.heap.size, 0, none⟩ x).setCell ⟨w.heap.size, 1, none⟩ y).setCell ⟨w.heap.size, 2, none⟩ z).cell? ⟨w.heap.size, 0, none⟩ = some x ∧
    (((W.setCell ⟨w.heap.size, 0, none⟩ x).setCell ⟨w.heap.size, 1, none⟩ y).setCell ⟨w.heap.size, 2, none⟩ z).cell? ⟨w.heap.size, 1, none⟩ = some y ∧
    (((W.setCell ⟨w.heap.size, 0, none⟩ x).setCell ⟨w.heap.size, 1, none⟩ y).setCell ⟨w.heap.size, 2, none⟩ z).cell? ⟨w.heap.size, 2, none⟩ = some z ∧
    Below w.heap.size w (((W.setCell ⟨w.heap.size, 0, none⟩ x).setCell ⟨w.heap.size, 1, none⟩ y).setCell ⟨w.heap.size, 2, none⟩ z) :=
  ⟨by simp [go_sem, h0], by simp [go_sem, h1], by simp [go_sem, h2], ((hb.setCell (by simp) _).setCell (by simp) _).setCell (by simp) _⟩
theorem parseE_of {s : ByteArray} (h : s.size ≤ 60) : parseE (B s) = if parseB (B s) then 0 else 4 := by unfold parseE; rw [if_neg (by rw [B_len]; omega)]
theorem textL_lt (e : Nat) (u r : ByteArray) : ∀ c ∈ textL e (B u) (B r), c < 256 := by
  intro c hc
  unfold textL at hc
  rcases List.mem_append.1 hc with hc | hc
  · rcases List.mem_append.1 hc with hc | hc
    · split at hc
      · cases hc
      · rcases List.mem_append.1 hc with hc | hc
        · exact decL_lt e c hc
        · rw [List.mem_singleton.1 hc]; decide
    · exact B_lt u c hc
  · split at hc
    · cases hc
    · rcases List.mem_cons.1 hc with rfl | hc
      · decide
      · exact B_lt r c hc
theorem rightB_size {e : Int} {u r : List Nat} (h : rightB e u r = true) : (textL e.toNat u r).length ≤ 60 := by
  unfold rightB at h
  simp only [Bool.and_eq_true] at h
  exact of_decide_eq_true h.2
theorem text_int (e : Int) (u r : ByteArray) (w : World) (h0 : 0 ≤ e) (h1 : e ≤ 999999999) (hu : u.size ≤ 65536) (hr : r.size ≤ 65536) :
    Calls Tryz.prog 102 #[.agg #[.int .i64 e, .string u, .string r]] w fun e' w' => e' = .returned (.string (mk (textL e.toNat (B u) (B r)))) ∧ Below w.heap.size w w' := by
  have := text_any e.toNat u r w (by omega) hu hr
  rw [Int.toNat_of_nonneg h0] at this
  exact this
theorem parse_good {s U R : ByteArray} {E : Int} (h : s.size ≤ 60) (hE : E = colE (B s)) (hU : B U = dashU (colU (B s))) (hR : B R = dashR (colU (B s))) (hp : parseB (B s) = true) : parseV s = .tuple #[.agg #[.int .i64 E, .string U, .string R], .int .i64 0] := by
  have h0 : parseE (B s) = 0 := by rw [parseE_of h, hp]; rfl
  unfold parseV parse1 parse2 parse3
  rw [if_pos h0, if_pos h0, if_pos h0, ← hE, ← hU, ← hR, mk_B, mk_B, h0]
theorem parse_wrong {s : ByteArray} (h : s.size ≤ 60) (hp : parseB (B s) = false) : parseV s = .tuple #[.agg #[.int .i64 0, .string { data := #[] }, .string { data := #[] }], .int .i64 4] := by
  have h0 : parseE (B s) = 4 := by rw [parseE_of h, hp]; rfl
  rw [parse_bad (by rw [h0]; decide), h0]
theorem zero_text (e : Nat) (u r s : ByteArray) : ((ByteArray.mk #[48, 58] ++ mk (textL e (B u) (B r))).toList == s.toList) = decide (48 :: 58 :: textL e (B u) (B r) = B s) := by
  have h1 : ByteArray.mk #[48, 58] ++ mk (textL e (B u) (B r)) = mk (48 :: 58 :: textL e (B u) (B r)) := by
    refine eq_mk ?_
    rw [B_append, B_mk (textL_lt e u r)]; rfl
  rw [h1, strEq]
  intro c hc
  rcases List.mem_cons.1 hc with rfl | hc
  · decide
  · rcases List.mem_cons.1 hc with rfl | hc
    · decide
    · exact textL_lt e u r c hc
theorem parse_long (s : ByteArray) (w : World) (hs : 60 < s.size) :
    Calls Tryz.prog 69 #[.string s] w fun e' w' => e' = .returned (parseV s) ∧ Below w.heap.size w w' := by
  have h9 : parseE (B s) = 9 := by unfold parseE; rw [if_pos (by rw [B_len]; exact hs)]
  have X := Lib.hid (parse_bad (s := s) (by rw [h9]; decide))
  have H9 := Lib.hid h9
  clear h9
  have hs2 : (60 : Int) < (s.size : Int) := by omega
  go_enter Tryz.func69, Tryz.ntmps69
  go_wp2
  exact bodyPost_ret (v := .tuple #[.agg #[.int .i64 0, .string { data := #[] }, .string { data := #[] }], .int .i64 9]) (by simp [results, Tryz.results69, go_sem]) rfl ⟨by rw [X.out, H9.out], (Below.refl _ w).alloc (Nat.le_refl _) _⟩
set_option maxHeartbeats 1000000 in
theorem parse_short (s : ByteArray) (w : World) (hs : s.size ≤ 60) :
    Calls Tryz.prog 69 #[.string s] w fun e' w' => e' = .returned (parseV s) ∧ Below w.heap.size w w' := by
  have hs2 : ¬ (60 : Int) < (s.size : Int) := by omega
  go_enter Tryz.func69, Tryz.ntmps69
  go_wp2
  clear hs2
  go_loop [5] (fun x => ∃ k : Nat, k ≤ s.size ∧ x = .int .i64 k ∧ firstI (B s) 0 = firstI ((B s).drop k) k) (fun x => s.size - (intOf x).toNat)
  case atStart => exact ⟨0, Nat.zero_le _, rfl, rfl⟩
  case round =>
    obtain ⟨k, hk, rfl, hf⟩ := hrel
    have HF := Lib.hid hf
    clear hf
    by_cases hlt : k < s.size
    · have STEP := Lib.hid (firstI_step hlt)
      by_cases hc : s[k].toNat = 58
      · have t1 : ((s[k].toNat : Int) == 58) = true := by rw [beq_iff_eq]; omega
        have hfi : firstI (B s) 0 = some k := by rw [HF.out, STEP.out, if_pos hc]
        have XE := Lib.hid (show numL (B (s.extract 0 k)) = colE (B s) by unfold colE; rw [hfi, B_extract]; simp)
        have XC := Lib.hid (show B (s.extract (k + 1) s.size) = colU (B s) by unfold colU; rw [hfi, B_extract, List.take_of_length_le (by rw [List.length_drop, B_len]; omega)])
        have hz : (s.extract (k + 1) s.size).size = s.size - (k + 1) := by rw [ByteArray.size_extract]; omega
        have hn : (s.extract 0 k).size ≤ 9223372036854775807 := by rw [ByteArray.size_extract]; omega
        have CN := Lib.hid (fun w => number_any (s.extract 0 k) w hn)
        clear hc hfi hn
        go_wp2_with fail
        refine (CN.out _).mono ?_
        rintro e' w' ⟨rfl, rfl⟩
        clear CN
        generalize numL (B (s.extract 0 k)) = E at *
        go_wp2
        generalize s.extract (k + 1) s.size = U at *
        have HZ := Lib.hid hz
        have hz2 : U.size ≤ 60 := by omega
        clear hz
        go_loop [6] (fun x => ∃ (m : Nat) (i : Int), m ≤ U.size ∧ i = (m : Int) - 1 ∧ x = .int .i64 i ∧ lastI (B U) U.size = lastI (B U) m) (fun x => (intOf x + 1).toNat)
        case atStart => exact ⟨U.size, _, Nat.le_refl _, rfl, congrArg (Value.int .i64) (by have := HZ.out; omega), rfl⟩
        case round =>
          obtain ⟨m, i, hm, hi, rfl, hl⟩ := hrel
          have HL := Lib.hid hl
          clear hl
          rcases m with _ | p
          · obtain rfl : i = -1 := by omega
            clear hi
            have XU := Lib.hid (show B U = dashU (colU (B s)) by rw [← XC.out]; unfold dashU; rw [B_len, HL.out]; rfl)
            have XR := Lib.hid (show B { data := #[] } = dashR (colU (B s)) by rw [← XC.out]; unfold dashR; rw [B_len, HL.out]; rfl)
            have z2 : (ByteArray.mk #[]).size ≤ 60 := by decide
            go_wp2_with fail
            have hPB : parseB (B s) = (rightB E (B U) (B { data := #[] }) && (decide (textL (E : Int).toNat (B U) (B { data := #[] }) = B s) || decide (48 :: 58 :: textL (E : Int).toNat (B U) (B { data := #[] }) = B s))) := by unfold parseB; rw [← XE.out, ← XU.out, ← XR.out]
            have HPB := Lib.hid hPB
            clear hPB
            refine (right_any E U { data := #[] } _ (by omega) (by omega)).mono ?_
            rintro e' w1 ⟨rfl, hb1⟩
            replace hb1 := hb1.mono (show w.heap.size + 2 ≤ _ by simp)
            cases hB : rightB E (B U) (B { data := #[] })
            · have XV := Lib.hid (parse_wrong hs (by rw [HPB.out, hB]; rfl))
              have tb := two_boxes hb1
              obtain ⟨⟨c0, c1, c2⟩, ⟨g0, g1, g2⟩, ⟨e0, e1, e2⟩, s1, b1⟩ := tb
              clear hB
              go_wp2
              obtain ⟨d0, d1, d2, bV⟩ := fin3 (x := .int .i64 0) (y := .string { data := #[] }) (z := .string { data := #[] }) b1 c0 c1 c2
              exact bodyPost_ret (v := .tuple #[.agg #[.int .i64 0, .string { data := #[] }, .string { data := #[] }], .int .i64 4]) (by simp [results, Tryz.results69, go_sem, d0, d1, d2]) rfl ⟨by rw [XV.out], bV⟩
            · obtain ⟨q0, q1⟩ := rightB_epoch hB
              have hsz := rightB_size hB
              have CT0 := Lib.hid (fun w => text_int E U { data := #[] } w q0 q1 (by omega) (by omega))
              have hst0 := strEq (textL (E : Int).toNat (B U) (B { data := #[] })) s (textL_lt _ _ _)
              have hzt0 := zero_text (E : Int).toNat U { data := #[] } s
              obtain ⟨T, hT⟩ : ∃ T : ByteArray, T = mk (textL (E : Int).toNat (B U) (B { data := #[] })) := ⟨_, rfl⟩
              have hTs : T.size ≤ 60 := by rw [hT, size_mk]; exact hsz
              rw [← hT] at CT0 hst0 hzt0
              have CT := Lib.hid CT0.out
              clear CT0 hT hsz q0 q1
              have tb := two_boxes hb1
              obtain ⟨⟨c0, c1, c2⟩, ⟨g0, g1, g2⟩, ⟨e0, e1, e2⟩, s1, b1⟩ := tb
              by_cases q1 : textL (E : Int).toNat (B U) (B { data := #[] }) = B s
              · have XV := Lib.hid (parse_good hs XE.out XU.out XR.out (by rw [HPB.out, hB, decide_eq_true q1]; rfl))
                rw [decide_eq_true q1] at hst0
                clear hB hzt0 q1
                go_wp2_with fail
                refine (CT.out _).mono ?_
                rintro e' w2 ⟨rfl, hb2⟩
                replace hb2 := hb1.trans (hb2.mono s1)
                clear c0 c1 c2 g0 g1 g2 e0 e1 e2 s1 b1
                have tb := two_boxes hb2
                obtain ⟨⟨c0, c1, c2⟩, ⟨g0, g1, g2⟩, ⟨e0, e1, e2⟩, s1, b1⟩ := tb
                go_wp2
                obtain ⟨d0, d1, d2, bV⟩ := fin3 (x := .int .i64 E) (y := .string U) (z := .string { data := #[] }) b1 c0 c1 c2
                exact bodyPost_ret (v := .tuple #[.agg #[.int .i64 E, .string U, .string { data := #[] }], .int .i64 0]) (by simp [results, Tryz.results69, go_sem, d0, d1, d2]) rfl ⟨by rw [XV.out], bV⟩
              · rw [decide_eq_false q1] at hst0
                by_cases q2 : 48 :: 58 :: textL (E : Int).toNat (B U) (B { data := #[] }) = B s
                · have XV := Lib.hid (parse_good hs XE.out XU.out XR.out (by rw [HPB.out, hB, decide_eq_true q2]; simp))
                  rw [decide_eq_true q2] at hzt0
                  clear hB q1 q2
                  go_wp2_with fail
                  refine (CT.out _).mono ?_
                  rintro e' w2 ⟨rfl, hb2⟩
                  replace hb2 := hb1.trans (hb2.mono s1)
                  clear c0 c1 c2 g0 g1 g2 e0 e1 e2 s1 b1
                  have tb := two_boxes hb2
                  obtain ⟨⟨c0, c1, c2⟩, ⟨g0, g1, g2⟩, ⟨e0, e1, e2⟩, s1, b1⟩ := tb
                  go_wp2_with fail
                  refine (CT.out _).mono ?_
                  rintro e' w3 ⟨rfl, hb3⟩
                  replace hb3 := hb2.trans (hb3.mono s1)
                  clear c0 c1 c2 g0 g1 g2 e0 e1 e2 s1 b1
                  have tb := two_boxes hb3
                  obtain ⟨⟨c0, c1, c2⟩, ⟨g0, g1, g2⟩, ⟨e0, e1, e2⟩, s1, b1⟩ := tb
                  go_wp2
                  obtain ⟨d0, d1, d2, bV⟩ := fin3 (x := .int .i64 E) (y := .string U) (z := .string { data := #[] }) b1 c0 c1 c2
                  exact bodyPost_ret (v := .tuple #[.agg #[.int .i64 E, .string U, .string { data := #[] }], .int .i64 0]) (by simp [results, Tryz.results69, go_sem, d0, d1, d2]) rfl ⟨by rw [XV.out], bV⟩
                · have XV := Lib.hid (parse_wrong hs (by rw [HPB.out, hB, decide_eq_false q1, decide_eq_false q2]; rfl))
                  rw [decide_eq_false q2] at hzt0
                  clear hB q1 q2
                  go_wp2_with fail
                  refine (CT.out _).mono ?_
                  rintro e' w2 ⟨rfl, hb2⟩
                  replace hb2 := hb1.trans (hb2.mono s1)
                  clear c0 c1 c2 g0 g1 g2 e0 e1 e2 s1 b1
                  have tb := two_boxes hb2
                  obtain ⟨⟨c0, c1, c2⟩, ⟨g0, g1, g2⟩, ⟨e0, e1, e2⟩, s1, b1⟩ := tb
                  go_wp2_with fail
                  refine (CT.out _).mono ?_
                  rintro e' w3 ⟨rfl, hb3⟩
                  replace hb3 := hb2.trans (hb3.mono s1)
                  clear c0 c1 c2 g0 g1 g2 e0 e1 e2 s1 b1
                  have tb := two_boxes hb3
                  obtain ⟨⟨c0, c1, c2⟩, ⟨g0, g1, g2⟩, ⟨e0, e1, e2⟩, s1, b1⟩ := tb
                  go_wp2
                  obtain ⟨d0, d1, d2, bV⟩ := fin3 (x := .int .i64 0) (y := .string { data := #[] }) (z := .string { data := #[] }) b1 c0 c1 c2
                  exact bodyPost_ret (v := .tuple #[.agg #[.int .i64 0, .string { data := #[] }, .string { data := #[] }], .int .i64 4]) (by simp [results, Tryz.results69, go_sem, d0, d1, d2]) rfl ⟨by rw [XV.out], bV⟩
          · obtain rfl : i = (p : Int) := by omega
            clear hi
            have hp : p < U.size := by omega
            have STEP := Lib.hid (lastI_step (s := U) hp)
            by_cases hd : U[p].toNat = 45
            · have t1 : ((U[p].toNat : Int) == 45) = true := by rw [beq_iff_eq]; omega
              have XU := Lib.hid (show B (U.extract 0 p) = dashU (colU (B s)) by rw [← XC.out, B_extract]; unfold dashU; rw [B_len, HL.out, STEP.out, if_pos hd]; simp)
              have XR := Lib.hid (show B (U.extract (p + 1) U.size) = dashR (colU (B s)) by rw [← XC.out, B_extract]; unfold dashR; rw [B_len, HL.out, STEP.out, if_pos hd, List.take_of_length_le (by rw [List.length_drop, B_len]; omega)])
              have z1 : (U.extract 0 p).size ≤ 60 := by rw [ByteArray.size_extract]; omega
              have z2 : (U.extract (p + 1) U.size).size ≤ 60 := by rw [ByteArray.size_extract]; omega
              clear hd
              go_wp2_with fail
              generalize U.extract 0 p = U1 at *
              generalize U.extract (p + 1) U.size = R1 at *
              have hPB : parseB (B s) = (rightB E (B U1) (B R1) && (decide (textL (E : Int).toNat (B U1) (B R1) = B s) || decide (48 :: 58 :: textL (E : Int).toNat (B U1) (B R1) = B s))) := by unfold parseB; rw [← XE.out, ← XU.out, ← XR.out]
              have HPB := Lib.hid hPB
              clear hPB
              refine (right_any E U1 R1 _ (by omega) (by omega)).mono ?_
              rintro e' w1 ⟨rfl, hb1⟩
              replace hb1 := hb1.mono (show w.heap.size + 2 ≤ _ by simp)
              cases hB : rightB E (B U1) (B R1)
              · have XV := Lib.hid (parse_wrong hs (by rw [HPB.out, hB]; rfl))
                have tb := two_boxes hb1
                obtain ⟨⟨c0, c1, c2⟩, ⟨g0, g1, g2⟩, ⟨e0, e1, e2⟩, s1, b1⟩ := tb
                clear hB
                go_wp2
                obtain ⟨d0, d1, d2, bV⟩ := fin3 (x := .int .i64 0) (y := .string { data := #[] }) (z := .string { data := #[] }) b1 c0 c1 c2
                exact bodyPost_ret (v := .tuple #[.agg #[.int .i64 0, .string { data := #[] }, .string { data := #[] }], .int .i64 4]) (by simp [results, Tryz.results69, go_sem, d0, d1, d2]) rfl ⟨by rw [XV.out], bV⟩
              · obtain ⟨q0, q1⟩ := rightB_epoch hB
                have hsz := rightB_size hB
                have CT0 := Lib.hid (fun w => text_int E U1 R1 w q0 q1 (by omega) (by omega))
                have hst0 := strEq (textL (E : Int).toNat (B U1) (B R1)) s (textL_lt _ _ _)
                have hzt0 := zero_text (E : Int).toNat U1 R1 s
                obtain ⟨T, hT⟩ : ∃ T : ByteArray, T = mk (textL (E : Int).toNat (B U1) (B R1)) := ⟨_, rfl⟩
                have hTs : T.size ≤ 60 := by rw [hT, size_mk]; exact hsz
                rw [← hT] at CT0 hst0 hzt0
                have CT := Lib.hid CT0.out
                clear CT0 hT hsz q0 q1
                have tb := two_boxes hb1
                obtain ⟨⟨c0, c1, c2⟩, ⟨g0, g1, g2⟩, ⟨e0, e1, e2⟩, s1, b1⟩ := tb
                by_cases q1 : textL (E : Int).toNat (B U1) (B R1) = B s
                · have XV := Lib.hid (parse_good hs XE.out XU.out XR.out (by rw [HPB.out, hB, decide_eq_true q1]; rfl))
                  rw [decide_eq_true q1] at hst0
                  clear hB hzt0 q1
                  go_wp2_with fail
                  refine (CT.out _).mono ?_
                  rintro e' w2 ⟨rfl, hb2⟩
                  replace hb2 := hb1.trans (hb2.mono s1)
                  clear c0 c1 c2 g0 g1 g2 e0 e1 e2 s1 b1
                  have tb := two_boxes hb2
                  obtain ⟨⟨c0, c1, c2⟩, ⟨g0, g1, g2⟩, ⟨e0, e1, e2⟩, s1, b1⟩ := tb
                  go_wp2
                  obtain ⟨d0, d1, d2, bV⟩ := fin3 (x := .int .i64 E) (y := .string U1) (z := .string R1) b1 c0 c1 c2
                  exact bodyPost_ret (v := .tuple #[.agg #[.int .i64 E, .string U1, .string R1], .int .i64 0]) (by simp [results, Tryz.results69, go_sem, d0, d1, d2]) rfl ⟨by rw [XV.out], bV⟩
                · rw [decide_eq_false q1] at hst0
                  by_cases q2 : 48 :: 58 :: textL (E : Int).toNat (B U1) (B R1) = B s
                  · have XV := Lib.hid (parse_good hs XE.out XU.out XR.out (by rw [HPB.out, hB, decide_eq_true q2]; simp))
                    rw [decide_eq_true q2] at hzt0
                    clear hB q1 q2
                    go_wp2_with fail
                    refine (CT.out _).mono ?_
                    rintro e' w2 ⟨rfl, hb2⟩
                    replace hb2 := hb1.trans (hb2.mono s1)
                    clear c0 c1 c2 g0 g1 g2 e0 e1 e2 s1 b1
                    have tb := two_boxes hb2
                    obtain ⟨⟨c0, c1, c2⟩, ⟨g0, g1, g2⟩, ⟨e0, e1, e2⟩, s1, b1⟩ := tb
                    go_wp2_with fail
                    refine (CT.out _).mono ?_
                    rintro e' w3 ⟨rfl, hb3⟩
                    replace hb3 := hb2.trans (hb3.mono s1)
                    clear c0 c1 c2 g0 g1 g2 e0 e1 e2 s1 b1
                    have tb := two_boxes hb3
                    obtain ⟨⟨c0, c1, c2⟩, ⟨g0, g1, g2⟩, ⟨e0, e1, e2⟩, s1, b1⟩ := tb
                    go_wp2
                    obtain ⟨d0, d1, d2, bV⟩ := fin3 (x := .int .i64 E) (y := .string U1) (z := .string R1) b1 c0 c1 c2
                    exact bodyPost_ret (v := .tuple #[.agg #[.int .i64 E, .string U1, .string R1], .int .i64 0]) (by simp [results, Tryz.results69, go_sem, d0, d1, d2]) rfl ⟨by rw [XV.out], bV⟩
                  · have XV := Lib.hid (parse_wrong hs (by rw [HPB.out, hB, decide_eq_false q1, decide_eq_false q2]; rfl))
                    rw [decide_eq_false q2] at hzt0
                    clear hB q1 q2
                    go_wp2_with fail
                    refine (CT.out _).mono ?_
                    rintro e' w2 ⟨rfl, hb2⟩
                    replace hb2 := hb1.trans (hb2.mono s1)
                    clear c0 c1 c2 g0 g1 g2 e0 e1 e2 s1 b1
                    have tb := two_boxes hb2
                    obtain ⟨⟨c0, c1, c2⟩, ⟨g0, g1, g2⟩, ⟨e0, e1, e2⟩, s1, b1⟩ := tb
                    go_wp2_with fail
                    refine (CT.out _).mono ?_
                    rintro e' w3 ⟨rfl, hb3⟩
                    replace hb3 := hb2.trans (hb3.mono s1)
                    clear c0 c1 c2 g0 g1 g2 e0 e1 e2 s1 b1
                    have tb := two_boxes hb3
                    obtain ⟨⟨c0, c1, c2⟩, ⟨g0, g1, g2⟩, ⟨e0, e1, e2⟩, s1, b1⟩ := tb
                    go_wp2
                    obtain ⟨d0, d1, d2, bV⟩ := fin3 (x := .int .i64 0) (y := .string { data := #[] }) (z := .string { data := #[] }) b1 c0 c1 c2
                    exact bodyPost_ret (v := .tuple #[.agg #[.int .i64 0, .string { data := #[] }, .string { data := #[] }], .int .i64 4]) (by simp [results, Tryz.results69, go_sem, d0, d1, d2]) rfl ⟨by rw [XV.out], bV⟩
            · have t1 : ((U[p].toNat : Int) == 45) = false := by rw [beq_eq_false_iff_ne]; omega
              have HL2 := Lib.hid (show lastI (B U) U.size = lastI (B U) p by rw [HL.out, STEP.out, if_neg hd])
              clear hd
              go_wp2
              go_round
              case rel => exact ⟨p, (p : Int) - 1, by omega, rfl, by go_num, HL2.out⟩
              case measure => simp [intOf]
      · have t1 : ((s[k].toNat : Int) == 58) = false := by rw [beq_eq_false_iff_ne]; omega
        have HF2 := Lib.hid (show firstI (B s) 0 = firstI ((B s).drop (k + 1)) (k + 1) by rw [HF.out, STEP.out, if_neg hc])
        clear hc
        go_wp2
        go_round
        case rel => exact ⟨k + 1, by omega, by go_num, HF2.out⟩
        case measure => simp [intOf]; omega
    · have hfi : firstI (B s) 0 = none := by rw [HF.out, B_drop_end s k (by omega)]; rfl
      have XE := Lib.hid (show (0 : Int) = colE (B s) by unfold colE; rw [hfi])
      have XC := Lib.hid (show B s = colU (B s) by unfold colU; rw [hfi])
      clear hfi
      go_wp2
      go_loop [6] (fun x => ∃ (m : Nat) (i : Int), m ≤ s.size ∧ i = (m : Int) - 1 ∧ x = .int .i64 i ∧ lastI (B s) s.size = lastI (B s) m) (fun x => (intOf x + 1).toNat)
      case atStart => exact ⟨s.size, _, Nat.le_refl _, rfl, congrArg (Value.int .i64) (by omega), rfl⟩
      case round =>
        obtain ⟨m, i, hm, hi, rfl, hl⟩ := hrel
        have HL := Lib.hid hl
        clear hl
        rcases m with _ | p
        · obtain rfl : i = -1 := by omega
          clear hi
          have XU := Lib.hid (show B s = dashU (colU (B s)) by rw [← XC.out]; unfold dashU; rw [B_len, HL.out]; rfl)
          have XR := Lib.hid (show B { data := #[] } = dashR (colU (B s)) by rw [← XC.out]; unfold dashR; rw [B_len, HL.out]; rfl)
          have z2 : (ByteArray.mk #[]).size ≤ 60 := by decide
          go_wp2_with fail
          have hPB : parseB (B s) = (rightB 0 (B s) (B { data := #[] }) && (decide (textL (0 : Int).toNat (B s) (B { data := #[] }) = B s) || decide (48 :: 58 :: textL (0 : Int).toNat (B s) (B { data := #[] }) = B s))) := by unfold parseB; rw [← XE.out, ← XU.out, ← XR.out]
          have HPB := Lib.hid hPB
          clear hPB
          refine (right_any 0 s { data := #[] } _ (by omega) (by omega)).mono ?_
          rintro e' w1 ⟨rfl, hb1⟩
          replace hb1 := hb1.mono (show w.heap.size + 2 ≤ _ by simp)
          cases hB : rightB 0 (B s) (B { data := #[] })
          · have XV := Lib.hid (parse_wrong hs (by rw [HPB.out, hB]; rfl))
            have tb := two_boxes hb1
            obtain ⟨⟨c0, c1, c2⟩, ⟨g0, g1, g2⟩, ⟨e0, e1, e2⟩, s1, b1⟩ := tb
            clear hB
            go_wp2
            obtain ⟨d0, d1, d2, bV⟩ := fin3 (x := .int .i64 0) (y := .string { data := #[] }) (z := .string { data := #[] }) b1 c0 c1 c2
            exact bodyPost_ret (v := .tuple #[.agg #[.int .i64 0, .string { data := #[] }, .string { data := #[] }], .int .i64 4]) (by simp [results, Tryz.results69, go_sem, d0, d1, d2]) rfl ⟨by rw [XV.out], bV⟩
          · obtain ⟨q0, q1⟩ := rightB_epoch hB
            have hsz := rightB_size hB
            have CT0 := Lib.hid (fun w => text_int 0 s { data := #[] } w q0 q1 (by omega) (by omega))
            have hst0 := strEq (textL (0 : Int).toNat (B s) (B { data := #[] })) s (textL_lt _ _ _)
            have hzt0 := zero_text (0 : Int).toNat s { data := #[] } s
            obtain ⟨T, hT⟩ : ∃ T : ByteArray, T = mk (textL (0 : Int).toNat (B s) (B { data := #[] })) := ⟨_, rfl⟩
            have hTs : T.size ≤ 60 := by rw [hT, size_mk]; exact hsz
            rw [← hT] at CT0 hst0 hzt0
            have CT := Lib.hid CT0.out
            clear CT0 hT hsz q0 q1
            have tb := two_boxes hb1
            obtain ⟨⟨c0, c1, c2⟩, ⟨g0, g1, g2⟩, ⟨e0, e1, e2⟩, s1, b1⟩ := tb
            by_cases q1 : textL (0 : Int).toNat (B s) (B { data := #[] }) = B s
            · have XV := Lib.hid (parse_good hs XE.out XU.out XR.out (by rw [HPB.out, hB, decide_eq_true q1]; rfl))
              rw [decide_eq_true q1] at hst0
              clear hB hzt0 q1
              go_wp2_with fail
              refine (CT.out _).mono ?_
              rintro e' w2 ⟨rfl, hb2⟩
              replace hb2 := hb1.trans (hb2.mono s1)
              clear c0 c1 c2 g0 g1 g2 e0 e1 e2 s1 b1
              have tb := two_boxes hb2
              obtain ⟨⟨c0, c1, c2⟩, ⟨g0, g1, g2⟩, ⟨e0, e1, e2⟩, s1, b1⟩ := tb
              go_wp2
              obtain ⟨d0, d1, d2, bV⟩ := fin3 (x := .int .i64 0) (y := .string s) (z := .string { data := #[] }) b1 c0 c1 c2
              exact bodyPost_ret (v := .tuple #[.agg #[.int .i64 0, .string s, .string { data := #[] }], .int .i64 0]) (by simp [results, Tryz.results69, go_sem, d0, d1, d2]) rfl ⟨by rw [XV.out], bV⟩
            · rw [decide_eq_false q1] at hst0
              by_cases q2 : 48 :: 58 :: textL (0 : Int).toNat (B s) (B { data := #[] }) = B s
              · have XV := Lib.hid (parse_good hs XE.out XU.out XR.out (by rw [HPB.out, hB, decide_eq_true q2]; simp))
                rw [decide_eq_true q2] at hzt0
                clear hB q1 q2
                go_wp2_with fail
                refine (CT.out _).mono ?_
                rintro e' w2 ⟨rfl, hb2⟩
                replace hb2 := hb1.trans (hb2.mono s1)
                clear c0 c1 c2 g0 g1 g2 e0 e1 e2 s1 b1
                have tb := two_boxes hb2
                obtain ⟨⟨c0, c1, c2⟩, ⟨g0, g1, g2⟩, ⟨e0, e1, e2⟩, s1, b1⟩ := tb
                go_wp2_with fail
                refine (CT.out _).mono ?_
                rintro e' w3 ⟨rfl, hb3⟩
                replace hb3 := hb2.trans (hb3.mono s1)
                clear c0 c1 c2 g0 g1 g2 e0 e1 e2 s1 b1
                have tb := two_boxes hb3
                obtain ⟨⟨c0, c1, c2⟩, ⟨g0, g1, g2⟩, ⟨e0, e1, e2⟩, s1, b1⟩ := tb
                go_wp2
                obtain ⟨d0, d1, d2, bV⟩ := fin3 (x := .int .i64 0) (y := .string s) (z := .string { data := #[] }) b1 c0 c1 c2
                exact bodyPost_ret (v := .tuple #[.agg #[.int .i64 0, .string s, .string { data := #[] }], .int .i64 0]) (by simp [results, Tryz.results69, go_sem, d0, d1, d2]) rfl ⟨by rw [XV.out], bV⟩
              · have XV := Lib.hid (parse_wrong hs (by rw [HPB.out, hB, decide_eq_false q1, decide_eq_false q2]; rfl))
                rw [decide_eq_false q2] at hzt0
                clear hB q1 q2
                go_wp2_with fail
                refine (CT.out _).mono ?_
                rintro e' w2 ⟨rfl, hb2⟩
                replace hb2 := hb1.trans (hb2.mono s1)
                clear c0 c1 c2 g0 g1 g2 e0 e1 e2 s1 b1
                have tb := two_boxes hb2
                obtain ⟨⟨c0, c1, c2⟩, ⟨g0, g1, g2⟩, ⟨e0, e1, e2⟩, s1, b1⟩ := tb
                go_wp2_with fail
                refine (CT.out _).mono ?_
                rintro e' w3 ⟨rfl, hb3⟩
                replace hb3 := hb2.trans (hb3.mono s1)
                clear c0 c1 c2 g0 g1 g2 e0 e1 e2 s1 b1
                have tb := two_boxes hb3
                obtain ⟨⟨c0, c1, c2⟩, ⟨g0, g1, g2⟩, ⟨e0, e1, e2⟩, s1, b1⟩ := tb
                go_wp2
                obtain ⟨d0, d1, d2, bV⟩ := fin3 (x := .int .i64 0) (y := .string { data := #[] }) (z := .string { data := #[] }) b1 c0 c1 c2
                exact bodyPost_ret (v := .tuple #[.agg #[.int .i64 0, .string { data := #[] }, .string { data := #[] }], .int .i64 4]) (by simp [results, Tryz.results69, go_sem, d0, d1, d2]) rfl ⟨by rw [XV.out], bV⟩
        · obtain rfl : i = (p : Int) := by omega
          clear hi
          have hp : p < s.size := by omega
          have STEP := Lib.hid (lastI_step (s := s) hp)
          by_cases hd : s[p].toNat = 45
          · have t1 : ((s[p].toNat : Int) == 45) = true := by rw [beq_iff_eq]; omega
            have XU := Lib.hid (show B (s.extract 0 p) = dashU (colU (B s)) by rw [← XC.out, B_extract]; unfold dashU; rw [B_len, HL.out, STEP.out, if_pos hd]; simp)
            have XR := Lib.hid (show B (s.extract (p + 1) s.size) = dashR (colU (B s)) by rw [← XC.out, B_extract]; unfold dashR; rw [B_len, HL.out, STEP.out, if_pos hd, List.take_of_length_le (by rw [List.length_drop, B_len]; omega)])
            have z1 : (s.extract 0 p).size ≤ 60 := by rw [ByteArray.size_extract]; omega
            have z2 : (s.extract (p + 1) s.size).size ≤ 60 := by rw [ByteArray.size_extract]; omega
            clear hd
            go_wp2_with fail
            generalize s.extract 0 p = U1 at *
            generalize s.extract (p + 1) s.size = R1 at *
            have hPB : parseB (B s) = (rightB 0 (B U1) (B R1) && (decide (textL (0 : Int).toNat (B U1) (B R1) = B s) || decide (48 :: 58 :: textL (0 : Int).toNat (B U1) (B R1) = B s))) := by unfold parseB; rw [← XE.out, ← XU.out, ← XR.out]
            have HPB := Lib.hid hPB
            clear hPB
            refine (right_any 0 U1 R1 _ (by omega) (by omega)).mono ?_
            rintro e' w1 ⟨rfl, hb1⟩
            replace hb1 := hb1.mono (show w.heap.size + 2 ≤ _ by simp)
            cases hB : rightB 0 (B U1) (B R1)
            · have XV := Lib.hid (parse_wrong hs (by rw [HPB.out, hB]; rfl))
              have tb := two_boxes hb1
              obtain ⟨⟨c0, c1, c2⟩, ⟨g0, g1, g2⟩, ⟨e0, e1, e2⟩, s1, b1⟩ := tb
              clear hB
              go_wp2
              obtain ⟨d0, d1, d2, bV⟩ := fin3 (x := .int .i64 0) (y := .string { data := #[] }) (z := .string { data := #[] }) b1 c0 c1 c2
              exact bodyPost_ret (v := .tuple #[.agg #[.int .i64 0, .string { data := #[] }, .string { data := #[] }], .int .i64 4]) (by simp [results, Tryz.results69, go_sem, d0, d1, d2]) rfl ⟨by rw [XV.out], bV⟩
            · obtain ⟨q0, q1⟩ := rightB_epoch hB
              have hsz := rightB_size hB
              have CT0 := Lib.hid (fun w => text_int 0 U1 R1 w q0 q1 (by omega) (by omega))
              have hst0 := strEq (textL (0 : Int).toNat (B U1) (B R1)) s (textL_lt _ _ _)
              have hzt0 := zero_text (0 : Int).toNat U1 R1 s
              obtain ⟨T, hT⟩ : ∃ T : ByteArray, T = mk (textL (0 : Int).toNat (B U1) (B R1)) := ⟨_, rfl⟩
              have hTs : T.size ≤ 60 := by rw [hT, size_mk]; exact hsz
              rw [← hT] at CT0 hst0 hzt0
              have CT := Lib.hid CT0.out
              clear CT0 hT hsz q0 q1
              have tb := two_boxes hb1
              obtain ⟨⟨c0, c1, c2⟩, ⟨g0, g1, g2⟩, ⟨e0, e1, e2⟩, s1, b1⟩ := tb
              by_cases q1 : textL (0 : Int).toNat (B U1) (B R1) = B s
              · have XV := Lib.hid (parse_good hs XE.out XU.out XR.out (by rw [HPB.out, hB, decide_eq_true q1]; rfl))
                rw [decide_eq_true q1] at hst0
                clear hB hzt0 q1
                go_wp2_with fail
                refine (CT.out _).mono ?_
                rintro e' w2 ⟨rfl, hb2⟩
                replace hb2 := hb1.trans (hb2.mono s1)
                clear c0 c1 c2 g0 g1 g2 e0 e1 e2 s1 b1
                have tb := two_boxes hb2
                obtain ⟨⟨c0, c1, c2⟩, ⟨g0, g1, g2⟩, ⟨e0, e1, e2⟩, s1, b1⟩ := tb
                go_wp2
                obtain ⟨d0, d1, d2, bV⟩ := fin3 (x := .int .i64 0) (y := .string U1) (z := .string R1) b1 c0 c1 c2
                exact bodyPost_ret (v := .tuple #[.agg #[.int .i64 0, .string U1, .string R1], .int .i64 0]) (by simp [results, Tryz.results69, go_sem, d0, d1, d2]) rfl ⟨by rw [XV.out], bV⟩
              · rw [decide_eq_false q1] at hst0
                by_cases q2 : 48 :: 58 :: textL (0 : Int).toNat (B U1) (B R1) = B s
                · have XV := Lib.hid (parse_good hs XE.out XU.out XR.out (by rw [HPB.out, hB, decide_eq_true q2]; simp))
                  rw [decide_eq_true q2] at hzt0
                  clear hB q1 q2
                  go_wp2_with fail
                  refine (CT.out _).mono ?_
                  rintro e' w2 ⟨rfl, hb2⟩
                  replace hb2 := hb1.trans (hb2.mono s1)
                  clear c0 c1 c2 g0 g1 g2 e0 e1 e2 s1 b1
                  have tb := two_boxes hb2
                  obtain ⟨⟨c0, c1, c2⟩, ⟨g0, g1, g2⟩, ⟨e0, e1, e2⟩, s1, b1⟩ := tb
                  go_wp2_with fail
                  refine (CT.out _).mono ?_
                  rintro e' w3 ⟨rfl, hb3⟩
                  replace hb3 := hb2.trans (hb3.mono s1)
                  clear c0 c1 c2 g0 g1 g2 e0 e1 e2 s1 b1
                  have tb := two_boxes hb3
                  obtain ⟨⟨c0, c1, c2⟩, ⟨g0, g1, g2⟩, ⟨e0, e1, e2⟩, s1, b1⟩ := tb
                  go_wp2
                  obtain ⟨d0, d1, d2, bV⟩ := fin3 (x := .int .i64 0) (y := .string U1) (z := .string R1) b1 c0 c1 c2
                  exact bodyPost_ret (v := .tuple #[.agg #[.int .i64 0, .string U1, .string R1], .int .i64 0]) (by simp [results, Tryz.results69, go_sem, d0, d1, d2]) rfl ⟨by rw [XV.out], bV⟩
                · have XV := Lib.hid (parse_wrong hs (by rw [HPB.out, hB, decide_eq_false q1, decide_eq_false q2]; rfl))
                  rw [decide_eq_false q2] at hzt0
                  clear hB q1 q2
                  go_wp2_with fail
                  refine (CT.out _).mono ?_
                  rintro e' w2 ⟨rfl, hb2⟩
                  replace hb2 := hb1.trans (hb2.mono s1)
                  clear c0 c1 c2 g0 g1 g2 e0 e1 e2 s1 b1
                  have tb := two_boxes hb2
                  obtain ⟨⟨c0, c1, c2⟩, ⟨g0, g1, g2⟩, ⟨e0, e1, e2⟩, s1, b1⟩ := tb
                  go_wp2_with fail
                  refine (CT.out _).mono ?_
                  rintro e' w3 ⟨rfl, hb3⟩
                  replace hb3 := hb2.trans (hb3.mono s1)
                  clear c0 c1 c2 g0 g1 g2 e0 e1 e2 s1 b1
                  have tb := two_boxes hb3
                  obtain ⟨⟨c0, c1, c2⟩, ⟨g0, g1, g2⟩, ⟨e0, e1, e2⟩, s1, b1⟩ := tb
                  go_wp2
                  obtain ⟨d0, d1, d2, bV⟩ := fin3 (x := .int .i64 0) (y := .string { data := #[] }) (z := .string { data := #[] }) b1 c0 c1 c2
                  exact bodyPost_ret (v := .tuple #[.agg #[.int .i64 0, .string { data := #[] }, .string { data := #[] }], .int .i64 4]) (by simp [results, Tryz.results69, go_sem, d0, d1, d2]) rfl ⟨by rw [XV.out], bV⟩
          · have t1 : ((s[p].toNat : Int) == 45) = false := by rw [beq_eq_false_iff_ne]; omega
            have HL2 := Lib.hid (show lastI (B s) s.size = lastI (B s) p by rw [HL.out, STEP.out, if_neg hd])
            clear hd
            go_wp2
            go_round
            case rel => exact ⟨p, (p : Int) - 1, by omega, rfl, by go_num, HL2.out⟩
            case measure => simp [intOf]
theorem parse_any (s : ByteArray) (w : World) :
    Calls Tryz.prog 69 #[.string s] w fun e' w' => e' = .returned (parseV s) ∧ Below w.heap.size w w' := by
  by_cases h : s.size ≤ 60
  · exact parse_short s w h
  · exact parse_long s w (by omega)
end Go.Proofs.YtmlakjemgmeffaaGreatDoor
end

section
namespace Go.Proofs.YtmlakjemgmeffaaGreatDoor
open Go.RowKit
def nonD : List Nat → Bool
  | [] => false
  | c :: _ => !digB c
def cmpT : Nat → List Nat → List Nat → Int
  | 0, _, _ => 0
  | f + 1, a, b =>
    if a = [] ∧ b = [] then 0
    else if (nonD a || nonD b) = true then if sgn (wt a - wt b) ≠ 0 then sgn (wt a - wt b) else cmpT f (a.drop 1) (b.drop 1)
    else if numC (digs a) (digs b) ≠ 0 then numC (digs a) (digs b) else cmpT f (a.drop (numD a)) (b.drop (numD b))
def cmpS (a b : List Nat) : Int := cmpT (a.length + b.length + 1) a b
theorem wt_non {l : List Nat} (h : nonD l = true) : wt l ≠ 0 := by
  cases l with
  | nil => simp [nonD] at h
  | cons c l =>
    simp only [nonD, Bool.not_eq_true'] at h
    simp only [wt, h]
    by_cases h1 : c = 126
    · simp [h1]
    · by_cases h2 : letB c = true
      · simp [h1, h2]
        rintro rfl
        simp [letB] at h2
      · simp [h1, h2]; omega
theorem wt_end {l : List Nat} (h : nonD l = false) : wt l = 0 := by
  cases l with
  | nil => rfl
  | cons c l =>
    simp only [nonD, Bool.not_eq_false'] at h
    simp [wt, h]
theorem sgn_zero {n : Int} : sgn n = 0 ↔ n = 0 := by unfold sgn; split <;> (try split) <;> omega
theorem both_non {a b : List Nat} (h : (nonD a || nonD b) = true) (h0 : ¬ sgn (wt a - wt b) ≠ 0) : nonD a = true ∧ nonD b = true := by
  have h1 : wt a = wt b := by have := sgn_zero.1 (Classical.not_not.1 h0); omega
  cases ha : nonD a <;> cases hb : nonD b
  · simp [ha, hb] at h
  · have := wt_end ha; have := wt_non hb; omega
  · have := wt_non ha; have := wt_end hb; omega
  · exact ⟨rfl, rfl⟩
theorem non_len {l : List Nat} (h : nonD l = true) : 1 ≤ l.length := by
  cases l with
  | nil => simp [nonD] at h
  | cons c l => simp
theorem num_len {l : List Nat} (h : nonD l = false) (hl : l ≠ []) : 1 ≤ numD l := by
  cases l with
  | nil => exact absurd rfl hl
  | cons c l =>
    simp only [nonD, Bool.not_eq_false'] at h
    simp [numD, h]
theorem numD_le (l : List Nat) : numD l ≤ l.length := by unfold numD; exact (List.takeWhile_prefix digB).length_le
theorem cmpT_fuel : ∀ (f g : Nat) (a b : List Nat), a.length + b.length < f → a.length + b.length < g → cmpT f a b = cmpT g a b
  | 0, _, _, _, h, _ => by omega
  | _ + 1, 0, _, _, _, h => by omega
  | f + 1, g + 1, a, b, hf, hg => by
    simp only [cmpT]
    by_cases h0 : a = [] ∧ b = []
    · rw [if_pos h0, if_pos h0]
    · rw [if_neg h0, if_neg h0]
      by_cases h1 : (nonD a || nonD b) = true
      · rw [if_pos h1, if_pos h1]
        by_cases h2 : sgn (wt a - wt b) ≠ 0
        · rw [if_pos h2, if_pos h2]
        · rw [if_neg h2, if_neg h2]
          obtain ⟨ha, hb⟩ := both_non h1 h2
          have := non_len ha
          have := non_len hb
          exact cmpT_fuel f g _ _ (by simp; omega) (by simp; omega)
      · rw [if_neg h1, if_neg h1]
        by_cases h2 : numC (digs a) (digs b) ≠ 0
        · rw [if_pos h2, if_pos h2]
        · rw [if_neg h2, if_neg h2]
          have hna : nonD a = false := by cases h : nonD a <;> simp_all
          have hnb : nonD b = false := by cases h : nonD b <;> simp_all
          have la := numD_le a
          have lb := numD_le b
          have hs : 1 ≤ numD a + numD b := by
            by_cases ha : a = []
            · have := num_len hnb (fun hb => h0 ⟨ha, hb⟩); omega
            · have := num_len hna ha; omega
          exact cmpT_fuel f g _ _ (by simp; omega) (by simp; omega)
theorem cmpS_wt {a b : List Nat} (h1 : (nonD a || nonD b) = true) : cmpS a b = if sgn (wt a - wt b) ≠ 0 then sgn (wt a - wt b) else cmpS (a.drop 1) (b.drop 1) := by
  have h0 : ¬ (a = [] ∧ b = []) := by rintro ⟨rfl, rfl⟩; simp [nonD] at h1
  unfold cmpS
  rw [cmpT, if_neg h0, if_pos h1]
  by_cases h2 : sgn (wt a - wt b) ≠ 0
  · rw [if_pos h2, if_pos h2]
  · rw [if_neg h2, if_neg h2]
    obtain ⟨ha, hb⟩ := both_non h1 h2
    have := non_len ha
    have := non_len hb
    exact cmpT_fuel _ _ _ _ (by simp; omega) (by omega)
theorem cmpS_num {a b : List Nat} (h0 : ¬ (a = [] ∧ b = [])) (h1 : (nonD a || nonD b) = false) : cmpS a b = if numC (digs a) (digs b) ≠ 0 then numC (digs a) (digs b) else cmpS (a.drop (numD a)) (b.drop (numD b)) := by
  unfold cmpS
  rw [cmpT, if_neg h0, if_neg (by simp [h1])]
  by_cases h2 : numC (digs a) (digs b) ≠ 0
  · rw [if_pos h2, if_pos h2]
  · rw [if_neg h2, if_neg h2]
    have hna : nonD a = false := by cases h : nonD a <;> simp_all
    have hnb : nonD b = false := by cases h : nonD b <;> simp_all
    have la := numD_le a
    have lb := numD_le b
    have hs : 1 ≤ numD a + numD b := by
      by_cases ha : a = []
      · have := num_len hnb (fun hb => h0 ⟨ha, hb⟩); omega
      · have := num_len hna ha; omega
    exact cmpT_fuel _ _ _ _ (by simp; omega) (by omega)
end Go.Proofs.YtmlakjemgmeffaaGreatDoor
end

section
namespace Go.Proofs.YtmlakjemgmeffaaGreatDoor
open Go.RowKit
def cmpV (e1 : Int) (u1 r1 : List Nat) (e2 : Int) (u2 r2 : List Nat) : Int :=
  if e1 ≠ e2 then (if e1 < e2 then -1 else 1) else if cmpS u1 u2 ≠ 0 then cmpS u1 u2 else cmpS r1 r2
end Go.Proofs.YtmlakjemgmeffaaGreatDoor
end

section
namespace Go.Proofs.YtmlakjemgmeffaaGreatDoor
open Go.RowKit
def orderV (a b : List Nat) : Int :=
  if parseE a ≠ 0 then (if parseE b ≠ 0 then 0 else -1) else if parseE b ≠ 0 then 1 else cmpV (parse1 a) (parse2 a) (parse3 a) (parse1 b) (parse2 b) (parse3 b)
theorem colU_mem {s : List Nat} {c : Nat} (h : c ∈ colU s) : c ∈ s := by
  unfold colU at h
  split at h
  · exact h
  · exact List.mem_of_mem_drop h
theorem dashU_mem {s : List Nat} {c : Nat} (h : c ∈ dashU s) : c ∈ s := by
  unfold dashU at h
  split at h
  · exact h
  · exact List.mem_of_mem_take h
theorem dashR_mem {s : List Nat} {c : Nat} (h : c ∈ dashR s) : c ∈ s := by
  unfold dashR at h
  split at h
  · cases h
  · exact List.mem_of_mem_drop h
theorem colU_len (s : List Nat) : (colU s).length ≤ s.length := by
  unfold colU
  split
  · exact Nat.le_refl _
  · rw [List.length_drop]; omega
theorem dashU_len (s : List Nat) : (dashU s).length ≤ s.length := by
  unfold dashU
  split
  · exact Nat.le_refl _
  · rw [List.length_take]; omega
theorem dashR_len (s : List Nat) : (dashR s).length ≤ s.length := by
  unfold dashR
  split
  · exact Nat.zero_le _
  · rw [List.length_drop]; omega
theorem parse2_lt (s : ByteArray) : ∀ c ∈ parse2 (B s), c < 256 := by
  intro c hc
  unfold parse2 at hc
  split at hc
  · exact B_lt s c (colU_mem (dashU_mem hc))
  · cases hc
theorem parse3_lt (s : ByteArray) : ∀ c ∈ parse3 (B s), c < 256 := by
  intro c hc
  unfold parse3 at hc
  split at hc
  · exact B_lt s c (colU_mem (dashR_mem hc))
  · cases hc
theorem parseE_len {s : List Nat} (h : parseE s = 0) : s.length ≤ 60 := by
  unfold parseE at h
  split at h
  · cases h
  · omega
theorem parse2_len (s : List Nat) : (parse2 s).length ≤ 60 := by
  unfold parse2
  split
  · rename_i h
    have := parseE_len h; have := colU_len s; have := dashU_len (colU s); omega
  · exact Nat.zero_le _
theorem parse3_len (s : List Nat) : (parse3 s).length ≤ 60 := by
  unfold parse3
  split
  · rename_i h
    have := parseE_len h; have := colU_len s; have := dashR_len (colU s); omega
  · exact Nat.zero_le _
theorem parse_opened (s : ByteArray) : ∃ (E e : Int) (U R : ByteArray), E = parse1 (B s) ∧ e = parseE (B s) ∧ B U = parse2 (B s) ∧ B R = parse3 (B s) ∧ U.size ≤ 60 ∧ R.size ≤ 60 ∧
    ∀ w, Calls Tryz.prog 69 #[.string s] w fun e' w' => e' = .returned (.tuple #[.agg #[.int .i64 E, .string U, .string R], .int .i64 e]) ∧ Below w.heap.size w w' :=
  ⟨_, _, _, _, rfl, rfl, B_mk (parse2_lt s), B_mk (parse3_lt s), by rw [size_mk]; exact parse2_len _, by rw [size_mk]; exact parse3_len _, fun w => parse_any s w⟩
end Go.Proofs.YtmlakjemgmeffaaGreatDoor
end

section
set_option maxRecDepth 100000
namespace Go.Proofs.YtmlakjemgmeffaaGreatDoor
open Go.RowKit
def plnB (c : Nat) : Bool := decide (97 ≤ c ∧ c ≤ 122) || digB c
def nmcB (c : Nat) : Bool := plnB c || decide (c = 43) || decide (c = 45) || decide (c = 46)
def nameB (l : List Nat) : Bool := decide (2 ≤ l.length) && decide (l.length ≤ 40) && plnB (l.getD 0 0) && l.all nmcB
def signL (op : Int) : List Nat := if op = 1 then [60, 60] else if op = 2 then [60, 61] else if op = 3 then [61] else if op = 4 then [62, 61] else if op = 5 then [62, 62] else []
def opI (l : List Nat) : Int := if l = [60, 60] then 1 else if l = [60, 61] then 2 else if l = [61] then 3 else if l = [62, 61] then 4 else if l = [62, 62] then 5 else 0
def prB (l : List Nat) : Bool := decide (parseE l = 0) && decide (printL (parse1 l) (parse2 l) (parse3 l) = l)
def rightA (n : List Nat) (op : Int) (v : List Nat) : Bool := nameB n && (if op = 0 then decide (v = []) else decide (1 ≤ op ∧ op ≤ 5) && prB v)
def textA (n : List Nat) (op : Int) (v : List Nat) : List Nat := if op = 0 then n else n ++ 32 :: 40 :: (signL op ++ 32 :: (v ++ [41]))
def printA (n : List Nat) (op : Int) (v : List Nat) : List Nat := if rightA n op v = true then textA n op v else []
def cutN (l : List Nat) : List Nat := l.takeWhile (fun c => c != 32)
def cutR (l : List Nat) : List Nat := (l.dropWhile (fun c => c != 32)).drop 1
def cutH (l : List Nat) : Bool := l.any (fun c => c == 32)
def inL (r : List Nat) : List Nat := (r.drop 1).dropLast
def formB (r : List Nat) : Bool := decide (2 ≤ r.length) && decide (r.getD 0 0 = 40) && decide (r.getD (r.length - 1) 0 = 41) && (cutH (inL r) && decide (opI (cutN (inL r)) ≠ 0))
def verL (r : List Nat) : List Nat := cutR (inL r)
def relE (s : List Nat) : Int := if nameB (cutN s) = true then (if cutH s = true then (if formB (cutR s) = true then (if prB (verL (cutR s)) = true then 0 else 4) else 5) else 0) else 3
def relN (s : List Nat) : List Nat := if relE s = 0 then cutN s else []
def relO (s : List Nat) : Int := if relE s = 0 then (if cutH s = true then opI (cutN (inL (cutR s))) else 0) else 0
def relV (s : List Nat) : List Nat := if relE s = 0 then (if cutH s = true then verL (cutR s) else []) else []
def relVal (s : ByteArray) : Value := .tuple #[.agg #[.string (mk (relN (B s))), .int .i64 (relO (B s)), .string (mk (relV (B s)))], .int .i64 (relE (B s))]
theorem cut_at {n r : List Nat} (h : ∀ c ∈ n, c ≠ 32) : cutN (n ++ 32 :: r) = n ∧ cutR (n ++ 32 :: r) = r ∧ cutH (n ++ 32 :: r) = true := by
  induction n with
  | nil => exact ⟨by simp [cutN], by simp [cutR], by simp [cutH]⟩
  | cons c n ih =>
    obtain ⟨a, b, d⟩ := ih (fun x hx => h x (by simp [hx]))
    have hc : (c != 32) = true := by rw [bne_iff_ne]; exact h c (by simp)
    refine ⟨?_, ?_, by simp [cutH]⟩
    · show (List.takeWhile _ (c :: (n ++ 32 :: r))) = _
      rw [List.takeWhile_cons, if_pos hc]
      exact congrArg (c :: ·) a
    · show (List.dropWhile _ (c :: (n ++ 32 :: r))).drop 1 = _
      rw [List.dropWhile_cons, if_pos hc]
      exact b
theorem cut_no {l : List Nat} (h : ∀ c ∈ l, c ≠ 32) : cutN l = l ∧ cutR l = [] ∧ cutH l = false := by
  induction l with
  | nil => exact ⟨rfl, rfl, rfl⟩
  | cons c l ih =>
    obtain ⟨a, b, d⟩ := ih (fun x hx => h x (by simp [hx]))
    have hc : (c != 32) = true := by rw [bne_iff_ne]; exact h c (by simp)
    have hc2 : (c == 32) = false := by rw [beq_eq_false_iff_ne]; exact h c (by simp)
    refine ⟨?_, ?_, ?_⟩
    · show (List.takeWhile _ (c :: l)) = _
      rw [List.takeWhile_cons, if_pos hc]
      exact congrArg (c :: ·) a
    · show (List.dropWhile _ (c :: l)).drop 1 = _
      rw [List.dropWhile_cons, if_pos hc]
      exact b
    · show (List.any (c :: l) _) = _
      rw [List.any_cons, hc2, Bool.false_or]
      exact d
theorem cut_back : ∀ {l : List Nat}, cutH l = true → l = cutN l ++ 32 :: cutR l
  | [], h => by simp [cutH] at h
  | c :: l, h => by
    by_cases hc : c = 32
    · subst hc; simp [cutN, cutR]
    · have h1 : (c == 32) = false := by rw [beq_eq_false_iff_ne]; exact hc
      have h2 : (c != 32) = true := by rw [bne_iff_ne]; exact hc
      have h3 : cutH l = true := by
        have : (List.any (c :: l) fun c => c == 32) = true := h
        rw [List.any_cons, h1, Bool.false_or] at this
        exact this
      have ih := cut_back h3
      show c :: l = List.takeWhile _ (c :: l) ++ 32 :: (List.dropWhile _ (c :: l)).drop 1
      rw [List.takeWhile_cons, List.dropWhile_cons, if_pos h2, if_pos h2]
      exact congrArg (c :: ·) ih
theorem cutN_no (l : List Nat) : ∀ c ∈ cutN l, c ≠ 32 := by
  induction l with
  | nil => intro c hc; cases hc
  | cons d l ih =>
    intro c hc
    unfold cutN at hc
    rw [List.takeWhile_cons] at hc
    split at hc
    · rename_i h
      rcases List.mem_cons.1 hc with rfl | hc
      · rwa [bne_iff_ne] at h
      · exact ih c hc
    · cases hc
theorem cutH_no {l : List Nat} (h : cutH l = false) : ∀ c ∈ l, c ≠ 32 := by
  intro c hc e
  subst e
  have : cutH l = true := List.any_eq_true.2 ⟨32, hc, rfl⟩
  rw [h] at this; cases this
theorem cutR_len (l : List Nat) : (cutR l).length ≤ l.length := by
  unfold cutR
  rw [List.length_drop]
  have := List.Sublist.length_le (List.dropWhile_sublist (fun c => c != 32) (l := l))
  omega
theorem cutN_mem {l : List Nat} {c : Nat} (h : c ∈ cutN l) : c ∈ l := (List.takeWhile_sublist _).subset h
theorem cutR_mem {l : List Nat} {c : Nat} (h : c ∈ cutR l) : c ∈ l := (List.dropWhile_sublist _).subset (List.mem_of_mem_drop h)
theorem inL_mem {l : List Nat} {c : Nat} (h : c ∈ inL l) : c ∈ l := List.mem_of_mem_drop ((List.dropLast_sublist _).subset h)
theorem inL_of (m : List Nat) (a b : Nat) : inL (a :: (m ++ [b])) = m := by simp [inL]
theorem form_is {r : List Nat} (h : 2 ≤ r.length) (h0 : r.getD 0 0 = 40) (h1 : r.getD (r.length - 1) 0 = 41) : r = 40 :: (inL r ++ [41]) := by
  rcases r with _ | ⟨a, r⟩
  · simp at h
  · simp only [List.getD_cons_zero] at h0
    subst h0
    have hr : r ≠ [] := by rintro rfl; simp at h
    have hl : r.getLast hr = 41 := by
      rw [List.getLast_eq_getElem]
      have e : (40 :: r).length - 1 = (r.length - 1) + 1 := by have := List.length_pos_iff.2 hr; simp; omega
      rw [e, List.getD_cons_succ, List.getD_eq_getElem?_getD, List.getElem?_eq_getElem (by have := List.length_pos_iff.2 hr; omega)] at h1
      exact h1
    show 40 :: r = 40 :: (r.dropLast ++ [41])
    congr 1
    rw [← hl]
    exact (List.dropLast_concat_getLast hr).symm
theorem op_sign (op : Int) (h : 1 ≤ op ∧ op ≤ 5) : opI (signL op) = op ∧ ∀ c ∈ signL op, c ≠ 32 := by
  have : op = 1 ∨ op = 2 ∨ op = 3 ∨ op = 4 ∨ op = 5 := by omega
  rcases this with rfl | rfl | rfl | rfl | rfl <;> exact ⟨by decide, by decide⟩
theorem sign_op {l : List Nat} (h : opI l ≠ 0) : signL (opI l) = l ∧ 1 ≤ opI l ∧ opI l ≤ 5 := by
  unfold opI at *
  split at h
  · rename_i e; rw [if_pos e, e]; decide
  · rename_i e1
    rw [if_neg e1]
    split at h
    · rename_i e; rw [if_pos e, e]; decide
    · rename_i e2
      rw [if_neg e2]
      split at h
      · rename_i e; rw [if_pos e, e]; decide
      · rename_i e3
        rw [if_neg e3]
        split at h
        · rename_i e; rw [if_pos e, e]; decide
        · rename_i e4
          rw [if_neg e4]
          split at h
          · rename_i e; rw [if_pos e, e]; decide
          · exact absurd rfl h
theorem name_no {n : List Nat} (h : nameB n = true) : ∀ c ∈ n, c ≠ 32 := by
  unfold nameB at h
  simp only [Bool.and_eq_true] at h
  intro c hc e
  subst e
  have := List.all_eq_true.1 h.2 32 hc
  revert this; decide
theorem name_len {n : List Nat} (h : nameB n = true) : 2 ≤ n.length ∧ n.length ≤ 40 := by
  unfold nameB at h
  simp only [Bool.and_eq_true, decide_eq_true_eq] at h
  exact h.1.1
theorem pr_len {v : List Nat} (h : prB v = true) : v.length ≤ 60 := by
  unfold prB at h
  simp only [Bool.and_eq_true, decide_eq_true_eq] at h
  exact parseE_len h.1
theorem rel_of_text {n v : List Nat} {op : Int} (h : rightA n op v = true) : relE (textA n op v) = 0 ∧ relN (textA n op v) = n ∧ relO (textA n op v) = op ∧ relV (textA n op v) = v := by
  unfold rightA at h
  simp only [Bool.and_eq_true] at h
  obtain ⟨hn, h⟩ := h
  unfold textA
  by_cases h0 : op = 0
  · rw [if_pos h0] at h ⊢
    obtain ⟨c0, c1, c2⟩ := cut_no (name_no hn)
    have hE : relE n = 0 := by unfold relE; rw [c0, if_pos hn, c2, if_neg (by decide)]
    refine ⟨hE, ?_, ?_, ?_⟩
    · unfold relN; rw [if_pos hE, c0]
    · unfold relO; rw [if_pos hE, c2, if_neg (by decide), h0]
    · unfold relV; rw [if_pos hE, c2, if_neg (by decide)]; exact (of_decide_eq_true h).symm
  · rw [if_neg h0] at h ⊢
    simp only [Bool.and_eq_true, decide_eq_true_eq] at h
    obtain ⟨ho, hv⟩ := h
    obtain ⟨so, sn⟩ := op_sign op ho
    obtain ⟨c0, c1, c2⟩ := cut_at (r := 40 :: (signL op ++ 32 :: (v ++ [41]))) (name_no hn)
    have hin : inL (40 :: (signL op ++ 32 :: (v ++ [41]))) = signL op ++ 32 :: v := by
      rw [show (40 : Nat) :: (signL op ++ 32 :: (v ++ [41])) = 40 :: ((signL op ++ 32 :: v) ++ [41]) by simp]
      exact inL_of _ _ _
    obtain ⟨d0, d1, d2⟩ := cut_at (r := v) sn
    have hver : verL (40 :: (signL op ++ 32 :: (v ++ [41]))) = v := by unfold verL; rw [hin, d1]
    have hF : formB (40 :: (signL op ++ 32 :: (v ++ [41]))) = true := by
      unfold formB
      rw [hin, d0, d2, so]
      have e1 : (40 :: (signL op ++ 32 :: (v ++ [41]))).getD ((40 :: (signL op ++ 32 :: (v ++ [41]))).length - 1) 0 = 41 := by
        rw [show (40 : Nat) :: (signL op ++ 32 :: (v ++ [41])) = (40 :: (signL op ++ 32 :: v)) ++ [41] by simp, List.length_append]
        simp [List.getD_eq_getElem?_getD]
      simp only [e1, List.getD_cons_zero, decide_true, Bool.true_and, Bool.and_true, Bool.and_eq_true, decide_eq_true_eq]
      exact ⟨by simp; omega, by omega⟩
    have hE : relE (n ++ 32 :: 40 :: (signL op ++ 32 :: (v ++ [41]))) = 0 := by
      unfold relE; rw [c0, if_pos hn, c2, if_pos rfl, c1, if_pos hF, hver, if_pos hv]
    refine ⟨hE, ?_, ?_, ?_⟩
    · unfold relN; rw [if_pos hE, c0]
    · unfold relO; rw [if_pos hE, c2, if_pos rfl, c1, hin, d0, so]
    · unfold relV; rw [if_pos hE, c2, if_pos rfl, c1, hver]
theorem text_of_rel {s : List Nat} (h : relE s = 0) : rightA (relN s) (relO s) (relV s) = true ∧ textA (relN s) (relO s) (relV s) = s := by
  have h' := h
  have hN : relN s = cutN s := by unfold relN; rw [if_pos h]
  have hO : relO s = if cutH s = true then opI (cutN (inL (cutR s))) else 0 := by unfold relO; rw [if_pos h]
  have hV : relV s = if cutH s = true then verL (cutR s) else [] := by unfold relV; rw [if_pos h]
  unfold relE at h'
  split at h'
  · rename_i hn
    split at h'
    · rename_i hc
      split at h'
      · rename_i hf
        split at h'
        · rename_i hp
          rw [if_pos hc] at hO hV
          unfold formB at hf
          simp only [Bool.and_eq_true, decide_eq_true_eq] at hf
          obtain ⟨⟨⟨f0, f1⟩, f2⟩, f3, f4⟩ := hf
          have hr := form_is f0 f1 f2
          obtain ⟨g0, g1⟩ := sign_op f4
          have hi := cut_back f3
          rw [hN, hO, hV]
          constructor
          · unfold rightA
            rw [hn, if_neg f4, hp, decide_eq_true g1]; rfl
          · unfold textA
            rw [if_neg f4, g0]
            have e : (cutN (inL (cutR s)) ++ 32 :: (verL (cutR s) ++ [41]) : List Nat) = inL (cutR s) ++ [41] := by
              conv => rhs; rw [hi]
              unfold verL
              simp
            rw [e, ← hr]
            exact (cut_back hc).symm
        · cases h'
      · cases h'
    · rename_i hc
      rw [if_neg hc] at hO hV
      rw [hN, hO, hV]
      obtain ⟨c0, _, _⟩ := cut_no (cutH_no (by simpa using hc))
      refine ⟨?_, ?_⟩
      · unfold rightA; rw [hn, if_pos rfl]; rfl
      · unfold textA; rw [if_pos rfl, c0]
  · cases h'
theorem rel_none {s : List Nat} (h : relE s ≠ 0) : relN s = [] ∧ relO s = 0 ∧ relV s = [] := ⟨by unfold relN; rw [if_neg h], by unfold relO; rw [if_neg h], by unfold relV; rw [if_neg h]⟩
def opB (op c : Int) : Bool := if op = 1 then decide (c < 0) else if op = 2 then decide (c ≤ 0) else if op = 3 then decide (c = 0) else if op = 4 then decide (0 ≤ c) else if op = 5 then decide (0 < c) else false
def holdB (op : Int) (a b : List Nat) : Bool := decide (op = 0) || (decide (parseE a = 0) && decide (parseE b = 0) && opB op (orderV a b))
end Go.Proofs.YtmlakjemgmeffaaGreatDoor
end

section
namespace Go.Proofs.YtmlakjemgmeffaaGreatDoor
open Go.RowKit
theorem sgn_is (n : Int) : (n < 0 ∧ sgn n = -1) ∨ (n = 0 ∧ sgn n = 0) ∨ (0 < n ∧ sgn n = 1) := by unfold sgn; split <;> (try split) <;> omega
theorem wt_nonD {l : List Nat} : wt l = 0 ↔ nonD l = false := by
  constructor
  · intro h
    cases hn : nonD l
    · rfl
    · exact absurd h (wt_non hn)
  · exact wt_end
theorem cmpS_ne {a b : List Nat} (h : wt a ≠ wt b) : cmpS a b = sgn (wt a - wt b) := by
  have hn : (nonD a || nonD b) = true := by
    cases ha : nonD a <;> cases hb : nonD b <;> first | rfl | skip
    exact absurd ((wt_end ha).trans (wt_end hb).symm) h
  rw [cmpS_wt hn, if_pos (by rw [Ne, sgn_zero]; omega)]
theorem cmpS_eq {a b : List Nat} (h : wt a = wt b) (h0 : wt a ≠ 0) : cmpS a b = cmpS (a.drop 1) (b.drop 1) := by
  have hn : (nonD a || nonD b) = true := by
    cases ha : nonD a
    · exact absurd (wt_end ha) h0
    · rfl
  rw [cmpS_wt hn, if_neg (by rw [Ne, sgn_zero]; omega)]
theorem cmpS_no {a b : List Nat} (h1 : wt a = 0) (h2 : wt b = 0) : cmpS a b = if numC (digs a) (digs b) ≠ 0 then numC (digs a) (digs b) else cmpS (a.drop (numD a)) (b.drop (numD b)) := by
  by_cases h : a = [] ∧ b = []
  · obtain ⟨rfl, rfl⟩ := h; rfl
  · exact cmpS_num h (by rw [wt_nonD.1 h1, wt_nonD.1 h2]; rfl)
theorem drop1_len {l : List Nat} (h : wt l ≠ 0) : (l.drop 1).length < l.length := by
  cases l with
  | nil => exact absurd rfl h
  | cons c l => simp
theorem dropN_lt {l : List Nat} (h : wt l = 0) (hl : l ≠ []) : (l.drop (numD l)).length < l.length := by
  have h1 := num_len (wt_nonD.1 h) hl
  have h2 := numD_le l
  rw [List.length_drop]; omega
end Go.Proofs.YtmlakjemgmeffaaGreatDoor
end

section
set_option linter.unusedSimpArgs false
namespace Go.Proofs.YtmlakjemgmeffaaGreatDoor
open Go.RowKit
theorem decF_dig : ∀ (f n : Nat) (l : List Nat), (∀ c ∈ l, digB c = true) → ∀ c ∈ decF f n l, digB c = true
  | 0, _, _, h => h
  | f + 1, n, l, h => by
    simp only [decF]
    split
    · intro c hc
      rcases List.mem_cons.1 hc with rfl | hc
      · simp only [digB, decide_eq_true_eq]; omega
      · exact h c hc
    · refine decF_dig f _ _ (fun c hc => ?_)
      rcases List.mem_cons.1 hc with rfl | hc
      · simp only [digB, decide_eq_true_eq]; omega
      · exact h c hc
theorem decL_dig (n : Nat) : ∀ c ∈ decL n, digB c = true := decF_dig _ _ _ (by simp)
end Go.Proofs.YtmlakjemgmeffaaGreatDoor
end

section
set_option linter.unusedSimpArgs false
namespace Go.Proofs.YtmlakjemgmeffaaGreatDoor
open Go.RowKit
theorem firstI_none : ∀ (l : List Nat) (n : Nat), (∀ c ∈ l, c ≠ 58) → firstI l n = none
  | [], _, _ => rfl
  | c :: l, n, h => by
    show (if c = 58 then some n else firstI l (n + 1)) = none
    rw [if_neg (h c (by simp))]
    exact firstI_none l _ (fun d hd => h d (by simp [hd]))
theorem firstI_at : ∀ (a b : List Nat) (n : Nat), (∀ c ∈ a, c ≠ 58) → firstI (a ++ 58 :: b) n = some (n + a.length)
  | [], b, n, _ => rfl
  | c :: a, b, n, h => by
    show (if c = 58 then some n else firstI (a ++ 58 :: b) (n + 1)) = _
    rw [if_neg (h c (by simp)), firstI_at a b _ (fun d hd => h d (by simp [hd])), List.length_cons]
    congr 1; omega
theorem numF_dec : ∀ (f n : Nat) (l : List Nat), n < f → (decF f n l).foldl (fun n c => 10 * n + (c - 48)) 0 = l.foldl (fun n c => 10 * n + (c - 48)) n
  | 0, _, _, h => by omega
  | f + 1, n, l, h => by
    simp only [decF]
    split
    · simp only [List.foldl_cons]; congr 1; omega
    · rw [numF_dec f (n / 10) _ (by omega)]
      simp only [List.foldl_cons]; congr 1; omega
theorem numV_dec (n : Nat) : numV (decL n) = n := by unfold numV decL; rw [numF_dec _ _ _ (by omega)]; rfl
theorem decF_short : ∀ (f n k : Nat) (l : List Nat), n < 10 ^ (k + 1) → (decF f n l).length ≤ k + 1 + l.length
  | 0, _, _, l, _ => by simp only [decF]; omega
  | f + 1, n, k, l, h => by
    simp only [decF]
    split
    · simp; omega
    · match k with
      | 0 => simp at h; omega
      | k + 1 =>
        have := decF_short f (n / 10) k ((48 + n % 10) :: l) (by rw [Nat.pow_succ] at h; omega)
        simp at this; omega
theorem decF_dig2 : ∀ (f n : Nat) (l : List Nat), (∀ c ∈ l, digB c = true) → ∀ c ∈ decF f n l, digB c = true
  | 0, _, _, h => h
  | f + 1, n, l, h => by
    simp only [decF]
    split
    · intro c hc
      rcases List.mem_cons.1 hc with rfl | hc
      · simp only [digB, decide_eq_true_eq]; omega
      · exact h c hc
    · refine decF_dig2 f _ _ (fun c hc => ?_)
      rcases List.mem_cons.1 hc with rfl | hc
      · simp only [digB, decide_eq_true_eq]; omega
      · exact h c hc
theorem decF_ne2 : ∀ (f n : Nat) (l : List Nat), l ≠ [] → decF f n l ≠ []
  | 0, _, _, h => h
  | f + 1, n, l, h => by
    simp only [decF]
    split
    · simp
    · exact decF_ne2 f _ _ (by simp)
theorem decL_ne2 (n : Nat) : decL n ≠ [] := by
  unfold decL
  simp only [decF]
  split
  · simp
  · exact decF_ne2 _ _ _ (by simp)
theorem numL_dec (n : Nat) (h : n ≤ 999999999) : numL (decL n) = n := by
  unfold numL
  have h9 := decF_short (n + 1) n 8 [] (by omega)
  rw [if_pos ⟨decL_ne2 n, by simpa [decL] using h9, List.all_eq_true.2 (decF_dig2 _ _ _ (by simp)), by rw [numV_dec]⟩, numV_dec]
theorem colons {e : Int} {u r : List Nat} (h : rightB e u r = true) : colE (textL e.toNat u r) = e ∧ colU (textL e.toNat u r) = u ++ (if r = [] then [] else 45 :: r) := by
  obtain ⟨h0, h1⟩ := rightB_epoch h
  have h' := h
  unfold rightB at h'
  simp only [Bool.and_eq_true, Bool.not_eq_true', Bool.and_eq_false_iff] at h'
  obtain ⟨⟨⟨⟨⟨⟨_, _⟩, _⟩, h58⟩, hu⟩, hr⟩, _⟩ := h'
  by_cases he : e = 0
  · subst he
    have hu58 : ∀ c ∈ u, c ≠ 58 := by
      rintro c hc rfl
      rcases h58 with h58 | h58
      · unfold hasB at h58
        rw [Bool.eq_false_iff] at h58
        exact h58 (List.contains_iff_mem.2 hc)
      · exact absurd h58 (by decide)
    have hr58 : ∀ c ∈ r, c ≠ 58 := by
      rintro c hc rfl
      exact absurd (List.all_eq_true.1 hr 58 hc) (by decide)
    have e1 : textL (0 : Int).toNat u r = u ++ (if r = [] then [] else 45 :: r) := by unfold textL; rw [if_pos (show (0 : Int).toNat = 0 from rfl), List.nil_append]
    have hno : ∀ c ∈ u ++ (if r = [] then [] else 45 :: r), c ≠ 58 := by
      intro c hc
      rcases List.mem_append.1 hc with hc | hc
      · exact hu58 c hc
      · split at hc
        · cases hc
        · rcases List.mem_cons.1 hc with rfl | hc
          · decide
          · exact hr58 c hc
    rw [e1]
    unfold colE colU
    rw [firstI_none _ 0 hno]
    exact ⟨rfl, rfl⟩
  · have e1 : textL e.toNat u r = decL e.toNat ++ 58 :: (u ++ (if r = [] then [] else 45 :: r)) := by unfold textL; rw [if_neg (by omega)]; simp
    have hno : ∀ c ∈ decL e.toNat, c ≠ 58 := by
      rintro c hc rfl
      exact absurd (decF_dig2 _ _ _ (by simp) 58 hc) (by decide)
    rw [e1]
    unfold colE colU
    rw [firstI_at _ _ 0 hno]
    refine ⟨?_, ?_⟩
    · show numL (List.take (0 + (decL e.toNat).length) _) = e
      rw [Nat.zero_add, List.take_left, numL_dec _ (by omega)]; omega
    · show List.drop (0 + (decL e.toNat).length + 1) _ = _
      rw [Nat.zero_add, List.drop_length_add_append]; rfl
end Go.Proofs.YtmlakjemgmeffaaGreatDoor
end

section
set_option linter.unusedVariables false
set_option linter.unusedSimpArgs false
namespace Go.Proofs.YtmlakjemgmeffaaGreatDoor
open Go.RowKit
theorem low_cons (c : Nat) (r : List Nat) : lowB (c :: r) = (decide (c < 32) || lowB r) := by unfold lowB; rw [List.any_cons]
def okF (l : List Nat) (j : Nat) : Bool := letB (l.getD j 0) || (decide (0 < j) && (digB (l.getD j 0) || decide (l.getD j 0 = 45)))
theorem fnB_cons (c : Nat) (r : List Nat) : fnB (c :: r) = (letB c && r.all nmC && decide (r.length < 40)) := rfl
theorem fn_all {r : List Nat} (h : ∀ j, j < r.length → nmC (r.getD j 0) = true) : r.all nmC = true := by
  rw [List.all_eq_true]
  intro x hx
  obtain ⟨j, hj, rfl⟩ := List.getElem_of_mem hx
  have := h j hj
  rwa [List.getD_eq_getElem?_getD, List.getElem?_eq_getElem hj] at this
theorem fn_no {l : List Nat} {k : Nat} (hk : k < l.length) (h : okF l k = false) : fnB l = false := by
  cases l with
  | nil => rfl
  | cons c r =>
    unfold okF at h
    rw [Bool.or_eq_false_iff] at h
    cases k with
    | zero =>
      have h1 := h.1
      simp only [List.getD_cons_zero] at h1
      rw [fnB_cons]
      rw [h1]; rfl
    | succ k =>
      simp only [List.getD_cons_succ] at h
      have hn : nmC (r.getD k 0) = false := by
        unfold nmC
        have h2 := h.2
        rw [decide_eq_true (Nat.succ_pos k), Bool.true_and] at h2
        rw [Bool.or_assoc, h2, Bool.or_false]; exact h.1
      have : r.all nmC = false := by
        rw [List.all_eq_false]
        have hk' : k < r.length := by simpa using hk
        exact ⟨r[k], List.getElem_mem hk', by rw [List.getD_eq_getElem?_getD, List.getElem?_eq_getElem hk'] at hn; simp only [Option.getD_some] at hn; rw [hn]; decide⟩
      rw [fnB_cons]
      rw [this, Bool.and_false, Bool.false_and]
theorem fn_yes {l : List Nat} (h : ∀ j, j < l.length → okF l j = true) : fnB l = (decide (1 ≤ l.length) && decide (l.length ≤ 40)) := by
  cases l with
  | nil => rfl
  | cons c r =>
    have h0 := h 0 (by simp)
    unfold okF at h0
    simp only [List.getD_cons_zero, decide_eq_false (Nat.lt_irrefl 0), Bool.false_and, Bool.or_false] at h0
    have ha : r.all nmC = true := fn_all fun j hj => by
      have := h (j + 1) (by simpa using hj)
      unfold okF at this
      simp only [List.getD_cons_succ, decide_eq_true (Nat.succ_pos j), Bool.true_and] at this
      unfold nmC
      rw [Bool.or_assoc]; exact this
    rw [fnB_cons]
    rw [h0, ha]
    simp
    omega
def hd32 : List Nat → Bool
  | [] => false
  | c :: _ => decide (c = 32)
def lnOk (l : List Nat) : Bool := !lowB l && !decide (l = [])
def valL : List (List Nat) → Bool
  | [] => false
  | f :: r => !lowB f && !hd32 f && r.all lnOk
theorem valL_cons (f : List Nat) (r : List (List Nat)) : valL (f :: r) = (!lowB f && !hd32 f && r.all lnOk) := rfl
def valB (v : List Nat) : Bool := valL (cutBy 10 v)
theorem valL_no {L : List (List Nat)} {k : Nat} (hk : k < L.length) (h : lowB L[k] = true ∨ (0 < k ∧ L[k] = [])) : valL L = false := by
  cases L with
  | nil => rfl
  | cons f r =>
    cases k with
    | zero =>
      rcases h with h | h
      · rw [valL_cons]
        rw [show lowB f = true from h]; rfl
      · exact absurd h.1 (Nat.lt_irrefl 0)
    | succ k =>
      have hk' : k < r.length := by simpa using hk
      simp only [List.getElem_cons_succ] at h
      have : r.all lnOk = false := by
        rw [List.all_eq_false]
        refine ⟨r[k], List.getElem_mem hk', ?_⟩
        unfold lnOk
        rcases h with h | h
        · rw [h]; simp
        · rw [h.2]; simp
      rw [valL_cons]
      rw [this, Bool.and_false]
theorem valL_hd {L : List (List Nat)} (h0 : 0 < L.length) (h : hd32 L[0] = true) : valL L = false := by
  cases L with
  | nil => rfl
  | cons f r =>
    rw [valL_cons]
    rw [show hd32 f = true from h]; simp
theorem valL_yes {L : List (List Nat)} (h0 : 0 < L.length) (h : ∀ k (hk : k < L.length), lowB L[k] = false ∧ (0 < k → L[k] ≠ [])) : valL L = !hd32 L[0] := by
  cases L with
  | nil => exact absurd h0 (by simp)
  | cons f r =>
    have hf := (h 0 (by simp)).1
    simp only [List.getElem_cons_zero] at hf
    have ha : r.all lnOk = true := by
      rw [List.all_eq_true]
      intro x hx
      obtain ⟨j, hj, rfl⟩ := List.getElem_of_mem hx
      obtain ⟨h1, h2⟩ := h (j + 1) (by simpa using hj)
      simp only [List.getElem_cons_succ] at h1 h2
      unfold lnOk
      rw [h1, decide_eq_false (h2 (Nat.succ_pos _))]; rfl
    rw [valL_cons]
    rw [hf, ha]; simp
def bodyT : List (List Nat) → List Nat
  | [] => []
  | f :: r => (if f = [] then [] else 32 :: f) ++ 10 :: (r.map fun l => 32 :: (l ++ [10])).flatten
def fldT (f : Fd) : List Nat := B f.n ++ 58 :: bodyT (cutBy 10 (B f.v))
theorem body_join (f : List Nat) (r : List (List Nat)) : bodyT (f :: r) = (if f = [] then [] else [32]) ++ (joinL [10, 32] (f :: r) ++ [10]) := by
  have key : ∀ (r : List (List Nat)) (f : List Nat), f ++ 10 :: (r.map fun l => 32 :: (l ++ [10])).flatten = joinL [10, 32] (f :: r) ++ [10] := by
    intro r
    induction r with
    | nil => intro f; simp [joinL]
    | cons x r ih =>
      intro f
      rw [show joinL [10, 32] (f :: x :: r) = f ++ ([10, 32] ++ joinL [10, 32] (x :: r)) from rfl]
      have := ih x
      rw [List.map_cons, List.flatten_cons, List.append_assoc, List.append_assoc, ← this]
      simp
  rw [← key r f]
  show (if f = [] then [] else 32 :: f) ++ _ = _
  by_cases h : f = []
  · rw [if_pos h, if_pos h, h]; rfl
  · rw [if_neg h, if_neg h]; rfl
def stT (st : List Fd) : List Nat := (st.map fldT).flatten
def txL (L : List (List Fd)) : List Nat := joinL [10] (L.map stT)
def noDup : List Fd → List Fd → Bool
  | _, [] => true
  | seen, f :: r => !getV seen f.n && noDup (seen ++ [f]) r
def fdR (f : Fd) : Bool := fnB (B f.n) && valB (B f.v)
def fdP (f : Fd) : Bool := fnB (B f.n) && (decide (f.v.size ≤ 60000) && valB (B f.v))
def stzR (st : List Fd) : Bool := st.all fdR && noDup [] st && (decide (1 ≤ st.length) && decide (st.length ≤ 40))
def stzP (st : List Fd) : Bool := st.all fdP && noDup [] st && (decide (1 ≤ st.length) && decide (st.length ≤ 40))
def okR (L : List (List Fd)) : Bool := L.all stzR && (decide (L.length ≤ 200) && decide ((txL L).length ≤ 60000))
def okP (L : List (List Fd)) : Bool := L.all stzP && (decide (L.length ≤ 200) && decide ((txL L).length ≤ 60000))
theorem all_eq {α : Type} {p q : α → Bool} {l : List α} (h : ∀ x ∈ l, p x = q x) : l.all p = l.all q := by
  induction l with
  | nil => rfl
  | cons x r ih => rw [List.all_cons, List.all_cons, h x (by simp), ih fun y hy => h y (by simp [hy])]
theorem okP_eq {L : List (List Fd)} (h : ∀ st ∈ L, ∀ f ∈ st, f.v.size ≤ 60000) : okP L = okR L := by
  unfold okP okR
  rw [all_eq (q := stzR) fun st hst => by
    unfold stzP stzR
    rw [all_eq (q := fdR) fun f hf => by unfold fdP fdR; rw [decide_eq_true (h st hst f hf), Bool.true_and]]]
def ptT (L : List (List Fd)) (i : Nat) : List Nat := if i = 0 then [] else joinL [10] ((L.take i).map stT) ++ [10]
theorem joinL_pre (sep : List Nat) : ∀ (a b : List (List Nat)), joinL sep a <+: joinL sep (a ++ b)
  | [], b => List.nil_prefix
  | [x], [] => List.prefix_rfl
  | [x], y :: r => List.prefix_append _ _
  | x :: y :: r, b => by
    have ih := joinL_pre sep (y :: r) b
    rw [List.cons_append, List.cons_append]
    simp only [joinL]
    exact (List.prefix_append_right_inj _).2 ((List.prefix_append_right_inj _).2 ih)
theorem pt_next {L : List (List Fd)} {i : Nat} (hi : i < L.length) : ptT L i ++ stT L[i] = joinL [10] ((L.take (i + 1)).map stT) := by
  rw [List.take_succ_eq_append_getElem hi, List.map_append, List.map_singleton, joinL_snoc]
  unfold ptT
  by_cases h : i = 0
  · rw [if_pos h, if_pos (by simp [h])]; rfl
  · rw [if_neg h, if_neg (by intro e; have := congrArg List.length e; rw [List.length_map, List.length_take] at this; simp only [List.length_nil] at this; omega)]; simp
theorem pt_len {L : List (List Fd)} {i k : Nat} (hi : i < L.length) : (ptT L i ++ stT (L[i].take k)).length ≤ (txL L).length := by
  have h1 : ptT L i ++ stT (L[i].take k) <+: ptT L i ++ stT L[i] := by
    refine (List.prefix_append_right_inj _).2 ?_
    conv => rhs; rw [← List.take_append_drop k L[i]]
    unfold stT
    rw [List.map_append, List.flatten_append]; exact List.prefix_append _ _
  rw [pt_next hi] at h1
  have h2 : joinL [10] ((L.take (i + 1)).map stT) <+: txL L := by
    unfold txL
    conv => rhs; rw [← List.take_append_drop (i + 1) L, List.map_append]
    exact joinL_pre _ _ _
  exact (h1.trans h2).length_le
theorem stT_snoc (st : List Fd) (k : Nat) (hk : k < st.length) : stT (st.take (k + 1)) = stT (st.take k) ++ fldT st[k] := by
  unfold stT
  rw [List.take_succ_eq_append_getElem hk, List.map_append, List.flatten_append]; simp
theorem noDup_step {st : List Fd} {k : Nat} (hk : k < st.length) : noDup (st.take k) (st.drop k) = (!getV (st.take k) st[k].n && noDup (st.take (k + 1)) (st.drop (k + 1))) := by
  rw [List.drop_eq_getElem_cons hk, List.take_succ_eq_append_getElem hk]; rfl
theorem okP_long {L : List (List Fd)} (h : 200 < L.length) : okP L = false := by unfold okP; rw [decide_eq_false (by omega)]; simp
theorem okP_stz {L : List (List Fd)} {k : Nat} (hk : k < L.length) (h : stzP L[k] = false) : okP L = false := by
  have : L.all stzP = false := by rw [List.all_eq_false]; exact ⟨L[k], List.getElem_mem hk, by rw [h]; decide⟩
  unfold okP; rw [this]; rfl
theorem okP_big {L : List (List Fd)} (h : 60000 < (txL L).length) : okP L = false := by unfold okP; rw [decide_eq_false (show ¬ (txL L).length ≤ 60000 by omega)]; simp
end Go.Proofs.YtmlakjemgmeffaaGreatDoor
end
