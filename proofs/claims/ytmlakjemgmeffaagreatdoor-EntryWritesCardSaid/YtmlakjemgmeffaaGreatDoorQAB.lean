/- What the laws of this seat rest on: VerQ, Ver2. -/
import Derived.Test.YtmlakjemgmeffaaGreatDoorVer9Y
import Derived.Test.YtmlakjemgmeffaaGreatDoorNA
import Derived.Test.YtmlakjemgmeffaaGreatDoorVer1Y
import Derived.WalkLawsBesides
import Derived.WalkSpells
import Derived.Outline

section
set_option linter.unusedSimpArgs false
namespace Go.Proofs.YtmlakjemgmeffaaGreatDoor
open Go.RowKit
def trim0 : List Nat → List Nat
  | 48 :: 58 :: q => q
  | l => l
theorem trim0_is (l : List Nat) : (∃ q, l = 48 :: 58 :: q ∧ trim0 l = q) ∨ ((∀ q, l ≠ 48 :: 58 :: q) ∧ trim0 l = l) := by
  match l with
  | [] => exact .inr ⟨(fun _ h => by cases h), rfl⟩
  | [a] => exact .inr ⟨(fun _ h => by cases h), by unfold trim0; split <;> simp_all⟩
  | a :: b :: q =>
    by_cases h : a = 48 ∧ b = 58
    · obtain ⟨rfl, rfl⟩ := h
      exact .inl ⟨q, rfl, rfl⟩
    · refine .inr ⟨fun q' hq => h (by injection hq with h1 h2; injection h2 with h2 _; exact ⟨h1, h2⟩), ?_⟩
      unfold trim0
      split
      · rename_i q' hq
        exact absurd (by injection hq with h1 h2; injection h2 with h2 _; exact ⟨h1, h2⟩) h
      · rfl
theorem uint_dig : ∀ (l : List Nat) (acc : Nat), (∀ c ∈ l, digB c = true) → (acc + 1) * 10 ^ l.length ≤ 1000000000000 → Lib.parseUint10 acc (l.map UInt8.ofNat) = .ok (l.foldl (fun n c => 10 * n + (c - 48)) acc)
  | [], acc, _, _ => rfl
  | c :: l, acc, hd, hb => by
    have hc := digB_iff.1 (hd c (by simp))
    have e : (UInt8.ofNat c).toNat = c := by rw [UInt8.toNat_ofNat']; exact Nat.mod_eq_of_lt (by omega)
    have hp : 1 ≤ 10 ^ l.length := Nat.one_le_pow _ _ (by omega)
    have h10 : (acc + 1) * 10 ^ (l.length + 1) = (10 * acc + 10) * 10 ^ l.length := by rw [Nat.pow_succ, Nat.mul_comm (10 ^ l.length) 10, ← Nat.mul_assoc]; congr 1; omega
    have hb' : (acc + 1) * 10 ^ (l.length + 1) ≤ 1000000000000 := hb
    rw [h10] at hb'
    have hle : (10 * acc + (c - 48) + 1) * 10 ^ l.length ≤ 1000000000000 := Nat.le_trans (Nat.mul_le_mul_right _ (by omega)) hb'
    have hacc : 10 * acc + 10 ≤ 1000000000000 := Nat.le_trans (Nat.le_mul_of_pos_right _ hp) hb'
    simp only [List.map_cons, Lib.parseUint10, List.foldl_cons, e]
    rw [if_pos ⟨hc.1, hc.2⟩, if_neg (by omega), if_neg (by omega), show acc * 10 + (c - 48) = 10 * acc + (c - 48) by omega]
    exact uint_dig l _ (fun x hx => hd x (by simp [hx])) hle
theorem data_mk (l : List Nat) : (mk l).data.toList = l.map UInt8.ofNat := rfl
theorem atoi_num {p : List Nat} {n : Int} (h : numL p = n) (h0 : 0 ≤ n) : atoiV (mk p) = n := by
  unfold numL at h
  split at h
  · rename_i hc
    obtain ⟨hne, hlen, hall, hdec⟩ := hc
    have hd : ∀ c ∈ p, digB c = true := List.all_eq_true.1 hall
    have hlt := numV_lt p hd
    have hpow : 10 ^ p.length ≤ 10 ^ 9 := Nat.pow_le_pow_right (by omega) hlen
    have hU : Lib.parseMag (p.map UInt8.ofNat) = .ok (numV p) := by
      unfold Lib.parseMag
      rw [if_neg (by simpa using hne)]
      exact uint_dig p 0 hd (by omega)
    unfold atoiV
    rw [data_mk]
    match p, hne, hd, hU, h, hlt, hpow with
    | c :: q, _, hd, hU, h, hlt, hpow =>
      have hc := digB_iff.1 (hd c (by simp))
      have e : (UInt8.ofNat c).toNat = c := by rw [UInt8.toNat_ofNat']; exact Nat.mod_eq_of_lt (by omega)
      have hA : Lib.atoiAll ((c :: q).map UInt8.ofNat) = .ok (numV (c :: q) : Int) := by
        rw [List.map_cons] at hU ⊢
        simp only [Lib.atoiAll, e]
        rw [if_neg (by omega), hU]
        simp only
        rw [if_neg (by omega), if_neg (by omega), if_neg (by omega)]
      rw [hA]
      exact h
  · omega
theorem zero_num : numL [48] = 0 := by decide
theorem first_zero (q : List Nat) : firstI (48 :: 58 :: q) 0 = some 1 := rfl
theorem spl_zero {s : ByteArray} {q : List Nat} (h : B s = 48 :: 58 :: q) : splE s = 0 ∧ colE (B s) = 0 := by
  constructor
  · unfold splE; rw [h, first_zero]; exact atoi_num zero_num (by omega)
  · unfold colE; rw [h, first_zero]; exact zero_num
def devB (s : ByteArray) : Bool := rightB (splE s) (dashU (colU (B s))) (dashR (colU (B s))) && decide (trim0 (B s) = textL (splE s).toNat (dashU (colU (B s))) (dashR (colU (B s))))
theorem textL_zero (u r : List Nat) : textL 0 u r = u ++ (if r = [] then [] else 45 :: r) := by simp [textL]
theorem dev_is (s : ByteArray) : devB s = parseB (B s) ∧ (devB s = true → splE s = colE (B s)) := by
  have h1 : devB s = true → splE s = colE (B s) ∧ parseB (B s) = true := by
    intro h
    unfold devB at h
    simp only [Bool.and_eq_true, decide_eq_true_eq] at h
    obtain ⟨hr, ht⟩ := h
    rcases trim0_is (B s) with ⟨q, hq, e⟩ | ⟨_, e⟩
    · obtain ⟨z1, z2⟩ := spl_zero hq
      refine ⟨by rw [z1, z2], ?_⟩
      rw [z1] at hr ht
      unfold parseB
      rw [z2, hr, Bool.true_and, Bool.or_eq_true, decide_eq_true_eq, decide_eq_true_eq]
      rw [e] at ht
      exact .inr (by rw [← ht]; exact hq.symm)
    · rw [e] at ht
      have hc := (colons hr).1
      rw [← ht] at hc
      refine ⟨hc.symm, ?_⟩
      unfold parseB
      rw [hc, hr, Bool.true_and, Bool.or_eq_true, decide_eq_true_eq, decide_eq_true_eq]
      exact .inl ht.symm
  have h2 : parseB (B s) = true → devB s = true := by
    intro h
    unfold parseB at h
    simp only [Bool.and_eq_true, Bool.or_eq_true, decide_eq_true_eq] at h
    obtain ⟨hr, ht⟩ := h
    have h0 := (rightB_epoch hr).1
    have hE : splE s = colE (B s) := by
      unfold splE
      generalize hc : colE (B s) = c at *
      unfold colE at hc
      cases hf : firstI (B s) 0 with
      | none => rw [hf] at hc; exact hc
      | some i => rw [hf] at hc; exact atoi_num hc h0
    unfold devB
    rw [hE, hr, Bool.true_and, decide_eq_true_eq]
    rcases trim0_is (B s) with ⟨q, hq, e⟩ | ⟨hno, e⟩
    · obtain ⟨_, z2⟩ := spl_zero hq
      rw [e]
      rcases ht with ht | ht
      · exfalso
        have hc := (colons hr).2
        rw [z2] at hc ht
        rw [show (0 : Int).toNat = 0 from rfl] at hc ht
        rw [← textL_zero, ht] at hc
        rw [hq] at hc
        have : colU (48 :: 58 :: q) = q := rfl
        rw [this] at hc
        have := congrArg List.length hc
        simp at this
        omega
      · rw [hq] at ht
        injection ht with _ ht
        injection ht with _ ht
        rw [hq]
        exact ht.symm
    · rw [e]
      rcases ht with ht | ht
      · exact ht.symm
      · exact absurd ht.symm (hno _)
  refine ⟨?_, fun h => (h1 h).1⟩
  cases hd : devB s
  · cases hp : parseB (B s)
    · rfl
    · rw [h2 hp] at hd; cases hd
  · exact (h1 hd).2.symm
theorem trimP_is (s : ByteArray) : (⟨(Lib.trimPrefix s.data.toList [48, 58]).toArray⟩ : ByteArray) = mk (trim0 (B s)) := by
  apply eq_mk
  unfold Lib.trimPrefix Lib.hasPrefix B
  match hl : s.data.toList with
  | [] => rfl
  | [a] =>
    have : ([48, 58] : List UInt8).isPrefixOf [a] = false := by simp [List.isPrefixOf]
    rw [this]
    simp only [Bool.false_eq_true, if_false, List.map_cons, List.map_nil]
    unfold trim0; split <;> simp_all
  | a :: b :: q =>
    rcases trim0_is ((a :: b :: q).map UInt8.toNat) with ⟨q', hq, e⟩ | ⟨hno, e⟩
    · simp only [List.map_cons] at hq
      injection hq with h1 h2
      injection h2 with h2 h3
      have ha : a = 48 := UInt8.toNat_inj.1 h1
      have hb : b = 58 := UInt8.toNat_inj.1 h2
      subst ha; subst hb
      rw [e, ← h3]
      simp [List.isPrefixOf]
    · rw [e]
      have : ([48, 58] : List UInt8).isPrefixOf (a :: b :: q) = false := by
        rw [Bool.eq_false_iff]
        intro hh
        simp only [List.isPrefixOf, Bool.and_eq_true, beq_iff_eq] at hh
        exact hno (q.map UInt8.toNat) (by rw [← hh.1, ← hh.2.1]; rfl)
      rw [this]
      simp
end Go.Proofs.YtmlakjemgmeffaaGreatDoor
end

section
set_option maxRecDepth 100000
set_option linter.unusedVariables false
namespace Go.Proofs.YtmlakjemgmeffaaGreatDoor
open Go.RowKit
theorem cmpInt_any (x y : Int) (w : World) : Calls Tryz.prog 126 #[.int .i64 x, .int .i64 y] w fun e w' => e = .returned (.int .i64 (sgn (x - y))) ∧ w = w' := by
  have h0 : (x != x) = false := by simp
  have h1 : (y != y) = false := by simp
  rcases Int.lt_trichotomy x y with h | h | h
  · have X := Lib.hid (show sgn (x - y) = -1 by unfold sgn; rw [if_pos (by omega)])
    go_enter Tryz.func126, Tryz.ntmps126
    go_wp2
    go_ret
    exact ⟨by rw [X.out]; rfl, rfl⟩
  · have X := Lib.hid (show sgn (x - y) = 0 by unfold sgn; rw [if_neg (by omega), if_neg (by omega)])
    have a : ¬ x < y := by omega
    have b : ¬ y < x := by omega
    have H := Lib.hid h
    clear h
    go_enter Tryz.func126, Tryz.ntmps126
    go_wp2
    all_goals
      go_ret
      exact ⟨by rw [X.out]; rfl, rfl⟩
  · have X := Lib.hid (show sgn (x - y) = 1 by unfold sgn; rw [if_neg (by omega), if_pos (by omega)])
    have a : ¬ x < y := by omega
    go_enter Tryz.func126, Tryz.ntmps126
    go_wp2
    go_ret
    exact ⟨by rw [X.out]; rfl, rfl⟩
def orL : List Int → Int
  | [] => 0
  | x :: l => if x ≠ 0 then x else orL l
theorem orL_at : ∀ (l : List Int) (k : Nat), k < l.length → (∀ j, j < k → l.getD j 0 = 0) → l.getD k 0 ≠ 0 → orL l = l.getD k 0
  | [], k, h, _, _ => by simp at h
  | x :: l, 0, _, _, hne => by simp only [orL]; rw [if_pos (by simpa using hne)]; simp
  | x :: l, k + 1, h, hz, hne => by
    have h0 := hz 0 (by omega)
    simp only [List.getD_cons_zero] at h0
    simp only [orL]
    rw [if_neg (by simp [h0]), List.getD_cons_succ]
    exact orL_at l k (by simpa using h) (fun j hj => by have := hz (j + 1) (by omega); simpa using this) (by simpa using hne)
theorem orL_none : ∀ (l : List Int), (∀ j, j < l.length → l.getD j 0 = 0) → orL l = 0
  | [], _ => rfl
  | x :: l, hz => by
    have h0 := hz 0 (by simp)
    simp only [List.getD_cons_zero] at h0
    simp only [orL]
    rw [if_neg (by simp [h0])]
    exact orL_none l (fun j hj => by have := hz (j + 1) (by simpa using hj); simpa using this)
theorem or_any (g n : Nat) (l : List Int) (w : World) (hl : l.length = n) (hn : n ≤ 65536) (hc : ∀ k, k < n → w.cell? ⟨g, k, none⟩ = some (.int .i64 (l.getD k 0))) :
    Calls Tryz.prog 58 #[.slice (some ⟨g, 0, none⟩) n n] w fun e w' => e = .returned (.int .i64 (orL l)) ∧ w = w' := by
  have HL := Lib.hid hl
  have HC := Lib.hid hc
  clear hl hc
  go_enter Tryz.func58, Tryz.ntmps58
  go_wp2
  go_loop [5, 8] (fun _ i => ∃ k : Nat, k ≤ n ∧ i = .int .i64 k ∧ ∀ j, j < k → l.getD j 0 = 0) (fun _ i => n - (intOf i).toNat)
  case atStart => exact ⟨0, Nat.zero_le _, rfl, fun j hj => by omega⟩
  case round =>
    obtain ⟨k, hk', rfl, hno⟩ := hrel
    have HN := Lib.hid hno
    clear hno
    by_cases hlt : k < n
    · have c0 : w.cell? ⟨g, k, none⟩ = some (.int .i64 (l.getD k 0)) := HC.out k hlt
      by_cases hx : l.getD k 0 = 0
      · have HX := Lib.hid hx
        have t1 : (l.getD k 0 != 0) = false := by rw [bne_eq_false_iff_eq]; exact hx
        clear hx
        generalize hy : l.getD k 0 = y at *
        have HY := Lib.hid hy
        clear hy
        go_wp2
        go_round
        case rel => exact ⟨k + 1, by omega, by go_num, fun j hj => by rcases (by omega : j < k ∨ j = k) with h | rfl; exact HN.out j h; rw [HY.out]; exact HX.out⟩
        case measure => simp [intOf]; omega
      · have X := Lib.hid (orL_at l k (by rw [HL.out]; exact hlt) HN.out hx)
        have t1 : (l.getD k 0 != 0) = true := by rw [bne_iff_ne]; exact hx
        clear hx
        generalize l.getD k 0 = y at *
        go_wp2
        go_ret
        exact ⟨by rw [X.out]; rfl, rfl⟩
    · have X := Lib.hid (orL_none l (fun j hj => HN.out j (by rw [HL.out] at hj; omega)))
      go_wp2
      go_ret
      exact ⟨by rw [X.out]; rfl, rfl⟩
def vw : List Nat → Int
  | [] => 0
  | c :: _ => if c = 126 then -1 else if letB c then c else c + 256
theorem weigher_any (s : ByteArray) (w : World) : Calls Tryz.prog 196 #[.string s] w fun e w' => e = .returned (.func (.func 213) #[] #[.pointer (some ⟨w.heap.size, 0, none⟩)]) ∧ w' = w.alloc (.cells #[.string s] 9) := by
  have hmf : ∀ (fn : Fn) (first cap : Array Value) (w : World), (Instr.makeFunc fn first cap).run Tryz.prog w = .ok (.func fn first cap) w := fun _ _ _ _ => rfl
  go_enter Tryz.func196, Tryz.ntmps196
  go_wp2
  go_ret
  exact ⟨rfl, rfl⟩
theorem weigh_any (s : ByteArray) (k : Nat) (p : Addr) (w : World) (hc : w.cell? p = some (.string s)) :
    Calls Tryz.prog 213 #[.int .i64 (k : Int), .pointer (some p)] w fun e w' => e = .returned (.int .i64 (vw ((B s).drop k))) ∧ w = w' := by
  by_cases hk : k < s.size
  · have hl := byte_le s k hk
    have hd := Lib.hid (B_drop s k hk)
    have t0 : decide (s.size ≤ k) = false := by simp; omega
    by_cases h2 : s[k].toNat = 126
    · have t2 : ((s[k].toNat : Int) == 126) = true := by rw [beq_iff_eq]; omega
      have X := Lib.hid (show vw ((B s).drop k) = -1 by rw [hd.out]; simp [vw, h2])
      clear h2
      go_enter Tryz.func213, Tryz.ntmps213
      go_wp2
      go_ret
      exact ⟨by rw [X.out]; rfl, rfl⟩
    · have t2 : ((s[k].toNat : Int) == 126) = false := by rw [beq_eq_false_iff_ne]; omega
      cases h3 : letB s[k].toNat
      · have X := Lib.hid (show vw ((B s).drop k) = s[k].toNat + 256 by rw [hd.out]; simp [vw, h2, h3])
        clear h2
        go_enter Tryz.func213, Tryz.ntmps213
        go_wp2_with (go_at_call 175; refine (vletter_any _ _).mono ?_; rw [h3]; rintro e w' ⟨rfl, rfl⟩)
        go_ret
        exact ⟨by rw [X.out]; rfl, rfl⟩
      · have X := Lib.hid (show vw ((B s).drop k) = s[k].toNat by rw [hd.out]; simp [vw, h2, h3])
        clear h2
        go_enter Tryz.func213, Tryz.ntmps213
        go_wp2_with (go_at_call 175; refine (vletter_any _ _).mono ?_; rw [h3]; rintro e w' ⟨rfl, rfl⟩)
        go_ret
        exact ⟨by rw [X.out]; rfl, rfl⟩
  · have X := Lib.hid (show vw ((B s).drop k) = 0 by rw [B_drop_end s k (by omega)]; rfl)
    have t0 : decide (s.size ≤ k) = true := by simp; omega
    go_enter Tryz.func213, Tryz.ntmps213
    go_wp2
    go_ret
    exact ⟨by rw [X.out]; rfl, rfl⟩
def cwT : Nat → List Nat → List Nat → Int
  | 0, _, _ => 0
  | f + 1, a, b => if sgn (vw a - vw b) ≠ 0 then sgn (vw a - vw b) else cwT f (a.drop 1) (b.drop 1)
def cwL (a b : List Nat) : Int := cwT (max a.length b.length) a b
theorem cwT_step {m k : Nat} (hk : k < m) (a b : List Nat) : cwT (m - k) (a.drop k) (b.drop k) = if sgn (vw (a.drop k) - vw (b.drop k)) ≠ 0 then sgn (vw (a.drop k) - vw (b.drop k)) else cwT (m - (k + 1)) (a.drop (k + 1)) (b.drop (k + 1)) := by
  obtain ⟨f, hf⟩ : ∃ f, m - k = f + 1 := ⟨m - k - 1, by omega⟩
  rw [hf]
  simp only [cwT]
  rw [List.drop_drop, List.drop_drop, show f = m - (k + 1) by omega]
theorem words_lt (s t : ByteArray) (w : World) (hs : s.size ≤ 9223372036854775807) (ht : t.size ≤ 9223372036854775807) (h : s.size < t.size) :
    Calls Tryz.prog 168 #[.string s, .string t] w fun e w' => e = .returned (.int .i64 (cwL (B s) (B t))) ∧ Below w.heap.size w w' := by
  have hcf : ∀ (args : Array Value) (w : World), (callFunc 213 args).run Tryz.prog w = .ok (.enter 213 args) w := fun _ _ => by kernel_rfl
  have C := Lib.hid cmpInt_any
  have WS := Lib.hid (weigher_any s w)
  have WT := Lib.hid (weigher_any t (w.alloc (.cells #[.string s] 9)))
  have M := Lib.hid (show cwL (B s) (B t) = cwT (t.size - 0) ((B s).drop 0) ((B t).drop 0) by
    unfold cwL; rw [B_len, B_len, List.drop_zero, List.drop_zero, Nat.sub_zero]; congr 1; omega)
  go_enter Tryz.func168, Tryz.ntmps168
  go_wp2_with (first | (go_at_call 196; (with_reducible refine WS.out.mono ?_); rintro e w' ⟨rfl, rfl⟩) | (go_at_call 196; (with_reducible refine WT.out.mono ?_); rintro e w' ⟨rfl, rfl⟩))
  obtain ⟨V, hV⟩ : ∃ V, V = (w.alloc (.cells #[.string s] 9)).alloc (.cells #[.string t] 9) := ⟨_, rfl⟩
  have c0 : V.cell? ⟨w.heap.size, 0, none⟩ = some (.string s) := by rw [hV]; simp [go_sem]
  have c1 : V.cell? ⟨w.heap.size + 1, 0, none⟩ = some (.string t) := by rw [hV]; simp [go_sem]
  have hB : Below w.heap.size w V := by rw [hV]; exact ((Below.refl _ w).alloc (Nat.le_refl _) _).alloc (by simp) _
  rw [← hV]
  clear hV WS WT h
  go_loop [18] (fun i => ∃ k : Nat, k ≤ t.size ∧ i = .int .i64 k ∧ cwL (B s) (B t) = cwT (t.size - k) ((B s).drop k) ((B t).drop k)) (fun i => t.size - (intOf i).toNat)
  case atStart => exact ⟨0, Nat.zero_le _, rfl, M.out⟩
  case round =>
    obtain ⟨k, hk', rfl, hno⟩ := hrel
    have HN := Lib.hid hno
    clear hno M
    by_cases hlt : k < t.size
    · have ST := Lib.hid (cwT_step hlt (B s) (B t))
      have A1 := Lib.hid (weigh_any s k ⟨w.heap.size, 0, none⟩ V c0)
      have A2 := Lib.hid (weigh_any t k ⟨w.heap.size + 1, 0, none⟩ V c1)
      by_cases hx : sgn (vw ((B s).drop k) - vw ((B t).drop k)) = 0
      · have N2 := Lib.hid (show cwL (B s) (B t) = cwT (t.size - (k + 1)) ((B s).drop (k + 1)) ((B t).drop (k + 1)) by rw [HN.out, ST.out, if_neg (by simp [hx])])
        have t1 : (sgn (vw ((B s).drop k) - vw ((B t).drop k)) != 0) = false := by rw [bne_eq_false_iff_eq]; exact hx
        clear hx
        go_wp2_with (first | (go_at_call 213; (with_reducible refine A1.out.mono ?_); rintro e w' ⟨rfl, rfl⟩) | (go_at_call 213; (with_reducible refine A2.out.mono ?_); rintro e w' ⟨rfl, rfl⟩) | (go_at_call 126; (with_reducible refine (C.out _ _ _).mono ?_); rintro e w' ⟨rfl, rfl⟩))
        go_round
        case rel => exact ⟨k + 1, by omega, by go_num, N2.out⟩
        case measure => simp [intOf]; omega
      · have N2 := Lib.hid (show cwL (B s) (B t) = sgn (vw ((B s).drop k) - vw ((B t).drop k)) by rw [HN.out, ST.out, if_pos hx])
        have t1 : (sgn (vw ((B s).drop k) - vw ((B t).drop k)) != 0) = true := by rw [bne_iff_ne]; exact hx
        clear hx
        go_wp2_with (first | (go_at_call 213; (with_reducible refine A1.out.mono ?_); rintro e w' ⟨rfl, rfl⟩) | (go_at_call 213; (with_reducible refine A2.out.mono ?_); rintro e w' ⟨rfl, rfl⟩) | (go_at_call 126; (with_reducible refine (C.out _ _ _).mono ?_); rintro e w' ⟨rfl, rfl⟩))
        go_ret
        exact ⟨by rw [N2.out]; rfl, hB⟩
    · have N2 := Lib.hid (show cwL (B s) (B t) = 0 by rw [HN.out, show t.size - k = 0 by omega]; rfl)
      go_wp2
      go_ret
      exact ⟨by rw [N2.out]; rfl, hB⟩
theorem words_ge (s t : ByteArray) (w : World) (hs : s.size ≤ 9223372036854775807) (ht : t.size ≤ 9223372036854775807) (h : ¬ s.size < t.size) :
    Calls Tryz.prog 168 #[.string s, .string t] w fun e w' => e = .returned (.int .i64 (cwL (B s) (B t))) ∧ Below w.heap.size w w' := by
  have hcf : ∀ (args : Array Value) (w : World), (callFunc 213 args).run Tryz.prog w = .ok (.enter 213 args) w := fun _ _ => by kernel_rfl
  have C := Lib.hid cmpInt_any
  have WS := Lib.hid (weigher_any s w)
  have WT := Lib.hid (weigher_any t (w.alloc (.cells #[.string s] 9)))
  have M := Lib.hid (show cwL (B s) (B t) = cwT (s.size - 0) ((B s).drop 0) ((B t).drop 0) by
    unfold cwL; rw [B_len, B_len, List.drop_zero, List.drop_zero, Nat.sub_zero]; congr 1; omega)
  go_enter Tryz.func168, Tryz.ntmps168
  go_wp2_with (first | (go_at_call 196; (with_reducible refine WS.out.mono ?_); rintro e w' ⟨rfl, rfl⟩) | (go_at_call 196; (with_reducible refine WT.out.mono ?_); rintro e w' ⟨rfl, rfl⟩))
  obtain ⟨V, hV⟩ : ∃ V, V = (w.alloc (.cells #[.string s] 9)).alloc (.cells #[.string t] 9) := ⟨_, rfl⟩
  have c0 : V.cell? ⟨w.heap.size, 0, none⟩ = some (.string s) := by rw [hV]; simp [go_sem]
  have c1 : V.cell? ⟨w.heap.size + 1, 0, none⟩ = some (.string t) := by rw [hV]; simp [go_sem]
  have hB : Below w.heap.size w V := by rw [hV]; exact ((Below.refl _ w).alloc (Nat.le_refl _) _).alloc (by simp) _
  rw [← hV]
  clear hV WS WT h
  go_loop [18] (fun i => ∃ k : Nat, k ≤ s.size ∧ i = .int .i64 k ∧ cwL (B s) (B t) = cwT (s.size - k) ((B s).drop k) ((B t).drop k)) (fun i => s.size - (intOf i).toNat)
  case atStart => exact ⟨0, Nat.zero_le _, rfl, M.out⟩
  case round =>
    obtain ⟨k, hk', rfl, hno⟩ := hrel
    have HN := Lib.hid hno
    clear hno M
    by_cases hlt : k < s.size
    · have ST := Lib.hid (cwT_step hlt (B s) (B t))
      have A1 := Lib.hid (weigh_any s k ⟨w.heap.size, 0, none⟩ V c0)
      have A2 := Lib.hid (weigh_any t k ⟨w.heap.size + 1, 0, none⟩ V c1)
      by_cases hx : sgn (vw ((B s).drop k) - vw ((B t).drop k)) = 0
      · have N2 := Lib.hid (show cwL (B s) (B t) = cwT (s.size - (k + 1)) ((B s).drop (k + 1)) ((B t).drop (k + 1)) by rw [HN.out, ST.out, if_neg (by simp [hx])])
        have t1 : (sgn (vw ((B s).drop k) - vw ((B t).drop k)) != 0) = false := by rw [bne_eq_false_iff_eq]; exact hx
        clear hx
        go_wp2_with (first | (go_at_call 213; (with_reducible refine A1.out.mono ?_); rintro e w' ⟨rfl, rfl⟩) | (go_at_call 213; (with_reducible refine A2.out.mono ?_); rintro e w' ⟨rfl, rfl⟩) | (go_at_call 126; (with_reducible refine (C.out _ _ _).mono ?_); rintro e w' ⟨rfl, rfl⟩))
        go_round
        case rel => exact ⟨k + 1, by omega, by go_num, N2.out⟩
        case measure => simp [intOf]; omega
      · have N2 := Lib.hid (show cwL (B s) (B t) = sgn (vw ((B s).drop k) - vw ((B t).drop k)) by rw [HN.out, ST.out, if_pos hx])
        have t1 : (sgn (vw ((B s).drop k) - vw ((B t).drop k)) != 0) = true := by rw [bne_iff_ne]; exact hx
        clear hx
        go_wp2_with (first | (go_at_call 213; (with_reducible refine A1.out.mono ?_); rintro e w' ⟨rfl, rfl⟩) | (go_at_call 213; (with_reducible refine A2.out.mono ?_); rintro e w' ⟨rfl, rfl⟩) | (go_at_call 126; (with_reducible refine (C.out _ _ _).mono ?_); rintro e w' ⟨rfl, rfl⟩))
        go_ret
        exact ⟨by rw [N2.out]; rfl, hB⟩
    · have N2 := Lib.hid (show cwL (B s) (B t) = 0 by rw [HN.out, show s.size - k = 0 by omega]; rfl)
      go_wp2
      go_ret
      exact ⟨by rw [N2.out]; rfl, hB⟩
theorem words_any (s t : ByteArray) (w : World) (hs : s.size ≤ 9223372036854775807) (ht : t.size ≤ 9223372036854775807) :
    Calls Tryz.prog 168 #[.string s, .string t] w fun e w' => e = .returned (.int .i64 (cwL (B s) (B t))) ∧ Below w.heap.size w w' := by
  by_cases h : s.size < t.size
  · exact words_lt s t w hs ht h
  · exact words_ge s t w hs ht h
end Go.Proofs.YtmlakjemgmeffaaGreatDoor
end
