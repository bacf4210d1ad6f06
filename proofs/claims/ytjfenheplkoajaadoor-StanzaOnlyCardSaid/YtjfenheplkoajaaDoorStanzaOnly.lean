/- keelsonlaw5.StanzaOnly: called with any arguments that can be read it returns true, and its arguments read as before. Condition: the library variables that the row lists hold what the program text lays in them, which the card ties to that text. -/
import Derived.Test.YtjfenheplkoajaaDoorS5z
import Derived.Test.YtjfenheplkoajaaDoorS5m
import Derived.Test.YtjfenheplkoajaaDoorS5l
import Derived.Test.YtjfenheplkoajaaDoorS5k
import Derived.Test.YtjfenheplkoajaaDoorOpenF
import Derived.Test.YtjfenheplkoajaaDoorDeep4
import Derived.Test.YtjfenheplkoajaaDoorDoor5
import Derived.WalkKit
import Derived.ProofKit
import Derived.OpenShut
import Derived.SevenTiedAt
import Derived.Outline
set_option maxRecDepth 100000
set_option linter.unusedVariables false
set_option linter.unusedSimpArgs false
namespace Go.Proofs.YtjfenheplkoajaaDoor.stanzaOnly
open Go.ChangeShapes Go.WideShapes Go.ChangeAt Go.RowKit

theorem put_names {n v : ByteArray} : ∀ {l : List Fd}, ∀ f ∈ putF n v l, f.n = n ∨ ∃ g ∈ l, g.n = f.n
  | [], f, hf => by
    have : f = ⟨n, v⟩ := by simpa [putF] using hf
    exact .inl (by rw [this])
  | g :: r, f, hf => by
    unfold putF at hf
    by_cases h : g.n = n
    · rw [if_pos h] at hf
      rcases List.mem_cons.1 hf with rfl | hf
      · exact .inl h
      · exact .inr ⟨f, List.mem_cons_of_mem _ hf, rfl⟩
    · rw [if_neg h] at hf
      rcases List.mem_cons.1 hf with rfl | hf
      · exact .inr ⟨f, List.mem_cons_self, rfl⟩
      · rcases put_names f hf with e | ⟨g', hg', e⟩
        · exact .inl e
        · exact .inr ⟨g', List.mem_cons_of_mem _ hg', e⟩
theorem one_str {w : World} {S : Nat → Prop} {b : Nat} {s : ByteArray} {T : TypeId} (hb : w.heap[b]? = some (.cells #[.string s] T (0, 0))) (hS : S b) : rdStrs w S [B s] [.slice (some ⟨b, 0, none⟩) 1 1] :=
  rd_block rdStr_good (S := S) (l := [B s]) (css := [[.string s]]) hb hS rfl rfl (fun k hk => by
    simp only [List.length_singleton] at hk
    obtain rfl : k = 0 := by omega
    exact ⟨_, rfl, _, rfl, rfl⟩) (by simp)
theorem only_of {l : List Fd} {ns : List (List Nat)} (h : ∀ f ∈ l, B f.n ∈ ns) : onlyL l ns = true := by
  unfold onlyL
  rw [List.all_eq_true]
  intro f hf
  rw [List.any_eq_true]
  exact ⟨_, h f hf, decide_eq_true rfl⟩
theorem of_only {l : List Fd} {ns : List (List Nat)} (h : onlyL l ns = true) : ∀ f ∈ l, B f.n ∈ ns := by
  unfold onlyL at h
  rw [List.all_eq_true] at h
  intro f hf
  obtain ⟨x, hx, e⟩ := List.any_eq_true.1 (h f hf)
  rw [← of_decide_eq_true e]; exact hx
theorem only_put {l : List Fd} {ns : List (List Nat)} {n v : ByteArray} (h : ∀ f ∈ l, B f.n ∈ ns) : onlyL (putF n v l) (ns ++ [B n]) = true := by
  refine only_of fun f hf => ?_
  rcases put_names f hf with e | ⟨g, hg, e⟩
  · rw [e]; simp
  · rw [← e]; exact List.mem_append_left _ (h g hg)
theorem only5_is {l : List Fd} {ns : List (List Nat)} (h : onlyL l ns = true) (A A' : Option Addr) (n c n' c' : Nat) (w : World) (hr : rdFds w (lt_ w.heap.size) l [.slice A n c]) (hn : rdStrs w (lt_ w.heap.size) ns [.slice A' n' c'])
    (hf : ∀ f ∈ l, f.n.size ≤ maxLen) (hs : ∀ x ∈ ns, x.length ≤ maxLen) :
    Calls Tryd.prog 26 #[.slice A n c, .slice A' n' c'] w fun e w' => e = .returned (.bool true) ∧ Below w.heap.size w w' := by
  have := only5_any A A' n c n' c' l ns w hr hn hf hs
  rwa [h] at this
set_option maxHeartbeats 16000000 in
theorem walk (A : Option Addr) (n c : Nat) (l : List Fd) (A2 : Option Addr) (n2 c2 : Nat) (ns : List (List Nat)) (nm : ByteArray) (w : World) (hr : rdFds w (lt_ w.heap.size) l [.slice A n c]) (hk : ∀ f ∈ l, FdOk f) (hn : rdStrs w (lt_ w.heap.size) ns [.slice A2 n2 c2]) (hs : ∀ x ∈ ns, x.length ≤ maxLen) (hnm : nm.size ≤ maxLen) (E : Env5 w) :
    Calls Tryd.prog 8 #[.slice A n c, .slice A2 n2 c2, .string nm] w fun e w' => e = .returned (.bool true) ∧ Below w.heap.size w w' := by
  obtain ⟨rfl, _, hcm, _⟩ := rdFds_at hr
  obtain ⟨rfl, _, hcm2, _⟩ := rdStrs_at hn
  have hcm' : c ≤ 9223372036854775807 := hcm
  have hcm2' : c2 ≤ 9223372036854775807 := hcm2
  clear hcm hcm2
  have HE := Lib.hid E
  have S := Lib.hid (fun w E => shown5_any w E)
  have HR := Lib.hid hr
  have HN := Lib.hid hn
  have HF := Lib.hid (fun f hf => (hk f hf).1)
  have HS := Lib.hid hs
  have HNM := Lib.hid hnm
  clear E hr hk hn hs hnm
  by_cases g1 : (60 : Int) < (l.length : Int)
  · have S := S
    go_enter Tryd.func8, Tryd.ntmps8
    have B0 := Lib.hid (Below.refl w.heap.size w)
    go_wp2_with fail
    refine (S.out _ (HE.out.below B0.out HE.out.pos)).mono ?_
    rintro e' w1 ⟨rfl, hb⟩
    have C1 := Lib.hid (bel2 B0.out hb (Nat.le_refl _))
    clear hb
    go_wp2
    go_ret
    exact ⟨rfl, C1.out⟩
  by_cases g2 : (60 : Int) < (ns.length : Int)
  · have S := S
    go_enter Tryd.func8, Tryd.ntmps8
    have B0 := Lib.hid (Below.refl w.heap.size w)
    go_wp2_with fail
    refine (S.out _ (HE.out.below B0.out HE.out.pos)).mono ?_
    rintro e' w1 ⟨rfl, hb⟩
    have C1 := Lib.hid (bel2 B0.out hb (Nat.le_refl _))
    clear hb
    go_wp2
    go_ret
    exact ⟨rfl, C1.out⟩
  have HL := Lib.hid (show l.length ≤ 100000 by omega)
  have HNL := Lib.hid (show ns.length ≤ 100000 by omega)
  obtain ⟨i0, hi, hz0, hz1, hz2⟩ := info_parts str_info
  go_enter Tryd.func8, Tryd.ntmps8
  have B0 := Lib.hid (Below.refl w.heap.size w)
  go_wp2_with fail
  refine (S.out _ (HE.out.below B0.out HE.out.pos)).mono ?_
  rintro e' w1 ⟨rfl, hb⟩
  have C1 := Lib.hid (bel2 B0.out hb (Nat.le_refl _))
  clear hb
  have H1 := Lib.hid (rdFds_good.up (rdFds_good.below HR.out C1.out) C1.out.size)
  have N1 := Lib.hid (rdStrs_good.up (rdStrs_good.below HN.out C1.out) C1.out.size)
  have C1 := Lib.hid C1.out
  obtain ⟨OWN, hown⟩ : ∃ OWN, (l.map fun f => B f.n) = OWN := ⟨_, rfl⟩
  have HOW := Lib.hid hown
  have HOL := Lib.hid (show OWN.length = l.length by rw [← hown, List.length_map])
  have OK := Lib.hid (fun (k : Nat) (hk : k < l.length) => (show OWN.take (k + 1) = OWN.take k ++ [B l[k].n] by rw [← hown, ← List.map_take, ← List.map_take]; exact take_snoc (fun f : Fd => B f.n) l k hk))
  clear hown
  go_wp2
  go_loopw [8, 9, 10, 11, 12] (fun v al i f j wr => ∃ k : Nat, k ≤ l.length ∧ i = .int .i64 k ∧ al = .bool ((l.take k).all fun f => ns.any fun x => decide (x = B f.n)) ∧ Grow rdStr 1 (fun _ => True) wr w1.heap.size 9 v (OWN.take k) ∧ Below w1.heap.size w1 wr) (fun _ _ i _ _ _ => l.length - (intOf i).toNat)
  case atStart => exact ⟨0, Nat.zero_le _, rfl, rfl, Grow.nil _ _ _ _, Below.refl _ _⟩
  case round =>
    obtain ⟨k, hk, rfl, rfl, hG, hbel⟩ := hrel
    obtain ⟨AO, cO, hv, _, hcO⟩ := hG.own
    have hcO' : cO ≤ 9223372036854775807 := hcO
    clear hcO
    rw [show (OWN.take k).length = k by rw [List.length_take]; have := HOL.out; omega] at hv
    subst hv
    by_cases hlt : k < l.length
    · have AS := Lib.hid (all_snoc (fun f => ns.any fun x => decide (x = B f.n)) l k hlt)
      have MS := Lib.hid (OK.out k hlt)
      obtain ⟨_, _, _, ha⟩ := rdFds_at (rdFds_good.below H1.out hbel)
      obtain ⟨ad, rfl, had, x0, _⟩ := ha k hlt
      have hE : rdStr wr (fun b => True ∧ b < wr.heap.size ∧ (Value.slice AO k cO).ownBlock ≠ some b) (B l[k].n) (#[Value.string l[k].n] : Array Value).toList := ⟨_, rfl, rfl⟩
      have hp : (OWN.take k).length + 1 ≤ maxLen := by have := HL.out; rw [List.length_take]; unfold maxLen; omega
      have hq : ((OWN.take k).length + 1) * 16 ≤ 140737488355328 := by have := HL.out; rw [List.length_take]; omega
      have hz := hbel.size
      have hki : (k : Int) < (l.length : Int) := by omega
      have HB := Lib.hid hbel
      clear ha hbel
      go_wp2_with (at_builtin; refine wpList_grow1 wr rfl _ _ 40 rfl rdStr_good (by decide) (fun _ => True) w1.heap.size 9 i0 (.string { data := #[] }) 16 Tryd.underlying40 hi hz0 hz1 hz2 rfl (.slice AO k cO) _ rfl hG (B l[k].n) _ 9 hE _ rfl rfl hp hq hz ?_)
      intro v2 w2 hG2 hg2
      rw [← MS.out] at hG2
      have HB2 := Lib.hid (grow_below hG hg2 HB.out (Nat.le_refl _) hz)
      have HG2 := Lib.hid hG2
      clear hG hg2 hE hp hq hz hG2 x0 MS
      go_wp2
      go_loopw [11, 12] (fun f j wr => ∃ q : Nat, q ≤ ns.length ∧ j = .int .i64 q ∧ f = .bool ((ns.take q).any fun x => decide (x = B l[k].n)) ∧ Dr w2 wr) (fun _ j _ => ns.length - (intOf j).toNat)
      case atStart => exact ⟨0, Nat.zero_le _, rfl, rfl, Dr.refl _⟩
      case round =>
        obtain ⟨q, hq, rfl, rfl, hdr⟩ := hrel
        by_cases hlq : q < ns.length
        · obtain ⟨_, _, _, ha⟩ := rdFds_at (rdFds_good.below H1.out (HB2.out.trans (hdr.below _)))
          obtain ⟨_, _, _, hb⟩ := rdStrs_at (rdStrs_good.below N1.out (HB2.out.trans (hdr.below _)))
          obtain ⟨ad1, ead, had, c0, _⟩ := ha k hlt
          injection ead with ead
          subst ead
          obtain ⟨ad', s, rfl, had', g0, hB⟩ := hb q hlq
          have SN := Lib.hid (any_snoc (fun x => decide (x = B l[k].n)) ns q hlq)
          have HD2 := Lib.hid hdr
          clear ha hb hdr
          have he := str_eq s l[k].n
          have hde : decide (ns[q] = B l[k].n) = decide (s = l[k].n) := by
            rw [← hB, decide_eq_decide]
            exact ⟨fun h => B_inj h, fun h => by rw [h]⟩
          rw [hde] at SN
          clear hde hB
          generalize decide (s = l[k].n) = eqb at *
          generalize hfb : ((ns.take q).any fun x => decide (x = B l[k].n)) = fb at *
          have HFB := Lib.hid hfb
          clear hfb
          cases fb
          · go_wp2_with fail
            go_quiet (fail)
            go_wp2
            go_roundw
            case rel => exact ⟨q + 1, by omega, by go_num, by rw [SN.out]; try rfl, HD2.out.more _⟩
            case measure => simp [intOf]; omega
          · go_wp2_with fail
            go_quiet (fail)
            go_wp2
            go_roundw
            case rel => exact ⟨q + 1, by omega, by go_num, by rw [SN.out]; try rfl, HD2.out.more _⟩
            case measure => simp [intOf]; omega
        · obtain rfl : q = ns.length := by omega
          rw [List.take_length]
          have HD2 := Lib.hid hdr
          clear hdr
          generalize hfb : (ns.any fun x => decide (x = B l[k].n)) = fb at *
          have HFB := Lib.hid hfb
          clear hfb
          generalize hab : ((l.take k).all fun f => ns.any fun x => decide (x = B f.n)) = ab at *
          have HAB := Lib.hid hab
          clear hab
          have X := Lib.hid (HD2.out.below w2.heap.size)
          cases ab
          · go_wp2
            go_roundw
            case rel => exact ⟨k + 1, by omega, by go_num, by rw [AS.out]; try rfl, HG2.out.below rdStr_good X.out, HB2.out.trans (X.out.mono HB2.out.size)⟩
            case measure => simp [intOf]; omega
          · go_wp2
            go_roundw
            case rel => exact ⟨k + 1, by omega, by go_num, by rw [AS.out]; try rfl, HG2.out.below rdStr_good X.out, HB2.out.trans (X.out.mono HB2.out.size)⟩
            case measure => simp [intOf]; omega
    · obtain rfl : k = l.length := by omega
      rw [← HOL.out, List.take_length] at hG
      rw [List.take_length]
      have CW := Lib.hid (C1.out.trans (hbel.mono C1.out.size))
      have CW1 := Lib.hid hbel
      have RO := Lib.hid (show rdStrs wr (lt_ wr.heap.size) OWN [.slice AO l.length cO] by have := hG.read rdStr_good; rw [HOL.out] at this; exact this)
      have hown := HOW.out
      have HLO := Lib.hid (show OWN.length ≤ 100000 by have := HL.out; have := HOL.out; omega)
      have O2 := Lib.hid (show onlyL l OWN = true by rw [← hown]; exact only_of fun f hf => List.mem_map_of_mem hf)
      have O3 := Lib.hid (show onlyL [] ns = true from rfl)
      have HSO := Lib.hid (show ∀ x ∈ OWN, x.length ≤ maxLen by
        rw [← hown]
        intro x hx
        obtain ⟨f, hf, rfl⟩ := List.mem_map.1 hx
        rw [B_len]; exact HF.out f hf)
      have HSO2 := Lib.hid (show ∀ x ∈ OWN ++ [B nm], x.length ≤ maxLen by
        intro x hx
        rcases List.mem_append.1 hx with hx | hx
        · exact HSO.out x hx
        · rw [List.mem_singleton.1 hx, B_len]; exact HNM.out)
      have HSW := Lib.hid (show ∀ x ∈ ns ++ [B nm], x.length ≤ maxLen by
        intro x hx
        rcases List.mem_append.1 hx with hx | hx
        · exact HS.out x hx
        · rw [List.mem_singleton.1 hx, B_len]; exact HNM.out)
      obtain ⟨t, ht⟩ : ∃ t, putF nm { data := #[120] } l = t := ⟨_, rfl⟩
      have HT := Lib.hid ht
      have HFM := Lib.hid (show ∀ f ∈ t, f.n.size ≤ maxLen by
        rw [← ht]
        intro f hf
        rcases put_names f hf with e | ⟨g, hg, e⟩
        · rw [e]; exact HNM.out
        · rw [← e]; exact HF.out g hg)
      have O5 := Lib.hid (show onlyL t (OWN ++ [B nm]) = true by rw [← ht]; exact only_put (of_only O2.out))
      have O4' := Lib.hid (fun (h : onlyL l ns = true) => (show onlyL t (ns ++ [B nm]) = true by rw [← ht]; exact only_put (of_only h)))
      rw [show (l.all fun f => ns.any fun x => decide (x = B f.n)) = onlyL l ns from rfl]
      clear hown ht hG hbel
      cases hab : onlyL l ns
      · have HAB := Lib.hid hab
        clear hab O4'
        have KO := Lib.hid (fun A A' n c n' c' w hr hn hf hs => (show Calls Tryd.prog 26 #[.slice A n c, .slice A' n' c'] w fun e w' => e = .returned (.bool false) ∧ Below w.heap.size w w' by have := only5_any A A' n c n' c' l ns w hr hn hf hs; rwa [HAB.out] at this))
        have DR := Lib.hid (Below.refl wr.heap.size wr)
        go_wp2_with fail
        refine (put5_any A l.length c l nm { data := #[120] } _ (rdFds_good.up (rdFds_good.below H1.out CW1.out) CW1.out.size) HL.out).mono ?_
        rintro e' w3 ⟨⟨A3, n3, c3, rfl, hr3⟩, hb⟩
        rw [HT.out] at hr3
        have hn3 := (rdFds_at hr3).1
        subst hn3
        have R3 := Lib.hid hr3
        clear hr3
        have C101 := Lib.hid (bel2 CW.out hb (Nat.le_refl _))
        have C102 := Lib.hid (bel2 CW1.out hb (Nat.le_refl _))
        have C103 := Lib.hid (bel2 DR.out hb (Nat.le_refl _))
        clear hb
        have D3 := Lib.hid (Below.refl w3.heap.size w3)
        have hb6 := (Below.refl w3.heap.size w3).alloc (Nat.le_refl _) (.cells #[] 9)
        have hG6 := Grow.empty (E := rdStr) (sz := 1) (fun _ => True) (W := (w3.alloc (.cells #[] 9))) (base := w3.heap.size) (heap_alloc_new w3 _) (Nat.le_refl _)
        have hX6 := rdStrs_good.below (rdStrs_good.up (rdStrs_good.below N1.out C102.out) C102.out.size) hb6
        have hS6 : ∀ b, lt_ w3.heap.size b → True ∧ b < (w3.alloc (.cells #[] 9)).heap.size ∧ (Value.slice (some ⟨w3.heap.size, 0, none⟩) 0 0).ownBlock ≠ some b := fun b hb => ⟨trivial, by rw [World.size_alloc]; unfold lt_ at hb; omega, fun hh => by simp only [Value.ownBlock, Option.some.injEq] at hh; unfold lt_ at hb; omega⟩
        have hz6 : w3.heap.size ≤ (w3.alloc (.cells #[] 9)).heap.size := by rw [World.size_alloc]; omega
        have hp6 : ([] : List (List Nat)).length + (ns).length ≤ maxLen := by have := HNL.out; simp only [List.length_nil]; unfold maxLen; omega
        have hq6 : (([] : List (List Nat)).length + (ns).length) * 16 ≤ 140737488355328 := by have := HNL.out; simp only [List.length_nil]; omega
        have HB6 := Lib.hid hb6
        clear hb6
        go_wp2_with (at_builtin; refine wpList_growN (w3.alloc (.cells #[] 9)) rfl _ _ 40 40 rfl rdStr_good (by decide) (fun _ => True) w3.heap.size 9 9 i0 (.string { data := #[] }) 16 Tryd.underlying40 Tryd.underlying40 hi hz0 hz1 hz2 rfl _ _ rfl hG6 (ns) _ A2 ns.length c2 rfl hX6 hS6 hp6 hq6 hz6 ?_)
        intro v6 x6 g6 y6
        have HX6 := Lib.hid (grow_below hG6 y6 HB6.out (Nat.le_refl _) hz6)
        clear hG6 hX6 hS6 hz6 hp6 hq6 y6
        obtain ⟨B6', d6, hv6, _, hm6⟩ := g6.own
        have hm6' : d6 ≤ 9223372036854775807 := hm6
        clear hm6
        try rw [List.nil_append] at hv6
        subst hv6
        have ge6 : Grow rdStr 1 (fun _ => True) x6 w3.heap.size 9 (.slice B6' (ns).length d6) (ns) := g6
        have he6 : rdStr x6 (fun b => True ∧ b < x6.heap.size ∧ (Value.slice B6' (ns).length d6).ownBlock ≠ some b) (B nm) (#[Value.string nm] : Array Value).toList := ⟨nm, rfl, rfl⟩
        have hp6 : (ns).length + 1 ≤ maxLen := by have := HNL.out; unfold maxLen; omega
        have hq6 : ((ns).length + 1) * 16 ≤ 140737488355328 := by have := HNL.out; omega
        have hz6 : w3.heap.size ≤ x6.heap.size := HX6.out.size
        clear g6
        go_wp2_with (at_builtin; refine wpList_grow1 x6 rfl _ _ 40 rfl rdStr_good (by decide) (fun _ => True) w3.heap.size 9 i0 (.string { data := #[] }) 16 Tryd.underlying40 hi hz0 hz1 hz2 rfl (.slice B6' (ns).length d6) (ns) rfl ge6 (B nm) _ 9 he6 _ rfl rfl hp6 hq6 hz6 ?_)
        intro z6 w6 g6 y6
        have hb := grow_below ge6 y6 HX6.out (Nat.le_refl _) hz6
        obtain ⟨A6, c6, hv6, _, hm6⟩ := g6.own
        have hm6' : c6 ≤ 9223372036854775807 := hm6
        clear hm6
        rw [List.length_append, List.length_singleton] at hv6
        subst hv6
        have R6 := Lib.hid (g6.read rdStr_good)
        clear ge6 he6 y6 g6 hp6 hq6 hz6 HX6 HB6
        have C104 := Lib.hid (bel2 C101.out hb (Nat.le_refl _))
        have C105 := Lib.hid (bel2 C102.out hb (Nat.le_refl _))
        have C106 := Lib.hid (bel2 C103.out hb (Nat.le_refl _))
        have C107 := Lib.hid (bel2 D3.out hb (Nat.le_refl _))
        clear hb
        have E6 := Lib.hid (Below.refl w6.heap.size w6)
        go_wp2_with fail
        refine (KO.out A A2 l.length c ns.length c2 _ (rdFds_good.up (rdFds_good.below H1.out C105.out) C105.out.size) (rdStrs_good.up (rdStrs_good.below N1.out C105.out) C105.out.size) HF.out HS.out).mono ?_
        rintro e' w7 ⟨rfl, hb⟩
        have C108 := Lib.hid (bel2 C104.out hb (Nat.le_refl _))
        have C109 := Lib.hid (bel2 C105.out hb (Nat.le_refl _))
        have C110 := Lib.hid (bel2 C106.out hb (Nat.le_refl _))
        have C111 := Lib.hid (bel2 C107.out hb (Nat.le_refl _))
        have C112 := Lib.hid (bel2 E6.out hb (Nat.le_refl _))
        clear hb
        go_wp2_with fail
        refine (only5_is O2.out A AO l.length c l.length cO _ (rdFds_good.up (rdFds_good.below H1.out C109.out) C109.out.size) (rdStrs_good.up (rdStrs_good.below RO.out C110.out) C110.out.size) HF.out HSO.out).mono ?_
        rintro e' w8 ⟨rfl, hb⟩
        have C113 := Lib.hid (bel2 C108.out hb (Nat.le_refl _))
        have C114 := Lib.hid (bel2 C109.out hb (Nat.le_refl _))
        have C115 := Lib.hid (bel2 C110.out hb (Nat.le_refl _))
        have C116 := Lib.hid (bel2 C111.out hb (Nat.le_refl _))
        have C117 := Lib.hid (bel2 C112.out hb (Nat.le_refl _))
        clear hb
        go_wp2_with fail
        refine (only5_is O3.out none A2 0 0 ns.length c2 _ (rdRow_nil _ _) (rdStrs_good.up (rdStrs_good.below N1.out C114.out) C114.out.size) (fun f hf => by cases hf) HS.out).mono ?_
        rintro e' w9 ⟨rfl, hb⟩
        have C118 := Lib.hid (bel2 C113.out hb (Nat.le_refl _))
        have C119 := Lib.hid (bel2 C114.out hb (Nat.le_refl _))
        have C120 := Lib.hid (bel2 C115.out hb (Nat.le_refl _))
        have C121 := Lib.hid (bel2 C116.out hb (Nat.le_refl _))
        have C122 := Lib.hid (bel2 C117.out hb (Nat.le_refl _))
        clear hb
        have hb11 := (Below.refl w9.heap.size w9).alloc (Nat.le_refl _) (.cells #[] 9)
        have hG11 := Grow.empty (E := rdStr) (sz := 1) (fun _ => True) (W := (w9.alloc (.cells #[] 9))) (base := w9.heap.size) (heap_alloc_new w9 _) (Nat.le_refl _)
        have hX11 := rdStrs_good.below (rdStrs_good.up (rdStrs_good.below RO.out C120.out) C120.out.size) hb11
        have hS11 : ∀ b, lt_ w9.heap.size b → True ∧ b < (w9.alloc (.cells #[] 9)).heap.size ∧ (Value.slice (some ⟨w9.heap.size, 0, none⟩) 0 0).ownBlock ≠ some b := fun b hb => ⟨trivial, by rw [World.size_alloc]; unfold lt_ at hb; omega, fun hh => by simp only [Value.ownBlock, Option.some.injEq] at hh; unfold lt_ at hb; omega⟩
        have hz11 : w9.heap.size ≤ (w9.alloc (.cells #[] 9)).heap.size := by rw [World.size_alloc]; omega
        have hp11 : ([] : List (List Nat)).length + (OWN).length ≤ maxLen := by have := HLO.out; simp only [List.length_nil]; unfold maxLen; omega
        have hq11 : (([] : List (List Nat)).length + (OWN).length) * 16 ≤ 140737488355328 := by have := HLO.out; simp only [List.length_nil]; omega
        have HB11 := Lib.hid hb11
        clear hb11
        go_wp2_with (at_builtin; refine Go.BigFrame.wpList_want (by rfl) fun K hK => ?_; refine wp_growN (w9.alloc (.cells #[] 9)) _ _ 40 40 rfl rdStr_good (by decide) (fun _ => True) w9.heap.size 9 9 i0 (.string { data := #[] }) 16 Tryd.underlying40 Tryd.underlying40 hi hz0 hz1 hz2 rfl _ _ rfl hG11 (OWN) _ AO l.length cO rfl hX11 hS11 hp11 hq11 hz11 ?_)
        intro v11 x11 g11 y11 _
        refine hK _ _ ?_
        clear hK K
        have HX11 := Lib.hid (grow_below hG11 y11 HB11.out (Nat.le_refl _) hz11)
        clear hG11 hX11 hS11 hz11 hp11 hq11 y11
        obtain ⟨B11', d11, hv11, _, hm11⟩ := g11.own
        have hm11' : d11 ≤ 9223372036854775807 := hm11
        clear hm11
        try rw [List.nil_append] at hv11
        subst hv11
        have ge11 : Grow rdStr 1 (fun _ => True) x11 w9.heap.size 9 (.slice B11' (OWN).length d11) (OWN) := g11
        have hZ11 : Below x11.heap.size x11 (x11.alloc (.cells #[.string nm] 9)) := (Below.refl _ _).alloc (Nat.le_refl _) _
        have gf11 := ge11.below rdStr_good hZ11
        have hX11 := one_str (S := fun b => b = x11.heap.size) (new_heap x11 (.cells #[.string nm] 9)) rfl
        have hS11 : ∀ b, b = x11.heap.size → True ∧ b < (x11.alloc (.cells #[.string nm] 9)).heap.size ∧ (Value.slice B11' (OWN).length d11).ownBlock ≠ some b := fun b hb => ⟨trivial, by rw [World.size_alloc]; omega, fun hh => by have := (ge11.lt b hh).2; omega⟩
        have hp11 : (OWN).length + [B nm].length ≤ maxLen := by have := HLO.out; simp only [List.length_singleton]; unfold maxLen; omega
        have hq11 : ((OWN).length + [B nm].length) * 16 ≤ 140737488355328 := by have := HLO.out; simp only [List.length_singleton]; omega
        have hz11 : w9.heap.size ≤ (x11.alloc (.cells #[.string nm] 9)).heap.size := by rw [World.size_alloc]; exact Nat.le_succ_of_le HX11.out.size
        have HY11 := Lib.hid (HX11.out.alloc HX11.out.size (.cells #[.string nm] 9))
        clear g11 hZ11 ge11
        go_wp2_with (at_builtin; refine Go.BigFrame.wpList_want (by rfl) fun K hK => ?_; refine wp_growN (x11.alloc (.cells #[.string nm] 9)) _ _ 40 40 rfl rdStr_good (by decide) (fun _ => True) w9.heap.size 9 9 i0 (.string { data := #[] }) 16 Tryd.underlying40 Tryd.underlying40 hi hz0 hz1 hz2 rfl (.slice B11' (OWN).length d11) (OWN) rfl gf11 [B nm] _ (some ⟨x11.heap.size, 0, none⟩) 1 1 rfl hX11 hS11 hp11 hq11 hz11 ?_)
        intro z11 w11 g11 y11 _
        refine hK _ _ ?_
        clear hK K
        have hb := grow_below gf11 y11 HY11.out (Nat.le_refl _) hz11
        obtain ⟨A11, c11, hv11, _, hm11⟩ := g11.own
        have hm11' : c11 ≤ 9223372036854775807 := hm11
        clear hm11
        rw [List.length_append, List.length_singleton] at hv11
        subst hv11
        have R11 := Lib.hid (g11.read rdStr_good)
        clear gf11 hX11 hS11 y11 g11 hp11 hq11 hz11 HX11 HY11 HB11
        have C123 := Lib.hid (bel2 C118.out hb (Nat.le_refl _))
        have C124 := Lib.hid (bel2 C119.out hb (Nat.le_refl _))
        have C125 := Lib.hid (bel2 C120.out hb (Nat.le_refl _))
        have C126 := Lib.hid (bel2 C121.out hb (Nat.le_refl _))
        have C127 := Lib.hid (bel2 C122.out hb (Nat.le_refl _))
        clear hb
        have E11 := Lib.hid (Below.refl w11.heap.size w11)
        go_wp2_with fail
        refine (only5_is O5.out A3 A11 _ c3 (OWN.length + 1) c11 _ (rdFds_good.up (rdFds_good.below R3.out C126.out) C126.out.size) (rdStrs_good.up (rdStrs_good.below R11.out E11.out) E11.out.size) HFM.out HSO2.out).mono ?_
        rintro e' w12 ⟨rfl, hb⟩
        have C128 := Lib.hid (bel2 C123.out hb (Nat.le_refl _))
        have C129 := Lib.hid (bel2 C124.out hb (Nat.le_refl _))
        have C130 := Lib.hid (bel2 C125.out hb (Nat.le_refl _))
        have C131 := Lib.hid (bel2 C126.out hb (Nat.le_refl _))
        have C132 := Lib.hid (bel2 C127.out hb (Nat.le_refl _))
        have C133 := Lib.hid (bel2 E11.out hb (Nat.le_refl _))
        clear hb
        go_wp2
        go_ret
        exact ⟨rfl, C128.out⟩
      · have O4 := Lib.hid (O4'.out hab)
        have KO := Lib.hid (fun A A' n c n' c' w hr hn hf hs => only5_is hab A A' n c n' c' w hr hn hf hs)
        clear hab O4'
        have DR := Lib.hid (Below.refl wr.heap.size wr)
        go_wp2_with fail
        refine (put5_any A l.length c l nm { data := #[120] } _ (rdFds_good.up (rdFds_good.below H1.out CW1.out) CW1.out.size) HL.out).mono ?_
        rintro e' w3 ⟨⟨A3, n3, c3, rfl, hr3⟩, hb⟩
        rw [HT.out] at hr3
        have hn3 := (rdFds_at hr3).1
        subst hn3
        have R3 := Lib.hid hr3
        clear hr3
        have C101 := Lib.hid (bel2 CW.out hb (Nat.le_refl _))
        have C102 := Lib.hid (bel2 CW1.out hb (Nat.le_refl _))
        have C103 := Lib.hid (bel2 DR.out hb (Nat.le_refl _))
        clear hb
        have D3 := Lib.hid (Below.refl w3.heap.size w3)
        have hb6 := (Below.refl w3.heap.size w3).alloc (Nat.le_refl _) (.cells #[] 9)
        have hG6 := Grow.empty (E := rdStr) (sz := 1) (fun _ => True) (W := (w3.alloc (.cells #[] 9))) (base := w3.heap.size) (heap_alloc_new w3 _) (Nat.le_refl _)
        have hX6 := rdStrs_good.below (rdStrs_good.up (rdStrs_good.below N1.out C102.out) C102.out.size) hb6
        have hS6 : ∀ b, lt_ w3.heap.size b → True ∧ b < (w3.alloc (.cells #[] 9)).heap.size ∧ (Value.slice (some ⟨w3.heap.size, 0, none⟩) 0 0).ownBlock ≠ some b := fun b hb => ⟨trivial, by rw [World.size_alloc]; unfold lt_ at hb; omega, fun hh => by simp only [Value.ownBlock, Option.some.injEq] at hh; unfold lt_ at hb; omega⟩
        have hz6 : w3.heap.size ≤ (w3.alloc (.cells #[] 9)).heap.size := by rw [World.size_alloc]; omega
        have hp6 : ([] : List (List Nat)).length + (ns).length ≤ maxLen := by have := HNL.out; simp only [List.length_nil]; unfold maxLen; omega
        have hq6 : (([] : List (List Nat)).length + (ns).length) * 16 ≤ 140737488355328 := by have := HNL.out; simp only [List.length_nil]; omega
        have HB6 := Lib.hid hb6
        clear hb6
        go_wp2_with (at_builtin; refine wpList_growN (w3.alloc (.cells #[] 9)) rfl _ _ 40 40 rfl rdStr_good (by decide) (fun _ => True) w3.heap.size 9 9 i0 (.string { data := #[] }) 16 Tryd.underlying40 Tryd.underlying40 hi hz0 hz1 hz2 rfl _ _ rfl hG6 (ns) _ A2 ns.length c2 rfl hX6 hS6 hp6 hq6 hz6 ?_)
        intro v6 x6 g6 y6
        have HX6 := Lib.hid (grow_below hG6 y6 HB6.out (Nat.le_refl _) hz6)
        clear hG6 hX6 hS6 hz6 hp6 hq6 y6
        obtain ⟨B6', d6, hv6, _, hm6⟩ := g6.own
        have hm6' : d6 ≤ 9223372036854775807 := hm6
        clear hm6
        try rw [List.nil_append] at hv6
        subst hv6
        have ge6 : Grow rdStr 1 (fun _ => True) x6 w3.heap.size 9 (.slice B6' (ns).length d6) (ns) := g6
        have he6 : rdStr x6 (fun b => True ∧ b < x6.heap.size ∧ (Value.slice B6' (ns).length d6).ownBlock ≠ some b) (B nm) (#[Value.string nm] : Array Value).toList := ⟨nm, rfl, rfl⟩
        have hp6 : (ns).length + 1 ≤ maxLen := by have := HNL.out; unfold maxLen; omega
        have hq6 : ((ns).length + 1) * 16 ≤ 140737488355328 := by have := HNL.out; omega
        have hz6 : w3.heap.size ≤ x6.heap.size := HX6.out.size
        clear g6
        go_wp2_with (at_builtin; refine wpList_grow1 x6 rfl _ _ 40 rfl rdStr_good (by decide) (fun _ => True) w3.heap.size 9 i0 (.string { data := #[] }) 16 Tryd.underlying40 hi hz0 hz1 hz2 rfl (.slice B6' (ns).length d6) (ns) rfl ge6 (B nm) _ 9 he6 _ rfl rfl hp6 hq6 hz6 ?_)
        intro z6 w6 g6 y6
        have hb := grow_below ge6 y6 HX6.out (Nat.le_refl _) hz6
        obtain ⟨A6, c6, hv6, _, hm6⟩ := g6.own
        have hm6' : c6 ≤ 9223372036854775807 := hm6
        clear hm6
        rw [List.length_append, List.length_singleton] at hv6
        subst hv6
        have R6 := Lib.hid (g6.read rdStr_good)
        clear ge6 he6 y6 g6 hp6 hq6 hz6 HX6 HB6
        have C104 := Lib.hid (bel2 C101.out hb (Nat.le_refl _))
        have C105 := Lib.hid (bel2 C102.out hb (Nat.le_refl _))
        have C106 := Lib.hid (bel2 C103.out hb (Nat.le_refl _))
        have C107 := Lib.hid (bel2 D3.out hb (Nat.le_refl _))
        clear hb
        have E6 := Lib.hid (Below.refl w6.heap.size w6)
        go_wp2_with fail
        refine (KO.out A A2 l.length c ns.length c2 _ (rdFds_good.up (rdFds_good.below H1.out C105.out) C105.out.size) (rdStrs_good.up (rdStrs_good.below N1.out C105.out) C105.out.size) HF.out HS.out).mono ?_
        rintro e' w7 ⟨rfl, hb⟩
        have C108 := Lib.hid (bel2 C104.out hb (Nat.le_refl _))
        have C109 := Lib.hid (bel2 C105.out hb (Nat.le_refl _))
        have C110 := Lib.hid (bel2 C106.out hb (Nat.le_refl _))
        have C111 := Lib.hid (bel2 C107.out hb (Nat.le_refl _))
        have C112 := Lib.hid (bel2 E6.out hb (Nat.le_refl _))
        clear hb
        go_wp2_with fail
        refine (only5_is O2.out A AO l.length c l.length cO _ (rdFds_good.up (rdFds_good.below H1.out C109.out) C109.out.size) (rdStrs_good.up (rdStrs_good.below RO.out C110.out) C110.out.size) HF.out HSO.out).mono ?_
        rintro e' w8 ⟨rfl, hb⟩
        have C113 := Lib.hid (bel2 C108.out hb (Nat.le_refl _))
        have C114 := Lib.hid (bel2 C109.out hb (Nat.le_refl _))
        have C115 := Lib.hid (bel2 C110.out hb (Nat.le_refl _))
        have C116 := Lib.hid (bel2 C111.out hb (Nat.le_refl _))
        have C117 := Lib.hid (bel2 C112.out hb (Nat.le_refl _))
        clear hb
        go_wp2_with fail
        refine (only5_is O3.out none A2 0 0 ns.length c2 _ (rdRow_nil _ _) (rdStrs_good.up (rdStrs_good.below N1.out C114.out) C114.out.size) (fun f hf => by cases hf) HS.out).mono ?_
        rintro e' w9 ⟨rfl, hb⟩
        have C118 := Lib.hid (bel2 C113.out hb (Nat.le_refl _))
        have C119 := Lib.hid (bel2 C114.out hb (Nat.le_refl _))
        have C120 := Lib.hid (bel2 C115.out hb (Nat.le_refl _))
        have C121 := Lib.hid (bel2 C116.out hb (Nat.le_refl _))
        have C122 := Lib.hid (bel2 C117.out hb (Nat.le_refl _))
        clear hb
        go_wp2_with fail
        refine (only5_is O4.out A3 A6 _ c3 (ns.length + 1) c6 _ (rdFds_good.up (rdFds_good.below R3.out C121.out) C121.out.size) (rdStrs_good.up (rdStrs_good.below R6.out C122.out) C122.out.size) HFM.out HSW.out).mono ?_
        rintro e' w10 ⟨rfl, hb⟩
        have C123 := Lib.hid (bel2 C118.out hb (Nat.le_refl _))
        have C124 := Lib.hid (bel2 C119.out hb (Nat.le_refl _))
        have C125 := Lib.hid (bel2 C120.out hb (Nat.le_refl _))
        have C126 := Lib.hid (bel2 C121.out hb (Nat.le_refl _))
        have C127 := Lib.hid (bel2 C122.out hb (Nat.le_refl _))
        clear hb
        have hb11 := (Below.refl w10.heap.size w10).alloc (Nat.le_refl _) (.cells #[] 9)
        have hG11 := Grow.empty (E := rdStr) (sz := 1) (fun _ => True) (W := (w10.alloc (.cells #[] 9))) (base := w10.heap.size) (heap_alloc_new w10 _) (Nat.le_refl _)
        have hX11 := rdStrs_good.below (rdStrs_good.up (rdStrs_good.below RO.out C125.out) C125.out.size) hb11
        have hS11 : ∀ b, lt_ w10.heap.size b → True ∧ b < (w10.alloc (.cells #[] 9)).heap.size ∧ (Value.slice (some ⟨w10.heap.size, 0, none⟩) 0 0).ownBlock ≠ some b := fun b hb => ⟨trivial, by rw [World.size_alloc]; unfold lt_ at hb; omega, fun hh => by simp only [Value.ownBlock, Option.some.injEq] at hh; unfold lt_ at hb; omega⟩
        have hz11 : w10.heap.size ≤ (w10.alloc (.cells #[] 9)).heap.size := by rw [World.size_alloc]; omega
        have hp11 : ([] : List (List Nat)).length + (OWN).length ≤ maxLen := by have := HLO.out; simp only [List.length_nil]; unfold maxLen; omega
        have hq11 : (([] : List (List Nat)).length + (OWN).length) * 16 ≤ 140737488355328 := by have := HLO.out; simp only [List.length_nil]; omega
        have HB11 := Lib.hid hb11
        clear hb11
        go_wp2_with (at_builtin; refine Go.BigFrame.wpList_want (by rfl) fun K hK => ?_; refine wp_growN (w10.alloc (.cells #[] 9)) _ _ 40 40 rfl rdStr_good (by decide) (fun _ => True) w10.heap.size 9 9 i0 (.string { data := #[] }) 16 Tryd.underlying40 Tryd.underlying40 hi hz0 hz1 hz2 rfl _ _ rfl hG11 (OWN) _ AO l.length cO rfl hX11 hS11 hp11 hq11 hz11 ?_)
        intro v11 x11 g11 y11 _
        refine hK _ _ ?_
        clear hK K
        have HX11 := Lib.hid (grow_below hG11 y11 HB11.out (Nat.le_refl _) hz11)
        clear hG11 hX11 hS11 hz11 hp11 hq11 y11
        obtain ⟨B11', d11, hv11, _, hm11⟩ := g11.own
        have hm11' : d11 ≤ 9223372036854775807 := hm11
        clear hm11
        try rw [List.nil_append] at hv11
        subst hv11
        have ge11 : Grow rdStr 1 (fun _ => True) x11 w10.heap.size 9 (.slice B11' (OWN).length d11) (OWN) := g11
        have hZ11 : Below x11.heap.size x11 (x11.alloc (.cells #[.string nm] 9)) := (Below.refl _ _).alloc (Nat.le_refl _) _
        have gf11 := ge11.below rdStr_good hZ11
        have hX11 := one_str (S := fun b => b = x11.heap.size) (new_heap x11 (.cells #[.string nm] 9)) rfl
        have hS11 : ∀ b, b = x11.heap.size → True ∧ b < (x11.alloc (.cells #[.string nm] 9)).heap.size ∧ (Value.slice B11' (OWN).length d11).ownBlock ≠ some b := fun b hb => ⟨trivial, by rw [World.size_alloc]; omega, fun hh => by have := (ge11.lt b hh).2; omega⟩
        have hp11 : (OWN).length + [B nm].length ≤ maxLen := by have := HLO.out; simp only [List.length_singleton]; unfold maxLen; omega
        have hq11 : ((OWN).length + [B nm].length) * 16 ≤ 140737488355328 := by have := HLO.out; simp only [List.length_singleton]; omega
        have hz11 : w10.heap.size ≤ (x11.alloc (.cells #[.string nm] 9)).heap.size := by rw [World.size_alloc]; exact Nat.le_succ_of_le HX11.out.size
        have HY11 := Lib.hid (HX11.out.alloc HX11.out.size (.cells #[.string nm] 9))
        clear g11 hZ11 ge11
        go_wp2_with (at_builtin; refine Go.BigFrame.wpList_want (by rfl) fun K hK => ?_; refine wp_growN (x11.alloc (.cells #[.string nm] 9)) _ _ 40 40 rfl rdStr_good (by decide) (fun _ => True) w10.heap.size 9 9 i0 (.string { data := #[] }) 16 Tryd.underlying40 Tryd.underlying40 hi hz0 hz1 hz2 rfl (.slice B11' (OWN).length d11) (OWN) rfl gf11 [B nm] _ (some ⟨x11.heap.size, 0, none⟩) 1 1 rfl hX11 hS11 hp11 hq11 hz11 ?_)
        intro z11 w11 g11 y11 _
        refine hK _ _ ?_
        clear hK K
        have hb := grow_below gf11 y11 HY11.out (Nat.le_refl _) hz11
        obtain ⟨A11, c11, hv11, _, hm11⟩ := g11.own
        have hm11' : c11 ≤ 9223372036854775807 := hm11
        clear hm11
        rw [List.length_append, List.length_singleton] at hv11
        subst hv11
        have R11 := Lib.hid (g11.read rdStr_good)
        clear gf11 hX11 hS11 y11 g11 hp11 hq11 hz11 HX11 HY11 HB11
        have C128 := Lib.hid (bel2 C123.out hb (Nat.le_refl _))
        have C129 := Lib.hid (bel2 C124.out hb (Nat.le_refl _))
        have C130 := Lib.hid (bel2 C125.out hb (Nat.le_refl _))
        have C131 := Lib.hid (bel2 C126.out hb (Nat.le_refl _))
        have C132 := Lib.hid (bel2 C127.out hb (Nat.le_refl _))
        clear hb
        have E11 := Lib.hid (Below.refl w11.heap.size w11)
        go_wp2_with fail
        refine (only5_is O5.out A3 A11 _ c3 (OWN.length + 1) c11 _ (rdFds_good.up (rdFds_good.below R3.out C131.out) C131.out.size) (rdStrs_good.up (rdStrs_good.below R11.out E11.out) E11.out.size) HFM.out HSO2.out).mono ?_
        rintro e' w12 ⟨rfl, hb⟩
        have C133 := Lib.hid (bel2 C128.out hb (Nat.le_refl _))
        have C134 := Lib.hid (bel2 C129.out hb (Nat.le_refl _))
        have C135 := Lib.hid (bel2 C130.out hb (Nat.le_refl _))
        have C136 := Lib.hid (bel2 C131.out hb (Nat.le_refl _))
        have C137 := Lib.hid (bel2 C132.out hb (Nat.le_refl _))
        have C138 := Lib.hid (bel2 E11.out hb (Nat.le_refl _))
        clear hb
        go_wp2
        go_ret
        exact ⟨rfl, C133.out⟩

theorem contract (H : Type) (enc : TypeId × Value → H) (W : World) (base : Nat) (args : Array Value) (ds gs : List (DataW H)) (before : List MemPlace)
    (hval : ∀ (j : Nat) t v, Tryd.f8.params[j]? = some t → args[j]? = some v → Value.okWide Tryd.prog W .any base t v)
    (hW : DataW.Whole enc Tryd.prog Tryd.f8.params.toList Rows.stanzaOnlySpec.vars false W args.toList ds gs before) (E : Env5 W) :
    Calls Tryd.prog 8 args W fun e W' => ∃ v, e = .returned v ∧ Rows.stanzaOnlySpec.post enc Tryd.prog Tryd.f8 false true false false W args v W' := by
  have hW' := hW
  obtain ⟨p, q, hA0, _, _, _, _⟩ := hW
  have hA : DataW.TrodAll enc Tryd.prog W 0 (fun _ => true) true Tryd.f8.params.toList args.toList ds p := hA0
  rw [Tryd.params8] at hA hval
  obtain ⟨v0, vs0, d0, ds0, p0, q0, hargs, rfl, rfl, h0, r0⟩ := trodAll_cons hA
  obtain ⟨v1, vs1, d1, ds1, p1, q1, rfl, rfl, rfl, h1, r1⟩ := trodAll_cons r0
  obtain ⟨v2, vs2, d2, ds2, p2, q2, rfl, rfl, rfl, h2, r2⟩ := trodAll_cons r1
  obtain ⟨rfl, rfl, rfl⟩ := trodAll_nil r2
  obtain rfl : args = #[v0, v1, v2] := by cases args; simp_all
  obtain ⟨A0, n0, c0, L0, rfl, hr0, hk0⟩ := open_fds_arg (hval 0 39 v0 rfl rfl) h0
  obtain ⟨A1, n1, c1, L1, rfl, hr1, hk1⟩ := open_strs5_arg (hval 1 40 v1 rfl rfl) h1
  obtain ⟨s2, rfl, w2⟩ := open_str_arg (hval 2 9 v2 rfl rfl) h2
  refine (walk A0 n0 c0 L0 A1 n1 c1 L1 s2 W hr0 hk0 hr1 hk1 w2 E).mono fun e W' ⟨he, hb⟩ => ?_
  subst he
  refine ⟨_, rfl, law_post hW' rfl rfl rfl rfl rfl Tryd.underlying4 laid_out ?_ hb⟩
  rw [Tryd.params8]
  intro t ht
  simp at ht
  rcases ht with rfl | rfl | rfl <;> exact ⟨by kernel_rfl, of_decide_eq_true (by kernel_rfl)⟩

theorem reads (os : Os) {H : Type} (enc : TypeId × Value → H) : ∃ x, DataW.whole enc Tryd.prog ((World.laidAll Tryd.prog os laidL).forCall (fun _ _ => 0) ⟨#[], #[.slice none 0 0, .slice none 0 0, .string ⟨#[]⟩], []⟩).memory Tryd.f8.params.toList Rows.stanzaOnlySpec.vars false ((#[.slice none 0 0, .slice none 0 0, .string ⟨#[]⟩] : Array Value)).toList 8 = some x :=
  Option.isSome_iff_exists.1 (by kernel_rfl)
theorem readsSized (os : Os) {H : Type} (enc : TypeId × Value → H) : (OpenSpec.ofChange Rows.stanzaOnlySpec).bare.sizedB enc Tryd.prog Tryd.f8 false ((World.laidAll Tryd.prog os laidL).forCall (fun _ _ => 0) ⟨#[], #[.slice none 0 0, .slice none 0 0, .string ⟨#[]⟩], []⟩).memory #[.slice none 0 0, .slice none 0 0, .string ⟨#[]⟩] 8 = true := by kernel_rfl
theorem okWit (os : Os) : Input.okWideB Tryd.prog ((World.laidAll Tryd.prog os laidL).forCall (fun _ _ => 0) ⟨#[], #[.slice none 0 0, .slice none 0 0, .string ⟨#[]⟩], []⟩) 8 ⟨#[], #[.slice none 0 0, .slice none 0 0, .string ⟨#[]⟩], []⟩ = true := by kernel_rfl
theorem lifted (os : Os) (started : os.Started) (H : Type) (enc : TypeId × Value → H) (F : Stop.Interp) :
    ReturnsInHanded {} Tryd.checked os 8 .any ((OpenSpec.ofChange Rows.stanzaOnlySpec).preRow enc Tryd.prog Tryd.f8 Rows.stanzaOnlyRow.domain false Rows.stanzaOnlyRow.laid) (((OpenSpec.ofChange Rows.stanzaOnlySpec).at F).post enc Tryd.prog Tryd.f8 false true false false) := by
  obtain ⟨x, hx⟩ := reads os enc
  have hz := readsSized os enc
  refine returnsInHanded_of_row (C := Tryd.checked) (s := OpenSpec.ofChange Rows.stanzaOnlySpec) own' started (by kernel_rfl) Tryd.func8
    ⟨World.laidAll Tryd.prog os laidL, fun _ _ => 0, ⟨#[], #[.slice none 0 0, .slice none 0 0, .string ⟨#[]⟩], []⟩, door_os os, door_shaped os _, (Input.okWide_of_okWideB (base := 0) (okWit os)).1, (Input.okWide_of_okWideB (okWit os)).2,
      OpenSpec.preRow_of_cond 8 hx rfl (fun k hk => by cases hk) hz (door_met os _), by
        simp only [Assume.holds]
        exact ⟨by simp, by simp, fun _ => Modest.zero, by simp, by simp⟩⟩ ?_
  intro W base args ds gs before hval hW _ _ _ hL hsh _
  exact contract H enc W base args ds gs before hval hW (env5_of hL hsh)

theorem said : Rows.StanzaOnlySaid :=
  OpenClaim.holds_of_cond 8 Tryd.f8 rfl rfl rfl rfl rfl rfl rfl ⟨rfl, rfl, rfl, rfl, rfl⟩ rfl rfl rfl rfl rfl (by kernel_rfl) Tryd.func8 (by kernel_rfl)
    (of_decide_eq_true (by kernel_rfl)) (by unfold Func.isWrapper; first | (rw [if_pos (by decide +kernel)]; kernel_rfl) | (rw [if_neg (by decide +kernel)]; exact ⟨rfl, rfl⟩))
    (fun os started H enc _ F => by rw [OpenClaim.pre_eq_preRow]; exact lifted os started H enc F)

theorem proved : Rows.StanzaOnlyCardSaid :=
  Claim7.holds_tied_plain_at .later [] _ _ _ _ said (fun _ h => by cases h) (by kernel_rfl) (fun _ h => by cases h) stanzaOnly_row_tie rfl ⟨rfl, rfl⟩ (by kernel_rfl) rfl
    (fun f fn hf hfn => by
      obtain rfl : f = 8 := Option.some.inj ((show Tryd.prog.funcNamed "keelson/keelsonlaw5.StanzaOnly" = some 8 by kernel_rfl).symm.trans hf) |>.symm
      obtain rfl : fn = Tryd.f8 := (Option.some.inj (Tryd.func8.symm.trans hfn)).symm
      exact ⟨by kernel_rfl, fun j t ht => by
        rw [Tryd.params8] at ht
        have hm : t ∈ [39, 40, 9] := by have := Array.mem_of_getElem? ht; simp at this; simp [this]
        have hall : ([39, 40, 9].all fun u => !Tryd.prog.wantsStandIn u) = true := by kernel_rfl
        exact (show Tryd.prog.wantsStandIn t = false by simpa using List.all_eq_true.1 hall t hm)⟩)
    (by kernel_rfl)
#print axioms proved
end Go.Proofs.YtjfenheplkoajaaDoor.stanzaOnly
