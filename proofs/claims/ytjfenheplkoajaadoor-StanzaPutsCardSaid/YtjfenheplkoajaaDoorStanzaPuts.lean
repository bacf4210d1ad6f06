/- keelsonlaw5.StanzaPuts: called with any arguments that can be read it returns true, and its arguments read as before. Condition: the library variables that the row lists hold what the program text lays in them, which the card ties to that text. -/
import Derived.Test.YtjfenheplkoajaaDoorS5z
import Derived.Test.YtjfenheplkoajaaDoorS5m
import Derived.Test.YtjfenheplkoajaaDoorS5l
import Derived.Test.YtjfenheplkoajaaDoorS5k
import Derived.Test.YtjfenheplkoajaaDoorOpenF
import Derived.Test.YtjfenheplkoajaaDoorDoor5
import Derived.WalkKit
import Derived.ProofKit
import Derived.OpenShut
import Derived.SevenTiedAt
import Derived.Outline
set_option maxRecDepth 100000
set_option linter.unusedVariables false
set_option linter.unusedSimpArgs false
namespace Go.Proofs.YtjfenheplkoajaaDoor.stanzaPuts
open Go.ChangeShapes Go.WideShapes Go.ChangeAt Go.RowKit

theorem put_get (n v : ByteArray) : ∀ l : List Fd, getV (putF n v l) n = true ∧ fstV (putF n v l) n = v
  | [] => by
    show getV [⟨n, v⟩] n = true ∧ fstV [⟨n, v⟩] n = v
    rw [getV_cons, fstV_cons, decide_eq_true rfl, if_pos rfl]; exact ⟨rfl, rfl⟩
  | f :: r => by
    unfold putF
    by_cases h : f.n = n
    · rw [if_pos h, getV_cons, fstV_cons, decide_eq_true h, if_pos h]; exact ⟨rfl, rfl⟩
    · rw [if_neg h, getV_cons, fstV_cons, decide_eq_false h, if_neg h, Bool.false_or]; exact put_get n v r
theorem put_other {n o : ByteArray} (h : o ≠ n) (v : ByteArray) : ∀ l : List Fd, getV (putF n v l) o = getV l o ∧ fstV (putF n v l) o = fstV l o
  | [] => by
    show getV [⟨n, v⟩] o = false ∧ fstV [⟨n, v⟩] o = _
    rw [getV_cons, fstV_cons, decide_eq_false (fun e => h e.symm), if_neg (fun e => h e.symm)]; exact ⟨rfl, rfl⟩
  | f :: r => by
    unfold putF
    by_cases hf : f.n = n
    · rw [if_pos hf, getV_cons, fstV_cons, getV_cons, fstV_cons, if_neg (fun e => h (e.symm.trans hf)), if_neg (fun e => h (e.symm.trans hf))]
      exact ⟨rfl, rfl⟩
    · rw [if_neg hf, getV_cons, fstV_cons, getV_cons, fstV_cons, (put_other h v r).1, (put_other h v r).2]; exact ⟨rfl, rfl⟩
theorem put_len (n v : ByteArray) : ∀ l : List Fd, (putF n v l).length = if getV l n = true then l.length else l.length + 1
  | [] => rfl
  | f :: r => by
    unfold putF
    by_cases hf : f.n = n
    · rw [if_pos hf, getV_cons, decide_eq_true hf, Bool.true_or, if_pos rfl]; rfl
    · rw [if_neg hf, getV_cons, decide_eq_false hf, Bool.false_or, List.length_cons, put_len n v r]
      split <;> rfl
theorem put_back {n : ByteArray} (v : ByteArray) : ∀ {l : List Fd}, getV l n = true → putF n (fstV l n) (putF n v l) = l
  | [], h => by simp [getV] at h
  | f :: r, h => by
    by_cases hf : f.n = n
    · have e : putF n v (f :: r) = ⟨f.n, v⟩ :: r := by unfold putF; rw [if_pos hf]
      rw [e, fstV_cons, if_pos hf]
      unfold putF
      rw [if_pos hf]
    · rw [getV_cons, decide_eq_false hf, Bool.false_or] at h
      have e : putF n v (f :: r) = f :: putF n v r := by conv => lhs; unfold putF; rw [if_neg hf]
      rw [e, fstV_cons, if_neg hf]
      conv => lhs; unfold putF
      rw [if_neg hf, put_back v h]
theorem put5_back {t l : List Fd} {nm wa : ByteArray} (hb : putF nm wa t = l) (A : Option Addr) (n c : Nat) (w : World) (h : rdFds w (lt_ w.heap.size) t [.slice A n c]) (hl : t.length ≤ 100000) :
    Calls Tryd.prog 24 #[.slice A n c, .string nm, .string wa] w fun e w' => (∃ A n c, e = .returned (.slice A n c) ∧ rdFds w' (lt_ w'.heap.size) l [.slice A n c]) ∧ Below w.heap.size w w' := by
  have := put5_any A n c t nm wa w h hl
  rwa [hb] at this
theorem get5_is {l : List Fd} {nm v : ByteArray} {b : Bool} (h1 : fstV l nm = v) (h2 : getV l nm = b) (A : Option Addr) (n c : Nat) (w : World) (h : rdFds w (lt_ w.heap.size) l [.slice A n c]) :
    Calls Tryd.prog 21 #[.slice A n c, .string nm] w fun e w' => e = .returned (.tuple #[.string v, .bool b]) ∧ Below w.heap.size w w' := by
  have := get5_any A n c l nm w h
  rwa [h1, h2] at this
theorem sf_self (A A' : Option Addr) (n c n' c' : Nat) (l : List Fd) (w : World) (h : rdFds w (lt_ w.heap.size) l [.slice A n c]) (h' : rdFds w (lt_ w.heap.size) l [.slice A' n' c']) :
    Calls Tryd.prog 23 #[.slice A n c, .slice A' n' c'] w fun e w' => e = .returned (.bool true) ∧ Dr w w' := by
  have := sameFields_any A A' n c n' c' l l w h h'
  rwa [decide_eq_true rfl] at this
set_option maxHeartbeats 8000000 in
theorem walk (A : Option Addr) (n c : Nat) (l : List Fd) (nm va ot : ByteArray) (w : World) (hr : rdFds w (lt_ w.heap.size) l [.slice A n c]) (hk : ∀ f ∈ l, FdOk f) (_ : nm.size ≤ maxLen) (_ : va.size ≤ maxLen) (_ : ot.size ≤ maxLen) (E : Env5 w) :
    Calls Tryd.prog 6 #[.slice A n c, .string nm, .string va, .string ot] w fun e w' => e = .returned (.bool true) ∧ Below w.heap.size w w' := by
  obtain ⟨rfl, _, hcm, _⟩ := rdFds_at hr
  have hcm' : c ≤ 9223372036854775807 := hcm
  clear hcm
  have HE := Lib.hid E
  have S := Lib.hid (fun w E => shown5_any w E)
  have HR := Lib.hid hr
  clear E hr hk
  by_cases g1 : (100 : Int) < (l.length : Int)
  · have S := S
    go_enter Tryd.func6, Tryd.ntmps6
    have B0 := Lib.hid (Below.refl w.heap.size w)
    go_wp2_with fail
    refine (S.out _ (HE.out.below B0.out HE.out.pos)).mono ?_
    rintro e' w1 ⟨rfl, hb⟩
    have C1 := Lib.hid (bel2 B0.out hb (Nat.le_refl _))
    clear hb
    go_wp2
    go_ret
    exact ⟨rfl, C1.out⟩
  have HL := Lib.hid (show l.length ≤ 100000 by omega)
  have PL := put_len nm va l
  have HPL := Lib.hid (show (putF nm va l).length ≤ 100000 by rw [PL]; split <;> omega)
  obtain ⟨pg1, pg2⟩ := put_get nm va l
  have e1 : (va.toList == va.toList) = true := by rw [str_eq]; exact decide_eq_true rfl
  have PO := Lib.hid (fun (h : ot ≠ nm) => put_other h va l)
  have PB0 := Lib.hid (fun h => put_back (n := nm) va (l := l) h)
  have eo := str_eq ot nm
  obtain ⟨t, ht⟩ : ∃ t, putF nm va l = t := ⟨_, rfl⟩
  rw [ht] at PL HPL pg1 pg2 PO PB0
  obtain ⟨wa, hwa⟩ : ∃ wa, fstV l nm = wa := ⟨_, rfl⟩
  rw [hwa] at PB0
  cases hgv : getV l nm
  · rw [hgv, if_neg (by decide)] at PL
    have q1 : (((t.length : Nat) : Int) == (l.length : Int)) = false := by rw [beq_eq_false_iff_ne]; omega
    clear PL PB0
    by_cases ho : ot = nm
    · rw [decide_eq_true ho] at eo
      have PG := Lib.hid (And.intro pg2 pg1)
      have HW := Lib.hid (And.intro hwa hgv)
      have HT := Lib.hid ht
      have HXG := Lib.hid (show fstV l ot = wa ∧ getV l ot = false from ⟨by rw [ho]; exact hwa, by rw [ho]; exact hgv⟩)
      have PO2 := Lib.hid (show fstV t ot = va ∧ getV t ot = true from ⟨by rw [ho]; exact pg2, by rw [ho]; exact pg1⟩)
      clear PO pg1 pg2 hwa hgv ht ho
      go_enter Tryd.func6, Tryd.ntmps6
      have B0 := Lib.hid (Below.refl w.heap.size w)
      go_wp2_with fail
      refine (S.out _ (HE.out.below B0.out HE.out.pos)).mono ?_
      rintro e' w1 ⟨rfl, hb⟩
      have C1 := Lib.hid (bel2 B0.out hb (Nat.le_refl _))
      clear hb
      go_wp2_with fail
      refine (put5_any A l.length c l nm va _ (rdFds_good.up (rdFds_good.below HR.out C1.out) C1.out.size) HL.out).mono ?_
      rintro e' w3 ⟨⟨A3, n3, c3, rfl, hr3⟩, hb⟩
      rw [HT.out] at hr3
      have hn3 := (rdFds_at hr3).1
      subst hn3
      have hcm3 := (rdFds_at hr3).2.2.1
      have R3 := Lib.hid hr3
      clear hr3
      have hcm3' : c3 ≤ 9223372036854775807 := hcm3
      clear hcm3
      have C2 := Lib.hid (bel2 C1.out hb (Nat.le_refl _))
      clear hb
      have D3 := Lib.hid (Below.refl w3.heap.size w3)
      go_wp2_with fail
      refine (get5_is PG.out.1 PG.out.2 A3 _ c3 _ (rdFds_good.up (rdFds_good.below R3.out D3.out) D3.out.size)).mono ?_
      rintro e' w4 ⟨rfl, hb⟩
      have C3 := Lib.hid (bel2 C2.out hb (Nat.le_refl _))
      have C4 := Lib.hid (bel2 D3.out hb (Nat.le_refl _))
      clear hb
      go_wp2_with fail
      refine (get5_is HXG.out.1 HXG.out.2 A l.length c _ (rdFds_good.up (rdFds_good.below HR.out C3.out) C3.out.size)).mono ?_
      rintro e' w5 ⟨rfl, hb⟩
      have C5 := Lib.hid (bel2 C3.out hb (Nat.le_refl _))
      have C6 := Lib.hid (bel2 C4.out hb (Nat.le_refl _))
      clear hb
      go_wp2_with fail
      refine (get5_is PO2.out.1 PO2.out.2 A3 _ c3 _ (rdFds_good.up (rdFds_good.below R3.out C6.out) C6.out.size)).mono ?_
      rintro e' w6 ⟨rfl, hb⟩
      have C7 := Lib.hid (bel2 C5.out hb (Nat.le_refl _))
      have C8 := Lib.hid (bel2 C6.out hb (Nat.le_refl _))
      clear hb
      go_wp2_with fail
      refine (get5_is HW.out.1 HW.out.2 A l.length c _ (rdFds_good.up (rdFds_good.below HR.out C7.out) C7.out.size)).mono ?_
      rintro e' w7 ⟨rfl, hb⟩
      have C9 := Lib.hid (bel2 C7.out hb (Nat.le_refl _))
      have C10 := Lib.hid (bel2 C8.out hb (Nat.le_refl _))
      clear hb
      go_wp2
      go_ret
      exact ⟨rfl, C9.out⟩
    · rw [decide_eq_false ho] at eo
      obtain ⟨po1, po2⟩ := PO.out ho
      obtain ⟨xa, hxa⟩ : ∃ xa, fstV l ot = xa := ⟨_, rfl⟩
      obtain ⟨gb, hgb⟩ : ∃ gb, getV l ot = gb := ⟨_, rfl⟩
      rw [hgb] at po1
      rw [hxa] at po2
      have e3 : (xa.toList == xa.toList) = true := by rw [str_eq]; exact decide_eq_true rfl
      have e4 : (gb == gb) = true := by cases gb <;> rfl
      have PG := Lib.hid (And.intro pg2 pg1)
      have HW := Lib.hid (And.intro hwa hgv)
      have HT := Lib.hid ht
      have HXG := Lib.hid (And.intro hxa hgb)
      have PO2 := Lib.hid (And.intro po2 po1)
      clear PO ho pg1 pg2 hwa hgv ht hxa hgb po1 po2
      go_enter Tryd.func6, Tryd.ntmps6
      have B0 := Lib.hid (Below.refl w.heap.size w)
      go_wp2_with fail
      refine (S.out _ (HE.out.below B0.out HE.out.pos)).mono ?_
      rintro e' w1 ⟨rfl, hb⟩
      have C1 := Lib.hid (bel2 B0.out hb (Nat.le_refl _))
      clear hb
      go_wp2_with fail
      refine (put5_any A l.length c l nm va _ (rdFds_good.up (rdFds_good.below HR.out C1.out) C1.out.size) HL.out).mono ?_
      rintro e' w3 ⟨⟨A3, n3, c3, rfl, hr3⟩, hb⟩
      rw [HT.out] at hr3
      have hn3 := (rdFds_at hr3).1
      subst hn3
      have hcm3 := (rdFds_at hr3).2.2.1
      have R3 := Lib.hid hr3
      clear hr3
      have hcm3' : c3 ≤ 9223372036854775807 := hcm3
      clear hcm3
      have C2 := Lib.hid (bel2 C1.out hb (Nat.le_refl _))
      clear hb
      have D3 := Lib.hid (Below.refl w3.heap.size w3)
      go_wp2_with fail
      refine (get5_is PG.out.1 PG.out.2 A3 _ c3 _ (rdFds_good.up (rdFds_good.below R3.out D3.out) D3.out.size)).mono ?_
      rintro e' w4 ⟨rfl, hb⟩
      have C3 := Lib.hid (bel2 C2.out hb (Nat.le_refl _))
      have C4 := Lib.hid (bel2 D3.out hb (Nat.le_refl _))
      clear hb
      go_wp2_with fail
      refine (get5_is HXG.out.1 HXG.out.2 A l.length c _ (rdFds_good.up (rdFds_good.below HR.out C3.out) C3.out.size)).mono ?_
      rintro e' w5 ⟨rfl, hb⟩
      have C5 := Lib.hid (bel2 C3.out hb (Nat.le_refl _))
      have C6 := Lib.hid (bel2 C4.out hb (Nat.le_refl _))
      clear hb
      go_wp2_with fail
      refine (get5_is PO2.out.1 PO2.out.2 A3 _ c3 _ (rdFds_good.up (rdFds_good.below R3.out C6.out) C6.out.size)).mono ?_
      rintro e' w6 ⟨rfl, hb⟩
      have C7 := Lib.hid (bel2 C5.out hb (Nat.le_refl _))
      have C8 := Lib.hid (bel2 C6.out hb (Nat.le_refl _))
      clear hb
      go_wp2_with fail
      refine (get5_is HW.out.1 HW.out.2 A l.length c _ (rdFds_good.up (rdFds_good.below HR.out C7.out) C7.out.size)).mono ?_
      rintro e' w7 ⟨rfl, hb⟩
      have C9 := Lib.hid (bel2 C7.out hb (Nat.le_refl _))
      have C10 := Lib.hid (bel2 C8.out hb (Nat.le_refl _))
      clear hb
      go_wp2
      go_ret
      exact ⟨rfl, C9.out⟩
  · rw [hgv, if_pos rfl] at PL
    have q1 : (((t.length : Nat) : Int) == (l.length : Int)) = true := by rw [beq_iff_eq]; omega
    have PB := Lib.hid (PB0.out hgv)
    clear PL PB0
    by_cases ho : ot = nm
    · rw [decide_eq_true ho] at eo
      have PG := Lib.hid (And.intro pg2 pg1)
      have HW := Lib.hid (And.intro hwa hgv)
      have HT := Lib.hid ht
      have HXG := Lib.hid (show fstV l ot = wa ∧ getV l ot = true from ⟨by rw [ho]; exact hwa, by rw [ho]; exact hgv⟩)
      have PO2 := Lib.hid (show fstV t ot = va ∧ getV t ot = true from ⟨by rw [ho]; exact pg2, by rw [ho]; exact pg1⟩)
      clear PO pg1 pg2 hwa hgv ht ho
      go_enter Tryd.func6, Tryd.ntmps6
      have B0 := Lib.hid (Below.refl w.heap.size w)
      go_wp2_with fail
      refine (S.out _ (HE.out.below B0.out HE.out.pos)).mono ?_
      rintro e' w1 ⟨rfl, hb⟩
      have C1 := Lib.hid (bel2 B0.out hb (Nat.le_refl _))
      clear hb
      go_wp2_with fail
      refine (put5_any A l.length c l nm va _ (rdFds_good.up (rdFds_good.below HR.out C1.out) C1.out.size) HL.out).mono ?_
      rintro e' w3 ⟨⟨A3, n3, c3, rfl, hr3⟩, hb⟩
      rw [HT.out] at hr3
      have hn3 := (rdFds_at hr3).1
      subst hn3
      have hcm3 := (rdFds_at hr3).2.2.1
      have R3 := Lib.hid hr3
      clear hr3
      have hcm3' : c3 ≤ 9223372036854775807 := hcm3
      clear hcm3
      have C2 := Lib.hid (bel2 C1.out hb (Nat.le_refl _))
      clear hb
      have D3 := Lib.hid (Below.refl w3.heap.size w3)
      go_wp2_with fail
      refine (get5_is PG.out.1 PG.out.2 A3 _ c3 _ (rdFds_good.up (rdFds_good.below R3.out D3.out) D3.out.size)).mono ?_
      rintro e' w4 ⟨rfl, hb⟩
      have C3 := Lib.hid (bel2 C2.out hb (Nat.le_refl _))
      have C4 := Lib.hid (bel2 D3.out hb (Nat.le_refl _))
      clear hb
      go_wp2_with fail
      refine (get5_is HXG.out.1 HXG.out.2 A l.length c _ (rdFds_good.up (rdFds_good.below HR.out C3.out) C3.out.size)).mono ?_
      rintro e' w5 ⟨rfl, hb⟩
      have C5 := Lib.hid (bel2 C3.out hb (Nat.le_refl _))
      have C6 := Lib.hid (bel2 C4.out hb (Nat.le_refl _))
      clear hb
      go_wp2_with fail
      refine (get5_is PO2.out.1 PO2.out.2 A3 _ c3 _ (rdFds_good.up (rdFds_good.below R3.out C6.out) C6.out.size)).mono ?_
      rintro e' w6 ⟨rfl, hb⟩
      have C7 := Lib.hid (bel2 C5.out hb (Nat.le_refl _))
      have C8 := Lib.hid (bel2 C6.out hb (Nat.le_refl _))
      clear hb
      go_wp2_with fail
      refine (get5_is HW.out.1 HW.out.2 A l.length c _ (rdFds_good.up (rdFds_good.below HR.out C7.out) C7.out.size)).mono ?_
      rintro e' w7 ⟨rfl, hb⟩
      have C9 := Lib.hid (bel2 C7.out hb (Nat.le_refl _))
      have C10 := Lib.hid (bel2 C8.out hb (Nat.le_refl _))
      clear hb
      go_wp2_with fail
      refine (put5_back PB.out A3 _ c3 _ (rdFds_good.up (rdFds_good.below R3.out C10.out) C10.out.size) HPL.out).mono ?_
      rintro e' w8 ⟨⟨A8, n8, c8, rfl, hr8⟩, hb⟩
      have R8 := Lib.hid hr8
      clear hr8
      have C11 := Lib.hid (bel2 C9.out hb (Nat.le_refl _))
      have C12 := Lib.hid (bel2 C10.out hb (Nat.le_refl _))
      clear hb
      have D8 := Lib.hid (Below.refl w8.heap.size w8)
      go_wp2_with fail
      refine (sf_self _ _ _ _ _ _ _ _ (rdFds_good.up (rdFds_good.below R8.out D8.out) D8.out.size) (rdFds_good.up (rdFds_good.below HR.out C11.out) C11.out.size)).mono ?_
      rintro e' w9 ⟨rfl, hdr⟩
      have hb := hdr.below w8.heap.size
      clear hdr
      have C13 := Lib.hid (bel2 C11.out hb (Nat.le_refl _))
      have C14 := Lib.hid (bel2 C12.out hb (Nat.le_refl _))
      have C15 := Lib.hid (bel2 D8.out hb (Nat.le_refl _))
      clear hb
      go_wp2
      go_ret
      exact ⟨rfl, C13.out⟩
    · rw [decide_eq_false ho] at eo
      obtain ⟨po1, po2⟩ := PO.out ho
      obtain ⟨xa, hxa⟩ : ∃ xa, fstV l ot = xa := ⟨_, rfl⟩
      obtain ⟨gb, hgb⟩ : ∃ gb, getV l ot = gb := ⟨_, rfl⟩
      rw [hgb] at po1
      rw [hxa] at po2
      have e3 : (xa.toList == xa.toList) = true := by rw [str_eq]; exact decide_eq_true rfl
      have e4 : (gb == gb) = true := by cases gb <;> rfl
      have PG := Lib.hid (And.intro pg2 pg1)
      have HW := Lib.hid (And.intro hwa hgv)
      have HT := Lib.hid ht
      have HXG := Lib.hid (And.intro hxa hgb)
      have PO2 := Lib.hid (And.intro po2 po1)
      clear PO ho pg1 pg2 hwa hgv ht hxa hgb po1 po2
      go_enter Tryd.func6, Tryd.ntmps6
      have B0 := Lib.hid (Below.refl w.heap.size w)
      go_wp2_with fail
      refine (S.out _ (HE.out.below B0.out HE.out.pos)).mono ?_
      rintro e' w1 ⟨rfl, hb⟩
      have C1 := Lib.hid (bel2 B0.out hb (Nat.le_refl _))
      clear hb
      go_wp2_with fail
      refine (put5_any A l.length c l nm va _ (rdFds_good.up (rdFds_good.below HR.out C1.out) C1.out.size) HL.out).mono ?_
      rintro e' w3 ⟨⟨A3, n3, c3, rfl, hr3⟩, hb⟩
      rw [HT.out] at hr3
      have hn3 := (rdFds_at hr3).1
      subst hn3
      have hcm3 := (rdFds_at hr3).2.2.1
      have R3 := Lib.hid hr3
      clear hr3
      have hcm3' : c3 ≤ 9223372036854775807 := hcm3
      clear hcm3
      have C2 := Lib.hid (bel2 C1.out hb (Nat.le_refl _))
      clear hb
      have D3 := Lib.hid (Below.refl w3.heap.size w3)
      go_wp2_with fail
      refine (get5_is PG.out.1 PG.out.2 A3 _ c3 _ (rdFds_good.up (rdFds_good.below R3.out D3.out) D3.out.size)).mono ?_
      rintro e' w4 ⟨rfl, hb⟩
      have C3 := Lib.hid (bel2 C2.out hb (Nat.le_refl _))
      have C4 := Lib.hid (bel2 D3.out hb (Nat.le_refl _))
      clear hb
      go_wp2_with fail
      refine (get5_is HXG.out.1 HXG.out.2 A l.length c _ (rdFds_good.up (rdFds_good.below HR.out C3.out) C3.out.size)).mono ?_
      rintro e' w5 ⟨rfl, hb⟩
      have C5 := Lib.hid (bel2 C3.out hb (Nat.le_refl _))
      have C6 := Lib.hid (bel2 C4.out hb (Nat.le_refl _))
      clear hb
      go_wp2_with fail
      refine (get5_is PO2.out.1 PO2.out.2 A3 _ c3 _ (rdFds_good.up (rdFds_good.below R3.out C6.out) C6.out.size)).mono ?_
      rintro e' w6 ⟨rfl, hb⟩
      have C7 := Lib.hid (bel2 C5.out hb (Nat.le_refl _))
      have C8 := Lib.hid (bel2 C6.out hb (Nat.le_refl _))
      clear hb
      go_wp2_with fail
      refine (get5_is HW.out.1 HW.out.2 A l.length c _ (rdFds_good.up (rdFds_good.below HR.out C7.out) C7.out.size)).mono ?_
      rintro e' w7 ⟨rfl, hb⟩
      have C9 := Lib.hid (bel2 C7.out hb (Nat.le_refl _))
      have C10 := Lib.hid (bel2 C8.out hb (Nat.le_refl _))
      clear hb
      go_wp2_with fail
      refine (put5_back PB.out A3 _ c3 _ (rdFds_good.up (rdFds_good.below R3.out C10.out) C10.out.size) HPL.out).mono ?_
      rintro e' w8 ⟨⟨A8, n8, c8, rfl, hr8⟩, hb⟩
      have R8 := Lib.hid hr8
      clear hr8
      have C11 := Lib.hid (bel2 C9.out hb (Nat.le_refl _))
      have C12 := Lib.hid (bel2 C10.out hb (Nat.le_refl _))
      clear hb
      have D8 := Lib.hid (Below.refl w8.heap.size w8)
      go_wp2_with fail
      refine (sf_self _ _ _ _ _ _ _ _ (rdFds_good.up (rdFds_good.below R8.out D8.out) D8.out.size) (rdFds_good.up (rdFds_good.below HR.out C11.out) C11.out.size)).mono ?_
      rintro e' w9 ⟨rfl, hdr⟩
      have hb := hdr.below w8.heap.size
      clear hdr
      have C13 := Lib.hid (bel2 C11.out hb (Nat.le_refl _))
      have C14 := Lib.hid (bel2 C12.out hb (Nat.le_refl _))
      have C15 := Lib.hid (bel2 D8.out hb (Nat.le_refl _))
      clear hb
      go_wp2
      go_ret
      exact ⟨rfl, C13.out⟩

theorem contract (H : Type) (enc : TypeId × Value → H) (W : World) (base : Nat) (args : Array Value) (ds gs : List (DataW H)) (before : List MemPlace)
    (hval : ∀ (j : Nat) t v, Tryd.f6.params[j]? = some t → args[j]? = some v → Value.okWide Tryd.prog W .any base t v)
    (hW : DataW.Whole enc Tryd.prog Tryd.f6.params.toList Rows.stanzaPutsSpec.vars false W args.toList ds gs before) (E : Env5 W) :
    Calls Tryd.prog 6 args W fun e W' => ∃ v, e = .returned v ∧ Rows.stanzaPutsSpec.post enc Tryd.prog Tryd.f6 false true false false W args v W' := by
  have hW' := hW
  obtain ⟨p, q, hA0, _, _, _, _⟩ := hW
  have hA : DataW.TrodAll enc Tryd.prog W 0 (fun _ => true) true Tryd.f6.params.toList args.toList ds p := hA0
  rw [Tryd.params6] at hA hval
  obtain ⟨v0, vs0, d0, ds0, p0, q0, hargs, rfl, rfl, h0, r0⟩ := trodAll_cons hA
  obtain ⟨v1, vs1, d1, ds1, p1, q1, rfl, rfl, rfl, h1, r1⟩ := trodAll_cons r0
  obtain ⟨v2, vs2, d2, ds2, p2, q2, rfl, rfl, rfl, h2, r2⟩ := trodAll_cons r1
  obtain ⟨v3, vs3, d3, ds3, p3, q3, rfl, rfl, rfl, h3, r3⟩ := trodAll_cons r2
  obtain ⟨rfl, rfl, rfl⟩ := trodAll_nil r3
  obtain rfl : args = #[v0, v1, v2, v3] := by cases args; simp_all
  obtain ⟨A0, n0, c0, L0, rfl, hr0, hk0⟩ := open_fds_arg (hval 0 39 v0 rfl rfl) h0
  obtain ⟨s1, rfl, w1⟩ := open_str_arg (hval 1 9 v1 rfl rfl) h1
  obtain ⟨s2, rfl, w2⟩ := open_str_arg (hval 2 9 v2 rfl rfl) h2
  obtain ⟨s3, rfl, w3⟩ := open_str_arg (hval 3 9 v3 rfl rfl) h3
  refine (walk A0 n0 c0 L0 s1 s2 s3 W hr0 hk0 w1 w2 w3 E).mono fun e W' ⟨he, hb⟩ => ?_
  subst he
  refine ⟨_, rfl, law_post hW' rfl rfl rfl rfl rfl Tryd.underlying4 laid_out ?_ hb⟩
  rw [Tryd.params6]
  intro t ht
  simp at ht
  rcases ht with rfl | rfl | rfl | rfl <;> exact ⟨by kernel_rfl, of_decide_eq_true (by kernel_rfl)⟩

theorem reads (os : Os) {H : Type} (enc : TypeId × Value → H) : ∃ x, DataW.whole enc Tryd.prog ((World.laidAll Tryd.prog os laidL).forCall (fun _ _ => 0) ⟨#[], #[.slice none 0 0, .string ⟨#[]⟩, .string ⟨#[]⟩, .string ⟨#[]⟩], []⟩).memory Tryd.f6.params.toList Rows.stanzaPutsSpec.vars false ((#[.slice none 0 0, .string ⟨#[]⟩, .string ⟨#[]⟩, .string ⟨#[]⟩] : Array Value)).toList 8 = some x :=
  Option.isSome_iff_exists.1 (by kernel_rfl)
theorem readsSized (os : Os) {H : Type} (enc : TypeId × Value → H) : (OpenSpec.ofChange Rows.stanzaPutsSpec).bare.sizedB enc Tryd.prog Tryd.f6 false ((World.laidAll Tryd.prog os laidL).forCall (fun _ _ => 0) ⟨#[], #[.slice none 0 0, .string ⟨#[]⟩, .string ⟨#[]⟩, .string ⟨#[]⟩], []⟩).memory #[.slice none 0 0, .string ⟨#[]⟩, .string ⟨#[]⟩, .string ⟨#[]⟩] 8 = true := by kernel_rfl
theorem okWit (os : Os) : Input.okWideB Tryd.prog ((World.laidAll Tryd.prog os laidL).forCall (fun _ _ => 0) ⟨#[], #[.slice none 0 0, .string ⟨#[]⟩, .string ⟨#[]⟩, .string ⟨#[]⟩], []⟩) 6 ⟨#[], #[.slice none 0 0, .string ⟨#[]⟩, .string ⟨#[]⟩, .string ⟨#[]⟩], []⟩ = true := by kernel_rfl
theorem lifted (os : Os) (started : os.Started) (H : Type) (enc : TypeId × Value → H) (F : Stop.Interp) :
    ReturnsInHanded {} Tryd.checked os 6 .any ((OpenSpec.ofChange Rows.stanzaPutsSpec).preRow enc Tryd.prog Tryd.f6 Rows.stanzaPutsRow.domain false Rows.stanzaPutsRow.laid) (((OpenSpec.ofChange Rows.stanzaPutsSpec).at F).post enc Tryd.prog Tryd.f6 false true false false) := by
  obtain ⟨x, hx⟩ := reads os enc
  have hz := readsSized os enc
  refine returnsInHanded_of_row (C := Tryd.checked) (s := OpenSpec.ofChange Rows.stanzaPutsSpec) own' started (by kernel_rfl) Tryd.func6
    ⟨World.laidAll Tryd.prog os laidL, fun _ _ => 0, ⟨#[], #[.slice none 0 0, .string ⟨#[]⟩, .string ⟨#[]⟩, .string ⟨#[]⟩], []⟩, door_os os, door_shaped os _, (Input.okWide_of_okWideB (base := 0) (okWit os)).1, (Input.okWide_of_okWideB (okWit os)).2,
      OpenSpec.preRow_of_cond 8 hx rfl (fun k hk => by cases hk) hz (door_met os _), by
        simp only [Assume.holds]
        exact ⟨by simp, by simp, fun _ => Modest.zero, by simp, by simp⟩⟩ ?_
  intro W base args ds gs before hval hW _ _ _ hL hsh _
  exact contract H enc W base args ds gs before hval hW (env5_of hL hsh)

theorem said : Rows.StanzaPutsSaid :=
  OpenClaim.holds_of_cond 6 Tryd.f6 rfl rfl rfl rfl rfl rfl rfl ⟨rfl, rfl, rfl, rfl, rfl⟩ rfl rfl rfl rfl rfl (by kernel_rfl) Tryd.func6 (by kernel_rfl)
    (of_decide_eq_true (by kernel_rfl)) (by unfold Func.isWrapper; first | (rw [if_pos (by decide +kernel)]; kernel_rfl) | (rw [if_neg (by decide +kernel)]; exact ⟨rfl, rfl⟩))
    (fun os started H enc _ F => by rw [OpenClaim.pre_eq_preRow]; exact lifted os started H enc F)

theorem proved : Rows.StanzaPutsCardSaid :=
  Claim7.holds_tied_plain_at .later [] _ _ _ _ said (fun _ h => by cases h) (by kernel_rfl) (fun _ h => by cases h) stanzaPuts_row_tie rfl ⟨rfl, rfl⟩ (by kernel_rfl) rfl
    (fun f fn hf hfn => by
      obtain rfl : f = 6 := Option.some.inj ((show Tryd.prog.funcNamed "keelson/keelsonlaw5.StanzaPuts" = some 6 by kernel_rfl).symm.trans hf) |>.symm
      obtain rfl : fn = Tryd.f6 := (Option.some.inj (Tryd.func6.symm.trans hfn)).symm
      exact ⟨by kernel_rfl, fun j t ht => by
        rw [Tryd.params6] at ht
        have hm : t ∈ [39, 9] := by have := Array.mem_of_getElem? ht; simp at this; simp [this]
        have hall : ([39, 9].all fun u => !Tryd.prog.wantsStandIn u) = true := by kernel_rfl
        exact (show Tryd.prog.wantsStandIn t = false by simpa using List.all_eq_true.1 hall t hm)⟩)
    (by kernel_rfl)
#print axioms proved
end Go.Proofs.YtjfenheplkoajaaDoor.stanzaPuts
