/- What the laws rest on: Join, Eq5, E11k, E10h, E11e, Open2, OpenG, E6j, E7t, LaidStr, Post2. -/
import Derived.ProofKit
import Derived.ChangeMaps5
import Derived.SliceStrings
import Derived.Lib.SmallJoins
import Derived.Deep.Slices
import Derived.Deep.Strs
import Derived.Lib.LaidTab
import Derived.ChangeArms
import Derived.ChangeSame
import Derived.Carry
import Derived.Test.YtpilmhoakopcaaaGreatDoorQAFZC
set_option maxRecDepth 100000
set_option linter.unusedVariables false
set_option linter.unusedSimpArgs false
namespace Go.Proofs.YtpilmhoakopcaaaGreatDoor
open Go.RowKit
set_option maxHeartbeats 2000000 in
theorem join1_0 (p q:Nat) (a0 a1 a2 a3 a4 b0:Int) (w:World) (ca0:w.cell? ⟨p,0,none⟩=some (.int .i64 a0)) (cb0:w.cell? ⟨q,0,none⟩=some (.int .i64 b0)) (ca1:w.cell? ⟨p,1,none⟩=some (.int .i64 a1)) (ca2:w.cell? ⟨p,2,none⟩=some (.int .i64 a2)) (ca3:w.cell? ⟨p,3,none⟩=some (.int .i64 a3)) (ca4:w.cell? ⟨p,4,none⟩=some (.int .i64 a4)) (ra0:InR a0) (rb0:InR b0) (h0:¬InR (a0+b0)) :
  Calls Tryz.prog 66 #[.pointer (some ⟨p,0,none⟩),.pointer (some ⟨q,0,none⟩)] w fun e w'=>e=.panicked [{ v:=.iface 30 (.int .i64 2),recovered:=false }]∧Below w.heap.size w w':=by
 have hi0:∀w,(Instr.index 39 (.agg #[.int .i64 a0,.int .i64 a1,.int .i64 a2,.int .i64 a3,.int .i64 a4]) (.int .i64 0)).run Tryz.prog w=.ok (.int .i64 a0) w:=fun _=>by kernel_rfl
 have hi1:∀w,(Instr.index 39 (.agg #[.int .i64 a0,.int .i64 a1,.int .i64 a2,.int .i64 a3,.int .i64 a4]) (.int .i64 1)).run Tryz.prog w=.ok (.int .i64 a1) w:=fun _=>by kernel_rfl
 have hi2:∀w,(Instr.index 39 (.agg #[.int .i64 a0,.int .i64 a1,.int .i64 a2,.int .i64 a3,.int .i64 a4]) (.int .i64 2)).run Tryz.prog w=.ok (.int .i64 a2) w:=fun _=>by kernel_rfl
 have hi3:∀w,(Instr.index 39 (.agg #[.int .i64 a0,.int .i64 a1,.int .i64 a2,.int .i64 a3,.int .i64 a4]) (.int .i64 3)).run Tryz.prog w=.ok (.int .i64 a3) w:=fun _=>by kernel_rfl
 have hi4:∀w,(Instr.index 39 (.agg #[.int .i64 a0,.int .i64 a1,.int .i64 a2,.int .i64 a3,.int .i64 a4]) (.int .i64 4)).run Tryz.prog w=.ok (.int .i64 a4) w:=fun _=>by kernel_rfl
 have hp:=cell_lt ca0
 have hq:=cell_lt cb0
 have A0:=Lib.hid (And.intro ra0 (And.intro rb0 h0))
 clear ra0 rb0 h0
 go_enter Tryz.func66,Tryz.ntmps66
 go_wp2
 refine wp_loop_rounds 6 ?_
 rw [rounds_succ]
 go_wp2_with (go_at_call 67;refine (add_over _ _ _ A0.out.1 A0.out.2.1 A0.out.2.2).mono ?_;rintro e w' ⟨rfl,rfl⟩)
 exact ⟨rfl,rfl,((Below.refl _ w).alloc (Nat.le_refl _) _).alloc (by simp) _⟩
set_option maxHeartbeats 2000000 in
theorem join1_1 (p q:Nat) (a0 a1 a2 a3 a4 b0 b1:Int) (w:World) (ca0:w.cell? ⟨p,0,none⟩=some (.int .i64 a0)) (cb0:w.cell? ⟨q,0,none⟩=some (.int .i64 b0)) (ca1:w.cell? ⟨p,1,none⟩=some (.int .i64 a1)) (cb1:w.cell? ⟨q,1,none⟩=some (.int .i64 b1)) (ca2:w.cell? ⟨p,2,none⟩=some (.int .i64 a2)) (ca3:w.cell? ⟨p,3,none⟩=some (.int .i64 a3)) (ca4:w.cell? ⟨p,4,none⟩=some (.int .i64 a4)) (ra0:InR a0) (rb0:InR b0) (ra1:InR a1) (rb1:InR b1) (h0:InR (a0+b0)) (h1:¬InR (a1+b1)) :
  Calls Tryz.prog 66 #[.pointer (some ⟨p,0,none⟩),.pointer (some ⟨q,0,none⟩)] w fun e w'=>e=.panicked [{ v:=.iface 30 (.int .i64 2),recovered:=false }]∧Below w.heap.size w w':=by
 have hi0:∀w,(Instr.index 39 (.agg #[.int .i64 a0,.int .i64 a1,.int .i64 a2,.int .i64 a3,.int .i64 a4]) (.int .i64 0)).run Tryz.prog w=.ok (.int .i64 a0) w:=fun _=>by kernel_rfl
 have hi1:∀w,(Instr.index 39 (.agg #[.int .i64 a0,.int .i64 a1,.int .i64 a2,.int .i64 a3,.int .i64 a4]) (.int .i64 1)).run Tryz.prog w=.ok (.int .i64 a1) w:=fun _=>by kernel_rfl
 have hi2:∀w,(Instr.index 39 (.agg #[.int .i64 a0,.int .i64 a1,.int .i64 a2,.int .i64 a3,.int .i64 a4]) (.int .i64 2)).run Tryz.prog w=.ok (.int .i64 a2) w:=fun _=>by kernel_rfl
 have hi3:∀w,(Instr.index 39 (.agg #[.int .i64 a0,.int .i64 a1,.int .i64 a2,.int .i64 a3,.int .i64 a4]) (.int .i64 3)).run Tryz.prog w=.ok (.int .i64 a3) w:=fun _=>by kernel_rfl
 have hi4:∀w,(Instr.index 39 (.agg #[.int .i64 a0,.int .i64 a1,.int .i64 a2,.int .i64 a3,.int .i64 a4]) (.int .i64 4)).run Tryz.prog w=.ok (.int .i64 a4) w:=fun _=>by kernel_rfl
 have hp:=cell_lt ca0
 have hq:=cell_lt cb0
 have A0:=Lib.hid (And.intro ra0 (And.intro rb0 h0))
 have A1:=Lib.hid (And.intro ra1 (And.intro rb1 h1))
 clear ra0 rb0 ra1 rb1 h0 h1
 go_enter Tryz.func66,Tryz.ntmps66
 go_wp2
 refine wp_loop_rounds 6 ?_
 rw [rounds_succ]
 go_wp2_with (go_at_call 67;refine (add_fits _ _ _ A0.out.1 A0.out.2.1 A0.out.2.2).mono ?_;rintro e w' ⟨rfl,rfl⟩)
 rw [rounds_succ]
 go_wp2_with (go_at_call 67;refine (add_over _ _ _ A1.out.1 A1.out.2.1 A1.out.2.2).mono ?_;rintro e w' ⟨rfl,rfl⟩)
 exact ⟨rfl,rfl,((Below.refl _ w).alloc (Nat.le_refl _) _).alloc (by simp) _⟩
set_option maxHeartbeats 2000000 in
theorem join1_2 (p q:Nat) (a0 a1 a2 a3 a4 b0 b1 b2:Int) (w:World) (ca0:w.cell? ⟨p,0,none⟩=some (.int .i64 a0)) (cb0:w.cell? ⟨q,0,none⟩=some (.int .i64 b0)) (ca1:w.cell? ⟨p,1,none⟩=some (.int .i64 a1)) (cb1:w.cell? ⟨q,1,none⟩=some (.int .i64 b1)) (ca2:w.cell? ⟨p,2,none⟩=some (.int .i64 a2)) (cb2:w.cell? ⟨q,2,none⟩=some (.int .i64 b2)) (ca3:w.cell? ⟨p,3,none⟩=some (.int .i64 a3)) (ca4:w.cell? ⟨p,4,none⟩=some (.int .i64 a4)) (ra0:InR a0) (rb0:InR b0) (ra1:InR a1) (rb1:InR b1) (ra2:InR a2) (rb2:InR b2) (h0:InR (a0+b0)) (h1:InR (a1+b1)) (h2:¬InR (a2+b2)) :
  Calls Tryz.prog 66 #[.pointer (some ⟨p,0,none⟩),.pointer (some ⟨q,0,none⟩)] w fun e w'=>e=.panicked [{ v:=.iface 30 (.int .i64 2),recovered:=false }]∧Below w.heap.size w w':=by
 have hi0:∀w,(Instr.index 39 (.agg #[.int .i64 a0,.int .i64 a1,.int .i64 a2,.int .i64 a3,.int .i64 a4]) (.int .i64 0)).run Tryz.prog w=.ok (.int .i64 a0) w:=fun _=>by kernel_rfl
 have hi1:∀w,(Instr.index 39 (.agg #[.int .i64 a0,.int .i64 a1,.int .i64 a2,.int .i64 a3,.int .i64 a4]) (.int .i64 1)).run Tryz.prog w=.ok (.int .i64 a1) w:=fun _=>by kernel_rfl
 have hi2:∀w,(Instr.index 39 (.agg #[.int .i64 a0,.int .i64 a1,.int .i64 a2,.int .i64 a3,.int .i64 a4]) (.int .i64 2)).run Tryz.prog w=.ok (.int .i64 a2) w:=fun _=>by kernel_rfl
 have hi3:∀w,(Instr.index 39 (.agg #[.int .i64 a0,.int .i64 a1,.int .i64 a2,.int .i64 a3,.int .i64 a4]) (.int .i64 3)).run Tryz.prog w=.ok (.int .i64 a3) w:=fun _=>by kernel_rfl
 have hi4:∀w,(Instr.index 39 (.agg #[.int .i64 a0,.int .i64 a1,.int .i64 a2,.int .i64 a3,.int .i64 a4]) (.int .i64 4)).run Tryz.prog w=.ok (.int .i64 a4) w:=fun _=>by kernel_rfl
 have hp:=cell_lt ca0
 have hq:=cell_lt cb0
 have A0:=Lib.hid (And.intro ra0 (And.intro rb0 h0))
 have A1:=Lib.hid (And.intro ra1 (And.intro rb1 h1))
 have A2:=Lib.hid (And.intro ra2 (And.intro rb2 h2))
 clear ra0 rb0 ra1 rb1 ra2 rb2 h0 h1 h2
 go_enter Tryz.func66,Tryz.ntmps66
 go_wp2
 refine wp_loop_rounds 6 ?_
 rw [rounds_succ]
 go_wp2_with (go_at_call 67;refine (add_fits _ _ _ A0.out.1 A0.out.2.1 A0.out.2.2).mono ?_;rintro e w' ⟨rfl,rfl⟩)
 rw [rounds_succ]
 go_wp2_with (go_at_call 67;refine (add_fits _ _ _ A1.out.1 A1.out.2.1 A1.out.2.2).mono ?_;rintro e w' ⟨rfl,rfl⟩)
 rw [rounds_succ]
 go_wp2_with (go_at_call 67;refine (add_over _ _ _ A2.out.1 A2.out.2.1 A2.out.2.2).mono ?_;rintro e w' ⟨rfl,rfl⟩)
 exact ⟨rfl,rfl,((Below.refl _ w).alloc (Nat.le_refl _) _).alloc (by simp) _⟩
set_option maxHeartbeats 2000000 in
theorem join1_3 (p q:Nat) (a0 a1 a2 a3 a4 b0 b1 b2 b3:Int) (w:World) (ca0:w.cell? ⟨p,0,none⟩=some (.int .i64 a0)) (cb0:w.cell? ⟨q,0,none⟩=some (.int .i64 b0)) (ca1:w.cell? ⟨p,1,none⟩=some (.int .i64 a1)) (cb1:w.cell? ⟨q,1,none⟩=some (.int .i64 b1)) (ca2:w.cell? ⟨p,2,none⟩=some (.int .i64 a2)) (cb2:w.cell? ⟨q,2,none⟩=some (.int .i64 b2)) (ca3:w.cell? ⟨p,3,none⟩=some (.int .i64 a3)) (cb3:w.cell? ⟨q,3,none⟩=some (.int .i64 b3)) (ca4:w.cell? ⟨p,4,none⟩=some (.int .i64 a4)) (ra0:InR a0) (rb0:InR b0) (ra1:InR a1) (rb1:InR b1) (ra2:InR a2) (rb2:InR b2) (ra3:InR a3) (rb3:InR b3) (h0:InR (a0+b0)) (h1:InR (a1+b1)) (h2:InR (a2+b2)) (h3:¬InR (a3+b3)) :
  Calls Tryz.prog 66 #[.pointer (some ⟨p,0,none⟩),.pointer (some ⟨q,0,none⟩)] w fun e w'=>e=.panicked [{ v:=.iface 30 (.int .i64 2),recovered:=false }]∧Below w.heap.size w w':=by
 have hi0:∀w,(Instr.index 39 (.agg #[.int .i64 a0,.int .i64 a1,.int .i64 a2,.int .i64 a3,.int .i64 a4]) (.int .i64 0)).run Tryz.prog w=.ok (.int .i64 a0) w:=fun _=>by kernel_rfl
 have hi1:∀w,(Instr.index 39 (.agg #[.int .i64 a0,.int .i64 a1,.int .i64 a2,.int .i64 a3,.int .i64 a4]) (.int .i64 1)).run Tryz.prog w=.ok (.int .i64 a1) w:=fun _=>by kernel_rfl
 have hi2:∀w,(Instr.index 39 (.agg #[.int .i64 a0,.int .i64 a1,.int .i64 a2,.int .i64 a3,.int .i64 a4]) (.int .i64 2)).run Tryz.prog w=.ok (.int .i64 a2) w:=fun _=>by kernel_rfl
 have hi3:∀w,(Instr.index 39 (.agg #[.int .i64 a0,.int .i64 a1,.int .i64 a2,.int .i64 a3,.int .i64 a4]) (.int .i64 3)).run Tryz.prog w=.ok (.int .i64 a3) w:=fun _=>by kernel_rfl
 have hi4:∀w,(Instr.index 39 (.agg #[.int .i64 a0,.int .i64 a1,.int .i64 a2,.int .i64 a3,.int .i64 a4]) (.int .i64 4)).run Tryz.prog w=.ok (.int .i64 a4) w:=fun _=>by kernel_rfl
 have hp:=cell_lt ca0
 have hq:=cell_lt cb0
 have A0:=Lib.hid (And.intro ra0 (And.intro rb0 h0))
 have A1:=Lib.hid (And.intro ra1 (And.intro rb1 h1))
 have A2:=Lib.hid (And.intro ra2 (And.intro rb2 h2))
 have A3:=Lib.hid (And.intro ra3 (And.intro rb3 h3))
 clear ra0 rb0 ra1 rb1 ra2 rb2 ra3 rb3 h0 h1 h2 h3
 go_enter Tryz.func66,Tryz.ntmps66
 go_wp2
 refine wp_loop_rounds 6 ?_
 rw [rounds_succ]
 go_wp2_with (go_at_call 67;refine (add_fits _ _ _ A0.out.1 A0.out.2.1 A0.out.2.2).mono ?_;rintro e w' ⟨rfl,rfl⟩)
 rw [rounds_succ]
 go_wp2_with (go_at_call 67;refine (add_fits _ _ _ A1.out.1 A1.out.2.1 A1.out.2.2).mono ?_;rintro e w' ⟨rfl,rfl⟩)
 rw [rounds_succ]
 go_wp2_with (go_at_call 67;refine (add_fits _ _ _ A2.out.1 A2.out.2.1 A2.out.2.2).mono ?_;rintro e w' ⟨rfl,rfl⟩)
 rw [rounds_succ]
 go_wp2_with (go_at_call 67;refine (add_over _ _ _ A3.out.1 A3.out.2.1 A3.out.2.2).mono ?_;rintro e w' ⟨rfl,rfl⟩)
 exact ⟨rfl,rfl,((Below.refl _ w).alloc (Nat.le_refl _) _).alloc (by simp) _⟩
set_option maxHeartbeats 2000000 in
theorem join1_4 (p q:Nat) (a0 a1 a2 a3 a4 b0 b1 b2 b3 b4:Int) (w:World) (ca0:w.cell? ⟨p,0,none⟩=some (.int .i64 a0)) (cb0:w.cell? ⟨q,0,none⟩=some (.int .i64 b0)) (ca1:w.cell? ⟨p,1,none⟩=some (.int .i64 a1)) (cb1:w.cell? ⟨q,1,none⟩=some (.int .i64 b1)) (ca2:w.cell? ⟨p,2,none⟩=some (.int .i64 a2)) (cb2:w.cell? ⟨q,2,none⟩=some (.int .i64 b2)) (ca3:w.cell? ⟨p,3,none⟩=some (.int .i64 a3)) (cb3:w.cell? ⟨q,3,none⟩=some (.int .i64 b3)) (ca4:w.cell? ⟨p,4,none⟩=some (.int .i64 a4)) (cb4:w.cell? ⟨q,4,none⟩=some (.int .i64 b4)) (ra0:InR a0) (rb0:InR b0) (ra1:InR a1) (rb1:InR b1) (ra2:InR a2) (rb2:InR b2) (ra3:InR a3) (rb3:InR b3) (ra4:InR a4) (rb4:InR b4) (h0:InR (a0+b0)) (h1:InR (a1+b1)) (h2:InR (a2+b2)) (h3:InR (a3+b3)) (h4:¬InR (a4+b4)) :
  Calls Tryz.prog 66 #[.pointer (some ⟨p,0,none⟩),.pointer (some ⟨q,0,none⟩)] w fun e w'=>e=.panicked [{ v:=.iface 30 (.int .i64 2),recovered:=false }]∧Below w.heap.size w w':=by
 have hi0:∀w,(Instr.index 39 (.agg #[.int .i64 a0,.int .i64 a1,.int .i64 a2,.int .i64 a3,.int .i64 a4]) (.int .i64 0)).run Tryz.prog w=.ok (.int .i64 a0) w:=fun _=>by kernel_rfl
 have hi1:∀w,(Instr.index 39 (.agg #[.int .i64 a0,.int .i64 a1,.int .i64 a2,.int .i64 a3,.int .i64 a4]) (.int .i64 1)).run Tryz.prog w=.ok (.int .i64 a1) w:=fun _=>by kernel_rfl
 have hi2:∀w,(Instr.index 39 (.agg #[.int .i64 a0,.int .i64 a1,.int .i64 a2,.int .i64 a3,.int .i64 a4]) (.int .i64 2)).run Tryz.prog w=.ok (.int .i64 a2) w:=fun _=>by kernel_rfl
 have hi3:∀w,(Instr.index 39 (.agg #[.int .i64 a0,.int .i64 a1,.int .i64 a2,.int .i64 a3,.int .i64 a4]) (.int .i64 3)).run Tryz.prog w=.ok (.int .i64 a3) w:=fun _=>by kernel_rfl
 have hi4:∀w,(Instr.index 39 (.agg #[.int .i64 a0,.int .i64 a1,.int .i64 a2,.int .i64 a3,.int .i64 a4]) (.int .i64 4)).run Tryz.prog w=.ok (.int .i64 a4) w:=fun _=>by kernel_rfl
 have hp:=cell_lt ca0
 have hq:=cell_lt cb0
 have A0:=Lib.hid (And.intro ra0 (And.intro rb0 h0))
 have A1:=Lib.hid (And.intro ra1 (And.intro rb1 h1))
 have A2:=Lib.hid (And.intro ra2 (And.intro rb2 h2))
 have A3:=Lib.hid (And.intro ra3 (And.intro rb3 h3))
 have A4:=Lib.hid (And.intro ra4 (And.intro rb4 h4))
 clear ra0 rb0 ra1 rb1 ra2 rb2 ra3 rb3 ra4 rb4 h0 h1 h2 h3 h4
 go_enter Tryz.func66,Tryz.ntmps66
 go_wp2
 refine wp_loop_rounds 6 ?_
 rw [rounds_succ]
 go_wp2_with (go_at_call 67;refine (add_fits _ _ _ A0.out.1 A0.out.2.1 A0.out.2.2).mono ?_;rintro e w' ⟨rfl,rfl⟩)
 rw [rounds_succ]
 go_wp2_with (go_at_call 67;refine (add_fits _ _ _ A1.out.1 A1.out.2.1 A1.out.2.2).mono ?_;rintro e w' ⟨rfl,rfl⟩)
 rw [rounds_succ]
 go_wp2_with (go_at_call 67;refine (add_fits _ _ _ A2.out.1 A2.out.2.1 A2.out.2.2).mono ?_;rintro e w' ⟨rfl,rfl⟩)
 rw [rounds_succ]
 go_wp2_with (go_at_call 67;refine (add_fits _ _ _ A3.out.1 A3.out.2.1 A3.out.2.2).mono ?_;rintro e w' ⟨rfl,rfl⟩)
 rw [rounds_succ]
 go_wp2_with (go_at_call 67;refine (add_over _ _ _ A4.out.1 A4.out.2.1 A4.out.2.2).mono ?_;rintro e w' ⟨rfl,rfl⟩)
 exact ⟨rfl,rfl,((Below.refl _ w).alloc (Nat.le_refl _) _).alloc (by simp) _⟩
set_option maxHeartbeats 2000000 in
theorem join1_5 (p q:Nat) (a0 a1 a2 a3 a4 b0 b1 b2 b3 b4:Int) (w:World) (ca0:w.cell? ⟨p,0,none⟩=some (.int .i64 a0)) (cb0:w.cell? ⟨q,0,none⟩=some (.int .i64 b0)) (ca1:w.cell? ⟨p,1,none⟩=some (.int .i64 a1)) (cb1:w.cell? ⟨q,1,none⟩=some (.int .i64 b1)) (ca2:w.cell? ⟨p,2,none⟩=some (.int .i64 a2)) (cb2:w.cell? ⟨q,2,none⟩=some (.int .i64 b2)) (ca3:w.cell? ⟨p,3,none⟩=some (.int .i64 a3)) (cb3:w.cell? ⟨q,3,none⟩=some (.int .i64 b3)) (ca4:w.cell? ⟨p,4,none⟩=some (.int .i64 a4)) (cb4:w.cell? ⟨q,4,none⟩=some (.int .i64 b4)) (ra0:InR a0) (rb0:InR b0) (ra1:InR a1) (rb1:InR b1) (ra2:InR a2) (rb2:InR b2) (ra3:InR a3) (rb3:InR b3) (ra4:InR a4) (rb4:InR b4) (h0:InR (a0+b0)) (h1:InR (a1+b1)) (h2:InR (a2+b2)) (h3:InR (a3+b3)) (h4:InR (a4+b4)) :
  Calls Tryz.prog 66 #[.pointer (some ⟨p,0,none⟩),.pointer (some ⟨q,0,none⟩)] w fun e w'=>e=.returned (.agg #[.int .i64 (a0+b0),.int .i64 (a1+b1),.int .i64 (a2+b2),.int .i64 (a3+b3),.int .i64 (a4+b4)])∧Below w.heap.size w w':=by
 have hi0:∀w,(Instr.index 39 (.agg #[.int .i64 a0,.int .i64 a1,.int .i64 a2,.int .i64 a3,.int .i64 a4]) (.int .i64 0)).run Tryz.prog w=.ok (.int .i64 a0) w:=fun _=>by kernel_rfl
 have hi1:∀w,(Instr.index 39 (.agg #[.int .i64 a0,.int .i64 a1,.int .i64 a2,.int .i64 a3,.int .i64 a4]) (.int .i64 1)).run Tryz.prog w=.ok (.int .i64 a1) w:=fun _=>by kernel_rfl
 have hi2:∀w,(Instr.index 39 (.agg #[.int .i64 a0,.int .i64 a1,.int .i64 a2,.int .i64 a3,.int .i64 a4]) (.int .i64 2)).run Tryz.prog w=.ok (.int .i64 a2) w:=fun _=>by kernel_rfl
 have hi3:∀w,(Instr.index 39 (.agg #[.int .i64 a0,.int .i64 a1,.int .i64 a2,.int .i64 a3,.int .i64 a4]) (.int .i64 3)).run Tryz.prog w=.ok (.int .i64 a3) w:=fun _=>by kernel_rfl
 have hi4:∀w,(Instr.index 39 (.agg #[.int .i64 a0,.int .i64 a1,.int .i64 a2,.int .i64 a3,.int .i64 a4]) (.int .i64 4)).run Tryz.prog w=.ok (.int .i64 a4) w:=fun _=>by kernel_rfl
 have hp:=cell_lt ca0
 have hq:=cell_lt cb0
 have A0:=Lib.hid (And.intro ra0 (And.intro rb0 h0))
 have A1:=Lib.hid (And.intro ra1 (And.intro rb1 h1))
 have A2:=Lib.hid (And.intro ra2 (And.intro rb2 h2))
 have A3:=Lib.hid (And.intro ra3 (And.intro rb3 h3))
 have A4:=Lib.hid (And.intro ra4 (And.intro rb4 h4))
 clear ra0 rb0 ra1 rb1 ra2 rb2 ra3 rb3 ra4 rb4 h0 h1 h2 h3 h4
 go_enter Tryz.func66,Tryz.ntmps66
 go_wp2
 refine wp_loop_rounds 6 ?_
 rw [rounds_succ]
 go_wp2_with (go_at_call 67;refine (add_fits _ _ _ A0.out.1 A0.out.2.1 A0.out.2.2).mono ?_;rintro e w' ⟨rfl,rfl⟩)
 rw [rounds_succ]
 go_wp2_with (go_at_call 67;refine (add_fits _ _ _ A1.out.1 A1.out.2.1 A1.out.2.2).mono ?_;rintro e w' ⟨rfl,rfl⟩)
 rw [rounds_succ]
 go_wp2_with (go_at_call 67;refine (add_fits _ _ _ A2.out.1 A2.out.2.1 A2.out.2.2).mono ?_;rintro e w' ⟨rfl,rfl⟩)
 rw [rounds_succ]
 go_wp2_with (go_at_call 67;refine (add_fits _ _ _ A3.out.1 A3.out.2.1 A3.out.2.2).mono ?_;rintro e w' ⟨rfl,rfl⟩)
 rw [rounds_succ]
 go_wp2_with (go_at_call 67;refine (add_fits _ _ _ A4.out.1 A4.out.2.1 A4.out.2.2).mono ?_;rintro e w' ⟨rfl,rfl⟩)
 rw [rounds_succ]
 go_wp2
 refine bodyPost_ret (v:=.agg #[.int .i64 (a0+b0),.int .i64 (a1+b1),.int .i64 (a2+b2),.int .i64 (a3+b3),.int .i64 (a4+b4)]) (by simp [results,Tryz.results66,go_sem]) rfl ⟨rfl,?_⟩
 exact ((Below.refl _ w).alloc (Nat.le_refl _) _).alloc (by simp) _
theorem enter_join1 (cap:Array Value) (w:World):(callFunc 66 cap).run Tryz.prog w=.ok (.enter 66 cap) w:=by kernel_rfl
def joinV (a0 a1 a2 a3 a4 b0 b1 b2 b3 b4:Int):Value:=if InR (a0+b0)∧InR (a1+b1)∧InR (a2+b2)∧InR (a3+b3)∧InR (a4+b4) then .agg #[.int .i64 (a0+b0),.int .i64 (a1+b1),.int .i64 (a2+b2),.int .i64 (a3+b3),.int .i64 (a4+b4)] else .agg #[.int .i64 0,.int .i64 0,.int .i64 0,.int .i64 0,.int .i64 0]
def joinE (a0 a1 a2 a3 a4 b0 b1 b2 b3 b4:Int):Int:=if InR (a0+b0)∧InR (a1+b1)∧InR (a2+b2)∧InR (a3+b3)∧InR (a4+b4) then 0 else 2
theorem join_within (p q:Nat) (a0 a1 a2 a3 a4 b0 b1 b2 b3 b4:Int) (w:World) (ca0:w.cell? ⟨p,0,none⟩=some (.int .i64 a0)) (cb0:w.cell? ⟨q,0,none⟩=some (.int .i64 b0)) (ca1:w.cell? ⟨p,1,none⟩=some (.int .i64 a1)) (cb1:w.cell? ⟨q,1,none⟩=some (.int .i64 b1)) (ca2:w.cell? ⟨p,2,none⟩=some (.int .i64 a2)) (cb2:w.cell? ⟨q,2,none⟩=some (.int .i64 b2)) (ca3:w.cell? ⟨p,3,none⟩=some (.int .i64 a3)) (cb3:w.cell? ⟨q,3,none⟩=some (.int .i64 b3)) (ca4:w.cell? ⟨p,4,none⟩=some (.int .i64 a4)) (cb4:w.cell? ⟨q,4,none⟩=some (.int .i64 b4)) (ra0:InR a0) (rb0:InR b0) (ra1:InR a1) (rb1:InR b1) (ra2:InR a2) (rb2:InR b2) (ra3:InR a3) (rb3:InR b3) (ra4:InR a4) (rb4:InR b4) :
  Calls Tryz.prog 65 #[.func (.func 66) #[] #[.pointer (some ⟨p,0,none⟩),.pointer (some ⟨q,0,none⟩)]] w fun e w'=>e=.returned (.tuple #[joinV a0 a1 a2 a3 a4 b0 b1 b2 b3 b4,.int .i64 (joinE a0 a1 a2 a3 a4 b0 b1 b2 b3 b4)])∧Below w.heap.size w w':=by
 by_cases h:InR (a0+b0)∧InR (a1+b1)∧InR (a2+b2)∧InR (a3+b3)∧InR (a4+b4)
 ·have e1:joinV a0 a1 a2 a3 a4 b0 b1 b2 b3 b4=.agg #[.int .i64 (a0+b0),.int .i64 (a1+b1),.int .i64 (a2+b2),.int .i64 (a3+b3),.int .i64 (a4+b4)]:=by unfold joinV;rw [if_pos h]
  have e2:joinE a0 a1 a2 a3 a4 b0 b1 b2 b3 b4=0:=by unfold joinE;rw [if_pos h]
  rw [e1,e2]
  refine withinC_ok _ _ _ _ _ _ _ _ (enter_join1 _) ?_
  have:=join1_5 p q a0 a1 a2 a3 a4 b0 b1 b2 b3 b4 ((w.alloc (.cells #[.int .i64 0,.int .i64 0,.int .i64 0,.int .i64 0,.int .i64 0] 39)).alloc (.cells #[.int .i64 0] 30)) (cell_old (cell_old ca0 _) _) (cell_old (cell_old cb0 _) _) (cell_old (cell_old ca1 _) _) (cell_old (cell_old cb1 _) _) (cell_old (cell_old ca2 _) _) (cell_old (cell_old cb2 _) _) (cell_old (cell_old ca3 _) _) (cell_old (cell_old cb3 _) _) (cell_old (cell_old ca4 _) _) (cell_old (cell_old cb4 _) _) ra0 rb0 ra1 rb1 ra2 rb2 ra3 rb3 ra4 rb4 h.1 h.2.1 h.2.2.1 h.2.2.2.1 h.2.2.2.2
  simpa using this
 ·have e1:joinV a0 a1 a2 a3 a4 b0 b1 b2 b3 b4=.agg #[.int .i64 0,.int .i64 0,.int .i64 0,.int .i64 0,.int .i64 0]:=by unfold joinV;rw [if_neg h]
  have e2:joinE a0 a1 a2 a3 a4 b0 b1 b2 b3 b4=2:=by unfold joinE;rw [if_neg h]
  rw [e1,e2]
  refine withinC_err _ _ _ _ (enter_join1 _) ?_
  by_cases h0:InR (a0+b0)
  case neg=>
   have:=join1_0 p q a0 a1 a2 a3 a4 b0 ((w.alloc (.cells #[.int .i64 0,.int .i64 0,.int .i64 0,.int .i64 0,.int .i64 0] 39)).alloc (.cells #[.int .i64 0] 30)) (cell_old (cell_old ca0 _) _) (cell_old (cell_old cb0 _) _) (cell_old (cell_old ca1 _) _) (cell_old (cell_old ca2 _) _) (cell_old (cell_old ca3 _) _) (cell_old (cell_old ca4 _) _) ra0 rb0 h0
   simpa using this
  by_cases h1:InR (a1+b1)
  case neg=>
   have:=join1_1 p q a0 a1 a2 a3 a4 b0 b1 ((w.alloc (.cells #[.int .i64 0,.int .i64 0,.int .i64 0,.int .i64 0,.int .i64 0] 39)).alloc (.cells #[.int .i64 0] 30)) (cell_old (cell_old ca0 _) _) (cell_old (cell_old cb0 _) _) (cell_old (cell_old ca1 _) _) (cell_old (cell_old cb1 _) _) (cell_old (cell_old ca2 _) _) (cell_old (cell_old ca3 _) _) (cell_old (cell_old ca4 _) _) ra0 rb0 ra1 rb1 h0 h1
   simpa using this
  by_cases h2:InR (a2+b2)
  case neg=>
   have:=join1_2 p q a0 a1 a2 a3 a4 b0 b1 b2 ((w.alloc (.cells #[.int .i64 0,.int .i64 0,.int .i64 0,.int .i64 0,.int .i64 0] 39)).alloc (.cells #[.int .i64 0] 30)) (cell_old (cell_old ca0 _) _) (cell_old (cell_old cb0 _) _) (cell_old (cell_old ca1 _) _) (cell_old (cell_old cb1 _) _) (cell_old (cell_old ca2 _) _) (cell_old (cell_old cb2 _) _) (cell_old (cell_old ca3 _) _) (cell_old (cell_old ca4 _) _) ra0 rb0 ra1 rb1 ra2 rb2 h0 h1 h2
   simpa using this
  by_cases h3:InR (a3+b3)
  case neg=>
   have:=join1_3 p q a0 a1 a2 a3 a4 b0 b1 b2 b3 ((w.alloc (.cells #[.int .i64 0,.int .i64 0,.int .i64 0,.int .i64 0,.int .i64 0] 39)).alloc (.cells #[.int .i64 0] 30)) (cell_old (cell_old ca0 _) _) (cell_old (cell_old cb0 _) _) (cell_old (cell_old ca1 _) _) (cell_old (cell_old cb1 _) _) (cell_old (cell_old ca2 _) _) (cell_old (cell_old cb2 _) _) (cell_old (cell_old ca3 _) _) (cell_old (cell_old cb3 _) _) (cell_old (cell_old ca4 _) _) ra0 rb0 ra1 rb1 ra2 rb2 ra3 rb3 h0 h1 h2 h3
   simpa using this
  by_cases h4:InR (a4+b4)
  case neg=>
   have:=join1_4 p q a0 a1 a2 a3 a4 b0 b1 b2 b3 b4 ((w.alloc (.cells #[.int .i64 0,.int .i64 0,.int .i64 0,.int .i64 0,.int .i64 0] 39)).alloc (.cells #[.int .i64 0] 30)) (cell_old (cell_old ca0 _) _) (cell_old (cell_old cb0 _) _) (cell_old (cell_old ca1 _) _) (cell_old (cell_old cb1 _) _) (cell_old (cell_old ca2 _) _) (cell_old (cell_old cb2 _) _) (cell_old (cell_old ca3 _) _) (cell_old (cell_old cb3 _) _) (cell_old (cell_old ca4 _) _) (cell_old (cell_old cb4 _) _) ra0 rb0 ra1 rb1 ra2 rb2 ra3 rb3 ra4 rb4 h0 h1 h2 h3 h4
   simpa using this
  exact absurd ⟨h0,h1,h2,h3,h4⟩ h
theorem joinV_eq (a0 a1 a2 a3 a4 b0 b1 b2 b3 b4:Int):∃s0 s1 s2 s3 s4,joinV a0 a1 a2 a3 a4 b0 b1 b2 b3 b4=.agg #[.int .i64 s0,.int .i64 s1,.int .i64 s2,.int .i64 s3,.int .i64 s4]:=by
 unfold joinV
 split
 ·exact ⟨_,_,_,_,_,rfl⟩
 ·exact ⟨_,_,_,_,_,rfl⟩
set_option maxHeartbeats 1000000 in
theorem Join_any (a0 a1 a2 a3 a4 b0 b1 b2 b3 b4:Int) (w:World) (ra0:InR a0) (rb0:InR b0) (ra1:InR a1) (rb1:InR b1) (ra2:InR a2) (rb2:InR b2) (ra3:InR a3) (rb3:InR b3) (ra4:InR a4) (rb4:InR b4) :
  Calls Tryz.prog 28 #[.agg #[.int .i64 a0,.int .i64 a1,.int .i64 a2,.int .i64 a3,.int .i64 a4],.agg #[.int .i64 b0,.int .i64 b1,.int .i64 b2,.int .i64 b3,.int .i64 b4]] w fun e w'=>e=.returned (.tuple #[joinV a0 a1 a2 a3 a4 b0 b1 b2 b3 b4,.int .i64 (joinE a0 a1 a2 a3 a4 b0 b1 b2 b3 b4)])∧Below w.heap.size w w':=by
 have hmf:∀(fn:Fn) (first cap:Array Value) (w:World),(Instr.makeFunc fn first cap).run Tryz.prog w=.ok (.func fn first cap) w:=fun _ _ _ _=>rfl
 have H:=join_within w.heap.size (w.heap.size+1) a0 a1 a2 a3 a4 b0 b1 b2 b3 b4 (((w.alloc (.cells #[.int .i64 a0,.int .i64 a1,.int .i64 a2,.int .i64 a3,.int .i64 a4] 39)).alloc (.cells #[.int .i64 b0,.int .i64 b1,.int .i64 b2,.int .i64 b3,.int .i64 b4] 39)).alloc (.cells #[.int .i64 0,.int .i64 0,.int .i64 0,.int .i64 0,.int .i64 0] 39)) (by simp [go_sem]) (by simp [go_sem]) (by simp [go_sem]) (by simp [go_sem]) (by simp [go_sem]) (by simp [go_sem]) (by simp [go_sem]) (by simp [go_sem]) (by simp [go_sem]) (by simp [go_sem]) ra0 rb0 ra1 rb1 ra2 rb2 ra3 rb3 ra4 rb4
 obtain ⟨s0,s1,s2,s3,s4,hs⟩:=joinV_eq a0 a1 a2 a3 a4 b0 b1 b2 b3 b4
 rw [hs] at H ⊢
 have H:=Lib.hid H
 clear hs
 go_enter Tryz.func28,Tryz.ntmps28
 go_wp2_with fail
 refine H.out.mono ?_
 rintro e w1 ⟨rfl,hb⟩
 have hb3:Below (w.heap.size+3) (((w.alloc (.cells #[.int .i64 a0,.int .i64 a1,.int .i64 a2,.int .i64 a3,.int .i64 a4] 39)).alloc (.cells #[.int .i64 b0,.int .i64 b1,.int .i64 b2,.int .i64 b3,.int .i64 b4] 39)).alloc (.cells #[.int .i64 0,.int .i64 0,.int .i64 0,.int .i64 0,.int .i64 0] 39)) w1:=hb.mono (by simp)
 have hc:∀b o,b < w.heap.size+3→w1.cell? ⟨b,o,none⟩=(((w.alloc (.cells #[.int .i64 a0,.int .i64 a1,.int .i64 a2,.int .i64 a3,.int .i64 a4] 39)).alloc (.cells #[.int .i64 b0,.int .i64 b1,.int .i64 b2,.int .i64 b3,.int .i64 b4] 39)).alloc (.cells #[.int .i64 0,.int .i64 0,.int .i64 0,.int .i64 0,.int .i64 0] 39)).cell? ⟨b,o,none⟩:=fun b o hl=>hb3.cell (p:=⟨b,o,none⟩) hl
 have hf:∀b o,b < w.heap.size+3→w1.frozen? ⟨b,o,none⟩=(((w.alloc (.cells #[.int .i64 a0,.int .i64 a1,.int .i64 a2,.int .i64 a3,.int .i64 a4] 39)).alloc (.cells #[.int .i64 b0,.int .i64 b1,.int .i64 b2,.int .i64 b3,.int .i64 b4] 39)).alloc (.cells #[.int .i64 0,.int .i64 0,.int .i64 0,.int .i64 0,.int .i64 0] 39)).frozen? ⟨b,o,none⟩:=fun b o hl=>hb3.frozen (p:=⟨b,o,none⟩) hl
 have c0:w1.cell? ⟨w.heap.size+1+1,0,none⟩=some (.int .i64 0):=by rw [hc _ _ (by omega)];simp [go_sem]
 have f0:w1.frozen? ⟨w.heap.size+1+1,0,none⟩=false:=by rw [hf _ _ (by omega)];simp [go_sem]
 have c1:w1.cell? ⟨w.heap.size+1+1,1,none⟩=some (.int .i64 0):=by rw [hc _ _ (by omega)];simp [go_sem]
 have f1:w1.frozen? ⟨w.heap.size+1+1,1,none⟩=false:=by rw [hf _ _ (by omega)];simp [go_sem]
 have c2:w1.cell? ⟨w.heap.size+1+1,2,none⟩=some (.int .i64 0):=by rw [hc _ _ (by omega)];simp [go_sem]
 have f2:w1.frozen? ⟨w.heap.size+1+1,2,none⟩=false:=by rw [hf _ _ (by omega)];simp [go_sem]
 have c3:w1.cell? ⟨w.heap.size+1+1,3,none⟩=some (.int .i64 0):=by rw [hc _ _ (by omega)];simp [go_sem]
 have f3:w1.frozen? ⟨w.heap.size+1+1,3,none⟩=false:=by rw [hf _ _ (by omega)];simp [go_sem]
 have c4:w1.cell? ⟨w.heap.size+1+1,4,none⟩=some (.int .i64 0):=by rw [hc _ _ (by omega)];simp [go_sem]
 have f4:w1.frozen? ⟨w.heap.size+1+1,4,none⟩=false:=by rw [hf _ _ (by omega)];simp [go_sem]
 clear hc hf H
 go_wp2
 obtain ⟨V,hV⟩:∃V,V=((((((w1.setCell ⟨w.heap.size+1+1,0,none⟩ (.int .i64 s0)).setCell ⟨w.heap.size+1+1,1,none⟩ (.int .i64 s1)).setCell ⟨w.heap.size+1+1,2,none⟩ (.int .i64 s2)).setCell ⟨w.heap.size+1+1,3,none⟩ (.int .i64 s3)).setCell ⟨w.heap.size+1+1,4,none⟩ (.int .i64 s4))):=⟨_,rfl⟩
 have bV:Below w.heap.size w V:=by
  rw [hV]
  exact (((((((((Below.refl _ w).alloc (Nat.le_refl _) _).alloc (by simp) _).alloc (by simp;omega) _).trans (hb3.mono (by omega))).setCell (by simp;omega) _).setCell (by simp;omega) _).setCell (by simp;omega) _).setCell (by simp;omega) _).setCell (by simp;omega) _
 have d0:V.cell? ⟨w.heap.size+1+1,0,none⟩=some (.int .i64 s0):=by rw [hV];simp [go_sem,c0]
 have d1:V.cell? ⟨w.heap.size+1+1,1,none⟩=some (.int .i64 s1):=by rw [hV];simp [go_sem,c1]
 have d2:V.cell? ⟨w.heap.size+1+1,2,none⟩=some (.int .i64 s2):=by rw [hV];simp [go_sem,c2]
 have d3:V.cell? ⟨w.heap.size+1+1,3,none⟩=some (.int .i64 s3):=by rw [hV];simp [go_sem,c3]
 have d4:V.cell? ⟨w.heap.size+1+1,4,none⟩=some (.int .i64 s4):=by rw [hV];simp [go_sem,c4]
 rw [←hV]
 clear hV c0 c1 c2 c3 c4 f0 f1 f2 f3 f4
 exact bodyPost_ret (v:=.tuple #[.agg #[.int .i64 s0,.int .i64 s1,.int .i64 s2,.int .i64 s3,.int .i64 s4],.int .i64 (joinE a0 a1 a2 a3 a4 b0 b1 b2 b3 b4)]) (by simp [results,Tryz.results28,go_sem,d0,d1,d2,d3,d4]) rfl ⟨rfl,bV⟩
theorem all_range_int:∀(xs ys:List Int),xs.length=ys.length→(List.range xs.length).all (fun i=>xs.getD i 0==ys.getD i 0)=(xs==ys)
 | [],[],_=>rfl
 | x::xs,y::ys,h=>by
  have ih:=all_range_int xs ys (by simpa using h)
  rw [List.length_cons,List.range_succ_eq_map,List.all_cons,List.all_map]
  simp only [List.getD_cons_zero,Function.comp_def,List.getD_cons_succ,ih]
  simp [List.cons_beq_cons]
 | [],_::_,h=>by simp at h
 | _::_,[],h=>by simp at h
section
variable {P:Program} (w:World)
theorem run_equalIn_ints (d:Nat) (t e:TypeId) (n:Nat) (ht:P.underlying t=some (.array n e)) (he:P.underlying e=some (.int .i64)) (hsz:∀w,(sizeOf e).run P w=.ok 1 w)
  (xs ys:List Int) (hx:xs.length=n) (hy:ys.length=n) :
  (Op.equalIn (d+2) t (.agg (ints xs).toArray) (.agg (ints ys).toArray)).run P w=.ok (xs==ys) w:=by
 rw [←all_range_int xs ys (hx.trans hy.symm),hx,List.range_eq_range',Op.equalIn]
 simp only [Sem.run_bind,run_underlying ht,Result.andThen_ok,hsz,Std.Legacy.Range.forIn_eq_forIn_range',Std.Legacy.Range.size,Nat.sub_zero,Nat.add_sub_cancel,Nat.div_one]
 have hl:∀i ∈ List.range' 0 n 1,i < n:=fun i hi=>by simpa using (List.mem_range'_1.1 hi).2
 generalize List.range' 0 n 1=l at hl ⊢
 induction l with
 | nil=>simp
 | cons i l ih=>
  have hi:i < n:=hl i (by simp)
  have px:(part e (ints xs).toArray (i*1)).run P w=.ok (.int .i64 (xs.getD i 0)) w:=by
   simp [part,isAgg,run_underlying he,List.getD,ints,List.getElem?_eq_getElem (show i < xs.length by omega)]
  have py:(part e (ints ys).toArray (i*1)).run P w=.ok (.int .i64 (ys.getD i 0)) w:=by
   simp [part,isAgg,run_underlying he,List.getD,ints,List.getElem?_eq_getElem (show i < ys.length by omega)]
  have pe:(Op.equalIn (d+1) e (.int .i64 (xs.getD i 0)) (.int .i64 (ys.getD i 0))).run P w=.ok (xs.getD i 0==ys.getD i 0) w:=
   run_equalIn_int w d e .i64 .i64 _ _ he
  simp only [List.forIn_cons,Sem.run_bind,px,py,pe,Result.andThen_ok,List.all_cons]
  cases hb:(xs.getD i 0==ys.getD i 0)
  ·simp
  ·simp only [Bool.not_true,Bool.false_eq_true,if_false,Sem.run_pure,Result.andThen_ok,Bool.true_and]
   exact ih fun j hj=>hl j (by simp [hj])
end
theorem size_int (w:World):(sizeOf 3).run Tryz.prog w=.ok 1 w:=by kernel_rfl
theorem eq_five (a0 a1 a2 a3 a4 b0 b1 b2 b3 b4:Int) (w:World) :
  (Op.equalIn 10000 39 (.agg #[.int .i64 a0,.int .i64 a1,.int .i64 a2,.int .i64 a3,.int .i64 a4]) (.agg #[.int .i64 b0,.int .i64 b1,.int .i64 b2,.int .i64 b3,.int .i64 b4])).run Tryz.prog w=.ok ([a0,a1,a2,a3,a4]==[b0,b1,b2,b3,b4]) w:=
 run_equalIn_ints w 9998 _ _ 5 Tryz.underlying39 Tryz.underlying3 size_int [a0,a1,a2,a3,a4] [b0,b1,b2,b3,b4] rfl rfl
theorem int_flat11:∀(w:World) (S S':Nat→Prop) (a:Int) (cs:List Value),rdInt w S a cs→rdInt w S' a cs:=fun _ _ _ _ _ h=>h
end Go.Proofs.YtpilmhoakopcaaaGreatDoor
namespace Go.Proofs.YtpilmhoakopcaaaGreatDoor
open Go.RowKit Go.Sort
theorem setL_step (l:List Int) (k:Nat):setL l (k+1)=setL l k++(if l.contains (k:Int)=true then [(k:Int)] else []):=by
 unfold setL
 rw [List.range_succ,List.filter_append,List.map_append]
 congr 1
 by_cases h:l.contains (k:Int)=true
 ·rw [if_pos h,List.filter_cons,if_pos h];rfl
 ·rw [if_neg h,List.filter_cons,if_neg h];rfl
theorem setL_len (l:List Int) (n:Nat):(setL l n).length≤n:=by
 unfold setL
 rw [List.length_map]
 exact Nat.le_trans (List.length_filter_le _ _) (by rw [List.length_range];exact Nat.le_refl _)
theorem any_take10 {p:Int→Bool} {l:List Int} {k:Nat} (h:k < l.length):(l.take (k+1)).any p=((l.take k).any p||p l[k]):=by
 rw [List.take_succ_eq_append_getElem h,List.any_append];simp
set_option maxHeartbeats 16000000 in
theorem set11_any (A:Option Addr) (n0 c:Nat) (l:List Int) (N:Nat) (w:World) (h:rdInts w (lt_ w.heap.size) l [.slice A n0 c]) (hN:N≤1000) :
  Calls Tryz.prog 13 #[.slice A n0 c,.int .i64 (N:Int)] w fun e w'=>(∃A' c',e=.returned (.slice A' (setL l N).length c')∧rdInts w' (lt_ w'.heap.size) (setL l N) [.slice A' (setL l N).length c'])∧Below w.heap.size w w':=by
 obtain ⟨fi,hi,hz0,hz1,hz2⟩:=info_parts int9_info
 obtain ⟨rfl,hnc,hcm,-⟩:=rdInts_at h
 have hcm':c≤9223372036854775807:=hcm
 have HAT:=Lib.hid (fun (W:World) (hb:Below w.heap.size w W)=>(rdInts_at (rdInts_good.up (rdInts_good.below h hb) hb.size)).2.2.2)
 clear h hcm
 go_enter Tryz.func13,Tryz.ntmps13
 go_wp2
 go_loopw [5,6] (fun v i wr=>∃k:Nat,k≤N∧i=.int .i64 k∧Grow rdInt 1 (fun _=>True) wr w.heap.size 3 v (setL l k)∧Below w.heap.size w wr) (fun _ i _=>N - (intOf i).toNat)
 case atStart=>exact ⟨0,Nat.zero_le _,rfl,Grow.nil _ _ _ _,Below.refl _ _⟩
 case round=>
  obtain ⟨k,hk,rfl,hG,hbel⟩:=hrel
  have HB:=Lib.hid hbel
  have HG:=Lib.hid hG
  clear hbel hG
  by_cases hlt:k < N
  ·have i0:(0:Int)≤(k:Int):=by omega
   have i1:(k:Int) < (N:Int):=by omega
   have ST:=Lib.hid (setL_step l k)
   have SCx:=Lib.hid (contains_any10 l (k:Int))
   have LN:=Lib.hid (Nat.le_trans (setL_len l k) (show k≤1000 by omega))
   generalize setL l k=gl at *
   generalize hgn:setL l (k+1)=gn at *
   have HGN:=Lib.hid hgn
   clear hgn
   obtain ⟨wo,hwo⟩:∃W,W=wr:=⟨_,rfl⟩
   rw [←hwo] at HB HG ⊢
   clear hwo
   go_wp2
   go_loop [7,8] (fun f i=>∃j:Nat,j≤l.length∧i=.int .i64 j∧f=.bool ((l.take j).any fun x=>x==(k:Int))) (fun _ i=>l.length - (intOf i).toNat)
   case atStart=>exact ⟨0,Nat.zero_le _,rfl,rfl⟩
   case round=>
    obtain ⟨j,hj,rfl,rfl⟩:=hrel
    by_cases hjl:j < l.length
    ·obtain ⟨ad,rfl,-,g0⟩:=HAT.out wo HB.out j hjl
     have j0:(0:Int)≤(j:Int):=by omega
     have j1:(j:Int) < (l.length:Int):=by omega
     have TK:=Lib.hid (any_take10 (p:=fun x=>x==(k:Int)) hjl)
     generalize hq:(l.take j).any (fun x=>x==(k:Int))=q at *
     generalize hq2:(l.take (j+1)).any (fun x=>x==(k:Int))=q2 at *
     generalize hx:l[j]=x at *
     clear hq hx
     cases q
     ·go_wp2
      go_round
      case rel=>exact ⟨j+1,by omega,by go_num,by rw [hq2,TK.out];rfl⟩
      case measure=>simp [intOf];omega
     ·go_wp2
      go_round
      case rel=>exact ⟨j+1,by omega,by go_num,by rw [hq2,TK.out];rfl⟩
      case measure=>simp [intOf];omega
    ·obtain rfl:j=l.length:=by omega
     have j0:¬(l.length:Int) < (l.length:Int):=by omega
     have CC:=Lib.hid (show (l.take l.length).any (fun x=>x==(k:Int))=l.contains (k:Int) from by rw [List.take_length,SCx.out])
     generalize (l.take l.length).any (fun x=>x==(k:Int))=q at *
     cases q
     ·have NX:=Lib.hid (show gn=gl by rw [ST.out,if_neg (by rw [←CC.out];decide),List.append_nil])
      go_wp2
      go_roundw
      case rel=>exact ⟨k+1,by omega,by go_num,by rw [HGN.out,NX.out];exact HG.out,HB.out⟩
      case measure=>simp [intOf];omega
     ·have NX:=Lib.hid (show gn=gl++[(k:Int)] by rw [ST.out,if_pos CC.out.symm])
      have hE:=(show rdInt wo (fun b=>True∧b < wo.heap.size∧u5.ownBlock≠some b) (k:Int) (#[Value.int .i64 (k:Int)]:Array Value).toList from rfl)
      have hn1:gl.length+1≤maxLen:=by have:=LN.out;unfold maxLen;omega
      have hn2:(gl.length+1)*8≤140737488355328:=by have:=LN.out;omega
      have hbs3:w.heap.size≤wo.heap.size:=HB.out.size
      have hG3:=HG.out
      go_wp2_with (at_builtin;refine wpList_grow1 wo rfl _ _ 25 rfl rdInt_good (by decide) (fun _=>True) w.heap.size 3 fi _ 8 Tryz.underlying25 hi hz0 hz1 hz2 rfl u5 gl rfl hG3 (k:Int) _ 3 hE _ rfl rfl hn1 hn2 hbs3 ?_)
      intro v' w' hG' hgr
      have G4:=Lib.hid hG'
      have B4:=Lib.hid (grow_below hG3 hgr HB.out (Nat.le_refl _) hbs3)
      clear hG3 hgr hE hG'
      go_wp2
      go_roundw
      case rel=>exact ⟨k+1,by omega,by go_num,by rw [HGN.out,NX.out];exact G4.out,B4.out⟩
      case measure=>simp [intOf];omega
  ·obtain rfl:k=N:=by omega
   have i0:¬(k:Int) < (k:Int):=by omega
   have RD:=Lib.hid (HG.out.read rdInt_good)
   obtain ⟨Av,cv,hv6,-,-⟩:=HG.out.own
   subst hv6
   clear HG
   go_wp2
   go_ret
   exact ⟨⟨Av,cv,rfl,RD.out⟩,HB.out⟩
end Go.Proofs.YtpilmhoakopcaaaGreatDoor
namespace Go.Proofs.YtpilmhoakopcaaaGreatDoor
open Go.RowKit Go.WideShapes Go.ChangeShapes Go.ChangeAt Go.WideMaps Go.WideElems Go.Joins
section
variable {H:Type} {enc:TypeId × Value→H} {W:World}
theorem one_int {base n:Nat} {sp:Nat→Bool} {held:Bool} {v:Value} {y:DataW H × List MemPlace} (h:DataW.trod enc Tryz.prog W base sp held n 3 [v]=some y):∃e:Int,v=.int .i64 e∧(Lit.int .i64 e).wf=true:=by
 obtain ⟨e,h0,_,h2⟩:=DataW.trod_int Tryz.underlying3 h
 injection h0 with h0
 exact ⟨e,h0,h2⟩
theorem one_string {base n:Nat} {sp:Nat→Bool} {held:Bool} {v:Value} {y:DataW H × List MemPlace} (h:DataW.trod enc Tryz.prog W base sp held n 9 [v]=some y):∃s:ByteArray,v=.string s∧s.size≤maxLen:=by
 obtain ⟨s,h0,_,h2⟩:=DataW.trod_string Tryz.underlying9 h
 injection h0 with h0
 exact ⟨s,h0,h2⟩
end
end Go.Proofs.YtpilmhoakopcaaaGreatDoor
namespace Go.Proofs.YtpilmhoakopcaaaGreatDoor
open Go.RowKit Go.WideShapes Go.ChangeShapes Go.ChangeAt Go.WideMaps Go.WideElems Go.Joins Go.Deep
section
variable {H:Type} {enc:TypeId × Value→H} {W:World}
def AtmOk (a:Atm):Prop:=a.n.size≤maxLen∧(Lit.int .i64 a.o).wf=true∧a.v.size≤maxLen
theorem cells_atm:Tryz.prog.cellsOf 100=3:=by kernel_rfl
theorem cells_grp:Tryz.prog.cellsOf 103=1:=by kernel_rfl
theorem trod_atm {base n:Nat} {sp:Nat→Bool} {held:Bool} {cs:List Value} {y:DataW H × List MemPlace} (h:DataW.trod enc Tryz.prog W base sp held n 100 cs=some y):∃x:Atm,cs=x.cells∧AtmOk x:=by
 obtain ⟨y0,y1,y2,m,_,hl,h0,h1,h2⟩:=trod_struct3 Tryz.underlying100 h
 rw [cells_atm] at hl
 rcases cs with _|⟨c0,_|⟨c1,_|⟨c2,_|⟨c3,cs⟩⟩⟩⟩
 ·simp at hl
 ·simp at hl
 ·simp at hl
 ·have e0:DataW.trod enc Tryz.prog W base sp held m 9 [c0]=some y0:=h0
  have e1:DataW.trod enc Tryz.prog W base sp held m 3 [c1]=some y1:=h1
  have e2:DataW.trod enc Tryz.prog W base sp held m 9 [c2]=some y2:=h2
  obtain ⟨u,rfl,wu⟩:=one_string e0
  obtain ⟨e,rfl,we⟩:=one_int e1
  obtain ⟨r,rfl,wr⟩:=one_string e2
  exact ⟨⟨u,e,r⟩,rfl,wu,we,wr⟩
 ·simp at hl
theorem open_atoms_trod {base n:Nat} {sp:Nat→Bool} {held:Bool} {t:TypeId} {cs:List Value} {y:DataW H × List MemPlace} (ht:Tryz.prog.underlying t=some (.slice 100)) (h:DataW.trod enc Tryz.prog W base sp held n t cs=some y) :
  ∃A len c l,cs=[.slice A len c]∧rdAtms W (lt_ W.heap.size) l [.slice A len c]∧(∀a ∈ l,AtmOk a):=by
 rcases open_slice ht h with ⟨rfl,_⟩|⟨a,len,cap,m,k,D,Pl,rfl,hb,hl,hm,hmm,_,hx⟩
 ·exact ⟨none,0,0,[],rfl,rdRow_nil _ _,by simp⟩
 ·have hlm:len≤m:=by rw [hmm];split<;>omega
  have hat:∀i,i < len→∃x:Atm,AtmOk x∧a.block < W.heap.size∧∀j u,x.cells[j]?=some u→W.cell? (a.add (i*3+j))=some u:=by
   intro i hi
   obtain ⟨cs',hc,ht'⟩:=hx i (by omega)
   rw [cells_atm] at hc
   obtain ⟨x,rfl,hok⟩:=trod_atm ht'
   obtain ⟨_,hcl,hcell⟩:=World.cells?_some hc
   have key:∀j u,x.cells[j]?=some u→W.cell? (a.add (i*3+j))=some u:=fun j u hu=>by
    have hj:j < 3:=by have:=(List.getElem?_eq_some_iff.1 hu).1;simpa [Atm.cells] using this
    have:=hcell j hj
    rw [hu] at this
    rw [←this]
    congr 1
    unfold Addr.add
    by_cases h1:i*3=0<;>by_cases h2:j=0<;>simp [h1,h2,Nat.add_assoc]
   have hb':=World.block_lt_of_cell? _ _ (key 0 _ rfl)
   rw [blk_add] at hb'
   exact ⟨x,hok,hb',key⟩
  refine ⟨some a,len,cap,List.ofFn fun i:Fin len=>Classical.choose (hat i.1 i.2),rfl,⟨some a,cap,by simp,by simpa using hl,hm,fun i hi=>?_⟩,fun x hx=>?_⟩
  ·simp only [List.length_ofFn] at hi
   have hs:=Classical.choose_spec (hat i hi)
   refine ⟨a,_,rfl,hs.2.1,?_,?_,hs.2.2⟩
   ·show _=Atm.cells _
    rw [List.getElem_ofFn]
   ·rfl
  ·obtain ⟨i,hi⟩:=List.mem_ofFn.1 hx
   rw [←hi];exact (Classical.choose_spec (hat i.1 i.2)).1
end
section
variable {H:Type} {enc:TypeId × Value→H} {W:World}
def EntOk (x:Ent):Prop:=x.n.size≤maxLen∧x.v.size≤maxLen∧(∀g ∈ x.d,∀a ∈ g,AtmOk a)∧(∀g ∈ x.r,∀a ∈ g,AtmOk a)∧(∀a ∈ x.c,AtmOk a)∧(∀a ∈ x.p,AtmOk a)
theorem cells_ent:Tryz.prog.cellsOf 60=6:=by kernel_rfl
theorem open_grps_trod {base n:Nat} {sp:Nat→Bool} {held:Bool} {t:TypeId} {cs:List Value} {y:DataW H × List MemPlace} (ht:Tryz.prog.underlying t=some (.slice 103)) (hf:DataW.trod enc Tryz.prog W base sp held n t cs=some y) :
  ∃A len c L,cs=[.slice A len c]∧rdGrps W (lt_ W.heap.size) L [.slice A len c]∧(∀g ∈ L,∀a ∈ g,AtmOk a):=by
 rcases open_slice ht hf with ⟨rfl,_⟩|⟨a,len,cap,m,k,D,Pl,rfl,hb,hl,hm,hmm,_,hx⟩
 ·exact ⟨none,0,0,[],rfl,rdRow_nil _ _,by simp⟩
 ·have hlm:len≤m:=by rw [hmm];split<;>omega
  have hat:∀i,i < len→∃(g:List Atm) (u:Value),(∀x ∈ g,AtmOk x)∧a.block < W.heap.size∧rdAtms W (lt_ W.heap.size) g [u]∧W.cell? (a.add (i*1+0))=some u:=by
   intro i hi
   obtain ⟨cs',hc,ht'⟩:=hx i (by omega)
   rw [cells_grp] at hc
   obtain ⟨A,n,c,l,rfl,h1,h2⟩:=open_atoms_trod Tryz.underlying103 ht'
   obtain ⟨_,hcl,hcell⟩:=World.cells?_some hc
   have h0:=hcell 0 (by omega)
   have hadd:((a.add (i*1)).add 0)=a.add (i*1+0):=by unfold Addr.add;simp
   rw [hadd] at h0
   have hb':=World.block_lt_of_cell? W (a.add (i*1+0)) h0
   rw [blk_add] at hb'
   exact ⟨l,_,h2,hb',h1,h0⟩
  refine ⟨some a,len,cap,List.ofFn fun i:Fin len=>Classical.choose (hat i.1 i.2),rfl,⟨some a,cap,by simp,by simpa using hl,hm,fun i hi=>?_⟩,fun g hg=>?_⟩
  ·simp only [List.length_ofFn] at hi
   have hs:=Classical.choose_spec (Classical.choose_spec (hat i hi))
   refine ⟨a,[Classical.choose (Classical.choose_spec (hat i hi))],rfl,hs.2.1,?_,rfl,fun j u hu=>?_⟩
   ·rw [List.getElem_ofFn];exact hs.2.2.1
   ·have hj:j=0:=by have:=(List.getElem?_eq_some_iff.1 hu).1;simpa using this
    subst hj
    simp only [List.getElem?_cons_zero,Option.some.injEq] at hu
    rw [←hu];exact hs.2.2.2
  ·obtain ⟨i,hi⟩:=List.mem_ofFn.1 hg
   rw [←hi];exact (Classical.choose_spec (Classical.choose_spec (hat i.1 i.2))).1
theorem trod_ent {base n:Nat} {sp:Nat→Bool} {held:Bool} {cs:List Value} {y:DataW H × List MemPlace} (h:DataW.trod enc Tryz.prog W base sp held n 60 cs=some y):∃x:Ent,rdEnt W (lt_ W.heap.size) x cs∧EntOk x:=by
 obtain ⟨xs,m,_,rfl,hl,hlen,hf⟩:=DataW.trod_struct Tryz.underlying60 h
 rw [cells_ent] at hl
 rcases cs with _|⟨c0,_|⟨c1,_|⟨c2,_|⟨c3,_|⟨c4,_|⟨c5,_|⟨c6,cs⟩⟩⟩⟩⟩⟩⟩
 ·simp at hl
 ·simp at hl
 ·simp at hl
 ·simp at hl
 ·simp at hl
 ·simp at hl
 ·rcases xs with _|⟨y0,_|⟨y1,_|⟨y2,_|⟨y3,_|⟨y4,_|⟨y5,_|⟨y6,xs⟩⟩⟩⟩⟩⟩⟩
  ·simp at hlen
  ·simp at hlen
  ·simp at hlen
  ·simp at hlen
  ·simp at hlen
  ·simp at hlen
  ·have e0:DataW.trod enc Tryz.prog W base sp held m 9 [c0]=some y0:=hf 0 _ rfl
   have e1:DataW.trod enc Tryz.prog W base sp held m 9 [c1]=some y1:=hf 1 _ rfl
   have e2:DataW.trod enc Tryz.prog W base sp held m 57 [c2]=some y2:=hf 2 _ rfl
   have e3:DataW.trod enc Tryz.prog W base sp held m 57 [c3]=some y3:=hf 3 _ rfl
   have e4:DataW.trod enc Tryz.prog W base sp held m 58 [c4]=some y4:=hf 4 _ rfl
   have e5:DataW.trod enc Tryz.prog W base sp held m 58 [c5]=some y5:=hf 5 _ rfl
   obtain ⟨n,rfl,wn⟩:=one_string e0
   obtain ⟨v,rfl,wv⟩:=one_string e1
   obtain ⟨A1,n1,k1,d,h1,r1,o1⟩:=open_grps_trod Tryz.underlying57 e2
   obtain ⟨A2,n2,k2,r,h2,r2,o2⟩:=open_grps_trod Tryz.underlying57 e3
   obtain ⟨A3,n3,k3,c,h3,r3,o3⟩:=open_atoms_trod Tryz.underlying58 e4
   obtain ⟨A4,n4,k4,p,h4,r4,o4⟩:=open_atoms_trod Tryz.underlying58 e5
   simp only [List.cons.injEq,and_true] at h1 h2 h3 h4
   subst h1
   subst h2
   subst h3
   subst h4
   exact ⟨⟨n,v,d,r,c,p⟩,⟨_,_,_,_,rfl,r1,r2,r3,r4⟩,wn,wv,o1,o2,o3,o4⟩
  ·simp at hlen
 ·simp at hl
theorem open_ents_arg {v:Value} {d:DataW H} {p:List MemPlace} {base:Nat} (hv:Value.okWide Tryz.prog W .any base 22 v) (h:DataW.Trod enc Tryz.prog W 0 (fun _=>true) true 22 v d p) :
  ∃A n c l,v=.slice A n c∧rdEnts W (lt_ W.heap.size) l [.slice A n c]∧(∀x ∈ l,EntOk x):=by
 obtain ⟨a0,len0,cap0,rfl⟩:=okWide_slice Tryz.underlying22 hv
 obtain ⟨fuel,hf⟩:=h
 rcases open_slice Tryz.underlying22 hf with ⟨hcs,_⟩|⟨a,len,cap,m,k,D,Pl,hcs,hb,hl,hm,hmm,_,hx⟩
 ·simp [Value.cells] at hcs
  obtain ⟨rfl,rfl,rfl⟩:=hcs
  exact ⟨none,0,0,[],rfl,rdRow_nil _ _,by simp⟩
 ·simp [Value.cells] at hcs
  obtain ⟨rfl,rfl,rfl⟩:=hcs
  have hlm:len0≤m:=by rw [hmm];split<;>omega
  have hat:∀i,i < len0→∃(x:Ent) (es:List Value),EntOk x∧a.block < W.heap.size∧rdEnt W (lt_ W.heap.size) x es∧es.length=6∧∀j u,es[j]?=some u→W.cell? (a.add (i*6+j))=some u:=by
   intro i hi
   obtain ⟨cs',hc,ht'⟩:=hx i (by omega)
   rw [cells_ent] at hc
   obtain ⟨x,hrd,hok⟩:=trod_ent ht'
   obtain ⟨_,hcl,hcell⟩:=World.cells?_some hc
   have hlen:=rdEnt_good.len hrd
   have key:∀j u,cs'[j]?=some u→W.cell? (a.add (i*6+j))=some u:=fun j u hu=>by
    have hj:j < 6:=by have:=(List.getElem?_eq_some_iff.1 hu).1;omega
    have:=hcell j hj
    rw [hu] at this
    rw [←this]
    congr 1
    unfold Addr.add
    by_cases h1:i*6=0<;>by_cases h2:j=0<;>simp [h1,h2,Nat.add_assoc]
   have hb':=World.block_lt_of_cell? _ _ (key 0 _ (List.getElem?_eq_getElem (by omega)))
   rw [blk_add] at hb'
   exact ⟨x,cs',hok,hb',hrd,hlen,key⟩
  refine ⟨some a,len0,cap0,List.ofFn fun i:Fin len0=>Classical.choose (hat i.1 i.2),rfl,⟨some a,cap0,by simp,by simpa using hl,hm,fun i hi=>?_⟩,fun x hx=>?_⟩
  ·simp only [List.length_ofFn] at hi
   have hs:=Classical.choose_spec (Classical.choose_spec (hat i hi))
   refine ⟨a,Classical.choose (Classical.choose_spec (hat i hi)),rfl,hs.2.1,?_,hs.2.2.2.1,hs.2.2.2.2⟩
   rw [List.getElem_ofFn];exact hs.2.2.1
  ·obtain ⟨i,hi⟩:=List.mem_ofFn.1 hx
   rw [←hi];exact (Classical.choose_spec (Classical.choose_spec (hat i.1 i.2))).1
end
section
variable {H:Type} {enc:TypeId × Value→H} {W:World}
def HrOk (x:Hr):Prop:=EntOk x.e
theorem cells_here:Tryz.prog.cellsOf 67=8:=by kernel_rfl
theorem trod_here {base n:Nat} {sp:Nat→Bool} {held:Bool} {cs:List Value} {y:DataW H × List MemPlace} (h:DataW.trod enc Tryz.prog W base sp held n 67 cs=some y):∃x:Hr,rdHr W (lt_ W.heap.size) x cs∧HrOk x:=by
 obtain ⟨xs,m,_,rfl,hl,hlen,hf⟩:=DataW.trod_struct Tryz.underlying67 h
 rw [cells_here] at hl
 rcases cs with _|⟨c0,_|⟨c1,_|⟨c2,_|⟨c3,_|⟨c4,_|⟨c5,_|⟨c6,_|⟨c7,_|⟨c8,cs⟩⟩⟩⟩⟩⟩⟩⟩⟩
 ·simp at hl
 ·simp at hl
 ·simp at hl
 ·simp at hl
 ·simp at hl
 ·simp at hl
 ·simp at hl
 ·simp at hl
 ·rcases xs with _|⟨y0,_|⟨y1,_|⟨y2,_|⟨y3,xs⟩⟩⟩⟩
  ·simp at hlen
  ·simp at hlen
  ·simp at hlen
  ·have e0:DataW.trod enc Tryz.prog W base sp held m 60 [c0,c1,c2,c3,c4,c5]=some y0:=hf 0 _ rfl
   have e1:DataW.trod enc Tryz.prog W base sp held m 4 [c6]=some y1:=hf 1 _ rfl
   have e2:DataW.trod enc Tryz.prog W base sp held m 4 [c7]=some y2:=hf 2 _ rfl
   obtain ⟨x,hx,ok⟩:=trod_ent e0
   obtain ⟨b1,h1,-⟩:=DataW.trod_bool Tryz.underlying4 e1
   obtain ⟨b2,h2,-⟩:=DataW.trod_bool Tryz.underlying4 e2
   simp only [List.cons.injEq,and_true] at h1 h2
   subst h1
   subst h2
   exact ⟨⟨x,b1,b2⟩,⟨_,rfl,hx⟩,ok⟩
  ·simp at hlen
 ·simp at hl
theorem open_heres_arg {v:Value} {d:DataW H} {p:List MemPlace} {base:Nat} (hv:Value.okWide Tryz.prog W .any base 23 v) (h:DataW.Trod enc Tryz.prog W 0 (fun _=>true) true 23 v d p) :
  ∃A n c l,v=.slice A n c∧rdHrs W (lt_ W.heap.size) l [.slice A n c]∧(∀x ∈ l,HrOk x):=by
 obtain ⟨a0,len0,cap0,rfl⟩:=okWide_slice Tryz.underlying23 hv
 obtain ⟨fuel,hf⟩:=h
 rcases open_slice Tryz.underlying23 hf with ⟨hcs,_⟩|⟨a,len,cap,m,k,D,Pl,hcs,hb,hl,hm,hmm,_,hx⟩
 ·simp [Value.cells] at hcs
  obtain ⟨rfl,rfl,rfl⟩:=hcs
  exact ⟨none,0,0,[],rfl,rdRow_nil _ _,by simp⟩
 ·simp [Value.cells] at hcs
  obtain ⟨rfl,rfl,rfl⟩:=hcs
  have hlm:len0≤m:=by rw [hmm];split<;>omega
  have hat:∀i,i < len0→∃(x:Hr) (es:List Value),HrOk x∧a.block < W.heap.size∧rdHr W (lt_ W.heap.size) x es∧es.length=8∧∀j u,es[j]?=some u→W.cell? (a.add (i*8+j))=some u:=by
   intro i hi
   obtain ⟨cs',hc,ht'⟩:=hx i (by omega)
   rw [cells_here] at hc
   obtain ⟨x,hrd,hok⟩:=trod_here ht'
   obtain ⟨_,hcl,hcell⟩:=World.cells?_some hc
   have hlen:=rdHr_good.len hrd
   have key:∀j u,cs'[j]?=some u→W.cell? (a.add (i*8+j))=some u:=fun j u hu=>by
    have hj:j < 8:=by have:=(List.getElem?_eq_some_iff.1 hu).1;omega
    have:=hcell j hj
    rw [hu] at this
    rw [←this]
    congr 1
    unfold Addr.add
    by_cases h1:i*8=0<;>by_cases h2:j=0<;>simp [h1,h2,Nat.add_assoc]
   have hb':=World.block_lt_of_cell? _ _ (key 0 _ (List.getElem?_eq_getElem (by omega)))
   rw [blk_add] at hb'
   exact ⟨x,cs',hok,hb',hrd,hlen,key⟩
  refine ⟨some a,len0,cap0,List.ofFn fun i:Fin len0=>Classical.choose (hat i.1 i.2),rfl,⟨some a,cap0,by simp,by simpa using hl,hm,fun i hi=>?_⟩,fun x hx=>?_⟩
  ·simp only [List.length_ofFn] at hi
   have hs:=Classical.choose_spec (Classical.choose_spec (hat i hi))
   refine ⟨a,Classical.choose (Classical.choose_spec (hat i hi)),rfl,hs.2.1,?_,hs.2.2.2.1,hs.2.2.2.2⟩
   rw [List.getElem_ofFn];exact hs.2.2.1
  ·obtain ⟨i,hi⟩:=List.mem_ofFn.1 hx
   rw [←hi];exact (Classical.choose_spec (Classical.choose_spec (hat i.1 i.2))).1
end
end Go.Proofs.YtpilmhoakopcaaaGreatDoor
namespace Go.Proofs.YtpilmhoakopcaaaGreatDoor
def strTab {H:Type} (zs:List (List UInt8)):DataW H:=.agg (zs.map fun z=>.lit (.string z))
theorem cells_of_strs {H:Type} {enc:TypeId × Value→H} {P:Program} {w:World} {base:Nat} {sp:Nat→Bool} {held:Bool} {fuel:Nat} {t e:TypeId} {n:Nat} {cs:List Value} {zs:List (List UInt8)} {p:List MemPlace}
  (ht:P.underlying t=some (.array n e)) (he:P.underlying e=some .string) (hce:P.cellsOf e=1) (hct:P.cellsOf t=n)
  (h:DataW.trod enc P w base sp held fuel t cs=some (strTab zs,p)):cs=zs.map fun z=>Value.string ⟨z.toArray⟩:=by
 cases fuel with
 | zero=>simp [DataW.trod] at h
 | succ fuel=>
  simp only [DataW.trod,ht,hce,hct,Nat.mul_one] at h
  split at h
  ·rename_i hl
   obtain ⟨xs,hm,hx⟩:=Option.map_eq_some_iff.1 h
   have hxs:xs.map (·.1)=zs.map fun z=>(DataW.lit (.string z):DataW H):=by
    have:=congrArg Prod.fst hx
    simpa [strTab] using this
   have hxl:xs.length=n:=by simpa using Lib.mapM_length hm
   have hzl:zs.length=n:=by
    have:=congrArg List.length hxs
    simp at this
    omega
   apply List.ext_getElem?
   intro i
   by_cases hi:i < n
   ·obtain ⟨b,hb,hf⟩:=Lib.mapM_at hm i i (by simp [hi])
    obtain ⟨z,hc,rfl,_⟩:=DataW.trod_string he hf
    have h1:cs[i]?=some (.string z):=by
     have:=congrArg (·[0]?) hc
     simpa [List.getElem?_take,List.getElem?_drop] using this
    have h2:(xs.map (·.1))[i]?=some (DataW.lit (.string z.data.toList):DataW H):=by simp [hb]
    rw [hxs] at h2
    simp only [List.getElem?_map,Option.map_eq_some_iff,DataW.lit.injEq,Lit.string.injEq] at h2
    obtain ⟨z',hz',e'⟩:=h2
    rw [h1,List.getElem?_map,hz',e']
    rfl
   ·rw [List.getElem?_eq_none (by omega),List.getElem?_eq_none (by simp;omega)]
  ·cases h
theorem strs_of_head {P:Program} {W:World} {name:String} {zs:List (List UInt8)} {rest:List (String × DataW Unit)} {g:Nat} {t e:TypeId} {n:Nat}
  (hg:P.globalNamed name=some g) (hty:(P.globals[g]?).map (·.type)=some t) (ht:P.underlying t=some (.array n e)) (he:P.underlying e=some .string) (hce:P.cellsOf e=1) (hct:P.cellsOf t=n)
  (h:laidMet P ((name,strTab zs)::rest) W) (i:Nat) (z:List UInt8) (hi:zs[i]?=some z):W.cell? ⟨g,i,none⟩=some (.string ⟨z.toArray⟩):=by
 obtain ⟨ps,⟨g',t',cs,fuel,p,q,hg',ht',hvar,hd,_,_⟩,_⟩:=h
 obtain rfl:=Option.some.inj (hg.symm.trans hg')
 obtain rfl:=Option.some.inj (hty.symm.trans ht')
 have hz:W.var? P name=some (zs.map fun z=>Value.string ⟨z.toArray⟩).toArray:=by
  rw [hvar,←cells_of_strs ht he hce hct hd]
 have:=World.var?_cell hg hz i
 simpa [hi] using this
end Go.Proofs.YtpilmhoakopcaaaGreatDoor
namespace Go.Proofs.YtpilmhoakopcaaaGreatDoor
open Go.RowKit Go.WideShapes Go.ChangeShapes Go.ChangeAt
section
variable {H:Type} {enc:TypeId × Value→H} {P:Program}
end
theorem laid_out:laidOutB Tryz.prog=true:=by kernel_rfl
section
variable {H:Type} {enc:TypeId × Value→H} {P:Program}
theorem trodAll_below {W W':World} (hl:laidOutB P=true) (hb:Below W.heap.size W W'):∀{ts:List TypeId} {vs:List Value} {ds:List (DataW H)} {ps:List MemPlace},(∀t ∈ ts,P.readableRec t=true∧t < P.types.size)→
  DataW.TrodAll enc P W 0 (fun _=>true) true ts vs ds ps→(∀x ∈ ps,x.block < W.heap.size)→DataW.TrodAll enc P W' 0 (fun b=>decide (b < W.heap.size)) true ts vs ds ps
 | [],[],[],_,_,h,_=>h
 | t::ts,v::vs,d::ds,ps,hts,h,hlt=>by
  obtain ⟨p,q,h1,h2,rfl⟩:=h
  refine ⟨p,q,Below.trod hl (hts t (by simp)).1 (hts t (by simp)).2 h1 hb (fun x hx=>hlt x (by simp [hx])),trodAll_below hl hb (fun t ht=>hts t (by simp [ht])) h2 (fun x hx=>hlt x (by simp [hx])),rfl⟩
 | [],[],_::_,_,_,h,_=>h.elim
 | [],_::_,_,_,_,h,_=>h.elim
 | _::_,[],_,_,_,h,_=>h.elim
 | _::_,_::_,[],_,_,h,_=>h.elim
theorem law_post {f:Func} {s:ChangeSpec} {W W':World} {args:Array Value} {ds gs:List (DataW H)} {before:List MemPlace} {b:TypeId} {apart:Bool}
  (hW:DataW.Whole enc P f.params.toList s.vars apart W args.toList ds gs before) (hv:s.vars=[])
  (h1:(s.fn H ds).results=[.lit (.bool true)]) (h2:(s.fn H ds).args=ds) (h3:(s.fn H ds).vars=[])
  (hrt:f.resultTypes=#[b]) (hbool:P.underlying b=some .bool) (hl:laidOutB P=true) (hts:∀t ∈ f.params.toList,P.readableRec t=true∧t < P.types.size)
  (hb:Below W.heap.size W W'):s.post enc P f apart true false false W args (.bool true) W':=by
 have hW':=hW
 have hlt0:=hW.lt
 obtain ⟨p,q,hA,hV,rfl,hz,hn⟩:=hW
 rw [hv] at hV
 obtain ⟨rfl,rfl⟩:=trodVars_none hV
 refine ⟨ds,[],p++[],[],p,[],hW',?_,?_,?_,hb.frame _,fun h=>by cases h⟩
 ·rw [List.append_nil,h1,hrt]
  exact trodAll_cons_mk (shut_bool hbool _) trodAll_mk0
 ·rw [List.append_nil,h2]
  exact trodAll_below hl hb hts hA (fun x hx=>hlt0 x (by simp [hx]))
 ·rw [hv,List.append_nil,h3];rfl
end
end Go.Proofs.YtpilmhoakopcaaaGreatDoor
