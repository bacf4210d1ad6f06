/- What the laws rest on: N10l. -/
import Derived.Test.YthchfkhpmgkghaaGreatDoorQBYZA
import Derived.Test.YthchfkhpmgkghaaGreatDoorQCAZA
set_option maxRecDepth 100000
set_option linter.unusedVariables false
set_option linter.unusedSimpArgs false
namespace Go.Proofs.YthchfkhpmgkghaaGreatDoor
open Go.RowKit
set_option maxHeartbeats 8000000 in
theorem vclosed_any (b:Nat) (L:List Ent) (m:List Hr) (Al:Option Addr) (nl cl:Nat) (l:List Int) (w:World) (HU:UQ w b L m) (hl:rdInts w (lt_ w.heap.size) l [.slice Al nl cl]) (E:EnvR w) (hT:(insS L l).length≤1000000) :
  Calls Tryz.prog 24 #[.pointer (some ⟨b,0,none⟩),.slice Al nl cl] w fun e w'=>e=.returned (.bool (clB L l))∧Below w.heap.size w w':=by
 obtain ⟨rfl,-,-,-⟩:=rdInts_at hl
 have KS:=Lib.hid (vset_any b L m Al l.length cl l w HU.up hl)
 have KI:=Lib.hid (fun (W:World) (q:Nat) (O:Nat→Prop) (hb:Below w.heap.size w W) (hq:w.heap.size≤q) (hst:StC q W [] O) (hs:setB L.length l=true)=>vinside_any w W (StC q) 55 q (sinkC w.heap.size q hq) b L m Al l.length cl l [] O HU hl E hb hst (setB_true.1 hs) hT)
 have X:=Lib.hid (show clB L l=(setB L.length l&&(insS L l).isEmpty) from rfl)
 obtain ⟨R,hR⟩:∃R,R=clB L l:=⟨_,rfl⟩
 rw [←hR] at X ⊢
 clear HU hl E hT hR
 generalize insS L l=I at *
 generalize hsb:setB L.length l=sb at *
 clear hsb
 go_enter Tryz.func24,Tryz.ntmps24
 go_wp2_with fail
 refine KS.out.mono ?_
 rintro e w2 ⟨rfl,rfl⟩
 clear KS
 cases sb
 ·go_wp2
  go_ret
  exact ⟨by rw [X.out];try rfl,Below.refl _ _⟩
 obtain ⟨W4,hW4⟩:∃W,W=(w.alloc (.cells #[.bool true] 4)):=⟨_,rfl⟩
 have b4:Below w.heap.size w W4:=by rw [hW4];exact (Below.refl _ w).alloc (Nat.le_refl _) _
 have B4:=Lib.hid b4
 have ST0:=Lib.hid (show StC w.heap.size W4 [] (fun k=>k=w.heap.size) from ⟨by rw [hW4];simp [go_sem],by rw [hW4];simp [go_sem],fun k=>Iff.rfl⟩)
 have K1:=Lib.hid (KI.out W4 w.heap.size _ B4.out (Nat.le_refl _) ST0.out (by first|trivial|rfl))
 clear b4 KI
 go_wp2_with fail
 rw [←hW4]
 clear hW4
 go_wp2_with fail
 refine K1.out.mono ?_
 rintro e w5 ⟨rfl,O5,hst5,hp5⟩
 have B5:=Lib.hid (B4.out.trans (hp5.base (fun k (hk:k=w.heap.size)=>by omega) B4.out.size))
 rw [List.nil_append] at hst5
 have c0:=hst5.1
 clear hst5 hp5 K1
 go_wp2
 go_ret
 exact ⟨by rw [X.out];try rfl,B5.out⟩
end Go.Proofs.YthchfkhpmgkghaaGreatDoor
