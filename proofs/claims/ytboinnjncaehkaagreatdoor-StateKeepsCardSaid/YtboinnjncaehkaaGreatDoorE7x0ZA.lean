/- What the laws rest on: E7x0. -/
import Derived.ProofKit
import Derived.OpenShut
import Derived.ChangeMaps5
import Derived.SliceStrings
import Derived.Lib.SmallJoins
import Derived.Deep.Slices
import Derived.Deep.Strs
import Derived.Deep.CutRange
import Derived.Test.YtboinnjncaehkaaGreatDoorQAKZA
set_option maxRecDepth 100000
set_option linter.unusedVariables false
set_option linter.unusedSimpArgs false
namespace Go.Proofs.YtboinnjncaehkaaGreatDoor
open Go.RowKit
structure Cl8x (w:World) (b:Nat) (x:Hr) (A1:Option Addr) (c1:Nat) (A2:Option Addr) (c2:Nat) (A3:Option Addr) (c3:Nat) (A4:Option Addr) (c4:Nat):Prop where
 n:w.cell? ⟨b,0,none⟩=some (.string x.e.n)
 v:w.cell? ⟨b,1,none⟩=some (.string x.e.v)
 d:w.cell? ⟨b,2,none⟩=some (.slice A1 x.e.d.length c1)
 r:w.cell? ⟨b,3,none⟩=some (.slice A2 x.e.r.length c2)
 c:w.cell? ⟨b,4,none⟩=some (.slice A3 x.e.c.length c3)
 p:w.cell? ⟨b,5,none⟩=some (.slice A4 x.e.p.length c4)
 a:w.cell? ⟨b,6,none⟩=some (.bool x.a)
 h:w.cell? ⟨b,7,none⟩=some (.bool x.h)
theorem Cl8x.keep {w w1:World} {b:Nat} {x:Hr} {A1:Option Addr} {c1:Nat} {A2:Option Addr} {c2:Nat} {A3:Option Addr} {c3:Nat} {A4:Option Addr} {c4:Nat} (k:Cl8x w b x A1 c1 A2 c2 A3 c3 A4 c4) (h:Below w.heap.size w w1):Cl8x w1 b x A1 c1 A2 c2 A3 c3 A4 c4:=
 ⟨keep6 h k.n,keep6 h k.v,keep6 h k.d,keep6 h k.r,keep6 h k.c,keep6 h k.p,keep6 h k.a,keep6 h k.h⟩
theorem cl8xnew {w:World} {x:Hr} (A1:Option Addr) (c1:Nat) (A2:Option Addr) (c2:Nat) (A3:Option Addr) (c3:Nat) (A4:Option Addr) (c4:Nat):Cl8x (w.alloc (.cells #[.string x.e.n,.string x.e.v,.slice A1 x.e.d.length c1,.slice A2 x.e.r.length c2,.slice A3 x.e.c.length c3,.slice A4 x.e.p.length c4,.bool x.a,.bool x.h] 36)) w.heap.size x A1 c1 A2 c2 A3 c3 A4 c4:=by
 constructor<;>simp [go_sem]
theorem rd_oneZ {w:World} {x:Hr} {A1:Option Addr} {c1:Nat} {A2:Option Addr} {c2:Nat} {A3:Option Addr} {c3:Nat} {A4:Option Addr} {c4:Nat} (h:EntV w (lt_ w.heap.size) x.e A1 c1 A2 c2 A3 c3 A4 c4):rdHrs (w.alloc (.cells #[.string x.e.n,.string x.e.v,.slice A1 x.e.d.length c1,.slice A2 x.e.r.length c2,.slice A3 x.e.c.length c3,.slice A4 x.e.p.length c4,.bool x.a,.bool x.h] 36)) (lt_ (w.alloc (.cells #[.string x.e.n,.string x.e.v,.slice A1 x.e.d.length c1,.slice A2 x.e.r.length c2,.slice A3 x.e.c.length c3,.slice A4 x.e.p.length c4,.bool x.a,.bool x.h] 36)).heap.size) [x] [.slice (some ⟨w.heap.size,0,none⟩) 1 1]:=
 one_rd rdHr_good (heap_alloc_new w _) (EntV.hr (h.on ((Below.refl _ w).alloc (Nat.le_refl _) _))) (by unfold lt_;rw [World.size_alloc];omega)
theorem right_oneZ {x:Hr} (h:rightH [x]=true):rgtE x.e=true:=((rightH_iff _).1 h).1 x (List.mem_singleton.2 rfl)
theorem wo_lenZ (l:List Hr) (n:ByteArray):(woH l n).length≤l.length:=List.length_filter_le _ _
end Go.Proofs.YtboinnjncaehkaaGreatDoor
