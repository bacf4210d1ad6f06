/- What the laws rest on: E10o. -/
import Derived.Test.YthchfkhpmgkghaaGreatDoorChecked
import Derived.WalkKit
import Derived.Lib.Hide
import Derived.WalkLawsBesides
import Derived.WalkSpells
import Derived.Test.YthchfkhpmgkghaaGreatDoorProg
import Derived.Maps.AppendAt
import Derived.OwnWalk
import Derived.Below
import Derived.OneCell
import Derived.BigQuiet
import Derived.RangeFuncOwn
import Derived.OwnWalkIn
import Derived.Lib.Join
import Derived.Laws.IdiomStrings
import Derived.StillTailTactics
import Derived.Deep.QuietTactic
import Derived.Deep.RegionHeld3
import Derived.RegionTactic
import Derived.Laws.OwnMore
import Derived.OrdersHeld
import Derived.Deep.RegionHeld
import Derived.Lib.QuietBelow
import Derived.Laws.StructEq
set_option maxRecDepth 100000
set_option linter.unusedVariables false
set_option linter.unusedSimpArgs false
namespace Go.Proofs.YthchfkhpmgkghaaGreatDoor
open Go.RowKit Go.Sort
theorem vft_struct:Tryz.prog.underlying 55=some (.struct (Tryz.prog.fieldsOf 55)):=by kernel_rfl
theorem vft_stood:Tryz.prog.stoodInHeld 55=false:=by kernel_rfl
theorem vft_fields:(Tryz.prog.fieldsOf 55).toList.map (fun f=>(f.type,f.offset,f.name== "_"))=[(3,0,false),(3,1,false),(3,2,false)]:=by kernel_rfl
theorem eq_vft (a b c a' b' c':Int) (w:World) :
  (Op.equalIn 10000 55 (.agg #[.int .i64 a,.int .i64 b,.int .i64 c]) (.agg #[.int .i64 a',.int .i64 b',.int .i64 c'])).run Tryz.prog w=.ok (a==a'&&(b==b'&&c==c')) w:=by
 have hi:=Tryz.underlying3
 rw [run_equalIn_struct w 9999 _ _ _ vft_struct vft_stood]
 have hf:=vft_fields
 generalize (Tryz.prog.fieldsOf 55).toList=L at hf ⊢
 have hlen:L.length=3:=by have:=congrArg List.length hf;simpa using this
 rcases L with _|⟨f0,_|⟨f1,_|⟨f2,_|⟨f3,L⟩⟩⟩⟩
 ·simp at hlen
 ·simp at hlen
 ·simp at hlen
 ·simp only [List.map_cons,List.map_nil,List.cons.injEq,Prod.mk.injEq,and_true] at hf
  obtain ⟨⟨a0,b0,c0⟩,⟨a1,b1,c1⟩,⟨a2,b2,c2⟩⟩:=hf
  have n0:f0.name≠ "_":=by simpa using c0
  have n1:f1.name≠ "_":=by simpa using c1
  have n2:f2.name≠ "_":=by simpa using c2
  simp only [Op.eqFields,n0,n1,n2,ne_eq,not_false_iff,if_true,a0,b0,a1,b1,a2,b2]
  cases h1:(a==a')<;>cases h2:(b==b')<;>cases h3:(c==c')<;>simp [part,isAgg,run_underlying hi,run_equalIn_int w 9998 _ _ _ _ _ hi,h1,h2,h3]
 ·simp at hlen
end Go.Proofs.YthchfkhpmgkghaaGreatDoor
