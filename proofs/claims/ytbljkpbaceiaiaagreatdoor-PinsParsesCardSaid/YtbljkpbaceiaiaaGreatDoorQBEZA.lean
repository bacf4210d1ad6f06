/- What the laws rest on: Door8. -/
import Derived.Test.YtbljkpbaceiaiaaGreatDoorRows
import Derived.ChangeSame
import Derived.ProofKit
import Derived.OpenShut
import Derived.Carry
import Derived.Test.YtbljkpbaceiaiaaGreatDoorTie
import Derived.Test.YtbljkpbaceiaiaaGreatDoorCards
import Derived.LaidMore
import Derived.Lay
import Derived.Stop.Joined
import Derived.Stop.LaidErr
import Derived.Deep.DeepHandedRow
import Derived.Lib.LaidTab
import Derived.Test.YtbljkpbaceiaiaaGreatDoorQAJZA
set_option maxRecDepth 100000
set_option linter.unusedVariables false
set_option linter.unusedSimpArgs false
namespace Go.Proofs.YtbljkpbaceiaiaaGreatDoor
open Go.RowKit Go.ChangeShapes Go.WideShapes Go.ChangeAt
def laidL:List (String × DataW Unit):=[("math/bits.deBruijn32tab",Rows.laid_math_bits_deBruijn32tab),("math/bits.deBruijn64tab",Rows.laid_math_bits_deBruijn64tab),("internal/strconv.uint64pow10",Rows.laid_internal_strconv_uint64pow10),("unicode/utf8.acceptRanges",Rows.laid_unicode_utf8_acceptRanges),("strconv.ErrRange",Rows.laid_strconv_ErrRange),("strconv.ErrSyntax",Rows.laid_strconv_ErrSyntax),("unicode/utf8.first",Rows.laid_unicode_utf8_first)]
theorem g_pow:Tryz.prog.globalNamed "internal/strconv.uint64pow10"=some 3:=by kernel_rfl
theorem t_pow:(Tryz.prog.globals[3]?).map (·.type)=some 162:=by kernel_rfl
theorem c_pow:Tryz.prog.cellsOf 162=20:=by kernel_rfl
theorem c_u64:Tryz.prog.cellsOf 125=1:=by kernel_rfl
theorem d_pow:(Rows.laid_internal_strconv_uint64pow10:DataW Unit)=Lib.tabData .u64 Lib.pow10Tab:=by kernel_rfl
theorem g_rng:Tryz.prog.globalNamed "strconv.ErrRange"=some 1:=by kernel_rfl
theorem t_rng:(Tryz.prog.globals[1]?).map (·.type)=some 73:=by kernel_rfl
theorem g_syn:Tryz.prog.globalNamed "strconv.ErrSyntax"=some 0:=by kernel_rfl
theorem t_syn:(Tryz.prog.globals[0]?).map (·.type)=some 73:=by kernel_rfl
theorem c_es:Tryz.prog.cellsOf 152=1:=by kernel_rfl
theorem c_str:Tryz.prog.cellsOf 9=1:=by kernel_rfl
theorem star: "*"++ "errors.errorString"= "*errors.errorString":=by decide
theorem row_es (u:TypeId) (h:Tryz.prog.typeName? 3 u=some "*errors.errorString"):u=150:=
 typeName_ptr_named (nm:= "errors.errorString") (by rw [star];kernel_rfl) (by kernel_rfl) (by decide) u (by rw [star];exact h)
theorem env8_of {W:World} (h0:laidMetH Tryz.prog laidL W) (hsh:W.ShapedOpen Tryz.prog):Env W:=by
 rw [MakeChecks.laidMetH_plain _ _ _ (by kernel_rfl)] at h0
 have h2:=h0.tail.tail
 have h4:=h2.tail.tail
 have h5:=h4.tail
 obtain ⟨a0,s0,hv0,-,-,-⟩:=laid_sentinel h4 g_rng t_rng Tryz.underlying73 row_es Tryz.underlying150 Tryz.underlying152 rfl rfl Tryz.underlying9 c_es c_str
 obtain ⟨a1,s1,hv1,-,-,-⟩:=laid_sentinel h5 g_syn t_syn Tryz.underlying73 row_es Tryz.underlying150 Tryz.underlying152 rfl rfl Tryz.underlying9 c_es c_str
 rw [d_pow] at h2
 exact ⟨Go.Proofs.cell_of_shapedOpen_int (zero:=#[.int .i64 0]) (t:=3) hsh (of_decide_eq_true (by kernel_rfl)) (by kernel_rfl) rfl (by kernel_rfl) (by kernel_rfl) Tryz.underlying3,Lib.tabIs_of_head g_pow t_pow Tryz.underlying162 Tryz.underlying125 c_u64 c_pow h2,⟨_,_,hv1⟩,⟨_,_,hv0⟩⟩
theorem own':ownKnob Tryz.prog.godebug=none:=by kernel_rfl
theorem door_os (os:Os):(World.laidAll Tryz.prog os laidL).os=os:=World.laidAll_os _ _ _
theorem door_shaped (os:Os) (args:Array Value):((World.laidAll Tryz.prog os laidL).forCall (fun _ _=>0) ⟨#[],args,[]⟩).Shaped Tryz.prog:=World.shaped_of_ZipB (by kernel_rfl) (by kernel_rfl)
theorem door_met (os:Os) (args:Array Value):laidMetH Tryz.prog laidL ((World.laidAll Tryz.prog os laidL).forCall (fun _ _=>0) ⟨#[],args,[]⟩).memory:=by
 rw [MakeChecks.laidMetH_plain _ _ _ (by kernel_rfl)]
 exact laidMet_laidAll _ (by kernel_rfl) (by kernel_rfl)
end Go.Proofs.YtbljkpbaceiaiaaGreatDoor
