/- What the laws rest on: Door. -/
import Derived.ChangeMaps5
import Derived.SliceStrings
import Derived.Lib.SmallJoins
import Derived.Test.YtboinnjncaehkaaGreatDoorTie
import Derived.Test.YtboinnjncaehkaaGreatDoorCards
import Derived.LaidMore
import Derived.Lay
import Derived.Stop.Joined
import Derived.Stop.LaidErr
import Derived.Deep.DeepHandedRow
import Derived.Test.YtboinnjncaehkaaGreatDoorQBTZA
set_option maxRecDepth 100000
set_option linter.unusedVariables false
set_option linter.unusedSimpArgs false
namespace Go.Proofs.YtboinnjncaehkaaGreatDoor
open Go.RowKit Go.ChangeShapes Go.WideShapes Go.ChangeAt
def laidL:List (String × DataW Unit):=[("math/bits.deBruijn32tab",Rows.laid_math_bits_deBruijn32tab),("math/bits.deBruijn64tab",Rows.laid_math_bits_deBruijn64tab),("internal/strconv.uint64pow10",Rows.laid_internal_strconv_uint64pow10),("unicode/utf8.acceptRanges",Rows.laid_unicode_utf8_acceptRanges),("strconv.ErrRange",Rows.laid_strconv_ErrRange),("strconv.ErrSyntax",Rows.laid_strconv_ErrSyntax),("keelson/relation.signs",Rows.laid_keelson_relation_signs),("unicode/utf8.first",Rows.laid_unicode_utf8_first)]
theorem g_pow:Tryz.prog.globalNamed "internal/strconv.uint64pow10"=some 6:=by kernel_rfl
theorem t_pow:(Tryz.prog.globals[6]?).map (·.type)=some 275:=by kernel_rfl
theorem c_pow:Tryz.prog.cellsOf 275=20:=by kernel_rfl
theorem c_u64:Tryz.prog.cellsOf 148=1:=by kernel_rfl
theorem d_pow:(Rows.laid_internal_strconv_uint64pow10:DataW Unit)=Lib.tabData .u64 Lib.pow10Tab:=by kernel_rfl
theorem g_rng:Tryz.prog.globalNamed "strconv.ErrRange"=some 5:=by kernel_rfl
theorem t_rng:(Tryz.prog.globals[5]?).map (·.type)=some 173:=by kernel_rfl
theorem g_syn:Tryz.prog.globalNamed "strconv.ErrSyntax"=some 4:=by kernel_rfl
theorem t_syn:(Tryz.prog.globals[4]?).map (·.type)=some 173:=by kernel_rfl
theorem c_es:Tryz.prog.cellsOf 273=1:=by kernel_rfl
theorem c_str:Tryz.prog.cellsOf 9=1:=by kernel_rfl
theorem g_sgn:Tryz.prog.globalNamed "keelson/relation.signs"=some 0:=by kernel_rfl
theorem t_sgn:(Tryz.prog.globals[0]?).map (·.type)=some 207:=by kernel_rfl
theorem c_sgn:Tryz.prog.cellsOf 207=5:=by kernel_rfl
theorem d_sgn:(Rows.laid_keelson_relation_signs:DataW Unit)=strTab [[60,60],[60,61],[61],[62,61],[62,62]]:=by kernel_rfl
theorem star: "*"++ "errors.errorString"= "*errors.errorString":=by decide
theorem row_es (u:TypeId) (h:Tryz.prog.typeName? 3 u=some "*errors.errorString"):u=271:=
 typeName_ptr_named (nm:= "errors.errorString") (by rw [star];kernel_rfl) (by kernel_rfl) (by decide) u (by rw [star];exact h)
theorem env_of {W:World} (h0:laidMetH Tryz.prog laidL W) (hsh:W.ShapedOpen Tryz.prog):EnvR W:=by
 rw [MakeChecks.laidMetH_plain _ _ _ (by kernel_rfl)] at h0
 have h1:=h0.tail
 have h2:=h1.tail
 have h3:=h2.tail
 have h4:=h3.tail
 have h5:=h4.tail
 have h6:=h5.tail
 obtain ⟨a0,s0,hv0,-,-,-⟩:=laid_sentinel h4 g_rng t_rng Tryz.underlying173 row_es Tryz.underlying271 Tryz.underlying273 rfl rfl Tryz.underlying9 c_es c_str
 obtain ⟨a1,s1,hv1,-,-,-⟩:=laid_sentinel h5 g_syn t_syn Tryz.underlying173 row_es Tryz.underlying271 Tryz.underlying273 rfl rfl Tryz.underlying9 c_es c_str
 have hs:=fun i z hi=>strs_of_head g_sgn t_sgn Tryz.underlying207 Tryz.underlying9 c_str c_sgn (d_sgn ▸ h6) i z hi
 have hp:=h2
 rw [d_pow] at hp
 exact ⟨⟨Tryz.laysM144.s1_3 W hsh,Lib.tabIs_of_head g_pow t_pow Tryz.underlying275 Tryz.underlying148 c_u64 c_pow hp,⟨_,_,hv1⟩,⟨_,_,hv0⟩⟩,⟨hs 0 _ rfl,hs 1 _ rfl,hs 2 _ rfl,hs 3 _ rfl,hs 4 _ rfl⟩⟩
theorem own':ownKnob Tryz.prog.godebug=none:=by kernel_rfl
theorem door_os (os:Os):(World.laidAll Tryz.prog os laidL).os=os:=World.laidAll_os _ _ _
theorem door_shaped (os:Os) (args:Array Value):((World.laidAll Tryz.prog os laidL).forCall (fun _ _=>0) ⟨#[],args,[]⟩).Shaped Tryz.prog:=World.shaped_of_ZipB (by kernel_rfl) (by kernel_rfl)
theorem door_met (os:Os) (args:Array Value):laidMetH Tryz.prog laidL ((World.laidAll Tryz.prog os laidL).forCall (fun _ _=>0) ⟨#[],args,[]⟩).memory:=by
 rw [MakeChecks.laidMetH_plain _ _ _ (by kernel_rfl)]
 exact laidMet_laidAll _ (by kernel_rfl) (by kernel_rfl)
end Go.Proofs.YtboinnjncaehkaaGreatDoor
