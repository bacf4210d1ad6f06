/- What the laws rest on: Shelf, Ver6, Ver7, Ver8. -/
import Derived.Shelf.Strings.Trim
import Derived.Shelf.Small.Bits
import Derived.Shelf.Small.Wraps
import Derived.Shelf.Strconv.Atoi
import Derived.Shelf.Strconv.Itoa0
import Derived.Shelf.Strconv.Itoa1
import Derived.Shelf.LaysM
import Derived.Shelf.Strconv.Itoa2
import Derived.Shelf.Strconv.Itoa3
import Derived.Shelf.Strconv.AtoiErrFast
import Derived.Shelf.Strconv.ParseIntEmpty
import Derived.Shelf.Strconv.AtoiFail
import Derived.Shelf.Strconv.Clone
import Derived.Shelf.Strconv.SyntaxError
import Derived.Shelf.LaysC
import Derived.Shelf.Strconv.ToError
import Derived.Shelf.Strconv.Lower
import Derived.Shelf.Strconv.ParseUint10
import Derived.Shelf.Strconv.ParseUint10Empty
import Derived.Shelf.Strconv.ParseUint10Any
import Derived.Shelf.Strconv.ParseInt10
import Derived.Shelf.Strconv.AtoiLong
import Derived.Shelf.Strconv.AtoiInnerAll
import Derived.Shelf.Strconv.RangeError
import Derived.Shelf.Strconv.ToErrorRange
import Derived.Shelf.Strconv.AtoiAll
import Derived.Shelf.Strconv.ErrVarAll
import Derived.Shelf.Strings.Search1
import Derived.Shelf.Strings.Search2
import Derived.Shelf.Strings.Search3
import Derived.Shelf.Strings.Cut
import Derived.Shelf.Strings.Shaped
import Derived.Shelf.Strings.LastIndex
import Derived.Shelf.Strings.Prefix
import Derived.Ground.Names2Prog
import Derived.Shelf.Slices.CompactI
import Derived.Shelf.Slices.CompactS
import Derived.Shelf.Slices.Cells
import Derived.Ground.SlgnProg
import Derived.Shelf.SlicesE.Clone
import Derived.Lib.AppendIntMem
import Derived.Lib.IndexAny
import Derived.Test.YtpilmhoakopcaaaGreatDoorQACZC
set_option maxRecDepth 100000
set_option linter.unusedVariables false
set_option linter.unusedSimpArgs false
namespace Go.Proofs
open Go.Shelf
def Tryz.lays231_ren:Go.Shelf.Ren:=⟨fun|231=>206|n=>n,fun|9=>9|5=>5|3=>3|4=>4|n=>n,fun|n=>n⟩
def Tryz.lays161_ren:Go.Shelf.Ren:=⟨fun|161=>196|231=>206|227=>207|233=>208|235=>209|228=>221|197=>222|151=>223|260=>232|152=>233|137=>236|119=>237|224=>212|225=>211|217=>210|266=>224|n=>n,fun|9=>9|4=>4|3=>3|5=>5|117=>211|116=>210|0=>0|124=>214|105=>225|21=>21|119=>239|46=>117|139=>242|138=>241|n=>n,fun|3=>5|4=>6|n=>n⟩
theorem Tryz.lays161:Go.Proofs.Lays.n161 Tryz.prog Tryz.lays161_ren:={
 mixed:=by kernel_rfl
 f119:=Tryz.func237.trans (congrArg some (by kernel_rfl))
 f137:=Tryz.func236.trans (congrArg some (by kernel_rfl))
 f151:=Tryz.func223.trans (congrArg some (by kernel_rfl))
 f152:=Tryz.func233.trans (congrArg some (by kernel_rfl))
 f161:=Tryz.func196.trans (congrArg some (by kernel_rfl))
 f197:=Tryz.func222.trans (congrArg some (by kernel_rfl))
 f217:=Tryz.func210.trans (congrArg some (by kernel_rfl))
 f224:=Tryz.func212.trans (congrArg some (by kernel_rfl))
 f225:=Tryz.func211.trans (congrArg some (by kernel_rfl))
 f227:=Tryz.func207.trans (congrArg some (by kernel_rfl))
 f228:=Tryz.func221.trans (congrArg some (by kernel_rfl))
 f231:=Tryz.func206.trans (congrArg some (by kernel_rfl))
 f233:=Tryz.func208.trans (congrArg some (by kernel_rfl))
 f235:=Tryz.func209.trans (congrArg some (by kernel_rfl))
 f260:=Tryz.func232.trans (congrArg some (by kernel_rfl))
 f266:=Tryz.func224.trans (congrArg some (by kernel_rfl))
 t0:=Tryz.underlying0
 a0:=Tryz.isAgg0
 z0:=Tryz.sizeOf0
 v0:=Tryz.zeroValue0
 t3:=Tryz.underlying3
 a3:=Tryz.isAgg3
 z3:=Tryz.sizeOf3
 v3:=Tryz.zeroValue3
 t4:=Tryz.underlying4
 a4:=Tryz.isAgg4
 z4:=Tryz.sizeOf4
 v4:=Tryz.zeroValue4
 t5:=Tryz.underlying5
 a5:=Tryz.isAgg5
 z5:=Tryz.sizeOf5
 v5:=Tryz.zeroValue5
 t9:=Tryz.underlying9
 a9:=Tryz.isAgg9
 z9:=Tryz.sizeOf9
 v9:=Tryz.zeroValue9
 t21:=Tryz.underlying21
 a21:=Tryz.isAgg21
 z21:=Tryz.sizeOf21
 v21:=Tryz.zeroValue21
 t46:=Tryz.underlying117
 a46:=Tryz.isAgg117
 z46:=Tryz.sizeOf117
 v46:=Tryz.zeroValue117
 t105:=Tryz.underlying225
 a105:=Tryz.isAgg225
 z105:=Tryz.sizeOf225
 v105:=Tryz.zeroValue225
 t116:=Tryz.underlying210
 a116:=Tryz.isAgg210
 z116:=Tryz.sizeOf210
 t117:=Tryz.underlying211
 a117:=Tryz.isAgg211
 z117:=Tryz.sizeOf211
 v117:=Tryz.zeroValue211
 t119:=Tryz.underlying239
 a119:=Tryz.isAgg239
 z119:=Tryz.sizeOf239
 t124:=Tryz.underlying214
 a124:=Tryz.isAgg214
 z124:=Tryz.sizeOf214
 v124:=Tryz.zeroValue214
 t138:=Tryz.underlying241
 a138:=Tryz.isAgg241
 z138:=Tryz.sizeOf241
 v138:=Tryz.zeroValue241
 t139:=Tryz.underlying242
 a139:=Tryz.isAgg242
 z139:=Tryz.sizeOf242
 v139:=Tryz.zeroValue242
 g3:=by kernel_rfl
 g4:=by kernel_rfl }
open Go.RowKit in
theorem Tryz.strings_TrimLeft_one (s:ByteArray) (c:UInt8) (hc:c.toNat < 128) (w:World) :
  Calls Tryz.prog 196 #[.string s,.string ⟨#[c]⟩] w fun e w'=>e=.returned (.string ⟨(Lib.trimLeftB s.data.toList c).toArray⟩)∧w'=w:=Any.strings_TrimLeft_one Tryz.lays161 s c hc w
def Tryz.lays172_ren:Go.Shelf.Ren:=⟨fun|172=>170|244=>188|245=>189|247=>198|279=>199|280=>200|281=>201|282=>202|287=>214|316=>215|171=>176|205=>216|321=>226|322=>227|243=>194|246=>204|283=>217|284=>218|285=>219|286=>220|129=>118|317=>228|318=>229|319=>230|320=>231|337=>234|338=>235|n=>n,fun|9=>9|3=>3|75=>188|76=>189|4=>4|5=>5|167=>201|37=>166|0=>0|85=>202|2=>2|168=>204|53=>154|175=>215|46=>117|210=>219|127=>231|145=>234|143=>232|21=>21|171=>221|173=>223|212=>236|51=>152|20=>20|213=>237|232=>244|233=>245|80=>246|n=>n,fun|15=>2|16=>3|17=>4|18=>7|19=>8|n=>n⟩
def Tryz.laysM246_ren:Go.Shelf.Ren:=⟨fun|246=>204|283=>217|284=>218|285=>219|286=>220|129=>118|317=>228|318=>229|319=>230|320=>231|337=>234|338=>235|n=>n,fun|2=>2|3=>3|9=>9|4=>4|171=>221|0=>0|53=>154|37=>166|5=>5|173=>223|212=>236|51=>152|20=>20|213=>237|46=>117|232=>244|233=>245|n=>n,fun|17=>4|18=>7|19=>8|n=>n⟩
def Tryz.laysM243_ren:Go.Shelf.Ren:=⟨fun|243=>194|246=>204|283=>217|284=>218|285=>219|286=>220|129=>118|317=>228|318=>229|319=>230|320=>231|337=>234|338=>235|n=>n,fun|3=>3|9=>9|2=>2|4=>4|171=>221|0=>0|53=>154|37=>166|5=>5|173=>223|212=>236|51=>152|20=>20|213=>237|46=>117|232=>244|233=>245|n=>n,fun|17=>4|18=>7|19=>8|n=>n⟩
def Tryz.laysM171_ren:Go.Shelf.Ren:=⟨fun|171=>176|243=>194|246=>204|283=>217|284=>218|285=>219|286=>220|129=>118|317=>228|318=>229|319=>230|320=>231|337=>234|338=>235|n=>n,fun|3=>3|9=>9|2=>2|4=>4|171=>221|0=>0|53=>154|37=>166|5=>5|173=>223|212=>236|51=>152|20=>20|213=>237|46=>117|232=>244|233=>245|n=>n,fun|17=>4|18=>7|19=>8|n=>n⟩
theorem Tryz.laysM171:Go.Proofs.LaysM.n171 Tryz.prog Tryz.laysM171_ren:={
 mixed:=by kernel_rfl
 f129:=Tryz.func118.trans (congrArg some (by kernel_rfl))
 f171:=Tryz.func176.trans (congrArg some (by kernel_rfl))
 f243:=Tryz.func194.trans (congrArg some (by kernel_rfl))
 f246:=Tryz.func204.trans (congrArg some (by kernel_rfl))
 f283:=Tryz.func217.trans (congrArg some (by kernel_rfl))
 f284:=Tryz.func218.trans (congrArg some (by kernel_rfl))
 f285:=Tryz.func219.trans (congrArg some (by kernel_rfl))
 f286:=Tryz.func220.trans (congrArg some (by kernel_rfl))
 f317:=Tryz.func228.trans (congrArg some (by kernel_rfl))
 f318:=Tryz.func229.trans (congrArg some (by kernel_rfl))
 f319:=Tryz.func230.trans (congrArg some (by kernel_rfl))
 f320:=Tryz.func231.trans (congrArg some (by kernel_rfl))
 f337:=Tryz.func234.trans (congrArg some (by kernel_rfl))
 f338:=Tryz.func235.trans (congrArg some (by kernel_rfl))
 t0:=Tryz.underlying0
 a0:=Tryz.isAgg0
 z0:=Tryz.sizeOf0
 v0:=Tryz.zeroValue0
 t2:=Tryz.underlying2
 a2:=Tryz.isAgg2
 z2:=Tryz.sizeOf2
 v2:=Tryz.zeroValue2
 t3:=Tryz.underlying3
 a3:=Tryz.isAgg3
 z3:=Tryz.sizeOf3
 v3:=Tryz.zeroValue3
 t4:=Tryz.underlying4
 a4:=Tryz.isAgg4
 z4:=Tryz.sizeOf4
 v4:=Tryz.zeroValue4
 t5:=Tryz.underlying5
 a5:=Tryz.isAgg5
 z5:=Tryz.sizeOf5
 v5:=Tryz.zeroValue5
 t9:=Tryz.underlying9
 a9:=Tryz.isAgg9
 z9:=Tryz.sizeOf9
 v9:=Tryz.zeroValue9
 t20:=Tryz.underlying20
 a20:=Tryz.isAgg20
 z20:=Tryz.sizeOf20
 v20:=Tryz.zeroValue20
 t37:=Tryz.underlying166
 a37:=Tryz.isAgg166
 z37:=Tryz.sizeOf166
 v37:=Tryz.zeroValue166
 t46:=Tryz.underlying117
 a46:=Tryz.isAgg117
 z46:=Tryz.sizeOf117
 v46:=Tryz.zeroValue117
 t51:=Tryz.underlying152
 a51:=Tryz.isAgg152
 z51:=Tryz.sizeOf152
 v51:=Tryz.zeroValue152
 t53:=Tryz.underlying154
 a53:=Tryz.isAgg154
 z53:=Tryz.sizeOf154
 v53:=Tryz.zeroValue154
 t171:=Tryz.underlying221
 a171:=Tryz.isAgg221
 z171:=Tryz.sizeOf221
 v171:=Tryz.zeroValue221
 t173:=Tryz.underlying223
 a173:=Tryz.isAgg223
 z173:=Tryz.sizeOf223
 v173:=Tryz.zeroValue223
 t212:=Tryz.underlying236
 a212:=Tryz.isAgg236
 z212:=Tryz.sizeOf236
 v212:=Tryz.zeroValue236
 t213:=Tryz.underlying237
 a213:=Tryz.isAgg237
 z213:=Tryz.sizeOf237
 t232:=Tryz.underlying244
 a232:=Tryz.isAgg244
 z232:=Tryz.sizeOf244
 v232:=Tryz.zeroValue244
 t233:=Tryz.underlying245
 a233:=Tryz.isAgg245
 z233:=Tryz.sizeOf245
 v233:=Tryz.zeroValue245
 g17:=by kernel_rfl
 g18:=by kernel_rfl
 g19:=by kernel_rfl
 i0:=by kernel_rfl
 i2:=by kernel_rfl
 i3:=by kernel_rfl
 i4:=by kernel_rfl
 i5:=by kernel_rfl
 i9:=by kernel_rfl
 i20:=by kernel_rfl
 i37:=by kernel_rfl
 i46:=by kernel_rfl
 i51:=by kernel_rfl
 i53:=by kernel_rfl
 i171:=by kernel_rfl
 i173:=by kernel_rfl
 i212:=by kernel_rfl
 i232:=by kernel_rfl
 i233:=by kernel_rfl
 m17:=by kernel_rfl
 m18:=by kernel_rfl
 m19:=by kernel_rfl }
open Go.RowKit Go.Sort Go.Lib in
theorem Tryz.strconv_Itoa (n:Int) (h0:-9223372036854775808≤n) (h1:n≤9223372036854775807) (w:World) (htab:Lib.TabIs Tryz.prog w "internal/strconv.uint64pow10" .u64 Lib.pow10Tab) :
  Calls Tryz.prog 176 #[.int .i64 n] w fun e w'=>e=.returned (.string ⟨(Lib.itoa n).toArray⟩)∧∃k os,w'=grow (w.drewN k) os:=Any.strconv_Itoa Tryz.laysM171 n h0 h1 w htab
def Tryz.laysC172_ren:Go.Shelf.Ren:=⟨fun|172=>170|244=>188|245=>189|247=>198|279=>199|280=>200|281=>201|282=>202|287=>214|316=>215|171=>176|205=>216|321=>226|322=>227|243=>194|246=>204|283=>217|284=>218|285=>219|286=>220|129=>118|317=>228|318=>229|319=>230|320=>231|337=>234|338=>235|n=>n,fun|9=>9|3=>3|75=>188|76=>189|4=>4|5=>5|167=>201|37=>166|0=>0|85=>202|2=>2|168=>204|53=>154|175=>215|46=>117|210=>219|127=>231|145=>234|143=>232|21=>21|171=>221|173=>223|212=>236|51=>152|20=>20|213=>237|232=>244|233=>245|80=>246|n=>n,fun|15=>2|16=>3|17=>4|18=>7|19=>8|n=>n⟩
theorem Tryz.laysC172:Go.Proofs.LaysC.n172 Tryz.prog Tryz.laysC172_ren:={
 mixed:=by kernel_rfl
 f129:=Tryz.func118.trans (congrArg some (by kernel_rfl))
 f171:=Tryz.func176.trans (congrArg some (by kernel_rfl))
 f172:=Tryz.func170.trans (congrArg some (by kernel_rfl))
 f205:=Tryz.func216.trans (congrArg some (by kernel_rfl))
 f243:=Tryz.func194.trans (congrArg some (by kernel_rfl))
 f244:=Tryz.func188.trans (congrArg some (by kernel_rfl))
 f245:=Tryz.func189.trans (congrArg some (by kernel_rfl))
 f246:=Tryz.func204.trans (congrArg some (by kernel_rfl))
 f247:=Tryz.func198.trans (congrArg some (by kernel_rfl))
 f279:=Tryz.func199.trans (congrArg some (by kernel_rfl))
 f280:=Tryz.func200.trans (congrArg some (by kernel_rfl))
 f281:=Tryz.func201.trans (congrArg some (by kernel_rfl))
 f282:=Tryz.func202.trans (congrArg some (by kernel_rfl))
 f283:=Tryz.func217.trans (congrArg some (by kernel_rfl))
 f284:=Tryz.func218.trans (congrArg some (by kernel_rfl))
 f285:=Tryz.func219.trans (congrArg some (by kernel_rfl))
 f286:=Tryz.func220.trans (congrArg some (by kernel_rfl))
 f287:=Tryz.func214.trans (congrArg some (by kernel_rfl))
 f316:=Tryz.func215.trans (congrArg some (by kernel_rfl))
 f317:=Tryz.func228.trans (congrArg some (by kernel_rfl))
 f318:=Tryz.func229.trans (congrArg some (by kernel_rfl))
 f319:=Tryz.func230.trans (congrArg some (by kernel_rfl))
 f320:=Tryz.func231.trans (congrArg some (by kernel_rfl))
 f321:=Tryz.func226.trans (congrArg some (by kernel_rfl))
 f322:=Tryz.func227.trans (congrArg some (by kernel_rfl))
 f337:=Tryz.func234.trans (congrArg some (by kernel_rfl))
 f338:=Tryz.func235.trans (congrArg some (by kernel_rfl))
 t0:=Tryz.underlying0
 a0:=Tryz.isAgg0
 z0:=Tryz.sizeOf0
 v0:=Tryz.zeroValue0
 t2:=Tryz.underlying2
 a2:=Tryz.isAgg2
 z2:=Tryz.sizeOf2
 v2:=Tryz.zeroValue2
 t3:=Tryz.underlying3
 a3:=Tryz.isAgg3
 z3:=Tryz.sizeOf3
 v3:=Tryz.zeroValue3
 t4:=Tryz.underlying4
 a4:=Tryz.isAgg4
 z4:=Tryz.sizeOf4
 v4:=Tryz.zeroValue4
 t5:=Tryz.underlying5
 a5:=Tryz.isAgg5
 z5:=Tryz.sizeOf5
 v5:=Tryz.zeroValue5
 t9:=Tryz.underlying9
 a9:=Tryz.isAgg9
 z9:=Tryz.sizeOf9
 v9:=Tryz.zeroValue9
 t20:=Tryz.underlying20
 a20:=Tryz.isAgg20
 z20:=Tryz.sizeOf20
 v20:=Tryz.zeroValue20
 t21:=Tryz.underlying21
 a21:=Tryz.isAgg21
 z21:=Tryz.sizeOf21
 v21:=Tryz.zeroValue21
 t37:=Tryz.underlying166
 a37:=Tryz.isAgg166
 z37:=Tryz.sizeOf166
 v37:=Tryz.zeroValue166
 t46:=Tryz.underlying117
 a46:=Tryz.isAgg117
 z46:=Tryz.sizeOf117
 v46:=Tryz.zeroValue117
 t51:=Tryz.underlying152
 a51:=Tryz.isAgg152
 z51:=Tryz.sizeOf152
 v51:=Tryz.zeroValue152
 t53:=Tryz.underlying154
 a53:=Tryz.isAgg154
 z53:=Tryz.sizeOf154
 v53:=Tryz.zeroValue154
 t75:=Tryz.underlying188
 a75:=Tryz.isAgg188
 z75:=Tryz.sizeOf188
 v75:=Tryz.zeroValue188
 t76:=Tryz.underlying189
 a76:=Tryz.isAgg189
 z76:=Tryz.sizeOf189
 v76:=Tryz.zeroValue189
 t85:=Tryz.underlying202
 a85:=Tryz.isAgg202
 z85:=Tryz.sizeOf202
 v85:=Tryz.zeroValue202
 t127:=Tryz.underlying231
 a127:=Tryz.isAgg231
 z127:=Tryz.sizeOf231
 v127:=Tryz.zeroValue231
 t143:=Tryz.underlying232
 a143:=Tryz.isAgg232
 z143:=Tryz.sizeOf232
 v143:=Tryz.zeroValue232
 t145:=Tryz.underlying234
 a145:=Tryz.isAgg234
 z145:=Tryz.sizeOf234
 v145:=Tryz.zeroValue234
 t167:=Tryz.underlying201
 a167:=Tryz.isAgg201
 z167:=Tryz.sizeOf201
 v167:=Tryz.zeroValue201
 t168:=Tryz.underlying204
 a168:=Tryz.isAgg204
 z168:=Tryz.sizeOf204
 v168:=Tryz.zeroValue204
 t171:=Tryz.underlying221
 a171:=Tryz.isAgg221
 z171:=Tryz.sizeOf221
 v171:=Tryz.zeroValue221
 t173:=Tryz.underlying223
 a173:=Tryz.isAgg223
 z173:=Tryz.sizeOf223
 v173:=Tryz.zeroValue223
 t175:=Tryz.underlying215
 a175:=Tryz.isAgg215
 z175:=Tryz.sizeOf215
 v175:=Tryz.zeroValue215
 t210:=Tryz.underlying219
 a210:=Tryz.isAgg219
 z210:=Tryz.sizeOf219
 v210:=Tryz.zeroValue219
 t212:=Tryz.underlying236
 a212:=Tryz.isAgg236
 z212:=Tryz.sizeOf236
 v212:=Tryz.zeroValue236
 t213:=Tryz.underlying237
 a213:=Tryz.isAgg237
 z213:=Tryz.sizeOf237
 t232:=Tryz.underlying244
 a232:=Tryz.isAgg244
 z232:=Tryz.sizeOf244
 v232:=Tryz.zeroValue244
 t233:=Tryz.underlying245
 a233:=Tryz.isAgg245
 z233:=Tryz.sizeOf245
 v233:=Tryz.zeroValue245
 g15:=by kernel_rfl
 g16:=by kernel_rfl
 g17:=by kernel_rfl
 g18:=by kernel_rfl
 g19:=by kernel_rfl
 t80:=Tryz.underlying246
 a80:=Tryz.isAgg246
 z80:=Tryz.sizeOf246
 v80:=Tryz.zeroValue246
 i0:=by kernel_rfl
 i2:=by kernel_rfl
 i3:=by kernel_rfl
 i4:=by kernel_rfl
 i5:=by kernel_rfl
 i9:=by kernel_rfl
 i20:=by kernel_rfl
 i21:=by kernel_rfl
 i37:=by kernel_rfl
 i46:=by kernel_rfl
 i51:=by kernel_rfl
 i53:=by kernel_rfl
 i75:=by kernel_rfl
 i76:=by kernel_rfl
 i80:=by kernel_rfl
 i85:=by kernel_rfl
 i127:=by kernel_rfl
 i143:=by kernel_rfl
 i145:=by kernel_rfl
 i167:=by kernel_rfl
 i168:=by kernel_rfl
 i171:=by kernel_rfl
 i173:=by kernel_rfl
 i175:=by kernel_rfl
 i210:=by kernel_rfl
 i212:=by kernel_rfl
 i232:=by kernel_rfl
 i233:=by kernel_rfl
 m15:=by kernel_rfl
 m16:=by kernel_rfl
 m17:=by kernel_rfl
 m18:=by kernel_rfl
 m19:=by kernel_rfl
 c0:=by kernel_rfl
 c2:=by kernel_rfl
 c3:=by kernel_rfl
 c4:=by kernel_rfl
 c5:=by kernel_rfl
 c9:=by kernel_rfl
 c20:=by kernel_rfl
 c21:=by kernel_rfl
 c37:=by kernel_rfl
 c46:=by kernel_rfl
 c51:=by kernel_rfl
 c53:=by kernel_rfl
 c75:=by kernel_rfl
 c76:=by kernel_rfl
 c80:=by kernel_rfl
 c85:=by kernel_rfl
 c127:=by kernel_rfl
 c143:=by kernel_rfl
 c145:=by kernel_rfl
 c167:=by kernel_rfl
 c168:=by kernel_rfl
 c171:=by kernel_rfl
 c173:=by kernel_rfl
 c175:=by kernel_rfl
 c210:=by kernel_rfl
 c212:=by kernel_rfl
 c213:=by kernel_rfl
 c232:=by kernel_rfl
 c233:=by kernel_rfl }
open Go.RowKit in
theorem Tryz.strconv_Atoi_ok (s:ByteArray) (hmax:s.size≤9223372036854775806) (v:Int) (h:Lib.atoiAll s.data.toList=.ok v) (w:World) :
  Calls Tryz.prog 170 #[.string s] w fun e w'=>e=.returned (.tuple #[.int .i64 v,.nilIface])∧(w'=w∨∃t,w'=Lib.bytesWorld w 5 t):=Any.strconv_Atoi_ok Tryz.laysC172 s hmax v h w
open Go.RowKit in
theorem Tryz.strconv_Atoi_range_var (s:ByteArray) (hlim:s.size≤281474976710656) (h:Lib.atoiAll s.data.toList=.range) (tp:TypeId) (p:Value) (w:World) (hvar:w.var? Tryz.prog "strconv.ErrRange"=some #[.iface tp p]) :
  Calls Tryz.prog 170 #[.string s] w fun e w'=>∃N,e=.returned (.tuple #[.int .i64 (Lib.atoiSat s.data.toList),.iface 204 (.pointer (some ⟨N,0,none⟩))])∧w.heap.size≤N∧w'.heap[N]?=some (.cells #[.string ⟨#[65,116,111,105]⟩,.string s,.iface tp p] 219 (0,0))∧Below w.heap.size w w':=Any.strconv_Atoi_range_var Tryz.laysC172 s hlim h tp p w hvar
def Tryz.lays219_ren:Go.Shelf.Ren:=⟨fun|219=>197|217=>210|225=>211|224=>212|267=>213|266=>224|314=>225|n=>n,fun|9=>9|3=>3|4=>4|5=>5|46=>117|146=>228|51=>152|n=>n,fun|1=>1|n=>n⟩
def Tryz.lays144_ren:Go.Shelf.Ren:=⟨fun|144=>192|143=>203|219=>197|217=>210|225=>211|224=>212|267=>213|266=>224|314=>225|n=>n,fun|9=>9|4=>4|3=>3|5=>5|46=>117|146=>228|51=>152|n=>n,fun|1=>1|n=>n⟩
theorem Tryz.lays144:Go.Proofs.Lays.n144 Tryz.prog Tryz.lays144_ren:={
 mixed:=by kernel_rfl
 f143:=Tryz.func203.trans (congrArg some (by kernel_rfl))
 f144:=Tryz.func192.trans (congrArg some (by kernel_rfl))
 f217:=Tryz.func210.trans (congrArg some (by kernel_rfl))
 f219:=Tryz.func197.trans (congrArg some (by kernel_rfl))
 f224:=Tryz.func212.trans (congrArg some (by kernel_rfl))
 f225:=Tryz.func211.trans (congrArg some (by kernel_rfl))
 f266:=Tryz.func224.trans (congrArg some (by kernel_rfl))
 f267:=Tryz.func213.trans (congrArg some (by kernel_rfl))
 f314:=Tryz.func225.trans (congrArg some (by kernel_rfl))
 t3:=Tryz.underlying3
 a3:=Tryz.isAgg3
 z3:=Tryz.sizeOf3
 v3:=Tryz.zeroValue3
 t4:=Tryz.underlying4
 a4:=Tryz.isAgg4
 z4:=Tryz.sizeOf4
 v4:=Tryz.zeroValue4
 t5:=Tryz.underlying5
 a5:=Tryz.isAgg5
 z5:=Tryz.sizeOf5
 v5:=Tryz.zeroValue5
 t9:=Tryz.underlying9
 a9:=Tryz.isAgg9
 z9:=Tryz.sizeOf9
 v9:=Tryz.zeroValue9
 t46:=Tryz.underlying117
 a46:=Tryz.isAgg117
 z46:=Tryz.sizeOf117
 v46:=Tryz.zeroValue117
 t51:=Tryz.underlying152
 a51:=Tryz.isAgg152
 z51:=Tryz.sizeOf152
 v51:=Tryz.zeroValue152
 t146:=Tryz.underlying228
 a146:=Tryz.isAgg228
 z146:=Tryz.sizeOf228
 v146:=Tryz.zeroValue228
 g1:=by kernel_rfl }
open Go.RowKit Go.Lib in
theorem Tryz.strings_Contains_one (s:ByteArray) (c:UInt8) (w:World) :
  Calls Tryz.prog 192 #[.string s,.string ⟨#[c]⟩] w fun e w'=>e=.returned (.bool (decide (0≤Lib.indexByte s.data.toList c)))∧w'=w:=Any.strings_Contains_one Tryz.lays144 s c w
def Tryz.lays145_ren:Go.Shelf.Ren:=⟨fun|145=>169|220=>187|219=>197|217=>210|225=>211|224=>212|267=>213|266=>224|314=>225|n=>n,fun|9=>9|4=>4|59=>185|3=>3|5=>5|46=>117|146=>228|51=>152|n=>n,fun|1=>1|n=>n⟩
theorem Tryz.lays145:Go.Proofs.Lays.n145 Tryz.prog Tryz.lays145_ren:={
 mixed:=by kernel_rfl
 f145:=Tryz.func169.trans (congrArg some (by kernel_rfl))
 f217:=Tryz.func210.trans (congrArg some (by kernel_rfl))
 f219:=Tryz.func197.trans (congrArg some (by kernel_rfl))
 f220:=Tryz.func187.trans (congrArg some (by kernel_rfl))
 f224:=Tryz.func212.trans (congrArg some (by kernel_rfl))
 f225:=Tryz.func211.trans (congrArg some (by kernel_rfl))
 f266:=Tryz.func224.trans (congrArg some (by kernel_rfl))
 f267:=Tryz.func213.trans (congrArg some (by kernel_rfl))
 f314:=Tryz.func225.trans (congrArg some (by kernel_rfl))
 t3:=Tryz.underlying3
 a3:=Tryz.isAgg3
 z3:=Tryz.sizeOf3
 v3:=Tryz.zeroValue3
 t4:=Tryz.underlying4
 a4:=Tryz.isAgg4
 z4:=Tryz.sizeOf4
 v4:=Tryz.zeroValue4
 t5:=Tryz.underlying5
 a5:=Tryz.isAgg5
 z5:=Tryz.sizeOf5
 v5:=Tryz.zeroValue5
 t9:=Tryz.underlying9
 a9:=Tryz.isAgg9
 z9:=Tryz.sizeOf9
 v9:=Tryz.zeroValue9
 t46:=Tryz.underlying117
 a46:=Tryz.isAgg117
 z46:=Tryz.sizeOf117
 v46:=Tryz.zeroValue117
 t51:=Tryz.underlying152
 a51:=Tryz.isAgg152
 z51:=Tryz.sizeOf152
 v51:=Tryz.zeroValue152
 t59:=Tryz.underlying185
 a59:=Tryz.isAgg185
 z59:=Tryz.sizeOf185
 v59:=Tryz.zeroValue185
 t146:=Tryz.underlying228
 a146:=Tryz.isAgg228
 z146:=Tryz.sizeOf228
 v146:=Tryz.zeroValue228
 g1:=by kernel_rfl }
open Go.RowKit Go.Lib in
theorem Tryz.strings_Cut (s sep:ByteArray) (m:Int) (w:World) (hs:s.size < 4294967281) (hm:w.cell? ⟨1,0,none⟩=some (.int .i64 m)) :
  Calls Tryz.prog 169 #[.string s,.string sep] w fun e w'=>e=.returned (.tuple #[.string ⟨(Lib.cut s.data.toList sep.data.toList).1.toArray⟩,.string ⟨(Lib.cut s.data.toList sep.data.toList).2.1.toArray⟩,.bool (Lib.cut s.data.toList sep.data.toList).2.2])∧∃n,w'=w.drewN n:=Any.strings_Cut Tryz.lays145 s sep m w hs hm
def Tryz.lays149_ren:Go.Shelf.Ren:=⟨fun|149=>171|222=>190|n=>n,fun|9=>9|5=>5|3=>3|4=>4|n=>n,fun|n=>n⟩
theorem Tryz.lays149:Go.Proofs.Lays.n149 Tryz.prog Tryz.lays149_ren:={
 mixed:=by kernel_rfl
 f149:=Tryz.func171.trans (congrArg some (by kernel_rfl))
 f222:=Tryz.func190.trans (congrArg some (by kernel_rfl))
 t3:=Tryz.underlying3
 a3:=Tryz.isAgg3
 z3:=Tryz.sizeOf3
 v3:=Tryz.zeroValue3
 t4:=Tryz.underlying4
 a4:=Tryz.isAgg4
 z4:=Tryz.sizeOf4
 v4:=Tryz.zeroValue4
 t5:=Tryz.underlying5
 a5:=Tryz.isAgg5
 z5:=Tryz.sizeOf5
 v5:=Tryz.zeroValue5
 t9:=Tryz.underlying9
 a9:=Tryz.isAgg9
 z9:=Tryz.sizeOf9
 v9:=Tryz.zeroValue9 }
open Go.RowKit Go.Lib in
theorem Tryz.strings_LastIndexByte (s:ByteArray) (c:Int) (hs:s.size < 4611686018427387904) (w:World) :
  Calls Tryz.prog 171 #[.string s,.int .u8 c] w fun e w'=>e=.returned (.int .i64 (Lib.lastIndexByte s c))∧w'=w:=Any.strings_LastIndexByte Tryz.lays149 s c hs w
def Tryz.lays206_ren:Go.Shelf.Ren:=⟨fun|206=>168|n=>n,fun|9=>9|4=>4|3=>3|n=>n,fun|n=>n⟩
def Tryz.lays99_ren:Go.Shelf.Ren:=⟨fun|99=>155|206=>168|n=>n,fun|9=>9|4=>4|3=>3|n=>n,fun|n=>n⟩
theorem Tryz.lays99:Go.Proofs.Lays.n99 Tryz.prog Tryz.lays99_ren:={
 mixed:=by kernel_rfl
 f99:=Tryz.func155.trans (congrArg some (by kernel_rfl))
 f206:=Tryz.func168.trans (congrArg some (by kernel_rfl))
 t3:=Tryz.underlying3
 a3:=Tryz.isAgg3
 z3:=Tryz.sizeOf3
 v3:=Tryz.zeroValue3
 t4:=Tryz.underlying4
 a4:=Tryz.isAgg4
 z4:=Tryz.sizeOf4
 v4:=Tryz.zeroValue4
 t9:=Tryz.underlying9
 a9:=Tryz.isAgg9
 z9:=Tryz.sizeOf9
 v9:=Tryz.zeroValue9 }
open Go.RowKit Go.Lib in
theorem Tryz.strings_HasPrefix (s p:ByteArray) (w:World) :
  Calls Tryz.prog 155 #[.string s,.string p] w fun e w'=>e=.returned (.bool (Lib.hasPrefix s.data.toList p.data.toList))∧w'=w:=Any.strings_HasPrefix Tryz.lays99 s p w
def Tryz.lays101_ren:Go.Shelf.Ren:=⟨fun|101=>158|208=>175|206=>168|n=>n,fun|9=>9|4=>4|3=>3|n=>n,fun|n=>n⟩
theorem Tryz.lays101:Go.Proofs.Lays.n101 Tryz.prog Tryz.lays101_ren:={
 mixed:=by kernel_rfl
 f101:=Tryz.func158.trans (congrArg some (by kernel_rfl))
 f206:=Tryz.func168.trans (congrArg some (by kernel_rfl))
 f208:=Tryz.func175.trans (congrArg some (by kernel_rfl))
 t3:=Tryz.underlying3
 a3:=Tryz.isAgg3
 z3:=Tryz.sizeOf3
 v3:=Tryz.zeroValue3
 t4:=Tryz.underlying4
 a4:=Tryz.isAgg4
 z4:=Tryz.sizeOf4
 v4:=Tryz.zeroValue4
 t9:=Tryz.underlying9
 a9:=Tryz.isAgg9
 z9:=Tryz.sizeOf9
 v9:=Tryz.zeroValue9 }
open Go.RowKit Go.Lib in
theorem Tryz.strings_TrimPrefix (s p:ByteArray) (w:World) :
  Calls Tryz.prog 158 #[.string s,.string p] w fun e w'=>e=.returned (.string ⟨(Lib.trimPrefix s.data.toList p.data.toList).toArray⟩)∧w'=w:=Any.strings_TrimPrefix Tryz.lays101 s p w
def Tryz.laysNm220_ren:Go.Shelf.Ren:=⟨fun|20=>92|n=>n,fun|22=>25|3=>3|4=>4|0=>0|n=>n,fun|n=>n⟩
theorem Tryz.laysNm220:Go.Proofs.Lays2.n20 Tryz.prog Tryz.laysNm220_ren:={
 mixed:=by kernel_rfl
 f20:=Tryz.func92.trans (congrArg some (by kernel_rfl))
 t0:=Tryz.underlying0
 a0:=Tryz.isAgg0
 z0:=Tryz.sizeOf0
 v0:=Tryz.zeroValue0
 t3:=Tryz.underlying3
 a3:=Tryz.isAgg3
 z3:=Tryz.sizeOf3
 v3:=Tryz.zeroValue3
 t4:=Tryz.underlying4
 a4:=Tryz.isAgg4
 z4:=Tryz.sizeOf4
 v4:=Tryz.zeroValue4
 t22:=Tryz.underlying25
 a22:=Tryz.isAgg25
 z22:=Tryz.sizeOf25
 v22:=Tryz.zeroValue25
 i3:=by kernel_rfl }
open Go.RowKit Go.Lib Go.Sort in
theorem Tryz.slices_Compact_int (blk off cap:Nat) (zs:List Int) (w:World) (hH:Holds (Value.int .i64) w blk off zs.toArray) (hsz:zs.length≤9223372036854775807) (hcap:zs.length≤cap) :
  Calls Tryz.prog 92 #[.slice (some ⟨blk,off,none⟩) zs.length cap] w fun e w'=>e=.returned (.slice (some ⟨blk,off,none⟩) (Lib.compact zs).length cap)∧∃q,w'=putRow (Value.int .i64) (Sort.ahead w q) blk off (Lib.compact zs++List.replicate (zs.length - (Lib.compact zs).length) 0).toArray:=Any.slices_Compact_int Tryz.laysNm220 blk off cap zs w hH hsz hcap
open Go.RowKit Go.Lib Go.Sort in
theorem Tryz.slices_Compact_int_empty (a:Option Addr) (cap:Nat) (w:World) :
  Calls Tryz.prog 92 #[.slice a 0 cap] w fun e w'=>e=.returned (.slice a 0 cap)∧w'=w:=Any.slices_Compact_int_empty Tryz.laysNm220 a cap w
def Tryz.lays194_ren:Go.Shelf.Ren:=⟨fun|194=>86|n=>n,fun|31=>92|9=>9|3=>3|4=>4|0=>0|n=>n,fun|n=>n⟩
theorem Tryz.lays194:Go.Proofs.Lays.n194 Tryz.prog Tryz.lays194_ren:={
 mixed:=by kernel_rfl
 f194:=Tryz.func86.trans (congrArg some (by kernel_rfl))
 t0:=Tryz.underlying0
 a0:=Tryz.isAgg0
 z0:=Tryz.sizeOf0
 v0:=Tryz.zeroValue0
 t3:=Tryz.underlying3
 a3:=Tryz.isAgg3
 z3:=Tryz.sizeOf3
 v3:=Tryz.zeroValue3
 t4:=Tryz.underlying4
 a4:=Tryz.isAgg4
 z4:=Tryz.sizeOf4
 v4:=Tryz.zeroValue4
 t9:=Tryz.underlying9
 a9:=Tryz.isAgg9
 z9:=Tryz.sizeOf9
 v9:=Tryz.zeroValue9
 t31:=Tryz.underlying92
 a31:=Tryz.isAgg92
 z31:=Tryz.sizeOf92
 v31:=Tryz.zeroValue92 }
open Go.RowKit Go.Lib Go.Sort in
theorem Tryz.slices_Compact_string (blk off cap:Nat) (zs:List (List UInt8)) (w:World) (hH:Holds encStr w blk off zs.toArray) (hsz:zs.length≤9223372036854775807) (hcap:zs.length≤cap) :
  Calls Tryz.prog 86 #[.slice (some ⟨blk,off,none⟩) zs.length cap] w fun e w'=>e=.returned (.slice (some ⟨blk,off,none⟩) (Lib.compact zs).length cap)∧∃q,w'=putRow encStr (Sort.ahead w q) blk off (Lib.compact zs++List.replicate (zs.length - (Lib.compact zs).length) []).toArray:=Any.slices_Compact_string Tryz.lays194 blk off cap zs w hH hsz hcap
open Go.RowKit Go.Lib Go.Sort in
theorem Tryz.slices_Compact_string_empty (a:Option Addr) (cap:Nat) (w:World) :
  Calls Tryz.prog 86 #[.slice a 0 cap] w fun e w'=>e=.returned (.slice a 0 cap)∧w'=w:=Any.slices_Compact_string_empty Tryz.lays194 a cap w
end Go.Proofs
namespace Go.Proofs.YtpilmhoakopcaaaGreatDoor
open Go.RowKit
structure Env (w:World):Prop where
 max:∃m,w.cell? ⟨1,0,none⟩=some (.int .i64 m)
 pow:Lib.TabIs Tryz.prog w "internal/strconv.uint64pow10" .u64 Lib.pow10Tab
 syn:∃tp p,w.var? Tryz.prog "strconv.ErrSyntax"=some #[.iface tp p]
 rng:∃tp p,w.var? Tryz.prog "strconv.ErrRange"=some #[.iface tp p]
theorem var_bel {P:Program} {w w':World} {n:String} {cs:Array Value} (h:Below w.heap.size w w') (hv:w.var? P n=some cs):w'.var? P n=some cs:=by
 unfold World.var? at hv ⊢
 cases hg:P.globalNamed n with
 | none=>rw [hg] at hv;exact hv
 | some g=>
  rw [hg] at hv
  simp only [Option.bind_some] at hv ⊢
  have hlt:g < w.heap.size:=by
   rcases Nat.lt_or_ge g w.heap.size with hh|hh
   ·exact hh
   ·rw [Array.getElem?_eq_none hh] at hv;cases hv
  rw [h.block g hlt];exact hv
theorem Env.below {w w':World} (E:Env w) (h:Below w.heap.size w w'):Env w':=by
 obtain ⟨⟨m,hm⟩,hp,⟨t1,p1,h1⟩,⟨t2,p2,h2⟩⟩:=E
 exact ⟨⟨m,by rw [h.cell (World.block_lt_of_cell? _ _ hm)];exact hm⟩,var_bel h hp,⟨t1,p1,var_bel h h1⟩,⟨t2,p2,var_bel h h2⟩⟩
theorem Env.drewN {w:World} (E:Env w) (n:Nat):Env (w.drewN n):=E.below ⟨rfl,rfl,rfl,Nat.le_refl _,fun _ _=>rfl⟩
theorem Env.alloc {w:World} (E:Env w) (o:Obj):Env (w.alloc o):=E.below ((Below.refl _ w).alloc (Nat.le_refl _) _)
theorem decF_dd:∀(n f:Nat) (l:List Nat),n < f→decF f n l=(Lib.decDigits n).map UInt8.toNat++l:=by
 intro n
 induction n using Nat.strongRecOn with
 | _ n ih=>
  intro f l hf
  obtain ⟨g,rfl⟩:∃g,f=g+1:=⟨f - 1,by omega⟩
  simp only [decF]
  rw [Lib.decDigits]
  by_cases h:n < 10
  ·rw [if_pos h,dif_pos h]
   simp only [List.map_cons,List.map_nil,List.cons_append,List.nil_append,UInt8.toNat_ofNat']
   rw [Nat.mod_eq_of_lt (by omega)]
  ·rw [if_neg h,dif_neg h,ih (n / 10) (by omega) g _ (by omega)]
   simp only [List.map_append,List.map_cons,List.map_nil,List.append_assoc,List.cons_append,List.nil_append,UInt8.toNat_ofNat']
   rw [Nat.mod_eq_of_lt (show 48+n % 10 < 2 ^ 8 by omega)]
theorem itoa_is (n:Nat):(⟨(Lib.itoa (n:Int)).toArray⟩:ByteArray)=mk (decL n):=by
 apply eq_mk
 unfold Lib.itoa decL
 rw [if_neg (by omega),decF_dd n (n+1) [] (by omega),List.append_nil,Int.toNat_natCast]
 rfl
theorem itoa_any (n:Nat) (w:World) (hn:n≤9223372036854775807) (E:Env w):Calls Tryz.prog 176 #[.int .i64 (n:Int)] w fun e w'=>e=.returned (.string (mk (decL n)))∧Below w.heap.size w w':=by
 refine (Tryz.strconv_Itoa n (by omega) (by omega) w E.pow).mono ?_
 rintro e w' ⟨rfl,k,os,rfl⟩
 exact ⟨by rw [itoa_is],Lib.below_grow _ _ (Nat.le_refl _) _ _⟩
theorem bel_boxed {w w1:World} {o:Obj} (h:Below (w.alloc o).heap.size (w.alloc o) w1):Below w.heap.size w w1:=((Below.refl _ w).alloc (Nat.le_refl _) o).trans (h.mono (by simp))
theorem vtext_any (e:Nat) (u r:ByteArray) (w:World) (he:e≤1000000000) (hu:u.size≤65536) (hr:r.size≤65536) (E:Env w) :
  Calls Tryz.prog 159 #[.agg #[.int .i64 (e:Int),.string u,.string r]] w fun e' w'=>e'=.returned (.string (mk (textL e (B u) (B r))))∧Below w.heap.size w w':=by
 have hmk:=decL_len e
 have hsz:(mk (decL e)).size≤1000000001:=by rw [size_mk];omega
 have I:=Lib.hid (itoa_any e (w.alloc (.cells #[.int .i64 (e:Int),.string u,.string r] 158)) (by omega) (E.alloc _))
 by_cases h1:e=0
 ·cases h2:r.toList.isEmpty
  ·have t1:((e:Int) != 0)=false:=by rw [bne_eq_false_iff_eq];omega
   have HE:B r≠[]:=fun hh=>by rw [(empty_iff r).2 hh] at h2;cases h2
   have X:=Lib.hid (show u++({ data:=#[45] }++r)=mk (textL e (B u) (B r)) by
    refine eq_mk ?_
    unfold textL
    rw [if_pos h1,if_neg HE]
    simp [B_append,B_dash])
   clear HE h1
   go_enter Tryz.func159,Tryz.ntmps159
   go_wp2
   go_ret
   exact ⟨by rw [←X.out];rfl,(Below.refl _ w).alloc (Nat.le_refl _) _⟩
  ·have t1:((e:Int) != 0)=false:=by rw [bne_eq_false_iff_eq];omega
   have HE:B r=[]:=(empty_iff r).1 h2
   have X:=Lib.hid (show u=mk (textL e (B u) (B r)) by
    refine eq_mk ?_
    unfold textL
    rw [if_pos h1,if_pos HE]
    simp [B_append])
   clear HE h1
   go_enter Tryz.func159,Tryz.ntmps159
   go_wp2
   go_ret
   exact ⟨by rw [←X.out];rfl,(Below.refl _ w).alloc (Nat.le_refl _) _⟩
 ·cases h2:r.toList.isEmpty
  ·have t1:((e:Int) != 0)=true:=by rw [bne_iff_ne];omega
   have HE:B r≠[]:=fun hh=>by rw [(empty_iff r).2 hh] at h2;cases h2
   have X:=Lib.hid (show mk (decL e)++{ data:=#[58] }++u++({ data:=#[45] }++r)=mk (textL e (B u) (B r)) by
    refine eq_mk ?_
    unfold textL
    rw [if_neg h1,if_neg HE]
    simp [B_append,B_dash,B_colon,B_mk (decL_lt e)])
   clear HE h1
   go_enter Tryz.func159,Tryz.ntmps159
   go_wp2_with fail
   refine I.out.mono ?_
   rintro e' w1 ⟨rfl,hb⟩
   obtain ⟨c0,c1,c2,hz⟩:=box_cells hb
   have hB:=Lib.hid (bel_boxed hb)
   clear hb
   go_wp2
   go_ret
   exact ⟨by rw [←X.out];rfl,hB.out⟩
  ·have t1:((e:Int) != 0)=true:=by rw [bne_iff_ne];omega
   have HE:B r=[]:=(empty_iff r).1 h2
   have X:=Lib.hid (show mk (decL e)++{ data:=#[58] }++u=mk (textL e (B u) (B r)) by
    refine eq_mk ?_
    unfold textL
    rw [if_neg h1,if_pos HE]
    simp [B_append,B_colon,B_mk (decL_lt e)])
   clear HE h1
   go_enter Tryz.func159,Tryz.ntmps159
   go_wp2_with fail
   refine I.out.mono ?_
   rintro e' w1 ⟨rfl,hb⟩
   obtain ⟨c0,c1,c2,hz⟩:=box_cells hb
   have hB:=Lib.hid (bel_boxed hb)
   clear hb
   go_wp2
   go_ret
   exact ⟨by rw [←X.out];rfl,hB.out⟩
theorem contains_is (s:ByteArray) (c:UInt8):decide (0≤Lib.indexByte s.data.toList c)=hasB (B s) c.toNat:=by
 rw [←Lib.contains_iff_indexByte]
 unfold hasB B
 rw [Bool.eq_iff_iff,List.contains_iff_mem,List.contains_iff_mem,List.mem_map]
 exact ⟨fun h=>⟨c,h,rfl⟩,fun ⟨d,h,e⟩=>by rwa [←UInt8.toNat_inj.1 e]⟩
theorem has45_any (s:ByteArray) (w:World):Calls Tryz.prog 192 #[.string s,.string { data:=#[45] }] w fun e w'=>e=.returned (.bool (hasB (B s) 45))∧w=w':=by
 refine (Tryz.strings_Contains_one s 45 w).mono ?_
 rintro e w' ⟨rfl,rfl⟩
 exact ⟨by rw [contains_is];rfl,rfl⟩
theorem has58_any (s:ByteArray) (w:World):Calls Tryz.prog 192 #[.string s,.string { data:=#[58] }] w fun e w'=>e=.returned (.bool (hasB (B s) 58))∧w=w':=by
 refine (Tryz.strings_Contains_one s 58 w).mono ?_
 rintro e w' ⟨rfl,rfl⟩
 exact ⟨by rw [contains_is];rfl,rfl⟩
def upB (e:Int) (u r:List Nat):Bool:=headD u&&u.all (chB uX)&&!(hasB u 45&&decide (r=[]))&&!(hasB u 58&&decide (e=0))
theorem rightB_up (e:Int) (u r:List Nat):rightB e u r=(decide (0≤e∧e≤999999999)&&upB e u r&&r.all (chB rX)&&decide ((textL e.toNat u r).length≤60)):=by
 unfold rightB upB
 generalize decide (0≤e∧e≤999999999)=a
 generalize headD u=b
 generalize (hasB u 45&&decide (r=[]))=c
 generalize (hasB u 58&&decide (e=0))=d
 generalize u.all (chB uX)=f
 cases a<;>cases b<;>cases c<;>cases d<;>cases f<;>rfl
theorem eachU_any (u:ByteArray) (w:World) (hs:u.size≤65536):Calls Tryz.prog 173 #[.string u,.func (.func 191) #[] #[]] w fun e w'=>e=.returned (.bool ((B u).all (chB uX)))∧∃n,w'=w.drewN n:=
 each_any _ (chB uX) u w (by omega) (fun _ _=>by kernel_rfl) vup_any
theorem eachR_any (u:ByteArray) (w:World) (hs:u.size≤65536):Calls Tryz.prog 173 #[.string u,.func (.func 174) #[] #[]] w fun e w'=>e=.returned (.bool ((B u).all (chB rX)))∧∃n,w'=w.drewN n:=
 each_any _ (chB rX) u w (by omega) (fun _ _=>by kernel_rfl) vrev_any
theorem bel_d {w w1:World} (h:Below w.heap.size w w1) (n:Nat):Below w.heap.size w (w1.drewN n):=⟨h.os,h.tape,h.output,h.size,h.block⟩
theorem bel_box (w:World) (o:Obj):Below w.heap.size w (w.alloc o):=(Below.refl _ w).alloc (Nat.le_refl _) o
theorem vupstream_any (e:Int) (u r:ByteArray) (w:World) (hsz:u.size≤65536) (hrz:r.size≤65536) :
  Calls Tryz.prog 172 #[.agg #[.int .i64 e,.string u,.string r]] w fun e' w'=>e'=.returned (.bool (upB e (B u) (B r)))∧Below w.heap.size w w':=by
 have KE:=Lib.hid (fun w=>eachU_any u w hsz)
 have K45:=Lib.hid (has45_any u)
 have K58:=Lib.hid (has58_any u)
 cases hu:u.toList.isEmpty
 ·have hs:0 < u.size:=by
   rcases Nat.eq_zero_or_pos u.size with h|h
   ·have:=(empty_iff u).2 (List.eq_nil_of_length_eq_zero (by rw [B_len];exact h))
    rw [hu] at this;cases this
   ·exact h
  have KD:=Lib.hid (vdigit_any u[0].toNat)
  cases hd:digB u[0].toNat
  ·have X:=Lib.hid (show upB e (B u) (B r)=false by unfold upB;rw [headD_at u hs,hd];rfl)
   rw [hd] at KD
   clear hd
   go_enter Tryz.func172,Tryz.ntmps172
   go_wp2_with (go_at_call 180;(with_reducible refine (KD.out _).mono ?_);rintro e' w1 ⟨rfl,rfl⟩)
   go_ret
   exact ⟨by rw [X.out];rfl,bel_box _ _⟩
  ·rw [hd] at KD
   have HD:=Lib.hid hd
   clear hd
   cases ha:(B u).all (chB uX)
   ·have X:=Lib.hid (show upB e (B u) (B r)=false by unfold upB;rw [headD_at u hs,HD.out,ha];rfl)
    rw [ha] at KE
    clear ha
    go_enter Tryz.func172,Tryz.ntmps172
    go_wp2_with (first|(go_at_call 180;(with_reducible refine (KD.out _).mono ?_);rintro e' w1 ⟨rfl,rfl⟩)|(go_at_call 173;(with_reducible refine (KE.out _).mono ?_);rintro e' w1 ⟨rfl,n,rfl⟩))
    go_ret
    exact ⟨by rw [X.out];rfl,bel_d (bel_box _ _) _⟩
   ·have X:=Lib.hid (show upB e (B u) (B r)=(!(hasB (B u) 45&&r.toList.isEmpty)&&!(hasB (B u) 58&&(e==0))) by
     unfold upB;rw [headD_at u hs,HD.out,ha]
     have h1:decide (B r=[])=r.toList.isEmpty:=by rw [Bool.eq_iff_iff,decide_eq_true_iff,empty_iff]
     have h2:decide (e=0)=(e==0):=by rw [Bool.eq_iff_iff,decide_eq_true_iff,beq_iff_eq]
     rw [h1,h2];simp)
    rw [ha] at KE
    clear ha
    cases hre:r.toList.isEmpty<;>cases h45:hasB (B u) 45<;>cases h58:hasB (B u) 58<;>cases he0:(e==0)
    all_goals
     have hn0:(e != 0)=!(e==0):=rfl
     rw [he0] at hn0
     rw [h45] at K45
     rw [h58] at K58
     rw [h45,h58,hre,he0] at X
     clear he0 h45 h58
     simp only [Bool.not_true,Bool.not_false] at hn0
     go_enter Tryz.func172,Tryz.ntmps172
     go_wp2_with (first|(go_at_call 180;(with_reducible refine (KD.out _).mono ?_);rintro e' w1 ⟨rfl,rfl⟩)|(go_at_call 173;(with_reducible refine (KE.out _).mono ?_);rintro e' w1 ⟨rfl,n,rfl⟩)|(go_at_call 192;(with_reducible refine (K45.out _).mono ?_);rintro e' w1 ⟨rfl,rfl⟩)|(go_at_call 192;(with_reducible refine (K58.out _).mono ?_);rintro e' w1 ⟨rfl,rfl⟩))
     go_ret
     exact ⟨by rw [X.out];rfl,bel_d (bel_box _ _) _⟩
 ·have X:=Lib.hid (show upB e (B u) (B r)=false by unfold upB;rw [(empty_iff u).1 hu];rfl)
  go_enter Tryz.func172,Tryz.ntmps172
  go_wp2
  go_ret
  exact ⟨by rw [X.out];rfl,bel_box _ _⟩
theorem bel_2 {w V W:World} (h:Below w.heap.size w V) (h2:Below V.heap.size V W):Below w.heap.size w W:=h.trans (h2.mono h.size)
theorem vright_any (e:Int) (u r:ByteArray) (w:World) (hsz:u.size≤65536) (hrz:r.size≤65536) (E:Env w) :
  Calls Tryz.prog 157 #[.agg #[.int .i64 e,.string u,.string r]] w fun e' w'=>e'=.returned (.bool (rightB e (B u) (B r)))∧Below w.heap.size w w':=by
 have XR:=Lib.hid (rightB_up e (B u) (B r))
 by_cases h0:0≤e
 ·by_cases h1:e≤999999999
  ·have d0:decide (0≤e)=true:=decide_eq_true h0
   have d1:decide (e≤999999999)=true:=decide_eq_true h1
   have KU:=Lib.hid (fun w=>vupstream_any e u r w hsz hrz)
   have KE:=Lib.hid (fun w=>eachR_any r w hrz)
   cases hup:upB e (B u) (B r)
   ·have X:=Lib.hid (show rightB e (B u) (B r)=false by rw [XR.out,hup,Bool.and_false,Bool.false_and,Bool.false_and])
    rw [hup] at KU
    clear hup XR
    go_enter Tryz.func157,Tryz.ntmps157
    go_wp2_with fail
    refine (KU.out _).mono ?_
    rintro e' w1 ⟨rfl,hb⟩
    have hB:=Lib.hid (bel_boxed hb)
    clear hb
    go_wp2
    go_ret
    exact ⟨by rw [X.out];rfl,hB.out⟩
   ·rw [hup] at KU
    cases ha:(B r).all (chB rX)
    ·have X:=Lib.hid (show rightB e (B u) (B r)=false by rw [XR.out,ha,Bool.and_false,Bool.false_and])
     rw [ha] at KE
     clear ha hup XR
     go_enter Tryz.func157,Tryz.ntmps157
     go_wp2_with fail
     refine (KU.out _).mono ?_
     rintro e' w1 ⟨rfl,hb⟩
     obtain ⟨c0,c1,c2,hz⟩:=box_cells hb
     have hB:=Lib.hid (bel_boxed hb)
     clear hb
     go_wp2_with fail
     refine (KE.out _).mono ?_
     rintro e' w1 ⟨rfl,n,rfl⟩
     go_wp2
     go_ret
     exact ⟨by rw [X.out];rfl,bel_d hB.out n⟩
    ·obtain ⟨m,rfl⟩:∃m:Nat,e=m:=⟨e.toNat,by omega⟩
     have X:=Lib.hid (show rightB m (B u) (B r)=decide ((mk (textL m (B u) (B r))).size≤60) by
      rw [XR.out,ha,hup,decide_eq_true ⟨h0,h1⟩,size_mk];rfl)
     rw [ha] at KE
     have KT:=Lib.hid (fun w E=>vtext_any m u r w (by omega) hsz hrz E)
     clear ha hup XR
     have HE:=Lib.hid E
     clear E
     generalize mk (textL m (B u) (B r))=T at *
     generalize rightB m (B u) (B r)=b at *
     go_enter Tryz.func157,Tryz.ntmps157
     go_wp2_with fail
     refine (KU.out _).mono ?_
     rintro e' w1 ⟨rfl,hb⟩
     obtain ⟨c0,c1,c2,hz⟩:=box_cells hb
     have hB:=Lib.hid (bel_boxed hb)
     clear hb
     go_wp2_with fail
     refine (KE.out _).mono ?_
     rintro e' w2 ⟨rfl,n,rfl⟩
     go_wp2_with fail
     refine (KT.out _ ((HE.out.below hB.out).drewN n)).mono ?_
     rintro e' w2 ⟨rfl,hb2⟩
     have hB2:=Lib.hid (bel_2 (bel_d hB.out n) hb2)
     clear hb2
     go_wp2
     go_ret
     refine ⟨?_,hB2.out⟩
     rw [X.out]
     show Ending.returned (.bool (decide ((T.size:Int)≤60)))=.returned (.bool (decide (T.size≤60)))
     rw [decide_eq_decide.2 (show (T.size:Int)≤60↔T.size≤60 by omega)]
  ·have d1:decide (e≤999999999)=false:=decide_eq_false h1
   have X:=Lib.hid (show rightB e (B u) (B r)=false by rw [XR.out,decide_eq_false (by omega)];rfl)
   go_enter Tryz.func157,Tryz.ntmps157
   go_wp2
   go_ret
   exact ⟨by rw [X.out];rfl,bel_box _ _⟩
 ·have d0:decide (0≤e)=false:=decide_eq_false h0
  have X:=Lib.hid (show rightB e (B u) (B r)=false by rw [XR.out,decide_eq_false (by omega)];rfl)
  go_enter Tryz.func157,Tryz.ntmps157
  go_wp2
  go_ret
  exact ⟨by rw [X.out];rfl,bel_box _ _⟩
theorem vprint_any (e:Int) (u r:ByteArray) (w:World) (hsz:u.size≤65536) (hrz:r.size≤65536) (E:Env w) :
  Calls Tryz.prog 136 #[.agg #[.int .i64 e,.string u,.string r]] w fun e' w'=>e'=.returned (.string (mk (printL e (B u) (B r))))∧Below w.heap.size w w':=by
 have KR:=Lib.hid (fun w E=>vright_any e u r w hsz hrz E)
 have HE:=Lib.hid E
 clear E
 cases hr:rightB e (B u) (B r)
 ·have X:=Lib.hid (show mk (printL e (B u) (B r))={ data:=#[] } by unfold printL;rw [hr];rfl)
  rw [hr] at KR
  clear hr
  go_enter Tryz.func136,Tryz.ntmps136
  go_wp2_with fail
  refine (KR.out _ (HE.out.alloc _)).mono ?_
  rintro e' w1 ⟨rfl,hb⟩
  have hB:=Lib.hid (bel_boxed hb)
  clear hb
  go_wp2
  go_ret
  exact ⟨by rw [X.out];rfl,hB.out⟩
 ·obtain ⟨m,rfl⟩:∃m:Nat,e=m:=⟨e.toNat,by have:=(rightB_epoch hr).1;omega⟩
  have hm:=(rightB_epoch hr).2
  have X:=Lib.hid (show mk (printL m (B u) (B r))=mk (textL m (B u) (B r)) by unfold printL;rw [hr];rfl)
  rw [hr] at KR
  have KT:=Lib.hid (fun w E=>vtext_any m u r w (by omega) hsz hrz E)
  clear hr
  generalize mk (textL m (B u) (B r))=T at *
  go_enter Tryz.func136,Tryz.ntmps136
  go_wp2_with fail
  refine (KR.out _ (HE.out.alloc _)).mono ?_
  rintro e' w1 ⟨rfl,hb⟩
  obtain ⟨c0,c1,c2,hz⟩:=box_cells hb
  have hB:=Lib.hid (bel_boxed hb)
  clear hb
  go_wp2_with fail
  refine (KT.out _ (HE.out.below hB.out)).mono ?_
  rintro e' w2 ⟨rfl,hb2⟩
  have hB2:=Lib.hid (bel_2 hB.out hb2)
  clear hb2
  go_wp2
  go_ret
  exact ⟨by rw [X.out];rfl,hB2.out⟩
end Go.Proofs.YtpilmhoakopcaaaGreatDoor
