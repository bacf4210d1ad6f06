/- What the laws rest on: Shelf, Ver6, Ver7, Ver8, Ver9, BackP, Ver5, Rel6, Deep4, Deep3, StzT, S5b, S5h, Deep5, S5c. -/
import Derived.Shelf.Strings.Builder1
import Derived.Shelf.Strings.Builder2
import Derived.Shelf.Strings.OnBuilder
import Derived.Shelf.Strings.Trim
import Derived.Shelf.Small.Utf8
import Derived.Shelf.Small.Strs
import Derived.Shelf.Strings.BuilderF
import Derived.Shelf.Strings.BuilderK
import Derived.Shelf.Strconv.Atoi
import Derived.Shelf.Strconv.Itoa0
import Derived.Shelf.Strconv.Itoa1
import Derived.Shelf.LaysM
import Derived.Shelf.Strconv.Itoa2
import Derived.Shelf.Strconv.Itoa3
import Derived.Shelf.Strconv.AtoiErrFast
import Derived.Shelf.Strconv.ParseIntEmpty
import Derived.Shelf.Strconv.AtoiFail
import Derived.Shelf.Strconv.Clone
import Derived.Shelf.Strconv.SyntaxError
import Derived.Shelf.LaysC
import Derived.Shelf.Strconv.ToError
import Derived.Shelf.Strconv.Lower
import Derived.Shelf.Strconv.ParseUint10
import Derived.Shelf.Strconv.ParseUint10Empty
import Derived.Shelf.Strconv.ParseUint10Any
import Derived.Shelf.Strconv.ParseInt10
import Derived.Shelf.Strconv.AtoiLong
import Derived.Shelf.Strconv.AtoiInnerAll
import Derived.Shelf.Strconv.RangeError
import Derived.Shelf.Strconv.ToErrorRange
import Derived.Shelf.Strconv.AtoiAll
import Derived.Shelf.Strconv.ErrVarAll
import Derived.Shelf.Strings.Search1
import Derived.Shelf.Strings.Search2
import Derived.Shelf.Strings.Search3
import Derived.Shelf.Strings.Cut
import Derived.Shelf.Strings.Count
import Derived.Shelf.Strings.Shaped
import Derived.Shelf.Strings.Prefix
import Derived.Shelf.Strings.Split
import Derived.Shelf.Strings.Replace
import Derived.Shelf.Strings.SplitShaped
import Derived.Lib.AppendIntMem
import Derived.Lib.IndexAny
import Derived.Lib.IndexBytes
import Derived.Shelf.Strings.LastIndex
import Derived.RegionTactic
import Derived.BigRegion
import Derived.Outline
import Derived.Deep.RegionHeld3
import Derived.Deep.RegionWith
import Derived.Laws.StructEq
import Derived.Laws.OwnMore
import Derived.Test.YtbljkpbaceiaiaaGreatDoorQAAZA
set_option maxRecDepth 100000
set_option linter.unusedVariables false
set_option linter.unusedSimpArgs false
namespace Go.Proofs
open Go.Shelf
def Tryz.lays156_ren:Go.Shelf.Ren:=⟨fun|156=>85|165=>108|166=>75|169=>78|240=>98|241=>128|276=>116|277=>142|n=>n,fun|31=>35|9=>9|3=>3|4=>4|0=>0|20=>20|72=>96|76=>74|70=>94|37=>85|75=>73|127=>118|164=>134|5=>5|80=>101|n=>n,fun|n=>n⟩
theorem Tryz.lays156:Go.Proofs.Lays.n156 Tryz.prog Tryz.lays156_ren:={
 mixed:=by kernel_rfl
 f156:=Tryz.func85.trans (congrArg some (by kernel_rfl))
 f165:=Tryz.func108.trans (congrArg some (by kernel_rfl))
 f166:=Tryz.func75.trans (congrArg some (by kernel_rfl))
 f169:=Tryz.func78.trans (congrArg some (by kernel_rfl))
 f240:=Tryz.func98.trans (congrArg some (by kernel_rfl))
 f241:=Tryz.func128.trans (congrArg some (by kernel_rfl))
 f276:=Tryz.func116.trans (congrArg some (by kernel_rfl))
 f277:=Tryz.func142.trans (congrArg some (by kernel_rfl))
 t0:=Tryz.underlying0
 a0:=Tryz.isAgg0
 z0:=Tryz.sizeOf0
 v0:=Tryz.zeroValue0
 t3:=Tryz.underlying3
 a3:=Tryz.isAgg3
 z3:=Tryz.sizeOf3
 v3:=Tryz.zeroValue3
 t4:=Tryz.underlying4
 a4:=Tryz.isAgg4
 z4:=Tryz.sizeOf4
 v4:=Tryz.zeroValue4
 t9:=Tryz.underlying9
 a9:=Tryz.isAgg9
 z9:=Tryz.sizeOf9
 v9:=Tryz.zeroValue9
 t20:=Tryz.underlying20
 a20:=Tryz.isAgg20
 z20:=Tryz.sizeOf20
 v20:=Tryz.zeroValue20
 t31:=Tryz.underlying35
 a31:=Tryz.isAgg35
 z31:=Tryz.sizeOf35
 v31:=Tryz.zeroValue35
 t37:=Tryz.underlying85
 a37:=Tryz.isAgg85
 z37:=Tryz.sizeOf85
 v37:=Tryz.zeroValue85
 t70:=Tryz.underlying94
 a70:=Tryz.isAgg94
 z70:=Tryz.sizeOf94
 v70:=Tryz.zeroValue94
 t72:=Tryz.underlying96
 a72:=Tryz.isAgg96
 z72:=Tryz.sizeOf96
 v72:=Tryz.zeroValue96
 t75:=Tryz.underlying73
 a75:=Tryz.isAgg73
 z75:=Tryz.sizeOf73
 v75:=Tryz.zeroValue73
 t76:=Tryz.underlying74
 a76:=Tryz.isAgg74
 z76:=Tryz.sizeOf74
 v76:=Tryz.zeroValue74
 t127:=Tryz.underlying118
 a127:=Tryz.isAgg118
 z127:=Tryz.sizeOf118
 v127:=Tryz.zeroValue118
 t164:=Tryz.underlying134
 a164:=Tryz.isAgg134
 z164:=Tryz.sizeOf134
 v164:=Tryz.zeroValue134 }
theorem Tryz.Builder_Extra_156:Builder.Extra Tryz.prog Tryz.lays156_ren:={
 sizeBuilder:=by kernel_rfl
 liesBuilder:=by kernel_rfl
 t5:=Tryz.underlying5
 a5:=Tryz.isAgg5
 z5:=Tryz.sizeOf5
 v5:=Tryz.zeroValue5
 infoByte:=by kernel_rfl
 cellsByte:=by kernel_rfl
 sizeByte:=by kernel_rfl
 neB5:=by decide }
open Go.RowKit in
theorem Tryz.strings_Join_none (a:Option Addr) (c:Nat) (sep:ByteArray) (w:World) :
  Calls Tryz.prog 85 #[.slice a 0 c,.string sep] w fun e w'=>e=.returned (.string ⟨#[]⟩)∧w'=w:=Any.strings_Join_none Tryz.lays156 Tryz.Builder_Extra_156 a c sep w
open Go.RowKit in
theorem Tryz.strings_Join (bk o c:Nat) (xs:List ByteArray) (sep:ByteArray) (w:World) (hcells:∀(j:Nat) x,xs[j]?=some x→w.cell? ⟨bk,o+j,none⟩=some (.string x)) (hbk:bk < w.heap.size) (hN:xs.length≤140737488355328) (hcap:xs.length≤c) (hlen:(Lib.join (xs.map (·.data.toList)) sep.data.toList).length≤140737488355328) :
  Calls Tryz.prog 85 #[.slice (some ⟨bk,o,none⟩) xs.length c,.string sep] w fun e w'=>e=.returned (.string ⟨(Lib.join (xs.map (·.data.toList)) sep.data.toList).toArray⟩)∧Below w.heap.size w w':=Any.strings_Join Tryz.lays156 Tryz.Builder_Extra_156 bk o c xs sep w hcells hbk hN hcap hlen
def Tryz.lays161_ren:Go.Shelf.Ren:=⟨fun|161=>107|231=>124|227=>125|233=>126|235=>127|228=>140|197=>120|151=>141|260=>135|152=>150|137=>153|119=>154|224=>138|225=>137|217=>136|266=>148|n=>n,fun|9=>9|4=>4|3=>3|5=>5|117=>145|116=>144|0=>0|124=>148|105=>138|21=>21|119=>167|46=>128|139=>170|138=>169|n=>n,fun|3=>4|4=>5|n=>n⟩
theorem Tryz.lays161:Go.Proofs.Lays.n161 Tryz.prog Tryz.lays161_ren:={
 mixed:=by kernel_rfl
 f119:=Tryz.func154.trans (congrArg some (by kernel_rfl))
 f137:=Tryz.func153.trans (congrArg some (by kernel_rfl))
 f151:=Tryz.func141.trans (congrArg some (by kernel_rfl))
 f152:=Tryz.func150.trans (congrArg some (by kernel_rfl))
 f161:=Tryz.func107.trans (congrArg some (by kernel_rfl))
 f197:=Tryz.func120.trans (congrArg some (by kernel_rfl))
 f217:=Tryz.func136.trans (congrArg some (by kernel_rfl))
 f224:=Tryz.func138.trans (congrArg some (by kernel_rfl))
 f225:=Tryz.func137.trans (congrArg some (by kernel_rfl))
 f227:=Tryz.func125.trans (congrArg some (by kernel_rfl))
 f228:=Tryz.func140.trans (congrArg some (by kernel_rfl))
 f231:=Tryz.func124.trans (congrArg some (by kernel_rfl))
 f233:=Tryz.func126.trans (congrArg some (by kernel_rfl))
 f235:=Tryz.func127.trans (congrArg some (by kernel_rfl))
 f260:=Tryz.func135.trans (congrArg some (by kernel_rfl))
 f266:=Tryz.func148.trans (congrArg some (by kernel_rfl))
 t0:=Tryz.underlying0
 a0:=Tryz.isAgg0
 z0:=Tryz.sizeOf0
 v0:=Tryz.zeroValue0
 t3:=Tryz.underlying3
 a3:=Tryz.isAgg3
 z3:=Tryz.sizeOf3
 v3:=Tryz.zeroValue3
 t4:=Tryz.underlying4
 a4:=Tryz.isAgg4
 z4:=Tryz.sizeOf4
 v4:=Tryz.zeroValue4
 t5:=Tryz.underlying5
 a5:=Tryz.isAgg5
 z5:=Tryz.sizeOf5
 v5:=Tryz.zeroValue5
 t9:=Tryz.underlying9
 a9:=Tryz.isAgg9
 z9:=Tryz.sizeOf9
 v9:=Tryz.zeroValue9
 t21:=Tryz.underlying21
 a21:=Tryz.isAgg21
 z21:=Tryz.sizeOf21
 v21:=Tryz.zeroValue21
 t46:=Tryz.underlying128
 a46:=Tryz.isAgg128
 z46:=Tryz.sizeOf128
 v46:=Tryz.zeroValue128
 t105:=Tryz.underlying138
 a105:=Tryz.isAgg138
 z105:=Tryz.sizeOf138
 v105:=Tryz.zeroValue138
 t116:=Tryz.underlying144
 a116:=Tryz.isAgg144
 z116:=Tryz.sizeOf144
 t117:=Tryz.underlying145
 a117:=Tryz.isAgg145
 z117:=Tryz.sizeOf145
 v117:=Tryz.zeroValue145
 t119:=Tryz.underlying167
 a119:=Tryz.isAgg167
 z119:=Tryz.sizeOf167
 t124:=Tryz.underlying148
 a124:=Tryz.isAgg148
 z124:=Tryz.sizeOf148
 v124:=Tryz.zeroValue148
 t138:=Tryz.underlying169
 a138:=Tryz.isAgg169
 z138:=Tryz.sizeOf169
 v138:=Tryz.zeroValue169
 t139:=Tryz.underlying170
 a139:=Tryz.isAgg170
 z139:=Tryz.sizeOf170
 v139:=Tryz.zeroValue170
 g3:=by kernel_rfl
 g4:=by kernel_rfl }
open Go.RowKit in
theorem Tryz.strings_TrimLeft_one (s:ByteArray) (c:UInt8) (hc:c.toNat < 128) (w:World) :
  Calls Tryz.prog 107 #[.string s,.string ⟨#[c]⟩] w fun e w'=>e=.returned (.string ⟨(Lib.trimLeftB s.data.toList c).toArray⟩)∧w'=w:=Any.strings_TrimLeft_one Tryz.lays161 s c hc w
def Tryz.lays172_ren:Go.Shelf.Ren:=⟨fun|172=>45|244=>68|245=>69|247=>89|279=>90|280=>91|281=>92|282=>93|287=>109|316=>110|171=>70|205=>111|321=>129|322=>130|243=>94|246=>112|283=>131|284=>132|285=>133|286=>134|129=>144|317=>143|318=>145|319=>146|320=>147|337=>151|338=>152|n=>n,fun|9=>9|3=>3|75=>73|76=>74|4=>4|5=>5|167=>109|37=>85|0=>0|85=>110|2=>2|168=>112|53=>125|175=>126|46=>128|210=>131|127=>118|145=>152|143=>150|21=>21|171=>153|173=>156|212=>162|51=>163|20=>20|213=>164|232=>176|233=>177|80=>101|n=>n,fun|15=>0|16=>1|17=>3|18=>6|19=>7|n=>n⟩
def Tryz.laysM246_ren:Go.Shelf.Ren:=⟨fun|246=>112|283=>131|284=>132|285=>133|286=>134|129=>144|317=>143|318=>145|319=>146|320=>147|337=>151|338=>152|n=>n,fun|2=>2|3=>3|9=>9|4=>4|171=>153|0=>0|53=>125|37=>85|5=>5|173=>156|212=>162|51=>163|20=>20|213=>164|46=>128|232=>176|233=>177|n=>n,fun|17=>3|18=>6|19=>7|n=>n⟩
def Tryz.laysM243_ren:Go.Shelf.Ren:=⟨fun|243=>94|246=>112|283=>131|284=>132|285=>133|286=>134|129=>144|317=>143|318=>145|319=>146|320=>147|337=>151|338=>152|n=>n,fun|3=>3|9=>9|2=>2|4=>4|171=>153|0=>0|53=>125|37=>85|5=>5|173=>156|212=>162|51=>163|20=>20|213=>164|46=>128|232=>176|233=>177|n=>n,fun|17=>3|18=>6|19=>7|n=>n⟩
def Tryz.laysM171_ren:Go.Shelf.Ren:=⟨fun|171=>70|243=>94|246=>112|283=>131|284=>132|285=>133|286=>134|129=>144|317=>143|318=>145|319=>146|320=>147|337=>151|338=>152|n=>n,fun|3=>3|9=>9|2=>2|4=>4|171=>153|0=>0|53=>125|37=>85|5=>5|173=>156|212=>162|51=>163|20=>20|213=>164|46=>128|232=>176|233=>177|n=>n,fun|17=>3|18=>6|19=>7|n=>n⟩
theorem Tryz.laysM171:Go.Proofs.LaysM.n171 Tryz.prog Tryz.laysM171_ren:={
 mixed:=by kernel_rfl
 f129:=Tryz.func144.trans (congrArg some (by kernel_rfl))
 f171:=Tryz.func70.trans (congrArg some (by kernel_rfl))
 f243:=Tryz.func94.trans (congrArg some (by kernel_rfl))
 f246:=Tryz.func112.trans (congrArg some (by kernel_rfl))
 f283:=Tryz.func131.trans (congrArg some (by kernel_rfl))
 f284:=Tryz.func132.trans (congrArg some (by kernel_rfl))
 f285:=Tryz.func133.trans (congrArg some (by kernel_rfl))
 f286:=Tryz.func134.trans (congrArg some (by kernel_rfl))
 f317:=Tryz.func143.trans (congrArg some (by kernel_rfl))
 f318:=Tryz.func145.trans (congrArg some (by kernel_rfl))
 f319:=Tryz.func146.trans (congrArg some (by kernel_rfl))
 f320:=Tryz.func147.trans (congrArg some (by kernel_rfl))
 f337:=Tryz.func151.trans (congrArg some (by kernel_rfl))
 f338:=Tryz.func152.trans (congrArg some (by kernel_rfl))
 t0:=Tryz.underlying0
 a0:=Tryz.isAgg0
 z0:=Tryz.sizeOf0
 v0:=Tryz.zeroValue0
 t2:=Tryz.underlying2
 a2:=Tryz.isAgg2
 z2:=Tryz.sizeOf2
 v2:=Tryz.zeroValue2
 t3:=Tryz.underlying3
 a3:=Tryz.isAgg3
 z3:=Tryz.sizeOf3
 v3:=Tryz.zeroValue3
 t4:=Tryz.underlying4
 a4:=Tryz.isAgg4
 z4:=Tryz.sizeOf4
 v4:=Tryz.zeroValue4
 t5:=Tryz.underlying5
 a5:=Tryz.isAgg5
 z5:=Tryz.sizeOf5
 v5:=Tryz.zeroValue5
 t9:=Tryz.underlying9
 a9:=Tryz.isAgg9
 z9:=Tryz.sizeOf9
 v9:=Tryz.zeroValue9
 t20:=Tryz.underlying20
 a20:=Tryz.isAgg20
 z20:=Tryz.sizeOf20
 v20:=Tryz.zeroValue20
 t37:=Tryz.underlying85
 a37:=Tryz.isAgg85
 z37:=Tryz.sizeOf85
 v37:=Tryz.zeroValue85
 t46:=Tryz.underlying128
 a46:=Tryz.isAgg128
 z46:=Tryz.sizeOf128
 v46:=Tryz.zeroValue128
 t51:=Tryz.underlying163
 a51:=Tryz.isAgg163
 z51:=Tryz.sizeOf163
 v51:=Tryz.zeroValue163
 t53:=Tryz.underlying125
 a53:=Tryz.isAgg125
 z53:=Tryz.sizeOf125
 v53:=Tryz.zeroValue125
 t171:=Tryz.underlying153
 a171:=Tryz.isAgg153
 z171:=Tryz.sizeOf153
 v171:=Tryz.zeroValue153
 t173:=Tryz.underlying156
 a173:=Tryz.isAgg156
 z173:=Tryz.sizeOf156
 v173:=Tryz.zeroValue156
 t212:=Tryz.underlying162
 a212:=Tryz.isAgg162
 z212:=Tryz.sizeOf162
 v212:=Tryz.zeroValue162
 t213:=Tryz.underlying164
 a213:=Tryz.isAgg164
 z213:=Tryz.sizeOf164
 t232:=Tryz.underlying176
 a232:=Tryz.isAgg176
 z232:=Tryz.sizeOf176
 v232:=Tryz.zeroValue176
 t233:=Tryz.underlying177
 a233:=Tryz.isAgg177
 z233:=Tryz.sizeOf177
 v233:=Tryz.zeroValue177
 g17:=by kernel_rfl
 g18:=by kernel_rfl
 g19:=by kernel_rfl
 i0:=by kernel_rfl
 i2:=by kernel_rfl
 i3:=by kernel_rfl
 i4:=by kernel_rfl
 i5:=by kernel_rfl
 i9:=by kernel_rfl
 i20:=by kernel_rfl
 i37:=by kernel_rfl
 i46:=by kernel_rfl
 i51:=by kernel_rfl
 i53:=by kernel_rfl
 i171:=by kernel_rfl
 i173:=by kernel_rfl
 i212:=by kernel_rfl
 i232:=by kernel_rfl
 i233:=by kernel_rfl
 m17:=by kernel_rfl
 m18:=by kernel_rfl
 m19:=by kernel_rfl }
open Go.RowKit Go.Sort Go.Lib in
theorem Tryz.strconv_Itoa (n:Int) (h0:-9223372036854775808≤n) (h1:n≤9223372036854775807) (w:World) (htab:Lib.TabIs Tryz.prog w "internal/strconv.uint64pow10" .u64 Lib.pow10Tab) :
  Calls Tryz.prog 70 #[.int .i64 n] w fun e w'=>e=.returned (.string ⟨(Lib.itoa n).toArray⟩)∧∃k os,w'=grow (w.drewN k) os:=Any.strconv_Itoa Tryz.laysM171 n h0 h1 w htab
def Tryz.laysC172_ren:Go.Shelf.Ren:=⟨fun|172=>45|244=>68|245=>69|247=>89|279=>90|280=>91|281=>92|282=>93|287=>109|316=>110|171=>70|205=>111|321=>129|322=>130|243=>94|246=>112|283=>131|284=>132|285=>133|286=>134|129=>144|317=>143|318=>145|319=>146|320=>147|337=>151|338=>152|n=>n,fun|9=>9|3=>3|75=>73|76=>74|4=>4|5=>5|167=>109|37=>85|0=>0|85=>110|2=>2|168=>112|53=>125|175=>126|46=>128|210=>131|127=>118|145=>152|143=>150|21=>21|171=>153|173=>156|212=>162|51=>163|20=>20|213=>164|232=>176|233=>177|80=>101|n=>n,fun|15=>0|16=>1|17=>3|18=>6|19=>7|n=>n⟩
theorem Tryz.laysC172:Go.Proofs.LaysC.n172 Tryz.prog Tryz.laysC172_ren:={
 mixed:=by kernel_rfl
 f129:=Tryz.func144.trans (congrArg some (by kernel_rfl))
 f171:=Tryz.func70.trans (congrArg some (by kernel_rfl))
 f172:=Tryz.func45.trans (congrArg some (by kernel_rfl))
 f205:=Tryz.func111.trans (congrArg some (by kernel_rfl))
 f243:=Tryz.func94.trans (congrArg some (by kernel_rfl))
 f244:=Tryz.func68.trans (congrArg some (by kernel_rfl))
 f245:=Tryz.func69.trans (congrArg some (by kernel_rfl))
 f246:=Tryz.func112.trans (congrArg some (by kernel_rfl))
 f247:=Tryz.func89.trans (congrArg some (by kernel_rfl))
 f279:=Tryz.func90.trans (congrArg some (by kernel_rfl))
 f280:=Tryz.func91.trans (congrArg some (by kernel_rfl))
 f281:=Tryz.func92.trans (congrArg some (by kernel_rfl))
 f282:=Tryz.func93.trans (congrArg some (by kernel_rfl))
 f283:=Tryz.func131.trans (congrArg some (by kernel_rfl))
 f284:=Tryz.func132.trans (congrArg some (by kernel_rfl))
 f285:=Tryz.func133.trans (congrArg some (by kernel_rfl))
 f286:=Tryz.func134.trans (congrArg some (by kernel_rfl))
 f287:=Tryz.func109.trans (congrArg some (by kernel_rfl))
 f316:=Tryz.func110.trans (congrArg some (by kernel_rfl))
 f317:=Tryz.func143.trans (congrArg some (by kernel_rfl))
 f318:=Tryz.func145.trans (congrArg some (by kernel_rfl))
 f319:=Tryz.func146.trans (congrArg some (by kernel_rfl))
 f320:=Tryz.func147.trans (congrArg some (by kernel_rfl))
 f321:=Tryz.func129.trans (congrArg some (by kernel_rfl))
 f322:=Tryz.func130.trans (congrArg some (by kernel_rfl))
 f337:=Tryz.func151.trans (congrArg some (by kernel_rfl))
 f338:=Tryz.func152.trans (congrArg some (by kernel_rfl))
 t0:=Tryz.underlying0
 a0:=Tryz.isAgg0
 z0:=Tryz.sizeOf0
 v0:=Tryz.zeroValue0
 t2:=Tryz.underlying2
 a2:=Tryz.isAgg2
 z2:=Tryz.sizeOf2
 v2:=Tryz.zeroValue2
 t3:=Tryz.underlying3
 a3:=Tryz.isAgg3
 z3:=Tryz.sizeOf3
 v3:=Tryz.zeroValue3
 t4:=Tryz.underlying4
 a4:=Tryz.isAgg4
 z4:=Tryz.sizeOf4
 v4:=Tryz.zeroValue4
 t5:=Tryz.underlying5
 a5:=Tryz.isAgg5
 z5:=Tryz.sizeOf5
 v5:=Tryz.zeroValue5
 t9:=Tryz.underlying9
 a9:=Tryz.isAgg9
 z9:=Tryz.sizeOf9
 v9:=Tryz.zeroValue9
 t20:=Tryz.underlying20
 a20:=Tryz.isAgg20
 z20:=Tryz.sizeOf20
 v20:=Tryz.zeroValue20
 t21:=Tryz.underlying21
 a21:=Tryz.isAgg21
 z21:=Tryz.sizeOf21
 v21:=Tryz.zeroValue21
 t37:=Tryz.underlying85
 a37:=Tryz.isAgg85
 z37:=Tryz.sizeOf85
 v37:=Tryz.zeroValue85
 t46:=Tryz.underlying128
 a46:=Tryz.isAgg128
 z46:=Tryz.sizeOf128
 v46:=Tryz.zeroValue128
 t51:=Tryz.underlying163
 a51:=Tryz.isAgg163
 z51:=Tryz.sizeOf163
 v51:=Tryz.zeroValue163
 t53:=Tryz.underlying125
 a53:=Tryz.isAgg125
 z53:=Tryz.sizeOf125
 v53:=Tryz.zeroValue125
 t75:=Tryz.underlying73
 a75:=Tryz.isAgg73
 z75:=Tryz.sizeOf73
 v75:=Tryz.zeroValue73
 t76:=Tryz.underlying74
 a76:=Tryz.isAgg74
 z76:=Tryz.sizeOf74
 v76:=Tryz.zeroValue74
 t85:=Tryz.underlying110
 a85:=Tryz.isAgg110
 z85:=Tryz.sizeOf110
 v85:=Tryz.zeroValue110
 t127:=Tryz.underlying118
 a127:=Tryz.isAgg118
 z127:=Tryz.sizeOf118
 v127:=Tryz.zeroValue118
 t143:=Tryz.underlying150
 a143:=Tryz.isAgg150
 z143:=Tryz.sizeOf150
 v143:=Tryz.zeroValue150
 t145:=Tryz.underlying152
 a145:=Tryz.isAgg152
 z145:=Tryz.sizeOf152
 v145:=Tryz.zeroValue152
 t167:=Tryz.underlying109
 a167:=Tryz.isAgg109
 z167:=Tryz.sizeOf109
 v167:=Tryz.zeroValue109
 t168:=Tryz.underlying112
 a168:=Tryz.isAgg112
 z168:=Tryz.sizeOf112
 v168:=Tryz.zeroValue112
 t171:=Tryz.underlying153
 a171:=Tryz.isAgg153
 z171:=Tryz.sizeOf153
 v171:=Tryz.zeroValue153
 t173:=Tryz.underlying156
 a173:=Tryz.isAgg156
 z173:=Tryz.sizeOf156
 v173:=Tryz.zeroValue156
 t175:=Tryz.underlying126
 a175:=Tryz.isAgg126
 z175:=Tryz.sizeOf126
 v175:=Tryz.zeroValue126
 t210:=Tryz.underlying131
 a210:=Tryz.isAgg131
 z210:=Tryz.sizeOf131
 v210:=Tryz.zeroValue131
 t212:=Tryz.underlying162
 a212:=Tryz.isAgg162
 z212:=Tryz.sizeOf162
 v212:=Tryz.zeroValue162
 t213:=Tryz.underlying164
 a213:=Tryz.isAgg164
 z213:=Tryz.sizeOf164
 t232:=Tryz.underlying176
 a232:=Tryz.isAgg176
 z232:=Tryz.sizeOf176
 v232:=Tryz.zeroValue176
 t233:=Tryz.underlying177
 a233:=Tryz.isAgg177
 z233:=Tryz.sizeOf177
 v233:=Tryz.zeroValue177
 g15:=by kernel_rfl
 g16:=by kernel_rfl
 g17:=by kernel_rfl
 g18:=by kernel_rfl
 g19:=by kernel_rfl
 t80:=Tryz.underlying101
 a80:=Tryz.isAgg101
 z80:=Tryz.sizeOf101
 v80:=Tryz.zeroValue101
 i0:=by kernel_rfl
 i2:=by kernel_rfl
 i3:=by kernel_rfl
 i4:=by kernel_rfl
 i5:=by kernel_rfl
 i9:=by kernel_rfl
 i20:=by kernel_rfl
 i21:=by kernel_rfl
 i37:=by kernel_rfl
 i46:=by kernel_rfl
 i51:=by kernel_rfl
 i53:=by kernel_rfl
 i75:=by kernel_rfl
 i76:=by kernel_rfl
 i80:=by kernel_rfl
 i85:=by kernel_rfl
 i127:=by kernel_rfl
 i143:=by kernel_rfl
 i145:=by kernel_rfl
 i167:=by kernel_rfl
 i168:=by kernel_rfl
 i171:=by kernel_rfl
 i173:=by kernel_rfl
 i175:=by kernel_rfl
 i210:=by kernel_rfl
 i212:=by kernel_rfl
 i232:=by kernel_rfl
 i233:=by kernel_rfl
 m15:=by kernel_rfl
 m16:=by kernel_rfl
 m17:=by kernel_rfl
 m18:=by kernel_rfl
 m19:=by kernel_rfl
 c0:=by kernel_rfl
 c2:=by kernel_rfl
 c3:=by kernel_rfl
 c4:=by kernel_rfl
 c5:=by kernel_rfl
 c9:=by kernel_rfl
 c20:=by kernel_rfl
 c21:=by kernel_rfl
 c37:=by kernel_rfl
 c46:=by kernel_rfl
 c51:=by kernel_rfl
 c53:=by kernel_rfl
 c75:=by kernel_rfl
 c76:=by kernel_rfl
 c80:=by kernel_rfl
 c85:=by kernel_rfl
 c127:=by kernel_rfl
 c143:=by kernel_rfl
 c145:=by kernel_rfl
 c167:=by kernel_rfl
 c168:=by kernel_rfl
 c171:=by kernel_rfl
 c173:=by kernel_rfl
 c175:=by kernel_rfl
 c210:=by kernel_rfl
 c212:=by kernel_rfl
 c213:=by kernel_rfl
 c232:=by kernel_rfl
 c233:=by kernel_rfl }
open Go.RowKit in
theorem Tryz.strconv_Atoi_ok (s:ByteArray) (hmax:s.size≤9223372036854775806) (v:Int) (h:Lib.atoiAll s.data.toList=.ok v) (w:World) :
  Calls Tryz.prog 45 #[.string s] w fun e w'=>e=.returned (.tuple #[.int .i64 v,.nilIface])∧(w'=w∨∃t,w'=Lib.bytesWorld w 5 t):=Any.strconv_Atoi_ok Tryz.laysC172 s hmax v h w
open Go.RowKit in
theorem Tryz.strconv_Atoi_range_var (s:ByteArray) (hlim:s.size≤281474976710656) (h:Lib.atoiAll s.data.toList=.range) (tp:TypeId) (p:Value) (w:World) (hvar:w.var? Tryz.prog "strconv.ErrRange"=some #[.iface tp p]) :
  Calls Tryz.prog 45 #[.string s] w fun e w'=>∃N,e=.returned (.tuple #[.int .i64 (Lib.atoiSat s.data.toList),.iface 112 (.pointer (some ⟨N,0,none⟩))])∧w.heap.size≤N∧w'.heap[N]?=some (.cells #[.string ⟨#[65,116,111,105]⟩,.string s,.iface tp p] 131 (0,0))∧Below w.heap.size w w':=Any.strconv_Atoi_range_var Tryz.laysC172 s hlim h tp p w hvar
def Tryz.lays219_ren:Go.Shelf.Ren:=⟨fun|219=>122|217=>136|225=>137|224=>138|267=>139|266=>148|314=>149|n=>n,fun|9=>9|3=>3|4=>4|5=>5|46=>128|146=>171|51=>163|n=>n,fun|1=>2|n=>n⟩
def Tryz.lays145_ren:Go.Shelf.Ren:=⟨fun|145=>99|220=>117|219=>122|217=>136|225=>137|224=>138|267=>139|266=>148|314=>149|n=>n,fun|9=>9|4=>4|59=>115|3=>3|5=>5|46=>128|146=>171|51=>163|n=>n,fun|1=>2|n=>n⟩
theorem Tryz.lays145:Go.Proofs.Lays.n145 Tryz.prog Tryz.lays145_ren:={
 mixed:=by kernel_rfl
 f145:=Tryz.func99.trans (congrArg some (by kernel_rfl))
 f217:=Tryz.func136.trans (congrArg some (by kernel_rfl))
 f219:=Tryz.func122.trans (congrArg some (by kernel_rfl))
 f220:=Tryz.func117.trans (congrArg some (by kernel_rfl))
 f224:=Tryz.func138.trans (congrArg some (by kernel_rfl))
 f225:=Tryz.func137.trans (congrArg some (by kernel_rfl))
 f266:=Tryz.func148.trans (congrArg some (by kernel_rfl))
 f267:=Tryz.func139.trans (congrArg some (by kernel_rfl))
 f314:=Tryz.func149.trans (congrArg some (by kernel_rfl))
 t3:=Tryz.underlying3
 a3:=Tryz.isAgg3
 z3:=Tryz.sizeOf3
 v3:=Tryz.zeroValue3
 t4:=Tryz.underlying4
 a4:=Tryz.isAgg4
 z4:=Tryz.sizeOf4
 v4:=Tryz.zeroValue4
 t5:=Tryz.underlying5
 a5:=Tryz.isAgg5
 z5:=Tryz.sizeOf5
 v5:=Tryz.zeroValue5
 t9:=Tryz.underlying9
 a9:=Tryz.isAgg9
 z9:=Tryz.sizeOf9
 v9:=Tryz.zeroValue9
 t46:=Tryz.underlying128
 a46:=Tryz.isAgg128
 z46:=Tryz.sizeOf128
 v46:=Tryz.zeroValue128
 t51:=Tryz.underlying163
 a51:=Tryz.isAgg163
 z51:=Tryz.sizeOf163
 v51:=Tryz.zeroValue163
 t59:=Tryz.underlying115
 a59:=Tryz.isAgg115
 z59:=Tryz.sizeOf115
 v59:=Tryz.zeroValue115
 t146:=Tryz.underlying171
 a146:=Tryz.isAgg171
 z146:=Tryz.sizeOf171
 v146:=Tryz.zeroValue171
 g1:=by kernel_rfl }
open Go.RowKit Go.Lib in
theorem Tryz.strings_Cut (s sep:ByteArray) (m:Int) (w:World) (hs:s.size < 4294967281) (hm:w.cell? ⟨2,0,none⟩=some (.int .i64 m)) :
  Calls Tryz.prog 99 #[.string s,.string sep] w fun e w'=>e=.returned (.tuple #[.string ⟨(Lib.cut s.data.toList sep.data.toList).1.toArray⟩,.string ⟨(Lib.cut s.data.toList sep.data.toList).2.1.toArray⟩,.bool (Lib.cut s.data.toList sep.data.toList).2.2])∧∃n,w'=w.drewN n:=Any.strings_Cut Tryz.lays145 s sep m w hs hm
def Tryz.lays206_ren:Go.Shelf.Ren:=⟨fun|206=>58|n=>n,fun|9=>9|4=>4|3=>3|n=>n,fun|n=>n⟩
def Tryz.lays99_ren:Go.Shelf.Ren:=⟨fun|99=>37|206=>58|n=>n,fun|9=>9|4=>4|3=>3|n=>n,fun|n=>n⟩
theorem Tryz.lays99:Go.Proofs.Lays.n99 Tryz.prog Tryz.lays99_ren:={
 mixed:=by kernel_rfl
 f99:=Tryz.func37.trans (congrArg some (by kernel_rfl))
 f206:=Tryz.func58.trans (congrArg some (by kernel_rfl))
 t3:=Tryz.underlying3
 a3:=Tryz.isAgg3
 z3:=Tryz.sizeOf3
 v3:=Tryz.zeroValue3
 t4:=Tryz.underlying4
 a4:=Tryz.isAgg4
 z4:=Tryz.sizeOf4
 v4:=Tryz.zeroValue4
 t9:=Tryz.underlying9
 a9:=Tryz.isAgg9
 z9:=Tryz.sizeOf9
 v9:=Tryz.zeroValue9 }
open Go.RowKit Go.Lib in
theorem Tryz.strings_HasPrefix (s p:ByteArray) (w:World) :
  Calls Tryz.prog 37 #[.string s,.string p] w fun e w'=>e=.returned (.bool (Lib.hasPrefix s.data.toList p.data.toList))∧w'=w:=Any.strings_HasPrefix Tryz.lays99 s p w
def Tryz.lays101_ren:Go.Shelf.Ren:=⟨fun|101=>44|208=>67|206=>58|n=>n,fun|9=>9|4=>4|3=>3|n=>n,fun|n=>n⟩
theorem Tryz.lays101:Go.Proofs.Lays.n101 Tryz.prog Tryz.lays101_ren:={
 mixed:=by kernel_rfl
 f101:=Tryz.func44.trans (congrArg some (by kernel_rfl))
 f206:=Tryz.func58.trans (congrArg some (by kernel_rfl))
 f208:=Tryz.func67.trans (congrArg some (by kernel_rfl))
 t3:=Tryz.underlying3
 a3:=Tryz.isAgg3
 z3:=Tryz.sizeOf3
 v3:=Tryz.zeroValue3
 t4:=Tryz.underlying4
 a4:=Tryz.isAgg4
 z4:=Tryz.sizeOf4
 v4:=Tryz.zeroValue4
 t9:=Tryz.underlying9
 a9:=Tryz.isAgg9
 z9:=Tryz.sizeOf9
 v9:=Tryz.zeroValue9 }
open Go.RowKit Go.Lib in
theorem Tryz.strings_TrimPrefix (s p:ByteArray) (w:World) :
  Calls Tryz.prog 44 #[.string s,.string p] w fun e w'=>e=.returned (.string ⟨(Lib.trimPrefix s.data.toList p.data.toList).toArray⟩)∧w'=w:=Any.strings_TrimPrefix Tryz.lays101 s p w
def Tryz.lays102_ren:Go.Shelf.Ren:=⟨fun|102=>43|209=>66|207=>88|n=>n,fun|9=>9|4=>4|3=>3|n=>n,fun|n=>n⟩
theorem Tryz.lays102:Go.Proofs.Lays.n102 Tryz.prog Tryz.lays102_ren:={
 mixed:=by kernel_rfl
 f102:=Tryz.func43.trans (congrArg some (by kernel_rfl))
 f207:=Tryz.func88.trans (congrArg some (by kernel_rfl))
 f209:=Tryz.func66.trans (congrArg some (by kernel_rfl))
 t3:=Tryz.underlying3
 a3:=Tryz.isAgg3
 z3:=Tryz.sizeOf3
 v3:=Tryz.zeroValue3
 t4:=Tryz.underlying4
 a4:=Tryz.isAgg4
 z4:=Tryz.sizeOf4
 v4:=Tryz.zeroValue4
 t9:=Tryz.underlying9
 a9:=Tryz.isAgg9
 z9:=Tryz.sizeOf9
 v9:=Tryz.zeroValue9 }
open Go.RowKit Go.Lib in
theorem Tryz.strings_TrimSuffix (s p:ByteArray) (w:World) (hs:s.size≤9223372036854775807) :
  Calls Tryz.prog 43 #[.string s,.string p] w fun e w'=>e=.returned (.string ⟨(Lib.trimSuffix s.data.toList p.data.toList).toArray⟩)∧w'=w:=Any.strings_TrimSuffix Tryz.lays102 s p w hs
def Tryz.lays221_ren:Go.Shelf.Ren:=⟨fun|221=>81|268=>102|138=>103|143=>104|195=>119|197=>120|218=>121|219=>122|260=>135|217=>136|225=>137|224=>138|267=>139|266=>148|314=>149|n=>n,fun|9=>9|3=>3|31=>35|4=>4|0=>0|105=>138|21=>21|5=>5|46=>128|119=>167|139=>170|138=>169|146=>171|51=>163|n=>n,fun|1=>2|3=>4|4=>5|n=>n⟩
def Tryz.lays146_ren:Go.Shelf.Ren:=⟨fun|146=>62|221=>81|268=>102|138=>103|143=>104|195=>119|197=>120|218=>121|219=>122|260=>135|217=>136|225=>137|224=>138|267=>139|266=>148|314=>149|n=>n,fun|9=>9|31=>35|3=>3|4=>4|0=>0|105=>138|21=>21|5=>5|46=>128|119=>167|139=>170|138=>169|146=>171|51=>163|n=>n,fun|1=>2|3=>4|4=>5|n=>n⟩
theorem Tryz.lays146:Go.Proofs.Lays.n146 Tryz.prog Tryz.lays146_ren:={
 mixed:=by kernel_rfl
 f138:=Tryz.func103.trans (congrArg some (by kernel_rfl))
 f143:=Tryz.func104.trans (congrArg some (by kernel_rfl))
 f146:=Tryz.func62.trans (congrArg some (by kernel_rfl))
 f195:=Tryz.func119.trans (congrArg some (by kernel_rfl))
 f197:=Tryz.func120.trans (congrArg some (by kernel_rfl))
 f217:=Tryz.func136.trans (congrArg some (by kernel_rfl))
 f218:=Tryz.func121.trans (congrArg some (by kernel_rfl))
 f219:=Tryz.func122.trans (congrArg some (by kernel_rfl))
 f221:=Tryz.func81.trans (congrArg some (by kernel_rfl))
 f224:=Tryz.func138.trans (congrArg some (by kernel_rfl))
 f225:=Tryz.func137.trans (congrArg some (by kernel_rfl))
 f260:=Tryz.func135.trans (congrArg some (by kernel_rfl))
 f266:=Tryz.func148.trans (congrArg some (by kernel_rfl))
 f267:=Tryz.func139.trans (congrArg some (by kernel_rfl))
 f268:=Tryz.func102.trans (congrArg some (by kernel_rfl))
 f314:=Tryz.func149.trans (congrArg some (by kernel_rfl))
 t0:=Tryz.underlying0
 a0:=Tryz.isAgg0
 z0:=Tryz.sizeOf0
 v0:=Tryz.zeroValue0
 t3:=Tryz.underlying3
 a3:=Tryz.isAgg3
 z3:=Tryz.sizeOf3
 v3:=Tryz.zeroValue3
 t4:=Tryz.underlying4
 a4:=Tryz.isAgg4
 z4:=Tryz.sizeOf4
 v4:=Tryz.zeroValue4
 t5:=Tryz.underlying5
 a5:=Tryz.isAgg5
 z5:=Tryz.sizeOf5
 v5:=Tryz.zeroValue5
 t9:=Tryz.underlying9
 a9:=Tryz.isAgg9
 z9:=Tryz.sizeOf9
 v9:=Tryz.zeroValue9
 t21:=Tryz.underlying21
 a21:=Tryz.isAgg21
 z21:=Tryz.sizeOf21
 v21:=Tryz.zeroValue21
 t31:=Tryz.underlying35
 a31:=Tryz.isAgg35
 z31:=Tryz.sizeOf35
 v31:=Tryz.zeroValue35
 t46:=Tryz.underlying128
 a46:=Tryz.isAgg128
 z46:=Tryz.sizeOf128
 v46:=Tryz.zeroValue128
 t51:=Tryz.underlying163
 a51:=Tryz.isAgg163
 z51:=Tryz.sizeOf163
 v51:=Tryz.zeroValue163
 t105:=Tryz.underlying138
 a105:=Tryz.isAgg138
 z105:=Tryz.sizeOf138
 v105:=Tryz.zeroValue138
 t119:=Tryz.underlying167
 a119:=Tryz.isAgg167
 z119:=Tryz.sizeOf167
 t138:=Tryz.underlying169
 a138:=Tryz.isAgg169
 z138:=Tryz.sizeOf169
 v138:=Tryz.zeroValue169
 t139:=Tryz.underlying170
 a139:=Tryz.isAgg170
 z139:=Tryz.sizeOf170
 v139:=Tryz.zeroValue170
 t146:=Tryz.underlying171
 a146:=Tryz.isAgg171
 z146:=Tryz.sizeOf171
 v146:=Tryz.zeroValue171
 g1:=by kernel_rfl
 g3:=by kernel_rfl
 g4:=by kernel_rfl }
open Go.RowKit Go.Lib in
theorem Tryz.strings_Split (s sep:ByteArray) (m:Int) (w:World) (hs:s.size < 4294967281) (hm:w.cell? ⟨2,0,none⟩=some (.int .i64 m)) (h1:1≤sep.size) :
  Calls Tryz.prog 62 #[.string s,.string sep] w fun e w'=>
   e=.returned (.slice (some ⟨w.heap.size,0,none⟩) (Lib.countB s sep+1) (Lib.countB s sep+1))∧w'=w.alloc (.cells ((Lib.splitB sep 0 (Lib.countB s sep) s).map Value.string).toArray 9):=Any.strings_Split Tryz.lays146 (by kernel_rfl) s sep m w hs hm h1
end Go.Proofs
namespace Go.Proofs.YtbljkpbaceiaiaaGreatDoor
open Go.RowKit
structure Env (w:World):Prop where
 max:∃m,w.cell? ⟨2,0,none⟩=some (.int .i64 m)
 pow:Lib.TabIs Tryz.prog w "internal/strconv.uint64pow10" .u64 Lib.pow10Tab
 syn:∃tp p,w.var? Tryz.prog "strconv.ErrSyntax"=some #[.iface tp p]
 rng:∃tp p,w.var? Tryz.prog "strconv.ErrRange"=some #[.iface tp p]
theorem var_bel {P:Program} {w w':World} {n:String} {cs:Array Value} (h:Below w.heap.size w w') (hv:w.var? P n=some cs):w'.var? P n=some cs:=by
 unfold World.var? at hv ⊢
 cases hg:P.globalNamed n with
 | none=>rw [hg] at hv;exact hv
 | some g=>
  rw [hg] at hv
  simp only [Option.bind_some] at hv ⊢
  have hlt:g < w.heap.size:=by
   rcases Nat.lt_or_ge g w.heap.size with hh|hh
   ·exact hh
   ·rw [Array.getElem?_eq_none hh] at hv;cases hv
  rw [h.block g hlt];exact hv
theorem Env.below {w w':World} (E:Env w) (h:Below w.heap.size w w'):Env w':=by
 obtain ⟨⟨m,hm⟩,hp,⟨t1,p1,h1⟩,⟨t2,p2,h2⟩⟩:=E
 exact ⟨⟨m,by rw [h.cell (World.block_lt_of_cell? _ _ hm)];exact hm⟩,var_bel h hp,⟨t1,p1,var_bel h h1⟩,⟨t2,p2,var_bel h h2⟩⟩
theorem Env.alloc {w:World} (E:Env w) (o:Obj):Env (w.alloc o):=E.below ((Below.refl _ w).alloc (Nat.le_refl _) _)
theorem decF_dd:∀(n f:Nat) (l:List Nat),n < f→decF f n l=(Lib.decDigits n).map UInt8.toNat++l:=by
 intro n
 induction n using Nat.strongRecOn with
 | _ n ih=>
  intro f l hf
  obtain ⟨g,rfl⟩:∃g,f=g+1:=⟨f - 1,by omega⟩
  simp only [decF]
  rw [Lib.decDigits]
  by_cases h:n < 10
  ·rw [if_pos h,dif_pos h]
   simp only [List.map_cons,List.map_nil,List.cons_append,List.nil_append,UInt8.toNat_ofNat']
   rw [Nat.mod_eq_of_lt (by omega)]
  ·rw [if_neg h,dif_neg h,ih (n / 10) (by omega) g _ (by omega)]
   simp only [List.map_append,List.map_cons,List.map_nil,List.append_assoc,List.cons_append,List.nil_append,UInt8.toNat_ofNat']
   rw [Nat.mod_eq_of_lt (show 48+n % 10 < 2 ^ 8 by omega)]
theorem bel_boxed {w w1:World} {o:Obj} (h:Below (w.alloc o).heap.size (w.alloc o) w1):Below w.heap.size w w1:=((Below.refl _ w).alloc (Nat.le_refl _) o).trans (h.mono (by simp))
theorem bel_box (w:World) (o:Obj):Below w.heap.size w (w.alloc o):=(Below.refl _ w).alloc (Nat.le_refl _) o
theorem bel_2 {w V W:World} (h:Below w.heap.size w V) (h2:Below V.heap.size V W):Below w.heap.size w W:=h.trans (h2.mono h.size)
def atoiV (s:ByteArray):Int:=match Lib.atoiAll s.data.toList with|.ok v=>v|.range=>Lib.atoiSat s.data.toList|_=>0
theorem atoi_any (s:ByteArray) (w:World) (hs:s.size≤65536) (E:Env w):Calls Tryz.prog 45 #[.string s] w fun e w'=>(∃ev,e=.returned (.tuple #[.int .i64 (atoiV s),ev]))∧Below w.heap.size w w':=by
 unfold atoiV
 cases h:Lib.atoiAll s.data.toList
 ·rename_i v
  refine (Tryz.strconv_Atoi_ok s (by omega) v h w).mono ?_
  rintro e w' ⟨rfl,hw⟩
  refine ⟨⟨_,rfl⟩,?_⟩
  rcases hw with rfl|⟨t,rfl⟩
  ·exact Below.refl _ _
  ·exact Lib.bytesWorld_below _ _ _
 ·obtain ⟨tp,p,hv⟩:=E.syn
  refine (Any.strconv_Atoi_syntax_var Tryz.laysC172 s (by omega) h tp p w hv).mono ?_
  rintro e w' ⟨N,rfl,_,_,hb⟩
  exact ⟨⟨_,rfl⟩,hb⟩
 ·obtain ⟨tp,p,hv⟩:=E.rng
  refine (Tryz.strconv_Atoi_range_var s (by omega) h tp p w hv).mono ?_
  rintro e w' ⟨N,rfl,_,_,hb⟩
  exact ⟨⟨_,rfl⟩,hb⟩
theorem numF_dec:∀(f n:Nat) (l:List Nat),n < f→(decF f n l).foldl (fun n c=>10*n+(c - 48)) 0=l.foldl (fun n c=>10*n+(c - 48)) n
 | 0,_,_,h=>by omega
 | f+1,n,l,h=>by
  simp only [decF]
  split
  ·simp only [List.foldl_cons];congr 1;omega
  ·rw [numF_dec f (n / 10) _ (by omega)]
   simp only [List.foldl_cons];congr 1;omega
theorem numV_dec (n:Nat):numV (decL n)=n:=by unfold numV decL;rw [numF_dec _ _ _ (by omega)];rfl
theorem keep_cell {w w1:World} (h:Below w.heap.size w w1) {b o:Nat} {v:Value} (hc:w.cell? ⟨b,o,none⟩=some v):w1.cell? ⟨b,o,none⟩=some v:=by
 rw [h.cell (World.block_lt_of_cell? _ _ hc)];exact hc
theorem keep_fr {w w1:World} (h:Below w.heap.size w w1) {b o:Nat} (hb:b < w.heap.size) (hf:w.frozen? ⟨b,o,none⟩=false):w1.frozen? ⟨b,o,none⟩=false:=(h.frozen (p:=⟨b,o,none⟩) hb).trans hf
section
variable {α:Type} {E:Rd α} {sz:Nat}
theorem Grow.empty (T:Nat→Prop) {W:World} {base b:Nat} {e:TypeId} (hb:W.heap[b]?=some (.cells #[] e (0,0))) (hbase:base≤b):Grow E sz T W base e (.slice (some ⟨b,0,none⟩) 0 0) []:=
 ⟨[],rfl,⟨by simp,.inr ⟨b,0,#[],rfl,hbase,hb,Nat.le_refl _,Nat.zero_le _,by simp,by simp⟩⟩,fun k hk=>absurd hk (by simp)⟩
theorem wp_growN {P:Program} {o:Oper} {a:Act} {K:Act→World→Prop} {Q:Exit→Act→World→Prop} (W:World) (s x:Operand) (t t':TypeId)
  (ho:o.op=.call { callee:=.builtin .append,args:=#[s,x],argTypes:=#[t,t'] }) (g:Good E sz) (hsz:0 < sz) (T:Nat→Prop) (base:Nat) (e e':TypeId) (i:TypeInfo) (z:Value) (bytes:Nat)
  (ht:P.underlying t=some (.slice e)) (ht':P.underlying t'=some (.slice e')) (hi:P.info? e=some i) (hz:i.zero=some z) (hsize:i.size=sz) (hby:i.bytes=bytes) (hzs:z.cells.size=sz)
  (v:Value) (l:List α) (hs:a.eval s=v) (hG:Grow E sz T W base e v l) (m:List α) (S:Nat→Prop) (A:Option Addr) (n c:Nat) (hx:a.eval x=.slice A n c) (hX:rdRow sz E W S m [.slice A n c]) (hS:∀b,S b→T b∧b < W.heap.size∧v.ownBlock≠some b)
  (hn:l.length+m.length≤maxLen) (hb2:(l.length+m.length)*bytes≤140737488355328) (hbase:base≤W.heap.size)
  (h:∀v' w',Grow E sz T w' base e v' (l++m)→W.grownBy w' v.ownBlock→(v'.ownBlock=v.ownBlock∨∃b,v'.ownBlock=some b∧W.heap.size≤b)→K (a.put o.dst v') w'):Oper.wp P o a W K Q:=by
 obtain ⟨v',w',hr,h2,h3,h4⟩:=run_growN (P:=P) W t t' o.type g hsz T base e e' i z bytes ht ht' hi hz hsize hby hzs v l hG m S A n c hX hS hn hb2 hbase
 unfold Oper.wp execOp
 simp only [ho,resolve,invoke,builtin,Sem.run_bind,Sem.run_pure,Result.andThen_ok,List.map_toArray,List.map_cons,List.map_nil,hs,hx,hr]
 exact h v' w' h2 h3 h4
theorem step_growN {P:Program} {ops:Array Oper} {o:Oper} {a:Act} {K:Act→World→Prop} {Q:Exit→Act→World→Prop} {F:Prop} (W:World) (hgd:o.guard=none) (s x:Operand) (t t':TypeId)
  (ho:o.op=.call { callee:=.builtin .append,args:=#[s,x],argTypes:=#[t,t'] }) (g:Good E sz) (hsz:0 < sz) (T:Nat→Prop) (base:Nat) (e e':TypeId) (i:TypeInfo) (z:Value) (bytes:Nat)
  (ht:P.underlying t=some (.slice e)) (ht':P.underlying t'=some (.slice e')) (hi:P.info? e=some i) (hz:i.zero=some z) (hsize:i.size=sz) (hby:i.bytes=bytes) (hzs:z.cells.size=sz)
  (v:Value) (l:List α) (hs:a.eval s=v) (hG:Grow E sz T W base e v l) (m:List α) (S:Nat→Prop) (A:Option Addr) (n c:Nat) (hx:a.eval x=.slice A n c) (hX:rdRow sz E W S m [.slice A n c]) (hS:∀b,S b→T b∧b < W.heap.size∧v.ownBlock≠some b)
  (hn:l.length+m.length≤maxLen) (hb2:(l.length+m.length)*bytes≤140737488355328) (hbase:base≤W.heap.size)
  (h:∀v' w',Grow E sz T w' base e v' (l++m)→W.grownBy w' v.ownBlock→(v'.ownBlock=v.ownBlock∨∃b,v'.ownBlock=some b∧W.heap.size≤b)→K (a.put o.dst v') w') :
  if Region.wanted o (yielded ops a.tmps)=true then Oper.wp P o a W K Q else F:=by
 have hw:Region.wanted o (yielded ops a.tmps)=true:=by simp [Region.wanted,hgd]
 rw [if_pos hw]
 exact wp_growN W s x t t' ho g hsz T base e e' i z bytes ht ht' hi hz hsize hby hzs v l hs hG m S A n c hx hX hS hn hb2 hbase h
end
section
variable {α β:Type} {E:Rd α} {F:Rd β} {sz tz:Nat}
def Moved (W:World) (v v':Value):Prop:=v'.ownBlock=v.ownBlock∨∃b,v'.ownBlock=some b∧W.heap.size≤b
theorem wpList_grow1_at {P:Program} {ops:Array Oper} {rest:List Oper} {o:Oper} {a:Act} {Q:Exit→Act→World→Prop} (W:World) (hgd:o.guard=none) (s x:Operand) (t:TypeId)
  (ho:o.op=.call { callee:=.builtin .append,args:=#[s,x],argTypes:=#[t,t] })
  (g:Good E sz) (hsz:0 < sz) (T:Nat→Prop) (base:Nat) (e:TypeId) (i:TypeInfo) (z:Value) (bytes:Nat) (ht:P.underlying t=some (.slice e)) (hi:P.info? e=some i) (hz:i.zero=some z)
  (hsize:i.size=sz) (hby:i.bytes=bytes) (hzs:z.cells.size=sz)
  (v:Value) (l:List α) (hs:a.eval s=v) (hG:Grow E sz T W base e v l) (y:α) (blk:Array Value) (te:TypeId)
  (hE:E W (fun b=>T b∧b < W.heap.size∧v.ownBlock≠some b) y blk.toList) (N:Nat) (hN:N=W.heap.size) (hx:a.eval x=.slice (some ⟨N,0,none⟩) 1 1)
  (hn:l.length+1≤maxLen) (hb2:(l.length+1)*bytes≤140737488355328) (hbase:base≤W.heap.size)
  (h:∀v' w',Grow E sz T w' base e v' (l++[y])→W.grownBy w' v.ownBlock→Moved W v v'→wpList P ops Q rest (a.put o.dst v') w') :
  wpList P ops Q (o::rest) a (W.alloc (.cells blk te)):=by
 subst hN
 obtain ⟨css,hl,hown,hEs⟩:=hG
 refine wpList_append_own_at _ hgd s x t ho base e i z sz bytes ht hi hz hsize hby hzs hsz v l.length css.flatten hs (hown.alloc _) ⟨W.heap.size,0,none⟩ 1 1 blk.toList hx (by rw [g.len hE];simp) (cells_new W blk te) (g.one hE) hn hb2 (by simp;omega) ?_
 intro v' w' hown' hgrow _ hat
 have hg2:W.grownBy w' v.ownBlock:=by
  refine ⟨hgrow.os,hgrow.tape,hgrow.output,?_,fun k hk hne=>?_⟩
  ·have:=hgrow.size;simp at this;omega
  ·rw [hgrow.block k (by simp;omega) hne]
   exact Below.heap_alloc W _ k hk
 have hat':Moved W v v':=by
  rcases hat with h1|h1
  ·exact .inl h1
  ·exact .inr ⟨_,h1,by simp⟩
 refine h v' w' ?_ hg2 hat'
 refine Grow.step g hl hEs (m:=[y]) (ess:=[blk.toList]) rfl (fun k hk=>?_) (by simpa using hown') hg2 hat'
 simp only [List.length_singleton] at hk
 obtain rfl:k=0:=by omega
 exact ⟨_,rfl,hE⟩
def Off (u v:Value):Prop:=∀b,u.ownBlock=some b→v.ownBlock≠some b
theorem Off.symm {u v:Value} (h:Off u v):Off v u:=fun b hb hu=>h b hu hb
theorem Off.nil (v:Value):Off (.slice none 0 0) v:=fun b hb=>by simp [Value.ownBlock] at hb
theorem Grow.beside (g:Good F tz) {T:Nat→Prop} {W w':World} {base:Nat} {e:TypeId} {v v' x:Value} {m:List β}
  (hx:Grow F tz (fun b=>T b∧v.ownBlock≠some b) W base e x m) (ho:Off x v) (hg:W.grownBy w' v.ownBlock) (hm:Moved W v v') :
  Grow F tz (fun b=>T b∧v'.ownBlock≠some b) w' base e x m∧Off x v':=by
 have hlt:=hx.lt
 obtain ⟨css,hl,hown,hE⟩:=hx
 refine ⟨⟨css,hl,hown.kept hg ?_,fun k hk=>?_⟩,fun b hb=>?_⟩
 ·cases hb:x.ownBlock with
  | none=>exact .inl rfl
  | some b=>exact .inr fun hh=>ho b hb hh.symm
 ·obtain ⟨cs,h1,h2⟩:=hE k hk
  refine ⟨cs,h1,g.both h2 (fun b hb=>hg.block b hb.2.1 fun hh=>hb.1.2 hh.symm) (fun b hb=>⟨⟨hb.1.1,?_⟩,Nat.lt_of_lt_of_le hb.2.1 hg.size,hb.2.2⟩)⟩
  rcases hm with h|⟨b',h,hb'⟩
  ·rw [h];exact hb.1.2
  ·rw [h];intro hh;injection hh with hh;have:=hb.2.1;omega
 ·rcases hm with h|⟨b',h,hb'⟩
  ·rw [h];exact ho b hb
  ·rw [h];intro hh;injection hh with hh;have:=(hlt b hb).2;omega
theorem Grow.retag (g:Good E sz) {T T':Nat→Prop} {W:World} {base:Nat} {e:TypeId} {v:Value} {l:List α} (h:Grow E sz T W base e v l) (ht:∀b,T b→b < W.heap.size→T' b):Grow E sz T' W base e v l:=by
 obtain ⟨css,hl,hown,hE⟩:=h
 refine ⟨css,hl,hown,fun k hk=>?_⟩
 obtain ⟨cs,h1,h2⟩:=hE k hk
 exact ⟨cs,h1,g.more h2 fun b hb=>⟨ht b hb.1 hb.2.1,hb.2.1,hb.2.2⟩⟩
end
theorem Grow.flat {T T':Nat→Prop} {W:World} {base:Nat} {e:TypeId} {v:Value} {α:Type} {E:Rd α} {sz:Nat} {l:List α} (hf:∀(w:World) (S S':Nat→Prop) a cs,E w S a cs→E w S' a cs) (h:Grow E sz T W base e v l):Grow E sz T' W base e v l:=by
 obtain ⟨css,hl,hown,hE⟩:=h
 refine ⟨css,hl,hown,fun k hk=>?_⟩
 obtain ⟨cs,h1,h2⟩:=hE k hk
 exact ⟨cs,h1,hf _ _ _ _ _ h2⟩
theorem low_cons (c:Nat) (r:List Nat):lowB (c::r)=(decide (c < 32)||lowB r):=by unfold lowB;rw [List.any_cons]
theorem fnB_cons (c:Nat) (r:List Nat):fnB (c::r)=(letB c&&r.all nmC&&decide (r.length < 40)):=rfl
theorem emp_eq (s:ByteArray):s.toList.isEmpty=decide (B s=[]):=by
 rw [toList_data]
 unfold B
 cases s.data.toList<;>simp
theorem digit5_any (c:Nat) (w:World):Calls Tryz.prog 115 #[.int .u8 (c:Int)] w fun e w'=>e=.returned (.bool (digB c))∧w=w':=by
 have X:=Lib.hid (show digB c=(decide ((48:Int)≤c)&&decide ((c:Int)≤57)) by unfold digB;rw [Bool.eq_iff_iff];simp;omega)
 go_enter Tryz.func115,Tryz.ntmps115
 go_wp2
 all_goals
  go_ret
  refine ⟨congrArg (fun b=>Ending.returned (.bool b)) ?_,rfl⟩
  rw [X.out,Bool.eq_iff_iff]
  simp
  omega
theorem letter5_any (c:Nat) (w:World):Calls Tryz.prog 114 #[.int .u8 (c:Int)] w fun e w'=>e=.returned (.bool (letB c))∧w=w':=by
 have X:=Lib.hid (show letB c=((decide ((97:Int)≤c)&&decide ((c:Int)≤122))||(decide ((65:Int)≤c)&&decide ((c:Int)≤90))) by unfold letB;rw [Bool.eq_iff_iff];simp;omega)
 go_enter Tryz.func114,Tryz.ntmps114
 go_wp2
 all_goals
  go_ret
  refine ⟨congrArg (fun b=>Ending.returned (.bool b)) ?_,rfl⟩
  rw [X.out,Bool.eq_iff_iff]
  simp
  omega
set_option maxHeartbeats 1000000 in
theorem low5_any (s:ByteArray) (w:World) (hs:s.size≤maxLen):Calls Tryz.prog 82 #[.string s] w fun e w'=>e=.returned (.bool (lowB (B s)))∧Below w.heap.size w w':=by
 unfold maxLen at hs
 obtain ⟨cap,w1,hcv,hb,hcells⟩:=bytes_cells w s
 have HB:=Lib.hid hb
 have HC:=Lib.hid hcells
 clear hb hcells
 go_enter Tryz.func82,Tryz.ntmps82
 go_wp2
 clear hcv
 go_loop [8] (fun i=>∃k:Nat,k≤s.size∧i=.int .i64 k∧lowB (B s)=lowB ((B s).drop k)) (fun i=>s.size - (intOf i).toNat)
 case atStart=>exact ⟨0,Nat.zero_le _,rfl,rfl⟩
 case round=>
  obtain ⟨k,hk,rfl,hl⟩:=hrel
  have HL:=Lib.hid hl
  clear hl
  by_cases hlt:k < s.size
  ·have BD:=Lib.hid (B_drop s k hlt)
   have hb:=byte_le s k hlt
   have hc:=HC.out k hlt
   by_cases h32:s[k].toNat < 32
   ·have hd:(s[k].toNat:Int) < 32:=by omega
    have X:=Lib.hid (show lowB (B s)=true by rw [HL.out,BD.out,low_cons,decide_eq_true h32];rfl)
    clear h32
    go_wp2
    go_ret
    exact ⟨by rw [X.out];try rfl,HB.out⟩
   ·have hd:¬(s[k].toNat:Int) < 32:=by omega
    have X:=Lib.hid (show lowB (B s)=lowB ((B s).drop (k+1)) by rw [HL.out,BD.out,low_cons,decide_eq_false h32];rfl)
    clear h32
    go_wp2
    go_round
    case rel=>exact ⟨k+1,by omega,by go_num,X.out⟩
    case measure=>simp [intOf];omega
  ·have X:=Lib.hid (show lowB (B s)=false by rw [HL.out,B_drop_end s k (by omega)];rfl)
   go_wp2
   go_ret
   exact ⟨by rw [X.out];try rfl,HB.out⟩
theorem fn_is {s:ByteArray} (h0:0 < s.size) (h40:s.size≤40) (hl:letB s[0].toNat=true):fnB (B s)=(B s).all nmC:=by
 have h:=B_drop s 0 h0
 rw [List.drop_zero] at h
 have hlen:=B_len s
 rw [h] at hlen ⊢
 simp only [List.length_cons] at hlen
 rw [fnB_cons,List.all_cons,hl,decide_eq_true (by omega)]
 have:nmC s[0].toNat=true:=by unfold nmC;rw [hl];rfl
 rw [this,Bool.and_true]
theorem fn_big {s:ByteArray} (h:40 < s.size):fnB (B s)=false:=by
 have hd:=B_drop s 0 (by omega)
 rw [List.drop_zero] at hd
 have hlen:=B_len s
 rw [hd] at hlen ⊢
 simp only [List.length_cons] at hlen
 rw [fnB_cons,decide_eq_false (by omega),Bool.and_false]
theorem fn_let {s:ByteArray} (h0:0 < s.size) (hl:letB s[0].toNat=false):fnB (B s)=false:=by
 have hd:=B_drop s 0 h0
 rw [List.drop_zero] at hd
 rw [hd,fnB_cons,hl];rfl
set_option maxHeartbeats 1000000 in
theorem name5_any (s:ByteArray) (w:World) (hs:s.size≤maxLen):Calls Tryz.prog 96 #[.string s] w fun e w'=>e=.returned (.bool (fnB (B s)))∧Below w.heap.size w w':=by
 unfold maxLen at hs
 have em:=emp_eq s
 by_cases h0:B s=[]
 ·rw [decide_eq_true h0] at em
  have X:=Lib.hid (show fnB (B s)=false by rw [h0];rfl)
  clear h0
  go_enter Tryz.func96,Tryz.ntmps96
  go_wp2
  go_ret
  exact ⟨by rw [X.out];try rfl,Below.refl _ _⟩
 ·rw [decide_eq_false h0] at em
  have hs0:0 < s.size:=by
   rcases Nat.eq_zero_or_pos s.size with h|h
   ·exact absurd (List.eq_nil_of_length_eq_zero (by rw [B_len];exact h)) h0
   ·exact h
  clear h0
  by_cases h40:40 < s.size
  ·have X:=Lib.hid (fn_big h40)
   have p:(40:Int) < (s.size:Int):=by omega
   clear h40
   go_enter Tryz.func96,Tryz.ntmps96
   go_wp2
   go_ret
   exact ⟨by rw [X.out];try rfl,Below.refl _ _⟩
  ·have p:decide ((40:Int) < (s.size:Int))=false:=by rw [decide_eq_false_iff_not];omega
   have hb0:=byte_le s 0 hs0
   have K0:=Lib.hid (fun w=>letter5_any s[0].toNat w)
   cases hl0:letB s[0].toNat
   ·rw [hl0] at K0
    have X:=Lib.hid (fn_let hs0 hl0)
    clear hl0
    go_enter Tryz.func96,Tryz.ntmps96
    go_wp2_with (go_at_call 114;(with_reducible refine (K0.out _).mono ?_);rintro e w' ⟨rfl,rfl⟩)
    go_ret
    exact ⟨by rw [X.out];try rfl,Below.refl _ _⟩
   ·rw [hl0] at K0
    have FN:=Lib.hid (fn_is hs0 (by omega) hl0)
    obtain ⟨cap,w1,hcv,hb,hcells⟩:=bytes_cells w s
    have HB:=Lib.hid hb
    have HC:=Lib.hid hcells
    have hlen:s.size≤40:=by omega
    clear hb hcells hl0
    go_enter Tryz.func96,Tryz.ntmps96
    go_wp2_with (go_at_call 114;(with_reducible refine (K0.out _).mono ?_);rintro e w' ⟨rfl,rfl⟩)
    clear hcv
    go_loop [21] (fun x=>∃k:Nat,k≤s.size∧x=.int .i64 k∧(B s).all nmC=((B s).drop k).all nmC) (fun x=>s.size - (intOf x).toNat)
    case atStart=>exact ⟨0,Nat.zero_le _,rfl,rfl⟩
    case round=>
     obtain ⟨k,hk,rfl,hno⟩:=hrel
     have HN:=Lib.hid hno
     clear hno
     by_cases hlt:k < s.size
     ·have BD:=Lib.hid (B_drop s k hlt)
      have hb:=byte_le s k hlt
      have hc:=HC.out k hlt
      have KL:=Lib.hid (fun w=>letter5_any s[k].toNat w)
      have KD:=Lib.hid (fun w=>digit5_any s[k].toNat w)
      have NX:=Lib.hid (show nmC s[k].toNat=true→(B s).all nmC=((B s).drop (k+1)).all nmC from fun h=>by rw [HN.out,BD.out,List.all_cons,h,Bool.true_and])
      have NN:=Lib.hid (show nmC s[k].toNat=false→fnB (B s)=false from fun h=>by rw [FN.out,HN.out,BD.out,List.all_cons,h,Bool.false_and])
      have NC:=Lib.hid (show nmC s[k].toNat=(letB s[k].toNat||digB s[k].toNat||decide (s[k].toNat=45)) from rfl)
      cases hl:letB s[k].toNat
      ·rw [hl] at KL NC
       clear hl
       cases hd:digB s[k].toNat
       ·rw [hd] at KD NC
        clear hd
        by_cases h45:s[k].toNat=45
        ·have p1:((s[k].toNat:Int) != 45)=false:=by rw [h45];rfl
         have Y:=Lib.hid (NX.out (by rw [NC.out,decide_eq_true h45];rfl))
         clear h45
         go_wp2_with (first|(go_at_call 114;(with_reducible refine (KL.out _).mono ?_);rintro e w' ⟨rfl,rfl⟩)|(go_at_call 115;(with_reducible refine (KD.out _).mono ?_);rintro e w' ⟨rfl,rfl⟩))
         go_round
         case rel=>exact ⟨k+1,by omega,by go_num,Y.out⟩
         case measure=>simp [intOf];omega
        ·have p1:((s[k].toNat:Int) != 45)=true:=by rw [bne_iff_ne];omega
         have X:=Lib.hid (NN.out (by rw [NC.out,decide_eq_false h45];rfl))
         clear h45
         go_wp2_with (first|(go_at_call 114;(with_reducible refine (KL.out _).mono ?_);rintro e w' ⟨rfl,rfl⟩)|(go_at_call 115;(with_reducible refine (KD.out _).mono ?_);rintro e w' ⟨rfl,rfl⟩))
         go_ret
         exact ⟨by rw [X.out];try rfl,HB.out⟩
       ·rw [hd] at KD NC
        clear hd
        have Y:=Lib.hid (NX.out (by rw [NC.out];rfl))
        go_wp2_with (first|(go_at_call 114;(with_reducible refine (KL.out _).mono ?_);rintro e w' ⟨rfl,rfl⟩)|(go_at_call 115;(with_reducible refine (KD.out _).mono ?_);rintro e w' ⟨rfl,rfl⟩))
        go_round
        case rel=>exact ⟨k+1,by omega,by go_num,Y.out⟩
        case measure=>simp [intOf];omega
      ·rw [hl] at KL NC
       clear hl
       have Y:=Lib.hid (NX.out (by rw [NC.out];rfl))
       go_wp2_with (go_at_call 114;(with_reducible refine (KL.out _).mono ?_);rintro e w' ⟨rfl,rfl⟩)
       go_round
       case rel=>exact ⟨k+1,by omega,by go_num,Y.out⟩
       case measure=>simp [intOf];omega
     ·have X:=Lib.hid (show fnB (B s)=true by rw [FN.out,HN.out,B_drop_end s k (by omega)];rfl)
      go_wp2
      go_ret
      exact ⟨by rw [X.out];try rfl,HB.out⟩
theorem flatten_set (sz:Nat):∀{css:List (List Value)},(∀cs ∈ css,cs.length=sz)→∀{k:Nat} {cs:List Value},css[k]?=some cs→∀{j:Nat},j < sz→∀u,(css.set k (cs.set j u)).flatten=css.flatten.set (k*sz+j) u
 | [],_,k,cs,hk,_,_,_=>by simp at hk
 | c::css,h,0,cs,hk,j,hj,u=>by
  simp only [List.getElem?_cons_zero,Option.some.injEq] at hk
  subst hk
  have hc:=h c (by simp)
  rw [List.set_cons_zero,List.flatten_cons,List.flatten_cons,Nat.zero_mul,Nat.zero_add,List.set_append_left _ _ (by omega)]
 | c::css,h,k+1,cs,hk,j,hj,u=>by
  rw [List.getElem?_cons_succ] at hk
  have ih:=flatten_set sz (fun cs hc=>h cs (by simp [hc])) hk hj u
  have hc:=h c (by simp)
  rw [List.set_cons_succ,List.flatten_cons,List.flatten_cons,ih,List.set_append_right _ _ (by rw [hc,Nat.add_mul];omega),hc]
  congr 2
  rw [Nat.add_mul];omega
section
variable {α:Type} {E:Rd α} {sz:Nat}
theorem Grow.spot {T:Nat→Prop} {w:World} {base:Nat} {e:TypeId} {ad:Addr} {n c:Nat} {l:List α} (h:Grow E sz T w base e (.slice (some ad) n c) l):ad=⟨ad.block,0,none⟩∧base≤ad.block∧ad.block < w.heap.size∧n=l.length∧∀o,w.frozen? ⟨ad.block,o,none⟩=false:=by
 obtain ⟨css,hl,ho,hE⟩:=h
 rcases ho.2 with ⟨h1,_⟩|⟨gb,cap,cur,h1,hb,hg,hn,hm,hs,ht⟩
 ·simp at h1
 ·simp only [Value.slice.injEq,Option.some.injEq] at h1
  obtain ⟨rfl,rfl,rfl⟩:=h1
  exact ⟨rfl,hb,(Array.getElem?_eq_some_iff.1 hg).1,rfl,fun o=>frozen_of_row w gb o cur e hg⟩
theorem Grow.set (g:Good E sz) {T:Nat→Prop} {w:World} {base:Nat} {e:TypeId} {ad:Addr} {n c:Nat} {l:List α} (h:Grow E sz T w base e (.slice (some ad) n c) l) {k:Nat} (hk:k < l.length) {j:Nat} (hj:j < sz) (u:Value) (y:α)
  (hy:∀cs,E w (fun b=>T b∧b < w.heap.size∧some ad.block≠some b) l[k] cs→E w (fun b=>T b∧b < w.heap.size∧some ad.block≠some b) y (cs.set j u)) :
  Grow E sz T (w.setCell (ad.add (k*sz+j)) u) base e (.slice (some ad) n c) (l.set k y)∧w.grownBy (w.setCell (ad.add (k*sz+j)) u) (some ad.block):=by
 obtain ⟨e0,_,_,rfl,_⟩:=h.spot
 obtain ⟨gb,rfl⟩:∃gb,ad=⟨gb,0,none⟩:=⟨_,e0⟩
 clear e0
 have hadd:(⟨gb,0,none⟩:Addr).add (k*sz+j)=⟨gb,k*sz+j,none⟩:=by unfold Addr.add;split<;>simp_all
 obtain ⟨css,hl,ho,hE⟩:=h
 have hls:=Grow.lens g hl hE
 obtain ⟨cs,h1,h2⟩:=hE k hk
 rw [hadd]
 obtain ⟨o1,o2⟩:=ho.stored (k*sz+j) u
 have hkeep:∀(a:α) (cs:List Value),E w (fun b=>T b∧b < w.heap.size∧some gb≠some b) a cs→E (w.setCell ⟨gb,k*sz+j,none⟩ u) (fun b=>T b∧b < (w.setCell ⟨gb,k*sz+j,none⟩ u).heap.size∧some gb≠some b) a cs:=
  fun a cs h=>g.both h (fun b hb=>heap_setCell_other w _ b u (fun hh=>hb.2.2 (by rw [hh]))) (fun b hb=>⟨hb.1,by simpa using hb.2.1,hb.2.2⟩)
 refine ⟨⟨css.set k (cs.set j u),by rw [List.length_set,List.length_set,hl],?_,fun i hi=>?_⟩,o2⟩
 ·rw [flatten_set sz hls h1 hj,List.length_set]
  exact o1
 ·rw [List.length_set] at hi
  by_cases hik:k=i
  ·subst hik
   refine ⟨cs.set j u,by rw [List.getElem?_set_self (by omega)],?_⟩
   rw [List.getElem_set_self]
   exact hkeep _ _ (hy cs h2)
  ·obtain ⟨ds,d1,d2⟩:=hE i hi
   refine ⟨ds,by rw [List.getElem?_set_ne hik];exact d1,?_⟩
   rw [List.getElem_set_ne hik]
   exact hkeep _ _ d2
end
theorem Grow.frz {α:Type} {E:Rd α} {sz:Nat} {T:Nat→Prop} {w:World} {base:Nat} {e:TypeId} {ad:Addr} {n c:Nat} {l:List α} (h:Grow E sz T w base e (.slice (some ad) n c) l) (j:Nat):w.frozen? (ad.add j)=false:=by
 obtain ⟨e0,_,_,_,hfz⟩:=h.spot
 obtain ⟨gb,rfl⟩:∃gb,ad=⟨gb,0,none⟩:=⟨_,e0⟩
 have hadd:(⟨gb,0,none⟩:Addr).add j=⟨gb,j,none⟩:=by unfold Addr.add;split<;>simp_all
 rw [hadd];exact hfz j
def fstV:List Fd→ByteArray→ByteArray
 | [],_=>{ data:=#[] }
 | f::r,n=>if f.n=n then f.v else fstV r n
def putF (n v:ByteArray):List Fd→List Fd
 | []=>[⟨n,v⟩]
 | f::r=>if f.n=n then ⟨f.n,v⟩::r else f::putF n v r
theorem getV_cons (f:Fd) (r:List Fd) (n:ByteArray):getV (f::r) n=(decide (f.n=n)||getV r n):=by unfold getV;rw [List.any_cons]
end Go.Proofs.YtbljkpbaceiaiaaGreatDoor
