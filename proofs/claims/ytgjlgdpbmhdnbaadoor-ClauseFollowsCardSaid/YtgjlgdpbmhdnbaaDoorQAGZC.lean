/- What the laws rest on: Shelf, N12l, Bld12, N12o, Door12. -/
import Derived.Shelf.Strings.Builder1
import Derived.Shelf.Small.Bits
import Derived.Shelf.Small.Wraps
import Derived.Shelf.Strings.BuilderF
import Derived.Shelf.Strings.BuilderK
import Derived.Shelf.Strconv.Itoa0
import Derived.Shelf.Strconv.Itoa1
import Derived.Shelf.LaysM
import Derived.Shelf.Strconv.Itoa2
import Derived.Shelf.Strconv.Itoa3
import Derived.Ground.Names2Prog
import Derived.Shelf.Slices.CompactI
import Derived.Shelf.Slices.Cells
import Derived.Ground.SlgnProg
import Derived.Shelf.SlicesE.Clone
import Derived.Ground.SlsfProg
import Derived.Shelf.SlSortCmp.Insertion
import Derived.Shelf.SlSortCmp.SiftDown1
import Derived.Shelf.SlSortCmp.Insertion1
import Derived.Shelf.SlSortCmp.Median1
import Derived.Shelf.SlSortCmp.Pivot1
import Derived.Shelf.SlSortCmp.ReverseRange1
import Derived.Shelf.SlSortCmp.PartitionEqual1
import Derived.Lib.SlicesCompact
import Derived.Shelf.Strings.BuilderX
import Derived.Lib.Builder
import Derived.Lib.AppendStr
import Derived.Lib.UnsafeStr
import Derived.Lib.MakeNoZero
import Derived.Laws.Externs
import Derived.Lib.ItoaLen
import Derived.Lib.AppendIntMem
import Derived.Test.YtgjlgdpbmhdnbaaDoorTie
import Derived.Test.YtgjlgdpbmhdnbaaDoorCards
import Derived.LaidMore
import Derived.Lay
import Derived.Stop.Joined
import Derived.Stop.LaidErr
import Derived.Deep.DeepHandedRow
import Derived.Lib.LaidTab
import Derived.Test.YtgjlgdpbmhdnbaaDoorQAFZC
set_option maxRecDepth 100000
set_option linter.unusedVariables false
set_option linter.unusedSimpArgs false
namespace Go.Proofs
open Go.Shelf
def Tryd.lays169_ren:Go.Shelf.Ren:=⟨fun|169=>51|n=>n,fun|70=>67|9=>9|0=>0|72=>70|37=>68|127=>89|3=>3|5=>5|n=>n,fun|n=>n⟩
theorem Tryd.lays169:Go.Proofs.Lays.n169 Tryd.prog Tryd.lays169_ren:={
 mixed:=by kernel_rfl
 f169:=Tryd.func51.trans (congrArg some (by kernel_rfl))
 t0:=Tryd.underlying0
 a0:=Tryd.isAgg0
 z0:=Tryd.sizeOf0
 v0:=Tryd.zeroValue0
 t3:=Tryd.underlying3
 a3:=Tryd.isAgg3
 z3:=Tryd.sizeOf3
 v3:=Tryd.zeroValue3
 t9:=Tryd.underlying9
 a9:=Tryd.isAgg9
 z9:=Tryd.sizeOf9
 v9:=Tryd.zeroValue9
 t37:=Tryd.underlying68
 a37:=Tryd.isAgg68
 z37:=Tryd.sizeOf68
 v37:=Tryd.zeroValue68
 t70:=Tryd.underlying67
 a70:=Tryd.isAgg67
 z70:=Tryd.sizeOf67
 v70:=Tryd.zeroValue67
 t72:=Tryd.underlying70
 a72:=Tryd.isAgg70
 z72:=Tryd.sizeOf70
 v72:=Tryd.zeroValue70
 t127:=Tryd.underlying89
 a127:=Tryd.isAgg89
 z127:=Tryd.sizeOf89
 v127:=Tryd.zeroValue89 }
theorem Tryd.Builder_Extra_169:Builder.Extra Tryd.prog Tryd.lays169_ren:={
 sizeBuilder:=by kernel_rfl
 liesBuilder:=by kernel_rfl
 t5:=Tryd.underlying5
 a5:=Tryd.isAgg5
 z5:=Tryd.sizeOf5
 v5:=Tryd.zeroValue5
 infoByte:=by kernel_rfl
 cellsByte:=by kernel_rfl
 sizeByte:=by kernel_rfl
 neB5:=by decide }
open Go.RowKit in
theorem Tryd.Builder_String_any (B b:Nat) (l:List UInt8) (w:World) (h:Lib.IsBuilder 70 5 B b (Lib.byteCells l) w) (hBw:B≤w.heap.size) :
  Calls Tryd.prog 51 #[.pointer (some ⟨b,0,none⟩)] w fun e w'=>e=.returned (.string ⟨l.toArray⟩)∧Below B w w':=Any.Builder_String_any Tryd.lays169 Tryd.Builder_Extra_169 B b l w h hBw
def Tryd.lays125_ren:Go.Shelf.Ren:=⟨fun|125=>47|128=>61|129=>62|n=>n,fun|46=>66|3=>3|51=>86|53=>88|4=>4|5=>5|9=>9|n=>n,fun|n=>n⟩
theorem Tryd.lays125:Go.Proofs.Lays.n125 Tryd.prog Tryd.lays125_ren:={
 mixed:=by kernel_rfl
 f125:=Tryd.func47.trans (congrArg some (by kernel_rfl))
 f128:=Tryd.func61.trans (congrArg some (by kernel_rfl))
 f129:=Tryd.func62.trans (congrArg some (by kernel_rfl))
 t3:=Tryd.underlying3
 a3:=Tryd.isAgg3
 z3:=Tryd.sizeOf3
 v3:=Tryd.zeroValue3
 t4:=Tryd.underlying4
 a4:=Tryd.isAgg4
 z4:=Tryd.sizeOf4
 v4:=Tryd.zeroValue4
 t5:=Tryd.underlying5
 a5:=Tryd.isAgg5
 z5:=Tryd.sizeOf5
 v5:=Tryd.zeroValue5
 t9:=Tryd.underlying9
 a9:=Tryd.isAgg9
 z9:=Tryd.sizeOf9
 v9:=Tryd.zeroValue9
 t46:=Tryd.underlying66
 a46:=Tryd.isAgg66
 z46:=Tryd.sizeOf66
 v46:=Tryd.zeroValue66
 t51:=Tryd.underlying86
 a51:=Tryd.isAgg86
 z51:=Tryd.sizeOf86
 v51:=Tryd.zeroValue86
 t53:=Tryd.underlying88
 a53:=Tryd.isAgg88
 z53:=Tryd.sizeOf88
 v53:=Tryd.zeroValue88 }
theorem Tryd.bits_Len (x:Int) (w:World) (h0:0≤x) (h1:x≤18446744073709551615) :
  Calls Tryd.prog 47 #[.int .u64 x] w fun e w'=>e=.returned (.int .i64 (Lib.bitLen x.toNat))∧w'=w:=Any.bits_Len Tryd.lays125 x w h0 h1
def Tryd.laysM246_ren:Go.Shelf.Ren:=⟨fun|246=>71|283=>73|284=>74|285=>75|286=>76|129=>62|317=>77|318=>78|319=>79|320=>80|337=>81|338=>82|n=>n,fun|2=>2|3=>3|9=>9|4=>4|171=>102|0=>0|53=>88|37=>68|5=>5|173=>104|212=>107|51=>86|20=>20|213=>108|46=>66|232=>109|233=>110|n=>n,fun|17=>0|18=>1|19=>2|n=>n⟩
def Tryd.laysM243_ren:Go.Shelf.Ren:=⟨fun|243=>64|246=>71|283=>73|284=>74|285=>75|286=>76|129=>62|317=>77|318=>78|319=>79|320=>80|337=>81|338=>82|n=>n,fun|3=>3|9=>9|2=>2|4=>4|171=>102|0=>0|53=>88|37=>68|5=>5|173=>104|212=>107|51=>86|20=>20|213=>108|46=>66|232=>109|233=>110|n=>n,fun|17=>0|18=>1|19=>2|n=>n⟩
def Tryd.laysM171_ren:Go.Shelf.Ren:=⟨fun|171=>50|243=>64|246=>71|283=>73|284=>74|285=>75|286=>76|129=>62|317=>77|318=>78|319=>79|320=>80|337=>81|338=>82|n=>n,fun|3=>3|9=>9|2=>2|4=>4|171=>102|0=>0|53=>88|37=>68|5=>5|173=>104|212=>107|51=>86|20=>20|213=>108|46=>66|232=>109|233=>110|n=>n,fun|17=>0|18=>1|19=>2|n=>n⟩
theorem Tryd.laysM171:Go.Proofs.LaysM.n171 Tryd.prog Tryd.laysM171_ren:={
 mixed:=by kernel_rfl
 f129:=Tryd.func62.trans (congrArg some (by kernel_rfl))
 f171:=Tryd.func50.trans (congrArg some (by kernel_rfl))
 f243:=Tryd.func64.trans (congrArg some (by kernel_rfl))
 f246:=Tryd.func71.trans (congrArg some (by kernel_rfl))
 f283:=Tryd.func73.trans (congrArg some (by kernel_rfl))
 f284:=Tryd.func74.trans (congrArg some (by kernel_rfl))
 f285:=Tryd.func75.trans (congrArg some (by kernel_rfl))
 f286:=Tryd.func76.trans (congrArg some (by kernel_rfl))
 f317:=Tryd.func77.trans (congrArg some (by kernel_rfl))
 f318:=Tryd.func78.trans (congrArg some (by kernel_rfl))
 f319:=Tryd.func79.trans (congrArg some (by kernel_rfl))
 f320:=Tryd.func80.trans (congrArg some (by kernel_rfl))
 f337:=Tryd.func81.trans (congrArg some (by kernel_rfl))
 f338:=Tryd.func82.trans (congrArg some (by kernel_rfl))
 t0:=Tryd.underlying0
 a0:=Tryd.isAgg0
 z0:=Tryd.sizeOf0
 v0:=Tryd.zeroValue0
 t2:=Tryd.underlying2
 a2:=Tryd.isAgg2
 z2:=Tryd.sizeOf2
 v2:=Tryd.zeroValue2
 t3:=Tryd.underlying3
 a3:=Tryd.isAgg3
 z3:=Tryd.sizeOf3
 v3:=Tryd.zeroValue3
 t4:=Tryd.underlying4
 a4:=Tryd.isAgg4
 z4:=Tryd.sizeOf4
 v4:=Tryd.zeroValue4
 t5:=Tryd.underlying5
 a5:=Tryd.isAgg5
 z5:=Tryd.sizeOf5
 v5:=Tryd.zeroValue5
 t9:=Tryd.underlying9
 a9:=Tryd.isAgg9
 z9:=Tryd.sizeOf9
 v9:=Tryd.zeroValue9
 t20:=Tryd.underlying20
 a20:=Tryd.isAgg20
 z20:=Tryd.sizeOf20
 v20:=Tryd.zeroValue20
 t37:=Tryd.underlying68
 a37:=Tryd.isAgg68
 z37:=Tryd.sizeOf68
 v37:=Tryd.zeroValue68
 t46:=Tryd.underlying66
 a46:=Tryd.isAgg66
 z46:=Tryd.sizeOf66
 v46:=Tryd.zeroValue66
 t51:=Tryd.underlying86
 a51:=Tryd.isAgg86
 z51:=Tryd.sizeOf86
 v51:=Tryd.zeroValue86
 t53:=Tryd.underlying88
 a53:=Tryd.isAgg88
 z53:=Tryd.sizeOf88
 v53:=Tryd.zeroValue88
 t171:=Tryd.underlying102
 a171:=Tryd.isAgg102
 z171:=Tryd.sizeOf102
 v171:=Tryd.zeroValue102
 t173:=Tryd.underlying104
 a173:=Tryd.isAgg104
 z173:=Tryd.sizeOf104
 v173:=Tryd.zeroValue104
 t212:=Tryd.underlying107
 a212:=Tryd.isAgg107
 z212:=Tryd.sizeOf107
 v212:=Tryd.zeroValue107
 t213:=Tryd.underlying108
 a213:=Tryd.isAgg108
 z213:=Tryd.sizeOf108
 t232:=Tryd.underlying109
 a232:=Tryd.isAgg109
 z232:=Tryd.sizeOf109
 v232:=Tryd.zeroValue109
 t233:=Tryd.underlying110
 a233:=Tryd.isAgg110
 z233:=Tryd.sizeOf110
 v233:=Tryd.zeroValue110
 g17:=by kernel_rfl
 g18:=by kernel_rfl
 g19:=by kernel_rfl
 i0:=by kernel_rfl
 i2:=by kernel_rfl
 i3:=by kernel_rfl
 i4:=by kernel_rfl
 i5:=by kernel_rfl
 i9:=by kernel_rfl
 i20:=by kernel_rfl
 i37:=by kernel_rfl
 i46:=by kernel_rfl
 i51:=by kernel_rfl
 i53:=by kernel_rfl
 i171:=by kernel_rfl
 i173:=by kernel_rfl
 i212:=by kernel_rfl
 i232:=by kernel_rfl
 i233:=by kernel_rfl
 m17:=by kernel_rfl
 m18:=by kernel_rfl
 m19:=by kernel_rfl }
open Go.RowKit Go.Sort Go.Lib in
theorem Tryd.strconv_Itoa (n:Int) (h0:-9223372036854775808≤n) (h1:n≤9223372036854775807) (w:World) (htab:Lib.TabIs Tryd.prog w "internal/strconv.uint64pow10" .u64 Lib.pow10Tab) :
  Calls Tryd.prog 50 #[.int .i64 n] w fun e w'=>e=.returned (.string ⟨(Lib.itoa n).toArray⟩)∧∃k os,w'=grow (w.drewN k) os:=Any.strconv_Itoa Tryd.laysM171 n h0 h1 w htab
def Tryd.laysNm220_ren:Go.Shelf.Ren:=⟨fun|20=>35|n=>n,fun|22=>23|3=>3|4=>4|0=>0|n=>n,fun|n=>n⟩
theorem Tryd.laysNm220:Go.Proofs.Lays2.n20 Tryd.prog Tryd.laysNm220_ren:={
 mixed:=by kernel_rfl
 f20:=Tryd.func35.trans (congrArg some (by kernel_rfl))
 t0:=Tryd.underlying0
 a0:=Tryd.isAgg0
 z0:=Tryd.sizeOf0
 v0:=Tryd.zeroValue0
 t3:=Tryd.underlying3
 a3:=Tryd.isAgg3
 z3:=Tryd.sizeOf3
 v3:=Tryd.zeroValue3
 t4:=Tryd.underlying4
 a4:=Tryd.isAgg4
 z4:=Tryd.sizeOf4
 v4:=Tryd.zeroValue4
 t22:=Tryd.underlying23
 a22:=Tryd.isAgg23
 z22:=Tryd.sizeOf23
 v22:=Tryd.zeroValue23
 i3:=by kernel_rfl }
open Go.RowKit Go.Lib Go.Sort in
theorem Tryd.slices_Compact_int (blk off cap:Nat) (zs:List Int) (w:World) (hH:Holds (Value.int .i64) w blk off zs.toArray) (hsz:zs.length≤9223372036854775807) (hcap:zs.length≤cap) :
  Calls Tryd.prog 35 #[.slice (some ⟨blk,off,none⟩) zs.length cap] w fun e w'=>e=.returned (.slice (some ⟨blk,off,none⟩) (Lib.compact zs).length cap)∧∃q,w'=putRow (Value.int .i64) (Sort.ahead w q) blk off (Lib.compact zs++List.replicate (zs.length - (Lib.compact zs).length) 0).toArray:=Any.slices_Compact_int Tryd.laysNm220 blk off cap zs w hH hsz hcap
end Go.Proofs
namespace Go.Proofs.YtgjlgdpbmhdnbaaDoor
open Go.RowKit Go.Sort
def srtS (c:List Int):List Int × Bool:=insO 0 (c.length - 1) 1 (c,false)
set_option maxHeartbeats 4000000 in
theorem pdqS_any {w0 w:World} {N0 blk fb:Nat} {tail:List Value} {d:List Int} {f:Bool} (h:SrtW w0 N0 blk fb tail d f w) {n cap lim:Nat} (hn:d.length=n) (hn2:n≤12) (hc:n≤cap) (hcm:cap≤maxLen) :
  Calls Tryd.prog 46 #[.slice (some ⟨blk,0,none⟩) n cap,.int .i64 0,.int .i64 n,.int .i64 lim,.func (.func 32) #[] #[.pointer (some ⟨fb,0,none⟩)]] w fun e w'=>
   e=.returned (.tuple #[])∧SrtW w0 N0 blk fb tail (insO 0 (n - 1) 1 (d,f)).1 (insO 0 (n - 1) 1 (d,f)).2 w'∧Sup N0 w w':=by
 have IN:=Lib.hid (ins12_any h (a:=0) (b:=n) hn (by omega) hc hcm (Nat.le_refl _) (Nat.zero_le _))
 have hw:IntKind.i64.wrap (n:Int)=(n:Int):=by rw [IntKind.wrap_i64];omega
 have d1:decide ((n:Int)≤12)=true:=decide_eq_true (by omega)
 have hz:(n:Int)≤12:=by omega
 clear h hn
 go_enter Tryd.func46,Tryd.ntmps46
 go_wp2
 go_loopw [1,2,3,10,11] (fun v1 v2 v3 v4 v5 wr=>v1=.int .i64 0∧v2=.int .i64 n∧v3=.int .i64 lim∧w=wr) (fun _ _ _ _ _ _=>0)
 case atStart=>exact ⟨rfl,rfl,rfl,rfl⟩
 case round=>
  obtain ⟨rfl,rfl,rfl,rfl⟩:=hrel
  go_wp2_with (go_at_call 53;refine IN.out.mono ?_;rintro e w' ⟨rfl,h1,h2⟩)
  (try simp only [Exit.inBlock,Exit.then]);refine bodyPost_ret (results_none rfl _ _ _) rfl ?_
  exact ⟨rfl,h1,h2⟩
theorem sortS_any {w0 w:World} {N0 blk fb:Nat} {tail:List Value} {d:List Int} {f:Bool} (h:SrtW w0 N0 blk fb tail d f w) {n cap:Nat} (hn:d.length=n) (hn2:n≤12) (hc:n≤cap) (hcm:cap≤maxLen) :
  Calls Tryd.prog 31 #[.slice (some ⟨blk,0,none⟩) n cap,.func (.func 32) #[] #[.pointer (some ⟨fb,0,none⟩)]] w fun e w'=>
   e=.returned (.tuple #[])∧SrtW w0 N0 blk fb tail (insO 0 (n - 1) 1 (d,f)).1 (insO 0 (n - 1) 1 (d,f)).2 w'∧Sup N0 w w':=by
 have PD:=Lib.hid (fun lim=>pdqS_any h (lim:=lim) hn hn2 hc hcm)
 have BL:=Lib.hid (Tryd.bits_Len (n:Int) w (by omega) (by omega))
 have hw:IntKind.u64.wrap (n:Int)=(n:Int):=by simp [IntKind.wrap,IntKind.bits,IntKind.signed];omega
 clear h hn
 go_enter Tryd.func31,Tryd.ntmps31
 go_wp2_with (first|(go_at_call 47;refine BL.out.mono ?_;rintro e w' ⟨rfl,rfl⟩)|(go_at_call 46;refine (PD.out _).mono ?_;rintro e w' ⟨rfl,h1,h2⟩))
 go_end0
 exact ⟨rfl,h1,h2⟩
def SortOK (c:List Int) (Rel:List Int→Bool→Prop):Prop:=
 ∀(w0 w:World) (N0 blk fb cap:Nat) (tail:List Value),SrtW w0 N0 blk fb tail c false w→c.length≤cap→cap≤maxLen→
  Calls Tryd.prog 31 #[.slice (some ⟨blk,0,none⟩) c.length cap,.func (.func 32) #[] #[.pointer (some ⟨fb,0,none⟩)]] w fun e w'=>
   e=.returned (.tuple #[])∧(∃d f,Rel d f∧d.length=c.length∧SrtW w0 N0 blk fb tail d f w')∧Sup N0 w w'
theorem insO_len (a:Nat):∀(k i:Nat) (s:List Int × Bool),(insO a k i s).1.length=s.1.length
 | 0,_,s=>rfl
 | k+1,i,s=>by unfold insO;rw [insO_len a k,insI_len]
theorem sortS_ok (c:List Int) (h:c.length≤12):SortOK c (fun d f=>d=(srtS c).1∧f=(srtS c).2):=fun w0 w N0 blk fb cap tail hs h1 h2=>
 (sortS_any hs rfl h h1 h2).mono fun e w' ⟨he,a,b⟩=>⟨he,⟨_,_,⟨rfl,rfl⟩,insO_len _ _ _ _,a⟩,b⟩
theorem SrtW.base {w0 w:World} {N0 blk fb N:Nat} {tail:List Value} {d:List Int} {f:Bool} (h:SrtW w0 N0 blk fb tail d f w) (hb:N≤blk) (hf:N≤fb) (hs:w0.heap.size≤N0):Below N w0 w:=
 ⟨h.os,h.tape,h.output,Nat.le_trans hs h.size,fun k hk=>h.oth k (by have:=h.bn;omega) (by omega) (by omega)⟩
theorem own_row {w:World} {base n:Nat} {e:TypeId} {v:Value} {l:List Int} (h:w.ownsRow base e 1 v n (l.map (Value.int .i64))) (hv:v≠.slice none 0 0):∃g cap tail,v=.slice (some ⟨g,0,none⟩) n cap∧base≤g∧n≤cap∧cap≤maxLen∧w.heap[g]?=some (.cells (l.map (Value.int .i64)++tail).toArray e (0,0)):=by
 rcases h.2 with ⟨rfl,_⟩|⟨g,cap,cur,rfl,h3,h4,h5,h6,h7,h8⟩
 ·exact absurd rfl hv
 ·refine ⟨g,cap,cur.toList.drop n,rfl,h3,h5,h6,?_⟩
  rw [h4,←h8,Nat.mul_one,List.take_append_drop]
end Go.Proofs.YtgjlgdpbmhdnbaaDoor
namespace Go.Proofs.YtgjlgdpbmhdnbaaDoor
open Go.RowKit
theorem bldSize12:(Tryd.prog.info? 70).map (·.size)=some 2:=by kernel_rfl
theorem bldLies12:liesAt Tryd.prog Tryd.prog.depth 70 (2 / Tryd.prog.cellsOf 70) 0 70 1=true:=by kernel_rfl
theorem byteInfo12:(Tryd.prog.info? 5).map (fun i=>(i.zero,i.size,i.bytes))=some (some (.int .u8 0),1,1):=by kernel_rfl
theorem bldNe12:70≠5:=by decide
abbrev BldAt12 (B b:Nat) (p:Value) (bs:List Value) (w:World):Prop:=Lib.BuilderAt 70 5 B b p bs w
abbrev IsBld12 (B b:Nat) (bs:List Value) (w:World):Prop:=Lib.IsBuilder 70 5 B b bs w
set_option maxHeartbeats 1000000 in
theorem copy12_used (b:Nat) (w:World) (h0:w.cell? ⟨b,0,none⟩=some (.pointer (some ⟨b,0,none⟩))) :
  Calls Tryd.prog 63 #[.pointer (some ⟨b,0,none⟩)] w fun e w'=>e=.returned (.tuple #[])∧w'=w:=by
 obtain ⟨j,hj,_⟩:=Option.map_eq_some_iff.1 bldSize12
 go_enter Tryd.func63,Tryd.ntmps63
 go_wp2
 rw [Lib.run_neq_ptr_same w _ Tryd.underlying67 hj]
 go_wp2
 go_end0
 exact ⟨rfl,rfl⟩
set_option maxHeartbeats 1000000 in
theorem copy12_fresh (b:Nat) (w:World) (h0:w.cell? ⟨b,0,none⟩=some (.pointer none)) (hsh:w.shape? b=some (70,2)) (hfz:w.frozen? ⟨b,0,none⟩=false) :
  Calls Tryd.prog 63 #[.pointer (some ⟨b,0,none⟩)] w fun e w'=>e=.returned (.tuple #[])∧w'=w.setCell ⟨b,0,none⟩ (.pointer (some ⟨b,0,none⟩)):=by
 obtain ⟨j,hj,hjs⟩:=Option.map_eq_some_iff.1 bldSize12
 go_enter Tryd.func63,Tryd.ntmps63
 go_wp2
 rw [Lib.run_to_unsafe w ⟨b,0,none⟩ Tryd.underlying67 Tryd.underlying96 hj (by rw [hjs];decide) hsh (Nat.zero_lt_succ 1)]
 simp only [Result.andThen]
 rw [Oper.upon_value]
 go_wp2
 rw [run_callFunc_extern Tryd.func70 (by kernel_rfl) (by kernel_rfl) (by kernel_rfl) (e:=Extern.AbiNoEscape.same) (by kernel_rfl)]
 rw [Lib.run_noEscape]
 simp only [Result.andThen]
 rw [Oper.upon_value]
 go_wp2
 rw [Lib.run_from_unsafe w ⟨b,0,none⟩ Tryd.underlying96 Tryd.underlying67 hj hsh bldLies12]
 simp only [Result.andThen]
 rw [Oper.upon_value]
 go_wp2
 go_end0
 exact ⟨rfl,rfl⟩
theorem copy12_any (B b:Nat) (bs:List Value) (w:World) (h:IsBld12 B b bs w) :
  Calls Tryd.prog 63 #[.pointer (some ⟨b,0,none⟩)] w fun e w'=>e=.returned (.tuple #[])∧(BldAt12 B b (.pointer (some ⟨b,0,none⟩)) bs w'∧Below B w w'):=by
 rcases h with h|h
 ·refine (copy12_fresh b w h.cell0 h.shape h.frozen0).mono ?_
  rintro e w' ⟨rfl,rfl⟩
  exact ⟨rfl,h.used _,(Below.refl B w).setCell (p:=⟨b,0,none⟩) h.1 _⟩
 ·refine (copy12_used b w h.cell0).mono ?_
  rintro e w' ⟨rfl,rfl⟩
  exact ⟨rfl,h,Below.refl B _⟩
set_option maxHeartbeats 2000000 in
theorem wstr12_any (B b:Nat) (bs:List Value) (s:ByteArray) (w:World) (h:IsBld12 B b bs w) (hlen:bs.length+s.size≤140737488355328) (hBw:B≤w.heap.size) :
  Calls Tryd.prog 49 #[.pointer (some ⟨b,0,none⟩),.string s] w fun e w'=>e=.returned (.tuple #[.int .i64 s.size,.nilIface])∧(BldAt12 B b (.pointer (some ⟨b,0,none⟩)) (bs++Lib.strCells s) w'∧Below B w w'):=by
 obtain ⟨i0,hi,hz0,hz1,hz2⟩:=info_parts byteInfo12
 have CC:=Lib.hid (copy12_any B b bs w h)
 clear h
 go_enter Tryd.func49,Tryd.ntmps49
 go_wp2_with fail
 refine CC.out.mono ?_
 rintro e w1 ⟨rfl,h1,hb1⟩
 obtain ⟨hB,v,hbk,hown,hne⟩:=h1
 have c0:w1.cell? ⟨b,0,none⟩=some (.pointer (some ⟨b,0,none⟩)):=by rw [Lib.cell_of_heap hbk];rfl
 have c1:w1.cell? ⟨b,1,none⟩=some v:=by rw [Lib.cell_of_heap hbk];rfl
 go_wp2_with (at_builtin;refine Lib.wpList_append_own_string _ rfl _ _ 68 9 rfl B 5 i0 Tryd.underlying68 Tryd.underlying9 hi hz0 hz1 hz2 _ _ _ rfl hown s rfl ?c3 ?c4 ?c5 ?_)
 case c3=>unfold maxLen;omega
 case c4=>omega
 case c5=>have:=hb1.size;omega
 intro v' w2 hown' hgrow _
 have hlt:b < w1.heap.size:=by
  rcases Nat.lt_or_ge b w1.heap.size with h'|h'
  ·exact h'
  ·simp [Array.getElem?_eq_none h'] at hbk
 have hb2:w2.heap[b]?=some (.cells #[.pointer (some ⟨b,0,none⟩),v] 70 (0,0)):=by
  rw [hgrow.block b hlt (fun e=>hne e.symm)]
  exact hbk
 have d0:w2.cell? ⟨b,0,none⟩=some (.pointer (some ⟨b,0,none⟩)):=by rw [Lib.cell_of_heap hb2];rfl
 have d1:w2.cell? ⟨b,1,none⟩=some v:=by rw [Lib.cell_of_heap hb2];rfl
 have f1:w2.frozen? ⟨b,1,none⟩=false:=Lib.frozen_of_heap hb2 1
 obtain ⟨ao,n',cap,rfl⟩:∃ao n' cap,v'=.slice ao n' cap:=by
  rcases hown'.2 with ⟨hv,_⟩|⟨g,cap,cur,hv,_⟩
  ·exact ⟨_,_,_,hv⟩
  ·exact ⟨_,_,_,hv⟩
 go_wp2
 go_ret2
 refine ⟨rfl,?_,?_⟩
 ·exact Lib.BuilderAt.put (T:=70) (e:=5) hB hb2 (bs':=bs++Lib.strCells s) (by simpa [Lib.strCells_length] using hown') bldNe12
 ·exact (hb1.grown hgrow (by have:=hb1.size;omega) (fun k hk=>(hown.lt k hk).1)).setCell (p:=⟨b,1,none⟩) hB _
theorem bld12_below {B b:Nat} {bs:List Value} {w w':World} (h:IsBld12 B b bs w) (hb:Below w.heap.size w w'):IsBld12 B b bs w':=by
 have key:∀p,BldAt12 B b p bs w→BldAt12 B b p bs w':=by
  rintro p h
  have hlt:=h.lt
  obtain ⟨hB,v,hbk,hown,hne⟩:=h
  refine ⟨hB,v,by rw [hb.block b hlt];exact hbk,hown.kept (row:=none) ⟨hb.os,hb.tape,hb.output,hb.size,fun k hk _=>hb.block k hk⟩ ?_,hne⟩
  cases h:v.ownBlock with
  | none=>exact .inl rfl
  | some x=>exact .inr (by simp)
 rcases h with h|h
 ·exact .inl (key _ h)
 ·exact .inr (key _ h)
theorem bld12_new (w:World):IsBld12 w.heap.size w.heap.size (Lib.strCells { data:=#[] }) (w.alloc (.cells #[.pointer none,.slice none 0 0] 70)):=
 .inl ⟨Nat.le_refl _,.slice none 0 0,heap_alloc_new _ _,World.ownsRow_nil _ _ _ _,by simp [Value.ownBlock]⟩
theorem strCells12_app (a b:ByteArray):Lib.strCells a++Lib.strCells b=Lib.strCells (a++b):=by
 unfold Lib.strCells
 rw [ByteArray.data_append,Array.toList_append,List.map_append]
def Pow (w:World):Prop:=Lib.TabIs Tryd.prog w "internal/strconv.uint64pow10" .u64 Lib.pow10Tab
theorem var12_bel {P:Program} {w w':World} {n:String} {cs:Array Value} (h:Below w.heap.size w w') (hv:w.var? P n=some cs):w'.var? P n=some cs:=by
 unfold World.var? at hv ⊢
 cases hg:P.globalNamed n with
 | none=>rw [hg] at hv;exact hv
 | some g=>
  rw [hg] at hv
  simp only [Option.bind_some] at hv ⊢
  have hlt:g < w.heap.size:=by
   rcases Nat.lt_or_ge g w.heap.size with hh|hh
   ·exact hh
   ·rw [Array.getElem?_eq_none hh] at hv;cases hv
  rw [h.block g hlt];exact hv
theorem Pow.below {w w':World} (h:Pow w) (hb:Below w.heap.size w w'):Pow w':=var12_bel hb h
def iB (x:Int):List Nat:=(Lib.itoa x).map UInt8.toNat
def iS (x:Int):ByteArray:=⟨(Lib.itoa x).toArray⟩
theorem iS_B (x:Int):B (iS x)=iB x:=rfl
theorem iS_size {x:Int} (h:-9223372036854775808≤x∧x≤9223372036854775807):(iS x).size≤21:=by
 have:=Lib.itoa_length_le x h.1 h.2
 show (Lib.itoa x).toArray.size≤21
 simpa using this
def litT (x:Int):List Nat:=iB x++[32]
def clT (c:List Int):List Nat:=c.flatMap litT++[48,10]
def hdT (n:Int) (k:Nat):List Nat:=[112,32,99,110,102,32]++iB n++[32]++iB k++[10]
def fmT (n:Int) (l:List (List Int)):List Nat:=hdT n l.length++l.flatMap clT
theorem itoa12_any (x:Int) (w:World) (h:-9223372036854775808≤x∧x≤9223372036854775807) (E:Pow w):Calls Tryd.prog 50 #[.int .i64 x] w fun e w'=>e=.returned (.string (iS x))∧Below w.heap.size w w':=by
 refine (Tryd.strconv_Itoa x h.1 h.2 w E).mono ?_
 rintro e w' ⟨rfl,k,os,rfl⟩
 exact ⟨rfl,Lib.below_grow _ _ (Nat.le_refl _) _ _⟩
theorem hd_B (n:Int) (k:Nat):B ((((⟨#[112,32,99,110,102,32]⟩:ByteArray)++iS n)++⟨#[32]⟩)++iS k++⟨#[10]⟩)=hdT n k:=by
 rw [B_append,B_append,B_append,B_append,iS_B,iS_B];rfl
theorem lit_B (x:Int):B (iS x++⟨#[32]⟩)=litT x:=by rw [B_append,iS_B];rfl
theorem lit_len {x:Int} (h:-9223372036854775808≤x∧x≤9223372036854775807):(litT x).length≤22:=by
 rw [←lit_B,B_len,ByteArray.size_append]
 have:=iS_size h
 show _+1≤22
 omega
theorem lits_len:∀{c:List Int},(∀x ∈ c,-9223372036854775808≤x∧x≤9223372036854775807)→(c.flatMap litT).length≤22*c.length
 | [],_=>Nat.zero_le _
 | x::r,h=>by
  rw [List.flatMap_cons,List.length_append,List.length_cons]
  have:=lit_len (h x List.mem_cons_self)
  have:=lits_len (c:=r) (fun y hy=>h y (List.mem_cons_of_mem _ hy))
  omega
theorem cl_len {c:List Int} (h:∀x ∈ c,-9223372036854775808≤x∧x≤9223372036854775807) (hl:c.length≤20000):(clT c).length≤440002:=by
 unfold clT
 rw [List.length_append]
 have:=lits_len h
 show _+2≤_
 omega
theorem cls_len:∀{l:List (List Int)},(∀c ∈ l,c.length≤20000∧∀x ∈ c,-9223372036854775808≤x∧x≤9223372036854775807)→(l.flatMap clT).length≤440002*l.length
 | [],_=>Nat.zero_le _
 | c::r,h=>by
  rw [List.flatMap_cons,List.length_append,List.length_cons]
  have:=cl_len (h c List.mem_cons_self).2 (h c List.mem_cons_self).1
  have:=cls_len (l:=r) (fun y hy=>h y (List.mem_cons_of_mem _ hy))
  omega
theorem flat_take {α:Type} (f:α→List Nat) {l:List α} {k:Nat} (hk:k < l.length):(l.take (k+1)).flatMap f=(l.take k).flatMap f++f l[k]:=by
 rw [List.take_succ_eq_append_getElem hk,List.flatMap_append,List.flatMap_cons,List.flatMap_nil,List.append_nil]
theorem hd_len {n:Int} (h:-9223372036854775808≤n∧n≤9223372036854775807) {k:Nat} (hk:k≤400000):(hdT n k).length≤60:=by
 rw [←hd_B,B_len,ByteArray.size_append,ByteArray.size_append,ByteArray.size_append,ByteArray.size_append]
 have:=iS_size h
 have:=iS_size (x:=(k:Int)) ⟨by omega,by omega⟩
 show 6+_+1+_+1≤60
 omega
set_option maxHeartbeats 16000000 in
theorem text12_any (n:Int) (A:Option Addr) (nl cl:Nat) (l:List (List Int)) (w:World) (hn:-9223372036854775808≤n∧n≤9223372036854775807) (h:rdIss w (lt_ w.heap.size) l [.slice A nl cl]) (hl:l.length≤400000) (hc:∀c ∈ l,c.length≤20000∧∀x ∈ c,-9223372036854775808≤x∧x≤9223372036854775807) (E:Pow w) :
  Calls Tryd.prog 36 #[.int .i64 n,.slice A nl cl] w fun e w'=>e=.returned (.string (mk (fmT n l)))∧Below w.heap.size w w':=by
 obtain ⟨rfl,hnc,hcm,_⟩:=rdIss_at h
 have hcm':cl≤9223372036854775807:=hcm
 have HA:=Lib.hid (fun (W:World) (hb:Below w.heap.size w W)=>(rdIss_at (rdIss_good.below h hb)).2.2.2)
 have HE:=Lib.hid (fun (W:World) (hb:Below w.heap.size w W)=>E.below hb)
 have IT:=Lib.hid (fun (x:Int) (hx:-9223372036854775808≤x∧x≤9223372036854775807) (W:World) (hb:Below w.heap.size w W)=>itoa12_any x W hx (HE.out W hb))
 have HC:=Lib.hid hc
 have KL:(-9223372036854775808:Int)≤(l.length:Int)∧(l.length:Int)≤9223372036854775807:=by omega
 have B0:=Lib.hid ((Below.refl w.heap.size w).alloc (Nat.le_refl _) (.cells #[.pointer none,.slice none 0 0] 70))
 have D0:=Lib.hid (bld12_new w)
 have HH:=Lib.hid (hd_B n l.length)
 have HL:=Lib.hid (hd_len hn hl)
 have s1:=iS_size hn
 have s2:=iS_size KL
 clear h hcm hc E
 go_enter Tryd.func36,Tryd.ntmps36
 go_wp2_with fail
 refine (IT.out n hn _ B0.out).mono ?_
 rintro e w1 ⟨rfl,hb1⟩
 have B1:=Lib.hid (bel12 B0.out hb1)
 have D1:=Lib.hid (bld12_below D0.out hb1)
 clear hb1 D0
 go_wp2_with fail
 refine (IT.out (l.length:Int) KL _ B1.out).mono ?_
 rintro e w2 ⟨rfl,hb2⟩
 have B2:=Lib.hid (bel12 B1.out hb2)
 have D2:=Lib.hid (bld12_below D1.out hb2)
 clear hb2 D1
 go_wp2_with fail
 have T3:=Lib.hid (show ∀k j,k < l.length→(hdT n l.length++(l.take k).flatMap clT++(l[k]!.take j).flatMap litT).length≤200000000000 from fun k j hk=>by
  have q1:=HL.out
  have q2:=cls_len (l:=l.take k) (fun c hc=>HC.out c (List.mem_of_mem_take hc))
  have q3:=HC.out l[k]! (by rw [getElem!_pos l k hk];exact List.getElem_mem hk)
  have q4:=lits_len (c:=l[k]!.take j) (fun x hx=>q3.2 x (List.mem_of_mem_take hx))
  rw [List.length_take] at q2 q4
  rw [List.length_append,List.length_append]
  omega)
 have T4:=Lib.hid (show ∀k,k≤l.length→(hdT n l.length++(l.take k).flatMap clT).length≤200000000000 from fun k hk=>by
  have q1:=HL.out
  have q2:=cls_len (l:=l.take k) (fun c hc=>HC.out c (List.mem_of_mem_take hc))
  rw [List.length_take] at q2
  rw [List.length_append]
  omega)
 obtain ⟨hs,hhs⟩:∃hs,hs=((((⟨#[112,32,99,110,102,32]⟩:ByteArray)++iS n)++⟨#[32]⟩)++iS l.length++⟨#[10]⟩):=⟨_,rfl⟩
 rw [←hhs] at HH ⊢
 clear hhs
 have hsz:hs.size≤60:=by rw [←B_len,HH.out];exact HL.out
 refine (wstr12_any w.heap.size w.heap.size (Lib.strCells { data:=#[] }) hs w2 D2.out (by rw [Lib.strCells_length];show 0+_≤_;omega) B2.out.size).mono ?_
 rintro e w3 ⟨rfl,h3,hb3⟩
 have B3:=Lib.hid (B2.out.trans hb3)
 have C3:=Lib.hid (show ∃cur:ByteArray,B cur=hdT n l.length++(l.take 0).flatMap clT∧IsBld12 w.heap.size w.heap.size (Lib.strCells cur) w3 from ⟨hs,by rw [HH.out,List.take_zero,List.flatMap_nil,List.append_nil],.inr (by
  have:Lib.strCells ({ data:=#[] }:ByteArray)++Lib.strCells hs=Lib.strCells hs:=rfl
  rw [this] at h3;exact h3)⟩)
 clear h3 hb3 D2 B0 B1 B2 HH s1 s2 hsz
 go_wp2
 go_loopw [22] (fun i wr=>∃k:Nat,k≤l.length∧i=.int .i64 k∧Hid (∃cur:ByteArray,B cur=hdT n l.length++(l.take k).flatMap clT∧IsBld12 w.heap.size w.heap.size (Lib.strCells cur) wr)∧Below w.heap.size w wr) (fun i _=>l.length - (intOf i).toNat)
 case atStart=>exact ⟨0,Nat.zero_le _,rfl,C3,B3.out⟩
 case round=>
  clear C3 B3
  obtain ⟨k,hk,rfl,H1,hbel⟩:=hrel
  have HB:=Lib.hid hbel
  clear hbel
  by_cases hlt:k < l.length
  ·obtain ⟨ad,rfl,had,A2,c2,g0,g1⟩:=HA.out wr HB.out k hlt
   have i0:(0:Int)≤(k:Int):=by omega
   have i1:(k:Int) < (l.length:Int):=by omega
   obtain ⟨-,hc2,hm2,-⟩:=rdInts_at g1
   have hm2':c2≤9223372036854775807:=hm2
   have HI:=Lib.hid (fun (W:World) (hW:Below w.heap.size w W)=>(rdInts_at (rdInts_good.keep (w':=W) g1 (fun b hb=>(hW.block b hb).trans (HB.out.block b hb).symm))).2.2.2)
   have RC:=Lib.hid (HC.out l[k] (List.getElem_mem hlt)).2
   have ST:=Lib.hid (flat_take clT hlt)
   have T3k:=Lib.hid (fun j=>T3.out k j hlt)
   rw [getElem!_pos l k hlt] at T3k
   have C4:=Lib.hid (show ∃cur:ByteArray,B cur=hdT n l.length++(l.take k).flatMap clT++(l[k].take 0).flatMap litT∧IsBld12 w.heap.size w.heap.size (Lib.strCells cur) wr from by
    obtain ⟨cur,q1,q2⟩:=H1.out
    exact ⟨cur,by rw [q1,List.take_zero,List.flatMap_nil,List.append_nil],q2⟩)
   have T4k:=Lib.hid (T4.out (k+1) hlt)
   rw [ST.out] at T4k
   generalize hgn:(l.take (k+1)).flatMap clT=gn at *
   have HGN:=Lib.hid hgn
   generalize (l.take k).flatMap clT=gl at *
   generalize hdT n l.length=hh at *
   generalize l[k]=c at *
   clear had g1 H1 T3 T4 hgn
   obtain ⟨wo,rfl⟩:∃W,W=wr:=⟨_,rfl⟩
   go_wp2
   go_loopw [28] (fun i wr=>∃j:Nat,j≤c.length∧i=.int .i64 j∧Hid (∃cur:ByteArray,B cur=hh++gl++(c.take j).flatMap litT∧IsBld12 w.heap.size w.heap.size (Lib.strCells cur) wr)∧Below w.heap.size w wr) (fun i _=>c.length - (intOf i).toNat)
   case atStart=>exact ⟨0,Nat.zero_le _,rfl,C4,HB.out⟩
   case round=>
    clear C4 HB
    obtain ⟨j,hj,rfl,H2,hbel⟩:=hrel
    have HB:=Lib.hid hbel
    clear hbel
    by_cases hlt2:j < c.length
    ·obtain ⟨ad2,rfl,had2,g2⟩:=HI.out wr HB.out j hlt2
     have j0:(0:Int)≤(j:Int):=by omega
     have j1:(j:Int) < (c.length:Int):=by omega
     have S2:=Lib.hid (flat_take litT hlt2)
     have T5:=Lib.hid (T3k.out j)
     have T6:=Lib.hid (T3k.out (j+1))
     rw [S2.out] at T6
     have hx:=RC.out c[j] (List.getElem_mem hlt2)
     have IX:=Lib.hid (IT.out c[j] hx)
     have sx:=iS_size hx
     have LB:=Lib.hid (lit_B c[j])
     clear had2
     generalize hgn2:(c.take (j+1)).flatMap litT=gn2 at *
     have HGN2:=Lib.hid hgn2
     generalize (c.take j).flatMap litT=gl2 at *
     generalize c[j]=x at *
     clear hgn2
     go_wp2_with fail
     refine (IX.out wr HB.out).mono ?_
     rintro e w4 ⟨rfl,hb4⟩
     have HB4:=Lib.hid (bel12 HB.out hb4)
     obtain ⟨cur,q1,q2⟩:=H2.out
     have Q1:=Lib.hid q1
     have Q2:=Lib.hid (bld12_below q2 hb4)
     clear hb4 q1 q2 H2 IX
     go_wp2_with fail
     obtain ⟨ls,hls⟩:∃ls,ls=iS x++(⟨#[32]⟩:ByteArray):=⟨_,rfl⟩
     rw [←hls] at LB ⊢
     have lsz:ls.size≤22:=by rw [hls,ByteArray.size_append];show _+1≤22;omega
     clear hls
     refine (wstr12_any w.heap.size w.heap.size (Lib.strCells cur) ls w4 Q2.out (by rw [Lib.strCells_length,←B_len,Q1.out];have:=T5.out;omega) HB4.out.size).mono ?_
     rintro e w5 ⟨rfl,h5,hb5⟩
     have HB5:=Lib.hid (HB4.out.trans hb5)
     have NX:=Lib.hid (show ∃cur:ByteArray,B cur=hh++gl++gn2∧IsBld12 w.heap.size w.heap.size (Lib.strCells cur) w5 from ⟨cur++ls,by rw [B_append,Q1.out,LB.out,S2.out,List.append_assoc],.inr (by rw [←strCells12_app];exact h5)⟩)
     clear h5 hb5 Q1 Q2 LB lsz
     go_wp2
     go_roundw
     case rel=>exact ⟨j+1,by omega,by go_num,by rw [HGN2.out];exact NX,HB5.out⟩
     case measure=>simp [intOf];omega
    ·obtain ⟨cur,q1,q2⟩:=H2.out
     rw [List.take_of_length_le (by omega)] at q1
     have Q1:=Lib.hid q1
     have Q2:=Lib.hid q2
     clear q1 q2 H2
     go_wp2_with fail
     refine (wstr12_any w.heap.size w.heap.size (Lib.strCells cur) { data:=#[48,10] } wr Q2.out (by
      rw [Lib.strCells_length,←B_len,Q1.out]
      have:=T3k.out c.length
      rw [List.take_of_length_le (Nat.le_refl _)] at this
      show _+2≤_
      omega) HB.out.size).mono ?_
     rintro e w5 ⟨rfl,h5,hb5⟩
     have HB5:=Lib.hid (HB.out.trans hb5)
     have NX:=Lib.hid (show ∃cur:ByteArray,B cur=hh++gn∧IsBld12 w.heap.size w.heap.size (Lib.strCells cur) w5 from ⟨cur++{ data:=#[48,10] },by rw [B_append,Q1.out,ST.out];unfold clT;rw [List.append_assoc,List.append_assoc];rfl,.inr (by rw [←strCells12_app];exact h5)⟩)
     clear h5 hb5 Q1 Q2
     go_wp2
     go_roundw
     case rel=>exact ⟨k+1,by omega,by go_num,by rw [HGN.out];exact NX,HB5.out⟩
     case measure=>simp [intOf];omega
  ·obtain ⟨cur,hc1,hc2⟩:=H1.out
   have X:=Lib.hid (show (⟨cur.data.toList.toArray⟩:ByteArray)=mk (fmT n l) by
    have:B cur=fmT n l:=by rw [hc1,List.take_of_length_le (by omega)];rfl
    rw [←eq_mk this])
   have hcb:Lib.IsBuilder 70 5 w.heap.size w.heap.size (Lib.byteCells cur.data.toList) wr:=hc2
   clear H1
   go_wp2_with fail
   refine (Tryd.Builder_String_any w.heap.size w.heap.size cur.data.toList wr hcb HB.out.size).mono ?_
   rintro e w2 ⟨rfl,hb2⟩
   have HB2:=Lib.hid (HB.out.trans hb2)
   clear hb2 hcb hc2
   go_wp2
   go_ret
   exact ⟨by rw [X.out];try rfl,HB2.out⟩
def prF (n:Int) (l:List (List Int)):ByteArray:=if okF n l=true then mk (fmT n l) else ⟨#[]⟩
theorem okF_ints {n:Int} {l:List (List Int)} (h:okF n l=true):(-9223372036854775808≤n∧n≤9223372036854775807)∧l.length≤400000∧∀c ∈ l,c.length≤20000∧∀x ∈ c,-9223372036854775808≤x∧x≤9223372036854775807:=by
 obtain ⟨a,b,c,d⟩:=okF_spec h
 refine ⟨by omega,c,fun q hq=>⟨(d q hq).1,fun x hx=>?_⟩⟩
 obtain ⟨_,_,_⟩:=(d q hq).2 x hx
 omega
set_option maxHeartbeats 2000000 in
theorem print12_any (n:Int) (A:Option Addr) (nl cl:Nat) (l:List (List Int)) (w:World) (h:rdIss w (lt_ w.heap.size) l [.slice A nl cl]) (E:Pow w) :
  Calls Tryd.prog 17 #[.int .i64 n,.slice A nl cl] w fun e w'=>e=.returned (.string (prF n l))∧Below w.heap.size w w':=by
 have KR:=Lib.hid (right12_any n A nl cl l w h)
 cases hok:okF n l
 ·have X:=Lib.hid (show prF n l=⟨#[]⟩ by unfold prF;rw [hok];rfl)
  rw [hok] at KR
  clear hok h E
  go_enter Tryd.func17,Tryd.ntmps17
  go_wp2_with fail
  refine KR.out.mono ?_
  rintro e w1 ⟨rfl,hb⟩
  have HB:=Lib.hid hb
  clear hb
  go_wp2
  go_ret
  exact ⟨by rw [X.out];try rfl,HB.out⟩
 ·have X:=Lib.hid (show prF n l=mk (fmT n l) by unfold prF;rw [hok];rfl)
  obtain ⟨o1,o2,o3⟩:=okF_ints hok
  rw [hok] at KR
  have TX:=Lib.hid (fun (W:World) (hb:Below w.heap.size w W)=>text12_any n A nl cl l W o1 (rdIss_good.up (rdIss_good.below h hb) hb.size) o2 o3 (E.below hb))
  clear hok h E o1 o2 o3
  go_enter Tryd.func17,Tryd.ntmps17
  go_wp2_with fail
  refine KR.out.mono ?_
  rintro e w1 ⟨rfl,hb⟩
  have HB:=Lib.hid hb
  clear hb
  go_wp2_with fail
  refine (TX.out w1 HB.out).mono ?_
  rintro e w2 ⟨rfl,hb2⟩
  have HB2:=Lib.hid (bel12 HB.out hb2)
  clear hb2
  go_wp2
  go_ret
  exact ⟨by rw [X.out];try rfl,HB2.out⟩
end Go.Proofs.YtgjlgdpbmhdnbaaDoor
namespace Go.Proofs.YtgjlgdpbmhdnbaaDoor
open Go.RowKit Go.ChangeShapes Go.WideShapes Go.ChangeAt
def laidL:List (String × DataW Unit):=[("math/bits.deBruijn32tab",Rows.laid_math_bits_deBruijn32tab),("math/bits.deBruijn64tab",Rows.laid_math_bits_deBruijn64tab),("internal/strconv.uint64pow10",Rows.laid_internal_strconv_uint64pow10)]
theorem g_pow:Tryd.prog.globalNamed "internal/strconv.uint64pow10"=some 0:=by kernel_rfl
theorem t_pow:(Tryd.prog.globals[0]?).map (·.type)=some 107:=by kernel_rfl
theorem c_pow:Tryd.prog.cellsOf 107=20:=by kernel_rfl
theorem c_u64:Tryd.prog.cellsOf 88=1:=by kernel_rfl
theorem d_pow:(Rows.laid_internal_strconv_uint64pow10:DataW Unit)=Lib.tabData .u64 Lib.pow10Tab:=by kernel_rfl
theorem pow12_of {W:World} (h0:laidMetH Tryd.prog laidL W) (hsh:W.ShapedOpen Tryd.prog):Pow W:=by
 rw [MakeChecks.laidMetH_plain _ _ _ (by kernel_rfl)] at h0
 have h2:=h0.tail.tail
 rw [d_pow] at h2
 exact Lib.tabIs_of_head g_pow t_pow Tryd.underlying107 Tryd.underlying88 c_u64 c_pow h2
theorem own':ownKnob Tryd.prog.godebug=none:=by kernel_rfl
theorem door_os (os:Os):(World.laidAll Tryd.prog os laidL).os=os:=World.laidAll_os _ _ _
theorem door_shaped (os:Os) (args:Array Value):((World.laidAll Tryd.prog os laidL).forCall (fun _ _=>0) ⟨#[],args,[]⟩).Shaped Tryd.prog:=World.shaped_of_ZipB (by kernel_rfl) (by kernel_rfl)
theorem door_met (os:Os) (args:Array Value):laidMetH Tryd.prog laidL ((World.laidAll Tryd.prog os laidL).forCall (fun _ _=>0) ⟨#[],args,[]⟩).memory:=by
 rw [MakeChecks.laidMetH_plain _ _ _ (by kernel_rfl)]
 exact laidMet_laidAll _ (by kernel_rfl) (by kernel_rfl)
end Go.Proofs.YtgjlgdpbmhdnbaaDoor
