/- What the laws rest on: N8c, E11f, E8o, Door. -/
import Derived.Test.YtpilmhoakopcaaaGreatDoorTie
import Derived.Test.YtpilmhoakopcaaaGreatDoorCards
import Derived.LaidMore
import Derived.Lay
import Derived.Stop.Joined
import Derived.Stop.LaidErr
import Derived.Deep.DeepHandedRow
import Derived.Test.YtpilmhoakopcaaaGreatDoorQALZC
import Derived.Test.YtpilmhoakopcaaaGreatDoorQARZC
set_option maxRecDepth 100000
set_option linter.unusedVariables false
set_option linter.unusedSimpArgs false
namespace Go.Proofs.YtpilmhoakopcaaaGreatDoor
open Go.RowKit
set_option maxHeartbeats 4000000 in
theorem ploss_any (A:Option Addr) (n c:Nat) (l:List Pn) (nm:ByteArray) (A':Option Addr) (n' c':Nat) (all:List ByteArray) (v:ByteArray) (w:World) (h:rdPns w (lt_ w.heap.size) l [.slice A n c]) (h':rdBas w (lt_ w.heap.size) all [.slice A' n' c'])
  (hB:Bd8 l) :
  Calls Tryz.prog 55 #[.slice A n c,.string nm,.slice A' n' c',.string v] w fun e w'=>e=.returned (.int .i64 (lossN l nm all v))∧Below w.heap.size w w':=by
 obtain ⟨rfl,hnc,hcm,-⟩:=rdBas_at h'
 have hcm':c'≤9223372036854775807:=hcm
 have H:=Lib.hid h
 have H':=Lib.hid h'
 have KP:=Lib.hid (fun u W hW=>pprio_any A n c l nm u W hW)
 have BD:=Lib.hid (fun u=>prio_in (b:=1099511627776) (by decide) hB nm u)
 have K0:=Lib.hid (KP.out v w h)
 have X:=Lib.hid (show lossN l nm all v=maxF (prioN l nm) (prioN l nm v) (all.take all.length) - prioN l nm v by rw [List.take_length];rfl)
 have MB:=Lib.hid (fun k=>maxF_in (f:=prioN l nm) (b:=prioN l nm v) (c:=1099511627776) (all:=all.take k) (BD.out v) BD.out)
 have MS:=Lib.hid (fun k hk=>maxF_step (prioN l nm) (prioN l nm v) all (k:=k) hk)
 have M0:=Lib.hid (show prioN l nm v=maxF (prioN l nm) (prioN l nm v) (all.take 0) from rfl)
 obtain ⟨o1,o2⟩:=BD.out v
 clear h h' hcm hB
 generalize lossN l nm all v=R at *
 generalize prioN l nm v=own at *
 generalize prioN l nm=f at *
 go_enter Tryz.func55,Tryz.ntmps55
 go_wp2_with fail
 refine K0.out.mono ?_
 rintro e w1 ⟨rfl,hb⟩
 have B1:=Lib.hid hb
 clear hb K0
 go_wp2
 go_loopw [10,20] (fun b i wr=>∃k:Nat,k≤all.length∧i=.int .i64 k∧b=.int .i64 (maxF f own (all.take k))∧Below w.heap.size w wr) (fun _ i _=>all.length - (intOf i).toNat)
 case atStart=>exact ⟨0,Nat.zero_le _,rfl,by rw [←M0.out],B1.out⟩
 case round=>
  obtain ⟨k,hk,rfl,rfl,hbel⟩:=hrel
  have HB:=Lib.hid hbel
  obtain ⟨m1,m2⟩:=MB.out k
  by_cases hlt:k < all.length
  ·obtain ⟨_,_,_,hat⟩:=rdBas_at (rdBas_good.up (rdBas_good.below H'.out hbel) hbel.size)
   obtain ⟨ad,rfl,had,c0⟩:=hat k hlt
   have K:=Lib.hid (KP.out all[k] wr (rdPns_good.up (rdPns_good.below H.out hbel) hbel.size))
   have SX:=Lib.hid (MS.out k hlt)
   obtain ⟨f1,f2⟩:=BD.out all[k]
   have i0:(0:Int)≤(k:Int):=by omega
   have i1:(k:Int) < (all.length:Int):=by omega
   clear hat hbel had
   generalize all[k]=u at *
   generalize f u=y at *
   generalize maxF f own (all.take k)=b at *
   go_wp2_with fail
   refine K.out.mono ?_
   rintro e w2 ⟨rfl,hb⟩
   have HB2:=Lib.hid (HB.out.trans (hb.mono HB.out.size))
   clear hb c0
   go_wp2
   go_roundw
   case rel=>exact ⟨k+1,by omega,by go_num,by rw [SX.out];try rfl,HB2.out⟩
   case measure=>simp [intOf];omega
  ·obtain rfl:k=all.length:=by omega
   clear hbel
   generalize maxF f own (all.take all.length)=b at *
   go_wp2
   go_ret
   exact ⟨by rw [X.out];try rfl,HB.out⟩
def Pw11 (l:List Pn):Prop:=l.length≤20∧∀x ∈ l,x.n.size≤100∧x.x.size≤100
set_option maxHeartbeats 2000000 in
theorem wishes11_any (A:Option Addr) (n c:Nat) (l:List Pn) (w:World) (h:rdPns w (lt_ w.heap.size) l [.slice A n c]) :
  Calls Tryz.prog 10 #[.slice A n c] w fun e w'=>LtR (Pw11 l) e∧w=w':=by
 obtain ⟨rfl,hnc,hcm,hat⟩:=rdPns_at h
 have hcm':c≤9223372036854775807:=hcm
 have HAT:=Lib.hid hat
 clear hcm hat h
 by_cases g0:(20:Int) < (l.length:Int)
 ·go_enter Tryz.func10,Tryz.ntmps10
  go_wp2
  go_ret
  exact ⟨ltR_no _,rfl⟩
 have HL:=Lib.hid (show l.length≤20 by omega)
 go_enter Tryz.func10,Tryz.ntmps10
 go_wp2
 go_loop [3] (fun i=>∃k:Nat,k≤l.length∧i=.int .i64 k∧(∀j (hj:j < l.length),j < k→(l[j].n.size≤100∧l[j].x.size≤100))) (fun i=>l.length - (intOf i).toNat)
 case atStart=>exact ⟨0,Nat.zero_le _,rfl,fun j _ hj=>absurd hj (Nat.not_lt_zero _)⟩
 case round=>
  obtain ⟨k,hk,rfl,hall⟩:=hrel
  have HA:=Lib.hid hall
  clear hall
  by_cases hlt:k < l.length
  ·obtain ⟨ad,rfl,had,c0,c1,c2⟩:=HAT.out k hlt
   have i0:(0:Int)≤(k:Int):=by omega
   have i1:(k:Int) < (l.length:Int):=by omega
   have SX:=Lib.hid (fun hs:(l[k].n.size≤100∧l[k].x.size≤100)=>show ∀j (hj:j < l.length),j < k+1→(l[j].n.size≤100∧l[j].x.size≤100) from fun j hj h=>by
    by_cases hjk:j=k
    ·subst hjk;exact hs
    ·exact HA.out j hj (by omega))
   clear had
   generalize l[k]=x at *
   by_cases q0:(100:Int) < (x.n.size:Int)
   ·go_wp2
    go_ret
    exact ⟨ltR_no _,rfl⟩
   by_cases q1:(100:Int) < (x.x.size:Int)
   ·go_wp2
    go_ret
    exact ⟨ltR_no _,rfl⟩
   have NX:=Lib.hid (SX.out ⟨by omega,by omega⟩)
   go_wp2
   go_round
   case rel=>exact ⟨k+1,by omega,by go_num,NX.out⟩
   case measure=>simp [intOf];omega
  ·have X:=Lib.hid (show Pw11 l from ⟨HL.out,fun x hx=>by
    obtain ⟨j,hj,rfl⟩:=List.getElem_of_mem hx
    exact HA.out j hj (by omega)⟩)
   go_wp2
   go_ret
   exact ⟨⟨true,rfl,fun _=>X.out⟩,rfl⟩
end Go.Proofs.YtpilmhoakopcaaaGreatDoor
namespace Go.Proofs.YtpilmhoakopcaaaGreatDoor
open Go.RowKit Go.WideShapes Go.ChangeShapes Go.ChangeAt Go.WideMaps Go.WideElems Go.Joins Go.Deep
section
variable {H:Type} {enc:TypeId × Value→H} {W:World}
def PnOk (a:Pn):Prop:=a.n.size≤maxLen∧a.x.size≤maxLen∧(Lit.int .i64 a.p).wf=true
theorem cells_pn:Tryz.prog.cellsOf 70=3:=by kernel_rfl
theorem trod_pn {base n:Nat} {sp:Nat→Bool} {held:Bool} {cs:List Value} {y:DataW H × List MemPlace} (h:DataW.trod enc Tryz.prog W base sp held n 70 cs=some y):∃x:Pn,cs=x.cells∧PnOk x:=by
 obtain ⟨y0,y1,y2,m,_,hl,h0,h1,h2⟩:=trod_struct3 Tryz.underlying70 h
 rw [cells_pn] at hl
 rcases cs with _|⟨c0,_|⟨c1,_|⟨c2,_|⟨c3,cs⟩⟩⟩⟩
 ·simp at hl
 ·simp at hl
 ·simp at hl
 ·have e0:DataW.trod enc Tryz.prog W base sp held m 9 [c0]=some y0:=h0
  have e1:DataW.trod enc Tryz.prog W base sp held m 9 [c1]=some y1:=h1
  have e2:DataW.trod enc Tryz.prog W base sp held m 3 [c2]=some y2:=h2
  obtain ⟨u,rfl,wu⟩:=one_string e0
  obtain ⟨r,rfl,wr⟩:=one_string e1
  obtain ⟨e,rfl,we⟩:=one_int e2
  exact ⟨⟨u,r,e⟩,rfl,wu,wr,we⟩
 ·simp at hl
theorem open_pins_trod {base n:Nat} {sp:Nat→Bool} {held:Bool} {t:TypeId} {cs:List Value} {y:DataW H × List MemPlace} (ht:Tryz.prog.underlying t=some (.slice 70)) (h:DataW.trod enc Tryz.prog W base sp held n t cs=some y) :
  ∃A len c l,cs=[.slice A len c]∧rdPns W (lt_ W.heap.size) l [.slice A len c]∧(∀a ∈ l,PnOk a):=by
 rcases open_slice ht h with ⟨rfl,_⟩|⟨a,len,cap,m,k,D,Pl,rfl,hb,hl,hm,hmm,_,hx⟩
 ·exact ⟨none,0,0,[],rfl,rdRow_nil _ _,by simp⟩
 ·have hlm:len≤m:=by rw [hmm];split<;>omega
  have hat:∀i,i < len→∃x:Pn,PnOk x∧a.block < W.heap.size∧∀j u,x.cells[j]?=some u→W.cell? (a.add (i*3+j))=some u:=by
   intro i hi
   obtain ⟨cs',hc,ht'⟩:=hx i (by omega)
   rw [cells_pn] at hc
   obtain ⟨x,rfl,hok⟩:=trod_pn ht'
   obtain ⟨_,hcl,hcell⟩:=World.cells?_some hc
   have key:∀j u,x.cells[j]?=some u→W.cell? (a.add (i*3+j))=some u:=fun j u hu=>by
    have hj:j < 3:=by have:=(List.getElem?_eq_some_iff.1 hu).1;simpa [Pn.cells] using this
    have:=hcell j hj
    rw [hu] at this
    rw [←this]
    congr 1
    unfold Addr.add
    by_cases h1:i*3=0<;>by_cases h2:j=0<;>simp [h1,h2,Nat.add_assoc]
   have hb':=World.block_lt_of_cell? _ _ (key 0 _ rfl)
   rw [blk_add] at hb'
   exact ⟨x,hok,hb',key⟩
  refine ⟨some a,len,cap,List.ofFn fun i:Fin len=>Classical.choose (hat i.1 i.2),rfl,⟨some a,cap,by simp,by simpa using hl,hm,fun i hi=>?_⟩,fun x hx=>?_⟩
  ·simp only [List.length_ofFn] at hi
   have hs:=Classical.choose_spec (hat i hi)
   refine ⟨a,_,rfl,hs.2.1,?_,?_,hs.2.2⟩
   ·show _=Pn.cells _
    rw [List.getElem_ofFn]
   ·rfl
  ·obtain ⟨i,hi⟩:=List.mem_ofFn.1 hx
   rw [←hi];exact (Classical.choose_spec (hat i.1 i.2)).1
theorem open_pins_arg {v:Value} {d:DataW H} {p:List MemPlace} {base:Nat} (hv:Value.okWide Tryz.prog W .any base 24 v) (h:DataW.Trod enc Tryz.prog W 0 (fun _=>true) true 24 v d p) :
  ∃A n c l,v=.slice A n c∧rdPns W (lt_ W.heap.size) l [.slice A n c]∧(∀a ∈ l,PnOk a):=by
 obtain ⟨a0,len,cap,rfl⟩:=okWide_slice Tryz.underlying24 hv
 obtain ⟨fuel,hf⟩:=h
 obtain ⟨A,n,c,l,hcs,h1,h2⟩:=open_pins_trod Tryz.underlying24 hf
 simp [Value.cells] at hcs
 obtain ⟨rfl,rfl,rfl⟩:=hcs
 exact ⟨a0,len,cap,l,rfl,h1,h2⟩
end
end Go.Proofs.YtpilmhoakopcaaaGreatDoor
namespace Go.Proofs.YtpilmhoakopcaaaGreatDoor
open Go.RowKit Go.ChangeShapes Go.WideShapes Go.ChangeAt
def laidL:List (String × DataW Unit):=[("math/bits.deBruijn32tab",Rows.laid_math_bits_deBruijn32tab),("math/bits.deBruijn64tab",Rows.laid_math_bits_deBruijn64tab),("internal/strconv.uint64pow10",Rows.laid_internal_strconv_uint64pow10),("unicode/utf8.acceptRanges",Rows.laid_unicode_utf8_acceptRanges),("strconv.ErrRange",Rows.laid_strconv_ErrRange),("strconv.ErrSyntax",Rows.laid_strconv_ErrSyntax),("keelson/relation.signs",Rows.laid_keelson_relation_signs),("unicode/utf8.first",Rows.laid_unicode_utf8_first)]
theorem g_pow:Tryz.prog.globalNamed "internal/strconv.uint64pow10"=some 4:=by kernel_rfl
theorem t_pow:(Tryz.prog.globals[4]?).map (·.type)=some 236:=by kernel_rfl
theorem c_pow:Tryz.prog.cellsOf 236=20:=by kernel_rfl
theorem c_u64:Tryz.prog.cellsOf 154=1:=by kernel_rfl
theorem d_pow:(Rows.laid_internal_strconv_uint64pow10:DataW Unit)=Lib.tabData .u64 Lib.pow10Tab:=by kernel_rfl
theorem g_rng:Tryz.prog.globalNamed "strconv.ErrRange"=some 3:=by kernel_rfl
theorem t_rng:(Tryz.prog.globals[3]?).map (·.type)=some 188:=by kernel_rfl
theorem g_syn:Tryz.prog.globalNamed "strconv.ErrSyntax"=some 2:=by kernel_rfl
theorem t_syn:(Tryz.prog.globals[2]?).map (·.type)=some 188:=by kernel_rfl
theorem c_es:Tryz.prog.cellsOf 234=1:=by kernel_rfl
theorem c_str:Tryz.prog.cellsOf 9=1:=by kernel_rfl
theorem g_sgn:Tryz.prog.globalNamed "keelson/relation.signs"=some 0:=by kernel_rfl
theorem t_sgn:(Tryz.prog.globals[0]?).map (·.type)=some 181:=by kernel_rfl
theorem c_sgn:Tryz.prog.cellsOf 181=5:=by kernel_rfl
theorem d_sgn:(Rows.laid_keelson_relation_signs:DataW Unit)=strTab [[60,60],[60,61],[61],[62,61],[62,62]]:=by kernel_rfl
theorem star: "*"++ "errors.errorString"= "*errors.errorString":=by decide
theorem row_es (u:TypeId) (h:Tryz.prog.typeName? 3 u=some "*errors.errorString"):u=232:=
 typeName_ptr_named (nm:= "errors.errorString") (by rw [star];kernel_rfl) (by kernel_rfl) (by decide) u (by rw [star];exact h)
theorem env_of {W:World} (h0:laidMetH Tryz.prog laidL W) (hsh:W.ShapedOpen Tryz.prog):EnvR W:=by
 rw [MakeChecks.laidMetH_plain _ _ _ (by kernel_rfl)] at h0
 have h1:=h0.tail
 have h2:=h1.tail
 have h3:=h2.tail
 have h4:=h3.tail
 have h5:=h4.tail
 have h6:=h5.tail
 obtain ⟨a0,s0,hv0,-,-,-⟩:=laid_sentinel h4 g_rng t_rng Tryz.underlying188 row_es Tryz.underlying232 Tryz.underlying234 rfl rfl Tryz.underlying9 c_es c_str
 obtain ⟨a1,s1,hv1,-,-,-⟩:=laid_sentinel h5 g_syn t_syn Tryz.underlying188 row_es Tryz.underlying232 Tryz.underlying234 rfl rfl Tryz.underlying9 c_es c_str
 have hs:=fun i z hi=>strs_of_head g_sgn t_sgn Tryz.underlying181 Tryz.underlying9 c_str c_sgn (d_sgn ▸ h6) i z hi
 have hp:=h2
 rw [d_pow] at hp
 exact ⟨⟨Go.Proofs.cell_of_shapedOpen_int (zero:=#[.int .i64 0]) (t:=3) hsh (of_decide_eq_true (by kernel_rfl)) (by kernel_rfl) rfl (by kernel_rfl) (by kernel_rfl) Tryz.underlying3,Lib.tabIs_of_head g_pow t_pow Tryz.underlying236 Tryz.underlying154 c_u64 c_pow hp,⟨_,_,hv1⟩,⟨_,_,hv0⟩⟩,⟨hs 0 _ rfl,hs 1 _ rfl,hs 2 _ rfl,hs 3 _ rfl,hs 4 _ rfl⟩⟩
theorem own':ownKnob Tryz.prog.godebug=none:=by kernel_rfl
theorem door_os (os:Os):(World.laidAll Tryz.prog os laidL).os=os:=World.laidAll_os _ _ _
theorem door_shaped (os:Os) (args:Array Value):((World.laidAll Tryz.prog os laidL).forCall (fun _ _=>0) ⟨#[],args,[]⟩).Shaped Tryz.prog:=World.shaped_of_ZipB (by kernel_rfl) (by kernel_rfl)
theorem door_met (os:Os) (args:Array Value):laidMetH Tryz.prog laidL ((World.laidAll Tryz.prog os laidL).forCall (fun _ _=>0) ⟨#[],args,[]⟩).memory:=by
 rw [MakeChecks.laidMetH_plain _ _ _ (by kernel_rfl)]
 exact laidMet_laidAll _ (by kernel_rfl) (by kernel_rfl)
end Go.Proofs.YtpilmhoakopcaaaGreatDoor
