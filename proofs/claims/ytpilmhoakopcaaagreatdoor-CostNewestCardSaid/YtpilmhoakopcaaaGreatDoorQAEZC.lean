/- What the laws rest on: Ver9, VerQ, Ver3, Ver4, Ver5, Ver10. -/
import Derived.Lib.IndexBytes
import Derived.BigRegion
import Derived.Deep.RegionWith
import Derived.Test.YtpilmhoakopcaaaGreatDoorQADZC
import Derived.Test.YtpilmhoakopcaaaGreatDoorQAFZC
set_option maxRecDepth 100000
set_option linter.unusedVariables false
set_option linter.unusedSimpArgs false
namespace Go.Proofs.YtpilmhoakopcaaaGreatDoor
open Go.RowKit
def atoiV (s:ByteArray):Int:=match Lib.atoiAll s.data.toList with|.ok v=>v|.range=>Lib.atoiSat s.data.toList|_=>0
def splE (s:ByteArray):Int:=match firstI (B s) 0 with|none=>0|some i=>atoiV (mk ((B s).take i))
theorem atoi_any (s:ByteArray) (w:World) (hs:s.size≤65536) (E:Env w):Calls Tryz.prog 170 #[.string s] w fun e w'=>(∃ev,e=.returned (.tuple #[.int .i64 (atoiV s),ev]))∧Below w.heap.size w w':=by
 unfold atoiV
 cases h:Lib.atoiAll s.data.toList
 ·rename_i v
  refine (Tryz.strconv_Atoi_ok s (by omega) v h w).mono ?_
  rintro e w' ⟨rfl,hw⟩
  refine ⟨⟨_,rfl⟩,?_⟩
  rcases hw with rfl|⟨t,rfl⟩
  ·exact Below.refl _ _
  ·exact Lib.bytesWorld_below _ _ _
 ·obtain ⟨tp,p,hv⟩:=E.syn
  refine (Any.strconv_Atoi_syntax_var Tryz.laysC172 s (by omega) h tp p w hv).mono ?_
  rintro e w' ⟨N,rfl,_,_,hb⟩
  exact ⟨⟨_,rfl⟩,hb⟩
 ·obtain ⟨tp,p,hv⟩:=E.rng
  refine (Tryz.strconv_Atoi_range_var s (by omega) h tp p w hv).mono ?_
  rintro e w' ⟨N,rfl,_,_,hb⟩
  exact ⟨⟨_,rfl⟩,hb⟩
theorem index_first:∀(l:List UInt8) (n:Nat),firstI (l.map UInt8.toNat) n=if 0≤Lib.indexByte l 58 then some (n+(Lib.indexByte l 58).toNat) else none
 | [],n=>by simp [firstI,Lib.indexByte]
 | c::l,n=>by
  have ih:=index_first l (n+1)
  have hg:=Lib.indexByte_ge l 58
  simp only [List.map_cons,firstI,Lib.indexByte]
  by_cases h:c=58
  ·subst h;simp
  ·have h2:c.toNat≠58:=fun hh=>h (UInt8.toNat_inj.1 hh)
   have h3:(c==58)=false:=by rw [beq_eq_false_iff_ne];exact h
   rw [if_neg h2,ih]
   simp only [h3,Bool.false_eq_true,if_false]
   by_cases h4:0≤Lib.indexByte l 58
   ·have h5:(Lib.indexByte l 58==-1)=false:=by rw [beq_eq_false_iff_ne];omega
    simp only [h5,Bool.false_eq_true,if_false]
    rw [if_pos h4,if_pos (by omega)]
    congr 1;omega
   ·have h5:(Lib.indexByte l 58==-1)=true:=by rw [beq_iff_eq];omega
    simp only [h5,if_true]
    rw [if_neg h4,if_neg (by omega)]
theorem cut_none {s:ByteArray} (h:firstI (B s) 0=none) (w:World) (hs:s.size≤65536) (E:Env w) :
  Calls Tryz.prog 169 #[.string s,.string { data:=#[58] }] w fun e w'=>e=.returned (.tuple #[.string s,.string { data:=#[] },.bool false])∧∃n,w'=w.drewN n:=by
 obtain ⟨m,hm⟩:=E.max
 refine (Tryz.strings_Cut s { data:=#[58] } m w (by omega) hm).mono ?_
 rintro e w' ⟨rfl,n,rfl⟩
 refine ⟨?_,n,rfl⟩
 unfold B at h
 rw [index_first] at h
 have hn:¬0≤Lib.indexByte s.data.toList 58:=fun hh=>by rw [if_pos hh] at h;cases h
 have e0:Lib.cut s.data.toList [58]=(s.data.toList,[],false):=by
  unfold Lib.cut;rw [Lib.index_one,if_neg hn]
 show Ending.returned (.tuple #[.string ⟨(Lib.cut s.data.toList [58]).1.toArray⟩,.string ⟨(Lib.cut s.data.toList [58]).2.1.toArray⟩,.bool (Lib.cut s.data.toList [58]).2.2])=_
 rw [e0]
theorem cut_some {s:ByteArray} {i:Nat} (h:firstI (B s) 0=some i) (w:World) (hs:s.size≤65536) (E:Env w) :
  Calls Tryz.prog 169 #[.string s,.string { data:=#[58] }] w fun e w'=>e=.returned (.tuple #[.string (mk ((B s).take i)),.string (mk ((B s).drop (i+1))),.bool true])∧∃n,w'=w.drewN n:=by
 obtain ⟨m,hm⟩:=E.max
 refine (Tryz.strings_Cut s { data:=#[58] } m w (by omega) hm).mono ?_
 rintro e w' ⟨rfl,n,rfl⟩
 refine ⟨?_,n,rfl⟩
 unfold B at h
 rw [index_first] at h
 have hn:0≤Lib.indexByte s.data.toList 58:=by
  rcases Int.lt_or_le (Lib.indexByte s.data.toList 58) 0 with hh|hh
  ·rw [if_neg (by omega)] at h;cases h
  ·exact hh
 rw [if_pos hn] at h
 injection h with h
 have e0:Lib.cut s.data.toList [58]=(s.data.toList.take i,s.data.toList.drop (i+1),true):=by
  unfold Lib.cut;rw [Lib.index_one,if_pos hn,show (Lib.indexByte s.data.toList 58).toNat=i by omega];rfl
 show Ending.returned (.tuple #[.string ⟨(Lib.cut s.data.toList [58]).1.toArray⟩,.string ⟨(Lib.cut s.data.toList [58]).2.1.toArray⟩,.bool (Lib.cut s.data.toList [58]).2.2])=_
 rw [e0,←take_mk,←drop_mk]
theorem last_is (s:ByteArray):∀k,k≤s.size→Lib.lastIdx s 45 k=match lastI (B s) k with|none=>-1|some i=>(i:Int)
 | 0,_=>rfl
 | k+1,h=>by
  have hk:k < s.size:=by omega
  rw [lastI_step hk]
  simp only [Lib.lastIdx]
  rw [LastIndex.byteBang s k hk]
  by_cases h2:s[k].toNat=45
  ·rw [if_pos h2,if_pos (by omega)]
  ·rw [if_neg h2,if_neg (by omega)]
   exact last_is s k (by omega)
theorem dash_none {s:ByteArray} (h:lastI (B s) s.size=none) (w:World) (hs:s.size≤65536):Calls Tryz.prog 171 #[.string s,.int .u8 45] w fun e w'=>e=.returned (.int .i64 (-1))∧w=w':=by
 refine (Tryz.strings_LastIndexByte s 45 (by omega) w).mono ?_
 rintro e w' ⟨rfl,rfl⟩
 exact ⟨by unfold Lib.lastIndexByte;rw [last_is s _ (Nat.le_refl _),h],rfl⟩
theorem dash_some {s:ByteArray} {i:Nat} (h:lastI (B s) s.size=some i) (w:World) (hs:s.size≤65536):Calls Tryz.prog 171 #[.string s,.int .u8 45] w fun e w'=>e=.returned (.int .i64 (i:Int))∧w=w':=by
 refine (Tryz.strings_LastIndexByte s 45 (by omega) w).mono ?_
 rintro e w' ⟨rfl,rfl⟩
 exact ⟨by unfold Lib.lastIndexByte;rw [last_is s _ (Nat.le_refl _),h],rfl⟩
theorem dashU_none {u:ByteArray} (h:lastI (B u) u.size=none):mk (dashU (B u))=u∧mk (dashR (B u))={ data:=#[] }:=by
 unfold dashU dashR
 rw [B_len,h]
 exact ⟨mk_B u,rfl⟩
theorem dashU_some {u:ByteArray} {i:Nat} (h:lastI (B u) u.size=some i):mk (dashU (B u))=u.extract 0 i∧mk (dashR (B u))=u.extract (i+1) u.size:=by
 unfold dashU dashR
 rw [B_len,h]
 exact ⟨ext_take.symm,ext_drop.symm⟩
theorem str_cells {w V w1:World} {T T':TypeId} {a b c x y z:Value} (hV:V=(w.alloc (.cells #[a,b,c] T)).alloc (.cells #[x,y,z] T')) (h:Below V.heap.size V w1) :
  (w1.cell? ⟨w.heap.size,0,none⟩=some a∧w1.cell? ⟨w.heap.size,1,none⟩=some b∧w1.cell? ⟨w.heap.size,2,none⟩=some c)∧
  (w1.frozen? ⟨w.heap.size,0,none⟩=false∧w1.frozen? ⟨w.heap.size,1,none⟩=false∧w1.frozen? ⟨w.heap.size,2,none⟩=false)∧
  (w1.cell? ⟨w.heap.size+1,0,none⟩=some x∧w1.cell? ⟨w.heap.size+1,1,none⟩=some y∧w1.cell? ⟨w.heap.size+1,2,none⟩=some z)∧
  (w1.frozen? ⟨w.heap.size+1,0,none⟩=false∧w1.frozen? ⟨w.heap.size+1,1,none⟩=false∧w1.frozen? ⟨w.heap.size+1,2,none⟩=false)∧Below w.heap.size w w1:=by
 have hs:V.heap.size=w.heap.size+2:=by rw [hV];simp
 refine ⟨⟨(h.cell (by simp only;omega)).trans ?_,(h.cell (by simp only;omega)).trans ?_,(h.cell (by simp only;omega)).trans ?_⟩,⟨(h.frozen (by simp only;omega)).trans ?_,(h.frozen (by simp only;omega)).trans ?_,(h.frozen (by simp only;omega)).trans ?_⟩,⟨(h.cell (by simp only;omega)).trans ?_,(h.cell (by simp only;omega)).trans ?_,(h.cell (by simp only;omega)).trans ?_⟩,⟨(h.frozen (by simp only;omega)).trans ?_,(h.frozen (by simp only;omega)).trans ?_,(h.frozen (by simp only;omega)).trans ?_⟩,?_⟩
 all_goals first|(rw [hV];simp [go_sem];done)|skip
 have hB:Below w.heap.size w V:=by rw [hV];exact ((Below.refl _ w).alloc (Nat.le_refl _) _).alloc (by simp) _
 exact hB.trans (h.mono hB.size)
theorem split_some_some (s:ByteArray) (i:Nat) (j:Nat) (w:World) (hs:s.size≤65536) (E:Env w) (h1:firstI (B s) 0=some i) (h2:lastI (B (mk ((B s).drop (i+1)))) ((mk ((B s).drop (i+1)))).size=some j) :
  Calls Tryz.prog 156 #[.string s] w fun e' w'=>e'=.returned (.agg #[.int .i64 (splE s),.string (mk (dashU (colU (B s)))),.string (mk (dashR (colU (B s))))])∧Below w.heap.size w w':=by
 have KC:=Lib.hid (fun w E=>cut_some h1 w hs E)
 have hp:(mk ((B s).take i)).size≤65536:=by rw [size_mk,List.length_take,B_len];omega
 have hU:(mk ((B s).drop (i+1))).size≤65536:=by rw [size_mk,List.length_drop,B_len];omega
 have KA:=Lib.hid (fun w E=>atoi_any (mk ((B s).take i)) w hp E)
 have XE:=Lib.hid (show splE s=atoiV (mk ((B s).take i)) by unfold splE;rw [h1])
 have XC:=Lib.hid (show colU (B s)=B (mk ((B s).drop (i+1))) by
  unfold colU;rw [h1,B_mk (fun c hc=>B_lt s c (List.mem_of_mem_drop hc))])
 have KD:=Lib.hid (fun w=>dash_some h2 w hU)
 have XD:=Lib.hid (dashU_some h2)
 have hj:=lastI_lt h2
 have hj0:(0:Int)≤(j:Int):=by omega
 rw [XE.out,XC.out,XD.out.1,XD.out.2]
 have HE:=Lib.hid E
 clear h1 h2 E XE XC XD
 generalize mk ((B s).drop (i+1))=U at *
 generalize mk ((B s).take i)=p at *
 generalize atoiV p=ep at *
 go_enter Tryz.func156,Tryz.ntmps156
 go_wp2_with fail
 refine (KC.out _ ((HE.out.alloc _).alloc _)).mono ?_
 rintro e' w1 ⟨rfl,n,rfl⟩
 go_wp2_with fail
 refine (KA.out _ (((HE.out.alloc _).alloc _).drewN n)).mono ?_
 rintro e' w1 ⟨⟨ev,rfl⟩,hb⟩
 have hb0:=hb
 replace hb:=(bel_d (Below.refl _ ((w.alloc (.cells #[.int .i64 0,.string { data:=#[] },.string { data:=#[] }] 158)).alloc (.cells #[.int .i64 0,.string { data:=#[] },.string { data:=#[] }] 158))) n).trans hb
 obtain ⟨⟨c0,c1,c2⟩,⟨f0,f1,f2⟩,⟨d0,d1,d2⟩,⟨g0,g1,g2⟩,hB⟩:=str_cells rfl hb
 have HB:=Lib.hid hB
 clear hb hb0 hB
 go_wp2_with fail
 refine (KD.out _).mono ?_
 rintro e' w2 ⟨rfl,rfl⟩
 obtain ⟨V,hV⟩:∃V,V=(w1.setCell ⟨w.heap.size+1,0,none⟩ (.int .i64 ep)).setCell ⟨w.heap.size+1,1,none⟩ (.string U):=⟨_,rfl⟩
 have c0':V.cell? ⟨w.heap.size,0,none⟩=some (.int .i64 0):=by rw [hV];simp [go_sem,c0]
 have c1':V.cell? ⟨w.heap.size,1,none⟩=some (.string { data:=#[] }):=by rw [hV];simp [go_sem,c1]
 have c2':V.cell? ⟨w.heap.size,2,none⟩=some (.string { data:=#[] }):=by rw [hV];simp [go_sem,c2]
 have d0':V.cell? ⟨w.heap.size+1,0,none⟩=some (.int .i64 ep):=by rw [hV];simp [go_sem,d0]
 have d1':V.cell? ⟨w.heap.size+1,1,none⟩=some (.string U):=by rw [hV];simp [go_sem,d1]
 have d2':V.cell? ⟨w.heap.size+1,2,none⟩=some (.string { data:=#[] }):=by rw [hV];simp [go_sem,d2]
 have f0':V.frozen? ⟨w.heap.size,0,none⟩=false:=by rw [hV];simp [go_sem,f0]
 have f1':V.frozen? ⟨w.heap.size,1,none⟩=false:=by rw [hV];simp [go_sem,f1]
 have f2':V.frozen? ⟨w.heap.size,2,none⟩=false:=by rw [hV];simp [go_sem,f2]
 have g0':V.frozen? ⟨w.heap.size+1,0,none⟩=false:=by rw [hV];simp [go_sem,g0]
 have g1':V.frozen? ⟨w.heap.size+1,1,none⟩=false:=by rw [hV];simp [go_sem,g1]
 have g2':V.frozen? ⟨w.heap.size+1,2,none⟩=false:=by rw [hV];simp [go_sem,g2]
 have HB':=Lib.hid (show Below w.heap.size w V by rw [hV];exact (HB.out.setCell (by simp) _).setCell (by simp) _)
 rw [←hV]
 clear hV c0 c1 c2 d0 d1 d2 f0 f1 f2 g0 g1 g2 HB
 go_wp2
 go_region
 all_goals go_wp2
 generalize hX:U.extract 0 j=X at *
 generalize hY:U.extract (j+1) U.size=Y at *
 clear hX hY
 obtain ⟨V2,hV2⟩:∃V2,V2=((V).setCell ⟨w.heap.size+1,1,none⟩ (.string X)).setCell ⟨w.heap.size+1,2,none⟩ (.string Y):=⟨_,rfl⟩
 have k0:V2.cell? ⟨w.heap.size,0,none⟩=some (.int .i64 0):=by rw [hV2];simp [go_sem,c0']
 have k1:V2.cell? ⟨w.heap.size,1,none⟩=some (.string { data:=#[] }):=by rw [hV2];simp [go_sem,c1']
 have k2:V2.cell? ⟨w.heap.size,2,none⟩=some (.string { data:=#[] }):=by rw [hV2];simp [go_sem,c2']
 have kB:Below w.heap.size w V2:=by rw [hV2];repeat (first|exact HB'.out|with_reducible refine Below.setCell ?_ (by simp) _)
 rw [←hV2]
 clear hV2
 obtain ⟨e0,e1,e2,bW⟩:=fin3 (x:=.int .i64 ep) (y:=.string X) (z:=.string Y) kB k0 k1 k2
 exact bodyPost_ret (v:=.agg #[.int .i64 ep,.string X,.string Y]) (by simp [results,Tryz.results156,go_sem,e0,e1,e2]) rfl ⟨rfl,bW.drew⟩
theorem split_some_none (s:ByteArray) (i:Nat) (w:World) (hs:s.size≤65536) (E:Env w) (h1:firstI (B s) 0=some i) (h2:lastI (B (mk ((B s).drop (i+1)))) ((mk ((B s).drop (i+1)))).size=none) :
  Calls Tryz.prog 156 #[.string s] w fun e' w'=>e'=.returned (.agg #[.int .i64 (splE s),.string (mk (dashU (colU (B s)))),.string (mk (dashR (colU (B s))))])∧Below w.heap.size w w':=by
 have KC:=Lib.hid (fun w E=>cut_some h1 w hs E)
 have hp:(mk ((B s).take i)).size≤65536:=by rw [size_mk,List.length_take,B_len];omega
 have hU:(mk ((B s).drop (i+1))).size≤65536:=by rw [size_mk,List.length_drop,B_len];omega
 have KA:=Lib.hid (fun w E=>atoi_any (mk ((B s).take i)) w hp E)
 have XE:=Lib.hid (show splE s=atoiV (mk ((B s).take i)) by unfold splE;rw [h1])
 have XC:=Lib.hid (show colU (B s)=B (mk ((B s).drop (i+1))) by
  unfold colU;rw [h1,B_mk (fun c hc=>B_lt s c (List.mem_of_mem_drop hc))])
 have KD:=Lib.hid (fun w=>dash_none h2 w hU)
 have XD:=Lib.hid (dashU_none h2)
 rw [XE.out,XC.out,XD.out.1,XD.out.2]
 have HE:=Lib.hid E
 clear h1 h2 E XE XC XD
 generalize mk ((B s).drop (i+1))=U at *
 generalize mk ((B s).take i)=p at *
 generalize atoiV p=ep at *
 go_enter Tryz.func156,Tryz.ntmps156
 go_wp2_with fail
 refine (KC.out _ ((HE.out.alloc _).alloc _)).mono ?_
 rintro e' w1 ⟨rfl,n,rfl⟩
 go_wp2_with fail
 refine (KA.out _ (((HE.out.alloc _).alloc _).drewN n)).mono ?_
 rintro e' w1 ⟨⟨ev,rfl⟩,hb⟩
 have hb0:=hb
 replace hb:=(bel_d (Below.refl _ ((w.alloc (.cells #[.int .i64 0,.string { data:=#[] },.string { data:=#[] }] 158)).alloc (.cells #[.int .i64 0,.string { data:=#[] },.string { data:=#[] }] 158))) n).trans hb
 obtain ⟨⟨c0,c1,c2⟩,⟨f0,f1,f2⟩,⟨d0,d1,d2⟩,⟨g0,g1,g2⟩,hB⟩:=str_cells rfl hb
 have HB:=Lib.hid hB
 clear hb hb0 hB
 go_wp2_with fail
 refine (KD.out _).mono ?_
 rintro e' w2 ⟨rfl,rfl⟩
 go_wp2
 all_goals exact bodyPost_ret (v:=.agg #[.int .i64 ep,.string (U),.string ({ data:=#[] })]) (by simp [results,Tryz.results156,go_sem,c0,c1,c2]) rfl ⟨rfl,by repeat (first|exact HB.out|with_reducible refine Below.drew ?_|with_reducible refine Below.setCell ?_ (by simp) _)⟩
theorem split_none_some (s:ByteArray) (j:Nat) (w:World) (hs:s.size≤65536) (E:Env w) (h1:firstI (B s) 0=none) (h2:lastI (B s) (s).size=some j) :
  Calls Tryz.prog 156 #[.string s] w fun e' w'=>e'=.returned (.agg #[.int .i64 (splE s),.string (mk (dashU (colU (B s)))),.string (mk (dashR (colU (B s))))])∧Below w.heap.size w w':=by
 have KC:=Lib.hid (fun w E=>cut_none h1 w hs E)
 have hU:s.size≤65536:=hs
 have XE:=Lib.hid (show splE s=0 by unfold splE;rw [h1])
 have XC:=Lib.hid (show colU (B s)=B s by unfold colU;rw [h1])
 have KD:=Lib.hid (fun w=>dash_some h2 w hU)
 have XD:=Lib.hid (dashU_some h2)
 have hj:=lastI_lt h2
 have hj0:(0:Int)≤(j:Int):=by omega
 rw [XE.out,XC.out,XD.out.1,XD.out.2]
 have HE:=Lib.hid E
 clear h1 h2 E XE XC XD
 go_enter Tryz.func156,Tryz.ntmps156
 go_wp2_with fail
 refine (KC.out _ ((HE.out.alloc _).alloc _)).mono ?_
 rintro e' w1 ⟨rfl,n,rfl⟩
 obtain ⟨w1,hw1⟩:∃w1,w1=((w.alloc (.cells #[.int .i64 0,.string { data:=#[] },.string { data:=#[] }] 158)).alloc (.cells #[.int .i64 0,.string { data:=#[] },.string { data:=#[] }] 158)).drewN n:=⟨_,rfl⟩
 have hb:=bel_d (Below.refl _ ((w.alloc (.cells #[.int .i64 0,.string { data:=#[] },.string { data:=#[] }] 158)).alloc (.cells #[.int .i64 0,.string { data:=#[] },.string { data:=#[] }] 158))) n
 rw [←hw1] at hb
 rw [←hw1]
 obtain ⟨⟨c0,c1,c2⟩,⟨f0,f1,f2⟩,⟨d0,d1,d2⟩,⟨g0,g1,g2⟩,hB⟩:=str_cells rfl hb
 have HB:=Lib.hid hB
 clear hb hB hw1
 go_wp2_with fail
 refine (KD.out _).mono ?_
 rintro e' w2 ⟨rfl,rfl⟩
 go_wp2
 go_region
 all_goals go_wp2
 generalize hX:s.extract 0 j=X at *
 generalize hY:s.extract (j+1) s.size=Y at *
 clear hX hY
 obtain ⟨V2,hV2⟩:∃V2,V2=(((w1.setCell ⟨w.heap.size+1,1,none⟩ (.string s))).setCell ⟨w.heap.size+1,1,none⟩ (.string X)).setCell ⟨w.heap.size+1,2,none⟩ (.string Y):=⟨_,rfl⟩
 have k0:V2.cell? ⟨w.heap.size,0,none⟩=some (.int .i64 0):=by rw [hV2];simp [go_sem,c0]
 have k1:V2.cell? ⟨w.heap.size,1,none⟩=some (.string { data:=#[] }):=by rw [hV2];simp [go_sem,c1]
 have k2:V2.cell? ⟨w.heap.size,2,none⟩=some (.string { data:=#[] }):=by rw [hV2];simp [go_sem,c2]
 have kB:Below w.heap.size w V2:=by rw [hV2];repeat (first|exact HB.out|with_reducible refine Below.setCell ?_ (by simp) _)
 rw [←hV2]
 clear hV2
 obtain ⟨e0,e1,e2,bW⟩:=fin3 (x:=.int .i64 0) (y:=.string X) (z:=.string Y) kB k0 k1 k2
 exact bodyPost_ret (v:=.agg #[.int .i64 0,.string X,.string Y]) (by simp [results,Tryz.results156,go_sem,e0,e1,e2]) rfl ⟨rfl,bW.drew⟩
theorem split_none_none (s:ByteArray) (w:World) (hs:s.size≤65536) (E:Env w) (h1:firstI (B s) 0=none) (h2:lastI (B s) (s).size=none) :
  Calls Tryz.prog 156 #[.string s] w fun e' w'=>e'=.returned (.agg #[.int .i64 (splE s),.string (mk (dashU (colU (B s)))),.string (mk (dashR (colU (B s))))])∧Below w.heap.size w w':=by
 have KC:=Lib.hid (fun w E=>cut_none h1 w hs E)
 have hU:s.size≤65536:=hs
 have XE:=Lib.hid (show splE s=0 by unfold splE;rw [h1])
 have XC:=Lib.hid (show colU (B s)=B s by unfold colU;rw [h1])
 have KD:=Lib.hid (fun w=>dash_none h2 w hU)
 have XD:=Lib.hid (dashU_none h2)
 rw [XE.out,XC.out,XD.out.1,XD.out.2]
 have HE:=Lib.hid E
 clear h1 h2 E XE XC XD
 go_enter Tryz.func156,Tryz.ntmps156
 go_wp2_with fail
 refine (KC.out _ ((HE.out.alloc _).alloc _)).mono ?_
 rintro e' w1 ⟨rfl,n,rfl⟩
 obtain ⟨w1,hw1⟩:∃w1,w1=((w.alloc (.cells #[.int .i64 0,.string { data:=#[] },.string { data:=#[] }] 158)).alloc (.cells #[.int .i64 0,.string { data:=#[] },.string { data:=#[] }] 158)).drewN n:=⟨_,rfl⟩
 have hb:=bel_d (Below.refl _ ((w.alloc (.cells #[.int .i64 0,.string { data:=#[] },.string { data:=#[] }] 158)).alloc (.cells #[.int .i64 0,.string { data:=#[] },.string { data:=#[] }] 158))) n
 rw [←hw1] at hb
 rw [←hw1]
 obtain ⟨⟨c0,c1,c2⟩,⟨f0,f1,f2⟩,⟨d0,d1,d2⟩,⟨g0,g1,g2⟩,hB⟩:=str_cells rfl hb
 have HB:=Lib.hid hB
 clear hb hB hw1
 go_wp2_with fail
 refine (KD.out _).mono ?_
 rintro e' w2 ⟨rfl,rfl⟩
 go_wp2
 all_goals exact bodyPost_ret (v:=.agg #[.int .i64 0,.string (s),.string ({ data:=#[] })]) (by simp [results,Tryz.results156,go_sem,c0,c1,c2]) rfl ⟨rfl,by repeat (first|exact HB.out|with_reducible refine Below.drew ?_|with_reducible refine Below.setCell ?_ (by simp) _)⟩
theorem vsplit_any (s:ByteArray) (w:World) (hs:s.size≤65536) (E:Env w) :
  Calls Tryz.prog 156 #[.string s] w fun e' w'=>e'=.returned (.agg #[.int .i64 (splE s),.string (mk (dashU (colU (B s)))),.string (mk (dashR (colU (B s))))])∧Below w.heap.size w w':=by
 cases h1:firstI (B s) 0 with
 | none=>
  cases h2:lastI (B s) s.size with
  | none=>exact split_none_none s w hs E h1 h2
  | some j=>exact split_none_some s j w hs E h1 h2
 | some i=>
  cases h2:lastI (B (mk ((B s).drop (i+1)))) (mk ((B s).drop (i+1))).size with
  | none=>exact split_some_none s i w hs E h1 h2
  | some j=>exact split_some_some s i j w hs E h1 h2
def trim0:List Nat→List Nat
 | 48::58::q=>q
 | l=>l
theorem trim0_is (l:List Nat):(∃q,l=48::58::q∧trim0 l=q)∨((∀q,l≠48::58::q)∧trim0 l=l):=by
 match l with
 | []=>exact .inr ⟨(fun _ h=>by cases h),rfl⟩
 | [a]=>exact .inr ⟨(fun _ h=>by cases h),by unfold trim0;split<;>simp_all⟩
 | a::b::q=>
  by_cases h:a=48∧b=58
  ·obtain ⟨rfl,rfl⟩:=h
   exact .inl ⟨q,rfl,rfl⟩
  ·refine .inr ⟨fun q' hq=>h (by injection hq with h1 h2;injection h2 with h2 _;exact ⟨h1,h2⟩),?_⟩
   unfold trim0
   split
   ·rename_i q' hq
    exact absurd (by injection hq with h1 h2;injection h2 with h2 _;exact ⟨h1,h2⟩) h
   ·rfl
theorem uint_dig:∀(l:List Nat) (acc:Nat),(∀c ∈ l,digB c=true)→(acc+1)*10 ^ l.length≤1000000000000→Lib.parseUint10 acc (l.map UInt8.ofNat)=.ok (l.foldl (fun n c=>10*n+(c - 48)) acc)
 | [],acc,_,_=>rfl
 | c::l,acc,hd,hb=>by
  have hc:=digB_iff.1 (hd c (by simp))
  have e:(UInt8.ofNat c).toNat=c:=by rw [UInt8.toNat_ofNat'];exact Nat.mod_eq_of_lt (by omega)
  have hp:1≤10 ^ l.length:=Nat.one_le_pow _ _ (by omega)
  have h10:(acc+1)*10 ^ (l.length+1)=(10*acc+10)*10 ^ l.length:=by rw [Nat.pow_succ,Nat.mul_comm (10 ^ l.length) 10,←Nat.mul_assoc];congr 1;omega
  have hb':(acc+1)*10 ^ (l.length+1)≤1000000000000:=hb
  rw [h10] at hb'
  have hle:(10*acc+(c - 48)+1)*10 ^ l.length≤1000000000000:=Nat.le_trans (Nat.mul_le_mul_right _ (by omega)) hb'
  have hacc:10*acc+10≤1000000000000:=Nat.le_trans (Nat.le_mul_of_pos_right _ hp) hb'
  simp only [List.map_cons,Lib.parseUint10,List.foldl_cons,e]
  rw [if_pos ⟨hc.1,hc.2⟩,if_neg (by omega),if_neg (by omega),show acc*10+(c - 48)=10*acc+(c - 48) by omega]
  exact uint_dig l _ (fun x hx=>hd x (by simp [hx])) hle
theorem data_mk (l:List Nat):(mk l).data.toList=l.map UInt8.ofNat:=rfl
theorem atoi_num {p:List Nat} {n:Int} (h:numL p=n) (h0:0≤n):atoiV (mk p)=n:=by
 unfold numL at h
 split at h
 ·rename_i hc
  obtain ⟨hne,hlen,hall,hdec⟩:=hc
  have hd:∀c ∈ p,digB c=true:=List.all_eq_true.1 hall
  have hlt:=numV_lt p hd
  have hpow:10 ^ p.length≤10 ^ 9:=Nat.pow_le_pow_right (by omega) hlen
  have hU:Lib.parseMag (p.map UInt8.ofNat)=.ok (numV p):=by
   unfold Lib.parseMag
   rw [if_neg (by simpa using hne)]
   exact uint_dig p 0 hd (by omega)
  unfold atoiV
  rw [data_mk]
  match p,hne,hd,hU,h,hlt,hpow with
  | c::q,_,hd,hU,h,hlt,hpow=>
   have hc:=digB_iff.1 (hd c (by simp))
   have e:(UInt8.ofNat c).toNat=c:=by rw [UInt8.toNat_ofNat'];exact Nat.mod_eq_of_lt (by omega)
   have hA:Lib.atoiAll ((c::q).map UInt8.ofNat)=.ok (numV (c::q):Int):=by
    rw [List.map_cons] at hU ⊢
    simp only [Lib.atoiAll,e]
    rw [if_neg (by omega),hU]
    simp only
    rw [if_neg (by omega),if_neg (by omega),if_neg (by omega)]
   rw [hA]
   exact h
 ·omega
theorem zero_num:numL [48]=0:=by decide
theorem first_zero (q:List Nat):firstI (48::58::q) 0=some 1:=rfl
theorem spl_zero {s:ByteArray} {q:List Nat} (h:B s=48::58::q):splE s=0∧colE (B s)=0:=by
 constructor
 ·unfold splE;rw [h,first_zero];exact atoi_num zero_num (by omega)
 ·unfold colE;rw [h,first_zero];exact zero_num
def devB (s:ByteArray):Bool:=rightB (splE s) (dashU (colU (B s))) (dashR (colU (B s)))&&decide (trim0 (B s)=textL (splE s).toNat (dashU (colU (B s))) (dashR (colU (B s))))
theorem textL_zero (u r:List Nat):textL 0 u r=u++(if r=[] then [] else 45::r):=by simp [textL]
theorem dev_is (s:ByteArray):devB s=parseB (B s)∧(devB s=true→splE s=colE (B s)):=by
 have h1:devB s=true→splE s=colE (B s)∧parseB (B s)=true:=by
  intro h
  unfold devB at h
  simp only [Bool.and_eq_true,decide_eq_true_eq] at h
  obtain ⟨hr,ht⟩:=h
  rcases trim0_is (B s) with ⟨q,hq,e⟩|⟨_,e⟩
  ·obtain ⟨z1,z2⟩:=spl_zero hq
   refine ⟨by rw [z1,z2],?_⟩
   rw [z1] at hr ht
   unfold parseB
   rw [z2,hr,Bool.true_and,Bool.or_eq_true,decide_eq_true_eq,decide_eq_true_eq]
   rw [e] at ht
   exact .inr (by rw [←ht];exact hq.symm)
  ·rw [e] at ht
   have hc:=(colons hr).1
   rw [←ht] at hc
   refine ⟨hc.symm,?_⟩
   unfold parseB
   rw [hc,hr,Bool.true_and,Bool.or_eq_true,decide_eq_true_eq,decide_eq_true_eq]
   exact .inl ht.symm
 have h2:parseB (B s)=true→devB s=true:=by
  intro h
  unfold parseB at h
  simp only [Bool.and_eq_true,Bool.or_eq_true,decide_eq_true_eq] at h
  obtain ⟨hr,ht⟩:=h
  have h0:=(rightB_epoch hr).1
  have hE:splE s=colE (B s):=by
   unfold splE
   generalize hc:colE (B s)=c at *
   unfold colE at hc
   cases hf:firstI (B s) 0 with
   | none=>rw [hf] at hc;exact hc
   | some i=>rw [hf] at hc;exact atoi_num hc h0
  unfold devB
  rw [hE,hr,Bool.true_and,decide_eq_true_eq]
  rcases trim0_is (B s) with ⟨q,hq,e⟩|⟨hno,e⟩
  ·obtain ⟨_,z2⟩:=spl_zero hq
   rw [e]
   rcases ht with ht|ht
   ·exfalso
    have hc:=(colons hr).2
    rw [z2] at hc ht
    rw [show (0:Int).toNat=0 from rfl] at hc ht
    rw [←textL_zero,ht] at hc
    rw [hq] at hc
    have:colU (48::58::q)=q:=rfl
    rw [this] at hc
    have:=congrArg List.length hc
    simp at this
    omega
   ·rw [hq] at ht
    injection ht with _ ht
    injection ht with _ ht
    rw [hq]
    exact ht.symm
  ·rw [e]
   rcases ht with ht|ht
   ·exact ht.symm
   ·exact absurd ht.symm (hno _)
 refine ⟨?_,fun h=>(h1 h).1⟩
 cases hd:devB s
 ·cases hp:parseB (B s)
  ·rfl
  ·rw [h2 hp] at hd;cases hd
 ·exact (h1 hd).2.symm
theorem trimP_is (s:ByteArray):(⟨(Lib.trimPrefix s.data.toList [48,58]).toArray⟩:ByteArray)=mk (trim0 (B s)):=by
 apply eq_mk
 unfold Lib.trimPrefix Lib.hasPrefix B
 match hl:s.data.toList with
 | []=>rfl
 | [a]=>
  have:([48,58]:List UInt8).isPrefixOf [a]=false:=by simp [List.isPrefixOf]
  rw [this]
  simp only [Bool.false_eq_true,if_false,List.map_cons,List.map_nil]
  unfold trim0;split<;>simp_all
 | a::b::q=>
  rcases trim0_is ((a::b::q).map UInt8.toNat) with ⟨q',hq,e⟩|⟨hno,e⟩
  ·simp only [List.map_cons] at hq
   injection hq with h1 h2
   injection h2 with h2 h3
   have ha:a=48:=UInt8.toNat_inj.1 h1
   have hb:b=58:=UInt8.toNat_inj.1 h2
   subst ha;subst hb
   rw [e,←h3]
   simp [List.isPrefixOf]
  ·rw [e]
   have:([48,58]:List UInt8).isPrefixOf (a::b::q)=false:=by
    rw [Bool.eq_false_iff]
    intro hh
    simp only [List.isPrefixOf,Bool.and_eq_true,beq_iff_eq] at hh
    exact hno (q.map UInt8.toNat) (by rw [←hh.1,←hh.2.1];rfl)
   rw [this]
   simp
def csV (s t:ByteArray):Int:=if Op.bytesLess s.toList t.toList=true then -1 else if s.toList=t.toList then 0 else 1
theorem cmpStr_any (s t:ByteArray) (w:World):Calls Tryz.prog 120 #[.string s,.string t] w fun e w'=>e=.returned (.int .i64 (csV s t))∧w=w':=by
 have N:=Lib.hid (show (Op.bytesLess s.toList t.toList=true→csV s t=-1)∧(Op.bytesLess s.toList t.toList=false→¬s.toList=t.toList→csV s t=1)∧(Op.bytesLess s.toList t.toList=false→s.toList=t.toList→csV s t=0) by
  unfold csV
  refine ⟨fun h=>by rw [if_pos h],fun h h2=>by rw [if_neg (by simp [h]),if_neg h2],fun h h2=>by rw [if_neg (by simp [h]),if_pos h2]⟩)
 go_enter Tryz.func120,Tryz.ntmps120
 go_wp2
 ·have h1:Op.bytesLess s.toList t.toList=true:=by assumption
  go_ret
  exact ⟨by rw [N.out.1 h1];rfl,rfl⟩
 ·have h1:Op.bytesLess s.toList t.toList=false:=by assumption
  have h2:(!s.toList==t.toList)=true:=by assumption
  go_ret
  exact ⟨by rw [N.out.2.1 h1 (by simpa using h2)];rfl,rfl⟩
 ·have h1:Op.bytesLess s.toList t.toList=false:=by assumption
  have h2:(!s.toList==t.toList)=false:=by assumption
  go_ret
  exact ⟨by rw [N.out.2.2 h1 (by simpa using h2)];rfl,rfl⟩
theorem csV_lex {s t:ByteArray} (h:s.size=t.size):csV s t=lexL (B s) (B t):=by
 have hll:s.toList.length=t.toList.length:=by rw [toList_data,toList_data,Array.length_toList,Array.length_toList];exact h
 obtain ⟨i1,i2,i3⟩:=bytesLess_lex s.toList t.toList hll
 have e1:s.toList.map UInt8.toNat=B s:=by rw [toList_data];rfl
 have e2:t.toList.map UInt8.toNat=B t:=by rw [toList_data];rfl
 rw [e1,e2] at i1 i2 i3
 unfold csV
 rcases i3 with h|h|h
 ·rw [if_pos (i1.2 h),h]
 ·have h2:=i2.2 h
  rw [if_neg (fun hh=>by have:=i1.1 hh;omega),if_pos h2,h]
 ·rw [if_neg (fun hh=>by have:=i1.1 hh;omega),if_neg (fun hh=>by have:=i2.1 hh;omega),h]
theorem or_numC (s t:ByteArray):orL [sgn ((s.size:Int) - t.size),csV s t]=numC (B s) (B t):=by
 unfold numC
 rw [B_len,B_len]
 simp only [orL]
 by_cases h:s.size=t.size
 ·have e0:sgn ((s.size:Int) - t.size)=0:=sgn_zero.2 (by omega)
  rw [e0,csV_lex h]
  simp only [h,ne_eq,not_true,if_false]
  split
  ·rfl
  ·rename_i hh;exact (Classical.not_not.1 hh).symm
 ·have h0:sgn ((s.size:Int) - t.size)≠0:=fun hh=>by have:=sgn_zero.1 hh;omega
  simp only [h0,h,ne_eq,not_false_iff,if_true]
theorem trim_is (s:ByteArray):(⟨(Lib.trimLeftB s.data.toList 48).toArray⟩:ByteArray)=mk (dz (B s)):=by
 apply eq_mk
 unfold Lib.trimLeftB dz B
 simp only
 rw [List.dropWhile_map]
 congr 2
 funext c
 simp only [Function.comp]
 rw [Bool.eq_iff_iff,beq_iff_eq,beq_iff_eq]
 exact ⟨fun h=>by rw [h];rfl,fun h=>UInt8.toNat_inj.1 h⟩
theorem trimL_any (s:ByteArray) (w:World):Calls Tryz.prog 196 #[.string s,.string { data:=#[48] }] w fun e w'=>e=.returned (.string (mk (dz (B s))))∧w=w':=by
 refine (Tryz.strings_TrimLeft_one s 48 (by decide) w).mono ?_
 rintro e w' ⟨rfl,rfl⟩
 exact ⟨by rw [trim_is],rfl⟩
theorem dz_lt {l:List Nat} (h:∀c ∈ l,c < 256):∀c ∈ dz l,c < 256:=fun c hc=>h c ((List.dropWhile_suffix _).subset hc)
theorem dz_len (l:List Nat):(dz l).length≤l.length:=(List.dropWhile_suffix _).length_le
theorem vnum_any (s t:ByteArray) (w:World) (hs:s.size≤9223372036854775807) (ht:t.size≤9223372036854775807) :
  Calls Tryz.prog 182 #[.string s,.string t] w fun e w'=>e=.returned (.int .i64 (numC (dz (B s)) (dz (B t))))∧Below w.heap.size w w':=by
 have X:=Lib.hid (show orL [sgn (((mk (dz (B s))).size:Int) - (mk (dz (B t))).size),csV (mk (dz (B s))) (mk (dz (B t)))]=numC (dz (B s)) (dz (B t)) by
  rw [or_numC,B_mk (dz_lt (B_lt s)),B_mk (dz_lt (B_lt t))])
 have b1:(mk (dz (B s))).size≤9223372036854775807:=by rw [size_mk];have:=dz_len (B s);rw [B_len] at this;omega
 have b2:(mk (dz (B t))).size≤9223372036854775807:=by rw [size_mk];have:=dz_len (B t);rw [B_len] at this;omega
 have T1:=Lib.hid (trimL_any s w)
 have T2:=Lib.hid (trimL_any t w)
 have C1:=Lib.hid (cmpInt_any)
 generalize mk (dz (B s))=x at *
 generalize mk (dz (B t))=y at *
 generalize numC (dz (B s)) (dz (B t))=z at *
 have C2:=Lib.hid (cmpStr_any x y)
 go_enter Tryz.func182,Tryz.ntmps182
 go_wp2_with (first|(go_at_call 196;(with_reducible refine T1.out.mono ?_);rintro e w' ⟨rfl,rfl⟩)|(go_at_call 196;(with_reducible refine T2.out.mono ?_);rintro e w' ⟨rfl,rfl⟩)|(go_at_call 161;(with_reducible refine (C1.out _ _ _).mono ?_);rintro e w' ⟨rfl,rfl⟩)|(go_at_call 120;(with_reducible refine (C2.out _).mono ?_);rintro e w' ⟨rfl,rfl⟩))
 refine (or_any w.heap.size 2 [sgn ((x.size:Int) - y.size),csV x y] _ rfl (by decide) ?_).mono ?_
 ·intro k hk
  rcases (by omega:k=0∨k=1) with rfl|rfl<;>simp [go_sem]
 rintro e w' ⟨rfl,rfl⟩
 rw [X.out]
 go_wp2
 go_ret
 exact ⟨rfl,(Below.refl _ w).alloc (Nat.le_refl _) _⟩
def wS (s:ByteArray):ByteArray:=mk (wordL (B s))
def bS (s:ByteArray):ByteArray:=mk (behL (B s))
def nS (s:ByteArray):ByteArray:=mk (numA (B s))
def rS (s:ByteArray):ByteArray:=mk (restA (B s))
theorem sub_lt {p:Nat→Bool} {l:List Nat} (h:∀c ∈ l,c < 256):(∀c ∈ l.takeWhile p,c < 256)∧(∀c ∈ l.dropWhile p,c < 256):=
 ⟨fun c hc=>h c ((List.takeWhile_prefix p).subset hc),fun c hc=>h c ((List.dropWhile_suffix p).subset hc)⟩
theorem B_wS (s:ByteArray):B (wS s)=wordL (B s):=B_mk (sub_lt (B_lt s)).1
theorem B_bS (s:ByteArray):B (bS s)=behL (B s):=B_mk (sub_lt (B_lt s)).2
theorem B_nS (s:ByteArray):B (nS s)=numA (B s):=B_mk (sub_lt (sub_lt (B_lt s)).2).1
theorem B_rS (s:ByteArray):B (rS s)=restA (B s):=B_mk (sub_lt (sub_lt (B_lt s)).2).2
theorem len_wS (s:ByteArray):(wS s).size≤s.size:=by rw [←B_len,B_wS,←B_len];exact (List.takeWhile_prefix _).length_le
theorem len_bS (s:ByteArray):(bS s).size≤s.size:=by rw [←B_len,B_bS,←B_len];exact (List.dropWhile_suffix _).length_le
theorem len_nS (s:ByteArray):(nS s).size≤s.size:=by rw [←B_len,B_nS];refine Nat.le_trans (List.takeWhile_prefix _).length_le ?_;rw [←B_bS,B_len];exact len_bS s
theorem len_rS (s:ByteArray):(rS s).size≤s.size:=by rw [←B_len,B_rS,←B_len];exact restA_len _
theorem cut_word (s:ByteArray) (w:World) (hs:s.size≤9223372036854775807) :
  Calls Tryz.prog 178 #[.string s,.func (.func 179) #[] #[]] w fun e w'=>e=.returned (.tuple #[.string (wS s),.string (bS s)])∧∃n,w'=w.drewN n:=
 cut_any _ ndB s w hs (fun _ _=>by kernel_rfl) vnotDigit_any
theorem cut_num (s:ByteArray) (w:World) (hs:s.size≤9223372036854775807) :
  Calls Tryz.prog 178 #[.string (bS s),.func (.func 180) #[] #[]] w fun e w'=>e=.returned (.tuple #[.string (nS s),.string (rS s)])∧∃n,w'=w.drewN n:=by
 have:=cut_any 180 digB (bS s) w (Nat.le_trans (len_bS s) hs) (fun _ _=>by kernel_rfl) vdigit_any
 rw [B_bS] at this
 exact this
theorem bel_dr {N:Nat} {a w:World} (h:Below N a w) (n:Nat):Below N a (w.drewN n):=⟨h.os,h.tape,h.output,h.size,h.block⟩
theorem vround (x y:ByteArray):cmpS (B x) (B y)=if orL [cwL (B (wS x)) (B (wS y)),numC (dz (B (nS x))) (dz (B (nS y)))]≠0 then orL [cwL (B (wS x)) (B (wS y)),numC (dz (B (nS x))) (dz (B (nS y)))] else cmpS (B (rS x)) (B (rS y)):=by
 rw [B_wS,B_wS,B_nS,B_nS,B_rS,B_rS]
 exact cmp_round _ _
def sizeV:Value→Nat|.string s=>s.size|_=>0
theorem ne_of {s:ByteArray} (h:s.toList.isEmpty=false):0 < s.size:=by
 rcases Nat.eq_zero_or_pos s.size with h0|h0
 ·exfalso
  have:B s=[]:=List.eq_nil_of_length_eq_zero (by rw [B_len];exact h0)
  have:=(empty_iff s).2 this
  rw [h] at this;cases this
 ·exact h0
theorem rS_lt {s:ByteArray} (h:0 < s.size):(rS s).size < s.size:=by
 rw [←B_len,B_rS]
 have:=restA_lt (l:=B s) (fun hh=>by have:=B_len s;rw [hh] at this;simp at this;omega)
 rw [B_len] at this;exact this
def RelT (s t:ByteArray) (w:World) (a b:Value) (wr:World):Prop:=
 ∃x y:ByteArray,a=.string x∧b=.string y∧x.size≤s.size∧y.size≤t.size∧cmpS (B s) (B t)=cmpS (B x) (B y)∧Below w.heap.size w wr
theorem vcmp_any (s t:ByteArray) (w:World) (hs:s.size≤9223372036854775807) (ht:t.size≤9223372036854775807) :
  Calls Tryz.prog 162 #[.string s,.string t] w fun e w'=>e=.returned (.int .i64 (cmpS (B s) (B t)))∧Below w.heap.size w w':=by
 go_enter Tryz.func162,Tryz.ntmps162
 go_wp2
 go_loopw [0,1] (fun a b wr=>RelT s t w a b wr) (fun a b _=>sizeV a+sizeV b)
 case atStart=>exact ⟨s,t,rfl,rfl,Nat.le_refl _,Nat.le_refl _,rfl,Below.refl _ _⟩
 case round=>
  obtain ⟨x,y,rfl,rfl,hx,hy,hr,hb⟩:=hrel
  have HR:=Lib.hid hr
  have HV:=Lib.hid (vround x y)
  have HB:=Lib.hid hb
  clear hr hb
  have dec:(x.toList.isEmpty=true∧y.toList.isEmpty=true)∨(x.toList.isEmpty=false∨(x.toList.isEmpty=true∧y.toList.isEmpty=false)):=by
   cases x.toList.isEmpty<;>cases y.toList.isEmpty<;>simp
  rcases dec with ⟨h1,h2⟩|hne
  ·have X:=Lib.hid (show cmpS (B s) (B t)=0 by rw [HR.out,(empty_iff x).1 h1,(empty_iff y).1 h2];rfl)
   go_wp2
   go_ret
   exact ⟨by rw [X.out];rfl,HB.out⟩
  ·have hpos:(rS x).size+(rS y).size < x.size+y.size:=by
    rcases hne with h|⟨_,h⟩
    ·have:=rS_lt (ne_of h);have:=len_rS y;omega
    ·have:=rS_lt (ne_of h);have:=len_rS x;omega
   have lx:=len_rS x
   have ly:=len_rS y
   have K1:=Lib.hid (fun w=>cut_word x w (by omega))
   have K2:=Lib.hid (fun w=>cut_word y w (by omega))
   have K3:=Lib.hid (fun w=>cut_num x w (by omega))
   have K4:=Lib.hid (fun w=>cut_num y w (by omega))
   have K5:=Lib.hid (fun w=>words_any (wS x) (wS y) w (by have:=len_wS x;omega) (by have:=len_wS y;omega))
   have K6:=Lib.hid (fun w=>vnum_any (nS x) (nS y) w (by have:=len_nS x;omega) (by have:=len_nS y;omega))
   generalize cwL (B (wS x)) (B (wS y))=c1 at *
   generalize numC (dz (B (nS x))) (dz (B (nS y)))=c2 at *
   rcases hne with h|⟨h',h⟩
   all_goals
    go_wp2_with fail
    refine (K1.out _).mono ?_
    rintro e w1 ⟨rfl,n1,rfl⟩
    go_wp2_with fail
    refine (K2.out _).mono ?_
    rintro e w1 ⟨rfl,n2,rfl⟩
    go_wp2_with fail
    refine (K3.out _).mono ?_
    rintro e w1 ⟨rfl,n3,rfl⟩
    go_wp2_with fail
    refine (K4.out _).mono ?_
    rintro e w1 ⟨rfl,n4,rfl⟩
    go_wp2_with fail
    refine (K5.out _).mono ?_
    rintro e w1 ⟨rfl,hb1⟩
    go_wp2_with fail
    refine (K6.out _).mono ?_
    rintro e w2 ⟨rfl,hb2⟩
    go_wp2_with fail
    refine (or_any w2.heap.size 2 [c1,c2] _ rfl (by decide) ?_).mono ?_
    ·intro k hk
     rcases (by omega:k=0∨k=1) with rfl|rfl<;>simp [go_sem]
    rintro e w' ⟨rfl,rfl⟩
    have B1:=Lib.hid (show Below w.heap.size w w1 from (bel_dr HB.out (n1+n2+n3+n4)).trans (hb1.mono (by simpa using HB.out.size)))
    have B2:=Lib.hid (show Below w.heap.size w (w2.alloc (.cells #[.int .i64 c1,.int .i64 c2] 3)) from (B1.out.trans (hb2.mono B1.out.size)).alloc (Nat.le_trans B1.out.size hb2.size) _)
    clear hb1 hb2
    by_cases hz:orL [c1,c2]=0
    ·have t1:(orL [c1,c2] != 0)=false:=by rw [bne_eq_false_iff_eq];exact hz
     have X:=Lib.hid (show cmpS (B s) (B t)=cmpS (B (rS x)) (B (rS y)) by rw [HR.out,HV.out,if_neg (by simp [hz])])
     clear hz
     go_wp2
     go_roundw
     case rel=>exact ⟨_,_,rfl,rfl,by omega,by omega,X.out,B2.out⟩
     case measure=>exact hpos
    ·have t1:(orL [c1,c2] != 0)=true:=by rw [bne_iff_ne];exact hz
     have X:=Lib.hid (show cmpS (B s) (B t)=orL [c1,c2] by rw [HR.out,HV.out,if_pos hz])
     clear hz
     go_wp2
     go_ret
     exact ⟨by rw [X.out];rfl,B2.out⟩
theorem keep_cell {w w1:World} (h:Below w.heap.size w w1) {b o:Nat} {v:Value} (hc:w.cell? ⟨b,o,none⟩=some v):w1.cell? ⟨b,o,none⟩=some v:=by
 rw [h.cell (World.block_lt_of_cell? _ _ hc)];exact hc
theorem cmpV_or (e1:Int) (u1 r1:List Nat) (e2:Int) (u2 r2:List Nat):cmpV e1 u1 r1 e2 u2 r2=orL [sgn (e1 - e2),cmpS u1 u2,cmpS r1 r2]:=by
 unfold cmpV
 simp only [orL]
 by_cases he:e1=e2
 ·have:sgn (e1 - e2)=0:=sgn_zero.2 (by omega)
  simp only [he,ne_eq,not_true,if_false]
  rw [Int.sub_self,show sgn 0=0 from rfl]
  simp only [not_true,if_false]
  split
  ·rfl
  ·split
   ·rfl
   ·rename_i hh;exact Classical.not_not.1 hh
 ·have h0:sgn (e1 - e2)≠0:=fun hh=>by have:=sgn_zero.1 hh;omega
  simp only [he,h0,ne_eq,not_false_iff,if_true]
  split
  ·unfold sgn;rw [if_pos (by omega)]
  ·unfold sgn;rw [if_neg (by omega),if_pos (by omega)]
theorem cell_old' {w:World} {o:Obj} {p:Addr} {v:Value} (hc:w.cell? p=some v):(w.alloc o).cell? p=some v:=by
 rw [World.cell?_alloc_lt w o p (World.block_lt_of_cell? _ _ hc)];exact hc
theorem three_cells (W:World) (a b c:Int) (T:TypeId):∀k,k < 3→(W.alloc (.cells #[.int .i64 a,.int .i64 b,.int .i64 c] T)).cell? ⟨W.heap.size,k,none⟩=some (.int .i64 ([a,b,c].getD k 0)):=by
 intro k hk
 rcases (by omega:k=0∨k=1∨k=2) with rfl|rfl|rfl<;>simp [go_sem]
theorem bel_al {V W:World} {o:Obj} (h:Below V.heap.size V W):Below V.heap.size V (W.alloc o):=h.alloc h.size o
theorem bel_tr {w V W:World} (h:Below w.heap.size w V) (h2:Below V.heap.size V W):Below w.heap.size w W:=h.trans (h2.mono h.size)
set_option maxHeartbeats 1000000 in
theorem vcompare_any (e1 e2:Int) (u1 r1 u2 r2:ByteArray) (w:World) (h1:u1.size≤9223372036854775807) (h2:r1.size≤9223372036854775807) (h3:u2.size≤9223372036854775807) (h4:r2.size≤9223372036854775807) :
  Calls Tryz.prog 147 #[.agg #[.int .i64 e1,.string u1,.string r1],.agg #[.int .i64 e2,.string u2,.string r2]] w fun e' w'=>e'=.returned (.int .i64 (cmpV e1 (B u1) (B r1) e2 (B u2) (B r2)))∧Below w.heap.size w w':=by
 have X:=Lib.hid (cmpV_or e1 (B u1) (B r1) e2 (B u2) (B r2))
 have K1:=Lib.hid (fun w=>vcmp_any u1 u2 w h1 h3)
 have K2:=Lib.hid (fun w=>vcmp_any r1 r2 w h2 h4)
 have K0:=Lib.hid (cmpInt_any e1 e2)
 generalize cmpS (B u1) (B u2)=c1 at *
 generalize cmpS (B r1) (B r2)=c2 at *
 generalize sgn (e1 - e2)=c0 at *
 generalize cmpV e1 (B u1) (B r1) e2 (B u2) (B r2)=c at *
 go_enter Tryz.func147,Tryz.ntmps147
 go_wp2_with fail
 obtain ⟨V,hV⟩:∃V,V=(w.alloc (.cells #[.int .i64 e1,.string u1,.string r1] 158)).alloc (.cells #[.int .i64 e2,.string u2,.string r2] 158):=⟨_,rfl⟩
 have a0:V.cell? ⟨w.heap.size,0,none⟩=some (.int .i64 e1):=by rw [hV];simp [go_sem]
 have a1:V.cell? ⟨w.heap.size,1,none⟩=some (.string u1):=by rw [hV];simp [go_sem]
 have a2:V.cell? ⟨w.heap.size,2,none⟩=some (.string r1):=by rw [hV];simp [go_sem]
 have b0:V.cell? ⟨w.heap.size+1,0,none⟩=some (.int .i64 e2):=by rw [hV];simp [go_sem]
 have b1:V.cell? ⟨w.heap.size+1,1,none⟩=some (.string u2):=by rw [hV];simp [go_sem]
 have b2:V.cell? ⟨w.heap.size+1,2,none⟩=some (.string r2):=by rw [hV];simp [go_sem]
 have hB:Below w.heap.size w V:=by rw [hV];exact ((Below.refl _ w).alloc (Nat.le_refl _) _).alloc (by simp) _
 have bb:=(Below.refl V.heap.size V).drew
 rw [←hV]
 clear hV
 go_region_held3 (fun W=>W.cell? ⟨w.heap.size,0,none⟩=some (.int .i64 e1)∧W.cell? ⟨w.heap.size,1,none⟩=some (.string u1)∧W.cell? ⟨w.heap.size,2,none⟩=some (.string r1)∧W.cell? ⟨w.heap.size+1,0,none⟩=some (.int .i64 e2)∧W.cell? ⟨w.heap.size+1,1,none⟩=some (.string u2)∧W.cell? ⟨w.heap.size+1,2,none⟩=some (.string r2)∧Below V.heap.size V W)
  (first|(go_split_ands;refine ⟨?_,?_,?_,?_,?_,?_,?_⟩<;>first|assumption|exact keep_cell hbx (by assumption)|exact cell_old' (by assumption)|exact Below.trans (by assumption) (hbx.mono (Below.size (by assumption)))|exact bel_al (by assumption))|go_keep)
  ((first|(go_at_call 162;(with_reducible refine (K1.out _).mono ?_);rintro e wx ⟨rfl,hbx⟩)|(go_at_call 162;(with_reducible refine (K2.out _).mono ?_);rintro e wx ⟨rfl,hbx⟩)|(go_at_call 161;(with_reducible refine (K0.out _).mono ?_);rintro e wx ⟨rfl,rfl⟩)|(go_at_call 119;(refine (or_any _ 3 [c0,c1,c2] _ rfl (by decide) (three_cells _ _ _ _ _)).mono ?_);rintro e wx ⟨rfl,rfl⟩)))
 all_goals
  go_wp2
  go_ret
  go_split_ands
  exact ⟨by rw [X.out];rfl,bel_tr hB (by assumption)⟩
theorem trimP_any (s:ByteArray) (w:World):Calls Tryz.prog 158 #[.string s,.string { data:=#[48,58] }] w fun e w'=>e=.returned (.string (mk (trim0 (B s))))∧w=w':=by
 refine (Tryz.strings_TrimPrefix s { data:=#[48,58] } w).mono ?_
 rintro e w' ⟨rfl,rfl⟩
 exact ⟨by rw [←trimP_is],rfl⟩
theorem vparse_long (s:ByteArray) (w:World) (hs:60 < s.size) :
  Calls Tryz.prog 135 #[.string s] w fun e' w'=>e'=.returned (parseV s)∧Below w.heap.size w w':=by
 have h9:parseE (B s)=9:=by unfold parseE;rw [if_pos (by rw [B_len];exact hs)]
 have X:=Lib.hid (parse_bad (s:=s) (by rw [h9];decide))
 have H9:=Lib.hid h9
 clear h9
 have hs2:(60:Int) < (s.size:Int):=by omega
 go_enter Tryz.func135,Tryz.ntmps135
 go_wp2
 exact bodyPost_ret (v:=.tuple #[.agg #[.int .i64 0,.string { data:=#[] },.string { data:=#[] }],.int .i64 9]) (by simp [results,Tryz.results135,go_sem]) rfl ⟨by rw [X.out,H9.out],(Below.refl _ w).alloc (Nat.le_refl _) _⟩
theorem trim0_lt {l:List Nat} (h:∀c ∈ l,c < 256):∀c ∈ trim0 l,c < 256:=by
 rcases trim0_is l with ⟨q,hq,e⟩|⟨_,e⟩
 ·rw [e];intro c hc;exact h c (by rw [hq];simp [hc])
 ·rw [e];exact h
theorem vtext_int (e:Int) (u r:ByteArray) (w:World) (h0:0≤e) (h1:e≤999999999) (hu:u.size≤65536) (hr:r.size≤65536) (E:Env w) :
  Calls Tryz.prog 159 #[.agg #[.int .i64 e,.string u,.string r]] w fun e' w'=>e'=.returned (.string (mk (textL e.toNat (B u) (B r))))∧Below w.heap.size w w':=by
 have:=vtext_any e.toNat u r w (by omega) hu hr E
 rw [Int.toNat_of_nonneg h0] at this
 exact this
theorem res_cells {w w1 V W:World} {T T':TypeId} {x y z a b c:Value} (hb:Below (w.alloc (.cells #[x,y,z] T)).heap.size (w.alloc (.cells #[x,y,z] T)) w1)
  (hV:V=w1.alloc (.cells #[a,b,c] T')) (h2:Below V.heap.size V W) :
  (W.cell? ⟨w.heap.size,0,none⟩=some x∧W.cell? ⟨w.heap.size,1,none⟩=some y∧W.cell? ⟨w.heap.size,2,none⟩=some z)∧
  (W.frozen? ⟨w.heap.size,0,none⟩=false∧W.frozen? ⟨w.heap.size,1,none⟩=false∧W.frozen? ⟨w.heap.size,2,none⟩=false)∧
  (W.cell? ⟨w1.heap.size,0,none⟩=some a∧W.cell? ⟨w1.heap.size,1,none⟩=some b∧W.cell? ⟨w1.heap.size,2,none⟩=some c)∧Below w.heap.size w W:=by
 have hs:w.heap.size+1≤w1.heap.size:=by have:=hb.size;simpa using this
 have hB1:Below (w.heap.size+1) (w.alloc (.cells #[x,y,z] T)) V:=by rw [hV];exact (hb.mono (by simp)).alloc hs _
 have hv:V.heap.size=w1.heap.size+1:=by rw [hV];simp
 have hB:Below (w.heap.size+1) (w.alloc (.cells #[x,y,z] T)) W:=hB1.trans (h2.mono (by omega))
 refine ⟨⟨?_,?_,?_⟩,⟨?_,?_,?_⟩,⟨?_,?_,?_⟩,((Below.refl _ w).alloc (Nat.le_refl _) _).trans (hB.mono (by omega))⟩
 ·exact (hB.cell (by simp)).trans (by simp)
 ·exact (hB.cell (by simp)).trans (by simp)
 ·exact (hB.cell (by simp)).trans (by simp)
 ·exact (hB.frozen (by simp)).trans (by simp)
 ·exact (hB.frozen (by simp)).trans (by simp)
 ·exact (hB.frozen (by simp)).trans (by simp)
 ·exact (h2.cell (by simp only;omega)).trans (by rw [hV];simp)
 ·exact (h2.cell (by simp only;omega)).trans (by rw [hV];simp)
 ·exact (h2.cell (by simp only;omega)).trans (by rw [hV];simp)
theorem env_keep {w w':World} (h:Below w.heap.size w w') (E:Env w):Env w':=E.below h
theorem env_drew {w:World} (E:Env w):Env w.drew:=E.below ⟨rfl,rfl,rfl,Nat.le_refl _,fun _ _=>rfl⟩
set_option maxHeartbeats 1000000 in
theorem vparse_short (s:ByteArray) (w:World) (hs:s.size≤60) (E:Env w) :
  Calls Tryz.prog 135 #[.string s] w fun e' w'=>e'=.returned (parseV s)∧Below w.heap.size w w':=by
 have hs2:¬(60:Int) < (s.size:Int):=by omega
 have hUl:(dashU (colU (B s))).length≤60:=by have h1:=dashU_len (colU (B s));have h2:=colU_len (B s);rw [B_len] at h2;omega
 have hRl:(dashR (colU (B s))).length≤60:=by have h1:=dashR_len (colU (B s));have h2:=colU_len (B s);rw [B_len] at h2;omega
 have KS:=Lib.hid (fun w E=>vsplit_any s w (by omega) E)
 have BU:=Lib.hid (B_mk (l:=dashU (colU (B s))) (fun c hc=>B_lt s c (colU_mem (dashU_mem hc))))
 have BR:=Lib.hid (B_mk (l:=dashR (colU (B s))) (fun c hc=>B_lt s c (colU_mem (dashR_mem hc))))
 obtain ⟨dv,de⟩:=dev_is s
 have DV:=Lib.hid dv
 have DE:=Lib.hid de
 have KT0:=Lib.hid (trimP_any s)
 have hU:(mk (dashU (colU (B s)))).size≤65536:=by rw [size_mk];omega
 have hR:(mk (dashR (colU (B s)))).size≤65536:=by rw [size_mk];omega
 have DB:=Lib.hid (show devB s=(rightB (splE s) (B (mk (dashU (colU (B s))))) (B (mk (dashR (colU (B s)))))&&decide (trim0 (B s)=textL (splE s).toNat (B (mk (dashU (colU (B s))))) (B (mk (dashR (colU (B s))))))) by
  rw [BU.out,BR.out];rfl)
 have HE:=Lib.hid E
 clear dv de E hUl hRl
 have GOOD:=Lib.hid (fun h=>parse_good (s:=s) hs (DE.out h) BU.out BR.out (by rw [←DV.out];exact h))
 have BAD:=Lib.hid (fun h=>parse_wrong (s:=s) hs (by rw [←DV.out];exact h))
 clear BU BR DE DV
 generalize mk (dashU (colU (B s)))=U at *
 generalize mk (dashR (colU (B s)))=R at *
 generalize splE s=ep at *
 have KR:=Lib.hid (fun w E=>vright_any ep U R w hU hR E)
 cases hr:rightB ep (B U) (B R)
 ·have X:=Lib.hid (BAD.out (by rw [DB.out,hr];rfl))
  rw [hr] at KR
  clear hr GOOD BAD DB KT0
  go_enter Tryz.func135,Tryz.ntmps135
  go_wp2_with fail
  refine (KS.out _ (HE.out.alloc _)).mono ?_
  rintro e' w1 ⟨rfl,hb⟩
  go_wp2_with fail
  obtain ⟨V,hV⟩:∃V,V=w1.alloc (.cells #[.int .i64 ep,.string U,.string R] 158):=⟨_,rfl⟩
  have HC:=Lib.hid (fun W h=>res_cells (W:=W) hb hV h)
  have e0:V.cell? ⟨w1.heap.size,0,none⟩=some (.int .i64 ep):=by rw [hV];simp [go_sem]
  have e1:V.cell? ⟨w1.heap.size,1,none⟩=some (.string U):=by rw [hV];simp [go_sem]
  have e2:V.cell? ⟨w1.heap.size,2,none⟩=some (.string R):=by rw [hV];simp [go_sem]
  have EV:Env V:=HE.out.below (HC.out V (Below.refl _ _)).2.2.2
  have bb:=(Below.refl V.heap.size V).drew
  rw [←hV]
  clear hV hb
  first|(go_region_with (go_at_call 157;(with_reducible refine (KR.out _ (env_drew EV)).mono ?_);rintro e' wx ⟨rfl,hbx⟩))|fail
  all_goals
   obtain ⟨⟨c0,c1,c2⟩,⟨f0,f1,f2⟩,⟨d0,d1,d2⟩,hB⟩:=HC.out _ (bb.trans hbx)
   have HB:=Lib.hid hB
   clear hB
   go_wp2
   obtain ⟨k0,k1,k2,bW⟩:=fin3 (x:=.int .i64 0) (y:=.string { data:=#[] }) (z:=.string { data:=#[] }) HB.out c0 c1 c2
   exact bodyPost_ret (v:=.tuple #[.agg #[.int .i64 0,.string { data:=#[] },.string { data:=#[] }],.int .i64 4]) (by simp [results,Tryz.results135,go_sem,k0,k1,k2]) rfl ⟨by rw [X.out],bW⟩
 ·obtain ⟨q0,q1⟩:=rightB_epoch hr
  have KX:=Lib.hid (fun w E=>vtext_int ep U R w q0 q1 hU hR E)
  have hst:=strEq (trim0 (B s)) (mk (textL ep.toNat (B U) (B R))) (trim0_lt (B_lt s))
  rw [B_mk (textL_lt ep.toNat U R)] at hst
  by_cases hq:trim0 (B s)=textL ep.toNat (B U) (B R)
  ·have X:=Lib.hid (GOOD.out (by rw [DB.out,hr,decide_eq_true hq];rfl))
   rw [decide_eq_true hq] at hst
   rw [hr] at KR
   clear hr GOOD BAD DB hq
   generalize mk (textL ep.toNat (B U) (B R))=T at *
   generalize mk (trim0 (B s))=T0 at *
   go_enter Tryz.func135,Tryz.ntmps135
   go_wp2_with fail
   refine (KS.out _ (HE.out.alloc _)).mono ?_
   rintro e' w1 ⟨rfl,hb⟩
   go_wp2_with fail
   obtain ⟨V,hV⟩:∃V,V=w1.alloc (.cells #[.int .i64 ep,.string U,.string R] 158):=⟨_,rfl⟩
   have HC:=Lib.hid (fun W h=>res_cells (W:=W) hb hV h)
   have e0:V.cell? ⟨w1.heap.size,0,none⟩=some (.int .i64 ep):=by rw [hV];simp [go_sem]
   have e1:V.cell? ⟨w1.heap.size,1,none⟩=some (.string U):=by rw [hV];simp [go_sem]
   have e2:V.cell? ⟨w1.heap.size,2,none⟩=some (.string R):=by rw [hV];simp [go_sem]
   have EV:Env V:=HE.out.below (HC.out V (Below.refl _ _)).2.2.2
   have bb:=(Below.refl V.heap.size V).drew
   rw [←hV]
   clear hV hb
   go_region_held3 (fun W=>W.cell? ⟨w1.heap.size,0,none⟩=some (.int .i64 ep)∧W.cell? ⟨w1.heap.size,1,none⟩=some (.string U)∧W.cell? ⟨w1.heap.size,2,none⟩=some (.string R)∧Env W∧Below V.heap.size V W)
    (first|(go_split_ands;refine ⟨?_,?_,?_,?_,?_⟩<;>first|assumption|exact keep_cell hbx (by assumption)|exact env_keep hbx (by assumption)|exact Below.trans (by assumption) (hbx.mono (Below.size (by assumption)))|exact env_drew (by assumption))|go_keep)
    ((first|(go_at_call 157;(with_reducible refine (KR.out _ (by go_split_ands;assumption)).mono ?_);rintro e' wx ⟨rfl,hbx⟩)|(go_at_call 158;(with_reducible refine (KT0.out _).mono ?_);rintro e' wx ⟨rfl,rfl⟩)|(go_at_call 159;(with_reducible refine (KX.out _ (by go_split_ands;assumption)).mono ?_);rintro e' wx ⟨rfl,hbx⟩)))
   all_goals
    go_split_ands
    obtain ⟨⟨c0,c1,c2⟩,⟨f0,f1,f2⟩,⟨d0,d1,d2⟩,hB⟩:=HC.out _ (by assumption)
    have HB:=Lib.hid hB
    clear hB
    go_wp2
    obtain ⟨k0,k1,k2,bW⟩:=fin3 (x:=.int .i64 ep) (y:=.string U) (z:=.string R) HB.out c0 c1 c2
    exact bodyPost_ret (v:=.tuple #[.agg #[.int .i64 ep,.string U,.string R],.int .i64 0]) (by simp [results,Tryz.results135,go_sem,k0,k1,k2]) rfl ⟨by rw [X.out],bW⟩
  ·have X:=Lib.hid (BAD.out (by rw [DB.out,hr,decide_eq_false hq];rfl))
   rw [decide_eq_false hq] at hst
   rw [hr] at KR
   clear hr GOOD BAD DB hq
   generalize mk (textL ep.toNat (B U) (B R))=T at *
   generalize mk (trim0 (B s))=T0 at *
   go_enter Tryz.func135,Tryz.ntmps135
   go_wp2_with fail
   refine (KS.out _ (HE.out.alloc _)).mono ?_
   rintro e' w1 ⟨rfl,hb⟩
   go_wp2_with fail
   obtain ⟨V,hV⟩:∃V,V=w1.alloc (.cells #[.int .i64 ep,.string U,.string R] 158):=⟨_,rfl⟩
   have HC:=Lib.hid (fun W h=>res_cells (W:=W) hb hV h)
   have e0:V.cell? ⟨w1.heap.size,0,none⟩=some (.int .i64 ep):=by rw [hV];simp [go_sem]
   have e1:V.cell? ⟨w1.heap.size,1,none⟩=some (.string U):=by rw [hV];simp [go_sem]
   have e2:V.cell? ⟨w1.heap.size,2,none⟩=some (.string R):=by rw [hV];simp [go_sem]
   have EV:Env V:=HE.out.below (HC.out V (Below.refl _ _)).2.2.2
   have bb:=(Below.refl V.heap.size V).drew
   rw [←hV]
   clear hV hb
   go_region_held3 (fun W=>W.cell? ⟨w1.heap.size,0,none⟩=some (.int .i64 ep)∧W.cell? ⟨w1.heap.size,1,none⟩=some (.string U)∧W.cell? ⟨w1.heap.size,2,none⟩=some (.string R)∧Env W∧Below V.heap.size V W)
    (first|(go_split_ands;refine ⟨?_,?_,?_,?_,?_⟩<;>first|assumption|exact keep_cell hbx (by assumption)|exact env_keep hbx (by assumption)|exact Below.trans (by assumption) (hbx.mono (Below.size (by assumption)))|exact env_drew (by assumption))|go_keep)
    ((first|(go_at_call 157;(with_reducible refine (KR.out _ (by go_split_ands;assumption)).mono ?_);rintro e' wx ⟨rfl,hbx⟩)|(go_at_call 158;(with_reducible refine (KT0.out _).mono ?_);rintro e' wx ⟨rfl,rfl⟩)|(go_at_call 159;(with_reducible refine (KX.out _ (by go_split_ands;assumption)).mono ?_);rintro e' wx ⟨rfl,hbx⟩)))
   all_goals
    go_split_ands
    obtain ⟨⟨c0,c1,c2⟩,⟨f0,f1,f2⟩,⟨d0,d1,d2⟩,hB⟩:=HC.out _ (by assumption)
    have HB:=Lib.hid hB
    clear hB
    go_wp2
    obtain ⟨k0,k1,k2,bW⟩:=fin3 (x:=.int .i64 0) (y:=.string { data:=#[] }) (z:=.string { data:=#[] }) HB.out c0 c1 c2
    exact bodyPost_ret (v:=.tuple #[.agg #[.int .i64 0,.string { data:=#[] },.string { data:=#[] }],.int .i64 4]) (by simp [results,Tryz.results135,go_sem,k0,k1,k2]) rfl ⟨by rw [X.out],bW⟩
theorem vparse_any (s:ByteArray) (w:World) (E:Env w) :
  Calls Tryz.prog 135 #[.string s] w fun e' w'=>e'=.returned (parseV s)∧Below w.heap.size w w':=by
 by_cases h:s.size≤60
 ·exact vparse_short s w h E
 ·exact vparse_long s w (by omega)
end Go.Proofs.YtpilmhoakopcaaaGreatDoor
