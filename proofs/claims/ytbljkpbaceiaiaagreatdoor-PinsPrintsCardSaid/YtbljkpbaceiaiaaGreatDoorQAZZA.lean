/- What the laws rest on: N8c. -/
import Derived.Test.YtbljkpbaceiaiaaGreatDoorQAQZA
import Derived.Test.YtbljkpbaceiaiaaGreatDoorQAXZA
set_option maxRecDepth 100000
set_option linter.unusedVariables false
set_option linter.unusedSimpArgs false
namespace Go.Proofs.YtbljkpbaceiaiaaGreatDoor
open Go.RowKit
theorem stz_info8:(Tryz.prog.info? 48).map (fun i=>(i.zero,i.size,i.bytes))=some (some (.slice none 0 0),1,24):=by kernel_rfl
theorem wr8_end {w W:World} (x:Pn) (hB:Below w.heap.size w W) {T:TypeId} :
  rdFds (W.alloc (.cells #[.string { data:=#[80,97,99,107,97,103,101] },.string x.n,.string { data:=#[80,105,110] },.string (mk (ver8L++(B x.x++[42]))),.string { data:=#[80,105,110,45,80,114,105,111,114,105,116,121] },.string (mk (decI x.p))] T)) (fun b=>w.heap.size≤b∧b < W.heap.size+1) (stN8 x) [.slice (some ⟨W.heap.size,0,none⟩) 3 3]:=
 st8_block x _ _ rfl rfl (new_heap W _) ⟨hB.size,by omega⟩
set_option maxHeartbeats 4000000 in
theorem write8_any (x:Pn) (w:World) (hr:rgtN x=true) (E:Env w):Calls Tryz.prog 33 #[x.val] w fun e w'=>(∃b,e=.returned (.slice (some ⟨b,0,none⟩) 3 3)∧rdFds w' (fun b=>w.heap.size≤b∧b < w'.heap.size) (stN8 x) [.slice (some ⟨b,0,none⟩) 3 3])∧Below w.heap.size w w':=by
 obtain ⟨-,hx60,-,p1,p2⟩:=rgtN_parts hr
 have KV:=Lib.hid (fun W=>vtxt_any x W (by omega))
 have KT:=Lib.hid (fun W E=>ptxt_any x W p1 p2 E)
 have HE:=Lib.hid E
 have FIN:=Lib.hid (fun W (hB:Below w.heap.size w W)=>wr8_end (T:=58) x hB)
 obtain ⟨n,v,p⟩:=x
 have B1:=(bel_box w (.cells #[.string n,.string v,.int .i64 p] 30)).drew
 simp only [Pn.val] at KV KT FIN
 generalize mk (ver8L++(B v++[42]))=y at *
 generalize mk (decI p)=d at *
 generalize stN8 ⟨n,v,p⟩=L at *
 clear hr E hx60 p1 p2
 go_enter Tryz.func33,Tryz.ntmps33
 go_wp2
 go_region_held3 (fun W=>W.cell? ⟨w.heap.size,0,none⟩=some (.string n)∧W.cell? ⟨w.heap.size,1,none⟩=some (.string v)∧W.cell? ⟨w.heap.size,2,none⟩=some (.int .i64 p)∧Below w.heap.size w W)
  (first|(go_split_ands;refine ⟨?_,?_,?_,?_⟩<;>first|assumption|exact keep_cell hbx (by assumption)|exact bel_2 (by assumption) hbx|exact bel_al (by assumption)|exact keep_cell (bel_box _ _) (by assumption))|go_keep)
  ((first|(go_at_call 46;(with_reducible refine (KV.out _).mono ?_);rintro e wx ⟨rfl,hbx⟩)|(go_at_call 47;(with_reducible refine (KT.out _ (HE.out.below (by go_split_ands;assumption))).mono ?_);rintro e wx ⟨rfl,hbx⟩)))
 all_goals
  have V1:=Lib.hid (show Below w.heap.size w wx from bel_2 (bel_2 B1 (by assumption)) hbx)
  go_wp2
  go_ret
  exact ⟨⟨_,rfl,rdFds_good.more (FIN.out _ V1.out) fun b hb=>⟨hb.1,by rw [World.size_alloc];exact hb.2⟩⟩,bel_al V1.out⟩
set_option maxHeartbeats 8000000 in
theorem pprint_any (A:Option Addr) (n c:Nat) (l:List Pn) (w:World) (h:rdPns w (lt_ w.heap.size) l [.slice A n c]) (E:Env w) :
  Calls Tryz.prog 16 #[.slice A n c] w fun e w'=>e=.returned (.string (prN prP l))∧Below w.heap.size w w':=by
 obtain ⟨rfl,hnc,hcm,-⟩:=rdPns_at h
 have hcm':c≤9223372036854775807:=hcm
 by_cases g64:(64:Int) < (l.length:Int)
 ·have X:=Lib.hid (prN_many (PR:=prP) (show 64 < l.length by omega))
  clear h hcm
  go_enter Tryz.func16,Tryz.ntmps16
  go_wp2
  go_ret
  exact ⟨by rw [X.out];try rfl,Below.refl _ _⟩
 obtain ⟨fi,hi,hz0,hz1,hz2⟩:=info_parts stz_info8
 have H:=Lib.hid h
 have HE:=Lib.hid E
 have H64:=Lib.hid (show l.length≤64 by omega)
 have KR:=Lib.hid (fun k (hk:k < l.length) W=>pright_any l[k] W)
 have KW:=Lib.hid (fun k (hk:k < l.length) W (hr:rgtN l[k]=true) E=>write8_any l[k] W hr E)
 clear h hcm E
 go_enter Tryz.func16,Tryz.ntmps16
 go_wp2
 go_loopw [3,11] (fun v i wr=>∃k:Nat,k≤l.length∧i=.int .i64 k∧(∀x ∈ l.take k,rgtN x=true)∧Grow rdFds 1 (fun _=>True) wr w.heap.size 48 v ((l.take k).map stN8)∧Below w.heap.size w wr) (fun _ i _=>l.length - (intOf i).toNat)
 case atStart=>exact ⟨0,Nat.zero_le _,rfl,fun x hx=>by simp at hx,Grow.nil _ _ _ _,Below.refl _ _⟩
 case round=>
  obtain ⟨k,hk,rfl,hok,hG,hbel⟩:=hrel
  have HB:=Lib.hid hbel
  have HG:=Lib.hid hG
  have HO:=Lib.hid hok
  clear hok hG
  by_cases hlt:k < l.length
  ·obtain ⟨_,_,_,hat⟩:=rdPns_at (rdPns_good.below H.out hbel)
   obtain ⟨ad,rfl,had,c0,c1,c2⟩:=hat k hlt
   have K:=Lib.hid (fun W=>KR.out k hlt W)
   have W8:=Lib.hid (fun W (hr:rgtN l[k]=true) E=>KW.out k hlt W hr E)
   have TS:=Lib.hid (take_snoc stN8 l k hlt)
   have XB:=Lib.hid (prN_bad (PR:=prP) hlt)
   have NO:=Lib.hid (fun hr:rgtN l[k]=true=>show ∀x ∈ l.take (k+1),rgtN x=true from fun x hx=>by
    rw [List.take_succ_eq_append_getElem hlt] at hx
    rcases List.mem_append.1 hx with hx|hx
    ·exact HO.out x hx
    ·rw [List.mem_singleton.1 hx];exact hr)
   have i0:(0:Int)≤(k:Int):=by omega
   have i1:(k:Int) < (l.length:Int):=by omega
   have H64':=H64.out
   have i2:(k:Int) < 64:=by omega
   clear hat hbel had
   generalize l[k]=x at *
   cases hr:rgtN x
   ·have X:=Lib.hid (XB.out hr)
    rw [hr] at K
    clear hr
    obtain ⟨xn,xx,xp⟩:=x
    simp only [Pn.val] at c0 c1 c2 K
    go_wp2_with fail
    refine (K.out _).mono ?_
    rintro e w2 ⟨rfl,hb⟩
    have HB2:=Lib.hid (bel_2 HB.out (bel_boxed hb))
    clear hb
    go_wp2
    go_ret
    exact ⟨by rw [X.out];try rfl,HB2.out⟩
   ·have NX:=Lib.hid (NO.out hr)
    have W8:=Lib.hid (fun W E=>W8.out W hr E)
    rw [hr] at K
    clear hr XB NO
    obtain ⟨xn,xx,xp⟩:=x
    simp only [Pn.val] at c0 c1 c2 K W8
    go_wp2_with fail
    refine (K.out _).mono ?_
    rintro e w2 ⟨rfl,hb⟩
    obtain ⟨d0,d1,d2,-⟩:=box_cells hb
    have V2:=Lib.hid (bel_boxed hb)
    have E2:=Lib.hid (HE.out.below (bel_2 HB.out V2.out))
    clear hb c0 c1 c2 K
    go_wp2_with fail
    refine (W8.out _ E2.out).mono ?_
    rintro e w3 ⟨⟨b,rfl,hrd⟩,hb⟩
    have V3:=Lib.hid (bel_2 V2.out hb)
    have G3:=Lib.hid (HG.out.below rdFds_good V3.out)
    have S2:=V2.out.size
    have hE:=(show rdFds w3 (fun b=>True∧b < w3.heap.size∧u3.ownBlock≠some b) (stN8 ⟨xn,xx,xp⟩) (#[.slice (some ⟨b,0,none⟩) 3 3]:Array Value).toList from rdFds_good.more hrd fun b hb=>⟨trivial,hb.2,fun hh=>by have h8:=(HG.out.lt b hh).2;have h7:=hb.1;omega⟩)
    have hlm:((l.take k).map stN8).length=k:=by rw [List.length_map,List.length_take];omega
    have hn1:((l.take k).map stN8).length+1≤maxLen:=by rw [hlm];unfold maxLen;omega
    have hn2:(((l.take k).map stN8).length+1)*24≤140737488355328:=by rw [hlm];omega
    have hs4:w.heap.size≤w3.heap.size:=Nat.le_trans HB.out.size V3.out.size
    clear hb hrd hlm S2 d0 d1 d2
    go_wp2_with (at_builtin;refine wpList_grow1 w3 rfl _ _ 44 rfl rdFds_good (by decide) (fun _=>True) w.heap.size 48 fi _ 24 Tryz.underlying44 hi hz0 hz1 hz2 rfl u3 _ rfl G3.out (stN8 ⟨xn,xx,xp⟩) _ 48 hE _ rfl rfl hn1 hn2 hs4 ?_)
    intro v5 w5 hG5 hg5
    have HB5:=Lib.hid (grow_below G3.out hg5 (HB.out.trans (V3.out.mono HB.out.size)) (Nat.le_refl _) hs4)
    have G5:=Lib.hid hG5
    clear hG5 hg5 hE hn1 hn2 hs4
    go_wp2
    go_roundw
    case rel=>exact ⟨k+1,by omega,by go_num,NX.out,by rw [TS.out];first|exact G5.out|(rw [List.map_take];exact G5.out),HB5.out⟩
    case measure=>simp [intOf];omega
  ·obtain rfl:k=l.length:=by omega
   have HG2:=HG.out
   rw [List.take_length] at HG2 HO
   have X:=Lib.hid (show prN prP l=prP (l.map stN8) from if_pos ((rightN_iff l).2 ⟨HO.out,by omega⟩))
   have hrd:=HG2.read rdFds_good
   obtain ⟨A',cp',hv',_,_⟩:=HG2.own
   rw [hv'] at hrd
   have K:=Lib.hid (by
    have:=print5_any _ _ _ _ wr hrd (HE.out.below HB.out).max (fun st hst f hf=>by
     obtain ⟨x,hx,rfl⟩:=List.mem_map.1 hst
     have:=(stN8_small (HO.out x hx) f hf).1
     unfold maxLen;omega)
    rw [←X.out] at this;exact this)
   rw [List.length_map] at hv' K
   obtain ⟨RR,hRR⟩:∃r,r=prN prP l:=⟨_,rfl⟩
   rw [←hRR] at K
   have XX:=Lib.hid hRR
   clear X hRR
   subst hv'
   clear HG2 HG hbel hrd
   go_wp2_with fail
   refine K.out.mono ?_
   rintro e w3 ⟨rfl,hb3⟩
   go_wp2
   go_ret
   exact ⟨by rw [←XX.out];try rfl,bel2 HB.out hb3 (Nat.le_refl _)⟩
end Go.Proofs.YtbljkpbaceiaiaaGreatDoor
