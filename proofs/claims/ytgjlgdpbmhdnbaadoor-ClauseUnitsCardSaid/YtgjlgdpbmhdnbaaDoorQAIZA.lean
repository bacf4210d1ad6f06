/- What the laws rest on: E12h, E12i, Post2. -/
import Derived.ProofKit
import Derived.OpenShut
import Derived.ChangeMaps5
import Derived.SliceStrings
import Derived.Lib.SmallJoins
import Derived.Deep.Slices
import Derived.Deep.Strs
import Derived.Test.YtgjlgdpbmhdnbaaDoorRows
import Derived.ChangeSame
import Derived.Carry
import Derived.Test.YtgjlgdpbmhdnbaaDoorQAFZA
set_option maxRecDepth 100000
set_option linter.unusedVariables false
set_option linter.unusedSimpArgs false
namespace Go.Proofs.YtgjlgdpbmhdnbaaDoor
open Go.RowKit
structure Rv (n:Nat) (l:List (List Int)) (g:List Int) (a:List Int):Prop where
 len:a.length=n
 three:∀k,k < n→a[k]! = 1∨a[k]! = -1∨a[k]! = 0
 snd:∀x,tv a x=1→Der l g x
def DoneC (a c:List Int):Prop:=(∃x ∈ c,tv a x=1)∨∃x ∈ c,∃y ∈ c,x≠y∧tv a x≠-1∧tv a y≠-1
theorem rv_put {n:Nat} {l:List (List Int)} {g a:List Int} {x:Int} (h:Rv n l g a) (hx:litN n x) (h1:¬tv a x < 0) (hd:Der l g x):Rv n l g (putT a x)∧tv (putT a x) x=1∧(∀y,tv a y=1→tv (putT a x) y=1)∧(tv a x=0→nz (putT a x)=nz a+1):=by
 have hxl:litN a.length x:=by rw [h.len];exact hx
 refine ⟨⟨(putT_len _ _).trans h.len,fun k hk=>putT_three hxl (by rw [h.len];exact h.three) k (by rw [h.len];exact hk),fun y hy=>?_⟩,by rw [tv_put hxl,if_pos rfl],fun y hy=>?_,fun h0=>nz_put hxl ((tv_zero2 hxl).1 h0)⟩
 ·rw [tv_put hxl] at hy
  by_cases e:y=x
  ·exact e ▸ hd
  ·rw [if_neg e] at hy
   by_cases e2:y=-x
   ·rw [if_pos e2] at hy;omega
   ·rw [if_neg e2] at hy;exact h.snd y hy
 ·rw [tv_put hxl]
  by_cases e:y=x
  ·rw [if_pos e]
  ·rw [if_neg e]
   by_cases e2:y=-x
   ·rw [e2,tv_neg] at hy;omega
   ·rw [if_neg e2];exact hy
theorem rv_start (n:Nat) (l:List (List Int)) (g:List Int):Rv n l g (List.replicate n 0):=⟨(start_iv n l g).len,(start_iv n l g).three,(start_iv n l g).snd⟩
theorem bad_given {n:Nat} {l:List (List Int)} {g a:List Int} {x:Int} (h:Rv n l g a) (hx:x ∈ g) (hb:¬litN a.length x∨tv a x < 0):Bad n l g:=by
 rcases hb with hb|hb
 ·exact Or.inl ⟨x,hx,by rw [←h.len];exact hb⟩
 ·have:=tv_three a x
  exact Or.inr (Or.inl ⟨x,Der.giv hx,h.snd _ (by rw [tv_neg];omega)⟩)
theorem bad_value {n:Nat} {l:List (List Int)} {g a c:List Int} (h:Rv n l g a) (hc:c ∈ l) (hv:vaI a c false < 0):Bad n l g:=
 bad_of hc fun y hy=>h.snd _ (by rw [tv_neg,(vaI_neg.1 hv).2 y hy];rfl)
theorem last_done {a c:List Int} (hc:∀y ∈ c,y≠0) (hv:¬vaI a c false < 0) (h0:laI a c 0=0):DoneC a c:=by
 rcases laI_none h0 hc with ⟨y,k1,k2⟩|⟨k0,_⟩|⟨y,k1,z,k2,k3,k4,k5⟩|⟨_,k⟩
 ·exact Or.inl ⟨y,k1,k2⟩
 ·exact absurd rfl k0
 ·exact Or.inr ⟨y,k1,z,k2,k3,by omega,by omega⟩
 ·exact absurd (vaI_neg.2 ⟨rfl,k⟩) hv
theorem last_der {n:Nat} {l:List (List Int)} {g a c:List Int} (h:Rv n l g a) (hc:c ∈ l) (hz:∀y ∈ c,litN n y) (h0:laI a c 0≠0):litN n (laI a c 0)∧tv a (laI a c 0)=0∧Der l g (laI a c 0):=by
 obtain ⟨⟨p1,p2⟩,-,p4⟩:=laI_some h0 (fun y hy=>(hz y hy).1) (Or.inl rfl)
 have p3:=p2.resolve_left h0
 exact ⟨hz _ p3,p1,der_of hc p3 fun y hy=>(p4 y hy).imp id fun q=>h.snd _ (by rw [tv_neg,q];rfl)⟩
def PaM (N tb n:Nat) (l:List (List Int)) (g:List Int) (gm:Nat) (ag:Bool) (W:World):Prop:=
 ∃a,AsM W N tb a∧Rv n l g a∧(∀x ∈ g,tv a x=1)∧(ag=false→∀c ∈ l,DoneC a c)∧(ag=true→n - nz a+1≤gm)
def PiM (N tb n:Nat) (l:List (List Int)) (g a0:List Int) (j:Nat) (ag:Bool) (W:World):Prop:=
 ∃a,AsM W N tb a∧Rv n l g a∧(∀x ∈ g,tv a x=1)∧(ag=false→a=a0∧∀c ∈ l.take j,DoneC a0 c)∧(ag=true→nz a0+1≤nz a)∧nz a0≤nz a
set_option maxHeartbeats 32000000 in
theorem q12units_any (n:Int) (Al Ag:Option Addr) (nl cl ng cg:Nat) (l:List (List Int)) (g:List Int) (w:World) (hl:rdIss w (lt_ w.heap.size) l [.slice Al nl cl]) (hg:rdInts w (lt_ w.heap.size) g [.slice Ag ng cg]) :
  Calls Tryd.prog 10 #[.int .i64 n,.slice Al nl cl,.slice Ag ng cg] w fun e w'=>UnP n l g w e w'∧True:=by
 obtain ⟨fi,hi,hz0,hz1,hz2⟩:=info_parts int12_info
 obtain ⟨rfl,hgc,hgm,_⟩:=rdInts_at hg
 obtain ⟨rfl,hlc,hlm,_⟩:=rdIss_at hl
 have hgm':cg≤9223372036854775807:=hgm
 have hlm':cl≤9223372036854775807:=hlm
 have KR:=Lib.hid (q12right_any n Al l.length cl l _ w hl)
 cases hok:okF n l
 ·have PX:=Lib.hid (show UnP n l g w (.returned (.tuple #[.slice none 0 0,.bool false])) w from ⟨[],false,none,0,rfl,Or.inl ⟨hok,rfl,rfl⟩,rdRow_nil _ _,Below.refl _ _⟩)
  rw [hok] at KR
  clear hok hl hg
  go_enter Tryd.func10,Tryd.ntmps10
  go_wp2_with fail
  refine KR.out.mono ?_
  rintro e w1 ⟨rfl,rfl⟩
  go_wp2
  go_ret2
  first|exact PX.out|exact ⟨PX.out,trivial⟩
 obtain ⟨o1,o2,o3,o4⟩:=okF_spec hok
 obtain ⟨m,rfl⟩:∃m:Nat,n=(m:Int):=⟨n.toNat,by omega⟩
 rw [Int.toNat_natCast] at o4
 rw [hok] at KR
 have hn:m≤20000:=by omega
 have R:=Lib.hid (fun c hc=>(o4 c hc).2)
 have PB:=Lib.hid (fun W (hB:Bad m l g) (hb:Below w.heap.size w W)=>(show UnP m l g w (.returned (.tuple #[.slice none 0 0,.bool false])) W from ⟨[],false,none,0,rfl,Or.inr ⟨hok,by rw [Int.toNat_natCast];exact Or.inl ⟨rfl,rfl,hB⟩⟩,rdRow_nil _ _,hb⟩))
 have PO:=Lib.hid (fun W r tb (hr:IsU m l g r true) (hl:r.length=m) (hb:Below w.heap.size w W) (hrd:rdInts W (lt_ W.heap.size) r [.slice (some ⟨tb,0,none⟩) m m])=>(show UnP m l g w (.returned (.tuple #[.slice (some ⟨tb,0,none⟩) m m,.bool true])) W from ⟨r,true,_,m,by rw [hl],Or.inr ⟨hok,by rw [Int.toNat_natCast];exact hr⟩,by rw [hl];exact hrd,hb⟩))
 clear hok o1 o2 o4
 obtain ⟨N,hN⟩:∃N,N=w.heap.size:=⟨_,rfl⟩
 rw [←hN] at hl hg PB PO
 have HL:=Lib.hid (fun (W:World) (hb:Below N w W)=>(rdIss_at (rdIss_good.below hl hb)).2.2.2)
 have HG:=Lib.hid (fun (W:World) (hb:Below N w W)=>(rdInts_at (rdInts_good.below hg hb)).2.2.2)
 have hm1:m≤maxLen:=by unfold maxLen;omega
 have hbs:N≤w.heap.size:=by omega
 have hby:fi.bytes*m≤281474976710656:=by rw [hz2];omega
 clear hl hg
 go_enter Tryd.func10,Tryd.ntmps10
 go_wp2_with fail
 refine KR.out.mono ?_
 rintro e w1 ⟨rfl,rfl⟩
 clear KR
 go_wp2_with (at_make;refine wpList_make_full w rfl _ _ 23 rfl N 3 fi _ 1 Tryd.underlying23 hi hz0 hz1 .i64 .i64 (m:Int) (m:Int) m rfl rfl rfl rfl hby hm1 hbs ?_)
 intro w2 hr hgr
 obtain ⟨tb,htb⟩:∃tb,tb=w.heap.size:=⟨_,rfl⟩
 rw [←htb] at hr ⊢
 have A0:=Lib.hid (show AsM w2 N tb (List.replicate m 0) from ⟨by rw [own_full (n:=m) (u:=.int .i64 0) (by rw [Nat.mul_one];exact hr),List.map_replicate],by omega⟩)
 have B0:=Lib.hid (show Below N w w2 from ((grown_below0 hgr).mono (by omega)))
 have START:=Lib.hid (show ∃a,AsM w2 N tb a∧Rv m l g a∧∀x ∈ g.take 0,tv a x=1 from ⟨_,A0.out,rv_start m l g,fun x hx=>by rw [List.take_zero] at hx;exact absurd hx List.not_mem_nil⟩)
 clear hr hgr A0 htb hN hbs
 go_wp2
 go_loopw [10] (fun i wr=>∃k:Nat,k≤g.length∧i=.int .i64 k∧Below N w wr∧Hid (∃a,AsM wr N tb a∧Rv m l g a∧∀x ∈ g.take k,tv a x=1)) (fun i _=>g.length - (intOf i).toNat)
 case atStart=>exact ⟨0,Nat.zero_le _,rfl,B0.out,START⟩
 case round=>
  clear START B0
  obtain ⟨k,hk,rfl,hbel,H1⟩:=hrel
  have HB:=Lib.hid hbel
  clear hbel
  by_cases hlt:k < g.length
  ·obtain ⟨ad,rfl,had,g0⟩:=HG.out wr HB.out k hlt
   have i0:(0:Int)≤(k:Int):=by omega
   have i1:(k:Int) < (g.length:Int):=by omega
   obtain ⟨a,A1,R1,M1⟩:=H1.out
   have hal:=R1.len
   have ST:=Lib.hid (set12_any N tb a g[k] wr A1 (by omega))
   rw [hal] at ST
   have GB:=Lib.hid (bad_given R1 (List.getElem_mem hlt))
   have TK:=Lib.hid (show litN m g[k]→¬tv a g[k] < 0→∀W,AsM W N tb (putT a g[k])→(∃a,AsM W N tb a∧Rv m l g a∧∀x ∈ g.take (k+1),tv a x=1) from fun h1 h2 W hW=>by
    obtain ⟨r1,r2,r3,-⟩:=rv_put R1 h1 h2 (Der.giv (List.getElem_mem hlt))
    refine ⟨_,hW,r1,fun x hx=>?_⟩
    rw [List.take_succ_eq_append_getElem hlt] at hx
    rcases List.mem_append.1 hx with q|q
    ·exact r3 x (M1 x q)
    ·rw [List.mem_singleton.1 q];exact r2)
   clear had H1 A1 R1 M1
   generalize g[k]=x at *
   go_wp2_with fail
   refine ST.out.mono ?_
   rintro e w3 ⟨hq,-⟩
   rcases hq with ⟨q1,rfl,rfl⟩|⟨q1,q2,rfl,q3,q4⟩
   ·have PX:=Lib.hid (PB.out wr (GB.out q1) HB.out)
    clear q1 GB TK ST
    go_wp2
    go_ret2
    first|exact PX.out|exact ⟨PX.out,trivial⟩
   ·have NX:=Lib.hid (TK.out (hal ▸ q1) (by omega) w3 q3)
    have HB2:=Lib.hid (HB.out.trans q4)
    clear q1 q2 q3 q4 GB TK ST
    go_wp2
    go_roundw
    case rel=>exact ⟨k+1,by omega,by go_num,HB2.out,NX⟩
    case measure=>simp [intOf];omega
  ·have S2:=Lib.hid (show PaM N tb m l g (m+1) true wr from by
    obtain ⟨a,a1,a2,a3⟩:=H1.out
    rw [List.take_of_length_le (by omega)] at a3
    exact ⟨a,a1,a2,a3,fun q=>(by cases q),fun _=>by omega⟩)
   clear H1 HG
   obtain ⟨wo,rfl⟩:∃W,W=wr:=⟨_,rfl⟩
   go_wp2
   go_loopg [12] (m+1) (fun gm v wr=>∃ag:Bool,v=.bool ag∧Below N w wr∧Hid (PaM N tb m l g gm ag wr))
   case atStart=>exact ⟨true,rfl,HB.out,S2⟩
   case round=>
    clear S2 HB
    obtain ⟨ag,rfl,hbel,H1⟩:=hrel
    have HB:=Lib.hid hbel
    clear hbel
    obtain ⟨a0,A1,R1,M1,D1,G1⟩:=H1.out
    cases ag
    ·have PX:=Lib.hid (PO.out wr a0 tb (isU_of R1.len R1.three R1.snd M1 (D1 rfl)) R1.len HB.out (by have:=A1.read (by rw [R1.len];exact hn);rwa [R1.len] at this))
     clear H1 A1 R1 M1 D1 G1
     go_wp2
     go_ret2
     first|exact PX.out|exact ⟨PX.out,trivial⟩
    ·have GM:=Lib.hid (G1 rfl)
     have NZ:=Lib.hid (show nz a0≤m from by have:=nz_le a0;rw [R1.len] at this;exact this)
     have IN:=Lib.hid (show PiM N tb m l g a0 0 false wr from ⟨a0,A1,R1,M1,fun _=>⟨rfl,fun c hc=>by rw [List.take_zero] at hc;exact absurd hc List.not_mem_nil⟩,fun q=>(by cases q),Nat.le_refl _⟩)
     clear H1 A1 R1 M1 D1 G1
     obtain ⟨wp,rfl⟩:∃W,W=wr:=⟨_,rfl⟩
     go_wp2
     go_loopw [12,13] (fun v i wr=>∃(j:Nat) (ag:Bool),j≤l.length∧i=.int .i64 j∧v=.bool ag∧Below N w wr∧Hid (PiM N tb m l g a0 j ag wr)) (fun v i _=>l.length - (intOf i).toNat)
     case atStart=>exact ⟨0,false,Nat.zero_le _,rfl,rfl,HB.out,IN⟩
     case round=>
      clear IN HB
      obtain ⟨j,ag,hj,rfl,rfl,hbel,H1⟩:=hrel
      have HB:=Lib.hid hbel
      clear hbel
      obtain ⟨a,A1,R1,M1,D1,G1,Z1⟩:=H1.out
      by_cases hlt2:j < l.length
      ·obtain ⟨ad,rfl,had,A2,c2,g0,g1⟩:=HL.out wr HB.out j hlt2
       have j0:(0:Int)≤(j:Int):=by omega
       have j1:(j:Int) < (l.length:Int):=by omega
       have hal:=R1.len
       have RD:=A1.read (by rw [hal];exact hn)
       rw [hal] at RD
       have VA:=Lib.hid (val12_any A2 l[j].length c2 l[j] (some ⟨tb,0,none⟩) m m a _ _ wr g1 RD (by omega))
       have LA:=Lib.hid (last12_any A2 l[j].length c2 l[j] (some ⟨tb,0,none⟩) m m a _ _ wr g1 RD (by omega))
       have ST:=Lib.hid (fun x=>set12_any N tb a x wr A1 (by omega))
       rw [hal] at ST
       have RC:=R.out l[j] (List.getElem_mem hlt2)
       have BV:=Lib.hid (bad_value R1 (List.getElem_mem hlt2))
       have LD:=Lib.hid (last_der R1 (List.getElem_mem hlt2) RC)
       have DN:=Lib.hid (show ¬vaI a l[j] false < 0→laI a l[j] 0=0→PiM N tb m l g a0 (j+1) ag wr from fun h1 h2=>⟨a,A1,R1,M1,fun q=>by
        obtain ⟨d1,d2⟩:=D1 q
        refine ⟨d1,fun c hc=>?_⟩
        rw [List.take_succ_eq_append_getElem hlt2] at hc
        rcases List.mem_append.1 hc with z|z
        ·exact d2 c z
        ·rw [List.mem_singleton.1 z,←d1];exact last_done (fun y hy=>(RC y hy).1) h1 h2,G1,Z1⟩)
       have TK:=Lib.hid (show laI a l[j] 0≠0→∀W,AsM W N tb (putT a (laI a l[j] 0))→PiM N tb m l g a0 (j+1) true W from fun h1 W hW=>by
        obtain ⟨p1,p2,p3⟩:=LD.out h1
        obtain ⟨r1,r2,r3,r4⟩:=rv_put R1 p1 (by omega) p3
        have r5:=r4 p2
        exact ⟨_,hW,r1,fun x hx=>r3 x (M1 x hx),fun q=>(by cases q),fun _=>by omega,by omega⟩)
       clear had H1 A1 R1 M1 D1 G1 Z1 g1 RD RC
       generalize vaI a l[j] false=va at *
       generalize laI a l[j] 0=la at *
       generalize l[j].length=cn at *
       by_cases hv:va < 0
       ·have d1:decide (va < 0)=true:=decide_eq_true hv
        have PX:=Lib.hid (PB.out wr (BV.out hv) HB.out)
        clear BV LD DN TK ST LA
        go_wp2_with (go_at_call 22;(with_reducible refine VA.out.mono ?_);rintro e w' ⟨rfl,rfl⟩)
        go_ret2
        first|exact PX.out|exact ⟨PX.out,trivial⟩
       ·have d1:decide (va < 0)=false:=decide_eq_false hv
        by_cases hz:la=0
        ·have NX:=Lib.hid (DN.out hv hz)
         have b0:(la != 0)=false:=by simp [hz]
         have HZ:=Lib.hid hz
         clear BV LD DN TK ST hz
         go_wp2_with (first|(go_at_call 22;(with_reducible refine VA.out.mono ?_);rintro e w' ⟨rfl,rfl⟩)|(go_at_call 23;(with_reducible refine LA.out.mono ?_);rintro e w' ⟨rfl,rfl⟩))
         go_roundw
         case rel=>exact ⟨j+1,ag,by omega,by go_num,rfl,HB.out,NX⟩
         case measure=>simp [intOf];omega
        ·have b0:(la != 0)=true:=by simp [hz]
         obtain ⟨p1,p2,p3⟩:=LD.out hz
         have TK2:=Lib.hid (TK.out hz)
         have P1:=Lib.hid (hal.symm ▸ p1:litN a.length la)
         have P2:=Lib.hid p2
         clear BV LD DN TK p1 p2 p3
         go_wp2_with (first|(go_at_call 22;(with_reducible refine VA.out.mono ?_);rintro e w' ⟨rfl,rfl⟩)|(go_at_call 23;(with_reducible refine LA.out.mono ?_);rintro e w' ⟨rfl,rfl⟩)|fail)
         refine (ST.out la).mono ?_
         rintro e w3 ⟨hq,-⟩
         obtain ⟨rfl,q3,q4⟩:e=.returned (.bool true)∧AsM w3 N tb (putT a la)∧Below N wr w3:=by
          rcases hq with ⟨q,-⟩|⟨-,-,a,b,c⟩
          ·rcases q with q|q
           ·exact absurd P1.out q
           ·have:=P2.out;omega
          ·exact ⟨a,b,c⟩
         have NX:=Lib.hid (TK2.out w3 q3)
         have HB2:=Lib.hid (HB.out.trans q4)
         clear hq q3 q4 TK2 P1 P2 ST
         go_wp2
         go_roundw
         case rel=>exact ⟨j+1,true,by omega,by go_num,rfl,HB2.out,NX⟩
         case measure=>simp [intOf];omega
      ·have NX:=Lib.hid (show PaM N tb m l g (if ag=true then m - nz a+1 else 0) ag wr from ⟨a,A1,R1,M1,fun q=>by
        obtain ⟨d1,d2⟩:=D1 q
        rw [List.take_of_length_le (by omega)] at d2
        rw [d1];exact d2,fun q=>by rw [if_pos q];exact Nat.le_refl _⟩)
       have hz2:=nz_le a
       rw [R1.len] at hz2
       have GX:=Lib.hid (show (if ag=true then m - nz a+1 else 0) < m - nz a0+1 from by
        cases ag
        ·rw [if_neg (by decide)];omega
        ·rw [if_pos rfl];have:=G1 rfl;omega)
       clear H1 A1 R1 M1 D1 G1 Z1
       go_wp2
       go_roundg (if ag=true then m - nz a+1 else 0)
       case measure=>have:=GX.out;have:=GM.out;omega
       case rel=>exact ⟨ag,rfl,HB.out,NX⟩
end Go.Proofs.YtgjlgdpbmhdnbaaDoor
namespace Go.Proofs.YtgjlgdpbmhdnbaaDoor
open Go.RowKit Go.WideShapes Go.ChangeShapes Go.ChangeAt Go.WideMaps Go.WideElems Go.Joins Go.Deep
section
variable {H:Type} {enc:TypeId × Value→H} {W:World}
theorem cells12_ints:Tryd.prog.cellsOf 23=1:=by kernel_rfl
theorem open12_ints_trod {base n:Nat} {sp:Nat→Bool} {held:Bool} {cs:List Value} {y:DataW H × List MemPlace} (h:DataW.trod enc Tryd.prog W base sp held n 23 cs=some y) :
  ∃A len c l,cs=[.slice A len c]∧rdInts W (lt_ W.heap.size) l [.slice A len c]∧(∀x ∈ l,(Lit.int .i64 x).wf=true):=by
 rcases open_ints Tryd.underlying23 Tryd.underlying3 (by kernel_rfl) h with ⟨rfl,hx⟩|⟨a,len,cap,zs,rfl,_,hl,hm,hz,hx,hcell,hwz⟩
 ·exact ⟨none,0,0,[],rfl,rdRow_nil _ _,by simp⟩
 ·have hlz:len≤zs.length:=by rw [hz];split<;>omega
  refine ⟨some a,len,cap,zs.take len,rfl,⟨some a,cap,by rw [List.length_take,Nat.min_eq_left hlz],by rw [List.length_take];omega,hm,fun k hk=>?_⟩,fun x hx=>hwz x (List.mem_of_mem_take hx)⟩
  rw [List.length_take,Nat.min_eq_left hlz] at hk
  have hc:=hcell k (by omega)
  have hb:=World.block_lt_of_cell? W (a.add k) hc
  rw [blk_add] at hb
  refine ⟨a,[.int .i64 (zs.take len)[k]],rfl,hb,rfl,rfl,fun j u hu=>?_⟩
  have hj:j=0:=by have:=(List.getElem?_eq_some_iff.1 hu).1;simpa using this
  subst hj
  simp only [List.getElem?_cons_zero,Option.some.injEq] at hu
  rw [←hu,List.getElem_take,Nat.mul_one,Nat.add_zero,hc]
  simp [List.getElem?_eq_getElem (show k < zs.length by omega)]
theorem open12_ints_arg {v:Value} {d:DataW H} {p:List MemPlace} {base:Nat} (hv:Value.okWide Tryd.prog W .any base 23 v) (h:DataW.Trod enc Tryd.prog W 0 (fun _=>true) true 23 v d p) :
  ∃A n c l,v=.slice A n c∧rdInts W (lt_ W.heap.size) l [.slice A n c]∧(∀x ∈ l,(Lit.int .i64 x).wf=true):=by
 obtain ⟨a0,len,cap,rfl⟩:=okWide_slice Tryd.underlying23 hv
 obtain ⟨fuel,hf⟩:=h
 obtain ⟨A,n,c,l,hcs,h1,h2⟩:=open12_ints_trod hf
 simp [Value.cells] at hcs
 obtain ⟨rfl,rfl,rfl⟩:=hcs
 exact ⟨a0,len,cap,l,rfl,h1,h2⟩
theorem open12_iss_arg {v:Value} {d:DataW H} {p:List MemPlace} {base:Nat} (hv:Value.okWide Tryd.prog W .any base 22 v) (h:DataW.Trod enc Tryd.prog W 0 (fun _=>true) true 22 v d p) :
  ∃A n c L,v=.slice A n c∧rdIss W (lt_ W.heap.size) L [.slice A n c]∧(∀g ∈ L,∀x ∈ g,(Lit.int .i64 x).wf=true):=by
 obtain ⟨a0,len0,cap0,rfl⟩:=okWide_slice Tryd.underlying22 hv
 obtain ⟨fuel,hf⟩:=h
 rcases open_slice Tryd.underlying22 hf with ⟨hcs,_⟩|⟨a,len,cap,m,k,D,Pl,hcs,hb,hl,hm,hmm,_,hx⟩
 ·simp [Value.cells] at hcs
  obtain ⟨rfl,rfl,rfl⟩:=hcs
  exact ⟨none,0,0,[],rfl,rdRow_nil _ _,by simp⟩
 ·simp [Value.cells] at hcs
  obtain ⟨rfl,rfl,rfl⟩:=hcs
  have hlm:len0≤m:=by rw [hmm];split<;>omega
  have hat:∀i,i < len0→∃(g:List Int) (u:Value),(∀x ∈ g,(Lit.int .i64 x).wf=true)∧a.block < W.heap.size∧rdInts W (lt_ W.heap.size) g [u]∧W.cell? (a.add (i*1+0))=some u:=by
   intro i hi
   obtain ⟨cs',hc,ht'⟩:=hx i (by omega)
   rw [cells12_ints] at hc
   obtain ⟨A,n,c,l,rfl,h1,h2⟩:=open12_ints_trod ht'
   obtain ⟨_,hcl,hcell⟩:=World.cells?_some hc
   have h0:=hcell 0 (by omega)
   have hadd:((a.add (i*1)).add 0)=a.add (i*1+0):=by unfold Addr.add;simp
   rw [hadd] at h0
   have hb':=World.block_lt_of_cell? W (a.add (i*1+0)) h0
   rw [blk_add] at hb'
   exact ⟨l,_,h2,hb',h1,h0⟩
  refine ⟨some a,len0,cap0,List.ofFn fun i:Fin len0=>Classical.choose (hat i.1 i.2),rfl,⟨some a,cap0,by simp,by simpa using hl,hm,fun i hi=>?_⟩,fun g hg=>?_⟩
  ·simp only [List.length_ofFn] at hi
   have hs:=Classical.choose_spec (Classical.choose_spec (hat i hi))
   refine ⟨a,[Classical.choose (Classical.choose_spec (hat i hi))],rfl,hs.2.1,?_,rfl,fun j u hu=>?_⟩
   ·rw [List.getElem_ofFn];exact hs.2.2.1
   ·have hj:j=0:=by have:=(List.getElem?_eq_some_iff.1 hu).1;simpa using this
    subst hj
    simp only [List.getElem?_cons_zero,Option.some.injEq] at hu
    rw [←hu];exact hs.2.2.2
  ·obtain ⟨i,hi⟩:=List.mem_ofFn.1 hg
   rw [←hi];exact (Classical.choose_spec (Classical.choose_spec (hat i.1 i.2))).1
end
end Go.Proofs.YtgjlgdpbmhdnbaaDoor
namespace Go.Proofs.YtgjlgdpbmhdnbaaDoor
open Go.RowKit Go.WideShapes Go.ChangeShapes Go.ChangeAt
section
variable {H:Type} {enc:TypeId × Value→H} {P:Program}
end
theorem laid_out:laidOutB Tryd.prog=true:=by kernel_rfl
section
variable {H:Type} {enc:TypeId × Value→H} {P:Program}
theorem trodAll_below {W W':World} (hl:laidOutB P=true) (hb:Below W.heap.size W W'):∀{ts:List TypeId} {vs:List Value} {ds:List (DataW H)} {ps:List MemPlace},(∀t ∈ ts,P.readableRec t=true∧t < P.types.size)→
  DataW.TrodAll enc P W 0 (fun _=>true) true ts vs ds ps→(∀x ∈ ps,x.block < W.heap.size)→DataW.TrodAll enc P W' 0 (fun b=>decide (b < W.heap.size)) true ts vs ds ps
 | [],[],[],_,_,h,_=>h
 | t::ts,v::vs,d::ds,ps,hts,h,hlt=>by
  obtain ⟨p,q,h1,h2,rfl⟩:=h
  refine ⟨p,q,Below.trod hl (hts t (by simp)).1 (hts t (by simp)).2 h1 hb (fun x hx=>hlt x (by simp [hx])),trodAll_below hl hb (fun t ht=>hts t (by simp [ht])) h2 (fun x hx=>hlt x (by simp [hx])),rfl⟩
 | [],[],_::_,_,_,h,_=>h.elim
 | [],_::_,_,_,_,h,_=>h.elim
 | _::_,[],_,_,_,h,_=>h.elim
 | _::_,_::_,[],_,_,h,_=>h.elim
theorem law_post {f:Func} {s:ChangeSpec} {W W':World} {args:Array Value} {ds gs:List (DataW H)} {before:List MemPlace} {b:TypeId} {apart:Bool}
  (hW:DataW.Whole enc P f.params.toList s.vars apart W args.toList ds gs before) (hv:s.vars=[])
  (h1:(s.fn H ds).results=[.lit (.bool true)]) (h2:(s.fn H ds).args=ds) (h3:(s.fn H ds).vars=[])
  (hrt:f.resultTypes=#[b]) (hbool:P.underlying b=some .bool) (hl:laidOutB P=true) (hts:∀t ∈ f.params.toList,P.readableRec t=true∧t < P.types.size)
  (hb:Below W.heap.size W W'):s.post enc P f apart true false false W args (.bool true) W':=by
 have hW':=hW
 have hlt0:=hW.lt
 obtain ⟨p,q,hA,hV,rfl,hz,hn⟩:=hW
 rw [hv] at hV
 obtain ⟨rfl,rfl⟩:=trodVars_none hV
 refine ⟨ds,[],p++[],[],p,[],hW',?_,?_,?_,hb.frame _,fun h=>by cases h⟩
 ·rw [List.append_nil,h1,hrt]
  exact trodAll_cons_mk (shut_bool hbool _) trodAll_mk0
 ·rw [List.append_nil,h2]
  exact trodAll_below hl hb hts hA (fun x hx=>hlt0 x (by simp [hx]))
 ·rw [hv,List.append_nil,h3];rfl
end
end Go.Proofs.YtgjlgdpbmhdnbaaDoor
