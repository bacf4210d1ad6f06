/- What the laws rest on: N9d, N9i, N9j, N9k. -/
import Derived.Test.YtpilmhoakopcaaaGreatDoorQAKZC
import Derived.Test.YtpilmhoakopcaaaGreatDoorQAMZC
import Derived.Test.YtpilmhoakopcaaaGreatDoorQAOZC
set_option maxRecDepth 100000
set_option linter.unusedVariables false
set_option linter.unusedSimpArgs false
namespace Go.Proofs.YtpilmhoakopcaaaGreatDoor
open Go.RowKit Go.Sort
structure ErV where
 x:Ent
 A1:Option Addr
 c1:Nat
 A2:Option Addr
 c2:Nat
 A3:Option Addr
 c3:Nat
 A4:Option Addr
 c4:Nat
 ok:AtO x.v
theorem ato_nil:AtO { data:=#[] }:=fun i h=>by
 have:(none:Option Nat)=some i:=h
 cases this
instance:Inhabited ErV:=⟨⟨⟨{ data:=#[] },{ data:=#[] },[],[],[],[]⟩,none,0,none,0,none,0,none,0,ato_nil⟩⟩
def ErV.cs (r:ErV):List Value:=[.string r.x.n,.string r.x.v,.slice r.A1 r.x.d.length r.c1,.slice r.A2 r.x.r.length r.c2,.slice r.A3 r.x.c.length r.c3,.slice r.A4 r.x.p.length r.c4]
theorem ErV.len (r:ErV):r.cs.length=6:=rfl
theorem ErV.one (r:ErV):∀v ∈ r.cs,v.oneCell'=true:=by
 intro v hv
 simp only [ErV.cs,List.mem_cons,List.not_mem_nil,or_false] at hv
 rcases hv with rfl|rfl|rfl|rfl|rfl|rfl<;>rfl
theorem erv_of {w:World} {S:Nat→Prop} {x:Ent} {cs:List Value} (h:rdEnt w S x cs) (ok:AtO x.v):∃r:ErV,r.x=x∧r.cs=cs:=by
 obtain ⟨dv,rv,cv,pv,rfl,g1,g2,g3,g4⟩:=h
 obtain ⟨A1,c1,e1,_⟩:=id g1
 obtain ⟨A2,c2,e2,_⟩:=id g2
 obtain ⟨A3,c3,e3,_⟩:=id g3
 obtain ⟨A4,c4,e4,_⟩:=id g4
 simp only [List.cons.injEq,and_true] at e1 e2 e3 e4
 subst e1 e2 e3 e4
 exact ⟨⟨x,A1,c1,A2,c2,A3,c3,A4,c4,ok⟩,rfl,rfl⟩
theorem ervs_of {w:World} {S:Nat→Prop}:∀{l:List Ent} {css:List (List Value)},(∀x ∈ l,AtO x.v)→css.length=l.length→(∀k (hk:k < l.length),∃cs,css[k]?=some cs∧rdEnt w S l[k] cs)→∃d:List ErV,d.map (·.x)=l∧d.map (·.cs)=css∧∀r ∈ d,rdEnt w S r.x r.cs
 | [],[],_,_,_=>⟨[],rfl,rfl,by simp⟩
 | x::l,cs::css,hv,hl,h=>by
  obtain ⟨cs',e,hr⟩:=h 0 (by simp)
  simp only [List.getElem?_cons_zero,Option.some.injEq] at e
  subst e
  obtain ⟨d,d1,d2,d3⟩:=ervs_of (l:=l) (css:=css) (fun y hy=>hv y (List.mem_cons_of_mem _ hy)) (by simpa using hl) (fun k hk=>by
   obtain ⟨cs',e,hr⟩:=h (k+1) (by simpa using hk)
   exact ⟨cs',by simpa using e,by simpa using hr⟩)
  obtain ⟨r,r1,r2⟩:=erv_of hr (hv x (List.mem_cons_self ..))
  refine ⟨r::d,by simp [r1,d1],by simp [r2,d2],fun q hq=>?_⟩
  rcases List.mem_cons.1 hq with rfl|hq
  ·rw [r1,r2];exact hr
  ·exact d3 q hq
theorem flat9_get {d:List ErV} {t:Nat} (ht:t < d.length*6):(d.map (·.cs)).flatten[t]?=some ((flatK ErV.cs 6 d.toArray)[t]!):=by
 have hk:t / 6 < d.length:=by omega
 rw [get_flatK _ _ _ t (by simpa using ht)]
 have hd:(d.toArray)[t / 6]! = d[t / 6]:=by rw [getElem!_pos _ _ (by simpa using hk)];simp
 rw [hd]
 have hl:t % 6 < (d[t / 6].cs).length:=by rw [ErV.len];omega
 rw [getElem!_pos (d[t / 6].cs) (t % 6) hl]
 have:=flatten_at 6 (css:=d.map (·.cs)) (fun cs hc=>by obtain ⟨r,_,rfl⟩:=List.mem_map.1 hc;rfl) (k:=t / 6) (cs:=d[t / 6].cs) (by simp [hk]) (t % 6) _ (List.getElem?_eq_getElem hl)
 rw [show t / 6*6+t % 6=t by omega] at this
 exact this
theorem own9_row {T:Nat→Prop} {w:World} {base:Nat} {e:TypeId} {v:Value} {l:List Ent} (h:Grow rdEnt 6 T w base e v l) (hv:∀x ∈ l,AtO x.v) (hne:l≠[]) :
  ∃gb cap,∃d:List ErV,v=.slice (some ⟨gb,0,none⟩) l.length cap∧base≤gb∧gb < w.heap.size∧d.map (·.x)=l∧RowK ErV.cs 6 w gb 0 d.toArray∧∀r ∈ d,rdEnt w (fun b=>T b∧b < w.heap.size∧gb≠b) r.x r.cs:=by
 obtain ⟨css,hl,ho,hE⟩:=h
 rcases ho.2 with ⟨_,h0⟩|⟨gb,cap,cur,rfl,hb,hg,hn,hm,hs,ht⟩
 ·exact absurd (List.eq_nil_of_length_eq_zero h0) hne
 ·obtain ⟨d,d1,d2,d3⟩:=ervs_of (S:=fun b=>T b∧b < w.heap.size∧gb≠b) hv hl (fun k hk=>by
   obtain ⟨cs,c1,c2⟩:=hE k hk
   exact ⟨cs,c1,rdEnt_good.more c2 fun b hb=>⟨hb.1,hb.2.1,fun e=>hb.2.2 (by rw [e];rfl)⟩⟩)
  have hlt:gb < w.heap.size:=(Array.getElem?_eq_some_iff.1 hg).1
  have hdl:d.length=l.length:=by rw [←d1,List.length_map]
  refine ⟨gb,cap,d,rfl,hb,hlt,d1,⟨fun _=>rfl,ErV.one,fun j hj=>?_,hlt⟩,d3⟩
  rw [size_flatK,List.size_toArray] at hj
  refine ⟨?_,by unfold World.frozen?;rw [hg];simp⟩
  rw [cell_of_row w gb (0+j) cur e (0,0) hg,Nat.zero_add]
  have q:=flat9_get hj
  rw [d2,←ht,List.getElem?_take,if_pos (by omega)] at q
  simpa using q
theorem own9_sorted {T:Nat→Prop} {w W:World} {base:Nat} {e:TypeId} {gb cap n:Nat} {l:List Ent} {d Z:List ErV} (h:Grow rdEnt 6 T w base e (.slice (some ⟨gb,0,none⟩) n cap) l) (hT:∀b,T b→gb≠b) (hd:d.map (·.x)=l) (R:RowK ErV.cs 6 w gb 0 d.toArray) (hr:∀r ∈ d,rdEnt w (fun b=>T b∧b < w.heap.size∧gb≠b) r.x r.cs)
  (hZ:Z.length=d.length) (hm:∀r ∈ Z,r ∈ d) (S:SWK ErV.cs 6 w gb 0 Z.toArray W):Grow rdEnt 6 T W base e (.slice (some ⟨gb,0,none⟩) n cap) (Z.map (·.x)):=by
 obtain ⟨css,hl,ho,hE⟩:=h
 rcases ho.2 with ⟨h1,_⟩|⟨gb',cap',cur,e1,hb,hg,hn,hmx,hs,ht⟩
 ·cases h1
 ·simp only [Value.slice.injEq,Option.some.injEq,Addr.mk.injEq,and_true] at e1
  obtain ⟨rfl,rfl,rfl⟩:=e1
  have hdl:d.length=l.length:=by rw [←hd,List.length_map]
  obtain ⟨cur',g1,g2⟩:=swk_heap S hg
  have hH:=S.holds R.hblk R.hH (by simpa using hZ)
  have hn':l.length=(Z.map (·.x)).length:=by rw [List.length_map,hZ,hdl]
  refine ⟨Z.map (·.cs),by rw [List.length_map,List.length_map],⟨?_,.inr ⟨gb,cap,cur',by rw [←hn'],hb,g1,by rw [←hn'];exact hn,hmx,by rw [g2,hs],?_⟩⟩,fun k hk=>?_⟩
  ·rw [flatten_len 6 (fun cs hc=>by obtain ⟨r,_,rfl⟩:=List.mem_map.1 hc;rfl),List.length_map,List.length_map]
  ·refine List.ext_getElem? fun t=>?_
   rw [List.getElem?_take]
   have hcs:cur'.size=cap*6:=by rw [g2,hs]
   by_cases htl:t < (Z.map (·.x)).length*6
   ·rw [if_pos htl,flat9_get (by rw [List.length_map] at htl;exact htl)]
    have q:=(hH t (by rw [size_flatK];rw [List.length_map] at htl;simpa using htl)).1
    rw [cell_of_row W gb (0+t) cur' e (0,0) g1,Nat.zero_add] at q
    simpa using q
   ·rw [if_neg htl,List.getElem?_eq_none]
    rw [flatten_len 6 (fun cs hc=>by obtain ⟨r,_,rfl⟩:=List.mem_map.1 hc;rfl),List.length_map]
    rw [List.length_map] at htl
    omega
  ·rw [List.length_map] at hk
   refine ⟨Z[k].cs,by simp [hk],?_⟩
   rw [List.getElem_map]
   refine rdEnt_good.both (hr _ (hm _ (List.getElem_mem hk))) (fun b hb=>swk_other S b (Ne.symm hb.2.2) hb.2.1) (fun b hb=>⟨hb.1,Nat.lt_of_lt_of_le hb.2.1 S.le,fun hh=>?_⟩)
   simp only [Value.ownBlock,Option.some.injEq] at hh
   exact hb.2.2 hh
def cfE (r s:ErV):Int:=cfB r.x s.x
theorem cfB_lt (x y:Ent):decide (cfB x y < 0)=lesB x y:=by
 unfold cfB
 cases h:lesB x y
 ·rw [if_neg (by decide)]
  cases k:lesB y x
  ·rw [if_neg (by decide)];rfl
  ·rw [if_pos rfl];rfl
 ·rw [if_pos rfl];rfl
theorem lt_e (r s:ErV):ltOf cfE r s=lesB r.x s.x:=cfB_lt _ _
theorem swo_e:SWO (ltOf cfE) where
 irrefl r:=by
  rw [lt_e]
  cases h:lesB r.x r.x with
  | false=>rfl
  | true=>exact absurd ((lesB_iff _ _).1 h) (les_no _)
 trans r s t h k:=by
  rw [lt_e] at h k ⊢
  exact (lesB_iff _ _).2 (Les.tr ((lesB_iff _ _).1 h) ((lesB_iff _ _).1 k))
 ntrans r s t h k:=by
  rw [lt_e] at h k ⊢
  have nh:¬Les r.x s.x:=fun q=>by rw [(lesB_iff _ _).2 q] at h;cases h
  have nk:¬Les s.x t.x:=fun q=>by rw [(lesB_iff _ _).2 q] at k;cases k
  cases q:lesB r.x t.x with
  | false=>rfl
  | true=>
   have q:=(lesB_iff _ _).1 q
   rcases Les.tot r.x s.x with a|a|a
   ·exact absurd a nh
   ·exact absurd (Les.tr a q) nk
   ·exfalso
    refine nk ?_
    rcases q with ⟨q1,q2⟩|⟨q1,q2⟩
    ·exact .inl ⟨a.1.symm.trans q1,by rw [←a.2];exact q2⟩
    ·exact .inr ⟨fun e=>q1 (a.1.trans e),by rw [←a.1];exact q2⟩
theorem srt9_any {T:Nat→Prop} {base:Nat} {e:TypeId} (v:Value) (l:List Ent) (w:World) (hG:Grow rdEnt 6 T w base e v l) (hv:∀x ∈ l,AtO x.v) (hne:l≠[]) (hT:∀b,T b→b < base) (hl:l.length≤200) (E:Env w) (hE:∀W:World,Below base w W→Env W) :
  Calls Tryz.prog 34 #[v,.func (.func 35) #[] #[]] w fun e' w'=>e'=.returned (.tuple #[])∧(∃l',Grow rdEnt 6 T w' base e v l'∧l'.length=l.length∧l'.Pairwise (fun x y=>lesB y x=false)∧l'.Perm l)∧Below base w w':=by
 have eg:∀args w,(callFunc 35 args).run Tryz.prog w=.ok (.enter 35 args) w:=fun _ _=>by kernel_rfl
 obtain ⟨gb,cap,d,rfl,g1,g2,g3,R,g4⟩:=own9_row hG hv hne
 have hdl:d.length=l.length:=by rw [←g3,List.length_map]
 have hs:d.toArray.size=l.length:=by simp [hdl]
 have hC:CmpLays Tryz.prog 35 #[] ErV.cs 6 cfE gb 0 d.toArray.size w:=fun m os dk hs x y=>by
  have S:SWK ErV.cs 6 w gb 0 dk (sortWorldK ErV.cs 6 w gb 0 m dk os):=⟨m,os,rfl⟩
  exact (order9_any x.x y.x x.A1 x.c1 x.A2 x.c2 x.A3 x.c3 x.A4 x.c4 y.A1 y.c1 y.A2 y.c2 y.A3 y.c3 y.A4 y.c4 x.ok y.ok _ (hE _ (swk_below S g1 g2))).mono fun e w' h=>⟨h.1,h.2.grows⟩
 have h:=Tryz.slices_SortFunc 6 Tryz.isAgg60 Tryz.sizeOf60 ErV.cs R.hk R.h1 cfE swo_e 35 #[] gb 0 cap d.toArray w eg hC R.hH R.hblk (by omega)
 rw [hs] at h
 refine h.mono ?_
 rintro e' w' ⟨rfl,d',n,os,hp,hso,rfl⟩
 have hsz:d'.size=d.toArray.size:=hp.1
 have hZl:d'.toList.length=d.length:=by rw [Array.length_toList,hsz];simp
 have hperm:d'.toList.Perm d:=by
  have q:=hp.2.2
  rw [Array.toList_extract,Array.toList_extract] at q
  simp only [List.extract_eq_take_drop,List.drop_zero,Nat.sub_zero] at q
  rw [List.take_of_length_le (by rw [Array.length_toList,hsz,hs];exact Nat.le_refl _),List.take_of_length_le (by simp [hdl])] at q
  simpa using q
 have S:SWK ErV.cs 6 w gb 0 d'.toList.toArray (sortWorldK ErV.cs 6 w gb 0 n d' os):=⟨n,os,by simp⟩
 refine ⟨rfl,⟨d'.toList.map (·.x),own9_sorted hG (fun b hb he=>by have:=hT b hb;omega) g3 R g4 hZl (fun r hr=>hperm.mem_iff.1 hr) S,by rw [List.length_map,hZl,hdl],?_,by rw [←g3];exact hperm.map _⟩,swk_below S g1 g2⟩
 refine List.pairwise_map.2 (List.pairwise_iff_getElem.2 fun i j hi hj hij=>?_)
 have q:=hso i j (Nat.zero_le _) hij (by rw [Array.length_toList,hsz,hs] at hj;exact hj)
 rw [Array.length_toList] at hi hj
 rw [getElem!_pos d' j hj,getElem!_pos d' i hi,lt_e] at q
 simpa using q
theorem srt9_nil (p:Option Addr) (cap:Nat) (fv:Value) (w:World):Calls Tryz.prog 34 #[.slice p 0 cap,fv] w fun e w'=>e=.returned (.tuple #[])∧w'=w:=Tryz.slices_SortFunc_none (α:=ErV) p cap fv w
theorem srt9_all {T:Nat→Prop} {base:Nat} {e:TypeId} (v:Value) (l:List Ent) (w:World) (hG:Grow rdEnt 6 T w base e v l) (hv:∀x ∈ l,AtO x.v) (hT:∀b,T b→b < base) (hl:l.length≤200) (E:Env w) (hE:∀W:World,Below base w W→Env W) :
  Calls Tryz.prog 34 #[v,.func (.func 35) #[] #[]] w fun e' w'=>e'=.returned (.tuple #[])∧(∃l',Grow rdEnt 6 T w' base e v l'∧l'.length=l.length∧l'.Pairwise (fun x y=>lesB y x=false)∧l'.Perm l)∧Below base w w':=by
 by_cases hne:l=[]
 ·subst hne
  obtain ⟨Av,cv,rfl,-,-⟩:=hG.own
  refine (srt9_nil Av cv _ w).mono ?_
  rintro e w' ⟨rfl,rfl⟩
  exact ⟨rfl,⟨[],hG,rfl,List.Pairwise.nil,List.Perm.refl _⟩,Below.refl _ _⟩
 ·exact srt9_any v l w hG hv hne hT hl E hE
def NmR (w:World) (bm:Nat) (L:List Ent):Prop:=∃F n,MapN w bm n F∧∀s,rdInts w (lt_ w.heap.size) (ixU (isN s) L 0) [(F s).1]∧rdGfs w (lt_ w.heap.size) (gfU s L 0) [(F s).2]
def UP (w:World) (b:Nat) (L:List Ent) (m:List Hr):Prop:=
 ∃A c A' c' bm,w.cell? ⟨b,0,none⟩=some (.slice A L.length c)∧w.cell? ⟨b,1,none⟩=some (.slice A' m.length c')∧w.cell? ⟨b,2,none⟩=some (.map (some bm))∧rdEnts w (lt_ w.heap.size) L [.slice A L.length c]∧rdHrs w (lt_ w.heap.size) m [.slice A' m.length c']∧NmR w bm L
theorem NmR.below {w w':World} {bm:Nat} {L:List Ent} (h:NmR w bm L) (hB:Below w.heap.size w w'):NmR w' bm L:=by
 obtain ⟨F,n,hM,hr⟩:=h
 exact ⟨F,n,MapF.below hM (MapF.lt hM) hB,fun s=>⟨rdInts_good.up (rdInts_good.below (hr s).1 hB) hB.size,rdGfs_good.up (rdGfs_good.below (hr s).2 hB) hB.size⟩⟩
theorem UP.below {w w':World} {b:Nat} {L:List Ent} {m:List Hr} (h:UP w b L m) (hB:Below w.heap.size w w'):UP w' b L m:=by
 obtain ⟨A,c,A',c',bm,h1,h2,h3,h4,h5,h6⟩:=h
 exact ⟨A,c,A',c',bm,keep6 hB h1,keep6 hB h2,keep6 hB h3,rdEnts_good.up (rdEnts_good.below h4 hB) hB.size,rdHrs_good.up (rdHrs_good.below h5 hB) hB.size,h6.below hB⟩
def NewR (w':World) (L:List Ent) (m:List Hr) (e:Ending):Prop:=
 (¬(L.all rgtE=true∧rightH m=true)→e=.returned (.tuple #[.pointer none,.int .i64 1]))∧
 ((L.all rgtE=true∧rightH m=true)→64 < (entU L (m.map fun y=>y.e)).length→e=.returned (.tuple #[.pointer none,.int .i64 8]))∧
 ((L.all rgtE=true∧rightH m=true)→¬64 < (entU L (m.map fun y=>y.e)).length→∃b,e=.returned (.tuple #[.pointer (some ⟨b,0,none⟩),.int .i64 0])∧UP w' b (entU L (m.map fun y=>y.e)) m)
theorem rgt_v {x:Ent} (h:rgtE x=true):AtO x.v∧x.p.length≤8:=by
 unfold rgtE at h
 simp only [Bool.and_eq_true,decide_eq_true_eq] at h
 exact ⟨ato_of h.2.1,h.2.2.2.2.2.2.2.2⟩
set_option maxHeartbeats 16000000 in
theorem new9_any (A:Option Addr) (n0 c:Nat) (L:List Ent) (A':Option Addr) (n1 c1':Nat) (m:List Hr) (w:World) (h:rdEnts w (lt_ w.heap.size) L [.slice A n0 c]) (h':rdHrs w (lt_ w.heap.size) m [.slice A' n1 c1']) (hz:∀x ∈ L,Sz x) (hz':∀y ∈ m,Sz y.e) (E:EnvR w) :
  Calls Tryz.prog 11 #[.slice A n0 c,.slice A' n1 c1'] w fun e w'=>NewR w' L m e∧Below w.heap.size w w':=by
 obtain ⟨rfl,hnc,hcm,-⟩:=rdEnts_at h
 obtain ⟨rfl,hnc',hcm',-⟩:=rdHrs_at h'
 have KI:=Lib.hid (rightIx9_any A L.length c L w h E)
 have KS:=Lib.hid (fun (W:World) (hb:Below w.heap.size w W)=>right7_any A' m.length c1' m W (rdHrs_good.up (rdHrs_good.below h' hb) hb.size) (E.below hb))
 have KG:=Lib.hid (fun (hm:m.length≤64) (W:World) (hb:Below w.heap.size w W)=>gather9_any A L.length c L A' m.length c1' m W (rdEnts_good.up (rdEnts_good.below h hb) hb.size) (rdHrs_good.up (rdHrs_good.below h' hb) hb.size) hm)
 have KC:=Lib.hid (fun (hm:m.length≤200) (W:World) (hb:Below w.heap.size w W)=>cloneh_any A' m.length c1' m W (rdHrs_good.up (rdHrs_good.below h' hb) hb.size) hm)
 have HE:=Lib.hid E
 have HZ:=Lib.hid (And.intro hz hz')
 clear h h' hcm hcm' hz hz' E hnc hnc'
 go_enter Tryz.func11,Tryz.ntmps11
 go_wp2_with fail
 refine KI.out.mono ?_
 rintro e w1 ⟨rfl,hb⟩
 have B1:=Lib.hid hb
 clear hb KI
 cases hL:L.all rgtE
 ·have X:=Lib.hid (show ¬(L.all rgtE=true∧rightH m=true) by rw [hL];exact fun q=>by cases q.1)
  clear hL
  go_wp2
  go_ret2
  exact ⟨⟨fun _=>rfl,fun q=>absurd q X.out,fun q=>absurd q X.out⟩,B1.out⟩
 have HL:=Lib.hid hL
 clear hL
 go_wp2_with fail
 refine (KS.out _ B1.out).mono ?_
 rintro e w2 ⟨rfl,hb⟩
 have B2:=Lib.hid (B1.out.trans (hb.mono B1.out.size))
 clear hb KS
 cases hR:rightH m
 ·have X:=Lib.hid (show ¬(L.all rgtE=true∧rightH m=true) by rw [hR];exact fun q=>by cases q.2)
  clear hR
  go_wp2
  go_ret2
  exact ⟨⟨fun _=>rfl,fun q=>absurd q X.out,fun q=>absurd q X.out⟩,B2.out⟩
 have HR:=Lib.hid hR
 have hRP:=(rightH_iff m).1 HR.out
 have HRP:=Lib.hid hRP
 have HM:=Lib.hid hRP.2.2
 have BOTH:=Lib.hid (show L.all rgtE=true∧rightH m=true from ⟨HL.out,HR.out⟩)
 clear hR hRP
 go_wp2_with fail
 refine (KG.out HM.out _ B2.out).mono ?_
 rintro e w3 ⟨hgr,hb⟩
 have B3:=Lib.hid (B2.out.trans (hb.mono B2.out.size))
 have B23:=Lib.hid hb
 clear hb KG
 unfold GatR at hgr
 cases hg:gatE L (m.map fun y=>y.e) with
 | none=>
  rw [hg] at hgr
  have X:=Lib.hid (gat_many hg (by rw [List.length_map];exact HM.out))
  clear hg
  simp only at hgr
  subst hgr
  go_wp2
  go_ret2
  exact ⟨⟨fun q=>absurd BOTH.out q,fun _ _=>rfl,fun _ q=>absurd X.out q⟩,B3.out⟩
 | some l=>
  rw [hg] at hgr
  simp only at hgr
  obtain ⟨v,rfl,hG⟩:=hgr
  have HG0:=Lib.hid hg
  have hmem:∀x ∈ l,rgtE x=true∧Sz x:=fun x hx=>by
   rcases gat_mem hg x hx with q|q
   ·obtain ⟨y,hy,rfl⟩:=List.mem_map.1 q
    exact ⟨HRP.out.1 y hy,HZ.out.2 y hy⟩
   ·exact ⟨List.all_eq_true.1 HL.out x q,HZ.out.1 x q⟩
  have hl64:l.length≤64:=((gatE_spec L (m.map fun y=>y.e) _ ((fold_put_perm _ []).symm) (by rw [List.length_map];exact HM.out)).1 l hg).2
  have KT:=Lib.hid (srt9_all v l w3 hG (fun x hx=>(rgt_v (hmem x hx).1).1) (fun b hb=>hb) (by omega) (HE.out.below B3.out).env (fun W hW=>(HE.out.below (B3.out.trans (hW.mono B2.out.size))).env))
  obtain ⟨Av,cv,hv,-,-⟩:=hG.own
  obtain ⟨nv,hnv⟩:∃q,q=l.length:=⟨_,rfl⟩
  rw [←hnv] at hv
  subst hv
  have HMEM:=Lib.hid hmem
  have HL64:=Lib.hid hl64
  have HNV:=Lib.hid hnv
  clear hG hmem hl64 hg hnv
  go_wp2_with fail
  refine KT.out.mono ?_
  rintro e w4 ⟨rfl,⟨l',hG4,hl4,hs4,hp4⟩,hb⟩
  have B4:=Lib.hid (B3.out.trans (hb.mono B2.out.size))
  obtain ⟨e9,hl9⟩:=gat_srt (once_right HRP.out.2.1) HG0.out (by rw [List.length_map];exact HM.out) hs4 hp4
  have HMEM4:=Lib.hid (fun x (hx:x ∈ l')=>HMEM.out x (hp4.mem_iff.1 hx))
  have E9:=Lib.hid e9
  have G4:=Lib.hid hG4
  have N4:=Lib.hid (show nv=l'.length by rw [hl4];exact HNV.out)
  have L9:=Lib.hid hl9
  have X:=Lib.hid (gat_some HG0.out (by rw [List.length_map];exact HM.out))
  clear hb hG4 hl4 hs4 hp4 e9 hl9 KT HG0 HMEM HL64 HNV
  go_wp2_with fail
  refine (KC.out (Nat.le_trans HM.out (by decide)) _ B4.out).mono ?_
  rintro e w5 ⟨⟨v5,rfl,hH5⟩,hb⟩
  have B45:=Lib.hid hb
  have B5:=Lib.hid (B4.out.trans (hb.mono B4.out.size))
  have R5:=Lib.hid (show rdEnts w5 (lt_ w5.heap.size) l' [.slice Av nv cv] from (G4.out.below rdEnt_good hb).read rdEnt_good)
  have KB:=Lib.hid (byName9_any Av nv cv l' w5 R5.out L9.out (fun x hx=>by
   obtain ⟨q1,q2⟩:=HMEM4.out x hx
   refine ⟨by have:=(rgt_v q1).2;omega,q2.1,fun a ha=>?_⟩
   rcases List.mem_cons.1 ha with rfl|ha
   ·exact q2.1
   ·exact q2.2.2.2.2 a ha))
  obtain ⟨Ah,ch,hv5,-,-⟩:=hH5.own
  have H5:=Lib.hid (show rdHrs w5 (lt_ w5.heap.size) m [v5] from hH5.read rdHr_good)
  rw [hv5] at H5
  subst hv5
  clear hb hH5 KC
  go_wp2_with fail
  refine KB.out.mono ?_
  rintro e w6 ⟨rfl,⟨F,nn,hM6,hN6⟩,hb⟩
  have B6:=Lib.hid (B5.out.trans (hb.mono B5.out.size))
  have UP7:=Lib.hid (show UP (w6.alloc (.cells #[.slice Av nv cv,.slice Ah m.length ch,.map (some w5.heap.size)] 81)) w6.heap.size l' m from by
   have b7:Below w6.heap.size w6 (w6.alloc (.cells #[.slice Av nv cv,.slice Ah m.length ch,.map (some w5.heap.size)] 81)):=(Below.refl _ w6).alloc (Nat.le_refl _) _
   refine ⟨Av,cv,Ah,ch,w5.heap.size,by rw [←N4.out];simp [go_sem],by simp [go_sem],by simp [go_sem],?_,?_,?_⟩
   ·rw [←N4.out]
    exact rdEnts_good.up (rdEnts_good.below (rdEnts_good.up (rdEnts_good.below R5.out hb) hb.size) b7) b7.size
   ·exact rdHrs_good.up (rdHrs_good.below (rdHrs_good.up (rdHrs_good.below H5.out hb) hb.size) b7) b7.size
   ·exact NmR.below ⟨F,nn,hM6,fun s=>⟨(hN6.p s).read rdInt_good,(hN6.g s).read rdGf_good⟩⟩ b7)
  have B7:=Lib.hid (show Below w.heap.size w (w6.alloc (.cells #[.slice Av nv cv,.slice Ah m.length ch,.map (some w5.heap.size)] 81)) from B6.out.alloc B6.out.size _)
  clear hb hM6 hN6 KB
  go_wp2
  go_ret2
  exact ⟨⟨fun q=>absurd BOTH.out q,fun _ q=>absurd q X.out,fun _ _=>⟨w6.heap.size,rfl,by rw [←E9.out];exact UP7.out⟩⟩,B7.out⟩
end Go.Proofs.YtpilmhoakopcaaaGreatDoor
namespace Go.Proofs.YtpilmhoakopcaaaGreatDoor
open Go.RowKit
set_option maxHeartbeats 2000000 in
theorem entries9_any (b:Nat) (L:List Ent) (m:List Hr) (w:World) (h:UP w b L m) (hl:L.length≤200) :
  Calls Tryz.prog 27 #[.pointer (some ⟨b,0,none⟩)] w fun e w'=>(∃A c,e=.returned (.slice A L.length c)∧rdEnts w' (lt_ w'.heap.size) L [.slice A L.length c])∧Below w.heap.size w w':=by
 obtain ⟨A,c,A',c',bm,h1,h2,-,h4,h5,-⟩:=h
 have K:=Lib.hid (cloneE9_any A L.length c L w h4 hl)
 clear h4 h5
 go_enter Tryz.func27,Tryz.ntmps27
 go_wp2_with fail
 refine K.out.mono ?_
 rintro e w1 ⟨⟨v,rfl,hG⟩,hb⟩
 obtain ⟨Av,cv,hv,-,-⟩:=hG.own
 have R:=Lib.hid (hG.read rdEnt_good)
 rw [hv] at R
 subst hv
 clear hG h1 h2
 go_wp2
 go_ret
 exact ⟨⟨Av,cv,rfl,R.out⟩,hb⟩
set_option maxHeartbeats 2000000 in
theorem len9_any (b:Nat) (L:List Ent) (m:List Hr) (w:World) (h:UP w b L m) :
  Calls Tryz.prog 14 #[.pointer (some ⟨b,0,none⟩)] w fun e w'=>e=.returned (.int .i64 (L.length:Int))∧w=w':=by
 obtain ⟨A,c,A',c',bm,h1,-,-,h4,-⟩:=h
 obtain ⟨-,hnc,hcm,-⟩:=rdEnts_at h4
 have hcm':c≤9223372036854775807:=hcm
 clear h4
 go_enter Tryz.func14,Tryz.ntmps14
 go_wp2
 go_ret
 exact ⟨rfl,rfl⟩
theorem fld9_0 (A A':Option Addr) (n c n' c':Nat) (w:World):(Instr.field 121 (.agg #[.slice A n c,.slice A' n' c']) 0).run Tryz.prog w=.ok (.slice A n c) w:=by kernel_rfl
theorem fld9_1 (A A':Option Addr) (n c n' c':Nat) (w:World):(Instr.field 121 (.agg #[.slice A n c,.slice A' n' c']) 1).run Tryz.prog w=.ok (.slice A' n' c') w:=by kernel_rfl
theorem NmR.look {w:World} {bm:Nat} {L:List Ent} (h:NmR w bm L) (s:ByteArray) (hs:s.size≤1000000):∃Px cp Gx cg,(∀W,Below w.heap.size w W→(Instr.lookup 78 (.map (some bm)) (.string s) false).run Tryz.prog W=.ok (.agg #[.slice Px (ixU (isN s) L 0).length cp,.slice Gx (gfU s L 0).length cg]) W)∧
  rdInts w (lt_ w.heap.size) (ixU (isN s) L 0) [.slice Px (ixU (isN s) L 0).length cp]∧rdGfs w (lt_ w.heap.size) (gfU s L 0) [.slice Gx (gfU s L 0).length cg]:=by
 obtain ⟨F,n,hM,hr⟩:=h
 obtain ⟨r1,r2⟩:=hr s
 obtain ⟨Px,cp,e1,_⟩:=id r1
 obtain ⟨Gx,cg,e2,_⟩:=id r2
 simp only [List.cons.injEq,and_true] at e1 e2
 exact ⟨Px,cp,Gx,cg,fun W hW=>MapN.look (F:=F) (MapF.below hM (MapF.lt hM) hW) s hs e1 e2,by rw [←e1];exact r1,by rw [←e2];exact r2⟩
set_option maxHeartbeats 2000000 in
theorem of9_any (b:Nat) (L:List Ent) (m:List Hr) (s:ByteArray) (w:World) (h:UP w b L m) (hl:L.length≤64) (hs:s.size≤1000000) :
  Calls Tryz.prog 52 #[.pointer (some ⟨b,0,none⟩),.string s] w fun e w'=>(∃A c,e=.returned (.slice A (ixU (isN s) L 0).length c)∧rdInts w' (lt_ w'.heap.size) (ixU (isN s) L 0) [.slice A (ixU (isN s) L 0).length c])∧Below w.heap.size w w':=by
 obtain ⟨A,c,A',c',bm,-,-,h3,-,-,h6⟩:=h
 obtain ⟨Px,cp,Gx,cg,hlk,hp,-⟩:=h6.look s hs
 have K:=Lib.hid (cloneI9_any Px _ cp (ixU (isN s) L 0) w hp (by have:=ixU_len (p:=isN s) (L:=L) (i:=0);omega))
 have hlw:=hlk w (Below.refl _ _)
 have hf:=fld9_0
 clear h6 hlk hp
 generalize ixU (isN s) L 0=lp at *
 go_enter Tryz.func52,Tryz.ntmps52
 go_wp2_with fail
 refine K.out.mono ?_
 rintro e w1 ⟨⟨v,rfl,hG⟩,hb⟩
 obtain ⟨Av,cv,hv,-,-⟩:=hG.own
 have R:=Lib.hid (hG.read rdInt_good)
 rw [hv] at R
 subst hv
 clear hG h3 hlw
 go_wp2
 go_ret
 exact ⟨⟨Av,cv,rfl,R.out⟩,hb⟩
def fnd9 (L:List Ent) (v:ByteArray):List Int→Int
 | []=>-1
 | q::r=>if (L[q.toNat]?).map (·.v)=some v then q else fnd9 L v r
theorem fnd9_pl {L:List Ent} {s v:ByteArray}:∀{r:List Ent} {i:Nat},(∀j (h:j < r.length),L[i+j]?=some r[j])→fnd9 L v (ixU (isN s) r i)=plU s v r i
 | [],i,_=>rfl
 | x::r,i,h=>by
  have h0:L[i]?=some x:=h 0 (by simp)
  have ih:=fnd9_pl (L:=L) (s:=s) (v:=v) (r:=r) (i:=i+1) (fun j hj=>by
   have:=h (j+1) (by simpa using hj)
   rw [show i+1+j=i+(j+1) by omega,this];rfl)
  rw [ixU_cons,plU_cons]
  unfold isN
  by_cases e:x.n=s
  ·rw [if_pos (decide_eq_true e)]
   show (if (L[((i:Int)).toNat]?).map (·.v)=some v then (i:Int) else fnd9 L v (ixU (isN s) r (i+1)))=_
   rw [Int.toNat_natCast,h0,ih]
   by_cases e2:x.v=v
   ·rw [if_pos (by rw [Option.map_some,e2]),if_pos ⟨e,e2⟩]
   ·rw [if_neg (by rw [Option.map_some];exact fun q=>e2 (Option.some.inj q)),if_neg (fun q=>e2 q.2)]
  ·rw [if_neg (by rw [decide_eq_false e];decide),if_neg (fun q=>e q.1)]
   exact ih
theorem fnd9_is (L:List Ent) (s v:ByteArray):fnd9 L v (ixU (isN s) L 0)=plU s v L 0:=fnd9_pl fun j hj=>by rw [Nat.zero_add];exact List.getElem?_eq_getElem hj
theorem fnd9_step {L:List Ent} {v:ByteArray} {lp:List Int} {k j:Nat} (hk:k < lp.length) (hj:j < L.length) (e:lp[k]=(j:Int)):(L[j].v=v→fnd9 L v (lp.drop k)=(j:Int))∧(L[j].v≠v→fnd9 L v (lp.drop k)=fnd9 L v (lp.drop (k+1))):=by
 rw [List.drop_eq_getElem_cons hk,e]
 show (_→(if (L[((j:Int)).toNat]?).map (·.v)=some v then _ else _)=_)∧(_→(if (L[((j:Int)).toNat]?).map (·.v)=some v then _ else _)=_)
 rw [Int.toNat_natCast,List.getElem?_eq_getElem hj,Option.map_some]
 exact ⟨fun h=>if_pos (by rw [h]),fun h=>if_neg (fun q=>h (Option.some.inj q))⟩
set_option maxHeartbeats 8000000 in
theorem place9_any (b:Nat) (L:List Ent) (m:List Hr) (s v:ByteArray) (w:World) (h:UP w b L m) (hs:s.size≤1000000) :
  Calls Tryz.prog 100 #[.pointer (some ⟨b,0,none⟩),.string s,.string v] w fun e w'=>e=.returned (.int .i64 (plU s v L 0))∧Dr w w':=by
 obtain ⟨A,c,A',c',bm,h1,-,h3,h4,-,h6⟩:=h
 obtain ⟨Px,cp,Gx,cg,hlk,hp,-⟩:=h6.look s hs
 obtain ⟨-,hnc,hcm,-⟩:=rdEnts_at h4
 have hcm':c≤9223372036854775807:=hcm
 obtain ⟨-,hnc2,hcm2,-⟩:=rdInts_at hp
 have hcm2':cp≤9223372036854775807:=hcm2
 have hlw:=hlk w (Below.refl _ _)
 have hf:=fld9_0
 have X:=Lib.hid (fnd9_is L s v)
 have MEM:=Lib.hid (fun q (hq:q ∈ ixU (isN s) L 0)=>(ixU_mem (p:=isN s) (L:=L) (i:=0) (k:=q)).1 hq)
 have HP:=Lib.hid hp
 have H4:=Lib.hid h4
 clear h6 hlk hp h4 hcm hcm2
 generalize plU s v L 0=pl at *
 generalize gfU s L 0=lg at *
 generalize ixU (isN s) L 0=lp at *
 go_enter Tryz.func100,Tryz.ntmps100
 go_wp2
 go_loopw [17] (fun i wr=>∃k:Nat,k≤lp.length∧i=.int .i64 k∧fnd9 L v lp=fnd9 L v (lp.drop k)∧Dr w wr) (fun i _=>lp.length - (intOf i).toNat)
 case atStart=>exact ⟨0,Nat.zero_le _,rfl,rfl,Dr.refl _⟩
 case round=>
  clear hlw
  obtain ⟨k,hk,rfl,hfn,hdr⟩:=hrel
  have HF:=Lib.hid hfn
  have HD:=Lib.hid hdr
  have b0:wr.cell? ⟨b,0,none⟩=some (.slice A L.length c):=keep6 (hdr.below _) h1
  clear hfn hdr
  by_cases hlt:k < lp.length
  ·obtain ⟨-,-,-,hat⟩:=rdInts_at (rdInts_good.below HP.out (HD.out.below _))
   obtain ⟨ad,rfl,-,g0⟩:=hat k hlt
   obtain ⟨j,hj,hjk,-⟩:=MEM.out lp[k] (List.getElem_mem hlt)
   have e0:lp[k]=(j:Int):=by rw [hjk];simp
   rw [e0] at g0
   obtain ⟨-,-,-,hat2⟩:=rdEnts_at (rdEnts_good.below H4.out (HD.out.below _))
   obtain ⟨ad2,D1,e1,D2,e2,D3,e3,D4,e4,rfl,-,-,-,q1,-⟩:=hat2 j hj
   have i0:(0:Int)≤(k:Int):=by omega
   have i1:(k:Int) < (lp.length:Int):=by omega
   have j0:(0:Int)≤(j:Int):=by omega
   have j1:(j:Int) < (L.length:Int):=by omega
   have ST:=Lib.hid (fnd9_step (v:=v) hlt hj e0)
   have ev:=str_eq L[j].v v
   clear hat hat2 hjk e0 h1
   generalize L[j].v=yv at *
   by_cases g:yv=v
   ·rw [decide_eq_true g] at ev
    have XX:=Lib.hid (show pl=(j:Int) from X.out.symm.trans (HF.out.trans (ST.out.1 g)))
    clear g
    go_wp2
    go_ret
    exact ⟨by rw [XX.out];try rfl,HD.out⟩
   ·rw [decide_eq_false g] at ev
    have NX:=Lib.hid (HF.out.trans (ST.out.2 g))
    clear g
    go_wp2
    go_roundw
    case rel=>exact ⟨k+1,by omega,by go_num,NX.out,HD.out⟩
    case measure=>simp [intOf];omega
  ·obtain rfl:k=lp.length:=by omega
   have XX:=Lib.hid (show pl=-1 by rw [←X.out,HF.out,List.drop_length];rfl)
   clear h1
   go_wp2
   go_ret
   exact ⟨by rw [XX.out];try rfl,HD.out⟩
set_option maxHeartbeats 8000000 in
theorem placesOf9_any (b:Nat) (L:List Ent) (m:List Hr) (A:Option Addr) (n0 c:Nat) (l:List Hr) (w:World) (h:UP w b L m) (hr:rdHrs w (lt_ w.heap.size) l [.slice A n0 c]) (hl:l.length≤200) (hs:∀y ∈ l,y.e.n.size≤1000000) :
  Calls Tryz.prog 68 #[.pointer (some ⟨b,0,none⟩),.slice A n0 c] w fun e w'=>(∃A c,e=.returned (.slice A (insU L l).length c)∧rdInts w' (lt_ w'.heap.size) (insU L l) [.slice A (insU L l).length c])∧Below w.heap.size w w':=by
 have HU:=Lib.hid (fun (W:World) (hb:Below w.heap.size w W)=>h.below hb)
 obtain ⟨fi,hi,hz0,hz1,hz2⟩:=info_parts int9_info
 obtain ⟨rfl,hnc,hcm,-⟩:=rdHrs_at hr
 have hcm':c≤9223372036854775807:=hcm
 have H:=Lib.hid hr
 have HS:=Lib.hid hs
 clear h hr hcm hs
 go_enter Tryz.func68,Tryz.ntmps68
 go_wp2
 go_loopw [5,10] (fun v i wr=>∃k:Nat,k≤l.length∧i=.int .i64 k∧Grow rdInt 1 (fun _=>True) wr w.heap.size 3 v (insU L (l.take k))∧Below w.heap.size w wr) (fun _ i _=>l.length - (intOf i).toNat)
 case atStart=>exact ⟨0,Nat.zero_le _,rfl,Grow.nil _ _ _ _,Below.refl _ _⟩
 case round=>
  obtain ⟨k,hk,rfl,hG,hbel⟩:=hrel
  have HB:=Lib.hid hbel
  have HG:=Lib.hid hG
  clear hG
  by_cases hlt:k < l.length
  ·obtain ⟨-,-,-,hat⟩:=rdHrs_at (rdHrs_good.below H.out hbel)
   obtain ⟨ad,A1,c1,A2,c2,A3,c3,A4,c4,rfl,had,-,h0,h1,h2,h3,h4,h5,h6,h7⟩:=hat k hlt
   have i0:(0:Int)≤(k:Int):=by omega
   have i1:(k:Int) < (l.length:Int):=by omega
   have KP:=Lib.hid (fun (W:World) (hb:Below w.heap.size w W)=>place9_any b L m l[k].e.n l[k].e.v W (HU.out W hb) (HS.out _ (List.getElem_mem hlt)))
   have ST:=Lib.hid (insU_step (l:=L) hlt)
   have hln:(insU L (l.take k)).length≤200:=by unfold insU;rw [List.length_map,List.length_take];omega
   clear had hat hbel
   generalize plU l[k].e.n l[k].e.v L 0=pl at *
   generalize hgl:insU L (l.take k)=gl at HG ST hln
   clear hgl
   generalize l[k]=y at *
   obtain ⟨⟨n,v,d,r,c',p⟩,ha,hh⟩:=y
   simp only at h0 h1 h2 h3 h4 h5 h6 h7 KP
   obtain ⟨Av,cv,hv6,-,-⟩:=HG.out.own
   have GG:=Lib.hid HG.out
   rw [hv6] at GG
   obtain ⟨nv,hnv⟩:∃q,q=gl.length:=⟨_,rfl⟩
   rw [←hnv] at hv6 GG
   subst hv6
   obtain ⟨W2,hW2⟩:∃W,W=wr.alloc (.cells #[.string n,.string v,.slice A1 d.length c1,.slice A2 r.length c2,.slice A3 c'.length c3,.slice A4 p.length c4,.bool ha,.bool hh] 67):=⟨_,rfl⟩
   have b2:Below wr.heap.size wr W2:=by rw [hW2];exact (Below.refl _ wr).alloc (Nat.le_refl _) _
   have B2:=Lib.hid (HB.out.trans (b2.mono HB.out.size))
   have G2:=Lib.hid (GG.out.below rdInt_good b2)
   have x0:W2.cell? ⟨wr.heap.size,0,none⟩=some (.string n):=by rw [hW2];simp [go_sem]
   have x1:W2.cell? ⟨wr.heap.size,1,none⟩=some (.string v):=by rw [hW2];simp [go_sem]
   clear b2 hnv GG HG
   go_wp2_with fail
   rw [←hW2]
   clear hW2
   refine (KP.out _ B2.out).mono ?_
   rintro e w3 ⟨rfl,hd⟩
   have B3:=Lib.hid (B2.out.trans ((hd.below W2.heap.size).mono B2.out.size))
   have G3:=Lib.hid (G2.out.below rdInt_good (hd.below W2.heap.size))
   have hn1:gl.length+1≤maxLen:=by unfold maxLen;omega
   have hn2:(gl.length+1)*8≤140737488355328:=by omega
   have hbs:w.heap.size≤w3.heap.size:=B3.out.size
   clear hd x0 x1 h0 h1 h2 h3 h4 h5 h6 h7
   go_wp2_with (at_builtin;refine wpList_grow1_at w3 rfl _ _ 25 rfl rdInt_good (by decide) (fun _=>True) w.heap.size 3 fi _ 8 Tryz.underlying25 hi hz0 hz1 hz2 rfl (.slice Av nv cv) gl rfl G3.out pl _ 3 rfl w3.heap.size rfl rfl hn1 hn2 hbs ?_)
   intro v1 w4 hG4 hg4 _
   have B4:=Lib.hid (grow_below G3.out hg4 B3.out (Nat.le_refl _) hbs)
   have G4:=Lib.hid hG4
   clear hG4 hg4
   go_wp2
   go_roundw
   case rel=>exact ⟨k+1,by omega,by go_num,by rw [ST.out];exact G4.out,B4.out⟩
   case measure=>simp [intOf];omega
  ·obtain rfl:k=l.length:=by omega
   have FIN:=Lib.hid (show rdInts wr (lt_ wr.heap.size) (insU L l) [u5] from by
    have:=HG.out.read rdInt_good
    rwa [List.take_length] at this)
   obtain ⟨Av,cv,hv,_⟩:=id FIN.out
   simp only [List.cons.injEq,and_true] at hv
   subst hv
   clear hbel HG
   go_wp2
   go_ret
   exact ⟨⟨Av,cv,rfl,FIN.out⟩,HB.out⟩
set_option maxHeartbeats 4000000 in
theorem inst9_any (b:Nat) (L:List Ent) (m:List Hr) (w:World) (h:UP w b L m) (hl:m.length≤200) (hs:∀y ∈ m,y.e.n.size≤1000000) :
  Calls Tryz.prog 29 #[.pointer (some ⟨b,0,none⟩)] w fun e w'=>(∃A c,e=.returned (.slice A (insU L m).length c)∧rdInts w' (lt_ w'.heap.size) (insU L m) [.slice A (insU L m).length c])∧Below w.heap.size w w':=by
 have h0:=h
 obtain ⟨A,c,A',c',bm,-,h2,-,-,h5,-⟩:=h
 have K:=Lib.hid (placesOf9_any b L m A' m.length c' m w h0 h5 hl hs)
 clear h0 h5 hs hl
 go_enter Tryz.func29,Tryz.ntmps29
 go_wp2_with fail
 refine K.out.mono ?_
 rintro e w1 ⟨⟨Av,cv,rfl,hr⟩,hb⟩
 have R:=Lib.hid hr
 clear hr h2
 go_wp2
 go_ret
 exact ⟨⟨Av,cv,rfl,R.out⟩,hb⟩
end Go.Proofs.YtpilmhoakopcaaaGreatDoor
