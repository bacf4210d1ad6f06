/- What the laws rest on: N9g, N9h, N9c. -/
import Derived.Test.YtpilmhoakopcaaaGreatDoorQAJZC
set_option maxRecDepth 100000
set_option linter.unusedVariables false
set_option linter.unusedSimpArgs false
namespace Go.Proofs.YtpilmhoakopcaaaGreatDoor
open Go.RowKit
theorem atoi_ok9 {p:List Nat} (h0:0≤numL p):∃z,Lib.atoiAll (mk p).data.toList=.ok z:=by
 have h:numL p=numL p:=rfl
 unfold numL at h0
 split at h0
 ·rename_i hc
  obtain ⟨hne,hlen,hall,hdec⟩:=hc
  have hd:∀c ∈ p,digB c=true:=List.all_eq_true.1 hall
  have hlt:=numV_lt p hd
  have hpow:10 ^ p.length≤10 ^ 9:=Nat.pow_le_pow_right (by omega) hlen
  have hU:Lib.parseMag (p.map UInt8.ofNat)=.ok (numV p):=by
   unfold Lib.parseMag
   rw [if_neg (by simpa using hne)]
   exact uint_dig p 0 hd (by omega)
  rw [data_mk]
  match p,hne,hd,hU,hlt,hpow with
  | c::q,_,hd,hU,hlt,hpow=>
   have hc:=digB_iff.1 (hd c (by simp))
   have e:(UInt8.ofNat c).toNat=c:=by rw [UInt8.toNat_ofNat'];exact Nat.mod_eq_of_lt (by omega)
   refine ⟨(numV (c::q):Int),?_⟩
   rw [List.map_cons] at hU ⊢
   simp only [Lib.atoiAll,e]
   rw [if_neg (by omega),hU]
   simp only
   rw [if_neg (by omega),if_neg (by omega),if_neg (by omega)]
 ·omega
theorem ato_of {s:ByteArray} (h:prB (B s)=true):AtO s:=by
 intro i hi
 unfold prB at h
 rw [Bool.and_eq_true] at h
 have h1:parseE (B s)=0:=of_decide_eq_true h.1
 unfold parseE at h1
 split at h1
 ·cases h1
 ·split at h1
  ·rename_i hb
   have he:0≤colE (B s):=by
    unfold parseB rightB at hb
    simp only [Bool.and_eq_true,decide_eq_true_eq] at hb
    omega
   unfold colE at he
   rw [hi] at he
   exact atoi_ok9 he
  ·cases h1
def gatE:List Ent→List Ent→Option (List Ent)
 | [],l=>some l
 | e::r,l=>if in9 l e=true then gatE r l else if l.length=64 then none else gatE r (l++[e])
theorem thB_in9 (l:List Ent) (x:Ent):thB l x=in9 l x:=by
 unfold thB in9
 congr 1
 funext y
 unfold thr
 by_cases h1:y.n=x.n
 ·by_cases h2:y.v=x.v
  ·rw [decide_eq_true h1,decide_eq_true h2,decide_eq_true (show one9 y x from ⟨h1,h2⟩)];rfl
  ·rw [decide_eq_false h2,Bool.and_false,decide_eq_false (fun q:one9 y x=>h2 q.2)]
 ·rw [decide_eq_false h1,Bool.false_and,decide_eq_false (fun q:one9 y x=>h1 q.1)]
theorem in9_perm {l m:List Ent} (h:l.Perm m) (e:Ent):in9 l e=in9 m e:=by
 rw [Bool.eq_iff_iff,in9_iff,in9_iff]
 exact ⟨fun ⟨x,hx,k⟩=>⟨x,h.mem_iff.1 hx,k⟩,fun ⟨x,hx,k⟩=>⟨x,h.mem_iff.2 hx,k⟩⟩
theorem put9_perm (l:List Ent) (e:Ent):(putU l e).Perm (l++[e]):=by
 unfold putU
 have q:=List.takeWhile_append_dropWhile (p:=fun x=>lesB x e) (l:=l)
 refine (List.perm_middle).trans ?_
 rw [q]
 exact (List.perm_append_singleton e l).symm
theorem add9_len (l:List Ent) (e:Ent):l.length≤(addU l e).length:=by
 unfold addU
 split
 ·exact Nat.le_refl _
 ·rw [(put9_perm l e).length_eq,List.length_append];exact Nat.le_add_right _ _
theorem fold_add_len:∀(ix L:List Ent),L.length≤(ix.foldl addU L).length
 | [],L=>Nat.le_refl _
 | e::r,L=>Nat.le_trans (add9_len L e) (fold_add_len r _)
theorem gatE_spec:∀(ix l L:List Ent),l.Perm L→l.length≤64→(∀l',gatE ix l=some l'→l'.Perm (ix.foldl addU L)∧l'.length≤64)∧(gatE ix l=none→64 < (ix.foldl addU L).length)
 | [],l,L,h,hl=>⟨fun l' e=>(by injection e with e;subst e;exact ⟨h,hl⟩),fun e=>(by cases e)⟩
 | e::r,l,L,h,hl=>by
  unfold gatE
  by_cases q:in9 l e=true
  ·rw [if_pos q]
   have e1:addU L e=L:=by unfold addU;rw [if_pos (by rw [←in9_perm h];exact q)]
   show (∀l',gatE r l=some l'→l'.Perm (r.foldl addU (addU L e))∧l'.length≤64)∧(gatE r l=none→64 < (r.foldl addU (addU L e)).length)
   rw [e1]
   exact gatE_spec r l L h hl
  ·rw [if_neg q]
   have e1:addU L e=putU L e:=by unfold addU;rw [if_neg (by rw [←in9_perm h];exact q)]
   have hp:(l++[e]).Perm (putU L e):=(h.append_right [e]).trans (put9_perm L e).symm
   by_cases h64:l.length=64
   ·rw [if_pos h64]
    refine ⟨fun l' hh=>(by cases hh),fun _=>?_⟩
    show 64 < (r.foldl addU (addU L e)).length
    have h2:=fold_add_len r (addU L e)
    rw [e1] at h2 ⊢
    have h3:=hp.length_eq
    rw [List.length_append,List.length_singleton] at h3
    omega
   ·rw [if_neg h64]
    show (∀l',gatE r (l++[e])=some l'→l'.Perm (r.foldl addU (addU L e))∧l'.length≤64)∧(gatE r (l++[e])=none→64 < (r.foldl addU (addU L e)).length)
    rw [e1]
    exact gatE_spec r (l++[e]) (putU L e) hp (by rw [List.length_append,List.length_singleton];omega)
theorem fold_put_perm:∀(he L:List Ent),(he.foldl putU L).Perm (L++he)
 | [],L=>by rw [List.append_nil];exact List.Perm.refl _
 | e::r,L=>by
  refine (fold_put_perm r (putU L e)).trans ?_
  refine ((put9_perm L e).append_right r).trans ?_
  rw [List.append_assoc];exact List.Perm.refl _
theorem srt9_once {L:List Ent} (h:Srt9 L):Once9 L:=List.Pairwise.imp (fun {a b} (q:Les a b) (k:one9 a b)=>Les.alike k.1 k.2 q) h
theorem gat_srt {ix he l l':List Ent} (ho:Once9 he) (hg:gatE ix he=some l) (hlen:he.length≤64) (hs:l'.Pairwise (fun x y=>lesB y x=false)) (hp:l'.Perm l):l'=entU ix he∧l'.length≤64:=by
 obtain ⟨h1,h2⟩:=(gatE_spec ix he (he.foldl putU []) ((fold_put_perm he []).symm) hlen).1 l hg
 have hpp:l'.Perm (entU ix he):=hp.trans h1
 have hS:=entU_srt (ix:=ix) ho
 have hO:Once9 l':=(hpp.pairwise_iff (R:=fun x y=>¬one9 x y) (fun {x y} h k=>h k.symm)).2 (srt9_once hS)
 have hl:Srt9 l':=by
  refine List.Pairwise.imp ?_ (List.Pairwise.and hs hO)
  rintro a b ⟨h1,h2⟩
  rcases Les.tot a b with k|k|k
  ·exact k
  ·rw [(lesB_iff b a).2 k] at h1;cases h1
  ·exact absurd k h2
 exact ⟨srt9_ext hl hS fun x=>hpp.mem_iff,by rw [hp.length_eq];exact h2⟩
theorem gat_many {ix he:List Ent} (hg:gatE ix he=none) (hlen:he.length≤64):64 < (entU ix he).length:=
 (gatE_spec ix he (he.foldl putU []) ((fold_put_perm he []).symm) hlen).2 hg
theorem gat_some {ix he l:List Ent} (hg:gatE ix he=some l) (hlen:he.length≤64):¬64 < (entU ix he).length:=by
 obtain ⟨h1,h2⟩:=(gatE_spec ix he (he.foldl putU []) ((fold_put_perm he []).symm) hlen).1 l hg
 have:=h1.length_eq
 unfold entU
 omega
theorem gat_mem:∀{ix l l':List Ent},gatE ix l=some l'→∀x ∈ l',x ∈ l∨x ∈ ix
 | [],l,l',h,x,hx=>by injection h with h;subst h;exact .inl hx
 | e::r,l,l',h,x,hx=>by
  unfold gatE at h
  split at h
  ·rcases gat_mem h x hx with q|q
   ·exact .inl q
   ·exact .inr (List.mem_cons_of_mem _ q)
  ·split at h
   ·cases h
   ·rcases gat_mem h x hx with q|q
    ·rcases List.mem_append.1 q with q|q
     ·exact .inl q
     ·rw [List.mem_singleton.1 q];exact .inr (List.mem_cons_self ..)
    ·exact .inr (List.mem_cons_of_mem _ q)
set_option maxHeartbeats 8000000 in
theorem rightIx9_any (A:Option Addr) (n0 c:Nat) (L:List Ent) (w:World) (h:rdEnts w (lt_ w.heap.size) L [.slice A n0 c]) (E:EnvR w) :
  Calls Tryz.prog 31 #[.slice A n0 c] w fun e w'=>e=.returned (.bool (L.all rgtE))∧Below w.heap.size w w':=by
 obtain ⟨rfl,hnc,hcm,-⟩:=rdEnts_at h
 have hcm':c≤9223372036854775807:=hcm
 have H:=Lib.hid h
 clear h hcm
 go_enter Tryz.func31,Tryz.ntmps31
 go_wp2
 go_loopw [7] (fun i wr=>∃k:Nat,k≤L.length∧i=.int .i64 k∧(∀j (hj:j < L.length),j < k→rgtE L[j]=true)∧Below w.heap.size w wr) (fun i _=>L.length - (intOf i).toNat)
 case atStart=>exact ⟨0,Nat.zero_le _,rfl,fun j _ hj=>absurd hj (Nat.not_lt_zero _),Below.refl _ _⟩
 case round=>
  obtain ⟨k,hk,rfl,hall,hbel⟩:=hrel
  have HA:=Lib.hid hall
  have HB:=Lib.hid hbel
  clear hall
  by_cases hlt:k < L.length
  ·obtain ⟨-,-,-,hat⟩:=rdEnts_at (rdEnts_good.up (rdEnts_good.below H.out hbel) hbel.size)
   obtain ⟨ad,A1,c1,A2,c2,A3,c3,A4,c4,rfl,had,hv,h0,h1,h2,h3,h4,h5⟩:=hat k hlt
   have i0:(0:Int)≤(k:Int):=by omega
   have i1:(k:Int) < (L.length:Int):=by omega
   have SX:=Lib.hid (fun hs:rgtE L[k]=true=>show ∀j (hj:j < L.length),j < k+1→rgtE L[j]=true from fun j hj h=>by
    by_cases hjk:j=k
    ·subst hjk;exact hs
    ·exact HA.out j hj (by omega))
   have SN:=Lib.hid (fun hs:rgtE L[k]=false=>show L.all rgtE=false from by
    rw [Bool.eq_false_iff]
    intro q
    have:=List.all_eq_true.1 q _ (List.getElem_mem hlt)
    rw [hs] at this;cases this)
   have HV:=Lib.hid hv
   clear had hat hv hbel
   generalize L[k]=x at *
   obtain ⟨n,v,d,r,c',p⟩:=x
   simp only at h0 h1 h2 h3 h4 h5
   have B1:=Lib.hid (show Below wr.heap.size wr (wr.alloc (.cells #[.string n,.string v,.slice A1 d.length c1,.slice A2 r.length c2,.slice A3 c'.length c3,.slice A4 p.length c4] 60)) from (Below.refl _ wr).alloc (Nat.le_refl _) _)
   have KR:=Lib.hid (eright_any ⟨n,v,d,r,c',p⟩ A1 c1 A2 c2 A3 c3 A4 c4 (wr.alloc (.cells #[.string n,.string v,.slice A1 d.length c1,.slice A2 r.length c2,.slice A3 c'.length c3,.slice A4 p.length c4] 60)) (HV.out.on B1.out) ((E.below HB.out).below B1.out))
   clear E
   go_wp2_with fail
   refine KR.out.mono ?_
   rintro e w2 ⟨rfl,hb⟩
   have HB2:=Lib.hid (HB.out.trans ((bel_in B1.out hb).mono HB.out.size))
   clear hb h0 h1 h2 h3 h4 h5
   cases hq:rgtE ⟨n,v,d,r,c',p⟩
   ·have X:=Lib.hid (SN.out hq)
    clear hq
    go_wp2
    go_ret
    exact ⟨by rw [X.out];try rfl,HB2.out⟩
   ·have X:=Lib.hid (SX.out hq)
    clear hq
    go_wp2
    go_roundw
    case rel=>exact ⟨k+1,by omega,by go_num,X.out,HB2.out⟩
    case measure=>simp [intOf];omega
  ·obtain rfl:k=L.length:=by omega
   have X:=Lib.hid (show L.all rgtE=true from List.all_eq_true.2 fun a ha=>by
    obtain ⟨j,hj,rfl⟩:=List.getElem_of_mem ha
    exact HA.out j hj hj)
   clear hbel
   go_wp2
   go_ret
   exact ⟨by rw [X.out];try rfl,HB.out⟩
theorem EntV.six {w:World} {S:Nat→Prop} {x:Ent} {A1 A2 A3 A4:Option Addr} {c1 c2 c3 c4:Nat} (h:EntV w S x A1 c1 A2 c2 A3 c3 A4 c4):rdEnt w S x [.string x.n,.string x.v,.slice A1 x.d.length c1,.slice A2 x.r.length c2,.slice A3 x.c.length c3,.slice A4 x.p.length c4]:=
 ⟨_,_,_,_,rfl,h.d,h.r,h.c,h.p⟩
theorem gate_step {ix l:List Ent} {k:Nat} (hk:k < ix.length):(in9 l ix[k]=true→gatE (ix.drop k) l=gatE (ix.drop (k+1)) l)∧(in9 l ix[k]=false→l.length=64→gatE (ix.drop k) l=none)∧(in9 l ix[k]=false→l.length≠64→gatE (ix.drop k) l=gatE (ix.drop (k+1)) (l++[ix[k]])):=by
 rw [List.drop_eq_getElem_cons hk]
 show (_→(if in9 l ix[k]=true then _ else _)=_)∧(_→_→(if in9 l ix[k]=true then _ else _)=_)∧(_→_→(if in9 l ix[k]=true then _ else _)=_)
 refine ⟨fun h=>if_pos h,fun h h2=>?_,fun h h2=>?_⟩
 ·rw [if_neg (by rw [h];decide),if_pos h2]
 ·rw [if_neg (by rw [h];decide),if_neg h2]
def GatR (w:World) (o:Option (List Ent)) (e:Ending) (w':World):Prop:=match o with
 | some l=>∃v,e=.returned (.tuple #[v,.int .i64 0])∧Grow rdEnt 6 (lt_ w.heap.size) w' w.heap.size 60 v l
 | none=>e=.returned (.tuple #[.slice none 0 0,.int .i64 8])
set_option maxHeartbeats 16000000 in
theorem gather9_any (A:Option Addr) (n0 c:Nat) (L:List Ent) (A':Option Addr) (n1 c1':Nat) (m:List Hr) (w:World) (h:rdEnts w (lt_ w.heap.size) L [.slice A n0 c]) (h':rdHrs w (lt_ w.heap.size) m [.slice A' n1 c1']) (hm:m.length≤64) :
  Calls Tryz.prog 33 #[.slice A n0 c,.slice A' n1 c1'] w fun e w'=>GatR w (gatE L (m.map fun y=>y.e)) e w'∧Below w.heap.size w w':=by
 obtain ⟨rfl,hnc,hcm,-⟩:=rdEnts_at h
 obtain ⟨rfl,hnc',hcm',-⟩:=rdHrs_at h'
 have hcx:c≤9223372036854775807:=hcm
 have hcy:c1'≤9223372036854775807:=hcm'
 obtain ⟨fi,hi,hz0,hz1,hz2⟩:=info_parts ent9_info
 have H:=Lib.hid h
 have H':=Lib.hid h'
 clear h h' hcm hcm'
 go_enter Tryz.func33,Tryz.ntmps33
 go_wp2
 go_loopw [6,13] (fun v i wr=>∃k:Nat,k≤m.length∧i=.int .i64 k∧Grow rdEnt 6 (lt_ w.heap.size) wr w.heap.size 60 v ((m.take k).map fun y=>y.e)∧Below w.heap.size w wr) (fun _ i _=>m.length - (intOf i).toNat)
 case atStart=>exact ⟨0,Nat.zero_le _,rfl,Grow.nil _ _ _ _,Below.refl _ _⟩
 case round=>
  obtain ⟨k,hk,rfl,hG,hbel⟩:=hrel
  have HB:=Lib.hid hbel
  have HG:=Lib.hid hG
  clear hG
  by_cases hlt:k < m.length
  ·obtain ⟨-,-,-,hat⟩:=rdHrs_at (rdHrs_good.below H'.out hbel)
   obtain ⟨ad,A1,c1,A2,c2,A3,c3,A4,c4,rfl,had,hv,h0,h1,h2,h3,h4,h5,h6,h7⟩:=hat k hlt
   have i0:(0:Int)≤(k:Int):=by omega
   have i1:(k:Int) < (m.length:Int):=by omega
   have ST:=Lib.hid (show (m.take (k+1)).map (fun y=>y.e)=(m.take k).map (fun y=>y.e)++[m[k].e] by rw [List.take_succ_eq_append_getElem hlt,List.map_append];rfl)
   have hln:((m.take k).map fun y:Hr=>y.e).length≤64:=by rw [List.length_map,List.length_take];omega
   have HV:=Lib.hid hv
   clear had hat hv hbel
   generalize hgl:(m.take k).map (fun y=>y.e)=gl at HG ST hln
   clear hgl
   generalize m[k]=y at *
   obtain ⟨⟨n,v,d,r,c',p⟩,ha,hh⟩:=y
   simp only at h0 h1 h2 h3 h4 h5 h6 h7 HV
   obtain ⟨Av,cv,hv6,-,-⟩:=HG.out.own
   have GG:=Lib.hid HG.out
   rw [hv6] at GG
   obtain ⟨nv,hnv⟩:∃q,q=gl.length:=⟨_,rfl⟩
   rw [←hnv] at hv6 GG
   subst hv6
   obtain ⟨W2,hW2⟩:∃W,W=wr.alloc (.cells #[.string n,.string v,.slice A1 d.length c1,.slice A2 r.length c2,.slice A3 c'.length c3,.slice A4 p.length c4,.bool ha,.bool hh] 67):=⟨_,rfl⟩
   have b2:Below wr.heap.size wr W2:=by rw [hW2];exact (Below.refl _ wr).alloc (Nat.le_refl _) _
   have s2:W2.heap.size=wr.heap.size+1:=by rw [hW2];simp
   have G2:=Lib.hid (GG.out.below rdEnt_good b2)
   have rge:∀q,(Value.slice Av nv cv).ownBlock=some q→w.heap.size≤q:=fun q hq=>(GG.out.lt q hq).1
   have hE:rdEnt W2 (fun b=>lt_ w.heap.size b∧b < W2.heap.size∧(Value.slice Av nv cv).ownBlock≠some b) ⟨n,v,d,r,c',p⟩ #[.string n,.string v,.slice A1 d.length c1,.slice A2 r.length c2,.slice A3 c'.length c3,.slice A4 p.length c4].toList:=
    rdEnt_good.more (HV.out.below (b2.mono HB.out.size)).six (fun b hb=>⟨hb,by have hb:b < w.heap.size:=hb;have:=HB.out.size;omega,fun hq=>by have:=rge b hq;have hb:b < w.heap.size:=hb;omega⟩)
   have hn1:gl.length+1≤maxLen:=by unfold maxLen;omega
   have hn2:(gl.length+1)*128≤140737488355328:=by omega
   have hbs:w.heap.size≤W2.heap.size:=by have:=HB.out.size;omega
   have HB2:=Lib.hid (HB.out.trans (b2.mono HB.out.size))
   have HS2:=Lib.hid s2
   clear b2 s2 rge hnv GG HG
   go_wp2_with (at_builtin;rw [←hW2];refine wpList_grow1_at W2 rfl _ _ 22 rfl rdEnt_good (by decide) (lt_ w.heap.size) w.heap.size 60 fi _ 128 Tryz.underlying22 hi hz0 hz1 hz2 rfl (.slice Av nv cv) gl rfl G2.out ⟨n,v,d,r,c',p⟩ _ 60 hE (wr.heap.size+1) HS2.out.symm rfl hn1 hn2 hbs ?_)
   intro v1 w4 hG4 hg4 _
   rw [←hW2] at hg4
   have B4:=Lib.hid (grow_below G2.out hg4 HB2.out (Nat.le_refl _) hbs)
   have G4:=Lib.hid hG4
   clear hG4 hg4 hE hW2 h0 h1 h2 h3 h4 h5 h6 h7 HV
   go_wp2
   go_roundw
   case rel=>exact ⟨k+1,by omega,by go_num,by rw [ST.out];exact G4.out,B4.out⟩
   case measure=>simp [intOf];omega
  ·obtain rfl:k=m.length:=by omega
   have HG1:=Lib.hid (show Grow rdEnt 6 (lt_ w.heap.size) wr w.heap.size 60 u6 (m.map fun y=>y.e) by have:=HG.out;rwa [List.take_length] at this)
   have hl0:=Lib.hid (show (m.map fun y:Hr=>y.e).length≤64 by rw [List.length_map];exact hm)
   generalize hhe:m.map (fun y=>y.e)=he at *
   have HE0:=Lib.hid hhe
   clear hbel HG hhe
   go_wp2
   go_loopw [6,25] (fun v i wr=>∃k:Nat,k≤L.length∧i=.int .i64 k∧(∃l,gatE L he=gatE (L.drop k) l∧l.length≤64∧Grow rdEnt 6 (lt_ w.heap.size) wr w.heap.size 60 v l)∧Below w.heap.size w wr) (fun _ i _=>L.length - (intOf i).toNat)
   case atStart=>exact ⟨0,Nat.zero_le _,rfl,⟨he,rfl,hl0.out,HG1.out⟩,HB.out⟩
   case round=>
    clear HB HG1 hl0
    obtain ⟨k,hk,rfl,⟨l,hgat,hl,hG⟩,hbel⟩:=hrel
    have HB:=Lib.hid hbel
    have HGT:=Lib.hid hgat
    clear hgat
    by_cases hlt:k < L.length
    ·obtain ⟨-,-,-,hat⟩:=rdEnts_at (rdEnts_good.below H.out hbel)
     obtain ⟨ad,A1,c1,A2,c2,A3,c3,A4,c4,rfl,had,hv,h0,h1,h2,h3,h4,h5⟩:=hat k hlt
     have i0:(0:Int)≤(k:Int):=by omega
     have i1:(k:Int) < (L.length:Int):=by omega
     have ST:=Lib.hid (gate_step (l:=l) hlt)
     have HV:=Lib.hid hv
     clear had hat hv hbel
     generalize L[k]=y at *
     obtain ⟨Av,cv,hv6,-,-⟩:=hG.own
     rw [hv6] at hG
     have KA:=Lib.hid (fun (W:World) (hb:Below wr.heap.size wr W)=>among9_any Av l.length cv l y A1 c1 A2 c2 A3 c3 A4 c4 W ((hG.below rdEnt_good hb).read rdEnt_good))
     obtain ⟨nv,hnv⟩:∃q,q=l.length:=⟨_,rfl⟩
     rw [←hnv] at hv6 hG KA
     subst hv6
     rw [show thB l y=in9 l y from thB_in9 l y] at KA
     obtain ⟨n,v,d,r,c',p⟩:=y
     simp only at h0 h1 h2 h3 h4 h5
     obtain ⟨W2,hW2⟩:∃W,W=wr.alloc (.cells #[.string n,.string v,.slice A1 d.length c1,.slice A2 r.length c2,.slice A3 c'.length c3,.slice A4 p.length c4] 60):=⟨_,rfl⟩
     have b2:Below wr.heap.size wr W2:=by rw [hW2];exact (Below.refl _ wr).alloc (Nat.le_refl _) _
     have s2:W2.heap.size=wr.heap.size+1:=by rw [hW2];simp
     have x0:W2.cell? ⟨wr.heap.size,0,none⟩=some (.string n):=by rw [hW2];simp [go_sem]
     have x1:W2.cell? ⟨wr.heap.size,1,none⟩=some (.string v):=by rw [hW2];simp [go_sem]
     have x2:W2.cell? ⟨wr.heap.size,2,none⟩=some (.slice A1 d.length c1):=by rw [hW2];simp [go_sem]
     have x3:W2.cell? ⟨wr.heap.size,3,none⟩=some (.slice A2 r.length c2):=by rw [hW2];simp [go_sem]
     have x4:W2.cell? ⟨wr.heap.size,4,none⟩=some (.slice A3 c'.length c3):=by rw [hW2];simp [go_sem]
     have x5:W2.cell? ⟨wr.heap.size,5,none⟩=some (.slice A4 p.length c4):=by rw [hW2];simp [go_sem]
     have GG:=Lib.hid hG
     have B2:=Lib.hid b2
     have S2:=Lib.hid s2
     have HNV:=Lib.hid hnv
     clear hG b2 s2 hnv
     go_wp2_with fail
     rw [←hW2]
     clear hW2
     refine (KA.out _ B2.out).mono ?_
     rintro e w3 ⟨rfl,hb⟩
     replace x0:=keep6 hb x0
     replace x1:=keep6 hb x1
     replace x2:=keep6 hb x2
     replace x3:=keep6 hb x3
     replace x4:=keep6 hb x4
     replace x5:=keep6 hb x5
     have B3:=Lib.hid (B2.out.trans (hb.mono B2.out.size))
     have hs3:wr.heap.size < w3.heap.size:=by have:=hb.size;have:=S2.out;omega
     clear hb h0 h1 h2 h3 h4 h5
     cases hq:in9 l ⟨n,v,d,r,c',p⟩
     ·have HQ:=Lib.hid hq
      clear hq
      by_cases h64:nv=64
      ·have X:=Lib.hid (show gatE L he=none from HGT.out.trans (ST.out.2.1 HQ.out (by rw [←HNV.out];exact h64)))
       have BX:=Lib.hid (HB.out.trans (B3.out.mono HB.out.size))
       subst h64
       go_wp2
       go_ret2
       exact ⟨by rw [HE0.out,X.out];exact rfl,BX.out⟩
      ·have X:=Lib.hid (show gatE L he=gatE (L.drop (k+1)) (l++[⟨n,v,d,r,c',p⟩]) from HGT.out.trans (ST.out.2.2 HQ.out (by rw [←HNV.out];exact h64)))
       have hn64:((nv:Int)==64)=false:=by rw [beq_eq_false_iff_ne];omega
       have HL:=Lib.hid (show l.length < 64 by have:=HNV.out;omega)
       clear h64
       have G3:=Lib.hid (GG.out.below rdEnt_good B3.out)
       have rge:∀q,(Value.slice Av nv cv).ownBlock=some q→w.heap.size≤q:=fun q hq=>(GG.out.lt q hq).1
       have hE:rdEnt w3 (fun b=>lt_ w.heap.size b∧b < w3.heap.size∧(Value.slice Av nv cv).ownBlock≠some b) ⟨n,v,d,r,c',p⟩ #[.string n,.string v,.slice A1 d.length c1,.slice A2 r.length c2,.slice A3 c'.length c3,.slice A4 p.length c4].toList:=
        rdEnt_good.more (HV.out.below (B3.out.mono HB.out.size)).six (fun b hb=>⟨hb,by have hb:b < w.heap.size:=hb;have:=HB.out.size;omega,fun hq=>by have:=rge b hq;have hb:b < w.heap.size:=hb;omega⟩)
       have hn1:l.length+1≤maxLen:=by unfold maxLen;have:=HL.out;omega
       have hn2:(l.length+1)*128≤140737488355328:=by have:=HL.out;omega
       have hbs:w.heap.size≤w3.heap.size:=by have:=HB.out.size;omega
       clear rge
       go_wp2_with (at_builtin;refine wpList_grow1_at w3 rfl _ _ 22 rfl rdEnt_good (by decide) (lt_ w.heap.size) w.heap.size 60 fi _ 128 Tryz.underlying22 hi hz0 hz1 hz2 rfl (.slice Av nv cv) l rfl G3.out ⟨n,v,d,r,c',p⟩ _ 60 hE w3.heap.size rfl rfl hn1 hn2 hbs ?_)
       intro v1 w4 hG4 hg4 _
       have B4:=Lib.hid (grow_below G3.out hg4 (HB.out.trans (B3.out.mono HB.out.size)) (Nat.le_refl _) hbs)
       have G4:=Lib.hid hG4
       clear hG4 hg4 hE x0 x1 x2 x3 x4 x5
       go_wp2
       go_roundw
       case rel=>exact ⟨k+1,by omega,by go_num,⟨_,X.out,by rw [List.length_append,List.length_singleton];exact HL.out,G4.out⟩,B4.out⟩
       case measure=>simp [intOf];omega
     ·have X:=Lib.hid (show gatE L he=gatE (L.drop (k+1)) l from HGT.out.trans (ST.out.1 hq))
      have G3:=Lib.hid (GG.out.below rdEnt_good B3.out)
      have BX:=Lib.hid (HB.out.trans (B3.out.mono HB.out.size))
      have HLX:=Lib.hid hl
      clear hq x0 x1 x2 x3 x4 x5
      go_wp2
      go_roundw
      case rel=>exact ⟨k+1,by omega,by go_num,⟨l,X.out,HLX.out,G3.out⟩,BX.out⟩
      case measure=>simp [intOf];omega
    ·obtain rfl:k=L.length:=by omega
     have X:=Lib.hid (show gatE L he=some l by rw [HGT.out,List.drop_length];rfl)
     have GX:=Lib.hid hG
     clear hbel hG
     go_wp2
     go_ret2
     exact ⟨by rw [HE0.out,X.out];exact ⟨_,rfl,GX.out⟩,HB.out⟩
def cfB (x y:Ent):Int:=if lesB x y=true then -1 else if lesB y x=true then 1 else 0
set_option maxHeartbeats 8000000 in
theorem order9_any (x y:Ent) (xA1:Option Addr) (xc1:Nat) (xA2:Option Addr) (xc2:Nat) (xA3:Option Addr) (xc3:Nat) (xA4:Option Addr) (xc4:Nat) (yA1:Option Addr) (yc1:Nat) (yA2:Option Addr) (yc2:Nat) (yA3:Option Addr) (yc3:Nat) (yA4:Option Addr) (yc4:Nat) (hx:AtO x.v) (hy:AtO y.v) (w:World) (E:Env w) :
  Calls Tryz.prog 35 #[x.val xA1 xc1 xA2 xc2 xA3 xc3 xA4 xc4,y.val yA1 yc1 yA2 yc2 yA3 yc3 yA4 yc4] w fun e w'=>e=.returned (.int .i64 (cfB x y))∧BelD w.heap.size w w':=by
 have K1:=Lib.hid (fun (W:World) (hb:Below w.heap.size w W)=>less6_anyD x y hx hy xA1 xc1 xA2 xc2 xA3 xc3 xA4 xc4 yA1 yc1 yA2 yc2 yA3 yc3 yA4 yc4 W (E.below hb))
 have K2:=Lib.hid (fun (W:World) (hb:Below w.heap.size w W)=>less6_anyD y x hy hx yA1 yc1 yA2 yc2 yA3 yc3 yA4 yc4 xA1 xc1 xA2 xc2 xA3 xc3 xA4 xc4 W (E.below hb))
 have X:=Lib.hid (show cfB x y=if lesB x y=true then -1 else if lesB y x=true then 1 else 0 from rfl)
 generalize cfB x y=cf at *
 generalize lesB x y=b1 at *
 generalize lesB y x=b2 at *
 obtain ⟨xn,xv,xd,xr,xc,xp⟩:=x
 obtain ⟨yn,yv,yd,yr,yc,yp⟩:=y
 clear hx hy E
 obtain ⟨W1,hW1⟩:∃W,W=((w.alloc (.cells #[.string xn,.string xv,.slice xA1 xd.length xc1,.slice xA2 xr.length xc2,.slice xA3 xc.length xc3,.slice xA4 xp.length xc4] 60)).alloc (.cells #[.string yn,.string yv,.slice yA1 yd.length yc1,.slice yA2 yr.length yc2,.slice yA3 yc.length yc3,.slice yA4 yp.length yc4] 60)):=⟨_,rfl⟩
 have B1:=Lib.hid (show BelD w.heap.size w W1 by rw [hW1];exact ((BelD.refl _ w).alloc (Nat.le_refl _) _).alloc (by simp) _)
 have x0:W1.cell? ⟨w.heap.size,0,none⟩=some (.string xn):=by rw [hW1];simp [go_sem]
 have x1:W1.cell? ⟨w.heap.size,1,none⟩=some (.string xv):=by rw [hW1];simp [go_sem]
 have x2:W1.cell? ⟨w.heap.size,2,none⟩=some (.slice xA1 xd.length xc1):=by rw [hW1];simp [go_sem]
 have x3:W1.cell? ⟨w.heap.size,3,none⟩=some (.slice xA2 xr.length xc2):=by rw [hW1];simp [go_sem]
 have x4:W1.cell? ⟨w.heap.size,4,none⟩=some (.slice xA3 xc.length xc3):=by rw [hW1];simp [go_sem]
 have x5:W1.cell? ⟨w.heap.size,5,none⟩=some (.slice xA4 xp.length xc4):=by rw [hW1];simp [go_sem]
 have y0:W1.cell? ⟨w.heap.size+1,0,none⟩=some (.string yn):=by rw [hW1];simp [go_sem]
 have y1:W1.cell? ⟨w.heap.size+1,1,none⟩=some (.string yv):=by rw [hW1];simp [go_sem]
 have y2:W1.cell? ⟨w.heap.size+1,2,none⟩=some (.slice yA1 yd.length yc1):=by rw [hW1];simp [go_sem]
 have y3:W1.cell? ⟨w.heap.size+1,3,none⟩=some (.slice yA2 yr.length yc2):=by rw [hW1];simp [go_sem]
 have y4:W1.cell? ⟨w.heap.size+1,4,none⟩=some (.slice yA3 yc.length yc3):=by rw [hW1];simp [go_sem]
 have y5:W1.cell? ⟨w.heap.size+1,5,none⟩=some (.slice yA4 yp.length yc4):=by rw [hW1];simp [go_sem]
 show Calls Tryz.prog 35 #[.agg #[.string xn,.string xv,.slice xA1 xd.length xc1,.slice xA2 xr.length xc2,.slice xA3 xc.length xc3,.slice xA4 xp.length xc4],.agg #[.string yn,.string yv,.slice yA1 yd.length yc1,.slice yA2 yr.length yc2,.slice yA3 yc.length yc3,.slice yA4 yp.length yc4]] w _
 go_enter Tryz.func35,Tryz.ntmps35
 go_wp2_with fail
 rw [←hW1]
 clear hW1
 go_wp2_with fail
 refine (K1.out _ B1.out.b).mono ?_
 rintro e w2 ⟨rfl,hb⟩
 have B2:=Lib.hid (B1.out.trans (hb.mono B1.out.size))
 replace x0:=keep6 hb.b x0
 replace x1:=keep6 hb.b x1
 replace x2:=keep6 hb.b x2
 replace x3:=keep6 hb.b x3
 replace x4:=keep6 hb.b x4
 replace x5:=keep6 hb.b x5
 replace y0:=keep6 hb.b y0
 replace y1:=keep6 hb.b y1
 replace y2:=keep6 hb.b y2
 replace y3:=keep6 hb.b y3
 replace y4:=keep6 hb.b y4
 replace y5:=keep6 hb.b y5
 clear hb
 cases b1
 ·go_wp2_with fail
  refine (K2.out _ B2.out.b).mono ?_
  rintro e w3 ⟨rfl,hb⟩
  have B3:=Lib.hid (B2.out.trans (hb.mono B2.out.size))
  clear hb x0 x1 x2 x3 x4 x5 y0 y1 y2 y3 y4 y5
  cases b2
  ·go_wp2
   go_ret
   exact ⟨by rw [X.out];try rfl,B3.out⟩
  ·go_wp2
   go_ret
   exact ⟨by rw [X.out];try rfl,B3.out⟩
 ·clear x0 x1 x2 x3 x4 x5 y0 y1 y2 y3 y4 y5
  go_wp2
  go_ret
  exact ⟨by rw [X.out];try rfl,B2.out⟩
end Go.Proofs.YtpilmhoakopcaaaGreatDoor
