/- keelsonlaw11.CostNewest: called with any arguments that can be read it returns true, and its arguments read as before. Condition: the library variables that the row lists hold what the program text lays in them, which the card ties to that text. -/
import Derived.SevenTiedAt
import Derived.Test.YtpilmhoakopcaaaGreatDoorN11lZC
set_option maxRecDepth 100000
set_option linter.unusedVariables false
set_option linter.unusedSimpArgs false
namespace Go.Proofs.YtpilmhoakopcaaaGreatDoor.costNewest
open Go.ChangeShapes Go.WideShapes Go.ChangeAt Go.RowKit
theorem walk (A:Option Addr) (n0 c:Nat) (L:List Ent) (A':Option Addr) (n1 c':Nat) (m:List Hr) (Aq:Option Addr) (np cp:Nat) (pn:List Pn) (w:World) (h:rdEnts w (lt_ w.heap.size) L [.slice A n0 c]) (_:∀x ∈ L,EntOk x) (h':rdHrs w (lt_ w.heap.size) m [.slice A' n1 c']) (_:∀x ∈ m,HrOk x) (hpn:rdPns w (lt_ w.heap.size) pn [.slice Aq np cp]) (_:∀x ∈ pn,PnOk x) (E:EnvR w) :
  Calls Tryz.prog 6 #[.slice A n0 c,.slice A' n1 c',.slice Aq np cp] w fun e w'=>e=.returned (.bool true)∧Below w.heap.size w w':=newest11 A n0 c L A' n1 c' m Aq np cp pn w h h' hpn E
theorem contract (H:Type) (enc:TypeId × Value→H) (W:World) (base:Nat) (args:Array Value) (ds gs:List (DataW H)) (before:List MemPlace)
  (hval:∀(j:Nat) t v,Tryz.f6.params[j]?=some t→args[j]?=some v→Value.okWide Tryz.prog W .any base t v)
  (hW:DataW.Whole enc Tryz.prog Tryz.f6.params.toList Rows.costNewestSpec.vars false W args.toList ds gs before) (E:EnvR W) :
  Calls Tryz.prog 6 args W fun e W'=>∃v,e=.returned v∧Rows.costNewestSpec.post enc Tryz.prog Tryz.f6 false true false false W args v W':=by
 have hW':=hW
 obtain ⟨p,q,hA0,_,_,_,_⟩:=hW
 have hA:DataW.TrodAll enc Tryz.prog W 0 (fun _=>true) true Tryz.f6.params.toList args.toList ds p:=hA0
 rw [Tryz.params6] at hA hval
 obtain ⟨v0,vs0,d0,ds0,p0,q0,hargs,rfl,rfl,h0,r0⟩:=trodAll_cons hA
 obtain ⟨v1,vs1,d1,ds1,p1,q1,rfl,rfl,rfl,h1,r1⟩:=trodAll_cons r0
 obtain ⟨v2,vs2,d2,ds2,p2,q2,rfl,rfl,rfl,h2,r2⟩:=trodAll_cons r1
 obtain ⟨rfl,rfl,rfl⟩:=trodAll_nil r2
 obtain rfl:args=#[v0,v1,v2]:=by cases args;simp_all
 obtain ⟨A0,n0,c0,L0,rfl,hr0,hk0⟩:=open_ents_arg (hval 0 22 v0 rfl rfl) h0
 obtain ⟨A1,n1,c1,L1,rfl,hr1,hk1⟩:=open_heres_arg (hval 1 23 v1 rfl rfl) h1
 obtain ⟨A2,n2,c2,L2,rfl,hr2,hk2⟩:=open_pins_arg (hval 2 24 v2 rfl rfl) h2
 refine (walk A0 n0 c0 L0 A1 n1 c1 L1 A2 n2 c2 L2 W hr0 hk0 hr1 hk1 hr2 hk2 E).mono fun e W' ⟨he,hb⟩=>?_
 subst he
 refine ⟨_,rfl,law_post hW' rfl rfl rfl rfl rfl Tryz.underlying4 laid_out ?_ hb⟩
 rw [Tryz.params6]
 intro t ht
 simp at ht
 rcases ht with rfl|rfl|rfl<;>exact ⟨by kernel_rfl,of_decide_eq_true (by kernel_rfl)⟩
theorem reads (os:Os) {H:Type} (enc:TypeId × Value→H):∃x,DataW.whole enc Tryz.prog ((World.laidAll Tryz.prog os laidL).forCall (fun _ _=>0) ⟨#[],#[.slice none 0 0,.slice none 0 0,.slice none 0 0],[]⟩).memory Tryz.f6.params.toList Rows.costNewestSpec.vars false ((#[.slice none 0 0,.slice none 0 0,.slice none 0 0]:Array Value)).toList 8=some x:=
 Option.isSome_iff_exists.1 (by kernel_rfl)
theorem readsSized (os:Os) {H:Type} (enc:TypeId × Value→H):(OpenSpec.ofChange Rows.costNewestSpec).bare.sizedB enc Tryz.prog Tryz.f6 false ((World.laidAll Tryz.prog os laidL).forCall (fun _ _=>0) ⟨#[],#[.slice none 0 0,.slice none 0 0,.slice none 0 0],[]⟩).memory #[.slice none 0 0,.slice none 0 0,.slice none 0 0] 8=true:=by kernel_rfl
theorem okWit (os:Os):Input.okWideB Tryz.prog ((World.laidAll Tryz.prog os laidL).forCall (fun _ _=>0) ⟨#[],#[.slice none 0 0,.slice none 0 0,.slice none 0 0],[]⟩) 6 ⟨#[],#[.slice none 0 0,.slice none 0 0,.slice none 0 0],[]⟩=true:=by kernel_rfl
theorem lifted (os:Os) (started:os.Started) (H:Type) (enc:TypeId × Value→H) (F:Stop.Interp) :
  ReturnsInHanded {} Tryz.checked os 6 .any ((OpenSpec.ofChange Rows.costNewestSpec).preRow enc Tryz.prog Tryz.f6 Rows.costNewestRow.domain false Rows.costNewestRow.laid) (((OpenSpec.ofChange Rows.costNewestSpec).at F).post enc Tryz.prog Tryz.f6 false true false false):=by
 obtain ⟨x,hx⟩:=reads os enc
 have hz:=readsSized os enc
 refine returnsInHanded_of_row (C:=Tryz.checked) (s:=OpenSpec.ofChange Rows.costNewestSpec) own' started (by kernel_rfl) Tryz.func6
  ⟨World.laidAll Tryz.prog os laidL,fun _ _=>0,⟨#[],#[.slice none 0 0,.slice none 0 0,.slice none 0 0],[]⟩,door_os os,door_shaped os _,(Input.okWide_of_okWideB (base:=0) (okWit os)).1,(Input.okWide_of_okWideB (okWit os)).2,
   OpenSpec.preRow_of_cond 8 hx rfl (fun k hk=>by cases hk) hz (door_met os _),by
    simp only [Assume.holds]
    exact ⟨by simp,by simp,fun _=>Modest.zero,by simp,by simp⟩⟩ ?_
 intro W base args ds gs before hval hW _ _ _ hL hsh _
 exact contract H enc W base args ds gs before hval hW (env_of hL hsh)
theorem said:Rows.CostNewestSaid:=
 OpenClaim.holds_of_cond 6 Tryz.f6 rfl rfl rfl rfl rfl rfl rfl ⟨rfl,rfl,rfl,rfl,rfl⟩ rfl rfl rfl rfl rfl (by kernel_rfl) Tryz.func6 (by kernel_rfl)
  (of_decide_eq_true (by kernel_rfl)) (by unfold Func.isWrapper;first|(rw [if_pos (by decide +kernel)];kernel_rfl)|(rw [if_neg (by decide +kernel)];exact ⟨rfl,rfl⟩))
  (fun os started H enc _ F=>by rw [OpenClaim.pre_eq_preRow];exact lifted os started H enc F)
theorem proved:Rows.CostNewestCardSaid:=
 Claim7.holds_tied_plain_at .later [] _ _ _ _ said (fun _ h=>by cases h) (by kernel_rfl) (fun _ h=>by cases h) costNewest_row_tie rfl ⟨rfl,rfl⟩ (by kernel_rfl) rfl
  (fun f fn hf hfn=>by
   obtain rfl:f=6:=Option.some.inj ((show Tryz.prog.funcNamed "keelson/keelsonlaw11.CostNewest"=some 6 by kernel_rfl).symm.trans hf)|>.symm
   obtain rfl:fn=Tryz.f6:=(Option.some.inj (Tryz.func6.symm.trans hfn)).symm
   exact ⟨by kernel_rfl,fun j t ht=>by
    rw [Tryz.params6] at ht
    have hm:t ∈ [22,23,24]:=by have:=Array.mem_of_getElem? ht;simp at this;simp [this]
    have hall:([22,23,24].all fun u=>!Tryz.prog.wantsStandIn u)=true:=by kernel_rfl
    exact (show Tryz.prog.wantsStandIn t=false by simpa using List.all_eq_true.1 hall t hm)⟩)
  (by kernel_rfl)
#print axioms proved
end Go.Proofs.YtpilmhoakopcaaaGreatDoor.costNewest
