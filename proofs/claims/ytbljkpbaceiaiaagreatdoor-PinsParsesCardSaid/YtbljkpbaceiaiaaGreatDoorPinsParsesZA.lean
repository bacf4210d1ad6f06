/- keelsonlaw8.PinsParses: called with any arguments that can be read it returns true, and its arguments read as before. Condition: the library variables that the row lists hold what the program text lays in them, which the card ties to that text. -/
import Derived.Deep.Slices
import Derived.Deep.Strs
import Derived.SizedLaws
import Derived.SevenTiedAt
import Derived.Test.YtbljkpbaceiaiaaGreatDoorN8gZA
import Derived.Test.YtbljkpbaceiaiaaGreatDoorQBBZA
import Derived.Test.YtbljkpbaceiaiaaGreatDoorQBEZA
set_option maxRecDepth 100000
set_option linter.unusedVariables false
set_option linter.unusedSimpArgs false
namespace Go.Proofs.YtbljkpbaceiaiaaGreatDoor.pinsParses
open Go.ChangeShapes Go.WideShapes Go.ChangeAt Go.RowKit
theorem walk (s:ByteArray) (w:World) (hs:s.size≤maxLen) (E:Env w) :
  Calls Tryz.prog 3 #[.string s] w fun e w'=>e=.returned (.bool true)∧Below w.heap.size w w':=parses8 s w hs E
theorem contract (H:Type) (enc:TypeId × Value→H) (W:World) (base:Nat) (args:Array Value) (ds gs:List (DataW H)) (before:List MemPlace)
  (hval:∀(j:Nat) t v,Tryz.f3.params[j]?=some t→args[j]?=some v→Value.okWide Tryz.prog W .any base t v)
  (hW:DataW.Whole enc Tryz.prog Tryz.f3.params.toList Rows.pinsParsesSpec.vars false W args.toList ds gs before) (E:Env W) :
  Calls Tryz.prog 3 args W fun e W'=>∃v,e=.returned v∧Rows.pinsParsesSpec.post enc Tryz.prog Tryz.f3 false true false false W args v W':=by
 have hW':=hW
 obtain ⟨p,q,hA0,_,_,_,_⟩:=hW
 have hA:DataW.TrodAll enc Tryz.prog W 0 (fun _=>true) true Tryz.f3.params.toList args.toList ds p:=hA0
 rw [Tryz.params3] at hA hval
 obtain ⟨v0,vs0,d0,ds0,p0,q0,hargs,rfl,rfl,h0,r0⟩:=trodAll_cons hA
 obtain ⟨rfl,rfl,rfl⟩:=trodAll_nil r0
 obtain rfl:args=#[v0]:=by cases args;simp_all
 obtain ⟨s0,rfl,w0⟩:=open_str_arg (hval 0 9 v0 rfl rfl) h0
 refine (walk s0 W w0 E).mono fun e W' ⟨he,hb⟩=>?_
 subst he
 refine ⟨_,rfl,law_post hW' rfl rfl rfl rfl rfl Tryz.underlying4 laid_out ?_ hb⟩
 rw [Tryz.params3]
 intro t ht
 simp at ht
 subst ht
 exact ⟨by kernel_rfl,of_decide_eq_true (by kernel_rfl)⟩
theorem reads (os:Os) {H:Type} (enc:TypeId × Value→H):∃x,DataW.whole enc Tryz.prog ((World.laidAll Tryz.prog os laidL).forCall (fun _ _=>0) ⟨#[],#[.string ⟨#[]⟩],[]⟩).memory Tryz.f3.params.toList Rows.pinsParsesSpec.vars false ((#[.string ⟨#[]⟩]:Array Value)).toList 8=some x:=
 Option.isSome_iff_exists.1 (by kernel_rfl)
theorem readsSized (os:Os) {H:Type} (enc:TypeId × Value→H):(OpenSpec.ofChange Rows.pinsParsesSpec).bare.sizedB enc Tryz.prog Tryz.f3 false ((World.laidAll Tryz.prog os laidL).forCall (fun _ _=>0) ⟨#[],#[.string ⟨#[]⟩],[]⟩).memory #[.string ⟨#[]⟩] 8=true:=by kernel_rfl
theorem okWit (os:Os):Input.okWideB Tryz.prog ((World.laidAll Tryz.prog os laidL).forCall (fun _ _=>0) ⟨#[],#[.string ⟨#[]⟩],[]⟩) 3 ⟨#[],#[.string ⟨#[]⟩],[]⟩=true:=by kernel_rfl
theorem lifted (os:Os) (started:os.Started) (H:Type) (enc:TypeId × Value→H) (F:Stop.Interp) :
  ReturnsInHanded {} Tryz.checked os 3 .any ((OpenSpec.ofChange Rows.pinsParsesSpec).preRow enc Tryz.prog Tryz.f3 Rows.pinsParsesRow.domain false Rows.pinsParsesRow.laid) (((OpenSpec.ofChange Rows.pinsParsesSpec).at F).post enc Tryz.prog Tryz.f3 false true false false):=by
 obtain ⟨x,hx⟩:=reads os enc
 have hz:=readsSized os enc
 refine returnsInHanded_of_row (C:=Tryz.checked) (s:=OpenSpec.ofChange Rows.pinsParsesSpec) own' started (by kernel_rfl) Tryz.func3
  ⟨World.laidAll Tryz.prog os laidL,fun _ _=>0,⟨#[],#[.string ⟨#[]⟩],[]⟩,door_os os,door_shaped os _,(Input.okWide_of_okWideB (base:=0) (okWit os)).1,(Input.okWide_of_okWideB (okWit os)).2,
   OpenSpec.preRow_of_cond 8 hx rfl (fun k hk=>by cases hk) hz (door_met os _),by
    simp only [Assume.holds]
    exact ⟨by simp,by simp,fun _=>Modest.zero,by simp,by simp⟩⟩ ?_
 intro W base args ds gs before hval hW _ _ _ hL hsh _
 exact contract H enc W base args ds gs before hval hW (env8_of hL hsh)
theorem said:Rows.PinsParsesSaid:=
 OpenClaim.holds_of_cond 3 Tryz.f3 rfl rfl rfl rfl rfl rfl rfl ⟨rfl,rfl,rfl,rfl,rfl⟩ rfl rfl rfl rfl rfl (by kernel_rfl) Tryz.func3 (by kernel_rfl)
  (of_decide_eq_true (by kernel_rfl)) (by unfold Func.isWrapper;first|(rw [if_pos (by decide +kernel)];kernel_rfl)|(rw [if_neg (by decide +kernel)];exact ⟨rfl,rfl⟩))
  (fun os started H enc _ F=>by rw [OpenClaim.pre_eq_preRow];exact lifted os started H enc F)
theorem proved:Rows.PinsParsesCardSaid:=
 Claim7.holds_tied_plain_at .later [] _ _ _ _ said (fun _ h=>by cases h) (by kernel_rfl) (fun _ h=>by cases h) pinsParses_row_tie rfl ⟨rfl,rfl⟩ (by kernel_rfl) rfl
  (fun f fn hf hfn=>by
   obtain rfl:f=3:=Option.some.inj ((show Tryz.prog.funcNamed "keelson/keelsonlaw8.PinsParses"=some 3 by kernel_rfl).symm.trans hf)|>.symm
   obtain rfl:fn=Tryz.f3:=(Option.some.inj (Tryz.func3.symm.trans hfn)).symm
   exact ⟨by kernel_rfl,fun j t ht=>by
    rw [Tryz.params3] at ht
    have hm:t ∈ [9]:=by have:=Array.mem_of_getElem? ht;simp at this;simp [this]
    have hall:([9].all fun u=>!Tryz.prog.wantsStandIn u)=true:=by kernel_rfl
    exact (show Tryz.prog.wantsStandIn t=false by simpa using List.all_eq_true.1 hall t hm)⟩)
  (by kernel_rfl)
#print axioms proved
end Go.Proofs.YtbljkpbaceiaiaaGreatDoor.pinsParses
