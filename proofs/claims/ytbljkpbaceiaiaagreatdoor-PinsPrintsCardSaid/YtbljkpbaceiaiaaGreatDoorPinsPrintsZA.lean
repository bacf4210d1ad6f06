/- keelsonlaw8.PinsPrints: called with any arguments that can be read it returns true, and its arguments read as before. Condition: the library variables that the row lists hold what the program text lays in them, which the card ties to that text. -/
import Derived.SevenTiedAt
import Derived.Test.YtbljkpbaceiaiaaGreatDoorN8hZA
import Derived.Test.YtbljkpbaceiaiaaGreatDoorQBEZA
set_option maxRecDepth 100000
set_option linter.unusedVariables false
set_option linter.unusedSimpArgs false
namespace Go.Proofs.YtbljkpbaceiaiaaGreatDoor.pinsPrints
open Go.ChangeShapes Go.WideShapes Go.ChangeAt Go.RowKit
theorem walk (x:Pn) (A:Option Addr) (n c:Nat) (l:List Pn) (w:World) (_:PnOk x) (h:rdPns w (lt_ w.heap.size) l [.slice A n c]) (_:∀x ∈ l,PnOk x) (hz:n*40≤140737488351232) (E:Env w) :
  Calls Tryz.prog 4 #[x.val,.slice A n c] w fun e w'=>e=.returned (.bool true)∧Below w.heap.size w w':=prints8 x A n c l w h hz E
theorem contract (H:Type) (enc:TypeId × Value→H) (W:World) (base:Nat) (args:Array Value) (ds gs:List (DataW H)) (before:List MemPlace)
  (hval:∀(j:Nat) t v,Tryz.f4.params[j]?=some t→args[j]?=some v→Value.okWide Tryz.prog W .any base t v)
  (hW:DataW.Whole enc Tryz.prog Tryz.f4.params.toList Rows.pinsPrintsSpec.vars false W args.toList ds gs before) (hz0:(DataW.weightsEach Tryz.prog (Tryz.f4.params.toList++(OpenSpec.ofChange Rows.pinsPrintsSpec).bare.plain.varTypes Tryz.prog) (ds++gs)).all (·≤reachBytes)=true) (E:Env W) :
  Calls Tryz.prog 4 args W fun e W'=>∃v,e=.returned v∧Rows.pinsPrintsSpec.post enc Tryz.prog Tryz.f4 false true false false W args v W':=by
 have hW':=hW
 obtain ⟨p,q,hA0,_,_,_,_⟩:=hW
 have hA:DataW.TrodAll enc Tryz.prog W 0 (fun _=>true) true Tryz.f4.params.toList args.toList ds p:=hA0
 rw [Tryz.params4] at hA hval hz0
 obtain ⟨v0,vs0,d0,ds0,p0,q0,hargs,rfl,rfl,h0,r0⟩:=trodAll_cons hA
 obtain ⟨v1,vs1,d1,ds1,p1,q1,rfl,rfl,rfl,h1,r1⟩:=trodAll_cons r0
 obtain ⟨rfl,rfl,rfl⟩:=trodAll_nil r1
 obtain rfl:args=#[v0,v1]:=by cases args;simp_all
 obtain ⟨x0,rfl,hk0⟩:=open_pin_arg (hval 0 30 v0 rfl rfl) h0
 obtain ⟨A1,n1,c1,L1,rfl,hr1,hk1⟩:=open_pins_arg (hval 1 23 v1 rfl rfl) h1
 refine (walk x0 A1 n1 c1 L1 W hk0 hr1 hk1 (reach_pins h1 hz0 (j:=1) rfl rfl) E).mono fun e W' ⟨he,hb⟩=>?_
 subst he
 refine ⟨_,rfl,law_post hW' rfl rfl rfl rfl rfl Tryz.underlying4 laid_out ?_ hb⟩
 rw [Tryz.params4]
 intro t ht
 simp at ht
 rcases ht with rfl|rfl<;>exact ⟨by kernel_rfl,of_decide_eq_true (by kernel_rfl)⟩
theorem reads (os:Os) {H:Type} (enc:TypeId × Value→H):∃x,DataW.whole enc Tryz.prog ((World.laidAll Tryz.prog os laidL).forCall (fun _ _=>0) ⟨#[],#[.agg #[.string ⟨#[]⟩,.string ⟨#[]⟩,.int .i64 0],.slice none 0 0],[]⟩).memory Tryz.f4.params.toList Rows.pinsPrintsSpec.vars false ((#[.agg #[.string ⟨#[]⟩,.string ⟨#[]⟩,.int .i64 0],.slice none 0 0]:Array Value)).toList 8=some x:=
 Option.isSome_iff_exists.1 (by kernel_rfl)
theorem readsSized (os:Os) {H:Type} (enc:TypeId × Value→H):(OpenSpec.ofChange Rows.pinsPrintsSpec).bare.sizedB enc Tryz.prog Tryz.f4 false ((World.laidAll Tryz.prog os laidL).forCall (fun _ _=>0) ⟨#[],#[.agg #[.string ⟨#[]⟩,.string ⟨#[]⟩,.int .i64 0],.slice none 0 0],[]⟩).memory #[.agg #[.string ⟨#[]⟩,.string ⟨#[]⟩,.int .i64 0],.slice none 0 0] 8=true:=by kernel_rfl
theorem okWit (os:Os):Input.okWideB Tryz.prog ((World.laidAll Tryz.prog os laidL).forCall (fun _ _=>0) ⟨#[],#[.agg #[.string ⟨#[]⟩,.string ⟨#[]⟩,.int .i64 0],.slice none 0 0],[]⟩) 4 ⟨#[],#[.agg #[.string ⟨#[]⟩,.string ⟨#[]⟩,.int .i64 0],.slice none 0 0],[]⟩=true:=by kernel_rfl
theorem lifted (os:Os) (started:os.Started) (H:Type) (enc:TypeId × Value→H) (F:Stop.Interp) :
  ReturnsInHanded {} Tryz.checked os 4 .any ((OpenSpec.ofChange Rows.pinsPrintsSpec).preRow enc Tryz.prog Tryz.f4 Rows.pinsPrintsRow.domain false Rows.pinsPrintsRow.laid) (((OpenSpec.ofChange Rows.pinsPrintsSpec).at F).post enc Tryz.prog Tryz.f4 false true false false):=by
 obtain ⟨x,hx⟩:=reads os enc
 have hz:=readsSized os enc
 refine returnsInHanded_of_row (C:=Tryz.checked) (s:=OpenSpec.ofChange Rows.pinsPrintsSpec) own' started (by kernel_rfl) Tryz.func4
  ⟨World.laidAll Tryz.prog os laidL,fun _ _=>0,⟨#[],#[.agg #[.string ⟨#[]⟩,.string ⟨#[]⟩,.int .i64 0],.slice none 0 0],[]⟩,door_os os,door_shaped os _,(Input.okWide_of_okWideB (base:=0) (okWit os)).1,(Input.okWide_of_okWideB (okWit os)).2,
   OpenSpec.preRow_of_cond 8 hx rfl (fun k hk=>by cases hk) hz (door_met os _),by
    simp only [Assume.holds]
    exact ⟨by simp,by simp,fun _=>Modest.zero,by simp,by simp⟩⟩ ?_
 intro W base args ds gs before hval hW _ _ hz0 hL hsh _
 exact contract H enc W base args ds gs before hval hW hz0 (env8_of hL hsh)
theorem said:Rows.PinsPrintsSaid:=
 OpenClaim.holds_of_cond 4 Tryz.f4 rfl rfl rfl rfl rfl rfl rfl ⟨rfl,rfl,rfl,rfl,rfl⟩ rfl rfl rfl rfl rfl (by kernel_rfl) Tryz.func4 (by kernel_rfl)
  (of_decide_eq_true (by kernel_rfl)) (by unfold Func.isWrapper;first|(rw [if_pos (by decide +kernel)];kernel_rfl)|(rw [if_neg (by decide +kernel)];exact ⟨rfl,rfl⟩))
  (fun os started H enc _ F=>by rw [OpenClaim.pre_eq_preRow];exact lifted os started H enc F)
theorem proved:Rows.PinsPrintsCardSaid:=
 Claim7.holds_tied_plain_at .later [] _ _ _ _ said (fun _ h=>by cases h) (by kernel_rfl) (fun _ h=>by cases h) pinsPrints_row_tie rfl ⟨rfl,rfl⟩ (by kernel_rfl) rfl
  (fun f fn hf hfn=>by
   obtain rfl:f=4:=Option.some.inj ((show Tryz.prog.funcNamed "keelson/keelsonlaw8.PinsPrints"=some 4 by kernel_rfl).symm.trans hf)|>.symm
   obtain rfl:fn=Tryz.f4:=(Option.some.inj (Tryz.func4.symm.trans hfn)).symm
   exact ⟨by kernel_rfl,fun j t ht=>by
    rw [Tryz.params4] at ht
    have hm:t ∈ [30,23]:=by have:=Array.mem_of_getElem? ht;simp at this;simp [this]
    have hall:([30,23].all fun u=>!Tryz.prog.wantsStandIn u)=true:=by kernel_rfl
    exact (show Tryz.prog.wantsStandIn t=false by simpa using List.all_eq_true.1 hall t hm)⟩)
  (by kernel_rfl)
#print axioms proved
end Go.Proofs.YtbljkpbaceiaiaaGreatDoor.pinsPrints
