/- keelsonlaw8.PinsFirst: called with any arguments that can be read it returns true, and its arguments read as before. Condition: the library variables that the row lists hold what the program text lays in them, which the card ties to that text. -/
import Derived.SevenTiedAt
import Derived.Test.YtbljkpbaceiaiaaGreatDoorN8kZA
import Derived.Test.YtbljkpbaceiaiaaGreatDoorQBBZA
import Derived.Test.YtbljkpbaceiaiaaGreatDoorQBEZA
set_option maxRecDepth 100000
set_option linter.unusedVariables false
set_option linter.unusedSimpArgs false
namespace Go.Proofs.YtbljkpbaceiaiaaGreatDoor.pinsFirst
open Go.ChangeShapes Go.WideShapes Go.ChangeAt Go.RowKit
theorem walk (A:Option Addr) (n c:Nat) (l:List Pn) (nm v:ByteArray) (x:Pn) (w:World) (h:rdPns w (lt_ w.heap.size) l [.slice A n c]) (_:∀x ∈ l,PnOk x) (_:nm.size≤maxLen) (_:v.size≤maxLen) (_:PnOk x) (hz:n*40≤140737488351232) (E:Env w) :
  Calls Tryz.prog 7 #[.slice A n c,.string nm,.string v,x.val] w fun e w'=>e=.returned (.bool true)∧Below w.heap.size w w':=first8 A n c l nm v x w h hz E
theorem contract (H:Type) (enc:TypeId × Value→H) (W:World) (base:Nat) (args:Array Value) (ds gs:List (DataW H)) (before:List MemPlace)
  (hval:∀(j:Nat) t v,Tryz.f7.params[j]?=some t→args[j]?=some v→Value.okWide Tryz.prog W .any base t v)
  (hW:DataW.Whole enc Tryz.prog Tryz.f7.params.toList Rows.pinsFirstSpec.vars false W args.toList ds gs before) (hz0:(DataW.weightsEach Tryz.prog (Tryz.f7.params.toList++(OpenSpec.ofChange Rows.pinsFirstSpec).bare.plain.varTypes Tryz.prog) (ds++gs)).all (·≤reachBytes)=true) (E:Env W) :
  Calls Tryz.prog 7 args W fun e W'=>∃v,e=.returned v∧Rows.pinsFirstSpec.post enc Tryz.prog Tryz.f7 false true false false W args v W':=by
 have hW':=hW
 obtain ⟨p,q,hA0,_,_,_,_⟩:=hW
 have hA:DataW.TrodAll enc Tryz.prog W 0 (fun _=>true) true Tryz.f7.params.toList args.toList ds p:=hA0
 rw [Tryz.params7] at hA hval hz0
 obtain ⟨v0,vs0,d0,ds0,p0,q0,hargs,rfl,rfl,h0,r0⟩:=trodAll_cons hA
 obtain ⟨v1,vs1,d1,ds1,p1,q1,rfl,rfl,rfl,h1,r1⟩:=trodAll_cons r0
 obtain ⟨v2,vs2,d2,ds2,p2,q2,rfl,rfl,rfl,h2,r2⟩:=trodAll_cons r1
 obtain ⟨v3,vs3,d3,ds3,p3,q3,rfl,rfl,rfl,h3,r3⟩:=trodAll_cons r2
 obtain ⟨rfl,rfl,rfl⟩:=trodAll_nil r3
 obtain rfl:args=#[v0,v1,v2,v3]:=by cases args;simp_all
 obtain ⟨A0,n0,c0,L0,rfl,hr0,hk0⟩:=open_pins_arg (hval 0 23 v0 rfl rfl) h0
 obtain ⟨s1,rfl,w1⟩:=open_str_arg (hval 1 9 v1 rfl rfl) h1
 obtain ⟨s2,rfl,w2⟩:=open_str_arg (hval 2 9 v2 rfl rfl) h2
 obtain ⟨x3,rfl,hk3⟩:=open_pin_arg (hval 3 30 v3 rfl rfl) h3
 refine (walk A0 n0 c0 L0 s1 s2 x3 W hr0 hk0 w1 w2 hk3 (reach_pins h0 hz0 (j:=0) rfl rfl) E).mono fun e W' ⟨he,hb⟩=>?_
 subst he
 refine ⟨_,rfl,law_post hW' rfl rfl rfl rfl rfl Tryz.underlying4 laid_out ?_ hb⟩
 rw [Tryz.params7]
 intro t ht
 simp at ht
 rcases ht with rfl|rfl|rfl|rfl<;>exact ⟨by kernel_rfl,of_decide_eq_true (by kernel_rfl)⟩
theorem reads (os:Os) {H:Type} (enc:TypeId × Value→H):∃x,DataW.whole enc Tryz.prog ((World.laidAll Tryz.prog os laidL).forCall (fun _ _=>0) ⟨#[],#[.slice none 0 0,.string ⟨#[]⟩,.string ⟨#[]⟩,.agg #[.string ⟨#[]⟩,.string ⟨#[]⟩,.int .i64 0]],[]⟩).memory Tryz.f7.params.toList Rows.pinsFirstSpec.vars false ((#[.slice none 0 0,.string ⟨#[]⟩,.string ⟨#[]⟩,.agg #[.string ⟨#[]⟩,.string ⟨#[]⟩,.int .i64 0]]:Array Value)).toList 8=some x:=
 Option.isSome_iff_exists.1 (by kernel_rfl)
theorem readsSized (os:Os) {H:Type} (enc:TypeId × Value→H):(OpenSpec.ofChange Rows.pinsFirstSpec).bare.sizedB enc Tryz.prog Tryz.f7 false ((World.laidAll Tryz.prog os laidL).forCall (fun _ _=>0) ⟨#[],#[.slice none 0 0,.string ⟨#[]⟩,.string ⟨#[]⟩,.agg #[.string ⟨#[]⟩,.string ⟨#[]⟩,.int .i64 0]],[]⟩).memory #[.slice none 0 0,.string ⟨#[]⟩,.string ⟨#[]⟩,.agg #[.string ⟨#[]⟩,.string ⟨#[]⟩,.int .i64 0]] 8=true:=by kernel_rfl
theorem okWit (os:Os):Input.okWideB Tryz.prog ((World.laidAll Tryz.prog os laidL).forCall (fun _ _=>0) ⟨#[],#[.slice none 0 0,.string ⟨#[]⟩,.string ⟨#[]⟩,.agg #[.string ⟨#[]⟩,.string ⟨#[]⟩,.int .i64 0]],[]⟩) 7 ⟨#[],#[.slice none 0 0,.string ⟨#[]⟩,.string ⟨#[]⟩,.agg #[.string ⟨#[]⟩,.string ⟨#[]⟩,.int .i64 0]],[]⟩=true:=by kernel_rfl
theorem lifted (os:Os) (started:os.Started) (H:Type) (enc:TypeId × Value→H) (F:Stop.Interp) :
  ReturnsInHanded {} Tryz.checked os 7 .any ((OpenSpec.ofChange Rows.pinsFirstSpec).preRow enc Tryz.prog Tryz.f7 Rows.pinsFirstRow.domain false Rows.pinsFirstRow.laid) (((OpenSpec.ofChange Rows.pinsFirstSpec).at F).post enc Tryz.prog Tryz.f7 false true false false):=by
 obtain ⟨x,hx⟩:=reads os enc
 have hz:=readsSized os enc
 refine returnsInHanded_of_row (C:=Tryz.checked) (s:=OpenSpec.ofChange Rows.pinsFirstSpec) own' started (by kernel_rfl) Tryz.func7
  ⟨World.laidAll Tryz.prog os laidL,fun _ _=>0,⟨#[],#[.slice none 0 0,.string ⟨#[]⟩,.string ⟨#[]⟩,.agg #[.string ⟨#[]⟩,.string ⟨#[]⟩,.int .i64 0]],[]⟩,door_os os,door_shaped os _,(Input.okWide_of_okWideB (base:=0) (okWit os)).1,(Input.okWide_of_okWideB (okWit os)).2,
   OpenSpec.preRow_of_cond 8 hx rfl (fun k hk=>by cases hk) hz (door_met os _),by
    simp only [Assume.holds]
    exact ⟨by simp,by simp,fun _=>Modest.zero,by simp,by simp⟩⟩ ?_
 intro W base args ds gs before hval hW _ _ hz0 hL hsh _
 exact contract H enc W base args ds gs before hval hW hz0 (env8_of hL hsh)
theorem said:Rows.PinsFirstSaid:=
 OpenClaim.holds_of_cond 7 Tryz.f7 rfl rfl rfl rfl rfl rfl rfl ⟨rfl,rfl,rfl,rfl,rfl⟩ rfl rfl rfl rfl rfl (by kernel_rfl) Tryz.func7 (by kernel_rfl)
  (of_decide_eq_true (by kernel_rfl)) (by unfold Func.isWrapper;first|(rw [if_pos (by decide +kernel)];kernel_rfl)|(rw [if_neg (by decide +kernel)];exact ⟨rfl,rfl⟩))
  (fun os started H enc _ F=>by rw [OpenClaim.pre_eq_preRow];exact lifted os started H enc F)
theorem proved:Rows.PinsFirstCardSaid:=
 Claim7.holds_tied_plain_at .later [] _ _ _ _ said (fun _ h=>by cases h) (by kernel_rfl) (fun _ h=>by cases h) pinsFirst_row_tie rfl ⟨rfl,rfl⟩ (by kernel_rfl) rfl
  (fun f fn hf hfn=>by
   obtain rfl:f=7:=Option.some.inj ((show Tryz.prog.funcNamed "keelson/keelsonlaw8.PinsFirst"=some 7 by kernel_rfl).symm.trans hf)|>.symm
   obtain rfl:fn=Tryz.f7:=(Option.some.inj (Tryz.func7.symm.trans hfn)).symm
   exact ⟨by kernel_rfl,fun j t ht=>by
    rw [Tryz.params7] at ht
    have hm:t ∈ [23,9,30]:=by have:=Array.mem_of_getElem? ht;simp at this;simp [this]
    have hall:([23,9,30].all fun u=>!Tryz.prog.wantsStandIn u)=true:=by kernel_rfl
    exact (show Tryz.prog.wantsStandIn t=false by simpa using List.all_eq_true.1 hall t hm)⟩)
  (by kernel_rfl)
#print axioms proved
end Go.Proofs.YtbljkpbaceiaiaaGreatDoor.pinsFirst
