/- keelsonlaw12.ClauseFollows: called with any arguments that can be read it returns true, and its arguments read as before. Condition: the library variables that the row lists hold what the program text lays in them, which the card ties to that text. -/
import Derived.SevenTiedAt
import Derived.Test.YtgjlgdpbmhdnbaaDoorN12uZC
set_option maxRecDepth 100000
set_option linter.unusedVariables false
set_option linter.unusedSimpArgs false
namespace Go.Proofs.YtgjlgdpbmhdnbaaDoor.clauseFollows
open Go.ChangeShapes Go.WideShapes Go.ChangeAt Go.RowKit
theorem walk (x0:Int) (A1:Option Addr) (n1 c1:Nat) (L1:List (List Int)) (A2:Option Addr) (n2 c2:Nat) (L2:List Int) (w:World) (hx0:(Lit.int .i64 x0).wf=true) (h1:rdIss w (lt_ w.heap.size) L1 [.slice A1 n1 c1]) (k1:∀g ∈ L1,∀x ∈ g,(Lit.int .i64 x).wf=true) (h2:rdInts w (lt_ w.heap.size) L2 [.slice A2 n2 c2]) (k2:∀x ∈ L2,(Lit.int .i64 x).wf=true) (E:Pow w) :
  Calls Tryd.prog 4 #[.int .i64 x0,.slice A1 n1 c1,.slice A2 n2 c2] w fun e w'=>e=.returned (.bool true)∧Below w.heap.size w w':=wfollows12 x0 A1 n1 c1 L1 A2 n2 c2 L2 w h1 h2 E
theorem contract (H:Type) (enc:TypeId × Value→H) (W:World) (base:Nat) (args:Array Value) (ds gs:List (DataW H)) (before:List MemPlace)
  (hval:∀(j:Nat) t v,Tryd.f4.params[j]?=some t→args[j]?=some v→Value.okWide Tryd.prog W .any base t v)
  (hW:DataW.Whole enc Tryd.prog Tryd.f4.params.toList Rows.clauseFollowsSpec.vars false W args.toList ds gs before) (E:Pow W) :
  Calls Tryd.prog 4 args W fun e W'=>∃v,e=.returned v∧Rows.clauseFollowsSpec.post enc Tryd.prog Tryd.f4 false true false false W args v W':=by
 have hW':=hW
 obtain ⟨p,q,hA0,_,_,_,_⟩:=hW
 have hA:DataW.TrodAll enc Tryd.prog W 0 (fun _=>true) true Tryd.f4.params.toList args.toList ds p:=hA0
 rw [Tryd.params4] at hA hval
 obtain ⟨v0,vs0,d0,ds0,p0,q0,hargs,rfl,rfl,h0,r0⟩:=trodAll_cons hA
 obtain ⟨v1,vs1,d1,ds1,p1,q1,rfl,rfl,rfl,h1,r1⟩:=trodAll_cons r0
 obtain ⟨v2,vs2,d2,ds2,p2,q2,rfl,rfl,rfl,h2,r2⟩:=trodAll_cons r1
 obtain ⟨rfl,rfl,rfl⟩:=trodAll_nil r2
 obtain rfl:args=#[v0,v1,v2]:=by cases args;simp_all
 obtain ⟨a0,rfl,_,_,w0⟩:=open_int Tryd.underlying3 (hval 0 3 v0 rfl rfl) h0
 obtain ⟨A1,n1,c1,L1,rfl,hr1,hk1⟩:=open12_iss_arg (hval 1 22 v1 rfl rfl) h1
 obtain ⟨A2,n2,c2,L2,rfl,hr2,hk2⟩:=open12_ints_arg (hval 2 23 v2 rfl rfl) h2
 refine (walk a0 A1 n1 c1 L1 A2 n2 c2 L2 W w0 hr1 hk1 hr2 hk2 E).mono fun e W' ⟨he,hb⟩=>?_
 subst he
 refine ⟨_,rfl,law_post hW' rfl rfl rfl rfl rfl Tryd.underlying4 laid_out ?_ hb⟩
 rw [Tryd.params4]
 intro t ht
 simp at ht
 rcases ht with rfl|rfl|rfl<;>exact ⟨by kernel_rfl,of_decide_eq_true (by kernel_rfl)⟩
theorem reads (os:Os) {H:Type} (enc:TypeId × Value→H):∃x,DataW.whole enc Tryd.prog ((World.laidAll Tryd.prog os laidL).forCall (fun _ _=>0) ⟨#[],#[.int .i64 0,.slice none 0 0,.slice none 0 0],[]⟩).memory Tryd.f4.params.toList Rows.clauseFollowsSpec.vars false ((#[.int .i64 0,.slice none 0 0,.slice none 0 0]:Array Value)).toList 8=some x:=
 Option.isSome_iff_exists.1 (by kernel_rfl)
theorem readsSized (os:Os) {H:Type} (enc:TypeId × Value→H):(OpenSpec.ofChange Rows.clauseFollowsSpec).bare.sizedB enc Tryd.prog Tryd.f4 false ((World.laidAll Tryd.prog os laidL).forCall (fun _ _=>0) ⟨#[],#[.int .i64 0,.slice none 0 0,.slice none 0 0],[]⟩).memory #[.int .i64 0,.slice none 0 0,.slice none 0 0] 8=true:=by kernel_rfl
theorem okWit (os:Os):Input.okWideB Tryd.prog ((World.laidAll Tryd.prog os laidL).forCall (fun _ _=>0) ⟨#[],#[.int .i64 0,.slice none 0 0,.slice none 0 0],[]⟩) 4 ⟨#[],#[.int .i64 0,.slice none 0 0,.slice none 0 0],[]⟩=true:=by kernel_rfl
theorem lifted (os:Os) (started:os.Started) (H:Type) (enc:TypeId × Value→H) (F:Stop.Interp) :
  ReturnsInHanded {} Tryd.checked os 4 .any ((OpenSpec.ofChange Rows.clauseFollowsSpec).preRow enc Tryd.prog Tryd.f4 Rows.clauseFollowsRow.domain false Rows.clauseFollowsRow.laid) (((OpenSpec.ofChange Rows.clauseFollowsSpec).at F).post enc Tryd.prog Tryd.f4 false true false false):=by
 obtain ⟨x,hx⟩:=reads os enc
 have hz:=readsSized os enc
 refine returnsInHanded_of_row (C:=Tryd.checked) (s:=OpenSpec.ofChange Rows.clauseFollowsSpec) own' started (by kernel_rfl) Tryd.func4
  ⟨World.laidAll Tryd.prog os laidL,fun _ _=>0,⟨#[],#[.int .i64 0,.slice none 0 0,.slice none 0 0],[]⟩,door_os os,door_shaped os _,(Input.okWide_of_okWideB (base:=0) (okWit os)).1,(Input.okWide_of_okWideB (okWit os)).2,
   OpenSpec.preRow_of_cond 8 hx rfl (fun k hk=>by cases hk) hz (door_met os _),by
    simp only [Assume.holds]
    exact ⟨by simp,by simp,fun _=>Modest.zero,by simp,by simp⟩⟩ ?_
 intro W base args ds gs before hval hW _ _ _ hL hsh _
 exact contract H enc W base args ds gs before hval hW (pow12_of hL hsh)
theorem said:Rows.ClauseFollowsSaid:=
 OpenClaim.holds_of_cond 4 Tryd.f4 rfl rfl rfl rfl rfl rfl rfl ⟨rfl,rfl,rfl,rfl,rfl⟩ rfl rfl rfl rfl rfl (by kernel_rfl) Tryd.func4 (by kernel_rfl)
  (of_decide_eq_true (by kernel_rfl)) (by unfold Func.isWrapper;first|(rw [if_pos (by decide +kernel)];kernel_rfl)|(rw [if_neg (by decide +kernel)];exact ⟨rfl,rfl⟩))
  (fun os started H enc _ F=>by rw [OpenClaim.pre_eq_preRow];exact lifted os started H enc F)
theorem proved:Rows.ClauseFollowsCardSaid:=
 Claim7.holds_tied_plain_at .later [] _ _ _ _ said (fun _ h=>by cases h) (by kernel_rfl) (fun _ h=>by cases h) clauseFollows_row_tie rfl ⟨rfl,rfl⟩ (by kernel_rfl) rfl
  (fun f fn hf hfn=>by
   obtain rfl:f=4:=Option.some.inj ((show Tryd.prog.funcNamed "keelson/keelsonlaw12.ClauseFollows"=some 4 by kernel_rfl).symm.trans hf)|>.symm
   obtain rfl:fn=Tryd.f4:=(Option.some.inj (Tryd.func4.symm.trans hfn)).symm
   exact ⟨by kernel_rfl,fun j t ht=>by
    rw [Tryd.params4] at ht
    have hm:t ∈ [3,22,23]:=by have:=Array.mem_of_getElem? ht;simp at this;simp [this]
    have hall:([3,22,23].all fun u=>!Tryd.prog.wantsStandIn u)=true:=by kernel_rfl
    exact (show Tryd.prog.wantsStandIn t=false by simpa using List.all_eq_true.1 hall t hm)⟩)
  (by kernel_rfl)
#print axioms proved
end Go.Proofs.YtgjlgdpbmhdnbaaDoor.clauseFollows
