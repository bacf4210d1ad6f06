/- What the laws rest on: E11a. -/
import Derived.Test.YtpilmhoakopcaaaGreatDoorQANZA
set_option maxRecDepth 100000
set_option linter.unusedVariables false
set_option linter.unusedSimpArgs false
namespace Go.Proofs.YtpilmhoakopcaaaGreatDoor
open Go.RowKit
def ofS (U:List Ent) (here:List Int) (pn:List Pn) (up:Bool) (l:List Int):List Int:=[c0S U here l,c1S U pn l,c2S U here pn up l,(wnS U l l:Int),c4S U here l]
theorem stays {U:List Ent} {here:List Int} (hs:SetP U.length here):c0S U here here=0∧(∀pn,c2S U here pn false here=0)∧c4S U here here=0:=by
 have sm:∀p ∈ here,smU U here p=true:=fun p hp=>List.any_eq_true.2 ⟨p,hp,decide_eq_true rfl⟩
 refine ⟨?_,fun pn=>?_,?_⟩
 ·unfold c0S
  rw [show (here.filter fun p=>!smU U here p)=[] from List.filter_eq_nil_iff.2 fun p hp=>by rw [sm p hp];decide]
  rfl
 ·unfold c2S
  rw [if_neg (by decide),show (here.filter fun p=>smU U here p&&!here.contains p)=[] from List.filter_eq_nil_iff.2 fun p hp=>by
   have:here.contains p=true:=by simpa using hp
   rw [this];simp]
  rfl
 ·unfold c4S
  rw [show (here.filter fun p=>decide (inP U here (entA U p).n < 0))=[] from List.filter_eq_nil_iff.2 fun p hp=>by
   have:=(inP_some (U:=U) (here:=here) (n:=(entA U p).n) fun q hq=>(hs.1 q hq).1).1.2 ⟨p,hp,rfl⟩
   simp;omega]
  rfl
theorem none_costs {U:List Ent} {here:List Int} {pn:List Pn}:ofS U here pn false []=[(here.length:Int),0,0,0,0]:=by
 unfold ofS c0S c1S c2S c4S wnS
 rw [if_neg (by decide)]
 have h1:(here.filter fun p=>!smU U [] p)=here:=List.filter_eq_self.2 fun p _=>rfl
 have h2:(here.filter fun p=>smU U [] p&&! ([]:List Int).contains p)=[]:=List.filter_eq_nil_iff.2 fun p _=>by simp [smU]
 rw [h1,h2]
 rfl
end Go.Proofs.YtpilmhoakopcaaaGreatDoor
