/- What the laws rest on: E10b. -/
import Derived.Test.YtpilmhoakopcaaaGreatDoorQAGZA
set_option maxRecDepth 100000
set_option linter.unusedVariables false
set_option linter.unusedSimpArgs false
namespace Go.Proofs.YtpilmhoakopcaaaGreatDoor
open Go.RowKit
theorem givS_up {U:List Ent} {s t:List Int} {a:Atm} (h:∀p ∈ s,p ∈ t) (k:givS U s a=true):givS U t a=true:=by
 unfold givS at *
 obtain ⟨p,hp,e⟩:=List.any_eq_true.1 k
 exact List.any_eq_true.2 ⟨p,h p hp,e⟩
theorem metS_up {U:List Ent} {s t:List Int} {g:List Atm} (h:∀p ∈ s,p ∈ t) (k:metS U s g=true):metS U t g=true:=by
 unfold metS at *
 obtain ⟨a,ha,e⟩:=List.any_eq_true.1 k
 exact List.any_eq_true.2 ⟨a,ha,givS_up h e⟩
theorem setL_mem {l:List Int} {n:Nat} {p:Int}:p ∈ setL l n↔p ∈ l∧0≤p∧p < (n:Int):=by
 unfold setL
 rw [List.mem_map]
 constructor
 ·rintro ⟨i,hi,rfl⟩
  obtain ⟨h1,h2⟩:=List.mem_filter.1 hi
  rw [List.mem_range] at h1
  exact ⟨by simpa using h2,by omega,by omega⟩
 ·rintro ⟨h1,h2,h3⟩
  obtain ⟨j,rfl⟩:=Int.eq_ofNat_of_zero_le h2
  exact ⟨j,List.mem_filter.2 ⟨List.mem_range.2 (by omega),by simpa using h1⟩,rfl⟩
theorem setL_set (l:List Int) (n:Nat):SetP n (setL l n):=by
 refine ⟨fun p hp=>(setL_mem.1 hp).2,?_⟩
 unfold setL
 rw [List.pairwise_map]
 exact (List.Pairwise.filter _ List.pairwise_lt_range).imp fun h=>by omega
end Go.Proofs.YtpilmhoakopcaaaGreatDoor
