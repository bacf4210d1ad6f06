/-
  DERIVED. GIVEN WITH THE SEED: THE CARDS: each row of YtfpbeenaploaiaaGreatDoorRows.lean that lists a variable, with what it lists TIED to the program's text (the seventh form; the later family's looks); each row that meets fmt, with fmt's text TOLD by the authors' own Lean function (tested against real Go, not proved from fmt's source: count such statements apart). THE CARD IS WHAT COUNTS. Prove the row's statement (the work); the ties are given (YtfpbeenaploaiaaGreatDoorTie.lean); close each card by the builder's one call (the guide's Derived/Test/ToyasCard.lean, 'card_holds'). Laid BY PROGRAM, IN A SANDBOX (cutbox-door.mjs). By AI agents, Wed Nov 11 2026. No macro, syntax, notation, axiom, sorry.
-/
import Derived.Test.YtfpbeenaploaiaaGreatDoorRows
import GoSem.ClaimSeven
namespace Go.Proofs.YtfpbeenaploaiaaGreatDoor
namespace Rows

/-- THE TIED CARD OF 'keelsonlaw4.DependsMore'. -/
def dependsMoreCard : Claim7 := { stood := { row := dependsMoreRow, standIns := [], harness := (true, "44a522097332359f465dba945be091e585e85059953cf20334f3204e320e0812"), looks := true }, kinds := [], alts := [], laidByText := true, laidKinds := [.data, .data, .data, .data, .sentinel, .sentinel, .data, .pinned], laidTests := true, laidLooks := .later }
def DependsMoreCardSaid : Prop := Claim7.holds Tryz.pinned (.plain (OpenSpec.ofChange dependsMoreSpec)) dependsMoreCard

/-- THE SECOND FORM's CARD OF 'keelsonlaw4.DependsMore'. -/
def dependsMoreUptoCard : Claim7 := { stood := { row := dependsMoreUptoRow, standIns := [], harness := (true, "44a522097332359f465dba945be091e585e85059953cf20334f3204e320e0812"), looks := true }, kinds := [], alts := [], laidByText := true, laidKinds := [.data, .data, .data, .data, .sentinel, .sentinel, .data, .pinned], laidTests := true, laidLooks := .later }
def DependsMoreUptoCardSaid : Prop := Claim7.holds Tryz.pinned (.plain (OpenSpec.upto dependsMoreSpec)) dependsMoreUptoCard
end Rows
end Go.Proofs.YtfpbeenaploaiaaGreatDoor
