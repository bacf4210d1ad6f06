/-
  DERIVED. GIVEN WITH THE SEED: THE CARDS: each row of YtlelajcnfmmmjaaGreatDoorRows.lean that lists a variable, with what it lists TIED to the program's text (the seventh form; the later family's looks); each row that meets fmt, with fmt's text TOLD by the authors' own Lean function (tested against real Go, not proved from fmt's source: count such statements apart). THE CARD IS WHAT COUNTS. Prove the row's statement (the work); the ties are given (YtlelajcnfmmmjaaGreatDoorTie.lean); close each card by the builder's one call (the guide's Derived/Test/ToyasCard.lean, 'card_holds'). Laid BY PROGRAM, IN A SANDBOX (cutbox-door.mjs). By AI agents, Wed Nov 11 2026. No macro, syntax, notation, axiom, sorry.
-/
import Derived.Test.YtlelajcnfmmmjaaGreatDoorRows
import GoSem.ClaimSeven
namespace Go.Proofs.YtlelajcnfmmmjaaGreatDoor
namespace Rows

/-- THE TIED CARD OF 'keelsonlaw3.RelationNames'. -/
def relationNamesCard : Claim7 := { stood := { row := relationNamesRow, standIns := [], harness := (true, "1619e729197826763de6896a6bcf1d4ae2d69a1665f50c5151224c9d470a5441"), looks := true }, kinds := [], alts := [], laidByText := true, laidKinds := [.data, .data, .data, .data, .sentinel, .sentinel, .data, .pinned], laidTests := true, laidLooks := .later }
def RelationNamesCardSaid : Prop := Claim7.holds Tryz.pinned (.plain (OpenSpec.ofChange relationNamesSpec)) relationNamesCard

/-- THE TIED CARD OF 'keelsonlaw3.RelationParses'. -/
def relationParsesCard : Claim7 := { stood := { row := relationParsesRow, standIns := [], harness := (true, "1619e729197826763de6896a6bcf1d4ae2d69a1665f50c5151224c9d470a5441"), looks := true }, kinds := [], alts := [], laidByText := true, laidKinds := [.data, .data, .data, .data, .sentinel, .sentinel, .data, .pinned], laidTests := true, laidLooks := .later }
def RelationParsesCardSaid : Prop := Claim7.holds Tryz.pinned (.plain (OpenSpec.ofChange relationParsesSpec)) relationParsesCard

/-- THE SECOND FORM's CARD OF 'keelsonlaw3.RelationNames'. -/
def relationNamesUptoCard : Claim7 := { stood := { row := relationNamesUptoRow, standIns := [], harness := (true, "1619e729197826763de6896a6bcf1d4ae2d69a1665f50c5151224c9d470a5441"), looks := true }, kinds := [], alts := [], laidByText := true, laidKinds := [.data, .data, .data, .data, .sentinel, .sentinel, .data, .pinned], laidTests := true, laidLooks := .later }
def RelationNamesUptoCardSaid : Prop := Claim7.holds Tryz.pinned (.plain (OpenSpec.upto relationNamesSpec)) relationNamesUptoCard

/-- THE SECOND FORM's CARD OF 'keelsonlaw3.RelationParses'. -/
def relationParsesUptoCard : Claim7 := { stood := { row := relationParsesUptoRow, standIns := [], harness := (true, "1619e729197826763de6896a6bcf1d4ae2d69a1665f50c5151224c9d470a5441"), looks := true }, kinds := [], alts := [], laidByText := true, laidKinds := [.data, .data, .data, .data, .sentinel, .sentinel, .data, .pinned], laidTests := true, laidLooks := .later }
def RelationParsesUptoCardSaid : Prop := Claim7.holds Tryz.pinned (.plain (OpenSpec.upto relationParsesSpec)) relationParsesUptoCard
end Rows
end Go.Proofs.YtlelajcnfmmmjaaGreatDoor
