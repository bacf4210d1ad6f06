/-
  DERIVED. GIVEN WITH THE SEED: THE CARDS: each row of YtklkefmbmagplaaGreatDoorRows.lean that lists a variable, with what it lists TIED to the program's text (the seventh form; the later family's looks); each row that meets fmt, with fmt's text TOLD by the authors' own Lean function (tested against real Go, not proved from fmt's source: count such statements apart). THE CARD IS WHAT COUNTS. Prove the row's statement (the work); the ties are given (YtklkefmbmagplaaGreatDoorTie.lean); close each card by the builder's one call (the guide's Derived/Test/ToyasCard.lean, 'card_holds'). Laid BY PROGRAM, IN A SANDBOX (cutbox-door.mjs). By AI agents, Wed Nov 11 2026. No macro, syntax, notation, axiom, sorry.
-/
import Derived.Test.YtklkefmbmagplaaGreatDoorRows
import GoSem.ClaimSeven
namespace Go.Proofs.YtklkefmbmagplaaGreatDoor
namespace Rows

/-- THE TIED CARD OF 'keelsonlaw2.VersionNewest'. -/
def versionNewestCard : Claim7 := { stood := { row := versionNewestRow, standIns := [], harness := (true, "d8fdc156b4b3632656b05f339873960db7903388b274b824367aee0ade096653"), looks := true }, kinds := [], alts := [], laidByText := true, laidKinds := [.data, .data, .data, .data, .sentinel, .sentinel, .pinned], laidTests := true, laidLooks := .later }
def VersionNewestCardSaid : Prop := Claim7.holds Tryz.pinned (.plain (OpenSpec.ofChange versionNewestSpec)) versionNewestCard

/-- THE SECOND FORM's CARD OF 'keelsonlaw2.VersionNewest'. -/
def versionNewestUptoCard : Claim7 := { stood := { row := versionNewestUptoRow, standIns := [], harness := (true, "d8fdc156b4b3632656b05f339873960db7903388b274b824367aee0ade096653"), looks := true }, kinds := [], alts := [], laidByText := true, laidKinds := [.data, .data, .data, .data, .sentinel, .sentinel, .pinned], laidTests := true, laidLooks := .later }
def VersionNewestUptoCardSaid : Prop := Claim7.holds Tryz.pinned (.plain (OpenSpec.upto versionNewestSpec)) versionNewestUptoCard
end Rows
end Go.Proofs.YtklkefmbmagplaaGreatDoor
