/-
  DERIVED. GIVEN WITH THE SEED: THE CARDS: each row of YtbljkpbaceiaiaaGreatDoorRows.lean that lists a variable, with what it lists TIED to the program's text (the seventh form; the later family's looks); each row that meets fmt, with fmt's text TOLD by the authors' own Lean function (tested against real Go, not proved from fmt's source: count such statements apart). THE CARD IS WHAT COUNTS. Prove the row's statement (the work); the ties are given (YtbljkpbaceiaiaaGreatDoorTie.lean); close each card by the builder's one call (the guide's Derived/Test/ToyasCard.lean, 'card_holds'). Laid BY PROGRAM, IN A SANDBOX (cutbox-door.mjs). By AI agents, Wed Nov 11 2026. No macro, syntax, notation, axiom, sorry.
-/
import Derived.Test.YtbljkpbaceiaiaaGreatDoorRows
import GoSem.ClaimSeven
namespace Go.Proofs.YtbljkpbaceiaiaaGreatDoor
namespace Rows

/-- THE TIED CARD OF 'keelsonlaw8.PinsParses'. -/
def pinsParsesCard : Claim7 := { stood := { row := pinsParsesRow, standIns := [], harness := (true, "7a5c205312efa22ce5cad24ba84f08ee59199496209853fb3450a407c1a78e49"), looks := true }, kinds := [], alts := [], laidByText := true, laidKinds := [.data, .data, .data, .data, .sentinel, .sentinel, .pinned], laidTests := true, laidLooks := .later }
def PinsParsesCardSaid : Prop := Claim7.holds Tryz.pinned (.plain (OpenSpec.ofChange pinsParsesSpec)) pinsParsesCard

/-- THE TIED CARD OF 'keelsonlaw8.PinsPrints'. -/
def pinsPrintsCard : Claim7 := { stood := { row := pinsPrintsRow, standIns := [], harness := (true, "7a5c205312efa22ce5cad24ba84f08ee59199496209853fb3450a407c1a78e49"), looks := true }, kinds := [], alts := [], laidByText := true, laidKinds := [.data, .data, .data, .data, .sentinel, .sentinel, .pinned], laidTests := true, laidLooks := .later }
def PinsPrintsCardSaid : Prop := Claim7.holds Tryz.pinned (.plain (OpenSpec.ofChange pinsPrintsSpec)) pinsPrintsCard

/-- THE TIED CARD OF 'keelsonlaw8.PinsReckons'. -/
def pinsReckonsCard : Claim7 := { stood := { row := pinsReckonsRow, standIns := [], harness := (true, "7a5c205312efa22ce5cad24ba84f08ee59199496209853fb3450a407c1a78e49"), looks := true }, kinds := [], alts := [], laidByText := true, laidKinds := [.data, .data, .data, .data, .sentinel, .sentinel, .pinned], laidTests := true, laidLooks := .later }
def PinsReckonsCardSaid : Prop := Claim7.holds Tryz.pinned (.plain (OpenSpec.ofChange pinsReckonsSpec)) pinsReckonsCard

/-- THE TIED CARD OF 'keelsonlaw8.PinsBack'. -/
def pinsBackCard : Claim7 := { stood := { row := pinsBackRow, standIns := [], harness := (true, "7a5c205312efa22ce5cad24ba84f08ee59199496209853fb3450a407c1a78e49"), looks := true }, kinds := [], alts := [], laidByText := true, laidKinds := [.data, .data, .data, .data, .sentinel, .sentinel, .pinned], laidTests := true, laidLooks := .later }
def PinsBackCardSaid : Prop := Claim7.holds Tryz.pinned (.plain (OpenSpec.ofChange pinsBackSpec)) pinsBackCard

/-- THE TIED CARD OF 'keelsonlaw8.PinsFirst'. -/
def pinsFirstCard : Claim7 := { stood := { row := pinsFirstRow, standIns := [], harness := (true, "7a5c205312efa22ce5cad24ba84f08ee59199496209853fb3450a407c1a78e49"), looks := true }, kinds := [], alts := [], laidByText := true, laidKinds := [.data, .data, .data, .data, .sentinel, .sentinel, .pinned], laidTests := true, laidLooks := .later }
def PinsFirstCardSaid : Prop := Claim7.holds Tryz.pinned (.plain (OpenSpec.ofChange pinsFirstSpec)) pinsFirstCard

/-- THE TIED CARD OF 'keelsonlaw8.PinsLosses'. -/
def pinsLossesCard : Claim7 := { stood := { row := pinsLossesRow, standIns := [], harness := (true, "7a5c205312efa22ce5cad24ba84f08ee59199496209853fb3450a407c1a78e49"), looks := true }, kinds := [], alts := [], laidByText := true, laidKinds := [.data, .data, .data, .data, .sentinel, .sentinel, .pinned], laidTests := true, laidLooks := .later }
def PinsLossesCardSaid : Prop := Claim7.holds Tryz.pinned (.plain (OpenSpec.ofChange pinsLossesSpec)) pinsLossesCard

/-- THE SECOND FORM's CARD OF 'keelsonlaw8.PinsParses'. -/
def pinsParsesUptoCard : Claim7 := { stood := { row := pinsParsesUptoRow, standIns := [], harness := (true, "7a5c205312efa22ce5cad24ba84f08ee59199496209853fb3450a407c1a78e49"), looks := true }, kinds := [], alts := [], laidByText := true, laidKinds := [.data, .data, .data, .data, .sentinel, .sentinel, .pinned], laidTests := true, laidLooks := .later }
def PinsParsesUptoCardSaid : Prop := Claim7.holds Tryz.pinned (.plain (OpenSpec.upto pinsParsesSpec)) pinsParsesUptoCard

/-- THE SECOND FORM's CARD OF 'keelsonlaw8.PinsPrints'. -/
def pinsPrintsUptoCard : Claim7 := { stood := { row := pinsPrintsUptoRow, standIns := [], harness := (true, "7a5c205312efa22ce5cad24ba84f08ee59199496209853fb3450a407c1a78e49"), looks := true }, kinds := [], alts := [], laidByText := true, laidKinds := [.data, .data, .data, .data, .sentinel, .sentinel, .pinned], laidTests := true, laidLooks := .later }
def PinsPrintsUptoCardSaid : Prop := Claim7.holds Tryz.pinned (.plain (OpenSpec.upto pinsPrintsSpec)) pinsPrintsUptoCard

/-- THE SECOND FORM's CARD OF 'keelsonlaw8.PinsReckons'. -/
def pinsReckonsUptoCard : Claim7 := { stood := { row := pinsReckonsUptoRow, standIns := [], harness := (true, "7a5c205312efa22ce5cad24ba84f08ee59199496209853fb3450a407c1a78e49"), looks := true }, kinds := [], alts := [], laidByText := true, laidKinds := [.data, .data, .data, .data, .sentinel, .sentinel, .pinned], laidTests := true, laidLooks := .later }
def PinsReckonsUptoCardSaid : Prop := Claim7.holds Tryz.pinned (.plain (OpenSpec.upto pinsReckonsSpec)) pinsReckonsUptoCard

/-- THE SECOND FORM's CARD OF 'keelsonlaw8.PinsBack'. -/
def pinsBackUptoCard : Claim7 := { stood := { row := pinsBackUptoRow, standIns := [], harness := (true, "7a5c205312efa22ce5cad24ba84f08ee59199496209853fb3450a407c1a78e49"), looks := true }, kinds := [], alts := [], laidByText := true, laidKinds := [.data, .data, .data, .data, .sentinel, .sentinel, .pinned], laidTests := true, laidLooks := .later }
def PinsBackUptoCardSaid : Prop := Claim7.holds Tryz.pinned (.plain (OpenSpec.upto pinsBackSpec)) pinsBackUptoCard

/-- THE SECOND FORM's CARD OF 'keelsonlaw8.PinsFirst'. -/
def pinsFirstUptoCard : Claim7 := { stood := { row := pinsFirstUptoRow, standIns := [], harness := (true, "7a5c205312efa22ce5cad24ba84f08ee59199496209853fb3450a407c1a78e49"), looks := true }, kinds := [], alts := [], laidByText := true, laidKinds := [.data, .data, .data, .data, .sentinel, .sentinel, .pinned], laidTests := true, laidLooks := .later }
def PinsFirstUptoCardSaid : Prop := Claim7.holds Tryz.pinned (.plain (OpenSpec.upto pinsFirstSpec)) pinsFirstUptoCard

/-- THE SECOND FORM's CARD OF 'keelsonlaw8.PinsLosses'. -/
def pinsLossesUptoCard : Claim7 := { stood := { row := pinsLossesUptoRow, standIns := [], harness := (true, "7a5c205312efa22ce5cad24ba84f08ee59199496209853fb3450a407c1a78e49"), looks := true }, kinds := [], alts := [], laidByText := true, laidKinds := [.data, .data, .data, .data, .sentinel, .sentinel, .pinned], laidTests := true, laidLooks := .later }
def PinsLossesUptoCardSaid : Prop := Claim7.holds Tryz.pinned (.plain (OpenSpec.upto pinsLossesSpec)) pinsLossesUptoCard
end Rows
end Go.Proofs.YtbljkpbaceiaiaaGreatDoor
