/-
  DERIVED. GIVEN WITH THE SEED: THE CARDS: each row of YtoopkofekekmoaaGreatDoorRows.lean that lists a variable, with what it lists TIED to the program's text (the seventh form; the later family's looks); each row that meets fmt, with fmt's text TOLD by the authors' own Lean function (tested against real Go, not proved from fmt's source: count such statements apart). THE CARD IS WHAT COUNTS. Prove the row's statement (the work); the ties are given (YtoopkofekekmoaaGreatDoorTie.lean); close each card by the builder's one call (the guide's Derived/Test/ToyasCard.lean, 'card_holds'). Laid BY PROGRAM, IN A SANDBOX (cutbox-door.mjs). By AI agents, Wed Nov 11 2026. No macro, syntax, notation, axiom, sorry.
-/
import Derived.Test.YtoopkofekekmoaaGreatDoorRows
import GoSem.ClaimSeven
namespace Go.Proofs.YtoopkofekekmoaaGreatDoor
namespace Rows

/-- THE TIED CARD OF 'keelsonlaw9.UniverseNews'. -/
def universeNewsCard : Claim7 := { stood := { row := universeNewsRow, standIns := [], harness := (true, "f183b42b201642cc20a752e07e7f4bd79b05a159ef4baa1564253dda4d0eb00b"), looks := true }, kinds := [], alts := [], laidByText := true, laidKinds := [.data, .data, .data, .data, .sentinel, .sentinel, .data, .pinned], laidTests := true, laidLooks := .later }
def UniverseNewsCardSaid : Prop := Claim7.holds Tryz.pinned (.plain (OpenSpec.ofChange universeNewsSpec)) universeNewsCard

/-- THE TIED CARD OF 'keelsonlaw9.UniverseFights'. -/
def universeFightsCard : Claim7 := { stood := { row := universeFightsRow, standIns := [], harness := (true, "f183b42b201642cc20a752e07e7f4bd79b05a159ef4baa1564253dda4d0eb00b"), looks := true }, kinds := [], alts := [], laidByText := true, laidKinds := [.data, .data, .data, .data, .sentinel, .sentinel, .data, .pinned], laidTests := true, laidLooks := .later }
def UniverseFightsCardSaid : Prop := Claim7.holds Tryz.pinned (.plain (OpenSpec.ofChange universeFightsSpec)) universeFightsCard

/-- THE TIED CARD OF 'keelsonlaw9.UniversePlaces'. -/
def universePlacesCard : Claim7 := { stood := { row := universePlacesRow, standIns := [], harness := (true, "f183b42b201642cc20a752e07e7f4bd79b05a159ef4baa1564253dda4d0eb00b"), looks := true }, kinds := [], alts := [], laidByText := true, laidKinds := [.data, .data, .data, .data, .sentinel, .sentinel, .data, .pinned], laidTests := true, laidLooks := .later }
def UniversePlacesCardSaid : Prop := Claim7.holds Tryz.pinned (.plain (OpenSpec.ofChange universePlacesSpec)) universePlacesCard

/-- THE TIED CARD OF 'keelsonlaw9.UniverseTwice'. -/
def universeTwiceCard : Claim7 := { stood := { row := universeTwiceRow, standIns := [], harness := (true, "f183b42b201642cc20a752e07e7f4bd79b05a159ef4baa1564253dda4d0eb00b"), looks := true }, kinds := [], alts := [], laidByText := true, laidKinds := [.data, .data, .data, .data, .sentinel, .sentinel, .data, .pinned], laidTests := true, laidLooks := .later }
def UniverseTwiceCardSaid : Prop := Claim7.holds Tryz.pinned (.plain (OpenSpec.ofChange universeTwiceSpec)) universeTwiceCard

/-- THE TIED CARD OF 'keelsonlaw9.UniverseGives'. -/
def universeGivesCard : Claim7 := { stood := { row := universeGivesRow, standIns := [], harness := (true, "f183b42b201642cc20a752e07e7f4bd79b05a159ef4baa1564253dda4d0eb00b"), looks := true }, kinds := [], alts := [], laidByText := true, laidKinds := [.data, .data, .data, .data, .sentinel, .sentinel, .data, .pinned], laidTests := true, laidLooks := .later }
def UniverseGivesCardSaid : Prop := Claim7.holds Tryz.pinned (.plain (OpenSpec.ofChange universeGivesSpec)) universeGivesCard

/-- THE SECOND FORM's CARD OF 'keelsonlaw9.UniverseNews'. -/
def universeNewsUptoCard : Claim7 := { stood := { row := universeNewsUptoRow, standIns := [], harness := (true, "f183b42b201642cc20a752e07e7f4bd79b05a159ef4baa1564253dda4d0eb00b"), looks := true }, kinds := [], alts := [], laidByText := true, laidKinds := [.data, .data, .data, .data, .sentinel, .sentinel, .data, .pinned], laidTests := true, laidLooks := .later }
def UniverseNewsUptoCardSaid : Prop := Claim7.holds Tryz.pinned (.plain (OpenSpec.upto universeNewsSpec)) universeNewsUptoCard

/-- THE SECOND FORM's CARD OF 'keelsonlaw9.UniverseFights'. -/
def universeFightsUptoCard : Claim7 := { stood := { row := universeFightsUptoRow, standIns := [], harness := (true, "f183b42b201642cc20a752e07e7f4bd79b05a159ef4baa1564253dda4d0eb00b"), looks := true }, kinds := [], alts := [], laidByText := true, laidKinds := [.data, .data, .data, .data, .sentinel, .sentinel, .data, .pinned], laidTests := true, laidLooks := .later }
def UniverseFightsUptoCardSaid : Prop := Claim7.holds Tryz.pinned (.plain (OpenSpec.upto universeFightsSpec)) universeFightsUptoCard

/-- THE SECOND FORM's CARD OF 'keelsonlaw9.UniversePlaces'. -/
def universePlacesUptoCard : Claim7 := { stood := { row := universePlacesUptoRow, standIns := [], harness := (true, "f183b42b201642cc20a752e07e7f4bd79b05a159ef4baa1564253dda4d0eb00b"), looks := true }, kinds := [], alts := [], laidByText := true, laidKinds := [.data, .data, .data, .data, .sentinel, .sentinel, .data, .pinned], laidTests := true, laidLooks := .later }
def UniversePlacesUptoCardSaid : Prop := Claim7.holds Tryz.pinned (.plain (OpenSpec.upto universePlacesSpec)) universePlacesUptoCard

/-- THE SECOND FORM's CARD OF 'keelsonlaw9.UniverseTwice'. -/
def universeTwiceUptoCard : Claim7 := { stood := { row := universeTwiceUptoRow, standIns := [], harness := (true, "f183b42b201642cc20a752e07e7f4bd79b05a159ef4baa1564253dda4d0eb00b"), looks := true }, kinds := [], alts := [], laidByText := true, laidKinds := [.data, .data, .data, .data, .sentinel, .sentinel, .data, .pinned], laidTests := true, laidLooks := .later }
def UniverseTwiceUptoCardSaid : Prop := Claim7.holds Tryz.pinned (.plain (OpenSpec.upto universeTwiceSpec)) universeTwiceUptoCard

/-- THE SECOND FORM's CARD OF 'keelsonlaw9.UniverseGives'. -/
def universeGivesUptoCard : Claim7 := { stood := { row := universeGivesUptoRow, standIns := [], harness := (true, "f183b42b201642cc20a752e07e7f4bd79b05a159ef4baa1564253dda4d0eb00b"), looks := true }, kinds := [], alts := [], laidByText := true, laidKinds := [.data, .data, .data, .data, .sentinel, .sentinel, .data, .pinned], laidTests := true, laidLooks := .later }
def UniverseGivesUptoCardSaid : Prop := Claim7.holds Tryz.pinned (.plain (OpenSpec.upto universeGivesSpec)) universeGivesUptoCard
end Rows
end Go.Proofs.YtoopkofekekmoaaGreatDoor
