/-
  DERIVED. GIVEN WITH THE SEED: THE CARDS: each row of YtgjlgdpbmhdnbaaDoorRows.lean that lists a variable, with what it lists TIED to the program's text (the seventh form; the later family's looks); each row that meets fmt, with fmt's text TOLD by the authors' own Lean function (tested against real Go, not proved from fmt's source: count such statements apart). THE CARD IS WHAT COUNTS. Prove the row's statement (the work); the ties are given (YtgjlgdpbmhdnbaaDoorTie.lean); close each card by the builder's one call (the guide's Derived/Test/ToyasCard.lean, 'card_holds'). Laid BY PROGRAM, IN A SANDBOX (cutbox-door.mjs). By AI agents, Wed Nov 11 2026. No macro, syntax, notation, axiom, sorry.
-/
import Derived.Test.YtgjlgdpbmhdnbaaDoorRows
import GoSem.ClaimSeven
namespace Go.Proofs.YtgjlgdpbmhdnbaaDoor
namespace Rows

/-- THE TIED CARD OF 'keelsonlaw12.ClauseUnits'. -/
def clauseUnitsCard : Claim7 := { stood := { row := clauseUnitsRow, standIns := [], harness := (true, "5607a9901257cb7e4e48ae0ec47eb0595c529312d35bf1c58e44dee53080257e"), looks := false }, kinds := [], alts := [], laidByText := true, laidKinds := [.data, .data, .data], laidTests := true, laidLooks := .later }
def ClauseUnitsCardSaid : Prop := Claim7.holds Tryd.pinned (.plain (OpenSpec.ofChange clauseUnitsSpec)) clauseUnitsCard

/-- THE TIED CARD OF 'keelsonlaw12.ClauseFollows'. -/
def clauseFollowsCard : Claim7 := { stood := { row := clauseFollowsRow, standIns := [], harness := (true, "5607a9901257cb7e4e48ae0ec47eb0595c529312d35bf1c58e44dee53080257e"), looks := false }, kinds := [], alts := [], laidByText := true, laidKinds := [.data, .data, .data], laidTests := true, laidLooks := .later }
def ClauseFollowsCardSaid : Prop := Claim7.holds Tryd.pinned (.plain (OpenSpec.ofChange clauseFollowsSpec)) clauseFollowsCard

/-- THE TIED CARD OF 'keelsonlaw12.ClauseOrder'. -/
def clauseOrderCard : Claim7 := { stood := { row := clauseOrderRow, standIns := [], harness := (true, "5607a9901257cb7e4e48ae0ec47eb0595c529312d35bf1c58e44dee53080257e"), looks := false }, kinds := [], alts := [], laidByText := true, laidKinds := [.data, .data, .data], laidTests := true, laidLooks := .later }
def ClauseOrderCardSaid : Prop := Claim7.holds Tryd.pinned (.plain (OpenSpec.ofChange clauseOrderSpec)) clauseOrderCard

/-- THE TIED CARD OF 'keelsonlaw12.ClauseResolves'. -/
def clauseResolvesCard : Claim7 := { stood := { row := clauseResolvesRow, standIns := [], harness := (true, "5607a9901257cb7e4e48ae0ec47eb0595c529312d35bf1c58e44dee53080257e"), looks := false }, kinds := [], alts := [], laidByText := true, laidKinds := [.data, .data, .data], laidTests := true, laidLooks := .later }
def ClauseResolvesCardSaid : Prop := Claim7.holds Tryd.pinned (.plain (OpenSpec.ofChange clauseResolvesSpec)) clauseResolvesCard

/-- THE SECOND FORM's CARD OF 'keelsonlaw12.ClauseUnits'. -/
def clauseUnitsUptoCard : Claim7 := { stood := { row := clauseUnitsUptoRow, standIns := [], harness := (true, "5607a9901257cb7e4e48ae0ec47eb0595c529312d35bf1c58e44dee53080257e"), looks := false }, kinds := [], alts := [], laidByText := true, laidKinds := [.data, .data, .data], laidTests := true, laidLooks := .later }
def ClauseUnitsUptoCardSaid : Prop := Claim7.holds Tryd.pinned (.plain (OpenSpec.upto clauseUnitsSpec)) clauseUnitsUptoCard

/-- THE SECOND FORM's CARD OF 'keelsonlaw12.ClauseFollows'. -/
def clauseFollowsUptoCard : Claim7 := { stood := { row := clauseFollowsUptoRow, standIns := [], harness := (true, "5607a9901257cb7e4e48ae0ec47eb0595c529312d35bf1c58e44dee53080257e"), looks := false }, kinds := [], alts := [], laidByText := true, laidKinds := [.data, .data, .data], laidTests := true, laidLooks := .later }
def ClauseFollowsUptoCardSaid : Prop := Claim7.holds Tryd.pinned (.plain (OpenSpec.upto clauseFollowsSpec)) clauseFollowsUptoCard

/-- THE SECOND FORM's CARD OF 'keelsonlaw12.ClauseOrder'. -/
def clauseOrderUptoCard : Claim7 := { stood := { row := clauseOrderUptoRow, standIns := [], harness := (true, "5607a9901257cb7e4e48ae0ec47eb0595c529312d35bf1c58e44dee53080257e"), looks := false }, kinds := [], alts := [], laidByText := true, laidKinds := [.data, .data, .data], laidTests := true, laidLooks := .later }
def ClauseOrderUptoCardSaid : Prop := Claim7.holds Tryd.pinned (.plain (OpenSpec.upto clauseOrderSpec)) clauseOrderUptoCard

/-- THE SECOND FORM's CARD OF 'keelsonlaw12.ClauseResolves'. -/
def clauseResolvesUptoCard : Claim7 := { stood := { row := clauseResolvesUptoRow, standIns := [], harness := (true, "5607a9901257cb7e4e48ae0ec47eb0595c529312d35bf1c58e44dee53080257e"), looks := false }, kinds := [], alts := [], laidByText := true, laidKinds := [.data, .data, .data], laidTests := true, laidLooks := .later }
def ClauseResolvesUptoCardSaid : Prop := Claim7.holds Tryd.pinned (.plain (OpenSpec.upto clauseResolvesSpec)) clauseResolvesUptoCard
end Rows
end Go.Proofs.YtgjlgdpbmhdnbaaDoor
