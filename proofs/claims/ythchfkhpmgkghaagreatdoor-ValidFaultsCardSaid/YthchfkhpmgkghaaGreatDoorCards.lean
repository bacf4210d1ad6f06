/-
  DERIVED. GIVEN WITH THE SEED: THE CARDS: each row of YthchfkhpmgkghaaGreatDoorRows.lean that lists a variable, with what it lists TIED to the program's text (the seventh form; the later family's looks); each row that meets fmt, with fmt's text TOLD by the authors' own Lean function (tested against real Go, not proved from fmt's source: count such statements apart). THE CARD IS WHAT COUNTS. Prove the row's statement (the work); the ties are given (YthchfkhpmgkghaaGreatDoorTie.lean); close each card by the builder's one call (the guide's Derived/Test/ToyasCard.lean, 'card_holds'). Laid BY PROGRAM, IN A SANDBOX (cutbox-door.mjs). By AI agents, Wed Nov 11 2026. No macro, syntax, notation, axiom, sorry.
-/
import Derived.Test.YthchfkhpmgkghaaGreatDoorRows
import GoSem.ClaimSeven
namespace Go.Proofs.YthchfkhpmgkghaaGreatDoor
namespace Rows

/-- THE TIED CARD OF 'keelsonlaw10.ValidFaults'. -/
def validFaultsCard : Claim7 := { stood := { row := validFaultsRow, standIns := [], harness := (true, "0aba5f29ad052e8b8ecab94d2765472098f15eff1bef47de612529025f66ea3c"), looks := true }, kinds := [], alts := [], laidByText := true, laidKinds := [.data, .data, .data, .data, .sentinel, .sentinel, .data, .pinned], laidTests := true, laidLooks := .later }
def ValidFaultsCardSaid : Prop := Claim7.holds Tryz.pinned (.plain (OpenSpec.ofChange validFaultsSpec)) validFaultsCard

/-- THE TIED CARD OF 'keelsonlaw10.ValidMore'. -/
def validMoreCard : Claim7 := { stood := { row := validMoreRow, standIns := [], harness := (true, "0aba5f29ad052e8b8ecab94d2765472098f15eff1bef47de612529025f66ea3c"), looks := true }, kinds := [], alts := [], laidByText := true, laidKinds := [.data, .data, .data, .data, .sentinel, .sentinel, .data, .pinned], laidTests := true, laidLooks := .later }
def ValidMoreCardSaid : Prop := Claim7.holds Tryz.pinned (.plain (OpenSpec.ofChange validMoreSpec)) validMoreCard

/-- THE TIED CARD OF 'keelsonlaw10.ValidMeets'. -/
def validMeetsCard : Claim7 := { stood := { row := validMeetsRow, standIns := [], harness := (true, "0aba5f29ad052e8b8ecab94d2765472098f15eff1bef47de612529025f66ea3c"), looks := true }, kinds := [], alts := [], laidByText := true, laidKinds := [.data, .data, .data, .data, .sentinel, .sentinel, .data, .pinned], laidTests := true, laidLooks := .later }
def ValidMeetsCardSaid : Prop := Claim7.holds Tryz.pinned (.plain (OpenSpec.ofChange validMeetsSpec)) validMeetsCard

/-- THE TIED CARD OF 'keelsonlaw10.ValidCloses'. -/
def validClosesCard : Claim7 := { stood := { row := validClosesRow, standIns := [], harness := (true, "0aba5f29ad052e8b8ecab94d2765472098f15eff1bef47de612529025f66ea3c"), looks := true }, kinds := [], alts := [], laidByText := true, laidKinds := [.data, .data, .data, .data, .sentinel, .sentinel, .data, .pinned], laidTests := true, laidLooks := .later }
def ValidClosesCardSaid : Prop := Claim7.holds Tryz.pinned (.plain (OpenSpec.ofChange validClosesSpec)) validClosesCard

/-- THE TIED CARD OF 'keelsonlaw10.ValidNone'. -/
def validNoneCard : Claim7 := { stood := { row := validNoneRow, standIns := [], harness := (true, "0aba5f29ad052e8b8ecab94d2765472098f15eff1bef47de612529025f66ea3c"), looks := true }, kinds := [], alts := [], laidByText := true, laidKinds := [.data, .data, .data, .data, .sentinel, .sentinel, .data, .pinned], laidTests := true, laidLooks := .later }
def ValidNoneCardSaid : Prop := Claim7.holds Tryz.pinned (.plain (OpenSpec.ofChange validNoneSpec)) validNoneCard

/-- THE TIED CARD OF 'keelsonlaw10.ValidDrops'. -/
def validDropsCard : Claim7 := { stood := { row := validDropsRow, standIns := [], harness := (true, "0aba5f29ad052e8b8ecab94d2765472098f15eff1bef47de612529025f66ea3c"), looks := true }, kinds := [], alts := [], laidByText := true, laidKinds := [.data, .data, .data, .data, .sentinel, .sentinel, .data, .pinned], laidTests := true, laidLooks := .later }
def ValidDropsCardSaid : Prop := Claim7.holds Tryz.pinned (.plain (OpenSpec.ofChange validDropsSpec)) validDropsCard

/-- THE SECOND FORM's CARD OF 'keelsonlaw10.ValidFaults'. -/
def validFaultsUptoCard : Claim7 := { stood := { row := validFaultsUptoRow, standIns := [], harness := (true, "0aba5f29ad052e8b8ecab94d2765472098f15eff1bef47de612529025f66ea3c"), looks := true }, kinds := [], alts := [], laidByText := true, laidKinds := [.data, .data, .data, .data, .sentinel, .sentinel, .data, .pinned], laidTests := true, laidLooks := .later }
def ValidFaultsUptoCardSaid : Prop := Claim7.holds Tryz.pinned (.plain (OpenSpec.upto validFaultsSpec)) validFaultsUptoCard

/-- THE SECOND FORM's CARD OF 'keelsonlaw10.ValidMore'. -/
def validMoreUptoCard : Claim7 := { stood := { row := validMoreUptoRow, standIns := [], harness := (true, "0aba5f29ad052e8b8ecab94d2765472098f15eff1bef47de612529025f66ea3c"), looks := true }, kinds := [], alts := [], laidByText := true, laidKinds := [.data, .data, .data, .data, .sentinel, .sentinel, .data, .pinned], laidTests := true, laidLooks := .later }
def ValidMoreUptoCardSaid : Prop := Claim7.holds Tryz.pinned (.plain (OpenSpec.upto validMoreSpec)) validMoreUptoCard

/-- THE SECOND FORM's CARD OF 'keelsonlaw10.ValidMeets'. -/
def validMeetsUptoCard : Claim7 := { stood := { row := validMeetsUptoRow, standIns := [], harness := (true, "0aba5f29ad052e8b8ecab94d2765472098f15eff1bef47de612529025f66ea3c"), looks := true }, kinds := [], alts := [], laidByText := true, laidKinds := [.data, .data, .data, .data, .sentinel, .sentinel, .data, .pinned], laidTests := true, laidLooks := .later }
def ValidMeetsUptoCardSaid : Prop := Claim7.holds Tryz.pinned (.plain (OpenSpec.upto validMeetsSpec)) validMeetsUptoCard

/-- THE SECOND FORM's CARD OF 'keelsonlaw10.ValidCloses'. -/
def validClosesUptoCard : Claim7 := { stood := { row := validClosesUptoRow, standIns := [], harness := (true, "0aba5f29ad052e8b8ecab94d2765472098f15eff1bef47de612529025f66ea3c"), looks := true }, kinds := [], alts := [], laidByText := true, laidKinds := [.data, .data, .data, .data, .sentinel, .sentinel, .data, .pinned], laidTests := true, laidLooks := .later }
def ValidClosesUptoCardSaid : Prop := Claim7.holds Tryz.pinned (.plain (OpenSpec.upto validClosesSpec)) validClosesUptoCard

/-- THE SECOND FORM's CARD OF 'keelsonlaw10.ValidNone'. -/
def validNoneUptoCard : Claim7 := { stood := { row := validNoneUptoRow, standIns := [], harness := (true, "0aba5f29ad052e8b8ecab94d2765472098f15eff1bef47de612529025f66ea3c"), looks := true }, kinds := [], alts := [], laidByText := true, laidKinds := [.data, .data, .data, .data, .sentinel, .sentinel, .data, .pinned], laidTests := true, laidLooks := .later }
def ValidNoneUptoCardSaid : Prop := Claim7.holds Tryz.pinned (.plain (OpenSpec.upto validNoneSpec)) validNoneUptoCard

/-- THE SECOND FORM's CARD OF 'keelsonlaw10.ValidDrops'. -/
def validDropsUptoCard : Claim7 := { stood := { row := validDropsUptoRow, standIns := [], harness := (true, "0aba5f29ad052e8b8ecab94d2765472098f15eff1bef47de612529025f66ea3c"), looks := true }, kinds := [], alts := [], laidByText := true, laidKinds := [.data, .data, .data, .data, .sentinel, .sentinel, .data, .pinned], laidTests := true, laidLooks := .later }
def ValidDropsUptoCardSaid : Prop := Claim7.holds Tryz.pinned (.plain (OpenSpec.upto validDropsSpec)) validDropsUptoCard
end Rows
end Go.Proofs.YthchfkhpmgkghaaGreatDoor
