/-
  DERIVED. GIVEN WITH THE SEED: THE CARDS: each row of YtpilmhoakopcaaaGreatDoorRows.lean that lists a variable, with what it lists TIED to the program's text (the seventh form; the later family's looks); each row that meets fmt, with fmt's text TOLD by the authors' own Lean function (tested against real Go, not proved from fmt's source: count such statements apart). THE CARD IS WHAT COUNTS. Prove the row's statement (the work); the ties are given (YtpilmhoakopcaaaGreatDoorTie.lean); close each card by the builder's one call (the guide's Derived/Test/ToyasCard.lean, 'card_holds'). Laid BY PROGRAM, IN A SANDBOX (cutbox-door.mjs). By AI agents, Wed Nov 11 2026. No macro, syntax, notation, axiom, sorry.
-/
import Derived.Test.YtpilmhoakopcaaaGreatDoorRows
import GoSem.ClaimSeven
namespace Go.Proofs.YtpilmhoakopcaaaGreatDoor
namespace Rows

/-- THE TIED CARD OF 'keelsonlaw11.CostReckons'. -/
def costReckonsCard : Claim7 := { stood := { row := costReckonsRow, standIns := [], harness := (true, "24d7c21d229b73dd388210a1517e8aa31ac563e0f7739a0d5e420593d744f443"), looks := true }, kinds := [], alts := [], laidByText := true, laidKinds := [.data, .data, .data, .data, .sentinel, .sentinel, .data, .pinned], laidTests := true, laidLooks := .later }
def CostReckonsCardSaid : Prop := Claim7.holds Tryz.pinned (.plain (OpenSpec.ofChange costReckonsSpec)) costReckonsCard

/-- THE TIED CARD OF 'keelsonlaw11.CostSums'. -/
def costSumsCard : Claim7 := { stood := { row := costSumsRow, standIns := [], harness := (true, "24d7c21d229b73dd388210a1517e8aa31ac563e0f7739a0d5e420593d744f443"), looks := true }, kinds := [], alts := [], laidByText := true, laidKinds := [.data, .data, .data, .data, .sentinel, .sentinel, .data, .pinned], laidTests := true, laidLooks := .later }
def CostSumsCardSaid : Prop := Claim7.holds Tryz.pinned (.plain (OpenSpec.ofChange costSumsSpec)) costSumsCard

/-- THE TIED CARD OF 'keelsonlaw11.CostStays'. -/
def costStaysCard : Claim7 := { stood := { row := costStaysRow, standIns := [], harness := (true, "24d7c21d229b73dd388210a1517e8aa31ac563e0f7739a0d5e420593d744f443"), looks := true }, kinds := [], alts := [], laidByText := true, laidKinds := [.data, .data, .data, .data, .sentinel, .sentinel, .data, .pinned], laidTests := true, laidLooks := .later }
def CostStaysCardSaid : Prop := Claim7.holds Tryz.pinned (.plain (OpenSpec.ofChange costStaysSpec)) costStaysCard

/-- THE TIED CARD OF 'keelsonlaw11.CostNewest'. -/
def costNewestCard : Claim7 := { stood := { row := costNewestRow, standIns := [], harness := (true, "24d7c21d229b73dd388210a1517e8aa31ac563e0f7739a0d5e420593d744f443"), looks := true }, kinds := [], alts := [], laidByText := true, laidKinds := [.data, .data, .data, .data, .sentinel, .sentinel, .data, .pinned], laidTests := true, laidLooks := .later }
def CostNewestCardSaid : Prop := Claim7.holds Tryz.pinned (.plain (OpenSpec.ofChange costNewestSpec)) costNewestCard

/-- THE TIED CARD OF 'keelsonlaw11.CostWishes'. -/
def costWishesCard : Claim7 := { stood := { row := costWishesRow, standIns := [], harness := (true, "24d7c21d229b73dd388210a1517e8aa31ac563e0f7739a0d5e420593d744f443"), looks := true }, kinds := [], alts := [], laidByText := true, laidKinds := [.data, .data, .data, .data, .sentinel, .sentinel, .data, .pinned], laidTests := true, laidLooks := .later }
def CostWishesCardSaid : Prop := Claim7.holds Tryz.pinned (.plain (OpenSpec.ofChange costWishesSpec)) costWishesCard

/-- THE SECOND FORM's CARD OF 'keelsonlaw11.CostReckons'. -/
def costReckonsUptoCard : Claim7 := { stood := { row := costReckonsUptoRow, standIns := [], harness := (true, "24d7c21d229b73dd388210a1517e8aa31ac563e0f7739a0d5e420593d744f443"), looks := true }, kinds := [], alts := [], laidByText := true, laidKinds := [.data, .data, .data, .data, .sentinel, .sentinel, .data, .pinned], laidTests := true, laidLooks := .later }
def CostReckonsUptoCardSaid : Prop := Claim7.holds Tryz.pinned (.plain (OpenSpec.upto costReckonsSpec)) costReckonsUptoCard

/-- THE SECOND FORM's CARD OF 'keelsonlaw11.CostSums'. -/
def costSumsUptoCard : Claim7 := { stood := { row := costSumsUptoRow, standIns := [], harness := (true, "24d7c21d229b73dd388210a1517e8aa31ac563e0f7739a0d5e420593d744f443"), looks := true }, kinds := [], alts := [], laidByText := true, laidKinds := [.data, .data, .data, .data, .sentinel, .sentinel, .data, .pinned], laidTests := true, laidLooks := .later }
def CostSumsUptoCardSaid : Prop := Claim7.holds Tryz.pinned (.plain (OpenSpec.upto costSumsSpec)) costSumsUptoCard

/-- THE SECOND FORM's CARD OF 'keelsonlaw11.CostStays'. -/
def costStaysUptoCard : Claim7 := { stood := { row := costStaysUptoRow, standIns := [], harness := (true, "24d7c21d229b73dd388210a1517e8aa31ac563e0f7739a0d5e420593d744f443"), looks := true }, kinds := [], alts := [], laidByText := true, laidKinds := [.data, .data, .data, .data, .sentinel, .sentinel, .data, .pinned], laidTests := true, laidLooks := .later }
def CostStaysUptoCardSaid : Prop := Claim7.holds Tryz.pinned (.plain (OpenSpec.upto costStaysSpec)) costStaysUptoCard

/-- THE SECOND FORM's CARD OF 'keelsonlaw11.CostNewest'. -/
def costNewestUptoCard : Claim7 := { stood := { row := costNewestUptoRow, standIns := [], harness := (true, "24d7c21d229b73dd388210a1517e8aa31ac563e0f7739a0d5e420593d744f443"), looks := true }, kinds := [], alts := [], laidByText := true, laidKinds := [.data, .data, .data, .data, .sentinel, .sentinel, .data, .pinned], laidTests := true, laidLooks := .later }
def CostNewestUptoCardSaid : Prop := Claim7.holds Tryz.pinned (.plain (OpenSpec.upto costNewestSpec)) costNewestUptoCard

/-- THE SECOND FORM's CARD OF 'keelsonlaw11.CostWishes'. -/
def costWishesUptoCard : Claim7 := { stood := { row := costWishesUptoRow, standIns := [], harness := (true, "24d7c21d229b73dd388210a1517e8aa31ac563e0f7739a0d5e420593d744f443"), looks := true }, kinds := [], alts := [], laidByText := true, laidKinds := [.data, .data, .data, .data, .sentinel, .sentinel, .data, .pinned], laidTests := true, laidLooks := .later }
def CostWishesUptoCardSaid : Prop := Claim7.holds Tryz.pinned (.plain (OpenSpec.upto costWishesSpec)) costWishesUptoCard
end Rows
end Go.Proofs.YtpilmhoakopcaaaGreatDoor
