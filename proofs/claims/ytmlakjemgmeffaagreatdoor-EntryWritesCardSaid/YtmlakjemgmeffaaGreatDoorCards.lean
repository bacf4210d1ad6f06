/-
  DERIVED. GIVEN WITH THE SEED: THE CARDS: each row of YtmlakjemgmeffaaGreatDoorRows.lean that lists a variable, with what it lists TIED to the program's text (the seventh form; the later family's looks); each row that meets fmt, with fmt's text TOLD by the authors' own Lean function (tested against real Go, not proved from fmt's source: count such statements apart). THE CARD IS WHAT COUNTS. Prove the row's statement (the work); the ties are given (YtmlakjemgmeffaaGreatDoorTie.lean); close each card by the builder's one call (the guide's Derived/Test/ToyasCard.lean, 'card_holds'). Laid BY PROGRAM, IN A SANDBOX (cutbox-door.mjs). By AI agents, Wed Nov 11 2026. No macro, syntax, notation, axiom, sorry.
-/
import Derived.Test.YtmlakjemgmeffaaGreatDoorRows
import GoSem.ClaimSeven
namespace Go.Proofs.YtmlakjemgmeffaaGreatDoor
namespace Rows

/-- THE TIED CARD OF 'keelsonlaw6.EntryWrites'. -/
def entryWritesCard : Claim7 := { stood := { row := entryWritesRow, standIns := [], harness := (true, "3e2695ed07620fd685e55b7e7fabd4a4fc11fb079117c61d6625e86ca942134f"), looks := true }, kinds := [], alts := [], laidByText := true, laidKinds := [.data, .data, .data, .data, .sentinel, .sentinel, .data, .pinned], laidTests := true, laidLooks := .later }
def EntryWritesCardSaid : Prop := Claim7.holds Tryz.pinned (.plain (OpenSpec.ofChange entryWritesSpec)) entryWritesCard

/-- THE TIED CARD OF 'keelsonlaw6.EntryBack'. -/
def entryBackCard : Claim7 := { stood := { row := entryBackRow, standIns := [], harness := (true, "3e2695ed07620fd685e55b7e7fabd4a4fc11fb079117c61d6625e86ca942134f"), looks := true }, kinds := [], alts := [], laidByText := true, laidKinds := [.data, .data, .data, .data, .sentinel, .sentinel, .data, .pinned], laidTests := true, laidLooks := .later }
def EntryBackCardSaid : Prop := Claim7.holds Tryz.pinned (.plain (OpenSpec.ofChange entryBackSpec)) entryBackCard

/-- THE TIED CARD OF 'keelsonlaw6.EntryLess'. -/
def entryLessCard : Claim7 := { stood := { row := entryLessRow, standIns := [], harness := (true, "3e2695ed07620fd685e55b7e7fabd4a4fc11fb079117c61d6625e86ca942134f"), looks := true }, kinds := [], alts := [], laidByText := true, laidKinds := [.data, .data, .data, .data, .sentinel, .sentinel, .data, .pinned], laidTests := true, laidLooks := .later }
def EntryLessCardSaid : Prop := Claim7.holds Tryz.pinned (.plain (OpenSpec.ofChange entryLessSpec)) entryLessCard

/-- THE TIED CARD OF 'keelsonlaw6.EntryGives'. -/
def entryGivesCard : Claim7 := { stood := { row := entryGivesRow, standIns := [], harness := (true, "3e2695ed07620fd685e55b7e7fabd4a4fc11fb079117c61d6625e86ca942134f"), looks := true }, kinds := [], alts := [], laidByText := true, laidKinds := [.data, .data, .data, .data, .sentinel, .sentinel, .data, .pinned], laidTests := true, laidLooks := .later }
def EntryGivesCardSaid : Prop := Claim7.holds Tryz.pinned (.plain (OpenSpec.ofChange entryGivesSpec)) entryGivesCard

/-- THE SECOND FORM's CARD OF 'keelsonlaw6.EntryWrites'. -/
def entryWritesUptoCard : Claim7 := { stood := { row := entryWritesUptoRow, standIns := [], harness := (true, "3e2695ed07620fd685e55b7e7fabd4a4fc11fb079117c61d6625e86ca942134f"), looks := true }, kinds := [], alts := [], laidByText := true, laidKinds := [.data, .data, .data, .data, .sentinel, .sentinel, .data, .pinned], laidTests := true, laidLooks := .later }
def EntryWritesUptoCardSaid : Prop := Claim7.holds Tryz.pinned (.plain (OpenSpec.upto entryWritesSpec)) entryWritesUptoCard

/-- THE SECOND FORM's CARD OF 'keelsonlaw6.EntryBack'. -/
def entryBackUptoCard : Claim7 := { stood := { row := entryBackUptoRow, standIns := [], harness := (true, "3e2695ed07620fd685e55b7e7fabd4a4fc11fb079117c61d6625e86ca942134f"), looks := true }, kinds := [], alts := [], laidByText := true, laidKinds := [.data, .data, .data, .data, .sentinel, .sentinel, .data, .pinned], laidTests := true, laidLooks := .later }
def EntryBackUptoCardSaid : Prop := Claim7.holds Tryz.pinned (.plain (OpenSpec.upto entryBackSpec)) entryBackUptoCard

/-- THE SECOND FORM's CARD OF 'keelsonlaw6.EntryLess'. -/
def entryLessUptoCard : Claim7 := { stood := { row := entryLessUptoRow, standIns := [], harness := (true, "3e2695ed07620fd685e55b7e7fabd4a4fc11fb079117c61d6625e86ca942134f"), looks := true }, kinds := [], alts := [], laidByText := true, laidKinds := [.data, .data, .data, .data, .sentinel, .sentinel, .data, .pinned], laidTests := true, laidLooks := .later }
def EntryLessUptoCardSaid : Prop := Claim7.holds Tryz.pinned (.plain (OpenSpec.upto entryLessSpec)) entryLessUptoCard

/-- THE SECOND FORM's CARD OF 'keelsonlaw6.EntryGives'. -/
def entryGivesUptoCard : Claim7 := { stood := { row := entryGivesUptoRow, standIns := [], harness := (true, "3e2695ed07620fd685e55b7e7fabd4a4fc11fb079117c61d6625e86ca942134f"), looks := true }, kinds := [], alts := [], laidByText := true, laidKinds := [.data, .data, .data, .data, .sentinel, .sentinel, .data, .pinned], laidTests := true, laidLooks := .later }
def EntryGivesUptoCardSaid : Prop := Claim7.holds Tryz.pinned (.plain (OpenSpec.upto entryGivesSpec)) entryGivesUptoCard
end Rows
end Go.Proofs.YtmlakjemgmeffaaGreatDoor
