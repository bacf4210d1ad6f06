/-
  DERIVED. GIVEN WITH THE SEED: THE CARDS: each row of YtklkefmbmagplaaDoorRows.lean that lists a variable, with what it lists TIED to the program's text (the seventh form; the later family's looks); each row that meets fmt, with fmt's text TOLD by the authors' own Lean function (tested against real Go, not proved from fmt's source: count such statements apart). THE CARD IS WHAT COUNTS. Prove the row's statement (the work); the ties are given (YtklkefmbmagplaaDoorTie.lean); close each card by the builder's one call (the guide's Derived/Test/ToyasCard.lean, 'card_holds'). Laid BY PROGRAM, IN A SANDBOX (cutbox-door.mjs). By AI agents, Wed Nov 11 2026. No macro, syntax, notation, axiom, sorry.
-/
import Derived.Test.YtklkefmbmagplaaDoorRows
import GoSem.ClaimSeven
namespace Go.Proofs.YtklkefmbmagplaaDoor
namespace Rows

/-- THE TIED CARD OF 'keelsonlaw2.VersionParses'. -/
def versionParsesCard : Claim7 := { stood := { row := versionParsesRow, standIns := [], harness := (true, "0fd0c1bb82cef6187fb0db38f70c40abe302c8b583dab6b4bc46f25fa43bec63"), looks := true }, kinds := [], alts := [], laidByText := true, laidKinds := [.data, .data, .data, .data, .sentinel, .sentinel, .pinned], laidTests := true, laidLooks := .later }
def VersionParsesCardSaid : Prop := Claim7.holds Tryd.pinned (.plain (OpenSpec.ofChange versionParsesSpec)) versionParsesCard

/-- THE TIED CARD OF 'keelsonlaw2.VersionCompares'. -/
def versionComparesCard : Claim7 := { stood := { row := versionComparesRow, standIns := [], harness := (true, "0fd0c1bb82cef6187fb0db38f70c40abe302c8b583dab6b4bc46f25fa43bec63"), looks := true }, kinds := [], alts := [], laidByText := true, laidKinds := [.data, .data, .data, .data, .sentinel, .sentinel, .pinned], laidTests := true, laidLooks := .later }
def VersionComparesCardSaid : Prop := Claim7.holds Tryd.pinned (.plain (OpenSpec.ofChange versionComparesSpec)) versionComparesCard

/-- THE TIED CARD OF 'keelsonlaw2.VersionBack'. -/
def versionBackCard : Claim7 := { stood := { row := versionBackRow, standIns := [], harness := (true, "0fd0c1bb82cef6187fb0db38f70c40abe302c8b583dab6b4bc46f25fa43bec63"), looks := true }, kinds := [], alts := [], laidByText := true, laidKinds := [.data, .data, .data, .data, .sentinel, .sentinel, .pinned], laidTests := true, laidLooks := .later }
def VersionBackCardSaid : Prop := Claim7.holds Tryd.pinned (.plain (OpenSpec.ofChange versionBackSpec)) versionBackCard

/-- THE TIED CARD OF 'keelsonlaw2.VersionOrders'. -/
def versionOrdersCard : Claim7 := { stood := { row := versionOrdersRow, standIns := [], harness := (true, "0fd0c1bb82cef6187fb0db38f70c40abe302c8b583dab6b4bc46f25fa43bec63"), looks := true }, kinds := [], alts := [], laidByText := true, laidKinds := [.data, .data, .data, .data, .sentinel, .sentinel, .pinned], laidTests := true, laidLooks := .later }
def VersionOrdersCardSaid : Prop := Claim7.holds Tryd.pinned (.plain (OpenSpec.ofChange versionOrdersSpec)) versionOrdersCard

/-- THE TIED CARD OF 'keelsonlaw2.VersionEnds'. -/
def versionEndsCard : Claim7 := { stood := { row := versionEndsRow, standIns := [], harness := (true, "0fd0c1bb82cef6187fb0db38f70c40abe302c8b583dab6b4bc46f25fa43bec63"), looks := true }, kinds := [], alts := [], laidByText := true, laidKinds := [.data, .data, .data, .data, .sentinel, .sentinel, .pinned], laidTests := true, laidLooks := .later }
def VersionEndsCardSaid : Prop := Claim7.holds Tryd.pinned (.plain (OpenSpec.ofChange versionEndsSpec)) versionEndsCard

/-- THE TIED CARD OF 'keelsonlaw2.VersionEpochs'. -/
def versionEpochsCard : Claim7 := { stood := { row := versionEpochsRow, standIns := [], harness := (true, "0fd0c1bb82cef6187fb0db38f70c40abe302c8b583dab6b4bc46f25fa43bec63"), looks := true }, kinds := [], alts := [], laidByText := true, laidKinds := [.data, .data, .data, .data, .sentinel, .sentinel, .pinned], laidTests := true, laidLooks := .later }
def VersionEpochsCardSaid : Prop := Claim7.holds Tryd.pinned (.plain (OpenSpec.ofChange versionEpochsSpec)) versionEpochsCard

/-- THE SECOND FORM's CARD OF 'keelsonlaw2.VersionParses'. -/
def versionParsesUptoCard : Claim7 := { stood := { row := versionParsesUptoRow, standIns := [], harness := (true, "0fd0c1bb82cef6187fb0db38f70c40abe302c8b583dab6b4bc46f25fa43bec63"), looks := true }, kinds := [], alts := [], laidByText := true, laidKinds := [.data, .data, .data, .data, .sentinel, .sentinel, .pinned], laidTests := true, laidLooks := .later }
def VersionParsesUptoCardSaid : Prop := Claim7.holds Tryd.pinned (.plain (OpenSpec.upto versionParsesSpec)) versionParsesUptoCard

/-- THE SECOND FORM's CARD OF 'keelsonlaw2.VersionCompares'. -/
def versionComparesUptoCard : Claim7 := { stood := { row := versionComparesUptoRow, standIns := [], harness := (true, "0fd0c1bb82cef6187fb0db38f70c40abe302c8b583dab6b4bc46f25fa43bec63"), looks := true }, kinds := [], alts := [], laidByText := true, laidKinds := [.data, .data, .data, .data, .sentinel, .sentinel, .pinned], laidTests := true, laidLooks := .later }
def VersionComparesUptoCardSaid : Prop := Claim7.holds Tryd.pinned (.plain (OpenSpec.upto versionComparesSpec)) versionComparesUptoCard

/-- THE SECOND FORM's CARD OF 'keelsonlaw2.VersionBack'. -/
def versionBackUptoCard : Claim7 := { stood := { row := versionBackUptoRow, standIns := [], harness := (true, "0fd0c1bb82cef6187fb0db38f70c40abe302c8b583dab6b4bc46f25fa43bec63"), looks := true }, kinds := [], alts := [], laidByText := true, laidKinds := [.data, .data, .data, .data, .sentinel, .sentinel, .pinned], laidTests := true, laidLooks := .later }
def VersionBackUptoCardSaid : Prop := Claim7.holds Tryd.pinned (.plain (OpenSpec.upto versionBackSpec)) versionBackUptoCard

/-- THE SECOND FORM's CARD OF 'keelsonlaw2.VersionOrders'. -/
def versionOrdersUptoCard : Claim7 := { stood := { row := versionOrdersUptoRow, standIns := [], harness := (true, "0fd0c1bb82cef6187fb0db38f70c40abe302c8b583dab6b4bc46f25fa43bec63"), looks := true }, kinds := [], alts := [], laidByText := true, laidKinds := [.data, .data, .data, .data, .sentinel, .sentinel, .pinned], laidTests := true, laidLooks := .later }
def VersionOrdersUptoCardSaid : Prop := Claim7.holds Tryd.pinned (.plain (OpenSpec.upto versionOrdersSpec)) versionOrdersUptoCard

/-- THE SECOND FORM's CARD OF 'keelsonlaw2.VersionEnds'. -/
def versionEndsUptoCard : Claim7 := { stood := { row := versionEndsUptoRow, standIns := [], harness := (true, "0fd0c1bb82cef6187fb0db38f70c40abe302c8b583dab6b4bc46f25fa43bec63"), looks := true }, kinds := [], alts := [], laidByText := true, laidKinds := [.data, .data, .data, .data, .sentinel, .sentinel, .pinned], laidTests := true, laidLooks := .later }
def VersionEndsUptoCardSaid : Prop := Claim7.holds Tryd.pinned (.plain (OpenSpec.upto versionEndsSpec)) versionEndsUptoCard

/-- THE SECOND FORM's CARD OF 'keelsonlaw2.VersionEpochs'. -/
def versionEpochsUptoCard : Claim7 := { stood := { row := versionEpochsUptoRow, standIns := [], harness := (true, "0fd0c1bb82cef6187fb0db38f70c40abe302c8b583dab6b4bc46f25fa43bec63"), looks := true }, kinds := [], alts := [], laidByText := true, laidKinds := [.data, .data, .data, .data, .sentinel, .sentinel, .pinned], laidTests := true, laidLooks := .later }
def VersionEpochsUptoCardSaid : Prop := Claim7.holds Tryd.pinned (.plain (OpenSpec.upto versionEpochsSpec)) versionEpochsUptoCard
end Rows
end Go.Proofs.YtklkefmbmagplaaDoor
