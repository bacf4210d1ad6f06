/-
  DERIVED. GIVEN WITH THE SEED: THE CARDS: each row of YtjfenheplkoajaaDoorRows.lean that lists a variable, with what it lists TIED to the program's text (the seventh form; the later family's looks); each row that meets fmt, with fmt's text TOLD by the authors' own Lean function (tested against real Go, not proved from fmt's source: count such statements apart). THE CARD IS WHAT COUNTS. Prove the row's statement (the work); the ties are given (YtjfenheplkoajaaDoorTie.lean); close each card by the builder's one call (the guide's Derived/Test/ToyasCard.lean, 'card_holds'). Laid BY PROGRAM, IN A SANDBOX (cutbox-door.mjs). By AI agents, Wed Nov 11 2026. No macro, syntax, notation, axiom, sorry.
-/
import Derived.Test.YtjfenheplkoajaaDoorRows
import GoSem.ClaimSeven
namespace Go.Proofs.YtjfenheplkoajaaDoor
namespace Rows

/-- THE TIED CARD OF 'keelsonlaw5.StanzaParses'. -/
def stanzaParsesCard : Claim7 := { stood := { row := stanzaParsesRow, standIns := [], harness := (true, "5042a4d846977d186328796912278c1d33c505b320e30bb93a23b7d663ca1c47"), looks := true }, kinds := [], alts := [], laidByText := true, laidKinds := [.data, .pinned], laidTests := true, laidLooks := .later }
def StanzaParsesCardSaid : Prop := Claim7.holds Tryd.pinned (.plain (OpenSpec.ofChange stanzaParsesSpec)) stanzaParsesCard

/-- THE TIED CARD OF 'keelsonlaw5.StanzaPrints'. -/
def stanzaPrintsCard : Claim7 := { stood := { row := stanzaPrintsRow, standIns := [], harness := (true, "5042a4d846977d186328796912278c1d33c505b320e30bb93a23b7d663ca1c47"), looks := true }, kinds := [], alts := [], laidByText := true, laidKinds := [.data, .pinned], laidTests := true, laidLooks := .later }
def StanzaPrintsCardSaid : Prop := Claim7.holds Tryd.pinned (.plain (OpenSpec.ofChange stanzaPrintsSpec)) stanzaPrintsCard

/-- THE TIED CARD OF 'keelsonlaw5.StanzaFields'. -/
def stanzaFieldsCard : Claim7 := { stood := { row := stanzaFieldsRow, standIns := [], harness := (true, "5042a4d846977d186328796912278c1d33c505b320e30bb93a23b7d663ca1c47"), looks := true }, kinds := [], alts := [], laidByText := true, laidKinds := [.data, .pinned], laidTests := true, laidLooks := .later }
def StanzaFieldsCardSaid : Prop := Claim7.holds Tryd.pinned (.plain (OpenSpec.ofChange stanzaFieldsSpec)) stanzaFieldsCard

/-- THE TIED CARD OF 'keelsonlaw5.StanzaPuts'. -/
def stanzaPutsCard : Claim7 := { stood := { row := stanzaPutsRow, standIns := [], harness := (true, "5042a4d846977d186328796912278c1d33c505b320e30bb93a23b7d663ca1c47"), looks := true }, kinds := [], alts := [], laidByText := true, laidKinds := [.data, .pinned], laidTests := true, laidLooks := .later }
def StanzaPutsCardSaid : Prop := Claim7.holds Tryd.pinned (.plain (OpenSpec.ofChange stanzaPutsSpec)) stanzaPutsCard

/-- THE TIED CARD OF 'keelsonlaw5.StanzaJoins'. -/
def stanzaJoinsCard : Claim7 := { stood := { row := stanzaJoinsRow, standIns := [], harness := (true, "5042a4d846977d186328796912278c1d33c505b320e30bb93a23b7d663ca1c47"), looks := true }, kinds := [], alts := [], laidByText := true, laidKinds := [.data, .pinned], laidTests := true, laidLooks := .later }
def StanzaJoinsCardSaid : Prop := Claim7.holds Tryd.pinned (.plain (OpenSpec.ofChange stanzaJoinsSpec)) stanzaJoinsCard

/-- THE TIED CARD OF 'keelsonlaw5.StanzaOnly'. -/
def stanzaOnlyCard : Claim7 := { stood := { row := stanzaOnlyRow, standIns := [], harness := (true, "5042a4d846977d186328796912278c1d33c505b320e30bb93a23b7d663ca1c47"), looks := true }, kinds := [], alts := [], laidByText := true, laidKinds := [.data, .pinned], laidTests := true, laidLooks := .later }
def StanzaOnlyCardSaid : Prop := Claim7.holds Tryd.pinned (.plain (OpenSpec.ofChange stanzaOnlySpec)) stanzaOnlyCard

/-- THE SECOND FORM's CARD OF 'keelsonlaw5.StanzaParses'. -/
def stanzaParsesUptoCard : Claim7 := { stood := { row := stanzaParsesUptoRow, standIns := [], harness := (true, "5042a4d846977d186328796912278c1d33c505b320e30bb93a23b7d663ca1c47"), looks := true }, kinds := [], alts := [], laidByText := true, laidKinds := [.data, .pinned], laidTests := true, laidLooks := .later }
def StanzaParsesUptoCardSaid : Prop := Claim7.holds Tryd.pinned (.plain (OpenSpec.upto stanzaParsesSpec)) stanzaParsesUptoCard

/-- THE SECOND FORM's CARD OF 'keelsonlaw5.StanzaPrints'. -/
def stanzaPrintsUptoCard : Claim7 := { stood := { row := stanzaPrintsUptoRow, standIns := [], harness := (true, "5042a4d846977d186328796912278c1d33c505b320e30bb93a23b7d663ca1c47"), looks := true }, kinds := [], alts := [], laidByText := true, laidKinds := [.data, .pinned], laidTests := true, laidLooks := .later }
def StanzaPrintsUptoCardSaid : Prop := Claim7.holds Tryd.pinned (.plain (OpenSpec.upto stanzaPrintsSpec)) stanzaPrintsUptoCard

/-- THE SECOND FORM's CARD OF 'keelsonlaw5.StanzaFields'. -/
def stanzaFieldsUptoCard : Claim7 := { stood := { row := stanzaFieldsUptoRow, standIns := [], harness := (true, "5042a4d846977d186328796912278c1d33c505b320e30bb93a23b7d663ca1c47"), looks := true }, kinds := [], alts := [], laidByText := true, laidKinds := [.data, .pinned], laidTests := true, laidLooks := .later }
def StanzaFieldsUptoCardSaid : Prop := Claim7.holds Tryd.pinned (.plain (OpenSpec.upto stanzaFieldsSpec)) stanzaFieldsUptoCard

/-- THE SECOND FORM's CARD OF 'keelsonlaw5.StanzaPuts'. -/
def stanzaPutsUptoCard : Claim7 := { stood := { row := stanzaPutsUptoRow, standIns := [], harness := (true, "5042a4d846977d186328796912278c1d33c505b320e30bb93a23b7d663ca1c47"), looks := true }, kinds := [], alts := [], laidByText := true, laidKinds := [.data, .pinned], laidTests := true, laidLooks := .later }
def StanzaPutsUptoCardSaid : Prop := Claim7.holds Tryd.pinned (.plain (OpenSpec.upto stanzaPutsSpec)) stanzaPutsUptoCard

/-- THE SECOND FORM's CARD OF 'keelsonlaw5.StanzaJoins'. -/
def stanzaJoinsUptoCard : Claim7 := { stood := { row := stanzaJoinsUptoRow, standIns := [], harness := (true, "5042a4d846977d186328796912278c1d33c505b320e30bb93a23b7d663ca1c47"), looks := true }, kinds := [], alts := [], laidByText := true, laidKinds := [.data, .pinned], laidTests := true, laidLooks := .later }
def StanzaJoinsUptoCardSaid : Prop := Claim7.holds Tryd.pinned (.plain (OpenSpec.upto stanzaJoinsSpec)) stanzaJoinsUptoCard

/-- THE SECOND FORM's CARD OF 'keelsonlaw5.StanzaOnly'. -/
def stanzaOnlyUptoCard : Claim7 := { stood := { row := stanzaOnlyUptoRow, standIns := [], harness := (true, "5042a4d846977d186328796912278c1d33c505b320e30bb93a23b7d663ca1c47"), looks := true }, kinds := [], alts := [], laidByText := true, laidKinds := [.data, .pinned], laidTests := true, laidLooks := .later }
def StanzaOnlyUptoCardSaid : Prop := Claim7.holds Tryd.pinned (.plain (OpenSpec.upto stanzaOnlySpec)) stanzaOnlyUptoCard
end Rows
end Go.Proofs.YtjfenheplkoajaaDoor
