/-
  DERIVED. GIVEN WITH THE SEED: THE CARDS: each row of YtlgfmkmpopcciaaDoorRows.lean that lists a variable, with what it lists TIED to the program's text (the seventh form; the later family's looks); each row that meets fmt, with fmt's text TOLD by the authors' own Lean function (tested against real Go, not proved from fmt's source: count such statements apart). THE CARD IS WHAT COUNTS. Prove the row's statement (the work); the ties are given (YtlgfmkmpopcciaaDoorTie.lean); close each card by the builder's one call (the guide's Derived/Test/ToyasCard.lean, 'card_holds'). Laid BY PROGRAM, IN A SANDBOX (cutbox-door.mjs). By AI agents, Wed Nov 11 2026. No macro, syntax, notation, axiom, sorry.
-/
import Derived.Test.YtlgfmkmpopcciaaDoorRows
import GoSem.ClaimSeven
namespace Go.Proofs.YtlgfmkmpopcciaaDoor
namespace Rows

/-- THE TIED CARD OF 'variorumlaw13.SiglaTables'. -/
def siglaTablesCard : Claim7 := { stood := { row := siglaTablesRow, standIns := [], harness := (true, "1cb5a2e1eaffbef06f332eef7ee4c8fe137427534df176c7e16ca6049d13ffc1"), looks := false }, kinds := [], alts := [], laidByText := true, laidKinds := [.data, .pinned], laidTests := true, laidLooks := .later }
def SiglaTablesCardSaid : Prop := Claim7.holds Tryd.pinned (.plain (OpenSpec.ofChange siglaTablesSpec)) siglaTablesCard

/-- THE TIED CARD OF 'variorumlaw13.SiglaLists'. -/
def siglaListsCard : Claim7 := { stood := { row := siglaListsRow, standIns := [], harness := (true, "1cb5a2e1eaffbef06f332eef7ee4c8fe137427534df176c7e16ca6049d13ffc1"), looks := false }, kinds := [], alts := [], laidByText := true, laidKinds := [.data, .pinned], laidTests := true, laidLooks := .later }
def SiglaListsCardSaid : Prop := Claim7.holds Tryd.pinned (.plain (OpenSpec.ofChange siglaListsSpec)) siglaListsCard

/-- THE TIED CARD OF 'variorumlaw13.SiglaBack'. -/
def siglaBackCard : Claim7 := { stood := { row := siglaBackRow, standIns := [], harness := (true, "1cb5a2e1eaffbef06f332eef7ee4c8fe137427534df176c7e16ca6049d13ffc1"), looks := false }, kinds := [], alts := [], laidByText := true, laidKinds := [.data, .pinned], laidTests := true, laidLooks := .later }
def SiglaBackCardSaid : Prop := Claim7.holds Tryd.pinned (.plain (OpenSpec.ofChange siglaBackSpec)) siglaBackCard

/-- THE TIED CARD OF 'variorumlaw13.SiglaKept'. -/
def siglaKeptCard : Claim7 := { stood := { row := siglaKeptRow, standIns := [], harness := (true, "1cb5a2e1eaffbef06f332eef7ee4c8fe137427534df176c7e16ca6049d13ffc1"), looks := false }, kinds := [], alts := [], laidByText := true, laidKinds := [.data, .pinned], laidTests := true, laidLooks := .later }
def SiglaKeptCardSaid : Prop := Claim7.holds Tryd.pinned (.plain (OpenSpec.ofChange siglaKeptSpec)) siglaKeptCard

/-- THE TIED CARD OF 'variorumlaw13.SiglaParts'. -/
def siglaPartsCard : Claim7 := { stood := { row := siglaPartsRow, standIns := [], harness := (true, "1cb5a2e1eaffbef06f332eef7ee4c8fe137427534df176c7e16ca6049d13ffc1"), looks := false }, kinds := [], alts := [], laidByText := true, laidKinds := [.data, .pinned], laidTests := true, laidLooks := .later }
def SiglaPartsCardSaid : Prop := Claim7.holds Tryd.pinned (.plain (OpenSpec.ofChange siglaPartsSpec)) siglaPartsCard

/-- THE TIED CARD OF 'variorumlaw13.SiglaAll'. -/
def siglaAllCard : Claim7 := { stood := { row := siglaAllRow, standIns := [], harness := (true, "1cb5a2e1eaffbef06f332eef7ee4c8fe137427534df176c7e16ca6049d13ffc1"), looks := false }, kinds := [], alts := [], laidByText := true, laidKinds := [.data, .pinned], laidTests := true, laidLooks := .later }
def SiglaAllCardSaid : Prop := Claim7.holds Tryd.pinned (.plain (OpenSpec.ofChange siglaAllSpec)) siglaAllCard

/-- THE SECOND FORM's CARD OF 'variorumlaw13.SiglaTables'. -/
def siglaTablesUptoCard : Claim7 := { stood := { row := siglaTablesUptoRow, standIns := [], harness := (true, "1cb5a2e1eaffbef06f332eef7ee4c8fe137427534df176c7e16ca6049d13ffc1"), looks := false }, kinds := [], alts := [], laidByText := true, laidKinds := [.data, .pinned], laidTests := true, laidLooks := .later }
def SiglaTablesUptoCardSaid : Prop := Claim7.holds Tryd.pinned (.plain (OpenSpec.upto siglaTablesSpec)) siglaTablesUptoCard

/-- THE SECOND FORM's CARD OF 'variorumlaw13.SiglaLists'. -/
def siglaListsUptoCard : Claim7 := { stood := { row := siglaListsUptoRow, standIns := [], harness := (true, "1cb5a2e1eaffbef06f332eef7ee4c8fe137427534df176c7e16ca6049d13ffc1"), looks := false }, kinds := [], alts := [], laidByText := true, laidKinds := [.data, .pinned], laidTests := true, laidLooks := .later }
def SiglaListsUptoCardSaid : Prop := Claim7.holds Tryd.pinned (.plain (OpenSpec.upto siglaListsSpec)) siglaListsUptoCard

/-- THE SECOND FORM's CARD OF 'variorumlaw13.SiglaBack'. -/
def siglaBackUptoCard : Claim7 := { stood := { row := siglaBackUptoRow, standIns := [], harness := (true, "1cb5a2e1eaffbef06f332eef7ee4c8fe137427534df176c7e16ca6049d13ffc1"), looks := false }, kinds := [], alts := [], laidByText := true, laidKinds := [.data, .pinned], laidTests := true, laidLooks := .later }
def SiglaBackUptoCardSaid : Prop := Claim7.holds Tryd.pinned (.plain (OpenSpec.upto siglaBackSpec)) siglaBackUptoCard

/-- THE SECOND FORM's CARD OF 'variorumlaw13.SiglaKept'. -/
def siglaKeptUptoCard : Claim7 := { stood := { row := siglaKeptUptoRow, standIns := [], harness := (true, "1cb5a2e1eaffbef06f332eef7ee4c8fe137427534df176c7e16ca6049d13ffc1"), looks := false }, kinds := [], alts := [], laidByText := true, laidKinds := [.data, .pinned], laidTests := true, laidLooks := .later }
def SiglaKeptUptoCardSaid : Prop := Claim7.holds Tryd.pinned (.plain (OpenSpec.upto siglaKeptSpec)) siglaKeptUptoCard

/-- THE SECOND FORM's CARD OF 'variorumlaw13.SiglaParts'. -/
def siglaPartsUptoCard : Claim7 := { stood := { row := siglaPartsUptoRow, standIns := [], harness := (true, "1cb5a2e1eaffbef06f332eef7ee4c8fe137427534df176c7e16ca6049d13ffc1"), looks := false }, kinds := [], alts := [], laidByText := true, laidKinds := [.data, .pinned], laidTests := true, laidLooks := .later }
def SiglaPartsUptoCardSaid : Prop := Claim7.holds Tryd.pinned (.plain (OpenSpec.upto siglaPartsSpec)) siglaPartsUptoCard

/-- THE SECOND FORM's CARD OF 'variorumlaw13.SiglaAll'. -/
def siglaAllUptoCard : Claim7 := { stood := { row := siglaAllUptoRow, standIns := [], harness := (true, "1cb5a2e1eaffbef06f332eef7ee4c8fe137427534df176c7e16ca6049d13ffc1"), looks := false }, kinds := [], alts := [], laidByText := true, laidKinds := [.data, .pinned], laidTests := true, laidLooks := .later }
def SiglaAllUptoCardSaid : Prop := Claim7.holds Tryd.pinned (.plain (OpenSpec.upto siglaAllSpec)) siglaAllUptoCard
end Rows
end Go.Proofs.YtlgfmkmpopcciaaDoor
