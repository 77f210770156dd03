/-
  DERIVED. GIVEN WITH THE SEED: THE CARDS: each row of YtmehldekebphfaaGreatDoorRows.lean that lists a variable, with what it lists TIED to the program's text (the seventh form; the later family's looks); each row that meets fmt, with fmt's text TOLD by the authors' own Lean function (tested against real Go, not proved from fmt's source: count such statements apart). THE CARD IS WHAT COUNTS. Prove the row's statement (the work); the ties are given (YtmehldekebphfaaGreatDoorTie.lean); close each card by the builder's one call (the guide's Derived/Test/ToyasCard.lean, 'card_holds'). Laid BY PROGRAM, IN A SANDBOX (cutbox-door.mjs). By AI agents, Wed Nov 11 2026. No macro, syntax, notation, axiom, sorry.
-/
import Derived.Test.YtmehldekebphfaaGreatDoorRows
import GoSem.ClaimSeven
namespace Go.Proofs.YtmehldekebphfaaGreatDoor
namespace Rows

/-- THE TIED CARD OF 'variorumlaw07.MetricParses'. -/
def metricParsesCard : Claim7 := { stood := { row := metricParsesRow, standIns := [], harness := (true, "733521c432c2e628faa7a7561e00e2c391584fd5d019e5d66d08d4a1e10cd208"), looks := true }, kinds := [], alts := [], laidByText := true, laidKinds := [.data, .data, .data, .data, .sentinel, .sentinel, .sentinel, .data, .sentinel, .pinned], laidTests := true, laidLooks := .later }
def MetricParsesCardSaid : Prop := Claim7.holds Tryz.pinned (.plain (OpenSpec.ofChange metricParsesSpec)) metricParsesCard

/-- THE TIED CARD OF 'variorumlaw07.MetricTells'. -/
def metricTellsCard : Claim7 := { stood := { row := metricTellsRow, standIns := [], harness := (true, "733521c432c2e628faa7a7561e00e2c391584fd5d019e5d66d08d4a1e10cd208"), looks := true }, kinds := [], alts := [], laidByText := true, laidKinds := [.data, .data, .data, .data, .sentinel, .sentinel, .sentinel, .data, .sentinel, .pinned], laidTests := true, laidLooks := .later }
def MetricTellsCardSaid : Prop := Claim7.holds Tryz.pinned (.plain (OpenSpec.ofChange metricTellsSpec)) metricTellsCard

/-- THE TIED CARD OF 'variorumlaw07.MetricBack'. -/
def metricBackCard : Claim7 := { stood := { row := metricBackRow, standIns := [], harness := (true, "733521c432c2e628faa7a7561e00e2c391584fd5d019e5d66d08d4a1e10cd208"), looks := true }, kinds := [], alts := [], laidByText := true, laidKinds := [.data, .data, .data, .data, .sentinel, .sentinel, .sentinel, .data, .sentinel, .pinned], laidTests := true, laidLooks := .later }
def MetricBackCardSaid : Prop := Claim7.holds Tryz.pinned (.plain (OpenSpec.ofChange metricBackSpec)) metricBackCard

/-- THE TIED CARD OF 'variorumlaw07.MetricFaults'. -/
def metricFaultsCard : Claim7 := { stood := { row := metricFaultsRow, standIns := [], harness := (true, "733521c432c2e628faa7a7561e00e2c391584fd5d019e5d66d08d4a1e10cd208"), looks := true }, kinds := [], alts := [], laidByText := true, laidKinds := [.data, .data, .data, .data, .sentinel, .sentinel, .sentinel, .data, .sentinel, .pinned], laidTests := true, laidLooks := .later }
def MetricFaultsCardSaid : Prop := Claim7.holds Tryz.pinned (.plain (OpenSpec.ofChange metricFaultsSpec)) metricFaultsCard

/-- THE TIED CARD OF 'variorumlaw07.MetricHas'. -/
def metricHasCard : Claim7 := { stood := { row := metricHasRow, standIns := [], harness := (true, "733521c432c2e628faa7a7561e00e2c391584fd5d019e5d66d08d4a1e10cd208"), looks := true }, kinds := [], alts := [], laidByText := true, laidKinds := [.data, .data, .data, .data, .sentinel, .sentinel, .sentinel, .data, .sentinel, .pinned], laidTests := true, laidLooks := .later }
def MetricHasCardSaid : Prop := Claim7.holds Tryz.pinned (.plain (OpenSpec.ofChange metricHasSpec)) metricHasCard

/-- THE SECOND FORM's CARD OF 'variorumlaw07.MetricParses'. -/
def metricParsesUptoCard : Claim7 := { stood := { row := metricParsesUptoRow, standIns := [], harness := (true, "733521c432c2e628faa7a7561e00e2c391584fd5d019e5d66d08d4a1e10cd208"), looks := true }, kinds := [], alts := [], laidByText := true, laidKinds := [.data, .data, .data, .data, .sentinel, .sentinel, .sentinel, .data, .sentinel, .pinned], laidTests := true, laidLooks := .later }
def MetricParsesUptoCardSaid : Prop := Claim7.holds Tryz.pinned (.plain (OpenSpec.upto metricParsesSpec)) metricParsesUptoCard

/-- THE SECOND FORM's CARD OF 'variorumlaw07.MetricTells'. -/
def metricTellsUptoCard : Claim7 := { stood := { row := metricTellsUptoRow, standIns := [], harness := (true, "733521c432c2e628faa7a7561e00e2c391584fd5d019e5d66d08d4a1e10cd208"), looks := true }, kinds := [], alts := [], laidByText := true, laidKinds := [.data, .data, .data, .data, .sentinel, .sentinel, .sentinel, .data, .sentinel, .pinned], laidTests := true, laidLooks := .later }
def MetricTellsUptoCardSaid : Prop := Claim7.holds Tryz.pinned (.plain (OpenSpec.upto metricTellsSpec)) metricTellsUptoCard

/-- THE SECOND FORM's CARD OF 'variorumlaw07.MetricBack'. -/
def metricBackUptoCard : Claim7 := { stood := { row := metricBackUptoRow, standIns := [], harness := (true, "733521c432c2e628faa7a7561e00e2c391584fd5d019e5d66d08d4a1e10cd208"), looks := true }, kinds := [], alts := [], laidByText := true, laidKinds := [.data, .data, .data, .data, .sentinel, .sentinel, .sentinel, .data, .sentinel, .pinned], laidTests := true, laidLooks := .later }
def MetricBackUptoCardSaid : Prop := Claim7.holds Tryz.pinned (.plain (OpenSpec.upto metricBackSpec)) metricBackUptoCard

/-- THE SECOND FORM's CARD OF 'variorumlaw07.MetricFaults'. -/
def metricFaultsUptoCard : Claim7 := { stood := { row := metricFaultsUptoRow, standIns := [], harness := (true, "733521c432c2e628faa7a7561e00e2c391584fd5d019e5d66d08d4a1e10cd208"), looks := true }, kinds := [], alts := [], laidByText := true, laidKinds := [.data, .data, .data, .data, .sentinel, .sentinel, .sentinel, .data, .sentinel, .pinned], laidTests := true, laidLooks := .later }
def MetricFaultsUptoCardSaid : Prop := Claim7.holds Tryz.pinned (.plain (OpenSpec.upto metricFaultsSpec)) metricFaultsUptoCard

/-- THE SECOND FORM's CARD OF 'variorumlaw07.MetricHas'. -/
def metricHasUptoCard : Claim7 := { stood := { row := metricHasUptoRow, standIns := [], harness := (true, "733521c432c2e628faa7a7561e00e2c391584fd5d019e5d66d08d4a1e10cd208"), looks := true }, kinds := [], alts := [], laidByText := true, laidKinds := [.data, .data, .data, .data, .sentinel, .sentinel, .sentinel, .data, .sentinel, .pinned], laidTests := true, laidLooks := .later }
def MetricHasUptoCardSaid : Prop := Claim7.holds Tryz.pinned (.plain (OpenSpec.upto metricHasSpec)) metricHasUptoCard
end Rows
end Go.Proofs.YtmehldekebphfaaGreatDoor
