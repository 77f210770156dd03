/-
  DERIVED. GIVEN WITH THE SEED: THE CARDS: each row of YtfjplhgajoehfaaGreatDoorRows.lean that lists a variable, with what it lists TIED to the program's text (the seventh form; the later family's looks); each row that meets fmt, with fmt's text TOLD by the authors' own Lean function (tested against real Go, not proved from fmt's source: count such statements apart). THE CARD IS WHAT COUNTS. Prove the row's statement (the work); the ties are given (YtfjplhgajoehfaaGreatDoorTie.lean); close each card by the builder's one call (the guide's Derived/Test/ToyasCard.lean, 'card_holds'). Laid BY PROGRAM, IN A SANDBOX (cutbox-door.mjs). By AI agents, Wed Nov 11 2026. No macro, syntax, notation, axiom, sorry.
-/
import Derived.Test.YtfjplhgajoehfaaGreatDoorRows
import GoSem.ClaimSeven
namespace Go.Proofs.YtfjplhgajoehfaaGreatDoor
namespace Rows

/-- THE TIED CARD OF 'variorumlaw14.ElabMakes'. -/
def elabMakesCard : Claim7 := { stood := { row := elabMakesRow, standIns := [], harness := (true, "43397aab1e5aecf45ef0a655880356814bd880773b76c5a5da837c69803e5658"), looks := true }, kinds := [], alts := [], laidByText := true, laidKinds := [.data, .data, .data, .handle, .sentinel, .sentinel, .data], laidTests := true, laidLooks := .later }
def ElabMakesCardSaid : Prop := Claim7.holds Tryz.pinned (.plain (OpenSpec.ofChange elabMakesSpec)) elabMakesCard

/-- THE TIED CARD OF 'variorumlaw14.ElabLemmas'. -/
def elabLemmasCard : Claim7 := { stood := { row := elabLemmasRow, standIns := [], harness := (true, "43397aab1e5aecf45ef0a655880356814bd880773b76c5a5da837c69803e5658"), looks := true }, kinds := [], alts := [], laidByText := true, laidKinds := [.data, .data, .data, .handle, .sentinel, .sentinel, .data], laidTests := true, laidLooks := .later }
def ElabLemmasCardSaid : Prop := Claim7.holds Tryz.pinned (.plain (OpenSpec.ofChange elabLemmasSpec)) elabLemmasCard

/-- THE TIED CARD OF 'variorumlaw14.ElabWords'. -/
def elabWordsCard : Claim7 := { stood := { row := elabWordsRow, standIns := [], harness := (true, "43397aab1e5aecf45ef0a655880356814bd880773b76c5a5da837c69803e5658"), looks := true }, kinds := [], alts := [], laidByText := true, laidKinds := [.data, .data, .data, .handle, .sentinel, .sentinel, .data], laidTests := true, laidLooks := .later }
def ElabWordsCardSaid : Prop := Claim7.holds Tryz.pinned (.plain (OpenSpec.ofChange elabWordsSpec)) elabWordsCard

/-- THE TIED CARD OF 'variorumlaw14.ElabSpans'. -/
def elabSpansCard : Claim7 := { stood := { row := elabSpansRow, standIns := [], harness := (true, "43397aab1e5aecf45ef0a655880356814bd880773b76c5a5da837c69803e5658"), looks := true }, kinds := [], alts := [], laidByText := true, laidKinds := [.data, .data, .data, .handle, .sentinel, .sentinel, .data], laidTests := true, laidLooks := .later }
def ElabSpansCardSaid : Prop := Claim7.holds Tryz.pinned (.plain (OpenSpec.ofChange elabSpansSpec)) elabSpansCard

/-- THE TIED CARD OF 'variorumlaw14.ElabNames'. -/
def elabNamesCard : Claim7 := { stood := { row := elabNamesRow, standIns := [], harness := (true, "43397aab1e5aecf45ef0a655880356814bd880773b76c5a5da837c69803e5658"), looks := true }, kinds := [], alts := [], laidByText := true, laidKinds := [.data, .data, .data, .handle, .sentinel, .sentinel, .data], laidTests := true, laidLooks := .later }
def ElabNamesCardSaid : Prop := Claim7.holds Tryz.pinned (.plain (OpenSpec.ofChange elabNamesSpec)) elabNamesCard

/-- THE TIED CARD OF 'variorumlaw14.ElabCounts'. -/
def elabCountsCard : Claim7 := { stood := { row := elabCountsRow, standIns := [], harness := (true, "43397aab1e5aecf45ef0a655880356814bd880773b76c5a5da837c69803e5658"), looks := true }, kinds := [], alts := [], laidByText := true, laidKinds := [.data, .data, .data, .handle, .sentinel, .sentinel, .data], laidTests := true, laidLooks := .later }
def ElabCountsCardSaid : Prop := Claim7.holds Tryz.pinned (.plain (OpenSpec.ofChange elabCountsSpec)) elabCountsCard

/-- THE SECOND FORM's CARD OF 'variorumlaw14.ElabMakes'. -/
def elabMakesUptoCard : Claim7 := { stood := { row := elabMakesUptoRow, standIns := [], harness := (true, "43397aab1e5aecf45ef0a655880356814bd880773b76c5a5da837c69803e5658"), looks := true }, kinds := [], alts := [], laidByText := true, laidKinds := [.data, .data, .data, .handle, .sentinel, .sentinel, .data], laidTests := true, laidLooks := .later }
def ElabMakesUptoCardSaid : Prop := Claim7.holds Tryz.pinned (.plain (OpenSpec.upto elabMakesSpec)) elabMakesUptoCard

/-- THE SECOND FORM's CARD OF 'variorumlaw14.ElabLemmas'. -/
def elabLemmasUptoCard : Claim7 := { stood := { row := elabLemmasUptoRow, standIns := [], harness := (true, "43397aab1e5aecf45ef0a655880356814bd880773b76c5a5da837c69803e5658"), looks := true }, kinds := [], alts := [], laidByText := true, laidKinds := [.data, .data, .data, .handle, .sentinel, .sentinel, .data], laidTests := true, laidLooks := .later }
def ElabLemmasUptoCardSaid : Prop := Claim7.holds Tryz.pinned (.plain (OpenSpec.upto elabLemmasSpec)) elabLemmasUptoCard

/-- THE SECOND FORM's CARD OF 'variorumlaw14.ElabWords'. -/
def elabWordsUptoCard : Claim7 := { stood := { row := elabWordsUptoRow, standIns := [], harness := (true, "43397aab1e5aecf45ef0a655880356814bd880773b76c5a5da837c69803e5658"), looks := true }, kinds := [], alts := [], laidByText := true, laidKinds := [.data, .data, .data, .handle, .sentinel, .sentinel, .data], laidTests := true, laidLooks := .later }
def ElabWordsUptoCardSaid : Prop := Claim7.holds Tryz.pinned (.plain (OpenSpec.upto elabWordsSpec)) elabWordsUptoCard

/-- THE SECOND FORM's CARD OF 'variorumlaw14.ElabSpans'. -/
def elabSpansUptoCard : Claim7 := { stood := { row := elabSpansUptoRow, standIns := [], harness := (true, "43397aab1e5aecf45ef0a655880356814bd880773b76c5a5da837c69803e5658"), looks := true }, kinds := [], alts := [], laidByText := true, laidKinds := [.data, .data, .data, .handle, .sentinel, .sentinel, .data], laidTests := true, laidLooks := .later }
def ElabSpansUptoCardSaid : Prop := Claim7.holds Tryz.pinned (.plain (OpenSpec.upto elabSpansSpec)) elabSpansUptoCard

/-- THE SECOND FORM's CARD OF 'variorumlaw14.ElabNames'. -/
def elabNamesUptoCard : Claim7 := { stood := { row := elabNamesUptoRow, standIns := [], harness := (true, "43397aab1e5aecf45ef0a655880356814bd880773b76c5a5da837c69803e5658"), looks := true }, kinds := [], alts := [], laidByText := true, laidKinds := [.data, .data, .data, .handle, .sentinel, .sentinel, .data], laidTests := true, laidLooks := .later }
def ElabNamesUptoCardSaid : Prop := Claim7.holds Tryz.pinned (.plain (OpenSpec.upto elabNamesSpec)) elabNamesUptoCard

/-- THE SECOND FORM's CARD OF 'variorumlaw14.ElabCounts'. -/
def elabCountsUptoCard : Claim7 := { stood := { row := elabCountsUptoRow, standIns := [], harness := (true, "43397aab1e5aecf45ef0a655880356814bd880773b76c5a5da837c69803e5658"), looks := true }, kinds := [], alts := [], laidByText := true, laidKinds := [.data, .data, .data, .handle, .sentinel, .sentinel, .data], laidTests := true, laidLooks := .later }
def ElabCountsUptoCardSaid : Prop := Claim7.holds Tryz.pinned (.plain (OpenSpec.upto elabCountsSpec)) elabCountsUptoCard
end Rows
end Go.Proofs.YtfjplhgajoehfaaGreatDoor
