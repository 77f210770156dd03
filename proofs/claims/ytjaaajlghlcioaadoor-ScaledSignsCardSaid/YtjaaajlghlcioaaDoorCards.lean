/-
  DERIVED. GIVEN WITH THE SEED: THE CARDS: each row of YtjaaajlghlcioaaDoorRows.lean that lists a variable, with what it lists TIED to the program's text (the seventh form; the later family's looks); each row that meets fmt, with fmt's text TOLD by the authors' own Lean function (tested against real Go, not proved from fmt's source: count such statements apart). THE CARD IS WHAT COUNTS. Prove the row's statement (the work); the ties are given (YtjaaajlghlcioaaDoorTie.lean); close each card by the builder's one call (the guide's Derived/Test/ToyasCard.lean, 'card_holds'). Laid BY PROGRAM, IN A SANDBOX (cutbox-door.mjs). By AI agents, Wed Nov 11 2026. No macro, syntax, notation, axiom, sorry.
-/
import Derived.Test.YtjaaajlghlcioaaDoorRows
import GoSem.ClaimSeven
namespace Go.Proofs.YtjaaajlghlcioaaDoor
namespace Rows

/-- THE TIED CARD OF 'variorumlaw02.ScaledSums'. -/
def scaledSumsCard : Claim7 := { stood := { row := scaledSumsRow, standIns := [], harness := (true, "d8191b4a966b472e90664e99fba276b26a8405e06b3f8080279967cdc720e9f6"), looks := false }, kinds := [], alts := [], laidByText := true, laidKinds := [.data, .data, .data], laidTests := true, laidLooks := .later }
def ScaledSumsCardSaid : Prop := Claim7.holds Tryd.pinned (.plain (OpenSpec.ofChange scaledSumsSpec)) scaledSumsCard

/-- THE TIED CARD OF 'variorumlaw02.ScaledTexts'. -/
def scaledTextsCard : Claim7 := { stood := { row := scaledTextsRow, standIns := [], harness := (true, "d8191b4a966b472e90664e99fba276b26a8405e06b3f8080279967cdc720e9f6"), looks := false }, kinds := [], alts := [], laidByText := true, laidKinds := [.data, .data, .data], laidTests := true, laidLooks := .later }
def ScaledTextsCardSaid : Prop := Claim7.holds Tryd.pinned (.plain (OpenSpec.ofChange scaledTextsSpec)) scaledTextsCard

/-- THE TIED CARD OF 'variorumlaw02.ScaledBack'. -/
def scaledBackCard : Claim7 := { stood := { row := scaledBackRow, standIns := [], harness := (true, "d8191b4a966b472e90664e99fba276b26a8405e06b3f8080279967cdc720e9f6"), looks := false }, kinds := [], alts := [], laidByText := true, laidKinds := [.data, .data, .data], laidTests := true, laidLooks := .later }
def ScaledBackCardSaid : Prop := Claim7.holds Tryd.pinned (.plain (OpenSpec.ofChange scaledBackSpec)) scaledBackCard

/-- THE TIED CARD OF 'variorumlaw02.ScaledLaws'. -/
def scaledLawsCard : Claim7 := { stood := { row := scaledLawsRow, standIns := [], harness := (true, "d8191b4a966b472e90664e99fba276b26a8405e06b3f8080279967cdc720e9f6"), looks := false }, kinds := [], alts := [], laidByText := true, laidKinds := [.data, .data, .data], laidTests := true, laidLooks := .later }
def ScaledLawsCardSaid : Prop := Claim7.holds Tryd.pinned (.plain (OpenSpec.ofChange scaledLawsSpec)) scaledLawsCard

/-- THE TIED CARD OF 'variorumlaw02.ScaledSigns'. -/
def scaledSignsCard : Claim7 := { stood := { row := scaledSignsRow, standIns := [], harness := (true, "d8191b4a966b472e90664e99fba276b26a8405e06b3f8080279967cdc720e9f6"), looks := false }, kinds := [], alts := [], laidByText := true, laidKinds := [.data, .data, .data], laidTests := true, laidLooks := .later }
def ScaledSignsCardSaid : Prop := Claim7.holds Tryd.pinned (.plain (OpenSpec.ofChange scaledSignsSpec)) scaledSignsCard

/-- THE SECOND FORM's CARD OF 'variorumlaw02.ScaledSums'. -/
def scaledSumsUptoCard : Claim7 := { stood := { row := scaledSumsUptoRow, standIns := [], harness := (true, "d8191b4a966b472e90664e99fba276b26a8405e06b3f8080279967cdc720e9f6"), looks := false }, kinds := [], alts := [], laidByText := true, laidKinds := [.data, .data, .data], laidTests := true, laidLooks := .later }
def ScaledSumsUptoCardSaid : Prop := Claim7.holds Tryd.pinned (.plain (OpenSpec.upto scaledSumsSpec)) scaledSumsUptoCard

/-- THE SECOND FORM's CARD OF 'variorumlaw02.ScaledTexts'. -/
def scaledTextsUptoCard : Claim7 := { stood := { row := scaledTextsUptoRow, standIns := [], harness := (true, "d8191b4a966b472e90664e99fba276b26a8405e06b3f8080279967cdc720e9f6"), looks := false }, kinds := [], alts := [], laidByText := true, laidKinds := [.data, .data, .data], laidTests := true, laidLooks := .later }
def ScaledTextsUptoCardSaid : Prop := Claim7.holds Tryd.pinned (.plain (OpenSpec.upto scaledTextsSpec)) scaledTextsUptoCard

/-- THE SECOND FORM's CARD OF 'variorumlaw02.ScaledBack'. -/
def scaledBackUptoCard : Claim7 := { stood := { row := scaledBackUptoRow, standIns := [], harness := (true, "d8191b4a966b472e90664e99fba276b26a8405e06b3f8080279967cdc720e9f6"), looks := false }, kinds := [], alts := [], laidByText := true, laidKinds := [.data, .data, .data], laidTests := true, laidLooks := .later }
def ScaledBackUptoCardSaid : Prop := Claim7.holds Tryd.pinned (.plain (OpenSpec.upto scaledBackSpec)) scaledBackUptoCard

/-- THE SECOND FORM's CARD OF 'variorumlaw02.ScaledLaws'. -/
def scaledLawsUptoCard : Claim7 := { stood := { row := scaledLawsUptoRow, standIns := [], harness := (true, "d8191b4a966b472e90664e99fba276b26a8405e06b3f8080279967cdc720e9f6"), looks := false }, kinds := [], alts := [], laidByText := true, laidKinds := [.data, .data, .data], laidTests := true, laidLooks := .later }
def ScaledLawsUptoCardSaid : Prop := Claim7.holds Tryd.pinned (.plain (OpenSpec.upto scaledLawsSpec)) scaledLawsUptoCard

/-- THE SECOND FORM's CARD OF 'variorumlaw02.ScaledSigns'. -/
def scaledSignsUptoCard : Claim7 := { stood := { row := scaledSignsUptoRow, standIns := [], harness := (true, "d8191b4a966b472e90664e99fba276b26a8405e06b3f8080279967cdc720e9f6"), looks := false }, kinds := [], alts := [], laidByText := true, laidKinds := [.data, .data, .data], laidTests := true, laidLooks := .later }
def ScaledSignsUptoCardSaid : Prop := Claim7.holds Tryd.pinned (.plain (OpenSpec.upto scaledSignsSpec)) scaledSignsUptoCard
end Rows
end Go.Proofs.YtjaaajlghlcioaaDoor
