/-
  DERIVED. GIVEN WITH THE SEED: THE CARDS: each row of YtjjkilopeofjjaaDoorRows.lean that lists a variable, with what it lists TIED to the program's text (the seventh form; the later family's looks); each row that meets fmt, with fmt's text TOLD by the authors' own Lean function (tested against real Go, not proved from fmt's source: count such statements apart). THE CARD IS WHAT COUNTS. Prove the row's statement (the work); the ties are given (YtjjkilopeofjjaaDoorTie.lean); close each card by the builder's one call (the guide's Derived/Test/ToyasCard.lean, 'card_holds'). Laid BY PROGRAM, IN A SANDBOX (cutbox-door.mjs). By AI agents, Wed Nov 11 2026. No macro, syntax, notation, axiom, sorry.
-/
import Derived.Test.YtjjkilopeofjjaaDoorRows
import GoSem.ClaimSeven
namespace Go.Proofs.YtjjkilopeofjjaaDoor
namespace Rows

/-- THE TIED CARD OF 'variorumlaw15.LemmaTells'. -/
def lemmaTellsCard : Claim7 := { stood := { row := lemmaTellsRow, standIns := [], harness := (true, "5fc39bf7172f7e3613d6a10ea6377b0563ef75dc02110213d9122d6108ef1850"), looks := false }, kinds := [], alts := [], laidByText := true, laidKinds := [.data, .data, .data, .data, .pinned], laidTests := true, laidLooks := .later }
def LemmaTellsCardSaid : Prop := Claim7.holds Tryd.pinned (.plain (OpenSpec.ofChange lemmaTellsSpec)) lemmaTellsCard

/-- THE TIED CARD OF 'variorumlaw15.LemmaMarks'. -/
def lemmaMarksCard : Claim7 := { stood := { row := lemmaMarksRow, standIns := [], harness := (true, "5fc39bf7172f7e3613d6a10ea6377b0563ef75dc02110213d9122d6108ef1850"), looks := false }, kinds := [], alts := [], laidByText := true, laidKinds := [.data, .data, .data, .data, .pinned], laidTests := true, laidLooks := .later }
def LemmaMarksCardSaid : Prop := Claim7.holds Tryd.pinned (.plain (OpenSpec.ofChange lemmaMarksSpec)) lemmaMarksCard

/-- THE TIED CARD OF 'variorumlaw15.LemmaHeads'. -/
def lemmaHeadsCard : Claim7 := { stood := { row := lemmaHeadsRow, standIns := [], harness := (true, "5fc39bf7172f7e3613d6a10ea6377b0563ef75dc02110213d9122d6108ef1850"), looks := false }, kinds := [], alts := [], laidByText := true, laidKinds := [.data, .data, .data, .data, .pinned], laidTests := true, laidLooks := .later }
def LemmaHeadsCardSaid : Prop := Claim7.holds Tryd.pinned (.plain (OpenSpec.ofChange lemmaHeadsSpec)) lemmaHeadsCard

/-- THE TIED CARD OF 'variorumlaw15.LemmaCounts'. -/
def lemmaCountsCard : Claim7 := { stood := { row := lemmaCountsRow, standIns := [], harness := (true, "5fc39bf7172f7e3613d6a10ea6377b0563ef75dc02110213d9122d6108ef1850"), looks := false }, kinds := [], alts := [], laidByText := true, laidKinds := [.data, .data, .data, .data, .pinned], laidTests := true, laidLooks := .later }
def LemmaCountsCardSaid : Prop := Claim7.holds Tryd.pinned (.plain (OpenSpec.ofChange lemmaCountsSpec)) lemmaCountsCard

/-- THE TIED CARD OF 'variorumlaw15.LemmaShort'. -/
def lemmaShortCard : Claim7 := { stood := { row := lemmaShortRow, standIns := [], harness := (true, "5fc39bf7172f7e3613d6a10ea6377b0563ef75dc02110213d9122d6108ef1850"), looks := false }, kinds := [], alts := [], laidByText := true, laidKinds := [.data, .data, .data, .data, .pinned], laidTests := true, laidLooks := .later }
def LemmaShortCardSaid : Prop := Claim7.holds Tryd.pinned (.plain (OpenSpec.ofChange lemmaShortSpec)) lemmaShortCard

/-- THE SECOND FORM's CARD OF 'variorumlaw15.LemmaTells'. -/
def lemmaTellsUptoCard : Claim7 := { stood := { row := lemmaTellsUptoRow, standIns := [], harness := (true, "5fc39bf7172f7e3613d6a10ea6377b0563ef75dc02110213d9122d6108ef1850"), looks := false }, kinds := [], alts := [], laidByText := true, laidKinds := [.data, .data, .data, .data, .pinned], laidTests := true, laidLooks := .later }
def LemmaTellsUptoCardSaid : Prop := Claim7.holds Tryd.pinned (.plain (OpenSpec.upto lemmaTellsSpec)) lemmaTellsUptoCard

/-- THE SECOND FORM's CARD OF 'variorumlaw15.LemmaMarks'. -/
def lemmaMarksUptoCard : Claim7 := { stood := { row := lemmaMarksUptoRow, standIns := [], harness := (true, "5fc39bf7172f7e3613d6a10ea6377b0563ef75dc02110213d9122d6108ef1850"), looks := false }, kinds := [], alts := [], laidByText := true, laidKinds := [.data, .data, .data, .data, .pinned], laidTests := true, laidLooks := .later }
def LemmaMarksUptoCardSaid : Prop := Claim7.holds Tryd.pinned (.plain (OpenSpec.upto lemmaMarksSpec)) lemmaMarksUptoCard

/-- THE SECOND FORM's CARD OF 'variorumlaw15.LemmaHeads'. -/
def lemmaHeadsUptoCard : Claim7 := { stood := { row := lemmaHeadsUptoRow, standIns := [], harness := (true, "5fc39bf7172f7e3613d6a10ea6377b0563ef75dc02110213d9122d6108ef1850"), looks := false }, kinds := [], alts := [], laidByText := true, laidKinds := [.data, .data, .data, .data, .pinned], laidTests := true, laidLooks := .later }
def LemmaHeadsUptoCardSaid : Prop := Claim7.holds Tryd.pinned (.plain (OpenSpec.upto lemmaHeadsSpec)) lemmaHeadsUptoCard

/-- THE SECOND FORM's CARD OF 'variorumlaw15.LemmaCounts'. -/
def lemmaCountsUptoCard : Claim7 := { stood := { row := lemmaCountsUptoRow, standIns := [], harness := (true, "5fc39bf7172f7e3613d6a10ea6377b0563ef75dc02110213d9122d6108ef1850"), looks := false }, kinds := [], alts := [], laidByText := true, laidKinds := [.data, .data, .data, .data, .pinned], laidTests := true, laidLooks := .later }
def LemmaCountsUptoCardSaid : Prop := Claim7.holds Tryd.pinned (.plain (OpenSpec.upto lemmaCountsSpec)) lemmaCountsUptoCard

/-- THE SECOND FORM's CARD OF 'variorumlaw15.LemmaShort'. -/
def lemmaShortUptoCard : Claim7 := { stood := { row := lemmaShortUptoRow, standIns := [], harness := (true, "5fc39bf7172f7e3613d6a10ea6377b0563ef75dc02110213d9122d6108ef1850"), looks := false }, kinds := [], alts := [], laidByText := true, laidKinds := [.data, .data, .data, .data, .pinned], laidTests := true, laidLooks := .later }
def LemmaShortUptoCardSaid : Prop := Claim7.holds Tryd.pinned (.plain (OpenSpec.upto lemmaShortSpec)) lemmaShortUptoCard
end Rows
end Go.Proofs.YtjjkilopeofjjaaDoor
