/-
  NARROWER THAN 'FOR EVERY INPUT', by the rows' own cells (each row's printed sentence says how): SiglaTables: laid · SiglaLists: laid · SiglaBack: laid · SiglaKept: laid · SiglaParts: laid · SiglaAll: laid.
  DERIVED. THE GIVEN ROWS OF THIS SEAT. 6 by the template 'for every input the law returns true; each argument reads behind the call as it read before'; 0 by the template 'total and deterministic' (their statements: YtlgfmkmpopcciaaDoorTotals.lean).
  GIVEN WITH THE SEED: the statements are not yours to turn. If you find one false, say at which input.
  Laid BY PROGRAM, IN A SANDBOX (cutbox-rows.mjs): the forced cells as the released guide's own fill.sh prints them over the translation 7e782d7ccb0e09ad… (all of the seat's roots in one cut). By AI agents, Wed Nov 11 2026. No macro, syntax, notation, axiom, sorry.
-/
import Derived.Test.YtlgfmkmpopcciaaDoorChecked
import GoSem.PinnedTables
import GoSem.Claim
import GoSem.ClaimJoined
import GoSem.ClaimMapViews
import Derived.JoinedTies
import Derived.KernelRfl
namespace Go.Proofs.YtlgfmkmpopcciaaDoor
/- THE CELL 'sum', in the pinned program and in every row, IS THE sha256 OF THE DUMP (.gsa) THAT YtlgfmkmpopcciaaDoorProg.lean LOADS. Nothing in Lean hashes anything: it is a label: what it is worth is what the hold of that sum in a sandbox is worth. -/
noncomputable def Tryd.pinned : Pinned := { name := "ytlgfmkmpopcciaadoor", sum := "7e782d7ccb0e09adcac414e0473ccb11d381fcb7be25608be173bcf8ca048cde", checked := Tryd.checked }
namespace Rows
def none {H : Type} : Left H := { results := [], args := [] }

/- WHAT THE LISTED PACKAGE-LEVEL VARIABLES READ AS WHEN THE CALL BEGINS. Each datum BY PROGRAM (the guide's laid-datum.mjs) off the statement by which the dump's own 'gosem.cut.vars' lays the variable. In a bare row this is a premise. The card (YtlgfmkmpopcciaaDoorCards.lean) ties it to the program's text. -/
def laid_unicode_utf8_acceptRanges {H : Type} : DataW H := .agg [.agg [.lit (.int .u8 128), .lit (.int .u8 191)], .agg [.lit (.int .u8 160), .lit (.int .u8 191)], .agg [.lit (.int .u8 128), .lit (.int .u8 159)], .agg [.lit (.int .u8 144), .lit (.int .u8 191)], .agg [.lit (.int .u8 128), .lit (.int .u8 143)], .agg [.lit (.int .u8 0), .lit (.int .u8 0)], .agg [.lit (.int .u8 0), .lit (.int .u8 0)], .agg [.lit (.int .u8 0), .lit (.int .u8 0)], .agg [.lit (.int .u8 0), .lit (.int .u8 0)], .agg [.lit (.int .u8 0), .lit (.int .u8 0)], .agg [.lit (.int .u8 0), .lit (.int .u8 0)], .agg [.lit (.int .u8 0), .lit (.int .u8 0)], .agg [.lit (.int .u8 0), .lit (.int .u8 0)], .agg [.lit (.int .u8 0), .lit (.int .u8 0)], .agg [.lit (.int .u8 0), .lit (.int .u8 0)], .agg [.lit (.int .u8 0), .lit (.int .u8 0)]]
/-- One of Go's own tables, pinned by name: the form's constant. -/
def laid_unicode_utf8_first : DataW Unit := Go.Pinned.utf8First

/-- 'variorumlaw13.SiglaTables': WHATEVER THE INPUT: true; the input reads as it did. -/
def siglaTablesSpec : ChangeSpec := { name := "siglaTables", fn := fun _ => fun
  | [d1, d2, d3] => { results := [.lit (.bool true)], args := [d1, d2, d3] }
  | _ => none }
def siglaTablesRow : OpenClaim := { program := "ytlgfmkmpopcciaadoor", sum := "7e782d7ccb0e09adcac414e0473ccb11d381fcb7be25608be173bcf8ca048cde", func := "variorum/variorumlaw13.SiglaTables", spec := "siglaTables", inPlace := ["internal/bytealg.IndexByteString", "internal/bytealg.IndexString", "internal/abi.NoEscape"], unfollowed := true, recurses := true, named := ["internal/bytealg.MaxLen", "unicode/utf8.first", "unicode/utf8.acceptRanges"], apart := false, laid := [("unicode/utf8.acceptRanges", laid_unicode_utf8_acceptRanges), ("unicode/utf8.first", laid_unicode_utf8_first)] }
def SiglaTablesSaid : Prop := siglaTablesRow.holds Tryd.pinned (OpenSpec.ofChange siglaTablesSpec)

/-- ITS FALSE NEIGHBOUR: 'it returns false'. Refute it at one input. -/
def siglaTablesWrong : ChangeSpec := { name := "siglaTables", fn := fun _ => fun
  | [d1, d2, d3] => { results := [.lit (.bool false)], args := [d1, d2, d3] }
  | _ => none }
def SiglaTablesWrongFalsely : Prop := siglaTablesRow.holds Tryd.pinned (OpenSpec.ofChange siglaTablesWrong)

/-- 'variorumlaw13.SiglaLists': WHATEVER THE INPUT: true; the input reads as it did. -/
def siglaListsSpec : ChangeSpec := { name := "siglaLists", fn := fun _ => fun
  | [d1, d2, d3] => { results := [.lit (.bool true)], args := [d1, d2, d3] }
  | _ => none }
def siglaListsRow : OpenClaim := { program := "ytlgfmkmpopcciaadoor", sum := "7e782d7ccb0e09adcac414e0473ccb11d381fcb7be25608be173bcf8ca048cde", func := "variorum/variorumlaw13.SiglaLists", spec := "siglaLists", inPlace := ["internal/bytealg.IndexByteString", "internal/bytealg.IndexString", "internal/abi.NoEscape"], unfollowed := true, recurses := true, named := ["internal/bytealg.MaxLen", "unicode/utf8.first", "unicode/utf8.acceptRanges"], apart := false, laid := [("unicode/utf8.acceptRanges", laid_unicode_utf8_acceptRanges), ("unicode/utf8.first", laid_unicode_utf8_first)] }
def SiglaListsSaid : Prop := siglaListsRow.holds Tryd.pinned (OpenSpec.ofChange siglaListsSpec)

/-- ITS FALSE NEIGHBOUR: 'it returns false'. Refute it at one input. -/
def siglaListsWrong : ChangeSpec := { name := "siglaLists", fn := fun _ => fun
  | [d1, d2, d3] => { results := [.lit (.bool false)], args := [d1, d2, d3] }
  | _ => none }
def SiglaListsWrongFalsely : Prop := siglaListsRow.holds Tryd.pinned (OpenSpec.ofChange siglaListsWrong)

/-- 'variorumlaw13.SiglaBack': WHATEVER THE INPUT: true; the input reads as it did. -/
def siglaBackSpec : ChangeSpec := { name := "siglaBack", fn := fun _ => fun
  | [d1, d2] => { results := [.lit (.bool true)], args := [d1, d2] }
  | _ => none }
def siglaBackRow : OpenClaim := { program := "ytlgfmkmpopcciaadoor", sum := "7e782d7ccb0e09adcac414e0473ccb11d381fcb7be25608be173bcf8ca048cde", func := "variorum/variorumlaw13.SiglaBack", spec := "siglaBack", inPlace := ["internal/bytealg.IndexByteString", "internal/bytealg.IndexString", "internal/abi.NoEscape"], unfollowed := true, recurses := true, named := ["internal/bytealg.MaxLen", "unicode/utf8.first", "unicode/utf8.acceptRanges"], apart := false, laid := [("unicode/utf8.acceptRanges", laid_unicode_utf8_acceptRanges), ("unicode/utf8.first", laid_unicode_utf8_first)] }
def SiglaBackSaid : Prop := siglaBackRow.holds Tryd.pinned (OpenSpec.ofChange siglaBackSpec)

/-- ITS FALSE NEIGHBOUR: 'it returns false'. Refute it at one input. -/
def siglaBackWrong : ChangeSpec := { name := "siglaBack", fn := fun _ => fun
  | [d1, d2] => { results := [.lit (.bool false)], args := [d1, d2] }
  | _ => none }
def SiglaBackWrongFalsely : Prop := siglaBackRow.holds Tryd.pinned (OpenSpec.ofChange siglaBackWrong)

/-- 'variorumlaw13.SiglaKept': WHATEVER THE INPUT: true; the input reads as it did. -/
def siglaKeptSpec : ChangeSpec := { name := "siglaKept", fn := fun _ => fun
  | [d1, d2] => { results := [.lit (.bool true)], args := [d1, d2] }
  | _ => none }
def siglaKeptRow : OpenClaim := { program := "ytlgfmkmpopcciaadoor", sum := "7e782d7ccb0e09adcac414e0473ccb11d381fcb7be25608be173bcf8ca048cde", func := "variorum/variorumlaw13.SiglaKept", spec := "siglaKept", inPlace := ["internal/bytealg.IndexByteString", "internal/bytealg.IndexString", "internal/abi.NoEscape"], unfollowed := true, recurses := true, named := ["internal/bytealg.MaxLen", "unicode/utf8.first", "unicode/utf8.acceptRanges"], apart := false, laid := [("unicode/utf8.acceptRanges", laid_unicode_utf8_acceptRanges), ("unicode/utf8.first", laid_unicode_utf8_first)] }
def SiglaKeptSaid : Prop := siglaKeptRow.holds Tryd.pinned (OpenSpec.ofChange siglaKeptSpec)

/-- ITS FALSE NEIGHBOUR: 'it returns false'. Refute it at one input. -/
def siglaKeptWrong : ChangeSpec := { name := "siglaKept", fn := fun _ => fun
  | [d1, d2] => { results := [.lit (.bool false)], args := [d1, d2] }
  | _ => none }
def SiglaKeptWrongFalsely : Prop := siglaKeptRow.holds Tryd.pinned (OpenSpec.ofChange siglaKeptWrong)

/-- 'variorumlaw13.SiglaParts': WHATEVER THE INPUT: true; the input reads as it did. -/
def siglaPartsSpec : ChangeSpec := { name := "siglaParts", fn := fun _ => fun
  | [d1, d2] => { results := [.lit (.bool true)], args := [d1, d2] }
  | _ => none }
def siglaPartsRow : OpenClaim := { program := "ytlgfmkmpopcciaadoor", sum := "7e782d7ccb0e09adcac414e0473ccb11d381fcb7be25608be173bcf8ca048cde", func := "variorum/variorumlaw13.SiglaParts", spec := "siglaParts", inPlace := ["internal/bytealg.IndexByteString", "internal/bytealg.IndexString", "internal/abi.NoEscape"], unfollowed := true, recurses := true, named := ["internal/bytealg.MaxLen", "unicode/utf8.first", "unicode/utf8.acceptRanges"], apart := false, laid := [("unicode/utf8.acceptRanges", laid_unicode_utf8_acceptRanges), ("unicode/utf8.first", laid_unicode_utf8_first)] }
def SiglaPartsSaid : Prop := siglaPartsRow.holds Tryd.pinned (OpenSpec.ofChange siglaPartsSpec)

/-- ITS FALSE NEIGHBOUR: 'it returns false'. Refute it at one input. -/
def siglaPartsWrong : ChangeSpec := { name := "siglaParts", fn := fun _ => fun
  | [d1, d2] => { results := [.lit (.bool false)], args := [d1, d2] }
  | _ => none }
def SiglaPartsWrongFalsely : Prop := siglaPartsRow.holds Tryd.pinned (OpenSpec.ofChange siglaPartsWrong)

/-- 'variorumlaw13.SiglaAll': WHATEVER THE INPUT: true; the input reads as it did. -/
def siglaAllSpec : ChangeSpec := { name := "siglaAll", fn := fun _ => fun
  | [d] => { results := [.lit (.bool true)], args := [d] }
  | _ => none }
def siglaAllRow : OpenClaim := { program := "ytlgfmkmpopcciaadoor", sum := "7e782d7ccb0e09adcac414e0473ccb11d381fcb7be25608be173bcf8ca048cde", func := "variorum/variorumlaw13.SiglaAll", spec := "siglaAll", inPlace := ["internal/bytealg.IndexByteString", "internal/bytealg.IndexString", "internal/abi.NoEscape"], unfollowed := true, recurses := true, named := ["internal/bytealg.MaxLen", "unicode/utf8.first", "unicode/utf8.acceptRanges"], apart := false, laid := [("unicode/utf8.acceptRanges", laid_unicode_utf8_acceptRanges), ("unicode/utf8.first", laid_unicode_utf8_first)] }
def SiglaAllSaid : Prop := siglaAllRow.holds Tryd.pinned (OpenSpec.ofChange siglaAllSpec)

/-- ITS FALSE NEIGHBOUR: 'it returns false'. Refute it at one input. -/
def siglaAllWrong : ChangeSpec := { name := "siglaAll", fn := fun _ => fun
  | [d] => { results := [.lit (.bool false)], args := [d] }
  | _ => none }
def SiglaAllWrongFalsely : Prop := siglaAllRow.holds Tryd.pinned (OpenSpec.ofChange siglaAllWrong)

/- THE SECOND FORM. 'bulk': how many values and letters a reading holds, each counted each time it is reached (what is shared counts as often as it is met; a slice's spare places count too). A statement '..UptoSaid' is the law's where the arguments, and the package variables that the reading takes, are together of bulk at most 1048576: NARROWER than '..Said'. Prove '..Said' where nothing that the law and all that it calls make is longer than what came in: it says more and counts as full. Else prove '..UptoSaid'. A law counts once. -/
mutual
def uptoBulk {H : Type} : DataW H → Nat
  | .lit (.string bytes) => bytes.length + 1
  | .lit _ => 1
  | .nil => 1
  | .ptr d => uptoBulk d + 1
  | .slice elems spare => uptoBulkAll elems + uptoBulkAll spare + 1
  | .agg parts => uptoBulkAll parts + 1
  | .iface _ d => uptoBulk d + 1
  | .map entries => uptoBulkEntries entries + 1
  | .held _ => 1
def uptoBulkAll {H : Type} : List (DataW H) → Nat
  | [] => 0
  | d :: r => uptoBulk d + uptoBulkAll r
def uptoBulkEntries {H : Type} : List (Lit × DataW H) → Nat
  | [] => 0
  | x :: r => uptoBulkEntry x + uptoBulkEntries r
def uptoBulkEntry {H : Type} : Lit × DataW H → Nat
  | (.string bytes, d) => bytes.length + uptoBulk d + 1
  | (_, d) => uptoBulk d + 1
 end
def uptoSmall : (H : Type) → List (DataW H) → Bool := fun _ ds => decide (uptoBulkAll ds ≤ 1048576)
def OpenSpec.upto (s : _root_.Go.ChangeSpec) : _root_.Go.OpenSpec := { _root_.Go.OpenSpec.ofChange s with cond := some uptoSmall }

/-- 'variorumlaw13.SiglaTables', WHERE WHAT IT READS IS OF BULK AT MOST 1048576: true; the input reads as it did. -/
def siglaTablesUptoRow : OpenClaim := { program := "ytlgfmkmpopcciaadoor", sum := "7e782d7ccb0e09adcac414e0473ccb11d381fcb7be25608be173bcf8ca048cde", func := "variorum/variorumlaw13.SiglaTables", spec := "siglaTables", inPlace := ["internal/bytealg.IndexByteString", "internal/bytealg.IndexString", "internal/abi.NoEscape"], unfollowed := true, recurses := true, named := ["internal/bytealg.MaxLen", "unicode/utf8.first", "unicode/utf8.acceptRanges"], apart := false, laid := [("unicode/utf8.acceptRanges", laid_unicode_utf8_acceptRanges), ("unicode/utf8.first", laid_unicode_utf8_first)], narrowed := true }
def SiglaTablesUptoSaid : Prop := siglaTablesUptoRow.holds Tryd.pinned (OpenSpec.upto siglaTablesSpec)

/-- 'variorumlaw13.SiglaLists', WHERE WHAT IT READS IS OF BULK AT MOST 1048576: true; the input reads as it did. -/
def siglaListsUptoRow : OpenClaim := { program := "ytlgfmkmpopcciaadoor", sum := "7e782d7ccb0e09adcac414e0473ccb11d381fcb7be25608be173bcf8ca048cde", func := "variorum/variorumlaw13.SiglaLists", spec := "siglaLists", inPlace := ["internal/bytealg.IndexByteString", "internal/bytealg.IndexString", "internal/abi.NoEscape"], unfollowed := true, recurses := true, named := ["internal/bytealg.MaxLen", "unicode/utf8.first", "unicode/utf8.acceptRanges"], apart := false, laid := [("unicode/utf8.acceptRanges", laid_unicode_utf8_acceptRanges), ("unicode/utf8.first", laid_unicode_utf8_first)], narrowed := true }
def SiglaListsUptoSaid : Prop := siglaListsUptoRow.holds Tryd.pinned (OpenSpec.upto siglaListsSpec)

/-- 'variorumlaw13.SiglaBack', WHERE WHAT IT READS IS OF BULK AT MOST 1048576: true; the input reads as it did. -/
def siglaBackUptoRow : OpenClaim := { program := "ytlgfmkmpopcciaadoor", sum := "7e782d7ccb0e09adcac414e0473ccb11d381fcb7be25608be173bcf8ca048cde", func := "variorum/variorumlaw13.SiglaBack", spec := "siglaBack", inPlace := ["internal/bytealg.IndexByteString", "internal/bytealg.IndexString", "internal/abi.NoEscape"], unfollowed := true, recurses := true, named := ["internal/bytealg.MaxLen", "unicode/utf8.first", "unicode/utf8.acceptRanges"], apart := false, laid := [("unicode/utf8.acceptRanges", laid_unicode_utf8_acceptRanges), ("unicode/utf8.first", laid_unicode_utf8_first)], narrowed := true }
def SiglaBackUptoSaid : Prop := siglaBackUptoRow.holds Tryd.pinned (OpenSpec.upto siglaBackSpec)

/-- 'variorumlaw13.SiglaKept', WHERE WHAT IT READS IS OF BULK AT MOST 1048576: true; the input reads as it did. -/
def siglaKeptUptoRow : OpenClaim := { program := "ytlgfmkmpopcciaadoor", sum := "7e782d7ccb0e09adcac414e0473ccb11d381fcb7be25608be173bcf8ca048cde", func := "variorum/variorumlaw13.SiglaKept", spec := "siglaKept", inPlace := ["internal/bytealg.IndexByteString", "internal/bytealg.IndexString", "internal/abi.NoEscape"], unfollowed := true, recurses := true, named := ["internal/bytealg.MaxLen", "unicode/utf8.first", "unicode/utf8.acceptRanges"], apart := false, laid := [("unicode/utf8.acceptRanges", laid_unicode_utf8_acceptRanges), ("unicode/utf8.first", laid_unicode_utf8_first)], narrowed := true }
def SiglaKeptUptoSaid : Prop := siglaKeptUptoRow.holds Tryd.pinned (OpenSpec.upto siglaKeptSpec)

/-- 'variorumlaw13.SiglaParts', WHERE WHAT IT READS IS OF BULK AT MOST 1048576: true; the input reads as it did. -/
def siglaPartsUptoRow : OpenClaim := { program := "ytlgfmkmpopcciaadoor", sum := "7e782d7ccb0e09adcac414e0473ccb11d381fcb7be25608be173bcf8ca048cde", func := "variorum/variorumlaw13.SiglaParts", spec := "siglaParts", inPlace := ["internal/bytealg.IndexByteString", "internal/bytealg.IndexString", "internal/abi.NoEscape"], unfollowed := true, recurses := true, named := ["internal/bytealg.MaxLen", "unicode/utf8.first", "unicode/utf8.acceptRanges"], apart := false, laid := [("unicode/utf8.acceptRanges", laid_unicode_utf8_acceptRanges), ("unicode/utf8.first", laid_unicode_utf8_first)], narrowed := true }
def SiglaPartsUptoSaid : Prop := siglaPartsUptoRow.holds Tryd.pinned (OpenSpec.upto siglaPartsSpec)

/-- 'variorumlaw13.SiglaAll', WHERE WHAT IT READS IS OF BULK AT MOST 1048576: true; the input reads as it did. -/
def siglaAllUptoRow : OpenClaim := { program := "ytlgfmkmpopcciaadoor", sum := "7e782d7ccb0e09adcac414e0473ccb11d381fcb7be25608be173bcf8ca048cde", func := "variorum/variorumlaw13.SiglaAll", spec := "siglaAll", inPlace := ["internal/bytealg.IndexByteString", "internal/bytealg.IndexString", "internal/abi.NoEscape"], unfollowed := true, recurses := true, named := ["internal/bytealg.MaxLen", "unicode/utf8.first", "unicode/utf8.acceptRanges"], apart := false, laid := [("unicode/utf8.acceptRanges", laid_unicode_utf8_acceptRanges), ("unicode/utf8.first", laid_unicode_utf8_first)], narrowed := true }
def SiglaAllUptoSaid : Prop := siglaAllUptoRow.holds Tryd.pinned (OpenSpec.upto siglaAllSpec)

end Rows
end Go.Proofs.YtlgfmkmpopcciaaDoor
