/-
  What the program's Lex, May, Print and Escape answer, together: lex_any, may_any, print_any, escape_any.
-/
import Derived.Test.YtjlnffdklhmonaaDoorCallLex5
import Derived.Test.YtjlnffdklhmonaaDoorCallPrint5
set_option linter.unusedVariables false
set_option linter.unusedSimpArgs false
namespace Go.Proofs.YtjlnffdklhmonaaDoor
open Go.RowKit

theorem calls5_here : True := trivial
end Go.Proofs.YtjlnffdklhmonaaDoor
