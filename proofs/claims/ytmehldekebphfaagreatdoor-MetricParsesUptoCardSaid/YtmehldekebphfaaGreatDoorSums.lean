/-
  The program's and the reference's sums, differences and products: each answers what the plain mathematics tells.
-/
import Derived.Test.YtmehldekebphfaaGreatDoorArith
set_option linter.unusedVariables false
set_option linter.unusedSimpArgs false
namespace Go.Proofs.YtmehldekebphfaaGreatDoor
open Go.RowKit

end Go.Proofs.YtmehldekebphfaaGreatDoor
