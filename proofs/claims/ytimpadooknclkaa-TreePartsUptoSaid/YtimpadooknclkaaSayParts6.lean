/-
  PROVED: the law TreeParts returns true, and its arguments read as they did, wherever what it is handed is of bulk at most 1048576.
-/
import Derived.Test.YtimpadooknclkaaRowParts6
import Derived.Test.YtimpadooknclkaaTree6
namespace Go.Proofs.Ytimpadooknclkaa
theorem treeParts_upto : Rows.TreePartsUptoSaid := treeParts_upto_said tree6
end Go.Proofs.Ytimpadooknclkaa
