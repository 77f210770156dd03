/-
  PROVED: the law TreeParses returns true, and its arguments read as they did, wherever what it is handed is of bulk at most 1048576.
-/
import Derived.Test.YtimpadooknclkaaRowParses6
import Derived.Test.YtimpadooknclkaaTree6
namespace Go.Proofs.Ytimpadooknclkaa
theorem treeParses_upto : Rows.TreeParsesUptoSaid := treeParses_upto_said tree6
end Go.Proofs.Ytimpadooknclkaa
