/-
  The program's package tree keeps its contracts.
-/
import Derived.Test.YtimpadooknclkaaParse6
import Derived.Test.YtimpadooknclkaaFlat6
import Derived.Test.YtimpadooknclkaaDepth6
set_option linter.unusedVariables false
set_option linter.unusedSimpArgs false
namespace Go.Proofs.Ytimpadooknclkaa
open Go.RowKit

theorem tree6 : TreeC where
  yesC v ts ns w hn hG h := (parse_yes6 v ts ns w hn hG h).mono fun _ _ ⟨v', K, h1, h2, h3, h4⟩ => ⟨v', K, h1, ⟨h2, h3⟩, h4⟩
  no v ts w hn hc h := (parse_no6 v ts w hn hc h).mono fun _ _ ⟨h1, h2⟩ => ⟨_, fun _ => True, h1, nodes_none _ _, h2⟩
  depth v l K w hn h := depth_any6 v l K w hn h
  words v l K w hn h := words_any6 v l K w hn h
end Go.Proofs.Ytimpadooknclkaa
