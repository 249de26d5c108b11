/-
  THE CONTRACTS OF THE DOCUMENT's OWN ANSWERS FOR LAYER 2: Copy, Same, Trim, at, Add, Eval. Rows of at most 2^30 bytes.
-/
import Derived.Test.YtcodgamhgfafnaaPoly7
import Derived.Laws.AppendOwnNone
namespace Go.Proofs.Ytcodgamhgfafnaa
open Go.RowKit
set_option maxRecDepth 100000
set_option linter.unusedVariables false

end Go.Proofs.Ytcodgamhgfafnaa
