/-
  THE CONTRACTS OF THE DOCUMENT's OWN ANSWERS FOR LAYER 2: Eval, Mul, Unlike. Rows of at most 2^30 bytes.
-/
import Derived.Test.YtcodgamhgfafnaaRef3
namespace Go.Proofs.Ytcodgamhgfafnaa
open Go.RowKit
set_option maxRecDepth 100000
set_option linter.unusedVariables false

end Go.Proofs.Ytcodgamhgfafnaa
