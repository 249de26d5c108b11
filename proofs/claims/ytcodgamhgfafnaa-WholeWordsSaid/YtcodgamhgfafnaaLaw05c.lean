/-
  LAW 05: WelchTells. No conditions. (The round's three ways are written by wip/gen05c.py.)
-/
import Derived.Test.YtcodgamhgfafnaaLaw05b
namespace Go.Proofs.Ytcodgamhgfafnaa
open Go.RowKit
set_option maxRecDepth 100000
set_option linter.unusedVariables false

end Go.Proofs.Ytcodgamhgfafnaa
