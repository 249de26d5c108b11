/-
  THE CONTRACT OF systematic.Fill. Words of at most 255 bytes.
-/
import Derived.Test.YtbmkcnlcffnjgaaSys4
namespace Go.Proofs.Ytbmkcnlcffnjgaa
open Go.RowKit
set_option maxRecDepth 100000
set_option linter.unusedVariables false

end Go.Proofs.Ytbmkcnlcffnjgaa
