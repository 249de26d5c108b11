/-
  LOCAL HEADERS: the document's number at a place. No conditions.
-/
import Derived.Test.YtacllgglpjdobaaDoorLocc
namespace Go.Proofs.YtacllgglpjdobaaDoor
open Go.RowKit
set_option maxRecDepth 100000
set_option linter.unusedVariables false

/-- the number of so many bytes at a place -/
def atL (l : List F) (from_ size : Nat) : Nat := getL (((l.drop from_).take size).take 8)
theorem atL_eq (l : List F) (from_ size : Nat) (h : size ≤ 8) : atL l from_ size = getL ((l.drop from_).take size) := by
  unfold atL
  rw [List.take_take, Nat.min_eq_right h]
end Go.Proofs.YtacllgglpjdobaaDoor
