/-
  LOCAL HEADERS: how many bytes the one at the beginning has. No conditions.
-/
import Derived.Test.YtacllgglpjdobaaDoorLocd
namespace Go.Proofs.YtacllgglpjdobaaDoor
open Go.RowKit
set_option maxRecDepth 100000
set_option linter.unusedVariables false

/-- by its own two numbers -/
def tolN (l : List F) : Nat := 30 + atL l 26 2 + atL l 28 2
def lnV (l : List F) : Nat × Int := if l.length < 4 ∨ atL l 0 4 ≠ 67324752 then (0, 44) else if l.length < 30 then (0, 20) else if l.length < tolN l then (0, 20) else (tolN l, 0)
theorem atL_lt (l : List F) (f s : Nat) (h : s ≤ 8) : atL l f s < 256 ^ s := by
  rw [atL_eq l f s h]
  exact Nat.lt_of_lt_of_le (getL_lt _) (Nat.pow_le_pow_right (by decide) (by rw [List.length_take]; omega))
end Go.Proofs.YtacllgglpjdobaaDoor
