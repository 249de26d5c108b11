/-
  THE CONTRACT OF gf.Dot, and what gf.Scale is. Rows are as great as memory lets them be.
-/
import Derived.Test.YtbmkcnlcffnjgaaGf2
import Derived.Test.YtbmkcnlcffnjgaaBase
import Derived.Deep.QuietTactic
import Derived.BigQuiet
namespace Go.Proofs.Ytbmkcnlcffnjgaa
open Go.RowKit

/-- the sum of products, as far as both go -/
def dotF (a b : List F) : Nat → F
  | 0 => 0
  | k + 1 => dotF a b k + gt a k * gt b k
theorem lt_num (k n : Nat) (h : k < n) : ((k : Int) < (n : Int)) := by omega
/-- each byte times one -/
def scaleF (l : List F) (x : F) : List F := l.map (· * x)
theorem gt_scale (l : List F) (x : F) (k : Nat) : gt (scaleF l x) k = gt l k * x := by
  rcases Nat.lt_or_ge k l.length with h | h
  · rw [gt_lt (by simpa [scaleF] using h), gt_lt h]; simp [scaleF]
  · rw [gt_ge (by simpa [scaleF] using h), gt_ge h, zero_mul]
theorem scale_length (l : List F) (x : F) : (scaleF l x).length = l.length := by simp [scaleF]

end Go.Proofs.Ytbmkcnlcffnjgaa
