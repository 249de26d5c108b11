/-
  THE CONTRACTS OF THE DOCUMENT's OWN ANSWERS FOR LAYER 2: Add, Eval, Mul, Unlike. Rows of at most 2^30 bytes.
-/
import Derived.Test.YtcodgamhgfafnaaRef2
namespace Go.Proofs.Ytcodgamhgfafnaa
open Go.RowKit
set_option maxRecDepth 100000
set_option linter.unusedVariables false

theorem own_none {w : World} {base n c : Nat} {e : TypeId} {A : Option Addr} {xs : List Value} (h : w.ownsRow base e 1 (.slice A n c) n xs) : A = none → c = 0 := by
  intro hA
  rcases h.2 with ⟨hv, _⟩ | ⟨g, cap, _, hv, _⟩
  · injection hv
  · injection hv with hA2
    rw [hA] at hA2
    cases hA2
end Go.Proofs.Ytcodgamhgfafnaa
