/-
  THE CONTRACTS OF PACKAGE linear: Reduce, Rank, Times. Rows and columns of at most 2^30.
-/
import Derived.Test.YtcodgamhgfafnaaLinD
import Derived.Deep.Onto
namespace Go.Proofs.Ytcodgamhgfafnaa
open Go.RowKit
set_option maxRecDepth 100000
set_option linter.unusedVariables false

/-- how many columns there are -/
def wid (n : Nat) (RL : Nat → Nat) : Nat := if n = 0 then 0 else RL 0
theorem isR.all {n : Nat} {RL : Nat → Nat} (h : isR n RL) : ∀ r, r < n → RL r = wid n RL := fun r hr => by
  unfold wid
  rw [if_neg (by omega), h r hr]
theorem width_w {w : World} {A : Option Addr} {n cap : Nat} {RA : Nat → Option Addr} {RL RC : Nat → Nat} {R : Nat → List F} (h : MIn w A n cap RA RL RC R) :
    Calls Try.prog 43 #[.slice A n cap] w fun e w' => e = .returned (.int .i64 (wid n RL : Nat)) ∧ w = w' := width_c h
theorem Reduced.mono {w' : World} {base base' lo hi g n C r pc : Nat} {P : Option Addr} {X : (Nat → Nat → F) × List Nat} (h : Reduced w' base lo hi g n C P r pc X) (hb : base' ≤ base) : Reduced w' base' lo hi g n C P r pc X := by
  obtain ⟨K', G', h1, h2, h3⟩ := h
  exact ⟨K', G', h1, h2.mono hb, h3⟩
/-- the rank of what came in: 0 of what is no matrix -/
def rankIn (n : Nat) (RL : Nat → Nat) (R : Nat → List F) : Nat := if isR n RL then rankF (mat R) n (wid n RL) else 0
theorem own_len' {w : World} {base n c : Nat} {e : TypeId} {A : Option Addr} {xs : List Value} (h : w.ownsRow base e 1 (.slice A n c) n xs) : n = xs.length := by have := h.1; omega
/-- rows' sums of products -/
def timesF (n : Nat) (RL : Nat → Nat) (R : Nat → List F) (x : List F) : List F := mkF (fun r => dotF (R r) x (min (RL r) x.length)) n
theorem timesF_length (n : Nat) (RL : Nat → Nat) (R : Nat → List F) (x : List F) : (timesF n RL R x).length = n := mkF_length _ _
end Go.Proofs.Ytcodgamhgfafnaa
