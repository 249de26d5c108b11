/-
  THE CONTRACTS OF PACKAGE systematic: fits, values, first. Words of at most 255 bytes.
-/
import Derived.Test.YtefmbmooocpehaaCode
namespace Go.Proofs.Ytefmbmooocpehaa
open Go.RowKit
set_option maxRecDepth 100000
set_option linter.unusedVariables false

theorem plI_lt {i : Nat} (h : i < 256) : (plI i).n = i := by rw [plI_n]; omega
theorem Eval_at (A : Option Addr) (n c : Nat) (l : List F) (j : Nat) (hj : j < 256) (w : World) (h : Row w A n l) :
    Calls Try.prog 14 #[.slice A n c, .int .u8 j] w fun e w' => e = .returned (.int .u8 (ev l (plI j)).n) ∧ ∃ q, w' = w.drewN q := by
  have h1 := Eval_c A n c l (plI j) w h
  rw [plI_lt hj] at h1
  exact h1
end Go.Proofs.Ytefmbmooocpehaa
