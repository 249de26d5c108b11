/-
  LAW 03's WALK: LinearFinds: it returns true, and writes nothing that was there. No conditions.
-/
import Derived.Test.YtciljflnhleocaaLaw03a
import Derived.Test.YtciljflnhleocaaLaw04a
namespace Go.Proofs.Ytciljflnhleocaa
open Go.RowKit
set_option maxRecDepth 100000
set_option linter.unusedVariables false

section
variable {w : World} {A : Option Addr} {n cap : Nat} {RA : Nat → Option Addr} {RL RC : Nat → Nat} {R : Nat → List F}
theorem small_at (b : Bool) (h : MIn w A n cap RA RL RC R) (hb : decide (isS n RL) = b) : Calls Try.prog 11 #[.slice A n cap] w fun e w' => e = .returned (.bool b) ∧ w = w' := by
  subst hb; exact small_c h
theorem right_at (b : Bool) (h : MIn w A n cap RA RL RC R) (hb : decide (isR n RL) = b) : Calls Try.prog 15 #[.slice A n cap] w fun e w' => e = .returned (.bool b) ∧ ∃ q, w' = w.drewN q := by
  subst hb; exact RefRight_c h
end
end Go.Proofs.Ytciljflnhleocaa
