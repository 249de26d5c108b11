/-
  A FINDER THAT NOTHING WAS FOUND BY YET: its cells. No conditions.
-/
import Derived.Test.YtldgdofefcehnaaGreatDoorBase
namespace Go.Proofs.YtldgdofefcehnaaGreatDoor
open Go.RowKit
set_option maxRecDepth 100000
set_option linter.unusedVariables false
def isZ32 : Value → Bool
 | .int .i32 n => n == 0
 | _ => false
theorem isZ32_of {v : Value} (h : isZ32 v = true) : v = .int .i32 0 := by
 unfold isZ32 at h
 split at h
 ·rw [beq_iff_eq] at h; rw [h]
 ·cases h
def chkZ : Nat → List Value → Bool
 | 0, _ => true
 | _ + 1, [] => false
 | n + 1, v :: r => match isZ32 v with
  | true => chkZ n r
  | false => false
theorem chkZ_at : ∀ {n : Nat} {l : List Value} {i : Nat}, chkZ n l = true → i < n → l[i]? = some (.int .i32 0) := by
 intro n
 induction n with
 | zero => intro l i _ h; omega
 | succ n ih =>
  intro l i h hi
  cases l with
  | nil => cases h
  | cons v r =>
   cases hv : isZ32 v with
   | false => unfold chkZ at h; rw [hv] at h; cases h
   | true =>
    have h : chkZ n r = true := by unfold chkZ at h; rw [hv] at h; exact h
    cases i with
    | zero => rw [isZ32_of hv]; rfl
    | succ i => exact (ih h (by omega) : r[i]? = _)
end Go.Proofs.YtldgdofefcehnaaGreatDoor
