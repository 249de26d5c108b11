/-
  LAW 03's WALK: LinearTimes: it returns true, and writes nothing that was there. No conditions.
-/
import Derived.Test.YtciljflnhleocaaLaw03b
namespace Go.Proofs.Ytciljflnhleocaa
open Go.RowKit
set_option maxRecDepth 100000
set_option linter.unusedVariables false

/-- a unit as a row -/
def unitL (m p : Nat) : List F := (List.replicate m 0).set p 1
theorem unitL_length (m p : Nat) : (unitL m p).length = m := by simp [unitL]
theorem gt_unitL {m p : Nat} (hp : p < m) (j : Nat) : gt (unitL m p) j = eU p j := by
  unfold unitL eU
  rw [gt_set _ _ _ _ (by simpa using hp), gt_replicate]
theorem times_unit {n L : Nat} {RL : Nat → Nat} {R : Nat → List F} {p : Nat} (hL : ∀ r, r < n → RL r = L) (hp : p < L) {r : Nat} (hr : r < n) : gt (timesF n RL R (unitL L p)) r = gt (R r) p := by
  rw [gt_times hL (unitL_length _ _) hr, dt_congr (x' := eU p) (fun _ _ => rfl) (fun j _ => gt_unitL hp j), dt_unit _ hp]
  rfl
/-- the sum of two rows -/
def sumL (x y : List F) (k : Nat) : List F := mkF (fun i => gt x i + gt y i) k
theorem times_sum {n L : Nat} {RL : Nat → Nat} {R : Nat → List F} {x y : List F} (hL : ∀ r, r < n → RL r = L) (hx : x.length = L) (hy : y.length = L) {r : Nat} (hr : r < n) :
    gt (timesF n RL R (sumL x y L)) r = gt (timesF n RL R x) r + gt (timesF n RL R y) r := by
  rw [gt_times hL (x := sumL x y L) (mkF_length _ _) hr, gt_times hL hx hr, gt_times hL hy hr, ← dt_add_right]
  refine dt_congr (fun _ _ => rfl) fun j hj => ?_
  unfold sumL
  rw [gt_mkF, if_pos hj]
end Go.Proofs.Ytciljflnhleocaa
