/-
  LAW 03's WALK: LinearInverse: it returns true, and writes nothing that was there. No conditions.
-/
import Derived.Test.YtciljflnhleocaaLaw03c
import Derived.Test.YtciljflnhleocaaLaw03d
namespace Go.Proofs.Ytciljflnhleocaa
open Go.RowKit
set_option maxRecDepth 100000
set_option linter.unusedVariables false

theorem IsInv.congr {n : Nat} {M E E' : Nat → Nat → F} (h : IsInv n M E) (e : ∀ i, i < n → ∀ j, j < n → E i j = E' i j) : IsInv n M E' := fun x y => (h x y).trans
  ⟨fun k i hi => (dt_congr (fun j hj => (e i hi j hj).symm) (fun _ _ => rfl)).trans (k i hi), fun k i hi => (dt_congr (fun j hj => e i hi j hj) (fun _ _ => rfl)).trans (k i hi)⟩
theorem inv_behind {n : Nat} {R : Nat → List F} (hl : (redTo (augI n (mat R)) n n).2.length = n) : IsInv n (mat R) (mat (behind n (redTo (augI n (mat R)) n n).1)) :=
  (inv_of_red (mat R) hl).congr fun i hi j hj => by
    show _ = gt (mkF _ n) j
    rw [gt_mkF, if_pos hj]
theorem inv_times {n : Nat} {RL RL' : Nat → Nat} {R R' : Nat → List F} {x : List F} (hi : IsInv n (mat R) (mat R')) (hL : ∀ r, r < n → RL r = n) (hL' : ∀ r, r < n → RL' r = n) (hx : x.length = n) :
    timesF n RL' R' (timesF n RL R x) = x := by
  refine ext_gt (by rw [timesF_length, hx]) fun i hi' => ?_
  rw [timesF_length] at hi'
  rw [gt_times hL' (timesF_length _ _ _ _) hi']
  exact (hi (gt x) (gt (timesF n RL R x))).1 (fun i h => (gt_times hL hx h).symm) i hi'
theorem inv_back {n : Nat} {R I : Nat → List F} (hl : ∀ r, r < n → (R r).length = n) (hi : IsInv n (mat R) (mat I)) :
    (redTo (augI n (mat I)) n n).2.length = n ∧ ∀ r, r < n → behind n (redTo (augI n (mat I)) n n).1 r = R r := by
  have h1 : (redTo (augI n (mat I)) n n).2.length = n := by rw [pivots_augI]; exact hi.symm.rank
  refine ⟨h1, fun r hr => ?_⟩
  have h2 := (inv_behind h1).symm.unique hi
  refine ext_gt (by rw [hl r hr]; exact mkF_length _ _) fun j hj => ?_
  have e : (behind n (redTo (augI n (mat I)) n n).1 r).length = n := mkF_length _ _
  rw [e] at hj
  exact h2 r hr j hj
theorem rank_sq {n : Nat} {RL : Nat → Nat} {R : Nat → List F} (hr : isR n RL) (hnw : n = wid n RL) : rankIn n RL R = (redTo (augI n (mat R)) n n).2.length := by
  unfold rankIn
  rw [if_pos hr, ← hnw, pivots_augI]
  rfl
theorem wid_self (n : Nat) : n = wid n (fun _ => n) := by
  unfold wid
  by_cases h : n = 0
  · rw [if_pos h]; exact h
  · rw [if_neg h]
section
variable {w : World} {A : Option Addr} {n cap : Nat} {RA : Nat → Option Addr} {RL RC : Nat → Nat} {R : Nat → List F}
theorem rank_at (k : Nat) (h : MIn w A n cap RA RL RC R) (hn : n ≤ 1073741824) (hw : wid n RL ≤ 1073741824) (hk : rankIn n RL R = k) :
    Calls Try.prog 18 #[.slice A n cap] w fun e w' => e = .returned (.int .i64 k) ∧ Below w.heap.size w w' := by
  subst hk; exact Rank_c h hn hw
end
end Go.Proofs.Ytciljflnhleocaa
