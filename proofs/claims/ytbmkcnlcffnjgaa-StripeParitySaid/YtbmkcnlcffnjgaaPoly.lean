/-
  THE CONTRACTS OF PACKAGE poly: Clone, Degree, Trim. Rows are as great as memory lets them be.
-/
import Derived.Test.YtbmkcnlcffnjgaaGf4
import Derived.Test.YtbmkcnlcffnjgaaBase
import Derived.Deep.RegionHeld3
import Derived.Deep.AppendLies
import Derived.Lib.SliceRun
namespace Go.Proofs.Ytbmkcnlcffnjgaa
open Go.RowKit
set_option linter.unusedVariables false

set_option maxHeartbeats 400000 in
theorem Degree_c (A : Option Addr) (n c : Nat) (l : List F) (w : World) (h : Row w A n l) :
    Calls Try.prog 66 #[.slice A n c] w fun e w' => e = .returned (.int .i64 ((tl l n : Int) - 1)) ∧ w = w' := by
  have hm := h.max
  go_enter Try.func66, Try.ntmps66
  go_wp2
  go_loop [3] (fun i => ∃ k : Nat, k ≤ n ∧ i = .int .i64 ((k : Int) - 1) ∧ Hid (tl l k = tl l n)) (fun i => (intOf i + 1).toNat)
  case atStart => exact ⟨n, Nat.le_refl _, rfl, rfl⟩
  case round =>
    obtain ⟨k, hk, rfl, ht⟩ := hrel
    by_cases hk0 : 1 ≤ k
    · obtain ⟨j, rfl⟩ : ∃ j, k = j + 1 := ⟨k - 1, by omega⟩
      obtain ⟨b, o, rfl, _, hc⟩ := h.at_ (k := j) (by omega)
      have hb := n_beq (gt l j)
      have e : ((j + 1 : Nat) : Int) - 1 = (j : Int) := by omega
      rw [e]
      by_cases hz : gt l j = 0
      · rw [decide_eq_true hz] at hb
        have ht2 : Hid (tl l j = tl l n) := by
          have h1 := ht.out
          rw [tl_down hz] at h1
          exact h1
        clear hz ht e
        go_wp2
        go_round
        case rel => exact ⟨j, by omega, rfl, ht2⟩
        case measure => simp [intOf] <;> omega
      · rw [decide_eq_false hz] at hb
        have ht2 : Hid ((j : Int) = (tl l n : Int) - 1) := by
          have h1 := ht.out
          rw [tl_here hz] at h1
          unfold Hid
          omega
        clear hz ht e
        go_wp2
        go_ret
        exact ⟨ret_i64 ht2.out, rfl⟩
    · obtain rfl : k = 0 := by omega
      have ht2 : Hid (((0 : Nat) : Int) - 1 = (tl l n : Int) - 1) := by
        have h1 := ht.out
        rw [tl_none] at h1
        unfold Hid
        omega
      go_wp2
      go_ret
      exact ⟨ret_i64 ht2.out, rfl⟩

/-! ### Copies -/
end Go.Proofs.Ytbmkcnlcffnjgaa
