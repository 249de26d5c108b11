/-
  ROWS OF INTS HELD AGAINST EACH OTHER; A NUMBER HELD WITHIN BOUNDS. No conditions.
-/
import Derived.Test.YtbphbogolffanaaDoorNum
namespace Go.Proofs.YtbphbogolffanaaDoor
open Go.RowKit
set_option maxRecDepth 100000
set_option linter.unusedVariables false

theorem gi_ext {l m : List Int} (h : l.length = m.length) (h2 : ∀ i, i < l.length → gi l i = gi m i) : l = m := by
  refine List.ext_getElem h fun i h3 h4 => ?_
  have := h2 i h3
  unfold gi at this
  rw [List.getD_eq_getElem?_getD, List.getD_eq_getElem?_getD, List.getElem?_eq_getElem h3, List.getElem?_eq_getElem h4] at this
  exact this
theorem gi_all {l m : List Int} {k : Nat} (hk : k = l.length) (h : l.length = m.length) (h2 : ∀ i, i < k → gi l i = gi m i) : l = m := gi_ext h (by rw [← hk]; exact h2)
def heldI (x lo hi : Int) : Int := if (if hi < x then hi else x) < lo then lo else (if hi < x then hi else x)
theorem HeldI_c (x lo hi : Int) (w : World) : Calls Tryd.prog 50 #[.int .i64 x, .int .i64 lo, .int .i64 hi] w fun e w' => e = .returned (.int .i64 (heldI x lo hi)) ∧ w = w' := by
  unfold heldI
  go_enter Tryd.func50, Tryd.ntmps50
  go_wp2
  all_goals (go_ret; exact ⟨ret_i64 (by omega), rfl⟩)
theorem heldI_in (x lo hi : Int) (h : lo ≤ hi) : lo ≤ heldI x lo hi ∧ heldI x lo hi ≤ hi := by unfold heldI; omega
end Go.Proofs.YtbphbogolffanaaDoor
