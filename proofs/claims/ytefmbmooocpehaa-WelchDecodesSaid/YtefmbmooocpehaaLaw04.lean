/-
  THE CONTRACT OF LAW 04's OWN EXAMPLES (alive). No conditions.
-/
import Derived.Test.YtefmbmooocpehaaSys5
namespace Go.Proofs.Ytefmbmooocpehaa
open Go.RowKit
set_option maxRecDepth 100000
set_option linter.unusedVariables false

theorem T57 {T : List F} (h : Tells 2 [ofN 5, ofN 7] T) : T = [ofN 5, ofN 2] :=
  h.unique (by omega) ⟨by decide +kernel, by decide +kernel, fun i hi => by
    rw [mkF_length] at hi
    rcases (show i = 0 ∨ i = 1 by omega) with rfl | rfl <;> decide +kernel⟩
section
variable {W : World} {g : Nat}
theorem brow_lit (w : World) (l : List Bool) (n g : Nat) (hn : n = l.length) (hg : g = w.heap.size) (hl : l.length ≤ maxLen) (C : Array Value) (hC : C = (l.map Value.bool).toArray) (t : TypeId) : BRow (w.alloc (.cells C t)) (some ⟨g, 0, none⟩) n l := by
  subst hn hg hC
  refine ⟨rfl, hl, fun _ => ⟨w.heap.size, 0, rfl, by simp, fun i hi => ?_⟩⟩
  have h := heap_alloc_new w (.cells (l.map Value.bool).toArray t)
  rw [Nat.zero_add, cell_of_row _ _ i _ t (0, 0) h]
  simp [gb, hi]
end
end Go.Proofs.Ytefmbmooocpehaa
