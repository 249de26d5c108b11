/-
  LENGTHS' AND DISTANCES' CODES: the document's own Length and Dist, the order, the laws' own examples. No conditions.
-/
import Derived.Test.YtbphbogolffanaaDoorSymR
import Derived.Test.YtbphbogolffanaaDoorSameI
namespace Go.Proofs.YtbphbogolffanaaDoor
open Go.RowKit
set_option maxRecDepth 100000
set_option linter.unusedVariables false

/-! ### The order -/
def ordL : List Int := [16, 17, 18, 0, 8, 7, 9, 6, 10, 5, 11, 4, 12, 3, 13, 2, 14, 1, 15]
def ordC : Array Value := (ordL.map fun x => Value.int .i64 x).toArray
def ordV (w : World) : World := w.alloc (.cells ordC 3)
set_option maxHeartbeats 400000 in
theorem Order_c (w : World) : Calls Tryd.prog 63 #[] w fun e w' => e = .returned (.slice (some ⟨w.heap.size, 0, none⟩) 19 19) ∧ w' = ordV w := by
  go_enter Tryd.func63, Tryd.ntmps63
  go_wp2
  go_ret
  exact ⟨rfl, rfl⟩
set_option maxHeartbeats 400000 in
theorem RefOrder_c (w : World) : Calls Tryd.prog 34 #[] w fun e w' => e = .returned (.slice (some ⟨w.heap.size, 0, none⟩) 19 19) ∧ w' = ordV w := by
  go_enter Tryd.func34, Tryd.ntmps34
  go_wp2
  go_ret
  exact ⟨rfl, rfl⟩
theorem ordV_below (w : World) : Below w.heap.size w (ordV w) := (Below.refl _ _).alloc (Nat.le_refl _) _
theorem ordV_row (w : World) : IRow (ordV w) (some ⟨w.heap.size, 0, none⟩) 19 .i64 ordL := by
  refine ⟨rfl, by unfold maxLen; omega, fun _ => ⟨w.heap.size, 0, rfl, by simp [ordV], fun i hi => ?_⟩, ?_⟩
  · have h := heap_alloc_new w (.cells ordC 3)
    rw [Nat.zero_add]
    show (w.alloc _).cell? _ = _
    rw [cell_of_row _ _ i _ 3 (0, 0) h]
    have : ∀ i, i < 19 → ordC[i]? = some (.int .i64 (gi ordL i)) := by
      intro i hi
      have hl : i < ordL.length := hi
      unfold ordC gi
      rw [List.getElem?_toArray, List.getElem?_map, List.getD_eq_getElem?_getD, List.getElem?_eq_getElem hl]
      rfl
    exact this i hi
  · have : ∀ i, i < 19 → (Lit.int .i64 (gi ordL i)).wf = true := by decide +kernel
    exact this
theorem ordV_size (w : World) : (ordV w).heap.size = w.heap.size + 1 := by simp [ordV]
end Go.Proofs.YtbphbogolffanaaDoor
