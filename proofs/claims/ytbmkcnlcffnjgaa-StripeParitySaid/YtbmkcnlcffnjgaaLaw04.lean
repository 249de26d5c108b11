/-
  THE CONTRACT OF LAW 04's OWN EXAMPLES (alive). No conditions.
-/
import Derived.Test.YtbmkcnlcffnjgaaSys5
namespace Go.Proofs.Ytbmkcnlcffnjgaa
open Go.RowKit
set_option maxRecDepth 100000
set_option linter.unusedVariables false

theorem T57 {T : List F} (h : Tells 2 [ofN 5, ofN 7] T) : T = [ofN 5, ofN 2] :=
  h.unique (by omega) ⟨by decide +kernel, by decide +kernel, fun i hi => by
    rw [mkF_length] at hi
    rcases (show i = 0 ∨ i = 1 by omega) with rfl | rfl <;> decide +kernel⟩
section
variable {W : World} {g : Nat}
theorem ex4_enc (h1 : Row W (some ⟨g, 0, none⟩) 2 [ofN 5, ofN 7]) :
    Calls Try.prog 44 #[.slice (some ⟨g, 0, none⟩) 2 2, .int .i64 1] W fun e w' => ∃ g', e = .returned (.tuple #[.slice (some ⟨g', 0, none⟩) 1 1, .int .i64 0]) ∧ Row w' (some ⟨g', 0, none⟩) 1 [1] ∧ Below W.heap.size W w' := by
  refine (Encode_ok _ 2 2 1 _ W h1.in_ (by omega) (by omega)).mono ?_
  rintro e w' ⟨g', T, rfl, hown, ht, hb⟩
  have e := T57 ht
  subst e
  exact ⟨g', rfl, own_r hown (by decide +kernel), hb⟩
theorem ex4_is (h1 : Row W (some ⟨g, 0, none⟩) 3 [ofN 5, ofN 7, 1]) :
    Calls Try.prog 21 #[.slice (some ⟨g, 0, none⟩) 3 3, .int .i64 2] W fun e w' => e = .returned (.bool true) ∧ Below W.heap.size W w' := by
  refine (Is_yes _ 3 3 2 _ W h1.in_ (by omega) (by omega) (by omega)).mono ?_
  rintro e w' ⟨T, rfl, ht, hb⟩
  have e := T57 ht
  subst e
  exact ⟨ret_bool (by decide +kernel), hb⟩
theorem ex4_isnt (h1 : Row W (some ⟨g, 0, none⟩) 3 [ofN 5, ofN 7, ofN 2]) :
    Calls Try.prog 21 #[.slice (some ⟨g, 0, none⟩) 3 3, .int .i64 2] W fun e w' => e = .returned (.bool false) ∧ Below W.heap.size W w' := by
  refine (Is_yes _ 3 3 2 _ W h1.in_ (by omega) (by omega) (by omega)).mono ?_
  rintro e w' ⟨T, rfl, ht, hb⟩
  have e := T57 ht
  subst e
  exact ⟨ret_bool (by decide +kernel), hb⟩
theorem brow_lit (w : World) (l : List Bool) (n g : Nat) (hn : n = l.length) (hg : g = w.heap.size) (hl : l.length ≤ maxLen) (C : Array Value) (hC : C = (l.map Value.bool).toArray) (t : TypeId) : BRow (w.alloc (.cells C t)) (some ⟨g, 0, none⟩) n l := by
  subst hn hg hC
  refine ⟨rfl, hl, fun _ => ⟨w.heap.size, 0, rfl, by simp, fun i hi => ?_⟩⟩
  have h := heap_alloc_new w (.cells (l.map Value.bool).toArray t)
  rw [Nat.zero_add, cell_of_row _ _ i _ t (0, 0) h]
  simp [gb, hi]
end
end Go.Proofs.Ytbmkcnlcffnjgaa
