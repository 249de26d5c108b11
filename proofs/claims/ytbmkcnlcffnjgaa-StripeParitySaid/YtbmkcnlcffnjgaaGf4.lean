/-
  THE CONTRACT OF LAW 01's OWN EXAMPLES (alive), and bytes as strings. No conditions.
-/
import Derived.Test.YtbmkcnlcffnjgaaScale2
import Derived.Laws.IdiomStrings
import Derived.ProofKit
namespace Go.Proofs.Ytbmkcnlcffnjgaa
open Go.RowKit
set_option maxRecDepth 100000

theorem ex_scale (w : World) (g : Nat) (h1 : Row w (some ⟨g, 0, none⟩) 1 [ofN 128]) : Calls Try.prog 58 #[.slice (some ⟨g, 0, none⟩) 1 1, .int .u8 2] w fun e w' => ∃ g', e = .returned (.slice (some ⟨g', 0, none⟩) 1 1) ∧ Row w' (some ⟨g', 0, none⟩) 1 [ofN 29] ∧ Below w.heap.size w w' := by
  have h := Scale_c _ 1 1 _ 2 w h1 (by omega)
  refine h.mono ?_
  rintro e w' ⟨g', rfl, ho, hb⟩
  exact ⟨g', rfl, Row.of_own ho, hb⟩
section
variable (w : World)
theorem ex_div : Calls Try.prog 56 #[.int .u8 29, .int .u8 2] w fun e w' => e = .returned (.tuple #[.int .u8 128, .bool true]) ∧ w = w' := by
  have h := Div_c (ofN 29) 2 w
  rw [show (divF (ofN 29) 2).n = 128 by decide +kernel] at h
  exact h
theorem ex_div0 : Calls Try.prog 56 #[.int .u8 1, .int .u8 0] w fun e w' => e = .returned (.tuple #[.int .u8 0, .bool false]) ∧ w = w' := by
  have h := Div_c 1 0 w
  exact h
theorem ex_mul : Calls Try.prog 54 #[.int .u8 128, .int .u8 2] w fun e w' => e = .returned (.int .u8 29) ∧ w = w' := by
  have h := Mul_c (ofN 128) 2 w
  rw [show (ofN 128 * (2 : F)).n = 29 by decide +kernel] at h
  exact h
theorem ex_inv : Calls Try.prog 65 #[.int .u8 1] w fun e w' => e = .returned (.int .u8 1) ∧ w = w' := by
  have h := Inv_c 1 w
  rw [show (inv 1).n = 1 by decide +kernel] at h
  exact h
theorem ex_pow : Calls Try.prog 71 #[.int .u8 3, .int .i64 255] w fun e w' => e = .returned (.int .u8 1) ∧ w = w' := by
  have h := Pow_c (ofN 3) 255 w
  rw [show (pwZ (ofN 3) 255).n = 1 by decide +kernel] at h
  exact h
theorem ex_add : Calls Try.prog 53 #[.int .u8 5, .int .u8 3] w fun e w' => e = .returned (.int .u8 6) ∧ w = w' := by
  have h := Add_c (ofN 5) (ofN 3) w
  exact h
end
end Go.Proofs.Ytbmkcnlcffnjgaa
