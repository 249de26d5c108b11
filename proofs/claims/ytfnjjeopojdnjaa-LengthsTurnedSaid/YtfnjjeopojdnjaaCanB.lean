/-
  THE CONTRACTS OF canon.firstCodes, full, wrong, Codes. No conditions.
-/
import Derived.Test.YtfnjjeopojdnjaaCanA
namespace Go.Proofs.Ytfnjjeopojdnjaa
open Go.RowKit
set_option maxRecDepth 100000
set_option linter.unusedVariables false

theorem results_cell_one {P : Program} {fn : Func} {p : Tmp} {ty : TypeId} (h : fn.results = #[.cell p ty]) (tmps : Array Value) (w : World) :
    (results fn tmps).run P w = ((asAddr (tmps.getD p undef)).run P w).andThen fun a w₁ => (loadVar ty a).run P w₁ := by
  simp only [results, h]
  simp [Sem.run_bind, Result.andThen]
theorem cN_step {l : List Int} {k a : Nat} (ha : gi l k = (a : Int)) (h0 : 0 < a) (m : Nat) : cN l (k + 1) m = if m = a then cN l k a + 1 else cN l k m := by
  unfold cN
  rw [show cL l m (k + 1) = cL l m k + if gi l k = (m : Int) then 1 else 0 from rfl]
  by_cases e : m = a
  · subst e
    have h0' : ¬ m = 0 := by omega
    rw [if_neg h0', if_neg h0', if_pos rfl, if_pos ha]
  · rw [if_neg e, if_neg (c := gi l k = (m : Int)) (by omega)]
    rfl
theorem cN_skip {l : List Int} {k : Nat} (ha : gi l k = 0) (m : Nat) : cN l (k + 1) m = cN l k m := by
  unfold cN
  rw [show cL l m (k + 1) = cL l m k + if gi l k = (m : Int) then 1 else 0 from rfl]
  by_cases e : m = 0
  · rw [if_pos e, if_pos e]
  · rw [if_neg e, if_neg e, if_neg (by omega)]
    rfl
theorem cN_le (l : List Int) (k m : Nat) : cN l k m ≤ k := by
  unfold cN
  split
  · omega
  · exact cL_le l m k
/-- the first codes that are told by now -/
def fT (l : List Int) (k j : Nat) : Nat → Nat := fun i => if i ≤ j then fK l k i else 0
theorem fT_step (l : List Int) (k j i : Nat) (hi : i < 17) : fT l k (j + 1) i = if i = j + 1 then 2 * (fK l k j + cN l k j) else fT l k j i := by
  unfold fT
  by_cases e : i = j + 1
  · subst e
    rw [if_pos (Nat.le_refl _), if_pos rfl]
    rfl
  · rw [if_neg e]
    by_cases e2 : i ≤ j
    · rw [if_pos e2, if_pos (by omega)]
    · rw [if_neg e2, if_neg (by omega)]
theorem u32_eq2 (a b : Nat) : ((a : Int) == (b : Int)) = decide (a = b) := by
  rw [Bool.eq_iff_iff, beq_iff_eq, decide_eq_true_iff]
  omega
/-- the error of lengths -/
def errC (l : List Int) (n : Nat) : Nat :=
  if 288 < n ∨ RightB l n = false then 1 else if 32768 < kr l n then 30 else if kr l n < 32768 ∧ 2 ≤ totL l n then 31 else 0
end Go.Proofs.Ytfnjjeopojdnjaa
