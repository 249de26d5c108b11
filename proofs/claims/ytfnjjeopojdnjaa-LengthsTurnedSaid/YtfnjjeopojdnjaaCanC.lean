/-
  THE CONTRACT OF canon.Codes. No conditions.
-/
import Derived.Test.YtfnjjeopojdnjaaCanB
import Derived.Deep.OwnRows
namespace Go.Proofs.Ytfnjjeopojdnjaa
open Go.RowKit
set_option maxRecDepth 100000
set_option linter.unusedVariables false

theorem info_u32 : (Try.prog.info? 69).map (fun i => (i.zero, i.size, i.bytes)) = some (some (.int .u32 0), 1, 4) := by kernel_rfl
theorem own_set_ne {w : World} {base n c g : Nat} {e : TypeId} {xs : List Value} (h : w.ownsRow base e 1 (.slice (some ⟨g, 0, none⟩) n c) n xs) {a : Addr} (ha : a.block ≠ g) (u : Value) : (w.setCell a u).ownsRow base e 1 (.slice (some ⟨g, 0, none⟩) n c) n xs := by
  refine ⟨h.1, ?_⟩
  rcases h.2 with hn | ⟨g', cap, cur, hv, hbg, hg, rest⟩
  · exact .inl hn
  · have e : g' = g := by injection hv with h1; injection h1 with h2; injection h2 with h3; exact h3.symm
    subst e
    exact .inr ⟨g', cap, cur, hv, hbg, (Go.Deep.blk_setCell_other _ _ _ _ (Ne.symm ha)).trans hg, rest⟩
/-- the codes that are told by now -/
def cT (l : List Int) (k : Nat) : Nat → Nat := fun i => if i < k then codeN l i else 0
theorem cT_step (l : List Int) (k i : Nat) : cT l (k + 1) i = if i = k then codeN l k else cT l k i := by
  unfold cT
  by_cases e : i = k
  · subst e
    rw [if_pos (by omega), if_pos rfl]
  · rw [if_neg e]
    by_cases e2 : i < k
    · rw [if_pos e2, if_pos (by omega)]
    · rw [if_neg e2, if_neg (by omega)]
theorem us_zero (n : Nat) : us (fun _ => 0) n = List.replicate n (.int .u32 0) := by
  refine List.ext_getElem (by rw [us_length, List.length_replicate]) fun i h1 h2 => ?_
  simp [us]
theorem errC_zero {l : List Int} {n : Nat} (h : errC l n = 0) : n ≤ 288 ∧ RightB l n = true ∧ kr l n ≤ 32768 ∧ (kr l n = 32768 ∨ totL l n < 2) := by
  unfold errC at h
  by_cases h1 : 288 < n ∨ RightB l n = false
  · rw [if_pos h1] at h; cases h
  · rw [if_neg h1] at h
    by_cases h2 : 32768 < kr l n
    · rw [if_pos h2] at h; cases h
    · rw [if_neg h2] at h
      by_cases h3 : kr l n < 32768 ∧ 2 ≤ totL l n
      · rw [if_pos h3] at h; cases h
      · refine ⟨by omega, ?_, by omega, by omega⟩
        cases hr : RightB l n with
        | true => rfl
        | false => exact absurd (.inr hr) h1
theorem errC_le (l : List Int) (n : Nat) : errC l n ≤ 31 := by
  unfold errC
  repeat' split
  all_goals omega
/-- the first codes as they are left over, by the first k -/
def nx (l : List Int) (n k : Nat) : Nat → Nat := fun m => fK l n m + cN l k m
theorem nx_zero (l : List Int) (n : Nat) : nx l n 0 = fK l n := by
  funext m
  unfold nx cN cL
  split <;> rfl
theorem nx_step {l : List Int} {n k a : Nat} (ha : gi l k = (a : Int)) (h0 : 0 < a) (m : Nat) : nx l n (k + 1) m = if m = a then nx l n k a + 1 else nx l n k m := by
  unfold nx
  rw [cN_step ha h0]
  by_cases e : m = a
  · subst e; rw [if_pos rfl, if_pos rfl]; rfl
  · rw [if_neg e, if_neg e]
end Go.Proofs.Ytfnjjeopojdnjaa
