/-
  THE CONTRACTS OF PACKAGE systematic: Encode, Is, At; of bytes.Equal. Words of at most 255 bytes.
-/
import Derived.Test.YtefmbmooocpehaaSys
import Derived.Deep.Onto
import Derived.Laws.Strings
namespace Go.Proofs.Ytefmbmooocpehaa
open Go.RowKit
set_option maxRecDepth 100000
set_option linter.unusedVariables false

theorem strB_list (l : List F) : (strB l).toList = l.map toB := by
  rw [ByteArray.toList_eq]
  simp [strB]
theorem strB_beq (l m : List F) : ((strB l).toList == (strB m).toList) = decide (l = m) := by
  rw [strB_list, strB_list]
  by_cases h : l = m
  · subst h; simp
  · rw [decide_eq_false h, beq_eq_false_iff_ne]
    exact fun e => h ((List.map_inj_right (fun x y e => e)).1 e)
/-- cut at the front -/
theorem Row.shift {w : World} {b o n : Nat} {l : List F} (h : Row w (some ⟨b, o, none⟩) n l) {k : Nat} (hk : k ≤ n) : Row w (some ⟨b, o + k, none⟩) (n - k) (l.drop k) := by
  refine ⟨by have := h.1; simp; omega, by have := h.2.1; omega, fun hk0 => ?_⟩
  obtain ⟨b', off, e, hb, hc⟩ := h.2.2 (by omega)
  injection e with e
  injection e with e1 e2
  subst e1 e2
  refine ⟨b, o + k, rfl, hb, fun i hi => ?_⟩
  have h2 := hc (k + i) (by omega)
  rw [gt_drop, ← h2, Nat.add_assoc]
theorem Row.some_ {w : World} {A : Option Addr} {n : Nat} {l : List F} (h : Row w A n l) (hn : 0 < n) : ∃ b o, A = some ⟨b, o, none⟩ := by
  obtain ⟨b, o, e, _⟩ := h.2.2 hn
  exact ⟨b, o, e⟩

end Go.Proofs.Ytefmbmooocpehaa
