/-
  THE CONTRACT OF poly.DivMod. Rows are as great as memory lets them be.
-/
import Derived.Test.YtbmkcnlcffnjgaaPoly5
import Derived.Test.YtbmkcnlcffnjgaaBase
namespace Go.Proofs.Ytbmkcnlcffnjgaa
open Go.RowKit
set_option maxRecDepth 100000
set_option linter.unusedVariables false

/-- one step of the division -/
theorem div_step {p q U S S' : List F} {b j : Nat} {c : F} (hb : 1 ≤ b) (hj : j < U.length) (hU : gt U j = 0) (hq : ∀ i, b ≤ i → gt q i = 0) (hc : gt S (j + (b - 1)) + gt q (b - 1) * c = 0)
    (he : ∀ r, gt p r = gt (pmul U q) r + gt S r) (hz : ∀ r, j + 1 + (b - 1) ≤ r → gt S r = 0) (hS : ∀ r, gt S' r = gt S r + if j ≤ r ∧ r < j + b then gt q (r - j) * c else 0) :
    (∀ r, gt p r = gt (pmul (U.set j c) q) r + gt S' r) ∧ (∀ r, j + (b - 1) ≤ r → gt S' r = 0) := by
  constructor
  · intro r
    rw [pmul_set _ _ _ _ hj hU, hS, he r]
    by_cases h1 : j ≤ r
    · rw [if_pos h1]
      by_cases h2 : r < j + b
      · rw [if_pos ⟨h1, h2⟩, mul_comm c]
        have e : ∀ x y z : F, x + y = x + z + (y + z) := fun x y z => by
          have : x + z + (y + z) = x + y + (z + z) := by ac_rfl
          rw [this, add_self, add_zero]
        exact e _ _ _
      · rw [if_neg (by omega), hq _ (by omega), mul_zero, add_zero, add_zero]
    · rw [if_neg h1, if_neg (by omega), add_zero, add_zero]
  · intro r hr
    rw [hS]
    by_cases h1 : r = j + (b - 1)
    · subst h1
      rw [if_pos (by omega), show j + (b - 1) - j = b - 1 by omega]
      exact hc
    · rw [if_neg (by omega), add_zero, hz r (by omega)]
theorem div_end {p q U S : List F} {a b N : Nat} (ha : (tr p).length = a) (hb : (tr q).length = b) (hb1 : 1 ≤ b) (hab : b ≤ a) (hN : N = a - (b - 1)) (hU : U.length = N)
    (he : ∀ r, gt p r = gt (pmul U q) r + gt S r) (hz : ∀ r, b - 1 ≤ r → gt S r = 0) : IsDiv p q U (tr S) := by
  have hq : ∀ i, b - 1 < i → gt q i = 0 := fun i hi => by rw [← gt_tr]; exact gt_ge (by omega)
  have hUt : ∀ i, N - 1 < i → gt U i = 0 := fun i hi => gt_ge (by omega)
  refine ⟨fun i => by rw [gt_tr]; exact he i, ?_, tr_of_last (.inr ?_), tr_tr S⟩
  · have h1 : (tr S).length ≤ b - 1 := by rw [tr_length]; exact tl_le_of _ _ _ hz
    omega
  · rw [hU]
    intro e
    have h1 := he (a - 1)
    have h2 := pmul_top U q (N - 1) (b - 1) hUt hq
    rw [show N - 1 + (b - 1) = a - 1 by omega, e, zero_mul] at h2
    rw [h2, hz _ (by omega), add_zero] at h1
    have h3 : tr p ≠ [] := fun e2 => by rw [e2] at ha; simp at ha; omega
    have h4 := tr_last h3
    rw [ha] at h4
    exact h4 h1
theorem div_less {p q : List F} (h : (tr p).length < (tr q).length) : IsDiv p q [] (tr p) :=
  ⟨fun i => by rw [gt_tr, show gt (pmul [] q) i = 0 from rfl, zero_add], h, rfl, tr_tr p⟩
theorem results_tmp3' {fn : Func} {t u v : Tmp} (h : fn.results = #[.tmp t, .tmp u, .tmp v]) (tmps : Array Value) (P : Program) (w : World) :
    (results fn tmps).run P w = .ok (.tuple #[tmps.getD t undef, tmps.getD u undef, tmps.getD v undef]) w := by simp [results, h]

end Go.Proofs.Ytbmkcnlcffnjgaa
