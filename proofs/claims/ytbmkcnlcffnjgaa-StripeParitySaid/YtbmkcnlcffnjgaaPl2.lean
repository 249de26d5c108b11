/-
  POLYNOMIALS OVER THE FIELD OF BYTES, MORE: the greatest coefficient of a product, quotients. No conditions.
-/
import Derived.Test.YtbmkcnlcffnjgaaBase
namespace Go.Proofs.Ytbmkcnlcffnjgaa
set_option linter.unusedVariables false

theorem pmul_ext {p p' q q' : List F} (hp : ∀ i, gt p i = gt p' i) (hq : ∀ i, gt q i = gt q' i) (r : Nat) : gt (pmul p q) r = gt (pmul p' q') r := by
  rw [gt_pmul, gt_pmul]
  exact sm_congr fun i _ => by rw [hp, hq]
theorem sm_one (n k : Nat) (x : F) (f : Nat → F) (hk : k < n) (h : ∀ i, i < n → i ≠ k → f i = 0) (hx : f k = x) : sm n f = x := by
  have e : sm n f = sm n fun j => if j = k then x else (fun _ => (0 : F)) j := sm_congr fun i hi => by
    by_cases h1 : i = k
    · subst h1; rw [if_pos rfl, hx]
    · rw [if_neg h1, h i hi h1]
  rw [e, sm_pick _ _ _ _ hk]
  have e2 : (sm n fun j => if j = k then (0 : F) else (fun _ => (0 : F)) j) = 0 := (sm_congr fun i _ => by split <;> rfl).trans (sm_zero n)
  rw [e2, zero_add]
/-- the greatest coefficient of a product -/
theorem pmul_top (p q : List F) (a b : Nat) (hp : ∀ i, a < i → gt p i = 0) (hq : ∀ i, b < i → gt q i = 0) : gt (pmul p q) (a + b) = gt p a * gt q b := by
  rw [gt_pmul]
  refine sm_one _ a _ _ (by omega) (fun i hi hne => ?_) (by rw [show a + b - a = b by omega])
  rcases Nat.lt_or_ge a i with h | h
  · rw [hp i h, zero_mul]
  · rw [hq _ (by omega), mul_zero]
/-- behind it there are noughts -/
theorem pmul_ge (p q : List F) (a b : Nat) (hp : ∀ i, a < i → gt p i = 0) (hq : ∀ i, b < i → gt q i = 0) (r : Nat) (hr : a + b < r) : gt (pmul p q) r = 0 := by
  rw [gt_pmul]
  refine (sm_congr fun i hi => ?_).trans (sm_zero _)
  rcases Nat.lt_or_ge a i with h | h
  · rw [hp i h, zero_mul]
  · rw [hq _ (by omega), mul_zero]
theorem pmul_none (p q : List F) (h : (∀ i, gt p i = 0) ∨ (∀ i, gt q i = 0)) (r : Nat) : gt (pmul p q) r = 0 := by
  rw [gt_pmul]
  refine (sm_congr fun i hi => ?_).trans (sm_zero _)
  rcases h with h | h
  · rw [h, zero_mul]
  · rw [h, mul_zero]
/-- one byte of the first row anew -/
theorem pmul_set (u q : List F) (k : Nat) (c : F) (hk : k < u.length) (h0 : gt u k = 0) (r : Nat) : gt (pmul (u.set k c) q) r = gt (pmul u q) r + (if k ≤ r then c * gt q (r - k) else 0) := by
  rw [gt_pmul, gt_pmul]
  by_cases h : k ≤ r
  · rw [if_pos h]
    have e : (sm (r + 1) fun j => gt (u.set k c) j * gt q (r - j)) = sm (r + 1) fun j => if j = k then c * gt q (r - k) else gt u j * gt q (r - j) := sm_congr fun i _ => by
      rw [gt_set _ _ _ _ hk]
      by_cases hi : i = k
      · subst hi; rw [if_pos rfl, if_pos rfl]
      · rw [if_neg hi, if_neg hi]
    rw [e, sm_pick _ _ _ _ (by omega)]
    congr 1
    refine sm_congr fun i _ => ?_
    by_cases hi : i = k
    · subst hi; rw [if_pos rfl, h0, zero_mul]
    · rw [if_neg hi]
  · rw [if_neg h, add_zero]
    refine sm_congr fun i hi => ?_
    rw [gt_set _ _ _ _ hk, if_neg (by omega)]
theorem pmul_padd_left (p p' q : List F) (r : Nat) : gt (pmul (padd p p') q) r = gt (pmul p q) r + gt (pmul p' q) r := by
  rw [gt_pmul, gt_pmul, gt_pmul, ← sm_add]
  exact sm_congr fun i _ => by rw [gt_padd, add_mul]
theorem sm_swap (n : Nat) (f : Nat → F) : sm n f = sm n fun i => f (n - 1 - i) := by
  induction n generalizing f with
  | zero => rfl
  | succ n ih =>
    rw [sm_first n fun i => f (n + 1 - 1 - i)]
    show sm n f + f n = _
    rw [ih f, add_comm]
    congr 1
    cases n with
    | zero => rfl
    | succ m => exact sm_congr fun i hi => by rw [show m + 1 + 1 - 1 - (i + 1) = m + 1 - 1 - i by omega]
theorem pmul_comm (p q : List F) (r : Nat) : gt (pmul p q) r = gt (pmul q p) r := by
  rw [gt_pmul, gt_pmul, sm_swap]
  refine sm_congr fun i hi => ?_
  rw [show r + 1 - 1 - i = r - i by omega, show r - (r - i) = i by omega, mul_comm]

/-- where a trimmed row ends -/
theorem tl_top {l : List F} {n : Nat} (hn : l.length = n) : (∀ i, tl l n ≤ i → gt l i = 0) := fun i hi => by
  rcases Nat.lt_or_ge i n with h | h
  · exact tl_zero_from l n i hi h
  · exact gt_ge (by omega)

/-- u times q, and r, are p; r is less than q; both are trimmed -/
structure IsDiv (p q u r : List F) : Prop where
  eq : ∀ i, gt p i = gt (pmul u q) i + gt r i
  lt : r.length < (tr q).length
  tu : tr u = u
  ts : tr r = r
theorem IsDiv.unique {p q u r u' r' : List F} (h : IsDiv p q u r) (h' : IsDiv p q u' r') : u = u' ∧ r = r' := by
  have hq : tr q ≠ [] := fun e => by have := h.lt; rw [e] at this; simp at this
  have hq1 := tr_last hq
  have hql := List.length_pos_iff.2 hq
  have hqt : ∀ i, (tr q).length - 1 < i → gt q i = 0 := fun i hi => by rw [← gt_tr]; exact gt_ge (by omega)
  have h1 : ∀ i, gt (pmul (padd u u') q) i = gt r i + gt r' i := fun i => by
    rw [pmul_padd_left]
    have e1 := h.eq i
    rw [h'.eq i] at e1
    have e2 : gt (pmul u q) i = gt (pmul u' q) i + gt r' i + gt r i := by rw [e1, add_cancel_right]
    rw [e2]
    have e3 : ∀ x y z : F, x + y + z + x = z + y := fun x y z => by
      have : x + y + z + x = (x + x) + (z + y) := by ac_rfl
      rw [this, add_self, zero_add]
    exact e3 _ _ _
  have hu : ∀ i, gt (padd u u') i = 0 := by
    by_cases hz : tr (padd u u') = []
    · exact (tr_nil_iff _).1 hz
    · exfalso
      have h2 := tr_last hz
      have h3 : ∀ i, (tr (padd u u')).length - 1 < i → gt (padd u u') i = 0 := fun i hi => by
        rw [← gt_tr]; exact gt_ge (by have := List.length_pos_iff.2 hz; omega)
      have h4 := pmul_top (padd u u') q _ _ h3 hqt
      rw [h1, gt_ge (l := r) (by have := h.lt; omega), gt_ge (l := r') (by have := h'.lt; omega), add_zero] at h4
      rcases mul_eq_zero.1 h4.symm with h5 | h5
      · exact h2 h5
      · exact hq1 h5
  have huu : ∀ i, gt u i = gt u' i := fun i => add_eq_zero.1 (by rw [← gt_padd]; exact hu i)
  have hrr : ∀ i, gt r i = gt r' i := fun i => add_eq_zero.1 (by rw [← h1]; exact pmul_none _ _ (.inl hu) i)
  refine ⟨?_, ?_⟩
  · rw [← h.tu, ← h'.tu]; exact tr_ext huu
  · rw [← h.ts, ← h'.ts]; exact tr_ext hrr
end Go.Proofs.Ytbmkcnlcffnjgaa
