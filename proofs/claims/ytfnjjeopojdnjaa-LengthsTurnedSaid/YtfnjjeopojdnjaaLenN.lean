/-
  OF AS MANY THAT COME AS OFTEN EACH HAS THE SAME LENGTH; ONE THAT COMES MORE THAN ALL OTHERS HAS THE LENGTH 1: the mathematics. No conditions.
-/
import Derived.Test.YtfnjjeopojdnjaaLaw09
namespace Go.Proofs.Ytfnjjeopojdnjaa
set_option linter.unusedVariables false

theorem sumF_apart (f : Nat → Nat) {s n : Nat} (h : s < n) : sumF f n = f s + sumF (fun v => if v = s then 0 else f v) n := by
  rw [← sumF_ind f h, ← sumF_add]
  refine sumF_congr fun v _ => ?_
  by_cases e : v = s
  · rw [if_pos e, if_pos e, Nat.add_zero]
  · rw [if_neg e, if_neg e, Nat.zero_add]
theorem sumF_strict {f : Nat → Nat} {c n i : Nat} (h : ∀ v, v < n → c ≤ f v) (hi : i < n) (hs : c < f i) : n * c < sumF f n := by
  have h1 := sumF_apart f hi
  have h2 := sumF_apart (fun _ => c) hi
  rw [sumF_const] at h2
  have h3 : sumF (fun v => if v = i then 0 else c) n ≤ sumF (fun v => if v = i then 0 else f v) n := sumF_le fun v hv => by
    split
    · exact Nat.le_refl _
    · exact h v hv
  omega
theorem even_all : allLt 8 (fun k => allLt 16 fun x => decide (x = 0 ∨ k = 0 ∨ ((4 + 3 * k) * 2 ^ (15 - k) ≤ 4 * 2 ^ (15 - x) + 3 * 2 ^ (15 - k) * x ∧ (x = k ∨ (4 + 3 * k) * 2 ^ (15 - k) < 4 * 2 ^ (15 - x) + 3 * 2 ^ (15 - k) * x)))) = true := by decide +kernel
theorem even_at {k x : Nat} (hk : 1 ≤ k) (hk7 : k ≤ 7) (hx : 1 ≤ x) (hx15 : x ≤ 15) : (4 + 3 * k) * 2 ^ (15 - k) ≤ 4 * 2 ^ (15 - x) + 3 * 2 ^ (15 - k) * x ∧ (x = k ∨ (4 + 3 * k) * 2 ^ (15 - k) < 4 * 2 ^ (15 - x) + 3 * 2 ^ (15 - k) * x) := by
  have h := allLt_at (allLt_at even_all (show k < 8 by omega)) (show x < 16 by omega)
  rw [decide_eq_true_eq] at h
  rcases h with h | h | h
  · omega
  · omega
  · exact h
theorem come_full {fr : List Int} {n : Nat} (h : ∀ v, v < n → 0 < gi fr v) : (comeN fr n).length = n := by
  rw [comeN_sum, sumF_congr (g := fun _ => 1) fun v hv => if_pos (h v hv), sumF_const, Nat.mul_one]
theorem kr_full {fr : List Int} {n : Nat} (o : Nat → Nat) (h : ∀ v, v < n → 0 < gi fr v) : krF fr o n = sumF (fun v => 2 ^ (15 - o v)) n := sumF_congr fun v hv => if_pos (h v hv)
theorem pow_NP {k : Nat} (hk : k ≤ 15) : 2 ^ k * 2 ^ (15 - k) = 32768 := by rw [← Nat.pow_add, show k + (15 - k) = 15 by omega]
/-- 2^k that come as often -/
theorem even_len {fr : List Int} {k w m : Nat} {A : Nat → Nat} (hk7 : k ≤ 7) (hw : 1 ≤ w) (hf : ∀ v, v < 2 ^ k → gi fr v = (w : Nat)) (h : MadeX fr (2 ^ k) 15 m A) (hm : m = 2 ^ k) : ∀ v, v < 2 ^ k → A v = max k 1 := by
  have hp : ∀ v, v < 2 ^ k → 0 < gi fr v := fun v hv => by rw [hf v hv]; omega
  have hfull := h.full
  rw [kr_full A hp] at hfull
  by_cases hk : k = 0
  · subst hk
    rw [if_neg (show ¬ m = 0 by simp [hm]), if_pos (show m = 1 by simp [hm])] at hfull
    intro v hv
    obtain rfl : v = 0 := by simp at hv; omega
    have h1 : 0 + 2 ^ (15 - A 0) = 16384 := hfull
    have h2 := h.pos 0 hv (hp 0 hv)
    have h3 := h.most 0
    have key : ∀ x, x < 16 → 1 ≤ x → 0 + 2 ^ (15 - x) = 16384 → x = 1 := by decide
    exact key (A 0) (by omega) h2 h1
  · have hN2 : 2 ≤ 2 ^ k := by
      have := Nat.pow_le_pow_right (n := 2) (by decide) (show 1 ≤ k by omega)
      simpa using this
    rw [if_neg (by omega), if_neg (by omega)] at hfull
    have hNP := pow_NP (k := k) (by omega)
    have hl := h.least (fun _ => k) (fun v _ _ => ⟨by omega, by omega⟩) (by
      rw [kr_full _ hp, sumF_const, hNP]
      exact Nat.le_refl _)
    have e1 : ∀ o : Nat → Nat, coF fr o (2 ^ k) = w * sumF o (2 ^ k) := fun o => by
      rw [← sumF_mul]
      exact sumF_congr fun v hv => by rw [hf v hv, Int.toNat_natCast]
    rw [e1, e1, sumF_const] at hl
    have hS := Nat.le_of_mul_le_mul_left hl (by omega)
    intro v hv
    rw [show max k 1 = k by omega]
    rcases (even_at (by omega) hk7 (h.pos v hv (hp v hv)) (h.most v)).2 with h1 | h1
    · exact h1
    · exfalso
      have h2 := sumF_strict (f := fun v => 4 * 2 ^ (15 - A v) + 3 * 2 ^ (15 - k) * A v) (fun v hv => (even_at (by omega) hk7 (h.pos v hv (hp v hv)) (h.most v)).1) hv h1
      rw [sumF_add, sumF_mul, sumF_mul, hfull] at h2
      have h3 : 3 * 2 ^ (15 - k) * sumF A (2 ^ k) ≤ 3 * 2 ^ (15 - k) * (2 ^ k * k) := Nat.mul_le_mul_left _ hS
      have h4 : 3 * 2 ^ (15 - k) * (2 ^ k * k) = 3 * k * 32768 := by
        rw [← hNP]
        rw [Nat.mul_comm (2 ^ k) k, ← Nat.mul_assoc, Nat.mul_assoc 3, Nat.mul_comm (2 ^ (15 - k)) k, ← Nat.mul_assoc, Nat.mul_assoc (3 * k), Nat.mul_comm (2 ^ (15 - k))]
      have h5 : 2 ^ k * ((4 + 3 * k) * 2 ^ (15 - k)) = (4 + 3 * k) * 32768 := by rw [← hNP, Nat.mul_left_comm]
      rw [h5] at h2
      have h6 : (4 + 3 * k) * 32768 = 4 * 32768 + 3 * k * 32768 := Nat.add_mul ..
      omega
theorem much_no : ∀ k, 1 ≤ k → k ≤ 7 → ∀ a, 2 ≤ a → a ≤ 15 → 6 * 2 ^ k + 1 < 3 * 2 ^ k * a + 4 ∧ (a = 2 → 2 ^ (15 - k) < 4 * 2 ^ (15 - a)) ∧ (3 ≤ a → 6 * 2 ^ k + 1 < 3 * 2 ^ k * a) := by
  have key : allLt 8 (fun k => allLt 16 fun a => decide (k = 0 ∨ a < 2 ∨ (6 * 2 ^ k + 1 < 3 * 2 ^ k * a + 4 ∧ (a = 2 → 2 ^ (15 - k) < 4 * 2 ^ (15 - a)) ∧ (3 ≤ a → 6 * 2 ^ k + 1 < 3 * 2 ^ k * a)))) = true := by decide +kernel
  intro k h1 h2 a h3 h4
  have h := allLt_at (allLt_at key (show k < 8 by omega)) (show a < 16 by omega)
  rw [decide_eq_true_eq] at h
  rcases h with h | h | h
  · omega
  · omega
  · exact h
/-- one that comes more often than all others together -/
theorem much_len {fr : List Int} {k w m s : Nat} {A : Nat → Nat} (hk : 1 ≤ k) (hk7 : k ≤ 7) (hw : 1 ≤ w) (hs : s < 2 ^ k) (hf : ∀ v, v < 2 ^ k → gi fr v = if v = s then ((w * 2 ^ k : Nat) : Int) else (w : Nat)) (h : MadeX fr (2 ^ k) 15 m A) (hm : m = 2 ^ k) : A s = 1 := by
  have hN2 : 2 ≤ 2 ^ k := by
    have := Nat.pow_le_pow_right (n := 2) (by decide) hk
    simpa using this
  have hwN : 1 ≤ w * 2 ^ k := Nat.mul_pos hw (by omega)
  have hp : ∀ v, v < 2 ^ k → 0 < gi fr v := fun v hv => by
    rw [hf v hv]
    split <;> omega
  have hfull := h.full
  rw [kr_full A hp, if_neg (by omega), if_neg (by omega), sumF_apart _ hs] at hfull
  have hNP := pow_NP (k := k) (by omega)
  have hNP1 := pow_NP (k := k + 1) (by omega)
  have hl := h.least (fun v => if v = s then 1 else k + 1) (fun v _ _ => by split <;> omega) (by
    rw [kr_full _ hp, sumF_apart _ hs]
    have h1 : sumF (fun v => if v = s then 0 else 2 ^ (15 - if v = s then 1 else k + 1)) (2 ^ k) ≤ 2 ^ k * 2 ^ (15 - (k + 1)) := by
      rw [← sumF_const]
      refine sumF_le fun v hv => ?_
      by_cases e : v = s
      · rw [if_pos e]; exact Nat.zero_le _
      · rw [if_neg e, if_neg e]; exact Nat.le_refl _
    have h2 : 2 ^ (15 - if s = s then 1 else k + 1) = 16384 := by rw [if_pos rfl]
    have h3 : 2 * (2 ^ k * 2 ^ (15 - (k + 1))) = 32768 := by rw [← hNP1, Nat.pow_succ]; rw [Nat.mul_comm (2 ^ k) 2, Nat.mul_assoc]
    show 2 ^ (15 - if s = s then 1 else k + 1) + _ ≤ 32768
    omega)
  have e1 : ∀ o : Nat → Nat, coF fr o (2 ^ k) = w * (2 ^ k * o s + sumF (fun v => if v = s then 0 else o v) (2 ^ k)) := fun o => by
    unfold coF
    rw [sumF_apart _ hs, hf s hs, if_pos rfl, Int.toNat_natCast, Nat.mul_add, Nat.mul_assoc, ← sumF_mul]
    congr 1
    refine sumF_congr fun v hv => ?_
    by_cases e : v = s
    · rw [if_pos e, if_pos e, Nat.mul_zero]
    · rw [if_neg e, if_neg e, hf v hv, if_neg e, Int.toNat_natCast]
  rw [e1, e1, if_pos rfl] at hl
  have hl2 := Nat.le_of_mul_le_mul_left hl hw
  have e2 : ∀ c, sumF (fun v => if v = s then 0 else c) (2 ^ k) + c = 2 ^ k * c := fun c => by
    have := sumF_apart (fun _ => c) hs
    rw [sumF_const] at this
    omega
  have e3 : sumF (fun v => if v = s then 0 else (if v = s then 1 else k + 1)) (2 ^ k) = sumF (fun v => if v = s then 0 else k + 1) (2 ^ k) := sumF_congr fun v _ => by
    by_cases e : v = s
    · rw [if_pos e, if_pos e]
    · rw [if_neg e, if_neg e, if_neg e]
  rw [e3] at hl2
  have hlow : sumF (fun v => if v = s then 0 else (4 + 3 * k) * 2 ^ (15 - k)) (2 ^ k) ≤ 4 * sumF (fun v => if v = s then 0 else 2 ^ (15 - A v)) (2 ^ k) + 3 * 2 ^ (15 - k) * sumF (fun v => if v = s then 0 else A v) (2 ^ k) := by
    rw [← sumF_mul, ← sumF_mul, ← sumF_add]
    refine sumF_le fun v hv => ?_
    by_cases e : v = s
    · rw [if_pos e]; exact Nat.zero_le _
    · rw [if_neg e, if_neg e, if_neg e]
      exact (even_at hk hk7 (h.pos v hv (hp v hv)) (h.most v)).1
  have hc1 := e2 (k + 1)
  have hc2 := e2 ((4 + 3 * k) * 2 ^ (15 - k))
  have ha1 := h.pos s hs (hp s hs)
  have ha2 := h.most s
  rcases (show A s = 1 ∨ 2 ≤ A s by omega) with h1 | h1
  · exact h1
  · exfalso
    have hno := much_no k hk hk7 (A s) h1 ha2
    generalize sumF (fun v => if v = s then 0 else (4 + 3 * k) * 2 ^ (15 - k)) (2 ^ k) = X1 at *
    generalize sumF (fun v => if v = s then 0 else 2 ^ (15 - A v)) (2 ^ k) = X2 at *
    generalize sumF (fun v => if v = s then 0 else A v) (2 ^ k) = X3 at *
    generalize sumF (fun v => if v = s then 0 else k + 1) (2 ^ k) = X4 at *
    generalize A s = a at *
    have hfull' : 2 ^ (15 - a) + X2 = 32768 := hfull
    generalize hpa : 2 ^ (15 - a) = pa at *
    rcases (show k = 1 ∨ k = 2 ∨ k = 3 ∨ k = 4 ∨ k = 5 ∨ k = 6 ∨ k = 7 by omega) with rfl | rfl | rfl | rfl | rfl | rfl | rfl
    all_goals
      simp at hc1 hc2 hlow hl2 hno
      omega
end Go.Proofs.Ytfnjjeopojdnjaa
