/-
  PURE: codes from their lengths: the first code of each length, each symbol's code, what the next bits say. No conditions.
-/
import Derived.Test.YtbphbogolffanaaDoorNum
namespace Go.Proofs.YtbphbogolffanaaDoor
set_option maxRecDepth 100000
set_option linter.unusedVariables false

/-- lengths are right: from 0 to 15 -/
def RightL (l : List Int) : Prop := ∀ i, i < l.length → 0 ≤ gi l i ∧ gi l i ≤ 15
def lnN (l : List Int) (i : Nat) : Nat := (gi l i).toNat
/-- how many of the first k are n -/
def cL (l : List Int) (n : Nat) : Nat → Nat
  | 0 => 0
  | k + 1 => cL l n k + if gi l k = (n : Int) then 1 else 0
/-- how many of the first k are n, if n isn't 0 -/
def cN (l : List Int) (k n : Nat) : Nat := if n = 0 then 0 else cL l n k
/-- the first code of the length n, by the first k -/
def fK (l : List Int) (k : Nat) : Nat → Nat
  | 0 => 0
  | n + 1 => 2 * (fK l k n + cN l k n)
/-- the sum, times 2^15, of the first k -/
def kr (l : List Int) : Nat → Nat
  | 0 => 0
  | k + 1 => kr l k + if 0 < gi l k then 2 ^ (15 - lnN l k) else 0
/-- the longest of the first k -/
def mxL (l : List Int) : Nat → Nat
  | 0 => 0
  | k + 1 => max (mxL l k) (lnN l k)
def usedL (l : List Int) : Nat → Nat
  | 0 => 0
  | k + 1 => usedL l k + if 0 < gi l k then 1 else 0
def codeN (l : List Int) (i : Nat) : Nat := if gi l i = 0 then 0 else fK l l.length (lnN l i) + cL l (lnN l i) i
theorem lnN_int {l : List Int} (h : RightL l) {i : Nat} (hi : i < l.length) : ((lnN l i : Nat) : Int) = gi l i ∧ lnN l i ≤ 15 := by
  have := h i hi
  unfold lnN
  omega
theorem cL_mono (l : List Int) (n : Nat) {a b : Nat} (h : a ≤ b) : cL l n a ≤ cL l n b := by
  induction b with
  | zero => obtain rfl : a = 0 := by omega
            exact Nat.le_refl _
  | succ b ih =>
    by_cases e : a = b + 1
    · subst e; exact Nat.le_refl _
    · have h1 := ih (by omega)
      have h2 : cL l n (b + 1) = cL l n b + if gi l b = (n : Int) then 1 else 0 := rfl
      omega
theorem cL_lt {l : List Int} {n i k : Nat} (h : gi l i = (n : Int)) (hi : i < k) : cL l n i < cL l n k := by
  have h1 : cL l n (i + 1) = cL l n i + 1 := by rw [cL, if_pos h]
  have := cL_mono l n (show i + 1 ≤ k by omega)
  omega
theorem cL_inj {l : List Int} {n i j : Nat} (hi : gi l i = (n : Int)) (hj : gi l j = (n : Int)) (h : cL l n i = cL l n j) : i = j := by
  rcases Nat.lt_trichotomy i j with h1 | h1 | h1
  · have := cL_lt hi h1; omega
  · exact h1
  · have := cL_lt hj h1; omega
theorem cL_le (l : List Int) (n k : Nat) : cL l n k ≤ k := by
  induction k with
  | zero => exact Nat.le_refl _
  | succ k ih => unfold cL; split <;> omega
/-- each place below the count is some symbol's -/
theorem cL_at {l : List Int} {n k j : Nat} (h : j < cL l n k) : ∃ i, i < k ∧ gi l i = (n : Int) ∧ cL l n i = j := by
  induction k with
  | zero => simp [cL] at h
  | succ k ih =>
    by_cases h1 : j < cL l n k
    · obtain ⟨i, hi, h2⟩ := ih h1
      exact ⟨i, by omega, h2⟩
    · unfold cL at h
      by_cases h2 : gi l k = (n : Int)
      · rw [if_pos h2] at h
        exact ⟨k, by omega, h2, by omega⟩
      · rw [if_neg h2] at h
        omega
theorem fK_step {l : List Int} (k n : Nat) (h0 : 0 ≤ gi l k) : fK l (k + 1) n = fK l k n + if 0 < gi l k ∧ lnN l k < n then 2 ^ (n - lnN l k) else 0 := by
  induction n with
  | zero => rw [if_neg (by omega)]; rfl
  | succ n ih =>
    show 2 * (fK l (k + 1) n + cN l (k + 1) n) = 2 * (fK l k n + cN l k n) + _
    rw [ih]
    unfold cN
    by_cases hn : n = 0
    · subst hn
      rw [if_neg (by omega), if_pos rfl, if_pos rfl, if_neg (by unfold lnN; omega)]
      rfl
    · rw [if_neg hn, if_neg hn]
      rw [show cL l n (k + 1) = cL l n k + if gi l k = (n : Int) then 1 else 0 from rfl]
      by_cases h1 : 0 < gi l k
      · by_cases h2 : lnN l k < n
        · have h5 : ¬ gi l k = (n : Int) := by unfold lnN at h2; omega
          rw [if_pos ⟨h1, h2⟩, if_neg h5, if_pos ⟨h1, by omega⟩, show n + 1 - lnN l k = n - lnN l k + 1 by omega, Nat.pow_succ]
          omega
        · rw [if_neg (by omega)]
          by_cases h3 : gi l k = (n : Int)
          · have h4 : lnN l k = n := by unfold lnN; omega
            rw [if_pos h3, if_pos ⟨h1, by omega⟩, h4, show n + 1 - n = 1 by omega]
            omega
          · rw [if_neg h3, if_neg (by unfold lnN at h2 ⊢; omega)]
            omega
      · rw [if_neg (by omega), if_neg (by omega), if_neg (by omega)]
        omega
theorem fK_zero (l : List Int) (n : Nat) : fK l 0 n = 0 := by
  induction n with
  | zero => rfl
  | succ n ih => unfold fK; rw [ih]; unfold cN cL; split <;> rfl
/-- the first code beyond all lengths is twice the sum -/
theorem fK_kr {l : List Int} (h : RightL l) (k : Nat) (hk : k ≤ l.length) : fK l k 16 = 2 * kr l k := by
  induction k with
  | zero => rw [fK_zero]; rfl
  | succ k ih =>
    rw [fK_step k 16 (h k (by omega)).1, ih (by omega), kr]
    have h1 := (lnN_int h (show k < l.length by omega)).2
    by_cases h2 : 0 < gi l k
    · rw [if_pos ⟨h2, by omega⟩, if_pos h2, show 16 - lnN l k = 15 - lnN l k + 1 by omega, Nat.pow_succ]
      omega
    · rw [if_neg (by omega), if_neg h2]
      rfl
theorem kr_le {l : List Int} (h : RightL l) (k : Nat) (hk : k ≤ l.length) : kr l k ≤ 16384 * k := by
  induction k with
  | zero => exact Nat.le_refl _
  | succ k ih =>
    have h1 := ih (by omega)
    unfold kr
    by_cases h2 : 0 < gi l k
    · rw [if_pos h2]
      have h3 : 1 ≤ lnN l k := by unfold lnN; omega
      have h4 : 2 ^ (15 - lnN l k) ≤ 2 ^ 14 := Nat.pow_le_pow_right (by decide) (by omega)
      omega
    · rw [if_neg h2]
      omega
theorem fK_mono (l : List Int) (k : Nat) {a b : Nat} (h : a ≤ b) : fK l k a ≤ fK l k b := by
  induction b with
  | zero => obtain rfl : a = 0 := by omega
            exact Nat.le_refl _
  | succ b ih =>
    by_cases e : a = b + 1
    · subst e; exact Nat.le_refl _
    · have h1 := ih (by omega)
      have h2 : fK l k (b + 1) = 2 * (fK l k b + cN l k b) := rfl
      omega
/-- nothing runs over -/
theorem fK_small {l : List Int} (h : RightL l) (hl : l.length ≤ 288) (n : Nat) (hn : n ≤ 15) : fK l l.length n + cN l l.length n ≤ 4718592 := by
  have h1 := fK_kr h l.length (Nat.le_refl _)
  have h2 := kr_le h l.length (Nat.le_refl _)
  have h3 := fK_mono l l.length (show n + 1 ≤ 16 by omega)
  have h4 : fK l l.length (n + 1) = 2 * (fK l l.length n + cN l l.length n) := rfl
  omega
theorem fK_small16 {l : List Int} (h : RightL l) (hl : l.length ≤ 288) (n : Nat) (hn : n ≤ 16) : fK l l.length n ≤ 9437184 := by
  have h1 := fK_kr h l.length (Nat.le_refl _)
  have h2 := kr_le h l.length (Nat.le_refl _)
  have h3 := fK_mono l l.length hn
  omega
/-- lengths fit: each first code is within its bits -/
theorem fK_fit {l : List Int} (h : RightL l) (hk : kr l l.length ≤ 32768) (n : Nat) (hn : n ≤ 15) : fK l l.length n + cN l l.length n ≤ 2 ^ n := by
  have h1 := fK_kr h l.length (Nat.le_refl _)
  have h2 : ∀ d, d ≤ 16 → fK l l.length (16 - d) ≤ 2 ^ (16 - d) := by
    intro d hd
    induction d with
    | zero => rw [Nat.sub_zero, h1]; omega
    | succ d ih =>
      have h3 := ih (by omega)
      rw [show 16 - d = 16 - (d + 1) + 1 by omega, Nat.pow_succ] at h3
      unfold fK at h3
      omega
  have h3 := h2 (16 - (n + 1)) (by omega)
  rw [show 16 - (16 - (n + 1)) = n + 1 by omega, Nat.pow_succ] at h3
  unfold fK at h3
  omega
theorem fK_full {l : List Int} (h : RightL l) (hk : kr l l.length = 32768) : fK l l.length 15 + cN l l.length 15 = 32768 := by
  have h1 := fK_kr h l.length (Nat.le_refl _)
  have h2 : fK l l.length 16 = 2 * (fK l l.length 15 + cN l l.length 15) := rfl
  omega
theorem codeN_lt {l : List Int} (h : RightL l) (hk : kr l l.length ≤ 32768) {i : Nat} (hi : i < l.length) (hp : 0 < gi l i) : codeN l i < fK l l.length (lnN l i) + cN l l.length (lnN l i) ∧ codeN l i < 2 ^ lnN l i := by
  have h0 := lnN_int h hi
  have h1 := fK_fit h hk (lnN l i) h0.2
  have h2 : cL l (lnN l i) i < cL l (lnN l i) l.length := cL_lt h0.1.symm hi
  have h3 : cN l l.length (lnN l i) = cL l (lnN l i) l.length := if_neg (by omega)
  unfold codeN
  rw [if_neg (by omega)]
  omega
theorem codeN_ge {l : List Int} {i : Nat} (hp : 0 < gi l i) : fK l l.length (lnN l i) ≤ codeN l i := by
  unfold codeN
  rw [if_neg (by omega)]
  omega
/-- from one length to a longer one -/
theorem fK_up (l : List Int) (k n d : Nat) : 2 ^ (d + 1) * (fK l k n + cN l k n) ≤ fK l k (n + (d + 1)) := by
  induction d with
  | zero => exact Nat.le_refl _
  | succ d ih =>
    rw [show n + (d + 1 + 1) = n + (d + 1) + 1 by omega, fK, Nat.pow_succ, Nat.mul_comm (2 ^ (d + 1)) 2, Nat.mul_assoc]
    omega
/-- no code is the beginning of another one -/
theorem codeN_apart {l : List Int} (h : RightL l) (hk : kr l l.length ≤ 32768) {i j : Nat} (hi : i < l.length) (hj : j < l.length) (hp : 0 < gi l i) (hle : lnN l i ≤ lnN l j) (hne : i ≠ j) : codeN l j / 2 ^ (lnN l j - lnN l i) ≠ codeN l i := by
  have h1 := lnN_int h hi
  have h2 := lnN_int h hj
  have hpj : 0 < gi l j := by omega
  have h3 := (codeN_lt h hk hi hp).1
  by_cases e : lnN l j = lnN l i
  · rw [e, Nat.sub_self, Nat.pow_zero, Nat.div_one]
    unfold codeN
    rw [if_neg (by omega), if_neg (by omega), e]
    intro e2
    exact hne (cL_inj (n := lnN l i) h1.1.symm (by rw [← e]; exact h2.1.symm) (by omega))
  · have h4 := fK_up l l.length (lnN l i) (lnN l j - lnN l i - 1)
    rw [show lnN l i + (lnN l j - lnN l i - 1 + 1) = lnN l j by omega, show lnN l j - lnN l i - 1 + 1 = lnN l j - lnN l i by omega] at h4
    have h5 := codeN_ge hpj
    intro e2
    have h6 : fK l l.length (lnN l i) + cN l l.length (lnN l i) ≤ codeN l j / 2 ^ (lnN l j - lnN l i) := (Nat.le_div_iff_mul_le (Nat.pow_pos (by decide))).2 (by rw [Nat.mul_comm]; omega)
    omega
theorem codeN_order {l : List Int} (h : RightL l) (hk : kr l l.length ≤ 32768) {i j : Nat} (hi : i < l.length) (hj : j < l.length) (hp : 0 < gi l i) (hq : 0 < gi l j) (hlt : gi l i < gi l j ∨ (gi l i = gi l j ∧ i < j)) : codeN l i * 2 ^ (15 - lnN l i) < codeN l j * 2 ^ (15 - lnN l j) := by
  have h1 := lnN_int h hi
  have h2 := lnN_int h hj
  rcases hlt with hlt | ⟨he, hij⟩
  · have h3 := (codeN_lt h hk hi hp).1
    have h4 := fK_up l l.length (lnN l i) (lnN l j - lnN l i - 1)
    rw [show lnN l i + (lnN l j - lnN l i - 1 + 1) = lnN l j by omega, show lnN l j - lnN l i - 1 + 1 = lnN l j - lnN l i by omega] at h4
    have h5 := codeN_ge hq
    have h6 : 2 ^ (15 - lnN l i) = 2 ^ (lnN l j - lnN l i) * 2 ^ (15 - lnN l j) := by rw [← Nat.pow_add]; congr 1; omega
    rw [h6, ← Nat.mul_assoc]
    have hpos : 0 < 2 ^ (lnN l j - lnN l i) := Nat.pow_pos (by decide)
    have h7 : codeN l i * 2 ^ (lnN l j - lnN l i) < codeN l j := by
      have : (codeN l i + 1) * 2 ^ (lnN l j - lnN l i) ≤ (fK l l.length (lnN l i) + cN l l.length (lnN l i)) * 2 ^ (lnN l j - lnN l i) := Nat.mul_le_mul_right _ (by omega)
      rw [Nat.add_mul] at this
      rw [Nat.mul_comm] at h4
      omega
    exact Nat.mul_lt_mul_of_pos_right h7 (Nat.pow_pos (by decide))
  · have e : lnN l i = lnN l j := by unfold lnN; rw [he]
    rw [e]
    have : codeN l i < codeN l j := by
      unfold codeN
      rw [if_neg (by omega), if_neg (by omega), e]
      have := cL_lt (l := l) (n := lnN l j) (i := i) (k := j) (by omega) hij
      omega
    exact Nat.mul_lt_mul_of_pos_right this (Nat.pow_pos (by decide))
/-! ### What the next bits say -/
/-- the number of n bits from a place on, the highest one first -/
def cv (b : Nat → Bool) (a : Nat) : Nat → Nat
  | 0 => 0
  | n + 1 => 2 * cv b a n + (b (a + n)).toNat
theorem cv_lt (b : Nat → Bool) (a n : Nat) : cv b a n < 2 ^ n := by
  induction n with
  | zero => exact Nat.one_pos
  | succ n ih =>
    unfold cv
    rw [Nat.pow_succ]
    have := Bool.toNat_le (b (a + n))
    omega
/-- the symbol s, how many bits n, the error e -/
def RdS (l : List Int) (b : Nat → Bool) (tot a s n e : Nat) : Prop :=
  (∀ k, 1 ≤ k → k < n → fK l l.length k + cN l l.length k ≤ cv b a k) ∧
  ((e = 0 ∧ 1 ≤ n ∧ a + n ≤ tot ∧ s < l.length ∧ gi l s = (n : Int) ∧ cv b a n = codeN l s) ∨
   (e = 20 ∧ s = 0 ∧ n < mxL l l.length ∧ a + n = tot ∧ (1 ≤ n → fK l l.length n + cN l l.length n ≤ cv b a n)) ∨
   (e = 34 ∧ s = 0 ∧ n = mxL l l.length ∧ a + n ≤ tot ∧ (1 ≤ n → fK l l.length n + cN l l.length n ≤ cv b a n)))
theorem mxL_ge (l : List Int) {i k : Nat} (h : i < k) : lnN l i ≤ mxL l k := by
  induction k with
  | zero => omega
  | succ k ih =>
    unfold mxL
    by_cases e : i = k
    · subst e; omega
    · have := ih (by omega); omega
theorem mxL_at (l : List Int) {k : Nat} (h : 0 < mxL l k) : ∃ i, i < k ∧ lnN l i = mxL l k := by
  induction k with
  | zero => simp [mxL] at h
  | succ k ih =>
    unfold mxL at h ⊢
    by_cases e : mxL l k ≤ lnN l k
    · exact ⟨k, by omega, by omega⟩
    · obtain ⟨i, hi, h2⟩ := ih (by omega)
      exact ⟨i, by omega, by omega⟩
theorem RdS.unique {l : List Int} {b : Nat → Bool} {tot a s n e s' n' e' : Nat} (hr : RightL l) (hk : kr l l.length ≤ 32768) (h : RdS l b tot a s n e) (h' : RdS l b tot a s' n' e') : s = s' ∧ n = n' ∧ e = e' := by
  have key : ∀ {s n : Nat}, 1 ≤ n → s < l.length → gi l s = (n : Int) → cv b a n = codeN l s → cv b a n < fK l l.length n + cN l l.length n ∧ n ≤ mxL l l.length := by
    intro s n h1 h2 h3 h4
    have h5 := (codeN_lt hr hk h2 (by omega)).1
    have h6 : lnN l s = n := by unfold lnN; omega
    have h7 := mxL_ge l h2
    rw [h6] at h5 h7
    exact ⟨by omega, h7⟩
  obtain ⟨p, h⟩ := h
  obtain ⟨p', h'⟩ := h'
  rcases h with ⟨rfl, h1, h2, h3, h4, h5⟩ | ⟨rfl, rfl, h1, h2, h3⟩ | ⟨rfl, rfl, h1, h2, h3⟩
  · have k1 := key h1 h3 h4 h5
    rcases h' with ⟨rfl, g1, g2, g3, g4, g5⟩ | ⟨rfl, rfl, g1, g2, g3⟩ | ⟨rfl, rfl, g1, g2, g3⟩
    · have k2 := key g1 g3 g4 g5
      have e : n = n' := by
        rcases Nat.lt_trichotomy n n' with q | q | q
        · have := p' n h1 q; omega
        · exact q
        · have := p n' g1 q; omega
      subst e
      refine ⟨?_, rfl, rfl⟩
      have e1 : lnN l s = n := by unfold lnN; omega
      have e2 : lnN l s' = n := by unfold lnN; omega
      rw [h5] at g5
      unfold codeN at g5
      rw [if_neg (by omega), if_neg (by omega), e1, e2] at g5
      exact cL_inj h4 g4 (by omega)
    · by_cases q : n = n'
      · subst q; have := g3 h1; omega
      · have := p' n h1 (by omega); omega
    · by_cases q : n = n'
      · subst q; have := g3 h1; omega
      · have := p' n h1 (by omega); omega
  · rcases h' with ⟨rfl, g1, g2, g3, g4, g5⟩ | ⟨rfl, rfl, g1, g2, g3⟩ | ⟨rfl, rfl, g1, g2, g3⟩
    · have k2 := key g1 g3 g4 g5
      by_cases q : n = n'
      · subst q; have := h3 g1; omega
      · have := p n' g1 (by omega); omega
    · exact ⟨rfl, by omega, rfl⟩
    · omega
  · rcases h' with ⟨rfl, g1, g2, g3, g4, g5⟩ | ⟨rfl, rfl, g1, g2, g3⟩ | ⟨rfl, rfl, g1, g2, g3⟩
    · have k2 := key g1 g3 g4 g5
      by_cases q : n = n'
      · subst q; have := h3 g1; omega
      · have := p n' g1 (by omega); omega
    · omega
    · exact ⟨rfl, by omega, rfl⟩
/-- within full codes, what is no code of its length is some code's beginning -/
theorem begins_some {l : List Int} (h : RightL l) (hk : kr l l.length = 32768) (d : Nat) : ∀ n v, n + d = 15 → v < 2 ^ n → fK l l.length n + cN l l.length n ≤ v → ∃ s, s < l.length ∧ n < lnN l s ∧ codeN l s / 2 ^ (lnN l s - n) = v := by
  induction d with
  | zero =>
    intro n v hn hv hle
    obtain rfl : n = 15 := by omega
    have := fK_full h hk
    omega
  | succ d ih =>
    intro n v hn hv hle
    have h1 : fK l l.length (n + 1) = 2 * (fK l l.length n + cN l l.length n) := rfl
    by_cases hc : 2 * v < fK l l.length (n + 1) + cN l l.length (n + 1)
    · have hc2 : cN l l.length (n + 1) = cL l (n + 1) l.length := if_neg (by omega)
      obtain ⟨i, hi, h2, h3⟩ := cL_at (l := l) (n := n + 1) (k := l.length) (j := 2 * v - fK l l.length (n + 1)) (by omega)
      have h4 : lnN l i = n + 1 := by unfold lnN; omega
      refine ⟨i, hi, by omega, ?_⟩
      have h5 : codeN l i = 2 * v := by
        unfold codeN
        rw [if_neg (by omega), h4, h3]
        omega
      rw [h5, h4, show n + 1 - n = 1 by omega]
      omega
    · obtain ⟨s, hs, h2, h3⟩ := ih (n + 1) (2 * v) (by omega) (by rw [Nat.pow_succ]; omega) (by omega)
      refine ⟨s, hs, by omega, ?_⟩
      rw [show lnN l s - n = lnN l s - (n + 1) + 1 by omega, Nat.pow_succ, ← Nat.div_div_eq_div_mul, h3]
      omega
/-- at the longest length of full codes each number is a code -/
theorem full_most {l : List Int} (h : RightL l) (hk : kr l l.length = 32768) : fK l l.length (mxL l l.length) + cN l l.length (mxL l l.length) = 2 ^ mxL l l.length := by
  have hm : mxL l l.length ≤ 15 := by
    by_cases h0 : 0 < mxL l l.length
    · obtain ⟨i, hi, e⟩ := mxL_at l h0
      have := (lnN_int h hi).2
      omega
    · omega
  have h1 := fK_fit h (by omega) (mxL l l.length) hm
  by_cases e : fK l l.length (mxL l l.length) + cN l l.length (mxL l l.length) = 2 ^ mxL l l.length
  · exact e
  · obtain ⟨s, hs, h2, h3⟩ := begins_some h hk (15 - mxL l l.length) (mxL l l.length) (fK l l.length (mxL l l.length) + cN l l.length (mxL l l.length)) (by omega) (by omega) (Nat.le_refl _)
    have := mxL_ge l hs
    omega
end Go.Proofs.YtbphbogolffanaaDoor
