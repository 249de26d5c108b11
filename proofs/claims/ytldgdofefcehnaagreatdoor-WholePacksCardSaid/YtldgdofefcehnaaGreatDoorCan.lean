/-
  PURE: codes from their lengths: the first code of each length, each symbol's code, what the next bits say. No conditions.
  THE CONTRACTS OF lengths.Fit, canon.wrong, canon.firstCodes, canon.Codes. No conditions.
  THE CONTRACTS OF canon.firstCodes, full, wrong, Codes. No conditions.
  THE CONTRACT OF canon.Codes. No conditions.
-/
import Derived.Test.YtldgdofefcehnaaGreatDoorBase
import Derived.Deep.WholeRow
import Derived.Laws.ResultCell
import Derived.Deep.RegionHeld3
import Derived.Laws.CopyOwn
import Derived.Deep.OwnRows
namespace Go.Proofs.YtldgdofefcehnaaGreatDoor
section
set_option maxRecDepth 100000
set_option linter.unusedVariables false
def RightL (l : List Int) : Prop := ∀ i, i < l.length → 0 ≤ gi l i ∧ gi l i ≤ 15
def lnN (l : List Int) (i : Nat) : Nat := (gi l i).toNat
def cL (l : List Int) (n : Nat) : Nat → Nat
 | 0 => 0
 | k + 1 => cL l n k + if gi l k = (n : Int) then 1 else 0
def cN (l : List Int) (k n : Nat) : Nat := if n = 0 then 0 else cL l n k
def fK (l : List Int) (k : Nat) : Nat → Nat
 | 0 => 0
 | n + 1 => 2 * (fK l k n + cN l k n)
def kr (l : List Int) : Nat → Nat
 | 0 => 0
 | k + 1 => kr l k + if 0 < gi l k then 2 ^ (15 - lnN l k) else 0
def mxL (l : List Int) : Nat → Nat
 | 0 => 0
 | k + 1 => max (mxL l k) (lnN l k)
def usedL (l : List Int) : Nat → Nat
 | 0 => 0
 | k + 1 => usedL l k + if 0 < gi l k then 1 else 0
def codeN (l : List Int) (i : Nat) : Nat := if gi l i = 0 then 0 else fK l l.length (lnN l i) + cL l (lnN l i) i
theorem lnN_int {l : List Int} (h : RightL l) {i : Nat} (hi : i < l.length) : ((lnN l i : Nat) : Int) = gi l i ∧ lnN l i ≤ 15 := by
 have := h i hi
 unfold lnN
 omega
theorem cL_mono (l : List Int) (n : Nat) {a b : Nat} (h : a ≤ b) : cL l n a ≤ cL l n b := by
 induction b with
 | zero => obtain rfl : a = 0 := by omega
           exact Nat.le_refl _
 | succ b ih =>
  by_cases e : a = b + 1
  ·subst e; exact Nat.le_refl _
  ·have h1 := ih (by omega)
   have h2 : cL l n (b + 1) = cL l n b + if gi l b = (n : Int) then 1 else 0 := rfl
   omega
theorem cL_lt {l : List Int} {n i k : Nat} (h : gi l i = (n : Int)) (hi : i < k) : cL l n i < cL l n k := by
 have h1 : cL l n (i + 1) = cL l n i + 1 := by rw [cL, if_pos h]
 have := cL_mono l n (show i + 1 ≤ k by omega)
 omega
theorem cL_inj {l : List Int} {n i j : Nat} (hi : gi l i = (n : Int)) (hj : gi l j = (n : Int)) (h : cL l n i = cL l n j) : i = j := by
 rcases Nat.lt_trichotomy i j with h1 | h1 | h1
 ·have := cL_lt hi h1; omega
 ·exact h1
 ·have := cL_lt hj h1; omega
theorem cL_le (l : List Int) (n k : Nat) : cL l n k ≤ k := by
 induction k with
 | zero => exact Nat.le_refl _
 | succ k ih => unfold cL; split <;> omega
theorem cL_at {l : List Int} {n k j : Nat} (h : j < cL l n k) : ∃ i, i < k ∧ gi l i = (n : Int) ∧ cL l n i = j := by
 induction k with
 | zero => simp [cL] at h
 | succ k ih =>
  by_cases h1 : j < cL l n k
  ·obtain ⟨i, hi, h2⟩ := ih h1
   exact ⟨i, by omega, h2⟩
  ·unfold cL at h
   by_cases h2 : gi l k = (n : Int)
   ·rw [if_pos h2] at h
    exact ⟨k, by omega, h2, by omega⟩
   ·rw [if_neg h2] at h
    omega
theorem fK_step {l : List Int} (k n : Nat) (h0 : 0 ≤ gi l k) : fK l (k + 1) n = fK l k n + if 0 < gi l k ∧ lnN l k < n then 2 ^ (n - lnN l k) else 0 := by
 induction n with
 | zero => rw [if_neg (by omega)]; rfl
 | succ n ih =>
  show 2 * (fK l (k + 1) n + cN l (k + 1) n) = 2 * (fK l k n + cN l k n) + _
  rw [ih]
  unfold cN
  by_cases hn : n = 0
  ·subst hn
   rw [if_neg (by omega), if_pos rfl, if_pos rfl, if_neg (by unfold lnN; omega)]
   rfl
  ·rw [if_neg hn, if_neg hn]
   rw [show cL l n (k + 1) = cL l n k + if gi l k = (n : Int) then 1 else 0 from rfl]
   by_cases h1 : 0 < gi l k
   ·by_cases h2 : lnN l k < n
    ·have h5 : ¬ gi l k = (n : Int) := by unfold lnN at h2; omega
     rw [if_pos ⟨h1, h2⟩, if_neg h5, if_pos ⟨h1, by omega⟩, show n + 1 - lnN l k = n - lnN l k + 1 by omega, Nat.pow_succ]
     omega
    ·rw [if_neg (by omega)]
     by_cases h3 : gi l k = (n : Int)
     ·have h4 : lnN l k = n := by unfold lnN; omega
      rw [if_pos h3, if_pos ⟨h1, by omega⟩, h4, show n + 1 - n = 1 by omega]
      omega
     ·rw [if_neg h3, if_neg (by unfold lnN at h2 ⊢; omega)]
      omega
   ·rw [if_neg (by omega), if_neg (by omega), if_neg (by omega)]
    omega
theorem fK_zero (l : List Int) (n : Nat) : fK l 0 n = 0 := by
 induction n with
 | zero => rfl
 | succ n ih => unfold fK; rw [ih]; unfold cN cL; split <;> rfl
theorem fK_kr {l : List Int} (h : RightL l) (k : Nat) (hk : k ≤ l.length) : fK l k 16 = 2 * kr l k := by
 induction k with
 | zero => rw [fK_zero]; rfl
 | succ k ih =>
  rw [fK_step k 16 (h k (by omega)).1, ih (by omega), kr]
  have h1 := (lnN_int h (show k < l.length by omega)).2
  by_cases h2 : 0 < gi l k
  ·rw [if_pos ⟨h2, by omega⟩, if_pos h2, show 16 - lnN l k = 15 - lnN l k + 1 by omega, Nat.pow_succ]
   omega
  ·rw [if_neg (by omega), if_neg h2]
   rfl
theorem kr_le {l : List Int} (h : RightL l) (k : Nat) (hk : k ≤ l.length) : kr l k ≤ 16384 * k := by
 induction k with
 | zero => exact Nat.le_refl _
 | succ k ih =>
  have h1 := ih (by omega)
  unfold kr
  by_cases h2 : 0 < gi l k
  ·rw [if_pos h2]
   have h3 : 1 ≤ lnN l k := by unfold lnN; omega
   have h4 : 2 ^ (15 - lnN l k) ≤ 2 ^ 14 := Nat.pow_le_pow_right (by decide) (by omega)
   omega
  ·rw [if_neg h2]
   omega
theorem fK_mono (l : List Int) (k : Nat) {a b : Nat} (h : a ≤ b) : fK l k a ≤ fK l k b := by
 induction b with
 | zero => obtain rfl : a = 0 := by omega
           exact Nat.le_refl _
 | succ b ih =>
  by_cases e : a = b + 1
  ·subst e; exact Nat.le_refl _
  ·have h1 := ih (by omega)
   have h2 : fK l k (b + 1) = 2 * (fK l k b + cN l k b) := rfl
   omega
theorem fK_small {l : List Int} (h : RightL l) (hl : l.length ≤ 288) (n : Nat) (hn : n ≤ 15) : fK l l.length n + cN l l.length n ≤ 4718592 := by
 have h1 := fK_kr h l.length (Nat.le_refl _)
 have h2 := kr_le h l.length (Nat.le_refl _)
 have h3 := fK_mono l l.length (show n + 1 ≤ 16 by omega)
 have h4 : fK l l.length (n + 1) = 2 * (fK l l.length n + cN l l.length n) := rfl
 omega
theorem fK_fit {l : List Int} (h : RightL l) (hk : kr l l.length ≤ 32768) (n : Nat) (hn : n ≤ 15) : fK l l.length n + cN l l.length n ≤ 2 ^ n := by
 have h1 := fK_kr h l.length (Nat.le_refl _)
 have h2 : ∀ d, d ≤ 16 → fK l l.length (16 - d) ≤ 2 ^ (16 - d) := by
  intro d hd
  induction d with
  | zero => rw [Nat.sub_zero, h1]; omega
  | succ d ih =>
   have h3 := ih (by omega)
   rw [show 16 - d = 16 - (d + 1) + 1 by omega, Nat.pow_succ] at h3
   unfold fK at h3
   omega
 have h3 := h2 (16 - (n + 1)) (by omega)
 rw [show 16 - (16 - (n + 1)) = n + 1 by omega, Nat.pow_succ] at h3
 unfold fK at h3
 omega
theorem fK_full {l : List Int} (h : RightL l) (hk : kr l l.length = 32768) : fK l l.length 15 + cN l l.length 15 = 32768 := by
 have h1 := fK_kr h l.length (Nat.le_refl _)
 have h2 : fK l l.length 16 = 2 * (fK l l.length 15 + cN l l.length 15) := rfl
 omega
theorem codeN_lt {l : List Int} (h : RightL l) (hk : kr l l.length ≤ 32768) {i : Nat} (hi : i < l.length) (hp : 0 < gi l i) : codeN l i < fK l l.length (lnN l i) + cN l l.length (lnN l i) ∧ codeN l i < 2 ^ lnN l i := by
 have h0 := lnN_int h hi
 have h1 := fK_fit h hk (lnN l i) h0.2
 have h2 : cL l (lnN l i) i < cL l (lnN l i) l.length := cL_lt h0.1.symm hi
 have h3 : cN l l.length (lnN l i) = cL l (lnN l i) l.length := if_neg (by omega)
 unfold codeN
 rw [if_neg (by omega)]
 omega
theorem codeN_ge {l : List Int} {i : Nat} (hp : 0 < gi l i) : fK l l.length (lnN l i) ≤ codeN l i := by
 unfold codeN
 rw [if_neg (by omega)]
 omega
theorem fK_up (l : List Int) (k n d : Nat) : 2 ^ (d + 1) * (fK l k n + cN l k n) ≤ fK l k (n + (d + 1)) := by
 induction d with
 | zero => exact Nat.le_refl _
 | succ d ih =>
  rw [show n + (d + 1 + 1) = n + (d + 1) + 1 by omega, fK, Nat.pow_succ, Nat.mul_comm (2 ^ (d + 1)) 2, Nat.mul_assoc]
  omega
def cv (b : Nat → Bool) (a : Nat) : Nat → Nat
 | 0 => 0
 | n + 1 => 2 * cv b a n + (b (a + n)).toNat
theorem cv_lt (b : Nat → Bool) (a n : Nat) : cv b a n < 2 ^ n := by
 induction n with
 | zero => exact Nat.one_pos
 | succ n ih =>
  unfold cv
  rw [Nat.pow_succ]
  have := Bool.toNat_le (b (a + n))
  omega
def RdS (l : List Int) (b : Nat → Bool) (tot a s n e : Nat) : Prop :=
 (∀ k, 1 ≤ k → k < n → fK l l.length k + cN l l.length k ≤ cv b a k) ∧
 ((e = 0 ∧ 1 ≤ n ∧ a + n ≤ tot ∧ s < l.length ∧ gi l s = (n : Int) ∧ cv b a n = codeN l s) ∨
  (e = 20 ∧ s = 0 ∧ n < mxL l l.length ∧ a + n = tot ∧ (1 ≤ n → fK l l.length n + cN l l.length n ≤ cv b a n)) ∨
  (e = 34 ∧ s = 0 ∧ n = mxL l l.length ∧ a + n ≤ tot ∧ (1 ≤ n → fK l l.length n + cN l l.length n ≤ cv b a n)))
theorem mxL_ge (l : List Int) {i k : Nat} (h : i < k) : lnN l i ≤ mxL l k := by
 induction k with
 | zero => omega
 | succ k ih =>
  unfold mxL
  by_cases e : i = k
  ·subst e; omega
  ·have := ih (by omega); omega
theorem mxL_at (l : List Int) {k : Nat} (h : 0 < mxL l k) : ∃ i, i < k ∧ lnN l i = mxL l k := by
 induction k with
 | zero => simp [mxL] at h
 | succ k ih =>
  unfold mxL at h ⊢
  by_cases e : mxL l k ≤ lnN l k
  ·exact ⟨k, by omega, by omega⟩
  ·obtain ⟨i, hi, h2⟩ := ih (by omega)
   exact ⟨i, by omega, by omega⟩
theorem RdS.unique {l : List Int} {b : Nat → Bool} {tot a s n e s' n' e' : Nat} (hr : RightL l) (hk : kr l l.length ≤ 32768) (h : RdS l b tot a s n e) (h' : RdS l b tot a s' n' e') : s = s' ∧ n = n' ∧ e = e' := by
 have key : ∀ {s n : Nat}, 1 ≤ n → s < l.length → gi l s = (n : Int) → cv b a n = codeN l s → cv b a n < fK l l.length n + cN l l.length n ∧ n ≤ mxL l l.length := by
  intro s n h1 h2 h3 h4
  have h5 := (codeN_lt hr hk h2 (by omega)).1
  have h6 : lnN l s = n := by unfold lnN; omega
  have h7 := mxL_ge l h2
  rw [h6] at h5 h7
  exact ⟨by omega, h7⟩
 obtain ⟨p, h⟩ := h
 obtain ⟨p', h'⟩ := h'
 rcases h with ⟨rfl, h1, h2, h3, h4, h5⟩ | ⟨rfl, rfl, h1, h2, h3⟩ | ⟨rfl, rfl, h1, h2, h3⟩
 ·have k1 := key h1 h3 h4 h5
  rcases h' with ⟨rfl, g1, g2, g3, g4, g5⟩ | ⟨rfl, rfl, g1, g2, g3⟩ | ⟨rfl, rfl, g1, g2, g3⟩
  ·have k2 := key g1 g3 g4 g5
   have e : n = n' := by
    rcases Nat.lt_trichotomy n n' with q | q | q
    ·have := p' n h1 q; omega
    ·exact q
    ·have := p n' g1 q; omega
   subst e
   refine ⟨?_, rfl, rfl⟩
   have e1 : lnN l s = n := by unfold lnN; omega
   have e2 : lnN l s' = n := by unfold lnN; omega
   rw [h5] at g5
   unfold codeN at g5
   rw [if_neg (by omega), if_neg (by omega), e1, e2] at g5
   exact cL_inj h4 g4 (by omega)
  ·by_cases q : n = n'
   ·subst q; have := g3 h1; omega
   ·have := p' n h1 (by omega); omega
  ·by_cases q : n = n'
   ·subst q; have := g3 h1; omega
   ·have := p' n h1 (by omega); omega
 ·rcases h' with ⟨rfl, g1, g2, g3, g4, g5⟩ | ⟨rfl, rfl, g1, g2, g3⟩ | ⟨rfl, rfl, g1, g2, g3⟩
  ·have k2 := key g1 g3 g4 g5
   by_cases q : n = n'
   ·subst q; have := h3 g1; omega
   ·have := p n' g1 (by omega); omega
  ·exact ⟨rfl, by omega, rfl⟩
  ·omega
 ·rcases h' with ⟨rfl, g1, g2, g3, g4, g5⟩ | ⟨rfl, rfl, g1, g2, g3⟩ | ⟨rfl, rfl, g1, g2, g3⟩
  ·have k2 := key g1 g3 g4 g5
   by_cases q : n = n'
   ·subst q; have := h3 g1; omega
   ·have := p n' g1 (by omega); omega
  ·omega
  ·exact ⟨rfl, by omega, rfl⟩
theorem begins_some {l : List Int} (h : RightL l) (hk : kr l l.length = 32768) (d : Nat) : ∀ n v, n + d = 15 → v < 2 ^ n → fK l l.length n + cN l l.length n ≤ v → ∃ s, s < l.length ∧ n < lnN l s ∧ codeN l s / 2 ^ (lnN l s - n) = v := by
 induction d with
 | zero =>
  intro n v hn hv hle
  obtain rfl : n = 15 := by omega
  have := fK_full h hk
  omega
 | succ d ih =>
  intro n v hn hv hle
  have h1 : fK l l.length (n + 1) = 2 * (fK l l.length n + cN l l.length n) := rfl
  by_cases hc : 2 * v < fK l l.length (n + 1) + cN l l.length (n + 1)
  ·have hc2 : cN l l.length (n + 1) = cL l (n + 1) l.length := if_neg (by omega)
   obtain ⟨i, hi, h2, h3⟩ := cL_at (l := l) (n := n + 1) (k := l.length) (j := 2 * v - fK l l.length (n + 1)) (by omega)
   have h4 : lnN l i = n + 1 := by unfold lnN; omega
   refine ⟨i, hi, by omega, ?_⟩
   have h5 : codeN l i = 2 * v := by
    unfold codeN
    rw [if_neg (by omega), h4, h3]
    omega
   rw [h5, h4, show n + 1 - n = 1 by omega]
   omega
  ·obtain ⟨s, hs, h2, h3⟩ := ih (n + 1) (2 * v) (by omega) (by rw [Nat.pow_succ]; omega) (by omega)
   refine ⟨s, hs, by omega, ?_⟩
   rw [show lnN l s - n = lnN l s - (n + 1) + 1 by omega, Nat.pow_succ, ← Nat.div_div_eq_div_mul, h3]
   omega
end
section
open Go.RowKit
set_option maxRecDepth 100000
set_option linter.unusedVariables false
def RightB (l : List Int) : Nat → Bool
 | 0 => true
 | k + 1 => RightB l k && decide (0 ≤ gi l k ∧ gi l k ≤ 15)
theorem RightB_all {l : List Int} {k : Nat} (h : RightB l k = true) : ∀ i, i < k → 0 ≤ gi l i ∧ gi l i ≤ 15 := by
 induction k with
 | zero => intro i hi; omega
 | succ k ih =>
  unfold RightB at h
  rw [Bool.and_eq_true, decide_eq_true_iff] at h
  intro i hi
  by_cases e : i = k
  ·subst e; exact h.2
  ·exact ih h.1 i (by omega)
theorem RightB_not {l : List Int} {k j : Nat} (hj : j < k) (h : ¬ (0 ≤ gi l j ∧ gi l j ≤ 15)) : RightB l k = false := by
 cases hb : RightB l k with
 | false => rfl
 | true => exact absurd (RightB_all hb j hj) h
theorem RightB_mono {l : List Int} {k : Nat} (h : ∀ i, i < k → 0 ≤ gi l i ∧ gi l i ≤ 15) : RightB l k = true := by
 induction k with
 | zero => rfl
 | succ k ih =>
  unfold RightB
  rw [Bool.and_eq_true, decide_eq_true_iff]
  exact ⟨ih fun i hi => h i (by omega), h k (by omega)⟩
def IdxRes (l : List Int) (n : Nat) (x : Int) : Prop := (RightB l n = true ∧ x = -1) ∨ (RightB l n = false ∧ 0 ≤ x)
theorem bad1_c (a : Int) (w : World) : Calls Tryz.prog 160 #[.int .i64 a] w fun e w' => e = .returned (.bool (!decide (0 ≤ a ∧ a ≤ 15))) ∧ w = w' := by
 by_cases h1 : a < 0
 ·have hd : decide (0 ≤ a ∧ a ≤ 15) = false := decide_eq_false (by omega)
  rw [hd]
  clear hd
  go_enter Tryz.func160, Tryz.ntmps160
  go_wp2
  go_ret
  exact ⟨rfl, rfl⟩
 ·by_cases h2 : 15 < a
  ·have hd : decide (0 ≤ a ∧ a ≤ 15) = false := decide_eq_false (by omega)
   rw [hd]
   clear hd
   go_enter Tryz.func160, Tryz.ntmps160
   go_wp2
   go_ret
   exact ⟨rfl, rfl⟩
  ·have hd : decide (0 ≤ a ∧ a ≤ 15) = true := decide_eq_true (by omega)
   rw [hd]
   clear hd
   go_enter Tryz.func160, Tryz.ntmps160
   go_wp2
   go_ret
   exact ⟨rfl, rfl⟩
theorem bad2_c (a : Int) (w : World) : Calls Tryz.prog 178 #[.int .i64 a] w fun e w' => e = .returned (.bool (!decide (0 ≤ a ∧ a ≤ 15))) ∧ w = w' := by
 by_cases h1 : a < 0
 ·have hd : decide (0 ≤ a ∧ a ≤ 15) = false := decide_eq_false (by omega)
  rw [hd]
  clear hd
  go_enter Tryz.func178, Tryz.ntmps178
  go_wp2
  go_ret
  exact ⟨rfl, rfl⟩
 ·by_cases h2 : 15 < a
  ·have hd : decide (0 ≤ a ∧ a ≤ 15) = false := decide_eq_false (by omega)
   rw [hd]
   clear hd
   go_enter Tryz.func178, Tryz.ntmps178
   go_wp2
   go_ret
   exact ⟨rfl, rfl⟩
  ·have hd : decide (0 ≤ a ∧ a ≤ 15) = true := decide_eq_true (by omega)
   rw [hd]
   clear hd
   go_enter Tryz.func178, Tryz.ntmps178
   go_wp2
   go_ret
   exact ⟨rfl, rfl⟩
set_option maxHeartbeats 1000000 in
theorem Index1_c (A : Option Addr) (n c : Nat) (l : List Int) (w : World) (h : IRow w A n .i64 l) :
  Calls Tryz.prog 118 #[.slice A n c, .func (.func 160) #[] #[]] w fun e w' => ∃ x, e = .returned (.int .i64 x) ∧ IdxRes l n x ∧ w = w' := by
 have hm := h.max'
 go_enter Tryz.func118, Tryz.ntmps118
 go_wp2
 go_loop [8] (fun i => ∃ k : Nat, k ≤ n ∧ i = .int .i64 k ∧ Hid (RightB l k = true)) (fun i => n - (intOf i).toNat)
 case atStart => exact ⟨0, by omega, rfl, rfl⟩
 case round =>
  obtain ⟨k, hk, rfl, hs⟩ := hrel
  by_cases hlt : k < n
  ·have hkn : (k : Int) < n := by omega
   obtain ⟨b1, o1, rfl, _, q1⟩ := h.at_ hlt
   have hb := bad1_c (gi l k)
   by_cases hz : 0 ≤ gi l k ∧ gi l k ≤ 15
   ·have hs2 : Hid (RightB l (k + 1) = true) := by unfold Hid RightB; rw [hs.out, decide_eq_true hz]; rfl
    rw [decide_eq_true hz] at hb
    generalize gi l k = a at *
    have HB := Lib.hid hb
    clear hb hz
    go_wp2_with (go_at_call 160; refine (HB.out _).mono ?_; rintro e w' ⟨rfl, rfl⟩)
    go_round
    case rel => exact ⟨k + 1, by omega, by go_num, hs2⟩
    case measure => simp [intOf]; omega
   ·have hr : Hid (IdxRes l n k) := .inr ⟨RightB_not hlt hz, by omega⟩
    rw [decide_eq_false hz] at hb
    generalize gi l k = a at *
    have HB := Lib.hid hb
    clear hb hz
    go_wp2_with (go_at_call 160; refine (HB.out _).mono ?_; rintro e w' ⟨rfl, rfl⟩)
    go_ret
    exact ⟨_, rfl, hr.out, rfl⟩
  ·obtain rfl : k = n := by omega
   go_wp2
   go_ret
   exact ⟨_, rfl, .inl ⟨hs.out, rfl⟩, rfl⟩
set_option maxHeartbeats 1000000 in
theorem Index2_c (A : Option Addr) (n c : Nat) (l : List Int) (w : World) (h : IRow w A n .i64 l) :
  Calls Tryz.prog 118 #[.slice A n c, .func (.func 178) #[] #[]] w fun e w' => ∃ x, e = .returned (.int .i64 x) ∧ IdxRes l n x ∧ w = w' := by
 have hm := h.max'
 go_enter Tryz.func118, Tryz.ntmps118
 go_wp2
 go_loop [8] (fun i => ∃ k : Nat, k ≤ n ∧ i = .int .i64 k ∧ Hid (RightB l k = true)) (fun i => n - (intOf i).toNat)
 case atStart => exact ⟨0, by omega, rfl, rfl⟩
 case round =>
  obtain ⟨k, hk, rfl, hs⟩ := hrel
  by_cases hlt : k < n
  ·have hkn : (k : Int) < n := by omega
   obtain ⟨b1, o1, rfl, _, q1⟩ := h.at_ hlt
   have hb := bad2_c (gi l k)
   by_cases hz : 0 ≤ gi l k ∧ gi l k ≤ 15
   ·have hs2 : Hid (RightB l (k + 1) = true) := by unfold Hid RightB; rw [hs.out, decide_eq_true hz]; rfl
    rw [decide_eq_true hz] at hb
    generalize gi l k = a at *
    have HB := Lib.hid hb
    clear hb hz
    go_wp2_with (go_at_call 178; refine (HB.out _).mono ?_; rintro e w' ⟨rfl, rfl⟩)
    go_round
    case rel => exact ⟨k + 1, by omega, by go_num, hs2⟩
    case measure => simp [intOf]; omega
   ·have hr : Hid (IdxRes l n k) := .inr ⟨RightB_not hlt hz, by omega⟩
    rw [decide_eq_false hz] at hb
    generalize gi l k = a at *
    have HB := Lib.hid hb
    clear hb hz
    go_wp2_with (go_at_call 178; refine (HB.out _).mono ?_; rintro e w' ⟨rfl, rfl⟩)
    go_ret
    exact ⟨_, rfl, hr.out, rfl⟩
  ·obtain rfl : k = n := by omega
   go_wp2
   go_ret
   exact ⟨_, rfl, .inl ⟨hs.out, rfl⟩, rfl⟩
theorem IdxRes.geq {l : List Int} {n : Nat} {x : Int} (h : IdxRes l n x) : decide (0 ≤ x) = !RightB l n := by
 rcases h with ⟨h1, rfl⟩ | ⟨h1, h2⟩
 ·rw [h1]; rfl
 ·rw [h1, decide_eq_true h2]; rfl
set_option maxHeartbeats 1000000 in
theorem Contains1_c (A : Option Addr) (n c : Nat) (l : List Int) (w : World) (h : IRow w A n .i64 l) :
  Calls Tryz.prog 71 #[.slice A n c, .func (.func 160) #[] #[]] w fun e w' => e = .returned (.bool (!RightB l n)) ∧ w = w' := by
 go_enter Tryz.func71, Tryz.ntmps71
 go_wp2_with (go_at_call 118; refine (Index1_c A n c l _ h).mono ?_; rintro e w' ⟨x, rfl, hx, rfl⟩; have HX := Lib.hid hx.geq; clear hx)
 go_ret
 exact ⟨ret_bool HX.out, rfl⟩
set_option maxHeartbeats 1000000 in
theorem Contains2_c (A : Option Addr) (n c : Nat) (l : List Int) (w : World) (h : IRow w A n .i64 l) :
  Calls Tryz.prog 71 #[.slice A n c, .func (.func 178) #[] #[]] w fun e w' => e = .returned (.bool (!RightB l n)) ∧ w = w' := by
 go_enter Tryz.func71, Tryz.ntmps71
 go_wp2_with (go_at_call 118; refine (Index2_c A n c l _ h).mono ?_; rintro e w' ⟨x, rfl, hx, rfl⟩; have HX := Lib.hid hx.geq; clear hx)
 go_ret
 exact ⟨ret_bool HX.out, rfl⟩
def fitB (l : List Int) (n : Nat) : Bool := decide (n ≤ 288) && RightB l n && decide (kr l n ≤ 32768)
theorem kr_bound (l : List Int) {n : Nat} (h : ∀ i, i < n → 0 ≤ gi l i ∧ gi l i ≤ 15) : ∀ k, k ≤ n → kr l k ≤ 16384 * k := by
 intro k
 induction k with
 | zero => intro _; exact Nat.le_refl _
 | succ k ih =>
  intro hk
  have h1 := ih (by omega)
  have h3 := h k (by omega)
  unfold kr
  by_cases h2 : 0 < gi l k
  ·rw [if_pos h2]
   have h3 : 1 ≤ lnN l k := by unfold lnN; omega
   have h4 : 2 ^ (15 - lnN l k) ≤ 2 ^ 14 := Nat.pow_le_pow_right (by decide) (by omega)
   omega
  ·rw [if_neg h2]
   omega
theorem pow15 (m : Nat) (h : m ≤ 15) : 2 ^ (15 - m) ≤ 32768 := Nat.pow_le_pow_right (by decide) (by omega : 15 - m ≤ 15)
theorem sum_step (s a pw : Nat) (hs : s ≤ 9223372036854700000) (hp : pw ≤ 32768) (h : pw = 2 ^ (15 - a)) : wrap64 ((s : Int) + wrap64 (2 ^ (15 - a))) = ((s + pw : Nat) : Int) := by
 have e : ((2 : Int) ^ (15 - a)) = (pw : Int) := by rw [h]; simp
 rw [e, IntWalk.wrap64_in (pw : Int) (by omega), IntWalk.wrap64_in _ (by omega)]
 omega
set_option maxHeartbeats 1000000 in
theorem Fit_c (A : Option Addr) (n c : Nat) (l : List Int) (w : World) (h : IRow w A n .i64 l) :
  Calls Tryz.prog 161 #[.slice A n c] w fun e w' => e = .returned (.bool (fitB l n)) ∧ ∃ q, w' = w.drewN q := by
 have hm := h.max'
 by_cases h1 : (288 : Int) < (n : Int)
 ·have hf : Hid (fitB l n = false) := by unfold Hid fitB; rw [decide_eq_false (by omega)]; rfl
  go_enter Tryz.func161, Tryz.ntmps161
  go_wp2
  go_ret
  exact ⟨ret_bool hf.out.symm, 0, rfl⟩
 ·have hcon := Contains2_c A n c l w h
  cases hr : RightB l n with
  | false =>
   have hf : Hid (fitB l n = false) := by unfold Hid fitB; rw [hr, Bool.and_false]; rfl
   rw [hr] at hcon
   have HC := Lib.hid hcon
   clear hcon hr
   go_enter Tryz.func161, Tryz.ntmps161
   go_wp2_with (go_at_call 71; refine HC.out.mono ?_; rintro e _ ⟨rfl, rfl⟩)
   go_ret
   exact ⟨ret_bool hf.out.symm, 0, rfl⟩
  | true =>
   have hf : Hid (fitB l n = decide (kr l n ≤ 32768)) := by unfold Hid fitB; rw [hr, decide_eq_true (by omega)]; rfl
   have hri := RightB_all hr
   have HRI := Lib.hid hri
   have hkb := kr_bound l hri
   have HKB := Lib.hid hkb
   rw [hr] at hcon
   have HC := Lib.hid hcon
   clear hcon hr hri hkb
   go_enter Tryz.func161, Tryz.ntmps161
   go_wp2_with (go_at_call 71; refine HC.out.mono ?_; rintro e _ ⟨rfl, rfl⟩)
   go_loopw [3, 15] (fun s i wr => ∃ k q : Nat, k ≤ n ∧ i = .int .i64 k ∧ s = .int .i64 (kr l k) ∧ Hid (wr = w.drewN q)) (fun _ i _ => n - (intOf i).toNat)
   case atStart => exact ⟨0, 0, by omega, rfl, rfl, rfl⟩
   case round =>
    obtain ⟨k, q, hk, rfl, rfl, hw⟩ := hrel
    by_cases hlt : k < n
    ·have hkn : (k : Int) < n := by omega
     have h1 := h.drewN q
     rw [← hw.out] at h1
     obtain ⟨b1, o1, rfl, _, q1⟩ := h1.at_ hlt
     have hg := HRI.out k hlt
     obtain ⟨a, ha⟩ : ∃ a : Nat, gi l k = a := ⟨(gi l k).toNat, by omega⟩
     have hkr := HKB.out k (by omega)
     rw [ha] at q1
     by_cases ha0 : 0 < a
     ·have ha15 : a ≤ 15 := by omega
      have hai : (0 : Int) < (a : Int) := by omega
      have hs : Hid (kr l (k + 1) = kr l k + 2 ^ (15 - a)) := by
       unfold Hid
       rw [kr, if_pos (by omega), show lnN l k = a by unfold lnN; omega]
      have hp := pow15 a ha15
      obtain ⟨pw, hpw⟩ : ∃ pw, pw = 2 ^ (15 - a) := ⟨_, rfl⟩
      rw [← hpw] at hp hs
      have hpe := Lib.hid hpw
      clear hpw
      go_wp2
      go_roundw
      case rel =>
       refine ⟨k + 1, q, by omega, by go_num, ?_, hw⟩
       rw [hs.out, sum_step (kr l k) a pw (by omega) hp hpe.out]
      case measure => simp [intOf]; omega
     ·obtain rfl : a = 0 := by omega
      have hs : Hid (kr l (k + 1) = kr l k) := by
       unfold Hid
       rw [kr, if_neg (by omega)]; rfl
      go_wp2
      go_roundw
      case rel => exact ⟨k + 1, q, by omega, by go_num, by rw [hs.out], hw⟩
      case measure => simp [intOf]; omega
    ·obtain rfl : k = n := by omega
     go_wp2
     go_ret
     refine ⟨ret_bool ?_, q, hw.out⟩
     rw [hf.out]
     exact decide_eq_decide.2 (by omega)
def totL (l : List Int) : Nat → Nat
 | 0 => 0
 | k + 1 => totL l k + lnN l k
set_option maxHeartbeats 1000000 in
theorem mayBeOpen_c (A : Option Addr) (n c : Nat) (l : List Int) (w : World) (h : IRow w A n .i64 l) (hr : ∀ i, i < n → 0 ≤ gi l i ∧ gi l i ≤ 15) (hn : n ≤ 288) :
  Calls Tryz.prog 163 #[.slice A n c] w fun e w' => e = .returned (.bool (decide (totL l n < 2))) ∧ w = w' := by
 have HRI := Lib.hid hr
 clear hr
 go_enter Tryz.func163, Tryz.ntmps163
 go_wp2
 go_loop [3, 8] (fun s i => ∃ k : Nat, k ≤ n ∧ i = .int .i64 k ∧ s = .int .i64 (totL l k) ∧ totL l k ≤ 15 * k) (fun _ i => n - (intOf i).toNat)
 case atStart => exact ⟨0, by omega, rfl, rfl, Nat.le_refl _⟩
 case round =>
  obtain ⟨k, hk, rfl, rfl, hb⟩ := hrel
  by_cases hlt : k < n
  ·have hkn : (k : Int) < n := by omega
   obtain ⟨b1, o1, rfl, _, q1⟩ := h.at_ hlt
   have hg := HRI.out k hlt
   obtain ⟨a, ha⟩ : ∃ a : Nat, gi l k = a := ⟨(gi l k).toNat, by omega⟩
   rw [ha] at q1
   have ha15 : a ≤ 15 := by omega
   have hs : Hid (totL l (k + 1) = totL l k + a) := by
    unfold Hid
    rw [totL, show lnN l k = a by unfold lnN; omega]
   obtain ⟨s, hse⟩ : ∃ s, s = totL l k := ⟨_, rfl⟩
   rw [← hse] at hb hs ⊢
   clear hse
   go_wp2
   go_round
   case rel => exact ⟨k + 1, by omega, by go_num, by rw [hs.out]; go_num, by rw [hs.out]; omega⟩
   case measure => simp [intOf]; omega
  ·obtain rfl : k = n := by omega
   go_wp2
   go_ret
   exact ⟨ret_bool (decide_eq_decide.2 (by omega)), rfl⟩
def us (f : Nat → Nat) (n : Nat) : List Value := (List.range n).map fun i => .int .u32 ((f i : Nat) : Int)
theorem us_length (f : Nat → Nat) (n : Nat) : (us f n).length = n := by simp [us]
theorem us_at (f : Nat → Nat) {n i : Nat} (h : i < n) : (us f n)[i]? = some (.int .u32 ((f i : Nat) : Int)) := by simp [us, h]
theorem us_congr {f g : Nat → Nat} {n : Nat} (h : ∀ i, i < n → f i = g i) : us f n = us g n := by
 unfold us
 exact List.map_congr_left fun i hi => by rw [h i (List.mem_range.1 hi)]
theorem us_set {f g : Nat → Nat} {n i v : Nat} (h : ∀ j, j < n → g j = if j = i then v else f j) : (us f n).set i (.int .u32 ((v : Nat) : Int)) = us g n := by
 refine List.ext_getElem? fun j => ?_
 rw [List.getElem?_set]
 by_cases hj : j < n
 ·rw [us_at g hj, h j hj, us_length]
  by_cases e : i = j
  ·subst e; rw [if_pos rfl, if_pos hj, if_pos rfl]
  ·rw [if_neg e, us_at f hj, if_neg (Ne.symm e)]
 ·rw [List.getElem?_eq_none (l := us g n) (by rw [us_length]; omega)]
  split
  ·rw [if_neg (by rw [us_length]; omega)]
  ·rw [List.getElem?_eq_none (by rw [us_length]; omega)]
theorem us_one (f : Nat → Nat) (n : Nat) : ∀ u ∈ us f n, u.oneCell' = true := by
 intro u hu
 obtain ⟨b, _, rfl⟩ := List.mem_map.1 hu
 rfl
theorem info_a17 : (Tryz.prog.info? 122).map (fun i => (i.zero, i.size)) = some (some (.agg (us (fun _ => 0) 17).toArray), 17) := by kernel_rfl
theorem info_a16 : (Tryz.prog.info? 177).map (fun i => (i.zero, i.size)) = some (some (.agg (us (fun _ => 0) 16).toArray), 16) := by kernel_rfl
theorem zero_a17 (w : World) : Sem.run Tryz.prog (zeroValue 122) w = .ok (.agg (us (fun _ => 0) 17).toArray) w := (zero_of_info info_a17).1 w
theorem size_a17 : (Tryz.prog.info? 122).map (·.size) = some 17 := (zero_of_info info_a17).2
theorem zero_a16 (w : World) : Sem.run Tryz.prog (zeroValue 177) w = .ok (.agg (us (fun _ => 0) 16).toArray) w := (zero_of_info info_a16).1 w
theorem size_a16 : (Tryz.prog.info? 177).map (·.size) = some 16 := (zero_of_info info_a16).2
theorem load_a17 (w : World) (g : Nat) (f : Nat → Nat) (h : Blk w g 122 (us f 17).toArray) : Sem.run Tryz.prog (loadVar 122 ⟨g, 0, none⟩) w = .ok (.agg (us f 17).toArray) w :=
 run_loadVar_row w g _ _ _ (0, 0) _ h Tryz.underlying122 rfl (by rw [size_a17, List.size_toArray, us_length])
theorem load_a16 (w : World) (g : Nat) (f : Nat → Nat) (h : Blk w g 177 (us f 16).toArray) : Sem.run Tryz.prog (loadVar 177 ⟨g, 0, none⟩) w = .ok (.agg (us f 16).toArray) w :=
 run_loadVar_row w g _ _ _ (0, 0) _ h Tryz.underlying177 rfl (by rw [size_a16, List.size_toArray, us_length])
theorem store_a17 (w : World) (g : Nat) (C : Array Value) (f : Nat → Nat) (hC : C.size = 17) (h : Blk w g 122 C) : Sem.run Tryz.prog (storeVar 122 ⟨g, 0, none⟩ (.agg (us f 17).toArray)) w = .ok () (w.setRow g (us f 17).toArray) :=
 run_storeVar_row w g _ _ _ _ h (by rw [size_a17, List.size_toArray, us_length]) (by rw [hC, List.size_toArray, us_length]) (by
  rw [Array.all_eq_true_iff_forall_mem]
  intro u hu
  exact us_one f 17 u (by simpa using hu))
theorem storeCells_a17 (w : World) (g : Nat) (C : Array Value) (f : Nat → Nat) (hC : C.size = 17) (h : Blk w g 122 C) : Sem.run Tryz.prog (storeCells ⟨g, 0, none⟩ (us f 17) 0) w = .ok () (w.setRow g (us f 17).toArray) := by
 have h1 := store_a17 w g C f hC h
 have h2 := size_a17
 cases hq : Tryz.prog.info? 122 with
 | none => simp [hq] at h2
 | some i =>
  have hs : i.size = 17 := by simpa [hq] using h2
  simpa [storeVar, sizeOf, typeInfo, hq, Value.cells, hs, us_length] using h1
theorem store_new17 (w : World) (f : Nat → Nat) (g : Nat) (hg : g = w.heap.size) : Sem.run Tryz.prog (storeCells ⟨g, 0, none⟩ (us f 17) 0) (w.alloc (.cells (us (fun _ => 0) 17).toArray 122)) = .ok () (w.alloc (.cells (us f 17).toArray 122)) := by
 subst hg
 have h := storeCells_a17 (w.alloc (.cells (us (fun _ => 0) 17).toArray 122)) w.heap.size _ f (by rw [List.size_toArray, us_length]) (Blk.new _ _ _)
 rw [World.setRow_alloc_new] at h
 exact h
end
section
open Go.RowKit
set_option maxRecDepth 100000
set_option linter.unusedVariables false
theorem results_cell_one {P : Program} {fn : Func} {p : Tmp} {ty : TypeId} (h : fn.results = #[.cell p ty]) (tmps : Array Value) (w : World) :
  (results fn tmps).run P w = ((asAddr (tmps.getD p undef)).run P w).andThen fun a w₁ => (loadVar ty a).run P w₁ := by
 simp only [results, h]
 simp [Sem.run_bind, Result.andThen]
theorem cN_step {l : List Int} {k a : Nat} (ha : gi l k = (a : Int)) (h0 : 0 < a) (m : Nat) : cN l (k + 1) m = if m = a then cN l k a + 1 else cN l k m := by
 unfold cN
 rw [show cL l m (k + 1) = cL l m k + if gi l k = (m : Int) then 1 else 0 from rfl]
 by_cases e : m = a
 ·subst e
  have h0' : ¬ m = 0 := by omega
  rw [if_neg h0', if_neg h0', if_pos rfl, if_pos ha]
 ·rw [if_neg e, if_neg (c := gi l k = (m : Int)) (by omega)]
  rfl
theorem cN_skip {l : List Int} {k : Nat} (ha : gi l k = 0) (m : Nat) : cN l (k + 1) m = cN l k m := by
 unfold cN
 rw [show cL l m (k + 1) = cL l m k + if gi l k = (m : Int) then 1 else 0 from rfl]
 by_cases e : m = 0
 ·rw [if_pos e, if_pos e]
 ·rw [if_neg e, if_neg e, if_neg (by omega)]
  rfl
theorem cN_le (l : List Int) (k m : Nat) : cN l k m ≤ k := by
 unfold cN
 split
 ·omega
 ·exact cL_le l m k
theorem index_a16 (f : Nat → Nat) (w : World) {j : Nat} (hj : j < 16) : Sem.run Tryz.prog (Instr.index 177 (.agg (us f 16).toArray) (.int .i64 (j : Int))) w = .ok (.int .u32 ((f j : Nat) : Int)) w := by
 have h : j = 0 ∨ j = 1 ∨ j = 2 ∨ j = 3 ∨ j = 4 ∨ j = 5 ∨ j = 6 ∨ j = 7 ∨ j = 8 ∨ j = 9 ∨ j = 10 ∨ j = 11 ∨ j = 12 ∨ j = 13 ∨ j = 14 ∨ j = 15 := by omega
 rcases h with rfl | rfl | rfl | rfl | rfl | rfl | rfl | rfl | rfl | rfl | rfl | rfl | rfl | rfl | rfl | rfl
 all_goals rfl
def fT (l : List Int) (k j : Nat) : Nat → Nat := fun i => if i ≤ j then fK l k i else 0
theorem fT_step (l : List Int) (k j i : Nat) (hi : i < 17) : fT l k (j + 1) i = if i = j + 1 then 2 * (fK l k j + cN l k j) else fT l k j i := by
 unfold fT
 by_cases e : i = j + 1
 ·subst e
  rw [if_pos (Nat.le_refl _), if_pos rfl]
  rfl
 ·rw [if_neg e]
  by_cases e2 : i ≤ j
  ·rw [if_pos e2, if_pos (by omega)]
  ·rw [if_neg e2, if_neg (by omega)]
set_option maxHeartbeats 2000000 in
theorem firstCodes_c (A : Option Addr) (n c : Nat) (l : List Int) (w : World) (h : IRow w A n .i64 l) (hr : RightL l) (hn : n ≤ 288) :
  Calls Tryz.prog 78 #[.slice A n c] w fun e w' => e = .returned (.agg (us (fK l n) 17).toArray) ∧ Below w.heap.size w w' := by
 have hz1 := zero_a17
 have hz2 := zero_a16
 have hlen := h.len
 have HRI : Hid (∀ i, i < n → 0 ≤ gi l i ∧ gi l i ≤ 15) := by unfold Hid; rw [← hlen]; exact hr
 have HFS : Hid (∀ j, j ≤ 15 → fK l n j + cN l n j ≤ 4718592) := by unfold Hid; rw [← hlen]; exact fun j hj => fK_small hr (by omega) j hj
 clear hr hlen
 go_enter Tryz.func78, Tryz.ntmps78
 go_wp2
 go_loopw [10] (fun i wr => ∃ k : Nat, k ≤ n ∧ i = .int .i64 k ∧ Blk wr w.heap.size 122 (us (fun _ => 0) 17).toArray ∧ Blk wr (w.heap.size + 1) 177 (us (fun m => cN l k m) 16).toArray ∧ Below w.heap.size w wr) (fun i _ => n - (intOf i).toNat)
 case atStart =>
  have h0 : us (fun m => cN l 0 m) 16 = us (fun _ => 0) 16 := us_congr fun i hi => by unfold cN cL; split <;> rfl
  refine ⟨0, by omega, rfl, ?_, ?_, ?_⟩
  ·exact (Blk.new w _ _).below (by simp) ((Below.refl _ _).alloc (Nat.le_refl _) _)
  ·rw [h0]
   have h1 := Blk.new (w.alloc (.cells (us (fun _ => 0) 17).toArray 122)) 177 (us (fun _ => 0) 16).toArray
   simpa using h1
  ·exact ((Below.refl _ _).alloc (Nat.le_refl _) _).alloc (by simp) _
 case round =>
  obtain ⟨k, hk, rfl, hb1, hb2, hbel⟩ := hrel
  by_cases hlt : k < n
  ·have hkn : (k : Int) < n := by omega
   have h1 := h.below hbel
   obtain ⟨b1, o1, rfl, _, q1⟩ := h1.at_ hlt
   have hg := HRI.out k hlt
   obtain ⟨a, ha⟩ : ∃ a : Nat, gi l k = a := ⟨(gi l k).toNat, by omega⟩
   rw [ha] at q1
   by_cases ha0 : 0 < a
   ·have ha16 : (a : Int) < 16 := by omega
    have hai : (0 : Int) < (a : Int) := by omega
    have hc := hb2.cell a
    rw [List.getElem?_toArray, us_at _ (by omega)] at hc
    have hf := hb2.frozen a
    have hle := cN_le l k a
    have hst := Lib.hid (hb2.set_ a (.int .u32 ((cN l k a + 1 : Nat) : Int)))
    have hb1' := Lib.hid (hb1.setOther (a := Addr.mk (w.heap.size + 1) a none) (by simp) (.int .u32 ((cN l k a + 1 : Nat) : Int)))
    have HN := Lib.hid (fun m (_ : m < 16) => cN_step ha ha0 m)
    have HBEL := Lib.hid (hbel.setCell (p := Addr.mk (w.heap.size + 1) a none) (by simp) (.int .u32 ((cN l k a + 1 : Nat) : Int)))
    obtain ⟨x, hx⟩ : ∃ x, x = cN l k a := ⟨_, rfl⟩
    have HX := Lib.hid hx
    rw [← hx] at hc hle hst hb1' HBEL
    clear hx
    go_wp2
    go_roundw
    case rel =>
     refine ⟨k + 1, by omega, by go_num, hb1'.out, ?_, HBEL.out⟩
     have h1 := hst.out
     rw [List.setIfInBounds_toArray, us_set (g := fun m => cN l (k + 1) m) (fun i hi => by rw [HN.out i hi, HX.out])] at h1
     exact h1
    case measure => simp [intOf]; omega
   ·obtain rfl : a = 0 := by omega
    have HN : Hid (us (fun m => cN l (k + 1) m) 16 = us (fun m => cN l k m) 16) := us_congr fun m _ => cN_skip ha m
    go_wp2
    go_roundw
    case rel => exact ⟨k + 1, by omega, by go_num, hb1, by rw [HN.out]; exact hb2, hbel⟩
    case measure => simp [intOf]; omega
  ·obtain rfl : k = n := by omega
   have hld := load_a16 wr (w.heap.size + 1) _ hb2
   go_wp2_with (with_reducible refine wpList_load_var (w.heap.size + 1) _ rfl hld ?_)
   go_loopw [23] (fun i wr => ∃ j : Nat, j ≤ 16 ∧ i = .int .i64 j ∧ Blk wr w.heap.size 122 (us (fT l k j) 17).toArray ∧ Below w.heap.size w wr) (fun i _ => 16 - (intOf i).toNat)
   case atStart =>
    have h0 : us (fT l k 0) 17 = us (fun _ => 0) 17 := us_congr fun i hi => by
     unfold fT
     split
     ·rw [show i = 0 by omega]; rfl
     ·rfl
    exact ⟨0, by omega, rfl, by rw [h0]; exact hb1, hbel⟩
   case round =>
    clear hb1 hb2 hbel hld
    obtain ⟨j, hj, rfl, hb1, hbel⟩ := hrel
    by_cases hlj : j < 16
    ·have hji : (j : Int) < 16 := by omega
     have hc := hb1.cell j
     rw [List.getElem?_toArray, us_at _ (by omega)] at hc
     have hf := hb1.frozen (j + 1)
     have hix := fun W => index_a16 (fun m => cN l k m) W hlj
     have hfs := HFS.out j (by omega)
     have hc2 := hb1.cell (j + 1)
     rw [List.getElem?_toArray, us_at _ (by omega)] at hc2
     have hfj : Hid (fT l k j j = fK l k j) := if_pos (Nat.le_refl _)
     rw [hfj.out] at hc
     have hst := Lib.hid (hb1.set_ (j + 1) (.int .u32 ((2 * (fK l k j + cN l k j) : Nat) : Int)))
     have HT := Lib.hid (fun i hi => fT_step l k j i hi)
     have HBEL := Lib.hid (hbel.setCell (p := Addr.mk w.heap.size (j + 1) none) (by simp) (.int .u32 ((2 * (fK l k j + cN l k j) : Nat) : Int)))
     obtain ⟨x, hx⟩ : ∃ x, x = fK l k j := ⟨_, rfl⟩
     obtain ⟨y, hy⟩ : ∃ y, y = cN l k j := ⟨_, rfl⟩
     rw [← hx] at hc hfs hst HBEL
     rw [← hy] at hfs hst HBEL
     simp only [← hy] at hix
     have HX := Lib.hid hx
     have HY := Lib.hid hy
     obtain ⟨m, hm⟩ : ∃ m, m = j + 1 := ⟨_, rfl⟩
     have hmi : IntKind.i64.wrap ((j : Int) + 1) = (m : Int) := (IntWalk.i64_in _ (by omega)).trans (by omega)
     have hm17 : (m : Int) < 17 := by omega
     rw [← hm] at hf hst HBEL hc2
     have HM := Lib.hid hm
     clear hx hy hm
     go_wp2
     go_roundw
     case rel =>
      refine ⟨j + 1, by omega, by rw [HM.out], ?_, HBEL.out⟩
      have h1 := hst.out
      rw [List.setIfInBounds_toArray, us_set (g := fT l k (j + 1)) (fun i hi => by rw [HT.out i hi, HM.out, HX.out, HY.out])] at h1
      exact h1
     case measure => have := HM.out; simp [intOf]; omega
    ·obtain rfl : j = 16 := by omega
     have hfin : us (fT l k 16) 17 = us (fK l k) 17 := us_congr fun i hi => if_pos (by omega)
     rw [hfin] at hb1
     clear hfin
     have hld := load_a17 wr w.heap.size _ hb1
     have hst := storeCells_a17 wr w.heap.size _ (fK l k) (by rw [List.size_toArray, us_length]) hb1
     have hlen : (us (fK l k) 17).length = 17 := us_length _ _
     have hld2 := load_a17 _ w.heap.size _ (hb1.setRow (us (fK l k) 17).toArray)
     have hbel2 := below_setRow hbel (Nat.le_refl _) (us (fK l k) 17).toArray
     go_wp2_with ((with_reducible refine wpList_load_var w.heap.size _ ?hp hld ?hK); case hp => rfl)
     refine bodyPost_ret (v := .agg (us (fK l k) 17).toArray) ?_ rfl ⟨rfl, hbel2⟩
     rw [results_cell_one rfl]
     simp [asAddr, Result.andThen, hld2]
theorem u32_eq2 (a b : Nat) : ((a : Int) == (b : Int)) = decide (a = b) := by
 rw [Bool.eq_iff_iff, beq_iff_eq, decide_eq_true_iff]
 omega
set_option maxHeartbeats 2000000 in
theorem full_c (A : Option Addr) (n c : Nat) (l : List Int) (w : World) (h : IRow w A n .i64 l) (hr : RightL l) (hn : n ≤ 288) :
  Calls Tryz.prog 162 #[.slice A n c] w fun e w' => e = .returned (.bool (decide (kr l n = 32768))) ∧ Below w.heap.size w w' := by
 have hz1 := zero_a17
 have hk := fK_kr hr n (by have := h.len; omega)
 have HK := Lib.hid hk
 have HF := Lib.hid (firstCodes_c A n c l w h hr hn)
 clear hk hr
 go_enter Tryz.func162, Tryz.ntmps162
 go_wp2_with fail
 refine HF.out.mono ?_
 rintro e w1 ⟨rfl, hb1⟩
 have hs1 := store_new17 w1 (fK l n) w1.heap.size rfl
 have hl1 : (us (fK l n) 17).length = 17 := us_length _ _
 have hc := (Blk.new w1 122 (us (fK l n) 17).toArray).cell 16
 rw [List.getElem?_toArray, us_at _ (by omega), HK.out] at hc
 have hbel := hb1.alloc hb1.size (.cells (us (fK l n) 17).toArray 122)
 have hd : Hid ((((2 * kr l n : Nat) : Int) == 65536) = decide (kr l n = 32768)) := by
  unfold Hid
  rw [show (65536 : Int) = ((65536 : Nat) : Int) from rfl, u32_eq2]
  exact decide_eq_decide.2 (by omega)
 generalize 2 * kr l n = x at *
 clear HK HF h
 go_wp2
 go_ret
 exact ⟨ret_bool hd.out, hbel⟩
def errC (l : List Int) (n : Nat) : Nat :=
 if 288 < n ∨ RightB l n = false then 1 else if 32768 < kr l n then 30 else if kr l n < 32768 ∧ 2 ≤ totL l n then 31 else 0
set_option maxHeartbeats 2000000 in
theorem wrong_c (A : Option Addr) (n c : Nat) (l : List Int) (w : World) (h : IRow w A n .i64 l) :
  Calls Tryz.prog 124 #[.slice A n c] w fun e w' => e = .returned (.int .i64 (errC l n)) ∧ Below w.heap.size w w' := by
 have hm := h.max'
 by_cases h1 : (288 : Int) < (n : Int)
 ·have he : errC l n = 1 := if_pos (.inl (by omega))
  rw [he]
  clear he
  go_enter Tryz.func124, Tryz.ntmps124
  go_wp2
  go_ret
  exact ⟨rfl, Below.refl _ _⟩
 ·have hcon := Contains1_c A n c l w h
  cases hr : RightB l n with
  | false =>
   have he : errC l n = 1 := if_pos (.inr hr)
   rw [he]
   rw [hr] at hcon
   have HC := Lib.hid hcon
   clear hcon hr he
   go_enter Tryz.func124, Tryz.ntmps124
   go_wp2_with (go_at_call 71; refine HC.out.mono ?_; rintro e _ ⟨rfl, rfl⟩)
   go_ret
   exact ⟨rfl, Below.refl _ _⟩
  | true =>
   have hne : ¬ (288 < n ∨ RightB l n = false) := by rw [hr]; simp; omega
   have hri : RightL l := by have := RightB_all hr; unfold RightL; rw [h.len]; exact this
   have HRI := Lib.hid hri
   have hfit := Fit_c A n c l w h
   have hfb : fitB l n = decide (kr l n ≤ 32768) := by unfold fitB; rw [hr, decide_eq_true (by omega)]; rfl
   rw [hfb] at hfit
   have HE : Hid (errC l n = if 32768 < kr l n then 30 else if kr l n < 32768 ∧ 2 ≤ totL l n then 31 else 0) := if_neg hne
   rw [hr] at hcon
   have HC := Lib.hid hcon
   rw [HE.out]
   clear hcon hr hri hne hfb
   by_cases hk : 32768 < kr l n
   ·rw [if_pos hk]
    rw [decide_eq_false (by omega)] at hfit
    have HFIT := Lib.hid hfit
    clear hfit hk
    go_enter Tryz.func124, Tryz.ntmps124
    go_wp2_with (first
     | (go_at_call 71; refine HC.out.mono ?_; rintro e _ ⟨rfl, rfl⟩)
     | (go_at_call 161; refine HFIT.out.mono ?_; rintro e _ ⟨rfl, q, rfl⟩))
    go_ret
    exact ⟨rfl, below_drewN (Below.refl _ _) q⟩
   ·rw [if_neg hk]
    rw [decide_eq_true (by omega)] at hfit
    have HFIT := Lib.hid hfit
    have HFU := Lib.hid (fun q => full_c A n c l (w.drewN q) (h.drewN q) HRI.out (by omega))
    have hlen := h.len
    have HMB : Hid (∀ W, Below w.heap.size w W → Calls Tryz.prog 163 #[.slice A n c] W fun e w' => e = .returned (.bool (decide (totL l n < 2))) ∧ W = w') := fun W hb => mayBeOpen_c A n c l W (h.below hb) (by have := HRI.out; unfold RightL at this; rw [hlen] at this; exact this) (by omega)
    clear hfit hlen
    by_cases hk2 : kr l n = 32768
    ·rw [if_neg (by omega)]
     rw [decide_eq_true hk2] at HFU
     clear hk2 hk
     go_enter Tryz.func124, Tryz.ntmps124
     go_wp2_with (first
      | (go_at_call 71; refine HC.out.mono ?_; rintro e _ ⟨rfl, rfl⟩)
      | (go_at_call 161; refine HFIT.out.mono ?_; rintro e _ ⟨rfl, q, rfl⟩)
      | (go_at_call 162; refine (HFU.out q).mono ?_; rintro e w2 ⟨rfl, hb2⟩))
     go_ret
     exact ⟨rfl, (below_drewN (Below.refl _ _) q).trans hb2⟩
    ·rw [decide_eq_false hk2] at HFU
     by_cases ht : totL l n < 2
     ·rw [if_neg (by omega)]
      rw [decide_eq_true ht] at HMB
      clear hk2 hk ht
      go_enter Tryz.func124, Tryz.ntmps124
      go_wp2_with (first
       | (go_at_call 71; refine HC.out.mono ?_; rintro e _ ⟨rfl, rfl⟩)
       | (go_at_call 161; refine HFIT.out.mono ?_; rintro e _ ⟨rfl, q, rfl⟩)
       | (go_at_call 162; refine (HFU.out q).mono ?_; rintro e w2 ⟨rfl, hb2⟩; have hb3 : Below w.heap.size w w2 := (below_drewN (Below.refl _ _) q).trans hb2)
       | (go_at_call 163; refine (HMB.out _ hb3).mono ?_; rintro e _ ⟨rfl, rfl⟩))
      go_ret
      exact ⟨rfl, hb3⟩
     ·rw [if_pos (by omega)]
      rw [decide_eq_false ht] at HMB
      clear hk2 hk ht
      go_enter Tryz.func124, Tryz.ntmps124
      go_wp2_with (first
       | (go_at_call 71; refine HC.out.mono ?_; rintro e _ ⟨rfl, rfl⟩)
       | (go_at_call 161; refine HFIT.out.mono ?_; rintro e _ ⟨rfl, q, rfl⟩)
       | (go_at_call 162; refine (HFU.out q).mono ?_; rintro e w2 ⟨rfl, hb2⟩; have hb3 : Below w.heap.size w w2 := (below_drewN (Below.refl _ _) q).trans hb2)
       | (go_at_call 163; refine (HMB.out _ hb3).mono ?_; rintro e _ ⟨rfl, rfl⟩))
      go_ret
      exact ⟨rfl, hb3⟩
end
section
open Go.RowKit
set_option maxRecDepth 100000
set_option linter.unusedVariables false
theorem info_u32 : (Tryz.prog.info? 60).map (fun i => (i.zero, i.size, i.bytes)) = some (some (.int .u32 0), 1, 4) := by kernel_rfl
theorem own_set_ne {w : World} {base n c g : Nat} {e : TypeId} {xs : List Value} (h : w.ownsRow base e 1 (.slice (some ⟨g, 0, none⟩) n c) n xs) {a : Addr} (ha : a.block ≠ g) (u : Value) : (w.setCell a u).ownsRow base e 1 (.slice (some ⟨g, 0, none⟩) n c) n xs := by
 refine ⟨h.1, ?_⟩
 rcases h.2 with hn | ⟨g', cap, cur, hv, hbg, hg, rest⟩
 ·exact .inl hn
 ·have e : g' = g := by injection hv with h1; injection h1 with h2; injection h2 with h3; exact h3.symm
  subst e
  exact .inr ⟨g', cap, cur, hv, hbg, (Go.Deep.blk_setCell_other _ _ _ _ (Ne.symm ha)).trans hg, rest⟩
def cT (l : List Int) (k : Nat) : Nat → Nat := fun i => if i < k then codeN l i else 0
theorem cT_step (l : List Int) (k i : Nat) : cT l (k + 1) i = if i = k then codeN l k else cT l k i := by
 unfold cT
 by_cases e : i = k
 ·subst e
  rw [if_pos (by omega), if_pos rfl]
 ·rw [if_neg e]
  by_cases e2 : i < k
  ·rw [if_pos e2, if_pos (by omega)]
  ·rw [if_neg e2, if_neg (by omega)]
theorem us_zero (n : Nat) : us (fun _ => 0) n = List.replicate n (.int .u32 0) := by
 refine List.ext_getElem (by rw [us_length, List.length_replicate]) fun i h1 h2 => ?_
 simp [us]
theorem errC_zero {l : List Int} {n : Nat} (h : errC l n = 0) : n ≤ 288 ∧ RightB l n = true ∧ kr l n ≤ 32768 ∧ (kr l n = 32768 ∨ totL l n < 2) := by
 unfold errC at h
 by_cases h1 : 288 < n ∨ RightB l n = false
 ·rw [if_pos h1] at h; cases h
 ·rw [if_neg h1] at h
  by_cases h2 : 32768 < kr l n
  ·rw [if_pos h2] at h; cases h
  ·rw [if_neg h2] at h
   by_cases h3 : kr l n < 32768 ∧ 2 ≤ totL l n
   ·rw [if_pos h3] at h; cases h
   ·refine ⟨by omega, ?_, by omega, by omega⟩
    cases hr : RightB l n with
    | true => rfl
    | false => exact absurd (.inr hr) h1
def nx (l : List Int) (n k : Nat) : Nat → Nat := fun m => fK l n m + cN l k m
theorem nx_zero (l : List Int) (n : Nat) : nx l n 0 = fK l n := by
 funext m
 unfold nx cN cL
 split <;> rfl
theorem nx_step {l : List Int} {n k a : Nat} (ha : gi l k = (a : Int)) (h0 : 0 < a) (m : Nat) : nx l n (k + 1) m = if m = a then nx l n k a + 1 else nx l n k m := by
 unfold nx
 rw [cN_step ha h0]
 by_cases e : m = a
 ·subst e; rw [if_pos rfl, if_pos rfl]; rfl
 ·rw [if_neg e, if_neg e]
set_option maxHeartbeats 4000000 in
theorem Codes_no (A : Option Addr) (n c : Nat) (l : List Int) (w : World) (h : IRow w A n .i64 l) (he : errC l n ≠ 0) :
  Calls Tryz.prog 76 #[.slice A n c] w fun e w' => e = .returned (.tuple #[.slice none 0 0, .int .i64 (errC l n)]) ∧ Below w.heap.size w w' := by
 have hw := wrong_c A n c l w h
 obtain ⟨x, hx⟩ : ∃ x, x = errC l n := ⟨_, rfl⟩
 rw [← hx] at hw he ⊢
 have hne : ((x : Int) != 0) = true := by rw [bne_iff_ne]; omega
 have HW := Lib.hid hw
 clear hw hx he
 go_enter Tryz.func76, Tryz.ntmps76
 go_wp2_with (go_at_call 124; refine HW.out.mono ?_; rintro e w1 ⟨rfl, hb1⟩)
 go_ret2
 exact ⟨rfl, hb1⟩
set_option maxHeartbeats 4000000 in
theorem Codes_ok (A : Option Addr) (n c : Nat) (l : List Int) (w : World) (h : IRow w A n .i64 l) (he : errC l n = 0) :
  Calls Tryz.prog 76 #[.slice A n c] w fun e w' => ∃ g, e = .returned (.tuple #[.slice (some ⟨g, 0, none⟩) n n, .int .i64 0]) ∧ w'.ownsRow w.heap.size 60 1 (.slice (some ⟨g, 0, none⟩) n n) n (us (codeN l) n) ∧ Below w.heap.size w w' := by
 have hw := wrong_c A n c l w h
 obtain ⟨hn, hrb, hk, _⟩ := errC_zero he
 rw [he] at hw
 have hri : RightL l := by have := RightB_all hrb; unfold RightL; rw [h.len]; exact this
 have HRI : Hid (∀ i, i < n → 0 ≤ gi l i ∧ gi l i ≤ 15) := RightB_all hrb
 have HFI := Lib.hid (fun W (hb : Below w.heap.size w W) => firstCodes_c A n c l W (h.below hb) hri hn)
 have hlen := h.len
 have HFS : Hid (∀ j, j ≤ 15 → fK l n j + cN l n j ≤ 4718592) := by unfold Hid; rw [← hlen]; exact fun j hj => fK_small hri (by omega) j hj
 have HLEN := Lib.hid hlen
 have HW := Lib.hid hw
 obtain ⟨i0, hi, hz0, hz1, hz2⟩ := info_parts info_u32
 have hz := zero_a17
 clear hw hlen hri hrb he hk
 go_enter Tryz.func76, Tryz.ntmps76
 go_wp2_with (go_at_call 124; refine HW.out.mono ?_; rintro e w1 ⟨rfl, hb1⟩)
 refine (HFI.out w1 hb1).mono ?_
 rintro e w2 ⟨rfl, hb2⟩
 have hb12 := hb1.trans (hb2.mono hb1.size)
 have hs1 := store_new17 w2 (fK l n) w2.heap.size rfl
 have hl1 : (us (fK l n) 17).length = 17 := us_length _ _
 have hB3 := Blk.new w2 122 (us (fK l n) 17).toArray
 have hbel3 := hb12.alloc hb12.size (.cells (us (fK l n) 17).toArray 122)
 have hg2 : w.heap.size ≤ w2.heap.size := hb12.size
 have hsz : w2.heap.size < (w2.alloc (.cells (us (fK l n) 17).toArray 122)).heap.size := by simp
 clear hb1 hb2 hb12 HW HFI
 go_wp2_with (at_make; refine wpList_make_full _ rfl _ _ 119 rfl w.heap.size 60 i0 (.int .u32 0) 1 Tryz.underlying119 hi hz0 hz1 _ _ _ _ n rfl rfl rfl rfl (by rw [hz2]; omega) (by unfold maxLen; omega) hbel3.size ?_; intro w3 hown3 hgrow3)
 have hbel4 := hbel3.grown hgrow3 hbel3.size (fun k h => by cases h)
 have hB4 := hB3.kept hgrow3 (by simp)
 have HOWN : Hid (w3.ownsRow w.heap.size 60 1 (.slice (some ⟨w2.heap.size + 1, 0, none⟩) n n) n (us (cT l 0) n)) := by
  unfold Hid
  have e1 : us (cT l 0) n = List.replicate n (.int .u32 0) := by
   rw [← us_zero]
   exact us_congr fun i hi => if_neg (by omega)
  have e2 : madeCells (Value.int .u32 0).cells (n * 1) = madeCells #[.int .u32 0] n := by rw [Nat.mul_one]; rfl
  rw [e2, toList_madeCells_one] at hown3
  rw [e1]
  simpa using hown3
 have hg3 := hbel3.size
 rw [← nx_zero] at hB4
 clear hown3 hgrow3 hB3 hbel3 hs1 hl1 hsz
 go_wp2
 generalize w2.heap.size = g2 at *
 go_loopw [21] (fun i wr => ∃ k : Nat, k ≤ n ∧ i = .int .i64 k ∧ wr.ownsRow w.heap.size 60 1 (.slice (some ⟨g2 + 1, 0, none⟩) n n) n (us (cT l k) n) ∧ Below w.heap.size w wr ∧ Blk wr g2 122 (us (nx l n k) 17).toArray) (fun i _ => n - (intOf i).toNat)
 case atStart => exact ⟨0, by omega, rfl, HOWN.out, hbel4, hB4⟩
 case round =>
  clear hbel4 hB4
  obtain ⟨k, hk, rfl, hown, hbel, hB⟩ := hrel
  by_cases hlt : k < n
  ·have hkn : (k : Int) < n := by omega
   have h1 := h.below hbel
   obtain ⟨b1, o1, rfl, _, q1⟩ := h1.at_ hlt
   have hg := HRI.out k hlt
   obtain ⟨a, ha⟩ : ∃ a : Nat, gi l k = a := ⟨(gi l k).toNat, by omega⟩
   rw [ha] at q1
   by_cases ha0 : 0 < a
   ·have ha17 : (a : Int) < 17 := by omega
    have hai : (0 : Int) < (a : Int) := by omega
    have hc := hB.cell a
    rw [List.getElem?_toArray, us_at _ (by omega)] at hc
    have hf := hB.frozen a
    have hf2 := hown.frozenAt k
    have hc2 := hown.cellAt k (by omega)
    rw [us_at _ hlt] at hc2
    have hcode : Hid (codeN l k = nx l n k a) := by
     unfold Hid codeN nx cN
     rw [if_neg (by omega), if_neg (by omega), show lnN l k = a by unfold lnN; omega, HLEN.out]
    have hsm : nx l n k a ≤ 4718592 := by
     have h1 := HFS.out a (by omega)
     have h2 : cN l k a ≤ cN l n a := by unfold cN; split; omega; exact cL_mono l a (by omega)
     unfold nx
     omega
    have hst := Lib.hid (hown.stored k (.int .u32 ((nx l n k a : Nat) : Int))).1
    have hB1 := hB.setOther (a := Addr.mk (g2 + 1) k none) (by simp) (.int .u32 ((nx l n k a : Nat) : Int))
    have hc3 := hB1.cell a
    rw [List.getElem?_toArray, us_at _ (by omega)] at hc3
    have hf3 := hB1.frozen a
    have HB2 := Lib.hid (hB1.set_ a (.int .u32 ((nx l n k a + 1 : Nat) : Int)))
    have HB1 := Lib.hid hB1
    have HN := Lib.hid (fun m (_ : m < 17) => nx_step (n := n) ha ha0 m)
    have HC := Lib.hid (fun i (_ : i < n) => cT_step l k i)
    have HBEL := Lib.hid ((hbel.setCell (p := Addr.mk (g2 + 1) k none) (by show w.heap.size ≤ g2 + 1; omega) (.int .u32 ((nx l n k a : Nat) : Int))).setCell (p := Addr.mk g2 a none) hg2 (.int .u32 ((nx l n k a + 1 : Nat) : Int)))
    have hne : ((g2 : Nat) == g2 + 1) = false := by simp
    obtain ⟨x, hx⟩ : ∃ x, x = nx l n k a := ⟨_, rfl⟩
    have HX := Lib.hid hx
    rw [← hx] at hc hsm hst hc3 hf3 HB2 HB1 HBEL
    clear hx hB1
    go_wp2
    go_roundw
    case rel =>
     refine ⟨k + 1, by omega, by go_num, ?_, HBEL.out, ?_⟩
     ·have h1 := own_set_ne hst.out (a := Addr.mk g2 a none) (by simp) (.int .u32 ((x : Int) + 1))
      rw [HX.out, us_set (g := cT l (k + 1)) (fun i hi => by rw [HC.out i hi, hcode.out])] at h1
      rw [HX.out]
      exact h1
     ·have h1 := HB2.out
      rw [List.setIfInBounds_toArray, us_set (g := nx l n (k + 1)) (fun i hi => by rw [HN.out i hi, HX.out])] at h1
      exact h1
    case measure => simp [intOf]; omega
   ·obtain rfl : a = 0 := by omega
    have HN : Hid (us (nx l n (k + 1)) 17 = us (nx l n k) 17) := us_congr fun m _ => by unfold nx; rw [cN_skip ha]
    have HC : Hid (us (cT l (k + 1)) n = us (cT l k) n) := us_congr fun i hi => by
     rw [cT_step]
     split
     ·rename_i e
      subst e
      unfold codeN cT
      rw [if_pos (by exact ha), if_neg (by omega)]
     ·rfl
    go_wp2
    go_roundw
    case rel => exact ⟨k + 1, by omega, by go_num, by rw [HC.out]; exact hown, hbel, by rw [HN.out]; exact hB⟩
    case measure => simp [intOf]; omega
  ·obtain rfl : k = n := by omega
   have HC : Hid (us (cT l k) k = us (codeN l) k) := us_congr fun i hi => if_pos hi
   go_wp2
   go_ret2
   rw [HC.out] at hown
   exact ⟨_, rfl, hown, hbel⟩
end
end Go.Proofs.YtldgdofefcehnaaGreatDoor
