/-
  WORDS OF 32 BITS: bytes turned within 32 bits have another sum; a row and its sum behind it; blocks joined. No conditions; no program.
-/
import Derived.Test.YtbgdoemealddpaaDoorCrc
namespace Go.Proofs.YtbgdoemealddpaaDoor

/-- what is turned in the i-th byte of a row: bits that are told by their place in the row -/
def bitF (b : Bool) (j : Nat) : F := if b then ofN (2 ^ j) else 0
/-- a bit at a place of a word -/
def bitG (x : G) (i : Nat) : Bool := Nat.testBit x.n i
/-- the row turned at one place -/
def flip (l : List F) (k : Nat) : List F := l.set (k / 8) ((l.getD (k / 8) 0) + ofN (2 ^ (k % 8)))
theorem flip_length (l : List F) (k : Nat) : (flip l k).length = l.length := by simp [flip]
theorem one_bit : ∀ j, j < 8 → st j (ofG (2 ^ j)) = ofG 1 := by decide +kernel
theorem one_bit32 : ∀ j, j < 32 → st j (ofG (2 ^ j)) = ofG 1 := by decide +kernel
theorem wb_pow (j : Nat) (h : j < 8) : wb (ofN (2 ^ j)) = ofG (2 ^ j) := by
  have hlt : 2 ^ j < 256 := by
    have := Nat.pow_lt_pow_right (a := 2) (by omega) h
    simpa using this
  unfold wb
  rw [ofN_n _ hlt]
/-- one bit turned turns the sum by the bit, moved to the end -/
theorem U_flip (w : G) (l : List F) (k : Nat) (h : k < 8 * l.length) : U w (flip l k) = U w l + st (8 * l.length - k) (ofG 1) := by
  induction l generalizing w k with
  | nil => simp at h
  | cons x l ih =>
    by_cases hk : k < 8
    · have e : flip (x :: l) k = (x + ofN (2 ^ k)) :: l := by
        unfold flip
        rw [Nat.div_eq_of_lt hk, Nat.mod_eq_of_lt hk]
        rfl
      rw [e]
      show U (st 8 (w + wb (x + ofN (2 ^ k)))) l = U (st 8 (w + wb x)) l + _
      rw [wb_add, ← gadd_assoc, st_add, gadd_comm (st 8 (w + wb x)), U_add, gadd_comm]
      congr 1
      rw [wb_pow k hk, st_st]
      have h1 := one_bit k hk
      rw [← h1, st_st]
      congr 1
      simp at h ⊢
      omega
    · have e : flip (x :: l) k = x :: flip l (k - 8) := by
        unfold flip
        rw [show k / 8 = (k - 8) / 8 + 1 by omega, show k % 8 = (k - 8) % 8 by omega]
        rfl
      rw [e]
      show U (st 8 (w + wb x)) (flip l (k - 8)) = U (st 8 (w + wb x)) l + _
      have hl : (x :: l).length = l.length + 1 := rfl
      rw [ih _ _ (by rw [hl] at h; omega), hl]
      congr 2
      rw [hl] at h
      omega
/-- the first m places of a turn that is laid from 'at' on -/
def flips (l : List F) (at_ : Nat) (t : G) : Nat → List F
  | 0 => l
  | m + 1 => if bitG t m then flip (flips l at_ t m) (at_ + m) else flips l at_ t m
theorem flips_length (l : List F) (a : Nat) (t : G) (m : Nat) : (flips l a t m).length = l.length := by
  induction m with
  | zero => rfl
  | succ m ih =>
    unfold flips
    split
    · rw [flip_length, ih]
    · exact ih
/-- the lowest m bits of a word -/
def lowG (t : G) (m : Nat) : G := ofG (t.n % 2 ^ m)
theorem lowG_zero (t : G) : lowG t 0 = 0 := by unfold lowG; rw [Nat.pow_zero, Nat.mod_one]; rfl
theorem lowG_all (t : G) : lowG t 32 = t := by
  unfold lowG
  rw [Nat.mod_eq_of_lt t.lt, n_ofG]
theorem lowG_succ (t : G) (m : Nat) (hm : m < 32) : lowG t (m + 1) = if bitG t m then lowG t m + ofG (2 ^ m) else lowG t m := by
  have hlt : 2 ^ m < 4294967296 := by
    have := Nat.pow_lt_pow_right (a := 2) (by omega) hm
    simpa using this
  have hml : t.n % 2 ^ m < 2 ^ m := Nat.mod_lt _ (Nat.two_pow_pos m)
  unfold lowG bitG
  rw [Nat.mod_pow_succ, Nat.testBit_eq_decide_div_mod_eq]
  rcases Nat.mod_two_eq_zero_or_one (t.n / 2 ^ m) with h | h
  · rw [h, Nat.mul_zero, Nat.add_zero, decide_eq_false (by omega), if_neg (by simp)]
  · rw [h, Nat.mul_one, decide_eq_true rfl, if_pos rfl]
    have hx : t.n % 2 ^ m ^^^ 2 ^ m = t.n % 2 ^ m + 2 ^ m := by
      have h1 := Nat.two_pow_add_eq_or_of_lt hml 1
      rw [Nat.mul_one] at h1
      rw [Nat.add_comm, h1]
      refine Nat.eq_of_testBit_eq fun i => ?_
      rw [Nat.testBit_xor, Nat.testBit_or, Nat.testBit_two_pow]
      by_cases e : m = i
      · subst e
        rw [Nat.testBit_lt_two_pow hml]
        simp
      · simp [e]
    have ht : t.n % 2 ^ m < 4294967296 := by omega
    refine G.ext ?_
    have h32 : t.n % 2 ^ m + 2 ^ m < 4294967296 := by
      rw [← hx]
      exact gxor_lt ht hlt
    rw [gadd_n, ofG_n _ ht, ofG_n _ hlt, hx, ofG_n _ h32]
theorem U_flips (w : G) (l : List F) (a : Nat) (t : G) (m : Nat) (hm : m ≤ 32) (h : a + 32 ≤ 8 * l.length) : U w (flips l a t m) = U w l + st (8 * l.length - a) (lowG t m) := by
  induction m with
  | zero => rw [lowG_zero, st_zero, gadd_zero]; rfl
  | succ m ih =>
    have ih := ih (by omega)
    rw [lowG_succ t m (by omega)]
    unfold flips
    by_cases hb : bitG t m = true
    · rw [if_pos hb, if_pos hb, U_flip _ _ _ (by rw [flips_length]; omega), flips_length, ih, st_add, gadd_assoc]
      congr 2
      rw [← one_bit32 m (by omega), st_st]
      congr 1
      omega
    · rw [if_neg hb, if_neg hb, ih]
theorem sum_flips (l : List F) (a : Nat) (t : G) (h : a + 32 ≤ 8 * l.length) (ht : t ≠ 0) : sum32 (flips l a t 32) ≠ sum32 l := fun e => by
  unfold sum32 upd nt at e
  rw [U_flips _ l a t 32 (Nat.le_refl _) h, lowG_all] at e
  have h1 : st (8 * l.length - a) t = 0 := by
    have h2 := congrArg (· + ones) e
    simp only [gadd_cancel_right] at h2
    have h3 := congrArg (U (0 + ones) l + ·) h2
    simp only [gadd_add_cancel, gadd_self] at h3
    exact h3
  exact ht (st_inj _ h1)

/-! ### A row and its sum behind it -/
theorem U_one (w : G) (x : F) : U w [x] = st 8 (w + wb x) := rfl
theorem byte_split : allLt 32 (fun i => Nat.beq (tmN 32 0 (2 ^ i) one32) (2 ^ i)) = true := tm_one_all
/-- the four bytes of a word, gone through, are the word moved by 32 -/
theorem U_le4 (w x : G) : U w (le4 x) = st 32 (w + x) := by
  have key : ∀ x : G, U 0 (le4 x) = st 32 x := by
    intro x
    refine gext_lin (fun x => U 0 (le4 x)) (fun x => st 32 x) (fun x y => ?_) (fun x y => st_add 32 x y) (fun i hi => ?_) x
    · have e : le4 (x + y) = xrow (le4 x) (le4 y) := by
        have hx := x.lt
        have hy := y.lt
        have f : ∀ a b : Nat, a < 256 → b < 256 → ofN (a ^^^ b) = ofN a + ofN b := fun a b ha hb => F.ext (by
          rw [ofN_n _ (xor_lt ha hb), add_n, ofN_n _ ha, ofN_n _ hb])
        have m256 : ∀ a b : Nat, (a ^^^ b) % 256 = (a % 256) ^^^ (b % 256) := fun a b => Nat.xor_mod_two_pow (n := 8)
        unfold le4
        rw [gadd_n, show (x.n ^^^ y.n) / 256 = (x.n / 256) ^^^ (y.n / 256) from Nat.xor_div_two_pow (n := 8), show (x.n ^^^ y.n) / 65536 = (x.n / 65536) ^^^ (y.n / 65536) from Nat.xor_div_two_pow (n := 16), show (x.n ^^^ y.n) / 16777216 = (x.n / 16777216) ^^^ (y.n / 16777216) from Nat.xor_div_two_pow (n := 24)]
        rw [m256, m256, m256, m256, f _ _ (by omega) (by omega), f _ _ (by omega) (by omega), f _ _ (by omega) (by omega), f _ _ (by omega) (by omega)]
        rfl
      show U 0 (le4 (x + y)) = U 0 (le4 x) + U 0 (le4 y)
      rw [e]
      have h := U_xrow 0 0 (le4 x) (le4 y) rfl
      rw [gadd_self] at h
      exact h
    · have all : ∀ i, i < 32 → U 0 (le4 (ofG (2 ^ i))) = st 32 (ofG (2 ^ i)) := by decide +kernel
      exact all i hi
  rw [U_zero, key, st_add]
  rfl
theorem sum_behind (l : List F) : upd (sum32 l) (le4 (sum32 l)) = ofG 558161692 := by
  have h : ∀ s : G, upd s (le4 s) = ofG 558161692 := fun s => by
    unfold upd
    rw [U_le4]
    unfold nt
    rw [show s + ones + s = (s + s) + ones by ac_rfl, gadd_self, gzero_add]
    decide +kernel
  exact h _
end Go.Proofs.YtbgdoemealddpaaDoor
