/-
  BYTES' PRODUCTS ON NUMBERS BELOW 256, and the tables of them that the kernel reckons once. No conditions.
-/
import Derived.KernelRfl
namespace Go.Proofs.YtbphbogolffanaaDoor

/-! ### 1. On numbers below 256, as the kernel reckons -/
def txN (a : Nat) : Nat := (a * 2 % 256) ^^^ (29 * (a / 128))
def selN (b a : Nat) : Nat := if b % 2 = 1 then a else 0
/-- so many steps of the product's loop: what is gathered, what is doubled, what is halved -/
def mulN : Nat → Nat → Nat → Nat → Nat
  | 0, p, _, _ => p
  | k + 1, p, a, b => mulN k (p ^^^ selN b a) (txN a) (b / 2)

theorem txN_lt (a : Nat) (h : a < 256) : txN a < 256 := by
  unfold txN
  exact Nat.xor_lt_two_pow (n := 8) (by omega) (by omega)
theorem selN_lt (b a : Nat) (h : a < 256) : selN b a < 256 := by unfold selN; split <;> omega
theorem mulN_lt (k p a b : Nat) (hp : p < 256) (ha : a < 256) : mulN k p a b < 256 := by
  induction k generalizing p a b with
  | zero => exact hp
  | succ k ih => exact ih _ _ _ (Nat.xor_lt_two_pow (n := 8) hp (selN_lt b a ha)) (txN_lt a ha)

/-- all pairs of numbers below n, m -/
def allLt : Nat → (Nat → Bool) → Bool
  | 0, _ => true
  | k + 1, f => f k && allLt k f
theorem allLt_at {n : Nat} {f : Nat → Bool} (h : allLt n f = true) {k : Nat} (hk : k < n) : f k = true := by
  induction n with
  | zero => omega
  | succ n ih =>
    simp only [allLt, Bool.and_eq_true] at h
    rcases Nat.lt_or_ge k n with hlt | hge
    · exact ih h.2 hlt
    · have : k = n := by omega
      subst this
      exact h.1

theorem xor_lt {a b : Nat} (ha : a < 256) (hb : b < 256) : a ^^^ b < 256 := Nat.xor_lt_two_pow (n := 8) ha hb
theorem low_all : allLt 256 (fun b => allLt 8 fun n => Nat.blt b (2 ^ n) || !Nat.blt b (2 ^ (n + 1)) || Nat.blt (b ^^^ 2 ^ n) (2 ^ n)) = true := by decide +kernel
/-- two maps on bytes that go through sums are the same if they are at each bit alone -/
theorem lin_ext (f g : Nat → Nat) (hf : ∀ x y, x < 256 → y < 256 → f (x ^^^ y) = f x ^^^ f y) (hg : ∀ x y, x < 256 → y < 256 → g (x ^^^ y) = g x ^^^ g y)
    (h0 : f 0 = g 0) (h : ∀ i, i < 8 → f (2 ^ i) = g (2 ^ i)) (b : Nat) (hb : b < 256) : f b = g b := by
  have key : ∀ n, n ≤ 8 → ∀ b, b < 2 ^ n → f b = g b := by
    intro n
    induction n with
    | zero =>
      intro _ b hb
      have : b = 0 := by simp at hb; omega
      subst this; exact h0
    | succ n ih =>
      intro hn b hb
      rcases Nat.lt_or_ge b (2 ^ n) with hl | hl
      · exact ih (by omega) b hl
      · have h256 : 2 ^ (n + 1) ≤ 2 ^ 8 := Nat.pow_le_pow_right (by omega) hn
        have h255 : 2 ^ n < 2 ^ 8 := Nat.pow_lt_pow_right (by omega) (by omega)
        have hb' : b < 256 := by simp at h256; omega
        have hc := allLt_at (allLt_at low_all hb') (show n < 8 by omega)
        have hc' : b ^^^ 2 ^ n < 2 ^ n := by
          simp only [Bool.or_eq_true, Nat.blt_eq, Bool.not_eq_true', ← Bool.not_eq_true] at hc
          rcases hc with (h1 | h1) | h1
          · omega
          · exact absurd hb h1
          · exact h1
        have e : b = (b ^^^ 2 ^ n) ^^^ 2 ^ n := by rw [Nat.xor_assoc, Nat.xor_self, Nat.xor_zero]
        have h1 : b ^^^ 2 ^ n < 256 := by simp at h255; omega
        have h2 : 2 ^ n < 256 := by simpa using h255
        rw [e, hf _ _ h1 h2, hg _ _ h1 h2, ih (by omega) _ hc', h n (by omega)]
  exact key 8 (Nat.le_refl _) b (by simpa using hb)

theorem tx_add_all : allLt 256 (fun a => allLt 256 fun b => Nat.beq (txN (a ^^^ b)) (txN a ^^^ txN b)) = true := by decide +kernel
theorem txN_add {a b : Nat} (ha : a < 256) (hb : b < 256) : txN (a ^^^ b) = txN a ^^^ txN b := Nat.eq_of_beq_eq_true (allLt_at (allLt_at tx_add_all ha) hb)
theorem mul_one_all : allLt 256 (fun a => Nat.beq (mulN 8 0 a 1) a) = true := by decide +kernel
theorem mulN_one {a : Nat} (ha : a < 256) : mulN 8 0 a 1 = a := Nat.eq_of_beq_eq_true (allLt_at mul_one_all ha)
theorem mul_comm_all : allLt 256 (fun a => allLt 8 fun i => Nat.beq (mulN 8 0 a (2 ^ i)) (mulN 8 0 (2 ^ i) a)) = true := by decide +kernel
/-- a to the 255th, by squares -/
def pow255N (a : Nat) : Nat :=
  let b := mulN 8 0 a a
  let c := mulN 8 0 b b
  let d := mulN 8 0 c c
  let e := mulN 8 0 d d
  let f := mulN 8 0 e e
  let g := mulN 8 0 f f
  let h := mulN 8 0 g g
  mulN 8 0 (mulN 8 0 (mulN 8 0 (mulN 8 0 (mulN 8 0 (mulN 8 0 (mulN 8 0 a b) c) d) e) f) g) h
theorem pow_all : allLt 256 (fun a => Nat.beq a 0 || Nat.beq (pow255N a) 1) = true := by decide +kernel
/-- 2 to the n-th -/
def expN : Nat → Nat
  | 0 => 1
  | n + 1 => txN (expN n)
/-- the least n from 'at' on, of so many, that is a power of which a is the value -/
def logN (a : Nat) : Nat → Nat → Nat → Option Nat
  | 0, _, _ => none
  | k + 1, n, p => if Nat.beq p a then some n else logN a k (n + 1) (txN p)
theorem log_all : allLt 256 (fun a => Nat.beq a 0 || (logN a 255 0 1).isSome) = true := by decide +kernel
theorem exp_all : allLt 254 (fun n => !Nat.beq (expN (n + 1)) 1) = true := by decide +kernel

/-! ### The document's product: all of b's bits, and then what is left of it -/
def gatherN : Nat → Nat → Nat → Nat → Nat
  | 0, _, _, _ => 0
  | k + 1, i, a, b => selN (b / 2 ^ i) (a * 2 ^ i) ^^^ gatherN k (i + 1) a b
def restN : Nat → Nat → Nat
  | 0, p => p
  | k + 1, p => restN k (p ^^^ selN (p / 2 ^ (k + 8)) (285 * 2 ^ k))
def refN (a b : Nat) : Nat := restN 7 (gatherN 8 0 a b)
theorem ref_all : allLt 256 (fun a => allLt 8 fun i => Nat.beq (refN a (2 ^ i)) (mulN 8 0 a (2 ^ i))) = true := by decide +kernel
end Go.Proofs.YtbphbogolffanaaDoor
