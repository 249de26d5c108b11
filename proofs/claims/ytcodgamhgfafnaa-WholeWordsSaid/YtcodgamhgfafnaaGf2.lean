/-
  THE CONTRACTS OF gf.Log AND OF THE DOCUMENT'S OWN Mul, Inv AND Pow. No conditions but that bytes are bytes.
-/
import Derived.Test.YtcodgamhgfafnaaGf
namespace Go.Proofs.Ytcodgamhgfafnaa
open Go.RowKit

theorem tmod_two (q k : Nat) : (((q : Int) / 2 ^ k).tmod 2 == 1) = decide (q / 2 ^ k % 2 = 1) := by
  have e : ((q : Int) / 2 ^ k) = ((q / 2 ^ k : Nat) : Int) := by simp
  rw [e, Int.tmod_eq_emod_of_nonneg (Int.natCast_nonneg _)]
  by_cases h : q / 2 ^ k % 2 = 1
  · rw [decide_eq_true h, beq_iff_eq]; omega
  · rw [decide_eq_false h, beq_eq_false_iff_ne]; omega
theorem shl_xor (q a k : Nat) (hq : q < 32768) (ha : a < 256) (hk : k < 8) : bits BinOp.xor IntKind.i64 (q : Int) (wrap64 ((a : Int) * 2 ^ k)) = ((q ^^^ a * 2 ^ k : Nat) : Int) ∧ q ^^^ a * 2 ^ k < 32768 := by
  have h1 : (2 : Nat) ^ k ≤ 2 ^ 7 := Nat.pow_le_pow_right (by omega) (by omega)
  have h2 : a * 2 ^ k ≤ 255 * 128 := Nat.mul_le_mul (by omega) h1
  have e : (a : Int) * 2 ^ k = ((a * 2 ^ k : Nat) : Int) := by simp
  refine ⟨?_, Nat.xor_lt_two_pow (n := 15) hq (by omega)⟩
  rw [e, IntWalk.wrap64_in _ (by omega), i64_xor_nat _ _ (by omega) (by omega)]
theorem shl_xor2 (q k : Nat) (hq : q < 32768) (hk : k < 7) : bits BinOp.xor IntKind.i64 (q : Int) (wrap64 ((285 : Int) * 2 ^ k)) = ((q ^^^ 285 * 2 ^ k : Nat) : Int) ∧ q ^^^ 285 * 2 ^ k < 32768 := by
  have h1 : (2 : Nat) ^ k ≤ 2 ^ 6 := Nat.pow_le_pow_right (by omega) (by omega)
  have h2 : 285 * 2 ^ k ≤ 285 * 64 := Nat.mul_le_mul (by omega) h1
  have e : (285 : Int) * 2 ^ k = ((285 * 2 ^ k : Nat) : Int) := by simp
  refine ⟨?_, Nat.xor_lt_two_pow (n := 15) hq (by omega)⟩
  rw [e, IntWalk.wrap64_in _ (by omega), i64_xor_nat _ _ (by omega) (by omega)]
theorem tmod_pos (n : Int) : (if n.tmod 255 < 0 then n.tmod 255 + 255 else n.tmod 255) = n % 255 := by
  have h2 : n.tmod 255 = n % 255 ∨ n.tmod 255 = n % 255 - 255 := by
    rw [Int.tmod_eq_emod]; split <;> omega
  have h1 : -255 < n.tmod 255 := by have := Int.lt_tmod_of_pos n (b := 255) (by omega); omega
  split <;> omega
end Go.Proofs.Ytcodgamhgfafnaa
