/-
  THE CONTRACTS OF PACKAGE crc's WORDS: times, power, Zeros, Join. No conditions but that words are words.
-/
import Derived.Test.YtbgdoemealddpaaDoorProg
import Derived.Test.YtbgdoemealddpaaDoorCrc
import Derived.WalkKit
import Derived.Calls
import Derived.Below
import Derived.Lib.Hide
import Derived.Laws.BitsAllLaws
namespace Go.Proofs.YtbgdoemealddpaaDoor
open Go.RowKit
set_option linter.unusedVariables false

theorem ret_u32 {a b : Int} (h : a = b) : Ending.returned (.int .u32 a) = .returned (.int .u32 b) := by rw [h]
theorem val_u32 {a b : Int} (h : a = b) : Value.int .u32 a = .int .u32 b := by rw [h]
theorem neg_sel (x y : Nat) (hx : x < 2) (hy : y < 4294967296) : bits BinOp.and IntKind.u32 (y : Int) (-(x : Int) % 4294967296) = ((selG x y : Nat) : Int) := by
  unfold selG
  rcases (show x = 0 ∨ x = 1 by omega) with h | h
  · subst h
    rw [show (-((0 : Nat) : Int) % 4294967296) = ((0 : Nat) : Int) by omega, u32_and_nat _ _ hy (by omega)]; simp
  · subst h
    rw [show (-((1 : Nat) : Int) % 4294967296) = ((4294967295 : Nat) : Int) by omega, u32_and_nat _ _ hy (by omega)]
    have : y &&& 4294967295 = y := by rw [Nat.and_two_pow_sub_one_eq_mod (n := 32)]; omega
    simp [this]
theorem bits_prod (p a b : G) : bits BinOp.xor IntKind.u32 (p.n : Int) (bits BinOp.and IntKind.u32 (a.n : Int) (-((b.n : Int) / 2147483648) % 4294967296)) = ((ofG (p.n ^^^ selG (b.n / 2147483648) a.n)).n : Int) := by
  have ha := a.lt
  have hp := p.lt
  have hb := b.lt
  rw [ofG_n _ (gxor_lt hp (selG_lt _ ha)), show ((b.n : Int) / 2147483648) = ((b.n / 2147483648 : Nat) : Int) by omega, neg_sel _ _ (by omega) ha, u32_xor_nat _ _ hp (selG_lt _ ha)]
theorem bits_s (a : G) : bits BinOp.xor IntKind.u32 ((a.n : Int) / 2) (bits BinOp.and IntKind.u32 3988292384 (-(bits BinOp.and IntKind.u32 (a.n : Int) 1) % 4294967296)) = ((s a).n : Int) := by
  have ha := a.lt
  have h1 : bits BinOp.and IntKind.u32 (a.n : Int) 1 = ((a.n % 2 : Nat) : Int) := by
    rw [show (1 : Int) = ((1 : Nat) : Int) from rfl, u32_and_nat _ _ ha (by omega), Nat.and_one_is_mod]
  have h2 : selG (a.n % 2) PG = selG a.n PG := by unfold selG; rw [Nat.mod_mod]
  rw [s_n, h1, show (3988292384 : Int) = ((PG : Nat) : Int) from rfl, neg_sel _ _ (by omega) (by decide), show ((a.n : Int) / 2) = ((a.n / 2 : Nat) : Int) by omega, u32_xor_nat _ _ (by omega) (selG_lt _ (by decide)), h2]
  rfl
theorem dbl_G (b : G) : (b.n : Int) * 2 % 4294967296 = ((ofG (b.n * 2 % 4294967296)).n : Int) := by
  rw [ofG_n _ (by omega)]
  omega
theorem i64_and1 (a : Nat) (ha : a < 9223372036854775808) : bits .and .i64 (a : Int) 1 = ((a % 2 : Nat) : Int) := by
  have ofI : ∀ c : Nat, c < 9223372036854775808 → (BitVec.ofInt 64 (c : Int)).toNat = c := fun c hc => by
    rw [BitVec.ofInt_natCast, BitVec.toNat_ofNat]; exact Nat.mod_eq_of_lt (by omega)
  show IntKind.i64.wrap ((BitVec.ofInt 64 (a : Int) &&& BitVec.ofInt 64 ((1 : Nat) : Int)).toNat : Int) = _
  rw [BitVec.toNat_and, ofI a ha, ofI 1 (by omega), IntKind.wrap_i64, Nat.and_one_is_mod]
  omega
theorem gp_half (a : G) (k : Nat) : gp a k = if k % 2 = 1 then tm a (gp (tm a a) (k / 2)) else gp (tm a a) (k / 2) := by
  rw [gp_sq]
  split
  · conv => lhs; rw [show k = 2 * (k / 2) + 1 by omega]
    show tm (gp a (2 * (k / 2))) a = _
    rw [tm_comm]
  · conv => lhs; rw [show k = 2 * (k / 2) by omega]
theorem not_G (a : G) : bits BinOp.xor IntKind.u32 IntKind.u32.max (a.n : Int) = ((nt a).n : Int) := by
  have ha := a.lt
  rw [show (IntKind.u32.max : Int) = ((4294967295 : Nat) : Int) from rfl, u32_xor_nat _ _ (by omega) ha]
  unfold nt
  rw [gadd_n, Nat.xor_comm]
  rfl
theorem zer_gp (x : G) (n : Nat) : nt (tm (nt x) (gp x8 n)) = zer x n := by unfold zer; rw [st_gp]
/-- how many noughts a number stands for -/
def nOf (n : Int) : Nat := (min (max n 0) 1099511627776).toNat
theorem gxor_G (a b : G) : bits BinOp.xor IntKind.u32 (a.n : Int) (b.n : Int) = ((a + b).n : Int) := by rw [u32_xor_nat _ _ a.lt b.lt, gadd_n]
end Go.Proofs.YtbgdoemealddpaaDoor
