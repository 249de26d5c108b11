/-
  THE CONTRACTS OF PACKAGE gf: each call answers the field's own word, and leaves the world alone. No conditions but that bytes are bytes.
-/
import Derived.Test.YtbmkcnlcffnjgaaProg
import Derived.Test.YtbmkcnlcffnjgaaBase
import Derived.WalkKit
import Derived.Calls
import Derived.Below
import Derived.Lib.Hide
import Derived.Laws.BitsAllLaws
namespace Go.Proofs.Ytbmkcnlcffnjgaa
open Go.RowKit

theorem bits_tx (a : F) : bits BinOp.xor IntKind.u8 ((a.n : Int) * 2 % 256) (bits BinOp.and IntKind.u8 29 (-((a.n : Int) / 128) % 256)) = ((ofN (txN a.n)).n : Int) := by
  have ha := a.lt
  rw [ofN_n _ (txN_lt _ ha)]
  have h1 : ((a.n : Int) * 2 % 256) = ((a.n * 2 % 256 : Nat) : Int) := by omega
  have h2 : bits BinOp.and IntKind.u8 29 (-((a.n : Int) / 128) % 256) = ((29 * (a.n / 128) : Nat) : Int) := by
    rcases (show a.n / 128 = 0 ∨ a.n / 128 = 1 by omega) with h | h
    · rw [show (-((a.n : Int) / 128) % 256) = 0 by omega, h]; decide
    · rw [show (-((a.n : Int) / 128) % 256) = 255 by omega, h]; decide
  rw [h1, h2, u8_xor_nat _ _ (by omega) (by omega)]
  rfl
theorem bits_sel (p a b : F) : bits BinOp.xor IntKind.u8 (p.n : Int) (bits BinOp.and IntKind.u8 (a.n : Int) (-(bits BinOp.and IntKind.u8 (b.n : Int) 1) % 256)) = ((ofN (p.n ^^^ selN b.n a.n)).n : Int) := by
  have ha := a.lt
  have hp := p.lt
  rw [ofN_n _ (xor_lt p.lt (selN_lt _ _ ha))]
  have h1 : bits BinOp.and IntKind.u8 (b.n : Int) 1 = ((b.n % 2 : Nat) : Int) := by
    rw [show (1 : Int) = ((1 : Nat) : Int) from rfl, u8_and_nat _ _ b.lt (by omega), Nat.and_one_is_mod]
  have h2 : bits BinOp.and IntKind.u8 (a.n : Int) (-((b.n % 2 : Nat) : Int) % 256) = ((selN b.n a.n : Nat) : Int) := by
    unfold selN
    rcases (show b.n % 2 = 0 ∨ b.n % 2 = 1 by omega) with h | h
    · rw [h, show (-((0 : Nat) : Int) % 256) = ((0 : Nat) : Int) by omega, u8_and_nat _ _ ha (by omega)]; simp
    · rw [h, show (-((1 : Nat) : Int) % 256) = ((255 : Nat) : Int) by omega, u8_and_nat _ _ ha (by omega)]
      have : a.n &&& 255 = a.n := by rw [Nat.and_two_pow_sub_one_eq_mod (n := 8)]; omega
      simp [this]
  rw [h1, h2, u8_xor_nat _ _ hp (selN_lt _ _ ha)]
theorem half_F (b : F) : (b.n : Int) / 2 = ((ofN (b.n / 2)).n : Int) := by
  have := b.lt
  rw [ofN_n _ (by omega)]
  omega
set_option maxHeartbeats 400000 in
theorem timesX_c (a : F) (w : World) : Calls Try.prog 64 #[.int .u8 a.n] w fun e w' => e = .returned (.int .u8 (ofN (txN a.n)).n) ∧ w = w' := by
  have ha := a.lt
  go_enter Try.func64, Try.ntmps64
  go_wp2
  go_ret
  exact ⟨ret_u8 (bits_tx a), rfl⟩

set_option maxHeartbeats 400000 in
theorem Mul_c (a b : F) (w : World) : Calls Try.prog 54 #[.int .u8 a.n, .int .u8 b.n] w fun e w' => e = .returned (.int .u8 (a * b).n) ∧ w = w' := by
  go_enter Try.func54, Try.ntmps54
  go_wp2
  go_loop [0, 1, 5, 6] (fun x y p i => ∃ (k : Nat) (x' y' p' : F), k ≤ 8 ∧ x = .int .u8 x'.n ∧ y = .int .u8 y'.n ∧ p = .int .u8 p'.n ∧ i = .int .i64 k ∧ Hid (mulN (8 - k) p'.n x'.n y'.n = (a * b).n)) (fun _ _ _ i => 8 - (intOf i).toNat)
  case atStart => exact ⟨0, a, b, 0, by omega, rfl, rfl, rfl, rfl, (mul_n a b).symm⟩
  case round =>
    obtain ⟨k, x, y, p, hk, rfl, rfl, rfl, rfl, hm⟩ := hrel
    have hx := x.lt
    have hy := y.lt
    have hp := p.lt
    by_cases hlt : k < 8
    · have hm' : Hid (mulN (8 - (k + 1)) (ofN (p.n ^^^ selN y.n x.n)).n (ofN (txN x.n)).n (ofN (y.n / 2)).n = (a * b).n) := by
        rw [ofN_n _ (xor_lt hp (selN_lt _ _ hx)), ofN_n _ (txN_lt _ hx), ofN_n _ (by omega)]
        have h := hm.out
        rw [show 8 - k = (8 - (k + 1)) + 1 by omega] at h
        exact h
      go_wp2_with (go_at_call 64; refine (timesX_c _ _).mono ?_; rintro e w' ⟨rfl, rfl⟩)
      go_round
      case rel => exact ⟨k + 1, _, _, _, by omega, rfl, val_u8 (half_F y), val_u8 (bits_sel p x y), by go_num, hm'⟩
      case measure => simp [intOf]; omega
    · have h8 : Hid (p.n = (a * b).n) := by
        have h := hm.out
        rw [show 8 - k = 0 by omega] at h
        exact h
      go_wp2
      go_ret
      exact ⟨ret_u8 (by rw [h8.out]), rfl⟩
set_option maxHeartbeats 400000 in
theorem Add_c (a b : F) (w : World) : Calls Try.prog 53 #[.int .u8 a.n, .int .u8 b.n] w fun e w' => e = .returned (.int .u8 (a + b).n) ∧ w = w' := by
  have ha := a.lt
  have hb := b.lt
  have h : Hid (bits BinOp.xor IntKind.u8 (a.n : Int) (b.n : Int) = ((a + b).n : Int)) := by
    unfold Hid
    rw [u8_xor_nat _ _ ha hb, add_n]
  go_enter Try.func53, Try.ntmps53
  go_wp2
  go_ret
  exact ⟨ret_u8 h.out, rfl⟩
theorem tmod_emod (n : Int) : (n.tmod 255 + 255) % 255 = n % 255 := by
  have h1 : -255 < n.tmod 255 := by have := Int.lt_tmod_of_pos n (b := 255) (by omega); omega
  have h2 : n.tmod 255 = n % 255 ∨ n.tmod 255 = n % 255 - 255 := by
    rw [Int.tmod_eq_emod]; split <;> omega
  omega
theorem cycle_c (n : Int) (w : World) : Calls Try.prog 73 #[.int .i64 n] w fun e w' => e = .returned (.int .i64 (n % 255)) ∧ w = w' := by
  have h1 : -255 < n.tmod 255 := by have := Int.lt_tmod_of_pos n (b := 255) (by omega); omega
  have h2 : n.tmod 255 < 255 := Int.tmod_lt_of_pos n (by omega)
  go_enter Try.func73, Try.ntmps73
  go_wp2
  go_ret
  exact ⟨ret_i64 (tmod_emod n), rfl⟩
set_option maxHeartbeats 400000 in
theorem Pow_zero_c (n : Int) (hn : n ≠ 0) (w : World) : Calls Try.prog 71 #[.int .u8 (0 : F).n, .int .i64 n] w fun e w' => e = .returned (.int .u8 (0 : F).n) ∧ w = w' := by
  have h1 : (((0 : F).n : Int) == 0) = true := by decide
  have h2 : (n != 0) = true := by simpa using hn
  go_enter Try.func71, Try.ntmps71
  go_wp2
  go_ret
  exact ⟨rfl, rfl⟩
theorem bit_at (m k : Nat) (hm : m < 255) : bits BinOp.and IntKind.i64 ((m : Int) / 2 ^ k) 1 = ((m / 2 ^ k % 2 : Nat) : Int) := by
  have h : m / 2 ^ k ≤ m := Nat.div_le_self _ _
  have e : ((m : Int) / 2 ^ k) = ((m / 2 ^ k : Nat) : Int) := by simp
  rw [e, show (1 : Int) = ((1 : Nat) : Int) from rfl, i64_and_nat _ _ (by omega) (by omega), Nat.and_one_is_mod]
theorem pw_bit (a : F) (m k : Nat) : pw a (m % 2 ^ (k + 1)) = if m / 2 ^ k % 2 = 1 then pw a (m % 2 ^ k) * pw a (2 ^ k) else pw a (m % 2 ^ k) := by
  rw [Nat.mod_pow_succ, pw_add]
  rcases Nat.mod_two_eq_zero_or_one (m / 2 ^ k) with h | h
  · rw [h, if_neg (by omega), Nat.mul_zero, pw_zero, mul_one]
  · rw [h, if_pos rfl, Nat.mul_one]
theorem pw_sq (a : F) (k : Nat) : pw a (2 ^ (k + 1)) = pw a (2 ^ k) * pw a (2 ^ k) := by
  rw [Nat.pow_succ, Nat.mul_two, pw_add]
set_option maxHeartbeats 400000 in
theorem Pow_main_c (a : F) (n : Int) (ht : (((a.n : Int) == 0) = false) ∨ (((a.n : Int) == 0) = true ∧ (n != 0) = false)) (w : World) : Calls Try.prog 71 #[.int .u8 a.n, .int .i64 n] w fun e w' => e = .returned (.int .u8 (pw a (n % 255).toNat).n) ∧ w = w' := by
  obtain ⟨m, hm⟩ : ∃ m : Nat, n % 255 = m := ⟨(n % 255).toNat, by omega⟩
  have hm2 : m < 255 := by omega
  have HM := Lib.hid hm
  clear hm
  rw [HM.out, Int.toNat_natCast]
  rcases ht with ht | ⟨ht, ht2⟩
  all_goals
    go_enter Try.func71, Try.ntmps71
    go_wp2_with (go_at_call 73; refine (cycle_c _ _).mono ?_; rintro e w' ⟨rfl, rfl⟩; rw [HM.out])
    go_loop [0, 6, 16] (fun x p i => ∃ k : Nat, k ≤ 8 ∧ x = .int .u8 (pw a (2 ^ k)).n ∧ p = .int .u8 (pw a (m % 2 ^ k)).n ∧ i = .int .i64 k) (fun _ _ i => 8 - (intOf i).toNat)
    case atStart => exact ⟨0, by omega, by rw [Nat.pow_zero, pw_one], by rw [Nat.pow_zero, Nat.mod_one]; rfl, rfl⟩
    case round =>
      obtain ⟨k, hk, rfl, rfl, rfl⟩ := hrel
      by_cases hlt : k < 8
      · have hsq := Lib.hid (pw_sq a k)
        have hbit := Lib.hid (pw_bit a m k)
        have hb := Lib.hid (bit_at m k hm2)
        go_wp2_with (go_at_call 54; refine (Mul_c _ _ _).mono ?_; rintro e w' ⟨rfl, rfl⟩)
        · have h1 : (bits BinOp.and IntKind.i64 ((m : Int) / 2 ^ k) 1 == 1) = true := by assumption
          go_round
          case rel =>
            refine ⟨k + 1, by omega, by rw [hsq.out], ?_, by go_num⟩
            rw [hbit.out, if_pos]
            rw [hb.out, beq_iff_eq] at h1
            omega
          case measure => simp [intOf]; omega
        · have h1 : (bits BinOp.and IntKind.i64 ((m : Int) / 2 ^ k) 1 == 1) = false := by assumption
          go_round
          case rel =>
            refine ⟨k + 1, by omega, by rw [hsq.out], ?_, by go_num⟩
            rw [hbit.out, if_neg]
            rw [hb.out, beq_eq_false_iff_ne] at h1
            omega
          case measure => simp [intOf]; omega
      · have h8 : Hid (pw a (m % 2 ^ k) = pw a m) := by
          unfold Hid
          rw [show k = 8 by omega, Nat.mod_eq_of_lt (by omega)]
        go_wp2
        go_ret
        exact ⟨ret_u8 (by rw [h8.out]), rfl⟩
theorem Pow_c (a : F) (n : Int) (w : World) : Calls Try.prog 71 #[.int .u8 a.n, .int .i64 n] w fun e w' => e = .returned (.int .u8 (pwZ a n).n) ∧ w = w' := by
  unfold pwZ
  by_cases ha : a = 0
  · subst ha
    by_cases hn : n = 0
    · subst hn
      exact Pow_main_c 0 0 (.inr ⟨rfl, rfl⟩) w
    · rw [if_pos rfl, if_neg hn]
      exact Pow_zero_c n hn w
  · rw [if_neg ha]
    exact Pow_main_c a n (.inl (by rw [n_beq, decide_eq_false ha])) w
theorem pwZ_neg_one (a : F) : pwZ a (-1) = inv a := by
  unfold pwZ
  by_cases ha : a = 0
  · subst ha; rfl
  · rw [if_neg ha]; rfl
theorem Inv_c (a : F) (w : World) : Calls Try.prog 65 #[.int .u8 a.n] w fun e w' => e = .returned (.int .u8 (inv a).n) ∧ w = w' := by
  have h := Lib.hid (pwZ_neg_one a)
  go_enter Try.func65, Try.ntmps65
  go_wp2_with (go_at_call 71; refine (Pow_c _ _ _).mono ?_; rintro e w' ⟨rfl, rfl⟩)
  go_ret
  exact ⟨ret_u8 (by rw [h.out]), rfl⟩
def divF (a b : F) : F := if b = 0 then 0 else a * inv b
set_option maxHeartbeats 400000 in
theorem Div_c (a b : F) (w : World) : Calls Try.prog 56 #[.int .u8 a.n, .int .u8 b.n] w fun e w' => e = .returned (.tuple #[.int .u8 (divF a b).n, .bool !decide (b = 0)]) ∧ w = w' := by
  have hb := n_beq b
  unfold divF
  by_cases h : b = 0
  · rw [decide_eq_true h] at *
    rw [if_pos h]
    clear h
    go_enter Try.func56, Try.ntmps56
    go_wp2
    go_ret2
    exact ⟨rfl, rfl⟩
  · rw [decide_eq_false h] at *
    rw [if_neg h]
    clear h
    go_enter Try.func56, Try.ntmps56
    go_wp2_with (first | (go_at_call 65; refine (Inv_c _ _).mono ?_; rintro e w' ⟨rfl, rfl⟩) | (go_at_call 54; refine (Mul_c _ _ _).mono ?_; rintro e w' ⟨rfl, rfl⟩))
    go_ret2
    exact ⟨rfl, rfl⟩
end Go.Proofs.Ytbmkcnlcffnjgaa
