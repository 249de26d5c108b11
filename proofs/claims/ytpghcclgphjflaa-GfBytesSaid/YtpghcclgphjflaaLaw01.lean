/-
  LAW 01's WALKS OVER BYTES AND NUMBERS: each returns true, and writes nothing that was there. No conditions.
-/
import Derived.Test.YtpghcclgphjflaaGf4
namespace Go.Proofs.Ytpghcclgphjflaa
open Go.RowKit

theorem pwZ_nat {a : F} (h : a ≠ 0) {k : Nat} (hk : k < 255) : pwZ a k = pw a k := by
  unfold pwZ
  rw [if_neg h]
  congr 1
  omega
theorem Div_zero_c (a : F) {b : F} (h : b = 0) (w : World) : Calls Try.prog 15 #[.int .u8 a.n, .int .u8 b.n] w fun e w' => e = .returned (.tuple #[.int .u8 0, .bool false]) ∧ w = w' := by
  have h1 := Div_c a b w
  rw [decide_eq_true h, show divF a b = 0 from if_pos h] at h1
  exact h1
theorem Div_some_c (a : F) {b : F} (h : b ≠ 0) (w : World) : Calls Try.prog 15 #[.int .u8 a.n, .int .u8 b.n] w fun e w' => e = .returned (.tuple #[.int .u8 (a * inv b).n, .bool true]) ∧ w = w' := by
  have h1 := Div_c a b w
  rw [decide_eq_false h, show divF a b = a * inv b from if_neg h] at h1
  exact h1
theorem RefPow2_c (n : Int) (w : World) : Calls Try.prog 17 #[.int .u8 2, .int .i64 n] w fun e w' => e = .returned (.int .u8 (pwZ 2 n).n) ∧ w = w' := RefPow_c 2 n w
theorem RefPow_two (a : F) (k : Nat) (h : Hid (pwZ 2 k = a)) (w : World) : Calls Try.prog 17 #[.int .u8 2, .int .i64 k] w fun e w' => e = .returned (.int .u8 a.n) ∧ w = w' := by
  have h1 := RefPow_c 2 k w
  rw [h.out] at h1
  exact h1
set_option maxHeartbeats 1000000 in
set_option maxRecDepth 100000 in
theorem walk_GfBytes (w : World) (a b : F) (n : Int) (_ : (Lit.int .i64 n).wf = true) : Calls Try.prog 3 #[.int .u8 a.n, .int .u8 b.n, .int .i64 n] w fun e w' => e = .returned (.bool true) ∧ Below w.heap.size w w' := by
  have hab := n_beq a
  have hbb := n_beq b
  have han : ((a.n : Int) != 0) = !decide (a = 0) := by rw [bne, hab]
  have hbn : ((b.n : Int) != 0) = !decide (b = 0) := by rw [bne, hbb]
  have hx : bits BinOp.xor IntKind.u8 (a.n : Int) (b.n : Int) = ((a + b).n : Int) := by
    rw [u8_xor_nat _ _ a.lt b.lt, add_n]
  by_cases ha : a = 0
  · have hl : Hid (lg a = -1) := by rw [ha]; exact lg_zero
    have hz : Hid (pwZ 2 (0 : Nat) = 1) := rfl
    rw [decide_eq_true ha] at *
    clear ha
    by_cases hb : b = 0
    · rw [decide_eq_true hb] at *
      have HB := Lib.hid hb
      clear hb
      go_enter Try.func3, Try.ntmps3
      go_wp2_with (first
          | (go_at_call 14; refine (alive01_c _).mono ?_; rintro e w1 ⟨rfl, hb1⟩)
          | (go_at_call 15; refine (Div_zero_c _ HB.out _).mono ?_; rintro e w' ⟨rfl, rfl⟩)
          | (go_at_call 16; refine (Log_c _ _).mono ?_; rintro e w' ⟨rfl, rfl⟩; rw [hl.out])
          | (go_at_call 19; refine (RefInv_c _ _).mono ?_; rintro e w' ⟨rfl, rfl⟩)
          | (go_at_call 18; refine (RefMul_c _ _ _).mono ?_; rintro e w' ⟨rfl, rfl⟩)
          | (go_at_call 20; refine (Add_c _ _ _).mono ?_; rintro e w' ⟨rfl, rfl⟩)
          | (go_at_call 21; refine (Mul_c _ _ _).mono ?_; rintro e w' ⟨rfl, rfl⟩)
          | (go_at_call 22; refine (Inv_c _ _).mono ?_; rintro e w' ⟨rfl, rfl⟩)
          | (go_at_call 23; refine (Pow_c _ _ _).mono ?_; rintro e w' ⟨rfl, rfl⟩)
          | (go_at_call 24; refine (Exp_c _ _).mono ?_; rintro e w' ⟨rfl, rfl⟩)
          | (go_at_call 17; (with_reducible refine (RefPow_two _ _ hz _).mono ?_); rintro e w' ⟨rfl, rfl⟩)
          | (go_at_call 17; (with_reducible refine (RefPow2_c _ _).mono ?_); rintro e w' ⟨rfl, rfl⟩)
          | (go_at_call 17; refine (RefPow_c _ _ _).mono ?_; rintro e w' ⟨rfl, rfl⟩))
      go_ret
      exact ⟨rfl, hb1⟩
    · rw [decide_eq_false hb] at *
      have HB := Lib.hid hb
      clear hb
      go_enter Try.func3, Try.ntmps3
      go_wp2_with (first
          | (go_at_call 14; refine (alive01_c _).mono ?_; rintro e w1 ⟨rfl, hb1⟩)
          | (go_at_call 15; refine (Div_some_c _ HB.out _).mono ?_; rintro e w' ⟨rfl, rfl⟩)
          | (go_at_call 16; refine (Log_c _ _).mono ?_; rintro e w' ⟨rfl, rfl⟩; rw [hl.out])
          | (go_at_call 19; refine (RefInv_c _ _).mono ?_; rintro e w' ⟨rfl, rfl⟩)
          | (go_at_call 18; refine (RefMul_c _ _ _).mono ?_; rintro e w' ⟨rfl, rfl⟩)
          | (go_at_call 20; refine (Add_c _ _ _).mono ?_; rintro e w' ⟨rfl, rfl⟩)
          | (go_at_call 21; refine (Mul_c _ _ _).mono ?_; rintro e w' ⟨rfl, rfl⟩)
          | (go_at_call 22; refine (Inv_c _ _).mono ?_; rintro e w' ⟨rfl, rfl⟩)
          | (go_at_call 23; refine (Pow_c _ _ _).mono ?_; rintro e w' ⟨rfl, rfl⟩)
          | (go_at_call 24; refine (Exp_c _ _).mono ?_; rintro e w' ⟨rfl, rfl⟩)
          | (go_at_call 17; (with_reducible refine (RefPow_two _ _ hz _).mono ?_); rintro e w' ⟨rfl, rfl⟩)
          | (go_at_call 17; (with_reducible refine (RefPow2_c _ _).mono ?_); rintro e w' ⟨rfl, rfl⟩)
          | (go_at_call 17; refine (RefPow_c _ _ _).mono ?_; rintro e w' ⟨rfl, rfl⟩))
      go_ret
      exact ⟨rfl, hb1⟩
  · obtain ⟨k, hk, hk2, hl0⟩ := lg_some ha
    have hl : Hid (lg a = (k : Int)) := hl0
    have hz : Hid (pwZ 2 k = a) := by unfold Hid; rw [pwZ_nat two_ne_zero hk, hk2]
    rw [decide_eq_false ha] at *
    clear ha hk2 hl0
    by_cases hb : b = 0
    · rw [decide_eq_true hb] at *
      have HB := Lib.hid hb
      clear hb
      go_enter Try.func3, Try.ntmps3
      go_wp2_with (first
          | (go_at_call 14; refine (alive01_c _).mono ?_; rintro e w1 ⟨rfl, hb1⟩)
          | (go_at_call 15; refine (Div_zero_c _ HB.out _).mono ?_; rintro e w' ⟨rfl, rfl⟩)
          | (go_at_call 16; refine (Log_c _ _).mono ?_; rintro e w' ⟨rfl, rfl⟩; rw [hl.out])
          | (go_at_call 19; refine (RefInv_c _ _).mono ?_; rintro e w' ⟨rfl, rfl⟩)
          | (go_at_call 18; refine (RefMul_c _ _ _).mono ?_; rintro e w' ⟨rfl, rfl⟩)
          | (go_at_call 20; refine (Add_c _ _ _).mono ?_; rintro e w' ⟨rfl, rfl⟩)
          | (go_at_call 21; refine (Mul_c _ _ _).mono ?_; rintro e w' ⟨rfl, rfl⟩)
          | (go_at_call 22; refine (Inv_c _ _).mono ?_; rintro e w' ⟨rfl, rfl⟩)
          | (go_at_call 23; refine (Pow_c _ _ _).mono ?_; rintro e w' ⟨rfl, rfl⟩)
          | (go_at_call 24; refine (Exp_c _ _).mono ?_; rintro e w' ⟨rfl, rfl⟩)
          | (go_at_call 17; (with_reducible refine (RefPow_two _ _ hz _).mono ?_); rintro e w' ⟨rfl, rfl⟩)
          | (go_at_call 17; (with_reducible refine (RefPow2_c _ _).mono ?_); rintro e w' ⟨rfl, rfl⟩)
          | (go_at_call 17; refine (RefPow_c _ _ _).mono ?_; rintro e w' ⟨rfl, rfl⟩))
      go_ret
      exact ⟨rfl, hb1⟩
    · rw [decide_eq_false hb] at *
      have HB := Lib.hid hb
      clear hb
      go_enter Try.func3, Try.ntmps3
      go_wp2_with (first
          | (go_at_call 14; refine (alive01_c _).mono ?_; rintro e w1 ⟨rfl, hb1⟩)
          | (go_at_call 15; refine (Div_some_c _ HB.out _).mono ?_; rintro e w' ⟨rfl, rfl⟩)
          | (go_at_call 16; refine (Log_c _ _).mono ?_; rintro e w' ⟨rfl, rfl⟩; rw [hl.out])
          | (go_at_call 19; refine (RefInv_c _ _).mono ?_; rintro e w' ⟨rfl, rfl⟩)
          | (go_at_call 18; refine (RefMul_c _ _ _).mono ?_; rintro e w' ⟨rfl, rfl⟩)
          | (go_at_call 20; refine (Add_c _ _ _).mono ?_; rintro e w' ⟨rfl, rfl⟩)
          | (go_at_call 21; refine (Mul_c _ _ _).mono ?_; rintro e w' ⟨rfl, rfl⟩)
          | (go_at_call 22; refine (Inv_c _ _).mono ?_; rintro e w' ⟨rfl, rfl⟩)
          | (go_at_call 23; refine (Pow_c _ _ _).mono ?_; rintro e w' ⟨rfl, rfl⟩)
          | (go_at_call 24; refine (Exp_c _ _).mono ?_; rintro e w' ⟨rfl, rfl⟩)
          | (go_at_call 17; (with_reducible refine (RefPow_two _ _ hz _).mono ?_); rintro e w' ⟨rfl, rfl⟩)
          | (go_at_call 17; (with_reducible refine (RefPow2_c _ _).mono ?_); rintro e w' ⟨rfl, rfl⟩)
          | (go_at_call 17; refine (RefPow_c _ _ _).mono ?_; rintro e w' ⟨rfl, rfl⟩))
      go_ret
      exact ⟨rfl, hb1⟩
end Go.Proofs.Ytpghcclgphjflaa
