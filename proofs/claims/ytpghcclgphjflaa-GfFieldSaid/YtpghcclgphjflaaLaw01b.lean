/-
  LAW 01's WALKS OVER BYTES AND NUMBERS, MORE: the field, powers, squares: each returns true, and writes nothing that was there. No conditions.
-/
import Derived.Test.YtpghcclgphjflaaLaw01
namespace Go.Proofs.Ytpghcclgphjflaa
open Go.RowKit

theorem Mul_one_c (a : F) (w : World) : Calls Try.prog 21 #[.int .u8 a.n, .int .u8 1] w fun e w' => e = .returned (.int .u8 a.n) ∧ w = w' := by
  have h := Mul_c a 1 w
  rw [mul_one] at h
  exact h
theorem Exp_nat (a : F) (k : Nat) (h : Hid (pwZ 2 k = a)) (w : World) : Calls Try.prog 24 #[.int .i64 k] w fun e w' => e = .returned (.int .u8 a.n) ∧ w = w' := by
  have h1 := Exp_c k w
  rw [h.out] at h1
  exact h1
theorem ne_same {a b : F} (h : a = b) : ((a.n : Int) != (b.n : Int)) = false := by rw [h]; simp
theorem eq_same {a b : F} (h : a = b) : ((a.n : Int) == (b.n : Int)) = true := by rw [h]; simp

theorem n_beq_mul {a : F} (ha : a ≠ 0) (b : F) : (((a * b).n : Int) == 0) = decide (b = 0) := by
  rw [n_beq]
  refine decide_eq_decide.2 ?_
  rw [mul_eq_zero]
  exact ⟨fun h => h.resolve_left ha, .inr⟩
set_option maxHeartbeats 4000000 in
set_option maxRecDepth 100000 in
theorem field_zero (a b c : F) (ha : a = 0) (w : World) : Calls Try.prog 5 #[.int .u8 a.n, .int .u8 b.n, .int .u8 c.n] w fun e w' => e = .returned (.bool true) ∧ Below w.heap.size w w' := by
  have hab := n_beq a
  have hib := n_beq (inv a)
  have hpb := n_beq (a * b)
  have h1 : (((a * b).n : Int) != ((b * a).n : Int)) = false := ne_same (mul_comm a b)
  have h2 : (((a * (b * c)).n : Int) != ((a * b * c).n : Int)) = false := ne_same (mul_assoc a b c).symm
  have h3 : (((a * (b + c)).n : Int) != ((a * b + a * c).n : Int)) = false := ne_same (mul_add a b c)
  have hl : Hid (lg a = (0 : Nat) - 1) := by rw [ha]; exact lg_zero
  have hz : Hid (pwZ 2 (0 : Nat) = 1) := rfl
  rw [decide_eq_true ha] at hab
  rw [decide_eq_true (by rw [ha, zero_mul])] at hpb
  rw [decide_eq_true (by rw [ha, inv_zero])] at hib
  clear ha
  go_enter Try.func5, Try.ntmps5
  go_wp2_with (first
      | (go_at_call 14; refine (alive01_c _).mono ?_; rintro e w1 ⟨rfl, hb1⟩)
      | (go_at_call 21; (with_reducible refine (Mul_one_c _ _).mono ?_); rintro e w' ⟨rfl, rfl⟩)
      | (go_at_call 21; refine (Mul_c _ _ _).mono ?_; rintro e w' ⟨rfl, rfl⟩)
      | (go_at_call 20; refine (Add_c _ _ _).mono ?_; rintro e w' ⟨rfl, rfl⟩)
      | (go_at_call 22; refine (Inv_c _ _).mono ?_; rintro e w' ⟨rfl, rfl⟩)
      | (go_at_call 16; refine (Log_c _ _).mono ?_; rintro e w' ⟨rfl, rfl⟩; rw [hl.out])
      | (go_at_call 24; refine (Exp_nat _ _ hz _).mono ?_; rintro e w' ⟨rfl, rfl⟩))
  go_ret
  exact ⟨rfl, hb1⟩
set_option maxHeartbeats 4000000 in
set_option maxRecDepth 100000 in
theorem field_some (a b c : F) (k : Nat) (hl : Hid (lg a = (k : Int))) (hz : Hid (pwZ 2 k = a)) (hab : ((a.n : Int) == 0) = false) (han : ((a.n : Int) != 0) = true) (h6 : (((a * inv a).n : Int) == 1) = true)
    (t : Bool) (hbb : ((b.n : Int) == 0) = t) (hpb : (((a * b).n : Int) == 0) = t) (w : World) : Calls Try.prog 5 #[.int .u8 a.n, .int .u8 b.n, .int .u8 c.n] w fun e w' => e = .returned (.bool true) ∧ Below w.heap.size w w' := by
  have h1 : (((a * b).n : Int) != ((b * a).n : Int)) = false := ne_same (mul_comm a b)
  have h2 : (((a * (b * c)).n : Int) != ((a * b * c).n : Int)) = false := ne_same (mul_assoc a b c).symm
  have h3 : (((a * (b + c)).n : Int) != ((a * b + a * c).n : Int)) = false := ne_same (mul_add a b c)
  have h5 : (((inv (inv a)).n : Int) == (a.n : Int)) = true := eq_same (inv_inv a)
  cases t
  all_goals
    go_enter Try.func5, Try.ntmps5
    go_wp2_with (first
        | (go_at_call 14; refine (alive01_c _).mono ?_; rintro e w1 ⟨rfl, hb1⟩)
        | (go_at_call 21; (with_reducible refine (Mul_one_c _ _).mono ?_); rintro e w' ⟨rfl, rfl⟩)
        | (go_at_call 21; refine (Mul_c _ _ _).mono ?_; rintro e w' ⟨rfl, rfl⟩)
        | (go_at_call 20; refine (Add_c _ _ _).mono ?_; rintro e w' ⟨rfl, rfl⟩)
        | (go_at_call 22; refine (Inv_c _ _).mono ?_; rintro e w' ⟨rfl, rfl⟩)
        | (go_at_call 16; refine (Log_c _ _).mono ?_; rintro e w' ⟨rfl, rfl⟩; rw [hl.out])
        | (go_at_call 24; refine (Exp_nat _ _ hz _).mono ?_; rintro e w' ⟨rfl, rfl⟩))
    go_ret
    exact ⟨rfl, hb1⟩
theorem walk_GfField (w : World) (a b c : F) : Calls Try.prog 5 #[.int .u8 a.n, .int .u8 b.n, .int .u8 c.n] w fun e w' => e = .returned (.bool true) ∧ Below w.heap.size w w' := by
  by_cases ha : a = 0
  · exact field_zero a b c ha w
  · obtain ⟨k, hk, hk2, hl0⟩ := lg_some ha
    refine field_some a b c k hl0 (by unfold Hid; rw [pwZ_nat two_ne_zero hk, hk2]) (by rw [n_beq, decide_eq_false ha]) (by rw [bne, n_beq, decide_eq_false ha]; rfl) (by rw [n_beq1, decide_eq_true (mul_inv ha)]) (decide (b = 0)) (n_beq b) (n_beq_mul ha b) w

/-! ### Powers -/
theorem pwZ_add {a : F} (h : a ≠ 0) (m n : Int) : pwZ a m * pwZ a n = pwZ a (m + n) := by
  unfold pwZ
  rw [if_neg h, if_neg h, if_neg h, ← pw_add, ← pw_mod h, ← pw_mod h ((m + n) % 255).toNat]
  congr 1
  omega
theorem pwZ_ne_zero {a : F} (h : a ≠ 0) (m : Int) : pwZ a m ≠ 0 := by
  unfold pwZ
  rw [if_neg h]
  exact pw_ne_zero h _
theorem pwZ_mul {a : F} (h : a ≠ 0) (m n : Int) : pwZ (pwZ a m) n = pwZ a (m * n) := by
  have h1 : pwZ a m ≠ 0 := pwZ_ne_zero h m
  have e1 : ∀ x : F, x ≠ 0 → pwZ x n = pw x (n % 255).toNat := fun x hx => by unfold pwZ; rw [if_neg hx]
  rw [e1 _ h1]
  unfold pwZ
  rw [if_neg h, if_neg h, pw_pw, ← pw_mod h, ← pw_mod h ((m * n) % 255).toNat]
  congr 1
  have e2 : (((m % 255).toNat * (n % 255).toNat : Nat) : Int) = (m % 255) * (n % 255) := by
    rw [Int.natCast_mul, Int.toNat_of_nonneg (by omega), Int.toNat_of_nonneg (by omega)]
  have e3 : ((m * n) % 255) = ((m % 255) * (n % 255)) % 255 := Int.mul_emod m n 255
  omega
theorem pwZ_255 {a : F} (h : a ≠ 0) : pwZ a 255 = 1 := by
  unfold pwZ
  rw [if_neg h]
  rfl
theorem lg_mul {a b : F} (ha : a ≠ 0) (hb : b ≠ 0) : lg (a * b) = (lg a + lg b) % 255 := by
  obtain ⟨j, hj, e1, l1⟩ := lg_some ha
  obtain ⟨k, hk, e2, l2⟩ := lg_some hb
  have h : pw 2 ((j + k) % 255) = a * b := by rw [pw_mod two_ne_zero, pw_add, e1, e2]
  rw [lg_at (Nat.mod_lt _ (by omega)) h, l1, l2]
  omega
theorem wf_lg {a : F} (h : a ≠ 0) : ∃ k : Nat, lg a = k ∧ k < 255 := by
  obtain ⟨k, hk, _, e⟩ := lg_some h
  exact ⟨k, e, hk⟩
end Go.Proofs.Ytpghcclgphjflaa
