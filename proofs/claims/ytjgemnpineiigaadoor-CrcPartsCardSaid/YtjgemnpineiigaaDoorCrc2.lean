/-
  THE CONTRACTS OF PACKAGE crc's WORDS: times, power, Zeros, Join. No conditions but that words are words.
-/
import Derived.Test.YtjgemnpineiigaaDoorProg
import Derived.Test.YtjgemnpineiigaaDoorCrc
import Derived.WalkKit
import Derived.Calls
import Derived.Below
import Derived.Lib.Hide
import Derived.Laws.BitsAllLaws
namespace Go.Proofs.YtjgemnpineiigaaDoor
open Go.RowKit
set_option linter.unusedVariables false

theorem ret_u32 {a b : Int} (h : a = b) : Ending.returned (.int .u32 a) = .returned (.int .u32 b) := by rw [h]
theorem val_u32 {a b : Int} (h : a = b) : Value.int .u32 a = .int .u32 b := by rw [h]
theorem neg_sel (x y : Nat) (hx : x < 2) (hy : y < 4294967296) : bits BinOp.and IntKind.u32 (y : Int) (-(x : Int) % 4294967296) = ((selG x y : Nat) : Int) := by
  unfold selG
  rcases (show x = 0 ∨ x = 1 by omega) with h | h
  · subst h
    rw [show (-((0 : Nat) : Int) % 4294967296) = ((0 : Nat) : Int) by omega, u32_and_nat _ _ hy (by omega)]; simp
  · subst h
    rw [show (-((1 : Nat) : Int) % 4294967296) = ((4294967295 : Nat) : Int) by omega, u32_and_nat _ _ hy (by omega)]
    have : y &&& 4294967295 = y := by rw [Nat.and_two_pow_sub_one_eq_mod (n := 32)]; omega
    simp [this]
theorem bits_prod (p a b : G) : bits BinOp.xor IntKind.u32 (p.n : Int) (bits BinOp.and IntKind.u32 (a.n : Int) (-((b.n : Int) / 2147483648) % 4294967296)) = ((ofG (p.n ^^^ selG (b.n / 2147483648) a.n)).n : Int) := by
  have ha := a.lt
  have hp := p.lt
  have hb := b.lt
  rw [ofG_n _ (gxor_lt hp (selG_lt _ ha)), show ((b.n : Int) / 2147483648) = ((b.n / 2147483648 : Nat) : Int) by omega, neg_sel _ _ (by omega) ha, u32_xor_nat _ _ hp (selG_lt _ ha)]
theorem bits_s (a : G) : bits BinOp.xor IntKind.u32 ((a.n : Int) / 2) (bits BinOp.and IntKind.u32 3988292384 (-(bits BinOp.and IntKind.u32 (a.n : Int) 1) % 4294967296)) = ((s a).n : Int) := by
  have ha := a.lt
  have h1 : bits BinOp.and IntKind.u32 (a.n : Int) 1 = ((a.n % 2 : Nat) : Int) := by
    rw [show (1 : Int) = ((1 : Nat) : Int) from rfl, u32_and_nat _ _ ha (by omega), Nat.and_one_is_mod]
  have h2 : selG (a.n % 2) PG = selG a.n PG := by unfold selG; rw [Nat.mod_mod]
  rw [s_n, h1, show (3988292384 : Int) = ((PG : Nat) : Int) from rfl, neg_sel _ _ (by omega) (by decide), show ((a.n : Int) / 2) = ((a.n / 2 : Nat) : Int) by omega, u32_xor_nat _ _ (by omega) (selG_lt _ (by decide)), h2]
  rfl
theorem dbl_G (b : G) : (b.n : Int) * 2 % 4294967296 = ((ofG (b.n * 2 % 4294967296)).n : Int) := by
  rw [ofG_n _ (by omega)]
  omega
set_option maxHeartbeats 400000 in
theorem times_c (a b : G) (w : World) : Calls Tryd.prog 21 #[.int .u32 a.n, .int .u32 b.n] w fun e w' => e = .returned (.int .u32 (tm a b).n) ∧ w = w' := by
  go_enter Tryd.func21, Tryd.ntmps21
  go_wp2
  go_loop [0, 1, 5, 6] (fun x y p i => ∃ (k : Nat) (x' y' p' : G), k ≤ 32 ∧ x = .int .u32 x'.n ∧ y = .int .u32 y'.n ∧ p = .int .u32 p'.n ∧ i = .int .i64 k ∧ Hid (tmN (32 - k) p'.n x'.n y'.n = (tm a b).n)) (fun _ _ _ i => 32 - (intOf i).toNat)
  case atStart => exact ⟨0, a, b, 0, by omega, rfl, rfl, rfl, rfl, (tm_n a b).symm⟩
  case round =>
    obtain ⟨k, x, y, p, hk, rfl, rfl, rfl, rfl, hm⟩ := hrel
    have hx := x.lt
    have hy := y.lt
    have hp := p.lt
    by_cases hlt : k < 32
    · have hm' : Hid (tmN (32 - (k + 1)) (ofG (p.n ^^^ selG (y.n / 2147483648) x.n)).n (s x).n (ofG (y.n * 2 % 4294967296)).n = (tm a b).n) := by
        rw [ofG_n _ (gxor_lt hp (selG_lt _ hx)), s_n, ofG_n _ (by omega)]
        have h := hm.out
        rw [show 32 - k = (32 - (k + 1)) + 1 by omega] at h
        exact h
      go_wp2
      go_round
      case rel => exact ⟨k + 1, _, _, _, by omega, val_u32 (bits_s x), val_u32 (dbl_G y), val_u32 (bits_prod p x y), by go_num, hm'⟩
      case measure => simp [intOf]; omega
    · have h8 : Hid (p.n = (tm a b).n) := by
        have h := hm.out
        rw [show 32 - k = 0 by omega] at h
        exact h
      go_wp2
      go_ret
      exact ⟨ret_u32 (by rw [h8.out]), rfl⟩
theorem i64_and1 (a : Nat) (ha : a < 9223372036854775808) : bits .and .i64 (a : Int) 1 = ((a % 2 : Nat) : Int) := by
  have ofI : ∀ c : Nat, c < 9223372036854775808 → (BitVec.ofInt 64 (c : Int)).toNat = c := fun c hc => by
    rw [BitVec.ofInt_natCast, BitVec.toNat_ofNat]; exact Nat.mod_eq_of_lt (by omega)
  show IntKind.i64.wrap ((BitVec.ofInt 64 (a : Int) &&& BitVec.ofInt 64 ((1 : Nat) : Int)).toNat : Int) = _
  rw [BitVec.toNat_and, ofI a ha, ofI 1 (by omega), IntKind.wrap_i64, Nat.and_one_is_mod]
  omega
theorem gp_half (a : G) (k : Nat) : gp a k = if k % 2 = 1 then tm a (gp (tm a a) (k / 2)) else gp (tm a a) (k / 2) := by
  rw [gp_sq]
  split
  · conv => lhs; rw [show k = 2 * (k / 2) + 1 by omega]
    show tm (gp a (2 * (k / 2))) a = _
    rw [tm_comm]
  · conv => lhs; rw [show k = 2 * (k / 2) by omega]
set_option maxHeartbeats 400000 in
theorem power_c (a : G) (n : Nat) (hn : n ≤ 1099511627776) (w : World) : Calls Tryd.prog 22 #[.int .u32 a.n, .int .i64 n] w fun e w' => e = .returned (.int .u32 (gp a n).n) ∧ w = w' := by
  go_enter Tryd.func22, Tryd.ntmps22
  go_wp2
  go_loop [0, 1, 5] (fun x i p => ∃ (k : Nat) (x' p' : G), k ≤ 1099511627776 ∧ x = .int .u32 x'.n ∧ p = .int .u32 p'.n ∧ i = .int .i64 k ∧ Hid (tm p' (gp x' k) = gp a n)) (fun _ i _ => (intOf i).toNat)
  case atStart => exact ⟨n, a, oneG, hn, rfl, rfl, rfl, one_tm _⟩
  case round =>
    obtain ⟨k, x, p, hk, rfl, rfl, rfl, hm⟩ := hrel
    by_cases hlt : 0 < k
    · have hki : (0 : Int) < k := by omega
      have hb := Lib.hid (i64_and1 k (by omega))
      have hg := Lib.hid (gp_half x k)
      have hdv : ((k : Int) / 2) = ((k / 2 : Nat) : Int) := by omega
      have HD := Lib.hid hdv
      clear hdv
      go_wp2_with (go_at_call 21; refine (times_c _ _ _).mono ?_; rintro e w' ⟨rfl, rfl⟩)
      · have h1 : (bits BinOp.and IntKind.i64 (k : Int) 1 == 1) = true := by assumption
        go_round
        case rel =>
          refine ⟨k / 2, _, _, by omega, rfl, rfl, by rw [HD.out], ?_⟩
          have h := hm.out
          rw [hb.out, beq_iff_eq] at h1
          rw [hg.out, if_pos (by omega), ← tm_assoc] at h
          exact h
        case measure => simp [intOf]; omega
      · have h1 : (bits BinOp.and IntKind.i64 (k : Int) 1 == 1) = false := by assumption
        go_round
        case rel =>
          refine ⟨k / 2, _, _, by omega, rfl, rfl, by rw [HD.out], ?_⟩
          have h := hm.out
          rw [hb.out, beq_eq_false_iff_ne] at h1
          rw [hg.out, if_neg (by omega)] at h
          exact h
        case measure => simp [intOf]; omega
    · have h8 : Hid (p = gp a n) := by
        have h := hm.out
        rw [show k = 0 by omega] at h
        rw [← h]
        exact (tm_one p).symm
      have hki : ¬ (0 : Int) < k := by omega
      go_wp2
      go_ret
      exact ⟨ret_u32 (by rw [h8.out]), rfl⟩
theorem not_G (a : G) : bits BinOp.xor IntKind.u32 IntKind.u32.max (a.n : Int) = ((nt a).n : Int) := by
  have ha := a.lt
  rw [show (IntKind.u32.max : Int) = ((4294967295 : Nat) : Int) from rfl, u32_xor_nat _ _ (by omega) ha]
  unfold nt
  rw [gadd_n, Nat.xor_comm]
  rfl
theorem zer_gp (x : G) (n : Nat) : nt (tm (nt x) (gp x8 n)) = zer x n := by unfold zer; rw [st_gp]
/-- how many noughts a number stands for -/
def nOf (n : Int) : Nat := (min (max n 0) 1099511627776).toNat
theorem power_x8 (n : Nat) (hn : n ≤ 1099511627776) (w : World) : Calls Tryd.prog 22 #[.int .u32 8388608, .int .i64 n] w fun e w' => e = .returned (.int .u32 (gp x8 n).n) ∧ w = w' := power_c x8 n hn w
theorem power_0 (w : World) : Calls Tryd.prog 22 #[.int .u32 8388608, .int .i64 0] w fun e w' => e = .returned (.int .u32 (gp x8 0).n) ∧ w = w' := power_c x8 0 (by omega) w
theorem power_40 (w : World) : Calls Tryd.prog 22 #[.int .u32 8388608, .int .i64 1099511627776] w fun e w' => e = .returned (.int .u32 (gp x8 1099511627776).n) ∧ w = w' := power_c x8 1099511627776 (by omega) w
set_option maxHeartbeats 400000 in
theorem Zeros_c (x : G) (n : Int) (w : World) : Calls Tryd.prog 18 #[.int .u32 x.n, .int .i64 n] w fun e w' => e = .returned (.int .u32 (zer x (nOf n)).n) ∧ w = w' := by
  have hsg : IntKind.u32.signed = false := rfl
  have h1 := not_G x
  by_cases h0 : n < 0
  · have h2 := not_G (tm (nt x) (gp x8 0))
    have hk : Hid (nOf n = 0) := by unfold Hid nOf; omega
    go_enter Tryd.func18, Tryd.ntmps18
    go_wp2_with (first | (go_at_call 22; refine (power_0 _).mono ?_; rintro e w' ⟨rfl, rfl⟩) | (go_at_call 21; refine (times_c _ _ _).mono ?_; rintro e w' ⟨rfl, rfl⟩))
    go_ret
    exact ⟨ret_u32 (by rw [hk.out, zer_gp]), rfl⟩
  · by_cases h40 : n ≤ 1099511627776
    · obtain ⟨k, rfl⟩ := Int.eq_ofNat_of_zero_le (show 0 ≤ n by omega)
      have h2 := not_G (tm (nt x) (gp x8 k))
      have hk : Hid (nOf k = k) := by unfold Hid nOf; omega
      have hk40 : k ≤ 1099511627776 := by omega
      have h00 : ¬ ((k : Int) < 0) := h0
      go_enter Tryd.func18, Tryd.ntmps18
      go_wp2_with (first | (go_at_call 22; refine (power_x8 k hk40 _).mono ?_; rintro e w' ⟨rfl, rfl⟩) | (go_at_call 21; refine (times_c _ _ _).mono ?_; rintro e w' ⟨rfl, rfl⟩))
      go_ret
      exact ⟨ret_u32 (by rw [hk.out, zer_gp]), rfl⟩
    · have h2 := not_G (tm (nt x) (gp x8 1099511627776))
      have hk : Hid (nOf n = 1099511627776) := by unfold Hid nOf; omega
      go_enter Tryd.func18, Tryd.ntmps18
      go_wp2_with (first | (go_at_call 22; refine (power_40 _).mono ?_; rintro e w' ⟨rfl, rfl⟩) | (go_at_call 21; refine (times_c _ _ _).mono ?_; rintro e w' ⟨rfl, rfl⟩))
      go_ret
      exact ⟨ret_u32 (by rw [hk.out, zer_gp]), rfl⟩
theorem Zeros_0 (n : Int) (w : World) : Calls Tryd.prog 18 #[.int .u32 0, .int .i64 n] w fun e w' => e = .returned (.int .u32 (zer 0 (nOf n)).n) ∧ w = w' := Zeros_c 0 n w
theorem gxor_G (a b : G) : bits BinOp.xor IntKind.u32 (a.n : Int) (b.n : Int) = ((a + b).n : Int) := by rw [u32_xor_nat _ _ a.lt b.lt, gadd_n]
set_option maxHeartbeats 400000 in
theorem JoinG_c (a b : G) (n : Int) (w : World) : Calls Tryd.prog 17 #[.int .u32 a.n, .int .u32 b.n, .int .i64 n] w fun e w' => e = .returned (.int .u32 (jn a b (nOf n)).n) ∧ w = w' := by
  have h1 := gxor_G (zer a (nOf n)) (zer 0 (nOf n))
  have h2 := gxor_G (zer a (nOf n) + zer 0 (nOf n)) b
  go_enter Tryd.func17, Tryd.ntmps17
  go_wp2_with (first | (go_at_call 18; (with_reducible refine (Zeros_0 _ _).mono ?_); rintro e w' ⟨rfl, rfl⟩) | (go_at_call 18; refine (Zeros_c _ _ _).mono ?_; rintro e w' ⟨rfl, rfl⟩))
  go_ret
  exact ⟨rfl, rfl⟩
end Go.Proofs.YtjgemnpineiigaaDoor
