/-
  THE CONTRACTS OF PACKAGE little's NUMBERS (Put, Get, Fits) AND OF THE DOCUMENT's OWN. No conditions but that numbers are such.
-/
import Derived.Test.YtbphbogolffanaaDoorBase
import Derived.Test.YtbphbogolffanaaDoorLit
import Derived.Test.YtbphbogolffanaaDoorNum
namespace Go.Proofs.YtbphbogolffanaaDoor
open Go.RowKit
set_option maxRecDepth 100000
set_option linter.unusedVariables false

theorem two64_pow : two64 = 256 ^ 8 := by decide
theorem ret_u64 {a b : Int} (h : a = b) : Ending.returned (.int .u64 a) = .returned (.int .u64 b) := by rw [h]
theorem val_u64 {a b : Int} (h : a = b) : Value.int .u64 a = .int .u64 b := by rw [h]
theorem wrap_u64_nat (n : Nat) : IntKind.u64.wrap (n : Int) = ((n % two64 : Nat) : Int) := by
  rw [IntKind.wrap_u64]
  unfold two64
  omega
theorem wrap_u64_lt {n : Nat} (h : n < two64) : IntKind.u64.wrap (n : Int) = (n : Int) := by rw [wrap_u64_nat, Nat.mod_eq_of_lt h]
theorem pow256_le {k : Nat} (h : k < 8) {x : Nat} (hx : x < 256) : 256 ^ k * x + 256 ^ k ≤ two64 := by
  rw [two64_pow]
  have h1 : 256 ^ k * (x + 1) ≤ 256 ^ k * 256 := Nat.mul_le_mul_left _ hx
  have h2 : 256 ^ (k + 1) ≤ 256 ^ 8 := Nat.pow_le_pow_right (by decide) h
  rw [Nat.pow_succ] at h2
  rw [Nat.mul_add, Nat.mul_one] at h1
  exact Nat.le_trans h1 h2
/-- the next byte is put above those that stand -/
theorem or64 (a k : Nat) (x : F) (ha : a < 256 ^ k) (hk : k < 8) : bits BinOp.or IntKind.u64 (a : Int) (IntKind.u64.wrap (IntKind.u64.wrap (x.n : Int) * 2 ^ (8 * k))) = ((a + 256 ^ k * x.n : Nat) : Int) := by
  have h1 := pow256_le hk x.lt
  have hx : x.n < two64 := Nat.lt_of_lt_of_le x.lt (by decide)
  have hp : 0 < 256 ^ k := Nat.pow_pos (by decide)
  have h2 : (x.n : Int) * 2 ^ (8 * k) = ((x.n * 2 ^ (8 * k) : Nat) : Int) := by simp
  have h3 : x.n * 2 ^ (8 * k) = 256 ^ k * x.n := by rw [← pow256, Nat.mul_comm]
  rw [wrap_u64_lt hx, h2, wrap_u64_lt (by rw [h3]; omega), bits_or_u64_nat _ _ (show a < two64 by omega) (show _ < two64 by rw [h3]; omega), or_byte _ _ _ ha]
theorem sum64 (a k : Nat) (x : F) (ha : a < 256 ^ k) (hk : k < 8) : IntKind.u64.wrap ((a : Int) + IntKind.u64.wrap (IntKind.u64.wrap (x.n : Int) * (256 ^ k % (two64 : Nat) : Int))) = ((a + 256 ^ k * x.n : Nat) : Int) := by
  have h1 := pow256_le hk x.lt
  have hx : x.n < two64 := Nat.lt_of_lt_of_le x.lt (by decide)
  have hp : 0 < 256 ^ k := Nat.pow_pos (by decide)
  have hpl : 256 ^ k < two64 := by rw [two64_pow]; exact Nat.pow_lt_pow_right (by decide) hk
  have h2 : (256 ^ k % (two64 : Nat) : Int) = ((256 ^ k : Nat) : Int) := by
    rw [show (256 ^ k % (two64 : Nat) : Int) = ((256 ^ k % two64 : Nat) : Int) by simp, Nat.mod_eq_of_lt hpl]
  have h3 : x.n * 256 ^ k = 256 ^ k * x.n := Nat.mul_comm _ _
  rw [wrap_u64_lt hx, h2, ← Int.natCast_mul, wrap_u64_lt (by omega), ← Int.natCast_add, wrap_u64_lt (by omega), h3]
theorem by64 (k : Nat) : IntKind.u64.wrap ((256 ^ k % (two64 : Nat) : Int) * 256) = ((256 ^ (k + 1) % two64 : Nat) : Int) := by
  rw [show (256 ^ k % (two64 : Nat) : Int) * 256 = ((256 ^ k % two64 * 256 : Nat) : Int) by simp, wrap_u64_nat, Nat.mul_mod, Nat.mod_mod, ← Nat.mul_mod, Nat.pow_succ]
theorem heldN_cast (s : Int) (m : Nat) : ((heldN s m : Nat) : Int) = min (max s 0) (m : Int) := by unfold heldN; omega
theorem ret_bool7 {a b : Bool} (h : a = b) : Ending.returned (.bool a) = .returned (.bool b) := by rw [h]
set_option maxHeartbeats 2000000 in
theorem Get_c (A : Option Addr) (n c : Nat) (l : List F) (w : World) (h : Row w A n l) :
    Calls Tryd.prog 37 #[.slice A n c] w fun e w' => e = .returned (.int .u64 (getL (l.take 8))) ∧ w = w' := by
  have hnm := h.max
  have HL := Lib.hid h.len
  obtain ⟨m, hm⟩ : ∃ m, m = min n 8 := ⟨_, rfl⟩
  have hmi : (if (8 : Int) < n then 8 else (n : Int)) = (m : Int) := by split <;> omega
  have HM := Lib.hid hm
  have hm8 : m ≤ 8 := by omega
  have hmn : m ≤ n := by omega
  clear hm
  go_enter Tryd.func37, Tryd.ntmps37
  go_wp2
  go_loop [3, 8] (fun v i => ∃ k : Nat, k ≤ m ∧ i = .int .i64 k ∧ v = .int .u64 (getL (l.take k))) (fun _ i => m - (intOf i).toNat)
  case atStart => exact ⟨0, by omega, rfl, rfl⟩
  case round =>
    obtain ⟨k, hk, rfl, rfl⟩ := hrel
    by_cases hlt : k < m
    · have hkn : (k : Int) < m := by omega
      obtain ⟨b, o, rfl, _, hc⟩ := h.at_ (k := k) (by omega)
      have hk8 : k < 8 := by omega
      have hor := or64 (getL (l.take k)) k (gt l k) (by have := getL_lt (l.take k); rw [List.length_take, HL.out, show min k n = k by omega] at this; exact this) hk8
      rw [← getL_take_succ l k (by rw [HL.out]; omega)] at hor
      have HO := Lib.hid hor
      clear hor
      go_wp2
      go_round
      case rel => exact ⟨k + 1, by omega, by go_num, val_u64 HO.out⟩
      case measure => simp [intOf]; omega
    · have hfin : Hid (l.take k = l.take 8) := by
        unfold Hid
        have := HM.out
        have := HL.out
        rcases (show n ≤ 8 ∨ k = 8 by omega) with h8 | h8
        · rw [List.take_of_length_le (by omega), List.take_of_length_le (by omega)]
        · rw [h8]
      go_wp2
      go_ret
      exact ⟨ret_u64 (by rw [hfin.out]), rfl⟩
set_option maxHeartbeats 2000000 in
theorem RefGet_c (A : Option Addr) (n c : Nat) (l : List F) (w : World) (h : Row w A n l) :
    Calls Tryd.prog 29 #[.slice A n c] w fun e w' => e = .returned (.int .u64 (getL (l.take 8))) ∧ w = w' := by
  have hnm := h.max
  have HL := Lib.hid h.len
  go_enter Tryd.func29, Tryd.ntmps29
  go_wp2
  go_loop [3, 4, 5] (fun v by_ i => ∃ k : Nat, k ≤ n ∧ k ≤ 8 ∧ i = .int .i64 k ∧ v = .int .u64 (getL (l.take k)) ∧ by_ = .int .u64 ((256 ^ k % two64 : Nat) : Int)) (fun _ _ i => n - (intOf i).toNat)
  case atStart => exact ⟨0, by omega, by omega, rfl, rfl, rfl⟩
  case round =>
    obtain ⟨k, hk, hk8, rfl, rfl, rfl⟩ := hrel
    by_cases hlt : k < n
    · have hkn : (k : Int) < n := by omega
      obtain ⟨b, o, rfl, _, hc⟩ := h.at_ (k := k) (by omega)
      by_cases h8 : k < 8
      · have hk8i : (k : Int) < 8 := by omega
        have hsum := sum64 (getL (l.take k)) k (gt l k) (by have := getL_lt (l.take k); rw [List.length_take, HL.out, show min k n = k by omega] at this; exact this) h8
        rw [← getL_take_succ l k (by rw [HL.out]; omega)] at hsum
        have HS := Lib.hid hsum
        clear hsum
        go_wp2
        go_round
        case rel => exact ⟨k + 1, by omega, by omega, by go_num, val_u64 HS.out, val_u64 (by64 k)⟩
        case measure => simp [intOf]; omega
      · have hk8i : ¬ (k : Int) < 8 := by omega
        obtain rfl : k = 8 := by omega
        go_wp2
        go_ret
        exact ⟨rfl, rfl⟩
    · have hkn : ¬ (k : Int) < n := by omega
      have hfin : Hid (l.take k = l.take 8) := by
        unfold Hid
        have := HL.out
        rw [List.take_of_length_le (by omega), List.take_of_length_le (by omega)]
      go_wp2
      go_ret
      exact ⟨ret_u64 (by rw [hfin.out]), rfl⟩
end Go.Proofs.YtbphbogolffanaaDoor
