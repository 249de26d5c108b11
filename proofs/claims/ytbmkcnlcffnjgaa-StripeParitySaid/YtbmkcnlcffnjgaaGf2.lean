/-
  THE CONTRACTS OF gf.Log AND OF THE DOCUMENT'S OWN Mul, Inv AND Pow. No conditions but that bytes are bytes.
-/
import Derived.Test.YtbmkcnlcffnjgaaGf
namespace Go.Proofs.Ytbmkcnlcffnjgaa
open Go.RowKit

theorem tmod_two (q k : Nat) : (((q : Int) / 2 ^ k).tmod 2 == 1) = decide (q / 2 ^ k % 2 = 1) := by
  have e : ((q : Int) / 2 ^ k) = ((q / 2 ^ k : Nat) : Int) := by simp
  rw [e, Int.tmod_eq_emod_of_nonneg (Int.natCast_nonneg _)]
  by_cases h : q / 2 ^ k % 2 = 1
  · rw [decide_eq_true h, beq_iff_eq]; omega
  · rw [decide_eq_false h, beq_eq_false_iff_ne]; omega
theorem shl_xor (q a k : Nat) (hq : q < 32768) (ha : a < 256) (hk : k < 8) : bits BinOp.xor IntKind.i64 (q : Int) (wrap64 ((a : Int) * 2 ^ k)) = ((q ^^^ a * 2 ^ k : Nat) : Int) ∧ q ^^^ a * 2 ^ k < 32768 := by
  have h1 : (2 : Nat) ^ k ≤ 2 ^ 7 := Nat.pow_le_pow_right (by omega) (by omega)
  have h2 : a * 2 ^ k ≤ 255 * 128 := Nat.mul_le_mul (by omega) h1
  have e : (a : Int) * 2 ^ k = ((a * 2 ^ k : Nat) : Int) := by simp
  refine ⟨?_, Nat.xor_lt_two_pow (n := 15) hq (by omega)⟩
  rw [e, IntWalk.wrap64_in _ (by omega), i64_xor_nat _ _ (by omega) (by omega)]
theorem shl_xor2 (q k : Nat) (hq : q < 32768) (hk : k < 7) : bits BinOp.xor IntKind.i64 (q : Int) (wrap64 ((285 : Int) * 2 ^ k)) = ((q ^^^ 285 * 2 ^ k : Nat) : Int) ∧ q ^^^ 285 * 2 ^ k < 32768 := by
  have h1 : (2 : Nat) ^ k ≤ 2 ^ 6 := Nat.pow_le_pow_right (by omega) (by omega)
  have h2 : 285 * 2 ^ k ≤ 285 * 64 := Nat.mul_le_mul (by omega) h1
  have e : (285 : Int) * 2 ^ k = ((285 * 2 ^ k : Nat) : Int) := by simp
  refine ⟨?_, Nat.xor_lt_two_pow (n := 15) hq (by omega)⟩
  rw [e, IntWalk.wrap64_in _ (by omega), i64_xor_nat _ _ (by omega) (by omega)]
set_option maxHeartbeats 400000 in
theorem RefMul_c (a b : F) (w : World) : Calls Try.prog 61 #[.int .u8 a.n, .int .u8 b.n] w fun e w' => e = .returned (.int .u8 (a * b).n) ∧ w = w' := by
  have ha := a.lt
  have hb := b.lt
  have hmul : Hid (restN 7 (gatherN 8 0 a.n b.n) = (a * b).n) := by unfold Hid; rw [mul_n]; exact refN_mul ha hb
  go_enter Try.func61, Try.ntmps61
  go_wp2
  go_loop [5, 6] (fun p i => ∃ k q : Nat, k ≤ 8 ∧ i = .int .i64 k ∧ p = .int .i64 q ∧ q < 32768 ∧ Hid (q ^^^ gatherN (8 - k) k a.n b.n = gatherN 8 0 a.n b.n)) (fun _ i => 8 - (intOf i).toNat)
  case atStart => exact ⟨0, 0, by omega, rfl, rfl, by omega, by simp [Hid]⟩
  case round =>
    obtain ⟨k, q, hk, rfl, rfl, hq, hg⟩ := hrel
    by_cases hlt : k < 8
    · have hs := (shl_xor q a.n k hq ha hlt).2
      have hs1 := Lib.hid (shl_xor q a.n k hq ha hlt).1
      have ht := tmod_two b.n k
      have hg2 : Hid (q ^^^ (selN (b.n / 2 ^ k) (a.n * 2 ^ k) ^^^ gatherN (8 - (k + 1)) (k + 1) a.n b.n) = gatherN 8 0 a.n b.n) := by
        have h := hg.out
        rw [show 8 - k = (8 - (k + 1)) + 1 by omega] at h
        exact h
      clear hg
      by_cases hbit : b.n / 2 ^ k % 2 = 1
      · rw [decide_eq_true hbit] at ht
        have hg3 : Hid ((q ^^^ a.n * 2 ^ k) ^^^ gatherN (8 - (k + 1)) (k + 1) a.n b.n = gatherN 8 0 a.n b.n) := by
          have h := hg2.out
          unfold selN at h
          rw [if_pos hbit, ← Nat.xor_assoc] at h
          exact h
        clear hg2 hbit
        go_wp2
        go_round
        case rel => exact ⟨k + 1, q ^^^ a.n * 2 ^ k, by omega, by go_num, val_i64 hs1.out, hs, hg3⟩
        case measure => simp [intOf]; omega
      · rw [decide_eq_false hbit] at ht
        have hg3 : Hid (q ^^^ gatherN (8 - (k + 1)) (k + 1) a.n b.n = gatherN 8 0 a.n b.n) := by
          have h := hg2.out
          unfold selN at h
          rw [if_neg hbit, Nat.zero_xor] at h
          exact h
        clear hg2 hbit
        go_wp2
        go_round
        case rel => exact ⟨k + 1, q, by omega, by go_num, rfl, hq, hg3⟩
        case measure => simp [intOf]; omega
    · have hg3 : Hid (restN 7 q = (a * b).n) := by
        have h := hg.out
        rw [show 8 - k = 0 by omega] at h
        replace h : q ^^^ 0 = gatherN 8 0 a.n b.n := h
        rw [Nat.xor_zero] at h
        have h2 := hmul.out
        rw [← h] at h2
        exact h2
      clear hg hmul
      go_wp2
      go_loop [5, 7] (fun p i => ∃ k q : Nat, k ≤ 7 ∧ i = .int .i64 (k + 7 : Nat) ∧ p = .int .i64 q ∧ q < 32768 ∧ Hid (restN k q = (a * b).n)) (fun _ i => (intOf i).toNat)
      case atStart => exact ⟨7, q, by omega, rfl, rfl, hq, hg3⟩
      case round =>
        clear hg3
        obtain ⟨j, r, hj, rfl, rfl, hr, hg⟩ := hrel
        by_cases h0 : 1 ≤ j
        · obtain ⟨j', rfl⟩ : ∃ j', j = j' + 1 := ⟨j - 1, by omega⟩
          have hs := (shl_xor2 r j' hr (by omega)).2
          have hs1 := Lib.hid (shl_xor2 r j' hr (by omega)).1
          have ht := tmod_two r (j' + 1 + 7)
          have hg2 : Hid (restN j' (r ^^^ selN (r / 2 ^ (j' + 1 + 7)) (285 * 2 ^ j')) = (a * b).n) := hg.out
          clear hg
          by_cases hbit : r / 2 ^ (j' + 1 + 7) % 2 = 1
          · rw [decide_eq_true hbit] at ht
            have hg3 : Hid (restN j' (r ^^^ 285 * 2 ^ j') = (a * b).n) := by
              have h := hg2.out
              unfold selN at h
              rw [if_pos hbit] at h
              exact h
            clear hg2 hbit
            go_wp2
            go_round
            case rel => exact ⟨j', r ^^^ 285 * 2 ^ j', by omega, by go_num, val_i64 hs1.out, hs, hg3⟩
            case measure => simp [intOf]; omega
          · rw [decide_eq_false hbit] at ht
            have hg3 : Hid (restN j' r = (a * b).n) := by
              have h := hg2.out
              unfold selN at h
              rw [if_neg hbit, Nat.xor_zero] at h
              exact h
            clear hg2 hbit
            go_wp2
            go_round
            case rel => exact ⟨j', r, by omega, by go_num, rfl, hr, hg3⟩
            case measure => simp [intOf]; omega
        · have hj0 : Hid (r = (a * b).n) := by
            have h := hg.out
            rw [show j = 0 by omega] at h
            exact h
          go_wp2
          go_ret
          refine ⟨ret_u8 ?_, rfl⟩
          have := hj0.out
          have := (a * b).lt
          omega
theorem RefMul_nat (a : F) (k : Nat) (hk : k < 256) (w : World) : Calls Try.prog 61 #[.int .u8 a.n, .int .u8 k] w fun e w' => e = .returned (.int .u8 (a * ofN k).n) ∧ w = w' := by
  have h := RefMul_c a (ofN k) w
  rwa [ofN_n k hk] at h
set_option maxHeartbeats 400000 in
set_option maxRecDepth 100000 in
theorem RefInv_c (a : F) (w : World) : Calls Try.prog 62 #[.int .u8 a.n] w fun e w' => e = .returned (.int .u8 (inv a).n) ∧ w = w' := by
  go_enter Try.func62, Try.ntmps62
  go_wp2
  go_loop [3] (fun i => ∃ k : Nat, k ≤ 256 ∧ 1 ≤ k ∧ i = .int .i64 k ∧ Hid (∀ j, j < k → a * ofN j ≠ 1)) (fun i => 256 - (intOf i).toNat)
  case atStart => exact ⟨1, by omega, by omega, rfl, fun j hj => by rw [show j = 0 by omega, show ofN 0 = (0 : F) from rfl, mul_zero]; exact fun h => one_ne_zero h.symm⟩
  case round =>
    obtain ⟨k, hk, hk1, rfl, hno⟩ := hrel
    by_cases hlt : k < 256
    · have hb := n_beq1 (a * ofN k)
      by_cases he : a * ofN k = 1
      · rw [decide_eq_true he] at hb
        have hv : Hid ((k : Int) = (inv a).n) := by
          unfold Hid
          rw [← inv_unique he, ofN_n k hlt]
        clear he
        go_wp2_with (go_at_call 61; refine (RefMul_nat _ _ hlt _).mono ?_; rintro e w' ⟨rfl, rfl⟩)
        go_ret
        exact ⟨ret_u8 hv.out, rfl⟩
      · rw [decide_eq_false he] at hb
        have HE := Lib.hid he
        clear he
        go_wp2_with (go_at_call 61; refine (RefMul_nat _ _ hlt _).mono ?_; rintro e w' ⟨rfl, rfl⟩)
        go_round
        case rel =>
          refine ⟨k + 1, by omega, by omega, by go_num, fun j hj => ?_⟩
          rcases Nat.lt_or_ge j k with h | h
          · exact hno.out j h
          · rw [show j = k by omega]; exact HE.out
        case measure => simp [intOf]; omega
    · have hv : Hid ((0 : Int) = (inv a).n) := by
        by_cases ha : a = 0
        · rw [ha, inv_zero]; rfl
        · refine absurd ?_ (hno.out (inv a).n (by have := (inv a).lt; omega))
          rw [n_ofN, mul_inv ha]
      go_wp2
      go_ret
      exact ⟨ret_u8 hv.out, rfl⟩
theorem tmod_pos (n : Int) : (if n.tmod 255 < 0 then n.tmod 255 + 255 else n.tmod 255) = n % 255 := by
  have h2 : n.tmod 255 = n % 255 ∨ n.tmod 255 = n % 255 - 255 := by
    rw [Int.tmod_eq_emod]; split <;> omega
  have h1 : -255 < n.tmod 255 := by have := Int.lt_tmod_of_pos n (b := 255) (by omega); omega
  split <;> omega
end Go.Proofs.Ytbmkcnlcffnjgaa
