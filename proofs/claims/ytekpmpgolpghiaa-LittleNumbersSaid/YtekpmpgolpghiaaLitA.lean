/-
  THE CONTRACTS OF PACKAGE little's NUMBERS (Put, Get, Fits) AND OF THE DOCUMENT's OWN. No conditions but that numbers are such.
-/
import Derived.Test.YtekpmpgolpghiaaBase
import Derived.Test.YtekpmpgolpghiaaLit
import Derived.Test.YtekpmpgolpghiaaNum
namespace Go.Proofs.Ytekpmpgolpghiaa
open Go.RowKit
set_option maxRecDepth 100000
set_option linter.unusedVariables false

theorem two64_pow : two64 = 256 ^ 8 := by decide
theorem ret_u64 {a b : Int} (h : a = b) : Ending.returned (.int .u64 a) = .returned (.int .u64 b) := by rw [h]
theorem val_u64 {a b : Int} (h : a = b) : Value.int .u64 a = .int .u64 b := by rw [h]
theorem wrap_u64_nat (n : Nat) : IntKind.u64.wrap (n : Int) = ((n % two64 : Nat) : Int) := by
  rw [IntKind.wrap_u64]
  unfold two64
  omega
theorem wrap_u64_lt {n : Nat} (h : n < two64) : IntKind.u64.wrap (n : Int) = (n : Int) := by rw [wrap_u64_nat, Nat.mod_eq_of_lt h]
theorem pow256_le {k : Nat} (h : k < 8) {x : Nat} (hx : x < 256) : 256 ^ k * x + 256 ^ k ≤ two64 := by
  rw [two64_pow]
  have h1 : 256 ^ k * (x + 1) ≤ 256 ^ k * 256 := Nat.mul_le_mul_left _ hx
  have h2 : 256 ^ (k + 1) ≤ 256 ^ 8 := Nat.pow_le_pow_right (by decide) h
  rw [Nat.pow_succ] at h2
  rw [Nat.mul_add, Nat.mul_one] at h1
  exact Nat.le_trans h1 h2
/-- the next byte is put above those that stand -/
theorem or64 (a k : Nat) (x : F) (ha : a < 256 ^ k) (hk : k < 8) : bits BinOp.or IntKind.u64 (a : Int) (IntKind.u64.wrap (IntKind.u64.wrap (x.n : Int) * 2 ^ (8 * k))) = ((a + 256 ^ k * x.n : Nat) : Int) := by
  have h1 := pow256_le hk x.lt
  have hx : x.n < two64 := Nat.lt_of_lt_of_le x.lt (by decide)
  have hp : 0 < 256 ^ k := Nat.pow_pos (by decide)
  have h2 : (x.n : Int) * 2 ^ (8 * k) = ((x.n * 2 ^ (8 * k) : Nat) : Int) := by simp
  have h3 : x.n * 2 ^ (8 * k) = 256 ^ k * x.n := by rw [← pow256, Nat.mul_comm]
  rw [wrap_u64_lt hx, h2, wrap_u64_lt (by rw [h3]; omega), bits_or_u64_nat _ _ (show a < two64 by omega) (show _ < two64 by rw [h3]; omega), or_byte _ _ _ ha]
theorem sum64 (a k : Nat) (x : F) (ha : a < 256 ^ k) (hk : k < 8) : IntKind.u64.wrap ((a : Int) + IntKind.u64.wrap (IntKind.u64.wrap (x.n : Int) * (256 ^ k % (two64 : Nat) : Int))) = ((a + 256 ^ k * x.n : Nat) : Int) := by
  have h1 := pow256_le hk x.lt
  have hx : x.n < two64 := Nat.lt_of_lt_of_le x.lt (by decide)
  have hp : 0 < 256 ^ k := Nat.pow_pos (by decide)
  have hpl : 256 ^ k < two64 := by rw [two64_pow]; exact Nat.pow_lt_pow_right (by decide) hk
  have h2 : (256 ^ k % (two64 : Nat) : Int) = ((256 ^ k : Nat) : Int) := by
    rw [show (256 ^ k % (two64 : Nat) : Int) = ((256 ^ k % two64 : Nat) : Int) by simp, Nat.mod_eq_of_lt hpl]
  have h3 : x.n * 256 ^ k = 256 ^ k * x.n := Nat.mul_comm _ _
  rw [wrap_u64_lt hx, h2, ← Int.natCast_mul, wrap_u64_lt (by omega), ← Int.natCast_add, wrap_u64_lt (by omega), h3]
theorem by64 (k : Nat) : IntKind.u64.wrap ((256 ^ k % (two64 : Nat) : Int) * 256) = ((256 ^ (k + 1) % two64 : Nat) : Int) := by
  rw [show (256 ^ k % (two64 : Nat) : Int) * 256 = ((256 ^ k % two64 * 256 : Nat) : Int) by simp, wrap_u64_nat, Nat.mul_mod, Nat.mod_mod, ← Nat.mul_mod, Nat.pow_succ]
theorem heldN_cast (s : Int) (m : Nat) : ((heldN s m : Nat) : Int) = min (max s 0) (m : Int) := by unfold heldN; omega
theorem held_c (s : Int) (w : World) : Calls Try.prog 46 #[.int .i64 s] w fun e w' => e = .returned (.int .i64 (heldN s 8)) ∧ w = w' := by
  go_enter Try.func46, Try.ntmps46
  go_wp2
  all_goals (go_ret; exact ⟨ret_i64 (by rw [heldN_cast]; omega), rfl⟩)
theorem ret_bool7 {a b : Bool} (h : a = b) : Ending.returned (.bool a) = .returned (.bool b) := by rw [h]
set_option maxHeartbeats 1000000 in
theorem Fits_c (v : Nat) (hv : v < two64) (s : Int) (w : World) : Calls Try.prog 16 #[.int .u64 v, .int .i64 s] w fun e w' => e = .returned (.bool (decide (v < 256 ^ heldN s 8))) ∧ w = w' := by
  have hk := heldN_le s 8
  have hheld := held_c s
  generalize heldN s 8 = k at *
  have HH := Lib.hid hheld
  clear hheld
  go_enter Try.func16, Try.ntmps16
  go_wp2_with (go_at_call 46; refine (HH.out _).mono ?_; rintro e w' ⟨rfl, rfl⟩)
  go_ret
  refine ⟨ret_bool7 ?_, rfl⟩
  have hp : 0 < 256 ^ k := Nat.pow_pos (by decide)
  have h2 : (v : Int) / 2 ^ (8 * k) = ((v / 256 ^ k : Nat) : Int) := by rw [pow256]; simp
  rw [h2, Bool.eq_iff_iff, beq_iff_eq, decide_eq_true_iff]
  rw [← Nat.div_eq_zero_iff_lt hp]
  omega
set_option maxHeartbeats 2000000 in
theorem Put_c (v : Nat) (hv : v < two64) (s : Int) (w : World) :
    Calls Try.prog 11 #[.int .u64 v, .int .i64 s] w fun e w' => ∃ g, e = .returned (.slice (some ⟨g, 0, none⟩) (heldN s 8) (heldN s 8)) ∧ w'.ownsRow w.heap.size 5 1 (.slice (some ⟨g, 0, none⟩) (heldN s 8) (heldN s 8)) (heldN s 8) (cs (putL v (heldN s 8))) ∧ Below w.heap.size w w' := by
  obtain ⟨i0, hi, hz0, hz1, hz2⟩ := info_parts info_u8
  have hm := heldN_le s 8
  have hheld := held_c s
  generalize heldN s 8 = m at *
  have HH := Lib.hid hheld
  clear hheld
  go_enter Try.func11, Try.ntmps11
  go_wp2_with (first
    | (go_at_call 46; refine (HH.out _).mono ?_; rintro e w' ⟨rfl, rfl⟩)
    | (at_make; refine wpList_make_full _ rfl _ _ 23 rfl w.heap.size 5 i0 (.int .u8 0) 1 Try.underlying23 hi hz0 hz1 _ _ _ _ m rfl rfl rfl rfl (by rw [hz2]; omega) (by unfold maxLen; omega) (Nat.le_refl _) ?_; intro w0 hown0 hgrow0))
  go_loopw [12] (fun i wr => ∃ k : Nat, k ≤ m ∧ i = .int .i64 k ∧ wr.ownsRow w.heap.size 5 1 (.slice (some ⟨w.heap.size, 0, none⟩) m m) m (cs (part (putL v m) k)) ∧ Below w.heap.size w wr) (fun i _ => m - (intOf i).toNat)
  case atStart => exact ⟨0, by omega, rfl, part_cells _ _ _ _ (putL_length _ _) hown0, (Below.refl _ _).grown hgrow0 (Nat.le_refl _) (fun k h => by cases h)⟩
  case round =>
    obtain ⟨k, hk, rfl, hown, hbel⟩ := hrel
    by_cases hlt : k < m
    · have hkn : (k : Int) < m := by omega
      have hval : Hid (gt (putL v m) k = ofN (v / 256 ^ k % 256)) := by unfold Hid; rw [gt_putL _ _ _ hlt]
      have hfz := hown.frozenAt k
      have hl2 : Hid ((part (putL v m) k).length = m) := by unfold Hid; rw [part_length, putL_length]
      have hc2 := hown.cellAt k (by omega)
      rw [cs_at (by rw [hl2.out]; exact hlt)] at hc2
      have hs := Lib.hid (hown.stored k (.int .u8 (ofN (v / 256 ^ k % 256)).n)).1
      have hbyte : Hid ((v : Int) / 2 ^ (8 * k) % 256 = ((ofN (v / 256 ^ k % 256)).n : Int)) := by
        unfold Hid
        rw [ofN_n _ (Nat.mod_lt _ (by decide)), pow256]
        simp
      clear hv
      go_wp2
      go_roundw
      case rel =>
        refine ⟨k + 1, by omega, by go_num, ?_, hbel.setCell (Nat.le_refl _) _⟩
        have hs := hs.out
        rw [cs_set, ← hval.out, part_set _ _ (by rw [putL_length]; exact hlt)] at hs
        rw [hbyte.out, ← hval.out]
        exact hs
      case measure => simp [intOf]; omega
    · have hk2 : Hid (part (putL v m) k = putL v m) := by
        unfold Hid
        rw [show k = (putL v m).length by rw [putL_length]; omega, part_all]
      go_wp2
      go_ret
      refine ⟨_, rfl, ?_, hbel⟩
      rw [hk2.out] at hown
      exact hown
set_option maxHeartbeats 2000000 in
theorem Get_c (A : Option Addr) (n c : Nat) (l : List F) (w : World) (h : Row w A n l) :
    Calls Try.prog 15 #[.slice A n c] w fun e w' => e = .returned (.int .u64 (getL (l.take 8))) ∧ w = w' := by
  have hnm := h.max
  have HL := Lib.hid h.len
  obtain ⟨m, hm⟩ : ∃ m, m = min n 8 := ⟨_, rfl⟩
  have hmi : (if (8 : Int) < n then 8 else (n : Int)) = (m : Int) := by split <;> omega
  have HM := Lib.hid hm
  have hm8 : m ≤ 8 := by omega
  have hmn : m ≤ n := by omega
  clear hm
  go_enter Try.func15, Try.ntmps15
  go_wp2
  go_loop [3, 8] (fun v i => ∃ k : Nat, k ≤ m ∧ i = .int .i64 k ∧ v = .int .u64 (getL (l.take k))) (fun _ i => m - (intOf i).toNat)
  case atStart => exact ⟨0, by omega, rfl, rfl⟩
  case round =>
    obtain ⟨k, hk, rfl, rfl⟩ := hrel
    by_cases hlt : k < m
    · have hkn : (k : Int) < m := by omega
      obtain ⟨b, o, rfl, _, hc⟩ := h.at_ (k := k) (by omega)
      have hk8 : k < 8 := by omega
      have hor := or64 (getL (l.take k)) k (gt l k) (by have := getL_lt (l.take k); rw [List.length_take, HL.out, show min k n = k by omega] at this; exact this) hk8
      rw [← getL_take_succ l k (by rw [HL.out]; omega)] at hor
      have HO := Lib.hid hor
      clear hor
      go_wp2
      go_round
      case rel => exact ⟨k + 1, by omega, by go_num, val_u64 HO.out⟩
      case measure => simp [intOf]; omega
    · have hfin : Hid (l.take k = l.take 8) := by
        unfold Hid
        have := HM.out
        have := HL.out
        rcases (show n ≤ 8 ∨ k = 8 by omega) with h8 | h8
        · rw [List.take_of_length_le (by omega), List.take_of_length_le (by omega)]
        · rw [h8]
      go_wp2
      go_ret
      exact ⟨ret_u64 (by rw [hfin.out]), rfl⟩
set_option maxHeartbeats 2000000 in
theorem RefGet_c (A : Option Addr) (n c : Nat) (l : List F) (w : World) (h : Row w A n l) :
    Calls Try.prog 12 #[.slice A n c] w fun e w' => e = .returned (.int .u64 (getL (l.take 8))) ∧ w = w' := by
  have hnm := h.max
  have HL := Lib.hid h.len
  go_enter Try.func12, Try.ntmps12
  go_wp2
  go_loop [3, 4, 5] (fun v by_ i => ∃ k : Nat, k ≤ n ∧ k ≤ 8 ∧ i = .int .i64 k ∧ v = .int .u64 (getL (l.take k)) ∧ by_ = .int .u64 ((256 ^ k % two64 : Nat) : Int)) (fun _ _ i => n - (intOf i).toNat)
  case atStart => exact ⟨0, by omega, by omega, rfl, rfl, rfl⟩
  case round =>
    obtain ⟨k, hk, hk8, rfl, rfl, rfl⟩ := hrel
    by_cases hlt : k < n
    · have hkn : (k : Int) < n := by omega
      obtain ⟨b, o, rfl, _, hc⟩ := h.at_ (k := k) (by omega)
      by_cases h8 : k < 8
      · have hk8i : (k : Int) < 8 := by omega
        have hsum := sum64 (getL (l.take k)) k (gt l k) (by have := getL_lt (l.take k); rw [List.length_take, HL.out, show min k n = k by omega] at this; exact this) h8
        rw [← getL_take_succ l k (by rw [HL.out]; omega)] at hsum
        have HS := Lib.hid hsum
        clear hsum
        go_wp2
        go_round
        case rel => exact ⟨k + 1, by omega, by omega, by go_num, val_u64 HS.out, val_u64 (by64 k)⟩
        case measure => simp [intOf]; omega
      · have hk8i : ¬ (k : Int) < 8 := by omega
        obtain rfl : k = 8 := by omega
        go_wp2
        go_ret
        exact ⟨rfl, rfl⟩
    · have hkn : ¬ (k : Int) < n := by omega
      have hfin : Hid (l.take k = l.take 8) := by
        unfold Hid
        have := HL.out
        rw [List.take_of_length_le (by omega), List.take_of_length_le (by omega)]
      go_wp2
      go_ret
      exact ⟨ret_u64 (by rw [hfin.out]), rfl⟩
set_option maxHeartbeats 2000000 in
theorem RefPut_c (v : Nat) (hv : v < two64) (s : Int) (w : World) :
    Calls Try.prog 13 #[.int .u64 v, .int .i64 s] w fun e w' => ∃ A c, e = .returned (.slice A (heldN s 8) c) ∧ w'.ownsRow w.heap.size 5 1 (.slice A (heldN s 8) c) (heldN s 8) (cs (putL v (heldN s 8))) ∧ Below w.heap.size w w' := by
  obtain ⟨i0, hi, hz0, hz1, hz2⟩ := info_parts info_u8
  go_enter Try.func13, Try.ntmps13
  go_wp2
  go_loopw [0, 5, 6] (fun u o i wr => ∃ (k c : Nat) (A : Option Addr), k ≤ heldN s 8 ∧ i = .int .i64 k ∧ u = .int .u64 ((v / 256 ^ k : Nat) : Int) ∧ o = .slice A k c ∧ wr.ownsRow w.heap.size 5 1 (.slice A k c) k (cs (putL v k)) ∧ Below w.heap.size w wr) (fun _ _ i _ => 8 - (intOf i).toNat)
  case atStart => exact ⟨0, 0, _, by omega, rfl, by simp, rfl, World.ownsRow_made w #[] 0 (Nat.le_refl _) (Nat.zero_le _) rfl, (Below.refl _ _).alloc (Nat.le_refl _) _⟩
  case round =>
    obtain ⟨k, c, A, hk, rfl, rfl, rfl, hown, hbel⟩ := hrel
    have hle := heldN_le s 8
    have hh := heldN_cast s 8
    by_cases hlt : k < heldN s 8
    · have hks : (k : Int) < s := by omega
      have hk8 : (k : Int) < 8 := by omega
      clear hh
      obtain ⟨x, hx⟩ : ∃ x : F, x = ofN (v / 256 ^ k % 256) := ⟨_, rfl⟩
      have hb : Hid (((v : Int) / 256 ^ k).tmod 256 % 256 = (x.n : Int)) := by
        unfold Hid
        rw [hx, ofN_n _ (Nat.mod_lt _ (by decide)), show (v : Int) / 256 ^ k = ((v / 256 ^ k : Nat) : Int) by simp, Int.tmod_eq_emod_of_nonneg (Int.natCast_nonneg _)]
        generalize v / 256 ^ k = q
        omega
      have HX := Lib.hid hx
      clear hx
      have hq : Hid (IntKind.u64.wrap (((v : Int) / 256 ^ k).tdiv 256) = ((v / 256 ^ (k + 1) : Nat) : Int)) := by
        unfold Hid
        have hlt2 : v / 256 ^ (k + 1) < two64 := Nat.lt_of_le_of_lt (Nat.div_le_self _ _) hv
        rw [← wrap_u64_lt hlt2]
        refine congrArg _ ?_
        rw [Nat.pow_succ, ← Nat.div_div_eq_div_mul, show (v : Int) / 256 ^ k = ((v / 256 ^ k : Nat) : Int) by simp, Int.tdiv_eq_ediv_of_nonneg (Int.natCast_nonneg _)]
        generalize v / 256 ^ k = q
        omega
      have hws := hbel.size
      clear hv
      go_wp2_with (at_builtin; (refine wpList_append_own _ rfl _ _ 23 rfl w.heap.size 5 i0 (.int .u8 0) 1 1 Try.underlying23 hi hz0 hz1 hz2 rfl (by decide) _ _ _ rfl (hown.alloc _) ⟨wr.heap.size, 0, none⟩ 1 1 [.int .u8 (((v : Int) / 256 ^ k).tmod 256 % 256)] rfl rfl (one_cell wr _ _) (by intro u hu; simp at hu; subst hu; rfl) (by unfold maxLen; omega) (by omega) (by simp; omega) ?_); intro v' w1 hown' hgrow hnil)
      obtain ⟨V', cv', hv, _⟩ := own_shape hown'
      subst hv
      go_wp2
      go_roundw
      case rel =>
        refine ⟨k + 1, cv', V', by omega, by go_num, val_u64 hq.out, rfl, ?_, (hbel.alloc hbel.size _).grown hgrow (by have := hbel.size; simp; omega) (fun g hg => (hown.lt g hg).1)⟩
        rw [hb.out] at hown'
        rw [putL_succ, cs_append, ← HX.out]
        exact hown'
      case measure => simp [intOf]; omega
    · obtain rfl : k = heldN s 8 := by omega
      by_cases hks : ((heldN s 8 : Nat) : Int) < s
      · have hk8 : ¬ ((heldN s 8 : Nat) : Int) < 8 := by omega
        clear hh
        go_wp2
        go_ret
        exact ⟨A, c, rfl, hown, hbel⟩
      · clear hh
        go_wp2
        go_ret
        exact ⟨A, c, rfl, hown, hbel⟩
end Go.Proofs.Ytekpmpgolpghiaa
