/-
  LAW 07's WALK: LittleRows: it returns true, and writes nothing that was there. No conditions.
-/
import Derived.Test.YtekpmpgolpghiaaLaw07a
namespace Go.Proofs.Ytekpmpgolpghiaa
open Go.RowKit
set_option maxRecDepth 100000
set_option linter.unusedVariables false

/-- the first k numbers' bytes, one behind the other -/
def catP (ns ss : List Int) : Nat → List F
  | 0 => []
  | k + 1 => catP ns ss k ++ putL (gi ns k).toNat (heldN (gi ss k) 8)
/-- how many they are -/
def catN (ss : List Int) : Nat → Nat
  | 0 => 0
  | k + 1 => catN ss k + heldN (gi ss k) 8
theorem catP_length (ns ss : List Int) (k : Nat) : (catP ns ss k).length = catN ss k := by
  induction k with
  | zero => rfl
  | succ k ih => simp [catP, catN, ih, putL_length]
theorem catN_le (ss : List Int) (k : Nat) : catN ss k ≤ 8 * k := by
  induction k with
  | zero => exact Nat.le_refl _
  | succ k ih => have := heldN_le (gi ss k) 8; unfold catN; omega
theorem catN_mono (ss : List Int) {k n : Nat} (h : k ≤ n) : catN ss k ≤ catN ss n := by
  induction n with
  | zero => obtain rfl : k = 0 := by omega
            exact Nat.le_refl _
  | succ n ih =>
    rcases (show k ≤ n ∨ k = n + 1 by omega) with h1 | rfl
    · exact Nat.le_trans (ih h1) (Nat.le_add_right _ _)
    · exact Nat.le_refl _
theorem catP_at (ns ss : List Int) {k n : Nat} (h : k < n) : ((catP ns ss n).drop (catN ss k)).take (heldN (gi ss k) 8) = putL (gi ns k).toNat (heldN (gi ss k) 8) := by
  induction n with
  | zero => omega
  | succ n ih =>
    unfold catP
    have hl := catP_length ns ss n
    rcases (show k < n ∨ k = n by omega) with h1 | rfl
    · have hm := catN_mono ss (show k + 1 ≤ n by omega)
      have hm2 : catN ss k + heldN (gi ss k) 8 ≤ (catP ns ss n).length := by rw [hl]; exact hm
      rw [List.drop_append_of_le_length (by omega), List.take_append_of_le_length (by rw [List.length_drop]; omega)]
      exact ih h1
    · rw [List.drop_append_of_le_length (by omega), List.drop_of_length_le (by omega), List.nil_append, List.take_of_length_le (by rw [putL_length]; omega)]
theorem Held_c (x lo hi : Int) (w : World) : Calls Try.prog 18 #[.int .i64 x, .int .i64 lo, .int .i64 hi] w fun e w' => e = .returned (.int .i64 (if (if hi < x then hi else x) < lo then lo else (if hi < x then hi else x))) ∧ w = w' := by
  go_enter Try.func18, Try.ntmps18
  go_wp2
  all_goals (go_ret; exact ⟨ret_i64 (by omega), rfl⟩)
theorem Held8_c (x : Int) (w : World) : Calls Try.prog 18 #[.int .i64 x, .int .i64 0, .int .i64 8] w fun e w' => e = .returned (.int .i64 (heldN x 8)) ∧ w = w' := by
  refine (Held_c x 0 8 w).mono ?_
  rintro e w' ⟨rfl, rfl⟩
  exact ⟨ret_i64 (by rw [heldN_cast]; omega), rfl⟩
/-- a number's lowest bytes -/
theorem and64 (v k : Nat) (hv : v < two64) (hk : k < 8) : bits BinOp.and IntKind.u64 (v : Int) (IntKind.u64.wrap (IntKind.u64.wrap (2 ^ (8 * k)) - 1)) = ((v % 256 ^ k : Nat) : Int) := by
  have hpl : 256 ^ k < two64 := by rw [two64_pow]; exact Nat.pow_lt_pow_right (by decide) hk
  have hp : 0 < 256 ^ k := Nat.pow_pos (by decide)
  have e1 : (2 : Int) ^ (8 * k) = ((256 ^ k : Nat) : Int) := by rw [pow256]; simp
  rw [e1, wrap_u64_lt hpl, show ((256 ^ k : Nat) : Int) - 1 = ((256 ^ k - 1 : Nat) : Int) by omega, wrap_u64_lt (by omega), bits_and_u64_nat _ _ hv (show _ < two64 by omega), pow256, Nat.and_two_pow_sub_one_eq_mod]
set_option maxHeartbeats 2000000 in
theorem walk_LittleRows (w : World) (A : Option Addr) (n ca : Nat) (ns : List Int) (h : IRow w A n .u64 ns) (B : Option Addr) (m cb : Nat) (ss : List Int) (h' : IRow w B m .i64 ss) :
    Calls Try.prog 4 #[.slice A n ca, .slice B m cb] w fun e w' => e = .returned (.bool true) ∧ Below w.heap.size w w' := by
  obtain ⟨i0, hi, hz0, hz1, hz2⟩ := info_parts info_u8
  have hnm := h.max'
  have hmm := h'.max'
  by_cases hbad : (40 : Int) < n ∨ (m : Int) < n
  · by_cases h40 : (40 : Int) < n
    · go_enter Try.func4, Try.ntmps4
      go_wp2_with (go_at_call 10; refine (alive07_c _).mono ?_; rintro e w1 ⟨rfl, hb1⟩)
      go_ret
      exact ⟨rfl, hb1⟩
    · have h2 : (m : Int) < n := by omega
      clear hbad
      go_enter Try.func4, Try.ntmps4
      go_wp2_with (go_at_call 10; refine (alive07_c _).mono ?_; rintro e w1 ⟨rfl, hb1⟩)
      go_ret
      exact ⟨rfl, hb1⟩
  · have h40 : ¬ (40 : Int) < n := by omega
    have hmn : ¬ (m : Int) < n := by omega
    have d40 : decide ((40 : Int) < (n : Int)) = false := decide_eq_false h40
    have dmn : decide ((m : Int) < (n : Int)) = false := decide_eq_false hmn
    have dmn2 : decide (m < n) = false := decide_eq_false (by omega)
    have n40 : n ≤ 40 := by omega
    have nm : n ≤ m := by omega
    clear hbad h40 hmn
    go_enter Try.func4, Try.ntmps4
    go_wp2_with (go_at_call 10; refine (alive07_c _).mono ?_; rintro e w1 ⟨rfl, hb1⟩)
    replace h := h.below hb1
    replace h' := h'.below hb1
    go_loopw [5, 28] (fun vs i wr => ∃ (k c : Nat) (V : Option Addr), k ≤ n ∧ i = .int .i64 k ∧ vs = .slice V (catN ss k) c ∧ wr.ownsRow w1.heap.size 5 1 (.slice V (catN ss k) c) (catN ss k) (cs (catP ns ss k)) ∧ Below w1.heap.size w1 wr) (fun _ i _ => n - (intOf i).toNat)
    case atStart => exact ⟨0, 0, _, by omega, rfl, rfl, World.ownsRow_made w1 #[] 0 (Nat.le_refl _) (Nat.zero_le _) rfl, (Below.refl _ _).alloc (Nat.le_refl _) _⟩
    case round =>
      obtain ⟨k, c, V, hk, rfl, rfl, hown, hbel⟩ := hrel
      by_cases hlt : k < n
      · have hkn : (k : Int) < n := by omega
        have hkm : (k : Int) < m := by omega
        obtain ⟨b1, o1, rfl, l1, q1⟩ := (h.below hbel).at_ hlt
        obtain ⟨b2, o2, rfl, l2, q2⟩ := (h'.below hbel).at_ (i := k) (by omega)
        obtain ⟨v, hv, ev⟩ := num64_of (h.wf k hlt)
        rw [ev] at q1
        have hcat : Hid (catP ns ss (k + 1) = catP ns ss k ++ putL v (heldN (gi ss k) 8)) := by
          show catP ns ss k ++ putL (gi ns k).toNat (heldN (gi ss k) 8) = _
          rw [ev, Int.toNat_natCast]
        clear ev
        have hle := catN_le ss k
        have h8 := heldN_le (gi ss k) 8
        have hws := hbel.size
        go_wp2_with (first
          | (go_at_call 11; refine (Put_c v hv (gi ss k) _).mono ?_; rintro e w3 ⟨g3, rfl, hown3, hb3⟩; have hs3 := hb3.size)
          | (at_builtin; refine wpList_append_own _ rfl (.tmp 33) (.tmp 39) 23 rfl w1.heap.size 5 i0 (.int .u8 0) 1 1 Try.underlying23 hi hz0 hz1 hz2 rfl (by decide) (.slice V (catN ss k) c) (catN ss k) (cs (catP ns ss k)) rfl (own_below hown hb3) ⟨g3, 0, none⟩ (heldN (gi ss k) 8) (heldN (gi ss k) 8) (cs (putL v (heldN (gi ss k) 8))) rfl (by rw [cs_length, putL_length, Nat.mul_one]) ((own_in hown3).row.cells) (cs_one _) (by unfold maxLen; omega) (by omega) (by omega) ?_; intro v4 w4 hown4 hg4 hnil4))
        obtain ⟨V4, c4, rfl, _⟩ := own_shape hown4
        go_wp2
        go_roundw
        case rel =>
          refine ⟨k + 1, c4, V4, by omega, by go_num, rfl, ?_, (hbel.trans (hb3.mono hbel.size)).grown hg4 (by omega) (fun g hg => (hown.lt g hg).1)⟩
          rw [hcat.out, cs_append]
          exact hown4
        case measure => simp [intOf]; omega
      · obtain rfl : k = n := by omega
        generalize hwz : wr = wz at *
        clear hwz
        have hin := own_in hown
        have hlen := catN_le ss k
        have hbw := hb1.trans (hbel.mono hb1.size)
        have hi2 := h.below hbel
        have hj2 := h'.below hbel
        clear h h' hb1 hbel
        go_wp2_with (go_at_call 17; refine (Read_c V _ c _ _ hin.row (by omega)).mono ?_; rintro e w3 ⟨p, A3, c3, rfl, hR3, hp3, hb3⟩)
        go_loopw [46] (fun i w4 => ∃ j : Nat, j ≤ k ∧ i = .int .i64 j ∧ Rdr w4 p A3 (catN ss k) c3 (catP ns ss k) (catN ss j) false ∧ Below wz.heap.size wz w4) (fun i _ => k - (intOf i).toNat)
        case atStart => exact ⟨0, by omega, rfl, hR3, hb3⟩
        case round =>
          obtain ⟨j, hj, rfl, hR, hB⟩ := hrel
          by_cases hlt2 : j < k
          · have hjk : (j : Int) < k := by omega
            have hjm : (j : Int) < m := by omega
            obtain ⟨b1, o1, rfl, l1, q1⟩ := (hi2.below hB).at_ hlt2
            obtain ⟨b2, o2, rfl, l2, q2⟩ := (hj2.below hB).at_ (i := j) (by omega)
            obtain ⟨v, hv, ev⟩ := num64_of (hi2.wf j hlt2)
            rw [ev] at q1
            have hat := catP_at ns ss hlt2
            rw [ev, Int.toNat_natCast] at hat
            have HAT := Lib.hid hat
            have hmono := catN_mono ss (show j + 1 ≤ k by omega)
            have hnum := Num_ok hR (gi ss j) hmono
            rw [hat, getL_putL] at hnum
            have HNUM := Lib.hid hnum
            have h8 := heldN_le (gi ss j) 8
            clear hat hnum ev
            by_cases hh : heldN (gi ss j) 8 < 8
            · have hhi : ((heldN (gi ss j) 8 : Nat) : Int) < 8 := by omega
              have hand := and64 v (heldN (gi ss j) 8) hv hh
              have hbne : ((v : Int) % 256 ^ heldN (gi ss j) 8 != bits BinOp.and IntKind.u64 (v : Int) (IntKind.u64.wrap (IntKind.u64.wrap (2 ^ (8 * heldN (gi ss j) 8)) - 1))) = false := by
                rw [hand, bne_eq_false_iff_eq]
                simp
              clear hand
              go_wp2_with (first
                | (go_at_call 18; refine (Held8_c _ _).mono ?_; rintro e _ ⟨rfl, rfl⟩)
                | (go_at_call 19; refine HNUM.out.mono ?_; rintro e w5 ⟨rfl, hR5, hO5⟩))
              go_roundw
              case rel => exact ⟨j + 1, by omega, by go_num, hR5, hB.trans (hO5.lowAt hp3 hR.lt)⟩
              case measure => simp [intOf]; omega
            · obtain h88 : heldN (gi ss j) 8 = 8 := by omega
              have hmod : Hid (v % 256 ^ heldN (gi ss j) 8 = v) := by unfold Hid; rw [h88, ← two64_pow, Nat.mod_eq_of_lt hv]
              have hhi : ¬ ((heldN (gi ss j) 8 : Nat) : Int) < 8 := by omega
              have H88 := Lib.hid h88
              clear h88
              go_wp2_with (first
                | (go_at_call 18; refine (Held8_c _ _).mono ?_; rintro e _ ⟨rfl, rfl⟩)
                | (go_at_call 19; refine HNUM.out.mono ?_; rw [hmod.out]; rintro e w5 ⟨rfl, hR5, hO5⟩))
              go_roundw
              case rel => exact ⟨j + 1, by omega, by go_num, hR5, hB.trans (hO5.lowAt hp3 hR.lt)⟩
              case measure => simp [intOf]; omega
          · obtain rfl : j = k := by omega
            have hin4 := hin.below hB
            have nV : ∀ p6, wr.heap.size ≤ p6 → ∀ b o, V = some ⟨b, o, none⟩ → b ≠ p6 := fun p6 hp6 b o e => by
              have h1 := hB.size
              rcases hown.2 with ⟨hv, _⟩ | ⟨g, cap, cur, hv, hg, hgg, _⟩
              · injection hv with hv; rw [hv] at e; cases e
              · injection hv with hv; rw [hv] at e; injection e with e; injection e with e
                have := (Array.getElem?_eq_some_iff.1 hgg).1
                omega
            go_wp2_with (first
              | (go_at_call 20; refine (Left_c hR).mono ?_; rintro e _ ⟨rfl, q, rfl⟩; have hR5 := hR.drewN q; have hin5 := hin4.drewN q)
              | (go_at_call 21; refine (At_c hR5).mono ?_; rintro e _ ⟨rfl, rfl⟩)
              | (go_at_call 22; refine (Short_c hR5).mono ?_; rintro e _ ⟨rfl, rfl⟩)
              | (go_at_call 17; refine (Read_c V _ c _ _ hin5.row (by omega)).mono ?_; rintro e w6 ⟨p6, A6, c6, rfl, hR6, hp6, hb6⟩; have hin6 := hin5.below hb6)
              | (go_at_call 23; refine (Rest_ok hR6 (by omega)).mono ?_; rintro e w7 ⟨A7, c7, rfl, hown7, hR7, hO7⟩; rw [Nat.sub_zero] at hown7; have hin7 := hin6.outOf hO7 (nV p6 hp6))
              | (go_at_call 14; refine (Same_c _ _ _ _ _ _ _ _ (own_in hown7).row hin7.row rfl).mono ?_; rintro e w4 ⟨rfl, q7, rfl⟩))
            go_ret
            have hbA := hbw.trans (hB.mono hbw.size)
            have hbB := (below_drewN hbA q).trans (hb6.mono hbA.size)
            exact ⟨rfl, below_drewN (hbB.trans (hO7.lowAt (Nat.le_trans hbA.size hp6) hR6.lt)) q7⟩
end Go.Proofs.Ytekpmpgolpghiaa
