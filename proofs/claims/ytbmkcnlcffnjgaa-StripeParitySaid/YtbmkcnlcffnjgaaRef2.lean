/-
  THE CONTRACTS OF THE DOCUMENT's OWN ANSWERS FOR LAYER 2: Copy, Same, Trim, at, Add, Eval. Rows of at most 2^30 bytes.
-/
import Derived.Test.YtbmkcnlcffnjgaaPoly7
import Derived.Laws.AppendOwnNone
namespace Go.Proofs.Ytbmkcnlcffnjgaa
open Go.RowKit
set_option maxRecDepth 100000
set_option linter.unusedVariables false

set_option maxHeartbeats 400000 in
theorem RefTrim_c (A : Option Addr) (n c : Nat) (l : List F) (w : World) (h : RowIn w A n c l) (hn : n ≤ 140737488355328) :
    Calls Try.prog 70 #[.slice A n c] w fun e w' => ∃ A' c', e = .returned (.slice A' (tl l n) c') ∧ w'.ownsRow w.heap.size 5 1 (.slice A' (tl l n) c') (tl l n) (cs (tr l)) ∧ Below w.heap.size w w' := by
  have hm := h.row.max
  have hle := tl_le l n
  have hca := h.le
  have hcm := h.max
  unfold maxLen at hcm
  have htr : tr l = l.take (tl l n) := by unfold tr; rw [h.row.len]
  rw [htr]
  clear htr
  generalize ht : tl l n = t at *
  have HT := Lib.hid ht
  clear ht
  go_enter Try.func70, Try.ntmps70
  go_wp2
  go_loop [3] (fun i => ∃ k : Nat, k ≤ n ∧ i = .int .i64 k ∧ Hid (tl l k = t)) (fun i => (intOf i).toNat)
  case atStart => exact ⟨n, Nat.le_refl _, rfl, HT.out⟩
  case round =>
    obtain ⟨k, hk, rfl, ht⟩ := hrel
    have hrow := h.row
    by_cases hk0 : 1 ≤ k
    · by_cases hz : gt l (k - 1) = 0
      · obtain ⟨b, o, rfl, _, hc⟩ := hrow.at_ (k := k - 1) (by omega)
        have hb := n_beq (gt l (k - 1))
        rw [decide_eq_true hz] at hb
        have ht2 : Hid (tl l (k - 1) = t) := by
          have h1 := ht.out
          rw [show k = (k - 1) + 1 by omega, tl_down hz] at h1
          exact h1
        clear hz ht
        go_wp2
        go_round
        case rel => exact ⟨k - 1, by omega, by go_num, ht2⟩
        case measure => simp [intOf] <;> omega
      · obtain rfl : k = t := by
          have h1 := ht.out
          rw [show k = (k - 1) + 1 by omega, tl_here hz] at h1
          omega
        have hb := n_beq (gt l (k - 1))
        rw [decide_eq_false hz] at hb
        obtain ⟨b, o, rfl, _, hc⟩ := hrow.at_ (k := k - 1) (by omega)
        clear hz ht
        go_wp2_with (go_at_call 72; refine (Copy_c _ k c _ _ (hrow.take hle) (by omega)).mono ?_; rintro e w' ⟨A', c', rfl, hown, hbel⟩)
        go_ret
        exact ⟨A', c', rfl, hown, hbel⟩
    · obtain rfl : k = t := by
        have h1 := ht.out
        rw [show k = 0 by omega, tl_none] at h1
        omega
      clear ht
      go_wp2_with (go_at_call 72; refine (Copy_c A k c _ _ (hrow.take hle) (by omega)).mono ?_; rintro e w' ⟨A', c', rfl, hown, hbel⟩)
      go_ret
      exact ⟨A', c', rfl, hown, hbel⟩

set_option maxHeartbeats 400000 in
theorem at_c (A : Option Addr) (n c : Nat) (l : List F) (i : Int) (w : World) (h : Row w A n l) (h0 : 0 ≤ i) (hi : i ≤ 9223372036854775807) :
    Calls Try.prog 69 #[.slice A n c, .int .i64 i] w fun e w' => e = .returned (.int .u8 (gt l i.toNat).n) ∧ w = w' := by
  obtain ⟨k, rfl⟩ := Int.eq_ofNat_of_zero_le h0
  rw [Int.toNat_natCast]
  have hm := h.max
  by_cases hk : k < n
  · obtain ⟨b, o, rfl, _, hc⟩ := h.at_ hk
    have hkn : (k : Int) < n := by omega
    go_enter Try.func69, Try.ntmps69
    go_wp2
    go_ret
    exact ⟨rfl, rfl⟩
  · have hz : Hid ((0 : Int) = (gt l k).n) := by
      unfold Hid
      rw [gt_ge (by have := h.len; omega)]
      rfl
    go_enter Try.func69, Try.ntmps69
    go_wp2
    go_ret
    exact ⟨ret_u8 hz.out, rfl⟩
end Go.Proofs.Ytbmkcnlcffnjgaa
