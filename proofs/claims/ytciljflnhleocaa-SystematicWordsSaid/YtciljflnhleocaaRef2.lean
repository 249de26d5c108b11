/-
  THE CONTRACTS OF THE DOCUMENT's OWN ANSWERS FOR LAYER 2: Copy, Same, Trim, at, Add, Eval. Rows of at most 2^30 bytes.
-/
import Derived.Test.YtciljflnhleocaaPoly7
import Derived.Laws.AppendOwnNone
namespace Go.Proofs.Ytciljflnhleocaa
open Go.RowKit
set_option maxRecDepth 100000
set_option linter.unusedVariables false

set_option maxHeartbeats 400000 in
theorem Copy_c (A : Option Addr) (n c : Nat) (l : List F) (w : World) (h : Row w A n l) (hn : n ≤ 140737488355328) :
    Calls Try.prog 26 #[.slice A n c] w fun e w' => ∃ A' c', e = .returned (.slice A' n c') ∧ w'.ownsRow w.heap.size 5 1 (.slice A' n c') n (cs l) ∧ Below w.heap.size w w' := by
  obtain ⟨i0, hi, hz0, hz1, hz2⟩ := info_parts info_u8
  cases A with
  | none =>
    obtain ⟨rfl, rfl⟩ := h.none_nil
    go_enter Try.func26, Try.ntmps26
    go_wp2
    go_ret
    exact ⟨_, 0, rfl, World.ownsRow_made w #[] 0 (Nat.le_refl _) (Nat.zero_le _) rfl, (Below.refl _ _).alloc (Nat.le_refl _) _⟩
  | some ad =>
    have hl := h.len
    have hm := h.max
    have HC := Lib.hid (h.alloc (.cells #[] 5)).cells
    have HL := Lib.hid hl
    clear hl
    go_enter Try.func26, Try.ntmps26
    go_wp2_with (at_builtin; refine wpList_append_own _ rfl _ _ 23 rfl w.heap.size 5 i0 (.int .u8 0) 1 1 Try.underlying23 hi hz0 hz1 hz2 rfl (by decide) _ _ _ rfl (World.ownsRow_made w #[] 0 (Nat.le_refl _) (Nat.zero_le _) rfl) ad n c (cs l) rfl (by rw [cs_length, HL.out, Nat.mul_one]) HC.out (cs_one l) (by unfold maxLen; omega) (by omega) (by simp) ?_; intro v' w1 hown hgrow hnil)
    obtain ⟨A', c', hv, _⟩ := own_shape hown
    rw [Nat.zero_add] at hv
    subst hv
    go_wp2
    go_ret
    refine ⟨A', c', rfl, by simpa using hown, ?_⟩
    exact ((Below.refl _ w).alloc (Nat.le_refl _) _).grown hgrow (by simp) (fun k hk => by cases hk; exact Nat.le_refl _)

set_option maxHeartbeats 400000 in
theorem Same_len (A B : Option Addr) (n m ca cb : Nat) (w : World) (h : n ≠ m) (hn : n ≤ 9223372036854775807) (hm : m ≤ 9223372036854775807) :
    Calls Try.prog 19 #[.slice A n ca, .slice B m cb] w fun e w' => e = .returned (.bool false) ∧ w = w' := by
  have h1 : ((n : Int) != (m : Int)) = true := by rw [bne_iff_ne]; omega
  clear h
  go_enter Try.func19, Try.ntmps19
  go_wp2
  go_ret
  exact ⟨rfl, rfl⟩
theorem take_succ_gt {l : List F} {k : Nat} (h : k < l.length) : l.take (k + 1) = l.take k ++ [gt l k] := by
  rw [gt_lt h, List.take_succ_eq_append_getElem h]
set_option maxHeartbeats 400000 in
/-- the same bytes: true -/
theorem Same_c (A B : Option Addr) (n ca cb : Nat) (a b : List F) (w : World) (ha : Row w A n a) (hb : Row w B n b) (he : a = b) :
    Calls Try.prog 19 #[.slice A n ca, .slice B n cb] w fun e w' => e = .returned (.bool true) ∧ ∃ q, w' = w.drewN q := by
  subst he
  have hm := ha.max
  go_enter Try.func19, Try.ntmps19
  go_wp2
  go_loopw [5] (fun i wr => ∃ k q : Nat, k ≤ n ∧ i = .int .i64 k ∧ wr = w.drewN q) (fun i _ => n - (intOf i).toNat)
  case atStart => exact ⟨0, 0, by omega, rfl, rfl⟩
  case round =>
    obtain ⟨k, q, hk, rfl, rfl⟩ := hrel
    by_cases hlt : k < n
    · obtain ⟨b1, o1, rfl, _, h1⟩ := ha.at_ hlt
      obtain ⟨b2, o2, rfl, _, h2⟩ := hb.at_ hlt
      have hkn : (k : Int) < n := by omega
      go_wp2
      go_quiet (fail)
      go_wp2
      go_roundw
      case rel => exact ⟨k + 1, _, by omega, by go_num, rfl⟩
      case measure => simp [intOf]; omega
    · go_wp2
      go_ret
      exact ⟨rfl, q, rfl⟩

set_option maxHeartbeats 400000 in
theorem RefTrim_c (A : Option Addr) (n c : Nat) (l : List F) (w : World) (h : RowIn w A n c l) (hn : n ≤ 140737488355328) :
    Calls Try.prog 88 #[.slice A n c] w fun e w' => ∃ A' c', e = .returned (.slice A' (tl l n) c') ∧ w'.ownsRow w.heap.size 5 1 (.slice A' (tl l n) c') (tl l n) (cs (tr l)) ∧ Below w.heap.size w w' := by
  have hm := h.row.max
  have hle := tl_le l n
  have hca := h.le
  have hcm := h.max
  unfold maxLen at hcm
  have htr : tr l = l.take (tl l n) := by unfold tr; rw [h.row.len]
  rw [htr]
  clear htr
  generalize ht : tl l n = t at *
  have HT := Lib.hid ht
  clear ht
  go_enter Try.func88, Try.ntmps88
  go_wp2
  go_loop [3] (fun i => ∃ k : Nat, k ≤ n ∧ i = .int .i64 k ∧ Hid (tl l k = t)) (fun i => (intOf i).toNat)
  case atStart => exact ⟨n, Nat.le_refl _, rfl, HT.out⟩
  case round =>
    obtain ⟨k, hk, rfl, ht⟩ := hrel
    have hrow := h.row
    by_cases hk0 : 1 ≤ k
    · by_cases hz : gt l (k - 1) = 0
      · obtain ⟨b, o, rfl, _, hc⟩ := hrow.at_ (k := k - 1) (by omega)
        have hb := n_beq (gt l (k - 1))
        rw [decide_eq_true hz] at hb
        have ht2 : Hid (tl l (k - 1) = t) := by
          have h1 := ht.out
          rw [show k = (k - 1) + 1 by omega, tl_down hz] at h1
          exact h1
        clear hz ht
        go_wp2
        go_round
        case rel => exact ⟨k - 1, by omega, by go_num, ht2⟩
        case measure => simp [intOf] <;> omega
      · obtain rfl : k = t := by
          have h1 := ht.out
          rw [show k = (k - 1) + 1 by omega, tl_here hz] at h1
          omega
        have hb := n_beq (gt l (k - 1))
        rw [decide_eq_false hz] at hb
        obtain ⟨b, o, rfl, _, hc⟩ := hrow.at_ (k := k - 1) (by omega)
        clear hz ht
        go_wp2_with (go_at_call 26; refine (Copy_c _ k c _ _ (hrow.take hle) (by omega)).mono ?_; rintro e w' ⟨A', c', rfl, hown, hbel⟩)
        go_ret
        exact ⟨A', c', rfl, hown, hbel⟩
    · obtain rfl : k = t := by
        have h1 := ht.out
        rw [show k = 0 by omega, tl_none] at h1
        omega
      clear ht
      go_wp2_with (go_at_call 26; refine (Copy_c A k c _ _ (hrow.take hle) (by omega)).mono ?_; rintro e w' ⟨A', c', rfl, hown, hbel⟩)
      go_ret
      exact ⟨A', c', rfl, hown, hbel⟩

set_option maxHeartbeats 400000 in
theorem at_c (A : Option Addr) (n c : Nat) (l : List F) (i : Int) (w : World) (h : Row w A n l) (h0 : 0 ≤ i) (hi : i ≤ 9223372036854775807) :
    Calls Try.prog 87 #[.slice A n c, .int .i64 i] w fun e w' => e = .returned (.int .u8 (gt l i.toNat).n) ∧ w = w' := by
  obtain ⟨k, rfl⟩ := Int.eq_ofNat_of_zero_le h0
  rw [Int.toNat_natCast]
  have hm := h.max
  by_cases hk : k < n
  · obtain ⟨b, o, rfl, _, hc⟩ := h.at_ hk
    have hkn : (k : Int) < n := by omega
    go_enter Try.func87, Try.ntmps87
    go_wp2
    go_ret
    exact ⟨rfl, rfl⟩
  · have hz : Hid ((0 : Int) = (gt l k).n) := by
      unfold Hid
      rw [gt_ge (by have := h.len; omega)]
      rfl
    go_enter Try.func87, Try.ntmps87
    go_wp2
    go_ret
    exact ⟨ret_u8 hz.out, rfl⟩
end Go.Proofs.Ytciljflnhleocaa
