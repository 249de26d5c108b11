/-
  LAW 07's WALK: LittleNumbers: it returns true, and writes nothing that was there. No conditions.
-/
import Derived.Test.YtekpmpgolpghiaaLaw07
import Derived.Test.YtekpmpgolpghiaaNum
namespace Go.Proofs.Ytekpmpgolpghiaa
open Go.RowKit
set_option maxRecDepth 100000
set_option linter.unusedVariables false

/-- a number is what its bytes are, where it has no more -/
theorem fits7 (v : Nat) (hv : v < two64) (k : Nat) : decide (getL (putL v k) = v) = decide (v < 256 ^ k) := by
  rw [getL_putL, decide_eq_decide]
  constructor
  · intro h
    rw [← h]
    exact Nat.mod_lt _ (Nat.pow_pos (by decide))
  · exact Nat.mod_eq_of_lt
theorem n_beq64 (a b : Nat) : ((a : Int) == (b : Int)) = decide (a = b) := by
  rw [Bool.eq_iff_iff, beq_iff_eq, decide_eq_true_iff]
  omega
set_option maxHeartbeats 1000000 in
theorem walk_LittleNumbers (w : World) (v : Nat) (hv : v < two64) (s : Int) (hs : (Lit.int .i64 s).wf = true) (A : Option Addr) (n cap : Nat) (l : List F) (h : RowIn w A n cap l) :
    Calls Try.prog 3 #[.int .u64 v, .int .i64 s, .slice A n cap] w fun e w' => e = .returned (.bool true) ∧ Below w.heap.size w w' := by
  have hnm := h.row.max
  by_cases hn : (100 : Int) < n
  · go_enter Try.func3, Try.ntmps3
    go_wp2_with (go_at_call 10; refine (alive07_c _).mono ?_; rintro e w1 ⟨rfl, hb1⟩)
    go_ret
    exact ⟨rfl, hb1⟩
  · have hlen : ∀ k, ((putL v k).take 8).length ≤ 8 := fun k => by simp; omega
    have hk8 := heldN_le s 8
    have htk : Hid ((putL v (heldN s 8)).take 8 = putL v (heldN s 8)) := List.take_of_length_le (by rw [putL_length]; omega)
    have hfit := fits7 v hv (heldN s 8)
    have hbe := n_beq64 (getL (putL v (heldN s 8))) v
    rw [hfit] at hbe
    by_cases hs8 : (8 : Int) ≤ s
    · have hk : Hid (decide (v < 256 ^ heldN s 8) = true) := by
        unfold Hid
        rw [show heldN s 8 = 8 by unfold heldN; omega, decide_eq_true_iff, ← two64_pow]
        exact hv
      rw [hk.out] at hbe
      clear hfit hk8
      go_enter Try.func3, Try.ntmps3
      go_wp2_with (first
        | (go_at_call 10; refine (alive07_c _).mono ?_; rintro e w1 ⟨rfl, hb1⟩; have h1 := h.below hb1)
        | (go_at_call 11; refine (Put_c v hv s _).mono ?_; rintro e w2 ⟨g, rfl, hown2, hb2⟩; have h2 := h1.below hb2)
        | (go_at_call 13; refine (RefPut_c v hv s _).mono ?_; rintro e w3 ⟨A3, c3, rfl, hown3, hb3⟩; have h3 := h2.below hb3; have hr2 := (own_in hown2).row.below hb3)
        | (go_at_call 14; refine (Same_c _ _ _ _ _ _ _ _ hr2 (own_in hown3).row rfl).mono ?_; rintro e w4 ⟨rfl, q, rfl⟩)
        | (go_at_call 15; with_reducible refine (Get_c A n cap l _ (h3.row.drewN q)).mono ?_; rintro e _ ⟨rfl, rfl⟩)
        | (go_at_call 12; with_reducible refine (RefGet_c A n cap l _ (h3.row.drewN q)).mono ?_; rintro e _ ⟨rfl, rfl⟩)
        | (go_at_call 16; refine (Fits_c v hv s _).mono ?_; rw [hk.out]; rintro e _ ⟨rfl, rfl⟩)
        | (go_at_call 15; refine (Get_c _ _ _ _ _ (hr2.drewN q)).mono ?_; rw [htk.out]; rintro e _ ⟨rfl, rfl⟩))
      go_ret
      have hb12 := hb1.trans (hb2.mono hb1.size)
      exact ⟨rfl, below_drewN (hb12.trans (hb3.mono hb12.size)) q⟩
    · have hks : Hid (decide (v < 256 ^ heldN s 8) = decide (v < 256 ^ heldN s 8)) := rfl
      obtain ⟨b, hb⟩ : ∃ b, b = decide (v < 256 ^ heldN s 8) := ⟨_, rfl⟩
      rw [← hb] at hbe
      have HB := Lib.hid hb
      clear hb hfit
      go_enter Try.func3, Try.ntmps3
      go_wp2_with (first
        | (go_at_call 10; refine (alive07_c _).mono ?_; rintro e w1 ⟨rfl, hb1⟩; have h1 := h.below hb1)
        | (go_at_call 11; refine (Put_c v hv s _).mono ?_; rintro e w2 ⟨g, rfl, hown2, hb2⟩; have h2 := h1.below hb2)
        | (go_at_call 13; with_reducible refine (RefPut_c v hv s w2).mono ?_; rintro e w3 ⟨A3, c3, rfl, hown3, hb3⟩; have hr3 := (own_in hown3).row; have h3 := h2.below hb3; have hr2 := (own_in hown2).row.below hb3)
        | (go_at_call 12; with_reducible refine (RefGet_c _ _ _ _ _ hr3).mono ?_; rw [htk.out]; rintro e _ ⟨rfl, rfl⟩)
        | (go_at_call 13; refine (RefPut_c v hv s w3).mono ?_; rintro e w5 ⟨A5, c5, rfl, hown5, hb5⟩; have hr5 := hr2.below hb5; have h5 := h3.below hb5)
        | (go_at_call 14; refine (Same_c _ _ _ _ _ _ _ _ hr5 (own_in hown5).row rfl).mono ?_; rintro e w4 ⟨rfl, q, rfl⟩)
        | (go_at_call 15; with_reducible refine (Get_c A n cap l _ (h5.row.drewN q)).mono ?_; rintro e _ ⟨rfl, rfl⟩)
        | (go_at_call 12; with_reducible refine (RefGet_c A n cap l _ (h5.row.drewN q)).mono ?_; rintro e _ ⟨rfl, rfl⟩)
        | (go_at_call 16; refine (Fits_c v hv s _).mono ?_; rw [← HB.out]; rintro e _ ⟨rfl, rfl⟩)
        | (go_at_call 15; refine (Get_c _ _ _ _ _ (hr5.drewN q)).mono ?_; rw [htk.out]; rintro e _ ⟨rfl, rfl⟩))
      go_ret
      have hb12 := hb1.trans (hb2.mono hb1.size)
      have hb13 := hb12.trans (hb3.mono hb12.size)
      exact ⟨ret_bool7 (by rw [decide_eq_false (show ¬ (8 : Int) ≤ s by omega)]; cases b <;> rfl), below_drewN (hb13.trans (hb5.mono hb13.size)) q⟩
end Go.Proofs.Ytekpmpgolpghiaa
