/-
  THE CONTRACTS OF PACKAGE systematic: fits, values, first. Words of at most 255 bytes.
-/
import Derived.Test.YtbmkcnlcffnjgaaCode
namespace Go.Proofs.Ytbmkcnlcffnjgaa
open Go.RowKit
set_option maxRecDepth 100000
set_option linter.unusedVariables false

theorem fits_yes (A : Option Addr) (len c n : Nat) (w : World) (h1 : 1 ≤ n) (h2 : n ≤ len) (h3 : len ≤ 255) :
    Calls Try.prog 36 #[.slice A len c, .int .i64 n] w fun e w' => e = .returned (.bool true) ∧ w = w' := by
  have e1 : (1 : Int) ≤ n := by omega
  have e2 : (n : Int) ≤ len := by omega
  have e3 : (len : Int) ≤ 255 := by omega
  go_enter Try.func36, Try.ntmps36
  go_wp2
  go_ret
  exact ⟨rfl, rfl⟩
theorem fits_no (A : Option Addr) (len c : Nat) (n : Int) (w : World) (h : ¬ (1 ≤ n ∧ n ≤ len ∧ len ≤ 255)) :
    Calls Try.prog 36 #[.slice A len c, .int .i64 n] w fun e w' => e = .returned (.bool false) ∧ w = w' := by
  by_cases h1 : 1 ≤ n
  · by_cases h2 : n ≤ (len : Int)
    · have h3 : ¬ (len : Int) ≤ 255 := by omega
      clear h
      go_enter Try.func36, Try.ntmps36
      go_wp2
      go_ret
      exact ⟨rfl, rfl⟩
    · clear h
      go_enter Try.func36, Try.ntmps36
      go_wp2
      go_ret
      exact ⟨rfl, rfl⟩
  · clear h
    go_enter Try.func36, Try.ntmps36
    go_wp2
    go_ret
    exact ⟨rfl, rfl⟩
theorem plI_lt {i : Nat} (h : i < 256) : (plI i).n = i := by rw [plI_n]; omega
theorem Eval_at (A : Option Addr) (n c : Nat) (l : List F) (j : Nat) (hj : j < 256) (w : World) (h : Row w A n l) :
    Calls Try.prog 48 #[.slice A n c, .int .u8 j] w fun e w' => e = .returned (.int .u8 (ev l (plI j)).n) ∧ ∃ q, w' = w.drewN q := by
  have h1 := Eval_c A n c l (plI j) w h
  rw [plI_lt hj] at h1
  exact h1
set_option maxHeartbeats 1000000 in
theorem values_c (A : Option Addr) (t c f m : Nat) (T : List F) (w : World) (h : Row w A t T) (hf : f + m ≤ 256) :
    Calls Try.prog 37 #[.slice A t c, .int .i64 f, .int .i64 m] w fun e w' => ∃ g, e = .returned (.slice (some ⟨g, 0, none⟩) m m) ∧ w'.ownsRow w.heap.size 5 1 (.slice (some ⟨g, 0, none⟩) m m) m (cs (vals T f m)) ∧ Below w.heap.size w w' := by
  obtain ⟨i0, hi, hz0, hz1, hz2⟩ := info_parts info_u8
  go_enter Try.func37, Try.ntmps37
  go_wp2_with (at_make; refine wpList_make_full _ rfl _ _ 22 rfl w.heap.size 5 i0 (.int .u8 0) 1 Try.underlying22 hi hz0 hz1 _ _ _ _ m rfl rfl rfl rfl (by rw [hz2]; omega) (by unfold maxLen; omega) (Nat.le_refl _) ?_; intro w0 hown0 hgrow0)
  go_wp2
  go_loopw [13] (fun i wr => ∃ k : Nat, k ≤ m ∧ i = .int .i64 k ∧ wr.ownsRow w.heap.size 5 1 (.slice (some ⟨w.heap.size, 0, none⟩) m m) m (cs (part (vals T f m) k)) ∧ Below w.heap.size w wr) (fun i _ => m - (intOf i).toNat)
  case atStart => exact ⟨0, by omega, rfl, part_cells _ _ _ _ (vals_length _ _ _) hown0, (Below.refl _ _).grown hgrow0 (Nat.le_refl _) (fun k h => by cases h)⟩
  case round =>
    obtain ⟨k, hk, rfl, hown, hbel⟩ := hrel
    by_cases hlt : k < m
    · have hkn : (k : Int) < m := by omega
      obtain ⟨j, hj⟩ : ∃ j, j = f + k := ⟨_, rfl⟩
      have hfk : (f : Int) + (k : Int) = (j : Int) := by omega
      have hj2 : (j : Int) ≤ 255 := by omega
      have hval : Hid (ev T (plI j) = gt (vals T f m) k) := by unfold Hid; rw [gt_vals, if_pos hlt, hj]
      have hrow := h.below hbel
      clear hj
      go_wp2_with fail
      refine (Eval_at A t c T j (by omega) wr hrow).mono ?_
      rintro e _ ⟨rfl, q, rfl⟩
      have hown2 : (wr.drewN q).ownsRow w.heap.size 5 1 (.slice (some ⟨w.heap.size, 0, none⟩) m m) m (cs (part (vals T f m) k)) := hown
      have hbel2 := below_drewN hbel q
      clear hown hbel hrow hgrow0 hown0
      generalize wr.drewN q = w2 at *
      have hfz := hown2.frozenAt k
      have hl2 : Hid ((part (vals T f m) k).length = m) := by unfold Hid; rw [part_length, vals_length]
      have hc2 := hown2.cellAt k (by omega)
      rw [cs_at (by rw [hl2.out]; exact hlt)] at hc2
      go_wp2
      go_roundw
      case rel =>
        refine ⟨k + 1, by omega, by go_num, ?_, hbel2.setCell (Nat.le_refl _) _⟩
        have hs := (hown2.stored k (.int .u8 (ev T (plI j)).n)).1
        have e := hval.out
        rw [cs_set, e, part_set _ _ (by rw [vals_length]; exact hlt)] at hs
        rw [e]
        exact hs
      case measure => simp [intOf]; omega
    · have hk2 : Hid (part (vals T f m) k = vals T f m) := by
        unfold Hid
        rw [show k = (vals T f m).length by rw [vals_length]; omega, part_all]
      go_wp2
      go_ret
      refine ⟨_, rfl, ?_, hbel⟩
      rw [hk2.out] at hown
      exact hown
set_option maxHeartbeats 2000000 in
theorem first_c (A : Option Addr) (len c n : Nat) (l : List F) (w : World) (h : RowIn w A len c l) (h2 : n ≤ len) (h3 : n ≤ 255) :
    Calls Try.prog 38 #[.slice A len c, .int .i64 n] w fun e w' => ∃ A' t c' T, e = .returned (.slice A' t c') ∧ RowIn w' A' t c' T ∧ Tells n (l.take n) T ∧ Below w.heap.size w w' := by
  obtain ⟨i0, hi, hz0, hz1, hz2⟩ := info_parts info_u8
  have hcm := h.max
  have hle := h.le
  unfold maxLen at hcm
  go_enter Try.func38, Try.ntmps38
  go_wp2_with (at_make; refine wpList_make_full _ rfl _ _ 22 rfl w.heap.size 5 i0 (.int .u8 0) 1 Try.underlying22 hi hz0 hz1 _ _ _ _ n rfl rfl rfl rfl (by rw [hz2]; omega) (by unfold maxLen; omega) (Nat.le_refl _) ?_; intro w0 hown0 hgrow0)
  go_wp2
  go_loopw [13] (fun i wr => ∃ k : Nat, k ≤ n ∧ i = .int .i64 k ∧ wr.ownsRow w.heap.size 5 1 (.slice (some ⟨w.heap.size, 0, none⟩) n n) n (cs (part (mkF plI n) k)) ∧ Below w.heap.size w wr) (fun i _ => n - (intOf i).toNat)
  case atStart => exact ⟨0, by omega, rfl, part_cells _ _ _ _ (mkF_length _ _) hown0, (Below.refl _ _).grown hgrow0 (Nat.le_refl _) (fun k h => by cases h)⟩
  case round =>
    obtain ⟨k, hk, rfl, hown, hbel⟩ := hrel
    by_cases hlt : k < n
    · have hkn : (k : Int) < n := by omega
      have hfz := hown.frozenAt k
      have hl2 : Hid ((part (mkF plI n) k).length = n) := by unfold Hid; rw [part_length, mkF_length]
      have hc2 := hown.cellAt k (by omega)
      rw [cs_at (by rw [hl2.out]; exact hlt)] at hc2
      go_wp2
      go_roundw
      case rel =>
        refine ⟨k + 1, by omega, by go_num, ?_, hbel.setCell (Nat.le_refl _) _⟩
        have hs := (hown.stored k (.int .u8 (plI k).n)).1
        have e : plI k = gt (mkF plI n) k := by rw [gt_mkF, if_pos hlt]
        rw [cs_set, e, part_set _ _ (by rw [mkF_length]; exact hlt), ← e, plI_lt (by omega)] at hs
        exact hs
      case measure => simp [intOf]; omega
    · have hk2 : Hid (part (mkF plI n) k = mkF plI n) := by
        unfold Hid
        rw [show k = (mkF plI n).length by rw [mkF_length]; omega, part_all]
      have hnc : (n : Int) ≤ c := by omega
      rw [hk2.out] at hown
      have hrX := Row.of_own hown
      have hrY : Row wr A n (l.take n) := (h.row.below hbel).take h2
      have HND := Lib.hid (plI_nodup n (by omega))
      clear hown hown0 hgrow0
      go_wp2_with fail
      refine (Through_ok _ _ n n c _ _ wr hrX hrY HND.out (by omega)).mono ?_
      rintro e w2 ⟨A2, t2, c2, T, rfl, hT, hth, hb2⟩
      have hB := hbel.trans (hb2.mono hbel.size)
      clear hrX hrY hbel hb2
      go_wp2
      go_ret
      exact ⟨A2, t2, c2, T, rfl, hT, hth, hB⟩
end Go.Proofs.Ytbmkcnlcffnjgaa
