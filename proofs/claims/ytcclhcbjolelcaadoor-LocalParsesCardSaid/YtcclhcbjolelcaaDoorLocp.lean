/-
  LOCAL HEADERS: the document's Parse (WRITTEN by wip/gen18p.py). No conditions (but for how many bytes there are).
-/
import Derived.Test.YtcclhcbjolelcaaDoorLoco
namespace Go.Proofs.YtcclhcbjolelcaaDoor
open Go.RowKit
set_option maxRecDepth 100000
set_option linter.unusedVariables false
set_option linter.unusedSimpArgs false

set_option maxHeartbeats 2000000 in
/-- what has too few bytes, or others at its beginning -/
theorem RParse_no (A : Option Addr) (n c : Nat) (l : List F) (w : World) (h : RowIn w A n c l) (hn : n ≤ 1000000) (h1 : (lnV l).2 ≠ 0) :
    Calls Tryd.prog 15 #[.slice A n c] w fun e w' => e = .returned (.tuple #[hdV (prV l).1, .int .i64 ((prV l).2.1 : Nat), .int .i64 (prV l).2.2]) ∧ Below w.heap.size w w' := by
  obtain ⟨P, hP⟩ : ∃ P, P = prV l := ⟨_, rfl⟩
  rw [← hP]
  have hPV : P = (hd0, 0, (lnV l).2) := by
    rw [hP]
    unfold prV
    rw [if_pos h1]
  have H := Lib.hid h
  have hle := h.le
  have hlen : l.length = n := h.row.len
  have HZ := Lib.hid (Blk.new w 35 z11)
  have HBL := Lib.hid ((Below.refl w.heap.size w).alloc (Nat.le_refl _) (.cells z11 35))
  have HA := Lib.hid (H.out.below ((Below.refl _ _).alloc (Nat.le_refl _) (.cells z11 35)))
  clear h hP
  by_cases h4 : n < 4
  · have i4 : (n : Int) < 4 := by omega
    have hv : P = (hd0, 0, 44) := by rw [hPV]; unfold lnV; rw [if_pos (.inl (by omega))]
    clear hPV h1
    go_enter Tryd.func15, Tryd.ntmps15
    have t2 := st_hdR HZ.out rfl z11 rfl (by simp [z11, Value.oneCell'])
    have t3 := ld_hdR (HZ.out.setRow z11) rfl
    have HB9 := Lib.hid (below_setRowS HBL.out (Nat.le_refl _) z11)
    go_wp2_with (with_reducible refine wpList_store_var _ _ _ (by with_unfolding_all rfl) (by with_unfolding_all rfl) t2 ?_)
    refine bodyPost_ret (v := .tuple #[.agg z11, .int .i64 0, .int .i64 44]) ?_ rfl ⟨by rw [hv, hd0_z]; rfl, HB9.out⟩
    rw [results_cell_tt rfl]
    simp [asAddr, Result.andThen, t3]
  · have i4 : ¬ (n : Int) < 4 := by omega
    have HG := Lib.hid (RAt_z A n c l _ HA.out 0 4 0 4 rfl rfl (by omega) hn)
    unfold z11 at HG
    by_cases hs : atL l 0 4 = 67324752
    · have b1 : (((atL l 0 4 : Nat) : Int) != 67324752) = false := by rw [hs]; rfl
      by_cases h30 : n < 30
      · have i30 : (n : Int) < 30 := by omega
        have hv : P = (hd0, 0, 20) := by rw [hPV]; unfold lnV; rw [if_neg (by omega), if_pos (by omega)]
        clear hPV h1 hs
        generalize atL l 0 4 = a0 at *
        go_enter Tryd.func15, Tryd.ntmps15
        have t2 := st_hdR HZ.out rfl z11 rfl (by simp [z11, Value.oneCell'])
        have t3 := ld_hdR (HZ.out.setRow z11) rfl
        have HB9 := Lib.hid (below_setRowS HBL.out (Nat.le_refl _) z11)
        go_wp2_with (first | (go_at_call 29; with_reducible refine HG.out.mono ?_; rintro e _ ⟨rfl, rfl⟩) | (with_reducible refine wpList_store_var _ _ _ (by with_unfolding_all rfl) (by with_unfolding_all rfl) t2 ?_))
        refine bodyPost_ret (v := .tuple #[.agg z11, .int .i64 0, .int .i64 20]) ?_ rfl ⟨by rw [hv, hd0_z]; rfl, HB9.out⟩
        rw [results_cell_tt rfl]
        simp [asAddr, Result.andThen, t3]
      · have i30 : ¬ (n : Int) < 30 := by omega
        have h7 : n < tolN l := by
          unfold lnV at h1
          rw [if_neg (by omega), if_neg (by omega)] at h1
          by_cases h7 : l.length < tolN l
          · omega
          · rw [if_neg h7] at h1
            exact absurd rfl h1
        have hv : P = (hd0, 0, 20) := by rw [hPV]; unfold lnV; rw [if_neg (by omega), if_neg (by omega), if_pos (by omega)]
        have ht : tolN l = 30 + atL l 26 2 + atL l 28 2 := rfl
        have HG1 := Lib.hid (RAt_z A n c l _ HA.out 26 2 26 2 rfl rfl (by omega) hn)
        have HG2 := Lib.hid (RAt_z A n c l _ HA.out 28 2 28 2 rfl rfl (by omega) hn)
        unfold z11 at HG1 HG2
        have hk1 := atL_lt2 l 26
        have hk2 := atL_lt2 l 28
        clear hPV h1 hs
        generalize atL l 0 4 = a0 at *
        generalize atL l 26 2 = k1 at *
        generalize atL l 28 2 = k2 at *
        have i7 : (n : Int) < (30 : Int) + (k1 : Int) + (k2 : Int) := by omega
        clear ht h7
        go_enter Tryd.func15, Tryd.ntmps15
        have t2 := st_hdR HZ.out rfl z11 rfl (by simp [z11, Value.oneCell'])
        have t3 := ld_hdR (HZ.out.setRow z11) rfl
        have HB9 := Lib.hid (below_setRowS HBL.out (Nat.le_refl _) z11)
        go_wp2_with (first | (go_at_call 29; first | (with_reducible refine HG.out.mono ?_; rintro e _ ⟨rfl, rfl⟩) | (with_reducible refine HG1.out.mono ?_; rintro e _ ⟨rfl, rfl⟩) | (with_reducible refine HG2.out.mono ?_; rintro e _ ⟨rfl, rfl⟩)) | (with_reducible refine wpList_store_var _ _ _ (by with_unfolding_all rfl) (by with_unfolding_all rfl) t2 ?_))
        refine bodyPost_ret (v := .tuple #[.agg z11, .int .i64 0, .int .i64 20]) ?_ rfl ⟨by rw [hv, hd0_z]; rfl, HB9.out⟩
        rw [results_cell_tt rfl]
        simp [asAddr, Result.andThen, t3]
    · have b1 : (((atL l 0 4 : Nat) : Int) != 67324752) = true := by rw [bne_iff_ne]; omega
      have hv : P = (hd0, 0, 44) := by rw [hPV]; unfold lnV; rw [if_pos (.inr hs)]
      clear hPV h1 hs
      generalize atL l 0 4 = a0 at *
      go_enter Tryd.func15, Tryd.ntmps15
      have t2 := st_hdR HZ.out rfl z11 rfl (by simp [z11, Value.oneCell'])
      have t3 := ld_hdR (HZ.out.setRow z11) rfl
      have HB9 := Lib.hid (below_setRowS HBL.out (Nat.le_refl _) z11)
      go_wp2_with (first | (go_at_call 29; with_reducible refine HG.out.mono ?_; rintro e _ ⟨rfl, rfl⟩) | (with_reducible refine wpList_store_var _ _ _ (by with_unfolding_all rfl) (by with_unfolding_all rfl) t2 ?_))
      refine bodyPost_ret (v := .tuple #[.agg z11, .int .i64 0, .int .i64 44]) ?_ rfl ⟨by rw [hv, hd0_z]; rfl, HB9.out⟩
      rw [results_cell_tt rfl]
      simp [asAddr, Result.andThen, t3]
end Go.Proofs.YtcclhcbjolelcaaDoor
