/-
  RECORDS OF THE DIRECTORY: the document's number at a place, its Parse of what is none (WRITTEN by wip/gen19o.py). No conditions (but for how many bytes there are).
-/
import Derived.Test.YtacllgglpjdobaaDoorCnn
namespace Go.Proofs.YtacllgglpjdobaaDoor
open Go.RowKit
set_option maxRecDepth 100000
set_option linter.unusedVariables false
set_option linter.unusedSimpArgs false

theorem RAtC_c (A : Option Addr) (n c : Nat) (l : List F) (w : World) (h : RowIn w A n c l) (from_ size : Nat) (hf : from_ + size ≤ n) (hn : n ≤ 1000000) :
    Calls Tryd.prog 33 #[.slice A n c, .int .i64 (from_ : Nat), .int .i64 (size : Nat)] w fun e w' => e = .returned (.int .u64 (atL l from_ size : Nat)) ∧ w = w' := by
  have hs := h.slice (a := from_) (M := from_ + size) (by omega) hf
  rw [Nat.add_sub_cancel_left] at hs
  have hc := h.le
  have hm := h.max
  have i1 : (from_ : Int) ≤ (from_ : Int) + (size : Int) := by omega
  have i2 : (from_ : Int) + (size : Int) ≤ (c : Int) := by omega
  have i3 : (0 : Int) ≤ (from_ : Int) := by omega
  have hw : IntKind.i64.wrap ((from_ : Int) + (size : Int)) = (from_ : Int) + (size : Int) := IntWalk.i64_in _ (by omega)
  have t1 : ((from_ : Int) + (size : Int) - (from_ : Int)).toNat = size := by omega
  have t2 : ((c : Int) - (from_ : Int)).toNat = c - from_ := by omega
  clear h
  by_cases hcf : c = from_
  · have H := Lib.hid (hs.1 hcf)
    have t3 : (c : Int) = (from_ : Int) := by omega
    go_enter Tryd.func33, Tryd.ntmps33
    go_wp2_with fail
    refine (RefGet_c _ size 0 _ w H.out.row).mono ?_
    rintro e _ ⟨rfl, rfl⟩
    go_wp2
    go_ret
    exact ⟨rfl, rfl⟩
  · have H := Lib.hid (hs.2 hcf)
    have t3 : ¬ (c : Int) = (from_ : Int) := by omega
    go_enter Tryd.func33, Tryd.ntmps33
    go_wp2_with fail
    refine (RefGet_c _ size (c - from_) _ w H.out.row).mono ?_
    rintro e _ ⟨rfl, rfl⟩
    go_wp2
    go_ret
    exact ⟨rfl, rfl⟩
/-- of whatever two rows -/
theorem SameA_c (A B : Option Addr) (n m ca cb : Nat) (a b : List F) (w : World) (ha : Row w A n a) (hb : Row w B m b) :
    Calls Tryd.prog 12 #[.slice A n ca, .slice B m cb] w fun e w' => e = .returned (.bool (decide (a = b))) ∧ ∃ q, w' = w.drewN q := by
  by_cases h : n = m
  · subst h
    exact Same_d A B n ca cb a b w ha hb
  · have hne : a ≠ b := fun e => h (by rw [← ha.len, ← hb.len, e])
    rw [decide_eq_false hne]
    refine (Same_len A B n m ca cb w h ha.max hb.max).mono ?_
    rintro e _ ⟨rfl, rfl⟩
    exact ⟨rfl, 0, rfl⟩
theorem RAtC_z (A : Option Addr) (n c : Nat) (l : List F) (w : World) (h : RowIn w A n c l) (f s : Nat) (zf zs : Int) (e1 : zf = (f : Int)) (e2 : zs = (s : Int)) (hf : f + s ≤ n) (hn : n ≤ 1000000) :
    Calls Tryd.prog 33 #[.slice A n c, .int .i64 zf, .int .i64 zs] w fun e w' => e = .returned (.int .u64 (atL l f s : Nat)) ∧ w = w' := by
  subst e1 e2
  exact RAtC_c A n c l w h f s hf hn
structure BxP (Z : Prop) : Prop where
  out : Z
theorem cut_in {Z T : Prop} (f : BxP Z → T) (z : Z) : T := f ⟨z⟩
/-- what the document's Unpack answers, and what its Pack makes of that -/
theorem un_any (d t : Nat) (hd : d < 65536) (ht : t < 65536) : ∃ (T0 : St) (ok : Bool) (D T : Int) (d' t' : Nat), runV d t = .tuple #[stV T0, .bool ok] ∧ (ok = true → okP (unSt d t) ∧ T0 = unSt d t) ∧ (ok = false → ¬ okP (unSt d t)) ∧ IntKind.u64.wrap D = (d' : Int) ∧ IntKind.u64.wrap T = (t' : Int) ∧ d' < two64 ∧ t' < two64 ∧ StW T0 ∧
    ∀ w, Calls Tryd.prog 25 #[stV T0] w fun e w' => e = .returned (.tuple #[.int .i64 D, .int .i64 T]) ∧ Below w.heap.size w w' := by
  by_cases h : okP (unSt d t)
  · have h1 := datN_lt h.six
    have h2 := timN_lt h.six
    refine ⟨unSt d t, true, datN (unSt d t), timN (unSt d t), datN (unSt d t), timN (unSt d t), if_pos h, fun _ => ⟨h, rfl⟩, (fun e => by cases e), ?_, ?_, ?_, ?_, unSt_wf d t hd ht, fun w => RefPackS_c _ h w⟩
    · show ((datN (unSt d t) : Nat) : Int) % 18446744073709551616 = _; omega
    · show ((timN (unSt d t) : Nat) : Int) % 18446744073709551616 = _; omega
    · unfold two64; omega
    · unfold two64; omega
  · refine ⟨st0, false, -1013760, 0, 18446744073708537856, 0, if_neg h, (fun e => by cases e), fun _ => h, ?_, ?_, ?_, ?_, ⟨by decide, by decide, by decide, by decide, by decide, by decide⟩, fun w => RefPack0_c w⟩
    · show (-1013760 : Int) % 18446744073709551616 = _; omega
    · show (0 : Int) % 18446744073709551616 = _; omega
    · unfold two64; omega
    · unfold two64; omega
set_option maxHeartbeats 2000000 in
/-- what has too few bytes, or others at its beginning -/
theorem RParseC_no (A : Option Addr) (n c : Nat) (l : List F) (w : World) (h : RowIn w A n c l) (hn : n ≤ 1000000) (h1 : (lnW l).2 ≠ 0) :
    Calls Tryd.prog 16 #[.slice A n c] w fun e w' => e = .returned (.tuple #[rcV (prC l).1, .int .i64 ((prC l).2.1 : Nat), .int .i64 (prC l).2.2]) ∧ Below w.heap.size w w' := by
  obtain ⟨P, hP⟩ : ∃ P, P = prC l := ⟨_, rfl⟩
  rw [← hP]
  have hPV : P = (rc0, 0, (lnW l).2) := by
    rw [hP]
    unfold prC
    rw [if_pos h1]
  have H := Lib.hid h
  have hle := h.le
  have hlen : l.length = n := h.row.len
  have HZ := Lib.hid (Blk.new w 39 z13)
  have HBL := Lib.hid ((Below.refl w.heap.size w).alloc (Nat.le_refl _) (.cells z13 39))
  have HA := Lib.hid (H.out.below ((Below.refl _ _).alloc (Nat.le_refl _) (.cells z13 39)))
  clear h hP
  by_cases h4 : n < 4
  · have i4 : (n : Int) < 4 := by omega
    have hv : P = (rc0, 0, 44) := by rw [hPV]; unfold lnW; rw [if_pos (.inl (by omega))]
    clear hPV h1
    go_enter Tryd.func16, Tryd.ntmps16
    have t2 := st_rcR HZ.out rfl z13 rfl (by simp [z13, Value.oneCell'])
    have t3 := ld_rcR (HZ.out.setRow z13) rfl
    have HB9 := Lib.hid (below_setRowS HBL.out (Nat.le_refl _) z13)
    go_wp2_with (with_reducible refine wpList_store_var _ _ _ (by with_unfolding_all rfl) (by with_unfolding_all rfl) t2 ?_)
    refine bodyPost_ret (v := .tuple #[.agg z13, .int .i64 0, .int .i64 44]) ?_ rfl ⟨by rw [hv, rc0_z]; rfl, HB9.out⟩
    rw [results_cell_tt rfl]
    simp [asAddr, Result.andThen, t3]
  · have i4 : ¬ (n : Int) < 4 := by omega
    have HG := Lib.hid (RAtC_z A n c l _ HA.out 0 4 0 4 rfl rfl (by omega) hn)
    unfold z13 at HG
    by_cases hs : atL l 0 4 = 33639248
    · have b1 : (((atL l 0 4 : Nat) : Int) != 33639248) = false := by rw [hs]; rfl
      by_cases h30 : n < 46
      · have i30 : (n : Int) < 46 := by omega
        have hv : P = (rc0, 0, 20) := by rw [hPV]; unfold lnW; rw [if_neg (by omega), if_pos (by omega)]
        clear hPV h1 hs
        generalize atL l 0 4 = a0 at *
        go_enter Tryd.func16, Tryd.ntmps16
        have t2 := st_rcR HZ.out rfl z13 rfl (by simp [z13, Value.oneCell'])
        have t3 := ld_rcR (HZ.out.setRow z13) rfl
        have HB9 := Lib.hid (below_setRowS HBL.out (Nat.le_refl _) z13)
        go_wp2_with (first | (go_at_call 33; with_reducible refine HG.out.mono ?_; rintro e _ ⟨rfl, rfl⟩) | (with_reducible refine wpList_store_var _ _ _ (by with_unfolding_all rfl) (by with_unfolding_all rfl) t2 ?_))
        refine bodyPost_ret (v := .tuple #[.agg z13, .int .i64 0, .int .i64 20]) ?_ rfl ⟨by rw [hv, rc0_z]; rfl, HB9.out⟩
        rw [results_cell_tt rfl]
        simp [asAddr, Result.andThen, t3]
      · have i30 : ¬ (n : Int) < 46 := by omega
        have h7 : n < tolC l := by
          unfold lnW at h1
          rw [if_neg (by omega), if_neg (by omega)] at h1
          by_cases h7 : l.length < tolC l
          · omega
          · rw [if_neg h7] at h1
            exact absurd rfl h1
        have hv : P = (rc0, 0, 20) := by rw [hPV]; unfold lnW; rw [if_neg (by omega), if_neg (by omega), if_pos (by omega)]
        have ht : tolC l = 46 + atL l 28 2 + atL l 30 2 := rfl
        have HG1 := Lib.hid (RAtC_z A n c l _ HA.out 28 2 28 2 rfl rfl (by omega) hn)
        have HG2 := Lib.hid (RAtC_z A n c l _ HA.out 30 2 30 2 rfl rfl (by omega) hn)
        unfold z13 at HG1 HG2
        have hk1 := atL_lt2 l 28
        have hk2 := atL_lt2 l 30
        clear hPV h1 hs
        generalize atL l 0 4 = a0 at *
        generalize atL l 28 2 = k1 at *
        generalize atL l 30 2 = k2 at *
        have i7 : (n : Int) < (46 : Int) + (k1 : Int) + (k2 : Int) := by omega
        clear ht h7
        go_enter Tryd.func16, Tryd.ntmps16
        have t2 := st_rcR HZ.out rfl z13 rfl (by simp [z13, Value.oneCell'])
        have t3 := ld_rcR (HZ.out.setRow z13) rfl
        have HB9 := Lib.hid (below_setRowS HBL.out (Nat.le_refl _) z13)
        go_wp2_with (first | (go_at_call 33; first | (with_reducible refine HG.out.mono ?_; rintro e _ ⟨rfl, rfl⟩) | (with_reducible refine HG1.out.mono ?_; rintro e _ ⟨rfl, rfl⟩) | (with_reducible refine HG2.out.mono ?_; rintro e _ ⟨rfl, rfl⟩)) | (with_reducible refine wpList_store_var _ _ _ (by with_unfolding_all rfl) (by with_unfolding_all rfl) t2 ?_))
        refine bodyPost_ret (v := .tuple #[.agg z13, .int .i64 0, .int .i64 20]) ?_ rfl ⟨by rw [hv, rc0_z]; rfl, HB9.out⟩
        rw [results_cell_tt rfl]
        simp [asAddr, Result.andThen, t3]
    · have b1 : (((atL l 0 4 : Nat) : Int) != 33639248) = true := by rw [bne_iff_ne]; omega
      have hv : P = (rc0, 0, 44) := by rw [hPV]; unfold lnW; rw [if_pos (.inr hs)]
      clear hPV h1 hs
      generalize atL l 0 4 = a0 at *
      go_enter Tryd.func16, Tryd.ntmps16
      have t2 := st_rcR HZ.out rfl z13 rfl (by simp [z13, Value.oneCell'])
      have t3 := ld_rcR (HZ.out.setRow z13) rfl
      have HB9 := Lib.hid (below_setRowS HBL.out (Nat.le_refl _) z13)
      go_wp2_with (first | (go_at_call 33; with_reducible refine HG.out.mono ?_; rintro e _ ⟨rfl, rfl⟩) | (with_reducible refine wpList_store_var _ _ _ (by with_unfolding_all rfl) (by with_unfolding_all rfl) t2 ?_))
      refine bodyPost_ret (v := .tuple #[.agg z13, .int .i64 0, .int .i64 44]) ?_ rfl ⟨by rw [hv, rc0_z]; rfl, HB9.out⟩
      rw [results_cell_tt rfl]
      simp [asAddr, Result.andThen, t3]
end Go.Proofs.YtacllgglpjdobaaDoor
