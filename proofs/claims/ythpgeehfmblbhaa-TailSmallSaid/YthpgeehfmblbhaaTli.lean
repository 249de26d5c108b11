/-
  TAILS: check; the document's whole, at. No conditions.
-/
import Derived.Test.YthpgeehfmblbhaaTlh
import Derived.BigQuiet
namespace Go.Proofs.Ythpgeehfmblbhaa
open Go.RowKit
set_option maxRecDepth 100000
set_option linter.unusedVariables false

theorem pE_4 {l : List F} {sg sz : Nat} (h : l.length < 4) : pE l sg sz = 44 := if_pos (.inl h)
theorem pE_s {l : List F} {sg sz : Nat} (h : atL l 0 4 ≠ sg) : pE l sg sz = 44 := if_pos (.inr h)
theorem pE_lt {l : List F} {sg sz : Nat} (h4 : ¬ l.length < 4) (hs : atL l 0 4 = sg) (h : l.length < sz) : pE l sg sz = 20 := by
  unfold pE
  rw [if_neg (by omega), if_pos h]
theorem pE_gt {l : List F} {sg sz : Nat} (h4 : ¬ l.length < 4) (hs : atL l 0 4 = sg) (h : ¬ l.length < sz) (h2 : sz < l.length) : pE l sg sz = 22 := by
  unfold pE
  rw [if_neg (by omega), if_neg h, if_pos h2]
theorem pE_eq {l : List F} {sg sz : Nat} (h4 : ¬ l.length < 4) (hs : atL l 0 4 = sg) (h : ¬ l.length < sz) (h2 : ¬ sz < l.length) : pE l sg sz = 0 := by
  unfold pE
  rw [if_neg (by omega), if_neg h, if_neg h2]
set_option maxHeartbeats 2000000 in
theorem check_c (A : Option Addr) (n c : Nat) (l : List F) (sg sz : Nat) (w : World) (h : RowIn w A n c l) (hn : n ≤ 1000000) (hsz : sz ≤ 1000) :
    Calls Try.prog 26 #[.agg #[.slice A n c, .int .u64 sg, .int .i64 sz]] w fun e w' => e = .returned (.int .i64 (pE l sg sz)) ∧ Below w.heap.size w w' := by
  have hlen := h.row.len
  have hle := h.le
  have HB := Lib.hid ((Below.refl w.heap.size w).alloc (Nat.le_refl _) (.cells #[.slice A n c, .int .u64 sg, .int .i64 sz] 52))
  by_cases h4 : n < 4
  · have i4 : ((n : Int) < 4) := by omega
    have d4 : decide ((n : Int) < 4) = true := decide_eq_true i4
    rw [pE_4 (by omega)]
    clear h hlen hle hn
    go_enter Try.func26, Try.ntmps26
    go_wp2_with fail
    go_quiet (fail)
    go_wp2
    go_ret
    exact ⟨rfl, below_drewN HB.out _⟩
  · have i4 : ¬ ((n : Int) < 4) := by omega
    have d4 : decide ((n : Int) < 4) = false := decide_eq_false i4
    have i4c : (4 : Int) ≤ (c : Int) := by omega
    have hr4 := (h.row.take (k := 4) (by omega)).alloc (.cells #[.slice A n c, .int .u64 sg, .int .i64 sz] 52)
    have hg := fun q => Get_c A 4 c (l.take 4) _ (hr4.drewN q)
    rw [show getL ((l.take 4).take 8) = atL l 0 4 by unfold atL; rw [List.drop_zero]] at hg
    have HG := Lib.hid hg
    have HL := Lib.hid hlen
    have hP : pE l sg sz = if atL l 0 4 ≠ sg then 44 else if n < sz then 20 else if sz < n then 22 else 0 := by
      unfold pE
      rw [hlen]
      by_cases e : atL l 0 4 ≠ sg
      · rw [if_pos (.inr e), if_pos e]
      · rw [if_neg (by omega), if_neg e]
    rw [hP]
    clear hg hr4 h hlen hP
    generalize atL l 0 4 = v at *
    by_cases hs : v ≠ sg
    · have b1 : ((v : Int) != (sg : Int)) = true := by rw [bne_iff_ne]; omega
      rw [if_pos hs]
      clear hs
      go_enter Try.func26, Try.ntmps26
      go_wp2_with fail
      go_quiet ((go_at_call 34; exact quiet_left (HG.out _)))
      go_wp2
      go_ret
      exact ⟨rfl, below_drewN HB.out _⟩
    · have b1 : ((v : Int) != (sg : Int)) = false := by rw [bne_eq_false_iff_eq]; omega
      rw [if_neg hs]
      clear hs
      by_cases g1 : n < sz
      · have j1 : (n : Int) < (sz : Int) := by omega
        rw [if_pos g1]
        go_enter Try.func26, Try.ntmps26
        go_wp2_with fail
        go_quiet ((go_at_call 34; exact quiet_left (HG.out _)))
        go_wp2
        go_ret
        exact ⟨rfl, below_drewN HB.out _⟩
      · have j1 : ¬ (n : Int) < (sz : Int) := by omega
        rw [if_neg g1]
        by_cases g2 : sz < n
        · have j2 : (sz : Int) < (n : Int) := by omega
          rw [if_pos g2]
          go_enter Try.func26, Try.ntmps26
          go_wp2_with fail
          go_quiet ((go_at_call 34; exact quiet_left (HG.out _)))
          go_wp2
          go_ret
          exact ⟨rfl, below_drewN HB.out _⟩
        · have j2 : ¬ (sz : Int) < (n : Int) := by omega
          rw [if_neg g2]
          go_enter Try.func26, Try.ntmps26
          go_wp2_with fail
          go_quiet ((go_at_call 34; exact quiet_left (HG.out _)))
          go_wp2
          go_ret
          exact ⟨rfl, below_drewN HB.out _⟩
theorem RWhole_c (A : Option Addr) (n c : Nat) (l : List F) (sg sz : Nat) (w : World) (h : RowIn w A n c l) (hn : n ≤ 1000000) (hsz : sz ≤ 1000) :
    Calls Try.prog 29 #[.slice A n c, .int .u64 sg, .int .i64 sz] w fun e w' => e = .returned (.int .i64 (pE l sg sz)) ∧ w = w' := by
  have hlen := h.row.len
  have hle := h.le
  by_cases h4 : n < 4
  · have i4 : ((n : Int) < 4) := by omega
    rw [pE_4 (by omega)]
    clear h hlen hle hn
    go_enter Try.func29, Try.ntmps29
    go_wp2
    go_ret
    exact ⟨rfl, rfl⟩
  · have i4 : ¬ ((n : Int) < 4) := by omega
    have i4c : (4 : Int) ≤ (c : Int) := by omega
    have hg := RefGet_c A 4 c (l.take 4) w (h.row.take (k := 4) (by omega))
    rw [show getL ((l.take 4).take 8) = atL l 0 4 by unfold atL; rw [List.drop_zero]] at hg
    have HG := Lib.hid hg
    have hP : pE l sg sz = if atL l 0 4 ≠ sg then 44 else if n < sz then 20 else if sz < n then 22 else 0 := by
      unfold pE
      rw [hlen]
      by_cases e : atL l 0 4 ≠ sg
      · rw [if_pos (.inr e), if_pos e]
      · rw [if_neg (by omega), if_neg e]
    rw [hP]
    clear hg h hlen hP
    generalize atL l 0 4 = v at *
    by_cases hs : v ≠ sg
    · have b1 : ((v : Int) != (sg : Int)) = true := by rw [bne_iff_ne]; omega
      rw [if_pos hs]
      clear hs
      go_enter Try.func29, Try.ntmps29
      go_wp2_with (go_at_call 38; refine HG.out.mono ?_; rintro e _ ⟨rfl, rfl⟩)
      go_ret
      exact ⟨rfl, rfl⟩
    · have b1 : ((v : Int) != (sg : Int)) = false := by rw [bne_eq_false_iff_eq]; omega
      rw [if_neg hs]
      clear hs
      by_cases g1 : n < sz
      · have j1 : (n : Int) < (sz : Int) := by omega
        rw [if_pos g1]
        go_enter Try.func29, Try.ntmps29
        go_wp2_with (go_at_call 38; refine HG.out.mono ?_; rintro e _ ⟨rfl, rfl⟩)
        go_ret
        exact ⟨rfl, rfl⟩
      · have j1 : ¬ (n : Int) < (sz : Int) := by omega
        rw [if_neg g1]
        by_cases g2 : sz < n
        · have j2 : (sz : Int) < (n : Int) := by omega
          rw [if_pos g2]
          go_enter Try.func29, Try.ntmps29
          go_wp2_with (go_at_call 38; refine HG.out.mono ?_; rintro e _ ⟨rfl, rfl⟩)
          go_ret
          exact ⟨rfl, rfl⟩
        · have j2 : ¬ (sz : Int) < (n : Int) := by omega
          rw [if_neg g2]
          go_enter Try.func29, Try.ntmps29
          go_wp2_with (go_at_call 38; refine HG.out.mono ?_; rintro e _ ⟨rfl, rfl⟩)
          go_ret
          exact ⟨rfl, rfl⟩
theorem RAtT_c (A : Option Addr) (n c : Nat) (l : List F) (w : World) (h : RowIn w A n c l) (from_ size : Nat) (z1 z2 : Int) (e1 : z1 = (from_ : Int)) (e2 : z2 = (size : Int)) (h0 : 0 < size) (hf : from_ + size ≤ n) (hn : n ≤ 1000000) :
    Calls Try.prog 30 #[.slice A n c, .int .i64 z1, .int .i64 z2] w fun e w' => e = .returned (.int .u64 (atL l from_ size : Nat)) ∧ w = w' := by
  subst e1 e2
  have hs := h.slice (a := from_) (M := from_ + size) (by omega) hf
  rw [Nat.add_sub_cancel_left] at hs
  have hc := h.le
  have hm := h.max
  have i1 : (from_ : Int) ≤ (from_ : Int) + (size : Int) := by omega
  have i2 : (from_ : Int) + (size : Int) ≤ (c : Int) := by omega
  have i3 : (0 : Int) ≤ (from_ : Int) := by omega
  have hw : IntKind.i64.wrap ((from_ : Int) + (size : Int)) = (from_ : Int) + (size : Int) := IntWalk.i64_in _ (by omega)
  have t1 : ((from_ : Int) + (size : Int) - (from_ : Int)).toNat = size := by omega
  have t2 : ((c : Int) - (from_ : Int)).toNat = c - from_ := by omega
  clear h
  have hcf : ¬ c = from_ := by omega
  have H := Lib.hid (hs.2 hcf)
  have t3 : ¬ (c : Int) = (from_ : Int) := by omega
  go_enter Try.func30, Try.ntmps30
  go_wp2_with fail
  refine (RefGet_c _ size (c - from_) _ w H.out.row).mono ?_
  rintro e _ ⟨rfl, rfl⟩
  go_wp2
  go_ret
  exact ⟨rfl, rfl⟩
end Go.Proofs.Ythpgeehfmblbhaa
