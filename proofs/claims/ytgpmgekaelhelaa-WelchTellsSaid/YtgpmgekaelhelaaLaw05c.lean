/-
  LAW 05: WelchTells. No conditions. (The round's three ways are written by wip/gen05c.py.)
-/
import Derived.Test.YtgpmgekaelhelaaLaw05b
namespace Go.Proofs.Ytgpmgekaelhelaa
open Go.RowKit
set_option maxRecDepth 100000
set_option linter.unusedVariables false

theorem Of_at (A : Option Addr) (n ca k N : Nat) (P : List F) (w : World) (h : Row w A n (vals P 0 n)) (hn : n ≤ 24) (hk : k ≤ 24) (hN : n + k = N) (tt : tr P = P) (hl : P.length ≤ n) :
    Calls Try.prog 16 #[.slice A n ca, .int .i64 k] w fun e w' => ∃ g c, e = .returned (.slice (some ⟨g, 0, none⟩) N c) ∧ Row w' (some ⟨g, 0, none⟩) N (vals P 0 N) ∧ Below w.heap.size w w' := by
  subst hN
  refine (Of_c A n ca k _ w h (by omega) (by omega)).mono ?_
  rintro e w' ⟨g, c, T, rfl, hown, hT, hb⟩
  obtain rfl := hT.unique (by omega) (tells_vals tt hl)
  exact ⟨g, c, rfl, (own_in hown).row, hb⟩
theorem Of_first (A : Option Addr) (n ca k N : Nat) (l : List F) (w : World) (h : Row w A n l) (hn : n ≤ 24) (hk : k ≤ 24) (hN : n + k = N) :
    Calls Try.prog 16 #[.slice A n ca, .int .i64 k] w fun e w' => ∃ g c T, e = .returned (.slice (some ⟨g, 0, none⟩) N c) ∧ Row w' (some ⟨g, 0, none⟩) N (vals T 0 N) ∧ Tells n l T ∧ Below w.heap.size w w' := by
  subst hN
  refine (Of_c A n ca k _ w h (by omega) (by omega)).mono ?_
  rintro e w' ⟨g, c, T, rfl, hown, hT, hb⟩
  exact ⟨g, c, T, rfl, (own_in hown).row, hT, hb⟩
theorem wtells_less (A C B : Option Addr) (n ca N2 cc N3 cb : Nat) (k : Int) (w : World) (hn : n ≤ 9223372036854775807) (h : n = 0 ∨ 12 < n ∨ k < 0 ∨ 12 < k ∨ (N2 : Int) ≠ n + k ∨ (N3 : Int) ≠ n + k) :
    Calls Try.prog 4 #[.slice A n ca, .int .i64 k, .slice C N2 cc, .slice B N3 cb] w fun e w' => e = .returned (.bool true) ∧ Below w.heap.size w w' := by
  have hd : ((n : Int) == 0) = true ∨ ((n : Int) == 0) = false ∧ (12 : Int) < n ∨ ((n : Int) == 0) = false ∧ ¬ (12 : Int) < n ∧ k < 0 ∨ ((n : Int) == 0) = false ∧ ¬ (12 : Int) < n ∧ ¬ k < 0 ∧ 12 < k ∨
      (((n : Int) == 0) = false ∧ ¬ (12 : Int) < n ∧ ¬ k < 0 ∧ ¬ 12 < k ∧ ((N2 : Int) != (n : Int) + k) = true) ∨ (((n : Int) == 0) = false ∧ ¬ (12 : Int) < n ∧ ¬ k < 0 ∧ ¬ 12 < k ∧ ((N2 : Int) != (n : Int) + k) = false ∧ ((N3 : Int) != (n : Int) + k) = true) := by
    by_cases h0 : n = 0
    · exact .inl (by rw [beq_iff_eq]; omega)
    · right
      have e0 : ((n : Int) == 0) = false := by rw [beq_eq_false_iff_ne]; omega
      by_cases h1 : 12 < n
      · exact .inl ⟨e0, by omega⟩
      · right
        by_cases h3 : k < 0
        · exact .inl ⟨e0, by omega, h3⟩
        · right
          by_cases h4 : 12 < k
          · exact .inl ⟨e0, by omega, h3, h4⟩
          · right
            by_cases h5 : (N2 : Int) = (n : Int) + k
            · exact .inr ⟨e0, by omega, h3, h4, by rw [bne_eq_false_iff_eq]; exact h5, by rw [bne_iff_ne]; omega⟩
            · exact .inl ⟨e0, by omega, h3, h4, by rw [bne_iff_ne]; exact h5⟩
  clear h
  rcases hd with e0 | ⟨e0, e1⟩ | ⟨e0, e1, e3⟩ | ⟨e0, e1, e3, e4⟩ | ⟨e0, e1, e3, e4, e5⟩ | ⟨e0, e1, e3, e4, e5, e6⟩
  all_goals
    go_enter Try.func4, Try.ntmps4
    go_wp2_with (go_at_call 7; refine (alive05_c _).mono ?_; rintro e w1 ⟨rfl, hb1⟩)
    go_ret
    exact ⟨rfl, hb1⟩
set_option maxHeartbeats 8000000 in
theorem wtells_main (A C B : Option Addr) (n ca N cc cb k : Nat) (a tn : List F) (th : List Bool) (w : World) (ha : Row w A n a) (hc : Row w C N tn) (hb : BRow w B N th) (h1 : 1 ≤ n) (h2 : n ≤ 12) (h3 : k ≤ 12) (hN : n + k = N) :
    Calls Try.prog 4 #[.slice A n ca, .int .i64 k, .slice C N cc, .slice B N cb] w fun e w' => e = .returned (.bool true) ∧ Below w.heap.size w w' := by
  obtain ⟨i0, hi, hz0, hz1, hz2⟩ := info_parts info_u8
  have e0 : ((n : Int) == 0) = false := by rw [beq_eq_false_iff_ne]; omega
  have e1 : ¬ (12 : Int) < n := by omega
  have e2 : ¬ (12 : Int) < k := by omega
  have e3 : ¬ (k : Int) < 0 := by omega
  have hNi : (n : Int) + (k : Int) = (N : Int) := by omega
  have hN24 : N ≤ 24 := by omega
  have HN := Lib.hid hN
  clear hN
  go_enter Try.func4, Try.ntmps4
  go_wp2_with (go_at_call 7; refine (alive05_c _).mono ?_; rintro e w1 ⟨rfl, hb1⟩)
  refine (Of_first A n ca k N a w1 (ha.below hb1) (by omega) (by omega) HN.out).mono ?_
  rintro e w2 ⟨g1, cx, T, rfl, hX, hta, hb2⟩
  have HTA := Lib.hid hta
  have hB2 := hb1.trans (hb2.mono hb1.size)
  have hC2 := (hc.below hb1).below hb2
  have hBr2 := (hb.below hb1).below hb2
  obtain ⟨x, hx⟩ : ∃ x, x = vals T 0 N := ⟨_, rfl⟩
  rw [← hx] at hX
  have HX := Lib.hid hx
  obtain ⟨f, hf⟩ : ∃ f : Nat → F, f = fun i => gt x i + gt tn i := ⟨_, rfl⟩
  have HF1 : Hid (∀ j, cs (mkF f j) ++ [Value.int .u8 (gt x j + gt tn j).n] = cs (mkF f j) ++ cs [f j]) := fun j => by rw [hf]; rfl
  have HFE : Hid (∀ i, i < N → gt (mkF f N) i = gt x i + gt tn i) := fun i hi => by rw [gt_mkF, if_pos hi, hf]
  clear hb1 hb2 hta ha hc hb hx hf
  go_wp2
  go_loopw [11, 12, 13, 59] (fun vb vg vw i wr => ∃ (j g m : Nat) (D : Option Addr) (cd : Nat), j ≤ N ∧ i = .int .i64 j ∧ vg = .int .i64 g ∧ vw = .int .i64 m ∧ vb = .slice D j cd ∧ wr.ownsRow w2.heap.size 5 1 (.slice D j cd) j (cs (mkF f j)) ∧ Hid (g + cntT th j = j) ∧ Hid (m = (dfF (mkF f N) th x j).length) ∧ Below w2.heap.size w2 wr) (fun _ _ _ i _ => N - (intOf i).toNat)
  case atStart => exact ⟨0, 0, 0, _, 0, by omega, rfl, rfl, rfl, rfl, World.ownsRow_made (e := 5) (size := 1) w2 #[] 0 (Nat.le_refl _) (Nat.zero_le _) rfl, rfl, rfl, (Below.refl _ _).alloc (Nat.le_refl _) _⟩
  case round =>
    obtain ⟨j, g, m, D, cd, hj, rfl, rfl, rfl, rfl, hown, hg, hm, hbel⟩ := hrel
    by_cases hlt : j < N
    · have hjn : (j : Int) < N := by omega
      have hgb : g ≤ 24 := by have := hg.out; omega
      have hmb : m ≤ 24 := by have := hm.out; have := dfF_le (mkF f N) th x j; omega
      obtain ⟨b1, o1, ex1, l1, p1⟩ := hX.at_ hlt
      injection ex1 with ex1
      injection ex1 with ex1 ex2
      subst ex1 ex2
      obtain ⟨b3, o3, ex3, l3, p3⟩ := hC2.at_ hlt
      obtain ⟨b2, o2, ex2, l2, p2⟩ := hBr2.at_ hlt
      have q1 := (hbel.cell (p := ⟨g1, 0 + j, none⟩) l1).trans p1
      have q3 := (hbel.cell (p := ⟨b3, o3 + j, none⟩) l3).trans p3
      rw [Nat.zero_add] at q1
      have hxr := bits_xor (gt x j) (gt tn j)
      subst ex2 ex3
      have hne0 := n_bne (gt tn j)
      have HS : Hid (gt (mkF f N) j = gt x j + gt tn j) := HFE.out j hlt
      cases hgj : gb th j with
      | false =>
        rw [hgj] at p2
        have hd2 : Hid (m = (dfF (mkF f N) th x (j + 1)).length) := by
          unfold Hid dfF
          rw [if_neg (by rw [hgj]; simp)]
          exact hm.out
        have hg2 : Hid (g + 1 + cntT th (j + 1) = j + 1) := by
          unfold Hid cntT
          rw [if_neg (by rw [hgj]; simp)]
          have := hg.out
          omega
        clear hgj
        -- gone
        go_wp2_with (at_builtin; refine wpList_append_own _ rfl (.tmp 64) (.tmp 71) 22 rfl w2.heap.size 5 i0 (.int .u8 0) 1 1 Try.underlying22 hi hz0 hz1 hz2 rfl (by decide) (.slice D j cd) j (cs (mkF f j)) rfl (hown.alloc _) ⟨wr.heap.size, 0, none⟩ 1 1 [.int .u8 (gt x j + gt tn j).n] rfl rfl (one_cell wr _ _) (by intro u hu; simp at hu; subst hu; rfl) (by unfold maxLen; omega) (by omega) (by have := hbel.size; simp; omega) ?_; intro v5 w5 hown5 hgrow5 hnil5; obtain ⟨D5, c5, rfl, -⟩ := own_shape hown5; have hB5 : Below w2.heap.size w2 w5 := (hbel.alloc hbel.size _).grown hgrow5 (by have := hbel.size; simp; omega) (fun z e => (hown.lt z e).1); have q25 := (hB5.cell (p := ⟨b2, o2 + j, none⟩) l2).trans p2; have q35 := (hB5.cell (p := ⟨b3, o3 + j, none⟩) l3).trans p3; rw [HF1.out, ← cs_append] at hown5)
        go_roundw
        case rel => exact ⟨j + 1, g + 1, m, D5, c5, by omega, by go_num, by go_num, rfl, rfl, hown5, hg2, hd2, hB5⟩
        case measure => simp [intOf]; omega
      | true =>
        rw [hgj] at p2
        have hg2 : Hid (g + cntT th (j + 1) = j + 1) := by
          unfold Hid cntT
          rw [if_pos hgj]
          have := hg.out
          omega
        by_cases hE : gt tn j = 0
        · rw [decide_eq_true hE] at hne0
          have hd2 : Hid (m = (dfF (mkF f N) th x (j + 1)).length) := by
            unfold Hid dfF
            rw [if_neg (fun e => e.2 (by rw [HS.out, hE, add_zero]))]
            exact hm.out
          clear hgj hE
          -- right
          go_wp2_with (at_builtin; refine wpList_append_own _ rfl (.tmp 64) (.tmp 71) 22 rfl w2.heap.size 5 i0 (.int .u8 0) 1 1 Try.underlying22 hi hz0 hz1 hz2 rfl (by decide) (.slice D j cd) j (cs (mkF f j)) rfl (hown.alloc _) ⟨wr.heap.size, 0, none⟩ 1 1 [.int .u8 (gt x j + gt tn j).n] rfl rfl (one_cell wr _ _) (by intro u hu; simp at hu; subst hu; rfl) (by unfold maxLen; omega) (by omega) (by have := hbel.size; simp; omega) ?_; intro v5 w5 hown5 hgrow5 hnil5; obtain ⟨D5, c5, rfl, -⟩ := own_shape hown5; have hB5 : Below w2.heap.size w2 w5 := (hbel.alloc hbel.size _).grown hgrow5 (by have := hbel.size; simp; omega) (fun z e => (hown.lt z e).1); have q25 := (hB5.cell (p := ⟨b2, o2 + j, none⟩) l2).trans p2; have q35 := (hB5.cell (p := ⟨b3, o3 + j, none⟩) l3).trans p3; rw [HF1.out, ← cs_append] at hown5)
          go_roundw
          case rel => exact ⟨j + 1, g, m, D5, c5, by omega, by go_num, rfl, rfl, rfl, hown5, hg2, hd2, hB5⟩
          case measure => simp [intOf]; omega
        · rw [decide_eq_false hE] at hne0
          have hd2 : Hid (m + 1 = (dfF (mkF f N) th x (j + 1)).length) := by
            unfold Hid dfF
            rw [if_pos ⟨hgj, fun e => hE (by rw [HS.out] at e; have := add_left_inj (e.trans (add_zero _).symm); exact this)⟩, List.length_append, ← hm.out]
            rfl
          clear hgj hE
          -- wrong
          go_wp2_with (at_builtin; refine wpList_append_own _ rfl (.tmp 64) (.tmp 71) 22 rfl w2.heap.size 5 i0 (.int .u8 0) 1 1 Try.underlying22 hi hz0 hz1 hz2 rfl (by decide) (.slice D j cd) j (cs (mkF f j)) rfl (hown.alloc _) ⟨wr.heap.size, 0, none⟩ 1 1 [.int .u8 (gt x j + gt tn j).n] rfl rfl (one_cell wr _ _) (by intro u hu; simp at hu; subst hu; rfl) (by unfold maxLen; omega) (by omega) (by have := hbel.size; simp; omega) ?_; intro v5 w5 hown5 hgrow5 hnil5; obtain ⟨D5, c5, rfl, -⟩ := own_shape hown5; have hB5 : Below w2.heap.size w2 w5 := (hbel.alloc hbel.size _).grown hgrow5 (by have := hbel.size; simp; omega) (fun z e => (hown.lt z e).1); have q25 := (hB5.cell (p := ⟨b2, o2 + j, none⟩) l2).trans p2; have q35 := (hB5.cell (p := ⟨b3, o3 + j, none⟩) l3).trans p3; rw [HF1.out, ← cs_append] at hown5)
          go_roundw
          case rel => exact ⟨j + 1, g, m + 1, D5, c5, by omega, by go_num, rfl, by go_num, rfl, hown5, hg2, hd2, hB5⟩
          case measure => simp [intOf]; omega
    · obtain rfl : j = N := by omega
      have hW := (own_in hown).row
      have hC := hC2.below hbel
      have hBr := hBr2.below hbel
      have hXr := hX.below hbel
      have hB := hB2.trans (hbel.mono hB2.size)
      have hgb : g ≤ 24 := by have := hg.out; omega
      have hmb : m ≤ 24 := by have := hm.out; have := dfF_le (mkF f j) th x j; omega
      have HOK : Hid (DecOk j j (n : Int)) := ⟨rfl, by omega, by have := HN.out; omega, by omega⟩
      clear hown hbel hX hC2 hBr2 hB2
      by_cases hfew : g + 2 * m ≤ k
      · have hc : n ≤ cntT th j := by have := hg.out; have := HN.out; omega
        have hfit : Fit (thX th j j) (thY (mkF f j) th j j) (cntT th j) n ((cntT th j - n) / 2) T := by
          refine ⟨HTA.out.tt, HTA.out.len, ?_⟩
          have h4 := df_cnt (mkF f j) th T j j j (Nat.le_refl _) (Nat.le_refl _)
          rw [fth_all th j j (Nat.le_refl _), ← HX.out, ← hm.out] at h4
          have := hg.out
          have := HN.out
          omega
        have HFIT := Lib.hid hfit
        have HC := Lib.hid hc
        have hfi : (g : Int) + 2 * (m : Int) ≤ (k : Int) := by omega
        clear hfit hc hfew
        go_wp2_with fail
        refine (Decode_fit D B j cd cb n (mkF f j) T th wr hW hBr HOK.out HC.out HFIT.out).mono ?_
        rintro e w5 ⟨T5, c5, rfl, hown5, hb5⟩
        rw [← HX.out, ← hm.out]
        rw [← HX.out] at hown5
        have hT5 := (own_in hown5).row
        have hX5 := hXr.below hb5
        have hB5 := hB.trans (hb5.mono hB.size)
        clear hown5 hb5 hXr hBr hW hB
        go_wp2_with (go_at_call 10; refine (Same_c T5 (some ⟨g1, 0, none⟩) j c5 cx x x _ (by exact hT5) (by exact hX5) rfl).mono ?_; rintro e _ ⟨rfl, q, rfl⟩)
        go_ret
        exact ⟨rfl, below_drewN hB5 _⟩
      · have hfi : ¬ (g : Int) + 2 * (m : Int) ≤ (k : Int) := by omega
        clear hfew
        go_wp2_with fail
        refine (Decode_c D B j cd cb n (mkF f j) th wr hW hBr HOK.out).mono ?_
        rintro e w5 ⟨hres, hb5⟩
        have hB5 := hB.trans (hb5.mono hB.size)
        rcases hres with ⟨T5, c5, P, rfl, hown5, hc, hfit⟩ | ⟨rfl, -⟩
        · obtain ⟨mm, hmm⟩ : ∃ mm, mm = (dfF (mkF f j) th (vals P 0 j) j).length := ⟨_, rfl⟩
          have hle : mm ≤ (cntT th j - n) / 2 := by
            have h4 := df_cnt (mkF f j) th P j j j (Nat.le_refl _) (Nat.le_refl _)
            rw [fth_all th j j (Nat.le_refl _)] at h4
            have := hfit.few
            omega
          have hlei : 2 * (mm : Int) ≤ (k : Int) - (g : Int) := by have := hg.out; have := HN.out; omega
          have hmm24 : mm ≤ 24 := by have := hg.out; omega
          have HP1 := Lib.hid hfit.tt
          have HP2 := Lib.hid hfit.le
          rw [← hmm]
          have hT5 := (own_in hown5).row
          have hT5n : Row w5 T5 n (vals P 0 n) := by
            have h6 := hT5.take (k := n) (by have := HN.out; omega)
            rw [vals_take _ _ _ _ (by have := HN.out; omega)] at h6
            exact h6
          have hc5 := (own_in hown5).le
          have hc5m := (own_in hown5).max
          unfold maxLen at hc5m
          have hnc : (n : Int) ≤ (c5 : Int) := by have := HN.out; omega
          obtain ⟨g5, rfl⟩ := own_some hown5 (by have := HN.out; omega)
          clear hown5 hb5 hXr hBr hW hB hfit hle hmm hc
          go_wp2_with (first
            | (go_at_call 16; refine (Of_at (some ⟨g5, 0, none⟩) n c5 k j P _ (by exact hT5n) (by omega) (by omega) HN.out HP1.out HP2.out).mono ?_; rintro e w6 ⟨g6, c6, rfl, hT6, hb6⟩; have hT56 := hT5.below hb6; have hB6 := hB5.trans (hb6.mono hB5.size))
            | (go_at_call 10; refine (Same_c (some ⟨g6, 0, none⟩) (some ⟨g5, 0, none⟩) j c6 c5 (vals P 0 j) (vals P 0 j) _ (by exact hT6) (by exact hT56) rfl).mono ?_; rintro e _ ⟨rfl, q, rfl⟩))
          go_ret
          exact ⟨rfl, below_drewN hB6 _⟩
        · clear hXr hBr hW hB
          go_wp2
          go_ret
          exact ⟨rfl, hB5⟩
theorem walk_WelchTells (w : World) (A : Option Addr) (n ca : Nat) (a : List F) (ha : RowIn w A n ca a) (k : Int) (_ : (Lit.int .i64 k).wf = true) (C : Option Addr) (N2 cc : Nat) (tn : List F) (hc : RowIn w C N2 cc tn) (B : Option Addr) (N3 cb : Nat) (th : List Bool) (hb : BRow w B N3 th) :
    Calls Try.prog 4 #[.slice A n ca, .int .i64 k, .slice C N2 cc, .slice B N3 cb] w fun e w' => e = .returned (.bool true) ∧ Below w.heap.size w w' := by
  by_cases h : n = 0 ∨ 12 < n ∨ k < 0 ∨ 12 < k ∨ (N2 : Int) ≠ n + k ∨ (N3 : Int) ≠ n + k
  · exact wtells_less A C B n ca N2 cc N3 cb k w ha.row.max h
  · obtain ⟨j, rfl⟩ : ∃ j : Nat, k = j := ⟨k.toNat, by omega⟩
    obtain rfl : N2 = N3 := by omega
    exact wtells_main A C B n ca N2 cc cb j a tn th w ha.row hc.row hb (by omega) (by omega) (by omega) (by omega)
end Go.Proofs.Ytgpmgekaelhelaa
