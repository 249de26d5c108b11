/-
  SEALS: the document's Parse. Rows of at most 1000 bytes.
-/
import Derived.Test.YtbgdoemealddpaaDoorSln
namespace Go.Proofs.YtbgdoemealddpaaDoor
open Go.RowKit
set_option maxRecDepth 100000
set_option linter.unusedVariables false

theorem take4 : ∀ {l : List F}, 4 ≤ l.length → l.take 4 = [gt l 0, gt l 1, gt l 2, gt l 3]
  | [], h => absurd h (by simp)
  | [_], h => absurd h (by simp)
  | [_, _], h => absurd h (by simp)
  | [_, _, _], h => absurd h (by simp)
  | a :: b :: c :: d :: r, _ => rfl
theorem prE_fr {l : List F} {er : Int} (h : frE l = er) (h0 : ¬ er = 0) : prE l = er := by
  unfold prE
  rw [h, if_pos h0]
theorem frE44 {l : List F} (h : l.length < 4 ∨ ¬ l.take 4 = sgn) : frE l = 44 := by
  unfold frE
  rw [if_pos h]
theorem bneS (a : F) (k : Nat) (hk : k < 256) : ((a.n : Int) != (k : Int)) = !decide (a = ofN k) := by
  have h := n_beq2 a (ofN k)
  rw [ofN_n k hk] at h
  rw [bne, h]
set_option maxHeartbeats 8000000 in
theorem RParse_c {w : World} {A : Option Addr} {n c : Nat} {l : List F} (h : RowIn w A n c l) (hn : n ≤ 1000) :
    Calls Tryd.prog 20 #[.slice A n c] w fun e w' => PrA w w' l e := by
  have hlen := h.row.len
  have hba := (Below.refl w.heap.size w).alloc (Nat.le_refl _) (.cells #[.int .i64 0, .int .i64 0, .int .i64 0, .int .i64 0, .int .i64 0, .slice none 0 0] 38)
  have HK0 := Lib.hid (Blk.new w 38 #[.int .i64 0, .int .i64 0, .int .i64 0, .int .i64 0, .int .i64 0, .slice none 0 0])
  have HB0 := Lib.hid hba
  have H0 := Lib.hid (h.below hba)
  have HLE := Lib.hid hlen
  have hcap := h.le
  clear hba hlen
  by_cases h4 : n < 4
  · have h4i : (n : Int) < 4 := by omega
    have HE := Lib.hid (prE_fr (frE44 (l := l) (.inl (by rw [HLE.out]; exact h4))) (by decide))
    clear h H0
    go_enter Tryd.func20, Tryd.ntmps20
    have HP9 : Hid (∀ W', Below w.heap.size w W' → PrA w W' l (.returned (.tuple #[.agg #[.int .i64 0, .int .i64 0, .int .i64 0, .int .i64 0, .int .i64 0, .slice none 0 0], .slice none 0 0, .int .i64 44]))) := fun W' hb => PrA.err (HE.out) (by decide) hb
    have t2 := st_sd HK0.out rfl #[.int .i64 0, .int .i64 0, .int .i64 0, .int .i64 0, .int .i64 0, .slice none 0 0] rfl (by simp [Value.oneCell'])
    have t3 := ld_sd (Blk.setRow HK0.out #[.int .i64 0, .int .i64 0, .int .i64 0, .int .i64 0, .int .i64 0, .slice none 0 0]) rfl
    have HB9 := Lib.hid (below_setRowS HB0.out (Nat.le_refl _) #[.int .i64 0, .int .i64 0, .int .i64 0, .int .i64 0, .int .i64 0, .slice none 0 0])
    go_wp2_with (first  | (with_reducible refine wpList_store_var _ _ _ (by with_unfolding_all rfl) (by with_unfolding_all rfl) t2 ?_))
    refine bodyPost_ret (v := .tuple #[.agg #[.int .i64 0, .int .i64 0, .int .i64 0, .int .i64 0, .int .i64 0, .slice none 0 0], .slice none 0 0, .int .i64 44]) ?_ rfl (HP9.out _ HB9.out)
    rw [results_cell_tt rfl]
    simp [asAddr, Result.andThen, t3]
  · have h4n : ¬ (n : Int) < 4 := by omega
    obtain ⟨b, o, rfl, hbw, _⟩ := h.row.2.2 (by omega : 0 < n)
    have ht4 := take4 (l := l) (by rw [HLE.out]; omega)
    have HT4 := Lib.hid ht4
    have q0 := H0.out.row.at_ (k := 0) (by omega)
    have q1 := H0.out.row.at_ (k := 1) (by omega)
    have q2 := H0.out.row.at_ (k := 2) (by omega)
    have q3 := H0.out.row.at_ (k := 3) (by omega)
    obtain ⟨b0, o0, e0, _, q0⟩ := q0
    cases e0
    obtain ⟨b0, o0, e0, _, q1⟩ := q1
    cases e0
    obtain ⟨b0, o0, e0, _, q2⟩ := q2
    cases e0
    obtain ⟨b0, o0, e0, _, q3⟩ := q3
    cases e0
    rw [Nat.add_zero] at q0
    have c0 : (((gt l 0).n : Int) != 70) = !decide (gt l 0 = ofN 70) := bneS (gt l 0) 70 (by omega)
    have c1 : (((gt l 1).n : Int) != 76) = !decide (gt l 1 = ofN 76) := bneS (gt l 1) 76 (by omega)
    have c2 : (((gt l 2).n : Int) != 82) = !decide (gt l 2 = ofN 82) := bneS (gt l 2) 82 (by omega)
    have c3 : (((gt l 3).n : Int) != 86) = !decide (gt l 3 = ofN 86) := bneS (gt l 3) 86 (by omega)
    have k0 : (0 : Int) < (n : Int) := by omega
    have k1 : (1 : Int) < (n : Int) := by omega
    have k2 : (2 : Int) < (n : Int) := by omega
    have k3 : (3 : Int) < (n : Int) := by omega
    clear ht4
    generalize gt l 0 = x0 at *
    generalize gt l 1 = x1 at *
    generalize gt l 2 = x2 at *
    generalize gt l 3 = x3 at *
    by_cases s0 : x0 = ofN 70
    case neg =>
      rw [decide_eq_false s0] at c0
      have HE := Lib.hid (prE_fr (frE44 (l := l) (.inr (by rw [HT4.out]; intro e; unfold sgn at e; injection e with e0 e1; injection e1 with e1 e2; injection e2 with e2 e3; injection e3 with e3 e4; exact s0 e0))) (by decide))
      clear h H0 HT4 s0
      go_enter Tryd.func20, Tryd.ntmps20
      have HP9 : Hid (∀ W', Below w.heap.size w W' → PrA w W' l (.returned (.tuple #[.agg #[.int .i64 0, .int .i64 0, .int .i64 0, .int .i64 0, .int .i64 0, .slice none 0 0], .slice none 0 0, .int .i64 44]))) := fun W' hb => PrA.err (HE.out) (by decide) hb
      have t2 := st_sd HK0.out rfl #[.int .i64 0, .int .i64 0, .int .i64 0, .int .i64 0, .int .i64 0, .slice none 0 0] rfl (by simp [Value.oneCell'])
      have t3 := ld_sd (Blk.setRow HK0.out #[.int .i64 0, .int .i64 0, .int .i64 0, .int .i64 0, .int .i64 0, .slice none 0 0]) rfl
      have HB9 := Lib.hid (below_setRowS HB0.out (Nat.le_refl _) #[.int .i64 0, .int .i64 0, .int .i64 0, .int .i64 0, .int .i64 0, .slice none 0 0])
      go_wp2_with (first  | (with_reducible refine wpList_store_var _ _ _ (by with_unfolding_all rfl) (by with_unfolding_all rfl) t2 ?_))
      refine bodyPost_ret (v := .tuple #[.agg #[.int .i64 0, .int .i64 0, .int .i64 0, .int .i64 0, .int .i64 0, .slice none 0 0], .slice none 0 0, .int .i64 44]) ?_ rfl (HP9.out _ HB9.out)
      rw [results_cell_tt rfl]
      simp [asAddr, Result.andThen, t3]
    case pos =>
      rw [decide_eq_true s0] at c0
      by_cases s1 : x1 = ofN 76
      case neg =>
        rw [decide_eq_false s1] at c1
        have HE := Lib.hid (prE_fr (frE44 (l := l) (.inr (by rw [HT4.out]; intro e; unfold sgn at e; injection e with e0 e1; injection e1 with e1 e2; injection e2 with e2 e3; injection e3 with e3 e4; exact s1 e1))) (by decide))
        clear h H0 HT4 s0 s1
        go_enter Tryd.func20, Tryd.ntmps20
        have HP9 : Hid (∀ W', Below w.heap.size w W' → PrA w W' l (.returned (.tuple #[.agg #[.int .i64 0, .int .i64 0, .int .i64 0, .int .i64 0, .int .i64 0, .slice none 0 0], .slice none 0 0, .int .i64 44]))) := fun W' hb => PrA.err (HE.out) (by decide) hb
        have t2 := st_sd HK0.out rfl #[.int .i64 0, .int .i64 0, .int .i64 0, .int .i64 0, .int .i64 0, .slice none 0 0] rfl (by simp [Value.oneCell'])
        have t3 := ld_sd (Blk.setRow HK0.out #[.int .i64 0, .int .i64 0, .int .i64 0, .int .i64 0, .int .i64 0, .slice none 0 0]) rfl
        have HB9 := Lib.hid (below_setRowS HB0.out (Nat.le_refl _) #[.int .i64 0, .int .i64 0, .int .i64 0, .int .i64 0, .int .i64 0, .slice none 0 0])
        go_wp2_with (first  | (with_reducible refine wpList_store_var _ _ _ (by with_unfolding_all rfl) (by with_unfolding_all rfl) t2 ?_))
        refine bodyPost_ret (v := .tuple #[.agg #[.int .i64 0, .int .i64 0, .int .i64 0, .int .i64 0, .int .i64 0, .slice none 0 0], .slice none 0 0, .int .i64 44]) ?_ rfl (HP9.out _ HB9.out)
        rw [results_cell_tt rfl]
        simp [asAddr, Result.andThen, t3]
      case pos =>
        rw [decide_eq_true s1] at c1
        by_cases s2 : x2 = ofN 82
        case neg =>
          rw [decide_eq_false s2] at c2
          have HE := Lib.hid (prE_fr (frE44 (l := l) (.inr (by rw [HT4.out]; intro e; unfold sgn at e; injection e with e0 e1; injection e1 with e1 e2; injection e2 with e2 e3; injection e3 with e3 e4; exact s2 e2))) (by decide))
          clear h H0 HT4 s0 s1 s2
          go_enter Tryd.func20, Tryd.ntmps20
          have HP9 : Hid (∀ W', Below w.heap.size w W' → PrA w W' l (.returned (.tuple #[.agg #[.int .i64 0, .int .i64 0, .int .i64 0, .int .i64 0, .int .i64 0, .slice none 0 0], .slice none 0 0, .int .i64 44]))) := fun W' hb => PrA.err (HE.out) (by decide) hb
          have t2 := st_sd HK0.out rfl #[.int .i64 0, .int .i64 0, .int .i64 0, .int .i64 0, .int .i64 0, .slice none 0 0] rfl (by simp [Value.oneCell'])
          have t3 := ld_sd (Blk.setRow HK0.out #[.int .i64 0, .int .i64 0, .int .i64 0, .int .i64 0, .int .i64 0, .slice none 0 0]) rfl
          have HB9 := Lib.hid (below_setRowS HB0.out (Nat.le_refl _) #[.int .i64 0, .int .i64 0, .int .i64 0, .int .i64 0, .int .i64 0, .slice none 0 0])
          go_wp2_with (first  | (with_reducible refine wpList_store_var _ _ _ (by with_unfolding_all rfl) (by with_unfolding_all rfl) t2 ?_))
          refine bodyPost_ret (v := .tuple #[.agg #[.int .i64 0, .int .i64 0, .int .i64 0, .int .i64 0, .int .i64 0, .slice none 0 0], .slice none 0 0, .int .i64 44]) ?_ rfl (HP9.out _ HB9.out)
          rw [results_cell_tt rfl]
          simp [asAddr, Result.andThen, t3]
        case pos =>
          rw [decide_eq_true s2] at c2
          by_cases s3 : x3 = ofN 86
          case neg =>
            rw [decide_eq_false s3] at c3
            have HE := Lib.hid (prE_fr (frE44 (l := l) (.inr (by rw [HT4.out]; intro e; unfold sgn at e; injection e with e0 e1; injection e1 with e1 e2; injection e2 with e2 e3; injection e3 with e3 e4; exact s3 e3))) (by decide))
            clear h H0 HT4 s0 s1 s2 s3
            go_enter Tryd.func20, Tryd.ntmps20
            have HP9 : Hid (∀ W', Below w.heap.size w W' → PrA w W' l (.returned (.tuple #[.agg #[.int .i64 0, .int .i64 0, .int .i64 0, .int .i64 0, .int .i64 0, .slice none 0 0], .slice none 0 0, .int .i64 44]))) := fun W' hb => PrA.err (HE.out) (by decide) hb
            have t2 := st_sd HK0.out rfl #[.int .i64 0, .int .i64 0, .int .i64 0, .int .i64 0, .int .i64 0, .slice none 0 0] rfl (by simp [Value.oneCell'])
            have t3 := ld_sd (Blk.setRow HK0.out #[.int .i64 0, .int .i64 0, .int .i64 0, .int .i64 0, .int .i64 0, .slice none 0 0]) rfl
            have HB9 := Lib.hid (below_setRowS HB0.out (Nat.le_refl _) #[.int .i64 0, .int .i64 0, .int .i64 0, .int .i64 0, .int .i64 0, .slice none 0 0])
            go_wp2_with (first  | (with_reducible refine wpList_store_var _ _ _ (by with_unfolding_all rfl) (by with_unfolding_all rfl) t2 ?_))
            refine bodyPost_ret (v := .tuple #[.agg #[.int .i64 0, .int .i64 0, .int .i64 0, .int .i64 0, .int .i64 0, .slice none 0 0], .slice none 0 0, .int .i64 44]) ?_ rfl (HP9.out _ HB9.out)
            rw [results_cell_tt rfl]
            simp [asAddr, Result.andThen, t3]
          case pos =>
            rw [decide_eq_true s3] at c3
            have hsg : l.take 4 = sgn := by rw [HT4.out, s0, s1, s2, s3]; rfl
            have HSG := Lib.hid hsg
            clear s0 s1 s2 s3 hsg HT4
            have hfr : Hid (frE l = if n < 20 then 20 else if ¬ (atL l 4 2 = 1 ∧ rix (atL l 6 2 : Nat) (atL l 8 2 : Nat) (atL l 12 4 : Nat) (atL l 16 4 : Nat) (atL l 10 2 : Nat) = true) then 21 else 0) := by
              unfold Hid frE
              rw [if_neg (by rw [HLE.out]; intro e; rcases e with e | e; exact h4 e; exact e HSG.out), HLE.out]
            by_cases h20 : n < 20
            case pos =>
              have h20i : (n : Int) < 20 := by omega
              have HE := Lib.hid (prE_fr (hfr.out.trans (if_pos h20)) (by decide))
              clear h H0
              go_enter Tryd.func20, Tryd.ntmps20
              have HP9 : Hid (∀ W', Below w.heap.size w W' → PrA w W' l (.returned (.tuple #[.agg #[.int .i64 0, .int .i64 0, .int .i64 0, .int .i64 0, .int .i64 0, .slice none 0 0], .slice none 0 0, .int .i64 20]))) := fun W' hb => PrA.err (HE.out) (by decide) hb
              have t2 := st_sd HK0.out rfl #[.int .i64 0, .int .i64 0, .int .i64 0, .int .i64 0, .int .i64 0, .slice none 0 0] rfl (by simp [Value.oneCell'])
              have t3 := ld_sd (Blk.setRow HK0.out #[.int .i64 0, .int .i64 0, .int .i64 0, .int .i64 0, .int .i64 0, .slice none 0 0]) rfl
              have HB9 := Lib.hid (below_setRowS HB0.out (Nat.le_refl _) #[.int .i64 0, .int .i64 0, .int .i64 0, .int .i64 0, .int .i64 0, .slice none 0 0])
              go_wp2_with (first  | (with_reducible refine wpList_store_var _ _ _ (by with_unfolding_all rfl) (by with_unfolding_all rfl) t2 ?_))
              refine bodyPost_ret (v := .tuple #[.agg #[.int .i64 0, .int .i64 0, .int .i64 0, .int .i64 0, .int .i64 0, .slice none 0 0], .slice none 0 0, .int .i64 20]) ?_ rfl (HP9.out _ HB9.out)
              rw [results_cell_tt rfl]
              simp [asAddr, Result.andThen, t3]
            case neg =>
              have h20n : ¬ (n : Int) < 20 := by omega
              have hfr2 : Hid (frE l = if ¬ (atL l 4 2 = 1 ∧ rix (atL l 6 2 : Nat) (atL l 8 2 : Nat) (atL l 12 4 : Nat) (atL l 16 4 : Nat) (atL l 10 2 : Nat) = true) then 21 else 0) := hfr.out.trans (if_neg h20)
              have l1 := atL_lt2 l 4
              have l2 := atL_lt2 l 6
              have l3 := atL_lt2 l 8
              have l4 := atL_lt2 l 10
              have l5 := atL_lt4 l 12
              have l6 := atL_lt4 l 16
              have A6 := Lib.hid (at24_c H0.out 6 2 6 2 rfl rfl (by omega) (by omega) (by omega) hn)
              have A8 := Lib.hid (at24_c H0.out 8 2 8 2 rfl rfl (by omega) (by omega) (by omega) hn)
              have A10 := Lib.hid (at24_c H0.out 10 2 10 2 rfl rfl (by omega) (by omega) (by omega) hn)
              have A12 := Lib.hid (at24_c H0.out 12 4 12 4 rfl rfl (by omega) (by omega) (by omega) hn)
              have A16 := Lib.hid (at24_c H0.out 16 4 16 4 rfl rfl (by omega) (by omega) (by omega) hn)
              have HPOK : Hid (frE l = 0 → prE l = if n < hL l then 20 else if ¬ atL l (hL l - 4) 4 = (sum32 (l.take (hL l - 4))).n then 42 else if n < hL l + (8 + atL l 12 4) then 20 else if hL l + (8 + atL l 12 4) < n then 22 else 0) := fun hf => by
                unfold prE
                rw [if_neg (fun e => e hf), HLE.out]
              have hOK := fun (W' : World) (A' : Option Addr) (c' : Nat) (RA : Nat → Option Addr) (RC : Nat → Nat) (C : Option Addr) (L cc : Nat) h0 hG hC hb => PrA.ok (w := w) (w' := W') (l := l) h0 (A := A') (c := c') (RA := RA) (RC := RC) (C := C) (L := L) (cc := cc) hG hC hb
              have HOK := Lib.hid hOK
              have HHL := Lib.hid (show hL l = hdN (atL l 6 2) (atL l 8 2) (qL l) from rfl)
              have HQL := Lib.hid (show qL l = blkN (atL l 12 4) (atL l 16 4) from rfl)
              have H1 := Lib.hid (H0.out.below ((Below.refl (w.alloc (.cells #[.int .i64 0, .int .i64 0, .int .i64 0, .int .i64 0, .int .i64 0, .slice none 0 0] 38)).heap.size (w.alloc (.cells #[.int .i64 0, .int .i64 0, .int .i64 0, .int .i64 0, .int .i64 0, .slice none 0 0] 38))).alloc (Nat.le_refl _) (.cells #[.int .i64 (atL l 6 2 : Nat), .int .i64 (atL l 8 2 : Nat), .int .i64 (atL l 12 4 : Nat), .int .i64 (atL l 16 4 : Nat), .int .i64 (atL l 10 2 : Nat), .slice none 0 0] 38)))
              have A4 := Lib.hid (at24_c H1.out 4 2 4 2 rfl rfl (by omega) (by omega) (by omega) hn)
              have HROW := Lib.hid h
              clear hOK h hfr
              generalize hQ : qL l = Q at *
              generalize hH : hL l = H at *
              generalize atL l 4 2 = v1 at *
              generalize atL l 6 2 = v2 at *
              generalize atL l 8 2 = v3 at *
              generalize atL l 10 2 = v4 at *
              generalize atL l 12 4 = v5 at *
              generalize atL l 16 4 = v6 at *
              have HQE := Lib.hid hQ
              have HHE := Lib.hid hH
              clear hQ hH
              have hw4 : Wf4 v2 v3 v5 v6 := ⟨wfI _ (by omega), wfI _ (by omega), wfI _ (by omega), wfI _ (by omega)⟩
              have HR := Lib.hid (RRight_c hw4)
              have HW4 := Lib.hid hw4
              clear hw4
              go_enter Tryd.func20, Tryd.ntmps20
              go_wp2_with (first
                | (go_at_call 43; with_reducible refine Calls.mono A6.out ?_; rintro e w' ⟨rfl, rfl⟩)
                | (go_at_call 43; with_reducible refine Calls.mono A8.out ?_; rintro e w' ⟨rfl, rfl⟩)
                | (go_at_call 43; with_reducible refine Calls.mono A12.out ?_; rintro e w' ⟨rfl, rfl⟩)
                | (go_at_call 43; with_reducible refine Calls.mono A16.out ?_; rintro e w' ⟨rfl, rfl⟩)
                | (go_at_call 43; with_reducible refine Calls.mono A10.out ?_; rintro e w' ⟨rfl, rfl⟩)
                | fail)
              have HE0 : Hid ((w.alloc (.cells #[.int .i64 0, .int .i64 0, .int .i64 0, .int .i64 0, .int .i64 0, .slice none 0 0] 38)).heap.size = w.heap.size + 1) := by unfold Hid; simp
              rw [← HE0.out]
              clear HE0 A6 A8 A10 A12 A16
              generalize w.alloc (.cells #[.int .i64 0, .int .i64 0, .int .i64 0, .int .i64 0, .int .i64 0, .slice none 0 0] 38) = w0 at *
              have hba := (Below.refl w0.heap.size w0).alloc (Nat.le_refl _) (.cells #[.int .i64 (v2 : Nat), .int .i64 (v3 : Nat), .int .i64 (v5 : Nat), .int .i64 (v6 : Nat), .int .i64 (v4 : Nat), .slice none 0 0] 38)
              have HX1 := Lib.hid (Blk.new w0 38 #[.int .i64 (v2 : Nat), .int .i64 (v3 : Nat), .int .i64 (v5 : Nat), .int .i64 (v6 : Nat), .int .i64 (v4 : Nat), .slice none 0 0])
              have HK1 := Lib.hid (HK0.out.below HK0.out.lt hba)
              have HB1 := Lib.hid (HB0.out.trans (hba.mono HB0.out.size))
              have hg0 : w.heap.size < w0.heap.size := HK0.out.lt
              clear hba HK0 HB0 H0
              obtain ⟨g5, hg5⟩ : ∃ g5, g5 = w0.heap.size := ⟨_, rfl⟩
              rw [← hg5] at HX1 hg0 ⊢
              generalize w0.alloc (.cells #[.int .i64 (v2 : Nat), .int .i64 (v3 : Nat), .int .i64 (v5 : Nat), .int .i64 (v6 : Nat), .int .i64 (v4 : Nat), .slice none 0 0] 38) = W1 at *
              clear hg5
              refine A4.out.mono ?_
              rintro e w' ⟨rfl, rfl⟩
              by_cases hv1 : v1 = 1
              case neg =>
                have hb1 : ((v1 : Int) != 1) = true := by rw [bne_iff_ne]; omega
                have HE := Lib.hid (prE_fr (hfr2.out.trans (if_pos (fun e => hv1 e.1))) (by decide))
                clear hv1
                have HP9 : Hid (∀ W', Below w.heap.size w W' → PrA w W' l (.returned (.tuple #[.agg #[.int .i64 0, .int .i64 0, .int .i64 0, .int .i64 0, .int .i64 0, .slice none 0 0], .slice none 0 0, .int .i64 21]))) := fun W' hb => PrA.err (HE.out) (by decide) hb
                have t2 := st_sd HK1.out rfl #[.int .i64 0, .int .i64 0, .int .i64 0, .int .i64 0, .int .i64 0, .slice none 0 0] rfl (by simp [Value.oneCell'])
                have t3 := ld_sd (Blk.setRow HK1.out #[.int .i64 0, .int .i64 0, .int .i64 0, .int .i64 0, .int .i64 0, .slice none 0 0]) rfl
                have HB9 := Lib.hid (below_setRowS HB1.out (Nat.le_refl _) #[.int .i64 0, .int .i64 0, .int .i64 0, .int .i64 0, .int .i64 0, .slice none 0 0])
                go_wp2_with (first  | (with_reducible refine wpList_store_var _ _ _ (by with_unfolding_all rfl) (by with_unfolding_all rfl) t2 ?_))
                refine bodyPost_ret (v := .tuple #[.agg #[.int .i64 0, .int .i64 0, .int .i64 0, .int .i64 0, .int .i64 0, .slice none 0 0], .slice none 0 0, .int .i64 21]) ?_ rfl (HP9.out _ HB9.out)
                rw [results_cell_tt rfl]
                simp [asAddr, Result.andThen, t3]
              case pos =>
                have hb1 : ((v1 : Int) != 1) = false := by rw [hv1]; rfl
                have z0 := (HX1.out.cell 0).trans (show _ = some (Value.int .i64 (v2 : Nat)) from rfl)
                have z1 := (HX1.out.cell 1).trans (show _ = some (Value.int .i64 (v3 : Nat)) from rfl)
                have z2 := (HX1.out.cell 2).trans (show _ = some (Value.int .i64 (v5 : Nat)) from rfl)
                have z3 := (HX1.out.cell 3).trans (show _ = some (Value.int .i64 (v6 : Nat)) from rfl)
                have HV1 := Lib.hid hv1
                clear hv1
                go_wp2_with fail
                refine (HR.out _).mono ?_
                rintro e W2 ⟨rfl, hb2⟩
                have HX2 := Lib.hid (HX1.out.below HX1.out.lt hb2)
                have HK2 := Lib.hid (HK1.out.below HK1.out.lt hb2)
                have HB2 := Lib.hid (HB1.out.trans (hb2.mono HB1.out.size))
                have H2 := Lib.hid (H1.out.below hb2)
                clear hb2 z0 z1 z2 z3 HX1 HK1 HB1 H1 HR A4
                cases hr : right23 v2 v3 v5 v6 with
                | false =>
                  have HE := Lib.hid (prE_fr (hfr2.out.trans (if_pos (fun e => by have h9 := (rix_parts e.2).1; rw [hr] at h9; cases h9))) (by decide))
                  clear hr
                  have HP9 : Hid (∀ W', Below w.heap.size w W' → PrA w W' l (.returned (.tuple #[.agg #[.int .i64 0, .int .i64 0, .int .i64 0, .int .i64 0, .int .i64 0, .slice none 0 0], .slice none 0 0, .int .i64 21]))) := fun W' hb => PrA.err (HE.out) (by decide) hb
                  have t2 := st_sd HK2.out rfl #[.int .i64 0, .int .i64 0, .int .i64 0, .int .i64 0, .int .i64 0, .slice none 0 0] rfl (by simp [Value.oneCell'])
                  have t3 := ld_sd (Blk.setRow HK2.out #[.int .i64 0, .int .i64 0, .int .i64 0, .int .i64 0, .int .i64 0, .slice none 0 0]) rfl
                  have HB9 := Lib.hid (below_setRowS HB2.out (Nat.le_refl _) #[.int .i64 0, .int .i64 0, .int .i64 0, .int .i64 0, .int .i64 0, .slice none 0 0])
                  go_wp2_with (first  | (with_reducible refine wpList_store_var _ _ _ (by with_unfolding_all rfl) (by with_unfolding_all rfl) t2 ?_))
                  refine bodyPost_ret (v := .tuple #[.agg #[.int .i64 0, .int .i64 0, .int .i64 0, .int .i64 0, .int .i64 0, .slice none 0 0], .slice none 0 0, .int .i64 21]) ?_ rfl (HP9.out _ HB9.out)
                  rw [results_cell_tt rfl]
                  simp [asAddr, Result.andThen, t3]
                | true =>
                  have y0 := (HX2.out.cell 0).trans (show _ = some (Value.int .i64 (v2 : Nat)) from rfl)
                  have y1 := (HX2.out.cell 1).trans (show _ = some (Value.int .i64 (v3 : Nat)) from rfl)
                  have y2 := (HX2.out.cell 2).trans (show _ = some (Value.int .i64 (v5 : Nat)) from rfl)
                  have y3 := (HX2.out.cell 3).trans (show _ = some (Value.int .i64 (v6 : Nat)) from rfl)
                  have y4 := (HX2.out.cell 4).trans (show _ = some (Value.int .i64 (v4 : Nat)) from rfl)
                  by_cases hik : v4 < v3
                  case neg =>
                    have hiki : (v3 : Int) ≤ (v4 : Int) := by omega
                    have HE := Lib.hid (prE_fr (hfr2.out.trans (if_pos (fun e => by have h9 := (rix_parts e.2).2.2; omega))) (by decide))
                    clear hr hik
                    have HP9 : Hid (∀ W', Below w.heap.size w W' → PrA w W' l (.returned (.tuple #[.agg #[.int .i64 0, .int .i64 0, .int .i64 0, .int .i64 0, .int .i64 0, .slice none 0 0], .slice none 0 0, .int .i64 21]))) := fun W' hb => PrA.err (HE.out) (by decide) hb
                    have t2 := st_sd HK2.out rfl #[.int .i64 0, .int .i64 0, .int .i64 0, .int .i64 0, .int .i64 0, .slice none 0 0] rfl (by simp [Value.oneCell'])
                    have t3 := ld_sd (Blk.setRow HK2.out #[.int .i64 0, .int .i64 0, .int .i64 0, .int .i64 0, .int .i64 0, .slice none 0 0]) rfl
                    have HB9 := Lib.hid (below_setRowS HB2.out (Nat.le_refl _) #[.int .i64 0, .int .i64 0, .int .i64 0, .int .i64 0, .int .i64 0, .slice none 0 0])
                    go_wp2_with (first  | (with_reducible refine wpList_store_var _ _ _ (by with_unfolding_all rfl) (by with_unfolding_all rfl) t2 ?_))
                    refine bodyPost_ret (v := .tuple #[.agg #[.int .i64 0, .int .i64 0, .int .i64 0, .int .i64 0, .int .i64 0, .slice none 0 0], .slice none 0 0, .int .i64 21]) ?_ rfl (HP9.out _ HB9.out)
                    rw [results_cell_tt rfl]
                    simp [asAddr, Result.andThen, t3]
                  case pos =>
                    have hiki : ¬ (v3 : Int) ≤ (v4 : Int) := by omega
                    have hf0 : frE l = 0 := hfr2.out.trans (if_neg (fun e => e ⟨HV1.out, by unfold rix; rw [hr, decide_eq_true (by omega : (0 : Int) ≤ v4), decide_eq_true (by omega : (v4 : Int) < v3)]; rfl⟩))
                    have HP := Lib.hid (HPOK.out hf0)
                    have HBk := RBlocks_c HW4.out hr
                    have HHd := RHead_c HW4.out hr
                    change ∀ w, Calls _ _ _ w fun e w' => e = .returned (.int .i64 ((blkN v5 v6 : Nat) : Int)) ∧ _ at HBk
                    rw [← HQL.out] at HBk HHd
                    rw [← HHL.out] at HHd
                    have HBK := Lib.hid HBk
                    have HHD := Lib.hid HHd
                    have hx := of_decide_eq_true hr
                    have hQ1 : 1 ≤ Q := by rw [HQL.out]; exact blkN_pos (by omega)
                    have hnk : v2 + v3 ≤ 255 := by omega
                    have hn1 : 1 ≤ v2 := by omega
                    have hHs := smN_eq Q v2 v3
                    rw [← HHL.out] at hHs
                    have hqm : 1 * (1 * 4) ≤ (v2 + v3) * (Q * 4) := Nat.mul_le_mul (by omega) (by omega)
                    change 1 * (1 * 4) ≤ smN Q (v2 + v3) at hqm
                    have hH28 : 28 ≤ H := by omega
                    have HHS := Lib.hid hHs
                    clear hr hik hf0 HBk HHd hx hHs hqm
                    go_wp2_with fail
                    refine (HBK.out _).mono ?_
                    rintro e W3 ⟨rfl, hb3⟩
                    have HX3 := Lib.hid (HX2.out.below HX2.out.lt hb3)
                    have HK3 := Lib.hid (HK2.out.below HK2.out.lt hb3)
                    have HB3 := Lib.hid (HB2.out.trans (hb3.mono HB2.out.size))
                    clear hb3 y0 y1 y2 y3 y4 HX2 HK2 HB2 H2
                    have y0 := (HX3.out.cell 0).trans (show _ = some (Value.int .i64 (v2 : Nat)) from rfl)
                    have y1 := (HX3.out.cell 1).trans (show _ = some (Value.int .i64 (v3 : Nat)) from rfl)
                    have y2 := (HX3.out.cell 2).trans (show _ = some (Value.int .i64 (v5 : Nat)) from rfl)
                    have y3 := (HX3.out.cell 3).trans (show _ = some (Value.int .i64 (v6 : Nat)) from rfl)
                    go_wp2_with fail
                    refine (HHD.out _).mono ?_
                    rintro e W4 ⟨rfl, hb4⟩
                    have HX4 := Lib.hid (HX3.out.below HX3.out.lt hb4)
                    have HK4 := Lib.hid (HK3.out.below HK3.out.lt hb4)
                    have HB4 := Lib.hid (HB3.out.trans (hb4.mono HB3.out.size))
                    clear hb4 y0 y1 y2 y3 HX3 HK3 HB3
                    by_cases hs : n < H
                    case pos =>
                      have hsi : (n : Int) < (H : Int) := by omega
                      have HE := Lib.hid (HP.out.trans (if_pos hs))
                      have HP9 : Hid (∀ W', Below w.heap.size w W' → PrA w W' l (.returned (.tuple #[.agg #[.int .i64 0, .int .i64 0, .int .i64 0, .int .i64 0, .int .i64 0, .slice none 0 0], .slice none 0 0, .int .i64 20]))) := fun W' hb => PrA.err (HE.out) (by decide) hb
                      have t2 := st_sd HK4.out rfl #[.int .i64 0, .int .i64 0, .int .i64 0, .int .i64 0, .int .i64 0, .slice none 0 0] rfl (by simp [Value.oneCell'])
                      have t3 := ld_sd (Blk.setRow HK4.out #[.int .i64 0, .int .i64 0, .int .i64 0, .int .i64 0, .int .i64 0, .slice none 0 0]) rfl
                      have HB9 := Lib.hid (below_setRowS HB4.out (Nat.le_refl _) #[.int .i64 0, .int .i64 0, .int .i64 0, .int .i64 0, .int .i64 0, .slice none 0 0])
                      go_wp2_with (first  | (with_reducible refine wpList_store_var _ _ _ (by with_unfolding_all rfl) (by with_unfolding_all rfl) t2 ?_))
                      refine bodyPost_ret (v := .tuple #[.agg #[.int .i64 0, .int .i64 0, .int .i64 0, .int .i64 0, .int .i64 0, .slice none 0 0], .slice none 0 0, .int .i64 20]) ?_ rfl (HP9.out _ HB9.out)
                      rw [results_cell_tt rfl]
                      simp [asAddr, Result.andThen, t3]
                    case neg =>
                      have hsn : ¬ (n : Int) < (H : Int) := by omega
                      have dH : decide (n < H) = false := decide_eq_false hs
                      have hPE := Lib.hid (HP.out.trans (if_neg hs))
                      have S0 := Lib.hid (PdS.mk (Q := Q) (l := l) (RA := fun _ => none) (RC := fun _ => 0) HX4.out HK4.out (GRws.nil W4 (g5 + 1)) hg0 HB4.out)
                      clear HX4 HK4 HB4 HP hs
                      obtain ⟨i1, hi1, hy0, hy1, hy2⟩ := info_parts info_u32
                      obtain ⟨i0, hi, hz0, hz1, hz2⟩ := info_parts info_words
                      have s0 : IntKind.i64.wrap ((v2 : Int) + (v3 : Int)) = (v2 : Int) + (v3 : Int) := IntWalk.i64_in _ (by omega)
                      have hHn : H ≤ n := by omega
                      go_wp2_with fail
                      go_loopw [8] (fun iv wr => ∃ (r : Nat) (A' : Option Addr) (c' : Nat) (RA : Nat → Option Addr) (RC : Nat → Nat), r ≤ v2 + v3 ∧ iv = .int .i64 r ∧ Hid (PdS w wr g5 v2 v3 v5 v6 v4 l Q r A' c' RA RC)) (fun iv _ => v2 + v3 - (intOf iv).toNat)
                      case atStart => exact ⟨0, none, 0, _, _, by omega, rfl, S0⟩
                      case round =>
                        obtain ⟨r, A', c', RA, RC, hr, rfl, hS⟩ := hrel
                        obtain ⟨W5, hW5⟩ : ∃ W5, W5 = wr := ⟨_, rfl⟩
                        subst hW5
                        have y0 := (hS.out.box.cell 0).trans (show _ = some (Value.int .i64 (v2 : Nat)) from rfl)
                        have y1 := (hS.out.box.cell 1).trans (show _ = some (Value.int .i64 (v3 : Nat)) from rfl)
                        by_cases hlt : r < v2 + v3
                        · have hrm : (r : Int) < (v2 : Int) + (v3 : Int) := by omega
                          obtain ⟨X, hX⟩ : ∃ X, X = r * Q := ⟨_, rfl⟩
                          have hXl : 4 * (X + Q) + 24 ≤ n := by
                            have h1 : (r + 1) * (Q * 4) ≤ (v2 + v3) * (Q * 4) := Nat.mul_le_mul_right _ hlt
                            have h2 := HHS.out
                            unfold smN at h2
                            rw [Nat.add_mul r 1, Nat.one_mul, ← Nat.mul_assoc r, ← hX] at h1
                            omega
                          have m1 : IntKind.i64.wrap ((r : Int) * (Q : Int)) = (X : Int) := by
                            have h1 : (r : Int) * (Q : Int) = (X : Int) := by rw [hX]; exact (Int.natCast_mul r Q).symm
                            exact (IntWalk.i64_in _ (by rw [h1]; omega)).trans h1
                          have HX := Lib.hid hX
                          clear hX
                          have hlo5 := hS.out.lo
                          go_wp2
                          clear y0 y1
                          go_loopw [9, 10] (fun rv jv wr => ∃ (j g c2 : Nat), j ≤ Q ∧ jv = .int .i64 j ∧ rv = .slice (some ⟨g, 0, none⟩) j c2 ∧ Hid (wr.ownsRow W5.heap.size 54 1 (.slice (some ⟨g, 0, none⟩) j c2) j (gs ((tdR (l.drop 20) Q r).take j))) ∧ Hid (Below W5.heap.size W5 wr)) (fun _ jv _ => Q - (intOf jv).toNat)
                          case atStart => exact ⟨0, W5.heap.size, 0, by omega, rfl, rfl, World.ownsRow_made (e := 54) (size := 1) W5 #[] 0 (Nat.le_refl _) (Nat.zero_le _) rfl, (Below.refl _ _).alloc (Nat.le_refl _) _⟩
                          case round =>
                            obtain ⟨j, g, c2, hj, rfl, rfl, hO, hB⟩ := hrel
                            by_cases hjl : j < Q
                            · have hjQ : (j : Int) < Q := by omega
                              have HRr := Lib.hid (HROW.out.below (hS.out.bel.trans (hB.out.mono hS.out.bel.size)))
                              have HAT := Lib.hid (at24_c HRr.out (20 + 4 * (X + j)) 4 (20 + 4 * ((X : Int) + (j : Int))) 4 (by omega) rfl (by omega) (by omega) (by omega) hn)
                              have hva : Hid (atL l (20 + 4 * (X + j)) 4 = atL (l.drop 20) (4 * (r * Q + j)) 4) := by unfold Hid; rw [HX.out, atL_drop]
                              have hsc := Lib.hid (tdR_succ (l.drop 20) (r := r) hjl)
                              rw [← hva.out] at hsc
                              have hlv := atL_lt4 l (20 + 4 * (X + j))
                              generalize atL l (20 + 4 * (X + j)) 4 = v at *
                              have hvg : ((ofG v).n : Int) = (v : Int) := by rw [ofG_n _ hlv]
                              have HVG := Lib.hid hvg
                              clear hva hvg
                              have m2 : IntKind.i64.wrap ((X : Int) + (j : Int)) = (X : Int) + (j : Int) := IntWalk.i64_in _ (by omega)
                              have m3 : IntKind.i64.wrap ((4 : Int) * ((X : Int) + (j : Int))) = (4 : Int) * ((X : Int) + (j : Int)) := IntWalk.i64_in _ (by omega)
                              have m4 : IntKind.i64.wrap ((20 : Int) + (4 : Int) * ((X : Int) + (j : Int))) = (20 : Int) + (4 : Int) * ((X : Int) + (j : Int)) := IntWalk.i64_in _ (by omega)
                              have u1 : IntKind.u32.wrap (v : Int) = (v : Int) := by show (v : Int) % 4294967296 = _; omega
                              have hsz := hB.out.size
                              have hgl := (hO.out.lt g rfl).1
                              go_wp2_with (first
                                | (go_at_call 43; refine HAT.out.mono ?_; rintro e w' ⟨rfl, rfl⟩)
                                | (at_builtin; refine wpList_append_lies _ rfl (.tmp 101) (.tmp 112) 56 rfl W5.heap.size 54 i1 (.int .u32 0) 1 4 Tryd.underlying56 hi1 hy0 hy1 hy2 rfl (by decide) (.slice (some ⟨g, 0, none⟩) j c2) j (gs ((tdR (l.drop 20) Q r).take j)) rfl (hO.out.alloc _) ⟨wr.heap.size, 0, none⟩ 1 1 [.int .u32 (v : Int)] rfl rfl (one_cell6 wr _ _) (by intro u hu; simp at hu; subst hu; rfl) (by omega) (by unfold maxLen; omega) (by omega) (by simp; omega) (wr.heap.size + 1) (by simp) ?_; intro g6 c6 w6 hown6 hg6 hat6 hlt6))
                              have HO6 : Hid (w6.ownsRow W5.heap.size 54 1 (.slice (some ⟨g6, 0, none⟩) (j + 1) c6) (j + 1) (gs ((tdR (l.drop 20) Q r).take (j + 1)))) := by
                                unfold Hid
                                rw [hsc.out, gs_append]
                                refine cast (congrArg _ ?_) hown6
                                show _ ++ _ = _ ++ [Value.int .u32 ((ofG v).n : Int)]
                                rw [HVG.out]
                              have HB6 : Hid (Below W5.heap.size W5 w6) := (hB.out.alloc (by omega) _).grown hg6 (by simp; omega) (fun x hx => by injection hx with hx; subst hx; exact hgl)
                              clear hown6 hg6 hat6 hlt6
                              go_wp2
                              go_roundw
                              case rel => exact ⟨j + 1, g6, c6, by omega, by go_num, rfl, HO6, HB6⟩
                              case measure => simp [intOf]; omega
                            · obtain rfl : j = Q := by omega
                              have ht : (tdR (l.drop 20) j r).take j = tdR (l.drop 20) j r := List.take_of_length_le (by rw [tdR_length]; exact Nat.le_refl _)
                              rw [ht] at hO
                              have S6 := Lib.hid (hS.out.below hB.out)
                              have hcp := own_caps6 hO.out
                              have hglt := hO.out.lt g rfl
                              have hsz := hB.out.size
                              have x5 := (S6.out.box.cell 5).trans (show _ = some (Value.slice A' r c') from rfl)
                              have hst : ∀ k, (Value.slice A' r c').ownBlock = some k → k < W5.heap.size := fun k e => (hS.out.rws.own.lt k e).2
                              clear ht
                              go_wp2_with (at_builtin; refine wpList_append_lies _ rfl (.tmp 115) (.tmp 117) 24 rfl (g5 + 1) 56 i0 (.slice none 0 0) 1 24 Tryd.underlying24 hi hz0 hz1 hz2 rfl (by decide) (.slice A' r c') r (vs (slg RA (fun _ => j) RC) r) rfl (S6.out.rws.own.alloc _) ⟨wr.heap.size, 0, none⟩ 1 1 [.slice (some ⟨g, 0, none⟩) j c2] rfl rfl (one_cell6 wr _ _) (by intro u hu; simp at hu; subst hu; rfl) (by omega) (by unfold maxLen; omega) (by omega) (by have := S6.out.box.lt; simp; omega) (wr.heap.size + 1) (by simp) ?_; intro g7 c7 w7 hown7 hg7 hat7 hlt7; have hba7 := (Below.refl wr.heap.size wr).alloc (Nat.le_refl _) (.cells #[.slice (some ⟨g, 0, none⟩) j c2] 56); have hne5 : (Value.slice A' r c').ownBlock ≠ some g5 := (fun e => by have := (S6.out.rws.own.lt g5 e).1; omega); have hne0 : (Value.slice A' r c').ownBlock ≠ some w.heap.size := (fun e => by have := (S6.out.rws.own.lt _ e).1; omega); have BX7 := Lib.hid ((S6.out.box.below S6.out.box.lt hba7).kept hg7 ⟨(S6.out.box.below S6.out.box.lt hba7).lt, hne5⟩); have x7 := (BX7.out.cell 5).trans (show _ = some (Value.slice A' r c') from rfl); have f7 := BX7.out.frozen 5)
                              have hlt5 : g5 < W5.heap.size := hS.out.box.lt
                              have G7 := S6.out.rws.push (L' := j) (R' := tdR (l.drop 20) j r) (GRow.of_own hO.out) hcp.1 (by unfold maxLen; exact hcp.2) (fun h0 x e => by
                                injection e with e
                                subst e
                                exact ⟨by show g5 + 1 ≤ g; omega, fun e => by have h9 := hst g e; omega⟩) hba7 hown7 hg7 (by
                                rcases hat7 with h | h
                                · left
                                  exact h.symm
                                · right
                                  intro y hy
                                  injection hy with hy
                                  subst hy
                                  show _ ≤ g7
                                  rw [h]
                                  simp)
                              have G8 := (G7.congr (RL' := fun _ => j) (R' := tdR (l.drop 20) j) (fun r' hr' => by
                                by_cases e : r' = r
                                · subst e; exact GRws.upd_at _ _ _
                                · exact GRws.upd_lt _ _ (by omega)) (fun r' hr' => by
                                by_cases e : r' = r
                                · subst e; exact GRws.upd_at _ _ _
                                · exact GRws.upd_lt _ _ (by omega))).setLow (g := g5) (i := 5) (by omega) (by omega) (.slice (some ⟨g7, 0, none⟩) (r + 1) c7)
                              have S9 : Hid (PdS w (w7.setCell ⟨g5, 5, none⟩ (.slice (some ⟨g7, 0, none⟩) (r + 1) c7)) g5 v2 v3 v5 v6 v4 l j (r + 1) (some ⟨g7, 0, none⟩) c7 (GRws.upd RA r (some ⟨g, 0, none⟩)) (GRws.upd RC r c2)) :=
                                ⟨BX7.out.set_ 5 _, ((S6.out.res.below S6.out.res.lt hba7).kept hg7 ⟨(S6.out.res.below S6.out.res.lt hba7).lt, hne0⟩).setOther (a := ⟨g5, 5, none⟩) (by show w.heap.size ≠ g5; omega) _, G8, hg0, ((S6.out.bel.alloc S6.out.bel.size _).grown hg7 (by have := S6.out.bel.size; simp; omega) (fun x hx => by have := (S6.out.rws.own.lt x hx).1; omega)).setCell (by show w.heap.size ≤ g5; omega) _⟩
                              clear G7 G8 hown7 hg7 hat7 hlt7 hba7 BX7 x7 f7 x5 hst hcp hglt
                              go_wp2
                              go_roundw
                              case rel => exact ⟨r + 1, _, c7, _, _, by omega, by go_num, S9⟩
                              case measure => simp [intOf]; omega
                        · obtain rfl : r = v2 + v3 := by omega
                          have hrm : ¬ ((v2 + v3 : Nat) : Int) < (v2 : Int) + (v3 : Int) := by omega
                          obtain ⟨P4, hP4⟩ : ∃ P4, P4 = H - 4 := ⟨_, rfl⟩
                          have hH4 : IntKind.i64.wrap ((H : Int) - 4) = (P4 : Int) := (IntWalk.i64_in _ (by omega)).trans (by omega)
                          have hP4c : (P4 : Int) ≤ (c : Int) := by omega
                          have hP4a : P4 + 4 = H := by omega
                          have hE2 : Hid (prE l = if ¬ atL l P4 4 = (sum32 (l.take P4)).n then 42 else if n < H + (8 + v5) then 20 else if H + (8 + v5) < n then 22 else 0) := by
                            unfold Hid
                            rw [hPE.out, ← hP4]
                          have HRr := Lib.hid (HROW.out.below hS.out.bel)
                          have HAT := Lib.hid (at24_c (HRr.out.drewN 1) P4 4 (P4 : Int) 4 rfl rfl (by omega) (by omega) (by omega) hn)
                          have HSM := Lib.hid (RefSum_c (some ⟨b, o, none⟩) P4 c (l.take P4) W5.drew ((HRr.out.row.take (by omega)).drew))
                          have hlv := atL_lt4 l P4
                          have hsl := (sum32 (l.take P4)).lt
                          generalize hva : atL l P4 4 = va at *
                          generalize hvb : (sum32 (l.take P4)).n = vb at *
                          have u1 : IntKind.u32.wrap (va : Int) = (va : Int) := by show (va : Int) % 4294967296 = _; omega
                          clear hva hvb hP4
                          have HKd : Hid (Blk W5.drew w.heap.size 38 #[.int .i64 0, .int .i64 0, .int .i64 0, .int .i64 0, .int .i64 0, .slice none 0 0]) := hS.out.res
                          have HBd : Hid (Below w.heap.size w W5.drew) := below_drewN hS.out.bel 1
                          have HXd : Hid (Blk W5.drew g5 38 #[.int .i64 (v2 : Nat), .int .i64 (v3 : Nat), .int .i64 (v5 : Nat), .int .i64 (v6 : Nat), .int .i64 (v4 : Nat), .slice A' (v2 + v3) c']) := hS.out.box
                          by_cases hvv : va = vb
                          case neg =>
                            have hne : ((va : Int) != (vb : Int)) = true := by rw [bne_iff_ne]; omega
                            have HE := Lib.hid (hE2.out.trans (if_pos hvv))
                            clear hvv
                            go_wp2_with fail
                            refine wp_region_held_drew (S := fun W' => True) (by kernel_rfl) ?_ (fun hHeld => ?_)
                            · trivial
                            refine wpAnyH_take (i := 0) (oi := { dst := some 120, op := _, type := _, pos := _, after := _, guard := _ }) (v := ?_) rfl (by kernel_rfl) (by kernel_rfl) (by kernel_rfl) (fun _ _ _ h => h) (Or.inl ⟨by rfl, ?_⟩) (by assumption) ?_
                            rotate_left
                            · intro w' hSw
                              try dsimp only at hSw
                              go_simp
                              try with_reducible rfl
                            try simp only [Act.put, List.setIfInBounds_toArray, List.set_cons_zero, List.set_cons_succ]
                            refine wpAnyH_take (i := 1) (oi := { dst := some 121, op := _, type := _, pos := _, after := _, guard := _ }) (v := ?_) rfl (by kernel_rfl) (by kernel_rfl) (by kernel_rfl) (fun _ _ _ h => h) (Or.inl ⟨by rfl, ?_⟩) (by assumption) ?_
                            rotate_left
                            · intro w' hSw
                              try dsimp only at hSw
                              go_simp
                              try with_reducible rfl
                            try simp only [Act.put, List.setIfInBounds_toArray, List.set_cons_zero, List.set_cons_succ]
                            refine wpAnyH_take (i := 2) (oi := { dst := some 122, op := _, type := _, pos := _, after := _, guard := _ }) (v := ?_) rfl (by kernel_rfl) (by kernel_rfl) (by kernel_rfl) (fun _ _ _ h => h) (Or.inl ⟨by rfl, ?_⟩) (by assumption) ?_
                            rotate_left
                            · intro w' hSw
                              try dsimp only at hSw
                              go_simp
                              try with_reducible rfl
                            try simp only [Act.put, List.setIfInBounds_toArray, List.set_cons_zero, List.set_cons_succ]
                            refine wpAnyH_take (i := 5) (oi := { dst := some 125, op := _, type := _, pos := _, after := _, guard := _ }) (v := ?_) rfl (by kernel_rfl) (by kernel_rfl) (by kernel_rfl) (fun _ _ _ h => h) (Or.inl ⟨by rfl, ?_⟩) (by assumption) ?_
                            rotate_left
                            · intro w' hSw
                              try dsimp only at hSw
                              go_simp
                              try with_reducible rfl
                            try simp only [Act.put, List.setIfInBounds_toArray, List.set_cons_zero, List.set_cons_succ]
                            refine wpAnyH_take (i := 6) (oi := { dst := some 126, op := _, type := _, pos := _, after := _, guard := _ }) (v := ?_) rfl (by kernel_rfl) (by kernel_rfl) (by kernel_rfl) (fun _ _ _ h => h) (Or.inl ⟨by rfl, ?_⟩) (by assumption) ?_
                            rotate_left
                            · intro w' hSw
                              try dsimp only at hSw
                              go_simp
                              try with_reducible rfl
                            try simp only [Act.put, List.setIfInBounds_toArray, List.set_cons_zero, List.set_cons_succ]
                            refine wpAnyH_take (i := 7) (oi := { dst := some 127, op := _, type := _, pos := _, after := _, guard := _ }) (v := ?_) rfl (by kernel_rfl) (by kernel_rfl) (by kernel_rfl) (fun _ _ _ h => h) (Or.inl ⟨by rfl, ?_⟩) (by assumption) ?_
                            rotate_left
                            · intro w' hSw
                              try dsimp only at hSw
                              go_simp
                              try with_reducible rfl
                            try simp only [Act.put, List.setIfInBounds_toArray, List.set_cons_zero, List.set_cons_succ]
                            refine wpAnyH_take (i := 8) (oi := { dst := some 128, op := _, type := _, pos := _, after := _, guard := _ }) (v := ?_) rfl (by kernel_rfl) (by kernel_rfl) (by kernel_rfl) (fun _ _ _ h => h) (Or.inl ⟨by rfl, ?_⟩) (by assumption) ?_
                            rotate_left
                            · intro w' hSw
                              try dsimp only at hSw
                              go_simp
                              try with_reducible rfl
                            try simp only [Act.put, List.setIfInBounds_toArray, List.set_cons_zero, List.set_cons_succ]
                            refine wpAnyH_ready (rs := [3]) (by kernel_rfl) (by simp) ?_
                            refine AllReadyH.cons (o := { dst := some 123, op := _, type := _, pos := _, after := _, guard := _ }) rfl (fun K hK => ?_) AllReadyH.nil
                            go_simp
                            go_at_call 43
                            refine HAT.out.mono ?_
                            rintro e w8 ⟨rfl, rfl⟩
                            try go_wp2_with fail
                            refine hK.out _ _ ?_ (fun hHeld => ?_)
                            · trivial
                            clear hK K
                            try simp only [Act.put, List.setIfInBounds_toArray, List.set_cons_zero, List.set_cons_succ]
                            refine wpAnyH_take (i := 4) (oi := { dst := some 124, op := _, type := _, pos := _, after := _, guard := _ }) (v := ?_) rfl (by kernel_rfl) (by kernel_rfl) (by kernel_rfl) (fun _ _ _ h => h) (Or.inl ⟨by rfl, ?_⟩) (by assumption) ?_
                            rotate_left
                            · intro w' hSw
                              try dsimp only at hSw
                              go_simp
                              try with_reducible rfl
                            try simp only [Act.put, List.setIfInBounds_toArray, List.set_cons_zero, List.set_cons_succ]
                            refine wpAnyH_ready (rs := [9]) (by kernel_rfl) (by simp) ?_
                            refine AllReadyH.cons (o := { dst := some 129, op := _, type := _, pos := _, after := _, guard := _ }) rfl (fun K hK => ?_) AllReadyH.nil
                            go_simp
                            go_at_call 32
                            refine HSM.out.mono ?_
                            rintro e w8 ⟨rfl, rfl⟩
                            try go_wp2_with fail
                            refine hK.out _ _ ?_ (fun hHeld => ?_)
                            · trivial
                            clear hK K
                            try simp only [Act.put, List.setIfInBounds_toArray, List.set_cons_zero, List.set_cons_succ]
                            refine wpAnyH_take (i := 10) (oi := { dst := some 130, op := _, type := _, pos := _, after := _, guard := _ }) (v := ?_) rfl (by kernel_rfl) (by kernel_rfl) (by kernel_rfl) (fun _ _ _ h => h) (Or.inl ⟨by rfl, ?_⟩) (by assumption) ?_
                            rotate_left
                            · intro w' hSw
                              try dsimp only at hSw
                              go_simp
                              try with_reducible rfl
                            try simp only [Act.put, List.setIfInBounds_toArray, List.set_cons_zero, List.set_cons_succ]
                            refine wpAnyH_done (by kernel_rfl) ?_ _
                            have HP9 : Hid (∀ W', Below w.heap.size w W' → PrA w W' l (.returned (.tuple #[.agg #[.int .i64 0, .int .i64 0, .int .i64 0, .int .i64 0, .int .i64 0, .slice none 0 0], .slice none 0 0, .int .i64 42]))) := fun W' hb => PrA.err (HE.out) (by decide) hb
                            have t2 := st_sd HKd.out rfl #[.int .i64 0, .int .i64 0, .int .i64 0, .int .i64 0, .int .i64 0, .slice none 0 0] rfl (by simp [Value.oneCell'])
                            have t3 := ld_sd (Blk.setRow HKd.out #[.int .i64 0, .int .i64 0, .int .i64 0, .int .i64 0, .int .i64 0, .slice none 0 0]) rfl
                            have HB9 := Lib.hid (below_setRowS HBd.out (Nat.le_refl _) #[.int .i64 0, .int .i64 0, .int .i64 0, .int .i64 0, .int .i64 0, .slice none 0 0])
                            go_wp2_with (first  | (with_reducible refine wpList_store_var _ _ _ (by with_unfolding_all rfl) (by with_unfolding_all rfl) t2 ?_))
                            refine bodyPost_ret (v := .tuple #[.agg #[.int .i64 0, .int .i64 0, .int .i64 0, .int .i64 0, .int .i64 0, .slice none 0 0], .slice none 0 0, .int .i64 42]) ?_ rfl (HP9.out _ HB9.out)
                            rw [results_cell_tt rfl]
                            simp [asAddr, Result.andThen, t3]
                          case pos =>
                            have hne : ((va : Int) != (vb : Int)) = false := by rw [hvv]; simp
                            have hE3 := Lib.hid (hE2.out.trans (if_neg (fun e => e hvv)))
                            have y2 := (HXd.out.cell 2).trans (show _ = some (Value.int .i64 (v5 : Nat)) from rfl)
                            have s8 : IntKind.i64.wrap ((H : Int) + 8) = (H : Int) + 8 := IntWalk.i64_in _ (by omega)
                            have s9 : IntKind.i64.wrap ((H : Int) + 8 + (v5 : Int)) = (H : Int) + 8 + (v5 : Int) := IntWalk.i64_in _ (by omega)
                            clear hvv
                            by_cases hw1 : n < H + (8 + v5)
                            case pos =>
                              have hw1i : (n : Int) < (H : Int) + 8 + (v5 : Int) := by omega
                              have HE := Lib.hid (hE3.out.trans (if_pos hw1))
                              go_wp2_with fail
                              refine wp_region_held_drew (S := fun W' => True) (by kernel_rfl) ?_ (fun hHeld => ?_)
                              · trivial
                              refine wpAnyH_take (i := 0) (oi := { dst := some 120, op := _, type := _, pos := _, after := _, guard := _ }) (v := ?_) rfl (by kernel_rfl) (by kernel_rfl) (by kernel_rfl) (fun _ _ _ h => h) (Or.inl ⟨by rfl, ?_⟩) (by assumption) ?_
                              rotate_left
                              · intro w' hSw
                                try dsimp only at hSw
                                go_simp
                                try with_reducible rfl
                              try simp only [Act.put, List.setIfInBounds_toArray, List.set_cons_zero, List.set_cons_succ]
                              refine wpAnyH_take (i := 1) (oi := { dst := some 121, op := _, type := _, pos := _, after := _, guard := _ }) (v := ?_) rfl (by kernel_rfl) (by kernel_rfl) (by kernel_rfl) (fun _ _ _ h => h) (Or.inl ⟨by rfl, ?_⟩) (by assumption) ?_
                              rotate_left
                              · intro w' hSw
                                try dsimp only at hSw
                                go_simp
                                try with_reducible rfl
                              try simp only [Act.put, List.setIfInBounds_toArray, List.set_cons_zero, List.set_cons_succ]
                              refine wpAnyH_take (i := 2) (oi := { dst := some 122, op := _, type := _, pos := _, after := _, guard := _ }) (v := ?_) rfl (by kernel_rfl) (by kernel_rfl) (by kernel_rfl) (fun _ _ _ h => h) (Or.inl ⟨by rfl, ?_⟩) (by assumption) ?_
                              rotate_left
                              · intro w' hSw
                                try dsimp only at hSw
                                go_simp
                                try with_reducible rfl
                              try simp only [Act.put, List.setIfInBounds_toArray, List.set_cons_zero, List.set_cons_succ]
                              refine wpAnyH_take (i := 5) (oi := { dst := some 125, op := _, type := _, pos := _, after := _, guard := _ }) (v := ?_) rfl (by kernel_rfl) (by kernel_rfl) (by kernel_rfl) (fun _ _ _ h => h) (Or.inl ⟨by rfl, ?_⟩) (by assumption) ?_
                              rotate_left
                              · intro w' hSw
                                try dsimp only at hSw
                                go_simp
                                try with_reducible rfl
                              try simp only [Act.put, List.setIfInBounds_toArray, List.set_cons_zero, List.set_cons_succ]
                              refine wpAnyH_take (i := 6) (oi := { dst := some 126, op := _, type := _, pos := _, after := _, guard := _ }) (v := ?_) rfl (by kernel_rfl) (by kernel_rfl) (by kernel_rfl) (fun _ _ _ h => h) (Or.inl ⟨by rfl, ?_⟩) (by assumption) ?_
                              rotate_left
                              · intro w' hSw
                                try dsimp only at hSw
                                go_simp
                                try with_reducible rfl
                              try simp only [Act.put, List.setIfInBounds_toArray, List.set_cons_zero, List.set_cons_succ]
                              refine wpAnyH_take (i := 7) (oi := { dst := some 127, op := _, type := _, pos := _, after := _, guard := _ }) (v := ?_) rfl (by kernel_rfl) (by kernel_rfl) (by kernel_rfl) (fun _ _ _ h => h) (Or.inl ⟨by rfl, ?_⟩) (by assumption) ?_
                              rotate_left
                              · intro w' hSw
                                try dsimp only at hSw
                                go_simp
                                try with_reducible rfl
                              try simp only [Act.put, List.setIfInBounds_toArray, List.set_cons_zero, List.set_cons_succ]
                              refine wpAnyH_take (i := 8) (oi := { dst := some 128, op := _, type := _, pos := _, after := _, guard := _ }) (v := ?_) rfl (by kernel_rfl) (by kernel_rfl) (by kernel_rfl) (fun _ _ _ h => h) (Or.inl ⟨by rfl, ?_⟩) (by assumption) ?_
                              rotate_left
                              · intro w' hSw
                                try dsimp only at hSw
                                go_simp
                                try with_reducible rfl
                              try simp only [Act.put, List.setIfInBounds_toArray, List.set_cons_zero, List.set_cons_succ]
                              refine wpAnyH_ready (rs := [3]) (by kernel_rfl) (by simp) ?_
                              refine AllReadyH.cons (o := { dst := some 123, op := _, type := _, pos := _, after := _, guard := _ }) rfl (fun K hK => ?_) AllReadyH.nil
                              go_simp
                              go_at_call 43
                              refine HAT.out.mono ?_
                              rintro e w8 ⟨rfl, rfl⟩
                              try go_wp2_with fail
                              refine hK.out _ _ ?_ (fun hHeld => ?_)
                              · trivial
                              clear hK K
                              try simp only [Act.put, List.setIfInBounds_toArray, List.set_cons_zero, List.set_cons_succ]
                              refine wpAnyH_take (i := 4) (oi := { dst := some 124, op := _, type := _, pos := _, after := _, guard := _ }) (v := ?_) rfl (by kernel_rfl) (by kernel_rfl) (by kernel_rfl) (fun _ _ _ h => h) (Or.inl ⟨by rfl, ?_⟩) (by assumption) ?_
                              rotate_left
                              · intro w' hSw
                                try dsimp only at hSw
                                go_simp
                                try with_reducible rfl
                              try simp only [Act.put, List.setIfInBounds_toArray, List.set_cons_zero, List.set_cons_succ]
                              refine wpAnyH_ready (rs := [9]) (by kernel_rfl) (by simp) ?_
                              refine AllReadyH.cons (o := { dst := some 129, op := _, type := _, pos := _, after := _, guard := _ }) rfl (fun K hK => ?_) AllReadyH.nil
                              go_simp
                              go_at_call 32
                              refine HSM.out.mono ?_
                              rintro e w8 ⟨rfl, rfl⟩
                              try go_wp2_with fail
                              refine hK.out _ _ ?_ (fun hHeld => ?_)
                              · trivial
                              clear hK K
                              try simp only [Act.put, List.setIfInBounds_toArray, List.set_cons_zero, List.set_cons_succ]
                              refine wpAnyH_take (i := 10) (oi := { dst := some 130, op := _, type := _, pos := _, after := _, guard := _ }) (v := ?_) rfl (by kernel_rfl) (by kernel_rfl) (by kernel_rfl) (fun _ _ _ h => h) (Or.inl ⟨by rfl, ?_⟩) (by assumption) ?_
                              rotate_left
                              · intro w' hSw
                                try dsimp only at hSw
                                go_simp
                                try with_reducible rfl
                              try simp only [Act.put, List.setIfInBounds_toArray, List.set_cons_zero, List.set_cons_succ]
                              refine wpAnyH_done (by kernel_rfl) ?_ _
                              have HP9 : Hid (∀ W', Below w.heap.size w W' → PrA w W' l (.returned (.tuple #[.agg #[.int .i64 0, .int .i64 0, .int .i64 0, .int .i64 0, .int .i64 0, .slice none 0 0], .slice none 0 0, .int .i64 20]))) := fun W' hb => PrA.err (HE.out) (by decide) hb
                              have t2 := st_sd HKd.out rfl #[.int .i64 0, .int .i64 0, .int .i64 0, .int .i64 0, .int .i64 0, .slice none 0 0] rfl (by simp [Value.oneCell'])
                              have t3 := ld_sd (Blk.setRow HKd.out #[.int .i64 0, .int .i64 0, .int .i64 0, .int .i64 0, .int .i64 0, .slice none 0 0]) rfl
                              have HB9 := Lib.hid (below_setRowS HBd.out (Nat.le_refl _) #[.int .i64 0, .int .i64 0, .int .i64 0, .int .i64 0, .int .i64 0, .slice none 0 0])
                              go_wp2_with (first  | (with_reducible refine wpList_store_var _ _ _ (by with_unfolding_all rfl) (by with_unfolding_all rfl) t2 ?_))
                              refine bodyPost_ret (v := .tuple #[.agg #[.int .i64 0, .int .i64 0, .int .i64 0, .int .i64 0, .int .i64 0, .slice none 0 0], .slice none 0 0, .int .i64 20]) ?_ rfl (HP9.out _ HB9.out)
                              rw [results_cell_tt rfl]
                              simp [asAddr, Result.andThen, t3]
                            case neg =>
                              have hw1i : ¬ (n : Int) < (H : Int) + 8 + (v5 : Int) := by omega
                              have hE4 := Lib.hid (hE3.out.trans (if_neg hw1))
                              by_cases hw2 : H + (8 + v5) < n
                              case pos =>
                                have hw2i : (H : Int) + 8 + (v5 : Int) < (n : Int) := by omega
                                have HE := Lib.hid (hE4.out.trans (if_pos hw2))
                                go_wp2_with fail
                                refine wp_region_held_drew (S := fun W' => True) (by kernel_rfl) ?_ (fun hHeld => ?_)
                                · trivial
                                refine wpAnyH_take (i := 0) (oi := { dst := some 120, op := _, type := _, pos := _, after := _, guard := _ }) (v := ?_) rfl (by kernel_rfl) (by kernel_rfl) (by kernel_rfl) (fun _ _ _ h => h) (Or.inl ⟨by rfl, ?_⟩) (by assumption) ?_
                                rotate_left
                                · intro w' hSw
                                  try dsimp only at hSw
                                  go_simp
                                  try with_reducible rfl
                                try simp only [Act.put, List.setIfInBounds_toArray, List.set_cons_zero, List.set_cons_succ]
                                refine wpAnyH_take (i := 1) (oi := { dst := some 121, op := _, type := _, pos := _, after := _, guard := _ }) (v := ?_) rfl (by kernel_rfl) (by kernel_rfl) (by kernel_rfl) (fun _ _ _ h => h) (Or.inl ⟨by rfl, ?_⟩) (by assumption) ?_
                                rotate_left
                                · intro w' hSw
                                  try dsimp only at hSw
                                  go_simp
                                  try with_reducible rfl
                                try simp only [Act.put, List.setIfInBounds_toArray, List.set_cons_zero, List.set_cons_succ]
                                refine wpAnyH_take (i := 2) (oi := { dst := some 122, op := _, type := _, pos := _, after := _, guard := _ }) (v := ?_) rfl (by kernel_rfl) (by kernel_rfl) (by kernel_rfl) (fun _ _ _ h => h) (Or.inl ⟨by rfl, ?_⟩) (by assumption) ?_
                                rotate_left
                                · intro w' hSw
                                  try dsimp only at hSw
                                  go_simp
                                  try with_reducible rfl
                                try simp only [Act.put, List.setIfInBounds_toArray, List.set_cons_zero, List.set_cons_succ]
                                refine wpAnyH_take (i := 5) (oi := { dst := some 125, op := _, type := _, pos := _, after := _, guard := _ }) (v := ?_) rfl (by kernel_rfl) (by kernel_rfl) (by kernel_rfl) (fun _ _ _ h => h) (Or.inl ⟨by rfl, ?_⟩) (by assumption) ?_
                                rotate_left
                                · intro w' hSw
                                  try dsimp only at hSw
                                  go_simp
                                  try with_reducible rfl
                                try simp only [Act.put, List.setIfInBounds_toArray, List.set_cons_zero, List.set_cons_succ]
                                refine wpAnyH_take (i := 6) (oi := { dst := some 126, op := _, type := _, pos := _, after := _, guard := _ }) (v := ?_) rfl (by kernel_rfl) (by kernel_rfl) (by kernel_rfl) (fun _ _ _ h => h) (Or.inl ⟨by rfl, ?_⟩) (by assumption) ?_
                                rotate_left
                                · intro w' hSw
                                  try dsimp only at hSw
                                  go_simp
                                  try with_reducible rfl
                                try simp only [Act.put, List.setIfInBounds_toArray, List.set_cons_zero, List.set_cons_succ]
                                refine wpAnyH_take (i := 7) (oi := { dst := some 127, op := _, type := _, pos := _, after := _, guard := _ }) (v := ?_) rfl (by kernel_rfl) (by kernel_rfl) (by kernel_rfl) (fun _ _ _ h => h) (Or.inl ⟨by rfl, ?_⟩) (by assumption) ?_
                                rotate_left
                                · intro w' hSw
                                  try dsimp only at hSw
                                  go_simp
                                  try with_reducible rfl
                                try simp only [Act.put, List.setIfInBounds_toArray, List.set_cons_zero, List.set_cons_succ]
                                refine wpAnyH_take (i := 8) (oi := { dst := some 128, op := _, type := _, pos := _, after := _, guard := _ }) (v := ?_) rfl (by kernel_rfl) (by kernel_rfl) (by kernel_rfl) (fun _ _ _ h => h) (Or.inl ⟨by rfl, ?_⟩) (by assumption) ?_
                                rotate_left
                                · intro w' hSw
                                  try dsimp only at hSw
                                  go_simp
                                  try with_reducible rfl
                                try simp only [Act.put, List.setIfInBounds_toArray, List.set_cons_zero, List.set_cons_succ]
                                refine wpAnyH_ready (rs := [3]) (by kernel_rfl) (by simp) ?_
                                refine AllReadyH.cons (o := { dst := some 123, op := _, type := _, pos := _, after := _, guard := _ }) rfl (fun K hK => ?_) AllReadyH.nil
                                go_simp
                                go_at_call 43
                                refine HAT.out.mono ?_
                                rintro e w8 ⟨rfl, rfl⟩
                                try go_wp2_with fail
                                refine hK.out _ _ ?_ (fun hHeld => ?_)
                                · trivial
                                clear hK K
                                try simp only [Act.put, List.setIfInBounds_toArray, List.set_cons_zero, List.set_cons_succ]
                                refine wpAnyH_take (i := 4) (oi := { dst := some 124, op := _, type := _, pos := _, after := _, guard := _ }) (v := ?_) rfl (by kernel_rfl) (by kernel_rfl) (by kernel_rfl) (fun _ _ _ h => h) (Or.inl ⟨by rfl, ?_⟩) (by assumption) ?_
                                rotate_left
                                · intro w' hSw
                                  try dsimp only at hSw
                                  go_simp
                                  try with_reducible rfl
                                try simp only [Act.put, List.setIfInBounds_toArray, List.set_cons_zero, List.set_cons_succ]
                                refine wpAnyH_ready (rs := [9]) (by kernel_rfl) (by simp) ?_
                                refine AllReadyH.cons (o := { dst := some 129, op := _, type := _, pos := _, after := _, guard := _ }) rfl (fun K hK => ?_) AllReadyH.nil
                                go_simp
                                go_at_call 32
                                refine HSM.out.mono ?_
                                rintro e w8 ⟨rfl, rfl⟩
                                try go_wp2_with fail
                                refine hK.out _ _ ?_ (fun hHeld => ?_)
                                · trivial
                                clear hK K
                                try simp only [Act.put, List.setIfInBounds_toArray, List.set_cons_zero, List.set_cons_succ]
                                refine wpAnyH_take (i := 10) (oi := { dst := some 130, op := _, type := _, pos := _, after := _, guard := _ }) (v := ?_) rfl (by kernel_rfl) (by kernel_rfl) (by kernel_rfl) (fun _ _ _ h => h) (Or.inl ⟨by rfl, ?_⟩) (by assumption) ?_
                                rotate_left
                                · intro w' hSw
                                  try dsimp only at hSw
                                  go_simp
                                  try with_reducible rfl
                                try simp only [Act.put, List.setIfInBounds_toArray, List.set_cons_zero, List.set_cons_succ]
                                refine wpAnyH_done (by kernel_rfl) ?_ _
                                have HP9 : Hid (∀ W', Below w.heap.size w W' → PrA w W' l (.returned (.tuple #[.agg #[.int .i64 0, .int .i64 0, .int .i64 0, .int .i64 0, .int .i64 0, .slice none 0 0], .slice none 0 0, .int .i64 22]))) := fun W' hb => PrA.err (HE.out) (by decide) hb
                                have t2 := st_sd HKd.out rfl #[.int .i64 0, .int .i64 0, .int .i64 0, .int .i64 0, .int .i64 0, .slice none 0 0] rfl (by simp [Value.oneCell'])
                                have t3 := ld_sd (Blk.setRow HKd.out #[.int .i64 0, .int .i64 0, .int .i64 0, .int .i64 0, .int .i64 0, .slice none 0 0]) rfl
                                have HB9 := Lib.hid (below_setRowS HBd.out (Nat.le_refl _) #[.int .i64 0, .int .i64 0, .int .i64 0, .int .i64 0, .int .i64 0, .slice none 0 0])
                                go_wp2_with (first  | (with_reducible refine wpList_store_var _ _ _ (by with_unfolding_all rfl) (by with_unfolding_all rfl) t2 ?_))
                                refine bodyPost_ret (v := .tuple #[.agg #[.int .i64 0, .int .i64 0, .int .i64 0, .int .i64 0, .int .i64 0, .slice none 0 0], .slice none 0 0, .int .i64 22]) ?_ rfl (HP9.out _ HB9.out)
                                rw [results_cell_tt rfl]
                                simp [asAddr, Result.andThen, t3]
                              case neg =>
                                have hw2i : ¬ (H : Int) + 8 + (v5 : Int) < (n : Int) := by omega
                                have HE0 := Lib.hid (hE4.out.trans (if_neg hw2))
                                have x0 := (HXd.out.cell 0).trans (show _ = some (Value.int .i64 (v2 : Nat)) from rfl)
                                have x1 := (HXd.out.cell 1).trans (show _ = some (Value.int .i64 (v3 : Nat)) from rfl)
                                have x3 := (HXd.out.cell 3).trans (show _ = some (Value.int .i64 (v6 : Nat)) from rfl)
                                have x4 := (HXd.out.cell 4).trans (show _ = some (Value.int .i64 (v4 : Nat)) from rfl)
                                have x5 := (HXd.out.cell 5).trans (show _ = some (Value.slice A' (v2 + v3) c') from rfl)
                                have cH : ¬ c = H := by omega
                                have hHc : (H : Int) ≤ (n : Int) := by omega
                                have t2 := st_sd (show Blk W5.drew.drew w.heap.size _ _ from HKd.out) rfl #[.int .i64 (v2 : Nat), .int .i64 (v3 : Nat), .int .i64 (v5 : Nat), .int .i64 (v6 : Nat), .int .i64 (v4 : Nat), .slice A' (v2 + v3) c'] rfl (by simp [Value.oneCell'])
                                have t3 := ld_sd (Blk.setRow (show Blk W5.drew.drew w.heap.size _ _ from HKd.out) #[.int .i64 (v2 : Nat), .int .i64 (v3 : Nat), .int .i64 (v5 : Nat), .int .i64 (v6 : Nat), .int .i64 (v4 : Nat), .slice A' (v2 + v3) c']) rfl
                                have HXa : Hid (Blk (W5.drew.drew.setRow w.heap.size #[.int .i64 (v2 : Nat), .int .i64 (v3 : Nat), .int .i64 (v5 : Nat), .int .i64 (v6 : Nat), .int .i64 (v4 : Nat), .slice A' (v2 + v3) c']) g5 38 #[.int .i64 (v2 : Nat), .int .i64 (v3 : Nat), .int .i64 (v5 : Nat), .int .i64 (v6 : Nat), .int .i64 (v4 : Nat), .slice A' (v2 + v3) c']) := Blk.setRowO (show Blk W5.drew.drew g5 _ _ from HXd.out) (by omega) _
                                have hBe := below_setRowS (below_drewN HBd.out 1) (Nat.le_refl _) #[.int .i64 (v2 : Nat), .int .i64 (v3 : Nat), .int .i64 (v5 : Nat), .int .i64 (v6 : Nat), .int .i64 (v4 : Nat), .slice A' (v2 + v3) c']
                                have hgin : GIn W5.drew.drew A' (v2 + v3) c' RA (fun _ => Q) RC (tdR (l.drop 20) Q) := hS.out.rws.gin.drewN 2
                                have hG := hgin.keepS (lo := g5 + 1) (w' := W5.drew.drew.setRow w.heap.size #[.int .i64 (v2 : Nat), .int .i64 (v3 : Nat), .int .i64 (v5 : Nat), .int .i64 (v6 : Nat), .int .i64 (v4 : Nat), .slice A' (v2 + v3) c']) (by simp) (fun b hb _ => heap_setRowS _ _ (by omega)) (fun b o e => by
                                  rcases hS.out.rws.own.2 with ⟨e2, _⟩ | ⟨g, cap, cur, e2, hbg, _⟩
                                  · injection e2 with e2; rw [e2] at e; cases e
                                  · injection e2 with e2; rw [e2] at e; cases e; exact hbg) (fun r hr h0 x e => (hS.out.rws.far r hr h0 x e).1)
                                have hC0 := (HROW.out.row.below hBe).from_ (p := H) (m := n - H) (by omega)
                                have hrt : (l.drop H).take (n - H) = l.drop H := List.take_of_length_le (by rw [List.length_drop, HLE.out]; exact Nat.le_refl _)
                                rw [hrt] at hC0
                                have hCo : RowIn (W5.drew.drew.setRow w.heap.size #[.int .i64 (v2 : Nat), .int .i64 (v3 : Nat), .int .i64 (v5 : Nat), .int .i64 (v6 : Nat), .int .i64 (v4 : Nat), .slice A' (v2 + v3) c']) (some ⟨b, o + H, none⟩) (n - H) (c - H) (l.drop H) := ⟨hC0, by omega, by have := HROW.out.max; omega⟩
                                have HFIN := Lib.hid (HOK.out _ _ _ _ _ _ _ _ HE0.out hG hCo hBe)
                                clear hG hCo hBe hgin hC0 hrt
                                go_wp2_with fail
                                refine wp_region_held_drew (S := fun W' => True) (by kernel_rfl) ?_ (fun hHeld => ?_)
                                · trivial
                                refine wpAnyH_take (i := 0) (oi := { dst := some 120, op := _, type := _, pos := _, after := _, guard := _ }) (v := ?_) rfl (by kernel_rfl) (by kernel_rfl) (by kernel_rfl) (fun _ _ _ h => h) (Or.inl ⟨by rfl, ?_⟩) (by assumption) ?_
                                rotate_left
                                · intro w' hSw
                                  try dsimp only at hSw
                                  go_simp
                                  try with_reducible rfl
                                try simp only [Act.put, List.setIfInBounds_toArray, List.set_cons_zero, List.set_cons_succ]
                                refine wpAnyH_take (i := 1) (oi := { dst := some 121, op := _, type := _, pos := _, after := _, guard := _ }) (v := ?_) rfl (by kernel_rfl) (by kernel_rfl) (by kernel_rfl) (fun _ _ _ h => h) (Or.inl ⟨by rfl, ?_⟩) (by assumption) ?_
                                rotate_left
                                · intro w' hSw
                                  try dsimp only at hSw
                                  go_simp
                                  try with_reducible rfl
                                try simp only [Act.put, List.setIfInBounds_toArray, List.set_cons_zero, List.set_cons_succ]
                                refine wpAnyH_take (i := 2) (oi := { dst := some 122, op := _, type := _, pos := _, after := _, guard := _ }) (v := ?_) rfl (by kernel_rfl) (by kernel_rfl) (by kernel_rfl) (fun _ _ _ h => h) (Or.inl ⟨by rfl, ?_⟩) (by assumption) ?_
                                rotate_left
                                · intro w' hSw
                                  try dsimp only at hSw
                                  go_simp
                                  try with_reducible rfl
                                try simp only [Act.put, List.setIfInBounds_toArray, List.set_cons_zero, List.set_cons_succ]
                                refine wpAnyH_take (i := 5) (oi := { dst := some 125, op := _, type := _, pos := _, after := _, guard := _ }) (v := ?_) rfl (by kernel_rfl) (by kernel_rfl) (by kernel_rfl) (fun _ _ _ h => h) (Or.inl ⟨by rfl, ?_⟩) (by assumption) ?_
                                rotate_left
                                · intro w' hSw
                                  try dsimp only at hSw
                                  go_simp
                                  try with_reducible rfl
                                try simp only [Act.put, List.setIfInBounds_toArray, List.set_cons_zero, List.set_cons_succ]
                                refine wpAnyH_take (i := 6) (oi := { dst := some 126, op := _, type := _, pos := _, after := _, guard := _ }) (v := ?_) rfl (by kernel_rfl) (by kernel_rfl) (by kernel_rfl) (fun _ _ _ h => h) (Or.inl ⟨by rfl, ?_⟩) (by assumption) ?_
                                rotate_left
                                · intro w' hSw
                                  try dsimp only at hSw
                                  go_simp
                                  try with_reducible rfl
                                try simp only [Act.put, List.setIfInBounds_toArray, List.set_cons_zero, List.set_cons_succ]
                                refine wpAnyH_take (i := 7) (oi := { dst := some 127, op := _, type := _, pos := _, after := _, guard := _ }) (v := ?_) rfl (by kernel_rfl) (by kernel_rfl) (by kernel_rfl) (fun _ _ _ h => h) (Or.inl ⟨by rfl, ?_⟩) (by assumption) ?_
                                rotate_left
                                · intro w' hSw
                                  try dsimp only at hSw
                                  go_simp
                                  try with_reducible rfl
                                try simp only [Act.put, List.setIfInBounds_toArray, List.set_cons_zero, List.set_cons_succ]
                                refine wpAnyH_take (i := 8) (oi := { dst := some 128, op := _, type := _, pos := _, after := _, guard := _ }) (v := ?_) rfl (by kernel_rfl) (by kernel_rfl) (by kernel_rfl) (fun _ _ _ h => h) (Or.inl ⟨by rfl, ?_⟩) (by assumption) ?_
                                rotate_left
                                · intro w' hSw
                                  try dsimp only at hSw
                                  go_simp
                                  try with_reducible rfl
                                try simp only [Act.put, List.setIfInBounds_toArray, List.set_cons_zero, List.set_cons_succ]
                                refine wpAnyH_ready (rs := [3]) (by kernel_rfl) (by simp) ?_
                                refine AllReadyH.cons (o := { dst := some 123, op := _, type := _, pos := _, after := _, guard := _ }) rfl (fun K hK => ?_) AllReadyH.nil
                                go_simp
                                go_at_call 43
                                refine HAT.out.mono ?_
                                rintro e w8 ⟨rfl, rfl⟩
                                try go_wp2_with fail
                                refine hK.out _ _ ?_ (fun hHeld => ?_)
                                · trivial
                                clear hK K
                                try simp only [Act.put, List.setIfInBounds_toArray, List.set_cons_zero, List.set_cons_succ]
                                refine wpAnyH_take (i := 4) (oi := { dst := some 124, op := _, type := _, pos := _, after := _, guard := _ }) (v := ?_) rfl (by kernel_rfl) (by kernel_rfl) (by kernel_rfl) (fun _ _ _ h => h) (Or.inl ⟨by rfl, ?_⟩) (by assumption) ?_
                                rotate_left
                                · intro w' hSw
                                  try dsimp only at hSw
                                  go_simp
                                  try with_reducible rfl
                                try simp only [Act.put, List.setIfInBounds_toArray, List.set_cons_zero, List.set_cons_succ]
                                refine wpAnyH_ready (rs := [9]) (by kernel_rfl) (by simp) ?_
                                refine AllReadyH.cons (o := { dst := some 129, op := _, type := _, pos := _, after := _, guard := _ }) rfl (fun K hK => ?_) AllReadyH.nil
                                go_simp
                                go_at_call 32
                                refine HSM.out.mono ?_
                                rintro e w8 ⟨rfl, rfl⟩
                                try go_wp2_with fail
                                refine hK.out _ _ ?_ (fun hHeld => ?_)
                                · trivial
                                clear hK K
                                try simp only [Act.put, List.setIfInBounds_toArray, List.set_cons_zero, List.set_cons_succ]
                                refine wpAnyH_take (i := 10) (oi := { dst := some 130, op := _, type := _, pos := _, after := _, guard := _ }) (v := ?_) rfl (by kernel_rfl) (by kernel_rfl) (by kernel_rfl) (fun _ _ _ h => h) (Or.inl ⟨by rfl, ?_⟩) (by assumption) ?_
                                rotate_left
                                · intro w' hSw
                                  try dsimp only at hSw
                                  go_simp
                                  try with_reducible rfl
                                try simp only [Act.put, List.setIfInBounds_toArray, List.set_cons_zero, List.set_cons_succ]
                                refine wpAnyH_done (by kernel_rfl) ?_ _
                                go_wp2_with fail
                                refine wp_region_held_drew (S := fun W' => W'.cell? ⟨g5, 0, none⟩ = some (.int .i64 (v2 : Int)) ∧ W'.cell? ⟨g5, 1, none⟩ = some (.int .i64 (v3 : Int)) ∧ W'.cell? ⟨g5, 2, none⟩ = some (.int .i64 (v5 : Int)) ∧ W'.cell? ⟨g5, 3, none⟩ = some (.int .i64 (v6 : Int)) ∧ W'.cell? ⟨g5, 4, none⟩ = some (.int .i64 (v4 : Int)) ∧ W'.cell? ⟨g5, 5, none⟩ = some (.slice A' (v2 + v3) c')) (by kernel_rfl) ?_ (fun hHeld => ?_)
                                · go_keep
                                refine wpAnyH_take (i := 0) (oi := { dst := some 152, op := _, type := _, pos := _, after := _, guard := _ }) (v := ?_) rfl (by kernel_rfl) (by kernel_rfl) (by kernel_rfl) (fun _ _ _ h => h) (Or.inl ⟨by rfl, ?_⟩) (by assumption) ?_
                                rotate_left
                                · intro w' hSw
                                  try dsimp only at hSw
                                  go_simp
                                  try with_reducible rfl
                                try simp only [Act.put, List.setIfInBounds_toArray, List.set_cons_zero, List.set_cons_succ]
                                refine wpAnyH_take (i := 1) (oi := { dst := some 153, op := _, type := _, pos := _, after := _, guard := _ }) (v := ?_) rfl (by kernel_rfl) (by kernel_rfl) (by kernel_rfl) (fun _ _ _ h => h) (Or.inl ⟨by rfl, ?_⟩) (by assumption) ?_
                                rotate_left
                                · intro w' hSw
                                  try dsimp only at hSw
                                  go_simp
                                  try with_reducible rfl
                                try simp only [Act.put, List.setIfInBounds_toArray, List.set_cons_zero, List.set_cons_succ]
                                refine wpAnyH_take (i := 2) (oi := { dst := some 154, op := _, type := _, pos := _, after := _, guard := _ }) (v := ?_) rfl (by kernel_rfl) (by kernel_rfl) (by kernel_rfl) (fun _ _ _ h => h) (Or.inl ⟨by rfl, ?_⟩) (by assumption) ?_
                                rotate_left
                                · intro w' hSw
                                  try dsimp only at hSw
                                  go_simp
                                  try with_reducible rfl
                                try simp only [Act.put, List.setIfInBounds_toArray, List.set_cons_zero, List.set_cons_succ]
                                refine wpAnyH_take (i := 3) (oi := { dst := some 155, op := _, type := _, pos := _, after := _, guard := _ }) (v := ?_) rfl (by kernel_rfl) (by kernel_rfl) (by kernel_rfl) (fun _ _ _ h => h) (Or.inl ⟨by rfl, ?_⟩) (by assumption) ?_
                                rotate_left
                                · intro w' hSw
                                  try dsimp only at hSw
                                  go_simp
                                  try with_reducible rfl
                                try simp only [Act.put, List.setIfInBounds_toArray, List.set_cons_zero, List.set_cons_succ]
                                refine wpAnyH_ready (rs := [4]) (by kernel_rfl) (by simp) ?_
                                refine AllReadyH.cons (o := { dst := none, op := _, type := _, pos := _, after := _, guard := _ }) rfl (fun K hK => ?_) AllReadyH.nil
                                refine step_store_at rfl (.tmp 2) (.tmp 152) 38 rfl _ _ _ (by with_unfolding_all rfl) (by with_unfolding_all rfl) t2 ?_
                                refine hK.out _ _ ?_ (fun hHeld => ?_)
                                · exact ⟨HXa.out.cell 0, HXa.out.cell 1, HXa.out.cell 2, HXa.out.cell 3, HXa.out.cell 4, HXa.out.cell 5⟩
                                clear hK K
                                try simp only [Act.put]
                                refine wpAnyH_take (i := 5) (oi := { dst := some 3, op := _, type := _, pos := _, after := _, guard := _ }) (v := ?_) rfl (by kernel_rfl) (by kernel_rfl) (by kernel_rfl) (fun _ _ _ h => h) (Or.inl ⟨by rfl, ?_⟩) (by assumption) ?_
                                rotate_left
                                · intro w' hSw
                                  try dsimp only at hSw
                                  go_simp
                                  try with_reducible rfl
                                try simp only [Act.put, List.setIfInBounds_toArray, List.set_cons_zero, List.set_cons_succ]
                                refine wpAnyH_take (i := 6) (oi := { dst := some 4, op := _, type := _, pos := _, after := _, guard := _ }) (v := ?_) rfl (by kernel_rfl) (by kernel_rfl) (by kernel_rfl) (fun _ _ _ h => h) (Or.inl ⟨by rfl, ?_⟩) (by assumption) ?_
                                rotate_left
                                · intro w' hSw
                                  try dsimp only at hSw
                                  go_simp
                                  try with_reducible rfl
                                try simp only [Act.put, List.setIfInBounds_toArray, List.set_cons_zero, List.set_cons_succ]
                                refine wpAnyH_done (by kernel_rfl) ?_ _
                                try go_wp2_with fail
                                refine bodyPost_ret (v := .tuple #[.agg #[.int .i64 (v2 : Nat), .int .i64 (v3 : Nat), .int .i64 (v5 : Nat), .int .i64 (v6 : Nat), .int .i64 (v4 : Nat), .slice A' (v2 + v3) c'], .slice (some ⟨b, o + H, none⟩) (n - H) (c - H), .int .i64 0]) ?_ rfl HFIN.out
                                rw [results_cell_tt rfl]
                                simp [asAddr, Result.andThen, t3]
end Go.Proofs.YtbgdoemealddpaaDoor
