/-
  STAMPS: Compare. No conditions.
-/
import Derived.Test.YtoodgbognpecjaaDoorStq
import Derived.StillTailTactics
namespace Go.Proofs.YtoodgbognpecjaaDoor
open Go.RowKit
set_option maxRecDepth 100000
set_option linter.unusedVariables false

theorem isNaNK_c (a : Int) (w : World) : Calls Tryd.prog 23 #[.int .i64 a] w fun e w' => e = .returned (.bool false) ∧ w = w' := by
  have h : (a != a) = false := by simp
  go_enter Tryd.func23, Tryd.ntmps23
  go_wp2
  go_ret
  exact ⟨rfl, rfl⟩
theorem CompareK_c (a b : Int) (w : World) : Calls Tryd.prog 21 #[.int .i64 a, .int .i64 b] w fun e w' => e = .returned (.int .i64 (cmpK a b)) ∧ w = w' := by
  have HN := Lib.hid (fun x W => isNaNK_c x W)
  by_cases h1 : a < b
  · have hc : Hid (cmpK a b = -1) := if_pos h1
    go_enter Tryd.func21, Tryd.ntmps21
    go_wp2_with (go_at_call 23; refine (HN.out _ _).mono ?_; rintro e _ ⟨rfl, rfl⟩)
    go_ret
    exact ⟨ret_i64 hc.out.symm, rfl⟩
  · by_cases h2 : b < a
    · have hc : Hid (cmpK a b = 1) := by unfold Hid cmpK; rw [if_neg h1, if_pos h2]
      go_enter Tryd.func21, Tryd.ntmps21
      go_wp2_with (go_at_call 23; refine (HN.out _ _).mono ?_; rintro e _ ⟨rfl, rfl⟩)
      go_ret
      exact ⟨ret_i64 hc.out.symm, rfl⟩
    · have hc : Hid (cmpK a b = 0) := by unfold Hid cmpK; rw [if_neg h1, if_neg h2]
      go_enter Tryd.func21, Tryd.ntmps21
      go_wp2_with (go_at_call 23; refine (HN.out _ _).mono ?_; rintro e _ ⟨rfl, rfl⟩)
      go_ret
      exact ⟨ret_i64 hc.out.symm, rfl⟩
theorem orL_zero {x : Int} {r : List Int} (h : x = 0) : orL (x :: r) = orL r := if_pos h
theorem orL_some {x : Int} {r : List Int} (h : x ≠ 0) : orL (x :: r) = x := if_neg h
theorem drop_gi {l : List Int} {k : Nat} (h : k < l.length) : l.drop k = gi l k :: l.drop (k + 1) := by
  rw [List.drop_eq_getElem_cons h]
  unfold gi
  rw [List.getD_eq_getElem?_getD, List.getElem?_eq_getElem h]
  rfl
set_option maxHeartbeats 1000000 in
theorem OrK_c (A : Option Addr) (n c : Nat) (l : List Int) (w : World) (h : IRow w A n .i64 l) : Calls Tryd.prog 20 #[.slice A n c] w fun e w' => e = .returned (.int .i64 (orL l)) ∧ w = w' := by
  have H := Lib.hid h
  have HL := Lib.hid h.len
  have hm := h.max'
  clear h
  go_enter Tryd.func20, Tryd.ntmps20
  go_wp2
  go_loop [8] (fun i => ∃ k : Nat, k ≤ n ∧ i = .int .i64 k ∧ Hid (orL l = orL (l.drop k))) (fun i => n - (intOf i).toNat)
  case atStart => exact ⟨0, by omega, rfl, rfl⟩
  case round =>
    obtain ⟨k, hk, rfl, ho⟩ := hrel
    by_cases hlt : k < n
    · obtain ⟨b, off, rfl, _, hc⟩ := H.out.at_ hlt
      have hd := drop_gi (l := l) (k := k) (by rw [HL.out]; exact hlt)
      generalize gi l k = x at *
      have hkn : (k : Int) < n := by omega
      by_cases hx : x = 0
      · subst hx
        have hz : ((0 : Int) != 0) = false := rfl
        have ho2 : Hid (orL l = orL (l.drop (k + 1))) := by unfold Hid; rw [ho.out, hd, orL_zero rfl]
        clear hd ho
        go_wp2
        go_round
        case rel => exact ⟨k + 1, by omega, by go_num, ho2⟩
        case measure => simp [intOf]; omega
      · have hz : (x != 0) = true := by rw [bne_iff_ne]; exact hx
        have ho2 : Hid (orL l = x) := by unfold Hid; rw [ho.out, hd, orL_some hx]
        clear hd ho
        go_wp2
        go_ret
        rw [ho2.out]
        exact ⟨rfl, rfl⟩
    · have hkn : ¬ (k : Int) < n := by omega
      have ho2 : Hid (orL l = 0) := by unfold Hid; rw [ho.out, List.drop_eq_nil_of_le (by rw [HL.out]; omega)]; rfl
      go_wp2
      go_ret
      rw [ho2.out]
      exact ⟨rfl, rfl⟩
/-- six numbers that are laid -/
theorem row6 (w : World) (a b c d e f : Int) (g : Nat) (hg : w.heap.size = g) (ha : ∀ x ∈ [a, b, c, d, e, f], (Lit.int .i64 x).wf = true) : IRow (w.alloc (.cells #[.int .i64 a, .int .i64 b, .int .i64 c, .int .i64 d, .int .i64 e, .int .i64 f] 3)) (some ⟨g, 0, none⟩) 6 .i64 [a, b, c, d, e, f] := by
  subst hg
  have hb := (Blk.new w 3 #[.int .i64 a, .int .i64 b, .int .i64 c, .int .i64 d, .int .i64 e, .int .i64 f])
  refine ⟨rfl, by unfold maxLen; omega, fun _ => ⟨w.heap.size, 0, rfl, hb.lt, fun i hi => ?_⟩, fun i hi => ?_⟩
  · rw [Nat.zero_add]
    have h6 : i = 0 ∨ i = 1 ∨ i = 2 ∨ i = 3 ∨ i = 4 ∨ i = 5 := by omega
    rcases h6 with rfl | rfl | rfl | rfl | rfl | rfl
    · exact hb.cell 0
    · exact hb.cell 1
    · exact hb.cell 2
    · exact hb.cell 3
    · exact hb.cell 4
    · exact hb.cell 5
  · have h6 : i = 0 ∨ i = 1 ∨ i = 2 ∨ i = 3 ∨ i = 4 ∨ i = 5 := by omega
    rcases h6 with rfl | rfl | rfl | rfl | rfl | rfl
    · show (Lit.int .i64 a).wf = true; exact ha _ (by simp)
    · show (Lit.int .i64 b).wf = true; exact ha _ (by simp)
    · show (Lit.int .i64 c).wf = true; exact ha _ (by simp)
    · show (Lit.int .i64 d).wf = true; exact ha _ (by simp)
    · show (Lit.int .i64 e).wf = true; exact ha _ (by simp)
    · show (Lit.int .i64 f).wf = true; exact ha _ (by simp)
theorem wf_cmp (a b : Int) : (Lit.int .i64 (cmpK a b)).wf = true := by
  rcases cmpK_cases a b with ⟨_, h, _⟩ | ⟨_, h, _⟩ | ⟨_, h, _⟩ <;> rw [h] <;> rfl
theorem flipS {P : Program} {f : FuncId} {args : Array Value} {w : World} {v : Value} (h : Calls P f args w fun e w' => e = .returned v ∧ w = w') : Calls P f args w fun e w'' => e = .returned v ∧ w'' = w :=
  h.mono fun _ _ ⟨he, hm⟩ => ⟨he, hm.symm⟩
set_option maxHeartbeats 2000000 in
theorem CompareS_c (a b : St) (w : World) : Calls Tryd.prog 16 #[stV a, stV b] w fun e w' => e = .returned (.int .i64 (cmpS a b)) ∧ Below w.heap.size w w' := by
  obtain ⟨a1, a2, a3, a4, a5, a6⟩ := a
  obtain ⟨b1, b2, b3, b4, b5, b6⟩ := b
  unfold stV cmpS
  dsimp only
  have W1 := wf_cmp a1 b1
  have W2 := wf_cmp a2 b2
  have W3 := wf_cmp a3 b3
  have W4 := wf_cmp a4 b4
  have W5 := wf_cmp a5 b5
  have W6 := wf_cmp a6 b6
  have HR := Lib.hid (fun W g hg => row6 W (cmpK a1 b1) (cmpK a2 b2) (cmpK a3 b3) (cmpK a4 b4) (cmpK a5 b5) (cmpK a6 b6) g hg (by
    intro x hx
    simp at hx
    rcases hx with rfl | rfl | rfl | rfl | rfl | rfl <;> assumption))
  clear W1 W2 W3 W4 W5 W6
  go_enter Tryd.func16, Tryd.ntmps16
  go_wp2
  refine wp_region_still_tail 30 (by kernel_rfl) (by kernel_rfl) ?_
  simp only [List.take_succ_cons, List.take_zero, List.drop_succ_cons, List.drop_zero]
  change wpStill _ _ (World.drew _) _ _ _
  repeat (first | still_step | still_call (flipS (CompareK_c _ _ _)))
  refine wpStill_nil ?_
  go_wp2_with fail
  refine (OrK_c _ 6 6 _ _ (HR.out _ _ (by simp))).mono ?_
  rintro e _ ⟨rfl, rfl⟩
  go_wp2
  go_ret
  exact ⟨rfl, (below_drewN (((Below.refl w.heap.size w).alloc (Nat.le_refl _) _).alloc (by simp) _) 1).alloc (by simp; omega) _⟩
/-! ### The document's own -/
theorem dys_is {y m : Int} (h1 : 1 ≤ m ∧ m ≤ 12) (h2 : m ≠ 2) : dysN y m = md (m - 1).toNat := by
  unfold dysN
  rw [if_pos h1, if_neg (fun q => h2 q.1)]
theorem RefDays_c (y m : Int) (hw : (Lit.int .i64 y).wf = true) (w : World) : Calls Tryd.prog 15 #[.int .i64 y, .int .i64 m] w fun e w' => e = .returned (.int .i64 (dysN y m : Nat)) ∧ w = w' := by
  by_cases h : 1 ≤ m ∧ m ≤ 12
  · have hcs : m = 2 ∨ (m = 4 ∨ m = 6 ∨ m = 9 ∨ m = 11) ∨ (m = 1 ∨ m = 3 ∨ m = 5 ∨ m = 7 ∨ m = 8 ∨ m = 10 ∨ m = 12) := by omega
    rcases hcs with rfl | (rfl | rfl | rfl | rfl) | (rfl | rfl | rfl | rfl | rfl | rfl | rfl)
    · have hl : Hid (dysN y 2 = if (y.tmod 4 = 0 ∧ ¬ y.tmod 100 = 0) ∨ y.tmod 400 = 0 then 29 else 28) := by
        have e1 := tmod0 y 4
        have e2 := tmod0 y 100
        have e3 := tmod0 y 400
        simp only [Int.cast_ofNat_Int] at e1 e2 e3
        have e4 : longP y ↔ (y.tmod 4 = 0 ∧ ¬ y.tmod 100 = 0) ∨ y.tmod 400 = 0 := by unfold longP; rw [e1, e2, e3]
        unfold Hid dysN
        rw [if_pos h]
        by_cases hL : longP y
        · rw [if_pos ⟨rfl, hL⟩, if_pos (e4.1 hL)]
        · rw [if_neg (fun q => hL q.2), if_neg (fun q => hL (e4.2 q))]; rfl
      clear h
      by_cases h4 : y.tmod 4 = 0 <;> by_cases h1 : y.tmod 100 = 0 <;> by_cases h9 : y.tmod 400 = 0
      all_goals
        have b4 : (y.tmod 4 == 0) = decide (y.tmod 4 = 0) := by rw [Bool.eq_iff_iff, beq_iff_eq, decide_eq_true_eq]
        have b1 : (y.tmod 100 != 0) = decide (¬ y.tmod 100 = 0) := by rw [Bool.eq_iff_iff, bne_iff_ne, decide_eq_true_eq]
        have b9 : (y.tmod 400 == 0) = decide (y.tmod 400 = 0) := by rw [Bool.eq_iff_iff, beq_iff_eq, decide_eq_true_eq]
        simp only [h4, h1, h9, decide_true, decide_false, not_true, not_false_iff] at b4 b1 b9
        go_enter Tryd.func15, Tryd.ntmps15
        go_wp2
        go_ret
        rw [hl.out]
        simp [h4, h1, h9]
    all_goals
      clear h
      go_enter Tryd.func15, Tryd.ntmps15
      go_wp2
      go_ret
      rw [dys_is (by omega) (by omega)]
      exact ⟨rfl, rfl⟩
  · have hd : Hid (dysN y m = 0) := if_neg h
    by_cases h1 : m < 1
    · clear h
      go_enter Tryd.func15, Tryd.ntmps15
      go_wp2
      go_ret
      rw [hd.out]
      exact ⟨rfl, rfl⟩
    · have h2 : 12 < m := by omega
      clear h
      go_enter Tryd.func15, Tryd.ntmps15
      go_wp2
      go_ret
      rw [hd.out]
      exact ⟨rfl, rfl⟩
end Go.Proofs.YtoodgbognpecjaaDoor
