/-
  STAMPS: Compare. No conditions.
-/
import Derived.Test.YtacllgglpjdobaaDoorStq
import Derived.StillTailTactics
namespace Go.Proofs.YtacllgglpjdobaaDoor
open Go.RowKit
set_option maxRecDepth 100000
set_option linter.unusedVariables false

theorem orL_zero {x : Int} {r : List Int} (h : x = 0) : orL (x :: r) = orL r := if_pos h
theorem orL_some {x : Int} {r : List Int} (h : x ≠ 0) : orL (x :: r) = x := if_neg h
theorem drop_gi {l : List Int} {k : Nat} (h : k < l.length) : l.drop k = gi l k :: l.drop (k + 1) := by
  rw [List.drop_eq_getElem_cons h]
  unfold gi
  rw [List.getD_eq_getElem?_getD, List.getElem?_eq_getElem h]
  rfl
/-- six numbers that are laid -/
theorem row6 (w : World) (a b c d e f : Int) (g : Nat) (hg : w.heap.size = g) (ha : ∀ x ∈ [a, b, c, d, e, f], (Lit.int .i64 x).wf = true) : IRow (w.alloc (.cells #[.int .i64 a, .int .i64 b, .int .i64 c, .int .i64 d, .int .i64 e, .int .i64 f] 3)) (some ⟨g, 0, none⟩) 6 .i64 [a, b, c, d, e, f] := by
  subst hg
  have hb := (Blk.new w 3 #[.int .i64 a, .int .i64 b, .int .i64 c, .int .i64 d, .int .i64 e, .int .i64 f])
  refine ⟨rfl, by unfold maxLen; omega, fun _ => ⟨w.heap.size, 0, rfl, hb.lt, fun i hi => ?_⟩, fun i hi => ?_⟩
  · rw [Nat.zero_add]
    have h6 : i = 0 ∨ i = 1 ∨ i = 2 ∨ i = 3 ∨ i = 4 ∨ i = 5 := by omega
    rcases h6 with rfl | rfl | rfl | rfl | rfl | rfl
    · exact hb.cell 0
    · exact hb.cell 1
    · exact hb.cell 2
    · exact hb.cell 3
    · exact hb.cell 4
    · exact hb.cell 5
  · have h6 : i = 0 ∨ i = 1 ∨ i = 2 ∨ i = 3 ∨ i = 4 ∨ i = 5 := by omega
    rcases h6 with rfl | rfl | rfl | rfl | rfl | rfl
    · show (Lit.int .i64 a).wf = true; exact ha _ (by simp)
    · show (Lit.int .i64 b).wf = true; exact ha _ (by simp)
    · show (Lit.int .i64 c).wf = true; exact ha _ (by simp)
    · show (Lit.int .i64 d).wf = true; exact ha _ (by simp)
    · show (Lit.int .i64 e).wf = true; exact ha _ (by simp)
    · show (Lit.int .i64 f).wf = true; exact ha _ (by simp)
theorem wf_cmp (a b : Int) : (Lit.int .i64 (cmpK a b)).wf = true := by
  rcases cmpK_cases a b with ⟨_, h, _⟩ | ⟨_, h, _⟩ | ⟨_, h, _⟩ <;> rw [h] <;> rfl
theorem flipS {P : Program} {f : FuncId} {args : Array Value} {w : World} {v : Value} (h : Calls P f args w fun e w' => e = .returned v ∧ w = w') : Calls P f args w fun e w'' => e = .returned v ∧ w'' = w :=
  h.mono fun _ _ ⟨he, hm⟩ => ⟨he, hm.symm⟩
/-! ### The document's own -/
theorem dys_is {y m : Int} (h1 : 1 ≤ m ∧ m ≤ 12) (h2 : m ≠ 2) : dysN y m = md (m - 1).toNat := by
  unfold dysN
  rw [if_pos h1, if_neg (fun q => h2 q.1)]
theorem RefDays_c (y m : Int) (hw : (Lit.int .i64 y).wf = true) (w : World) : Calls Tryd.prog 61 #[.int .i64 y, .int .i64 m] w fun e w' => e = .returned (.int .i64 (dysN y m : Nat)) ∧ w = w' := by
  by_cases h : 1 ≤ m ∧ m ≤ 12
  · have hcs : m = 2 ∨ (m = 4 ∨ m = 6 ∨ m = 9 ∨ m = 11) ∨ (m = 1 ∨ m = 3 ∨ m = 5 ∨ m = 7 ∨ m = 8 ∨ m = 10 ∨ m = 12) := by omega
    rcases hcs with rfl | (rfl | rfl | rfl | rfl) | (rfl | rfl | rfl | rfl | rfl | rfl | rfl)
    · have hl : Hid (dysN y 2 = if (y.tmod 4 = 0 ∧ ¬ y.tmod 100 = 0) ∨ y.tmod 400 = 0 then 29 else 28) := by
        have e1 := tmod0 y 4
        have e2 := tmod0 y 100
        have e3 := tmod0 y 400
        simp only [Int.cast_ofNat_Int] at e1 e2 e3
        have e4 : longP y ↔ (y.tmod 4 = 0 ∧ ¬ y.tmod 100 = 0) ∨ y.tmod 400 = 0 := by unfold longP; rw [e1, e2, e3]
        unfold Hid dysN
        rw [if_pos h]
        by_cases hL : longP y
        · rw [if_pos ⟨rfl, hL⟩, if_pos (e4.1 hL)]
        · rw [if_neg (fun q => hL q.2), if_neg (fun q => hL (e4.2 q))]; rfl
      clear h
      by_cases h4 : y.tmod 4 = 0 <;> by_cases h1 : y.tmod 100 = 0 <;> by_cases h9 : y.tmod 400 = 0
      all_goals
        have b4 : (y.tmod 4 == 0) = decide (y.tmod 4 = 0) := by rw [Bool.eq_iff_iff, beq_iff_eq, decide_eq_true_eq]
        have b1 : (y.tmod 100 != 0) = decide (¬ y.tmod 100 = 0) := by rw [Bool.eq_iff_iff, bne_iff_ne, decide_eq_true_eq]
        have b9 : (y.tmod 400 == 0) = decide (y.tmod 400 = 0) := by rw [Bool.eq_iff_iff, beq_iff_eq, decide_eq_true_eq]
        simp only [h4, h1, h9, decide_true, decide_false, not_true, not_false_iff] at b4 b1 b9
        go_enter Tryd.func61, Tryd.ntmps61
        go_wp2
        go_ret
        rw [hl.out]
        simp [h4, h1, h9]
    all_goals
      clear h
      go_enter Tryd.func61, Tryd.ntmps61
      go_wp2
      go_ret
      rw [dys_is (by omega) (by omega)]
      exact ⟨rfl, rfl⟩
  · have hd : Hid (dysN y m = 0) := if_neg h
    by_cases h1 : m < 1
    · clear h
      go_enter Tryd.func61, Tryd.ntmps61
      go_wp2
      go_ret
      rw [hd.out]
      exact ⟨rfl, rfl⟩
    · have h2 : 12 < m := by omega
      clear h
      go_enter Tryd.func61, Tryd.ntmps61
      go_wp2
      go_ret
      rw [hd.out]
      exact ⟨rfl, rfl⟩
end Go.Proofs.YtacllgglpjdobaaDoor
