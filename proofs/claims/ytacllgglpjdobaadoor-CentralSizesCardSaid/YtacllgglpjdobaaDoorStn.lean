/-
  STAMPS: Check, Pack, Unpack. No conditions (but that the table lies as the program's text lays it).
-/
import Derived.Test.YtacllgglpjdobaaDoorStm
namespace Go.Proofs.YtacllgglpjdobaaDoor
open Go.RowKit
set_option maxRecDepth 100000
set_option linter.unusedVariables false

/-- what Check answers -/
def chkS (t : St) : Int := if okP t then 0 else 41
def evB (s : Int) : Bool := s.tmod 2 == 0
theorem okP_eq (t : St) : okP t ↔ (inB t.y 1980 2107 = true ∧ inB t.d 1 (dysN t.y t.mo) = true) ∧ ((inB t.h 0 23 = true ∧ inB t.mi 0 59 = true) ∧ inB t.s 0 58 = true) ∧ evB t.s = true := by
  have e := tmod0 t.s 2
  simp only [Int.cast_ofNat_Int] at e
  unfold okP inB evB
  rw [decide_eq_true_eq, decide_eq_true_eq, decide_eq_true_eq, decide_eq_true_eq, decide_eq_true_eq, beq_iff_eq, e]
  omega
set_option maxHeartbeats 4000000 in
theorem CheckS_c (t : St) (hy : (Lit.int .i64 t.y).wf = true) (w : World) (ht : TabM w) : Calls Tryd.prog 37 #[stV t] w fun e w' => e = .returned (.int .i64 (chkS t)) ∧ Below w.heap.size w w' := by
  have hk := okP_eq t
  obtain ⟨y, mo, d, h, mi, s⟩ := t
  unfold stV
  dsimp only at hk hy ⊢
  have hc : Hid (chkS ⟨y, mo, d, h, mi, s⟩ = if (inB y 1980 2107 = true ∧ inB d 1 (dysN y mo) = true) ∧ ((inB h 0 23 = true ∧ inB mi 0 59 = true) ∧ inB s 0 58 = true) ∧ evB s = true then 0 else 41) := by
    unfold Hid chkS
    by_cases h9 : okP ⟨y, mo, d, h, mi, s⟩
    · rw [if_pos h9, if_pos (hk.1 h9)]
    · rw [if_neg h9, if_neg (fun q => h9 (hk.2 q))]
  have he : evB s = (s.tmod 2 == 0) := rfl
  have HD := Lib.hid (fun W hW => Days_c y mo hy W hW)
  have HT := Lib.hid (ht.alloc (.cells #[.int .i64 y, .int .i64 mo, .int .i64 d, .int .i64 h, .int .i64 mi, .int .i64 s] 23))
  clear hk ht
  generalize hx1 : inB y 1980 2107 = x1 at *
  generalize hx3 : inB h 0 23 = x3 at *
  generalize hx4 : inB mi 0 59 = x4 at *
  generalize hx5 : inB s 0 58 = x5 at *
  generalize hN : dysN y mo = N at *
  generalize hx2 : inB d 1 N = x2 at *
  have C1 := Lib.hid (fun W => isWithin_c y 1980 2107 W)
  have C2 := Lib.hid (fun W => isWithin_c d 1 N W)
  have C3 := Lib.hid (fun W => isWithin_c h 0 23 W)
  have C4 := Lib.hid (fun W => isWithin_c mi 0 59 W)
  have C5 := Lib.hid (fun W => isWithin_c s 0 58 W)
  rw [hx1] at C1
  rw [hx2] at C2
  rw [hx3] at C3
  rw [hx4] at C4
  rw [hx5] at C5
  clear hx1 hx2 hx3 hx4 hx5 hN
  generalize hx6 : evB s = x6 at *
  have he' : (s.tmod 2 == 0) = x6 := he.symm
  clear he hx6
  have HB := Lib.hid ((Below.refl w.heap.size w).alloc (Nat.le_refl _) (.cells #[.int .i64 y, .int .i64 mo, .int .i64 d, .int .i64 h, .int .i64 mi, .int .i64 s] 23))
  have hD : x1 = false ∨ (x1 = true ∧ x2 = false) ∨ (x1 = true ∧ x2 = true) := by cases x1 <;> cases x2 <;> simp
  have hT : x3 = false ∨ (x3 = true ∧ x4 = false) ∨ (x3 = true ∧ x4 = true ∧ x5 = false) ∨ (x3 = true ∧ x4 = true ∧ x5 = true ∧ x6 = false) ∨ (x3 = true ∧ x4 = true ∧ x5 = true ∧ x6 = true) := by
    cases x3 <;> cases x4 <;> cases x5 <;> cases x6 <;> simp
  rcases hD with rfl | ⟨rfl, rfl⟩ | ⟨rfl, rfl⟩ <;> rcases hT with rfl | ⟨rfl, rfl⟩ | ⟨rfl, rfl, rfl⟩ | ⟨rfl, rfl, rfl, rfl⟩ | ⟨rfl, rfl, rfl, rfl⟩
  all_goals
    go_enter Tryd.func37, Tryd.ntmps37
    go_wp2
    go_quiet ((first
      | (with_reducible exact quiet_left (C1.out _))
      | (with_reducible exact quiet_left (C2.out _))
      | (with_reducible exact quiet_left (HD.out _ (HT.out.drewN _)))))
    go_wp2_with (first
      | ((with_reducible refine (C3.out _).mono ?_); rintro e _ ⟨rfl, rfl⟩)
      | ((with_reducible refine (C4.out _).mono ?_); rintro e _ ⟨rfl, rfl⟩)
      | ((with_reducible refine (C5.out _).mono ?_); rintro e _ ⟨rfl, rfl⟩))
    go_ret
    refine ⟨?_, below_drewN HB.out _⟩
    rw [hc.out]
    simp
end Go.Proofs.YtacllgglpjdobaaDoor
