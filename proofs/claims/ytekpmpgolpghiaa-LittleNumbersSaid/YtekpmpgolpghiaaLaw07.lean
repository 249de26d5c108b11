/-
  THE CONTRACT OF LAW 07's OWN EXAMPLES (alive). No conditions.
-/
import Derived.Test.YtekpmpgolpghiaaLitC
namespace Go.Proofs.Ytekpmpgolpghiaa
open Go.RowKit
set_option maxRecDepth 100000
set_option linter.unusedVariables false

section
variable {w : World}
theorem ex7_put : Calls Try.prog 11 #[.int .u64 258, .int .i64 2] w fun e w' => ∃ g, e = .returned (.slice (some ⟨g, 0, none⟩) 2 2) ∧ Row w' (some ⟨g, 0, none⟩) 2 [ofN 2, ofN 1] ∧ Below w.heap.size w w' := by
  have h := Put_c 258 (by decide) 2 w
  rw [show heldN 2 8 = 2 by decide] at h
  refine h.mono ?_
  rintro e w' ⟨g, rfl, hown, hb⟩
  exact ⟨g, rfl, own_r hown (by decide +kernel), hb⟩
theorem ex7_get {g : Nat} (h1 : Row w (some ⟨g, 0, none⟩) 2 [ofN 2, ofN 1]) : Calls Try.prog 15 #[.slice (some ⟨g, 0, none⟩) 2 2] w fun e w' => e = .returned (.int .u64 258) ∧ w = w' := by
  refine (Get_c _ 2 2 _ w h1).mono ?_
  rintro e w' ⟨rfl, rfl⟩
  exact ⟨ret_u64 (by decide +kernel), rfl⟩
theorem ex7_fits : Calls Try.prog 16 #[.int .u64 255, .int .i64 1] w fun e w' => e = .returned (.bool true) ∧ w = w' := Fits_c 255 (by decide) 1 w
theorem ex7_fitsnt : Calls Try.prog 16 #[.int .u64 256, .int .i64 1] w fun e w' => e = .returned (.bool false) ∧ w = w' := Fits_c 256 (by decide) 1 w
theorem ex7_num {p c : Nat} {A : Option Addr} (h : Rdr w p A 4 c [ofN 2, ofN 1, ofN 9, ofN 8] 0 false) :
    Calls Try.prog 19 #[.pointer (some ⟨p, 0, none⟩), .int .i64 2] w fun e w' => e = .returned (.int .u64 258) ∧ Rdr w' p A 4 c [ofN 2, ofN 1, ofN 9, ofN 8] 2 false ∧ Out p (p + 1) w w' := by
  have hh := Num_ok h 2 (by decide)
  rw [show heldN 2 8 = 2 by decide] at hh
  refine hh.mono ?_
  rintro e w' ⟨rfl, hR, hO⟩
  exact ⟨ret_u64 (by decide +kernel), hR, hO⟩
end
set_option maxHeartbeats 4000000 in
theorem alive07_c (w : World) : Calls Try.prog 10 #[] w fun e w' => e = .returned (.bool true) ∧ Below w.heap.size w w' := by
  have e1 : ((strB [ofN 2, ofN 1]).toList == [2, 1]) = true := by decide +kernel
  go_enter Try.func10, Try.ntmps10
  go_wp2_with fail
  refine (Read_c _ 4 4 [ofN 2, ofN 1, ofN 9, ofN 8] _ (row_lit w [ofN 2, ofN 1, ofN 9, ofN 8] 4 _ rfl rfl (by unfold maxLen; simp) _ rfl _) (by omega)).mono ?_
  rintro e w1 ⟨p, A, c, rfl, hR1, hp, hb1⟩
  have hB1 : Below w.heap.size w w1 := ((Below.refl _ _).alloc (Nat.le_refl _) _).trans (hb1.mono (by simp))
  replace hp : w.heap.size ≤ p := by simp at hp; omega
  clear hb1
  go_wp2_with fail
  refine (ex7_num hR1).mono ?_
  rintro e w2 ⟨rfl, hR2, hO2⟩
  have hB2 := hB1.trans (hO2.lowAt hp hR1.lt)
  go_wp2_with fail
  refine (Left_c hR2).mono ?_
  rintro e w3 ⟨rfl, q3, rfl⟩
  have hR3 := hR2.drewN q3
  have hB3 := below_drewN hB2 q3
  generalize w2.drewN q3 = w3 at *
  go_wp2_with fail
  refine (Bytes_no hR3 3 (.inr (by omega))).mono ?_
  rintro e w4 ⟨A4, c4, rfl, hown4, hR4, hO4⟩
  have hB4 := hB3.trans (hO4.lowAt hp hR3.lt)
  go_wp2_with fail
  refine (ex7_put).mono ?_
  rintro e w5 ⟨g5, rfl, hr5, hb5⟩
  have hR5 := hR4.below hb5
  have hB5 := hB4.trans (hb5.mono hB4.size)
  have hc5 := run_row_string 2 hr5
  clear hR1 hR2 hR3 hR4 hB1 hB2 hB3 hB4 hO2 hO4 hown4 hb5
  go_wp2_with fail
  have hr6 : Row (w5.alloc (.cells #[.int .u8 2, .int .u8 1] 5)) (some ⟨w5.heap.size, 0, none⟩) 2 [ofN 2, ofN 1] := row_lit w5 [ofN 2, ofN 1] 2 _ rfl rfl (by unfold maxLen; simp) _ rfl _
  have hR6 := hR5.below ((Below.refl _ w5).alloc (Nat.le_refl _) (.cells #[.int .u8 2, .int .u8 1] 5))
  have hB6 := hB5.alloc hB5.size (.cells #[.int .u8 2, .int .u8 1] 5)
  clear hR5 hB5 hr5 hc5
  generalize w5.alloc (.cells #[.int .u8 2, .int .u8 1] 5) = w6 at *
  refine (ex7_get hr6).mono ?_
  rintro e _ ⟨rfl, rfl⟩
  clear hr6
  go_wp2_with (first
    | (go_at_call 16; refine (ex7_fits).mono ?_; rintro e _ ⟨rfl, rfl⟩)
    | (go_at_call 16; refine (ex7_fitsnt).mono ?_; rintro e _ ⟨rfl, rfl⟩)
    | (go_at_call 22; refine (Short_c hR6).mono ?_; rintro e _ ⟨rfl, rfl⟩)
    | (go_at_call 21; refine (At_c hR6).mono ?_; rintro e _ ⟨rfl, rfl⟩)
    | (go_at_call 23; refine (Rest_no hR6).mono ?_; rintro e w7 ⟨A7, c7, rfl, hown7, hR7, hO7⟩))
  go_ret
  exact ⟨rfl, hB6.trans (hO7.lowAt hp hR6.lt)⟩
end Go.Proofs.Ytekpmpgolpghiaa
