/-
  THE CONTRACT OF LAW 02's OWN EXAMPLES (alive). No conditions.
-/
import Derived.Test.YtpghcclgphjflaaRef5
namespace Go.Proofs.Ytpghcclgphjflaa
open Go.RowKit
set_option linter.unusedVariables false

section
variable {W : World} {g g' : Nat}
theorem own_row {w : World} {base n c : Nat} {e : TypeId} {A : Option Addr} {l m : List F} (h : w.ownsRow base e 1 (.slice A n c) n (cs l)) (hlm : l = m) : n = m.length ∧ Row w A m.length m := by
  subst hlm
  have := own_len h
  subst this
  exact ⟨rfl, Row.of_own h⟩
theorem ex2_thr (h1 : Row W (some ⟨g, 0, none⟩) 2 [0, 1]) (h2 : Row W (some ⟨g', 0, none⟩) 2 [ofN 5, ofN 7]) :
    Calls Try.prog 39 #[.slice (some ⟨g, 0, none⟩) 2 2, .slice (some ⟨g', 0, none⟩) 2 2] W fun e w' => ∃ A' c', e = .returned (.tuple #[.slice A' 2 c', .int .i64 0]) ∧ Row w' A' 2 [ofN 5, 2] ∧ Below W.heap.size W w' := by
  refine (Through_ok _ _ 2 2 2 _ _ W h1 h2 (by decide) (by omega)).mono ?_
  rintro e w' ⟨A', t, c', T, rfl, hT, hth, hb⟩
  have hT2 : T = [ofN 5, 2] := by
    refine hth.unique (by decide) ⟨by decide +kernel, by decide, fun i hi => ?_⟩
    have hi2 : i = 0 ∨ i = 1 := by simp at hi; omega
    rcases hi2 with rfl | rfl <;> decide +kernel
  subst hT2
  have := hT.row.len
  simp at this
  subst this
  exact ⟨A', c', rfl, hT.row, hb⟩
theorem ex2_twice (h1 : Row W (some ⟨g, 0, none⟩) 2 [1, 1]) :
    Calls Try.prog 39 #[.slice (some ⟨g, 0, none⟩) 2 2, .slice (some ⟨g', 0, none⟩) 2 2] W fun e w' => e = .returned (.tuple #[.slice none 0 0, .int .i64 5]) ∧ Below W.heap.size W w' :=
  Through_twice _ _ 2 2 2 _ W h1 (by decide)
theorem div_by {p q u r : List F} (h : tr p = tr (padd (pmul u q) r)) (hl : r.length < (tr q).length) (hu : tr u = u) (hr : tr r = r) : IsDiv p q u r :=
  ⟨fun i => by rw [← gt_tr p, h, gt_tr, gt_padd], hl, hu, hr⟩
theorem ex2_div (h1 : Row W (some ⟨g, 0, none⟩) 3 [1, 0, 1]) (h2 : Row W (some ⟨g', 0, none⟩) 2 [1, 1]) :
    Calls Try.prog 38 #[.slice (some ⟨g, 0, none⟩) 3 3, .slice (some ⟨g', 0, none⟩) 2 2] W fun e w' => ∃ U cu R cr, e = .returned (.tuple #[.slice U 2 cu, .slice R 0 cr, .bool true]) ∧ Row w' U 2 [1, 1] ∧ Below W.heap.size W w' := by
  refine (DivMod_ok _ _ 3 2 3 2 _ _ W ⟨h1, by omega, by unfold maxLen; omega⟩ ⟨h2, by omega, by unfold maxLen; omega⟩ (by omega) (by decide +kernel)).mono ?_
  rintro e w' ⟨U, u, cu, ul, R, r, cr, rl, rfl, hU, hR, hdv, hb⟩
  have h := hdv.unique (div_by (p := [1, 0, 1]) (q := [1, 1]) (u := [1, 1]) (r := []) (by decide +kernel) (by decide +kernel) (by decide +kernel) rfl)
  obtain ⟨rfl, rfl⟩ := h
  have e1 := hU.row.len
  have e2 := hR.row.len
  simp at e1 e2
  subst e1 e2
  exact ⟨U, cu, R, cr, rfl, hU.row, hb⟩
theorem ex2_div0 (h1 : Row W (some ⟨g, 0, none⟩) 1 [1]) (h2 : Row W (some ⟨g', 0, none⟩) 1 [0]) :
    Calls Try.prog 38 #[.slice (some ⟨g, 0, none⟩) 1 1, .slice (some ⟨g', 0, none⟩) 1 1] W fun e w' => e = .returned (.tuple #[.slice none 0 0, .slice none 0 0, .bool false]) ∧ W = w' :=
  DivMod_none _ _ 1 1 1 1 _ _ W ⟨h1, by omega, by unfold maxLen; omega⟩ ⟨h2, by omega, by unfold maxLen; omega⟩ (by decide +kernel)
theorem ex2_deg (h1 : Row W (some ⟨g, 0, none⟩) 3 [1, 2, 0]) :
    Calls Try.prog 31 #[.slice (some ⟨g, 0, none⟩) 3 3] W fun e w' => e = .returned (.int .i64 1) ∧ W = w' := by
  have h := Degree_at _ 3 3 2 _ W h1 (by decide +kernel)
  exact h
theorem ex2_trim (h1 : Row W (some ⟨g, 0, none⟩) 2 [1, 0]) :
    Calls Try.prog 30 #[.slice (some ⟨g, 0, none⟩) 2 2] W fun e w' => ∃ A' c', e = .returned (.slice A' 1 c') ∧ Below W.heap.size W w' := by
  have h := Trim_c _ 2 2 _ W h1 (by omega) (by unfold maxLen; omega) (by omega)
  rw [show tl [1, 0] 2 = 1 by decide +kernel] at h
  refine h.mono ?_
  rintro e w' ⟨A', c', rfl, _, hb⟩
  exact ⟨A', c', rfl, hb⟩
theorem ex2_eval (h1 : Row W (some ⟨g, 0, none⟩) 2 [ofN 5, 2]) :
    Calls Try.prog 36 #[.slice (some ⟨g, 0, none⟩) 2 2, .int .u8 1] W fun e w' => e = .returned (.int .u8 7) ∧ Below W.heap.size W w' := by
  have h := Eval_c _ 2 2 _ 1 W h1
  rw [show (ev [ofN 5, 2] 1).n = 7 by decide +kernel] at h
  refine Calls.mono h ?_
  rintro e w' ⟨rfl, q, rfl⟩
  exact ⟨rfl, below_drewN (Below.refl _ _) _⟩
theorem ex2_add (h1 : Row W (some ⟨g, 0, none⟩) 2 [1, 2]) (h2 : Row W (some ⟨g', 0, none⟩) 2 [ofN 3, 2]) :
    Calls Try.prog 32 #[.slice (some ⟨g, 0, none⟩) 2 2, .slice (some ⟨g', 0, none⟩) 2 2] W fun e w' => ∃ A' c', e = .returned (.slice A' 1 c') ∧ Row w' A' 1 [2] ∧ Below W.heap.size W w' := by
  refine (Add_poly _ _ 2 2 2 2 _ _ W h1 h2 (by omega) (by omega)).mono ?_
  rintro e w' ⟨A', t, c', rfl, hown, hb⟩
  obtain ⟨rfl, hr⟩ := own_row hown (m := [2]) (by decide +kernel)
  exact ⟨A', c', rfl, hr, hb⟩
theorem ex2_mul (h1 : Row W (some ⟨g, 0, none⟩) 2 [1, 1]) (h2 : Row W (some ⟨g', 0, none⟩) 2 [1, 1]) :
    Calls Try.prog 34 #[.slice (some ⟨g, 0, none⟩) 2 2, .slice (some ⟨g', 0, none⟩) 2 2] W fun e w' => ∃ A' c', e = .returned (.slice A' 3 c') ∧ Below W.heap.size W w' := by
  refine (Mul_poly _ _ 2 2 2 2 _ _ W h1 h2 (by omega) (by omega) (by unfold maxLen; omega) (by unfold maxLen; omega) (by omega) (by omega)).mono ?_
  rintro e w' ⟨A', t, c', rfl, hown, hb⟩
  obtain ⟨rfl, hr⟩ := own_row hown (m := [1, 0, 1]) (by decide +kernel)
  exact ⟨A', c', rfl, hb⟩
/-- a row just laid, behind another block -/
theorem lit1 (w : World) (l : List F) (n : Nat) (hn : n = l.length) (hl : l.length ≤ maxLen) (C : Array Value) (hC : C = (cs l).toArray) (t : TypeId) (o : Obj) : Row ((w.alloc (.cells C t)).alloc o) (some ⟨w.heap.size, 0, none⟩) n l := (row_lit w l n _ hn rfl hl C hC t).alloc o
theorem lit2 (w : World) (l : List F) (n : Nat) (hn : n = l.length) (hl : l.length ≤ maxLen) (C : Array Value) (hC : C = (cs l).toArray) (t : TypeId) (o : Obj) : Row ((w.alloc o).alloc (.cells C t)) (some ⟨w.heap.size + 1, 0, none⟩) n l := row_lit (w.alloc o) l n _ hn (by simp) hl C hC t
theorem bel1 (w : World) (o : Obj) : Below w.heap.size w (w.alloc o) := (Below.refl _ _).alloc (Nat.le_refl _) _
theorem bel2 (w : World) (o o' : Obj) : Below w.heap.size w ((w.alloc o).alloc o') := (bel1 w o).alloc (by simp) _
end
set_option maxHeartbeats 2000000 in
set_option maxRecDepth 100000 in
theorem alive02_c (w : World) : Calls Try.prog 27 #[] w fun e w' => e = .returned (.bool true) ∧ Below w.heap.size w w' := by
  have ml : ∀ {l : List F}, l.length ≤ 3 → l.length ≤ maxLen := fun h => by unfold maxLen; omega
  go_enter Try.func27, Try.ntmps27
  go_wp2_with fail
  refine (ex2_thr (lit1 w [0, 1] 2 rfl (ml (by simp)) _ rfl _ _) (lit2 w [ofN 5, ofN 7] 2 rfl (ml (by simp)) _ rfl _ _)).mono ?_
  rintro e w1 ⟨A1, c1, rfl, hr1, hb1⟩
  have hB1 := (bel2 w _ _).trans (hb1.mono (bel2 w _ _).size)
  clear hb1
  go_wp2_with fail
  refine (ex2_twice (lit1 w1 [1, 1] 2 rfl (ml (by simp)) _ rfl _ _)).mono ?_
  rintro e w2 ⟨rfl, hb2⟩
  have hB2' := (bel2 w1 _ _).trans (hb2.mono (bel2 w1 _ _).size)
  have hr2 := hr1.below hB2'
  have hB2 := hB1.trans (hB2'.mono hB1.size)
  clear hb2 hB2' hr1 hB1
  go_wp2_with fail
  refine (Through_arg _ _ 1 0 1 0 _ (by omega) (by omega) (by omega)).mono ?_
  rintro e w3 ⟨rfl, rfl⟩
  go_wp2_with fail
  refine (ex2_div ((row_lit _ [1, 0, 1] 3 _ rfl (by simp) (ml (by simp)) _ rfl _).alloc _) (row_lit _ [1, 1] 2 _ rfl (by simp) (ml (by simp)) _ rfl _)).mono ?_
  rintro e w4 ⟨U, cu, R, cr, rfl, hU, hb4⟩
  have hb3 := (bel2 w2 (.cells (cs [1]).toArray 5) (.cells (cs [1, 0, 1]).toArray 5)).alloc (by simp; omega) (.cells (cs [1, 1]).toArray 5)
  have hB4' : Below w2.heap.size w2 w4 := hb3.trans (Below.mono hb4 (by simp; omega))
  have hr4 := hr2.below hB4'
  have hB4 := hB2.trans (hB4'.mono hB2.size)
  clear hb4 hB4' hr2 hB2 hb3
  have hr5 := (hr4.alloc (.cells (cs [1]).toArray 5)).alloc (.cells (cs [0]).toArray 5)
  have hU5 := (hU.alloc (.cells (cs [1]).toArray 5)).alloc (.cells (cs [0]).toArray 5)
  have hv1 := run_row_string c1 hr5
  have hv2 := run_row_string cu hU5
  have hB5 := (hB4.alloc hB4.size (.cells (cs [1]).toArray 5)).alloc (by have := hB4.size; simp; omega) (.cells (cs [0]).toArray 5)
  clear hr4 hU hB4 hr5 hU5
  go_wp2_with fail
  refine (ex2_div0 (lit1 w4 [1] 1 rfl (ml (by simp)) _ rfl _ _) (lit2 w4 [0] 1 rfl (ml (by simp)) _ rfl _ _)).mono ?_
  rintro e w5 ⟨rfl, rfl⟩
  have e1 : ((strB [ofN 5, 2]).toList == [5, 2]) = true := by decide +kernel
  have e2 : ((strB [1, 1]).toList == [1, 1]) = true := by decide +kernel
  have e3 : ((strB [2]).toList == [2]) = true := by decide +kernel
  generalize (w4.alloc (.cells (cs [1]).toArray 5)).alloc (.cells (cs [0]).toArray 5) = W5 at *
  go_wp2_with fail
  refine (ex2_deg (row_lit W5 [1, 2, 0] 3 _ rfl rfl (ml (by simp)) _ rfl _)).mono ?_
  rintro e w6 ⟨rfl, rfl⟩
  have hB6 := hB5.alloc hB5.size (.cells (cs [1, 2, 0]).toArray 5)
  clear hv1 hv2 hB5
  generalize W5.alloc (.cells (cs [1, 2, 0]).toArray 5) = W6 at *
  go_wp2_with fail
  refine (ex2_trim (row_lit W6 [1, 0] 2 _ rfl rfl (ml (by simp)) _ rfl _)).mono ?_
  rintro e W7 ⟨A7, c7, rfl, hb7⟩
  have hB7 := (hB6.alloc hB6.size _).trans (hb7.mono (hB6.alloc hB6.size _).size)
  clear hB6 hb7
  go_wp2_with fail
  refine (ex2_eval (row_lit W7 [ofN 5, 2] 2 _ rfl rfl (ml (by simp)) _ rfl _)).mono ?_
  rintro e W8 ⟨rfl, hb8⟩
  have hB8 := (hB7.alloc hB7.size _).trans (hb8.mono (hB7.alloc hB7.size _).size)
  clear hB7 hb8
  go_wp2_with fail
  refine (ex2_add (lit1 W8 [1, 2] 2 rfl (ml (by simp)) _ rfl _ _) (lit2 W8 [ofN 3, 2] 2 rfl (ml (by simp)) _ rfl _ _)).mono ?_
  rintro e W9 ⟨A9, c9, rfl, hr9, hb9⟩
  have hv3 := run_row_string c9 hr9
  have hB9 := hB8.trans (((bel2 W8 _ _).trans (hb9.mono (bel2 W8 _ _).size)).mono hB8.size)
  clear hB8 hb9 hr9
  go_wp2_with fail
  refine (ex2_mul (lit1 W9 [1, 1] 2 rfl (ml (by simp)) _ rfl _ _) (lit2 W9 [1, 1] 2 rfl (ml (by simp)) _ rfl _ _)).mono ?_
  rintro e W10 ⟨A10, c10, rfl, hb10⟩
  have hB10 := hB9.trans (((bel2 W9 _ _).trans (hb10.mono (bel2 W9 _ _).size)).mono hB9.size)
  clear hB9 hb10 hv3
  go_wp2
  go_ret
  exact ⟨rfl, hB10⟩
end Go.Proofs.Ytpghcclgphjflaa
