/-
  THE CONTRACT OF LAW 04's OWN EXAMPLES (alive). No conditions.
-/
import Derived.Test.YtciljflnhleocaaSys5
namespace Go.Proofs.Ytciljflnhleocaa
open Go.RowKit
set_option maxRecDepth 100000
set_option linter.unusedVariables false

theorem Row.in_ {w : World} {g n : Nat} {l : List F} (h : Row w (some ⟨g, 0, none⟩) n l) : RowIn w (some ⟨g, 0, none⟩) n n l := ⟨h, Nat.le_refl _, h.2.1⟩
theorem T57 {T : List F} (h : Tells 2 [ofN 5, ofN 7] T) : T = [ofN 5, ofN 2] :=
  h.unique (by omega) ⟨by decide +kernel, by decide +kernel, fun i hi => by
    rw [mkF_length] at hi
    rcases (show i = 0 ∨ i = 1 by omega) with rfl | rfl <;> decide +kernel⟩
section
variable {W : World} {g : Nat}
theorem ex4_enc (h1 : Row W (some ⟨g, 0, none⟩) 2 [ofN 5, ofN 7]) :
    Calls Try.prog 25 #[.slice (some ⟨g, 0, none⟩) 2 2, .int .i64 1] W fun e w' => ∃ g', e = .returned (.tuple #[.slice (some ⟨g', 0, none⟩) 1 1, .int .i64 0]) ∧ Row w' (some ⟨g', 0, none⟩) 1 [1] ∧ Below W.heap.size W w' := by
  refine (Encode_ok _ 2 2 1 _ W h1.in_ (by omega) (by omega)).mono ?_
  rintro e w' ⟨g', T, rfl, hown, ht, hb⟩
  have e := T57 ht
  subst e
  exact ⟨g', rfl, own_r hown (by decide +kernel), hb⟩
theorem ex4_at (h1 : Row W (some ⟨g, 0, none⟩) 2 [ofN 5, ofN 7]) :
    Calls Try.prog 31 #[.slice (some ⟨g, 0, none⟩) 2 2, .int .i64 2, .int .i64 2] W fun e w' => e = .returned (.tuple #[.int .u8 1, .bool true]) ∧ Below W.heap.size W w' := by
  refine (At_ok _ 2 2 2 2 _ W h1.in_ (by omega) (by omega) (by omega) (by omega)).mono ?_
  rintro e w' ⟨T, rfl, ht, hb⟩
  have e := T57 ht
  subst e
  refine ⟨?_, hb⟩
  rw [show (ev [ofN 5, ofN 2] (plI 2)).n = 1 by decide +kernel]
  rfl
theorem ex4_is (h1 : Row W (some ⟨g, 0, none⟩) 3 [ofN 5, ofN 7, 1]) :
    Calls Try.prog 32 #[.slice (some ⟨g, 0, none⟩) 3 3, .int .i64 2] W fun e w' => e = .returned (.bool true) ∧ Below W.heap.size W w' := by
  refine (Is_yes _ 3 3 2 _ W h1.in_ (by omega) (by omega) (by omega)).mono ?_
  rintro e w' ⟨T, rfl, ht, hb⟩
  have e := T57 ht
  subst e
  exact ⟨ret_bool (by decide +kernel), hb⟩
theorem ex4_isnt (h1 : Row W (some ⟨g, 0, none⟩) 3 [ofN 5, ofN 7, ofN 2]) :
    Calls Try.prog 32 #[.slice (some ⟨g, 0, none⟩) 3 3, .int .i64 2] W fun e w' => e = .returned (.bool false) ∧ Below W.heap.size W w' := by
  refine (Is_yes _ 3 3 2 _ W h1.in_ (by omega) (by omega) (by omega)).mono ?_
  rintro e w' ⟨T, rfl, ht, hb⟩
  have e := T57 ht
  subst e
  exact ⟨ret_bool (by decide +kernel), hb⟩
theorem brow_lit (w : World) (l : List Bool) (n g : Nat) (hn : n = l.length) (hg : g = w.heap.size) (hl : l.length ≤ maxLen) (C : Array Value) (hC : C = (l.map Value.bool).toArray) (t : TypeId) : BRow (w.alloc (.cells C t)) (some ⟨g, 0, none⟩) n l := by
  subst hn hg hC
  refine ⟨rfl, hl, fun _ => ⟨w.heap.size, 0, rfl, by simp, fun i hi => ?_⟩⟩
  have h := heap_alloc_new w (.cells (l.map Value.bool).toArray t)
  rw [Nat.zero_add, cell_of_row _ _ i _ t (0, 0) h]
  simp [gb, hi]
theorem ex4_fill {g' : Nat} (h1 : Row W (some ⟨g, 0, none⟩) 3 [0, ofN 7, 1]) (h2 : BRow W (some ⟨g', 0, none⟩) 3 [false, true, true]) :
    Calls Try.prog 28 #[.slice (some ⟨g, 0, none⟩) 3 3, .slice (some ⟨g', 0, none⟩) 3 3, .int .i64 2] W fun e w' => ∃ g2, e = .returned (.tuple #[.slice (some ⟨g2, 0, none⟩) 3 3, .int .i64 0]) ∧ Row w' (some ⟨g2, 0, none⟩) 3 [ofN 5, ofN 7, 1] ∧ Below W.heap.size W w' := by
  refine (Fill_ok _ _ 3 3 3 2 _ _ W h1 h2 (by omega) (by omega) (by omega) (by decide +kernel)).mono ?_
  rintro e w' ⟨g', T, rfl, hown, ht, hb⟩
  have e : T = [ofN 5, ofN 2] := ht.unique (thX_nodup _ _ _ (by omega)) ⟨by decide +kernel, by decide +kernel, fun i hi => by
    rw [thX_length] at hi
    have hi2 : i < 2 := hi
    rcases (show i = 0 ∨ i = 1 by omega) with rfl | rfl <;> decide +kernel⟩
  subst e
  exact ⟨g', rfl, own_r hown (by decide +kernel), hb⟩
theorem ex4_lost {g' : Nat} (h1 : Row W (some ⟨g, 0, none⟩) 3 [0, ofN 7, 1]) (h2 : BRow W (some ⟨g', 0, none⟩) 3 [false, true, false]) :
    Calls Try.prog 28 #[.slice (some ⟨g, 0, none⟩) 3 3, .slice (some ⟨g', 0, none⟩) 3 3, .int .i64 2] W fun e w' => e = .returned (.tuple #[.slice none 0 0, .int .i64 52]) ∧ Below W.heap.size W w' :=
  Fill_lost _ _ 3 3 3 2 _ _ W h1 h2 (by omega) (by omega) (by omega) (by decide +kernel)
end
set_option maxHeartbeats 4000000 in
set_option maxRecDepth 100000 in
theorem alive04_c (w : World) : Calls Try.prog 24 #[] w fun e w' => e = .returned (.bool true) ∧ Below w.heap.size w w' := by
  have e1 : ((strB [(1 : F)]).toList == [1]) = true := by decide +kernel
  have e2 : ((strB [ofN 5, ofN 7, 1]).toList == [5, 7, 1]) = true := by decide +kernel
  go_enter Try.func24, Try.ntmps24
  go_wp2_with fail
  refine (ex4_enc (row_lit w [ofN 5, ofN 7] 2 _ rfl rfl (by unfold maxLen; simp) _ rfl _)).mono ?_
  rintro e w1 ⟨g1, rfl, hr1, hb1⟩
  have hB1 : Below w.heap.size w w1 := ((Below.refl _ _).alloc (Nat.le_refl _) _).trans (hb1.mono (by simp))
  clear hb1
  go_wp2_with fail
  refine (Encode_arg none 0 0 1 w1 (.inl rfl) (by omega)).mono ?_
  rintro e _ ⟨rfl, rfl⟩
  go_wp2_with fail
  refine (Encode_many _ 1 1 255 _ (by omega) (by omega) (by omega) (by omega)).mono ?_
  rintro e _ ⟨rfl, rfl⟩
  have hr2 := hr1.alloc (.cells #[.int .u8 1] 5)
  have hB2 := hB1.alloc hB1.size (.cells #[.int .u8 1] 5)
  clear hr1 hB1
  generalize w1.alloc (.cells #[.int .u8 1] 5) = w2 at *
  go_wp2_with fail
  have hrA : Row ((w2.alloc (.cells #[.int .u8 0, .int .u8 7, .int .u8 1] 5)).alloc (.cells #[.bool false, .bool true, .bool true] 4)) (some ⟨w2.heap.size, 0, none⟩) 3 [0, ofN 7, 1] := (row_lit w2 [0, ofN 7, 1] 3 _ rfl rfl (by unfold maxLen; simp) _ rfl _).alloc _
  have hrB : BRow ((w2.alloc (.cells #[.int .u8 0, .int .u8 7, .int .u8 1] 5)).alloc (.cells #[.bool false, .bool true, .bool true] 4)) (some ⟨w2.heap.size + 1, 0, none⟩) 3 [false, true, true] := brow_lit _ [false, true, true] 3 _ rfl (by simp) (by unfold maxLen; simp) _ rfl _
  have hr3 := (hr2.alloc (.cells #[.int .u8 0, .int .u8 7, .int .u8 1] 5)).alloc (.cells #[.bool false, .bool true, .bool true] 4)
  have hB3 := (hB2.alloc hB2.size (.cells #[.int .u8 0, .int .u8 7, .int .u8 1] 5)).alloc (by have := hB2.size; simp; omega) (.cells #[.bool false, .bool true, .bool true] 4)
  clear hr2 hB2
  generalize ((w2.alloc (.cells #[.int .u8 0, .int .u8 7, .int .u8 1] 5)).alloc (.cells #[.bool false, .bool true, .bool true] 4)) = w3 at *
  refine (ex4_fill hrA hrB).mono ?_
  rintro e w4 ⟨g4, rfl, hw4, hb4⟩
  have hr4 := hr3.below hb4
  have hB4 := hB3.trans (hb4.mono hB3.size)
  clear hrA hrB hr3 hB3 hb4
  go_wp2_with fail
  have hrA : Row ((w4.alloc (.cells #[.int .u8 0, .int .u8 7, .int .u8 1] 5)).alloc (.cells #[.bool false, .bool true, .bool false] 4)) (some ⟨w4.heap.size, 0, none⟩) 3 [0, ofN 7, 1] := (row_lit w4 [0, ofN 7, 1] 3 _ rfl rfl (by unfold maxLen; simp) _ rfl _).alloc _
  have hrB : BRow ((w4.alloc (.cells #[.int .u8 0, .int .u8 7, .int .u8 1] 5)).alloc (.cells #[.bool false, .bool true, .bool false] 4)) (some ⟨w4.heap.size + 1, 0, none⟩) 3 [false, true, false] := brow_lit _ [false, true, false] 3 _ rfl (by simp) (by unfold maxLen; simp) _ rfl _
  have hr5 := (hr4.alloc (.cells #[.int .u8 0, .int .u8 7, .int .u8 1] 5)).alloc (.cells #[.bool false, .bool true, .bool false] 4)
  have hw5 := (hw4.alloc (.cells #[.int .u8 0, .int .u8 7, .int .u8 1] 5)).alloc (.cells #[.bool false, .bool true, .bool false] 4)
  have hB5 := (hB4.alloc hB4.size (.cells #[.int .u8 0, .int .u8 7, .int .u8 1] 5)).alloc (by have := hB4.size; simp; omega) (.cells #[.bool false, .bool true, .bool false] 4)
  clear hr4 hB4 hw4
  generalize ((w4.alloc (.cells #[.int .u8 0, .int .u8 7, .int .u8 1] 5)).alloc (.cells #[.bool false, .bool true, .bool false] 4)) = w5 at *
  refine (ex4_lost hrA hrB).mono ?_
  rintro e w6 ⟨rfl, hb6⟩
  have hr6 := hr5.below hb6
  have hw6 := hw5.below hb6
  have hB6 := hB5.trans (hb6.mono hB5.size)
  clear hrA hrB hr5 hB5 hb6 hw5
  go_wp2_with fail
  have hrA : Row (w6.alloc (.cells #[.int .u8 5, .int .u8 7] 5)) (some ⟨w6.heap.size, 0, none⟩) 2 [ofN 5, ofN 7] := row_lit w6 [ofN 5, ofN 7] 2 _ rfl rfl (by unfold maxLen; simp) _ rfl _
  have hr7 := hr6.alloc (.cells #[.int .u8 5, .int .u8 7] 5)
  have hw7 := hw6.alloc (.cells #[.int .u8 5, .int .u8 7] 5)
  have hB7 := hB6.alloc hB6.size (.cells #[.int .u8 5, .int .u8 7] 5)
  clear hr6 hB6 hw6
  generalize (w6.alloc (.cells #[.int .u8 5, .int .u8 7] 5)) = w7 at *
  refine (ex4_at hrA).mono ?_
  rintro e w8 ⟨rfl, hb8⟩
  have hr8 := hr7.below hb8
  have hw8 := hw7.below hb8
  have hB8 := hB7.trans (hb8.mono hB7.size)
  have hc1 := run_row_string 1 hr8
  have hc2 := run_row_string 3 hw8
  clear hrA hr7 hB7 hb8 hw7
  go_wp2_with fail
  refine (ex4_is hw8).mono ?_
  rintro e w9 ⟨rfl, hb9⟩
  have hB9 := hB8.trans (hb9.mono hB8.size)
  clear hr8 hw8 hB8 hb9 hc1 hc2
  go_wp2_with fail
  refine (ex4_isnt (row_lit w9 [ofN 5, ofN 7, ofN 2] 3 _ rfl rfl (by unfold maxLen; simp) _ rfl _)).mono ?_
  rintro e w10 ⟨rfl, hb10⟩
  go_wp2
  go_ret
  exact ⟨rfl, (hB9.alloc hB9.size _).trans (hb10.mono (by have := hB9.size; simp; omega))⟩
end Go.Proofs.Ytciljflnhleocaa
